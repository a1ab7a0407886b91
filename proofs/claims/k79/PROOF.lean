import PyProof.Rows.All
import Wide.All
import OpenK.AllK
import Wide.FinOn
import Lean
import PyProof.EqAt
import PyProof.EqKinds
import PyProof.TupleCall
import PySem.Challenge.RW_pacehall_k79_loops_refused
set_option Elab.async false
set_option linter.all false
set_option maxRecDepth 100000
set_option compiler.extract_closed false
set_option compiler.reuse false
set_option compiler.small 0
set_option maxHeartbeats 0
open List (mem_cons_self mem_cons_of_mem mem_append_left drop_zero mem_append_right length_cons map_cons length_map append_nil of_mem_zip length_take getElem?_append_right getElem?_append_left getElem?_map mem_of_getElem? length_append length_replicate map_nil length_drop size_toArray length_set any_cons replicate_succ foldl_cons length_singleton length_reverse find?_cons length_nil getElem_mem getElem?_eq_getElem forIn_cons lookup_cons getElem?_eq_none mem_cons not_mem_nil take_length all_eq_true forIn_nil nodup_cons nodup_nil length_zip length_range take_add_one mem_of_mem_take zipWith_cons_cons sum_cons foldl_append map_map map_append map_reverse map_take)
open PySem renaming wpAny_bind->My,wpAny_pure->VC,wpAny_field->VV,wpAny_seqItems->V2,wpAny_callSpecial?_slot->Wb,wpAny_holding->Wh,wpAny_setField_rec->Wm,wpAny_call_entry->Wu,wpAny_attempt->WR,wpAny_Call_Name_kw->W3,wpAny_setField->W9,wpAny_letGo->Xe,wpAny_isInstance->Xg,wpAny_onRaise->Xh,codeAny_mono->Xi,wpAny_updateSeq->Xp,wpAny_truthy_bool->Xq,wpAny_rule->Xr,wpAny_mono->Xx,wpAny_specialOf->XC,wpAny_passesOwn->XD,wpAny_standAt->XH,wpAny_loadPart_at->XI,mem_of_lookup->XJ,codeAny_call_builtin->XR,isSubtype_stop->XT,wpAny_call->X7,codeAny_builtin->Ye,wpAny_pyIter_list->Yh,wpAny_newObj_type->Yi,plainObj_wpAny_Assign_Attribute->Yj,wpAny_pyIter_zip->Yo,plainId_quiet->Ys,wpAny_execs_nil->Yx,slot_listiter_next->YB,wpAny_tryCatch->YH,call_meets->Y8,wpAny_updateSeq_pair->Y9,wpAny_loadPart->Zi,wpAny_comprehension_free->Zj,sizeLine_eq->Zo,tupleKind_room_in1->Zw,Addr->Z,Value->O,Shared->À,FuncData->Â,mainGlobals->Ã,wpAny->Ä,sizeLine->Å,Str->Ç,model->É,Program->Ë,Heap->Í,Around->Î,World->Ï,Expr->Ò
open PySem.Heap renaming get?_push_of_some->Vz,lt_size->VE,get?_push_size->VG,get?_update_self->VZ,get?_update_other->V4,size_push->V9,get?_none_of_le->WS,size_update->YV
open List renaming getElem?_eq_getElem->VA,getElem?_eq_some_iff->VB,length_map->VD,mem_cons_of_mem->VI,not_mem_nil->VM,length_append->VN,mem_singleton->VO,mem_cons_self->VP,getElem?_map->VS,mem_map->VT,mem_cons->VU,size_toArray->V3,length_range->V5,mem_of_getElem?->V8,length_cons->Wc,mem_append->Wf,length_take->Wi,getElem?_append_right->Wj,getElem?_append_left->Wq,map_cons->Wr,map_append->Ws,mem_append_right->Wt,map_map->WC,length_singleton->WD,eq_nil_of_length_eq_zero->WH,take_length->WN,mem_range->WO,getElem?_eq_none->WT,take_add_one->WZ,all_eq_true->W4,take_of_length_le->W6,length_reverse->W7,zipWith_cons_cons->W8,nodup_cons->Xa,mem_append_left->Xc,lookup_cons->Xd,length_zip->Xf,length_drop->Xl,getElem_mem->Xm,mem_of_mem_take->Xo,length_replicate->Xu,replicate_succ->Xv,of_mem_zip->Xw,getD_eq_getElem?_getD->Xz,exists_cons_of_ne_nil->XA,mem_of_mem_drop->XB,map_congr_left->XN,getElem?_range->XO,getElem?_replicate->XZ,map_reverse->X2,forIn_cons->X4,foldl_cons->X5,append_nil->X6,flatten_cons->Ya,flatMap_cons->Yb,nodup_nil->Yc,getElem?_set_ne->Yg,foldl_append->Yk,filterMap_cons->Yl,filter_append->Yr,pairwise_iff_getElem->Yt,getElem?_zip_eq_some->Yu,drop_eq_getElem_cons->Yv,map_nil->YC,zipIdx_cons->YE,ext_getElem->YF,any_eq_true->YG,getElem?_set_self->YI,drop_of_length_le->YJ,forIn_nil->YK,find?_cons->YL,zipIdx_nil->YN,length_filter_le->YO,getElem?_reverse->YQ,sum_cons->YT,getElem_of_mem->YY,flatMap_append->YZ,length_set->Y2,length_nil->Y3,zip_cons_cons->Y4,map_drop->Y5,getElem_range->Y6,findIdx?_eq_some_iff_getElem->Y7,reverse_cons->Zd,ext_getElem?->Ze,zip_map->Zl,map_fst_zip->Zr,getElem_inj->Zs,cons_append->Zt,map_take->Zu,drop_zero->Zv,zip_append->Zz,sum_append->ZA,range_succ->ZC,mem_filter->ZD,replicate->È,range->Ì
open Nat renaming le_refl->VF,ne_of_lt->VQ,lt_of_lt_of_le->VR,ne_of_gt->Wn,le_trans->Wo,le_add_right->Wv,zero_le->Wz,lt_irrefl->WA,lt_succ_self->Xs,le_succ->XM,le_of_lt->Yf,lt_trans->Yp,le_of_eq->Yq,le_of_not_lt->YD,mul_le_mul_right->YU,lt_succ_of_lt->Zc,min_eq_right->Zq,min_eq_left->Zy
open Option renaming map_eq_some_iff->VH,isSome_iff_exists->V1,map_some->XY,some_ne_none->YX,isSome_map->Zb,bind_some->Zp,some->U,none->L
open Bool renaming false_ne_true->VJ,false_eq_true->WQ,eq_iff_iff->WX,and_eq_true->Xt,false_and->YW,true->Y,false->Á
open Ne renaming symm->VL
open Int renaming toNat_natCast->VW,mul_le_mul_of_nonneg_right->Wg,zero_add->Ww,eq_ofNat_of_zero_le->WB,mul_le_mul_of_nonneg_left->WI,mul_comm->WL,toNat_of_nonneg->WU,mul_le_mul->WV,emod_lt_of_pos->WY,emod_nonneg->Xk,mul_assoc->Xn,ediv_ediv_of_nonneg->X0,mul_nonneg->Yd,natCast_mul->Ym,mul_one->Yn,emod_add_mul_ediv->YR,le_refl->Y0,emod_eq_of_lt->Zf,pow_succ->Zm,mul_zero->Zn,mul_neg->ZF
open PySem.PassesOwn renaming never->VX
open PySem.W renaming mg_of->V0,mg_none_of->WJ,kia_one->XE,looks_findIn->Za,Frag->Æ,nsIn->Ð,findIn->Ó,kitOne->Ô,hasDictIn->Ö,exmOne->Ù,typeIn->Ú,mroIn->Û
open PySem.F renaming plainAttrs_list->Wa,type_list_append->Wx,slot_list_append->Wy,slot_zip_next->WM,slot_tuple_iterator_next->WW,excBase_ValueError->Xb,plain_extend_loop->XF,args_zip_next_1->XQ,slot_tuple_hash->XW,entry_zip_next->X3,args_tuple_iterator_next_1->Yw,entry_tuple_iterator_next->Yz,attr_ValueError->YS
open PyProof.Rows renaming callWith_type1->Wd,callWith_builtin1->Zk
open Option.some renaming inj->We
open PySem.Heap.SameBut renaming update->WE
open Array renaming getElem?_eq_some_iff->WG,getElem?_eq_getElem->XG,length_toList->Y1,getElem?_setIfInBounds_ne->Zh
open PySem.Obj renaming isFreed_of_fields->W0,data_mapFields->Xj
open PySem.Around renaming under_plainId->XS
open Nat.succ renaming inj->YM
open PySem.Calls renaming evalArgs_plain->Zg,spliced_cons->ZG
open List.cons renaming injEq->ZE
open PySem.Value renaming ref->Ê,none->Ñ,type->Ø
open PySem.Str renaming ofString->Õ
open _root_ renaming List->G,Int->B,rfl->J,Option->Ü,Bool->Ý,absurd->Þ,Nat->à
local macro_rules | `(%[$x:ident|99]) => `(($x).heap.objs.size)
local macro_rules | `({$xs:term,*}) => `(⟨$xs,*⟩)
local macro_rules | `(tactic| let $d:letDecl) => do
  let rec go : Nat → Lean.Syntax → Lean.MacroM (Lean.TSyntax `rcasesPat)
    | 0, _ => Lean.Macro.throwUnsupported
    | n+1, s => do
      match s with
      | `(($x, $xs,*)) =>
        let ys ← (#[x] ++ xs.getElems).mapM λ y => do
          let p ← go n y
          `(Lean.Parser.Tactic.rcasesPatLo| $p:rcasesPat)
        `(rcasesPat| ⟨$ys,*⟩)
      | `(⟨$xs,*⟩) =>
        let ys ← xs.getElems.mapM λ y => do
          let p ← go n y
          `(Lean.Parser.Tactic.rcasesPatLo| $p:rcasesPat)
        `(rcasesPat| ⟨$ys,*⟩)
      | `($i:ident) => `(rcasesPat| $i:ident)
      | _ => `(rcasesPat| _)
  match d with
  | `(letDecl| $x:ident := $e) => `(tactic| have $x:ident := $e)
  | `(letDecl| $x:ident : $t := $e) => `(tactic| have $x:ident : $t := $e)
  | `(letDecl| $p:term := $e) => do
    let q ← go 20 p
    `(tactic| obtain $q:rcasesPat := $e)
  | _ => Lean.Macro.throwUnsupported
namespace QL
def VY:=@if_neg
def V6:=@or_false
def V7:=@if_pos
def Wk:=@decide_eq_true
def Wl:=@decide_eq_false
def WK:=@beq_eq_false_iff_ne
def W2:=@congrArg
def W5:=@beq_iff_eq
def Xy:=@not_false_eq_true
def XU:=@if_false
def X8:=@not_or
def X9:=@of_decide_eq_true
def Yy:=@decide_eq_true_eq
def YA:=@if_true
def Zx:=@eq_true
end QL
open QL
namespace L2
open PySem PySem.Spec PyProof.Rows
variable {us:G O}{x:Ç}{u:O}{a b it C:Z}{α:Type}{P:Ë}{h:Í}{t' i k:à}{ch fp:G Z}{e tg:Ò}{M:Model}{E:O->À->Prop}{Q:Unit->À->Prop}{s:À}{pos:Pos}{pins:G (Z × Obj)}{f:O->O->Sem O}{body:G Stmt}{op:CmpOp}{kw:G (Ç × O)}{ps:G Ç}
abbrev Key:=Sum B Ç
def yn:Key->O->Ý
 | .inl k,v=>Value.isInt k v
 | .inr x,v=>Value.isStrOf x v
def Vc(w:Ï):Key->B
 | .inl k=>hashInt k
 | .inr x=>hashStr w x
theorem bw:∀ {k:Key}{v:O},yn k v=Y->(∃ i t,k=Sum.inl i/\v=Value.int i t)\/(∃ x t,k=Sum.inr x/\v=Value.str x t)
 | .inl i,v,h=>by
  let(t,e):=Value.isInt_shape (k:=i) (v:=v) h;exact .inl {(i),t,J,e}
 | .inr x,v,h=>by
  let(t,e):=Value.isStrOf_shape (x:=x) (v:=v) h;exact .inr {(x),t,J,e}
theorem Eo(i:B)(t:Tok):yn (.inl i) (.int i t)=Y:=by simp[yn,Value.isInt]
theorem En(x:Ç)(t:Tok):yn (.inr x) (.str x t)=Y:=by simp[yn,Value.isStrOf]
theorem QP(a b:B):decide ((Sum.inl a:Key)=Sum.inl b)=(a == b):=by
 by_cases e:a=b
 ·subst e;simp
 ·let h:¬ (Sum.inl a:Key)=Sum.inl b:=λ q=>e (Sum.inl.inj q);rw[Wl h];exact(WK.mpr e).symm
theorem QM(a b:Ç):decide ((Sum.inr a:Key)=Sum.inr b)=decide (a=b):=by
 by_cases e:a=b
 ·subst e;simp
 ·let h:¬ (Sum.inr a:Key)=Sum.inr b:=λ q=>e (Sum.inr.inj q);rw[Wl h,Wl e]
theorem QO(a:B)(b:Ç):decide ((Sum.inl a:Key)=Sum.inr b)=Á:=Wl (λ q=>nomatch q)
theorem QN(a:Ç)(b:B):decide ((Sum.inr a:Key)=Sum.inl b)=Á:=Wl (λ q=>nomatch q)
def di(prog:Ë)(w:Ï):PySem.KeyKind prog w Key where
 is:=yn
 hash:=Vc w
 inj:=λ v a b ha hb=>by
  rcases bw ha with ⟨i,t,rfl,rfl⟩|⟨x,t,rfl,rfl⟩
  ·rcases bw hb with ⟨j,u,rfl,e⟩|⟨y,u,rfl,e⟩
   ·injection e with e1 _;rw[e1]
   ·exact nomatch e
  ·rcases bw hb with ⟨j,u,rfl,e⟩|⟨y,u,rfl,e⟩
   ·exact nomatch e
   ·injection e with e1 _;rw[e1]
 byValue:=λ k v h=>by
  rcases bw h with ⟨i,t,rfl,rfl⟩|⟨x,t,rfl,rfl⟩<;>rfl
 pyHash:=λ hv h=>by
  rcases bw hv with ⟨i,t,rfl,rfl⟩|⟨x,t,rfl,rfl⟩
  ·exact wpAny_pyHash_int h
  ·exact wpAny_pyHash_str h
 eqBool:=λ hu hv h=>by
  rcases bw hu with ⟨i,t,rfl,rfl⟩|⟨x,t,rfl,rfl⟩
  ·rcases bw hv with ⟨j,u,rfl,rfl⟩|⟨y,u,rfl,rfl⟩
   ·rw[QP] at h;exact wpAny_eqBool_int h
   ·rw[QO] at h;exact SeqAt.EqAt.int_str i t y u _ _ _ _ h
  ·rcases bw hv with ⟨j,u,rfl,rfl⟩|⟨y,u,rfl,rfl⟩
   ·rw[QN] at h;exact SeqAt.EqAt.str_int x t j u _ _ _ _ h
   ·rw[QM] at h;exact wpAny_eqBool_str h
 «strs»:=λ k x t v h=>by
  rcases bw h with ⟨i,u,rfl,e⟩|⟨y,u,rfl,e⟩
  ·exact nomatch e
  ·injection e with e1 _
   subst e1
   cases v<;>rfl
def vL(prog:Ë)(w:Ï)(i:B)(t:Tok):(di prog w).is (.inl i) (.int i t)=Y:=Eo i t
def vK(prog:Ë)(w:Ï)(x:Ç)(t:Tok):(di prog w).is (.inr x) (.str x t)=Y:=En x t
inductive V where
 | non|bl (b:Ý)|int (i:B)|str (x:Ç)|byt (b:Array UInt8)|flt (b:UInt64)|ref (a:Z)|ty (n:String)
 deriving DecidableEq
variable {v:V}{vs:G V}
def b9:V->O->Prop
 | .non,u=>u=Ñ
 | .bl b,u=>u=Value.bool b
 | .int i,u=>∃ t,u=Value.int i t
 | .str x,u=>∃ t,u=Value.str x t
 | .byt b,u=>∃ t,u=Value.bytes b t
 | .flt b,u=>∃ t,u=Value.float b t
 | .ref a,u=>u=Ê a
 | .ty n,u=>u=Ø n
abbrev bf:G V->G O->Prop:=Paired b9
def bf.length{xs:G V}(r:bf xs us):xs.length=us.length:=Paired.length r
theorem bf.get:∀ {xs:G V}{us:G O}{i:à}{x:V},bf xs us->xs[i]? = U x->∃ u,us[i]? = U u/\b9 x u
 | _,_,_,_,.nil,e=>by simp at e
 | _,_,0,_,.cons r _,e=>by simp at e;subst e;exact{_,J,r}
 | _,_,i+1,x,.cons _ t,e=>by
  let(u,h1,h2):=bf.get (i:=i) (x:=x) t (by simpa using e);exact{u,by simpa using h1,h2}
def bf.set{x:V}(r:b9 x u):∀ {xs:G V}{us:G O}(i:à),bf xs us->bf (xs.set i x) (us.set i u)
 | _,_,_,.nil=>.nil
 | _,_,0,.cons _ t=>.cons r t
 | _,_,i+1,.cons q t=>.cons q (bf.set r i t)
def bf.append:∀ {xs ys:G V}{us ws:G O},bf xs us->bf ys ws->bf (xs++ys) (us++ws)
 | _,_,_,_,.nil,s=>s
 | _,_,_,_,.cons r t,s=>.cons r (bf.append t s)
def bf.take:∀ {xs:G V}{us:G O}(n:à),bf xs us->bf (xs.take n) (us.take n)
 | _,_,0,_=>.nil
 | _,_,_+1,.nil=>.nil
 | _,_,n+1,.cons r t=>.cons r (bf.take n t)
def bf.drop:∀ {xs:G V}{us:G O}(n:à),bf xs us->bf (xs.drop n) (us.drop n)
 | _,_,0,r=>r
 | _,_,_+1,.nil=>.nil
 | _,_,n+1,.cons _ t=>bf.drop n t
def oF:Ü V->Ü O->Prop
 | some v,U u=>b9 v u
 | none,L=>True
 | _,_=>False
def KV{κ:Type}:G (κ × V)->G (κ × O)->Prop:=Paired λ (p:κ × V) (q:κ × O)=>p.1=q.1/\b9 p.2 q.2
def kV:Key->V
 | .inl i=>.int i
 | .inr x=>.str x
inductive HO where
 | lst (xs:G V)
 | tup (xs:G V)
 | dK (kvs:G (Key × V))|dT (kvs:G (G Key × V))
 | set (S:B->Ý) (n:à)
 | ins (C dx:Z) (fs:G (Ç × V))
 | own (x:Z)
 | xd (fs:G (Ç × V))
 | met (f x:Z)
 | rng (lo hi:B)
 | frz (o:Obj) (u:HO)
 | tbl (ps:Array O)
 | cod (q:Ç)
 | ext (φ:Í->Prop)
variable {o:HO}
abbrev Hp:=Z->Ü HO
variable {H:Hp}
def upd(H:Hp)(a:Z)(o:HO):Hp:=λ b=>if b=a then U o else H b
def aj:upd H a o a=U o:=by unfold upd;rw[if_pos J]
def ag(h:b≠a):upd H a o b=H b:=by unfold upd;rw[if_neg h]
theorem Ks{u:HO}:upd (upd H a o) a u=upd H a u:=by
 funext b;unfold upd;split<;>rfl
theorem SD{u:HO}(h:H a=U o)(h':H b=U u)(d:o≠u):a≠b:=by
 intro e;subst e;rw[h] at h';exact d (We h')
theorem ba(h:H a=U o)(h':H b=L):a≠b:=by
 intro e;subst e;rw[h] at h';cases h'
section
variable (P:Ë)(w:Ï)
def bE(H:Hp)(h:Í)(a:Z):HO->Prop
 | .lst xs=>xs.length<=Å/\∃ (its:G O) (n:à),bf xs its/\h.get? a=U { cls:=.type "list",data:=.seq its.toArray n }
 | .tup xs=>xs.length<=Å/\∃ its:G O,bf xs its/\IsTup h a its.toArray
 | .dK kvs=>kvs.length<=Å/\(a == sysModules)=Á/\∃ vs,KV kvs vs/\h.DictOf (di P w) a vs
 | .dT kvs=>kvs.length<=Å/\(a == sysModules)=Á/\∃ xs:G (G Key × Z × O),
   Paired (λ (p:G Key × V) (q:G Key × Z × O)=>p.1=q.1/\H q.2.1=U (.tup (p.1.map kV))/\b9 p.2 q.2.2) kvs xs /\
   ∃ o es ep,h.get? a=U o/\o.ExactDict/\o.data=.dict es ep/\es.toList=xs.map (entryOfKey (tupleKind (di P w)))/\(xs.map (·.1)).Nodup
 | .set S n=>h.SetOf (intKind P w) a S n
 | .ins C dx fs=>H dx=U (.own a)/\fs.length<=1000/\dx≠a/\h.get? a=U (W.instObj C dx) /\
   ∃ mA,h.Ns1 dx mA/\(∀ f,oF (fs.lookup f) (mA f))/\PySem.Within mA (fs.map (·.1))
 | .own _=>∃ o,h.get? a=U o
 | .xd fs=>∃ mA,h.Ns1 a mA/\∀ f,oF (fs.lookup f) (mA f)
 | .rng lo hi=>∃ t u v,h.get? a=U { cls:=.type "range",data:=.fields #[.int lo t,.int hi u,.int 1 v] }
 | .frz o u=>h.get? a=U o/\bE H h a u
 | .tbl ps=>∃ (q:Ç) (t:Tok) (qs:Array O),ps=#[.str q t]/\h.get? a=U { cls:=.none,data:=.fields qs }/\TriplesOk qs.toList/\∀ (pos:Pos) (cv:O),codeAmong pos qs.toList=U cv->∃ c:Z,cv=.ref c/\H c=U (.cod q)
 | .cod q=>∃ (o:Obj) (vs:Array O) (t:Tok),h.get? a=U o/\o.data=.fields vs/\vs[1]? = U (.str q t)
 | .met f x=>h.get? a=U (W.methodObj (.ref f) (.ref x))
 | .ext φ=>φ h/\(∃ o,h.get? a=U o)/\∀ h1 h2:Í,φ h1->(∀ o,h1.get? a=U o->h2.get? a=U o)->φ h2
def HOk(H:Hp)(h:Í):Prop:=∀ a o,H a=U o->bE P w H h a o
end
section
variable {w:Ï}{H':Hp}{h':Í}
theorem bE.lt(x:bE P w H h a o):a<h.objs.size:=by
 cases o with
 | lst xs=>let(_,_,_,_,e):=x;exact VE e
 | tup xs=>let(_,_,_,p):=x;exact p.lt
 | dK kvs=>let(_,_,_,_,o,_,_,e,_):=x;exact VE e
 | dT kvs=>let(_,_,_,_,o,_,_,e,_):=x;exact VE e
 | set S n=>let(o,_,_,_,e,_):=x;exact VE e
 | ins C dx fs=>let(_,_,_,e,_):=x;exact VE e
 | own y=>let(_,e):=x;exact VE e
 | xd fs=>let(_,(_,_,_,e,_),_):=x;exact VE e
 | rng lo hi=>let(_,_,_,e):=x;exact VE e
 | frz ob u=>let(e,_):=x;exact VE e
 | tbl ps=>let(_,_,_,_,e,_):=x;exact VE e
 | cod q=>let(_,_,_,e,_):=x;exact VE e
 | met f y=>exact VE (show h.get? a=U _ from x)
 | ext φ=>let(_,(_,e),_):=x;exact VE e
def Paired.mapP{β:Type}{F xz:α->β->Prop}:∀ {l₁:G α}{l₂:G β},Paired F l₁ l₂->(∀ a b,F a b->xz a b)->Paired xz l₁ l₂
 | _,_,.nil,_=>.nil
 | _,_,.cons r t,f=>.cons (f _ _ r) (Paired.mapP t f)
theorem bE.stay(x:bE P w H h a o)(k:∀ b u,(b=a\/H b=U (.own a))->h.get? b=U u->h'.get? b=U u)
  (ho:∀ b,H b=U (.own a)->H' b=U (.own a)) (hq:∀ b q,H b=U (.cod q)->H' b=U (.cod q)) (ht:∀ b xs,H b=U (.tup xs)->H' b=U (.tup xs)):bE P w H' h' a o:=by
 induction o with
 | lst xs=>let(z,its,n,r,e):=x;exact{z,its,n,r,k _ _ (.inl J) e}
 | tup xs=>let(z,its,r,ob,e,c):=x;exact{z,its,r,ob,k _ _ (.inl J) e,c}
 | dK kvs=>let(z,y,vs,r,ob,es,ep,e,c):=x;exact{z,y,vs,r,ob,es,ep,k _ _ (.inl J) e,c}
 | dT kvs=>
  let(z,y,xs,r,ob,es,ep,e,c):=x;exact{z,y,xs,Paired.mapP r λ p q z=>{z.1,ht _ _ z.2.1,z.2.2},ob,es,ep,k _ _ (.inl J) e,c}
 | set S n=>let(ob,es,ep,t,e,c):=x;exact{ob,es,ep,t,k _ _ (.inl J) e,c}
 | ins C dx fs=>
  let(d,z,ne,e,mA,(od,es,ep,e2,c),r):=x;exact{ho _ d,z,ne,k _ _ (.inl J) e,mA,{od,es,ep,k _ _ (.inr d) e2,c},r}
 | own y=>let(ob,e):=x;exact{ob,k _ _ (.inl J) e}
 | xd fs=>let(mA,(od,es,ep,e,c),r):=x;exact{mA,{od,es,ep,k _ _ (.inl J) e,c},r}
 | rng lo hi=>let(t,u,v,e):=x;exact{t,u,v,k _ _ (.inl J) e}
 | frz ob u ih=>let(e,q):=x;exact{k _ _ (.inl J) e,ih q}
 | tbl ps=>
  let(q,t,qs,e0,e,tr,hc):=x;refine{q,t,qs,e0,k _ _ (.inl J) e,tr,λ pos cv af=>?_};let(c,r1,r2):=hc pos cv af;exact{c,r1,hq _ _ r2}
 | cod q=>let(ob,vs,t,e,c):=x;exact{ob,vs,t,k _ _ (.inl J) e,c}
 | met f y=>
  let e:h.get? a=U (W.methodObj (.ref f) (.ref y)):=x
  show h'.get? a=U (W.methodObj (.ref f) (.ref y))
  exact k a _ (.inl J) e
 | ext φ=>let(p,(o,e),st):=x;exact{st _ _ p λ o q=>k _ _ (.inl J) q,{o,k _ _ (.inl J) e},st}
def HOk.lt(x:HOk P w H h)(e:H a=U o):a<h.objs.size:=(x a o e).lt
theorem HOk.fresh(x:HOk P w H h)(e:h.objs.size<=a):H a=L:=by
 cases q:H a with
 | none=>rfl
 | some u=>exact Þ (VR (x.lt q) e) (WA _)
theorem HOk.kept(x:HOk P w H h)(k:∀ b u,h.get? b=U u->h'.get? b=U u):HOk P w H h':=λ a o e=>
 (x a o e).stay (λ b u _ q=>k b u q) (λ _ q=>q) (λ _ _ q=>q) λ _ _ q=>q
theorem HOk.laid(x:HOk P w H h)(k:∀ b u,h.get? b=U u->h'.get? b=U u)(hp:h.objs.size<=a)(new:bE P w (upd H a o) h' a o):HOk P w (upd H a o) h':=λ b u e=>by
 let hn:=x.fresh hp
 by_cases hb:b=a
 ·subst hb;rw[aj] at e;cases e;exact new
 ·rw[ag hb] at e;exact(x b u e).stay (λ c v _ q=>k c v q) (λ c q=>by rw[ag (ba q hn)];exact q) (λ c y q=>by rw[ag (ba q hn)];exact q) λ c xs q=>by rw[ag (ba q hn)];exact q
end
def Rd(H:Hp)(a:Z)(u:HO):Prop:=H a=U u\/∃ o,H a=U (.frz o u)
theorem Rd.ok{w:Ï}{u:HO}(r:Rd H a u)(x:HOk P w H h):bE P w H h a u:=by
 rcases r with r|⟨o,r⟩
 ·exact x a u r
 ·let(_,q):=x a _ r;exact q
def Mut:Ü HO->Prop
 | some (.lst _)=>True
 | some (.dK _)=>True
 | some (.dT _)=>True
 | some (.set _ _)=>True
 | some (.ins _ _ _)=>True
 | some (.ext _)=>True
 | _=>False
section
variable {w:Ï}{h':Í}{x e:Z}{o':HO}
theorem HOk.write(ok:HOk P w H h)(mu:Mut (H x))(he:e=x\/H e=U (.own x))(k:∀ b u,b≠e->h.get? b=U u->h'.get? b=U u)(a3:∃ u,h'.get? e=U u)
  (new:bE P w (upd H x o') h' x o'):HOk P w (upd H x o') h':=λ b u q=>by
 let af:∀ c y,H c=U (.own y)->c≠x:=λ c y r z=>by subst z;rw[r] at mu;exact mu
 let aS:∀ c xs,H c=U (.tup xs)->c≠x:=λ c xs r z=>by subst z;rw[r] at mu;exact mu
 let aX:∀ c y,H c=U (.cod y)->c≠x:=λ c y r z=>by subst z;rw[r] at mu;exact mu
 by_cases hb:b=x
 ·subst hb;rw[aj] at q;cases q;exact new
 ·rw[ag hb] at q
  by_cases hbe:b=e
  ·let q':H b=U (.own x):=by
    rcases he with z|z
    ·exact Þ (hbe.trans z) hb
    ·rw[hbe];exact z
   rw[q] at q';cases q';let(v,hv):=a3;exact{v,by rw[hbe];exact hv}
  ·refine(ok b u q).stay (λ c v hc r=>k c v ?_ r) (λ c r=>by rw[ag (af c b r)];exact r) (λ c y r=>by rw[ag (aX c y r)];exact r) λ c xs r=>by rw[ag (aS c xs r)];exact r
   rcases hc with rfl|hc
   ·exact hbe
   ·rintro rfl
    rcases he with z|z
    ·exact af c b hc z
    ·rw[hc] at z;cases z;exact hb J
end
structure Un(fs ex:G Z)(H H':Hp)(h h':Í):Prop where
 keep:∀ b o,h.get? b=U o->H b=L->b ∉ fs->b ∉ ex->h'.get? b=U o
 slot:∀ b o,h.get? b=U o->H b=L->b∈fs->b ∉ ex->∃ sl,h'.get? b=U { o with slots:=sl }
 free:∀ b o,h.get? b=U o->H b=L->b ∉ ex->H' b=L
 there:∀ b o,h.get? b=U o->b ∉ ex->∃ o',h'.get? b=U o'
 tups:∀ b xs,H b=U (.tup xs)->H' b=U (.tup xs)
 frzs:∀ b o u,H b=U (.frz o u)->H' b=U (.frz o u)
 tbls:∀ b ps,H b=U (.tbl ps)->∃ more,H' b=U (.tbl (ps++more))
section
variable {fs fs' ex ex':G Z}{H1 H2:Hp}{h1 h2 h':Í}{x e:Z}
theorem Un.any(u:Un fs ex H H1 h h1){ob:Obj}(q:h.get? b=U ob)(n:H b=L)(hx:b ∉ ex):∃ sl,h1.get? b=U { ob with slots:=sl }:=by
 by_cases hb:b∈fs
 ·exact u.slot b ob q n hb hx
 ·exact{ob.slots,u.keep b ob q n hb hx}
theorem Un.trans(a:Un fs ex H H1 h h1)(b:Un fs ex H1 H2 h1 h2):Un fs ex H H2 h h2 where
 keep:=λ c ob q n hc hx=>b.keep c ob (a.keep c ob q n hc hx) (a.free c ob q n hx) hc hx
 slot:=λ c ob q n hc hx=>by
  let(sl,e1):=a.slot c ob q n hc hx;let(af,e2):=b.slot c _ e1 (a.free c ob q n hx) hc hx;exact{(af),e2}
 free:=λ c ob q n hx=>by
  let(o',e1):=a.there c ob q hx;exact b.free c o' e1 (a.free c ob q n hx) hx
 there:=λ c ob q hx=>by
  let(o',e1):=a.there c ob q hx;exact b.there c o' e1 hx
 tups:=λ c xs q=>b.tups c xs (a.tups c xs q)
 frzs:=λ c ob xs q=>b.frzs c ob xs (a.frzs c ob xs q)
 tbls:=λ c ps q=>by
  let(m1,e1):=a.tbls c ps q;let(m2,e2):=b.tbls c _ e1;exact{m1++m2,by rw[e2,Array.append_assoc]}
theorem Un.kept(k:∀ b u,h.get? b=U u->h'.get? b=U u):Un fs ex H H h h':=
 ⟨λ b ob q _ _ _=>k b ob q,λ b ob q _ _ _=>{ob.slots,k b ob q},λ _ _ _ n _=>n,λ b ob q _=>{ob,k b ob q},λ _ _ q=>q,λ _ _ _ q=>q,λ _ ps q=>{#[],by rw[q];simp}⟩
def Un.refl:Un fs ex H H h h:=Un.kept λ _ _ q=>q
theorem Un.laid(k:∀ b u,h.get? b=U u->h'.get? b=U u)(hp:h.objs.size<=a)(hn:H a=L):Un fs ex H (upd H a o) h h' where
 keep:=λ b u q _ _ _=>k b u q
 slot:=λ b u q _ _ _=>{u.slots,k b u q}
 free:=λ b u q n _=>by rw[ag (VQ (VR (VE q) hp))];exact n
 there:=λ b u q _=>{u,k b u q}
 tups:=λ b xs q=>by rw[ag (ba q hn)];exact q
 frzs:=λ b u xs q=>by rw[ag (ba q hn)];exact q
 tbls:=λ b ps q=>{#[],by rw[ag (ba q hn),q];simp}
theorem Un.write(mu:Mut (H x))(he:e=x\/H e=U (.own x))(k:∀ b u,b≠e->h.get? b=U u->h'.get? b=U u)(af:∃ u,h'.get? e=U u):Un fs ex H (upd H x o) h h':=by
 let hx:∀ b,H b=L->b≠x:=λ b n z=>by subst z;rw[n] at mu;exact mu
 let hb:∀ b,H b=L->b≠e:=λ b n z=>by
  subst z
  rcases he with r|r
  ·exact hx b n r
  ·rw[n] at r;cases r
 let hm:∀ b u,H b=U u->¬ Mut (U u)->b≠x:=λ b u q nm z=>by subst z;rw[q] at mu;exact nm mu
 refine{λ b u q n _ _=>k b u (hb b n) q,λ b u q n _ _=>{u.slots,k b u (hb b n) q},λ b u q n _=>by rw[ag (hx b n)];exact n,λ b u q _=>?_,
  λ b xs q=>by rw[ag (hm b _ q λ z=>z)];exact q,λ b u xs q=>by rw[ag (hm b _ q λ z=>z)];exact q,λ b ps q=>{#[],by rw[ag (hm b _ q λ z=>z),q];simp}}
 by_cases hbe:b=e
 ·subst hbe;exact af
 ·exact{u,k b u hbe q}
end
def trk(h:Í)(H:Hp):G Z:=(Ì h.objs.size).filter λ a=>(H a).isSome
def E7(h:Í)(H:Hp):Í:=W.hideAll h (trk h H)
def Et(h:Í)(H:Hp):(E7 h H).objs.size=h.objs.size:=W.hideAll_size _ _
theorem HJ{o:Obj}(e:h.get? b=U o)(n:H b=L):(E7 h H).get? b=U o:=
 W.hideAll_get _ e λ hm=>by
  let q:(H b).isSome=Y:=(ZD.mp hm).2;rw[n] at q;simp at q
theorem Lj{o:Obj}(e:(E7 h H).get? b=U o):h.get? b=U o/\H b=L:=by
 let e':h.get? b=U o:=W.of_hideAll (trk h H) e;refine{e',?_}
 cases q:H b with
 | none=>rfl
 | some x=>
  let hm:b∈trk h H:=ZD.mpr {WO.mpr (VE e'),by simp[q]};let z:(E7 h H).get? b=L:=W.hideAll_none (trk h H) hm;rw[z] at e;cases e
def Nq(g h:Í)(zC:Z):G (Z × Obj):=(Ì h.objs.size).filterMap λ a=>if a=zC\/(g.get? a).isSome=Y then L else (h.get? a).map λ o=>(a,o)
def dQ(g h:Í)(zC d:Z):G (Z × Obj):=(Nq g h zC).filter λ p=>decide (p.1≠d)
structure Mod(K:Æ)(mg:Ç->Ü O)(base:Í):Prop where
 kin:K.In base
 glob:base.Ns Ã mg
 blt:∃ mb,base.Ns builtinsNs mb/\∀ x:Ç,x ≠ "__name__" → mb x=bootBuiltins x
 nolimit:base.NoLimit
def As(o:Obj):Prop:=∃ vs,o.data=.fields vs/\vs[2]? = U .none
def NQ(A:Î)(H:Hp):Prop:=∀ a,A.handled=U a->∃ (e:Z) (oe:Obj) (u:HO),a=.ref e/\H e=U (.frz oe u)/\As oe
def SfN(A:Î)(h:Í)(l:G Z):Prop:=∀ a,A.handled=U a->∃ (e:Z) (oe:Obj),a=.ref e/\h.get? e=U oe/\As oe/\e ∉ l
theorem NQ.none{A:Î}(h:A.handled=Option.none):NQ A H:=λ a z=>by rw[h] at z;cases z
theorem SfN.no{A:Î}{l:G Z}(x:A.handled=Option.none):SfN A h l:=λ a z=>by rw[x] at z;cases z
theorem SfN.ext{A:Î}{h':Í}{l l':G Z}(x:SfN A h l)(k:∀ b o,b ∉ l->h.get? b=U o->h'.get? b=U o)(s:∀ b∈l',b∈l):SfN A h' l':=λ a z=>let {(e),oe,p,q,n,m}:=x a z;⟨e,oe,p,k e oe m q,n,λ y=>m (s e y)⟩
structure Cx where
 prog:Ë
 w:Ï
 K:Æ
 mg:Ç->Ü O
 base:Í
 A:Î
 N:G Ç
 s₀:À
 H₀:Hp
 env:Env
 outer:G Env
 stack:G Env
 ex:G Z
 fn:Ç->Ý
 calm:Ý
 pn:G (Z × Obj)
 xe:O->À->Prop
variable {w:Ï}{A:Î}{N:G Ç}{X:Cx}{K:Æ}{mg:Ç->Ü O}
def frs(l:G Env):G Z:=l.filterMap (·.frame)
abbrev Cx.fs(X:Cx):G Z:=frs X.outer
def Vis(sc:Scope)(x:Ç):Prop:=sc.names.lookup x=U .local\/sc.names.lookup x=U .cell\/sc.names.lookup x=U .free
def Loc(sc:Scope)(x:Ç):Prop:=sc.names.lookup x=U .local\/sc.names.lookup x=U .cell
def Vm(env:Env)(h:Í)(m:Ç->Ü O)(x:Ç)(u:O):Prop:=
 (env.kindOf x=U .local/\m x=U u)\/((env.kindOf x=U .cell\/env.kindOf x=U .free)/\∃ c,env.cells.lookup x=U c/\h.IsCell c (U u))
structure Cx.Ok(X:Cx):Prop where
 mod:Mod X.K X.mg X.base
 kind:X.env.scope.kind=.function
 glob:X.env.globals=Ã
 blt:X.env.builtins=builtinsNs
 above:X.s₀.heap.objs.size<=X.env.locals
 inj:∀ x y c,X.env.cells.lookup x=U c->X.env.cells.lookup y=U c->x=y
 has:∀ x,(X.env.kindOf x=U .cell\/X.env.kindOf x=U .free)->∃ c,X.env.cells.lookup x=U c
 cab:∀ x c,X.fn x=Y->X.env.cells.lookup x=U c->X.s₀.heap.objs.size<=c
 hd:X.calm=Y->X.A.handled=L
 sf:NQ X.A X.H₀
 frames:X.A.frames=U X.stack
 stk:X.stack=X.outer\/(X.stack=X.env::X.outer/\X.env.frame=U X.env.locals)
 exf:∀ b∈X.ex,b≠X.env.locals/\∀ x c,X.env.cells.lookup x=U c->c≠b
 bs:∀ b o,X.base.get? b=U o->X.s₀.heap.get? b=U o/\X.H₀ b=L
 bsz:X.base.objs.size<=X.s₀.heap.objs.size
 noex:∀ b o,X.base.get? b=U o->b ∉ X.ex
 exfs:∀ b∈X.ex,b ∉ X.fs
 funs:X.s₀.heap.FunFrames X.base X.outer
 frf:∀ b∈X.fs,X.H₀ b=L
structure Inv(X:Cx)(pins:G (Z × Obj))(σ:G (Ü V))(H:Hp)(s:À):Prop where
 ok:X.Ok
 os:s.os=X.s₀.os
 bare:AllBare s.gens
 base:Un X.fs X.ex X.H₀ H X.s₀.heap s.heap
 loc:∃ m,s.heap.Ns X.env.locals m/\∀ (i:à) (x:Ç) (v:V),X.N[i]? = U x->σ[i]? = U (U v)->Vis X.env.scope x->∃ u,b9 v u/\Vm X.env s.heap m x u
 cell:∀ x c,X.env.cells.lookup x=U c->∃ v,s.heap.IsCell c v
 free:H X.env.locals=L
 freeC:∀ x c,X.env.cells.lookup x=U c->H c=L
 pin:∀ p∈X.pn++pins,s.heap.get? p.1=U p.2/\H p.1=L/\p.1≠X.env.locals/\p.1 ∉ X.fs/\∀ v,p.2.data ≠ .cell v
 hok:HOk X.prog X.w H s.heap
 len:σ.length=X.N.length
variable {base:Í}
section
variable {σ:G (Ü V)}{H':Hp}{h':Í}
theorem Cx.Ok.nofr(ok:X.Ok){o:Obj}(e:X.base.get? b=U o):b ∉ X.fs:=λ hb=>by
 have:=(ok.funs.mem hb).1;rw[e] at this;cases this
theorem Inv.bs(I:Inv X pins σ H s):∀ b o,X.base.get? b=U o->s.heap.get? b=U o/\H b=L:=λ b o e=>
 ⟨I.base.keep b o (I.ok.bs b o e).1 (I.ok.bs b o e).2 (I.ok.nofr e) (I.ok.noex b o e),I.base.free b o (I.ok.bs b o e).1 (I.ok.bs b o e).2 (I.ok.noex b o e)⟩
theorem Inv.bk(I:Inv X pins σ H s):∀ b o,X.base.get? b=U o->s.heap.get? b=U o:=λ b o e=>(I.bs b o e).1
def Inv.mod(I:Inv X pins σ H s):Mod X.K X.mg X.base:=I.ok.mod
def Inv.kIn(I:Inv X pins σ H s):X.K.In s.heap:=I.ok.mod.kin.keeps I.bk
theorem Inv.soft(I:Inv X pins σ H s):NQ X.A H:=λ a h=>let {(e),oe,u,h1,h2,h3}:=I.ok.sf a h;⟨e,oe,u,h1,I.base.frzs e oe u h2,h3⟩
theorem Inv.sfn(I:Inv X pins σ H s)(l:G Z)(hl:∀ b∈l,H b=L):SfN X.A s.heap l:=λ a h=>by
 let(e,oe,u,h1,h2,h3):=I.soft a h;exact{e,oe,h1,(I.hok e _ h2).1,h3,λ z=>by rw[hl e z] at h2;cases h2}
def Inv.lt(I:Inv X pins σ H s):X.env.locals<%[s|99]:=let {_,hn,_}:=I.loc;hn.lt
def Inv.sz(I:Inv X pins σ H s):X.s₀.heap.objs.size<=%[s|99]:=Wo I.ok.above (Yf I.lt)
theorem Inv.nofs(I:Inv X pins σ H s)(h:%[s|99]<=a):a ∉ X.fs:=λ hb=>by
 let(_,o,ho,_):=I.ok.funs.mem hb;exact Þ (VR (VE ho) (Wo I.sz h)) (WA _)
theorem Inv.cne(I:Inv X pins σ H s):∀ x c,X.env.cells.lookup x=U c->c≠X.env.locals:=λ x c e z=>by
 let(v,o,ho,hd):=I.cell x c e;let(m,(o',es,ep,af,aS,_),_):=I.loc;rw[z,af] at ho;cases ho;rw[aS] at hd;cases hd
theorem Inv.funs(I:Inv X pins σ H s):s.heap.FunFrames X.base X.outer:=by
 let all:∀ (l:G Env),(∀ b∈frs l,b∈X.fs)->X.s₀.heap.FunFrames X.base l->s.heap.FunFrames X.base l:=by
  intro l
  induction l with
  | nil=>intro _ _;trivial
  | cons env r ih=>
   intro hs hl;let(hk,(zC,o,hf,hn,ho,hd),hr):=hl;let hL:zC∈X.fs:=hs zC (by unfold frs;rw[List.filterMap_cons,hf];exact mem_cons_self);let(sl,e):=I.base.slot zC o ho (I.ok.frf zC hL) hL λ z=>I.ok.exfs zC z hL;exact{hk,{zC,_,hf,hn,e,hd},ih (λ b hb=>hs b (by unfold frs;rw[List.filterMap_cons,hf];exact mem_cons_of_mem _ hb)) hr}
 exact all X.outer (λ _ hb=>hb) I.ok.funs
theorem Inv.stack(I:Inv X pins σ H s):s.heap.FunFrames X.base X.stack:=by
 rcases I.ok.stk with e|⟨e,hf⟩
 ·rw[e];exact I.funs
 ·rw[e];let(m,hn,_):=I.loc;refine .cons (by rw[I.ok.kind];decide) hf hn ?_ I.funs;exact WS (Wo I.ok.bsz I.ok.above)
theorem Inv.stkSub(I:Inv X pins σ H s):∀ b∈frs X.stack,b∈X.env.locals::X.fs:=λ b hb=>by
 rcases I.ok.stk with e|⟨e,hf⟩
 ·rw[e] at hb;exact VI _ hb
 ·rw[e] at hb;unfold frs at hb;rw[List.filterMap_cons,hf] at hb;exact hb
theorem Inv.stkFree(I:Inv X pins σ H s):∀ b∈frs X.stack,H b=L:=λ b hb=>by
 rcases VU.mp (I.stkSub b hb) with e|hb
 ·rw[e];exact I.free
 ·let(_,o,ho,_):=I.ok.funs.mem hb;exact I.base.free b o ho (I.ok.frf b hb) λ z=>I.ok.exfs b z hb
theorem Inv.step{g':Array GenState}{d':Drawn}(I:Inv X pins σ H s)
  (af:∀ b∈ch,(b∈X.ex\/X.s₀.heap.objs.size<=b)/\b≠X.env.locals/\(∀ x c,X.env.cells.lookup x=U c->c≠b)/\∀ p∈X.pn++pins,p.1≠b)
  (keep:∀ b o,b≠X.env.locals->b ∉ X.fs->b ∉ ch->s.heap.get? b=U o->H b=L->h'.get? b=U o)
  (slot:∀ b o,b≠X.env.locals->b∈X.fs->b ∉ ch->s.heap.get? b=U o->H b=L->∃ sl,h'.get? b=U { o with slots:=sl }) (free:∀ b o,b ∉ ch->s.heap.get? b=U o->H b=L->H' b=L)
  (there:∀ b o,b ∉ ch->s.heap.get? b=U o->∃ o',h'.get? b=U o')
  (tups:∀ b xs,H b=U (.tup xs)->H' b=U (.tup xs)) (frzs:∀ b o u,H b=U (.frz o u)->H' b=U (.frz o u)) (tbls:∀ b ps,H b=U (.tbl ps)->∃ more,H' b=U (.tbl (ps++more)))
  (ns:∀ m,s.heap.Ns X.env.locals m->h'.Ns X.env.locals m) (hok:HOk X.prog X.w H' h') (hg:AllBare g') :
  Inv X pins σ H' { s with heap:=h',gens:=g',drawn:=d',toks:=t' }:=by
 let a3:∀ b o,X.s₀.heap.get? b=U o->b≠X.env.locals:=λ b o e=>VQ (VR (VE e) I.ok.above)
 let aX:∀ b o,X.s₀.heap.get? b=U o->b ∉ X.ex->b ∉ ch:=λ b o e hx hb=>by
  rcases (af b hb).1 with z|z
  ·exact hx z
  ·exact Þ (VR (VE e) z) (WA _)
 let cellK:∀ x c,X.env.cells.lookup x=U c->∀ v,s.heap.IsCell c v->h'.IsCell c v:=λ x c e v ⟨o,ho,hd⟩=>by
  let aS:c ∉ ch:=λ z=>(af c z).2.2.1 x c e J
  by_cases hc:c∈X.fs
  ·let(sl,q):=slot c o (I.cne x c e) hc aS ho (I.freeC x c e);exact{_,q,hd}
  ·exact{o,keep c o (I.cne x c e) hc aS ho (I.freeC x c e),hd}
 refine{I.ok,I.os,hg,{λ b o e n hb hx=>?_,λ b o e n hb hx=>?_,λ b o e n hx=>?_,λ b o e hx=>?_,λ b xs e=>tups b xs (I.base.tups b xs e),λ b o xs e=>frzs b o xs (I.base.frzs b o xs e),λ b ps e=>?_},?_,λ x c e=>?_,?_,λ x c e=>?_,λ p hp=>?_,hok,I.len}
 ·exact keep b o (a3 b o e) hb (aX b o e hx) (I.base.keep b o e n hb hx) (I.base.free b o e n hx)
 ·let(sl,e1):=I.base.slot b o e n hb hx;let(a4,e2):=slot b _ (a3 b o e) hb (aX b o e hx) e1 (I.base.free b o e n hx);exact{(a4),e2}
 ·let(o',e1):=I.base.there b o e hx;exact free b o' (aX b o e hx) e1 (I.base.free b o e n hx)
 ·let(o',e1):=I.base.there b o e hx;exact there b o' (aX b o e hx) e1
 ·let(m1,e1):=I.base.tbls b ps e;let(m2,e2):=tbls b _ e1;exact{m1++m2,by rw[e2,Array.append_assoc]}
 ·let(m,hn,hl):=I.loc;refine{m,ns m hn,λ i x v e1 e2 e3=>?_};let(u,r,l):=hl i x v e1 e2 e3;refine{u,r,?_}
  rcases l with l|⟨k,c,e,z⟩
  ·exact .inl l
  ·exact .inr {k,c,e,cellK x c e _ z}
 ·let(v,z):=I.cell x c e;exact{v,cellK x c e v z}
 ·let(m,(o,_,_,ho,_),_):=I.loc;exact free _ o (λ z=>(af _ z).2.1 J) ho I.free
 ·let(v,o,ho,hd):=I.cell x c e;exact free c o (λ z=>(af c z).2.2.1 x c e J) ho (I.freeC x c e)
 ·let(e,n,ne,nf,d):=I.pin p hp;let aS:p.1 ∉ ch:=λ z=>(af p.1 z).2.2.2 p hp J;exact{keep p.1 p.2 ne nf aS e n,free p.1 p.2 aS e n,ne,nf,d}
theorem Inv.un(I:Inv X pins σ H s)(u:Un X.fs [] H H' s.heap h')(hok:HOk X.prog X.w H' h'):Inv X pins σ H' { s with heap:=h',toks:=t' }:=by
 let(m,(o,es,ep,ho,r),_):=id I.loc;let(sl,hL):=u.any ho I.free (by simp)
 exact I.step (g':=s.gens) (d':=s.drawn) (ch:=[]) (λ _ z=>nomatch z) (λ b o _ hb _ e n=>u.keep b o e n hb (by simp)) (λ b o _ hb _ e n=>u.slot b o e n hb (by simp)) (λ b o _ e n=>u.free b o e n (by simp)) (λ b o _ e=>u.there b o e (by simp)) u.tups u.frzs u.tbls (λ m' hm=>by
  let(o',aS,aX,af,r'):=hm;rw[ho] at af;cases af;exact{_,aS,aX,hL,r'}) hok I.bare
theorem Inv.call{g':Array GenState}{d':Drawn}(I:Inv X pins σ H s)(u:Un (frs X.stack) ch H H' s.heap h')(hok:HOk X.prog X.w H' h')(hg:AllBare g')
  (af:∀ b∈ch,(b∈X.ex\/X.s₀.heap.objs.size<=b)/\b≠X.env.locals/\(∀ x c,X.env.cells.lookup x=U c->c≠b)/\∀ p∈X.pn++pins,p.1≠b) :
  Inv X pins σ H' { s with heap:=h',gens:=g',drawn:=d',toks:=t' }:=by
 let(m,(o,es,ep,ho,r),_):=id I.loc;let(sl,hL):=u.any ho I.free λ z=>(af _ z).2.1 J
 exact I.step (ch:=ch) af (λ b o hL hb hc e n=>u.keep b o e n (λ z=>(VU.mp (I.stkSub b z)).elim hL hb) hc) (λ b o _ _ hc e n=>u.any e n hc) (λ b o hc e n=>u.free b o e n hc) (λ b o hc e=>u.there b o e hc) u.tups u.frzs u.tbls (λ m' hm=>by
  let(o',aX,a3,aS,r'):=hm;rw[ho] at aS;cases aS;exact{_,aX,a3,hL,r'}) hok hg
theorem Inv.turned(I:Inv X pins σ H s)(k:∀ b o,b≠it->s.heap.get? b=U o->h'.get? b=U o)(hn:H it=L)(hL:it≠X.env.locals)
  (h1:it∈X.ex\/X.s₀.heap.objs.size<=it) (h2:∀ x c,X.env.cells.lookup x=U c->c≠it) (h3:∀ p∈X.pn++pins,p.1≠it):Inv X pins σ H { s with heap:=h',toks:=t' }:=by
 let af:∀ b u,H b=U u->b≠it:=λ b u e z=>by rw[z,hn] at e;cases e
 refine I.step (g':=s.gens) (d':=s.drawn) (ch:=[it]) (λ b hb=>?_) (λ b o _ _ hc e _=>k b o (λ z=>hc (by simp[z])) e) (λ b o _ _ hc e _=>{o.slots,k b o (λ z=>hc (by simp[z])) e}) (λ _ _ _ _ n=>n)
  (λ b o hc e=>{o,k b o (λ z=>hc (by simp[z])) e}) (λ _ _ e=>e) (λ _ _ _ e=>e) (λ b ps e=>{#[],by rw[e];simp}) (λ m hm=>?_) (λ b u e=>?_) I.bare
 ·let e:b=it:=by simpa using hb
  subst e;exact{(h1),hL,h2,h3}
 ·let(o,es,ep,ho,r):=hm;exact{o,es,ep,k _ o (VL hL) ho,r}
 ·refine(I.hok b u e).stay (λ c v hc q=>k c v ?_ q) (λ _ q=>q) (λ _ _ q=>q) λ _ _ q=>q
  rcases hc with z|z
  ·rw[z];exact af b u e
  ·exact af c _ z
def Inv.tok(I:Inv X pins σ H s)(t:à):Inv X pins σ H { s with toks:=t }:=I.un (h':=s.heap) (t':=t) Un.refl I.hok
def Inv.kept(I:Inv X pins σ H s)(k:∀ b u,s.heap.get? b=U u->h'.get? b=U u):Inv X pins σ H { s with heap:=h',toks:=t' }:=I.un (Un.kept k) (I.hok.kept k)
def Inv.laid(I:Inv X pins σ H s)(k:∀ b u,s.heap.get? b=U u->h'.get? b=U u)(hp:%[s|99]<=a)(new:bE X.prog X.w (upd H a o) h' a o) :
  Inv X pins σ (upd H a o) { s with heap:=h',toks:=t' }:=I.un (Un.laid k hp (I.hok.fresh hp)) (I.hok.laid k hp new)
def Inv.write{x e:Z}(I:Inv X pins σ H s)(mu:Mut (H x))(he:e=x\/H e=U (.own x))(k:∀ b u,b≠e->s.heap.get? b=U u->h'.get? b=U u)(af:∃ u,h'.get? e=U u)
  (new:bE X.prog X.w (upd H x o) h' x o):Inv X pins σ (upd H x o) { s with heap:=h',toks:=t' }:=I.un (Un.write mu he k af) (I.hok.write mu he k af new)
theorem Inv.weak{σ':G (Ü V)}(I:Inv X pins σ H s)(hl:σ'.length=σ.length)(w:∀ (i:à) v,σ'[i]? = U (U v)->σ[i]? = U (U v)):Inv X pins σ' H s:=
 ⟨I.ok,I.os,I.bare,I.base,let {(m),hn,hl'}:=I.loc;⟨m,hn,λ i x v e1 e2 e3=>hl' i x v e1 (w i v e2) e3⟩,I.cell,I.free,I.freeC,I.pin,I.hok,hl.trans I.len⟩
theorem Inv.pins_of{af:G (Z × Obj)}(I:Inv X pins σ H s)(h:∀ p∈af,s.heap.get? p.1=U p.2/\H p.1=L/\p.1≠X.env.locals/\p.1 ∉ X.fs/\∀ v,p.2.data ≠ .cell v):Inv X af σ H s:=
 ⟨I.ok,I.os,I.bare,I.base,I.loc,I.cell,I.free,I.freeC,λ p hp=>(Wf.mp hp).elim (λ z=>I.pin p (Xc _ z)) (h p),I.hok,I.len⟩
theorem qH(hN:N.Nodup){j:à}(a:N[i]? = U x)(b:N[j]? = U x):i=j:=by
 let(h1,e1):=VB.mp a;let(h2,e2):=VB.mp b;exact(Zs hN).mp (e1.trans e2.symm)
theorem sr(I:Inv X pins σ H s)(hN:X.N.Nodup)(hi:X.N[i]? = U x)(hx:Loc X.env.scope x)(r:b9 v u)
  (h:∀ s',Inv X pins (σ.set i (U v)) H s'->(∃ a,Heap.SameBut a s.heap s'.heap/\(a=X.env.locals\/X.env.cells.lookup x=U a))->Q () s') (hf:X.fn x=Y\/X.env.scope.names.lookup x=U .local:=by first|exact .inl rfl|exact .inr rfl|assumption):Ä M A (storeName X.env x u) Q E s:=by
 let(m,hn,hl):=id I.loc;let aX:(X.env.scope.kind == .class || (X.env.scope.kind == .module && X.env.locals != X.env.globals))=Á:=by rw[I.ok.kind];rfl
 let a3:i<σ.length:=by rw[I.len];exact(VB.mp hi).1
 let cne:=I.cne
 let tracked:∀ {a:Z} {h':Í},(∃ o,s.heap.get? a=U o/\H a=L)->Heap.SameBut a s.heap h'->HOk X.prog X.w H h':=λ {a h'} ha hs b ob e=>by
  let(_,_,af):=ha;refine(I.hok b ob e).stay (λ c w' hc q=>(hs.2 c ?_).trans q) (λ _ q=>q) (λ _ _ q=>q) λ _ _ q=>q;rintro rfl
  rcases hc with rfl|hc
  ·rw[af] at e;cases e
  ·rw[af] at hc;cases hc
 rcases hx with hk|hk
 ·refine wpAny_storeName_local hk hn (λ h' a7 hs=>?_) aX;let(oL,_,_,a8,_):=id hn;refine h _ {I.ok,I.os,I.bare,{λ b o e n hb hx=>?_,λ b o e n hb hx=>?_,I.base.free,λ b o e hx=>?_,I.base.tups,I.base.frzs,I.base.tbls},{_,a7,λ j y v' e1 e2 e3=>?_},λ y c e=>?_,I.free,I.freeC,λ p hp=>?_,tracked {(oL),a8,I.free} hs,by simpa using I.len} ⟨_,hs,.inl rfl⟩
  ·exact(hs.2 b (VQ (VR (VE e) I.ok.above))).trans (I.base.keep b o e n hb hx)
  ·let(sl,e1):=I.base.slot b o e n hb hx;exact{sl,(hs.2 b (VQ (VR (VE e) I.ok.above))).trans e1}
  ·let(o',e1):=I.base.there b o e hx;exact{o',(hs.2 b (VQ (VR (VE e) I.ok.above))).trans e1}
  ·by_cases hj:j=i
   ·subst hj;rw[hi] at e1;cases e1;rw[YI a3] at e2;cases e2;exact{u,r,.inl {hk,by simp}}
   ·rw[Yg (VL hj)] at e2;let(u',r',q):=hl j y v' e1 e2 e3;refine{u',r',?_}
    rcases q with ⟨k,e⟩|⟨k,c,e,z⟩
    ·refine .inl {k,?_};have:y≠x:=λ e=>hj (qH hN e1 (e ▸ hi));simp[this,e]
    ·exact .inr {k,c,e,z.sameBut hs (cne y c e)}
  ·let(w',z):=I.cell y c e;exact{w',z.sameBut hs (cne y c e)}
  ·let(e,n,ne,nf,d):=I.pin p hp;exact{(hs.2 p.1 ne).trans e,n,ne,nf,d}
 ·let aS:X.fn x=Y:=by
   rcases hf with z|z
   ·exact z
   ·rw[z] at hk;cases hk
  let(c,hc):=I.ok.has x (.inl hk);let(w',z):=I.cell x c hc;refine wpAny_storeName_cell I.ok.kind hk hc z (λ h' a4 hs=>?_);let(oc,a5,a6):=id z;refine h { s with heap:=h' } ⟨I.ok,I.os,I.bare,{λ b o e n hb hx=>?_,λ b o e n hb hx=>?_,I.base.free,λ b o e hx=>?_,I.base.tups,I.base.frzs,I.base.tbls},{m,hn.sameBut hs (VL (cne x c hc)),λ j y v' e1 e2 e3=>?_},λ y c' e=>?_,I.free,I.freeC,λ p hp=>?_,tracked {oc,a5,I.freeC x c hc} hs,by simpa using I.len⟩ ⟨c,hs,.inr hc⟩
  ·exact(hs.2 b (VQ (VR (VE e) (I.ok.cab x c aS hc)))).trans (I.base.keep b o e n hb hx)
  ·let(sl,e1):=I.base.slot b o e n hb hx;exact{sl,(hs.2 b (VQ (VR (VE e) (I.ok.cab x c aS hc)))).trans e1}
  ·let(o',e1):=I.base.there b o e hx;exact{o',(hs.2 b (VQ (VR (VE e) (I.ok.cab x c aS hc)))).trans e1}
  ·by_cases hj:j=i
   ·subst hj;rw[hi] at e1;cases e1;rw[YI a3] at e2;cases e2;exact{u,r,.inr {.inl hk,c,hc,a4}}
   ·rw[Yg (VL hj)] at e2;let(u',r',q):=hl j y v' e1 e2 e3;refine{u',r',?_}
    rcases q with q|⟨k,c',e,z'⟩
    ·exact .inl q
    ·refine .inr {k,c',e,z'.sameBut hs ?_};rintro rfl;exact hj (qH hN e1 (I.ok.inj _ _ _ e hc ▸ hi))
  ·by_cases hcc:c'=c
   ·subst hcc;exact{_,a4}
   ·let(w2,z2):=I.cell y c' e;exact{w2,z2.sameBut hs hcc}
  ·let(e,n,ne,nf,d):=I.pin p hp;refine{(hs.2 p.1 ?_).trans e,n,ne,nf,d};intro q;rw[q,a5] at e;let q':oc=p.2:=We e;exact d w' (by rw[←q'];exact a6)
theorem qi(I:Inv X pins σ H s)(hN:X.N.Nodup)(hi:X.N[i]? = U x)(hx:Loc X.env.scope x)(r:b9 v u)
  (h:∀ s',Inv X pins (σ.set i (U v)) H s'->Q () s') (hf:X.fn x=Y\/X.env.scope.names.lookup x=U .local:=by first|exact .inl rfl|exact .inr rfl|assumption):Ä M A (storeName X.env x u) Q E s:=
 sr I hN hi hx r (λ s' I' _=>h s' I') hf
theorem Inv.call'{s':À}(I:Inv X pins σ H s)(ho:s'.os=s.os)(u:Un (frs X.stack) ch H H' s.heap s'.heap)(hok:HOk X.prog X.w H' s'.heap)(hg:AllBare s'.gens)
  (af:∀ b∈ch,(b∈X.ex\/X.s₀.heap.objs.size<=b)/\b≠X.env.locals/\(∀ x c,X.env.cells.lookup x=U c->c≠b)/\∀ p∈X.pn++pins,p.1≠b):Inv X pins σ H' s':=by
 let(h',g',d',t',o'):=s';let e:o'=s.os:=ho;subst e;exact I.call (g':=g') (t':=t') (d':=d') u hok hg af
end
abbrev XK:=O->Ü Z->Hp->Prop
abbrev St:=G (Ü V)
variable {σ:St}
abbrev VK:=V->Hp->Prop
abbrev TE:=St->Hp->VK->Prop
abbrev TT:=St->Hp->(Ý->Hp->Prop)->Prop
abbrev TA:=St->Hp->(G V->Hp->Prop)->Prop
structure iG where
 nx:St->Hp->Prop
 rt:VK
 bk:St->Hp->Prop:=λ _ _=>False
 ct:St->Hp->Prop:=λ _ _=>False
abbrev TS:=iG->St->Hp->Prop
variable {tb:TS}
def EP(X:Cx)(pins:G (Z × Obj))(σ:St)(Q:VK)(u:O)(s':À):Prop:=∃ v H',Inv X pins σ H' s'/\b9 v u/\Q v H'
def TP(X:Cx)(pins:G (Z × Obj))(σ:St)(Q:Ý->Hp->Prop)(b:Ý)(s':À):Prop:=∃ H',Inv X pins σ H' s'/\Q b H'
def AP(X:Cx)(pins:G (Z × Obj))(σ:St)(Q:G V->Hp->Prop)(us:G O)(s':À):Prop:=∃ vs H',Inv X pins σ H' s'/\bf vs us/\Q vs H'
def SP(X:Cx)(pins:G (Z × Obj))(D:iG)(f:Flow)(s':À):Prop:=
 match f with
 | .next=>∃ σ' H',Inv X pins σ' H' s'/\D.nx σ' H'
 | .brk=>∃ σ' H',Inv X pins σ' H' s'/\D.bk σ' H'
 | .cont=>∃ σ' H',Inv X pins σ' H' s'/\D.ct σ' H'
 | .ret u=>∃ v σ' H',Inv X pins σ' H' s'/\b9 v u/\D.rt v H'
def PE(X:Cx)(e:Ò)(t:TE):Prop:=
 ∀ (pins:G (Z × Obj)) (s:À) (σ:St) (H:Hp) (Q:VK),Inv X pins σ H s->t σ H Q->Ä (É X.prog X.w) X.A (eval e X.env) (EP X pins σ Q) X.xe s
def PT(X:Cx)(e:Ò)(t:TT):Prop:=
 ∀ (pins:G (Z × Obj)) (s:À) (σ:St) (H:Hp) (Q:Ý->Hp->Prop),Inv X pins σ H s->t σ H Q->Ä (É X.prog X.w) X.A (isTrue e X.env (eval e X.env)) (TP X pins σ Q) X.xe s
def PW(X:Cx)(e:Ò)(t:TT):Prop:=
 ∀ (whole:Sem O) (pins:G (Z × Obj)) (s:À) (σ:St) (H:Hp) (Q:Ý->Hp->Prop),Inv X pins σ H s->t σ H Q->Ä (É X.prog X.w) X.A (isTrue e X.env whole) (TP X pins σ Q) X.xe s
def PW.pt{t:TT}(h:PW X e t):PT X e t:=h _
def PA(X:Cx)(es:G Ò)(t:TA):Prop:=
 ∀ (pos:Pos) (pins:G (Z × Obj)) (s:À) (σ:St) (H:Hp) (Q:G V->Hp->Prop),Inv X pins σ H s->t σ H Q->Ä (É X.prog X.w) X.A (spliced (backTo pos (starEach es X.env))) (AP X pins σ Q) X.xe s
def PS(X:Cx)(st:Stmt)(t:TS):Prop:=
 ∀ (pins:G (Z × Obj)) (s:À) (σ:St) (H:Hp) (D:iG),Inv X pins σ H s->t D σ H->Ä (É X.prog X.w) X.A (exec st X.env) (SP X pins D) X.xe s
def PSs(X:Cx)(st:G Stmt)(t:TS):Prop:=
 ∀ (pins:G (Z × Obj)) (s:À) (σ:St) (H:Hp) (D:iG),Inv X pins σ H s->t D σ H->Ä (É X.prog X.w) X.A (execs st X.env) (SP X pins D) X.xe s
theorem thn{t:Sem α}{Q Q':α->À->Prop}(h:Ä M A t Q E s)(hQ:∀ a s,Q a s->Q' a s):Ä M A t Q' E s:=Xx h hQ λ _ _ x=>x
section
variable {X:Cx}
def Q5(i:à):TE:=λ σ H Q=>∃ v,σ[i]? = U (U v)/\Q v H
def tC(v:V):TE:=λ _ H Q=>Q v H
theorem O1(hN:X.N[i]? = U x)(hv:Vis X.env.scope x)(hd:(x == ("__debug__":Ç))=Á:=by decide)(aS:(x == ("__classdict__":Ç))=Á:=by decide):PE X (.Name x pos) (Q5 i):=by
 intro pins s σ H Q I h;let(v,e,h):=h;let(m,hn,hl):=I.loc;let(u,r,l):=hl i x v hN e hv;let fin:EP X pins σ Q u s:={(v),H,I,r,h}
 rcases l with ⟨hk,hm⟩|⟨hk,c,hc,af⟩
 ·exact wpAny_Name (wpAny_loadName_local I.ok.kind hk hn hm fin) hd
 ·rcases hk with hk|hk
  ·exact wpAny_Name (wpAny_loadName_cell I.ok.kind hk hc af fin) hd
  ·exact wpAny_Name (wpAny_loadName_free I.ok.kind hk hc af fin aS) hd
theorem gI{i j pos}:PE X (.Constant (.int i) j pos) (tC (.int i)):=λ _ _ _ H _ I h=>wpAny_Constant_int {.int i,H,I.tok _,{_,J},h}
theorem gy{b j pos}:PE X (.Constant (.bool b) j pos) (tC (.bl b)):=λ _ _ _ H _ I h=>Constant_bool {.bl b,H,I,J,h}
theorem js{j pos}:PE X (.Constant .none j pos) (tC .non):=λ _ _ _ H _ I h=>Constant_none {.non,H,I,J,h}
theorem bL{x j pos}:PE X (.Constant (.str x) j pos) (tC (.str x)):=λ _ _ _ H _ I h=>Calls.Constant_str {.str x,H,I.tok _,{_,J},h}
def Gl(X:Cx)(x:Ç):Prop:=X.env.kindOf x=U .globalImplicit
theorem gK{Q:O->À->Prop}(I:Inv X pins σ H s)(hg:Gl X x)(hm:X.mg x=U u)(h:Q u s)
  (hd:(x == ("__debug__":Ç))=Á:=by decide):Ä (É X.prog X.w) X.A (eval (.Name x pos) X.env) Q E s:=
 Calls.Name_function_global I.ok.kind hg (Calls.loadGlobal_global (by rw[I.ok.glob];exact I.mod.glob.keeps I.bk) hm h) hd
theorem eP{Q:O->À->Prop}(I:Inv X pins σ H s)(hg:Gl X x)(hm:X.mg x=L)(hv:bootBuiltins x=U u)(h:Q u s)
  (hn:x ≠ "__name__":=by decide) (hd:(x == ("__debug__":Ç))=Á:=by decide):Ä (É X.prog X.w) X.A (eval (.Name x pos) X.env) Q E s:=by
 let(mb,h1,h2):=I.mod.blt;exact Calls.Name_function_global I.ok.kind hg (Calls.loadGlobal_builtin (by rw[I.ok.glob];exact I.mod.glob.keeps I.bk) hm (by rw[I.ok.blt];exact h1.keeps I.bk) ((h2 x hn).trans hv) h) hd
theorem ek{x:Ç}{v:V}{u:O}{pos:Pos}(hg:Gl X x)(hm:X.mg x=U u)(r:b9 v u)(hd:(x == ("__debug__":Ç))=Á:=by decide):PE X (.Name x pos) (tC v):=
 λ _ _ _ H _ I h=>gK I hg hm {(v),H,I,r,h} hd
theorem er{x:Ç}{v:V}{u:O}{pos:Pos}(hg:Gl X x)(hm:X.mg x=L)(hv:bootBuiltins x=U u)(r:b9 v u)(hn:x ≠ "__name__":=by decide)(hd:(x == ("__debug__":Ç))=Á:=by decide):PE X (.Name x pos) (tC v):=
 λ _ _ _ H _ I h=>eP I hg hm hv {(v),H,I,r,h} hn hd
variable {a b:Ò}{ta tb:TE}
def tB(t:TE):TT:=λ σ H Q=>t σ H λ x H1=>∃ c,x=.bl c/\Q c H1
theorem OU{t:TE}(h:PE X e t)(he:∀ whole,isTrue e X.env whole=(do let v ←whole;standAt e.pos;holding [v] (truthy v)):=by intro _;rfl):PT X e (tB t):=by
 intro pins s σ H Q I hw;refine isTrue_plain (thn (h pins s σ H _ I hw) λ v s1 ⟨x,H1,I1,r1,q1⟩=>?_) (he _);let(d,rfl,q):=q1;cases r1;exact Xq {(H1),I1,q}
variable {tA tB':TT}{dQ:G Ò}
def T6(t u:TT):TT:=λ σ H Q=>t σ H λ c H1=>if c=Y then u σ H1 Q else Q Á H1
def tOr(t u:TT):TT:=λ σ H Q=>t σ H λ c H1=>if c=Y then Q Y H1 else u σ H1 Q
def T2(t:TT):TT:=λ σ H Q=>t σ H λ c H1=>Q (!c) H1
theorem fS(ha:PT X a tA):PW X (.BoolOp .And [a] pos) tA:=by
 intro wh pins s σ H Q I h;refine isTrue_and (thn (ha pins s σ H Q I h) λ c s1 e=>?_)
 cases c with
 | true=>exact isTrue_and_nil e
 | false=>exact e
theorem OS(ha:PT X a tA):PW X (.BoolOp .Or [a] pos) tA:=by
 intro wh pins s σ H Q I h;refine isTrue_or (thn (ha pins s σ H Q I h) λ c s1 e=>?_)
 cases c with
 | false=>exact isTrue_or_nil e
 | true=>exact e
theorem OT(ha:PT X a tA)(hb:PW X (.BoolOp .And (b::dQ) pos) tB'):PW X (.BoolOp .And (a::b::dQ) pos) (T6 tA tB'):=by
 intro wh pins s σ H Q I h;refine isTrue_and (thn (ha pins s σ H _ I h) λ c s1 ⟨H1,I1,q1⟩=>?_)
 cases c with
 | true=>exact hb wh pins s1 σ H1 Q I1 q1
 | false=>exact{(H1),I1,q1}
theorem Sm(ha:PT X a tA)(hb:PW X (.BoolOp .Or (b::dQ) pos) tB'):PW X (.BoolOp .Or (a::b::dQ) pos) (tOr tA tB'):=by
 intro wh pins s σ H Q I h;refine isTrue_or (thn (ha pins s σ H _ I h) λ c s1 ⟨H1,I1,q1⟩=>?_)
 cases c with
 | true=>exact{(H1),I1,q1}
 | false=>exact hb wh pins s1 σ H1 Q I1 q1
theorem OV(ha:PT X a tA):PT X (.UnaryOp .Not a pos) (T2 tA):=by
 intro pins s σ H Q I h;exact isTrue_not (ha pins s σ H (λ c H1=>Q (!c) H1) I h)
def N6(ta tb:TE):TE:=λ σ H Q=>ta σ H λ x H1=>∃ c,x=.bl c/\if c=Y then tb σ H1 Q else Q (.bl Á) H1
def NZ(ta:TE):TE:=λ σ H Q=>ta σ H λ x H1=>∃ c,x=.bl c/\Q (.bl (!c)) H1
theorem lU{op}{t:TE}(h:PE X a t):PE X (.BoolOp op [a] pos) t:=λ pins s σ H Q I hw=>BoolOp_one (h pins s σ H Q I hw)
theorem O3(ha:PE X a ta)(hb:PE X (.BoolOp .And (b::dQ) pos) tb):PE X (.BoolOp .And (a::b::dQ) pos) (N6 ta tb):=by
 intro pins s σ H Q I h;refine BoolOp_and (thn (ha pins s σ H _ I h) λ v s1 ⟨x,H1,I1,r1,q1⟩=>?_);let(c,rfl,q1):=q1;cases r1;refine Xq ?_
 cases c with
 | true=>exact hb pins s1 σ H1 Q I1 q1
 | false=>exact{.bl Á,H1,I1,J,q1}
theorem O2(ha:PE X a ta):PE X (.UnaryOp .Not a pos) (NZ ta):=by
 intro pins s σ H Q I h;refine UnaryOp_ (thn (ha pins s σ H _ I h) λ v s1 ⟨x,H1,I1,r1,q1⟩=>?_);let(c,rfl,q1):=q1;cases r1;exact not_of (Xq {.bl (!c),H1,I1,J,q1})
def tIf(t:TT)(ta tb:TE):TE:=λ σ H Q=>t σ H λ c H1=>if c=Y then ta σ H1 Q else tb σ H1 Q
theorem qE{c:Ò}(hc:PT X c tA)(ha:PE X a ta)(hb:PE X b tb):PE X (.IfExp c a b pos) (tIf tA ta tb):=by
 intro pins s σ H Q I h;refine wpAny_IfExp (thn (hc pins s σ H _ I h) λ d s1 ⟨H1,I1,q1⟩=>?_)
 cases d with
 | true=>exact ha pins s1 σ H1 Q I1 q1
 | false=>exact hb pins s1 σ H1 Q I1 q1
end
def SqL(K:Æ)(H:Hp)(a:Z)(xs:G V):Prop:=
 Rd H a (.lst xs) \/
  ∃ (o:Obj) (its:Array O) (n:à),K.lookup a=U o/\o.cls=.type "list" /\ o.dict=L/\o.data=.seq its n/\its.size<=Å/\bf xs its.toList
def SqT(K:Æ)(H:Hp)(a:Z)(xs:G V):Prop:=
 Rd H a (.tup xs) \/
  ∃ (o:Obj) (its:Array O) (n:à),K.lookup a=U o/\o.cls=.type "tuple" /\ o.data=.seq its n/\its.size<=Å/\bf xs its.toList
def Vi:O->Ü V
 | .none=>U .non
 | .bool b=>U (.bl b)
 | .int i _=>U (.int i)
 | .str x _=>U (.str x)
 | .bytes b _=>U (.byt b)
 | .float b _=>U (.flt b)
 | .ref a=>U (.ref a)
 | .type n=>U (.ty n)
 | _=>L
theorem b9.abs{x:V}(r:b9 x u):Vi u=U x:=by
 cases x with
 | non=>cases r;rfl
 | bl _=>cases r;rfl
 | int _=>let(t,rfl):=r;rfl
 | str _=>let(t,rfl):=r;rfl
 | byt _=>let(t,rfl):=r;rfl
 | flt _=>let(t,rfl):=r;rfl
 | ref _=>cases r;rfl
 | ty _=>cases r;rfl
def b9.inj{x y:V}(r:b9 x u)(q:b9 y u):x=y:=We (r.abs.symm.trans q.abs)
theorem bf.inj:∀ {xs ys:G V}{us:G O},bf xs us->bf ys us->xs=ys
 | _,_,_,.nil,.nil=>rfl
 | _,_,_,.cons r t,.cons r' t'=>by rw[r.inj r',bf.inj t t']
section
variable {xs ys:G V}
def SqL.of(h:H a=U (.lst xs)):SqL K H a xs:=.inl (.inl h)
def SqT.of(h:H a=U (.tup xs)):SqT K H a xs:=.inl (.inl h)
theorem Inv.list(I:Inv X pins σ H s)(h:SqL X.K H a xs):∃ its:G O,bf xs its/\PlainL s.heap a its.toArray/\xs.length<=Å:=by
 rcases h with h|⟨o,its,n,hk,hc,hd,hs,hz,r⟩
 ·let(z,its,n,r,e):=h.ok I.hok;exact{its,r,{_,n,e,J,J,J},z}
 ·refine{its.toList,r,{o,n,I.kIn a o hk,hc,hd,by simpa using hs},?_};let e:=r.length;simp only[Y1] at e;omega
theorem Inv.tuple(I:Inv X pins σ H s)(h:SqT X.K H a xs):∃ its:G O,bf xs its/\IsTup s.heap a its.toArray/\xs.length<=Å:=by
 rcases h with h|⟨o,its,n,hk,hc,hs,hz,r⟩
 ·let(z,its,r,p):=h.ok I.hok;exact{(its),r,p,z}
 ·refine{its.toList,r,{o,I.kIn a o hk,hc,n,by simpa using hs},?_};let e:=r.length;simp only[Y1] at e;omega
theorem Inv.list_inj(I:Inv X pins σ H s)(h:SqL X.K H a xs)(h':SqL X.K H a ys):xs=ys:=by
 let(its,r,(o,n,e,_,_,d),_):=I.list h;let(its',r',(o',n',e',_,_,d'),_):=I.list h';rw[e] at e';cases e';rw[d] at d'
 injection d' with d1 _
 have:its=its':=by simpa using W2 Array.toList d1
 subst this;exact r.inj r'
theorem Inv.tuple_inj(I:Inv X pins σ H s)(h:SqT X.K H a xs)(h':SqT X.K H a ys):xs=ys:=by
 let(its,r,(o,e,_,n,d),_):=I.tuple h;let(its',r',(o',e',_,n',d'),_):=I.tuple h';rw[e] at e';cases e';rw[d] at d'
 injection d' with d1 _
 have:its=its':=by simpa using W2 Array.toList d1
 subst this;exact r.inj r'
end
abbrev Cx.wish(X:Cx)(E:O->À->Prop):Cx:={ X with xe:=E }
abbrev Cx.nox(X:Cx):Cx:=X.wish λ _ _=>False
def Cx.Ok.wish(ok:X.Ok)(E:O->À->Prop):(X.wish E).Ok:=
 ⟨ok.mod,ok.kind,ok.glob,ok.blt,ok.above,ok.inj,ok.has,ok.cab,ok.hd,ok.sf,ok.frames,ok.stk,ok.exf,ok.bs,ok.bsz,ok.noex,ok.exfs,ok.funs,ok.frf⟩
def Cx.Ok.unwish(ok:(X.wish E).Ok):X.Ok:=
 ⟨ok.mod,ok.kind,ok.glob,ok.blt,ok.above,ok.inj,ok.has,ok.cab,ok.hd,ok.sf,ok.frames,ok.stk,ok.exf,ok.bs,ok.bsz,ok.noex,ok.exfs,ok.funs,ok.frf⟩
def Inv.wish(I:Inv X pins σ H s)(E:O->À->Prop):Inv (X.wish E) pins σ H s:={I.ok.wish E,I.os,I.bare,I.base,I.loc,I.cell,I.free,I.freeC,I.pin,I.hok,I.len}
def Inv.unwish(I:Inv (X.wish E) pins σ H s):Inv X pins σ H s:={(I.ok.unwish),I.os,I.bare,I.base,I.loc,I.cell,I.free,I.freeC,I.pin,I.hok,I.len}
theorem SP.unwish{D:iG}{f:Flow}{s':À}(h:SP (X.wish E) pins D f s'):SP X pins D f s':=by
 cases f with
 | next=>let(σ',H',I,q):=h;exact{(σ'),H',I.unwish,q}
 | brk=>let(σ',H',I,q):=h;exact{(σ'),H',I.unwish,q}
 | cont=>let(σ',H',I,q):=h;exact{(σ'),H',I.unwish,q}
 | ret u=>let(v,σ',H',I,r,q):=h;exact{(v),σ',H',I.unwish,r,q}
theorem PSs.nox{st:G Stmt}{t:TS}(h:PSs X.nox st t):PSs X st t:=λ pins s σ H D I hw=>
 Xx (h pins s σ H D (I.wish _) hw) (λ _ _ q=>q.unwish) λ _ _ z=>False.elim z
section
variable {st:Stmt}{dQ:G Stmt}{t u:TS}{te:TE}
def N2:TS:=λ D σ H=>D.nx σ H
def TX(t u:TS):TS:=λ D σ H=>t { D with nx:=u D } σ H
def au:PSs X [] N2:=λ _ _ σ H _ I h=>Yx {(σ),H,I,h}
theorem jB(h1:PS X st t)(h2:PSs X dQ u):PSs X (st::dQ) (TX t u):=by
 intro pins s σ H D I h;refine wpAny_execs_cons (thn (h1 pins s σ H { D with nx:=u D } I h) λ f s1 q=>?_)
 cases f with
 | next=>
  let(σ',H',I',q):=q;exact h2 pins s1 σ' H' D I' q
 | ret v=>exact q
 | brk=>exact q
 | cont=>exact q
theorem p8(h1:PS X st t):PSs X [st] t:=by
 intro pins s σ H D I h;refine wpAny_execs_cons (thn (h1 pins s σ H D I h) λ f s1 q=>?_)
 cases f with
 | next=>exact Yx q
 | ret v=>exact q
 | brk=>exact q
 | cont=>exact q
theorem Inv.quiet(I:Inv X pins σ H s):interactive X.env=Á:=by simp[interactive,I.ok.kind]
def N3(te:TE):TS:=λ D σ H=>te σ H λ _ H1=>D.nx σ H1
theorem KN(he:PE X e te)(hs:swapsWith e L pos.line X.env=pure Á:=by rfl):PS X (.Expr e pos) (N3 te):=by
 intro pins s σ H D I h;exact wpAny_Expr_any (thn (he pins s σ H _ I h) λ v s1 ⟨x,H1,I1,r1,q1⟩=>{(σ),H1,I1,q1}) I.quiet hs
def TZ(te:TE):TS:=λ D σ H=>te σ H D.rt
theorem AS(he:PE X e te):PS X (.Return (U e) pos) (TZ te):=by
 intro pins s σ H D I h;exact wpAny_Return_some (thn (he pins s σ H _ I h) λ v s1 ⟨x,H1,I1,r1,q1⟩=>{(x),σ,H1,I1,r1,q1})
def NJ(c:TT)(t u:TS):TS:=λ D σ H=>c σ H λ b H1=>if b=Y then t D σ H1 else u D σ H1
theorem JU{c:Ò}{a b:G Stmt}{tc:TT}(hc:PT X c tc)(ha:PSs X a t)(hb:PSs X b u):PS X (.If c a b pos) (NJ tc t u):=by
 intro pins s σ H D I h;refine wpAny_If (thn (hc pins s σ H _ I h) λ d s1 ⟨H1,I1,q1⟩=>?_)
 cases d with
 | true=>exact ha pins s1 σ H1 D I1 q1
 | false=>exact hb pins s1 σ H1 D I1 q1
def IU:TS:=λ _ _ _=>False
def cy:PS X st IU:=λ _ _ _ _ _ _ h=>h.elim
def bG{af:G Stmt}:PSs X af IU:=λ _ _ _ _ _ _ h=>h.elim
end
abbrev TG:=V->St->Hp->(St->Hp->Prop)->Prop
abbrev TGs:=G V->St->Hp->(St->Hp->Prop)->Prop
def PG(X:Cx)(target:Ò)(t:TG):Prop:=
 ∀ (pins:G (Z × Obj)) (s:À) (σ:St) (H:Hp) (v:V) (u:O) (Q:St->Hp->Prop),Inv X pins σ H s->b9 v u->t v σ H Q →
  Ä (É X.prog X.w) X.A (assign target X.env u) (λ _ s'=>∃ σ' H',Inv X pins σ' H' s'/\Q σ' H') X.xe s
def PGs(X:Cx)(ts:G Ò)(t:TGs):Prop:=
 ∀ (pins:G (Z × Obj)) (s:À) (σ:St) (H:Hp) (vs:G V) (us:G O) (Q:St->Hp->Prop),Inv X pins σ H s->bf vs us->t vs σ H Q →
  Ä (É X.prog X.w) X.A (assignInOrder ((assignEach ts X.env).map (·.2)) us) (λ _ s'=>∃ σ' H',Inv X pins σ' H' s'/\Q σ' H') X.xe s
abbrev IJ:=V->V->V->Hp->(Hp->Prop)->Prop
def UM(X:Cx)(t:IJ):Prop:=
 ∀ (pins:G (Z × Obj)) (s:À) (σ:St) (H:Hp) (o i v:V) (ov iv u:O) (Q:Hp->Prop),Inv X pins σ H s->b9 o ov->b9 i iv->b9 v u->t o i v H Q →
  Ä (É X.prog X.w) X.A (setItem ov iv u) (λ _ s'=>∃ H',Inv X pins σ H' s'/\Q H') X.xe s
theorem rF:entryFor table "proto.unchain"=U Builtin.«proto.unchain»:=entryFor_of_tree (by kernel_rfl)
section
variable {prog:Ë}
theorem FZ{Q:α->À->Prop}{e:Z}{oe:Obj}{ve:Array O}(hs:SfN A s.heap [e])(he:s.heap.get? e=U oe)(de:oe.data=.fields ve)(hz:2<ve.size)
  (hE:∀ h' o',(∀ b o,b≠e->s.heap.get? b=U o->h'.get? b=U o)->h'.get? e=U o'->o'.cls=oe.cls->E (.ref e) { s with heap:=h' }):Ä (É prog w) A (raiseNew (.ref e)) Q E s:=by
 cases hh:A.handled with
 | none=>exact wpAny_raiseNew_none hh (hE s.heap oe (λ _ _ _ q=>q) he J)
 | some a=>
 let(h,oh,rfl,af,(vh,dh,n2),ne):=hs a hh;simp only[raiseNew];refine My (wpAny_handled ?_);rw[hh];let nb:((Ê h != Ê e)=Y):=by simp;simpa using ne
 show Ä _ _ (if (Ê h != Ê e)=Y then _ else _) _ _ _
 rw[if_pos nb];refine wpAny_bind (wpAny_holding (wpAny_runValue (codeAny_builtin rF ?_)));unfold Builtin.«proto.unchain»;refine wpAny_bind (wpAny_field af dh n2 ?_);rw[if_pos (by decide)];refine wpAny_pure ?_;refine wpAny_bind (m:=setField (.ref e) 2 (.ref h)) (wpAny_setField he de hz (wpAny_throw ?_));exact hE _ _ (λ b o q r=>((Heap.SameBut.update ..).2 b q).trans r) (Heap.get?_update_self _ he (Obj.isFreed_of_fields (Obj.data_mapFields de _))) (Obj.cls_mapFields ..)
theorem jV{Q:α->À->Prop}(hs:SfN A s.heap [])
  (hE:∀ h' e,(∀ b o,s.heap.get? b=U o->h'.get? b=U o)->(∃ o,h'.get? e=U o/\o.cls=.type "StopIteration")->E (.ref e) { s with heap:=h' }):Ä (É prog w) A (newExc (.type "StopIteration") [] >>= λ e=>raiseNew e) Q E s:=by
 refine My ?_;simp only[newExc,newTuple];refine My (Yi ?_ (by size_fits));refine My (m:=firstArgMember _ _) (wpAny_of_eq (a:=Ñ) (by first|rfl|(simp only[firstArgMember];rfl)) ?_);refine Yi ?_ (by size_fits)
 let hz:2<(#[Ê %[s|99],Ñ,Ñ,Ñ,Value.bool Á,Ñ]++ownMembersOf (Ø "StopIteration") []).size:=by
  rw[Array.size_append];show 2<6+_;omega
 let ne:∀ b o,s.heap.get? b=U o->b≠(s.heap.push { cls:=Ø "tuple",data:=Data.seq #[] }).objs.size:=λ b o q z=>by
  let hb:=VE q;rw[z,V9] at hb;exact Þ hb (Nat.not_lt.mpr (XM _))
 refine FZ (λ a ha=>?_) (VG _ J) J hz λ h' o' k aS aX=>hE h' _ (λ b o q=>k b o (ne b o q) (Vz _ (Vz _ q))) {(o'),aS,aX};let(h,oh,e,af,nc,_):=hs a ha;exact{h,oh,e,Vz _ (Vz _ af),nc,λ z=>ne h oh af (VO.mp z)}
theorem fh{l:Z}{items}{Q:Ü O->À->Prop}(hs:SfN A s.heap [it])
  (hit:s.heap.IsListIter it l i) (hl:s.heap.IsList l items) (hx:items[i]? = L)
  (hQ:∀ h',Heap.ExtBut it s.heap h'->Q L { s with heap:=h' }):Ä (É prog w) A (pyNext (.ref it)) Q E s:=by
 let(o,ho,hc,hd):=id hit;let(ol,af,_,nl,aS):=hl;unfold pyNext
 refine My (WR (Wb (name:=Õ "__next__") hit.typeIs YB
  (Wu YB hit.typeIs entry_listiter_next ?_ (args_listiter_next _))))
 show Ä _ _ (field (.ref it) 0 >>= _) _ _ s
 refine My (VV ho hd (x:=.ref l) J ?_)
 show Ä _ _ (if (Ê l == Ñ)=Y then _ else _) _ _ s
 rw[VY (show ¬ ((Ê l == Ñ)=Y) from VJ)]
 show Ä _ _ (field (.ref it) 1 >>= _) _ _ s
 refine My (VV ho hd (x:=.int i 0) J ?_)
 show Ä _ _ (seqItems? (.ref l) >>= _) _ _ s
 refine My (V2 af aS ?_);simp only[VW,hx];refine My (Xr (My (W9 ho hd (by simp) ?_)));let sb:=WE s.heap it (Obj.mapFields (·.setIfInBounds 0 Ñ))
 show Ä _ _ (newExc (.type "StopIteration") [] >>= _) _ _ _
 refine jV (hs.ext (λ b o n q=>(sb.2 b (by simpa using n)).trans q) λ _ z=>nomatch z) λ h' e kp aX=>?_;refine My (Xg (T := "StopIteration") (b:=Y) aX XT ?_);exact VC (hQ _ λ b o hb q=>kp b o ((sb.2 b hb).trans q))
theorem eK{l:Z}{items}{Q:Ü O->À->Prop}(hs:SfN A s.heap [it])
  (hit:s.heap.IsTupleIter it l i) (hl:s.heap.IsTuple l items) (hx:items[i]? = L)
  (hQ:∀ h',Heap.ExtBut it s.heap h'->Q L { s with heap:=h' }):Ä (É prog w) A (pyNext (.ref it)) Q E s:=by
 let(o,ho,hc,hd):=id hit;let(ol,af,_,nl,aS):=hl;unfold pyNext
 refine My (WR (Wb (name:=Õ "__next__") hit.typeIs WW
  (Wu WW hit.typeIs Yz ?_ (Yw _))))
 show Ä _ _ (field (.ref it) 0 >>= _) _ _ s
 refine My (VV ho hd (x:=.ref l) J ?_)
 show Ä _ _ (if (Ê l == Ñ)=Y then _ else _) _ _ s
 rw[VY (show ¬ ((Ê l == Ñ)=Y) from VJ)]
 show Ä _ _ (field (.ref it) 1 >>= _) _ _ s
 refine My (VV ho hd (x:=.int i 0) J ?_)
 show Ä _ _ (seqItems? (.ref l) >>= _) _ _ s
 refine My (V2 af aS ?_);simp only[VW,hx];refine My (Xr (My (W9 ho hd (by simp) ?_)));let sb:=WE s.heap it (Obj.mapFields (·.setIfInBounds 0 Ñ))
 show Ä _ _ (newExc (.type "StopIteration") [] >>= _) _ _ _
 refine jV (hs.ext (λ b o n q=>(sb.2 b (by simpa using n)).trans q) λ _ z=>nomatch z) λ h' e kp aX=>?_;refine My (Xg (T := "StopIteration") (b:=Y) aX XT ?_);exact VC (hQ _ λ b o hb q=>kp b o ((sb.2 b hb).trans q))
theorem jh{x left step:B}{Q:Ü O->À->Prop}(hs:SfN A s.heap [])(hit:IsRangeIter s.heap it x left step)(af:left<=0)
  (hQ:∀ h',Heap.ExtBut it s.heap h'->Q L { s with heap:=h' }):Ä (É prog w) A (pyNext (.ref it)) Q E s:=by
 let hT:s.TypeIs (.ref it) "range_iterator":={_,hit,J};unfold pyNext
 refine My (WR (Wb (name:=Õ "__next__") hT F.slot_range_iterator_next
  (Wu F.slot_range_iterator_next hT F.entry_range_iterator_next ?_ (F.args_range_iterator_next_1 _))))
 show Ä _ _ (field (.ref it) 0 >>= _) _ _ s
 refine My (VV hit J (x:=rawInt x) J ?_)
 show Ä _ _ (field (.ref it) 1 >>= _) _ _ s
 refine My (VV hit J (x:=rawInt left) J ?_)
 show Ä _ _ (field (.ref it) 2 >>= _) _ _ s
 refine My (VV hit J (x:=rawInt step) J ?_)
 show Ä _ _ (if left<=0 then _ else _) _ _ s
 rw[V7 af];refine My (Xr ?_);refine My ?_
 show Ä _ _ (newExc (.type "StopIteration") [] >>= _) _ _ _
 refine jV hs λ h' e kp aS=>?_;refine My (Xg (T := "StopIteration") (b:=Y) aS XT ?_);exact VC (hQ _ λ b o _ q=>kp b o q)
end
section
variable {prog:Ë}
theorem rK{env:Env}{elts:G Ò}{x1}{t:Z}{items:Array O}(hs:SfN A s.heap [])(ht:IsTup s.heap t items)
  (hn:(assignEach elts env).length=items.size) (af:(assignEach elts env).findIdx? (·.1)=L)
  (h:∀ h':Í,Heap.ExtBut %[s|99] s.heap h'->Ä (É prog w) A (assignInOrder ((assignEach elts env).map (·.2)) items.toList) Q E { s with heap:=h' }) :
  Ä (É prog w) A (assign (.Tuple elts x1 pos) env (.ref t)) Q E s:=by
 let aX:t≠%[s|99]:=by let(o,ho,_):=ht;exact VQ (VE ho)
 rw[assign_Tuple];refine wpAny_bind (wpAny_standAt ?_);unfold unpack;rw[hn,af];refine wpAny_bind (wpAny_holding ?_);unfold unpackItems;refine wpAny_bind ?_;unfold notIterableAtAll;refine wpAny_bind (wpAny_specialOf ht.typeIs slot_tuple_iter.lookup ?_);refine wpAny_pure ?_;simp only[Bool.false_eq_true,if_false];refine wpAny_bind (wpAny_holding (iter_tuple ht ?_));refine wpAny_bind (wpAny_holding (draw_tuple aX items.size 0 _ _ ⟨_,Heap.get?_push_size _ J,J,J⟩ (ht.push _) (by omega) λ h₁ a3 aS=>?_))
 let a4:List.take items.size (List.drop 0 items.toList)=items.toList:=by
  rw[Zv];exact W6 (by simp)
 rw[a4];rw[VY (by simp)];let a5:IsTup h₁ t items:=(ht.push _).extBut aS.extBut aX;refine My (Wh (eK (λ a ha=>(by let(e,oe,h1,h2,h3,_):=hs a ha;let ne:=VQ (VE h2);exact{e,oe,h1,aS.extBut _ _ ne (Vz _ h2),h3,λ z=>ne (VO.mp z)})) a3 (show h₁.IsTuple t items from a5) (by simp) λ h₂ a6=>?_));simp only[Option.isSome_none,WQ,XU];exact VC (h h₂ λ b o hb e=>a6 b o hb (aS.extBut b o hb (Vz _ e)))
end
section
variable {X:Cx}{pos:Pos}
def dc(i:à):TG:=λ v σ H Q=>Q (σ.set i (U v)) H
theorem Bz{i:à}{x:Ç}(hN:X.N.Nodup)(hi:X.N[i]? = U x)(hx:Loc X.env.scope x)(hf:X.fn x=Y\/X.env.scope.names.lookup x=U .local:=by first|exact .inl rfl|exact .inr rfl|assumption):PG X (.Name x pos) (dc i):=by
 intro pins s σ H v u Q I r h;exact wpAny_assign_Name (qi I hN hi hx r (λ s' I'=>{_,H,I',h}) hf)
def UL:TGs:=λ vs σ H Q=>vs=[]/\Q σ H
def OD(t:TG)(u:TGs):TGs:=λ vs σ H Q=>∃ v r,vs=v::r/\t v σ H λ σ' H'=>u r σ' H' Q
theorem KW:PGs X [] UL:=by
 intro pins s σ H vs us Q I r h;let(e,h):=h;subst e;cases r;exact assignInOrder_nil {(σ),H,I,h}
theorem Gi{es:G Ò}{t:TG}{u:TGs}(h1:PG X e t)(h2:PGs X es u)
  (hs:(assignEach (e::es) X.env).map (·.2)=assign e X.env::(assignEach es X.env).map (·.2):=by rfl):PGs X (e::es) (OD t u):=by
 intro pins s σ H vs us Q I r h;let(v,vr,e1,h):=h;subst e1
 cases r with
 | cons r rr=>
  rw[hs];refine assignInOrder_cons (thn (h1 pins s σ H _ _ _ I r h) λ _ s1 ⟨σ1,H1,I1,q1⟩=>?_);exact h2 pins s1 σ1 H1 _ _ Q I1 rr q1
def UJ(K:Æ)(n:à)(t:TGs):TG:=λ v σ H Q=>∃ a xs,v=.ref a/\SqT K H a xs/\xs.length=n/\t xs σ H Q
theorem O0{es:G Ò}{k:à}{t:TGs}{n:à}(h:PGs X es t)
  (hn:(assignEach es X.env).length=n:=by rfl) (af:(assignEach es X.env).findIdx? (·.1)=L:=by rfl):PG X (.Tuple es k pos) (UJ X.K n t):=by
 intro pins s σ H v u Q I r hw;let(a,xs,e1,hq,hl,hw):=hw;subst e1;cases r;let(its,rv,ht,hz):=I.tuple hq;refine rK (I.sfn [] λ _ z=>nomatch z) ht (by simp[hn,←hl,rv.length]) af λ h' hx=>?_;let I1:Inv X pins σ H { s with heap:=h' }:=I.kept (t':=s.toks) λ b o e=>hx b o (VQ (VE e)) e;exact h pins _ σ H xs _ Q I1 (by simpa using rv) hw
def UK(to ti:TE)(t:IJ):TG:=λ v σ H Q=>to σ H λ o H1=>ti σ H1 λ i H2=>t o i v H2 λ H3=>Q σ H3
theorem wK{o i:Ò}{to ti:TE}{t:IJ}(ho:PE X o to)(hi:PE X i ti)(hs:UM X t)
  (ha:∀ v,assign (.Subscript o i pos) X.env v=(do
   let ov ←holding [v] (eval o X.env)
   let iv ←holding [v,ov] (eval i X.env)
   standAt pos
   holding [v,ov,iv] (setItem ov iv v)
   release [v,ov,iv] []):=by intro _;rfl):PG X (.Subscript o i pos) (UK to ti t):=by
 intro pins s σ H v u Q I r h;rw[ha];refine My (Wh (thn (ho pins s σ H _ I h) λ ov s1 ⟨x,H1,I1,r1,q1⟩=>?_));refine My (Wh (thn (hi pins s1 σ H1 _ I1 q1) λ iv s2 ⟨y,H2,I2,r2,q2⟩=>?_));refine My (XH (My (Wh (thn (hs pins s2 σ H2 x y v ov iv u _ I2 r1 r2 r q2) λ _ s3 ⟨H3,I3,q3⟩=>?_))));exact wpAny_release {(σ),H3,I3,q3}
def Ru(te:TE)(g:TG):TS:=λ D σ H=>te σ H λ x H1=>g x σ H1 D.nx
theorem rT{te:TE}{g:TG}(he:PE X e te)(hg:PG X tg g)(hs:swapsWithSole [tg] e pos.line X.env=pure Á:=by rfl)(hw:swappedStores [tg] e X.env=pure L:=by rfl)
  (h1:(assignEach [tg] X.env).map (·.2)=[assign tg X.env]:=by rfl):PS X (.Assign [tg] e pos) (Ru te g):=by
 intro pins s σ H D I h;refine wpAny_Assign_stores (thn (he pins s σ H _ I h) λ v s1 ⟨x,H1,I1,r1,q1⟩=>?_) hs hw;rw[h1];exact thn (hg pins s1 σ H1 x v _ I1 r1 q1) λ _ s2 q=>q
theorem gH{i:à}{x:Ç}{e:Ò}{te:TE}{pos':Pos}(hN:X.N.Nodup)(hi:X.N[i]? = U x)(hx:Loc X.env.scope x)(he:PE X e te)(hs:swapsWith e (U (.Name x pos')) pos.line X.env=pure Á:=by rfl)(hf:X.fn x=Y\/X.env.scope.names.lookup x=U .local:=by first|exact .inl rfl|exact .inr rfl|assumption) :
  PS X (.Assign [.Name x pos'] e pos) (Ru te (dc i)):=by
 intro pins s σ H D I h;refine wpAny_Assign_Name (thn (he pins s σ H _ I h) λ v s1 ⟨y,H1,I1,r1,q1⟩=>?_) hs;exact qi I1 hN hi hx r1 (λ s2 I2=>{_,H1,I2,q1}) hf
end
def Aw(c:TT)(tb:TS):TS:=λ D σ H=>∃ W:à->St->Hp->Prop,(∃ m,W m σ H)/\∀ m σ H,W m σ H →
 c σ H λ b H1=>if b=Y then ∃ N:St->Hp->Prop,(∀ σ' H',N σ' H'->∃ m',m' < m/\W m' σ' H')/\tb { D with nx:=N,ct:=N,bk:=D.nx } σ H1 else D.nx σ H1
theorem xl{c:Ò}{tc:TT}(hp:PassesOwn (É X.prog X.w) X.A X.env X.xe)(hc:PT X c tc)(hb:PSs X body tb):PS X (.While c body [] pos) (Aw tc tb):=by
 intro pins s σ H D I h;let(W,(m0,w0),turn):=h;refine wpAny_While (codeAny_whileLoop (λ n s'=>∃ σ' H',Inv X pins σ' H' s'/\W n σ' H') ?_ m0 {(σ),H,I,w0});rintro n s1 ⟨σ1,H1,I1,w1⟩;refine XD hp (thn (hc pins s1 σ1 H1 _ I1 (turn n σ1 H1 w1)) λ b s2 ⟨H2,I2,q2⟩=>?_)
 cases b with
 | true=>
  let(N,hN,q2):=q2;rw[V7 J];refine XD hp (thn (hb pins s2 σ1 H2 _ I2 q2) λ f s3 q3=>?_)
  cases f with
  | next=>
   let(σ3,H3,I3,n3):=q3;let(m',hm,w3):=hN σ3 H3 n3;exact{(m'),hm,σ3,H3,I3,w3}
  | cont=>
   let(σ3,H3,I3,n3):=q3;let(m',hm,w3):=hN σ3 H3 n3;exact{(m'),hm,σ3,H3,I3,w3}
  | brk=>exact q3
  | ret v=>exact q3
 | false=>
  rw[VY VJ];exact Yx {(σ1),H2,I2,q2}
structure It where
 go:à->Hp->Prop
 yld:à->Hp->V->Hp->Prop
 stop:à->Hp->Prop
def yk(X:Cx)(pins:G (Z × Obj))(H:Hp)(b:Z):Prop:=
 H b=L/\b≠X.env.locals/\b ∉ X.fs/\(b∈X.ex\/X.s₀.heap.objs.size<=b)/\(∀ x c,X.env.cells.lookup x=U c->c≠b)/\∀ p∈X.pn++pins,p.1≠b
theorem Inv.fpOk{H':Hp}(I:Inv X pins σ H s)(hb:%[s|99]<=b)(hn:H' b=L):yk X pins H' b:=by
 refine{hn,Wn (VR I.lt hb),I.nofs hb,.inr (Wo I.sz hb),λ x c e z=>?_,λ p hp z=>?_}
 ·let(v,q):=I.cell x c e;exact Þ (VR q.lt (by rw[z];exact hb)) (WA _)
 ·exact Þ (VR (VE (I.pin p hp).1) (by rw[z];exact hb)) (WA _)
structure E4(P:Ë)(w:Ï)(K:Æ)(A:Î)(tg:Ò)(ww:It)(fp:G Z)(it:Z)(tn:à->Í->Prop):Prop where
 mem:it∈fp
 obj:∀ i h,tn i h->∀ b∈fp,∃ o,h.get? b=U o/\∀ v,o.data ≠ .cell v
 keep:∀ i h h',tn i h->(∀ b∈fp,∀ o,h.get? b=U o->h'.get? b=U o)->tn i h'
 item:∀ (X:Cx),X.prog=P->X.w=w->X.K=K->X.A=A->∀ (i:à) (pins:G (Z × Obj)) (s:À) (σ:St) (H:Hp) (E:O->À->Prop),Inv X pins σ H s->(∀ b∈fp,yk X pins H b)->tn i s.heap->ww.go i H →
  Ä (É P w) X.A (pyNext (.ref it)) (λ r s1=>∃ u,r=U u /\
   Ä (É P w) X.A (letOwnedTupleGo tg (.ref it) u) (λ _ s2=>∃ x H',Inv X pins σ H' s2/\b9 x u/\ww.yld i H x H'/\tn (i+1) s2.heap/\∀ b∈fp,H' b=L) E s1) E s
 done:∀ (X:Cx),X.prog=P->X.w=w->X.K=K->X.A=A->∀ (i:à) (pins:G (Z × Obj)) (s:À) (σ:St) (H:Hp) (E:O->À->Prop),Inv X pins σ H s->(∀ b∈fp,yk X pins H b)->tn i s.heap->ww.stop i H →
  Ä (É P w) X.A (pyNext (.ref it)) (λ r s1=>r=L/\Inv X pins σ H s1) E s
 self:∀ (A:Î) (i:à) (s:À) (Q:O->À->Prop) (E:O->À->Prop),tn i s.heap->Q (.ref it) s->Ä (É P w) A (pyIter (.ref it)) Q E s
abbrev TI:=St->Hp->(It->Hp->Prop)->Prop
def PIE(X:Cx)(pins:G (Z × Obj))(σ:St)(tg:Ò)(R:It->Hp->Prop)(af:O)(s2:À):Prop:=
 ∃ (it:Z) (fp:G Z) (tn:à->Í->Prop) (ww:It) (H':Hp),af=.ref it/\Inv X pins σ H' s2/\E4 X.prog X.w X.K X.A tg ww fp it tn/\tn 0 s2.heap/\(∀ b∈fp,yk X pins H' b)/\R ww H'
def PI(X:Cx)(tg iter:Ò)(wi:TI):Prop:=
 ∀ (pins:G (Z × Obj)) (s:À) (σ:St) (H:Hp) (R:It->Hp->Prop),Inv X pins σ H s->wi σ H R →
  Ä (É X.prog X.w) X.A (eval iter X.env) (λ v s1=>Ä (É X.prog X.w) X.A (pyIter v) (PIE X pins σ tg R) X.xe s1) X.xe s
theorem Fs{o:Obj}{n:String}{vs:Array O}(ho:s.heap.get? it=U o)(hc:o.cls=.type n)(hd:o.data=.fields vs)
    (hn:["enumerate", "zip", "dict_itemiterator", "dict_reverseitemiterator", "odict_iterator", "itertools.zip_longest", "itertools.pairwise"].contains n=Á) (hQ:Q () s):Ä M A (letOwnedTupleGo tg (.ref it) u) Q E s:=by
  unfold letOwnedTupleGo
  cases tg<;>first
    | exact VC hQ
    | (cases u<;>first
        | exact VC hQ
        | (refine My (wpAny_load ho ?_)
           rw[hc,hd]
           show Ä M A (if (["enumerate", "zip", "dict_itemiterator", "dict_reverseitemiterator", "odict_iterator", "itertools.zip_longest", "itertools.pairwise"].contains n && vs[0]? == U (rawInt _))=Y then _ else _) Q E s
           rw[VY (by intro h;rw[hn,YW] at h;cases h)];exact VC hQ))
def Itl(K:Æ)(a:Z):It:=
 ⟨λ i H=>∃ xs x,SqL K H a xs/\xs[i]? = U x,λ i H x H'=>H'=H/\∀ xs,SqL K H a xs->xs[i]? = U x,λ i H=>∃ xs,SqL K H a xs/\xs.length<=i⟩
def Itt(K:Æ)(a:Z):It:=
 ⟨λ i H=>∃ xs x,SqT K H a xs/\xs[i]? = U x,λ i H x H'=>H'=H/\∀ xs,SqT K H a xs->xs[i]? = U x,λ i H=>∃ xs,SqT K H a xs/\xs.length<=i⟩
def Itr(lo:B)(n:à):It:={λ i _=>i<n,λ i H x H'=>H'=H/\x=.int (lo+i),λ i _=>n<=i}
theorem CC(a it:Z):E4 P w K A tg (Itl K a) [it] it (λ i h=>h.IsListIter it a i) where
 mem:=by simp
 obj:=λ i h st b hb=>by
  let e:b=it:=by simpa using hb
  subst e;let(o,e,c,d):=st;exact{o,e,λ v z=>by rw[d] at z;cases z}
 keep:=λ i h h' st k=>st.at λ o e=>k it (by simp) o e
 item:=by
  intro X hP hw hK hc i pins s σ H E I hf st hg;subst hP hw hK;let(xs,x,hq,hx):=hg;let(its,rv,p,hz):=I.list hq;let(u,hu,ru):=rv.get hx;let(f0,f1,f2,f3,f4,f5):=hf it (by simp);refine wpAny_pyNext_list_item st p.isList (x:=u) (by simpa using hu) λ h' af sb=>?_;let I1:Inv X pins σ H { s with heap:=h' }:=I.turned (t':=s.toks) (λ b o hb e=>(sb.2 b hb).trans e) f0 f1 f3 f4 f5;let(o,e,c,d):=id af;exact{u,J,Fs (s:={ s with heap:=h' }) e c d (by decide) {x,H,I1,ru,{J,λ ys hy=>by rw[I.list_inj hy hq];exact hx},af,λ b hb=>(hf b hb).1}}
 done:=by
  intro X hP hw hK hc i pins s σ H E I hf st hg;subst hP hw hK;let(xs,hq,hx):=hg;let(its,rv,p,hz):=I.list hq;let(f0,f1,f2,f3,f4,f5):=hf it (by simp);let hl:=rv.length;exact fh (I.sfn [it] λ b hb=>by rw[VO.mp hb];exact f0) st p.isList (by simp;omega) λ h' eb=>{J,I.turned (t':=s.toks) (λ b o hb e=>eb b o hb e) f0 f1 f3 f4 f5}
 self:=λ _ _ _ _ _ st h=>wpAny_pyIter_listiter st h
theorem yu(a it:Z):E4 P w K A tg (Itt K a) [it] it (λ i h=>h.IsTupleIter it a i) where
 mem:=by simp
 obj:=λ i h st b hb=>by
  let e:b=it:=by simpa using hb
  subst e;let(o,e,c,d):=st;exact{o,e,λ v z=>by rw[d] at z;cases z}
 keep:=λ i h h' st k=>st.at λ o e=>k it (by simp) o e
 item:=by
  intro X hP hw hK hc i pins s σ H E I hf st hg;subst hP hw hK;let(xs,x,hq,hx):=hg;let(its,rv,p,hz):=I.tuple hq;let(u,hu,ru):=rv.get hx;let(f0,f1,f2,f3,f4,f5):=hf it (by simp);refine wpAny_pyNext_tuple_item st (show s.heap.IsTuple a its.toArray from p) (x:=u) (by simpa using hu) λ h' af sb=>?_;let I1:Inv X pins σ H { s with heap:=h' }:=I.turned (t':=s.toks) (λ b o hb e=>(sb.2 b hb).trans e) f0 f1 f3 f4 f5;let(o,e,c,d):=id af;exact{u,J,Fs (s:={ s with heap:=h' }) e c d (by decide) {x,H,I1,ru,{J,λ ys hy=>by rw[I.tuple_inj hy hq];exact hx},af,λ b hb=>(hf b hb).1}}
 done:=by
  intro X hP hw hK hc i pins s σ H E I hf st hg;subst hP hw hK;let(xs,hq,hx):=hg;let(its,rv,p,hz):=I.tuple hq;let(f0,f1,f2,f3,f4,f5):=hf it (by simp);let hl:=rv.length;exact eK (I.sfn [it] λ b hb=>by rw[VO.mp hb];exact f0) st (show s.heap.IsTuple a its.toArray from p) (by simp;omega) λ h' eb=>{J,I.turned (t':=s.toks) (λ b o hb e=>eb b o hb e) f0 f1 f3 f4 f5}
 self:=λ _ _ _ _ _ st h=>wpAny_pyIter_tupleiter st h
theorem yv(it:Z)(lo:B)(n:à):E4 P w K A tg (Itr lo n) [it] it (λ i h=>IsRangeIter h it (lo+(i:à) * 1) ((n:B) - (i:à)) 1) where
 mem:=by simp
 obj:=λ i h st b hb=>by
  let e:b=it:=by simpa using hb
  subst e
  exact{_,st,λ v z=>by
   let z':Data.fields _=Data.cell v:=z;cases z'}
 keep:=λ i h h' st k=>k it (by simp) _ st
 item:=by
  intro X hP hw hK hc i pins s σ H E I hf st hg;subst hP hw hK;let(f0,f1,f2,f3,f4,f5):=hf it (by simp);let aX:i<n:=hg;refine wpAny_pyNext_range_item st (by omega) λ h' af sb=>?_;let I1:Inv X pins σ H { s with heap:=h',toks:=s.toks+1 }:=I.turned (λ b o hb e=>(sb.2 b hb).trans e) f0 f1 f3 f4 f5
  let aS:IsRangeIter h' it (lo+((i+1:à):B) * 1) ((n:B) - ((i+1:à):B)) 1:=by
   rw[show lo+((i+1:à):B) * 1=lo+(i:à) * 1+1 by omega,show (n:B) - ((i+1:à):B)=(n:B) - (i:à) - 1 by omega];exact af
  refine{_,J,Fs (s:={ s with heap:=h',toks:=s.toks+1 }) (n := "range_iterator") af J J (by decide) {.int (lo+i),H,I1,{s.toks,?_},{(J),J},aS,λ b hb=>(hf b hb).1}};rw[Yn]
 done:=by
  intro X hP hw hK hc i pins s σ H E I hf st hg;subst hP hw hK;let(f0,f1,f2,f3,f4,f5):=hf it (by simp);exact jh (I.sfn [] λ _ z=>nomatch z) st (by have:n<=i:=hg;omega) λ h' eb=>{J,I.turned (t':=s.toks) (λ b o hb e=>eb b o hb e) f0 f1 f3 f4 f5}
 self:=λ _ _ _ _ _ st h=>wpAny_pyIter_rangeiter st h
theorem FY{R:It->Hp->Prop}{lo hi:B}{t u v:Tok}{tk:à}(I:Inv X pins σ H s)(h1:-(2 ^ 62)<=lo)(h2:lo<2 ^ 62)(h3:-(2 ^ 62)<=hi)(h4:hi<2 ^ 62)
  (q:R (Itr lo (hi - lo).toNat) H):Ä (É X.prog X.w) X.A (pyIter (.ref %[s|99])) (PIE X pins σ tg R) E { s with heap:=s.heap.push { cls:=.type "range",data:=.fields #[.int lo t,.int hi u,.int 1 v] },toks:=tk }:=by
 refine wpAny_pyIter_range (IsRange.new ..) (small_one h1 h2 h3 h4) ?_;let I1:Inv X pins σ H { s with heap:=s.heap.push { cls:=.type "range",data:=.fields #[.int lo t,.int hi u,.int 1 v] },toks:=tk }:=I.kept λ b o e=>Vz _ e
 refine⟨(s.heap.push { cls:=.type "range",data:=.fields #[.int lo t,.int hi u,.int 1 v] }).objs.size,[(s.heap.push { cls:=.type "range",data:=.fields #[.int lo t,.int hi u,.int 1 v] }).objs.size],_,_,H,J,
  I1.kept (t':=tk) λ b o e=>Vz _ e,yv _ lo (hi - lo).toNat,?_,λ b hb=>?_,q⟩
 ·let e1:lo+((0:à):B) * 1=lo:=by simp
  let e2:(((hi - lo).toNat:à):B) - ((0:à):B)=Builtin.Range.rangeSize lo hi 1:=by rw[rangeSize_one];split<;>omega
  show IsRangeIter _ _ (lo+((0:à):B) * 1) ((((hi - lo).toNat:à):B) - ((0:à):B)) 1
  rw[e1,e2];exact VG _ J
 ·let e:b=(s.heap.push { cls:=.type "range",data:=.fields #[.int lo t,.int hi u,.int 1 v] }).objs.size:=by simpa using hb
  subst e;exact I1.fpOk (VF _) (I1.hok.fresh (VF _))
def OB(ta:TA):TI:=λ σ H R=>ta σ H λ vs H1=>∃ j:B,vs=[.int j]/\-(2 ^ 62)<=j/\j<2 ^ 62/\R (Itr 0 j.toNat) H1
theorem CJ{a:Ò}{ta:TA}{p:Pos}(hg:Gl X "range")(hm:X.mg "range"=L)(ha:PA X [a] ta)(hs:starEach [a] X.env=[(Á,eval a X.env)]:=by rfl):PI X tg (.Call (.Name "range" p) [a] [] pos) (OB ta):=by
 intro pins s σ H R I h;refine Call_ (eP I hg hm boot_range (Wd (thn (ha pos pins s σ H _ I h) λ us s1 ⟨vs,H1,I1,r1,q1⟩=>?_) hs J));let(j,e,q1,q2,q):=q1;subst e
 cases r1 with
 | cons r rr=>
  cases rr;let(t,rfl):=r;exact call_range_1 (FY I1 (by omega) (by omega) q1 q2 (by simpa using q))
def T3(wi:TI)(g:TG)(tb:TS):TS:=λ D σ H=>wi σ H λ ww H1=>∃ W:à->à->St->Hp->Prop,(∃ m,W 0 m σ H1)/\∀ i m σ H,W i m σ H →
 (ww.stop i H/\D.nx σ H)\/(ww.go i H/\∃ N:St->Hp->Prop,(∀ σ' H',N σ' H'->∃ m',m' < m/\W (i+1) m' σ' H')/\∀ x H',ww.yld i H x H'->g x σ H' λ σ2 H2=>tb { D with nx:=N,ct:=N,bk:=D.nx } σ2 H2)
def rV(fp:G Z)(h:Í):G (Z × Obj):=fp.filterMap λ b=>(h.get? b).map λ o=>(b,o)
theorem iy{o:Obj}(hb:b∈fp)(e:h.get? b=U o):(b,o)∈rV fp h:=List.mem_filterMap.mpr {b,hb,by rw[e];rfl}
theorem CZ{p:Z × Obj}(hp:p∈rV fp h):p.1∈fp/\h.get? p.1=U p.2:=by
 let(b,hb,e):=List.mem_filterMap.mp hp
 cases q:h.get? b with
 | none=>rw[q] at e;cases e
 | some o=>
  rw[q] at e;let e':(b,o)=p:=We e;subst e';exact{(hb),q}
theorem Inv.pinned(I:Inv X pins σ H s)(hf:∀ b∈fp,yk X pins H b)(ho:∀ b∈fp,∃ o,s.heap.get? b=U o/\∀ v,o.data ≠ .cell v):Inv X (pins++rV fp s.heap) σ H s:=
 I.pins_of λ p hp=>(Wf.mp hp).elim (λ z=>I.pin p (Wt _ z)) λ z=>by
  let(hb,e):=CZ z;let(f0,f1,f2,_):=hf p.1 hb;let(o,e',d):=ho p.1 hb;rw[e] at e';cases e';exact{(e),f0,f1,f2,d}
theorem Inv.unpinned{pl:G (Z × Obj)}(I:Inv X (pins++pl) σ H s):Inv X pins σ H s:=I.pins_of λ p hp=>I.pin p (Wt _ (Xc _ hp))
theorem OX{iter:Ò}{wi:TI}{g:TG}(hp:PassesOwn (É X.prog X.w) X.A X.env X.xe)(hi:PI X tg iter wi)(hg:PG X tg g)(hb:PSs X body tb)
  (hs:∀ x,foldedSetIterable iter X.env x=pure x:=by intro _;rfl):PS X (.For tg iter body [] pos) (T3 wi g tb):=by
 intro pins s σ H D I h;refine wpAny_For (thn (hi pins s σ H _ I h) λ v s1 h1=>thn h1 λ a7 s2 h2=>?_) hs;let(it,fp,tn,ww,H2,e,I2,T,a4,f2,W,(m0,w0),turn):=h2;subst e;let af:∀ {H':Hp},(∀ b∈fp,H' b=L)->∀ b∈fp,yk X pins H' b:=λ hn b hb=>{hn b hb,(f2 b hb).2};refine codeAny_forLoop_any (λ n s'=>∃ i σ' H',Inv X pins σ' H' s'/\tn i s'.heap/\(∀ b∈fp,H' b=L)/\W i n σ' H') ?_ m0 {0,σ,H2,I2,a4,λ b hb=>(f2 b hb).1,w0};rintro n s3 ⟨i,σ3,H3,I3,aX,a3,w3⟩
 rcases turn i n σ3 H3 w3 with ⟨stop,qn⟩|⟨go,N,hN,step⟩
 ·refine XD hp (thn (T.done X J J J J i pins s3 σ3 H3 X.xe I3 (af a3) aX stop) λ r s4 ⟨hr,I4⟩=>?_);subst hr;exact Yx {(σ3),H3,I4,qn}
 ·refine XD hp (thn (T.item X J J J J i pins s3 σ3 H3 X.xe I3 (af a3) aX go) λ r s4 ⟨u,hr,h4⟩=>?_);subst hr;refine XD hp (thn h4 λ _ s5 ⟨x,H5,I5,r5,y5,aS,a5⟩=>?_);let a6:=I5.pinned (af a5) (T.obj _ _ aS);refine XD hp (thn (hg _ s5 σ3 H5 x u _ a6 r5 (step x H5 y5)) λ _ s6 ⟨σ6,H6,I6,q6⟩=>?_);refine XD hp (thn (hb _ s6 σ6 H6 _ I6 q6) λ f s7 q7=>?_)
  let again:∀ {σ7:St} {H7:Hp},Inv X (pins++rV fp s5.heap) σ7 H7 s7->N σ7 H7->∃ m,m<n/\∃ i σ' H',Inv X pins σ' H' s7/\tn i s7.heap/\(∀ b∈fp,H' b=L)/\W i m σ' H':=λ {σ7 H7} I7 n7=>by
   let(m',hm,w7):=hN σ7 H7 n7;refine{m',hm,i+1,σ7,H7,I7.unpinned,T.keep _ _ _ aS λ b hb o e=>(I7.pin (b,o) (Wt _ (Wt _ (iy hb e)))).1,λ b hb=>?_,w7};let(o,e,d):=T.obj _ _ aS b hb;exact(I7.pin (b,o) (Wt _ (Wt _ (iy hb e)))).2.1
  cases f with
  | next=>let(σ7,H7,I7,n7):=q7;exact again I7 n7
  | cont=>let(σ7,H7,I7,n7):=q7;exact again I7 n7
  | brk=>let(σ7,H7,I7,q7):=q7;exact{(σ7),H7,I7.unpinned,q7}
  | ret v=>let(x7,σ7,H7,I7,r7,q7):=q7;exact{(x7),σ7,H7,I7.unpinned,r7,q7}
theorem Ia{K:PySem.W.Frag}{xs:G V}{g:TG}{D:iG}(Pv:à->St->Hp->Prop)(h0:Pv 0 σ H)(hl:∀ i σ H,i<=xs.length->Pv i σ H->SqL K H a xs)
  (hs:∀ i x σ H,xs[i]? = U x->Pv i σ H->g x σ H λ σ2 H2=>tb { D with nx:=Pv (i+1),ct:=Pv (i+1),bk:=D.nx } σ2 H2) (hd:∀ σ H,Pv xs.length σ H->D.nx σ H) :
  ∃ W:à->à->St->Hp->Prop,(∃ m,W 0 m σ H)/\∀ i m σ H,W i m σ H →
   ((Itl K a).stop i H/\D.nx σ H)\/((Itl K a).go i H/\∃ N:St->Hp->Prop,(∀ σ' H',N σ' H'->∃ m',m' < m/\W (i+1) m' σ' H')/\∀ x H',(Itl K a).yld i H x H'->g x σ H' λ σ2 H2=>tb { D with nx:=N,ct:=N,bk:=D.nx } σ2 H2):=by
 refine{λ i m σ H=>m=xs.length - i/\i<=xs.length/\Pv i σ H,{xs.length,by simp,Wz _,h0},?_};rintro i m σ H ⟨rfl,hi,p⟩;let q:=hl i σ H hi p
 by_cases hlt:i<xs.length
 ·refine .inr {⟨xs,xs[i],q,by simp[hlt]⟩,Pv (i+1),λ σ' H' p'=>{xs.length - (i+1),by omega,J,hlt,p'},λ x H' y=>?_};let(e,y):=y;subst e;exact hs i x σ _ (y xs q) p
 ·let e:i=xs.length:=by omega
  subst e;exact .inl {⟨xs,q,VF _⟩,hd σ H p}
theorem Eu{lo:B}{n:à}{g:TG}{D:iG}(Pv:à->St->Hp->Prop)(h0:Pv 0 σ H)
  (hs:∀ i σ H,i<n->Pv i σ H->g (.int (lo+i)) σ H λ σ2 H2=>tb { D with nx:=Pv (i+1),ct:=Pv (i+1),bk:=D.nx } σ2 H2) (hd:∀ σ H,Pv n σ H->D.nx σ H) :
  ∃ W:à->à->St->Hp->Prop,(∃ m,W 0 m σ H)/\∀ i m σ H,W i m σ H →
   ((Itr lo n).stop i H/\D.nx σ H)\/((Itr lo n).go i H/\∃ N:St->Hp->Prop,(∀ σ' H',N σ' H'->∃ m',m' < m/\W (i+1) m' σ' H')/\∀ x H',(Itr lo n).yld i H x H'->g x σ H' λ σ2 H2=>tb { D with nx:=N,ct:=N,bk:=D.nx } σ2 H2):=by
 refine{λ i m σ H=>m=n - i/\i<=n/\Pv i σ H,{n,by simp,Wz _,h0},?_};rintro i m σ H ⟨rfl,hi,p⟩
 by_cases hlt:i<n
 ·refine .inr {hlt,Pv (i+1),λ σ' H' p'=>{n - (i+1),by omega,J,hlt,p'},λ x H' y=>?_};let(e,y):=y;subst e y;exact hs i σ _ hlt p
 ·let e:i=n:=by omega
  subst e;exact .inl {VF _,hd σ H p}
abbrev R2:=V->V->Hp->VK->Prop
variable {r:R2}
def OpR(X:Cx)(f:O->O->Sem O)(r:R2):Prop:=
 ∀ (pins:G (Z × Obj)) (s:À) (σ:St) (H:Hp) (x y:V) (v u:O) (Q:VK),Inv X pins σ H s->b9 x v->b9 y u->r x y H Q →
  Ä (É X.prog X.w) X.A (f v u) (EP X pins σ Q) X.xe s
def UnR(X:Cx)(f:O->Sem O)(r:V->Hp->VK->Prop):Prop:=
 ∀ (pins:G (Z × Obj)) (s:À) (σ:St) (H:Hp) (x:V) (v:O) (Q:VK),Inv X pins σ H s->b9 x v->r x H Q →
  Ä (É X.prog X.w) X.A (f v) (EP X pins σ Q) X.xe s
def cn(X:Cx)(f:O)(r:G V->Hp->VK->Prop):Prop:=
 ∀ (pins:G (Z × Obj)) (s:À) (σ:St) (H:Hp) (xs:G V) (us:G O) (Q:VK),Inv X pins σ H s->bf xs us->r xs H Q →
  Ä (É X.prog X.w) X.A (call f us) (EP X pins σ Q) X.xe s
def tOp(r:R2)(ta tb:TE):TE:=λ σ H Q=>ta σ H λ x H1=>tb σ H1 λ y H2=>r x y H2 Q
def tUn(r:V->Hp->VK->Prop)(ta:TE):TE:=λ σ H Q=>ta σ H λ x H1=>r x H1 Q
def rI(C:B->B->Prop)(g:B->B->V):R2:=λ x y H Q=>∃ i j,x=.int i/\y=.int j/\C i j/\Q (g i j) H
def rI0(g:B->B->V):R2:=λ x y H Q=>∃ i j,x=.int i/\y=.int j/\Q (g i j) H
def rU(g:B->V):V->Hp->VK->Prop:=λ x H Q=>∃ i,x=.int i/\Q (g i) H
section
variable {a b c:Ò}{ta tb tc:TE}
theorem Se(ha:PE X a ta)(hb:PE X b tb){R:V->V->Hp->Prop}(I:Inv X pins σ H s)
  (h:ta σ H λ x H1=>tb σ H1 λ y H2=>R x y H2) {Q:O->À->Prop} 
  (hf:∀ v u s2 x y H2,Inv X pins σ H2 s2->b9 x v->b9 y u->R x y H2->Ä (É X.prog X.w) X.A (f v u) Q X.xe s2) :
  Ä (É X.prog X.w) X.A (eval a X.env) (λ v s₁=>Ä (É X.prog X.w) X.A (eval b X.env) (λ u s₂=>Ä (É X.prog X.w) X.A (f v u) Q X.xe s₂) X.xe s₁) X.xe s:=by
 refine thn (ha pins s σ H _ I h) λ v s1 ⟨x,H1,I1,r1,q1⟩=>?_;refine thn (hb pins s1 σ H1 _ I1 q1) λ u s2 ⟨y,H2,I2,r2,q2⟩=>?_;exact hf v u s2 x y H2 I2 r1 r2 q2
theorem gD{op:Operator}(ho:OpR X (binaryOp op) r)(ha:PE X a ta)(hb:PE X b tb):PE X (.BinOp a op b pos) (tOp r ta tb):=by
 intro pins s σ H Q I h;exact wpAny_BinOp (Se ha hb I h λ v u s2 x y H2 I2 rx ry q=>ho pins s2 σ H2 x y v u Q I2 rx ry q)
theorem Sq{op:UnaryOp}{r:V->Hp->VK->Prop}(ho:UnR X (unaryOp op) r)(ha:PE X a ta):PE X (.UnaryOp op a pos) (tUn r ta):=by
 intro pins s σ H Q I h;exact UnaryOp_ (thn (ha pins s σ H _ I h) λ v s1 ⟨x,H1,I1,r1,q1⟩=>ho pins s1 σ H1 x v Q I1 r1 q1)
theorem opI{C:B->B->Prop}{g:B->B->B}
  (rule:∀ (i j:B) (t u:Tok) (s:À) (Q:O->À->Prop) (E:O->À->Prop),C i j->Q (.int (g i j) s.toks) { s with toks:=s.toks+1 }->Ä (É X.prog X.w) X.A (f (.int i t) (.int j u)) Q E s) :
  OpR X f (rI C λ i j=>.int (g i j)):=by
 intro pins s σ H x y v u Q I rx ry h;let(i,j,rfl,rfl,hc,q):=h;let(t,rfl):=rx;let(t',rfl):=ry;exact rule i j t t' s _ _ hc {.int (g i j),H,I.tok _,{_,J},q}
theorem Ug{g:B->B->B}
  (rule:∀ (i j:B) (t u:Tok) (s:À) (Q:O->À->Prop) (E:O->À->Prop),Q (.int (g i j) s.toks) { s with toks:=s.toks+1 }->Ä (É X.prog X.w) X.A (f (.int i t) (.int j u)) Q E s) :
  OpR X f (rI0 λ i j=>.int (g i j)):=by
 intro pins s σ H x y v u Q I rx ry h;let(i,j,rfl,rfl,q):=h;let(t,rfl):=rx;let(t',rfl):=ry;exact rule i j t t' s _ _ {.int (g i j),H,I.tok _,{_,J},q}
theorem Ra{g:B->B->Ý}
  (rule:∀ (i j:B) (t u:Tok) (s:À) (Q:O->À->Prop) (E:O->À->Prop),Q (.bool (g i j)) s->Ä (É X.prog X.w) X.A (f (.int i t) (.int j u)) Q E s) :
  OpR X f (rI0 λ i j=>.bl (g i j)):=by
 intro pins s σ H x y v u Q I rx ry h;let(i,j,rfl,rfl,q):=h;let(t,rfl):=rx;let(t',rfl):=ry;exact rule i j t t' s _ _ {.bl (g i j),H,I,J,q}
def Si(i j:B):Prop:=0<j/\j<1073741824
def oG(i j:B):Prop:=(-(2 ^ 64)<i/\i<2 ^ 64)\/(-(2 ^ 64)<j/\j<2 ^ 64)
theorem oG.ok{i j:B}(h:oG i j):IntMulOk i j:=by
 rcases h with ⟨h1,h2⟩|⟨h1,h2⟩
 ·exact .of_left (intBits_le_64 h1 h2)
 ·exact .of_right (intBits_le_64 h1 h2)
theorem wL:OpR X (binaryOp .Add) (rI0 λ i j=>.int (i+j)):=Ug λ _ _ _ _ _ _ _ q=>add_int q
theorem O4:OpR X (binaryOp .Sub) (rI0 λ i j=>.int (i - j)):=Ug λ _ _ _ _ _ _ _ q=>sub_int q
theorem kO:OpR X (binaryOp .Mult) (rI oG λ i j=>.int (i * j)):=opI λ _ _ _ _ _ _ _ hc q=>mul_int q hc.ok
theorem Lh:OpR X (binaryOp .FloorDiv) (rI Si λ i j=>.int (i / j)):=opI λ i j _ _ _ _ _ hc q=>by
 let h1:(0:B)<j:=hc.1;let h2:j<1073741824:=hc.2;exact floordiv_int (by omega) (by rw[Int.fdiv_eq_ediv_of_nonneg i (by omega)];exact q) (.inl (PyProof.noPylong_small (by omega)))
theorem lV:OpR X (binaryOp .Mod) (rI (λ _ j=>0<j) λ i j=>.int (i % j)):=opI λ i j _ _ _ _ _ hc q=>by
 let h1:(0:B)<j:=hc;exact mod_int' (by omega) (by rw[Int.fmod_eq_emod_of_nonneg i (by omega)];exact q)
theorem unI{f:O->Sem O}{g:B->B}
  (rule:∀ (i:B) (t:Tok) (s:À) (Q:O->À->Prop) (E:O->À->Prop),Q (.int (g i) s.toks) { s with toks:=s.toks+1 }->Ä (É X.prog X.w) X.A (f (.int i t)) Q E s) :
  UnR X f (rU λ i=>.int (g i)):=by
 intro pins s σ H x v Q I rx h;let(i,rfl,q):=h;let(t,rfl):=rx;exact rule i t s _ _ {.int (g i),H,I.tok _,{_,J},q}
theorem OJ:UnR X (unaryOp .USub) (rU λ i=>.int (-i)):=unI λ _ _ _ _ _ q=>neg_int q
end
def NB:V->V->Ý
 | .non,.non=>Y | .non,.int _=>Y | .int _,.non=>Y | .non,.bl _=>Y | .bl _,.non=>Y | .non,.str _=>Y | .str _,.non=>Y
 | .int _,.int _=>Y | .bl _,.bl _=>Y | .str _,.str _=>Y | .byt _,.byt _=>Y
 | .int _,.str _=>Y | .str _,.int _=>Y | .bl _,.str _=>Y | .str _,.bl _=>Y
 | _,_=>Á
def rEq:R2:=λ x y H Q=>NB x y=Y/\Q (.bl (decide (x=y))) H
def rNe:R2:=λ x y H Q=>NB x y=Y/\Q (.bl (!decide (x=y))) H
theorem BU{i j:B}:decide (V.int i=V.int j)=(i == j):=by
 rw[WX];simp
theorem Jw{i j:Ý}:decide (V.bl i=V.bl j)=(i == j):=by
 rw[WX];simp
theorem BS{i j:Ç}:decide (V.str i=V.str j)=(i == j):=by
 rw[WX];simp
theorem BV{i j:Array UInt8}:decide (V.byt i=V.byt j)=(i.toList == j.toList):=by
 rw[WX];cases i;cases j;simp
section
variable {a b c:Ò}{ta tb tc:TE}
theorem aW{Q:VK}{k k':Ý}(I:Inv X pins σ H s)(q:Q (.bl k) H)(e:k=k'):EP X pins σ Q (.bool k') s:=by
 subst e;exact{.bl k,H,I,J,q}
theorem Sx:OpR X (compareOp .Eq) rEq:=by
 intro pins s σ H x y v u Q I rx ry h;let(hs,q):=h
 cases x with
 | non=>
  cases rx
  cases y with
  | non=>cases ry;exact PySem.EqNone.eq_none_none (aW I q (by simp))
  | bl j=>cases ry;exact PySem.EqNone.eq_none_bool (aW I q (by simp))
  | int j=>let(t',rfl):=ry;exact PySem.EqNone.eq_none_int (aW I q (by simp))
  | str j=>let(t',rfl):=ry;exact PySem.EqNone.eq_none_str (aW I q (by simp))
  | _=>exact Þ (show Á=Y from hs) VJ
 | bl i=>
  cases rx
  cases y with
  | non=>cases ry;exact PySem.EqNone.eq_bool_none (aW I q (by simp))
  | bl j=>cases ry;exact eq_bool (aW I q Jw)
  | str j=>let(t',rfl):=ry;exact PySem.EqMixed.eq_bool_str (aW I q (by simp))
  | _=>exact Þ (show Á=Y from hs) VJ
 | int i=>
  let(t,rfl):=rx
  cases y with
  | non=>cases ry;exact PySem.EqNone.eq_int_none (aW I q (by simp))
  | int j=>let(t',rfl):=ry;exact eq_int (aW I q BU)
  | str j=>let(t',rfl):=ry;exact PySem.EqMixed.eq_int_str (aW I q (by simp))
  | _=>exact Þ (show Á=Y from hs) VJ
 | str i=>
  let(t,rfl):=rx
  cases y with
  | non=>cases ry;exact PySem.EqNone.eq_str_none (aW I q (by simp))
  | bl j=>cases ry;exact PySem.EqMixed.eq_str_bool (aW I q (by simp))
  | int j=>let(t',rfl):=ry;exact PySem.EqMixed.eq_str_int (aW I q (by simp))
  | str j=>let(t',rfl):=ry;exact eq_str (aW I q BS)
  | _=>exact Þ (show Á=Y from hs) VJ
 | byt i=>
  let(t,rfl):=rx
  cases y with
  | byt j=>let(t',rfl):=ry;exact W.eq_bytes (aW I q BV)
  | _=>exact Þ (show Á=Y from hs) VJ
 | _=>cases y<;>exact Þ (show Á=Y from hs) VJ
theorem Su:OpR X (compareOp .NotEq) rNe:=by
 intro pins s σ H x y v u Q I rx ry h;let(hs,q):=h
 cases x with
 | non=>
  cases rx
  cases y with
  | non=>cases ry;exact PySem.EqNone.ne_none_none (aW I q (by simp))
  | bl j=>cases ry;exact PySem.EqNone.ne_none_bool (aW I q (by simp))
  | int j=>let(t',rfl):=ry;exact PySem.EqNone.ne_none_int (aW I q (by simp))
  | str j=>let(t',rfl):=ry;exact PySem.EqNone.ne_none_str (aW I q (by simp))
  | _=>exact Þ (show Á=Y from hs) VJ
 | bl i=>
  cases rx
  cases y with
  | non=>cases ry;exact PySem.EqNone.ne_bool_none (aW I q (by simp))
  | bl j=>cases ry;exact ne_bool (aW I q (W2 not Jw))
  | str j=>let(t',rfl):=ry;exact PySem.EqMixed.ne_bool_str (aW I q (by simp))
  | _=>exact Þ (show Á=Y from hs) VJ
 | int i=>
  let(t,rfl):=rx
  cases y with
  | non=>cases ry;exact PySem.EqNone.ne_int_none (aW I q (by simp))
  | int j=>let(t',rfl):=ry;exact ne_int (aW I q (W2 not BU))
  | str j=>let(t',rfl):=ry;exact PySem.EqMixed.ne_int_str (aW I q (by simp))
  | _=>exact Þ (show Á=Y from hs) VJ
 | str i=>
  let(t,rfl):=rx
  cases y with
  | non=>cases ry;exact PySem.EqNone.ne_str_none (aW I q (by simp))
  | bl j=>cases ry;exact PySem.EqMixed.ne_str_bool (aW I q (by simp))
  | int j=>let(t',rfl):=ry;exact PySem.EqMixed.ne_str_int (aW I q (by simp))
  | str j=>let(t',rfl):=ry;exact ne_str (aW I q (W2 not BS))
  | _=>exact Þ (show Á=Y from hs) VJ
 | byt i=>
  let(t,rfl):=rx
  cases y with
  | byt j=>let(t',rfl):=ry;exact W.ne_bytes (aW I q (W2 not BV))
  | _=>exact Þ (show Á=Y from hs) VJ
 | _=>cases y<;>exact Þ (show Á=Y from hs) VJ
theorem Oe:OpR X (compareOp .Lt) (rI0 λ i j=>.bl (decide (i<j))):=Ra λ _ _ _ _ _ _ _ q=>lt_int q
theorem Sv:OpR X (compareOp .LtE) (rI0 λ i j=>.bl (decide (i<=j))):=Ra λ _ _ _ _ _ _ _ q=>le_int q
theorem Of:OpR X (compareOp .Gt) (rI0 λ i j=>.bl (decide (j<i))):=Ra λ _ _ _ _ _ _ _ q=>gt_int q
theorem Sw:OpR X (compareOp .GtE) (rI0 λ i j=>.bl (decide (j<=i))):=Ra λ _ _ _ _ _ _ _ q=>ge_int q
theorem O9:OpR X (compareOp .Is) (λ x y H Q=>y=.non/\Q (.bl (decide (x=.non))) H):=by
 intro pins s σ H x y v u Q I rx ry h;let(rfl,q):=h;cases ry;refine is_none_gen (aW I q ?_)
 cases x<;>first
  | (cases rx;rfl)
  | (let(t,rfl):=rx;rfl)
theorem Lf:OpR X (compareOp .IsNot) (λ x y H Q=>y=.non/\Q (.bl (!decide (x=.non))) H):=by
 intro pins s σ H x y v u Q I rx ry h;let(rfl,q):=h;cases ry;refine isnot_none_gen (aW I q ?_)
 cases x<;>first
  | (cases rx;rfl)
  | (let(t,rfl):=rx;rfl)
def Oz:HO->Ý
 | .lst _=>Y
 | .ins _ _ _=>Y
 | _=>Á
theorem OpR.or{r':R2}(h:OpR X f r)(h':OpR X f r'):OpR X f (λ x y H Q=>r x y H Q\/r' x y H Q):=by
 intro pins s σ H x y v u Q I rx ry q
 rcases q with q|q
 ·exact h pins s σ H x y v u Q I rx ry q
 ·exact h' pins s σ H x y v u Q I rx ry q
theorem ar(b:Ò)(h:op ≠ .In:=by decide)(h2:op ≠ .NotIn:=by decide):behindInMarks op b=Á:=by
 let e1:(op == CmpOp.In)=Á:=by cases op<;>first|rfl|exact Þ rfl h
 let e2:(op == CmpOp.NotIn)=Á:=by cases op<;>first|rfl|exact Þ rfl h2
 cases b<;>simp[behindInMarks,e1,e2]
theorem Lc(ho:OpR X (compareOp op) r)(ha:PE X a ta)(hb:PE X b tb)(hm:behindInMarks op b=Á):PE X (.Compare a [op] [b] pos) (tOp r ta tb):=by
 intro pins s σ H Q I h;exact wpAny_Compare1 (Se ha hb I h λ v u s2 x y H2 I2 rx ry q=>ho pins s2 σ H2 x y v u Q I2 rx ry q) hm
def JI(t:TE):TT:=λ σ H Q=>t σ H λ x H'=>∃ k,x=.bl k/\Q k H'
theorem uW(ho:OpR X (compareOp op) r)(ha:PE X a ta)(hb:PE X b tb)(hm:behindInMarks op b=Á):PT X (.Compare a [op] [b] pos) (JI (tOp r ta tb)):=by
 intro pins s σ H Q I h
 refine wpAny_isTrue_Compare1 (thn (ha pins s σ H _ I h) λ v s1 ⟨x,H1,I1,r1,q1⟩=>thn (hb pins s1 σ H1 _ I1 q1) λ u s2 ⟨y,H2,I2,r2,q2⟩=>
  thn (ho pins s2 σ H2 x y v u _ I2 r1 r2 q2) λ c s3 ⟨z,H3,I3,r3,k,e,q3⟩=>?_) hm
 subst e;cases r3;exact Xq {(H3),I3,q3}
def IW(r r':R2)(ta tb tc:TE):TE:=λ σ H Q=>ta σ H λ x H1=>tb σ H1 λ y H2=>r x y H2 λ z H3=>∃ k,z=.bl k /\
 (if k=Y then tc σ H3 λ w' H4=>r' y w' H4 Q else Q (.bl Á) H3)
theorem Gp{af:CmpOp}{r':R2}(ho:OpR X (compareOp op) r)(aS:OpR X (compareOp af) r')(ha:PE X a ta)(hb:PE X b tb)(hc:PE X c tc)
  (hm:lastMarks [op,af] [b,c]=Á:=by with_unfolding_all rfl):PE X (.Compare a [op,af] [b,c] pos) (IW r r' ta tb tc):=by
 intro pins s σ H Q I h
 refine Compare_chain (thn (ha pins s σ H _ I h) λ v s1 ⟨x,H1,I1,r1,q1⟩=>chain_link (thn (hb pins s1 σ H1 _ I1 q1) λ u s2 ⟨y,H2,I2,r2,q2⟩=>
  thn (ho pins s2 σ H2 x y v u _ I2 r1 r2 q2) λ d s3 ⟨z,H3,I3,r3,k,e,q3⟩=>?_)) hm
 subst e;cases r3;refine Xq ?_
 cases k with
 | false=>exact ite_ff {.bl Á,H3,I3,J,q3}
 | true=>exact ite_tt (chain_last (thn (hc pins s3 σ H3 _ I3 q3) λ w' s4 ⟨z',H4,I4,r4,q4⟩=>aS pins s4 σ H4 y z' u w' Q I4 r2 r4 q4))
def oO:(Å:à)<2 ^ 63:=by rw[Zo];decide
theorem uE{x:V}(r:bf [x] us):∃ u,us=[u]/\b9 x u:=by
 cases r with
 | cons r1 r2=>cases r2;exact{_,J,r1}
theorem E8{x y:V}(r:bf [x,y] us):∃ u w',us=[u,w']/\b9 x u/\b9 y w':=by
 cases r with
 | cons r1 r2=>
  cases r2 with
  | cons r3 r4=>cases r4;exact{_,_,J,r1,r3}
theorem EE(hc:X.calm=Y):cn X (.builtin "max") (λ xs H Q=>∃ i j,xs=[.int i,.int j]/\Q (.int (if j > i then j else i)) H):=by
 intro pins s σ H xs us Q I r h;let(i,j,rfl,q):=h;let(u,w',rfl,(t,rfl),(t',rfl)):=E8 r;refine max_two_ints (I.ok.hd hc) λ h' tk k=>{_,H,I.kept k,?_,q}
 by_cases hj:j > i
 ·rw[V7 hj,V7 hj];exact{_,J}
 ·rw[VY hj,VY hj];exact{_,J}
theorem ED(hc:X.calm=Y):cn X (.builtin "min") (λ xs H Q=>∃ i j,xs=[.int i,.int j]/\Q (.int (if j<i then j else i)) H):=by
 intro pins s σ H xs us Q I r h;let(i,j,rfl,q):=h;let(u,w',rfl,(t,rfl),(t',rfl)):=E8 r;refine min_two_ints (I.ok.hd hc) λ h' tk k=>{_,H,I.kept k,?_,q}
 by_cases hj:j<i
 ·rw[V7 hj,V7 hj];exact{_,J}
 ·rw[VY hj,VY hj];exact{_,J}
theorem EG:cn X (.type "int") (λ xs H Q=>(∃ i,xs=[.int i]/\Q (.int i) H)\/∃ k,xs=[.bl k]/\Q (.int (if k then 1 else 0)) H):=by
 intro pins s σ H xs us Q I r h
 rcases h with ⟨i,rfl,q⟩|⟨k,rfl,q⟩
 ·let(u,rfl,t,rfl):=uE r;exact call_int_int {.int i,H,I,{_,J},q}
 ·let(u,rfl,r1):=uE r;cases r1;exact call_int_bool {.int (if k then 1 else 0),H,I.tok _,{_,J},q}
end
structure JE(h:Í)(x dx C:Z)(mA:Ç->Ü O):Prop where
 obj:h.get? x=U (W.instObj C dx)
 ns:h.Ns1 dx mA
 ne:dx≠x
theorem mU{dx:Z}{mA:Ç->Ü O}(n:h.Ns1 dx mA):∃ od,h.get? dx=U od/\∀ name,W.lookIn name od=U (mA name):=by
 let(o,es,ep,ho,hd,hk,_,hm):=n;refine{o,ho,λ name=>?_};let e:=hm name;unfold nsFind findBy at e;rw[←Array.find?_toList] at e;unfold W.lookIn;rw[hd];dsimp only;split
 ·rename_i y q;rw[q] at e;exact W2 U e
 ·rename_i q;rw[q] at e
  let a:es.toList.any (·.refKey)=Á:=by
   rw[List.any_eq_false];intro y hy;let(z,t,af):=hk y (Array.mem_toList_iff.mp hy);simp[DictEntry.refKey,af]
  let a':¬ es.toList.any (·.refKey)=Y:=by rw[a];exact VJ
  rw[VY a'];exact W2 U e
def JE.look{x dx:Z}{mA:Ç->Ü O}(I:JE h x dx C mA):∃ od,W.InstAt h x (W.instObj C dx) C (U od)/\∀ name,W.lookIn name od=U (mA name):=
 let {(od),ho,hl}:=mU I.ns
 ⟨od,{(I.obj),J,J,ho},hl⟩
section
variable {prog:Ë}{K:PySem.W.Frag}{x dx f:Z}{mA:Ç->Ü O}{name:Ç}{v:O}
theorem MW{expr:Ý}{Q:O->À->Prop}(X:K.In s.heap)(I:JE s.heap x dx C mA)(hg:W.plainGet K C name=Y)(hh:Ö K C=Y)
  (ha:Ó K (.ref C) name=U L) (hv:mA name=U v) (af:W.handedIn v=Y) (h:Q v { s with toks:=s.toks+1 }) :
  Ä (É prog w) A (getAttr (.ref x) name expr) Q E s:=by
 let(od,ww,hl):=I.look;exact W.get_value X ww (W.plainGet_of hg).1 (W.findObj_own hh ha J (by rw[hl,hv])) af h
theorem HK{pl:Sem Ý}{Q:O × G O->À->Prop}(X:K.In s.heap)(I:JE s.heap x dx C mA)(hg:W.plainGet K C name=Y)
  (hf:Ó K (.ref C) name=U (U (.ref f))) (ht:W.isFn K (.ref f)=Y) (hv:mA name=L) (h:Q (.ref f,[.ref x]) s) :
  Ä (É prog w) A (getMethod (.ref x) name pl) Q E s:=by
 let(od,ww,hl):=I.look;exact W.method_fn X ww (W.plainGet_of hg).1 (W.plainGet_of hg).2 hf (W5.mp ht) (by show (W.lookIn name od).map (·.isSome)=U Á;rw[hl,hv];rfl) h
theorem KC{ns:G Ç}(X:K.In s.heap)(I:JE s.heap x dx C mA)
  (hs:Ó K (.ref C) "__setattr__"=U (U (.builtin "object.__setattr__"))) (hp:W.plainOver K C=Y) (ht:W.takerIn K C name=U L) (hh:Ö K C=Y)
  (hw:PySem.Within mA ns) (hsz:ns.length<=Å)
  (h:∀ h',JE h' x dx C (λ y=>if y=name then U v else mA y)->Heap.SameBut dx s.heap h'->Q () { s with heap:=h',toks:=s.toks+2 }) :
  Ä (É prog w) A (setAttr (.ref x) name v) Q E s:=by
 let(od,ww,hl):=I.look;refine W.set_plain X ww hs (W.osa_open (s:={ s with toks:=s.toks+1 }) (r:=L) X ww hp ht λ b=>?_);let(cd,hc,aX):=W.any_some hh;let hx:s.heap.get? x=U {.ref C,U dx,.plain,#[]}:=I.obj;refine My (VC (My (My (Zi hx (My (W.Looks.here (s:={ s with toks:=s.toks+1 }) (W.looks_clsIn X hc) ?_))))));rw[aX];refine VC (a:=U dx) (My (VC (My ?_)));refine wpAny_nsSet1 (s:={ s with toks:=s.toks+1 }) I.ns λ h' af aS=>?_;let(oD,a6,a7,a3,a4,a5):=af.count (PySem.Within.cons name v hw);refine My (wpAny_lookBehind a3 (by rw[a4];exact pastItsLine_dict (Wo a5 (by rw[Wc];omega))) ?_);exact VC (h _ {(aS.2 _ (VL I.ne)).trans I.obj,af,I.ne} aS)
theorem GB{R:Result->À->Prop}{vs:G O}(X:K.In s.heap)(hm:W.makesIn K C=Y)
  (hi:Ó K (.ref C) "__init__"=U (U (.ref f))) (hf:Ú K (.ref f)=U (.type "function"))
  (h:codeAny (É prog w) (A.under (.builtin "type.__call__" ⟨.ref C::vs,kw⟩)) (.call (.ref f) {.ref (%[s|99]+1)::vs,kw}) (W.InitBack (%[s|99]+1) R)
   { s with heap:=(s.heap.push W.emptyDict).push (W.instObj C %[s|99]) }) :
  codeAny (É prog w) A (.call (.ref C) {(vs),kw}) R s:=by
 let(hh,g,d,t,os):=s;exact W.make_core (W.makes_of X hm) (W.looks_findIn X hi) (λ self=>W.bind_fn X self hf) (.inl J) h
end
def gC(f:Ç)(v:V):G (Ç × V)->G (Ç × V)
 | []=>[(f,v)]
 | (g,x)::r=>if g=f then (g,v)::r else (g,x)::gC f v r
theorem aN(f g:Ç)(v:V):∀ fs:G (Ç × V),(gC f v fs).lookup g=if g=f then U v else fs.lookup g
 | []=>by
  show List.lookup g [(f,v)]=_
  by_cases h:g=f
  ·let hb:(g == f)=Y:=W5.mpr h;simp only[List.lookup,hb,V7 h]
  ·let hb:(g == f)=Á:=WK.mpr h;simp only[List.lookup,hb,VY h]
 | (k,x)::r=>by
  let ih:=aN f g v r;rw[show gC f v ((k,x)::r)=(if k=f then (k,v)::r else (k,x)::gC f v r) from J]
  by_cases hk:k=f
  ·rw[V7 hk]
   by_cases h:g=k
   ·let hb:(g == k)=Y:=W5.mpr h;simp only[List.lookup,hb,V7 (h.trans hk)]
   ·let hb:(g == k)=Á:=WK.mpr h;simp only[List.lookup,hb,VY (λ e:g=f=>h (e.trans hk.symm))]
  ·rw[VY hk]
   by_cases h:g=k
   ·let hb:(g == k)=Y:=W5.mpr h;simp only[List.lookup,hb,VY (λ e:g=f=>hk (h.symm.trans e))]
   ·let hb:(g == k)=Á:=WK.mpr h;simp only[List.lookup,hb];exact ih
theorem mV(f:Ç)(v:V):∀ fs:G (Ç × V),f∈(gC f v fs).map (·.1)/\∀ g,g∈fs.map (·.1)->g∈(gC f v fs).map (·.1)
 | []=>{by simp[gC],λ g h=>by simp at h}
 | (k,x)::r=>by
  let(i1,i2):=mV f v r;rw[show gC f v ((k,x)::r)=(if k=f then (k,v)::r else (k,x)::gC f v r) from J]
  by_cases hk:k=f
  ·rw[V7 hk];subst hk;exact{by simp,λ g h=>by simpa using h}
  ·rw[VY hk];refine{?_,λ g h=>?_}
   ·rw[Wr];exact VI _ i1
   ·rw[Wr] at h ⊢
    rcases VU.mp h with e|e
    ·exact VU.mpr (.inl e)
    ·exact VI _ (i2 g e)
theorem ny(f:Ç)(v:V):∀ fs:G (Ç × V),(gC f v fs).length<=fs.length+1
 | []=>by simp[gC]
 | (k,x)::r=>by
  let ih:=ny f v r;rw[show gC f v ((k,x)::r)=(if k=f then (k,v)::r else (k,x)::gC f v r) from J]
  by_cases hk:k=f
  ·rw[V7 hk,Wc,Wc];omega
  ·rw[VY hk,Wc,Wc];omega
theorem oF.some_of{o:Ü O}(r:oF (U v) o):∃ u,o=U u/\b9 v u:=by
 cases o with
 | none=>exact(show False from r).elim
 | some u=>exact{(u),J,r}
theorem oF.none_of{o:Ü O}(r:oF L o):o=L:=by
 cases o with
 | none=>rfl
 | some u=>exact(show False from r).elim
theorem sR(r:b9 v u):W.handedIn u=Y:=by
 cases v with
 | non=>cases (show u=Ñ from r);rfl
 | bl b=>cases (show u=Value.bool b from r);rfl
 | int i=>let(t,e):=(show ∃ t,u=Value.int i t from r);cases e;rfl
 | str x=>let(t,e):=(show ∃ t,u=Value.str x t from r);cases e;rfl
 | byt b=>let(t,e):=(show ∃ t,u=Value.bytes b t from r);cases e;rfl
 | flt b=>let(t,e):=(show ∃ t,u=Value.float b t from r);cases e;rfl
 | ref a=>cases (show u=Ê a from r);rfl
 | ty n=>cases (show u=Ø n from r);rfl
section
variable {H':Hp}{h':Í}{dx:Z}{fs fs':G (Ç × V)}
theorem p9(hok:HOk P w H h)(e:H a=U (.ins C dx fs)):∃ mA,JE h a dx C mA/\(∀ f,oF (fs.lookup f) (mA f))/\PySem.Within mA (fs.map (·.1))/\fs.length<=1000/\H dx=U (.own a):=by
 let(d,z,ne,ob,mA,n,r,q):=(show bE P w H h a (.ins C dx fs) from hok a _ e);exact{mA,{(ob),n,ne},r,q,z,d}
end
structure Cls(K:Æ)(C:Z):Prop where
 pg:W.plainGet K C Str.empty=Y
 hd:Ö K C=Y
 po:W.plainOver K C=Y
 sa:Ó K (.ref C) "__setattr__"=U (U (.builtin "object.__setattr__"))
def Cls.get(c:Cls K C)(f:Ç):W.plainGet K C f=Y:=c.pg
def cq(K:Æ)(C:Z)(f:Ç):Prop:=Ó K (.ref C) f=U L
theorem cq.taker{f:Ç}(n:cq K C f):W.takerIn K C f=U L:=by
 unfold W.takerIn;rw[show Ó K (.ref C) f=U L from n];rfl
structure wF(K:Æ)(C:Z)(m:Ç)(f:Z):Prop where
 at_:Ó K (.ref C) m=U (U (.ref f))
 fn:W.isFn K (.ref f)=Y
 kp:W.keepIn K (.ref f)=Y
section
variable {dx:Z}{fs:G (Ç × V)}{f:Ç}
theorem zF{b:Ý}{Q:O->À->Prop}(I:Inv X pins σ H s)(e:H a=U (.ins C dx fs))(c:Cls X.K C)(n:cq X.K C f)(l:fs.lookup f=U v)
  (h:∀ u s',Inv X pins σ H s'->b9 v u->Q u s'):Ä (É X.prog X.w) A (getAttr (.ref a) f b) Q E s:=by
 let(mA,zc,r,_,_,_):=p9 I.hok e;let(u,hu,ru):=oF.some_of (v:=v) (o:=mA f) (by rw[←l];exact r f);exact MW I.kIn zc (c.get f) c.hd n hu (sR ru) (h u _ (I.tok _) ru)
theorem pe{m:Ç}{g:Z}{pl:Sem Ý}{Q:O × G O->À->Prop}(I:Inv X pins σ H s)(e:H a=U (.ins C dx fs))(c:Cls X.K C)(k:wF X.K C m g)(l:fs.lookup m=L)
  (h:Q (.ref g,[.ref a]) s):Ä (É X.prog X.w) A (getMethod (.ref a) m pl) Q E s:=by
 let(mA,zc,r,_,_,_):=p9 I.hok e;let hn:mA m=L:=oF.none_of (by rw[←l];exact r m);exact HK I.kIn zc (c.get m) k.at_ k.fn hn h
theorem yx{y:V}(I:Inv X pins σ H s)(e:H a=U (.ins C dx fs))(c:Cls X.K C)(n:cq X.K C f)(hl:fs.length<1000)(ry:b9 y u)
  (h:∀ s',Inv X pins σ (upd H a (.ins C dx (gC f y fs))) s'->Q () s'):Ä (É X.prog X.w) A (setAttr (.ref a) f u) Q E s:=by
 let(mA,zc,r,wi,_,ho):=p9 I.hok e;let hz:(fs.map (·.1)).length<=Å:=by rw[VD,Zo];omega
 refine KC I.kIn zc c.sa c.po n.taker c.hd wi hz λ h' O' sb=>h _ ?_;let hd:∃ o,h'.get? dx=U o:=let {o,_,_,e',_}:=O'.ns;⟨o,e'⟩;refine I.write (x:=a) (e:=dx) (by rw[e];exact True.intro) (.inr ho) (λ b q hb z=>(sb.2 b hb).trans z) hd ?_;refine{by rw[ag zc.ne];exact ho,?_,zc.ne,O'.obj,_,O'.ns,λ g=>?_,λ g hg=>?_}
 ·have:=ny f y fs;omega
 ·show oF ((gC f y fs).lookup g) (if g=f then U u else mA g)
  rw[aN]
  by_cases q:g=f
  ·rw[V7 q,V7 q];exact ry
  ·rw[VY q,VY q];exact r g
 ·by_cases q:g=f
  ·rw[q];exact(mV f y fs).1
  ·refine(mV f y fs).2 g (wi g λ z=>hg ?_)
   show (if g=f then U u else mA g)=L
   rw[VY q];exact z
theorem Inv.made(I:Inv X pins σ H s):Inv X pins σ (upd (upd H %[s|99] (.own (%[s|99]+1))) (%[s|99]+1) (.ins C %[s|99] []))
  { s with heap:=(s.heap.push W.emptyDict).push (W.instObj C %[s|99]) }:=by
 let e1:(s.heap.push W.emptyDict).get? %[s|99]=U W.emptyDict:=VG s.heap J
 let e2:((s.heap.push W.emptyDict).push (W.instObj C %[s|99])).get? (%[s|99]+1)=U (W.instObj C %[s|99]):=by
  have:=VG (s.heap.push W.emptyDict) (o:=W.instObj C %[s|99]) J
  rwa [V9] at this
 let e3:(s.heap.push W.emptyDict).Ns %[s|99] (λ _=>L):={W.emptyDict,#[],_,e1,J,(λ e he=>Þ he (by simp)),λ _=>J};let I1:=I.laid (a:=%[s|99]) (o:=.own (%[s|99]+1)) (h':=s.heap.push W.emptyDict) (t':=s.toks) (λ b u q=>Vz _ q) (VF _) {_,e1};refine I1.laid (a:=%[s|99]+1) (o:=.ins C %[s|99] []) (t':=s.toks) (λ b u q=>Vz _ q) (Yq (V9 _ _)) ?_;let ne:%[s|99]≠%[s|99]+1:=VQ (Xs _);refine{by rw[ag ne,aj],Wz _,ne,e2,λ _=>L,(Heap.Ns1.of_empty e3).at λ o q=>Vz _ q,λ _=>True.intro,λ y hy=>Þ J hy}
theorem Cf{prog:Ë}{env:Env}{f:Ç}{Q:O->À->Prop}(hb:attributeBase e f env (eval e env)=eval e env)
  (h:Ä (É prog w) A (eval e env) (λ o s₁=>Ä (É prog w) A (getAttr o f Y) Q E s₁) E s):Ä (É prog w) A (eval (.Attribute e f pos) env) Q E s:=
 Attribute_any_ h (by rw[arm_eval_Attribute,hb])
end
section
variable {o value:Ò}{f:Ç}{pos' tpos:Pos}{ta tv:TE}
end
section
variable {Q:O->À->Prop}{c:O}{b:Ý}
inductive wD (K:PySem.W.Frag) (H:Hp):V->O->Prop where
 | non:wD K H .non (.type "NoneType")
 | bl (x:Ý):wD K H (.bl x) (.type "bool")
 | int (i:B):wD K H (.int i) (.type "int")
 | str (x:Ç):wD K H (.str x) (.type "str")
 | flt (x:UInt64):wD K H (.flt x) (.type "float")
 | lst {a:Z} {xs:G V} (e:H a=U (.lst xs)):wD K H (.ref a) (.type "list")
 | frz {a:Z} {o:Obj} {xs:G V} (e:H a=U (.frz o (.lst xs))):wD K H (.ref a) (.type "list")
 | tup {a:Z} {xs:G V} (e:H a=U (.tup xs)):wD K H (.ref a) (.type "tuple")
 | dK {a:Z} {kvs:G (Key × V)} (e:H a=U (.dK kvs)):wD K H (.ref a) (.type "dict")
 | dT {a:Z} {kvs:G (G Key × V)} (e:H a=U (.dT kvs)):wD K H (.ref a) (.type "dict")
 | ins {a C dx:Z} {fs:G (Ç × V)} (e:H a=U (.ins C dx fs)) (cl:Cls K C) (ha:PySem.W.findIn K (.ref C) "__class__"=U (U (.builtin "object.__class__")))
   (hn:PySem.W.specialIn K (.builtin "object.__class__") "__get__"=U (U (.builtin "getset_descriptor.__get__"))) (htk:PySem.W.takesIn K (.builtin "object.__class__")=U Y)
   (hm:PySem.W.mroIn K C (.type "object")=U Y):wD K H (.ref a) (.ref C)
theorem Ep{x:V}{t:O}(I:Inv X pins σ H s)(rx:b9 x u)(ty:wD X.K H x t)(e:Ô X.K t c=U b)(h:∀ tk,Q (.bool b) { s with toks:=tk }) :
  Ä (É X.prog X.w) A (call (.builtin "isinstance") [u,c]) Q E s:=by
 cases ty with
 | non=>cases (show u=Ñ from rx);exact XE W.kitx_none I.kIn True.intro e (λ z=>nomatch z) h
 | bl y=>cases (show u=Value.bool y from rx);exact XE W.kitx_bool I.kIn True.intro e (λ z=>nomatch z) h
 | int i=>let(t,q):=(show ∃ t,u=Value.int i t from rx);cases q;exact XE W.kitx_int I.kIn True.intro e (λ z=>nomatch z) h
 | str y=>let(t,q):=(show ∃ t,u=Value.str y t from rx);cases q;exact XE W.kitx_str I.kIn True.intro e (λ z=>nomatch z) h
 | flt y=>let(t,q):=(show ∃ t,u=Value.float y t from rx);cases q;exact XE W.kitx_float I.kIn True.intro e (λ z=>nomatch z) h
 | @lst a xs ea=>
  cases (show u=Ê a from rx);let(_,_,n,_,h1):=(show bE X.prog X.w H s.heap a (.lst xs) from I.hok a _ ea);exact XE W.kitx_list I.kIn ⟨_,h1,J⟩ e (λ z=>nomatch z) h
 | @frz a ob xs ea=>
  cases (show u=Ê a from rx);let(_,_,_,n,_,h1):=(show bE X.prog X.w H s.heap a (.frz ob (.lst xs)) from I.hok a _ ea);exact XE W.kitx_list I.kIn ⟨_,h1,J⟩ e (λ z=>nomatch z) h
 | @tup a xs ea=>
  cases (show u=Ê a from rx);let(_,_,_,p):=(show bE X.prog X.w H s.heap a (.tup xs) from I.hok a _ ea);let(o,h1,h2,_):=p;exact XE W.kitx_tuple I.kIn ⟨o,h1,h2⟩ e (λ z=>nomatch z) h
 | @dK a kvs ea=>
  cases (show u=Ê a from rx);let(_,_,vs,_,p):=(show bE X.prog X.w H s.heap a (.dK kvs) from I.hok a _ ea);let(o,es,ep,h1,h2,_):=p;exact XE W.kitx_dict I.kIn ⟨o,h1,h2.1⟩ e (λ z=>nomatch z) h
 | @dT a kvs ea=>
  cases (show u=Ê a from rx);let(_,_,xs,_,o,es,ep,h1,h2,_):=(show bE X.prog X.w H s.heap a (.dT kvs) from I.hok a _ ea);exact XE W.kitx_dict I.kIn ⟨o,h1,h2.1⟩ e (λ z=>nomatch z) h
 | @ins a C dx fs ea cl ha hn htk hm=>
  cases (show u=Ê a from rx);let(mA,zc,_):=p9 I.hok ea;let(od,ww,_):=zc.look;exact XE (W.kitx_own (cl.get _) cl.hd ha hn htk hm) I.kIn ww e (λ z=>nomatch z) h
end
structure jk(k:à)(A:Î):Prop where
 dp:A.depth+3 * k+5<recursionLimit
 un:A.units+16 * k+200<cLine
 gd:A.guards=U []
theorem jk.mono{j:à}(r:jk k A)(h:j<=k):jk j A:=⟨by have:=r.dp;omega,by have:=r.un;omega,r.gd⟩
theorem jk.deeper(r:jk (k+1) A)(env:Env):jk k (A.deeper env):=
 ⟨by have:=r.dp;show A.depth+1+3 * k+5<_;omega,by have:=r.un;show A.units+3+16 * k+200<_;omega,r.gd⟩
theorem yQ:(A.under (.builtin "type.__call__" ⟨.ref C::us,kw⟩)).depth=A.depth+1:=by
 first|rfl|simp[Around.under,Code.weight,Code.isCreation,Code.isGuard,Code.isCaller,Code.frames,Code.isFrame,guardIds]
theorem yP:(A.under (.builtin "type.__call__" ⟨.ref C::us,kw⟩)).units=A.units+1:=by
 first|rfl|simp[Around.under,Code.cUnits,Code.frames,Code.isFrame]
theorem vM:(A.under (.builtin "type.__call__" ⟨.ref C::us,kw⟩)).guards=A.guards:=by
 first|rfl|(simp[Around.under,Around.pushGuard,Code.isGuard,guardIds];done)
theorem jk.make(r:jk (k+1) A)(C:Z)(us:G O)(kw:G (Ç × O)):jk k (A.under (.builtin "type.__call__" ⟨.ref C::us,kw⟩)):=
 ⟨by have:=r.dp;rw[yQ];omega,by have:=r.un;rw[yP];omega,by rw[vM];exact r.gd⟩
def jk.hand(r:jk k A)(e:Ü O):jk k (A.mark e):={(r.dp),r.un,r.gd}
theorem jk.depth(r:jk k A):A.depth<recursionLimit:=by have:=r.dp;omega
theorem jk.units(r:jk k A):A.units+64<cLine:=by have:=r.un;omega
def NI:TA:=λ _ H Q=>Q [] H
def E9(ta:TE)(tr:TA):TA:=λ σ H Q=>ta σ H λ x H1=>tr σ H1 λ xs H2=>Q (x::xs) H2
section
variable {es:G Ò}{te:TE}{t:TA}
theorem cZ:PA X [] NI:=λ _ _ _ _ H Q I h=>Calls.spliced_nil {[],H,I,.nil,h}
theorem Le(ha:PE X e te)(hr:PA X es t)(hs:starEach (e::es) X.env=(Á,eval e X.env)::starEach es X.env:=by rfl):PA X (e::es) (E9 te t):=by
 intro pos pins s σ H Q I h;rw[hs]
 show Ä _ _ (spliced ((Á,eval e X.env)::backTo pos (starEach es X.env))) _ _ s
 refine ZG (thn (ha pins s σ H _ I h) λ u s1 ⟨x,H1,I1,r1,q1⟩=>?_);exact thn (hr pos pins s1 σ H1 _ I1 q1) λ us s2 ⟨xs,H2,I2,r2,q2⟩=>{x::xs,H2,I2,.cons r1 r2,q2}
end
abbrev Sp:=G V->Hp->VK->XK->Prop
abbrev CXT:=G Env->Hp->À->XK->O->À->Prop
structure JG(P:Ë)(w:Ï)(K:Æ)(mg:Ç->Ü O)(base:Í)(A:Î)(outer:G Env)(s:À)(H:Hp):Prop where
 frames:A.frames=U outer
 mod:Mod K mg base
 bs:∀ b o,base.get? b=U o->s.heap.get? b=U o/\H b=L
 bsz:base.objs.size<=%[s|99]
 funs:s.heap.FunFrames base outer
 frf:∀ b∈frs outer,H b=L
 hok:HOk P w H s.heap
 bare:AllBare s.gens
 soft:NQ A H
def CE(outer:G Env)(P:Ë)(w:Ï)(H:Hp)(s:À)(Q:VK)(u:O)(s':À):Prop:=
 ∃ v H',s'.os=s.os/\AllBare s'.gens/\Un (frs outer) [] H H' s.heap s'.heap/\HOk P w H' s'.heap/\b9 v u/\Q v H'
def CR(CX:CXT)(outer:G Env)(P:Ë)(w:Ï)(H:Hp)(s:À)(Q:VK)(E:XK)(r:Result)(s':À):Prop:=
 match r with
 | .ok (.ret u)=>CE outer P w H s Q u s'
 | .ok _=>False
 | .error e=>CX outer H s E e s'
structure lu(c:Ý)(P:Ë)(w:Ï)(K:Æ)(mg:Ç->Ü O)(base:Í)(CX:CXT)(k:à)(f:Z)(fd:Â)(ps:G Ç)(sp:Sp):Prop where
 len:∀ vs H Q E,sp vs H Q E->vs.length=ps.length
 run:∀ (A:Î) (outer:G Env) (s:À) (H:Hp) (args:Args) (us:G O) (vs:G V) (Q:VK) (E:XK),jk k A->(c=Y->A.handled=L)->JG P w K mg base A outer s H->BindsTo s fd args (ps.zip us)->bf vs us->sp vs H Q E →
  codeAny (É P w) A (.call (.ref f) args) (CR CX outer P w H s Q E) s
abbrev aT:=@lu Y
abbrev pY:=@lu Á
theorem JG.make{outer:G Env}(e:JG P w K mg base A outer s H)(C:Z)(us:G O)(kw:G (Ç × O)) :
  JG P w K mg base (A.under (.builtin "type.__call__" ⟨.ref C::us,kw⟩)) outer s H:={by first|exact e.frames|(simpa [Around.under,Code.envs,Code.isFrame,pushEnvs] using e.frames),e.mod,e.bs,e.bsz,e.funs,e.frf,e.hok,e.bare,by have:=e.soft;first|exact this|(intro a h;exact this a (by simpa [Around.under] using h))}
section
variable {s':À}
def Inv.env0(I:Inv X pins σ H s):JG X.prog X.w X.K X.mg X.base X.A X.stack s H:=
 ⟨I.ok.frames,I.ok.mod,I.bs,Wo I.ok.bsz I.sz,I.stack,I.stkFree,I.hok,I.bare,I.soft⟩
theorem Inv.after{Q:VK}(I:Inv X pins σ H s)(h:CE X.stack X.prog X.w H s Q u s'):EP X pins σ Q u s':=by
 let(v,H',os,bare,un,hok,r,q):=h;let(hh,g,d,t,af):=s';obtain rfl:af=s.os:=os;exact{v,H',I.call (h':=hh) (g':=g) (d':=d) (t':=t) (ch:=[]) un hok bare (λ b z=>Þ z (by simp)),r,q}
end
def N5(sp:Sp)(dvs:G V)(E:XK)(t:TA):TE:=λ σ H Q=>t σ H λ vs H1=>sp (vs++dvs) H1 Q E
def az(K:Æ)(fd:Â)(ps:G Ç)(ds:G O):Prop:=
 ∀ (s:À) (us:G O),K.In s.heap->(us++ds).length=ps.length->BindsTo s fd {us,[]} (ps.zip (us++ds))
theorem az.all{fd:Â}(h:∀ us:G O,us.length=ps.length->bindArgs fd {us,[]}=pure (ps.zip us)):az K fd ps []:=λ s us _ hl=>by
 rw[X6] at hl ⊢;exact .of_eq (h us hl)
def kR(CX:CXT)(X:Cx)(E:XK):Prop:=∀ (pins:G (Z × Obj)) (σ:St) (H:Hp) (s:À) (e:O) (s':À),Inv X pins σ H s->CX X.stack H s E e s'->X.xe e s'
section
variable {cb:Ý}{CX:CXT}{f:Z}{fd:Â}{sp:Sp}{dvs:G V}{ds:G O}{E:XK}{m:Ç}{p apos:Pos}{o:Ò}{es:G Ò}{ta:TE}{t:TA}
theorem AR{Q:VK}(af:(!cb || X.calm)=Y)(F:lu cb X.prog X.w X.K X.mg X.base CX k f fd ps sp)(hr:jk k X.A)(hb:az X.K fd ps ds)(hd:bf dvs ds)(hx:kR CX X E)
  (I:Inv X pins σ H s) (r:bf vs us) (h:sp (vs++dvs) H Q E):Ä (É X.prog X.w) X.A (call (.ref f) us) (EP X pins σ Q) X.xe s:=by
 let r2:bf (vs++dvs) (us++ds):=r.append hd;let hl:(us++ds).length=ps.length:=by rw[←r2.length];exact F.len _ _ _ _ h
 refine X7 (Xi (F.run X.A X.stack s H ⟨us,[]⟩ (us++ds) (vs++dvs) Q E hr (λ z=>I.ok.hd (by subst z;exact af)) I.env0 (hb s us I.kIn hl) r2 h) λ r s' hq=>?_)
 cases r with
 | error e=>exact hx pins σ H s e s' I hq
 | ok fl=>
  cases fl with
  | ret u=>exact I.after hq
  | next=>exact False.elim hq
  | brk=>exact False.elim hq
  | cont=>exact False.elim hq
theorem BB(F:lu cb X.prog X.w X.K X.mg X.base CX k f fd ps sp)(hr:jk k X.A)(hg:Gl X x)(hm:X.mg x=U (.ref f))(hk:W.keepIn X.K (.ref f)=Y)(hb:az X.K fd ps ds)(hd:bf dvs ds)(hx:kR CX X E)
  (ha:PA X (e::es) t) (af:(x == ("__debug__":Ç))=Á:=by decide) (he:starEach (e::es) X.env=(Á,eval e X.env)::starEach es X.env:=by rfl) (aS:(backTo pos (starEach es X.env)).any (·.1)=Á:=by rfl) (aX:(!cb || X.calm)=Y:=by rfl) :
  PE X (.Call (.Name x p) (e::es) [] pos) (N5 sp dvs E t):=by
 intro pins s σ H Q I h;refine W3 (gK I hg hm ?_ af);refine W.callWith_K (h₀:=X.base) I.ok.mod.kin hk (thn (ha pos pins s σ H _ I h) λ us s1 ⟨vs,H1,I1,r,q⟩=>{I1.kIn,?_}) he aS;exact AR aX F hr hb hd hx I1 r q
structure Mk(K:Æ)(C f:Z):Prop where
 makes:W.makesIn K C=Y
 init:Ó K (.ref C) "__init__"=U (U (.ref f))
 fn:W.isFn K (.ref f)=Y
 kp:W.keepIn K (.ref C)=Y
theorem FW{Q:VK}(aS:(!cb || X.calm)=Y)(M:Mk X.K C f)(F:lu cb X.prog X.w X.K X.mg X.base CX k f fd ps sp)(hr:jk (k+1) X.A)(hb:az X.K fd ps ds)(hd:bf dvs ds)
  (hx:kR CX X E) (I:Inv X pins σ H s) (r:bf vs us)
  (h:∀ x dx,H x=L->H dx=L->dx≠x->sp (.ref x::(vs++dvs)) (upd (upd H dx (.own x)) x (.ins C dx [])) (λ v H2=>v=.non/\Q (.ref x) H2) E) :
  Ä (É X.prog X.w) X.A (call (.ref C) us) (EP X pins σ Q) X.xe s:=by
 let hq:=h (%[s|99]+1) %[s|99] (I.hok.fresh (XM _)) (I.hok.fresh (VF _)) (VQ (Xs _));let I2:=Inv.made (C:=C) I;let r2:bf (V.ref (%[s|99]+1)::(vs++dvs)) (Ê (%[s|99]+1)::(us++ds)):=.cons J (r.append hd)
 let hl:(Ê (%[s|99]+1)::us++ds).length=ps.length:=by
  let e:=r2.length;rw[F.len _ _ _ _ hq] at e;exact e.symm
 refine X7 (GB (f:=f) I.kIn M.makes M.init (W5.mp M.fn) (Xi (F.run _ X.stack _ _ ⟨Ê (%[s|99]+1)::us,[]⟩ (Ê (%[s|99]+1)::(us++ds)) _ _ E (hr.make C us []) (λ z=>I.ok.hd (by subst z;exact aS))
  (I2.env0.make C us []) (hb _ (Ê (%[s|99]+1)::us) I2.kIn hl) r2 hq) λ r s' af=>?_))
 cases r with
 | error e=>exact hx pins σ _ _ e s' I2 af
 | ok fl=>
  cases fl with
  | ret u=>
   let(v,H',I3,rv,ev,q3):=I2.after af;subst ev;exact{rv,{V.ref (%[s|99]+1),H',I3,J,q3}}
  | next=>exact False.elim af
  | brk=>exact False.elim af
  | cont=>exact False.elim af
end
def PK(X:Cx)(kws:G Keyword)(t:TA):Prop:=
 ∀ (pos:Pos) (pins:G (Z × Obj)) (s:À) (σ:St) (H:Hp) (Q:G V->Hp->Prop),Inv X pins σ H s->t σ H Q->Ä (É X.prog X.w) X.A (evalAll ((backToKw pos (keywordEach kws X.env)).map (·.2))) (AP X pins σ Q) X.xe s
section
variable {X:Cx}{cb:Ý}{CX:CXT}{f:Z}{fd:Â}{ks:G Ç}{sp:Sp}{E:XK}{x m:Ç}{p pos apos kpos:Pos}{e o:Ò}{es:G Ò}{kws:G Keyword}{te ta:TE}{t tk:TA}{nm:Ü Ç}
theorem Je:PK X [] NI:=λ _ _ _ _ H Q I h=>wpAny_evalAll_nil {[],H,I,.nil,h}
theorem Bw(ha:PE X e te)(hr:PK X kws t):PK X ({(nm),e,kpos} :: kws) (E9 te t):=by
 intro pos pins s σ H Q I h
 show Ä _ _ (evalAll ((do let v ←eval e X.env;standAt pos;pure v)::(backToKw pos (keywordEach kws X.env)).map (·.2))) _ _ s
 refine wpAny_evalAll_cons (My (thn (ha pins s σ H _ I h) λ u s1 ⟨x,H1,I1,r1,q1⟩=>My (XH (VC ?_))));exact thn (hr pos pins s1 σ H1 _ I1 q1) λ us s2 ⟨xs,H2,I2,r2,q2⟩=>{x::xs,H2,I2,.cons r1 r2,q2}
variable {g:G O->G O->G O}{gV:G V->G V->G V}
end
structure ai(N P:G Ç)(sc:Scope):Prop where
 kind:sc.kind=.function
 co:sc.isCoroutine=Á
 gen:sc.isGenerator=Á
 nd:N.Nodup
 pre:N.take P.length=P
 par:∀ x∈P,sc.names.lookup x=U .local\/sc.names.lookup x=U .cell
 nofree:∀ y∈sc.names,y.2 ≠ .free
theorem tH{kindOf:Ç->Ü NameKind}:∀ {binds:G (Ç × O)}{m:Ç->Ü O},(∀ v,(x,v) ∉ binds)->bindL kindOf binds m x=m x
 | [],_,_=>rfl
 | (n,v)::r,m,h=>by
  unfold bindL;rw[tH λ w hw=>h w (mem_cons_of_mem _ hw)];split
  ·have:x≠n:=by rintro rfl;exact h v VP
   simp[this]
  ·rfl
theorem tJ{kindOf:Ç->Ü NameKind}:∀ {binds:G (Ç × O)}{m:Ç->Ü O},(∀ v,(x,v) ∉ binds)->bindC kindOf binds m x=m x
 | [],_,_=>rfl
 | (n,v)::r,m,h=>by
  unfold bindC;rw[tJ λ w hw=>h w (mem_cons_of_mem _ hw)];split
  ·rfl
  ·have:x≠n:=by rintro rfl;exact h v VP
   simp[this]
theorem tI{kindOf:Ç->Ü NameKind}{x:Ç}{v:O}:∀ {P:G Ç}{vs:G O}{i:à}{m:Ç->Ü O},P.Nodup->P[i]? = U x->vs[i]? = U v->kindOf x=U .local →
  bindL kindOf (P.zip vs) m x=U v
 | [],_,_,_,_,h,_,_=>by simp at h
 | _::_,[],_,_,_,_,h,_=>by simp at h
 | p::P,w::vs,0,m,nd,h1,h2,hk=>by
  simp at h1 h2;subst h1;subst h2
  show bindL kindOf ((p,w)::P.zip vs) m p=_
  unfold bindL;rw[tH λ v hv=>(nodup_cons.mp nd).1 (of_mem_zip hv).1,if_pos hk];simp
 | p::P,w::vs,i+1,m,nd,h1,h2,hk=>by
  show bindL kindOf ((p,w)::P.zip vs) m x=_
  unfold bindL;exact tI (i:=i) (nodup_cons.mp nd).2 (by simpa using h1) (by simpa using h2) hk
theorem tK{kindOf:Ç->Ü NameKind}{x:Ç}{v:O}:∀ {P:G Ç}{vs:G O}{i:à}{m:Ç->Ü O},P.Nodup->P[i]? = U x->vs[i]? = U v->kindOf x≠U .local →
  bindC kindOf (P.zip vs) m x=U v
 | [],_,_,_,_,h,_,_=>by simp at h
 | _::_,[],_,_,_,_,h,_=>by simp at h
 | p::P,w::vs,0,m,nd,h1,h2,hk=>by
  simp at h1 h2;subst h1;subst h2
  show bindC kindOf ((p,w)::P.zip vs) m p=_
  unfold bindC;rw[tJ λ v hv=>(nodup_cons.mp nd).1 (of_mem_zip hv).1,if_neg hk];simp
 | p::P,w::vs,i+1,m,nd,h1,h2,hk=>by
  show bindC kindOf ((p,w)::P.zip vs) m x=_
  unfold bindC;exact tK (i:=i) (nodup_cons.mp nd).2 (by simpa using h1) (by simpa using h2) hk
def av(N:G Ç)(vs:G V):St:=vs.map U++È (N.length - vs.length) L
def Ai(cb:Ý)(CX:CXT)(P:Ë)(w:Ï)(K:Æ)(mg:Ç->Ü O)(base:Í)(N:G Ç)(qual:Ç)(scope:Scope)(f:Z)(cd:O)(A:Î)(outer:G Env)(s:À)(H:Hp)(E:XK):Cx where
 prog:=P
 w:=w
 K:=K
 mg:=mg
 base:=base
 A:=A.deeper (envOfC qual scope %[s|99] f cd)
 N:=N
 s₀:=s
 H₀:=H
 env:=envOfC qual scope %[s|99] f cd
 outer:=outer
 stack:=envOfC qual scope %[s|99] f cd::outer
 ex:=[]
 calm:=cb
 fn:=λ _=>Y
 pn:=[]
 xe:=λ e s'=>Ä (É P w) (A.deeper (envOfC qual scope %[s|99] f cd)) (leaving (envOfC qual scope %[s|99] f cd) e) (λ _ af=>CX outer H s E e af) (λ e' af=>CX outer H s E e' af) s'
theorem xM{sc:Scope}{n:à}(h:sc.names.lookup x=U .cell):∃ c,(cellsFrom n sc.names []).lookup x=U c:=by
 let q:=W.cellsFrom_some sc.names n [] (.inl h);exact V1.mp q
theorem Er{cb:Ý}{CX:CXT}{qual:Ç}{scope:Scope}{f:Z}{cd:O}{outer:G Env}{s1:À}{E:XK}
  (S:ai N ps scope) (hd:cb=Y->A.handled=L) (e0:JG P w K mg base A outer s H) (hl:vs.length=ps.length) (r:bf vs us)
  (x:InCallC s %[s|99] (bindL (envOfC qual scope %[s|99] f cd).kindOf (ps.zip us) λ _=>L) (cellsFrom (%[s|99]+1) scope.names []) (bindC (envOfC qual scope %[s|99] f cd).kindOf (ps.zip us) λ _=>L) s1) :
  Inv (Ai cb CX P w K mg base N qual scope f cd A outer s H E) [] (av N vs) H s1:=by
 let aX:ps.length<=N.length:=by have:=W2 List.length S.pre;rw[Wi] at this;omega
 let(h1,tk,rfl,hk):=x.done;let af:∀ b:Z,b ∉ (Ai cb CX P w K mg base N qual scope f cd A outer s H E).ex:=λ b z=>Þ (show b∈([]:G Z) from z) (by simp)
 refine{⟨e0.mod,S.kind,J,J,VF _,λ y z c h1 h2=>?_,λ y hy=>?_,λ y c _ h=>?_,hd,e0.soft,Around.frames_deeper e0.frames,.inr {(J),J},λ b z=>Þ z (af b),e0.bs,e0.bsz,λ b _ _=>af b,λ b z=>Þ z (af b),e0.funs,e0.frf⟩,
  rfl,e0.bare,Un.kept hk,{_,x.toInCall.ns,λ i y v h1 h2 h3=>?_},λ y c h=>{_,x.cell y c h},e0.hok.fresh (VF _),λ y c h=>?_,λ p hp=>Þ (show p∈([]:G (Z × Obj)) from hp) (by simp),e0.hok.kept hk,?_}
 ·exact name_of_addr x.apart (XJ h1) (XJ h2)
 ·let hy:scope.names.lookup y=U .cell\/scope.names.lookup y=U .free:=hy
  rcases hy with hy|hy
  ·exact xM hy
  ·exact Þ J (S.nofree _ (XJ hy))
 ·exact Yf (x.above y c (XJ h))
 ·let hi:i<vs.length:=by
   unfold av at h2
   by_cases hi:i<vs.length
   ·exact hi
   ·rw[Wj (by simpa using hi)] at h2;rw[XZ] at h2
    split at h2<;>cases h2
  let ha:vs[i]? = U v:=by
   unfold av at h2;rw[getElem?_append_left (by simpa using hi),getElem?_map] at h2
   cases e:vs[i]? with
   | none=>rw[e] at h2;cases h2
   | some a=>rw[e] at h2;cases h2;rfl
  let(u,hu,rv):=r.get ha
  let hp:ps[i]? = U y:=by
   rw[←S.pre,List.getElem?_take_of_lt (by omega)];exact h1
  let aS:ps.Nodup:=by rw[←S.pre];exact S.nd.sublist (List.take_sublist _ _)
  refine{u,rv,?_}
  rcases S.par y (V8 hp) with k|k
  ·exact .inl {k,tI aS hp hu k}
  ·let(c,e):=xM (n:=%[s|99]+1) k;refine .inr {.inl k,c,e,?_};let q:=x.cell y c e;rw[tK aS hp hu (by show scope.names.lookup y≠_;rw[k];decide)] at q;exact q
 ·exact e0.hok.fresh (Yf (x.above y c (XJ h)))
 ·unfold av
  show _=N.length
  rw[VN,VD,Xu];omega
theorem OE{cb:Ý}{CX:CXT}{f:Z}{name qual:Ç}{params:Arguments}{scope:Scope}{dV kV doc pm cdv ct oc:O}{an od:Ü Z}
  {osl:Array (Ü O)}  {sp:Sp} (lk:K.lookup f=U {oc,od,.func (W.fnOf name qual params body scope dV kV doc pm an cdv ct),osl}) (a3:W.codeIn K cdv qual=Y) (S:ai N ps scope)
  (len:∀ vs H Q E,sp vs H Q E->vs.length=ps.length)
  (af:∀ (A:Î) (outer:G Env) (s:À) (H:Hp) (vs:G V) (Q:VK) (E:XK),jk k (A.deeper (envOfC qual scope %[s|99] f cdv))->sp vs H Q E →
   ∃ t,PSs (Ai cb CX P w K mg base N qual scope f cdv A outer s H E) body t/\t { nx:=λ _ H'=>Q .non H',rt:=Q } (av N vs) H) :
  lu cb P w K mg base CX (k+1) f (W.fnOf name qual params body scope dV kV doc pm an cdv ct) ps sp:=by
 refine{len,λ A outer s H args us vs Q E hr a4 e0 hb r aX=>?_};let hl:=len _ _ _ _ aX;let KX:K.In s.heap:=e0.mod.kin.keeps λ b o e=>(e0.bs b o e).1;let lim:s.heap.NoLimit:=e0.mod.nolimit.keeps λ b o e=>(e0.bs b o e).1
 let aS:∀ y∈ps.zip us,scope.names.lookup y.1=U .local\/(scope.names.lookup y.1=U .cell/\((cellsFrom (%[s|99]+1) scope.names []).lookup y.1).isSome=Y):=λ ⟨n,v⟩ hy=>by
  rcases S.par n (Xw hy).1 with q|q
  ·exact .inl q
  ·exact .inr {q,W.cellsFrom_some _ _ _ (.inl q)}
 refine codeAny_call_function hr.depth (KX _ _ lk) J S.co S.gen J (W.codeRec_of KX a3) (hb _ _ _ _ ?_);refine wpAny_newFunctionEnv_cells S.kind aS λ env he s1 x=>?_;subst he;refine{lim.keeps x.toInCall.keep,codeAny_func ?_};let(t,ht,hq):=af A outer s H vs Q E (hr.deeper _) aX;let I:Inv (Ai cb CX P w K mg base N qual scope f cdv A outer s H E) [] (av N vs) H s1:=Er S a4 e0 hl r x;refine Xx (ht [] s1 (av N vs) H _ I hq) (λ fl s' hs=>?_) λ e s' hs=>hs
 let fin:∀ {σ':St} {H':Hp} {v:V} {u:O},Inv (Ai cb CX P w K mg base N qual scope f cdv A outer s H E) [] σ' H' s'->b9 v u->Q v H'->CE outer P w H s Q u s':=
  λ {σ' H' v u} ww rv q=>{(v),H',ww.os,ww.bare,ww.base,ww.hok,rv,q}
 cases fl with
 | ret u=>
  let(v,σ',H',ww,rv,q):=hs;exact fin ww rv q
 | next=>
  let(σ',H',ww,q):=hs;exact fin (v:=V.non) (u:=Ñ) ww J q
 | brk=>
  let(_,_,_,q):=hs;exact False.elim q
 | cont=>
  let(_,_,_,q):=hs;exact False.elim q
section
variable {X:Cx}{x:Ç}{p pos:Pos}{e:Ò}{es:G Ò}{t:TA}{id T:String}{r:G V->Hp->VK->Prop}
def tCB(r:G V->Hp->VK->Prop)(t:TA):TE:=λ σ H Q=>t σ H λ vs H1=>r vs H1 Q
theorem lL(hc:cn X (.builtin id) r)(hg:Gl X x)(hm:X.mg x=L)(hv:bootBuiltins x=U (.builtin id))(ha:PA X (e::es) t)(hn:x ≠ "__name__":=by decide)(af:(x == ("__debug__":Ç))=Á:=by decide)
  (he:starEach (e::es) X.env=(Á,eval e X.env)::starEach es X.env:=by rfl) (aS:(backTo pos (starEach es X.env)).any (·.1)=Á:=by rfl):PE X (.Call (.Name x p) (e::es) [] pos) (tCB r t):=by
 intro pins s σ H Q I h;refine W3 (eP I hg hm hv ?_ hn af);exact Zk (thn (ha pos pins s σ H _ I h) λ us s1 ⟨vs,H1,I1,r1,q1⟩=>hc pins s1 σ H1 vs us Q I1 r1 q1) he aS
theorem CM(hc:cn X (.type T) r)(hg:Gl X x)(hm:X.mg x=L)(hv:bootBuiltins x=U (.type T))(ha:PA X (e::es) t)(hn:x ≠ "__name__":=by decide)(af:(x == ("__debug__":Ç))=Á:=by decide)
  (he:starEach (e::es) X.env=(Á,eval e X.env)::starEach es X.env:=by rfl) (aS:(backTo pos (starEach es X.env)).any (·.1)=Á:=by rfl):PE X (.Call (.Name x p) (e::es) [] pos) (tCB r t):=by
 intro pins s σ H Q I h;refine W3 (eP I hg hm hv ?_ hn af);exact Wd (thn (ha pos pins s σ H _ I h) λ us s1 ⟨vs,H1,I1,r1,q1⟩=>hc pins s1 σ H1 vs us Q I1 r1 q1) he aS
end
end L2
namespace HT
open PySem PyProof.Rows
section
open PySem.SeqAt
open PySem.AutoSeq1 (wpAny_loadPart')
open PySem.MeetsSeq PySem.MeetsSeq2 PySem.MeetsSeq3
end
section
variable {prog:Ë}{w:Ï}{A:Î}{E:O->À->Prop}{s:À}
def sIx(n d:à):Ü B->à
 | none=>d
 | some v=>if v<0 then (v+(n:B)).toNat else min v.toNat n
def sIx_none(n d:à):sIx n d L=d:=rfl
theorem sIx_nat(n d k:à):sIx n d (U (k:B))=min k n:=by
 show (if (k:B)<0 then ((k:B)+(n:B)).toNat else min (k:B).toNat n)=min k n
 rw[VY (by omega),VW]
end
end HT
namespace L2
open PySem PySem.Spec PyProof.Rows
variable {α:Type}{n:à}{pins:G (Z × Obj)}{σ:St}{s:À}{xs:G V}{its:G O}{x:V}
abbrev TO:=St->Hp->(Ü B->Hp->Prop)->Prop
def PO(X:Cx)(e:Ü Ò)(t:TO):Prop:=
 ∀ (pins:G (Z × Obj)) (s:À) (σ:St) (H:Hp) (Q:Ü B->Hp->Prop),Inv X pins σ H s->t σ H Q →
  Ä (É X.prog X.w) X.A (evalPart e X.env) (λ u s'=>∃ o H',Inv X pins σ H' s'/\IsPart u o/\Q o H') X.xe s
def Bj:TO:=λ _ H Q=>Q L H
def NY(t:TE):TO:=λ σ H Q=>t σ H λ x H1=>∃ i,x=.int i/\Q (U i) H1
theorem zD{ns:G B}:∀ {us:G O},bf (ns.map V.int) us->IntsAre us ns:=by
 induction ns with
 | nil=>intro us r;rw[YC] at r;cases r;exact .nil
 | cons n ns ih=>
  intro us r;rw[Wr] at r
  cases r with
  | cons r1 r2=>
   let(t,e):=r1;subst e;exact .cons n t (ih r2)
section
variable {X:Cx}{e:Ò}{te:TE}{lo hi:Ü Ò}{tl th:TO}{pos p2:Pos}
theorem dg:PO X L Bj:=by
 intro pins s σ H Q I h;rw[evalPart_none];exact VC {L,H,I,.none,h}
theorem KQ(h:PE X e te):PO X (U e) (NY te):=by
 intro pins s σ H Q I hw;rw[evalPart_some];refine thn (h pins s σ H _ I hw) λ u s1 ⟨x,H1,I1,r1,q1⟩=>?_;let(i,rfl,q):=q1;let(t,rfl):=r1;exact{U i,H1,I1,.int i t,q}
def SlR(X:Cx)(r:V->Ü B->Ü B->Hp->VK->Prop):Prop:=
 ∀ (pins:G (Z × Obj)) (s:À) (σ:St) (H:Hp) (x:V) (v vl vu:O) (lo hi:Ü B) (sl:Z) (Q:VK),Inv X pins σ H s->b9 x v->s.heap.IsSliceOf sl vl vu .none->IsPart vl lo->IsPart vu hi->r x lo hi H Q →
  ∃ T id,typeLookup (.type T) "__getitem__"=pure (U (.builtin id))/\s.TypeIs v T/\Ä (É X.prog X.w) X.A (getItem v (.ref sl)) (EP X pins σ Q) X.xe s
def tSl(r:V->Ü B->Ü B->Hp->VK->Prop)(te:TE)(tl th:TO):TE:=λ σ H Q=>te σ H λ x H1=>tl σ H1 λ l H2=>th σ H2 λ u H3=>r x l u H3 Q
theorem Gj{r:V->Ü B->Ü B->Hp->VK->Prop}(hr:SlR X r)(he:PE X e te)(hl:PO X lo tl)(hu:PO X hi th):PE X (.Subscript e (.Slice lo hi L p2) pos) (tSl r te tl th):=by
 intro pins s σ H Q I h;refine Subscript_ (thn (he pins s σ H _ I h) λ v s1 ⟨x,H1,I1,r1,q1⟩=>?_);refine wpAny_Slice (thn (hl pins s1 σ H1 _ I1 q1) λ vl s2 ⟨l,H2,I2,pl,q2⟩=>thn (hu pins s2 σ H2 _ I2 q2) λ vu s3 ⟨u,H3,I3,pu,q3⟩=>?_);rw[evalPart_none];refine VC ?_;let I4:Inv X pins σ H3 { s3 with heap:=s3.heap.push { cls:=.type "slice",data:=.fields #[vl,vu,.none] } }:=I3.kept (t':=s3.toks) λ b ob q=>Vz _ q;let(T,id,hT,ht,hg):=hr pins { s3 with heap:=s3.heap.push { cls:=.type "slice",data:=.fields #[vl,vu,.none] } } σ H3 x v vl vu l u %[s3|99] Q I4 r1 (Heap.IsSliceOf.new ..) pl pu q3
 show Ä (É X.prog X.w) X.A (subscriptTail e (.Slice lo hi L p2) v (.ref %[s3|99])) (EP X pins σ Q) X.xe { s3 with heap:=s3.heap.push { cls:=.type "slice",data:=.fields #[vl,vu,.none] } }
 exact tail_any (ops:=[.ref %[s3|99],v]) ht hT hg (by with_unfolding_all rfl)
def uD(xs:G V)(lo hi:Ü B):G V:=(xs.drop (HT.sIx xs.length 0 lo)).take (HT.sIx xs.length xs.length hi - HT.sIx xs.length 0 lo)
theorem wa(xs:G V)(lo hi:Ü B):(uD xs lo hi).length<=xs.length:=by
 unfold uD;rw[length_take,length_drop];omega
end
def ixN(n:à)(i:B):Ü à:=if 0<=i then (if i<n then U i.toNat else L) else if -(n:B)<=i then U (i+n).toNat else L
def atI(xs:G α)(i:B):Ü α:=(ixN xs.length i).bind λ j=>xs[j]?
theorem BK{i:B}{j:à}(h:ixN n i=U j):seqIndex? i n=U j/\j<n/\-(n:B)<=i/\i<n:=by
 unfold ixN at h
 by_cases h0:0<=i
 ·rw[V7 h0] at h
  by_cases h1:i<n
  ·rw[V7 h1] at h;let e:i.toNat=j:=We h;exact{by rw[seqIndex_of h0 h1,e],by omega,by omega,h1}
  ·rw[VY h1] at h;cases h
 ·rw[VY h0] at h
  by_cases h1:-(n:B)<=i
  ·rw[V7 h1] at h;let e:(i+n).toNat=j:=We h;exact{by rw[seqIndex_neg (by omega) h1,e],by omega,h1,by omega}
  ·rw[VY h1] at h;cases h
theorem Cg{xs:G α}{i:B}{v:α}(h:atI xs i=U v):∃ j,seqIndex? i xs.length=U j/\xs[j]? = U v/\j<xs.length/\-(xs.length:B)<=i/\i<xs.length:=by
 unfold atI at h
 cases e:ixN xs.length i with
 | none=>rw[e] at h;cases h
 | some j=>
  rw[e] at h;let(h1,h2,h3,h4):=BK e;exact{(j),h1,h,h2,h3,h4}
theorem gL{xs:G α}{j:à}{v:α}(h:xs[j]? = U v):atI xs (j:B)=U v:=by
 let hj:j<xs.length:=(VB.mp h).1
 let e:ixN xs.length (j:B)=U j:=by
  unfold ixN;rw[if_pos (by omega),if_pos (by omega)];simp
 unfold atI;rw[e];exact h
def Nu(b:Ò):Prop:=∀ o i,subscripted b Á o i=operate [o,i] (getItem o i)
def IxR(X:Cx)(r:R2):Prop:=
 ∀ (value slice:Ò) (pins:G (Z × Obj)) (s:À) (σ:St) (H:Hp) (x y:V) (v u:O) (Q:VK),Inv X pins σ H s->b9 x v->b9 y u->r x y H Q →
  subscripted slice Á v u=operate [v,u] (getItem v u)->Ä (É X.prog X.w) X.A (subscriptTail value slice v u) (EP X pins σ Q) X.xe s
def MtR(X:Cx)(id:String)(r:V->G V->Hp->VK->Prop):Prop:=
 ∀ (pins:G (Z × Obj)) (s:À) (σ:St) (H:Hp) (x:V) (xs:G V) (v:O) (us:G O) (Q:VK),Inv X pins σ H s->b9 x v->bf xs us->r x xs H Q →
  Ä (É X.prog X.w) X.A (call (.builtin id) (v::us)) (EP X pins σ Q) X.xe s
section
variable {X:Cx}{a b:Ò}{ta tb:TE}{pos:Pos}
theorem IxR.or{r r':R2}(h:IxR X r)(h':IxR X r'):IxR X (λ x y H Q=>r x y H Q\/r' x y H Q):=by
 intro value slice pins s σ H x y v u Q I rx ry q hs
 rcases q with q|q
 ·exact h value slice pins s σ H x y v u Q I rx ry q hs
 ·exact h' value slice pins s σ H x y v u Q I rx ry q hs
theorem JV{r:R2}(hr:IxR X r)(ha:PE X a ta)(hb:PE X b tb)(hs:Nu b):PE X (.Subscript a b pos) (tOp r ta tb):=by
 intro pins s σ H Q I h;exact Subscript_ (Se ha hb I h λ v u s2 x y H2 I2 rx ry q=>hr a b pins s2 σ H2 x y v u Q I2 rx ry q (hs _ _))
def U2(K:Æ):R2:=λ x y H Q=>∃ p xs i v,x=.ref p/\y=.int i/\SqL K H p xs/\atI xs i=U v/\Q v H
def U1(K:Æ):R2:=λ x y H Q=>∃ p xs i v,x=.ref p/\y=.int i/\SqT K H p xs/\atI xs i=U v/\Q v H
theorem u4:IxR X (U2 X.K):=by
 intro value slice pins s σ H x y v u Q I rx ry h hs;let(p,xs,i,z,rfl,rfl,hq,he,q):=h;cases rx;let(t,rfl):=ry;let(its,r,pl,hz):=I.list hq;let(j,h1,h2,h3,h4,h5):=Cg he;let(w,ew,af):=r.get h2;let hl:=r.length;let hn:=oO;let fin:EP X pins σ Q w s:={(z),H,I,af,q}
 by_cases h0:0<=i
 ·let hj:i.toNat=j:=by
   rw[seqIndex_of h0 h5] at h1;exact We h1
  exact item_listR pl.isList h0 (by omega) (by rw[hj];simpa using ew) fin hs
 ·let hj:(i+(its.toArray.size:B)).toNat=j:=by
   rw[seqIndex_neg (by omega) h4] at h1;rw[V3,←hl];exact We h1
  exact subscriptTail_builtinR (x:=w) pl.isList.typeIs slot_list_getitem.lookup
   (wpAny_getItem_list_neg (Q:=λ r s'=>r=w/\EP X pins σ Q r s') pl.isList (by omega) (by rw[V3]<;>omega) (by omega) (by rw[hj];simpa using ew) {(J),fin}) hs
theorem QT:IxR X (U1 X.K):=by
 intro value slice pins s σ H x y v u Q I rx ry h hs;let(p,xs,i,z,rfl,rfl,hq,he,q):=h;cases rx;let(t,rfl):=ry;let(its,r,pl,hz):=I.tuple hq;let(j,h1,h2,h3,h4,h5):=Cg he;let(w,ew,af):=r.get h2;let hl:=r.length;let hn:=oO;let fin:EP X pins σ Q w s:={(z),H,I,af,q}
 exact subscriptTail_builtinR (x:=w) pl.typeIs slot_tuple_getitem.lookup
  (getItem_tuple (j:=j) (Q:=λ r s'=>r=w/\EP X pins σ Q r s') pl (by omega) (by omega) (by rw[V3,←hl];exact h1) (by simpa using ew) {(J),fin}) hs
theorem yO(its:G O)(n j:à)(u:O):Obj.mapSeq (·.setIfInBounds j u) { cls:=.type "list",data:=.seq its.toArray n }={ cls:=.type "list",data:=.seq (its.set j u).toArray n }:=by
 simp[Obj.mapSeq]
theorem Inv.lst{H:Hp}{p:Z}(I:Inv X pins σ H s)(h:H p=U (.lst xs)) :
  ∃ (its:G O) (n:à),bf xs its/\s.heap.get? p=U { cls:=.type "list",data:=.seq its.toArray n }/\xs.length<=Å:=by
 let(z,its,n,r,e):=I.hok p _ h;exact{(its),n,r,e,z}
theorem Inv.lstUpd{H:Hp}{p:Z}{ys:G V}{its':G O}{n':à}{f:Obj->Obj}(I:Inv X pins σ H s)(h:H p=U (.lst xs))
  (ho:s.heap.get? p=U { cls:=.type "list",data:=.seq its.toArray n }) (hf:f { cls:=.type "list",data:=.seq its.toArray n }={ cls:=.type "list",data:=.seq its'.toArray n' }) (r:bf ys its') (hz:ys.length<=Å) (t:à) :
  Inv X pins σ (upd H p (.lst ys)) { s with heap:=s.heap.update p f,toks:=t }:=by
 let e:(s.heap.update p f).get? p=U { cls:=.type "list",data:=.seq its'.toArray n' }:=by
  rw[VZ f ho (by rw[hf]<;>rfl),hf]
 refine I.write (x:=p) (e:=p) (by rw[h];trivial) (.inl J) (λ b u hb q=>(V4 _ _ (VL hb)).trans q) {_,e} ?_;exact{(hz),its',n',r,e}
def Oa:V->V->V->Hp->(Hp->Prop)->Prop:=λ o i v H Q=>∃ p xs k j,o=.ref p/\i=.int k/\H p=U (.lst xs)/\ixN xs.length k=U j/\Q (upd H p (.lst (xs.set j v)))
theorem lG:UM X Oa:=by
 intro pins s σ H o i v ov iv u Q I ro ri rv h;let(p,xs,k,j,rfl,rfl,hp,hj,q):=h;cases ro;let(t,rfl):=ri;let(its,n,r,ho,hz):=I.lst hp;let(h1,h2,h3,h4):=BK hj;let hl:=r.length;let hn:=oO
 let I':Inv X pins σ (upd H p (.lst (xs.set j v))) { s with heap:=s.heap.update p (Obj.mapSeq (·.setIfInBounds j u)) }:=
  I.lstUpd hp ho (yO its n j u) (r.set rv j) (by rw[Y2];exact hz) s.toks
 by_cases h0:0<=k
 ·let hk:k.toNat=j:=by
   rw[seqIndex_of h0 h4] at h1;exact We h1
  exact W.ki_setAt ho h0 (by omega) (by rw[V3,←hl];exact h4) (by rw[hk];exact{_,I',q})
 ·let hk:(k+(its.toArray.size:B)).toNat=j:=by
   rw[seqIndex_neg (by omega) h3] at h1;rw[V3,←hl];exact We h1
  exact W.ki_setBack ho (by omega) (by rw[V3,←hl];exact h3) (by omega) (by rw[hk];exact{_,I',q})
theorem tY(lo hi:Ü B)(n:à):(sliceBounds lo hi L n).1=((HT.sIx n 0 lo:à):B)/\(sliceBounds lo hi L n).2.1=((HT.sIx n n hi:à):B)/\(sliceBounds lo hi L n).2.2=1:=by
 refine{?_,?_,J}
 ·cases lo with
  | none=>simp[sliceBounds,HT.sIx]
  | some i=>
   simp only[sliceBounds,HT.sIx,Option.getD_none,show (1:B) > 0 by decide,YA]
   by_cases h:i<0
   ·simp only[h,YA]<;>omega
   ·simp only[h,XU]<;>omega
 ·cases hi with
  | none=>simp[sliceBounds,HT.sIx]
  | some i=>
   simp only[sliceBounds,HT.sIx,Option.getD_none,show (1:B) > 0 by decide,YA]
   by_cases h:i<0
   ·simp only[h,YA]<;>omega
   ·simp only[h,XU]<;>omega
theorem qX(its:G O)(lo hi:Ü B):slicePick its.toArray lo hi L=((its.drop (HT.sIx its.length 0 lo)).take (HT.sIx its.length its.length hi - HT.sIx its.length 0 lo)).toArray:=by
 let(h1,h2,h3):=tY lo hi its.toArray.size;unfold slicePick;rw[h1,h2,h3]
 simp only[sliceRange_one,pick_run,V3]<;>rfl
def UY(K:Æ):V->Ü B->Ü B->Hp->VK->Prop:=λ x lo hi H Q=>∃ a xs,x=.ref a/\SqL K H a xs/\∀ p,H p=L->Q (.ref p) (upd H p (.lst (uD xs lo hi)))
theorem KA:SlR X (UY X.K):=by
 intro pins s σ H x v vl vu lo hi sl Q I rx hs pl pu h;let(a,xs,rfl,hx,q):=h;cases rx;let(its,r,ht,hz):=I.list hx;let hlen:=r.length;refine{"list",_,slot_list_getitem.lookup,ht.isList.typeIs,?_};refine wpAny_getItem_list_slice ht.isList hs pl pu .none (by simp) ?_ (by rw[V3]<;>omega);rw[qX,←hlen];refine{.ref %[s|99],_,I.laid (t':=s.toks) (o:=.lst (uD xs lo hi)) (λ b ob q=>Vz _ q) (VF _) ?_,J,q _ (I.hok.fresh (VF _))};exact{Wo (wa xs lo hi) hz,_,0,(r.drop (HT.sIx xs.length 0 lo)).take (HT.sIx xs.length xs.length hi - HT.sIx xs.length 0 lo),VG _ J}
def jo:V->Ý
 | .non=>Y
 | .bl _=>Y
 | .int _=>Y
 | .str _=>Y
 | _=>Á
def eqV:V->V->Ý
 | .non,.non=>Y
 | .bl a,.bl b=>a == b
 | .bl a,.int b=>(if a then 1 else 0) == b
 | .int a,.bl b=>a == (if b then 1 else 0)
 | .int a,.int b=>a == b
 | .str a,.str b=>a == b
 | _,_=>Á
theorem QX{A:Î}{y:V}{u v:O}(ry:b9 y u)(rx:b9 x v)(fy:jo y=Y)(fx:jo x=Y):SeqAt.EqAt A s u v (eqV y x):=by
 cases y with
 | non=>
  cases ry
  cases x with
  | non=>cases rx;exact SeqAt.EqAt.same _
  | bl b=>cases rx;exact SeqAt.EqAt.none_bool b
  | int b=>let(t,rfl):=rx;exact SeqAt.EqAt.none_int b t
  | str b=>let(t,rfl):=rx;exact SeqAt.EqAt.none_str b t
  | _=>exact Þ (show Á=Y from fx) VJ
 | bl a=>
  cases ry
  cases x with
  | non=>cases rx;exact SeqAt.EqAt.bool_none a
  | bl b=>cases rx;exact SeqAt.EqAt.bool_bool a b
  | int b=>let(t,rfl):=rx;exact SeqAt.EqAt.bool_int a b t
  | str b=>let(t,rfl):=rx;exact SeqAt.EqAt.bool_str a b t
  | _=>exact Þ (show Á=Y from fx) VJ
 | int a=>
  let(t',rfl):=ry
  cases x with
  | non=>cases rx;exact SeqAt.EqAt.int_none a t'
  | bl b=>cases rx;exact SeqAt.EqAt.int_bool a t' b
  | int b=>let(t,rfl):=rx;exact SeqAt.EqAt.int_int a t' b t
  | str b=>let(t,rfl):=rx;exact SeqAt.EqAt.int_str a t' b t
  | _=>exact Þ (show Á=Y from fx) VJ
 | str a=>
  let(t',rfl):=ry
  cases x with
  | non=>cases rx;exact SeqAt.EqAt.str_none a t'
  | bl b=>cases rx;exact SeqAt.EqAt.str_bool a t' b
  | int b=>let(t,rfl):=rx;exact SeqAt.EqAt.str_int a t' b t
  | str b=>let(t,rfl):=rx;exact SeqAt.EqAt.str_str a t' b t
  | _=>exact Þ (show Á=Y from fx) VJ
 | _=>exact Þ (show Á=Y from fy) VJ
def eqU(x:V)(u:O):Ý:=match u with
 | .none=>eqV .non x
 | .bool b=>eqV (.bl b) x
 | .int i _=>eqV (.int i) x
 | .str z _=>eqV (.str z) x
 | _=>Á
theorem Ju{y:V}{u:O}(r:b9 y u)(f:jo y=Y):eqU x u=eqV y x:=by
 cases y with
 | non=>cases r;rfl
 | bl b=>cases r;rfl
 | int i=>let(t,rfl):=r;rfl
 | str z=>let(t,rfl):=r;rfl
 | _=>exact Þ (show Á=Y from f) VJ
theorem mr:∀ {xs:G V}{us:G O},bf xs us->xs.all jo=Y->us.any (eqU x)=xs.any λ y=>eqV y x
 | _,_,.nil,_=>rfl
 | y::xs,u::us,.cons r t,f=>by
  rw[List.all_cons,Xt] at f;rw[any_cons,any_cons,Ju r f.1,mr t f.2]
theorem jE{A:Î}{v:O}(rx:b9 x v)(fx:jo x=Y):∀ {xs:G V}{us:G O},bf xs us->xs.all jo=Y->∀ u∈us,SeqAt.EqAt A s u v (eqU x u)
 | _,_,.nil,_=>λ u hu=>by cases hu
 | y::xs,u::us,.cons r t,f=>λ u' hu=>by
  rw[List.all_cons,Xt] at f
  rcases VU.mp hu with rfl|hu
  ·rw[Ju r f.1];exact QX r rx f.1 fx
  ·exact jE rx fx t f.2 u' hu
def inV(x:V)(xs:G V):Ý:=xs.any λ y=>eqV y x
def rIn(K:Æ)(neg:Ý):R2:=λ x y H Q=>∃ p xs,y=.ref p/\(SqL K H p xs\/SqT K H p xs)/\jo x=Y/\xs.all jo=Y/\Q (.bl (if neg then !inV x xs else inV x xs)) H
theorem CQ:OpR X (compareOp .In) (rIn X.K Á):=by
 intro pins s σ H x y v u Q I rx ry h;let(p,xs,rfl,hq,fx,fs,q):=h;cases ry
 rcases hq with hq|hq
 ·let(its,r,pl,hz):=I.list hq;refine SeqAt.in_listAt (eqU x) pl.isList (λ w hw=>jE rx fx r fs w (by simpa using hw)) {.bl _,H,I,J,?_};rw[show its.toArray.any (eqU x)=its.any (eqU x) by simp,mr r fs];exact q
 ·let(its,r,pl,hz):=I.tuple hq;refine SeqAt.in_tupleAt (eqU x) pl (λ w hw=>jE rx fx r fs w (by simpa using hw)) {.bl _,H,I,J,?_};rw[show its.toArray.any (eqU x)=its.any (eqU x) by simp,mr r fs];exact q
theorem ua:OpR X (compareOp .NotIn) (rIn X.K Y):=by
 intro pins s σ H x y v u Q I rx ry h;let(p,xs,rfl,hq,fx,fs,q):=h;cases ry
 rcases hq with hq|hq
 ·let(its,r,pl,hz):=I.list hq;refine SeqAt.notIn_listAt (eqU x) pl.isList (λ w hw=>jE rx fx r fs w (by simpa using hw)) {.bl _,H,I,J,?_};rw[show its.toArray.any (eqU x)=its.any (eqU x) by simp,mr r fs];exact q
 ·let(its,r,pl,hz):=I.tuple hq;refine SeqAt.notIn_tupleAt (eqU x) pl (λ w hw=>jE rx fx r fs w (by simpa using hw)) {.bl _,H,I,J,?_};rw[show its.toArray.any (eqU x)=its.any (eqU x) by simp,mr r fs];exact q
theorem ff:cn X (.builtin "len") (λ xs H Q=>∃ p ys,xs=[.ref p]/\(SqL X.K H p ys\/SqT X.K H p ys)/\Q (.int ys.length) H):=by
 intro pins s σ H xs us Q I r h;let(p,ys,rfl,hq,q):=h;let(u,rfl,rx):=uE r;cases rx;let hn:=oO
 rcases hq with hq|hq
 ·let(its,r',pl,hz):=I.list hq;let hlen:=r'.length;exact Calls.call_len_list pl.isList (by simp only[V3]<;>omega) {.int ys.length,H,I.tok _,{s.toks+1,by rw[V3,hlen]},q}
 ·let(its,r',pl,hz):=I.tuple hq;let hlen:=r'.length;exact len_tuple pl (by simp only[V3]<;>omega) {.int ys.length,H,I.tok _,{s.toks+1,by rw[V3,hlen]},q}
theorem uq:cn X (.builtin "len") (λ xs H Q=>∃ z,xs=[.str z]/\z.length<=Å/\Q (.int z.length) H):=by
 intro pins s σ H xs us Q I r h;let(z,rfl,hz,q):=h;let(u,rfl,t,rfl):=uE r;let hn:=oO;exact len_str (by omega) {.int z.length,H,I.tok _,{_,J},q}
theorem cn.or{f:O}{r r':G V->Hp->VK->Prop}(h:cn X f r)(h':cn X f r'):cn X f (λ xs H Q=>r xs H Q\/r' xs H Q):=by
 intro pins s σ H xs us Q I rs q
 rcases q with q|q
 ·exact h pins s σ H xs us Q I rs q
 ·exact h' pins s σ H xs us Q I rs q
theorem uo:cn X (.type "list") (λ xs H Q=>∃ p ys,xs=[.ref p]/\(SqL X.K H p ys\/SqT X.K H p ys)/\∀ l,H l=L->Q (.ref l) (upd H l (.lst ys))):=by
 intro pins s σ H xs us Q I r h;let(p,ys,rfl,hq,q):=h;let(u,rfl,rx):=uE r;cases rx
 have fin:∀ (its:G O),bf ys its->ys.length<=Å->∀ (h':Í) (c':à),(∀ b o',s.heap.get? b=U o'->h'.get? b=U o') →
   h'.get? %[s|99]=U { cls:=.type "list",dict:=L,data:=.seq its.toArray c',slots:=#[] }->EP X pins σ Q (.ref %[s|99]) { s with heap:=h' }:=λ its r' hz h' c' kp e=>
  ⟨.ref %[s|99],_,I.laid (t':=s.toks) kp (VF _) (show bE X.prog X.w _ h' _ (.lst ys) from {(hz),its,c',r',e}),J,q _ (I.hok.fresh (VF _))⟩
 rcases hq with hq|hq
 ·let(its,r',pl,hz):=I.list hq;let hlen:=r'.length;let(o,ho,hc,n,hd):=pl.isList;exact call_list_seq p (.inl J) ho hc hd (λ h' c' kp e=>fin its r' hz h' c' kp e) (by simp only[V3]<;>omega)
 ·let(its,r',pl,hz):=I.tuple hq;let hlen:=r'.length;let(o,ho,hc,n,hd):=pl;exact call_list_seq p (.inr J) ho hc hd (λ h' c' kp e=>fin its r' hz h' c' kp e) (by simp only[V3]<;>omega)
theorem rG:cn X (.type "tuple") (λ xs H Q=>∃ p ys,xs=[.ref p]/\((SqL X.K H p ys/\∀ l,H l=L->Q (.ref l) (upd H l (.tup ys)))\/(SqT X.K H p ys/\Q (.ref p) H))):=by
 intro pins s σ H xs us Q I r h;let(p,ys,rfl,h):=h;let(u,rfl,rx):=uE r;cases rx
 rcases h with ⟨hq,q⟩|⟨hq,q⟩
 ·let(its,r',pl,hz):=I.list hq;let hlen:=r'.length;refine call_tuple_list pl.isList (λ h' kp=>?_) (by simp only[V3]<;>omega);let I1:Inv X pins σ H { s with heap:=h' }:=I.kept (t':=s.toks) kp
  let I2:Inv X pins σ (upd H h'.objs.size (.tup ys)) { s with heap:=h'.push { cls:=.type "tuple",data:=.seq its.toArray } }:=
   I1.laid (t':=s.toks) (λ b o e=>Vz _ e) (VF _) (show bE X.prog X.w _ _ _ (.tup ys) from {hz,its,r',IsTup.new _ _})
  exact{.ref h'.objs.size,_,I2,J,q _ (I1.hok.fresh (VF _))}
 ·let(its,r',pl,hz):=I.tuple hq;exact call_tuple_same pl {.ref p,H,I,J,q}
def tyV(K:Æ)(T:String)(x:V)(H:Hp):Prop:=match x with
 | .str _=>T = "str"
 | .int _=>T = "int"
 | .ref p=>(T = "list" /\ ∃ xs,SqL K H p xs)\/(T = "tuple" /\ ∃ o,K.lookup p=U o/\o.cls=.type "tuple" /\ o.dict=L) \/
   (T = "dict" /\ ((∃ kvs,H p=U (.dK kvs))\/∃ kvs,H p=U (.dT kvs)))\/(T = "set" /\ ∃ S n,H p=U (.set S n))
 | _=>False
theorem IS{H:Hp}{T:String}{v:O}(I:Inv X pins σ H s)(r:b9 x v)(ty:tyV X.K T x H) :
  s.TypeIs v T/\∀ a,v=.ref a->∃ ob,s.heap.get? a=U ob/\ob.dict=L:=by
 cases x with
 | str z=>
  let(t,rfl):=r;cases (show T = "str" from ty);exact{typeIs_str s z t,λ _ e=>nomatch e}
 | int i=>
  let(t,rfl):=r;cases (show T = "int" from ty);exact{typeIs_int s i t,λ _ e=>nomatch e}
 | ref p=>
  cases r
  rcases ty with ⟨rfl,xs,hq⟩|⟨rfl,o,hk,hc,hd⟩|⟨rfl,hk⟩|⟨rfl,S,n,hk⟩
  ·let(its,_,pl,_):=I.list hq;refine{pl.isList.typeIs,λ a e=>?_};cases e;let(o,n,e,c,hd,_):=pl;exact{(o),e,hd}
  ·refine{⟨o,I.kIn p o hk,hc⟩,λ a e=>?_};cases e;exact{o,I.kIn _ o hk,hd}
  ·let z:∃ o,s.heap.get? p=U o/\o.ExactDict:=by
    rcases hk with ⟨kvs,hk⟩|⟨kvs,hk⟩
    ·let(_,_,_,_,o,_,_,e,ex,_):=I.hok p _ hk;exact{(o),e,ex}
    ·let(_,_,_,_,o,_,_,e,ex,_):=I.hok p _ hk;exact{(o),e,ex}
   let(o,e,ex):=z;refine{⟨o,e,ex.1⟩,λ a e2=>?_};cases e2;exact{(o),e,ex.2.1}
  ·let(o,_,_,_,e,ex,_):=I.hok p _ hk;refine{⟨o,e,ex.1⟩,λ a e2=>?_};cases e2;exact{(o),e,ex.2.1}
 | _=>exact False.elim ty
def T5(K:Æ)(T:String)(r:V->G V->Hp->VK->Prop)(to:TE):TE:=λ σ H Q=>to σ H λ x H1=>tyV K T x H1/\r x [] H1 Q
def tBM(K:Æ)(T:String)(r:V->G V->Hp->VK->Prop)(to:TE)(t:TA):TE:=λ σ H Q=>to σ H λ x H1=>tyV K T x H1/\t σ H1 λ xs H2=>r x xs H2 Q
variable {o e:Ò}{es:G Ò}{to:TE}{t:TA}{name:Ç}{apos cpos:Pos}{T id:String}{r:V->G V->Hp->VK->Prop}
theorem Jh(pa:PlainAttrs T)(slot:Slot T name id)(aX:typeOf (.builtin id)=pure (.type "method_descriptor"))(hm:MtR X id r)(ho:PE X o to)
  (af:attributeBase o name X.env (eval o X.env)=eval o X.env:=by rfl) (aS:(apos.endLine == cpos.line)=Y:=by rfl):PE X (.Call (.Attribute o name apos) [] [] cpos) (T5 X.K T r to):=by
 intro pins s σ H Q I h;refine wpAny_Call_method0_late af aS (thn (ho pins s σ H _ I h) λ v s1 ⟨x,H1,I1,r1,ty,q1⟩=>?_);let(h1,h2):=IS I1 r1 ty;exact{T,id,pa,slot,aX,h1,h2,Calls.callWith_builtin J (PySem.evalArgs_none (hm pins s1 σ H1 x [] v [] Q I1 r1 .nil q1))}
theorem Sr(pa:PlainAttrs T)(slot:Slot T name id)(a4:typeOf (.builtin id)=pure (.type "method_descriptor"))(hm:MtR X id r)(ho:PE X o to)(ha:PA X (e::es) t)
  (aS:attributeBase o name X.env (eval o X.env)=eval o X.env:=by rfl)
  (a3:((backTo cpos (starEach (e::es) X.env)).all (λ x=>!x.1) && (backToKw cpos (keywordEach [] X.env)).all (λ x=>x.1.isSome)
   && decide ((e::es).length+([]:G Keyword).length+(if ([]:G Keyword).isEmpty then 0 else 1)<30))=Y:=by rfl)
  (aX:(apos.endLine == cpos.line)=Y:=by rfl) (hs:starEach (e::es) X.env=(Á,eval e X.env)::starEach es X.env:=by rfl) (af:(backTo cpos (starEach es X.env)).any (·.1)=Á:=by rfl) :
  PE X (.Call (.Attribute o name apos) (e::es) [] cpos) (tBM X.K T r to t):=by
 intro pins s σ H Q I h;refine wpAny_Call_method_late aS a3 aX J (thn (ho pins s σ H _ I h) λ v s1 ⟨x,H1,I1,r1,ty,q1⟩=>?_);let(h1,h2):=IS I1 r1 ty;refine{T,id,pa,slot,a4,h1,h2,?_};let hA:=ha cpos pins s1 σ H1 _ I1 q1;rw[hs] at hA ⊢;refine Calls.callWith_builtin (by show (Á || (backTo cpos (starEach es X.env)).any (·.1))=Á;rw[af]<;>rfl) (Zg ?_);exact thn hA λ us s2 ⟨vs,H2,I2,r2,q2⟩=>hm pins s2 σ H2 x vs v us Q I2 r1 r2 q2
end
def MtM(X:Cx)(id:String)(r:V->G V->Hp->VK->Prop):Prop:=
 ∀ (pins:G (Z × Obj)) (s:À) (σ:St) (H:Hp) (x:V) (xs:G V) (v:O) (us:G O) (Q:VK),Inv X pins σ H s->b9 x v->bf xs us->r x xs H Q →
  Ä (É X.prog X.w) X.A (call (.builtin id) (v::us)) (EP X pins σ Q) X.xe s
def bf.one:∀ {x:V}{us:G O},bf [x] us->∃ u,us=[u]/\b9 x u
 | _,_,.cons r .nil=>{_,J,r}
def bf.zero:∀ {us:G O},bf [] us->us=[]
 | _,.nil=>rfl
def bf.eraseIdx:∀ {xs:G V}{us:G O}(i:à),bf xs us->bf (xs.eraseIdx i) (us.eraseIdx i)
 | _,_,_,.nil=>.nil
 | _,_,0,.cons _ t=>t
 | _,_,i+1,.cons r t=>.cons r (bf.eraseIdx i t)
theorem bf.reverse{us:G O}(h:bf xs us):bf xs.reverse us.reverse:=by
 induction h with
 | nil=>exact .nil
 | cons r t ih=>rw[Zd,Zd];exact bf.append ih (.cons r .nil)
theorem bf.rep{us:G O}(h:bf xs us):∀ k:à,bf (È k xs).flatten (È k us).flatten
 | 0=>.nil
 | k+1=>by
  rw[Xv,Xv,Ya,Ya];exact bf.append h (bf.rep h k)
def sO:∀ (l:G α) (i:à),(l.eraseIdx i).length<=l.length
 | [],_=>VF _
 | _::_,0=>XM _
 | _::r,i+1=>Nat.succ_le_succ (sO r i)
theorem sS(its:G O):∀ (k:à) (acc:G O),
  List.foldl (λ x1 x2=>x1++x2) acc.toArray (È k its.toArray)=(acc++(È k its).flatten).toArray
 | 0,acc=>by simp
 | k+1,acc=>by
  let e:acc.toArray++its.toArray=(acc++its).toArray:=by simp
  let e2:(acc++its)++(È k its).flatten=acc++(È (k+1) its).flatten:=by
   rw[Xv,Ya,List.append_assoc]
  rw[←e2,←sS its k (acc++its),←e,Xv,X5]
section
variable {X:Cx}{H:Hp}{l b:Z}{ys zs:G V}
theorem Inv.lset{its':G O}{f:Array O->Array O}{t':à}(I:Inv X pins σ H s)(hH:H l=U (.lst xs))
  (e:s.heap.get? l=U { cls:=.type "list",data:=.seq its.toArray n }) (hf:f its.toArray=its'.toArray) (hv:bf ys its') (hz:ys.length<=Å) :
  Inv X pins σ (upd H l (.lst ys)) { s with heap:=s.heap.update l (Obj.mapSeq f),toks:=t' }:=by
 let q:=PySem.IsL.update e f;rw[hf] at q;refine I.write (x:=l) (e:=l) (by rw[hH];exact trivial) (.inl J) (λ b' u hb hu=>(V4 s.heap (Obj.mapSeq f) (VL hb)).trans hu) {_,q} ?_;exact{hz,its',_,hv,q}
theorem Inv.lnew{t':à}(I:Inv X pins σ H s)(hv:bf ys its)(hz:ys.length<=Å) :
  Inv X pins σ (upd H %[s|99] (.lst ys)) { s with heap:=s.heap.push { cls:=.type "list",data:=.seq its.toArray },toks:=t' }:=
 I.laid (λ _ _ q=>Vz _ q) (VF _) {hz,its,0,hv,VG _ J}
def Inv.fresh(I:Inv X pins σ H s):H %[s|99]=L:=I.hok.fresh (VF _)
theorem Inv.lstM(I:Inv X pins σ H s)(hH:H l=U (.lst xs)):xs.length<=Å/\∃ (its:G O) (n:à),bf xs its/\xs.length=its.length/\s.heap.get? l=U { cls:=.type "list",data:=.seq its.toArray n }:=by
 let(z,its,n,r,e):=I.hok l _ hH;exact{(z),its,n,r,r.length,e}
theorem xu(h:n<=Å):Builtin.List.listTooLong n=Á:=by
 unfold Builtin.List.listTooLong;exact decide_eq_false (by omega)
end
section
variable {X:Cx}
def Br:V->G V->Hp->VK->Prop:=λ x vs H Q=>∃ l xs y,x=.ref l/\vs=[y]/\H l=U (.lst xs)/\xs.length<Å/\Q .non (upd H l (.lst (xs++[y])))
theorem cP:MtM X "list.append" Br:=by
 intro pins s σ H x vs v us Q I rx rv h;let(l,xs,y,rfl,rfl,hH,hz,q):=h;cases rx;let(u,rfl,ru):=rv.one;let(z,its,n,r,hl,e):=I.lstM hH;refine Y8 F.slot_list_append {_,e,J} F.entry_list_append (F.args_list_append_2 _ _) (PySem.list_append l its.toArray n u (by rw[V3];omega)) {e,?_};refine{.non,_,I.lset (its':=its++[u]) hH e (by simp) (r.append (.cons ru .nil)) ?_,J,q};rw[VN,WD];omega
def Bq:V->G V->Hp->VK->Prop:=λ x vs H Q=>∃ l b xs zs,x=.ref l/\vs=[.ref b]/\H l=U (.lst xs)/\H b=U (.lst zs)/\xs.length+zs.length<=Å/\Q .non (upd H l (.lst (xs++zs)))
theorem sN:MtM X "list.extend" Bq:=by
 intro pins s σ H x vs v us Q I rx rv h;let(l,b,xs,zs,rfl,rfl,hH,hB,hz,q):=h;cases rx;let(u,rfl,ru):=rv.one;cases ru;let(z,its,n,r,hl,e):=I.lstM hH;let(z2,af,n2,r2,aX,e2):=I.lstM hB;let hsz:its.toArray.size+af.toArray.size<=Å:=by rw[V3,V3];omega
 let aS:¬ (!its.toArray.isEmpty && Builtin.List.listTooLong (its.toArray.size+af.toArray.size))=Y:=by
  rw[xu hsz,Bool.and_false];exact VJ
 refine Y8 F.slot_list_extend {_,e,J} F.entry_list_extend (F.args_list_extend_2 _ _)
  (AutoSeq1.list_extend_list_list_0 l its.toArray n b af.toArray n2 aS (by rw[V3];omega) (by omega)) {e,e2,?_}
 refine{.non,_,I.lset (its':=its++af) hH e (by simp) (r.append r2) ?_,J,q};rw[VN];omega
def OR:V->G V->Hp->VK->Prop:=λ x vs H Q=>∃ l xs i k y,x=.ref l/\vs=[.int i]/\H l=U (.lst xs)/\-(2 ^ 63)<=i/\i<2 ^ 63/\seqIndex? i xs.length=U k/\xs[k]? = U y/\Q y (upd H l (.lst (xs.eraseIdx k)))
theorem GA:MtM X "list.pop" OR:=by
 intro pins s σ H x vs v us Q I rx rv h;let(l,xs,i,k,y,rfl,rfl,hH,h1,h2,hk,hy,q):=h;cases rx;let(u,rfl,ru):=rv.one;let(t,rfl):=ru;let(z,its,n,r,hl,e):=I.lstM hH;let(w,hw,af):=r.get hy
 refine Y8 F.slot_list_pop {_,e,J} F.entry_list_pop (F.args_list_pop_2 _ _)
  (MeetsSeq.list_pop_at l its.toArray n i t k w (fitsIndex_both h1 h2) (by rw[V3,←hl];exact hk) (by rw[←Array.getElem?_toList];exact hw) (by rw[V3];omega)) {e,?_}
 refine{y,_,I.lset (its':=its.eraseIdx k) hH e ?_ (r.eraseIdx k) ?_,af,q}
 ·show its.toArray.eraseIdxIfInBounds k=(its.eraseIdx k).toArray
  rw[List.eraseIdxIfInBounds_toArray]
 ·have:=sO xs k;omega
def xj:V->G V->Hp->VK->Prop:=λ x vs H Q=>∃ l xs,x=.ref l/\vs=[]/\H l=U (.lst xs)/\Q .non (upd H l (.lst xs.reverse))
theorem o8:MtM X "list.reverse" xj:=by
 intro pins s σ H x vs v us Q I rx rv h;let(l,xs,rfl,rfl,hH,q):=h;cases rx;let af:=rv.zero;subst af;let(z,its,n,r,hl,e):=I.lstM hH;refine Y8 F.slot_list_reverse {_,e,J} F.entry_list_reverse (F.args_list_reverse_1 _) (AutoSeq1.list_reverse_list_0 l its.toArray n (by rw[V3];omega)) {e,?_};refine{.non,_,I.lset (its':=its.reverse) hH e (by simp) r.reverse ?_,J,q};rw[W7];omega
def Ub:R2:=λ x y H Q=>∃ l b xs zs,x=.ref l/\y=.ref b/\H l=U (.lst xs)/\H b=U (.lst zs)/\xs.length+zs.length<=Å/\∀ p,H p=L->Q (.ref p) (upd H p (.lst (xs++zs)))
theorem Pb:OpR X (binaryOp .Add) Ub:=by
 intro pins s σ H x y v u Q I rx ry h;let(l,b,xs,zs,rfl,rfl,hH,hB,hz,q):=h;cases rx;cases ry;let(z,its,n,r,hl,e):=I.lstM hH;let(z2,af,n2,r2,aS,e2):=I.lstM hB;refine PySem.P.add_list e e2 ?_ (by rw[V3,V3];omega);let ea:its.toArray++af.toArray=(its++af).toArray:=by simp
 rw[ea];exact{.ref _,_,I.lnew (t':=s.toks) (r.append r2) (by rw[VN];omega),J,q _ I.fresh}
def UZ:R2:=λ x y H Q=>∃ l k xs,x=.ref l/\y=.int k/\H l=U (.lst xs)/\-(2 ^ 63)<=k/\k<2 ^ 63/\xs.length * k.toNat<=Å /\
 ∀ p,H p=L->Q (.ref p) (upd H p (.lst (È k.toNat xs).flatten))
theorem MC(xs:G α)(k:à):(È k xs).flatten.length=k * xs.length:=by
 induction k with
 | zero=>simp
 | succ k ih=>rw[Xv,Ya,VN,ih,Nat.succ_mul,Nat.add_comm]
theorem O5:OpR X (binaryOp .Mult) UZ:=by
 intro pins s σ H x y v u Q I rx ry h;let(l,k,xs,rfl,rfl,hH,h1,h2,hz,q):=h;cases rx;let(t,rfl):=ry;let(z,its,n,r,hl,e):=I.lstM hH;let hlen:its.toArray.size * k.toNat<=Å:=by rw[V3,←hl];exact hz
 let aS:¬ its.toArray.size * k.toNat > (2 ^ 63 - 1) / 8:=by
  have:(Å:à)<=(2 ^ 63 - 1) / 8:=by decide
  omega
 let aX:¬ (!Builtin.List.listFitsIndex k)=Y:=by
  rw[fitsIndex_both h1 h2];exact VJ
 let af:¬ Builtin.List.listTooLong (its.toArray.size * k.toNat)=Y:=by
  rw[xu hlen];exact VJ
 let a3:List.foldl (λ x1 x2=>x1++x2) #[] (È (if its.toArray.isEmpty=Y then 0 else k.toNat) its.toArray)=(È k.toNat its).flatten.toArray:=by
  let f0:∀ m:à,List.foldl (λ x1 x2=>x1++x2) #[] (È m its.toArray)=(È m its).flatten.toArray:=λ m=>by
   have:=sS its m [];rw[List.nil_append] at this;exact this
  rw[f0]
  cases its with
  | nil=>simp
  | cons a r'=>rw[VY (by simp)]
 refine wpAny_binaryOp_repeat_ref (T := "list") (U := "int") (by decide) ⟨_,e,J⟩ (λ s'=>typeIs_int s' k t) noFill_list_mul F.fills_int_mul F.slot_int_rmul repeat_list F.slot_int_index.lookup
  (Y8 F.slot_int_rmul (typeIs_int s k t) F.entry_int_rmul (F.args_int_rmul_2 _ _) (int___rmul___int_list k t l its.toArray n)
   ⟨e,J,{_,e,J},Y8 F.slot_list_mul {_,e,J} F.entry_list_mul (F.args_list_mul_2 _ _) (AutoListH.list___mul___list_int_3 l its.toArray n k t aX aS af) {e,?_}⟩)
 rw[a3];exact{.ref _,_,I.lnew (t':=s.toks) (r.rep k.toNat) (by rw[MC,Nat.mul_comm];exact hz),J,q _ I.fresh}
end
section
variable {prog:Ë}{w:Ï}{A:Î}{E:O->À->Prop}
end
section
variable {X:Cx}
end
end L2
namespace Att
open PySem PySem.W PySem.Calls PyProof.Rows
theorem nR{P:Params}{h:Í}:∀ (ns:G B) (vs:G O),WellAll P h vs (ns.map WData.int)->IntsAre vs ns:=by
 intro ns
 induction ns with
 | nil=>
  intro vs w;rw[YC] at w;cases w;exact .nil
 | cons n ns ih=>
  intro vs w;rw[Wr] at w
  cases w with
  | cons a b=>
   cases a;exact .cons _ _ (ih _ b)
theorem CG{l:OpenLaw}{n:à}(hn:l.most=U n){P:Params}{h:Í}{args:G WData}{vals:G O}
  (af:l.row.toRowW.claim.pre args=Y) (aS:WellAll P h vals args) :
  ∃ a vs ns,vals=[Ê a]/\args=[WData.list (ns.map WData.int)]/\h.get? a=U { cls:=.type "list",data:=.seq vs.toArray }/\IntsAre vs ns/\ns.length<=n:=by
 let aX:WShape.hasAll [] args [.list .int]=Y:=(pre_splitW af).1;let hc:l.pre.holds [] { args:=args }=Y:=(pre_splitW af).2;let(d,r,rfl,h1,h2):=hasAllW_cons aX;obtain rfl:=hasAllW_nil h2;let(xs,rfl,h3):=hasW_list h1;let(ns,rfl):=items_int h3
 let hlen:ns.length<=n:=by
  unfold OpenLaw.pre at hc
  let h4:(WTm.not (.lt (.lit (.int (n:B))) (.len (.arg 0)))).holds [] { args:=[.list (ns.map .int)] }=Y:=by
   let h4:=(holds_andW hc).1;rw[hn] at h4;exact h4
  let h5:=condW_of h4 (w_not (w_lt w_lit (w_len_list (w_arg J))));rw[VD] at h5;refine YD λ q=>?_;let q':(n:B)<((ns.length:à):B):=by omega
  first
   | (rw[Wk q'] at h5;exact Þ h5 (by decide))
   | (simp at h5;omega)
 cases aS with
 | cons w1 w2=>
  cases w2
  cases w1 with
  | list ho hall=>exact{_,_,ns,J,J,ho,nR ns _ hall,hlen}
theorem CI(l:OpenLaw)(args:G WData):l.row.toRowW.claim.post args (.bool Y) args=Y:=
 postW_of (r:=l.row.toRowW) (X:=(Y == Y))
  (show WShape.has [] (.bool Y) .bool=Y by first|rfl|decide|simp[WShape.has,WShape.arms,WShape.armsAll])
  (show (WTm.eq .res (.lit (.bool Y))).value [] { args:=args,res:=U (.bool Y),after:=args }=U (.bool (Y == Y)) from w_eq_bool (w_res J) w_lit) J
theorem attach_call{l:OpenLaw}{n:à}{q:Ë}{loose:G Ç}{XP:(Ç->Ü O)->Í->Prop}{YP:Ï->Í->Prop}{d:DefRec}
  (hn:l.most=U n) (aX:d.params.defaults=[])
  (call:∀ (w:Ï) (s₀ s₁:À) (mg mb:Ç->Ü O) (fa:Z) (o:Obj) (pm cd doc:O) (a:Z) (vs:G O) (ns:G B),
   Ground q loose [] XP w s₀ mg mb s₁.heap->YP w s₁.heap →
   s₁.heap.get? fa=U o->o.data=.func (docDef d.name d.params d.body d.scope pm cd doc)->s₁.heap.CodeRec cd d.name->mg d.name=U (.ref fa) →
   s₁.heap.get? a=U { cls:=.type "list",data:=.seq vs.toArray }->IntsAre vs ns->ns.length<=n->s₁.gens=#[] →
   codeAny (É l.prog w) callerA (.call (.ref fa) {[.ref a],[]}) (λ r s'=>r=.ok (.ret (.bool Y))/\OldK s₁.heap s'.heap/\s'.os=s₁.os/\AllBare s'.gens) s₁) :
  WalkO q loose XP YP l.row.toRowW d [] (λ f vs=>PySem.call f vs):=by
 intro w s₀ s₁ mg mb xz zB fa o pm cd doc dV kV ho hd a3 hD a4 hg args vals as af a6 a7 a5 a8;obtain rfl:dV=.none:=Dflts.none hD aX;obtain rfl:kV=.none:=Dflts.noKw hD;let(a,vs,ns,rfl,rfl,aS,hints,hlen):=CG hn af a5;refine enter_call (Xi (call w s₀ s₁ mg mb fa o pm cd doc a vs ns xz zB ho (fd_plain hd) a3 a4 aS hints hlen hg) λ r s' hq=>?_);let(rfl,h2,h3,h4):=hq;exact{.inl {.bool Y,.bool Y,[],J,λ _=>J,.bool Y,CI l _,λ _=>{List.Pairwise.nil,λ _ hm=>(nomatch hm)}},h2,h3,h4}
section
variable {prog:Ë}{w:Ï}{A:Î}{E:O->À->Prop}{s:À}{K:Frag}
def UT(h:Í)(zC d:Z):G (Z × Obj):=(Ì h.objs.size).filterMap λ a=>if a=zC\/a=d then L else (h.get? a).map λ o=>(a,o)
end
end Att
namespace L2
open PySem PySem.Spec PyProof.Rows
variable {P prog:Ë}{w:Ï}{K:Æ}{mg:Ç->Ü O}{CX:CXT}{a af a0 a1 a2 a3 a4 a5 a6 a7 a8 a9 aS aX bt bB bS b0 b1 b2:Ü V}{fd:Â}{x qual:Ç}{vs xs ys:G V}{l f c p b T C it e:Z}{n t':à}{d:Ü Z}{cb ka kb:Ý}{ps N':G Ç}{ct Q nx bk:St->Hp->Prop}{pos tp:Pos}{A:Î}{H H1 H' H₀:Hp}{kvs:G (Key × V)}{o:HO}{u cls:O}{y v:V}{h' h h1:Í}{E:O->À->Prop}{s s₀:À}{env:Env}{pins:G (Z × Obj)}{σ:St}{i:B}{α α0 α1 α2 α3:Type}{scope:Scope}{t ta:TA}{g:TG}{ww:It}{fp:G Z}{outer:G Env}{oe:Obj}{es elts:G Ò}{M:Model}{tb:TS}{rt:VK}
def sk:∀ {vs:G O}{ns:G B},IntsAre vs ns->bf (ns.map V.int) vs
 | _,_,.nil=>.nil
 | _,_,.cons n t h=>.cons {(t),J} (sk h)
def Sg(H:Hp):Prop:=∀ b,H b=L\/∃ o xs,H b=U (.frz o (.lst xs))
theorem Hc{mb:Ç->Ü O}{k:à}{fa a:Z}{sp:Sp}{s₁:À}{vs:G O}{ns:G B}
  (KX:K.In s₁.heap) (a3:s₁.heap.Ns Ã mg) (hb:s₁.heap.Ns builtinsNs mb) (a8:∀ x:Ç,x ≠ "__name__" → mb x=bootBuiltins x) (a4:s₁.heap.NoLimit) (hg:s₁.gens=#[])
  (ha:s₁.heap.get? a=U { cls:=.type "list",data:=.seq vs.toArray }) (hi:IntsAre vs ns) (hl:ns.length<=Å) (hr:jk k callerA)
  (F:∀ base:Í,K.In base->base.Ns Ã mg->aT P w K mg base CX k fa fd [x] sp) (aX:∀ (s:À) (u:O),BindsTo s fd {[u],[]} [(x,u)])
  (a9:∀ H:Hp,Sg H->SqL K H a (ns.map V.int)->sp [.ref a] H (λ v _=>v=.bl Y) λ _ _ _=>False)
  (bt:∀ H e s',CX [] H s₁ (λ _ _ _=>False) e s'->False) :
  codeAny (É P w) callerA (.call (.ref fa) {[.ref a],[]}) (λ r s'=>r=.ok (.ret (.bool Y))/\OldK s₁.heap s'.heap/\s'.os=s₁.os/\AllBare s'.gens) s₁:=by
 let rv:=sk hi;let a5:=hi.length
 have core:∀ H:Hp,Sg H->SqL K H a (ns.map V.int)->HOk P w H s₁.heap->(∀ b,H b≠L->b=a)->(H a≠L->K.lookup a=L) →
   codeAny (É P w) callerA (.call (.ref fa) {[.ref a],[]}) (λ r s'=>r=.ok (.ret (.bool Y))/\OldK s₁.heap s'.heap/\s'.os=s₁.os/\AllBare s'.gens) s₁:=by
  intro H hO hS hok hA hK;let af:∀ {b:Z} {o:Obj},s₁.heap.get? b=U o->H b=L->(E7 s₁.heap H).get? b=U o:=λ e n=>HJ e n
  let bB:∀ {b:Z} {o:Obj} {es:Array DictEntry} {ep:à},s₁.heap.get? b=U o->o.data=.dict es ep->H b=L:=λ {b o es ep} e d=>by
   cases q:H b with
   | none=>rfl
   | some u=>
    let e':b=a:=hA b (by rw[q];simp);subst e';rw[ha] at e;cases e;let d':Data.seq vs.toArray _=Data.dict es ep:=d;cases d'
  let aS:∀ {b:Z} {m:Ç->Ü O},s₁.heap.Ns b m->(E7 s₁.heap H).Ns b m:=λ {b m} ⟨o,es,ep,e,d,r⟩=>{o,es,ep,af e (bB e d),d,r}
  let a6:K.In (E7 s₁.heap H):=λ b o e=>af (KX b o e) (by
   cases q:H b with
   | none=>rfl
   | some u=>
    let e':b=a:=hA b (by rw[q];simp);subst e';rw[hK (by rw[q];simp)] at e;cases e)
  let hM:Mod K mg (E7 s₁.heap H):={a6,aS a3,{mb,aS hb,a8},let {(mc),h1,h2}:=a4;⟨mc,aS h1,h2⟩};let e0:JG P w K mg (E7 s₁.heap H) callerA [] s₁ H:={J,hM,λ b o e=>Lj e,Yq (Et _ _),trivial,λ b hb=>Þ (show b∈([]:G Z) from hb) (by simp),hok,.of_eq hg,.none rfl};refine Xi ((F _ a6 (aS a3)).run callerA [] s₁ H {[.ref a],[]} [.ref a] [.ref a] _ _ hr (λ _=>J) e0 (aX s₁ (.ref a)) (.cons J .nil) (a9 H hO hS)) λ r s' h=>?_
  cases r with
  | error e=>exact(bt H e s' h).elim
  | ok fl=>
   cases fl with
   | next=>exact False.elim h
   | brk=>exact False.elim h
   | cont=>exact False.elim h
   | ret u=>
    let(v,H',os,bare,un,a7,r',q):=h;let q':v=.bl Y:=q;subst q';obtain rfl:u=Value.bool Y:=r';refine{J,OldK.of_keep λ b o e=>?_,os,bare}
    cases q:H b with
    | none=>exact un.keep b o e q (by intro z;exact Þ (show b∈([]:G Z) from z) (by simp)) (by simp)
    | some u=>
     rcases hO b with z|⟨ob,xs,z⟩
     ·rw[q] at z;cases z
     ·let z2:=un.frzs b ob _ z;let(e1,_):=hok b _ z;let(e2,_):=a7 b _ z2;rw[e] at e1;cases e1;exact e2
 cases hk:K.lookup a with
 | some o=>
  let e:=KX a o hk;rw[ha] at e;cases e;refine core (λ _=>L) (λ _=>.inl J) (.inr {_,vs.toArray,_,hk,J,J,J,by rw[V3,a5];exact hl,by simpa using rv}) (λ b u z=>by let z':(L:Ü HO)=U u:=z;cases z') (λ b z=>Þ J z) λ z=>Þ J z
 | none=>
  refine core (λ b=>if b=a then U (.frz { cls:=.type "list",data:=.seq vs.toArray } (.lst (ns.map V.int))) else L) (λ b=>?_) (.inl (.inr ⟨{ cls:=.type "list",data:=.seq vs.toArray },V7 rfl⟩)) (λ b u z=>?_) (λ b z=>?_) λ _=>hk
  ·by_cases hb:b=a
   ·exact .inr {_,_,V7 hb}
   ·exact .inl (VY hb)
  ·by_cases hb:b=a
   ·let z':=(V7 hb).symm.trans z;cases z';subst hb;exact{ha,by rw[VD];exact hl,vs,_,rv,ha}
   ·let z':=(VY hb).symm.trans z;cases z'
  ·by_cases hb:b=a
   ·exact hb
   ·exact Þ (VY hb) z
abbrev KOf{K:PySem.W.Frag}{h:Í}(_:K.In h):PySem.W.Frag:=K
theorem walk_of{l:W.OpenLaw}{k:à}{q:Ë}{loose:G Ç}{XP:(Ç->Ü O)->Í->Prop}{YP:Ï->Í->Prop}{d:DefRec}{K:Params->Æ}{CX:Ï->CXT}{sp:Ï->Sp}
  (hn:l.most=U n) (aS:n<=Å) (aX:d.params.defaults=[]) (hr:jk k callerA)
  (hY:∀ (w:Ï) (h:Í),YP w h->(K w.params).In h)
  (F:∀ (w:Ï) (mg:Ç->Ü O) (fa:Z) (h:Í),(K w.params).In h->h.Ns Ã mg->mg d.name=U (.ref fa) →
   ∃ fd:Â,(∀ (s:À) (u:O),BindsTo s fd {[u],[]} [(x,u)]) /\
    ∀ base:Í,(K w.params).In base->base.Ns Ã mg->aT l.prog w (K w.params) mg base (CX w) k fa fd [x] (sp w))
  (a3:∀ (w:Ï) (H:Hp) (a:Z) (ns:G B),ns.length<=n->Sg H->SqL (K w.params) H a (ns.map V.int)->sp w [.ref a] H (λ v _=>v=.bl Y) λ _ _ _=>False)
  (a4:∀ (w:Ï) (H:Hp) (s:À) (e:O) (s':À),CX w [] H s (λ _ _ _=>False) e s'->False) :
  W.WalkO q loose XP YP l.row.toRowW d [] (λ f vs=>PySem.call f vs):=by
 refine Att.attach_call hn aX λ w s₀ s₁ mg mb fa o pm cd doc a vs ns xz zB ho hd a6 a5 af hints hlen hg=>?_;let KX:=hY w _ zB;let(fd,hb,hF):=F w mg fa _ KX xz.T.g a5;exact Hc KX xz.T.g xz.T.b xz.T.builtins xz.T.nolimit hg af hints (Wo hlen aS) hr hF hb (λ H hO hS=>a3 w H a ns hlen hO hS) λ H e s'=>a4 w H s₁ e s'
def cC(s:Stmt)(j:à):Stmt:=match s with
 | .ClassDef _ _ _ body _ _ _ _ _ _ _=>body.getD j (.Pass {(0),0,0,0})
 | _=>.Pass {(0),0,0,0}
def fv(s:Stmt):Arguments:=match s with
 | .FunctionDef _ a _ _ _ _ _ _ _ _=>a
 | _=>{ posonlyargs:=[],args:=[],vararg:=L,kwonlyargs:=[],kw_defaults:=[],kwarg:=L,defaults:=[] }
def dI(s:Stmt):G Stmt:=match s with
 | .FunctionDef _ _ b _ _ _ _ _ _ _=>b
 | _=>[]
def aa(s:Stmt):Scope:=match s with
 | .FunctionDef _ _ _ _ _ _ sc _ _ _=>sc
 | _=>{ kind:=.function,names:=[],isGenerator:=Á,isCoroutine:=Á }
abbrev CX0:CXT:=λ _ _ _ _ _ _=>False
abbrev E0:XK:=λ _ _ _=>False
def aZ{X:Cx}:kR CX0 X E0:=λ _ _ _ _ _ _ _ h=>h.elim
structure Fun(K:Æ)(x qual:Ç)(st:Stmt)(f:Z)(fd:Â):Prop where
 ex:∃ (oc:O) (od:Ü Z) (kV doc pm:O) (an:Ü Z) (cdv ct:O) (osl:Array (Ü O)),
  fd=W.fnOf x qual (fv st) (dI st) (aa st) .none kV doc pm an cdv ct/\K.lookup f=U ⟨oc,od,.func fd,osl⟩/\W.codeIn K cdv qual=Y
 kp:W.keepIn K (.ref f)=Y
section
variable {K:PySem.W.Frag}{base:Í}
theorem Fun.ok{st:Stmt}{N:G Ç}{k:à}{sp:Sp}(F:Fun K x qual st f fd)(S:ai N ps (aa st))(len:∀ vs H Q E,sp vs H Q E->vs.length=ps.length)
  (af:∀ (cdv:O) (A:Î) (outer:G Env) (s:À) (H:Hp) (vs:G V) (Q:VK) (E:XK),jk k (A.deeper (envOfC qual (aa st) %[s|99] f cdv))->sp vs H Q E →
   ∃ t,PSs (Ai cb CX0 P w K mg base N qual (aa st) f cdv A outer s H E).nox (dI st) t/\t { nx:=λ _ H'=>Q .non H',rt:=Q } (av N vs) H):lu cb P w K mg base CX0 (k+1) f fd ps sp:=by
 let(oc,od,kV,doc,pm,an,cdv,ct,osl,rfl,lk,aS):=F.ex;refine OE lk aS S len λ A outer s H vs Q E hr aX=>?_;let(t,h,q):=af cdv A outer s H vs Q E hr aX;exact{(t),h.nox,q}
theorem Fun.binds{st:Stmt}(F:Fun K x qual st f fd)
  (h:∀ (kV doc pm:O) (an:Ü Z) (cdv ct:O) (us:G O),us.length=ps.length->bindArgs (W.fnOf x qual (fv st) (dI st) (aa st) .none kV doc pm an cdv ct) {us,[]}=pure (ps.zip us)):az K fd ps []:=by
 let(oc,od,kV,doc,pm,an,cdv,ct,osl,rfl,lk,af):=F.ex;exact .all (h kV doc pm an cdv ct)
def QU{st:Stmt}{oc:O}{od an:Ü Z}{osl:Array (Ü O)}{kV doc pm cdv ct:O}(l:K.lookup f=U {oc,od,.func (W.fnOf x qual (fv st) (dI st) (aa st) .none kV doc pm an cdv ct),osl})
  (c:W.codeIn K cdv qual=Y) (k:W.keepIn K (.ref f)=Y):Fun K x qual st f (W.fnOf x qual (fv st) (dI st) (aa st) .none kV doc pm an cdv ct):={⟨oc,od,kV,doc,pm,an,cdv,ct,osl,J,l,c⟩,k}
end
def sy(h:n<=1000):n<Å:=Nat.lt_of_le_of_lt h (by decide)
section
variable {X:Cx}
theorem pv(i:à)(hN:X.N[i]? = U x:=by rfl)(hv:Vis X.env.scope x:=by first|exact Or.inl rfl|exact Or.inr (Or.inl J)|exact Or.inr (Or.inr J))(hd:(x == ("__debug__":Ç))=Á:=by decide)
  (af:(x == ("__classdict__":Ç))=Á:=by decide):PE X (.Name x pos) (Q5 i):=O1 hN hv hd af
end
theorem UD{c A xL:Prop}[Decidable c](h1:c->A)(h2:¬ c->xL):if c then A else xL:=by
 by_cases h:c
 ·rw[V7 h];exact h1 h
 ·rw[VY h];exact h2 h
def nY(H H':Hp):Prop:=∀ b o,H b=U o->H' b=U o
def nY.refl(H:Hp):nY H H:=λ _ _ h=>h
theorem nY.trans{H2:Hp}(a:nY H H1)(b:nY H1 H2):nY H H2:=λ c o h=>b c o (a c o h)
theorem nY.free(e:nY H H')(h:H' l=Option.none):H l=Option.none:=by
 cases q:H l with
 | none=>rfl
 | some o=>
  rw[e l o q] at h;cases h
theorem nY.seq{a:Z}(e:nY H H')(h:SqL K H a xs):SqL K H' a xs:=by
 rcases h with (h|⟨o,h⟩)|h
 ·exact .inl (.inl (e _ _ h))
 ·exact .inl (.inr {o,e _ _ h})
 ·exact .inr h
section
variable {κ:Type}[DecidableEq κ]
def iH(kvs:G (κ × V))(k:κ):Ü V:=(kvs.find? λ kv=>decide (kv.1=k)).map (·.2)
def pW(kvs:G (κ × V))(k:κ)(v:V):G (κ × V):=
 if (kvs.any λ kv=>decide (kv.1=k))=Y then kvs.map (λ kv=>if kv.1=k then (kv.1,v) else kv) else kvs++[(k,v)]
theorem cL{p:κ × V}{r:G (κ × V)}{k:κ}(e:p.1=k):iH (p::r) k=U p.2:=by simp[iH,YL,e]
theorem cM{p:κ × V}{r:G (κ × V)}{k:κ}(e:¬ p.1=k):iH (p::r) k=iH r k:=by simp[iH,YL,e]
theorem jt(k:κ):∀ kvs:G (κ × V),(kvs.any λ kv=>decide (kv.1=k))=(iH kvs k).isSome
 | []=>rfl
 | p::r=>by
  rw[any_cons]
  by_cases e:p.1=k
  ·simp only[cL e,Wk e,Bool.true_or,Option.isSome_some]
  ·rw[cM e,Wl e,Bool.false_or];exact jt k r
theorem wW(k j:κ)(y:V):∀ kvs:G (κ × V),iH (kvs.map λ kv=>if kv.1=k then (kv.1,y) else kv) j=(iH kvs j).map λ x=>if j=k then y else x
 | []=>rfl
 | p::r=>by
  let ih:=wW k j y r;rw[Wr]
  by_cases h:p.1=k
  ·rw[V7 h]
   by_cases e:p.1=j
   ·rw[cL (p:=(p.1,y)) e,cL e,XY,V7 (e.symm.trans h)]
   ·rw[cM (p:=(p.1,y)) e,cM e,ih]
  ·rw[VY h]
   by_cases e:p.1=j
   ·rw[cL (p:=p) e,cL e,XY,VY (λ z=>h (e.trans z))]
   ·rw[cM (p:=p) e,cM e,ih]
theorem sm(k j:κ)(y:V):∀ kvs:G (κ × V),iH kvs k=L->iH (kvs++[(k,y)]) j=if j=k then U y else iH kvs j
 | [],_=>by
  by_cases e:k=j
  ·rw[V7 e.symm];exact cL (p:=(k,y)) e
  ·rw[VY (λ z=>e z.symm)];exact cM (p:=(k,y)) e
 | p::r,hn=>by
  rw[Zt];let hk:¬ p.1=k:=λ z=>by rw[cL z] at hn;cases hn
  rw[cM hk] at hn;let ih:=sm k j y r hn
  by_cases e:p.1=j
  ·rw[cL e,cL e,VY (λ z=>hk (e.trans z))]
  ·rw[cM e,cM e,ih]
theorem lF(kvs:G (κ × V))(k j:κ)(y:V):iH (pW kvs k y) j=if j=k then U y else iH kvs j:=by
 unfold pW
 by_cases a:(kvs.any λ kv=>decide (kv.1=k))=Y
 ·rw[V7 a,wW];rw[jt] at a
  by_cases e:j=k
  ·let(x,hx):=V1.mp a;rw[V7 e,e,hx,XY,V7 J]
  ·rw[VY e]
   cases iH kvs j with
   | none=>rfl
   | some x=>rw[XY,VY e]
 ·rw[VY a];refine sm k j y kvs ?_;rw[jt] at a
  cases q:iH kvs k with
  | none=>rfl
  | some x=>rw[q] at a;exact(a J).elim
theorem nv(kvs:G (κ × V))(k:κ)(v:V):(pW kvs k v).length<=kvs.length+1:=by
 unfold pW;split
 ·rw[VD];omega
 ·rw[VN,Wc,Y3];omega
theorem Gb{kvs:G (κ × V)}{k:κ}(v:V)(h:iH kvs k=L):pW kvs k v=kvs++[(k,v)]:=by
 unfold pW;rw[jt,h];exact if_neg (by decide)
theorem oF.isSome_eq{o:Ü V}{u:Ü O}(r:oF o u):o.isSome=u.isSome:=by
 cases o with
 | none=>cases u with
  | none=>rfl
  | some _=>exact(show False from r).elim
 | some _=>cases u with
  | none=>exact(show False from r).elim
  | some _=>rfl
theorem KV.val{kvs:G (κ × V)}{vs:G (κ × O)}(r:KV kvs vs)(k:κ):oF (iH kvs k) (valueAt vs k):=by
 unfold KV at r
 induction r with
 | nil=>exact True.intro
 | @cons p q ps qs h t ih=>
  let(h1,h2):=h
  by_cases e:p.1=k
  ·let e':q.1=k:=h1.symm.trans e;let b:valueAt (q::qs) k=U q.2:=by simp[valueAt,YL,e']
   rw[cL e,b];exact h2
  ·let e':¬ q.1=k:=λ z=>e (h1.trans z);let b:valueAt (q::qs) k=valueAt qs k:=by simp[valueAt,YL,e']
   rw[cM e,b];exact ih
theorem KV.any{kvs:G (κ × V)}{vs:G (κ × O)}(r:KV kvs vs)(k:κ):(kvs.any λ kv=>decide (kv.1=k))=vs.any λ kv=>decide (kv.1=k):=by
 unfold KV at r
 induction r with
 | nil=>rfl
 | cons h t ih=>rw[any_cons,any_cons,ih,h.1]
theorem KV.repl{kvs:G (κ × V)}{vs:G (κ × O)}(r:KV kvs vs)(k:κ)(ry:b9 y u) :
  KV (kvs.map λ kv=>if kv.1=k then (kv.1,y) else kv) (vs.map λ kv=>if kv.1=k then (kv.1,u) else kv):=by
 unfold KV at r ⊢
 induction r with
 | nil=>exact .nil
 | @cons p q ps qs h t ih=>
  rw[Wr,Wr];refine .cons ?_ ih;let(h1,h2):=h
  by_cases e:p.1=k
  ·rw[V7 e,V7 (h1.symm.trans e)];exact{(h1),ry}
  ·rw[VY e,VY (λ z=>e (h1.trans z))];exact{(h1),h2}
theorem KV.put{kvs:G (κ × V)}{vs:G (κ × O)}(r:KV kvs vs)(k:κ)(ry:b9 y u):KV (pW kvs k y) (stored vs k u):=by
 unfold pW stored;rw[r.any k]
 by_cases e:(vs.any λ kv=>decide (kv.1=k))=Y
 ·rw[V7 e,V7 e];exact r.repl k ry
 ·rw[VY e,VY e];exact Paired.snoc r {(J),ry}
def KV.length{kvs:G (κ × V)}{vs:G (κ × O)}(r:KV kvs vs):kvs.length=vs.length:=Paired.length r
end
theorem Fe{k:Key}(r:b9 (kV k) u):(di P w).is k u=Y:=by
 cases k with
 | inl i=>let(t,e):=(show ∃ t,u=Value.int i t from r);subst e;exact vL P w i t
 | inr x=>let(t,e):=(show ∃ t,u=Value.str x t from r);subst e;exact vK P w x t
theorem sQ:∀ {ks:G Key}{us:G O},bf (ks.map kV) us->ItemsAre (di P w) ks us
 | [],_,r=>by rw[YC] at r;cases r;exact .nil
 | k::ks,_,r=>by
  rw[Wr] at r
  cases r with
  | cons h t=>exact .cons (Fe h) (sQ t)
abbrev KT(H:Hp):G (G Key × V)->G (G Key × Z × O)->Prop:=Paired λ p q=>p.1=q.1/\H q.2.1=U (.tup (p.1.map kV))/\b9 p.2 q.2.2
theorem KT.val{kvs:G (G Key × V)}{xs:G (G Key × Z × O)}(r:KT H kvs xs)(k:G Key):oF (iH kvs k) ((atKey xs k).map (·.2)):=by
 induction r with
 | nil=>exact True.intro
 | @cons p q ps qs h t ih=>
  let(h1,_,h2):=h
  by_cases e:p.1=k
  ·let e':q.1=k:=h1.symm.trans e;let b:atKey (q::qs) k=U q.2:=by simp[atKey,YL,e']
   rw[cL e,b];exact h2
  ·let e':¬ q.1=k:=λ z=>e (h1.trans z);let b:atKey (q::qs) k=atKey qs k:=by simp[atKey,YL,e']
   rw[cM e,b];exact ih
theorem KT.repl{kvs:G (G Key × V)}{xs:G (G Key × Z × O)}(r:KT H kvs xs)(k:G Key)(ry:b9 y u) :
  KT H (kvs.map λ kv=>if kv.1=k then (kv.1,y) else kv) (xs.map (putAt k u)):=by
 induction r with
 | nil=>exact .nil
 | @cons p q ps qs h t ih=>
  rw[map_cons,map_cons];refine .cons ?_ ih;let(h1,h2,h3):=h;unfold putAt
  by_cases e:p.1=k
  ·rw[V7 e,V7 (h1.symm.trans e)];exact{(h1),h2,ry}
  ·rw[VY e,VY (λ z=>e (h1.trans z))];exact{(h1),h2,h3}
theorem KT.put{kvs:G (G Key × V)}{xs:G (G Key × Z × O)}(r:KT H kvs xs)(k:G Key)(hb:H b=U (.tup (k.map kV)))(ry:b9 y u) :
  KT H (pW kvs k y) (storedH xs k b u):=by
 let e:(kvs.any λ kv=>decide (kv.1=k))=(atKey xs k).isSome:=by
  rw[jt,(r.val k).isSome_eq,Zb]
 unfold pW storedH;rw[e]
 by_cases q:(atKey xs k).isSome=Y
 ·rw[V7 q,V7 q];exact r.repl k ry
 ·rw[VY q,VY q];exact Paired.snoc r {(J),hb,ry}
theorem KT.keeps{kvs:G (G Key × V)}{xs:G (G Key × Z × O)}(r:KT H kvs xs)(ht:∀ b ys,H b=U (.tup ys)->H' b=U (.tup ys)):KT H' kvs xs:=
 Paired.mapP r λ _ _ z=>{z.1,ht _ _ z.2.1,z.2.2}
section
variable {a:Z}
def N9{u:HO}(ok:HOk P w H h)(e:Rd H a u):bE P w H h a u:=e.ok ok
def Fv(ok:HOk P w H h)(e:Rd H a (.dK kvs)):kvs.length<=Å/\(a == sysModules)=Á/\∃ vs,KV kvs vs/\h.DictOf (di P w) a vs:=
 show bE P w H h a (.dK kvs) from N9 ok e
def TC(ok:HOk P w H h)(e:H a=U (.dK kvs)):kvs.length<=Å/\(a == sysModules)=Á/\∃ vs,KV kvs vs/\h.DictOf (di P w) a vs:=Fv ok (.inl e)
theorem wN{ks:G Key}(ok:HOk P w H h)(e:H a=U (.tup (ks.map kV))):(tupleKind (di P w)).is h ks a:=by
 let(_,its,r,o,h1,h2,n,h3):=(show bE P w H h a (.tup (ks.map kV)) from ok a _ e);exact{o,its.toArray,n,h1,h2,h3,by simpa using sQ r}
theorem Fu{kvs:G (G Key × V)}(ok:HOk P w H h)(e:Rd H a (.dT kvs)):kvs.length<=Å/\(a == sysModules)=Á /\
  ∃ xs,KT H kvs xs/\h.DictOfH (tupleKind (di P w)) a xs:=by
 let(z,y,xs,r,o,es,ep,h1,h2,h3,h4,h5):=(show bE P w H h a (.dT kvs) from N9 ok e);refine{z,y,xs,r,o,es,ep,h1,h2,h3,h4,λ x hx=>?_,h5}
 let all:∀ {l:G (G Key × V)} {m:G (G Key × Z × O)},KT H l m->∀ x∈m,(tupleKind (di P w)).is h x.1 x.2.1:=by
  intro l m q
  induction q with
  | nil=>intro x hx;exact nomatch hx
  | @cons p q ps qs hq t ih=>
   intro x hx
   rcases VU.mp hx with e|hx
   ·subst e;exact wN ok (by rw[←hq.1];exact hq.2.1)
   ·exact ih x hx
 exact all r x hx
def TB{kvs:G (G Key × V)}(ok:HOk P w H h)(e:H a=U (.dT kvs)):kvs.length<=Å/\(a == sysModules)=Á /\
  ∃ xs,KT H kvs xs/\h.DictOfH (tupleKind (di P w)) a xs:=Fu ok (.inl e)
end
def E5(H:Hp)(a:Z)(y:V)(r:Ü V):Prop:=
 (∃ kvs k,Rd H a (.dK kvs)/\y=kV k/\r=iH kvs k)\/∃ kvs k b,Rd H a (.dT kvs)/\y=.ref b/\H b=U (.tup (k.map kV))/\r=iH kvs k
def NG(H:Hp)(a:Z)(y v:V)(H':Hp):Prop:=
 (∃ kvs k,H a=U (.dK kvs)/\y=kV k/\kvs.length<Å/\H'=upd H a (.dK (pW kvs k v))) \/
 ∃ kvs k b,H a=U (.dT kvs)/\y=.ref b/\H b=U (.tup (k.map kV))/\kvs.length<Å/\H'=upd H a (.dT (pW kvs k v))
def E5.k{a:Z}{k:Key}(e:H a=U (.dK kvs)):E5 H a (kV k) (iH kvs k):=.inl {kvs,k,.inl e,J,J}
def NG.k{a:Z}{k:Key}(e:H a=U (.dK kvs))(hl:kvs.length<Å):NG H a (kV k) v (upd H a (.dK (pW kvs k v))):=.inl {(kvs),k,e,J,hl,J}
variable {k:à}
section
variable {X:Cx}{a:Z}{r:O}{o:Ü V}
theorem Inv.big(I:Inv X pins σ H s):sysModules<%[s|99]:=by
 let h:Ã<%[s|99]:=(I.mod.glob.keeps I.bk).lt;exact Yp (by decide) h
theorem Ez{Q:O->À->Prop}(hu:A.units+1<cLine)(I:Inv X pins σ H s)(g:E5 H a y (U v))(ry:b9 y u)(h:∀ w' s',Inv X pins σ H s'->b9 v w'->Q w' s') :
  Ä (É X.prog X.w) A (getItem (.ref a) u) Q E s:=by
 rcases g with ⟨kvs,k,e,ey,l⟩|⟨kvs,k,b,e,ey,eb,l⟩
 ·subst ey;let(z,hd,vs,rel,dd):=Fv I.hok e;let(w',hw,af):=oF.some_of (v:=v) (o:=valueAt vs k) (by rw[l];exact rel.val k);exact wpAny_getItem_of (Fe ry) dd.mapOf hw (h w' _ (I.tok _) af)
 ·subst ey;cases (show u=Ê b from ry);let(z,hd,xs,rel,dd):=Fu I.hok e;let(w',hw,af):=oF.some_of (v:=v) (o:=(atKey xs k).map (·.2)) (by rw[l];exact rel.val k);let(p,hp,aS):=VH.mp hw;refine wpAny_getItem_heap (Zw hu) (wN I.hok eb) dd hp ?_;rw[aS];exact h w' _ (I.tok _) af
theorem Vf{Q:O->À->Prop}(hu:A.units+1<cLine)(I:Inv X pins σ H s)(g:E5 H a y o)(ry:b9 y u)(h:∀ s',Inv X pins σ H s'->Q (.bool o.isSome) s') :
  Ä (É X.prog X.w) A (compareOp .In u (.ref a)) Q E s:=by
 rcases g with ⟨kvs,k,e,ey,l⟩|⟨kvs,k,b,e,ey,eb,l⟩
 ·subst ey;let(z,hd,vs,rel,dd):=Fv I.hok e;refine wpAny_in_of (Fe ry) hd dd.mapOf ?_;rw[←(rel.val k).isSome_eq,←l];exact h _ (I.tok _)
 ·subst ey;cases (show u=Ê b from ry);let(z,hd,xs,rel,dd):=Fu I.hok e;refine wpAny_in_heap (Zw hu) (wN I.hok eb) hd dd ?_;let q:=(rel.val k).isSome_eq;rw[Zb] at q;rw[←q,←l];exact h _ (I.tok _)
theorem u7{ob:HO}(I:Inv X pins σ H s)(mu:Mut (H a))(hs:Heap.SameBut a s.heap h')(he:∃ q,h'.get? a=U q)(new:bE X.prog X.w (upd H a ob) h' a ob) :
  Inv X pins σ (upd H a ob) { s with heap:=h',toks:=t' }:=
 I.write (x:=a) (e:=a) mu (.inl J) (λ b q hb z=>(hs.2 b hb).trans z) he new
def QZ{vs:G (Key × O)}(z:kvs.length<=Å)(hd:(a == sysModules)=Á)(rel:KV kvs vs)(dd:h'.DictOf (di P w) a vs) :
  bE P w H' h' a (.dK kvs):={(z),hd,vs,rel,dd}
theorem Ey{Q:Unit->À->Prop}(hu:A.units+1<cLine)(I:Inv X pins σ H s)(g:NG H a y v H')(ry:b9 y u)(rv:b9 v r)(h:∀ s',Inv X pins σ H' s'->Q () s') :
  Ä (É X.prog X.w) A (setItem (.ref a) u r) Q E s:=by
 rcases g with ⟨kvs,k,e,ey,l,eH⟩|⟨kvs,k,b,e,ey,eb,l,eH⟩
 ·subst ey eH;let(z,hd,vs,rel,dd):=TC I.hok e;let hz:vs.length<=Å:=by rw[←rel.length];exact z
  let hl:(pW kvs k v).length<=Å:=by have:=nv kvs k v;omega
  refine wpAny_setItem_pairs (hsz:=hz) (Fe ry) dd λ h' af hs=>h _ ?_;let he:∃ q,h'.get? a=U q:=let {q,_,_,hq,_}:=af;⟨q,hq⟩;exact u7 I (by rw[e];exact True.intro) hs he (QZ hl hd (rel.put k rv) af)
 ·subst ey eH;cases (show u=Ê b from ry);let(z,hd,xs,rel,dd):=TB I.hok e;let hz:xs.length<=Å:=by rw[←Paired.length rel];exact z
  let hl:(pW kvs k v).length<=Å:=by have:=nv kvs k v;omega
  refine wpAny_setItem_heap (hsz:=hz) (Zw hu) (wN I.hok eb) dd λ h' af hs=>h _ ?_;let(q,es,ep,hq,h2,h3,h4,_,h5):=af;refine u7 I (by rw[e];exact True.intro) hs ⟨q,hq⟩ ⟨hl,hd,_,(rel.put k eb rv).keeps λ c ys ec=>?_,q,es,ep,hq,h2,h3,h4,h5⟩;rw[ag (SD ec e (λ z=>nomatch z))];exact ec
end
section
variable {X:Cx}{a:Z}{k:Key}
end
def UN(i:Ò):Prop:=∀ ov iv,subscripted i Á ov iv=operate [ov,iv] (getItem ov iv)
theorem Kx{value slice:Ò}{T id:String}{Q:O->À->Prop}
  (hl:typeLookup (.type T) "__getitem__"=pure (U (.builtin id))) (hs:UN slice)
  (h:Ä (É prog w) A (eval value env) (λ o s₁=>Ä (É prog w) A (eval slice env) (λ i s₂=>s₂.TypeIs o T/\Ä (É prog w) A (getItem o i) Q E s₂) E s₁) E s) :
  Ä (É prog w) A (eval (.Subscript value slice pos) env) Q E s:=by
 refine Subscript_ (wpAny_mono h (λ o s₁ h₁=>wpAny_mono h₁ (λ i s₂ h₂=>?_) λ _ _ x=>x) λ _ _ x=>x);let(hT,h₂):=h₂;unfold subscriptTail;refine wpAny_bind ?_;rw[getitemInPython_of_ne hT.not_modules];refine wpAny_bind (wpAny_specialOf hT hl ?_)
 let fin:Ä (É prog w) A (subscripted slice Á o i) (λ r s₃=>Ä (É prog w) A (letTemporaryGo value o r >>= λ _=>pure r) Q E s₃) E s₂:=by
  rw[hs o i];exact wpAny_operating (Xx h₂ (λ r s₃ h₃=>My (wpAny_letTemporaryGo (VC h₃))) λ _ _ x=>x)
 first
  | exact VC (My fin)
  | exact My (VC (My fin))
  | exact My fin
theorem v9{X:Cx}{a:Z}{o:Ü V}(I:Inv X pins σ H s)(g:E5 H a y o):s.TypeIs (.ref a) "dict":=by
 rcases g with ⟨kvs,k,e,_,_⟩|⟨kvs,k,b,e,_,_,_⟩
 ·let(_,_,vs,_,dd):=Fv I.hok e;exact dd.typeIs
 ·let(_,_,xs,_,dd):=Fu I.hok e;exact dd.typeIs
def N4(td ty:TE):TE:=λ σ H Q=>td σ H λ x H1=>ty σ H1 λ y H2=>∃ a v,x=.ref a/\E5 H2 a y (U v)/\Q v H2
def N8(td ty tv:TE):TS:=λ D σ H=>tv σ H λ v H1=>td σ H1 λ x H2=>ty σ H2 λ y H3=>∃ a H4,x=.ref a/\NG H3 a y v H4/\D.nx σ H4
section
variable {X:Cx}{o i e value:Ò}{pos' tpos:Pos}{td ty tv:TE}
theorem BA(hu:X.A.units+1<cLine)(ho:PE X o td)(hi:PE X i ty)(hs:UN i):PE X (.Subscript o i pos) (N4 td ty):=by
 intro pins s σ H Q I h;refine Kx PySem.F.slot_dict_getitem.lookup hs (thn (ho pins s σ H _ I h) λ u s1 ⟨x,H1,I1,rx,q1⟩=>thn (hi pins s1 σ H1 _ I1 q1) λ iv s2 ⟨y,H2,I2,ry,a,v,ex,g,q2⟩=>?_);subst ex;obtain rfl:u=Ê a:=rx;exact{v9 I2 g,Ez hu I2 g ry λ w' s3 I3 af=>{(v),H2,I3,af,q2}}
theorem Bt(hu:X.A.units+1<cLine)(ho:PE X o td)(hi:PE X i ty)(hv:PE X value tv)(hs:swapsWith value (U (.Subscript o i pos')) pos.line X.env=pure Á) :
  PS X (.Assign [.Subscript o i pos'] value pos) (N8 td ty tv):=by
 intro pins s σ H D I h;refine wpAny_Assign_Subscript (thn (hv pins s σ H _ I h) λ r s1 ⟨v,H1,I1,rv,q1⟩=>thn (ho pins s1 σ H1 _ I1 q1) λ u s2 ⟨x,H2,I2,rx,q2⟩=>thn (hi pins s2 σ H2 _ I2 q2) λ iv s3 ⟨y,H3,I3,ry,a,H4,ex,g,q3⟩=>?_) hs;subst ex;obtain rfl:u=Ê a:=rx;exact Ey hu I3 g ry rv λ s4 I4=>{(σ),H4,I4,q3}
end
def Ih(h:Í)(hb:sysModules<h.objs.size):bE P w H (h.push { cls:=.type "dict",data:=.dict #[] }) h.objs.size (.dK []):=
 ⟨Wz _,WK.mpr (VL (VQ hb)),[],.nil,Heap.DictOf.new h⟩
def ON:TE:=λ _ H Q=>∀ p,H p=L->Q (.ref p) (upd H p (.dK []))
section
variable {X:Cx}
theorem Gn:PE X (.Dict [] [] pos) ON:=λ pins s σ H Q I h=>
 wpAny_Dict_empty {.ref %[s|99],_,I.laid (a:=%[s|99]) (o:=.dK []) (t':=s.toks) (λ _ _ q=>Vz _ q) (VF _) (Ih s.heap I.big),J,h _ (I.hok.fresh (VF _))}
end
structure M2(X:Cx)(o:Ò)(m:Ç)(apos:Pos)(e f:Ò)(cpos:Pos):Prop where
 base:attributeBase o m X.env (eval o X.env)=eval o X.env
 few:((backTo cpos (starEach [e,f] X.env)).all (λ x=>!x.1) && (backToKw cpos (keywordEach [] X.env)).all (λ x=>x.1.isSome)
  && decide (([e,f]:G Ò).length+([]:G Keyword).length+(if ([]:G Keyword).isEmpty then 0 else 1)<30))=Y
 line:(apos.endLine == cpos.line)=Y
 trees:backTo cpos (starEach [e,f] X.env)=[(Á,eval e X.env),(Á,eval f X.env)]
variable {base:Í}
section
variable {X:Cx}{a:Z}{d:V}{r:O}{o:Ü V}
end
section
variable {X:Cx}{o e f:Ò}{apos cpos:Pos}{td ty tx:TE}
end
section
variable {X:Cx}{a:Z}
end
section
variable {X:Cx}{a:Z}
end
section
variable {κ:Type}[DecidableEq κ]
end
section
variable {X:Cx}
def Kl(i j:B):Prop:=i.natAbs<2 ^ 256/\j.natAbs<2 ^ 256
theorem Cd(h:i.natAbs<2 ^ 256):Builtin.Int.intBits i<=2 ^ 20:=Wo (intBits_le h) (by decide)
theorem Lg:OpR X (binaryOp .Mult) (rI Kl λ i j=>.int (i * j)):=opI λ _ _ _ _ _ _ _ hc q=>mul_int q (IntMulOk.of_bits (Cd hc.1) (Cd hc.2))
theorem Io:cn X (.builtin "isinstance") (λ xs H Q=>∃ x n ty b,xs=[x,.ty n]/\wD X.K H x ty/\Ô X.K ty (.type n)=U b/\Q (.bl b) H):=by
 intro pins s σ H xs us Q I r h;let(x,n,ty,b,rfl,af,hk,q):=h;let(u,w',rfl,rx,rc):=E8 r;cases (show w'=Ø n from rc);exact Ep I rx af hk (λ tk=>{.bl b,H,I.tok _,J,q})
def Em(K:Æ)(A xL:String)(r:Ý)
  (h:(if (Ø A == Ø xL)=Y then U Y else if W.kitMeta xL=Y then (fastBuiltinMro A).map (·.contains (.type xL)) else L)=U r):Ô K (.type A) (.type xL)=U r:=h
mutual
inductive pX (K:PySem.W.Frag) (H:Hp):V->PyData->Prop
 | non:pX K H .non .none
 | bl (b:Ý):pX K H (.bl b) (.bool b)
 | int (i:B):pX K H (.int i) (.int i)
 | str (x:Ç):pX K H (.str x) (.str x)
 | lst {a:Z} {xs:G V} {ds:G PyData} (h:SqL K H a xs) (r:lT K H xs ds):pX K H (.ref a) (.list ds)
 | tup {a:Z} {xs:G V} {ds:G PyData} (h:SqT K H a xs) (r:lT K H xs ds):pX K H (.ref a) (.tuple ds)
inductive lT (K:PySem.W.Frag) (H:Hp):G V->G PyData->Prop
 | nil:lT K H [] []
 | cons {x:V} {d:PyData} {xs:G V} {ds:G PyData} (h:pX K H x d) (t:lT K H xs ds):lT K H (x::xs) (d::ds)
end
mutual
theorem pX.reads(I:Inv X pins σ H s):∀ {x:V}{d:PyData}{u:O},pX X.K H x d->b9 x u->∃ as,Reads s.heap u d as
 | _,_,_,.non,r=>by cases (show _=Ñ from r);exact{_,.none}
 | _,_,_,.bl b,r=>by cases (show _=Value.bool b from r);exact{_,.bool b}
 | _,_,_,.int i,r=>by let(t,rfl):=r;exact{_,.int i t}
 | _,_,_,.str x,r=>by let(t,rfl):=r;exact{_,.str x t}
 | _,_,_,@pX.lst _ _ a xs ds h q,r=>by
  cases (show _=Ê a from r);let(its,hv,hp,_):=I.list h;let(o,n,e,c,_,d):=hp;let(as,z):=lT.reads I q hv;exact{_,.list e c d (by simpa using z)}
 | _,_,_,@pX.tup _ _ a xs ds h q,r=>by
  cases (show _=Ê a from r);let(its,hv,hp,_):=I.tuple h;let(o,e,c,n,d):=hp;let(as,z):=lT.reads I q hv;exact{_,.tuple e c d (by simpa using z)}
theorem lT.reads(I:Inv X pins σ H s):∀ {xs:G V}{ds:G PyData}{us:G O},lT X.K H xs ds->bf xs us->∃ as,ReadsAll s.heap us ds as
 | _,_,_,.nil,.nil=>{_,.nil}
 | _,_,_,.cons h t,.cons r q=>by
  let(as,z):=pX.reads I h r;let(bs,y):=lT.reads I t q;exact{_,.cons z y}
end
def U4(K:Æ):R2:=λ x y H Q=>∃ d e,pX K H x d/\pX K H y e/\SeqAt.shaped d=Y/\SeqAt.shaped e=Y/\Q (.bl (PyData.eqv d e)) H
def U0(K:Æ):R2:=λ x y H Q=>∃ d e,pX K H x d/\pX K H y e/\SeqAt.shaped d=Y/\SeqAt.shaped e=Y/\Q (.bl (!PyData.eqv d e)) H
theorem Pa(hu:X.A.units+64<cLine):OpR X (compareOp .Eq) (U4 X.K):=by
 intro pins s σ H x y v u Q I rx ry h;let(d,e,hd,he,sd,se,q):=h;let(as,z):=hd.reads I rx;let(bs,z'):=he.reads I ry;exact SeqAt.compareEq_shaped z z' sd se hu {.bl _,H,I,J,q}
theorem O7(hu:X.A.units+64<cLine):OpR X (compareOp .NotEq) (U0 X.K):=by
 intro pins s σ H x y v u Q I rx ry h;let(d,e,hd,he,sd,se,q):=h;let(as,z):=hd.reads I rx;let(bs,z'):=he.reads I ry;exact SeqAt.compareNe_shaped z z' sd se hu {.bl _,H,I,J,q}
end
theorem FV(h:H p=L):nY H (upd H p o):=λ b u e=>by
 rw[ag (ba e h)];exact e
theorem Jz(xs:G α)(i:B)(h0:0<=i)(h1:i<xs.length):∃ v,atI xs i=U v/\v∈xs:=by
 let hl:i.toNat<xs.length:=by omega
 refine{xs[i.toNat],?_,Xm hl};let e:((i.toNat:à):B)=i:=by omega
 have:=gL (xs:=xs) (j:=i.toNat) (v:=xs[i.toNat]) (VA hl);rw[e] at this;exact this
theorem qT(ns:G B)(i:B)(h0:0<=i)(h1:i<ns.length):∃ z,atI (ns.map V.int) i=U (.int z)/\z∈ns:=by
 let(v,e,m):=Jz (ns.map V.int) i h0 (by simpa using h1);let(z,hz,rfl):=VT.mp m;exact{(z),e,hz}
def rL(cells:G (Ç × Z)):G (Ç × NameKind)->G (Ç × Z)->G (Ç × Z)
 | [],acc=>acc
 | (n,k)::r,acc=>if (k == .free)=Y then rL cells r ((n,(cells.lookup n).getD 0)::acc) else rL cells r acc
theorem ja:∀ (names:G (Ç × NameKind)) (acc:G (Ç × Z)),(∀ y∈names,y.2=.free->∃ c,env.cells.lookup y.1=U c) →
  (forIn names acc (λ (x:Ç × NameKind) (cs:G (Ç × Z))=>match x with
   | (name,kind)=>if (kind == .free)=Y then (do let a ←cellOf env name;pure (ForInStep.yield ((name,a)::cs))) else (do pure PUnit.unit;pure (ForInStep.yield cs))):Sem (G (Ç × Z)))=pure (rL env.cells names acc)
 | [],acc,_=>rfl
 | (n,k)::r,acc,h=>by
  rw[X4];let hr:∀ y∈r,y.2=.free->∃ c,env.cells.lookup y.1=U c:=λ y hy=>h y (VI _ hy)
  by_cases hk:(k == .free)=Y
  ·let(c,hc):=h (n,k) mem_cons_self (by simpa using hk);let af:env.cells.lookup n=U c:=hc;simp only[hk,if_true,rL,af,Option.getD_some];let e:cellOf env n=pure c:=by unfold cellOf;rw[af]
   rw[e];exact ja r _ hr
  ·simp only[hk,XU,rL];exact ja r acc hr
theorem jO(h:∀ y∈scope.names,y.2=.free->∃ c,env.cells.lookup y.1=U c):closureFor scope env=pure (rL env.cells scope.names []):=by
 unfold closureFor;have:=ja (env:=env) scope.names [] h
 first
  | exact(W2 (λ m=>m >>= λ cs=>pure cs) this).trans (pure_bind _ _)
  | (simp only[] at this ⊢;rw[this];rfl)
theorem qO{cells:G (Ç × Z)}:∀ {names:G (Ç × NameKind)}{acc:G (Ç × Z)},(∀ y∈names,y.2=.free->∃ c,cells.lookup y.1=U c)->(rL cells names acc).lookup x=U c->acc.lookup x=U c\/cells.lookup x=U c
 | [],acc,_,h=>.inl h
 | (n,k)::r,acc,hf,h=>by
  let hr:∀ y∈r,y.2=.free->∃ c,cells.lookup y.1=U c:=λ y hy=>hf y (mem_cons_of_mem _ hy);unfold rL at h
  by_cases hk:(k == .free)=Y
  ·rw[V7 hk] at h
   rcases qO hr h with q|q
   ·rw[Xd] at q
    cases hx:x == n with
    | true=>
     rw[hx] at q;let(d,hd):=hf (n,k) VP (by simpa using hk);let e:x=n:=by simpa using hx
     subst e;let af:cells.lookup x=U d:=hd;rw[af] at q ⊢;exact .inr (by simpa using q)
    | false=>rw[hx] at q;exact .inl q
   ·exact .inr q
  ·rw[VY hk] at h;exact qO hr h
theorem qP{cells:G (Ç × Z)}:∀ {names:G (Ç × NameKind)}{acc:G (Ç × Z)},(∀ y∈names,y.2=.free->∃ c,cells.lookup y.1=U c)->(∃ c,acc.lookup x=U c)->∃ c,(rL cells names acc).lookup x=U c
 | [],acc,_,h=>h
 | (n,k)::r,acc,hf,h=>by
  let hr:∀ y∈r,y.2=.free->∃ c,cells.lookup y.1=U c:=λ y hy=>hf y (mem_cons_of_mem _ hy);unfold rL
  by_cases hk:(k == .free)=Y
  ·rw[V7 hk];refine qP hr ?_;rw[Xd]
   cases hx:x == n with
   | true=>exact{_,J}
   | false=>exact h
  ·rw[VY hk];exact qP hr h
theorem lO{cells:G (Ç × Z)}:∀ {names:G (Ç × NameKind)}{acc:G (Ç × Z)},(∀ y∈names,y.2=.free->∃ c,cells.lookup y.1=U c)->names.lookup x=U .free->∃ c,(rL cells names acc).lookup x=U c
 | [],acc,_,h=>by simp at h
 | (n,k)::r,acc,hf,h=>by
  let hr:∀ y∈r,y.2=.free->∃ c,cells.lookup y.1=U c:=λ y hy=>hf y (mem_cons_of_mem _ hy);rw[lookup_cons] at h;unfold rL
  cases hx:x == n with
  | true=>
   rw[hx] at h;let hk:k=.free:=by simpa using h
   subst hk;rw[V7 (show (NameKind.free == NameKind.free)=Y from J)];refine qP hr {(cells.lookup n).getD 0,?_};rw[Xd,hx]
  | false=>
   rw[hx] at h
   by_cases hk:(k == .free)=Y
   ·rw[V7 hk];exact lO hr h
   ·rw[VY hk];exact lO hr h
theorem iA{k:NameKind}:∀ {names:G (Ç × NameKind)},names.lookup x=U k->(x,k)∈names
 | [],h=>by simp at h
 | (n,j)::r,h=>by
  rw[Xd] at h
  cases hx:x == n with
  | true=>
   rw[hx] at h;let e:x=n:=by simpa using hx
   let e2:j=k:=by simpa using h
   subst e;subst e2;exact VP
  | false=>rw[hx] at h;exact VI _ (iA h)
theorem fH{env:Env}{x:Ç}:∀ {names:G (Ç × NameKind)},
  (names.map λ (n,k)=>if (k == NameKind.free && env.scope.kind == .function && env.kindOf n == U .cell) then (n,NameKind.cell) else (n,k)).lookup x
   = (names.lookup x).map λ k=>if (k == NameKind.free && env.scope.kind == .function && env.kindOf x == U .cell) then NameKind.cell else k
 | []=>rfl
 | (n,k)::r=>by
  let ih:=@fH env x r
  show List.lookup x ((if (k == NameKind.free && env.scope.kind == .function && env.kindOf n == U .cell)=Y then (n,NameKind.cell) else (n,k))::_)=_
  cases hx:x == n with
  | true=>
   let e:x=n:=by simpa using hx
   subst e
   by_cases hc:(k == NameKind.free && env.scope.kind == .function && env.kindOf x == U .cell)=Y
   ·rw[V7 hc];simp only[Xd,beq_self_eq_true,XY];rw[V7 hc]
   ·rw[VY hc];simp only[Xd,beq_self_eq_true,XY];rw[VY hc]
  | false=>
   by_cases hc:(k == NameKind.free && env.scope.kind == .function && env.kindOf n == U .cell)=Y
   ·rw[V7 hc];simp only[Xd,hx];exact ih
   ·rw[VY hc];simp only[Xd,hx];exact ih
abbrev cCx(X:Cx)(scope:Scope)(N':G Ç)(C:Z)(s₀:À)(H₀:Hp)(ex:G Z)(pn:G (Z × Obj)):Cx:=
 { X with N:=N',s₀:=s₀,H₀:=H₀,env:=compEnvC scope (rL X.env.cells scope.names []) C X.env,outer:=X.stack,stack:=X.stack,ex:=ex,fn:=λ _=>Á,pn:=pn,xe:=λ _ _=>False }
def PTs(zB:Cx)(ifs:G Ò)(t:TT):Prop:=
 ∀ (pins:G (Z × Obj)) (s:À) (σ:St) (H:Hp) (Q:Ý->Hp->Prop),Inv zB pins σ H s->t σ H Q →
  Ä (É zB.prog zB.w) zB.A (forIn ifs Y λ c r=>if r=Y then do let ok ←isTrue c zB.env (eval c zB.env);pure (ForInStep.yield ok) else pure (ForInStep.yield r)) (TP zB pins σ Q) zB.xe s
def TU:TT:=λ _ H Q=>Q Y H
def aI{zB:Cx}:PTs zB [] TU:=λ _ _ _ H _ I h=>VC {(H),I,h}
theorem p7{zB:Cx}{c:Ò}{t:TT}(h:PT zB c t):PTs zB [c] t:=λ pins s σ H Q I hw=>PySem.wpAny_tests_one (h pins s σ H Q I hw)
theorem HOk.but(ok:HOk P w H h)(hn:H C=L)(hs:Heap.SameBut C h h'):HOk P w H h':=λ b ob e=>by
 refine(ok b ob e).stay (λ c w' hc q=>(hs.2 c ?_).trans q) (λ _ q=>q) (λ _ _ q=>q) λ _ _ q=>q;rintro rfl
 rcases hc with rfl|hc
 ·rw[hn] at e;cases e
 ·rw[hn] at hc;cases hc
theorem Un.but{fs ex:G Z}{h2:Í}(u:Un fs ex H H' h h1)(hs:Heap.SameBut C h1 h2)(hC:∀ b o,h.get? b=U o->b≠C):Un fs ex H H' h h2 where
 keep:=λ b o e n hb hx=>(hs.2 b (hC b o e)).trans (u.keep b o e n hb hx)
 slot:=λ b o e n hb hx=>by
  let(sl,q):=u.slot b o e n hb hx;exact{sl,(hs.2 b (hC b o e)).trans q}
 free:=u.free
 there:=λ b o e hx=>by
  let(o',q):=u.there b o e hx;exact{o',(hs.2 b (hC b o e)).trans q}
 tups:=u.tups
 frzs:=u.frzs
 tbls:=u.tbls
section
variable {X:Cx}
def JJ(k:à)(wi:TI)(g:TG)(tt:TT)(te:TE):TE:=λ σ H Q=>wi σ H λ ww H1=>∀ D,H1 D=L->∃ W:à->à->G V->Hp->Prop,(∃ m,W 0 m [] (upd H1 D (.lst [])))/\∀ i m ys H,W i m ys H →
 (ww.stop i H/\Q (.ref D) H)\/(ww.go i H/\∃ N:G V->Hp->Prop,(∀ af H',N af H'->∃ m',m' < m/\W (i+1) m' af H') /\
  ∀ x H',ww.yld i H x H'->g x (È k L++σ) H' λ σ2 H2=>(∃ vs:St,vs.length=k/\σ2=vs++σ)/\tt σ2 H2 λ b H3=>if b=Y then te σ2 H3 λ y H4=>H4 D=U (.lst ys)/\ys.length<Å/\N (ys++[y]) (upd H4 D (.lst (ys++[y]))) else N ys H3)
theorem EA{zB:Cx}{tg elt iter:Ò}{ifs:G Ò}{D:Z}{tt:TT}{te:TE}{tn:à->Í->Prop}{Q:VK}
  (hx:zB.xe=λ _ _=>False) (hg:PG zB tg g) (ht:PTs zB ifs tt) (he:PE zB elt te) (T:E4 zB.prog zB.w zB.K zB.A tg ww fp it tn) (hf:∀ H:Hp,(∀ b∈fp,H b=L)->∀ b∈fp,yk zB [] H b)
  (W:à->à->G V->Hp->Prop)
  (turn:∀ i m ys H,W i m ys H->(ww.stop i H/\Q (.ref D) H)\/(ww.go i H/\∃ N:G V->Hp->Prop,(∀ af H',N af H'->∃ m',m' < m/\W (i+1) m' af H') /\
   ∀ x H',ww.yld i H x H'->g x (È k L++σ) H' λ σ2 H2=>(∃ vs:St,vs.length=k/\σ2=vs++σ)/\tt σ2 H2 λ b H3=>if b=Y then te σ2 H3 λ y H4=>H4 D=U (.lst ys)/\ys.length<Å/\N (ys++[y]) (upd H4 D (.lst (ys++[y]))) else N ys H3))
  (n:à) (s:À) (h:∃ i ys H,Inv zB [] (È k L++σ) H s/\tn i s.heap/\(∀ b∈fp,H b=L)/\W i n ys H) :
  codeAny (É zB.prog zB.w) zB.A (.compLoop (.ListComp elt [⟨tg,iter,ifs,0⟩] scope pos) 0 (.ref it) (.ref D) zB.env) (λ r s'=>r=.ok .next/\∃ H',Inv zB [] (È k L++σ) H' s'/\Q (.ref D) H') s:=by
 refine codeAny_loop J (λ n s=>∃ i ys H,Inv zB [] (È k L++σ) H s/\tn i s.heap/\(∀ b∈fp,H b=L)/\W i n ys H) ?_ n h;rintro n s3 ⟨i,ys,H3,I3,aX,a3,w3⟩
 show Ä _ zB.A ((compTurn (.ListComp elt [⟨tg,iter,ifs,0⟩] scope pos) 0 (.ref it) (.ref D) zB.env).onRaise (λ x=>do noteFrame x zB.env;theTreesLotGoes x)) _ _ s3
 refine PySem.wpAny_noted ?_;rw[PySem.compTurn_list]
 let no:∀ {α:Type} {m:Sem α} {P:α->À->Prop} {E:O->À->Prop} {s:À},Ä (É zB.prog zB.w) zB.A m P zB.xe s->Ä (É zB.prog zB.w) zB.A m P E s:=λ {α m P E s} h=>
  Xx h (λ _ _ q=>q) λ _ _ q=>by rw[hx] at q;exact q.elim
 refine My (XH (My ?_))
 rcases turn i n ys H3 w3 with ⟨stop,qn⟩|⟨go,N,hN,step⟩
 ·refine thn (T.done zB J J J J i [] s3 (È k L++σ) H3 _ I3 (hf H3 a3) aX stop) λ r s4 ⟨hr,I4⟩=>?_;subst hr;exact VC {(J),H3,I4,qn}
 ·refine thn (T.item zB J J J J i [] s3 (È k L++σ) H3 _ I3 (hf H3 a3) aX go) λ r s4 ⟨u,hr,h4⟩=>?_;subst hr;refine My (thn h4 λ _ s5 ⟨x,H5,I5,r5,y5,aS,a5⟩=>?_);let a6:=I5.pinned (hf H5 a5) (T.obj _ _ aS);refine My (no (thn (hg _ s5 (È k L++σ) H5 x u _ a6 r5 (step x H5 y5)) λ _ s6 ⟨σ6,H6,I6,⟨vs,a4,e6⟩,q6⟩=>?_));subst e6
  let forget:∀ {pins:G (Z × Obj)} {H:Hp} {s:À},Inv zB pins (vs++σ) H s->Inv zB pins (È k L++σ) H s:=λ {pins H s} I=>I.weak (by simp[a4]) λ i v e=>by
   by_cases hi:i<k
   ·rw[Wq (by simpa using hi)] at e;simp[XZ,hi] at e
   ·rw[Wj (by simpa using YD hi)] at e;rw[Wj (by omega)]
    simpa [a4] using e
  refine My (no (thn (ht _ s6 (vs++σ) H6 _ I6 q6) λ b s7 ⟨H7,I7,q7⟩=>?_))
  let again:∀ {H8:Hp} {s8:À} {af:G V},Inv zB ([]++rV fp s5.heap) (vs++σ) H8 s8->N af H8->∃ m,m<n/\∃ i ys H,Inv zB [] (È k L++σ) H s8/\tn i s8.heap/\(∀ b∈fp,H b=L)/\W i m ys H:=λ {H8 s8 af} I8 n8=>by
   let(m',hm,w8):=hN af H8 n8;refine{m',hm,i+1,af,H8,forget I8.unpinned,T.keep _ _ _ aS λ b hb o e=>(I8.pin (b,o) (Wt _ (Wt _ (iy hb e)))).1,λ b hb=>?_,w8};let(o,e,d):=T.obj _ _ aS b hb;exact(I8.pin (b,o) (Wt _ (Wt _ (iy hb e)))).2.1
  cases b with
  | false=>
   rw[VY VJ] at q7;exact VC {J,again I7 q7}
  | true=>
   rw[V7 J] at q7;refine My (My (no (thn (he _ s7 (vs++σ) H7 _ I7 q7) λ y s8 ⟨y',H8,I8,ry,q8,l8,n8⟩=>?_)));exact My (no (thn (cP _ s8 (vs++σ) H8 (.ref D) [y'] (.ref D) [y] (λ _ H'=>N (ys++[y']) H') I8 J (.cons ry .nil) {(D),ys,y',J,J,q8,l8,n8}) λ _ s9 ⟨_,H9,I9,_,q9⟩=>VC (VC {J,again I9 q9})))
structure lX(X:Cx)(scope:Scope)(N':G Ç)(k:à):Prop where
 cell:∀ y∈scope.names,y.2 ≠ .cell
 kind:scope.kind=.function
 names:∀ y∈scope.names,y.2=.local->scope.names.lookup y.1=U .local
 free:∀ y∈scope.names,y.2=.free->X.env.scope.names.lookup y.1=U .cell
 len:N'.length=k+X.N.length
 sub:∀ i x,N'[k+i]? = U x->scope.names.lookup x=U .free->X.N[i]? = U x
 loc:∀ i x,N'[k+i]? = U x->scope.names.lookup x≠U .local
theorem lX.cells(c:lX X scope N' k)(I:Inv X pins σ H s):∀ y∈scope.names,y.2=.free->∃ a,X.env.cells.lookup y.1=U a:=λ y hy e=>
 I.ok.has y.1 (.inl (c.free y hy e))
theorem HH{s₄:À}{m:Ç->Ü O}(c:lX X scope N' k)(I:Inv X pins σ H s)
  (hf:∀ b∈fp,yk X pins H b) (a5:∀ b∈fp,b<%[s|99]) (hb:∀ b∈fp,X.base.get? b=L) (a6:s₄.heap.Ns %[s|99] m) (hk:∀ b o,s.heap.get? b=U o->s₄.heap.get? b=U o) (ho:s₄.os=s.os) (hg:s₄.gens=s.gens) :
  Inv (cCx X scope N' %[s|99] s H fp (X.pn++pins)) [] (È k L++σ) H s₄:=by
 let a3:=c.cells I
 let sub:∀ x a,(rL X.env.cells scope.names []).lookup x=U a->X.env.cells.lookup x=U a:=λ x a e=>by
  rcases qO a3 e with q|q
  ·simp at q
  ·exact q
 let kinds:∀ x,(compEnvC scope (rL X.env.cells scope.names []) %[s|99] X.env).kindOf x=U .cell\/(compEnvC scope (rL X.env.cells scope.names []) %[s|99] X.env).kindOf x=U .free->scope.names.lookup x=U .free:=λ x hx=>by
  let e:(compEnvC scope (rL X.env.cells scope.names []) %[s|99] X.env).kindOf x=(scope.names.lookup x).map λ k=>if (k == NameKind.free && X.env.scope.kind == .function && X.env.kindOf x == U .cell) then NameKind.cell else k:=fH
  rw[e] at hx
  cases q:scope.names.lookup x with
  | none=>rw[q] at hx;simp at hx
  | some j=>
   rw[q] at hx;let hj:j ≠ .cell:=c.cell (x,j) (iA q)
   cases j<;>simp_all
 let fresh:∀ b,%[s|99]<=b->s.heap.get? b=L:=λ b hb=>WS hb;let ne:∀ b o,s.heap.get? b=U o->b≠%[s|99]:=λ b o e=>VQ (VE e)
 let a7:∀ x a,X.env.cells.lookup x=U a->a<%[s|99]:=λ x a e=>by
  let(v,o,h1,_):=I.cell x a e;exact VE h1
 refine{⟨I.ok.mod,c.kind,I.ok.glob,I.ok.blt,VF _,λ x y a e1 e2=>I.ok.inj x y a (sub x a e1) (sub y a e2),λ x hx=>lO a3 (kinds x hx),(λ _ _ z=>nomatch z),I.ok.hd,I.soft,I.ok.frames,.inl J,λ b aX=>{VQ (a5 b aX),λ x a e=>(hf b aX).2.2.2.2.1 x a (sub x a e)},
   I.bs,Wo I.ok.bsz I.sz,(λ b o e aX=>by rw[hb b aX] at e;cases e),λ b aX hz=>?_,I.stack,I.stkFree⟩,ho,by rw[hg];exact I.bare,Un.kept hk,{m,a6,λ i x v e1 e2 e3=>?_},λ x a e=>?_,I.hok.fresh (VF _),λ x a e=>I.freeC x a (sub x a e),λ p hp=>?_,I.hok.kept hk,?_}
 ·rcases VU.mp (I.stkSub b hz) with z|z
  ·exact(hf b aX).2.1 z
  ·exact(hf b aX).2.2.1 z
 ·let hi:k<=i:=by
   refine YD λ hi=>?_;rw[Wq (by simpa using hi)] at e2;simp[XZ,hi] at e2
  obtain⟨j,rfl⟩:∃ j,i=k+j:={i - k,by omega};rw[Wj (by simp)] at e2;let a8:σ[j]? = U (U v):=by simpa using e2
  let e:(relabel scope X.env).names.lookup x=(scope.names.lookup x).map λ k=>if (k == NameKind.free && X.env.scope.kind == .function && X.env.kindOf x == U .cell) then NameKind.cell else k:=fH
  let af:scope.names.lookup x=U .free:=by
   cases q:scope.names.lookup x with
   | none=>
    rcases e3 with z|z|z
    all_goals (have z':(relabel scope X.env).names.lookup x=U _:=z;rw[e,q] at z';simp at z')
   | some j'=>
    let h1:j' ≠ .cell:=c.cell (x,j') (iA q);let h2:j' ≠ .local:=λ z=>c.loc j x e1 (by rw[q,z])
    rcases e3 with z|z|z
    all_goals (have z':(relabel scope X.env).names.lookup x=U _:=z;rw[e,q] at z';cases j'<;>simp_all)
  let hX:=c.sub j x e1 af;let aS:=c.free (x,.free) (iA af) J;let(m0,bB,a9):=I.loc;let(u,r,l):=a9 j x v hX a8 (.inr (.inl aS));refine{u,r,?_}
  rcases l with ⟨z,_⟩|⟨_,a,ea,hz⟩
  ·let z':X.env.scope.names.lookup x=U .local:=z;rw[aS] at z';cases z'
  ·let(a',a4):=lO (acc:=[]) a3 af;let e4:=sub x a' a4;rw[ea] at e4;cases e4;refine .inr {.inl ?_,a,a4,?_}
   ·show (relabel scope X.env).names.lookup x=U .cell
    rw[e,af];let k1:(X.env.scope.kind == .function)=Y:=by rw[I.ok.kind];rfl
    let k2:(X.env.kindOf x == U .cell)=Y:=by
     have:X.env.kindOf x=U .cell:=aS;rw[this];rfl
    simp[k1,k2]
   ·let(o,h1,h2):=hz;exact{o,hk _ _ h1,h2}
 ·let(v,o,h1,h2):=I.cell x a (sub x a e);exact{v,o,hk _ _ h1,h2}
 ·let bt:p∈X.pn++pins:=by simpa using hp
  let(e,n,nl,nf,d):=I.pin p bt;refine{hk _ _ e,n,ne _ _ e,λ z=>?_,d}
  rcases VU.mp (I.stkSub _ z) with z|z
  ·exact nl z
  ·exact nf z
 ·show (È k L++σ).length=N'.length
  rw[c.len,VN,Xu,I.len]
theorem pw{elt iter tg:Ò}{ifs:G Ò}{tt:TT}{te:TE}{tn:à->Í->Prop}{Q:VK}{RR:O->Z->Result->À->Prop}
  (c:lX X scope N' k) (I:Inv X pins σ H s) (T:E4 X.prog X.w X.K X.A tg ww fp it tn) (st:tn 0 s.heap) (hf:∀ b∈fp,yk X pins H b)
  (hg:∀ C s₀ H₀ ex pn,PG (cCx X scope N' C s₀ H₀ ex pn) tg g) (ht:∀ C s₀ H₀ ex pn,PTs (cCx X scope N' C s₀ H₀ ex pn) ifs tt) (he:∀ C s₀ H₀ ex pn,PE (cCx X scope N' C s₀ H₀ ex pn) elt te)
  (h:∀ D,H D=L->∃ W:à->à->G V->Hp->Prop,(∃ m,W 0 m [] (upd H D (.lst [])))/\∀ i m ys H,W i m ys H →
   (ww.stop i H/\Q (.ref D) H)\/(ww.go i H/\∃ N:G V->Hp->Prop,(∀ a4 H',N a4 H'->∃ m',m' < m/\W (i+1) m' a4 H') /\
    ∀ x H',ww.yld i H x H'->g x (È k L++σ) H' λ σ2 H2=>(∃ vs:St,vs.length=k/\σ2=vs++σ)/\tt σ2 H2 λ b H3=>if b=Y then te σ2 H3 λ y H4=>H4 D=U (.lst ys)/\ys.length<Å/\N (ys++[y]) (upd H4 D (.lst (ys++[y]))) else N ys H3))
  (fin:∀ D C s' H' m,s'.heap.Ns C m->C≠X.env.locals->(∀ x a,X.env.cells.lookup x=U a->a≠C)->(H' C=L/\X.s₀.heap.objs.size<=C/\∀ p∈X.pn++pins,p.1≠C)->(∀ h',Heap.SameBut C s'.heap h'->Inv X pins σ H' { s' with heap:=h' })->Q (.ref D) H'->RR (.ref D) C (.ok .next) s') :
  Ä (É X.prog X.w) X.A (newList []) (λ acc s₃=>Ä (É X.prog X.w) X.A (newFunctionEnv scope X.env.globals (rL X.env.cells scope.names []) [] X.env.qual L .none (U X.env)) (λ aX s₄=>
   codeAny (É X.prog X.w) X.A (.compStart (.ListComp elt [⟨tg,iter,ifs,0⟩] scope pos) 0 (.ref it) acc { aX with scope:=relabel scope X.env }) (RR acc aX.locals) s₄) E s₃) E s:=by
 refine wpAny_newObj_type (wpAny_newFunctionEnv c.cell (by intro y hy;simp at hy) (λ h₁ af aS=>?_) c.kind);dsimp only at af aS ⊢;let I3:Inv X pins σ (upd H %[s|99] (.lst [])) { s with heap:=s.heap.push { cls:=.type "list",data:=.seq ([]:G O).toArray },toks:=s.toks }:=I.lnew (ys:=[]) (its:=[]) .nil (Nat.zero_le _);generalize hH2:s.heap.push { cls:=.type "list",dict:=L,data:=.seq ([]:G O).toArray }=hp at af aS I3 ⊢;let a5:∀ b o,s.heap.get? b=U o->hp.get? b=U o:=λ b o e=>by rw[←hH2];exact Heap.get?_push_of_some _ e
 let a6:H %[s|99]=L:=I.hok.fresh (VF _);let kp:∀ b o,hp.get? b=U o->h₁.get? b=U o:=λ b o e=>aS.extBut b o (VQ (VE e)) (Vz _ e)
 let stk:∀ b∈fp,s.heap.get? b≠L:=λ b hb z=>by
  let(o,e,_):=T.obj _ _ st b hb;rw[z] at e;cases e
 let flt:∀ b∈fp,b<%[s|99]:=λ b hb=>by
  let(o,e,_):=T.obj _ _ st b hb;exact VE e
 let bt:∀ b∈fp,b≠%[s|99]:=λ b hb=>VQ (flt b hb)
 let a7:∀ b∈fp,yk X pins (upd H %[s|99] (.lst [])) b:=λ b hb=>by
  let(a1,a2):=hf b hb;exact{by rw[ag (bt b hb)];exact a1,a2}
 let bB:∀ b∈fp,X.base.get? b=L:=λ b hb=>by
  cases e:X.base.get? b with
  | none=>rfl
  | some o=>
   rcases (hf b hb).2.2.2.1 with z|z
   ·exact Þ z (I.ok.noex b o e)
   ·have:=VE (I.ok.bs b o e).1;exact Þ (VR this z) (WA _)
 let hsz:%[s|99]<hp.objs.size:=by rw[←hH2,V9];exact Xs _
 let IY:=HH (s₄:={ s with heap:=h₁,toks:=s.toks+([]:G (Ç × O)).length }) (fp:=fp) c I3 a7 (λ b hb=>Yp (flt b hb) hsz) bB af kp J J;let(W,(m0,w0),turn):=h %[s|99] a6
 let run:=EA (zB:=cCx X scope N' hp.objs.size { s with heap:=hp,toks:=s.toks } (upd H %[s|99] (.lst [])) fp (X.pn++pins)) (tg:=tg) (elt:=elt) (iter:=iter) (ifs:=ifs) (scope:=scope) (pos:=pos) (it:=it) (D:=%[s|99]) (k:=k) (σ:=σ) (Q:=Q)
  rfl (hg _ _ _ _ _) (ht _ _ _ _ _) (he _ _ _ _ _) T (λ H' hn b hb=>{hn b hb,VQ (Yp (flt b hb) hsz),λ z=>(IY.ok.exfs b hb) z,.inl hb,λ x a e=>(IY.ok.exf b hb).2 x a e,λ p hp=>by
   let a3:p∈X.pn++pins:=by simpa using hp
   exact(hf b hb).2.2.2.2.2 p a3}) W turn m0
 let a8:tn 0 h₁:=T.keep _ _ _ st λ b hb o e=>kp b o (a5 b o e);let go:=run { s with heap:=h₁,toks:=s.toks+([]:G (Ç × O)).length } ⟨0,[],_,IY,a8,λ b hb=>(a7 b hb).1,w0⟩
 let out:∀ r s',(r=Except.ok Flow.next/\∃ H',Inv (cCx X scope N' hp.objs.size { s with heap:=hp,toks:=s.toks } (upd H %[s|99] (.lst [])) fp (X.pn++pins)) [] (È k L++σ) H' s'/\Q (.ref %[s|99]) H')->RR (.ref %[s|99]) hp.objs.size r s':=by
  rintro r s' ⟨rfl,H',J',q⟩;let(m,hn,_):=J'.loc;let hC:hp.objs.size≠X.env.locals:=Wn (VR I.lt (Yf hsz));refine fin _ _ s' H' m hn hC (λ x a e=>?_) ⟨J'.free,Wo I.sz (Yf hsz),λ p a3=>VQ (Yp (VE (I.pin p a3).1) hsz)⟩ (λ h' a9=>?_) q
  ·let(v,o,h1,_):=I.cell x a e;exact VQ (Yp (VE h1) hsz)
  ·refine I.call' (ch:=fp) ?_ ?_ ?_ J'.bare λ b hb=>{(hf b hb).2.2.2.1,(hf b hb).2.1,(hf b hb).2.2.2.2.1,(hf b hb).2.2.2.2.2}
   ·exact J'.os
   ·let u1:Un (frs X.stack) fp H (upd H %[s|99] (.lst [])) s.heap hp:=Un.laid a5 (VF _) a6;exact(u1.trans J'.base).but a9 λ b o e=>VQ (Yp (VE e) hsz)
   ·exact J'.hok.but J'.free a9
 exact codeAny_compStart_list (Xi go out) (T.self _ 0 _ _ _ a8 (Xi go out))
theorem Lb{elt iter tg:Ò}{ifs:G Ò}{scope:Scope}{pos:Pos}{wi:TI}{g:TG}{tt:TT}{te:TE}{N':G Ç}{k:à}
  (c:lX X scope N' k) (hi:PI X tg iter wi)
  (hg:∀ C s₀ H₀ ex pn,PG (cCx X scope N' C s₀ H₀ ex pn) tg g) (ht:∀ C s₀ H₀ ex pn,PTs (cCx X scope N' C s₀ H₀ ex pn) ifs tt) (he:∀ C s₀ H₀ ex pn,PE (cCx X scope N' C s₀ H₀ ex pn) elt te)
  (hs:∀ x,foldedSetIterable iter X.env x=pure x:=by intro _;rfl):PE X (.ListComp elt [⟨tg,iter,ifs,0⟩] scope pos) (JJ k wi g tt te):=by
 intro pins s σ H Q I h;rw[PySem.eval_ListComp];refine Zj (use:=L) J hs (jO (c.cells I)) c.kind c.names (thn (hi pins s σ H _ I h) λ v s1 h1=>thn h1 λ aX s2 h2=>?_);let(it,fp,tn,ww,H2,rfl,I2,T,af,f2,hW):=h2;refine pw (RR:=λ acc C=>PySem.compPost (É X.prog X.w) X.A X.xe L (EP X pins σ Q) acc C) c I2 T af f2 hg ht he hW ?_;intro D C s' H' m hn _ _ _ hI q;exact{m,hn,λ h' aS=>{.ref D,H',hI h' aS,J,q}}
def NX(i:à)(te:TE):TS:=λ D σ H=>te σ H λ x H1=>D.nx (σ.set i (U x)) H1
theorem KJ{elt iter tg:Ò}{ifs:G Ò}{scope:Scope}{pos af py:Pos}{wi:TI}{g:TG}{tt:TT}{te:TE}{N':G Ç}{k i:à}{y:Ç}
  (hN:X.N.Nodup) (a4:X.N[i]? = U y) (hy:Loc X.env.scope y)
  (c:lX X scope N' k) (hi:PI X tg iter wi)
  (hg:∀ C s₀ H₀ ex pn,PG (cCx X scope N' C s₀ H₀ ex pn) tg g) (ht:∀ C s₀ H₀ ex pn,PTs (cCx X scope N' C s₀ H₀ ex pn) ifs tt) (he:∀ C s₀ H₀ ex pn,PE (cCx X scope N' C s₀ H₀ ex pn) elt te)
  (a5:swapsWith (.ListComp elt [⟨tg,iter,ifs,0⟩] scope pos) (U (.Name y py)) af.line X.env=pure Y:=by rfl)
  (hs:∀ x,foldedSetIterable iter X.env x=pure x:=by intro _;rfl) (hf:X.fn y=Y\/X.env.scope.names.lookup y=U .local:=by first|exact .inl rfl|exact .inr rfl|assumption) :
  PS X (.Assign [.Name y py] (.ListComp elt [⟨tg,iter,ifs,0⟩] scope pos) af) (NX i (JJ k wi g tt te)):=by
 intro pins s σ H D I h;rw[PySem.exec_Assign_Name_used _ _ _ _ a5];refine My (XH (My ?_))
 show Ä _ X.A (do let _ ←comprehension (.ListComp elt [⟨tg,iter,ifs,0⟩] scope pos) scope X.env _ (newList []) Á (eval iter X.env) (U (assign (.Name y py) X.env))) _ _ s
 refine My (thn (Zj (use:=U (assign (.Name y py) X.env)) (Q:=λ _ s'=>SP X pins D .next s') J hs (jO (c.cells I)) c.kind c.names (thn (hi pins s σ H _ I h) λ v s1 h1=>thn h1 λ bB s2 h2=>?_)) λ _ s' hq=>VC (VC hq));let(it,fp,tn,ww,H2,rfl,I2,T,a6,f2,hW):=h2;refine pw (Q:=λ x H1=>D.nx (σ.set i (U x)) H1) (RR:=λ acc C=>PySem.compPost (É X.prog X.w) X.A X.xe (U (assign (.Name y py) X.env)) (λ _ s'=>SP X pins D .next s') acc C) c I2 T a6 f2 hg ht he hW ?_;intro D' C s' H' m hn aX a3 aS hI q
 show Ä _ X.A (assign (.Name y py) X.env (.ref D')) _ _ s'
 let I':Inv X pins σ H' s':=hI s'.heap (Heap.SameBut.refl _ _);refine wpAny_assign_Name (sr I' hN a4 hy (show b9 (.ref D') (.ref D') from J) (λ a7 a8 ⟨a,sb,ha⟩=>?_) hf)
 let a9:C≠a:=by
  rcases ha with rfl|ha
  ·exact aX
  ·exact λ z=>a3 _ _ ha z.symm
 refine{m,hn.sameBut sb a9,λ h' bt=>{_,H',?_,q}};exact a8.turned (t':=a7.toks) (λ b o hb e=>(bt.2 b hb).trans e) aS.1 aX (.inr aS.2.1) a3 aS.2.2
end
def rQ(h:Í)(e:Z)(cls:O)(d:Ü Z)(T:Z):Prop:=
 ∃ oe vs oT ts,h.get? e=U oe/\oe.cls=cls/\oe.dict=d/\oe.data=.fields vs/\vs[1]? = U (.ref T)/\T≠e/\h.get? T=U oT/\oT.data=.fields ts/\ts[3]? = U .none/\vs[2]? = U .none
def CX1(P:Ë)(w:Ï):CXT:=λ outer H s E ev s'=>∃ e T cls d H',ev=.ref e/\s'.os=s.os/\AllBare s'.gens/\Un (frs outer) [] H H' s.heap s'.heap/\HOk P w H' s'.heap /\
 s.heap.get? e=L/\s.heap.get? T=L/\H' e=L/\H' T=L/\rQ s'.heap e cls d T/\(∀ dx,d=U dx->∃ fs,H' dx=U (.xd fs))/\E cls d H'
theorem Ex(f:Array O->Array O)(o:Obj):(Obj.mapFields f o).dict=o.dict:=by
 unfold Obj.mapFields;split<;>rfl
structure Aq(fs:G Z)(e:Z)(no:Z->Prop)(h h':Í):Prop where
 keep:∀ b o,b≠e->¬ no b->b ∉ fs->h.get? b=U o->h'.get? b=U o
 slot:∀ b o,b≠e->¬ no b->b∈fs->h.get? b=U o->∃ sl,h'.get? b=U { o with slots:=sl }
 size:h.objs.size<=h'.objs.size
theorem Jv{zC:Z}{vs:Array O}{head:O}{af:Ý}{Q:Unit->À->Prop}
  (a3:A.frames=U (env::outer)) (hl:s.heap.FunFrames base (env::outer)) (hf:env.frame=U zC) (he:s.heap.get? e=U oe) (hd:oe.data=.fields vs) (hsz:1<vs.size) (a4:vs[2]? = U .none)
  (hQ:∀ h',Aq (frs (env::outer)) e (λ _=>False) s.heap h'->(∃ T aS aX oT ts,s.heap.get? T=L/\h'.get? e=U aS/\aS.cls=oe.cls/\aS.dict=oe.dict/\aS.data=.fields aX/\aX[1]? = U (.ref T)/\T≠e/\h'.get? T=U oT/\oT.data=.fields ts/\ts[3]? = U (rawInt zC)/\aX[2]? = U .none)->Q () { s with heap:=h' }) :
  Ä M A (do let a ←frameOf env;let pl ←entryPlaceOf zC af;let b ←EntryCells.newEntry head a .none (rawInt zC) .none pl;setField (.ref e) 1 b) Q E s:=by
 let a5:e ∉ frs (env::outer):=λ z=>by
  let(_,o,q1,q2):=hl.mem z;rw[he] at q1;cases q1;exact q2 vs hd
 refine wpAny_bind (wpAny_frameOf_fun a3 hl hf λ g1 sg=>?_);refine wpAny_bind (wpAny_entryPlaceOf λ pl a6=>?_);unfold EntryCells.newEntry newFields;refine wpAny_bind (wpAny_newObj_type ?_ (a6.sizeOk5 _ _ _ _ _));let e1:g1.get? e=U oe:=(sg.2.1 e a5).trans he;generalize hnew:({ cls:=.type "traceback",dict:=L,data:=.fields ([head,.ref zC,.none,rawInt zC,.none]++(if pl.isEmpty then È 6 Ñ else pl)).toArray }:Obj)=oN;let dN:oN.data=.fields ([head,.ref zC,.none,rawInt zC,.none]++(if pl.isEmpty then È 6 Ñ else pl)).toArray:=by rw[←hnew]
 let e2:(g1.push oN).get? e=U oe:=Vz _ e1;refine W9 e2 hd hsz (hQ _ ?_ ?_)
 ·let other:∀ b o,b≠e->g1.get? b=U o->((g1.push oN).update e (Obj.mapFields (·.setIfInBounds 1 (Ê g1.objs.size)))).get? b=U o:=λ b o hb q=>by
   rw[V4 _ _ (VL hb)];exact Vz _ q
  refine{λ b o hb _ a7 q=>other b o hb ((sg.2.1 b a7).trans q),λ b o hb _ _ q=>?_,?_}
  ·let(sl,q'):=sg.2.2 b o q;exact{sl,other b _ hb q'}
  ·let z1:g1.objs.size=%[s|99]:=sg.1;let z2:=((WE (g1.push oN) e (Obj.mapFields (·.setIfInBounds 1 (Ê g1.objs.size))))).1;rw[z2,V9];omega
 ·let ne:g1.objs.size≠e:=Wn (VE e1);let d3:=Xj hd (·.setIfInBounds 1 (Ê g1.objs.size));refine{g1.objs.size,_,_,oN,_,?_,VZ _ e2 (W0 d3),Obj.cls_mapFields _ _,Ex _ _,d3,by simp[hsz],ne,?_,dN,by simp,by rw[Zh (by decide)];exact a4}
  ·let z1:g1.objs.size=%[s|99]:=sg.1;rw[z1];exact WS (VF _)
  ·rw[V4 _ _ (VL ne)];exact VG _ (W0 dN)
theorem BP{oT:Obj}{vs ts:Array O}{Q:Unit->À->Prop}(he:s.heap.get? e=U oe)(hd:oe.data=.fields vs)(h1:vs[1]? = U (.ref T))(hT:s.heap.get? T=U oT)(af:oT.data=.fields ts)(h3:3<ts.size)(ne:T≠e)(aS:vs[2]? = U .none)
  (hQ:∀ h',(∀ b,b≠T->h'.get? b=s.heap.get? b)->h'.objs.size=%[s|99]->rQ h' e oe.cls oe.dict T->Q () { s with heap:=h' }):Ä M A (setFlight (.ref e) L) Q E s:=by
 unfold setFlight;refine wpAny_bind (wpAny_field he hd h1 ?_);rw[if_pos (show (Ê T != Ñ)=Y from by simp)];let sb:=Heap.SameBut.update s.heap T (Obj.mapFields (·.setIfInBounds 3 ((L:Ü Z).elim Ñ λ f=>rawInt f)));refine wpAny_setField hT af h3 (hQ _ sb.2 sb.1 ?_);let d3:=Obj.data_mapFields af (·.setIfInBounds 3 ((L:Ü Z).elim Ñ λ f=>rawInt f));exact{oe,vs,_,_,(sb.2 e (Ne.symm ne)).trans he,J,J,hd,h1,ne,Heap.get?_update_self _ hT (Obj.isFreed_of_fields d3),d3,by simp[h3],aS}
theorem xt{zC:Z}{vs:Array O}{Q:Unit->À->Prop}
  (aS:A.frames=U (env::outer)) (hl:s.heap.FunFrames base (env::outer)) (hf:env.frame=U zC) (he:s.heap.get? e=U oe) (hd:oe.data=.fields vs) (h1:vs[1]? = U .none) (aX:vs[2]? = U .none)
  (hQ:∀ h' T,Aq (frs (env::outer)) e (λ _=>False) s.heap h'->s.heap.get? T=L->rQ h' e oe.cls oe.dict T->Q () { s with heap:=h' }) :
  Ä M A (noteFrame (.ref e) env) (λ _ s2=>Ä M A (setFlight (.ref e) L) Q E s2) E s:=by
 unfold noteFrame;simp only[hf];refine wpAny_bind (wpAny_field he hd h1 ?_);rw[if_neg (by decide)];refine Jv aS hl hf he hd (Array.getElem?_eq_some_iff.mp h1).1 aX λ g ng hx=>?_;let(T,a4,a5,oT,ts,nT,q1,q2,a3,q3,q4,ne,q5,q6,q7,q8):=hx;refine BP (s:={ s with heap:=g }) q1 q3 q4 q5 q6 (Array.getElem?_eq_some_iff.mp q7).1 ne q8 λ g' sb sz ex=>?_;rw[q2,a3] at ex;let lt:∀ b o,s.heap.get? b=U o->b≠T:=λ b o q z=>by rw[z,nT] at q;cases q
 exact hQ g' T {λ b o hb hn af q=>(sb b (lt b o q)).trans (ng.keep b o hb hn af q),λ b o hb hn af q=>by
  let(sl,q'):=ng.slot b o hb hn af q;exact{sl,(sb b (lt b o q)).trans q'},Wo ng.size (Yq sz.symm)} nT ex
theorem mR{zC:Z}{dd:Ü Z}{Q:Unit->À->Prop}
  (a5:A.frames=U (env::outer)) (hl:s.heap.FunFrames base (env::outer)) (hf:env.frame=U zC) (hx:rQ s.heap e cls dd T) (bt:e ∉ frs (env::outer)) (bB:T ∉ frs (env::outer)) (hb:base.get? T=L)
  (hQ:∀ h' T',Aq (frs (env::outer)) e (λ b=>b=T) s.heap h'->s.heap.get? T'=L->rQ h' e cls dd T'->Q () { s with heap:=h' }) :
  Ä M A (noteFrame (.ref e) env) (λ _ s2=>Ä M A (setFlight (.ref e) L) Q E s2) E s:=by
 let(oe,vs,oT,ts,he,rfl,rfl,hd,h1,ne,hT,aS,h3,a6):=hx;unfold noteFrame;simp only[hf];refine wpAny_bind (wpAny_field he hd h1 ?_);rw[if_pos (show (Ê T != Ñ)=Y from by simp)];refine wpAny_bind (wpAny_field hT aS h3 ?_);rw[if_neg (show ¬ ((Ñ == rawInt zC)=Y) from by simp[rawInt])];let af:=Heap.SameBut.update s.heap T (Obj.mapFields (·.setIfInBounds 3 Ñ));refine wpAny_bind (wpAny_setField hT aS (Array.getElem?_eq_some_iff.mp h3).1 ?_);generalize hg0:s.heap.update T (Obj.mapFields (·.setIfInBounds 3 Ñ))=g0 at af;let fl:g0.FunFrames base (env::outer):=hl.of_keeps λ b o q a7=>{o,(af.2 b (λ z=>by rw[z,hT] at q;cases q;exact a7 ts aS)).trans q,J};let a8:g0.get? e=U oe:=(af.2 e (Ne.symm ne)).trans he;refine Jv (s:={ s with heap:=g0 }) a5 fl hf a8 hd (Array.getElem?_eq_some_iff.mp h1).1 a6 λ g ng hx=>?_;let(T',bS,b0,b1,b2,nT,q1,q2,a9,q3,q4,ne',q5,q6,q7,q8):=hx;refine BP (s:={ s with heap:=g }) q1 q3 q4 q5 q6 (Array.getElem?_eq_some_iff.mp q7).1 ne' q8 λ g' sb sz ex=>?_;rw[q2,a9] at ex
 let tT:T≠T':=λ z=>by
  subst z;have:=VZ (Obj.mapFields (·.setIfInBounds 3 Ñ)) hT (W0 (Xj aS _));rw[hg0] at this;let a3:g0.get? T=L:=nT;rw[this] at a3;cases a3
 let a4:s.heap.get? T'=L:=(af.2 T' (VL tT)).symm.trans nT;let lt:∀ b o,s.heap.get? b=U o->b≠T':=λ b o q z=>by rw[z,a4] at q;cases q
 exact hQ g' T' {λ b o hb hn aX q=>(sb b (lt b o q)).trans (ng.keep b o hb (λ z=>z) aX ((af.2 b hn).trans q)),λ b o hb hn aX q=>by
  let(sl,q'):=ng.slot b o hb (λ z=>z) aX ((af.2 b hn).trans q);exact{sl,(sb b (lt b o q)).trans q'},Wo (Yq af.1.symm) (Wo ng.size (Yq sz.symm))} a4 ex
theorem HOk.noted{fs:G Z}{no:Z->Prop}(ok:HOk P w H h)(n:Aq fs e no h h')(he:H e=L)(hn:∀ b,no b->H b=L)(hf:∀ b∈fs,H b=L):HOk P w H h':=λ b ob q=>by
 refine(ok b ob q).stay (λ c v hc r=>n.keep c v ?_ ?_ ?_ r) (λ _ z=>z) (λ _ _ z=>z) λ _ _ z=>z
 all_goals
  rcases hc with z|z
  all_goals intro k
 ·rw[←z,k,he] at q;cases q
 ·rw[k,he] at z;cases z
 ·rw[←z,hn _ k] at q;cases q
 ·rw[hn _ k] at z;cases z
 ·rw[←z,hf _ k] at q;cases q
 ·rw[hf _ k] at z;cases z
theorem Un.noted{fs fs':G Z}{h2:Í}{no:Z->Prop}(u:Un fs [] H H' h h1)(n:Aq fs' e no h1 h2)(he:h.get? e=L)(hn:∀ b,no b->h.get? b=L)(hs:∀ b∈fs',b∈fs\/h.get? b=L):Un fs [] H H' h h2:=by
 let ne:∀ b o,h.get? b=U o->b≠e/\¬ no b:=λ b o q=>{λ z=>(by rw[z,he] at q;cases q),λ z=>(by rw[hn b z] at q;cases q)}
 let nf:∀ b o,h.get? b=U o->b ∉ fs->b ∉ fs':=λ b o q hb z=>by
  rcases hs b z with k|k
  ·exact hb k
  ·rw[k] at q;cases q
 refine{λ b o q a hb hx=>n.keep b o (ne b o q).1 (ne b o q).2 (nf b o q hb) (u.keep b o q a hb hx),λ b o q a hb hx=>?_,u.free,λ b o q hx=>?_,u.tups,u.frzs,u.tbls}
 ·let(sl,r):=u.slot b o q a hb hx
  by_cases hb':b∈fs'
  ·let(af,r'):=n.slot b _ (ne b o q).1 (ne b o q).2 hb' r;exact{(af),r'}
  ·exact{sl,n.keep b _ (ne b o q).1 (ne b o q).2 hb' r}
 ·let(o',r):=u.there b o q hx
  by_cases hb':b∈fs'
  ·let(af,r'):=n.slot b _ (ne b o q).1 (ne b o q).2 hb' r;exact{_,r'}
  ·exact{_,n.keep b _ (ne b o q).1 (ne b o q).2 hb' r}
def Bd(CX:CXT)(X:Cx)(E:XK)(σ:St):Prop:=∀ (pins:G (Z × Obj)) (H:Hp) (s:À) (e:O) (s':À),Inv X pins σ H s->CX X.stack H s E e s'->X.xe e s'
def xQ(X:Cx)(E:XK)(σ:St):Prop:=∀ (pins:G (Z × Obj)) (H:Hp) (s:À) (h':Í) (e:Z) (C:Z) (us:G O),Inv X pins σ H s->Heap.MadeExcOf s.heap h' e (.ref C) us->E (.ref C) L H->X.xe (.ref e) { s with heap:=h' }
theorem bE.there{a:Z}(x:bE P w H h a o):∃ ob,h.get? a=U ob:=by
 cases o with
 | lst xs=>let(_,_,_,_,e):=x;exact{_,e}
 | tup xs=>let(_,_,_,ob,e,_):=x;exact{(ob),e}
 | dK kvs=>let(_,_,_,_,ob,_,_,e,_):=x;exact{(ob),e}
 | dT kvs=>let(_,_,_,_,ob,_,_,e,_):=x;exact{(ob),e}
 | set S n=>let(ob,_,_,_,e,_):=x;exact{(ob),e}
 | ins C dx fs=>let(_,_,_,e,_):=x;exact{_,e}
 | own y=>exact x
 | xd fs=>let(_,(ob,_,_,e,_),_):=x;exact{(ob),e}
 | rng lo hi=>let(_,_,_,e):=x;exact{_,e}
 | frz ob u=>exact{_,x.1}
 | tbl ps=>let(_,_,_,_,e,_):=x;exact{_,e}
 | cod q=>let(_,_,_,e,_):=x;exact{_,e}
 | met f y=>exact{_,x}
 | ext φ=>exact x.2.1
theorem HOk.gone{a:Z}(ok:HOk P w H h)(e:h.get? a=L):H a=L:=by
 cases q:H a with
 | none=>rfl
 | some o=>
  let(ob,z):=(ok a o q).there;rw[e] at z;cases z
theorem Un.gone{fs:G Z}{a:Z}(u:Un fs [] H H' h h1)(e:h1.get? a=L):h.get? a=L:=by
 cases q:h.get? a with
 | none=>rfl
 | some o=>
  let(o',z):=u.there a o q (by simp);rw[e] at z;cases z
theorem iu{N:G Ç}{cd:O}{E:XK} :
  xQ (Ai cb (CX1 P w) P w K mg base N qual scope f cd A outer s₀ H₀ E) E σ:=by
 intro pins H s h' e C us I hm hE;let(t,he,_,_):=hm.there
 show Ä (É P w) (A.deeper (envOfC qual scope %[s₀|99] f cd)) (leaving (envOfC qual scope %[s₀|99] f cd) (.ref e)) _ _ _
 unfold leaving;let un:Un (frs outer) [] H₀ H s₀.heap s.heap:=I.base;let fl:h'.FunFrames base (envOfC qual scope %[s₀|99] f cd::outer):=I.stack.of_keeps λ b o q _=>{o,hm.keeps b o q,J};refine wpAny_bind (xt (s:={ s with heap:=h' }) (base:=base) (outer:=outer) I.ok.frames fl J he J J J λ g T ng nT ex=>?_)
 let af:s.heap.get? T=L:=by
  cases q:s.heap.get? T with
  | none=>rfl
  | some o=>
   let z:=hm.keeps T o q;let aS:h'.get? T=L:=nT;rw[aS] at z;cases z
 let u2:Un (frs outer) [] H₀ H s₀.heap h':=un.trans (Un.kept hm.keeps);refine{e,T,.ref C,L,H,J,I.os,I.bare,u2.noted ng (un.gone hm.new) (λ _ z=>z.elim) (λ b hb=>?_),(I.hok.kept hm.keeps).noted ng (I.hok.gone hm.new) (λ _ z=>z.elim) I.stkFree,un.gone hm.new,un.gone af,I.hok.gone hm.new,I.hok.gone af,ex,(λ _ z=>nomatch z),hE}
 rcases VU.mp (I.stkSub b hb) with z|z
 ·exact .inr (by rw[z];exact WS (VF _))
 ·exact .inl z
theorem aw{N:G Ç}{cd:O}{E:XK} :
  kR (CX1 P w) (Ai cb (CX1 P w) P w K mg base N qual scope f cd A outer s₀ H₀ E) E:=by
 intro pins σ H s ev s' I hc;let(e,T,cls,dd,H',rfl,os,bare,a3,hok,ne,nT,He,HT,ex,a4,hE):=hc
 show Ä (É P w) (A.deeper (envOfC qual scope %[s₀|99] f cd)) (leaving (envOfC qual scope %[s₀|99] f cd) (.ref e)) _ _ _
 unfold leaving;let I2:Inv _ pins σ H' s':=I.call' (ch:=[]) os a3 hok bare (λ b z=>Þ z (by simp))
 let nf:∀ b,s.heap.get? b=L->b ∉ frs (envOfC qual scope %[s₀|99] f cd::outer):=λ b hb z=>by
  let(_,o,q,_):=I.stack.mem z;rw[hb] at q;cases q
 let nb:base.get? T=L:=by
  cases q:base.get? T with
  | none=>rfl
  | some o=>
   have:=I.bk T o q;rw[nT] at this;cases this
 let fl:s'.heap.FunFrames base (envOfC qual scope %[s₀|99] f cd::outer):=I2.stack;refine My (mR (base:=base) (outer:=outer) I.ok.frames fl J ex (nf e ne) (nf T nT) nb λ g T' ng aS ex'=>?_);let af:Un (frs outer) [] H₀ H s₀.heap s.heap:=I.base;let aX:Un (frs outer) [] H₀ H' s₀.heap s'.heap:=I2.base;refine{e,T',cls,dd,H',J,I2.os,bare,aX.noted ng (af.gone ne) (λ b z=>by rw[z];exact af.gone nT) (λ b hb=>?_),hok.noted ng He (λ b z=>by rw[z];exact HT) I2.stkFree,af.gone ne,aX.gone aS,He,hok.gone aS,ex',a4,hE}
 rcases VU.mp (I.stkSub b hb) with z|z
 ·exact .inr (by rw[z];exact WS (VF _))
 ·exact .inl z
section
variable {X:Cx}
def IX(sp:Sp)(dvs:G V)(E:St->XK)(t:TA):TE:=λ σ H Q=>t σ H λ vs H1=>sp (vs++dvs) H1 Q (E σ)
theorem xo{sp:Sp}{ds:G O}{dvs:G V}{E:St->XK}{e:Ò}{p:Pos}
  (F:lu cb X.prog X.w X.K X.mg X.base CX k f fd ps sp) (hr:jk k X.A) (hg:Gl X x) (hm:X.mg x=U (.ref f)) (hk:W.keepIn X.K (.ref f)=Y) (hb:az X.K fd ps ds) (hd:bf dvs ds) (hx:∀ σ,Bd CX X (E σ) σ)
  (ha:PA X (e::es) t) (af:(x == ("__debug__":Ç))=Á:=by decide) (he:starEach (e::es) X.env=(Á,eval e X.env)::starEach es X.env:=by rfl) (aS:(backTo pos (starEach es X.env)).any (·.1)=Á:=by rfl) (aX:(!cb || X.calm)=Y:=by rfl) :
  PE X (.Call (.Name x p) (e::es) [] pos) (IX sp dvs E t):=by
 intro pins s σ H Q I h;refine W3 (gK I hg hm ?_ af);refine W.callWith_K (h₀:=X.base) I.ok.mod.kin hk (thn (ha pos pins s σ H _ I h) λ us s1 ⟨vs,H1,I1,r,q⟩=>{I1.kIn,?_}) he aS;let r2:bf (vs++dvs) (us++ds):=r.append hd;let hl:(us++ds).length=ps.length:=by rw[←r2.length];exact F.len _ _ _ _ q
 refine X7 (Xi (F.run X.A X.stack s1 H1 ⟨us,[]⟩ (us++ds) (vs++dvs) Q (E σ) hr (λ z=>I1.ok.hd (by subst z;exact aX)) I1.env0 (hb s1 us I1.kIn hl) r2 q) λ rr s' hq=>?_)
 cases rr with
 | error ev=>exact hx σ pins H1 s1 ev s' I1 hq
 | ok fl=>
  cases fl with
  | ret u=>exact I1.after hq
  | next=>exact False.elim hq
  | brk=>exact False.elim hq
  | cont=>exact False.elim hq
set_option genInjectivity false in
structure Sh where
 nm:Ç
 q:Ç
 N:Z
 bs:G O
 bm:G O
 hdct:Ý
 sn:G Ç
 sub:G O
 ab:Ý
 col:Ü Ý
 dd:Ü Z
 k0:Ü O
 k1:Ü O
 k2:Ü O
 k3:Ü O
 k5:Ü O
def AW(K:Æ)(C:Z)(z:Ü O)(bmB:G O)(newId:String):Ý:=match K.lookup C with
 | some ⟨.type "type",_,.cls dat,slt⟩=>(match dat.mro,slt.toList with
  | .ref C'::up,[_,_,_,_,U (.builtin n),_]=>C' == C && n == newId && !dat.hasDel && W.tailIn K bmB up && W.nsOkIn K dat.ns && Ð K dat.ns "__init__" == U z
  | _,_=>Á)
 | _=>Á
theorem Jy{z:Ü O}(q0:AW K C z [.type "ValueError",.type "Exception",.type "BaseException",.type "object"] "ValueError.__new__"=Y) :
  ∃ c:Sh,K.lookup C=U (excClassObj c.nm c.q C c.N c.bs c.bm c.hdct c.sn c.sub c.ab c.col c.dd c.k0 c.k1 c.k2 c.k3 c.k5 "ValueError.__new__")/\W.tailIn K [.type "ValueError",.type "Exception",.type "BaseException",.type "object"] c.bm=Y/\W.nsOkIn K c.N=Y/\Ð K c.N "__init__"=U z:=by
 unfold AW at q0;split at q0
 ·rename_i a7 a3 af aX;split at q0
  ·rename_i bS a8 g0 g1 g2 g3 nw g5 em a9
   simp only[Xt,W5,Bool.not_eq_true'] at q0<;>skip
   let(((((rfl,rfl),aS),tok),a4),a5):=q0;let(c1,c2,c3,c4,c5,c6,c7,c8,c9,bt,b0):=a3;dsimp only at em aS a4 a5;subst em aS;obtain⟨a6⟩:=af;let bB:a6=[g0,g1,g2,g3,U (.builtin "ValueError.__new__"),g5]:=a9;subst bB;exact{⟨c1,c5,c4,c2,a8,c6,c7,c8,c9,bt,a7,g0,g1,g2,g3,g5⟩,aX,tok,a4,a5}
  ·cases q0
 ·cases q0
structure Vk(K:Æ)(C:Z):Prop where
 ex:W.excIn K C [.type "ValueError",.type "Exception",.type "BaseException",.type "object"] "ValueError.__new__"=Y
def IT(C:Z)(E:St->XK)(t:TA):TS:=λ _ σ H=>t σ H λ vs H1=>vs.length<=Å/\E σ (.ref C) L H1
theorem lI{e₀:Ò}{dQ:G Ò}{np cpos:Pos}{E:St->XK}(hc:X.calm=Y)(hg:Gl X x)(a3:X.mg x=U (.ref C))(zc:Vk X.K C)(hx:∀ σ,xQ X (E σ) σ)(ha:PA X (e₀::dQ) t)
  (he:starEach (e₀::dQ) X.env=(Á,eval e₀ X.env)::starEach dQ X.env:=by rfl) (af:(backTo cpos (starEach dQ X.env)).any (·.1)=Á:=by rfl) (a4:(x == ("__debug__":Ç))=Á:=by decide) :
  PS X (.Raise (U (.Call (.Name x np) (e₀::dQ) [] cpos)) L pos) (IT C E t):=by
 intro pins s σ H D I h;let(c,aS,tok,aX,a5):=Jy (z:=L) zc.ex;let a6:X.base.Ns c.N (X.base.nsMap c.N):=.of_isNs (W.isNs_of_in I.mod.kin aX)
 refine PySem.wpAny_Raise_call_subU (C:=C) (nm:=c.nm) (q:=c.q) (N:=c.N) (bs:=c.bs) (bm:=c.bm) (hdct:=c.hdct) (sn:=c.sn) (sub:=c.sub) (ab:=c.ab) (col:=c.col) (dd:=c.dd) (k0:=c.k0) (k1:=c.k1) (k2:=c.k2) (k3:=c.k3) (k5:=c.k5)
  Xb (by decide +kernel) Xb (mN:=X.base.nsMap c.N) ((W.tail_of_in I.kIn tok).hasType (by decide +kernel)) (I.ok.hd hc) (by rw[he];exact(Bool.false_or _).trans af) (W.nsMap_none_of_in I.mod.kin aX a5) (gK I hg a3 {J,?_} a4)
 let hh:=ha cpos pins s σ H _ I h;rw[he] at hh ⊢;exact Zg (thn hh λ us s2 ⟨vs,H2,I2,r,hl,hE⟩=>{J,by rw[←r.length];exact hl,I2.kIn _ _ aS,a6.keeps I2.bk,W.tail_of_in I2.kIn tok,λ h' e hm=>hx σ pins H2 s2 h' e C us I2 hm hE})
abbrev Cx.mark(X:Cx)(e:Z)(H1:Hp):Cx:={ X with A:=X.A.mark (U (.ref e)),H₀:=H1,calm:=Á,xe:=λ _ _=>False }
theorem Inv.mark{o:Obj}{u:HO}(I:Inv X pins σ H s)(h0:X.s₀.heap.get? e=L)(hf:e ∉ X.fs)(he:H e=U (.frz o u))(nc:As o):Inv (X.mark e (upd X.H₀ e (.frz o u))) pins σ H s:=by
 let ne:∀ b ob,X.s₀.heap.get? b=U ob->b≠e:=λ b ob q z=>by rw[z,h0] at q;cases q
 let un:∀ b,b≠e->upd X.H₀ e (.frz o u) b=X.H₀ b:=λ b hb=>ag hb
 let nn:∀ b,upd X.H₀ e (.frz o u) b=L->X.H₀ b=L:=λ b hb=>by
  by_cases z:b=e
  ·rw[z,aj] at hb;cases hb
  ·rw[un b z] at hb;exact hb
 exact{⟨I.ok.mod,I.ok.kind,I.ok.glob,I.ok.blt,I.ok.above,I.ok.inj,I.ok.has,I.ok.cab,(λ z=>nomatch z),(λ a z=>{e,o,u,by cases z;rfl,aj,nc}),I.ok.frames,I.ok.stk,I.ok.exf,
  λ b ob q=>{(I.ok.bs b ob q).1,(un b (ne b ob (I.ok.bs b ob q).1)).trans (I.ok.bs b ob q).2},I.ok.bsz,I.ok.noex,I.ok.exfs,I.ok.funs,λ b hb=>(un b (λ z=>hf (z ▸ hb))).trans (I.ok.frf b hb)⟩,I.os,I.bare,
  ⟨λ b ob q n=>I.base.keep b ob q (nn b n),λ b ob q n=>I.base.slot b ob q (nn b n),λ b ob q n=>I.base.free b ob q (nn b n),I.base.there,
   λ b xs q=>by
    let q:upd X.H₀ e (.frz o u) b=_:=q
    by_cases z:b=e
    ·rw[z,aj] at q;cases q
    ·rw[un b z] at q;exact I.base.tups b xs q,
   λ b ob v q=>by
    let q:upd X.H₀ e (.frz o u) b=_:=q
    by_cases z:b=e
    ·rw[z,aj] at q;cases q;rw[z];exact he
    ·rw[un b z] at q;exact I.base.frzs b ob v q,
   λ b ps q=>by
    let q:upd X.H₀ e (.frz o u) b=_:=q
    by_cases z:b=e
    ·rw[z,aj] at q;cases q
    ·rw[un b z] at q;exact I.base.tbls b ps q⟩,
  I.loc,I.cell,I.free,I.freeC,I.pin,I.hok,I.len}
theorem Inv.unmark(ok:X.Ok)(h0:X.s₀.heap.get? e=L)(hh:∀ o:HO,X.H₀ e=U o->(∀ xs,o ≠ .tup xs)/\(∀ ob u,o ≠ .frz ob u)/\∀ ps,o ≠ .tbl ps)(I:Inv (X.mark e (upd X.H₀ e o)) pins σ H s):Inv X pins σ H s:=by
 let ne:∀ b ob,X.s₀.heap.get? b=U ob->b≠e:=λ b ob q z=>by rw[z,h0] at q;cases q
 let un:∀ b,b≠e->upd X.H₀ e o b=X.H₀ b:=λ b hb=>ag hb
 exact{ok,I.os,I.bare,
  ⟨λ b ob q n=>I.base.keep b ob q ((un b (ne b ob q)).trans n),λ b ob q n=>I.base.slot b ob q ((un b (ne b ob q)).trans n),λ b ob q n=>I.base.free b ob q ((un b (ne b ob q)).trans n),I.base.there,
   λ b xs q=>I.base.tups b xs ((un b (λ z=>(hh _ (z ▸ q)).1 xs J)).trans q),
   λ b ob v q=>I.base.frzs b ob v ((un b (λ z=>(hh _ (z ▸ q)).2.1 ob v J)).trans q),
   λ b ps q=>I.base.tbls b ps ((un b (λ z=>(hh _ (z ▸ q)).2.2 ps J)).trans q)⟩,
  I.loc,I.cell,I.free,I.freeC,I.pin,I.hok,I.len}
end
variable {X:Cx}
structure NR(K:Æ)(x qual:Ç)(st:Stmt)(f:Z)(fd:Â):Prop where
 ex:∃ (oc:O) (od:Ü Z) (dV kV doc pm:O) (an:Ü Z) (cdv ct:O) (osl:Array (Ü O)),
  fd=W.fnOf x qual (fv st) (dI st) (aa st) dV kV doc pm an cdv ct/\K.lookup f=U ⟨oc,od,.func fd,osl⟩/\W.codeIn K cdv qual=Y
 kp:W.keepIn K (.ref f)=Y
section
variable {K:PySem.W.Frag}
theorem NR.ok{st:Stmt}{N:G Ç}{sp:Sp}(F:NR K x qual st f fd)(S:ai N ps (aa st))(len:∀ vs H Q E,sp vs H Q E->vs.length=ps.length)
  (af:∀ (cdv:O) (A:Î) (outer:G Env) (s:À) (H:Hp) (vs:G V) (Q:VK) (E:XK),jk k (A.deeper (envOfC qual (aa st) %[s|99] f cdv))->sp vs H Q E →
   ∃ t,PSs (Ai cb CX P w K mg base N qual (aa st) f cdv A outer s H E) (dI st) t/\t { nx:=λ _ H'=>Q .non H',rt:=Q } (av N vs) H):lu cb P w K mg base CX (k+1) f fd ps sp:=by
 let(oc,od,dV,kV,doc,pm,an,cdv,ct,osl,rfl,lk,aS):=F.ex;exact OE lk aS S len λ A outer s H vs Q E hr aX=>af cdv A outer s H vs Q E hr aX
def M9{st:Stmt}{oc:O}{od an:Ü Z}{osl:Array (Ü O)}{dV kV doc pm cdv ct:O}(l:K.lookup f=U {oc,od,.func (W.fnOf x qual (fv st) (dI st) (aa st) dV kV doc pm an cdv ct),osl})
  (c:W.codeIn K cdv qual=Y) (k:W.keepIn K (.ref f)=Y):NR K x qual st f (W.fnOf x qual (fv st) (dI st) (aa st) dV kV doc pm an cdv ct):={⟨oc,od,dV,kV,doc,pm,an,cdv,ct,osl,J,l,c⟩,k}
end
open PySem.W
structure Af(K:Æ)(C:Z):Prop where
 ga:Ó K (.ref C) "__getattribute__"=U (U (.builtin "BaseException.__getattribute__"))
 no:Ó K (.ref C) "__getattr__"=U L
 mb:Û K C (.type "BaseException")=U Y
 mo:Û K C (.type "object")=U Y
 cl:Ó K (.ref C) "__class__"=U (U (.builtin "object.__class__"))
 sp:W.specialIn K (.builtin "object.__class__") "__get__"=U (U (.builtin "getset_descriptor.__get__"))
 tk:W.takesIn K (.builtin "object.__class__")=U Y
 hd:Ö K C=Y
section
variable {K:PySem.W.Frag}{x:Z}{ox:Obj}{od:Ü Obj}{name:Ç}
theorem sW{nameV:O}{Q:Unit->À->Prop}(c:Af K C)(X:K.In s.heap)(I:InstAt s.heap x ox C od)(hq:Q () s):Ä M A (checkBuiltinCall "BaseException.__getattribute__" ⟨[.ref x,nameV],[]⟩) Q E s:=by
 let hk:builtinKind "BaseException.__getattribute__"=U .slot:=by decide +kernel
 let af:splitId "BaseException.__getattribute__"=U ("BaseException", "__getattribute__"):=by decide +kernel
 let ha:=F.args_bexc_ga (.ref x) nameV;let L0:=I.type (M:=M);let L1:=looks_mroIn (M:=M) X c.mb;let(hh,g,d,t,os):=s;simp only[checkBuiltinCall,hk,af];let LI:Looks M hh (isInstance (.ref x) (.type "BaseException")) Y:=L0.andThen L1;refine My (LI.at ?_)
 first|exact hq|exact VC hq|(simp only[Bool.not_true,WQ,XU];exact hq)
def UO(M:Model)(A:Î)(P:O->À->Prop)(fin:PySem.Fin)(s:À):Prop:=match fin with
 | .done (.ret v)=>P v s
 | .again c=>c.quiet=Y/\codeAny M A c (λ r s'=>match r with | .ok (.ret v)=>P v s'|_=>False) s
 | _=>False
theorem Ie{Q:Ü O->À->Prop}(c:Af K C)(X:K.In s.heap)(I:InstAt s.heap x ox C od)
  (h:∀ A':Î,Ä (É prog w) A' (Builtin.«object.__getattribute__» ⟨[.ref x,.str name s.toks],[]⟩) (UO (É prog w) A λ v s'=>Ä (É prog w) A (handedOut v) (λ v af=>Q (U v) af) (λ _ _=>False) s') (λ _ _=>False) { s with toks:=s.toks+1 }) :
  Ä (É prog w) A (getAttr? (.ref x) name) Q E s:=by
 let(hh,g,d,t,os):=s;let L0:=I.type (M:=É prog w);let L1:=looks_findIn (M:=É prog w) X c.ga;let L2:=looks_findIn (M:=É prog w) X c.no;unfold getAttr? getAttrBy? getAttrBy;refine wpAny_bind (wpAny_mkText (wpAny_bind (wpAny_attempt (wpAny_holding (wpAny_bind (L0.at (wpAny_bind (L1.at ?_))))))))
 show Ä _ _ (getAttrByItsOwn _ _ _ _ _ _) _ _ _
 unfold getAttrByItsOwn
 show Ä _ _ (do let before ←typeLookup (.ref C) "__getattr__";_) _ _ _
 refine wpAny_bind (L2.at (wpAny_bind (wpAny_attempt (wpAny_holding ?_))));unfold callGetattribute;rw[if_neg (by simp)];unfold boundAndCalled;rw[F.attr_ValueError.ga.bind (.ref x)];refine wpAny_bind (wpAny_pure (wpAny_call (codeAny_call_builtin F.attr_ValueError.ga.plain F.entry_bexc_ga (sW c X I ?_))));let aS:∀ v s',Ä (É prog w) A (handedOut v) (λ v af=>Q (U v) af) (λ _ _=>False) s'->Ä (É prog w) A (handedOut v) (λ a s'=>Ä (É prog w) A (pure (U a)) Q E s') (λ e s'=>Ä (É prog w) A (do if ←isInstance e (.type "AttributeError") then pure L else throw e) Q E s') s':=λ v s' z=>wpAny_mono z (λ _ _ q=>wpAny_pure q) λ _ _ q=>q.elim;refine wpAny_mono (h _) (λ fin s' z=>?_) λ _ _ z=>z.elim
 cases fin with
 | done f=>cases f with
  | ret v=>exact aS v s' z
  | _=>exact z.elim
 | again c'=>
  let(z1,z2):=z;refine{z1,Xi z2 λ r af q=>?_}
  cases r with
  | error e=>exact q.elim
  | ok f=>cases f with
   | ret v=>exact aS v af q
   | _=>exact q.elim
theorem rE{a g:O}(hc:(clsIn K C).isSome=Y)(ha:findIn K (.ref C) name=U (U a))(hg:specialIn K a "__get__"=U (U g))(ht:takesIn K a=U Y):findObj K C od name=U (.bind g a):=by
 let(cd,hc):=Option.isSome_iff_exists.mp hc;unfold findObj;rw[hc,Option.bind_some,ha,Option.bind_some];simp[hg,ht]
theorem Af.some(c:Af K C):(clsIn K C).isSome=Y:=by
 let(cd,hc,_):=any_some c.hd;rw[hc];rfl
theorem Ew{Q:Ü O->À->Prop}(c:Af K C)(X:K.In s.heap)(I:InstAt s.heap x ox C od)(hq:Q (U (.ref C)) { s with toks:=s.toks+1 }):Ä (É prog w) A (getAttr? (.ref x) "__class__") Q E s:=by
 let hf:findObj K C od "__class__"=U (.bind (.builtin "getset_descriptor.__get__") (.builtin "object.__class__")):=rE c.some c.cl c.sp c.tk;refine Ie c X I λ A'=>?_;let L0:=I.type (M:=É prog w);let L1:=looks_find (M:=É prog w) X I hf;let cg:∀ {A:Î} {R:Result->À->Prop},R (.ok (.ret (.ref C))) { s with toks:=s.toks+1 }->codeAny (É prog w) A (.call (.builtin "getset_descriptor.__get__") {[.builtin "object.__class__",.ref x,.ref C],[]}) R { s with toks:=s.toks+1 }:=λ h=>class_get (s:={ s with toks:=s.toks+1 }) (ox:=ox) (od:=od) X I c.mo h;let(hh,gg,d,t,os):=s;refine My (VC (My (VC (My (L0.at (My (L1.at ?_)))))))
 show Ä _ _ (do ret (←holding [.builtin "object.__class__"] (call (.builtin "getset_descriptor.__get__") [.builtin "object.__class__",.ref x,.ref C]))) _ _ _
 exact My (Wh (X7 (cg (VC (show UO _ _ _ (.done (.ret (.ref C))) _ from handed_on J hq)))))
theorem xy(c:Af K C):KitX K (.ref x) (.ref C) (λ h=>InstAt h x ox C od) where
 ty:=λ _ _ _ I=>I.type
 it:=λ _ _ X _=>by
  let(aS,af,_):=any_some c.hd;unfold clsIn at af;split at af
  ·rename_i c' d' aX a3 ho;intro A' Q' E' s' k q;unfold isType loadHead;exact wpAny_bind (wpAny_loadPart (k _ _ (X _ _ ho)) (wpAny_pure q))
  ·cases af
 ne:=λ h tp dd its n sl X a4=>by
  let(aS,af,_):=any_some c.hd;refine Bool.eq_false_iff.mpr λ q=>?_;let e:C=tp:=Value.ref.inj (beq_iff_eq.mp q);subst e;unfold clsIn at af;split at af
  ·rename_i c' d' aX a3 ho;let z:=(X _ _ ho).symm.trans a4;cases z
  ·cases af
 ca:=λ X I k=>Ew c X I k
end
def nW(oe:Obj):HO:=.frz oe (.ext λ _=>True)
structure oi(X:Cx)(pins:G (Z × Obj))(e:Z):Prop where
 s0:X.s₀.heap.get? e=L
 loc:e≠X.env.locals
 cel:∀ x c,X.env.cells.lookup x=U c->c≠e
 fs:e ∉ X.fs
 pin:∀ p∈X.pn++pins,p.1≠e
theorem oi.of(I:Inv X pins σ H s)(hx:X.ex=[])(h:s.heap.get? e=L):oi X pins e where
 s0:=by
  cases q:X.s₀.heap.get? e with
  | none=>rfl
  | some o=>
   let(o',z):=I.base.there e o q (by rw[hx];simp);rw[h] at z;cases z
 loc:=λ z=>by
  let(m,(o,_,_,q,_),_):=I.loc;rw[←z,h] at q;cases q
 cel:=λ x c q z=>by
  let(v,o,r,_):=I.cell x c q;rw[z,h] at r;cases r
 fs:=λ z=>by
  let(_,o,q,_):=I.funs.mem z;rw[h] at q;cases q
 pin:=λ p hp z=>by
  let q:=(I.pin p hp).1;rw[z,h] at q;cases q
theorem Inv.track(I:Inv X pins σ H s)(N:oi X pins e)(he:s.heap.get? e=U oe)(hn:H e=L):Inv X pins σ (upd H e (nW oe)) s:=by
 let ne:∀ {b:Z} {o:HO},H b=U o->b≠e:=λ q z=>by rw[z,hn] at q;cases q
 refine{I.ok,I.os,I.bare,{I.base.keep,I.base.slot,λ b o q n hx=>?_,I.base.there,λ b xs q=>?_,λ b o u q=>?_,λ b ps q=>?_},I.loc,I.cell,?_,λ x c q=>?_,λ p hp=>?_,λ b o q=>?_,I.len}
 ·rw[ag (λ z=>by rw[z,N.s0] at q;cases q)];exact I.base.free b o q n hx
 ·let z:=I.base.tups b xs q;rw[ag (ne z)];exact z
 ·let z:=I.base.frzs b o u q;rw[ag (ne z)];exact z
 ·let(m,z):=I.base.tbls b ps q;exact{m,by rw[ag (ne z)];exact z}
 ·rw[ag (VL N.loc)];exact I.free
 ·rw[ag (N.cel x c q)];exact I.freeC x c q
 ·let(a,b,c,d,f):=I.pin p hp;exact{a,by rw[ag (N.pin p hp)];exact b,c,d,f}
 ·by_cases hb:b=e
  ·subst hb;rw[aj] at q;cases q;exact{he,trivial,{(oe),he},λ _ _ _ _=>trivial}
  ·rw[ag hb] at q;exact(I.hok b o q).stay (λ _ _ _ r=>r) (λ c r=>by rw[ag (ne r)];exact r) (λ c y r=>by rw[ag (ne r)];exact r) λ c xs r=>by rw[ag (ne r)];exact r
def PHs(X:Cx)(hs:G ExceptHandler)(th:O->Ü Z->TS):Prop:=
 ∀ (pins:G (Z × Obj)) (s:À) (σ:St) (H:Hp) (D:iG) (e T:Z) (cls:O) (d:Ü Z),Inv X pins σ H s->oi X pins e->H e=L->rQ s.heap e cls d T->th cls d D σ H->Ä (É X.prog X.w) X.A (handleBy (.ref e) X.env hs) (SP X pins D) X.xe s
theorem Na{Q:Unit->À->Prop}(x:rQ s.heap e cls d T)(hQ:∀ h',(∀ b o,s.heap.get? b=U o->h'.get? b=U o)->Q () { s with heap:=h' }) :
  Ä M A (setFlight (.ref e) L) Q E s:=by
 let(oe,vs,oT,ts,he,rfl,rfl,hd,h1,ne,hT,af,h3,aX):=x;unfold setFlight;refine wpAny_bind (wpAny_field he hd h1 ?_);rw[if_pos (show (Ê T != Ñ)=Y from by simp)];refine wpAny_setField hT af (Array.getElem?_eq_some_iff.mp h3).1 (hQ _ λ b o q=>?_)
 by_cases hb:b=T
 ·subst hb;rw[hT] at q;cases q
  let same:Obj.mapFields (·.setIfInBounds 3 ((L:Ü Z).elim Ñ λ f=>rawInt f)) oT=oT:=by
   let(c,d,dat,sl):=oT;cases af
   let e3:ts.setIfInBounds 3 ((L:Ü Z).elim Ñ λ f=>rawInt f)=ts:=by
    apply Array.ext_getElem?;intro i
    by_cases hi:i=3
    ·subst hi;let(aS,hv):=WG.mp h3;simp[Array.getElem?_setIfInBounds,aS,hv]
    ·rw[Zh (VL hi)]
   show ({c,d,.fields (ts.setIfInBounds 3 ((L:Ü Z).elim Ñ λ f=>rawInt f)),sl}:Obj)=_
   rw[e3]
  have:=VZ (Obj.mapFields (·.setIfInBounds 3 ((L:Ü Z).elim Ñ λ f=>rawInt f))) hT (W0 (Xj af _));rw[same] at this;exact this
 ·rw[V4 _ _ (VL hb)];exact q
def Sk:O->Ü Z->TS:=λ _ _ _ _ _=>False
def By:PHs X [] Sk:=λ _ _ _ _ _ _ _ _ _ _ _ _ _ h=>h.elim
theorem SP.unmark{D:iG}{f:Flow}{s2:À}(ok:X.Ok)(h0:X.s₀.heap.get? e=L)(hh:∀ o:HO,X.H₀ e=U o->(∀ xs,o ≠ .tup xs)/\(∀ ob u,o ≠ .frz ob u)/\∀ ps,o ≠ .tbl ps)(q:SP (X.mark e (upd X.H₀ e o)) pins D f s2):SP X pins D f s2:=by
 cases f with
 | next=>let(σ',H',ww,q):=q;exact{σ',H',ww.unmark ok h0 hh,q}
 | brk=>let(σ',H',ww,q):=q;exact{σ',H',ww.unmark ok h0 hh,q}
 | cont=>let(σ',H',ww,q):=q;exact{σ',H',ww.unmark ok h0 hh,q}
 | ret u=>let(v,σ',H',ww,r,q):=q;exact{v,σ',H',ww.unmark ok h0 hh,r,q}
theorem QV(ex:rQ h e cls d T):W.Looks M h (typeOf (.ref e)) cls:=by
 let(oe,vs,oT,ts,he,rfl,_):=ex;exact(W.Looks.ld he).andThen .now
def Sd(i:à):St->Hp->(St->Hp->Prop)->Prop:=λ σ H Q=>Q (σ.set i L) H
def JD(i:à)(nx:St->Hp->Prop):St->Hp->Prop:=λ σ H=>Sd i σ H nx
def iG.del(i:à)(D:iG):iG:={JD i D.nx,D.rt,JD i D.bk,JD i D.ct}
theorem qd{i:à}{Q:Unit->À->Prop}(I:Inv X pins σ H s)(hi:X.N[i]? = U x)(hk:X.env.scope.names.lookup x=U .local)(hN:X.N.Nodup)
  (h:∀ s',Inv X pins (σ.set i L) H s'->Q () s'):Ä M A (do bindName X.env x .none;unbindBehindTheSuite X.env x pos) Q E s:=by
 let(m,hn,hl):=id I.loc;let af:(X.env.scope.kind == .class || (X.env.scope.kind == .module && X.env.locals != X.env.globals))=Á:=by rw[I.ok.kind];rfl
 let cne:=I.cne;refine PySem.wpAny_nameGoes_keeps hk hn af λ h' v aS hs=>?_;let(oL,_,_,aX,_):=id hn;refine h _ {I.ok,I.os,I.bare,{λ b o e n hb hx=>?_,λ b o e n hb hx=>?_,I.base.free,λ b o e hx=>?_,I.base.tups,I.base.frzs,I.base.tbls},{_,aS,λ j y v' e1 e2 e3=>?_},λ y c e=>?_,I.free,I.freeC,λ p hp=>?_,λ b ob e=>?_,by simpa using I.len}
 ·exact(hs.2 b (VQ (VR (VE e) I.ok.above))).trans (I.base.keep b o e n hb hx)
 ·let(sl,e1):=I.base.slot b o e n hb hx;exact{sl,(hs.2 b (VQ (VR (VE e) I.ok.above))).trans e1}
 ·let(o',e1):=I.base.there b o e hx;exact{o',(hs.2 b (VQ (VR (VE e) I.ok.above))).trans e1}
 ·let hj:j≠i:=by
   rintro rfl
   by_cases hlt:j<σ.length
   ·rw[YI hlt] at e2;cases e2
   ·rw[WT (by simpa using YD hlt)] at e2;cases e2
  rw[Yg (VL hj)] at e2;let(u',r',q):=hl j y v' e1 e2 e3;refine{u',r',?_}
  rcases q with ⟨k,e⟩|⟨k,c,e,z⟩
  ·refine .inl {k,?_};have:y≠x:=λ e=>hj (qH hN e1 (e ▸ hi));simp[this,e]
  ·exact .inr {k,c,e,z.sameBut hs (cne y c e)}
 ·let(w',z):=I.cell y c e;exact{w',z.sameBut hs (cne y c e)}
 ·let(e,n,ne,nf,d):=I.pin p hp;exact{(hs.2 p.1 ne).trans e,n,ne,nf,d}
 ·refine(I.hok b ob e).stay (λ c w' hc q=>(hs.2 c ?_).trans q) (λ _ q=>q) (λ _ _ q=>q) λ _ _ q=>q;rintro rfl
  rcases hc with rfl|hc
  ·rw[I.free] at e;cases e
  ·rw[I.free] at hc;cases hc
def TV(tb:(St->XK)->TS)(th:O->Ü Z->TS):TS:=λ D σ H=>tb (λ σ' cls d H'=>th cls d D σ' H') D σ H
abbrev Cx.tried(X:Cx)(E:O->À->Prop)(pn:G (Z × Obj)):Cx:={ X with xe:=E,pn:=pn }
theorem OW{body:G Stmt}{h₀:ExceptHandler}{hs:G ExceptHandler}{tb:(St->XK)->TS}{th:O->Ü Z->TS}(af:X.stack=X.env::X.outer/\X.env.frame=U X.env.locals/\X.ex=[])
  (hb:∀ (EX:St->XK) (E:O->À->Prop) (pn:G (Z × Obj)),(∀ σ,Bd (CX1 X.prog X.w) (X.tried E pn) (EX σ) σ)->PSs (X.tried E pn) body (tb EX)) (hh:PHs X (h₀::hs) th) :
  PS X (.Try body (h₀::hs) [] [] pos) (TV tb th):=by
 intro pins s σ H D I h;refine PySem.wpAny_Try_except ?_;let a3:∀ E pn,(X.tried E pn).Ok:=λ E pn=>{(I.ok.mod),I.ok.kind,I.ok.glob,I.ok.blt,I.ok.above,I.ok.inj,I.ok.has,I.ok.cab,I.ok.hd,I.ok.sf,I.ok.frames,I.ok.stk,I.ok.exf,I.ok.bs,I.ok.bsz,I.ok.noex,I.ok.exfs,I.ok.funs,I.ok.frf}
 let back:∀ {E:O->À->Prop} {aS:G (Z × Obj)} {σ':St} {H':Hp} {s':À},Inv (X.tried E (X.pn++pins)) aS σ' H' s'->Inv X pins σ' H' s':=λ {E aS σ' H' s'} ww=>
  ⟨I.ok,ww.os,ww.bare,ww.base,ww.loc,ww.cell,ww.free,ww.freeC,λ p hp=>ww.pin p (Xc _ hp),ww.hok,ww.len⟩
 let I0:∀ E,Inv (X.tried E (X.pn++pins)) [] σ H s:=λ E=>{a3 E _,I.os,I.bare,I.base,I.loc,I.cell,I.free,I.freeC,λ p hp=>I.pin p (by simpa using hp),I.hok,I.len};refine thn (hb (λ σ' cls d H'=>th cls d D σ' H') _ (X.pn++pins) ?_ [] s σ H D (I0 _) h) λ f s1 q=>?_
 ·intro σ1 a4 H1 s1 ev s2 I1 hc;let(e,T,cls,dd,H',rfl,os,bare,aX,hok,ne,nT,He,HT,ex,a6,hE):=hc;let I2:=I1.call' (ch:=[]) os aX hok bare (λ b z=>Þ z (by simp))
  let nf:∀ b,s1.heap.get? b=L->b ∉ frs (X.env::X.outer):=λ b hb z=>by
   let st:=I1.stack;let a5:s1.heap.FunFrames X.base (X.env::X.outer):=by rw[←af.1];exact st
   let(_,o,q,_):=a5.mem z;rw[hb] at q;cases q
  let nb:X.base.get? T=L:=by
   cases q:X.base.get? T with
   | none=>rfl
   | some o=>
    have:=I1.bk T o q;rw[nT] at this;cases this
  let fl:s2.heap.FunFrames X.base (X.env::X.outer):=by rw[←af.1];exact I2.stack
  let fr:X.A.frames=U (X.env::X.outer):=by rw[←af.1];exact I.ok.frames
  refine mR (base:=X.base) (outer:=X.outer) fr fl af.2.1 ex (nf e ne) (nf T nT) nb λ g T' ng a7 ex'=>?_;let fs:∀ b∈frs (X.env::X.outer),b∈frs X.stack:=λ b hb=>by rw[af.1];exact hb
  let I3:=I1.call' (s':={ s2 with heap:=g }) (ch:=[]) os (aX.noted ng ne (λ b z=>by rw[z];exact nT) λ b hb=>.inl (fs b hb)) (hok.noted ng He (λ b z=>by rw[z];exact HT) λ b hb=>I2.stkFree b (fs b hb)) bare (λ b z=>Þ z (by simp));exact hh pins _ σ1 H' D e T' cls dd (back I3) (oi.of (back I1) af.2.2 ne) He ex' hE
 ·cases f with
  | next=>let(σ',H',ww,q):=q;exact Yx {σ',H',back ww,q}
  | brk=>let(σ',H',ww,q):=q;exact{σ',H',back ww,q}
  | cont=>let(σ',H',ww,q):=q;exact{σ',H',back ww,q}
  | ret u=>let(v,σ',H',ww,r,q):=q;exact{v,σ',H',back ww,r,q}
def kXd:HO->Prop:=λ o=>match o with
 | .xd _=>True
 | _=>False
def lq(H:Hp):Ü Z->Prop
 | none=>True
 | some dx=>∃ o,H dx=U o/\kXd o
theorem EF:cn X (.builtin "isinstance") (λ xs H Q=>∃ e oe C D b,xs=[.ref e,D]/\(∃ u,H e=U (.frz oe u))/\oe.cls=.ref C/\lq H oe.dict/\(∃ vs,oe.data=.fields vs)/\Af X.K C/\(∃ u,b9 D u/\Ô X.K (.ref C) u=U b)/\Q (.bl b) H):=by
 intro pins s σ H xs us Q I r h;let(e,oe,C,D,b,rfl,(uu,hH),hc,hd,(vs,hv),ec,(u,ru,hk),q):=h;let(u1,u2,rfl,r1,r2):=E8 r;cases (show u1=Ê e from r1)
 let hu:u2=u:=by
  cases D with
  | ref a=>exact(show u2=Ê a from r2).trans (show u=Ê a from ru).symm
  | ty n=>exact(show u2=Ø n from r2).trans (show u=Ø n from ru).symm
  | non=>exact(show u2=Ñ from r2).trans (show u=Ñ from ru).symm
  | bl b'=>exact(show u2=Value.bool b' from r2).trans (show u=Value.bool b' from ru).symm
  | int i=>let(t,rfl):=ru;simp[Ô,W.kitCls] at hk
  | str i=>let(t,rfl):=ru;simp[Ô,W.kitCls] at hk
  | byt i=>let(t,rfl):=ru;simp[Ô,W.kitCls] at hk
  | flt i=>let(t,rfl):=ru;simp[Ô,W.kitCls] at hk
 subst hu;let(he,_):=(show bE X.prog X.w H s.heap e (.frz oe uu) from I.hok e _ hH);let af:W.notCls oe=Y:=by unfold W.notCls;rw[hv]
 cases q0:oe.dict with
 | none=>
  let ww:W.InstAt s.heap e oe C L:={he,hc,af,by rw[q0];trivial};exact XE (xy ec) I.kIn ww hk (λ z=>nomatch z) λ tk=>{.bl b,H,I.tok _,J,q}
 | some dx=>
  rw[q0] at hd;let(o,ho,hx):=hd
  cases o with
  | xd fs=>
   let(mA,hn,_):=I.hok dx _ ho;let(oD,aS,_):=mU hn;let ww:W.InstAt s.heap e oe C (U oD):={he,hc,af,by rw[q0];exact aS};exact XE (xy ec) I.kIn ww hk (λ z=>nomatch z) λ tk=>{.bl b,H,I.tok _,J,q}
  | _=>exact hx.elim
def A9(K:Frag)(C fI:Z)(bmB:G O)(newId:String):Ý:=AW K C (U (.ref fI)) bmB newId
section
variable {R:Result->À->Prop}{g:Array GenState}{d:Drawn}{t:à}{os:OsState}{K:Frag}
variable {nm q:Ç}{N fI:Z}{bs bm bmB:G O}{hdct:Ý}{sn:G Ç}{sub:G O}{ab:Ý}{col:Ü Ý}{dd:Ü Z}{k0 k1 k2 k3 k5:Ü O}{xL Bn newId nid initId inN:String}{bmN:G O}
abbrev oa(C:Z)(dQ:G O)(h:Í):Í:=(h.push { cls:=.type "tuple",data:=.seq dQ.toArray }).push { cls:=.ref C,data:=.fields #[.ref h.objs.size,.none,.none,.none,.bool Á,.none] }
theorem Nc(Fn:ExcBaseFacts Bn newId inN bmN)(aS:bmB.contains (.type Bn)=Y)(F:ExcBaseFacts xL nid initId bmB)(T:OwnTail h bmB bm){mN:Ç->Ü O}{dQ:G O}
  (hC:h.get? C=U (excClassObj nm q C N bs bm hdct sn sub ab col dd k0 k1 k2 k3 k5 newId)) (hn:h.Ns N mN) (a3:mN "__init__"=U (.ref fI)) (X:K.In h) (hf:typeIn K (.ref fI)=U (.type "function")) (af:dQ.length<=Å)
  (hq:codeAny (É prog w) (A.under (.builtin "type.__call__" ⟨.ref C::dQ,[]⟩)) (.call (.ref fI) {.ref (h.objs.size+1)::dQ,[]}) (InitBack (h.objs.size+1) R) {oa C dQ h,g,d,t,os}) :
  codeAny (É prog w) A (.call (.ref C) {dQ,[]}) R {(h),g,d,t,os}:=by
 let f1:=tc_lookup;let f2:=tc_bind (.ref C);let hT:({(h),g,d,t,os}:À).TypeIs (.ref C) "type":={_,hC,J};refine codeAny_of_tree ?_
 show Ä _ _ (callAny (.ref C) _) _ _ _
 repeat (any_goals (first|assumption|with_reducible refine XI hC ?_|wp_step))
 refine{J,?_};refine codeAny_call_builtin_at (Code.quiet_builtin _ (by decide +kernel)) entry_typeCall (wpAny_check_type_call_sub hC ?_)
 repeat (first|with_reducible refine XI hC ?_|with_reducible refine wpAny_madeBy_exc hC ?_|wp_step)
 refine codeAny_call_builtin_code (Code.quiet_builtin _ Fn.quiet) (wpAny_check_new_subU Fn aS T hC (codeAny_exc_new_subU Fn aS F T hC ?_ af))
 show Ä _ _ _ _ _ _
 let kp:∀ b o,h.get? b=U o->(oa C dQ h).get? b=U o:=λ b o e=>Heap.get?_push_of_some _ (Heap.get?_push_of_some _ e);let aX:=kp _ _ hC;let a4:(oa C dQ h).Ns N mN:=let {(o),es,ep,e,r}:=hn;⟨o,es,ep,kp _ _ e,r⟩;let hg:(oa C dQ h).get? (h.objs.size+1)=U { cls:=.ref C,data:=.fields #[.ref h.objs.size,.none,.none,.none,.bool Á,.none] }:=by unfold oa;heap_get
 let a5:(Ê C::bm).contains (.ref C)=Y:=by simp
 let T1:=T.keeps (h':=oa C dQ h) kp;let X1:K.In (oa C dQ h):=λ b o e=>kp b o (X b o e);unfold isInstance
 repeat (first|with_reducible refine XI hg ?_|wp_step)
 show Ä _ _ (isSubtype (.ref C) (.ref C)) _ _ {oa C dQ h,g,d,t,os}
 refine wpAny_isSubtype_exc aX ?_;rw[a5]
 repeat (first|with_reducible refine XI hg ?_|wp_step)
 show Ä _ _ (typeLookup (.ref C) _) _ _ _
 refine wpAny_typeLookup_tail aX a4 T1 F.mroIs F.init.lookup ?_;rw[a3];refine Wh (My ((bind_fn X1 _ hf).at ?_));refine My (X7 (Xi hq λ r s' z=>?_))
 cases r with
 | error e=>exact z
 | ok f=>
  cases f with
  | ret v=>let(rfl,y):=z;exact VC (VC y)
  | next=>exact z.elim
  | brk=>exact z.elim
  | cont=>exact z.elim
end
def qK:G O->G O
 | .ref _::r=>qK r
 | l=>l
theorem nj(self:O):∀ l:G O,refuseLoop self "__setattr__" l=refuseLoop self "__setattr__" (qK l)
 | []=>rfl
 | v::r=>by
  cases v with
  | ref c=>rw[refuseLoop_ref];exact nj self r
  | _=>rfl
def BE(l:G O):Ý:=qK l == [.type "ValueError",.type "Exception",.type "BaseException",.type "object"]
theorem yz(self:O){l:G O}(e:BE l=Y):refuseLoop self "__setattr__" l=pure ():=by
 rw[nj,W5.mp e];exact PySem.F.store_ValueError.passes self
def qg(K:Frag)(C:Z):Ý:=(clsIn K C).any λ cd=>BE cd.mro && cd.mro.contains (.type "object")
structure rZ(K:Frag)(C:Z):Prop where
 ov:qg K C=Y
 sa:findIn K (.ref C) "__setattr__"=U (U (.builtin "object.__setattr__"))
 hd:hasDictIn K C=Y
section
variable {K:Frag}{x:Z}{name:Ç}{v:O}
theorem xr{ox:Obj}{od:Ü Obj}{tk:Tok}{R:Result->À->Prop}(X:K.In s.heap)(I:InstAt s.heap x ox C od)(hp:qg K C=Y)(ht:takerIn K C name=U L)
  (h:∀ b,Ä (É prog w) A.in1 (Builtin.ObjectAttr.storeInOwnDict (.ref x) (.ref C) (.str name tk) name v b) (λ fin s'=>match fin with | .done f=>R (.ok f) s' | .again c'=>c'.quiet=Y/\codeAny (É prog w) A c' R s') (λ e s'=>R (.error e) s') s) :
  codeAny (É prog w) A (.call (.builtin "object.__setattr__") {[.ref x,.str name tk,v],[]}) R s:=by
 let sf:=PySem.F.store_object;let(dat,aS,af):=any_some hp;rw[Xt] at af
 let emp:dat.mro.isEmpty=Á:=by cases q:dat.mro with|nil=>rw[q] at af;cases af.2|cons _ _=>rfl
 let Oz:Looks (É prog w) s.heap (isInstance (.ref x) (.type "object")) Y:=I.type.andThen (looks_mroIn X (by unfold mroIn;rw[aS,Option.bind_some,if_neg (by rw[emp];decide),af.2]));refine codeAny_call_builtin sf.slot.plain sf.entry (@check_slot (É prog w) _ _ s "object.__setattr__" "object" "__setattr__" (.ref x) [.str name tk,v] [] _ sf.kind sf.split Oz (sf.args (.ref x) (.str name tk) v) ?_);let(on,aX,hr):=Option.bind_eq_some_iff.mp ht;let lm:Looks (É prog w) s.heap (mroOf (.ref C)) dat.mro:=(looks_clsIn X aS).andThen .now
 let lt:Looks (É prog w) s.heap (Builtin.ObjectAttr.storeTaker? on) L:=by
  cases on with
  | none=>exact .now
  | some a=>
   let(b,hb,hz):=VH.mp hr;refine(looks_takesIn X hb).andThen ?_;cases b
   ·exact .now
   ·cases hz
 rw[osa_eq,refuse_eq];refine My (My (I.type.here (My (lm.here (by rw[yz _ af.1];refine VC (My (I.type.here (My ((Za X aX).here (My (lt.here (h _))))))))))))
theorem KD{vs:Array O}{sl:Array (Ü O)}{Q:Unit->À->Prop}(c:rZ K C)(X:K.In s.heap)(hx:s.heap.get? x=U {.ref C,L,.fields vs,sl})(ht:takerIn K C name=U L)
  (h:∀ h' tk,h'.get? x=U {.ref C,U %[s|99],.fields vs,sl}->h'.Ns1 %[s|99] (λ y=>if y=name then U v else L)->(∀ b o,b≠x->s.heap.get? b=U o->h'.get? b=U o)->Q () { s with heap:=h',toks:=tk }) :
  Ä (É prog w) A (setAttr (.ref x) name v) Q E s:=by
 let I:InstAt s.heap x {.ref C,L,.fields vs,sl} C L:={(hx),J,J,trivial};refine set_plain X I c.sa (xr (s:={ s with toks:=s.toks+1 }) X I c.ov ht λ b=>?_);let(cd,hc,aX):=any_some c.hd;let af:x≠%[s|99]:=VQ (VE hx);let aS:(s.heap.push { cls:=.type "dict",data:=.dict #[] }).get? x=U {.ref C,L,.fields vs,sl}:=Vz _ hx;refine My (VC (My (My (Zi hx ?_))))
 show Ä _ _ (do if !(←classData C).hasDict then pure L else _) _ _ _
 refine My (Looks.here (s:={ s with toks:=s.toks+1 }) (looks_clsIn X hc) ?_);rw[aX,VY (by decide)]
 show Ä _ _ (do let d ←alloc { cls:=.type "dict",data:=.dict #[] };update x λ o=>{ o with dict:=U d };dictMade (.ref C) x d) _ _ _
 refine My (wpAny_alloc (My (wpAny_update aS (VC (a:=U %[s|99]) ?_))));generalize hg:(s.heap.push { cls:=.type "dict",data:=.dict #[] }).update x (λ o=>{ o with dict:=U %[s|99] })=g0;let gx:g0.get? x=U {.ref C,U %[s|99],.fields vs,sl}:=by rw[←hg];exact VZ _ aS J
 let gd:g0.get? %[s|99]=U { cls:=.type "dict",data:=.dict #[] }:=by rw[←hg];exact(Heap.get?_update_ne _ _ _ _ af.symm).trans (Heap.get?_push_at J J)
 let gk:∀ b o,b≠x->s.heap.get? b=U o->g0.get? b=U o:=λ b o hb e=>by rw[←hg];exact(Heap.get?_update_ne _ _ _ _ hb).trans (Vz _ e)
 let gn:g0.Ns %[s|99] (λ _=>L):={_,#[],_,gd,J,λ e he=>Þ he (by simp),λ _=>J}
 show Ä _ _ (Builtin.ObjectAttr.storeInDict %[s|99] (.str name s.toks) name v) _ _ _
 unfold Builtin.ObjectAttr.storeInDict Builtin.ObjectAttr.newKeyGuard;refine wpAny_bind (wpAny_pure (wpAny_bind (wpAny_nsSet1 (Heap.Ns1.of_empty gn) λ h2 n2 s2=>?_)));let(oD,eD,pD,q1,q2,q3):=n2.count (Within.cons name v Within.nil);refine wpAny_bind (wpAny_lookBehind q1 (by rw[q2];exact pastItsLine_dict (Nat.le_trans q3 (by rw[length_cons,length_nil,sizeLine_eq];omega))) ?_);exact wpAny_pure (h h2 _ ((s2.2 x af).trans gx) n2 λ b o hb e=>(s2.2 b (Nat.ne_of_lt (Heap.lt_size e))).trans (gk b o hb e))
end
section
variable {K:PySem.W.Frag}{x dx:Z}{ox:Obj}{od:Ü Obj}{name:Ç}{mA:Ç->Ü O}
theorem Nd{expr:Ý}{Q:O->À->Prop}(c:Af K C)(X:K.In s.heap)(hx:s.heap.get? x=U ox)(af:ox.cls=.ref C)(aS:notCls ox=Y)(hd:ox.dict=U dx)(hn:s.heap.Ns1 dx mA)(ha:cq K C name)(hv:mA name=U u)(hh:handedIn u=Y)
  (h:Q u { s with toks:=s.toks+1 }):Ä (É prog w) A (getAttr (.ref x) name expr) Q E s:=by
 let(oD,ho,hl):=mU hn;let I:InstAt s.heap x ox C (U oD):={hx,af,aS,by rw[hd];exact ho};let hf:findObj K C (U oD) name=U (.value u):=findObj_own c.hd ha J (by rw[hl,hv]);let L0:=I.type (M:=É prog w);let L1:=looks_findIn (M:=É prog w) X c.ga;let L2:=looks_findIn (M:=É prog w) X c.no;let L3:=looks_find (M:=É prog w) X I hf;let ck:=λ {M:Model} {A:Î} {E:O->À->Prop} {Q:Unit->À->Prop} (q:Q () { s with toks:=s.toks+1 })=>sW (M:=M) (A:=A) (E:=E) (nameV:=.str name s.toks) (s:={ s with toks:=s.toks+1 }) c X I q;let(hp,g,d,t,os):=s;unfold getAttr getAttrBy;refine wpAny_bind (wpAny_mkText (wpAny_holding (wpAny_bind (L0.at (wpAny_bind (L1.at ?_))))))
 show Ä _ _ (getAttrByItsOwn _ _ _ _ _ _) _ _ _
 unfold getAttrByItsOwn
 show Ä _ _ (do let before ←typeLookup (.ref C) "__getattr__";_) _ _ _
 refine wpAny_bind (L2.at (wpAny_bind (wpAny_attempt (wpAny_holding ?_))));unfold callGetattribute;rw[show (expr && onTheHeap (Value.builtin "BaseException.__getattribute__"))=Á from Bool.and_false _,if_neg (by decide)];unfold boundAndCalled;rw[F.attr_ValueError.ga.bind (.ref x)];refine wpAny_bind (wpAny_pure (wpAny_call (codeAny_call_builtin F.attr_ValueError.ga.plain F.entry_bexc_ga (ck ?_))));refine wpAny_bind (wpAny_pure (wpAny_bind (wpAny_pure (wpAny_bind (L0.at (wpAny_bind (L3.at (wpAny_pure ?_))))))))
 show Ä _ _ (handedOut u) _ _ _
 rw[handedOut_of hh];exact VC h
end
section
variable {g:Array GenState}{d:Drawn}{t:à}{os:OsState}{a0:Z}{dct:Ü Z}
variable {nm q:Ç}{N:Z}{bs bm bmB:G O}{hdct:Ý}{sn:G Ç}{sub:G O}{ab:Ý}{col:Ü Ý}{dd:Ü Z}{k0 k1 k2 k3 k5:Ü O}{xL newId nid initId:String}
theorem Es(F:ExcBaseFacts xL nid initId bmB)(T:OwnTail h bmB bm){dQ:G O}{Q:O->À->Prop}(hC:h.get? C=U (excClassObj nm q C N bs bm hdct sn sub ab col dd k0 k1 k2 k3 k5 newId))
  (he:h.get? e=U {.ref C,dct,.fields #[.ref a0,.none,.none,.none,.bool Á,.none],#[]}) (af:dQ.length<=Å)
  (hq:∀ h' a1,h'.get? e=U {.ref C,dct,.fields #[.ref a1,.none,.none,.none,.bool Á,.none],#[]}->(∀ b o,b≠e->h.get? b=U o->h'.get? b=U o)->Q .none {(h'),g,d,t,os}) :
  Ä (É prog w) A (call (.builtin initId) (.ref e::dQ)) Q E {(h),g,d,t,os}:=by
 refine X7 (XR F.init.plain F.initEntry (wpAny_check_init_subU F T hC he J ?_))
 wp_walk
 refine hq _ h.objs.size ?_ λ b o hb z=>?_
 ·rw[VZ _ (Vz _ he) J];rfl
 ·rw[V4 _ _ (VL hb)];exact Vz _ z
end
theorem Sy{K:Frag}{N:Z}{n:Ç}{v:O}(X:K.In h)(xz:h.Ns N mg)(e:nsIn K N n=U (U v)):mg n=U v:=by
 let(ob,ents,prev,a3,aS,_,af):=xz;unfold nsIn at e;split at e
 ·rename_i c0 d0 a4 n0 a5 look;let z:=X _ _ look;rw[a3] at z;cases z;cases aS;split at e
  ·rename_i ent aX;cases e;rw[←af];unfold nsFind findBy;rw[←Array.find?_toList,aX];rfl
  ·split at e<;>cases e
 ·cases e
structure ND(K:Æ)(C fI:Z):Prop where
 ex:A9 K C fI [.type "ValueError",.type "Exception",.type "BaseException",.type "object"] "ValueError.__new__"=Y
 fn:typeIn K (.ref fI)=U (.type "function")
 st:rZ K C
theorem ND.op{fI:Z}(zc:ND K C fI)(X:K.In h):∃ c:Sh,h.get? C=U (excClassObj c.nm c.q C c.N c.bs c.bm c.hdct c.sn c.sub c.ab c.col c.dd c.k0 c.k1 c.k2 c.k3 c.k5 "ValueError.__new__") /\
  OwnTail h [.type "ValueError",.type "Exception",.type "BaseException",.type "object"] c.bm/\h.Ns c.N (h.nsMap c.N)/\h.nsMap c.N "__init__"=U (.ref fI):=by
 let(c,af,tok,aX,a3):=Jy zc.ex;let aS:h.Ns c.N (h.nsMap c.N):=.of_isNs (W.isNs_of_in X aX);exact{c,X _ _ af,W.tail_of_in X tok,aS,Sy X aS a3}
def exO(e C:Z)(d:Ü Z):Í->Prop:=λ h=>∃ t,h.get? e=U {.ref C,d,.fields #[.ref t,.none,.none,.none,.bool Á,.none],#[]}
def exH(e C:Z)(d:Ü Z):HO:=.ext (exO e C d)
theorem Ba(q:exO e C d h):bE P w H h e (exH e C d):=by
 let(t,he):=id q;exact{q,{_,he},λ h1 h2 ⟨t,a⟩ b=>{t,b _ a}}
def mj(q:bE P w H h e (exH e C d)):exO e C d h:=q.1
section
variable {X:Cx}{pins:G (Z × Obj)}{σ:St}{H:Hp}{s:À}
theorem Inv.adopt{a:Z}(I:Inv X pins σ H s)(N:oi X pins a)(hn:H a=L)(new:bE X.prog X.w (upd H a o) s.heap a o):Inv X pins σ (upd H a o) s:=by
 let ne:∀ {b:Z} {u:HO},H b=U u->b≠a:=λ q z=>by rw[z,hn] at q;cases q
 refine{I.ok,I.os,I.bare,{I.base.keep,I.base.slot,λ b u q n hx=>?_,I.base.there,λ b xs q=>?_,λ b u v q=>?_,λ b ps q=>?_},I.loc,I.cell,?_,λ x c q=>?_,λ p hp=>?_,λ b u q=>?_,I.len}
 ·rw[ag (λ z=>by rw[z,N.s0] at q;cases q)];exact I.base.free b u q n hx
 ·let z:=I.base.tups b xs q;rw[ag (ne z)];exact z
 ·let z:=I.base.frzs b u v q;rw[ag (ne z)];exact z
 ·let(m,z):=I.base.tbls b ps q;exact{m,by rw[ag (ne z)];exact z}
 ·rw[ag (VL N.loc)];exact I.free
 ·rw[ag (N.cel x c q)];exact I.freeC x c q
 ·let(a1,b1,c1,d1,f1):=I.pin p hp;exact{a1,by rw[ag (N.pin p hp)];exact b1,c1,d1,f1}
 ·by_cases hb:b=a
  ·subst hb;rw[aj] at q;cases q;exact new
  ·rw[ag hb] at q;exact(I.hok b u q).stay (λ _ _ _ r=>r) (λ c r=>by rw[ag (ne r)];exact r) (λ c y r=>by rw[ag (ne r)];exact r) λ c xs r=>by rw[ag (ne r)];exact r
theorem Inv.newAt{a:Z}(I:Inv X pins σ H s)(ha:%[s|99]<=a):oi X pins a where
 s0:=WS (Wo I.sz ha)
 loc:=Wn (VR I.lt ha)
 cel:=λ x c e z=>by
  let(v,o,q,_):=I.cell x c e;exact Þ (VR (VE q) (by rw[z];exact ha)) (WA _)
 fs:=I.nofs ha
 pin:=λ p hp z=>Þ (VR (VE (I.pin p hp).1) (by rw[z];exact ha)) (WA _)
structure OH(K:Æ)(xL:Z):Prop where
 sp:specialIn K (.ref xL) "__getattribute__"=U (U (.builtin "type.__getattribute__"))
 rd:readsIn K xL (.type "type")=Y
 fc:findCls K (.ref xL) (.type "type") "__init__"=U (.val (.builtin "ValueError.__init__"))
def kXI(K:Æ)(Q:VK):G V->Hp->Prop:=λ vs H=>∃ e C d fI dQ,vs=.ref e::dQ/\H e=U (exH e C d)/\ND K C fI/\dQ.length<=Å/\Q .non H
def tXI(K:Æ)(t:TA):TE:=λ σ H Q=>t σ H (kXI K Q)
theorem xm{x:Ç}{xL:Z}{p apos pos:Pos}{e:Ò}{es:G Ò}{t:TA}{pl:Sem Ý}(hg:Gl X x)(hm:X.mg x=U (.ref xL))(b:OH X.K xL)(ha:PA X (e::es) t)(af:(x == ("__debug__":Ç))=Á:=by decide)
  (aS:starEach (e::es) X.env=(Á,eval e X.env)::starEach es X.env:=by rfl) (aX:(backTo pos (starEach es X.env)).any (·.1)=Á:=by rfl)
  (ht:eval (.Call (.Attribute (.Name x p) "__init__" apos) (e::es) [] pos) X.env=(do
   let ov ←eval (.Name x p) X.env
   standAt apos.atName
   let (f,first) ←holding [ov] (getMethod ov "__init__" pl)
   callWith pos f first (backTo pos (starEach (e::es) X.env)) (backToKw pos (keywordEach [] X.env))):=by rfl) :
  PE X (.Call (.Attribute (.Name x p) "__init__" apos) (e::es) [] pos) (tXI X.K t):=by
 intro pins s σ H Q I h;refine W.methodCall_KW (pl:=pl) (gK I hg hm ?_ af) ht;refine method_cls I.kIn b.sp (cls_value I.kIn b.rd b.fc (by decide +kernel) ?_);let I1:=I.tok (s.toks+1);refine Zk (thn (ha pos pins _ σ H _ I1 h) λ us s1 ⟨vs,H1,ww,r1,q1⟩=>?_) aS aX;let(ex,C,d,fI,dQ,rfl,he,zc,hl,q):=q1
 cases r1 with
 | cons r rr=>
  cases r;let(t0,h0):=mj (ww.hok ex _ he);let(c,hC,T,_,_):=zc.op ww.kIn;refine Es (h:=s1.heap) (g:=s1.gens) (d:=s1.drawn) (t:=s1.toks) (os:=s1.os) Xb T hC h0 (by rw[←rr.length];exact hl) λ h' a1 q1 q2=>?_
  let same:upd H1 ex (exH ex C d)=H1:=funext λ b=>by
   by_cases hb:b=ex
   ·rw[hb,aj,he]
   ·rw[ag hb]
  let J2:=ww.write (t':=s1.toks) (x:=ex) (e:=ex) (o:=exH ex C d) (by rw[he];trivial) (.inl J) (λ b u hb z=>q2 b u hb z) {_,q1} (Ba {(a1),q1});rw[same] at J2;exact{.non,H1,J2,J,q}
end
def Up(K:Æ)(f:Ç)(y:V)(σ:St)(nx:St->Hp->Prop):VK:=λ x H=>∃ e C,x=.ref e/\H e=U (exH e C L)/\rZ K C/\takerIn K C f=U L /\
 ∀ dx H',H dx=L->dx≠e->(∀ b o,b≠e->H b=U o->H' b=U o)->H' e=U (exH e C (U dx))->H' dx=U (.xd [(f,y)])->nx σ H'
def RK(K:Æ)(f:Ç)(ta:TE)(σ:St)(nx:St->Hp->Prop):VK:=λ y H=>ta σ H (Up K f y σ nx)
def NT(K:Æ)(ta tv:TE)(f:Ç):TS:=λ D σ H=>tv σ H (RK K f ta σ D.nx)
section
variable {X:Cx}{e o value:Ò}{ta tv:TE}{f:Ç}{pos pos':Pos}
theorem Bs(ha:PE X o ta)(hv:PE X value tv)(hs:swapsWith value (U (.Attribute o f pos')) pos.line X.env=pure Á):PS X (.Assign [.Attribute o f pos'] value pos) (NT X.K ta tv f):=by
 intro pins s σ H D I h;refine Yj (thn (hv pins s σ H _ I h) λ u s1 ⟨y,H1,I1,ry,q⟩=>thn (ha pins s1 σ H1 _ I1 q) λ ov s2 ⟨x,H2,I2,rx,q1⟩=>?_) hs;let(ex,C,rfl,he,st,ht,k):=q1;obtain rfl:ov=Ê ex:=rx;let(t0,h0):=mj (I2.hok ex _ he);refine KD st I2.kIn h0 ht λ h' tk q1 q2 q3=>?_;let fr:H2 %[s2|99]=L:=I2.hok.fresh (VF _);let ne:%[s2|99]≠ex:=Wn (VE h0);let ww:=I2.write (t':=tk) (x:=ex) (e:=ex) (o:=exH ex C (U %[s2|99])) (by rw[he];trivial) (.inl J) (λ b u hb z=>q3 b u hb z) {_,q1} (Ba {(t0),q1});let J2:=ww.adopt (a:=%[s2|99]) (o:=.xd [(f,y)]) (I2.newAt (VF _)) (by rw[ag ne];exact fr) {_,q2,λ g=>?_}
 ·refine{σ,_,J2,k %[s2|99] _ fr ne (λ b u hb z=>?_) ?_ aj}
  ·rw[ag (ba z fr),ag hb];exact z
  ·rw[ag (VL ne),aj]
 ·show oF (List.lookup g [(f,y)]) (if g=f then U u else L)
  by_cases hg:g=f
  ·subst hg;rw[V7 J,List.lookup_cons_self];exact ry
  ·let hb:(g == f)=Á:=WK.mpr hg;rw[VY hg,Xd,hb];exact True.intro
end
def del(H:Hp)(e:Z):Hp:=λ b=>if b=e then L else H b
def qM:del H e e=L:=V7 J
def eQ(h:b≠e):del H e b=H b:=VY h
theorem Inv.untrack(I:Inv X pins σ H s)(he:H e=U (exH e C d)):Inv X pins σ (del H e) s:=by
 let ne:∀ {b:Z} {u:HO},H b=U u->u≠exH e C d->b≠e:=λ q z k=>by rw[k,he] at q;exact z (We q).symm
 let no:∀ {b:Z},H b=L->del H e b=L:=λ {b} q=>by
  by_cases hb:b=e
  ·rw[hb];exact qM
  ·rw[eQ hb];exact q
 refine{I.ok,I.os,I.bare,{I.base.keep,I.base.slot,λ b u q n hx=>no (I.base.free b u q n hx),I.base.there,λ b xs q=>?_,λ b u v q=>?_,λ b ps q=>?_},I.loc,I.cell,no I.free,λ x c q=>no (I.freeC x c q),λ p hp=>?_,λ b u q=>?_,I.len}
 ·let z:=I.base.tups b xs q;rw[eQ (ne z (by intro k;cases k))];exact z
 ·let z:=I.base.frzs b u v q;rw[eQ (ne z (by intro k;cases k))];exact z
 ·let(m,z):=I.base.tbls b ps q;exact{m,by rw[eQ (ne z (by intro k;cases k))];exact z}
 ·let(a1,b1,c1,d1,f1):=I.pin p hp;exact{a1,no b1,c1,d1,f1}
 ·let hb:b≠e:=λ z=>by rw[z,qM] at q;cases q
  rw[eQ hb] at q;exact(I.hok b u q).stay (λ _ _ _ r=>r) (λ c r=>by rw[eQ (ne r (by intro k;cases k))];exact r) (λ c y r=>by rw[eQ (ne r (by intro k;cases k))];exact r) λ c xs r=>by rw[eQ (ne r (by intro k;cases k))];exact r
def Ck(X:Cx)(E:XK)(σ:St):Prop:=∀ (pins:G (Z × Obj)) (H:Hp) (s:À) (e C:Z) (d:Ü Z),Inv X pins σ H s->H e=L->X.s₀.heap.get? e=L->exO e C d s.heap->(∀ dx,d=U dx->∃ fs,H dx=U (.xd fs))->E (.ref C) d H->X.xe (.ref e) s
theorem nk{N:G Ç}{cd:O}{E:XK} :
  Ck (Ai cb (CX1 P w) P w K mg base N qual scope f cd A outer s₀ H₀ E) E σ:=by
 intro pins H s e C d I hn af hx hd hE;let(t,he):=hx
 show Ä (É P w) (A.deeper (envOfC qual scope %[s₀|99] f cd)) (leaving (envOfC qual scope %[s₀|99] f cd) (.ref e)) _ _ _
 unfold leaving;let un:Un (frs outer) [] H₀ H s₀.heap s.heap:=I.base;refine wpAny_bind (xt (s:=s) (base:=base) (outer:=outer) I.ok.frames I.stack J he J J J λ g T ng nT ex=>?_);refine{e,T,.ref C,d,H,J,I.os,I.bare,un.noted ng af (λ _ z=>z.elim) (λ b hb=>?_),I.hok.noted ng hn (λ _ z=>z.elim) I.stkFree,af,un.gone nT,hn,I.hok.gone nT,ex,hd,hE}
 rcases VU.mp (I.stkSub b hb) with z|z
 ·exact .inr (by rw[z];exact WS (VF _))
 ·exact .inl z
theorem yB{x:Sem O}{Q:Flow->À->Prop}(hh:A.handled=L)
  (h:Ä M A x (λ v s1=>∃ (e:Z) (d:Ü Z) (c:Sh) (newId:String),v=.ref e/\s1.heap.get? C=U (excClassObj c.nm c.q C c.N c.bs c.bm c.hdct c.sn c.sub c.ab c.col c.dd c.k0 c.k1 c.k2 c.k3 c.k5 newId)/\c.bm.contains (.type "BaseException")=Y/\exO e C d s1.heap/\E (.ref e) s1) E s) :
  Ä M A (raiseStmt env (U x) L) Q E s:=by
 unfold raiseStmt;refine wpAny_bind (wpAny_mono h (λ v s1 h1=>?_) λ _ _ z=>z);let(e,d,c,newId,rfl,hC,hb,(t,he),hE):=h1;let af:(Ê C::c.bm).contains (.type "BaseException")=Y:=by rw[List.contains_cons,hb,Bool.or_true]
 let(hp,g,dr,tk,os):=s1
 repeat (first|with_reducible refine XI he ?_|with_reducible refine XI hC ?_|(with_reducible refine wpAny_isSubtype_exc hC ?_;rw[af])|wp_step)
 exact wpAny_raiseNew_none hh hE
section
variable {X:Cx}
def kRz(e C:Z)(E:XK):VK:=λ v H=>v=.non/\∃ d,H e=U (exH e C d)/\(∀ dx,d=U dx->∃ fs,del H e dx=U (.xd fs))/\E (.ref C) d (del H e)
def kRI(C:Z)(sp:Sp)(E:XK):G V->Hp->Prop:=λ vs H=>vs.length<=Å/\∀ e,H e=L->sp (.ref e::vs) (upd H e (exH e C L)) (kRz e C E) E0
def Bi(C:Z)(sp:Sp)(E:St->XK)(t:TA):TS:=λ _ σ H=>t σ H (kRI C sp (E σ))
theorem sG{fI:Z}{sp:Sp}{e₀:Ò}{dQ:G Ò}{np cpos:Pos}{E:St->XK}(hc:X.calm=Y)(hg:Gl X x)(a5:X.mg x=U (.ref C))(zc:ND X.K C fI)
  (F:aT X.prog X.w X.K X.mg X.base CX0 k fI fd ps sp) (hr:jk (k+1) X.A) (hb:az X.K fd ps []) (hx:∀ σ,Ck X (E σ) σ) (ha:PA X (e₀::dQ) t)
  (he:starEach (e₀::dQ) X.env=(Á,eval e₀ X.env)::starEach dQ X.env:=by rfl) (aX:(backTo cpos (starEach dQ X.env)).any (·.1)=Á:=by rfl) (a6:(x == ("__debug__":Ç))=Á:=by decide) :
  PS X (.Raise (U (.Call (.Name x np) (e₀::dQ) [] cpos)) L pos) (Bi C sp E t):=by
 intro pins s σ H D I h;rw[arm_exec_Raise];refine wpAny_bind (wpAny_standAt (yB (C:=C) (I.ok.hd hc) (wpAny_bind (wpAny_mono (wpAny_Call_ofName (gK I hg a5 ?_ a6)) (λ v s3 h3=>wpAny_bind (wpAny_standAt (wpAny_pure h3))) λ _ _ z=>z))));unfold callWith;let hh:=ha cpos pins s σ H _ I h;rw[he] at hh ⊢;refine wpAny_bind (wpAny_holding (Calls.evalArgs_plain (thn hh λ us s2 ⟨vs,H2,I2,r,hl,a7⟩=>wpAny_bind (wpAny_standAt ?_))));let(c,hC,T,hN,hi):=zc.op I2.kIn;let a4:(backTo cpos ((Á,eval e₀ X.env)::starEach dQ X.env)).any (·.1)=Á:=(Bool.false_or _).trans aX
 let I3:Inv X pins σ (upd H2 (%[s2|99]+1) (exH (%[s2|99]+1) C L)) { s2 with heap:=oa C us s2.heap }:=by
  let ww:=I2.kept (t':=s2.toks) (h':=s2.heap.push { cls:=.type "tuple",data:=.seq us.toArray }) λ b u q=>Vz _ q;refine ww.laid (t':=s2.toks) (a:=%[s2|99]+1) (o:=exH (%[s2|99]+1) C L) (λ b u q=>Vz _ q) (Yq (V9 _ _)) (Ba {%[s2|99],?_});have:=VG (s2.heap.push { cls:=.type "tuple",data:=.seq us.toArray }) (o:={.ref C,L,.fields #[.ref %[s2|99],.none,.none,.none,.bool Á,.none],#[]}) J
  rwa [V9] at this
 let hq:=a7 (%[s2|99]+1) (I2.hok.fresh (XM _));let r2:bf (V.ref (%[s2|99]+1)::vs) (Ê (%[s2|99]+1)::us):=.cons J r
 let a8:(Ê (%[s2|99]+1)::us++[]).length=ps.length:=by
  rw[X6,←r2.length];exact F.len _ _ _ _ hq
 simp only[a4];refine My (wpAny_keeperOf_exc (h:=s2.heap) (g:=s2.gens) (d:=s2.drawn) (t:=s2.toks) (os:=s2.os) hC ?_);refine My (X7 (Nc (h:=s2.heap) (g:=s2.gens) (d:=s2.drawn) (t:=s2.toks) (os:=s2.os) Xb (by decide +kernel) Xb T hC hN hi I2.kIn zc.fn (by show us.length<=Å;rw[←r.length];exact hl) ?_));let af:=hb { s2 with heap:=oa C us s2.heap } (Ê (%[s2|99]+1)::us) I3.kIn a8;rw[X6] at af;refine Xi (F.run _ X.stack _ _ ⟨Ê (%[s2|99]+1)::us,[]⟩ (Ê (%[s2|99]+1)::us) _ _ E0 (hr.make C us []) (λ _=>I3.ok.hd hc) (I3.env0.make C us []) af r2 hq) λ rr s' aS=>?_
 cases rr with
 | error e=>exact aS.elim
 | ok fl=>
  cases fl with
  | ret u=>
   let(v,H',I4,rv,rfl,d,a3,hd2,hE):=I3.after aS;cases rv;refine{J,My (Wh (wpAny_point (VC ?_)))};let(c',a9,T',_,_):=zc.op I4.kIn
   exact{%[s2|99]+1,d,c',_,J,a9,T'.hasType (by decide +kernel),mj (I4.hok _ _ a3),
    hx σ pins (del H' (%[s2|99]+1)) s' _ C d (I4.untrack a3) qM (WS (Wo I2.sz (XM _))) (mj (I4.hok _ _ a3)) hd2 hE}
  | next=>exact False.elim aS
  | brk=>exact False.elim aS
  | cont=>exact False.elim aS
def kXF(K:Æ)(f:Ç)(Q:VK):VK:=λ x H=>∃ e oe C dx fs v,x=.ref e/\H e=U (nW oe)/\oe.cls=.ref C/\oe.dict=U dx/\(∃ vs,oe.data=.fields vs)/\H dx=U (.xd fs)/\Af K C/\cq K C f/\fs.lookup f=U v/\Q v H
def tXF(K:Æ)(ta:TE)(f:Ç):TE:=λ σ H Q=>ta σ H (kXF K f Q)
theorem KY{e:Ò}{f:Ç}{ta:TE}(he:PE X e ta)(hb:attributeBase e f X.env (eval e X.env)=eval e X.env):PE X (.Attribute e f pos) (tXF X.K ta f):=by
 intro pins s σ H Q I h;refine Cf hb (thn (he pins s σ H _ I h) λ u s1 ⟨x,H1,I1,rx,q1⟩=>?_);let(ex,oe,C,dx,fs,v,rfl,hx,aS,hd,(vs,af),aX,c,n,l,q):=q1;obtain rfl:u=Ê ex:=rx;let h1:s1.heap.get? ex=U oe:=(I1.hok ex _ hx).1;let(mA,hn,hr):=I1.hok dx _ aX;let(u,hu,ru):=oF.some_of (v:=v) (o:=mA f) (by rw[←l];exact hr f);exact Nd c I1.kIn h1 aS (by unfold notCls;rw[af]) hd hn n hu (sR ru) {v,H1,I1.tok _,ru,q}
def il{K:Æ}(hK:X.K=K){e:Ò}{f:Ç}{pos:Pos}{ta:TE}(he:PE X e ta)(hb:attributeBase e f X.env (eval e X.env)=eval e X.env):PE X (.Attribute e f pos) (tXF K ta f):=hK ▸ KY he hb
end
def M8:dc 0 v (a::σ) H Q=Q (U v::σ) H:=rfl
def M7:dc 1 v (a0::a::σ) H Q=Q (a0::U v::σ) H:=rfl
def M6:dc 2 v (a0::a1::a::σ) H Q=Q (a0::a1::U v::σ) H:=rfl
def M5:dc 3 v (a0::a1::a2::a::σ) H Q=Q (a0::a1::a2::U v::σ) H:=rfl
def M4:dc 4 v (a0::a1::a2::a3::a::σ) H Q=Q (a0::a1::a2::a3::U v::σ) H:=rfl
def M3:dc 5 v (a0::a1::a2::a3::a4::a::σ) H Q=Q (a0::a1::a2::a3::a4::U v::σ) H:=rfl
def M1:dc 6 v (a0::a1::a2::a3::a4::a5::a::σ) H Q=Q (a0::a1::a2::a3::a4::a5::U v::σ) H:=rfl
def M0:dc 7 v (a0::a1::a2::a3::a4::a5::a6::a::σ) H Q=Q (a0::a1::a2::a3::a4::a5::a6::U v::σ) H:=rfl
def MZ:dc 8 v (a0::a1::a2::a3::a4::a5::a6::a7::a::σ) H Q=Q (a0::a1::a2::a3::a4::a5::a6::a7::U v::σ) H:=rfl
def MY:dc 9 v (a0::a1::a2::a3::a4::a5::a6::a7::a8::a::σ) H Q=Q (a0::a1::a2::a3::a4::a5::a6::a7::a8::U v::σ) H:=rfl
def HX:dc 10 v (a0::a1::a2::a3::a4::a5::a6::a7::a8::a9::a::σ) H Q=Q (a0::a1::a2::a3::a4::a5::a6::a7::a8::a9::U v::σ) H:=rfl
def HW:dc 11 v (a0::a1::a2::a3::a4::a5::a6::a7::a8::a9::af::a::σ) H Q=Q (a0::a1::a2::a3::a4::a5::a6::a7::a8::a9::af::U v::σ) H:=rfl
def HV:dc 12 v (a0::a1::a2::a3::a4::a5::a6::a7::a8::a9::af::aS::a::σ) H Q=Q (a0::a1::a2::a3::a4::a5::a6::a7::a8::a9::af::aS::U v::σ) H:=rfl
def HU:dc 13 v (a0::a1::a2::a3::a4::a5::a6::a7::a8::a9::af::aS::aX::a::σ) H Q=Q (a0::a1::a2::a3::a4::a5::a6::a7::a8::a9::af::aS::aX::U v::σ) H:=rfl
def HS:dc 14 v (a0::a1::a2::a3::a4::a5::a6::a7::a8::a9::af::aS::aX::bt::a::σ) H Q=Q (a0::a1::a2::a3::a4::a5::a6::a7::a8::a9::af::aS::aX::bt::U v::σ) H:=rfl
def HR:dc 15 v (a0::a1::a2::a3::a4::a5::a6::a7::a8::a9::af::aS::aX::bt::bB::a::σ) H Q=Q (a0::a1::a2::a3::a4::a5::a6::a7::a8::a9::af::aS::aX::bt::bB::U v::σ) H:=rfl
def HQ:dc 16 v (a0::a1::a2::a3::a4::a5::a6::a7::a8::a9::af::aS::aX::bt::bB::bS::a::σ) H Q=Q (a0::a1::a2::a3::a4::a5::a6::a7::a8::a9::af::aS::aX::bt::bB::bS::U v::σ) H:=rfl
def HP:dc 17 v (a0::a1::a2::a3::a4::a5::a6::a7::a8::a9::af::aS::aX::bt::bB::bS::b0::a::σ) H Q=Q (a0::a1::a2::a3::a4::a5::a6::a7::a8::a9::af::aS::aX::bt::bB::bS::b0::U v::σ) H:=rfl
def HN:dc 18 v (a0::a1::a2::a3::a4::a5::a6::a7::a8::a9::af::aS::aX::bt::bB::bS::b0::b1::a::σ) H Q=Q (a0::a1::a2::a3::a4::a5::a6::a7::a8::a9::af::aS::aX::bt::bB::bS::b0::b1::U v::σ) H:=rfl
def HM:dc 19 v (a0::a1::a2::a3::a4::a5::a6::a7::a8::a9::af::aS::aX::bt::bB::bS::b0::b1::b2::a::σ) H Q=Q (a0::a1::a2::a3::a4::a5::a6::a7::a8::a9::af::aS::aX::bt::bB::bS::b0::b1::b2::U v::σ) H:=rfl
def HL{b3:Ü V}:dc 20 v (a0::a1::a2::a3::a4::a5::a6::a7::a8::a9::af::aS::aX::bt::bB::bS::b0::b1::b2::b3::a::σ) H Q=Q (a0::a1::a2::a3::a4::a5::a6::a7::a8::a9::af::aS::aX::bt::bB::bS::b0::b1::b2::b3::U v::σ) H:=rfl
def aJ:Ü α->(α->Prop)->Prop
 | some x,k=>k x
 | none,_=>False
def fM(x:α)(k:α->Prop):aJ (U x) k=k x:=rfl
theorem aq{o:Ü α}{k:α->Prop}(h:aJ o k):∃ x,o=U x/\k x:=by
 cases o with
 | none=>exact h.elim
 | some x=>exact{(x),J,h}
def Q7:HO->Ü (G V)
 | .lst xs=>U xs
 | .tup xs=>U xs
 | .frz _ (.lst xs)=>U xs
 | _=>L
def RJ:HO->Ü (G V)
 | .lst xs=>U xs
 | _=>L
def Rt:HO->Ü (G V)
 | .tup xs=>U xs
 | _=>L
def dH(H:Hp)(p:Z):Ü (G V):=(H p).bind Q7
def aF(H:Hp)(p:Z):Ü (G V):=(H p).bind RJ
def Aj(H:Hp)(p:Z):Ü (G V):=(H p).bind Rt
def FU(xs:G V):Q7 (.lst xs)=U xs:=rfl
def FT(xs:G V):Q7 (.tup xs)=U xs:=rfl
def Ha(xs:G V):RJ (.lst xs)=U xs:=rfl
def FP(xs:G V):Rt (.tup xs)=U xs:=rfl
def Ad{β:Type}(x:α)(f:α->Ü β):(U x).bind f=f x:=rfl
abbrev Ext(H H':Hp):Prop:=(∀ a,(H a).isSome=Y->H' a=H a)/\∀ (K:PySem.W.Frag) a xs,SqL K H a xs->SqL K H' a xs
def Ri(r:R2)(x:V)(Q:VK):VK:=λ y H=>r x y H Q
def A4(r:R2)(x y:V)(H:Hp)(Q:VK):(Ri r x Q y H)=(r x y H Q):=rfl
def kOp(r:R2)(tb:TE)(σ:St)(Q:VK):VK:=λ x H=>tb σ H (Ri r x Q)
def Td(r:R2)(tb:TE)(σ:St)(Q:VK)(x:V)(H:Hp):(kOp r tb σ Q x H)=(tb σ H (Ri r x Q)):=rfl
def SM(r:R2)(ta tb:TE)(σ:St)(H:Hp)(Q:VK):(tOp r ta tb σ H Q)=(ta σ H (kOp r tb σ Q)):=rfl
def U5(v:V)(σ:St)(H:Hp)(Q:VK):(tC v σ H Q)=(Q v H):=rfl
def kUn(r:V->Hp->VK->Prop)(Q:VK):VK:=λ x H=>r x H Q
def S8(r:V->Hp->VK->Prop)(Q:VK)(x:V)(H:Hp):(kUn r Q x H)=(r x H Q):=rfl
def SI(r:V->Hp->VK->Prop)(ta:TE)(σ:St)(H:Hp)(Q:VK):(tUn r ta σ H Q)=(ta σ H (kUn r Q)):=rfl
def T9:R2:=λ x y H Q=>y=.non/\Q (.bl (decide (x=.non))) H
def Fb:R2:=λ x y H Q=>y=.non/\Q (.bl (!decide (x=.non))) H
theorem yS(H:Hp)(Q:VK):T9 (.non) .non H Q=Q (.bl Y) H:=propext {λ h=>h.2,λ h=>{(J),h}}
theorem vO(H:Hp)(Q:VK):Fb (.non) .non H Q=Q (.bl Á) H:=propext {λ h=>h.2,λ h=>{(J),h}}
theorem vN(i:Z)(H:Hp)(Q:VK):Fb (.ref i) .non H Q=Q (.bl Y) H:=propext {λ h=>h.2,λ h=>{(J),h}}
def Ot(Q:Ý->Hp->Prop):VK:=λ x H=>∃ k,x=.bl k/\Q k H
def Uu(Q:Ý->Hp->Prop):Ý->Hp->Prop:=λ c H=>Q (!c) H
def Qf(Q:Ý->Hp->Prop)(c:Ý)(H:Hp):(Uu Q c H)=(Q (!c) H):=rfl
def Pw(t:TT)(σ:St)(H:Hp)(Q:Ý->Hp->Prop):(T2 t σ H Q)=(t σ H (Uu Q)):=rfl
def UC(u:TT)(σ:St)(Q:Ý->Hp->Prop):Ý->Hp->Prop:=λ c H=>if c=Y then u σ H Q else Q Á H
def QD(u:TT)(σ:St)(Q:Ý->Hp->Prop)(c:Ý)(H:Hp):(UC u σ Q c H)=(if c=Y then u σ H Q else Q Á H):=rfl
def PD(t u:TT)(σ:St)(H:Hp)(Q:Ý->Hp->Prop):(T6 t u σ H Q)=(t σ H (UC u σ Q)):=rfl
def kOr(u:TT)(σ:St)(Q:Ý->Hp->Prop):Ý->Hp->Prop:=λ c H=>if c=Y then Q Y H else u σ H Q
def Tc(u:TT)(σ:St)(Q:Ý->Hp->Prop)(c:Ý)(H:Hp):(kOr u σ Q c H)=(if c=Y then Q Y H else u σ H Q):=rfl
def SK(t u:TT)(σ:St)(H:Hp)(Q:Ý->Hp->Prop):(tOr t u σ H Q)=(t σ H (kOr u σ Q)):=rfl
def Tz(tb:TE)(σ:St)(Q:VK):VK:=λ x H=>∃ c,x=.bl c/\if c=Y then tb σ H Q else Q (.bl Á) H
def Tt(Q:VK):VK:=λ x H=>∃ c,x=.bl c/\Q (.bl (!c)) H
def Uv(ta tb:TE)(σ:St)(Q:VK):Ý->Hp->Prop:=λ c H=>if c=Y then ta σ H Q else tb σ H Q
def Qm(ta tb:TE)(σ:St)(Q:VK)(c:Ý)(H:Hp):(Uv ta tb σ Q c H)=(if c=Y then ta σ H Q else tb σ H Q):=rfl
def SQ(t:TT)(ta tb:TE)(σ:St)(H:Hp)(Q:VK):(tIf t ta tb σ H Q)=(t σ H (Uv ta tb σ Q)):=rfl
def Rq(r':R2)(y:V)(Q:VK):VK:=λ w H=>r' y w H Q
def Qv(r':R2)(y w:V)(Q:VK)(H:Hp):(Rq r' y Q w H)=(r' y w H Q):=rfl
def R6(r':R2)(tc:TE)(σ:St)(y:V)(Q:VK):VK:=λ z H=>∃ k,z=.bl k/\(if k=Y then tc σ H (Rq r' y Q) else Q (.bl Á) H)
def Uy(r r':R2)(tc:TE)(σ:St)(x:V)(Q:VK):VK:=λ y H=>r x y H (R6 r' tc σ y Q)
def Ve(r r':R2)(tb tc:TE)(σ:St)(Q:VK):VK:=λ x H=>tb σ H (Uy r r' tc σ x Q)
def Px(σ:St)(H:Hp)(Q:G V->Hp->Prop):(NI σ H Q)=(Q [] H):=rfl
def A7(x:V)(Q:G V->Hp->Prop):G V->Hp->Prop:=λ xs H=>Q (x::xs) H
def GY(x:V)(Q:G V->Hp->Prop)(xs:G V)(H:Hp):(A7 x Q xs H)=(Q (x::xs) H):=rfl
def Oy(tr:TA)(σ:St)(Q:G V->Hp->Prop):VK:=λ x H=>tr σ H (A7 x Q)
def Mq(tr:TA)(σ:St)(Q:G V->Hp->Prop)(x:V)(H:Hp):(Oy tr σ Q x H)=(tr σ H (A7 x Q)):=rfl
def LF(ta:TE)(tr:TA)(σ:St)(H:Hp)(Q:G V->Hp->Prop):(E9 ta tr σ H Q)=(ta σ H (Oy tr σ Q)):=rfl
def uF(sp:Sp)(dvs:G V)(E:XK)(Q:VK):G V->Hp->Prop:=λ vs H=>sp (vs++dvs) H Q E
def DS(v0:V)(sp:Sp)(dvs:G V)(E:XK)(Q:VK)(H:Hp):uF sp dvs E Q [v0] H=sp (v0::dvs) H Q E:=rfl
def DR(v0 v1:V)(sp:Sp)(dvs:G V)(E:XK)(Q:VK)(H:Hp):uF sp dvs E Q [v0,v1] H=sp (v0::v1::dvs) H Q E:=rfl
def DQ(v0 v1 v2:V)(sp:Sp)(dvs:G V)(E:XK)(Q:VK)(H:Hp):uF sp dvs E Q [v0,v1,v2] H=sp (v0::v1::v2::dvs) H Q E:=rfl
def DP(v0 v1 v2 v3:V)(sp:Sp)(dvs:G V)(E:XK)(Q:VK)(H:Hp):uF sp dvs E Q [v0,v1,v2,v3] H=sp (v0::v1::v2::v3::dvs) H Q E:=rfl
def DO(v0 v1 v2 v3 v4:V)(sp:Sp)(dvs:G V)(E:XK)(Q:VK)(H:Hp):uF sp dvs E Q [v0,v1,v2,v3,v4] H=sp (v0::v1::v2::v3::v4::dvs) H Q E:=rfl
def LH(sp:Sp)(dvs:G V)(E:XK)(t:TA)(σ:St)(H:Hp)(Q:VK):(N5 sp dvs E t σ H Q)=(t σ H (uF sp dvs E Q)):=rfl
def kCB(r:G V->Hp->VK->Prop)(Q:VK):G V->Hp->Prop:=λ vs H=>r vs H Q
def To(r:G V->Hp->VK->Prop)(Q:VK)(vs:G V)(H:Hp):(kCB r Q vs H)=(r vs H Q):=rfl
def SR(r:G V->Hp->VK->Prop)(t:TA)(σ:St)(H:Hp)(Q:VK):(tCB r t σ H Q)=(t σ H (kCB r Q)):=rfl
def LB(nx:St->Hp->Prop)(rt:VK)(bk ct:St->Hp->Prop)(σ:St)(H:Hp):(N2 {(nx),rt,bk,ct} σ H)=(nx σ H):=rfl
def Pr(t u:TS)(nx:St->Hp->Prop)(rt:VK)(bk ct:St->Hp->Prop)(σ:St)(H:Hp):(TX t u {(nx),rt,bk,ct} σ H)=(t {u {(nx),rt,bk,ct},rt,bk,ct} σ H):=rfl
def Pu(te:TE)(nx:St->Hp->Prop)(rt:VK)(bk ct:St->Hp->Prop)(σ:St)(H:Hp):(TZ te {(nx),rt,bk,ct} σ H)=(te σ H rt):=rfl
def Ox(nx:St->Hp->Prop)(σ:St):VK:=λ x H=>nx σ H
def Mp(nx:St->Hp->Prop)(σ:St)(x:V)(H:Hp):(Ox nx σ x H)=(nx σ H):=rfl
def LC(te:TE)(nx:St->Hp->Prop)(rt:VK)(bk ct:St->Hp->Prop)(σ:St)(H:Hp):(N3 te {(nx),rt,bk,ct} σ H)=(te σ H (Ox nx σ)):=rfl
def RZ(t u:TS)(D:iG)(σ:St):Ý->Hp->Prop:=λ b H=>if b=Y then t D σ H else u D σ H
def Jo(t u:TS)(D:iG)(σ:St)(b:Ý)(H:Hp):(RZ t u D σ b H)=(if b=Y then t D σ H else u D σ H):=rfl
def oM(c:TT)(t u:TS)(D:iG)(σ:St)(H:Hp):(NJ c t u D σ H)=(c σ H (RZ t u D σ)):=rfl
def UA(g:TG)(σ:St)(nx:St->Hp->Prop):VK:=λ x H=>g x σ H nx
def QB(g:TG)(σ:St)(nx:St->Hp->Prop)(x:V)(H:Hp):(UA g σ nx x H)=(g x σ H nx):=rfl
def PC(te:TE)(g:TG)(nx:St->Hp->Prop)(rt:VK)(bk ct:St->Hp->Prop)(σ:St)(H:Hp):(Ru te g {(nx),rt,bk,ct} σ H)=(te σ H (UA g σ nx)):=rfl
def kGs(u:TGs)(r:G V)(Q:St->Hp->Prop):St->Hp->Prop:=λ σ' H'=>u r σ' H' Q
def Tg(u:TGs)(r:G V)(Q:St->Hp->Prop)(σ:St)(H:Hp):(kGs u r Q σ H)=(u r σ H Q):=rfl
theorem OpR.mono{f:O->O->Sem O}{r r':R2}(h:OpR X f r)(m:∀ x y H Q,r' x y H Q->r x y H Q):OpR X f r':=λ pins s σ H x y v u Q I rx ry hq=>h pins s σ H x y v u Q I rx ry (m _ _ _ _ hq)
theorem cn.mono{f:O}{r r':G V->Hp->VK->Prop}(h:cn X f r)(m:∀ xs H Q,r' xs H Q->r xs H Q):cn X f r':=λ pins s σ H xs us Q I rx hq=>h pins s σ H xs us Q I rx (m _ _ _ hq)
theorem IxR.mono{r r':R2}(h:IxR X r)(m:∀ x y H Q,r' x y H Q->r x y H Q):IxR X r':=λ a b pins s σ H x y v u Q I rx ry hq=>h a b pins s σ H x y v u Q I rx ry (m _ _ _ _ hq)
theorem SlR.mono{r r':V->Ü B->Ü B->Hp->VK->Prop}(h:SlR X r)(m:∀ x lo hi H Q,r' x lo hi H Q->r x lo hi H Q):SlR X r':=λ pins s σ H x v vl vu lo hi sl Q I rx a b c hq=>h pins s σ H x v vl vu lo hi sl Q I rx a b c (m _ _ _ _ _ hq)
theorem PG.mono{tg:Ò}{g':TG}(h:PG X tg g)(m:∀ v σ H Q,g' v σ H Q->g v σ H Q):PG X tg g':=λ pins s σ H v u Q I r hq=>h pins s σ H v u Q I r (m _ _ _ _ hq)
theorem jH(h:dH H p=U ys):SqL K H p ys\/SqT K H p ys:=by
 unfold dH at h
 cases e:H p with
 | none=>rw[e] at h;cases h
 | some o=>
  rw[e] at h;let h':Q7 o=U ys:=h
  cases o with
  | lst xs=>cases h';exact .inl (SqL.of e)
  | tup xs=>cases h';exact .inr (SqT.of e)
  | frz ob u=>
   cases u with
   | lst xs=>cases h';exact .inl (.inl (.inr {(ob),e}))
   | _=>cases h'
  | _=>cases h'
theorem bO(h:aF H p=U ys):H p=U (.lst ys):=by
 unfold aF at h
 cases e:H p with
 | none=>rw[e] at h;cases h
 | some o=>
  rw[e] at h;let h':RJ o=U ys:=h
  cases o with
  | lst xs=>cases h';rfl
  | _=>cases h'
theorem OM(h:Aj H p=U ys):H p=U (.tup ys):=by
 unfold Aj at h
 cases e:H p with
 | none=>rw[e] at h;cases h
 | some o=>
  rw[e] at h;let h':Rt o=U ys:=h
  cases o with
  | tup xs=>cases h';rfl
  | _=>cases h'
def RW(H:Hp)(Q:VK):G V->Prop:=λ ys=>Q (.int ys.length) H
def Qi(H:Hp)(Q:VK)(ys:G V):RW H Q ys=Q (.int ys.length) H:=rfl
def RF(xs:G V)(H:Hp)(Q:VK):Prop:=match xs with
 | [.ref p]=>aJ (dH H p) (RW H Q)
 | [.str z]=>z.length<=Å/\Q (.int z.length) H
 | _=>False
def PR(p:Z)(H:Hp)(Q:VK):RF [.ref p] H Q=aJ (dH H p) (RW H Q):=rfl
theorem aB:cn X (.builtin "len") RF:=by
 refine(ff.or uq).mono λ xs H Q h=>?_;unfold RF at h;split at h
 ·rename_i p;let(ys,e,q):=aq h;exact .inl {p,ys,J,jH e,q}
 ·rename_i z;exact .inr {(z),J,h.1,h.2}
 ·exact h.elim
def RX(H:Hp)(Q:VK):V->Prop:=λ v=>Q v H
def Qk(H:Hp)(Q:VK)(v:V):RX H Q v=Q v H:=rfl
def kIx(i:B)(H:Hp)(Q:VK):G V->Prop:=λ ys=>aJ (atI ys i) (RX H Q)
def Tf(i:B)(H:Hp)(Q:VK)(ys:G V):kIx i H Q ys=aJ (atI ys i) (RX H Q):=rfl
def qIx:R2:=λ x y H Q=>match x,y with
 | .ref p,.int i=>aJ (dH H p) (kIx i H Q)
 | _,_=>False
def SV(p:Z)(i:B)(H:Hp)(Q:VK):qIx (.ref p) (.int i) H Q=aJ (dH H p) (kIx i H Q):=rfl
theorem du:IxR X qIx:=by
 refine(u4.or QT).mono λ x y H Q h=>?_;unfold qIx at h;split at h
 ·rename_i p i;let(ys,e,q):=aq h;let(v,e2,q2):=aq q
  rcases jH (K:=X.K) e with z|z
  ·exact .inl {(p),ys,i,v,J,J,z,e2,q2}
  ·exact .inr {(p),ys,i,v,J,J,z,e2,q2}
 ·exact h.elim
def TN(a:α)(xs:G α):atI (a::xs) 0=U a:=gL (j:=0) J
def TM(a b:α)(xs:G α):atI (a::b::xs) 1=U b:=gL (j:=1) J
def TL(a b c:α)(xs:G α):atI (a::b::c::xs) 2=U c:=gL (j:=2) J
def TK(a b c d:α)(xs:G α):atI (a::b::c::d::xs) 3=U d:=gL (j:=3) J
def TJ(a b c d e:α)(xs:G α):atI (a::b::c::d::e::xs) 4=U e:=gL (j:=4) J
def TH(a b c d e f:α)(xs:G α):atI (a::b::c::d::e::f::xs) 5=U f:=gL (j:=5) J
def Tu(H:Hp)(Q:VK):G V->Prop:=λ ys=>∀ l,H l=L->Q (.ref l) (upd H l (.lst ys))
def Ob(xs:G V)(H:Hp)(Q:VK):Prop:=match xs with
 | [.ref p]=>aJ (dH H p) (Tu H Q)
 | _=>False
theorem zJ:cn X (.type "list") Ob:=by
 refine uo.mono λ xs H Q h=>?_;unfold Ob at h;split at h
 ·rename_i p;let(ys,e,q):=aq h;exact{p,ys,J,jH e,q}
 ·exact h.elim
def J7(p:Z)(H:Hp)(Q:VK):HO->Prop:=λ o=>match o with
 | .lst ys=>∀ l,H l=L->Q (.ref l) (upd H l (.tup ys))
 | .tup _=>Q (.ref p) H
 | _=>False
def Jd(xs:G V)(H:Hp)(Q:VK):Prop:=match xs with
 | [.ref p]=>aJ (H p) (J7 p H Q)
 | _=>False
theorem wb:cn X (.type "tuple") Jd:=by
 refine rG.mono λ xs H Q h=>?_;unfold Jd at h;split at h
 ·rename_i p;let(o,e,q):=aq h;unfold J7 at q;split at q
  ·rename_i ys;exact{p,ys,J,.inl {SqL.of e,q}}
  ·rename_i ys;exact{p,ys,J,.inr {SqT.of e,q}}
  ·exact q.elim
 ·exact h.elim
def RD(xs:G V)(H:Hp)(Q:VK):Prop:=match xs with
 | [.int i,.int j]=>Q (.int (if i<j then j else i)) H
 | _=>False
def PN(i j:B)(H:Hp)(Q:VK):RD [.int i,.int j] H Q=Q (.int (if i<j then j else i)) H:=rfl
theorem jJ(hc:X.calm=Y):cn X (.builtin "max") RD:=by
 refine(EE hc).mono λ xs H Q h=>?_;unfold RD at h;split at h
 ·rename_i i j;exact{(i),j,J,h}
 ·exact h.elim
def RC(xs:G V)(H:Hp)(Q:VK):Prop:=match xs with
 | [.int i,.int j]=>Q (.int (if j<i then j else i)) H
 | _=>False
def PM(i j:B)(H:Hp)(Q:VK):RC [.int i,.int j] H Q=Q (.int (if j<i then j else i)) H:=rfl
theorem sX(hc:X.calm=Y):cn X (.builtin "min") RC:=by
 refine(ED hc).mono λ xs H Q h=>?_;unfold RC at h;split at h
 ·rename_i i j;exact{(i),j,J,h}
 ·exact h.elim
def tyO:HO->Ü String
 | .lst _=>U "list"
 | .tup _=>U "tuple"
 | .frz _ (.lst _)=>U "list"
 | .dK _=>U "dict"
 | .dT _=>U "dict"
 | _=>L
def Bh(xs:G V):tyO (.lst xs)=U "list":=rfl
def lY(xs:G V):tyO (.tup xs)=U "tuple":=rfl
def Av(xs:G (Key × V)):tyO (.dK xs)=U "dict":=rfl
def tyN(H:Hp):V->Ü String
 | .non=>U "NoneType"
 | .bl _=>U "bool"
 | .int _=>U "int"
 | .str _=>U "str"
 | .ref p=>(H p).bind tyO
 | _=>L
def Kv(H:Hp):tyN H .non=U "NoneType":=rfl
def OL(H:Hp)(b:Ý):tyN H (.bl b)=U "bool":=rfl
def Kw(H:Hp)(i:B):tyN H (.int i)=U "int":=rfl
def Kt(H:Hp)(x:Ç):tyN H (.str x)=U "str":=rfl
def Ku(H:Hp)(p:Z):tyN H (.ref p)=(H p).bind tyO:=rfl
theorem OK{x:V}{t:String}(h:tyN H x=U t):wD K H x (.type t):=by
 cases x with
 | non=>cases h;exact .non
 | bl b=>cases h;exact .bl b
 | int i=>cases h;exact .int i
 | str x=>cases h;exact .str x
 | ref p=>
  let h':(H p).bind tyO=U t:=h
  cases e:H p with
  | none=>rw[e] at h';cases h'
  | some o=>
   rw[e] at h';let h2:tyO o=U t:=h'
   cases o with
   | lst xs=>cases h2;exact .lst e
   | tup xs=>cases h2;exact .tup e
   | dK xs=>cases h2;exact .dK e
   | dT xs=>cases h2;exact .dT e
   | frz ob u=>
    cases u with
    | lst xs=>cases h2;exact .frz e
    | _=>cases h2
   | _=>cases h2
 | _=>cases h
def rW:G String:=["NoneType", "bool", "int", "str", "list", "tuple", "dict"]
def UE(t n:String):Ý:=t == n || (t == "bool" && n == "int")
theorem HB(K:Æ):∀ t∈rW,∀ n∈rW,Ô K (.type t) (.type n)=U (UE t n):=by
 intro t ht n hn;unfold rW at ht hn;simp only[mem_cons,not_mem_nil,or_false] at ht hn
 rcases ht with rfl|rfl|rfl|rfl|rfl|rfl|rfl<;>rcases hn with rfl|rfl|rfl|rfl|rfl|rfl|rfl<;>exact Em K _ _ _ (by decide +kernel)
def jU(n:String)(H:Hp)(Q:VK):String->Prop:=λ t=>t∈rW/\Q (.bl (UE t n)) H
def E2(xs:G V)(H:Hp)(Q:VK):Prop:=match xs with
 | [x,.ty n]=>n∈rW/\aJ (tyN H x) (jU n H Q)
 | _=>False
theorem cu:cn X (.builtin "isinstance") E2:=by
 refine Io.mono λ xs H Q h=>?_;unfold E2 at h;split at h
 ·rename_i x n;let(hn,h):=h;let(t,e,ht,q):=aq h;exact{x,n,_,_,J,OK e,HB _ t ht n hn,q}
 ·exact h.elim
theorem yT(x:V)(H:Hp)(Q:VK):E2 [x,.ty "int"] H Q=aJ (tyN H x) (jU "int" H Q):=by
 unfold E2;exact propext {λ h=>h.2,λ h=>{by decide,h}}
theorem vQ(x:V)(H:Hp)(Q:VK):E2 [x,.ty "bool"] H Q=aJ (tyN H x) (jU "bool" H Q):=by
 unfold E2;exact propext {λ h=>h.2,λ h=>{by decide,h}}
theorem uk(x:V)(H:Hp)(Q:VK):E2 [x,.ty "tuple"] H Q=aJ (tyN H x) (jU "tuple" H Q):=by
 unfold E2;exact propext {λ h=>h.2,λ h=>{by decide,h}}
theorem vP(x:V)(H:Hp)(Q:VK):E2 [x,.ty "list"] H Q=aJ (tyN H x) (jU "list" H Q):=by
 unfold E2;exact propext {λ h=>h.2,λ h=>{by decide,h}}
theorem DL(H:Hp)(Q:VK):jU "int" H Q "NoneType"=Q (.bl Á) H:=propext {λ h=>h.2,λ h=>{by decide,h}}
theorem DK(H:Hp)(Q:VK):jU "list" H Q "NoneType"=Q (.bl Á) H:=propext {λ h=>h.2,λ h=>{by decide,h}}
theorem DJ(H:Hp)(Q:VK):jU "tuple" H Q "NoneType"=Q (.bl Á) H:=propext {λ h=>h.2,λ h=>{by decide,h}}
theorem DI(H:Hp)(Q:VK):jU "bool" H Q "bool"=Q (.bl Y) H:=propext {λ h=>h.2,λ h=>{by decide,h}}
theorem DH(H:Hp)(Q:VK):jU "int" H Q "bool"=Q (.bl Y) H:=propext {λ h=>h.2,λ h=>{by decide,h}}
theorem DG(H:Hp)(Q:VK):jU "list" H Q "bool"=Q (.bl Á) H:=propext {λ h=>h.2,λ h=>{by decide,h}}
theorem DF(H:Hp)(Q:VK):jU "tuple" H Q "bool"=Q (.bl Á) H:=propext {λ h=>h.2,λ h=>{by decide,h}}
theorem DB(H:Hp)(Q:VK):jU "bool" H Q "int"=Q (.bl Á) H:=propext {λ h=>h.2,λ h=>{by decide,h}}
theorem DA(H:Hp)(Q:VK):jU "int" H Q "int"=Q (.bl Y) H:=propext {λ h=>h.2,λ h=>{by decide,h}}
theorem Dz(H:Hp)(Q:VK):jU "list" H Q "int"=Q (.bl Á) H:=propext {λ h=>h.2,λ h=>{by decide,h}}
theorem Dy(H:Hp)(Q:VK):jU "tuple" H Q "int"=Q (.bl Á) H:=propext {λ h=>h.2,λ h=>{by decide,h}}
theorem Du(H:Hp)(Q:VK):jU "int" H Q "str"=Q (.bl Á) H:=propext {λ h=>h.2,λ h=>{by decide,h}}
theorem Dt(H:Hp)(Q:VK):jU "list" H Q "str"=Q (.bl Á) H:=propext {λ h=>h.2,λ h=>{by decide,h}}
theorem Ds(H:Hp)(Q:VK):jU "tuple" H Q "str"=Q (.bl Á) H:=propext {λ h=>h.2,λ h=>{by decide,h}}
theorem Dx(H:Hp)(Q:VK):jU "int" H Q "list"=Q (.bl Á) H:=propext {λ h=>h.2,λ h=>{by decide,h}}
theorem Dw(H:Hp)(Q:VK):jU "list" H Q "list"=Q (.bl Y) H:=propext {λ h=>h.2,λ h=>{by decide,h}}
theorem Dv(H:Hp)(Q:VK):jU "tuple" H Q "list"=Q (.bl Á) H:=propext {λ h=>h.2,λ h=>{by decide,h}}
theorem Dr(H:Hp)(Q:VK):jU "int" H Q "tuple"=Q (.bl Á) H:=propext {λ h=>h.2,λ h=>{by decide,h}}
theorem Dq(H:Hp)(Q:VK):jU "list" H Q "tuple"=Q (.bl Á) H:=propext {λ h=>h.2,λ h=>{by decide,h}}
theorem Dp(H:Hp)(Q:VK):jU "tuple" H Q "tuple"=Q (.bl Y) H:=propext {λ h=>h.2,λ h=>{by decide,h}}
theorem DE(H:Hp)(Q:VK):jU "int" H Q "dict"=Q (.bl Á) H:=propext {λ h=>h.2,λ h=>{by decide,h}}
theorem DD(H:Hp)(Q:VK):jU "list" H Q "dict"=Q (.bl Á) H:=propext {λ h=>h.2,λ h=>{by decide,h}}
theorem DC(H:Hp)(Q:VK):jU "tuple" H Q "dict"=Q (.bl Á) H:=propext {λ h=>h.2,λ h=>{by decide,h}}
def R8(r:V->G V->Hp->VK->Prop)(x:V)(Q:VK):G V->Hp->Prop:=λ xs H=>r x xs H Q
def Qy(r:V->G V->Hp->VK->Prop)(x:V)(Q:VK)(xs:G V)(H:Hp):R8 r x Q xs H=r x xs H Q:=rfl
def kBM(K:Æ)(T:String)(r:V->G V->Hp->VK->Prop)(t:TA)(σ:St)(Q:VK):VK:=λ x H=>tyV K T x H/\t σ H (R8 r x Q)
def Tp(K:Æ)(T:String)(r:V->G V->Hp->VK->Prop)(t:TA)(σ:St)(Q:VK)(x:V)(H:Hp):kBM K T r t σ Q x H=(tyV K T x H/\t σ H (R8 r x Q)):=rfl
def SS(K:Æ)(T:String)(r:V->G V->Hp->VK->Prop)(to:TE)(t:TA)(σ:St)(H:Hp)(Q:VK):tBM K T r to t σ H Q=to σ H (kBM K T r t σ Q):=rfl
def Uz(K:Æ)(T:String)(r:V->G V->Hp->VK->Prop)(Q:VK):VK:=λ x H=>tyV K T x H/\r x [] H Q
def Qx(K:Æ)(T:String)(r:V->G V->Hp->VK->Prop)(Q:VK)(x:V)(H:Hp):Uz K T r Q x H=(tyV K T x H/\r x [] H Q):=rfl
def PB(K:Æ)(T:String)(r:V->G V->Hp->VK->Prop)(to:TE)(σ:St)(H:Hp)(Q:VK):T5 K T r to σ H Q=to σ H (Uz K T r Q):=rfl
theorem FL(K:Æ)(p:Z)(H:Hp)(h:(aF H p).isSome=Y):tyV K "list" (.ref p) H=True:=by
 cases e:aF H p with
 | none=>rw[e] at h;cases h
 | some ys=>exact Zx (.inl {J,ys,SqL.of (bO e)})
def UB(l:Z)(y:V)(H:Hp)(Q:VK):G V->Prop:=λ xs=>xs.length<Å/\Q .non (upd H l (.lst (xs++[y])))
def QC(l:Z)(y:V)(H:Hp)(Q:VK)(xs:G V):UB l y H Q xs=(xs.length<Å/\Q .non (upd H l (.lst (xs++[y])))):=rfl
theorem Dk(l:Z)(y:V)(H:Hp)(Q:VK):Br (.ref l) [y] H Q=aJ (aF H l) (UB l y H Q):=by
 refine propext {λ h=>?_,λ h=>?_}
 ·let(_,xs,_,e1,e2,e3,a,b):=h;cases e1;cases e2;let e:aF H l=U xs:=by unfold aF;rw[e3];rfl
  rw[e];exact{(a),b}
 ·let(xs,e,a,b):=aq h;exact{l,xs,y,J,J,bO e,a,b}
def Ut(l:Z)(H:Hp)(Q:VK):G V->Prop:=λ xs=>Q .non (upd H l (.lst xs.reverse))
def Qa(l:Z)(H:Hp)(Q:VK)(xs:G V):Ut l H Q xs=Q .non (upd H l (.lst xs.reverse)):=rfl
theorem yR(l:Z)(H:Hp)(Q:VK):xj (.ref l) [] H Q=aJ (aF H l) (Ut l H Q):=by
 refine propext {λ h=>?_,λ h=>?_}
 ·let(_,xs,e1,_,e3,b):=h;cases e1;let e:aF H l=U xs:=by unfold aF;rw[e3];rfl
  rw[e];exact b
 ·let(xs,e,b):=aq h;exact{l,xs,J,J,bO e,b}
def Tv(xs:G V)(H:Hp)(Q:VK):G V->Prop:=λ ys=>xs.length+ys.length<=Å/\∀ p,H p=L->Q (.ref p) (upd H p (.lst (xs++ys)))
def Tw(b:Z)(H:Hp)(Q:VK):G V->Prop:=λ xs=>aJ (aF H b) (Tv xs H Q)
theorem PF(l b:Z)(H:Hp)(Q:VK):Ub (.ref l) (.ref b) H Q=aJ (aF H l) (Tw b H Q):=by
 refine propext {λ h=>?_,λ h=>?_}
 ·let(l',b',xs,zs,e1,e2,e3,e4,hz,hq):=h;cases e1;cases e2;let e:aF H l=U xs:=by unfold aF;rw[e3];rfl
  let e':aF H b=U zs:=by unfold aF;rw[e4];rfl
  rw[e]
  show aJ (aF H b) _
  rw[e'];exact{(hz),hq}
 ·let(xs,e,q):=aq h;let(zs,e',a,q):=aq q;exact{l,b,xs,zs,J,J,bO e,bO e',a,q}
def Kb(p:Z)(xs:G V)(v:V)(H:Hp)(Q:Hp->Prop):à->Prop:=λ j=>Q (upd H p (.lst (xs.set j v)))
def Mc(p:Z)(xs:G V)(v:V)(H:Hp)(Q:Hp->Prop)(j:à):Kb p xs v H Q j=Q (upd H p (.lst (xs.set j v))):=rfl
def Us(p:Z)(i:B)(v:V)(H:Hp)(Q:Hp->Prop):G V->Prop:=λ xs=>aJ (ixN xs.length i) (Kb p xs v H Q)
def P5(p:Z)(i:B)(v:V)(H:Hp)(Q:Hp->Prop)(xs:G V):Us p i v H Q xs=aJ (ixN xs.length i) (Kb p xs v H Q):=rfl
theorem LN(p:Z)(i:B)(v:V)(H:Hp)(Q:Hp->Prop):Oa (.ref p) (.int i) v H Q=aJ (aF H p) (Us p i v H Q):=by
 refine propext {λ h=>?_,λ h=>?_}
 ·let(_,xs,_,j,e1,e2,e3,e4,b):=h;cases e1;cases e2;let e:aF H p=U xs:=by unfold aF;rw[e3];rfl
  rw[e]
  show aJ (ixN xs.length i) _
  rw[e4];exact b
 ·let(xs,e,q):=aq h;let(j,e4,q):=aq q;exact{p,xs,i,j,J,J,bO e,e4,q}
def A6(t:IJ)(o v:V)(σ:St)(Q:St->Hp->Prop):VK:=λ i H=>t o i v H λ H3=>Q σ H3
def GU(t:IJ)(o v:V)(σ:St)(Q:St->Hp->Prop)(i:V)(H:Hp):A6 t o v σ Q i H=t o i v H (Q σ):=rfl
def Js(ti:TE)(t:IJ)(v:V)(σ:St)(Q:St->Hp->Prop):VK:=λ o H=>ti σ H (A6 t o v σ Q)
def GV(ti:TE)(t:IJ)(v:V)(σ:St)(Q:St->Hp->Prop)(o:V)(H:Hp):Js ti t v σ Q o H=ti σ H (A6 t o v σ Q):=rfl
def QH(to ti:TE)(t:IJ)(v:V)(σ:St)(H:Hp)(Q:St->Hp->Prop):UK to ti t v σ H Q=to σ H (Js ti t v σ Q):=rfl
def kGT(n:à)(t:TGs)(σ:St)(H:Hp)(Q:St->Hp->Prop):G V->Prop:=λ xs=>xs.length=n/\t xs σ H Q
def Th(n:à)(t:TGs)(σ:St)(H:Hp)(Q:St->Hp->Prop)(xs:G V):kGT n t σ H Q xs=(xs.length=n/\t xs σ H Q):=rfl
def qGT(n:à)(t:TGs):TG:=λ v σ H Q=>match v with
 | .ref a=>aJ (Aj H a) (kGT n t σ H Q)
 | _=>False
def SW(n:à)(t:TGs)(a:Z)(σ:St)(H:Hp)(Q:St->Hp->Prop):qGT n t (.ref a) σ H Q=aJ (Aj H a) (kGT n t σ H Q):=rfl
theorem cp{t:TGs}(h:qGT n t v σ H Q):UJ K n t v σ H Q:=by
 unfold qGT at h;split at h
 ·rename_i a;let(xs,e,hl,q):=aq h;exact{a,xs,J,SqT.of (OM e),hl,q}
 ·exact h.elim
def O6:OpR X (compareOp .Is) T9:=O9
def qG:OpR X (compareOp .IsNot) Fb:=Lf
def uG(tb:TS)(D:iG):St->Hp->Prop:=λ σ H=>tb D σ H
def aA(tb:TS)(D:iG)(σ:St)(H:Hp):uG tb D σ H=tb D σ H:=rfl
def JC(g:TG)(tb:TS)(D:iG)(σ:St)(ww:It)(H1:Hp):Prop:=∃ W:à->à->St->Hp->Prop,(∃ m,W 0 m σ H1)/\∀ i m σ H,W i m σ H →
 (ww.stop i H/\D.nx σ H)\/(ww.go i H/\∃ N:St->Hp->Prop,(∀ σ' H',N σ' H'->∃ m',m' < m/\W (i+1) m' σ' H')/\∀ x H',ww.yld i H x H'->g x σ H' λ σ2 H2=>tb { D with nx:=N,ct:=N,bk:=D.nx } σ2 H2)
def Py(wi:TI)(g:TG)(tb:TS)(D:iG)(σ:St)(H:Hp):T3 wi g tb D σ H=wi σ H (JC g tb D σ):=rfl
def kR1(R:It->Hp->Prop):G V->Hp->Prop:=λ vs H=>∃ j:B,vs=[.int j]/\-(2 ^ 62)<=j/\j<2 ^ 62/\R (Itr 0 j.toNat) H
theorem S9(R:It->Hp->Prop)(j:B)(H:Hp):kR1 R [.int j] H=(-(2 ^ 62)<=j/\j<2 ^ 62/\R (Itr 0 j.toNat) H):=propext {λ ⟨_,e,q⟩=>by cases e;exact q,λ q=>{(j),J,q}}
def Mx(ta:TA)(σ:St)(H:Hp)(R:It->Hp->Prop):OB ta σ H R=ta σ H (kR1 R):=rfl
def Fi(K:Æ)(a:Z)(H:Hp)(R:It->Hp->Prop):HO->Prop:=λ o=>match o with
 | .lst _=>R (Itl K a) H
 | .frz _ (.lst _)=>R (Itl K a) H
 | .tup _=>R (Itt K a) H
 | _=>False
def DN(K:Æ)(a:Z)(H:Hp)(R:It->Hp->Prop)(xs:G V):Fi K a H R (.lst xs)=R (Itl K a) H:=rfl
def Rl(K:Æ)(R:It->Hp->Prop):VK:=λ x H=>match x with
 | .ref a=>aJ (H a) (Fi K a H R)
 | _=>False
def Qn(K:Æ)(R:It->Hp->Prop)(a:Z)(H:Hp):Rl K R (.ref a) H=aJ (H a) (Fi K a H R):=rfl
def UH(K:Æ)(tl:TE):TI:=λ σ H R=>tl σ H (Rl K R)
def QF(K:Æ)(tl:TE)(σ:St)(H:Hp)(R:It->Hp->Prop):UH K tl σ H R=tl σ H (Rl K R):=rfl
theorem OZ{tg l:Ò}{tl:TE}(hl:PE X l tl):PI X tg l (UH X.K tl):=by
 intro pins s σ H R I h;refine thn (hl pins s σ H _ I h) λ v s1 ⟨x,H1,I1,r1,q1⟩=>?_;unfold Rl at q1;split at q1
 ·rename_i a;cases r1;let(o,e,q):=aq q1
  let fp:∀ b∈[%[s1|99]],yk X pins H1 b:=λ b hb=>by
   let e:b=%[s1|99]:=by simpa using hb
   subst e;exact I1.fpOk (VF _) (I1.hok.fresh (VF _))
  let lst:∀ xs,SqL X.K H1 a xs->R (Itl X.K a) H1->Ä (É X.prog X.w) X.A (pyIter (.ref a)) (PIE X pins σ tg R) X.xe s1:=λ xs hq q=>by
   let(its,rv,p,hz):=I1.list hq;refine Yh p.isList ?_;exact{%[s1|99],[%[s1|99]],_,_,H1,J,I1.kept (t':=s1.toks) λ b o e=>Vz _ e,CC a _,{_,VG _ J,J,J},fp,q}
  unfold Fi at q;split at q
  ·exact lst _ (SqL.of e) q
  ·exact lst _ (.inl (.inr {_,e})) q
  ·let(its,rv,p,hz):=I1.tuple (SqT.of e);refine wpAny_pyIter_tuple (show s1.heap.IsTuple a its.toArray from p) ?_;exact{%[s1|99],[%[s1|99]],_,_,H1,J,I1.kept (t':=s1.toks) λ b o e=>Vz _ e,yu a _,{_,VG _ J,J,J},fp,q}
  ·exact q.elim
 ·exact q1.elim
def qf{lo:B}(Pv:à->St->Hp->Prop)(h0:Pv 0 σ H)
  (hs:∀ i σ H,i<n->Pv i σ H->g (.int (lo+i)) σ H (uG tb {Pv (i+1),rt,nx,Pv (i+1)})) (hd:∀ σ H,Pv n σ H->nx σ H):JC g tb {(nx),rt,bk,ct} σ (Itr lo n) H:=Eu Pv h0 hs hd
theorem dj{a:Z}(Pv:à->St->Hp->Prop)(h0:Pv 0 σ H)(hl:∀ i σ H,i<=xs.length->Pv i σ H->H a=U (.lst xs))
  (hs:∀ i x σ H,xs[i]? = U x->Pv i σ H->g x σ H (uG tb {Pv (i+1),rt,nx,Pv (i+1)})) (hd:∀ σ H,Pv xs.length σ H->nx σ H):JC g tb {(nx),rt,bk,ct} σ (Itl K a) H:=Ia (xs:=xs) Pv h0 (λ i σ H hi p=>SqL.of (hl i σ H hi p)) hs hd
def kWh(tb:TS)(nx:St->Hp->Prop)(rt:VK)(Pv:à->St->Hp->Prop)(m:à)(σ:St):Ý->Hp->Prop:=λ b H=>if b=Y then tb {λ σ' H'=>∃ m',m' < m/\Pv m' σ' H',rt,nx,λ σ' H'=>∃ m',m' < m/\Pv m' σ' H'} σ H else nx σ H
theorem S7(tb:TS)(nx:St->Hp->Prop)(rt:VK)(Pv:à->St->Hp->Prop)(m:à)(σ:St)(b:Ý)(H:Hp):kWh tb nx rt Pv m σ b H=(if b=Y then tb {λ σ' H'=>∃ m',m' < m/\Pv m' σ' H',rt,nx,λ σ' H'=>∃ m',m' < m/\Pv m' σ' H'} σ H else nx σ H):=rfl
theorem Kp{c:TT}(Pv:à->St->Hp->Prop)(m0:à)(h0:Pv m0 σ H)
  (mono:∀ σ H Q Q',(∀ b H1,Q b H1->Q' b H1)->c σ H Q->c σ H Q')
  (hs:∀ m σ H,Pv m σ H->c σ H (kWh tb nx rt Pv m σ)):Aw c tb {(nx),rt,bk,ct} σ H:=by
 refine{Pv,{(m0),h0},λ m σ H p=>mono σ H _ _ (λ b H1 q=>?_) (hs m σ H p)};unfold kWh at q
 cases b with
 | true=>exact{_,λ σ' H' z=>z,q}
 | false=>exact q
def GG(sp:Sp)(dvs:G V)(E:St->XK)(t:TA)(σ:St)(H:Hp)(Q:VK):IX sp dvs E t σ H Q=t σ H (uF sp dvs (E σ) Q):=rfl
def RL(th:O->Ü Z->TS)(D:iG):St->XK:=λ σ cls d H=>th cls d D σ H
def P0(th:O->Ü Z->TS)(D:iG)(σ:St)(cls:O)(d:Ü Z)(H:Hp):RL th D σ cls d H=th cls d D σ H:=rfl
def Pq(tb:(St->XK)->TS)(th:O->Ü Z->TS)(D:iG)(σ:St)(H:Hp):TV tb th D σ H=tb (RL th D) D σ H:=rfl
def Jr(C:Z)(E:XK):G V->Hp->Prop:=λ vs H=>vs.length<=Å/\E (.ref C) L H
def GO(C:Z)(E:XK)(vs:G V)(H:Hp):Jr C E vs H=(vs.length<=Å/\E (.ref C) L H):=rfl
def GD(C:Z)(E:St->XK)(t:TA)(D:iG)(σ:St)(H:Hp):IT C E t D σ H=t σ H (Jr C (E σ)):=rfl
def J9(i:à)(tb:TS)(D:iG):St->Hp->Prop:=λ σ H=>tb D σ H
def L8(i:à)(tb:TS)(D:iG)(σ:St)(H:Hp):J9 i tb D σ H=tb D σ H:=rfl
def Tq(i:à)(nx:St->Hp->Prop)(rt:VK)(bk ct:St->Hp->Prop):iG.del i {(nx),rt,bk,ct}=⟨JD i nx,rt,JD i bk,JD i ct⟩:=rfl
def Qr(i:à)(nx:St->Hp->Prop)(σ:St)(H:Hp):JD i nx σ H=Sd i σ H nx:=rfl
def GZ:Sd 5 (a0::a1::a2::a3::a4::a::σ) H Q=Q (a0::a1::a2::a3::a4::L::σ) H:=rfl
def gZ(H:Hp):lq H L=True:=rfl
theorem gY(H:Hp)(dx:Z):lq H (U dx)=aJ (H dx) kXd:=by
 refine propext {λ ⟨o,h,k⟩=>by rw[h];exact k,λ h=>?_};let(o,e,k):=aq h;exact{(o),e,k}
def RA:O->Ü Z
 | .ref C=>U C
 | _=>L
def FX(C:Z):RA (.ref C)=U C:=rfl
def Rr:V->Ü O
 | .ref C=>U (.ref C)
 | .ty n=>U (.type n)
 | _=>L
def Ik(C:Z):Rr (.ref C)=U (.ref C):=rfl
def Nh(n:String):Rr (.ty n)=U (.type n):=rfl
def kE4(H:Hp)(Q:VK):Ý->Prop:=λ b=>Q (.bl b) H
def J1(H:Hp)(Q:VK)(b:Ý):kE4 H Q b=Q (.bl b) H:=rfl
def kE3(K:Æ)(C:Z)(H:Hp)(Q:VK):O->Prop:=λ u=>aJ (Ô K (.ref C) u) (kE4 H Q)
def Ti(K:Æ)(C:Z)(H:Hp)(Q:VK)(u:O):kE3 K C H Q u=aJ (Ô K (.ref C) u) (kE4 H Q):=rfl
def kE2(K:Æ)(oe:Obj)(D:V)(H:Hp)(Q:VK):Z->Prop:=λ C=>lq H oe.dict/\(∃ vs,oe.data=.fields vs)/\Af K C/\aJ (Rr D) (kE3 K C H Q)
def Tj(K:Æ)(oe:Obj)(D:V)(H:Hp)(Q:VK)(C:Z):kE2 K oe D H Q C=(lq H oe.dict/\(∃ vs,oe.data=.fields vs)/\Af K C/\aJ (Rr D) (kE3 K C H Q)):=rfl
def kE1(K:Æ)(D:V)(H:Hp)(Q:VK):HO->Prop:=λ o=>match o with
 | .frz oe (.ext _)=>aJ (RA oe.cls) (kE2 K oe D H Q)
 | _=>False
def Tn(K:Æ)(D:V)(H:Hp)(Q:VK)(oe:Obj):kE1 K D H Q (nW oe)=aJ (RA oe.cls) (kE2 K oe D H Q):=rfl
def Q9(K:Æ)(xs:G V)(H:Hp)(Q:VK):Prop:=match xs with
 | [.ref e,D]=>aJ (H e) (kE1 K D H Q)
 | _=>False
def PU(K:Æ)(e:Z)(D:V)(H:Hp)(Q:VK):Q9 K [.ref e,D] H Q=aJ (H e) (kE1 K D H Q):=rfl
theorem EC:cn X (.builtin "isinstance") (Q9 X.K):=by
 refine EF.mono λ xs H Q h=>?_;unfold Q9 at h;split at h
 ·rename_i e D;let(o,h1,h):=aq h;unfold kE1 at h;split at h
  ·rename_i oe φ;let(C,h2,h):=aq h;let(h3,h4,h5,h):=h;let(u,h6,h):=aq h;let(b,h7,h):=aq h
   let hc:oe.cls=.ref C:=by
    cases q:oe.cls with
    | ref C'=>rw[q] at h2;cases h2;rfl
    | _=>rw[q] at h2;cases h2
   refine{e,oe,C,D,b,J,{_,h1},hc,h3,h4,h5,{u,?_,h7},h}
   cases D with
   | ref a=>cases h6;rfl
   | ty n=>cases h6;rfl
   | _=>cases h6
  ·exact h.elim
 ·exact h.elim
def kC3(D:Z)(ys:G V)(N:G V->Hp->Prop):VK:=λ y H=>H D=U (.lst ys)/\ys.length<Å/\N (ys++[y]) (upd H D (.lst (ys++[y])))
def kC2(te:TE)(σ2:St)(D:Z)(ys:G V)(N:G V->Hp->Prop):Ý->Hp->Prop:=λ b H=>if b=Y then te σ2 H (kC3 D ys N) else N ys H
def kC1(k:à)(tt:TT)(te:TE)(σ:St)(D:Z)(ys:G V)(N:G V->Hp->Prop):St->Hp->Prop:=λ σ2 H=>(∃ vs:St,vs.length=k/\σ2=vs++σ)/\tt σ2 H (kC2 te σ2 D ys N)
def Pe(σ:St)(H:Hp)(Q:Ý->Hp->Prop):TU σ H Q=Q Y H:=rfl
def Fl(k:à)(g:TG)(tt:TT)(te:TE)(σ:St)(Q:VK):It->Hp->Prop:=λ ww H1=>∀ D,H1 D=L->∃ W:à->à->G V->Hp->Prop,(∃ m,W 0 m [] (upd H1 D (.lst [])))/\∀ i m ys H,W i m ys H →
 (ww.stop i H/\Q (.ref D) H)\/(ww.go i H/\∃ N:G V->Hp->Prop,(∀ af H',N af H'->∃ m',m' < m/\W (i+1) m' af H') /\
  ∀ x H',ww.yld i H x H'->g x (È k L++σ) H' (kC1 k tt te σ D ys N))
def LG(k:à)(wi:TI)(g:TG)(tt:TT)(te:TE)(σ:St)(H:Hp)(Q:VK):JJ k wi g tt te σ H Q=wi σ H (Fl k g tt te σ Q):=rfl
def Ou(i:à)(σ:St)(nx:St->Hp->Prop):VK:=λ x H=>dc i x σ H nx
def L9(i:à)(σ:St)(nx:St->Hp->Prop)(x:V)(H:Hp):Ou i σ nx x H=dc i x σ H nx:=rfl
def Lz(i:à)(te:TE)(nx:St->Hp->Prop)(rt:VK)(bk ct:St->Hp->Prop)(σ:St)(H:Hp):NX i te {(nx),rt,bk,ct} σ H=te σ H (Ou i σ nx):=rfl
section
variable {tt:TT}{te:TE}{Q:VK}{K:PySem.W.Frag}
end
def aV:G (Ü α)->Ü (G α)
 | []=>U []
 | o::r=>o.bind λ x=>(aV r).map λ xs=>x::xs
def Ah(f:V->Ü PyData):HO->Ü PyData
 | .lst xs=>(aV (xs.map f)).map .list
 | .tup xs=>(aV (xs.map f)).map .tuple
 | _=>L
def dR(H:Hp)(f:V->Ü PyData):V->Ü PyData
 | .non=>U .none
 | .bl b=>U (.bool b)
 | .int i=>U (.int i)
 | .str z=>if PyData.strOk z=Y then U (.str z) else L
 | .ref p=>(H p).bind (Ah f)
 | _=>L
def jm(H:Hp):à->V->Ü PyData
 | 0,_=>L
 | n+1,x=>dR H (jm H n) x
def noD:V->Ü PyData:=λ _=>L
def Jq(H:Hp)(x:V):jm H 6 x=dR H (dR H (dR H (dR H (dR H (dR H noD))))) x:=rfl
def yY(H:Hp)(n:à)(z:Ç):jm H (n+1) (.str z)=if PyData.strOk z=Y then U (.str z) else L:=rfl
def o9(H:Hp)(n:à)(p:Z):jm H (n+1) (.ref p)=(H p).bind (Ah (jm H n)):=rfl
def yZ(H:Hp)(f:V->Ü PyData)(i:B):dR H f (.int i)=U (.int i):=rfl
def eh(H:Hp)(f:V->Ü PyData)(p:Z):dR H f (.ref p)=(H p).bind (Ah f):=rfl
def ko(f:V->Ü PyData)(xs:G V):Ah f (.lst xs)=(aV (xs.map f)).map .list:=rfl
def ef(f:V->Ü PyData)(xs:G V):Ah f (.tup xs)=(aV (xs.map f)).map .tuple:=rfl
def rD:aV ([]:G (Ü α))=U []:=rfl
theorem fG(x:α)(r:G (Ü α)):aV (U x::r)=(aV r).map λ xs=>x::xs:=rfl
theorem fg(H:Hp)(f:V->Ü PyData):∀ ns:G B,aV ((ns.map V.int).map (dR H f))=U (ns.map PyData.int)
 | []=>rfl
 | i::r=>by
  show (aV ((r.map V.int).map (dR H f))).map _=_
  rw[fg H f r];rfl
theorem qN(ih:∀ x d,jm H n x=U d->pX K H x d/\d.canLay0=Y/\d.depth<=n):∀ (xs:G V) (ds:G PyData),aV (xs.map (jm H n))=U ds->lT K H xs ds/\PyData.canLayAll0 ds=Y/\PyData.depthAll ds<=n
 | [],ds,h=>by cases h;exact{.nil,J,Wz _}
 | x::xs,ds,h=>by
  let h':(jm H n x).bind (λ d=>(aV (xs.map (jm H n))).map λ ds=>d::ds)=U ds:=h
  cases e:jm H n x with
  | none=>rw[e] at h';cases h'
  | some d=>
   rw[e] at h';let h2:(aV (xs.map (jm H n))).map (λ ds=>d::ds)=U ds:=h'
   cases e2:aV (xs.map (jm H n)) with
   | none=>rw[e2] at h2;cases h2
   | some es=>
    rw[e2] at h2;cases h2;let(a,b,c):=ih x d e;let(a',b',c'):=qN ih xs es e2;exact{.cons a a',by simp[PyData.canLayAll0,b,b'],by simp only[PyData.depthAll];omega}
theorem mm:∀ (n:à) (x:V) (d:PyData),jm H n x=U d->pX K H x d/\d.canLay0=Y/\d.depth<=n
 | 0,x,d,h=>by cases h
 | n+1,x,d,h=>by
  cases x with
  | non=>cases h;exact{.non,J,Wz _}
  | bl b=>cases h;exact{.bl b,J,Wz _}
  | int i=>cases h;exact{.int i,J,Wz _}
  | str z=>
   rw[yY] at h;split at h
   ·rename_i hz;cases h;exact{.str z,by simpa [PyData.canLay0] using hz,Wz _}
   ·cases h
  | ref p=>
   rw[o9] at h
   cases e:H p with
   | none=>rw[e] at h;cases h
   | some o=>
    rw[e] at h;let h':Ah (jm H n) o=U d:=h
    cases o with
    | lst xs=>
     rw[ko] at h'
     cases e2:aV (xs.map (jm H n)) with
     | none=>rw[e2] at h';cases h'
     | some ds=>
      rw[e2] at h';cases h';let(a,b,c):=qN (K:=K) (mm n) xs ds e2;exact{.lst (SqL.of e) a,by simpa [PyData.canLay0] using b,by simp only[PyData.depth];omega}
    | tup xs=>
     rw[ef] at h'
     cases e2:aV (xs.map (jm H n)) with
     | none=>rw[e2] at h';cases h'
     | some ds=>
      rw[e2] at h';cases h';let(a,b,c):=qN (K:=K) (mm n) xs ds e2;exact{.tup (SqT.of e) a,by simpa [PyData.canLay0] using b,by simp only[PyData.depth];omega}
    | _=>cases h'
  | _=>cases h
theorem fY{x:V}{d:PyData}(hn:n<=64)(h:jm H n x=U d):pX K H x d/\SeqAt.shaped d=Y:=by
 let(a,b,c):=mm (K:=K) n x d h;refine{a,?_};unfold SeqAt.shaped;rw[b,decide_eq_true (show d.depth<=64 by omega)];rfl
def Rm(neg:Ý)(H:Hp)(Q:VK)(d:PyData):PyData->Prop:=λ e=>Q (.bl (if neg=Y then !PyData.eqv d e else PyData.eqv d e)) H
def GX(H:Hp)(Q:VK)(d e:PyData):Rm Y H Q d e=Q (.bl (!PyData.eqv d e)) H:=rfl
def xx(H:Hp)(Q:VK)(d e:PyData):Rm Á H Q d e=Q (.bl (PyData.eqv d e)) H:=rfl
def Rn(neg:Ý)(y:V)(H:Hp)(Q:VK):PyData->Prop:=λ d=>aJ (jm H 6 y) (Rm neg H Q d)
def Jp(neg:Ý)(y:V)(H:Hp)(Q:VK)(d:PyData):Rn neg y H Q d=aJ (jm H 6 y) (Rm neg H Q d):=rfl
def qEq(neg:Ý):R2:=λ x y H Q=>if NB x y=Y then Q (.bl (if neg=Y then !decide (x=y) else decide (x=y))) H else aJ (jm H 6 x) (Rn neg y H Q)
theorem Dl(neg:Ý)(p:Z)(y:V)(H:Hp)(Q:VK):qEq neg (.ref p) y H Q=aJ (jm H 6 (.ref p)) (Rn neg y H Q):=by
 show (if NB (.ref p) y=Y then _ else _)=_
 rw[VY (by cases y<;>exact VJ)]
theorem yU(neg:Ý)(p:Z)(x:V)(H:Hp)(Q:VK):qEq neg x (.ref p) H Q=aJ (jm H 6 x) (Rn neg (.ref p) H Q):=by
 show (if NB x (.ref p)=Y then _ else _)=_
 rw[VY (by cases x<;>exact VJ)]
theorem rC(i:B)(j:B)(H:Hp)(Q:VK):qEq Á (V.int i) (V.int j) H Q=Q (.bl (decide (i=j))) H:=by
 let e:decide (((V.int i):V)=(V.int j))=decide (i=j):=by simp
 show Q (.bl (if Á=Y then !decide ((V.int i)=(V.int j)) else decide ((V.int i)=(V.int j)))) H=_
 rw[e];rfl
theorem rB(i:B)(j:B)(H:Hp)(Q:VK):qEq Y (V.int i) (V.int j) H Q=Q (.bl (!decide (i=j))) H:=by
 let e:decide (((V.int i):V)=(V.int j))=decide (i=j):=by simp
 show Q (.bl (if Y=Y then !decide ((V.int i)=(V.int j)) else decide ((V.int i)=(V.int j)))) H=_
 rw[e];rfl
theorem rA(i:Ç)(j:Ç)(H:Hp)(Q:VK):qEq Y (V.str i) (V.str j) H Q=Q (.bl (!decide (i=j))) H:=by
 let e:decide (((V.str i):V)=(V.str j))=decide (i=j):=by simp
 show Q (.bl (if Y=Y then !decide ((V.str i)=(V.str j)) else decide ((V.str i)=(V.str j)))) H=_
 rw[e];rfl
theorem br(hu:X.A.units+64<cLine):OpR X (compareOp .Eq) (qEq Á):=by
 refine(Sx.or (Pa hu)).mono λ x y H Q h=>?_;unfold qEq at h;split at h
 ·rename_i hs;exact .inl {(hs),h}
 let(d,e1,h):=aq h;let(e,e2,h):=aq h;let(a,b):=fY (K:=X.K) (by decide) e1;let(a',b'):=fY (K:=X.K) (by decide) e2;exact .inr {(d),e,a,a',b,b',h}
theorem bM(hu:X.A.units+64<cLine):OpR X (compareOp .NotEq) (qEq Y):=by
 refine(Su.or (O7 hu)).mono λ x y H Q h=>?_;unfold qEq at h;split at h
 ·rename_i hs;exact .inl {(hs),h}
 let(d,e1,h):=aq h;let(e,e2,h):=aq h;let(a,b):=fY (K:=X.K) (by decide) e1;let(a',b'):=fY (K:=X.K) (by decide) e2;exact .inr {(d),e,a,a',b,b',h}
def Nf(i j:B):PyData.eqv (.int i) (.int j)=decide (i=j):=Bool.beq_eq_decide_eq i j
theorem Ig(i j:Ý):PyData.eqv (.bool i) (.bool j)=decide (i=j):=by cases i<;>cases j<;>rfl
theorem fN(xs ys:G PyData):PyData.eqv (.tuple xs) (.tuple ys)=PyData.eqvAll xs ys:=by simp only[PyData.eqv]
theorem xH(xs ys:G PyData):PyData.eqv (.list xs) (.list ys)=PyData.eqvAll xs ys:=by simp only[PyData.eqv]
def fP:PyData.eqvAll [] []=Y:=by simp only[PyData.eqvAll]
theorem dq(x y:PyData)(xs ys:G PyData):PyData.eqvAll (x::xs) (y::ys)=(PyData.eqv x y && PyData.eqvAll xs ys):=by simp only[PyData.eqvAll]
theorem lM(x:PyData)(xs:G PyData):PyData.eqvAll (x::xs) []=Á:=by simp only[PyData.eqvAll]
theorem xI(x:PyData)(xs:G PyData):PyData.eqvAll [] (x::xs)=Á:=by simp only[PyData.eqvAll]
theorem eG:∀ ns ms:G B,PyData.eqvAll (ns.map PyData.int) (ms.map PyData.int)=decide (ns=ms)
 | [],[]=>by rw[YC,fP];rfl
 | [],_::_=>by rw[YC,Wr,xI];rfl
 | _::_,[]=>by rw[YC,Wr,lM];rfl
 | i::r,j::t=>by
  rw[Wr,Wr,dq,Nf,eG r t]
  by_cases h:i=j<;>by_cases h2:r=t<;>simp[h,h2]
def Nv(i j:B):Si i j=(0<j/\j<1073741824):=rfl
theorem Q4(i j:B)(h:-18446744073709551616<i)(h':i<18446744073709551616):oG i j=True:=Zx (.inl {by omega,by omega})
theorem Q3(i j:B)(h:-18446744073709551616<j)(h':j<18446744073709551616):oG i j=True:=Zx (.inr {by omega,by omega})
def Tr(n:à)(h:n<=1000):(n<=Å)=True:=Zx (Yf (sy h))
def J4(n:à)(h:n<=1000):(n<Å)=True:=Zx (sy h)
theorem Ext.of(h:∀ a,(H a).isSome=Y->H' a=H a):Ext H H':={h,λ K a xs q=>by
 let s:nY H H':=λ b o e=>(h b (by rw[e];rfl)).trans e;exact s.seq q}
theorem Ext.same(h:Ext H H'):nY H H':=λ b o e=>(h.1 b (by rw[e];rfl)).trans e
theorem nY.ext(h:nY H H'):Ext H H':=Ext.of λ a q=>by
 cases e:H a with
 | none=>rw[e] at q;cases q
 | some o=>exact h a o e
def Ext.refl(H:Hp):Ext H H:=(nY.refl H).ext
def Ext.trans{H2:Hp}(a:Ext H H1)(b:Ext H1 H2):Ext H H2:=(a.same.trans b.same).ext
def Ext.new(h:H p=L):Ext H (upd H p o):=(FV h).ext
theorem Ext.put(a:Ext H H1)(h:H p=L):Ext H (upd H1 p o):=nY.ext λ b u e=>by
 rw[ag (ba e h)];exact a.same b u e
def Ext.free(a:Ext H H1)(h:H1 p=L):H p=L:=a.same.free h
def Ext.at(a:Ext H H1)(h:H p=U o):H1 p=U o:=a.same _ _ h
theorem BC{k:V->Prop}(h0:0<=i)(h1:i<xs.length)(h:∀ v∈xs,k v):aJ (atI xs i) k:=by
 let(v,e,m):=Jz xs i h0 h1;rw[e];exact h v m
def Vg(CX:CXT)(P:Ë)(w:Ï)(K:Æ)(mg:Ç->Ü O)(base:Í)(N:G Ç)(qual:Ç)(scope:Scope)(f:Z)(cd:O)(A:Î)(outer:G Env)(s:À)(H:Hp)(E:XK):(Ai cb CX P w K mg base N qual scope f cd A outer s H E).K=K:=rfl
def dm(h:X.K=K):cn X (.builtin "isinstance") (Q9 K):=h ▸ EC
theorem xK(h:Ö K C=Y):(W.clsIn K C).isSome=Y:=by
 let(cd,hc,_):=W.any_some h;rw[hc];rfl
theorem MO{A:Z}(h1:Ö K C=Y)(h2:Ú K (.ref C)=U (.type "type"))(h3:W.subIn K (.ref A) (.ref C)=U Y):Ô K (.ref A) (.ref C)=U Y:=by
 unfold Ô;split
 ·rfl
 ·show (if _ then _ else _)=_
  rw[xK h1,h2,V7 (by decide),h3]
theorem QL{A:Z}(h0:(A == C)=Á)(h1:Ö K C=Y)(h2:Ú K (.ref C)=U (.type "type"))(h3:W.subIn K (.ref A) (.ref C)=U Á):Ô K (.ref A) (.ref C)=U Á:=by
 unfold Ô;rw[if_neg (by intro z;let e:A=C:=Value.ref.inj (beq_iff_eq.mp z);rw[e] at h0;simp at h0)]
 show (if _ then _ else _)=_
 rw[xK h1,h2,V7 (by decide),h3]
theorem QK{A:Z}{n:String}{b:Ý}(h1:W.kitMeta n=Y)(h3:W.subIn K (.ref A) (.type n)=U b):Ô K (.ref A) (.type n)=U b:=by
 unfold Ô;rw[if_neg (by intro z;let e:=beq_iff_eq.mp z;cases e)]
 show (if _ then _ else _)=_
 rw[V7 h1,h3]
def isW(H:Hp):V->Ü Ý
 | .int _=>U Y
 | .bl _=>U Á
 | .non=>U Á
 | .str _=>U Á
 | .ref p=>((H p).bind tyO).map λ _=>Á
 | _=>L
def HF(H:Hp)(i:B):isW H (.int i)=U Y:=rfl
def MU(H:Hp)(i:Ý):isW H (.bl i)=U Á:=rfl
def HE(H:Hp):isW H .non=U Á:=rfl
def HD(H:Hp)(i:Ç):isW H (.str i)=U Á:=rfl
theorem eS(H:Hp)(p:Z):isW H (.ref p)=((H p).bind tyO).map λ _=>Á:=rfl
theorem ft{b:Ý}(h:isW H (.ref p)=U b):b=Á/\∃ o,H p=U o/\(tyO o=U "list" \/ tyO o=U "tuple" \/ tyO o=U "dict"):=by
 rw[eS] at h
 cases e:H p with
 | none=>rw[e] at h;cases h
 | some o=>
  rw[e] at h;let h':(tyO o).map (λ _=>Á)=U b:=h
  cases e2:tyO o with
  | none=>rw[e2] at h';cases h'
  | some t=>
   rw[e2] at h';cases h';refine{J,o,J,?_}
   cases o with
   | lst xs=>exact .inl J
   | tup xs=>exact .inr (.inl J)
   | dK xs=>exact .inr (.inr J)
   | dT xs=>exact .inr (.inr J)
   | frz ob u=>cases u with
    | lst xs=>exact .inl J
    | _=>cases e2
   | _=>cases e2
def ME(t:TE):Prop:=∀ σ H (Q Q':VK),(∀ v H,Q v H->Q' v H)->t σ H Q->t σ H Q'
def MT(t:TT):Prop:=∀ σ H (Q Q':Ý->Hp->Prop),(∀ b H,Q b H->Q' b H)->t σ H Q->t σ H Q'
def MA(t:TA):Prop:=∀ σ H (Q Q':G V->Hp->Prop),(∀ b H,Q b H->Q' b H)->t σ H Q->t σ H Q'
def MR(r:R2):Prop:=∀ x y H (Q Q':VK),(∀ v H,Q v H->Q' v H)->r x y H Q->r x y H Q'
theorem eA{o:Ü α}{k k':α->Prop}(m:∀ x,k x->k' x)(h:aJ o k):aJ o k':=by
 let(x,e,q):=aq h;rw[e];exact m x q
def A3{i:à}:ME (Q5 i):=λ σ H Q Q' m ⟨v,e,q⟩=>{v,e,m _ _ q}
def Uj:ME (tC v):=λ σ H Q Q' m q=>m _ _ q
theorem Om{r:R2}{a b:TE}(hr:MR r)(ha:ME a)(hb:ME b):ME (tOp r a b):=λ σ H Q Q' m q=>ha σ H _ _ (λ _ _ q=>hb σ _ _ _ (λ _ _ q=>hr _ _ _ _ _ m q) q) q
def xv:MR Fb:=λ x y H Q Q' m ⟨e,q⟩=>{e,m _ _ q}
theorem Jl{n:Ý}:MR (qEq n):=λ x y H Q Q' m q=>by
 unfold qEq at q ⊢
 by_cases hs:NB x y=Y
 ·rw[V7 hs] at q ⊢;exact m _ _ q
 ·rw[VY hs] at q ⊢;exact eA (λ _ q=>eA (λ _ q=>m _ _ q) q) q
def Jm:MA NI:=λ σ H Q Q' m q=>m _ _ q
theorem uZ{t:TE}(h:ME t):MT (JI t):=λ σ H Q Q' m q=>h σ H _ _ (λ _ _ ⟨k,e,q⟩=>{k,e,m _ _ q}) q
theorem Bf{c:TT}(mono:MT c)(Pv:à->St->Hp->Prop)(m0:à)(h0:Pv m0 σ H)
  (hs:∀ m σ H,Pv m σ H->c σ H (kWh tb nx rt Pv m σ)):Aw c tb {(nx),rt,bk,ct} σ H:=Kp Pv m0 h0 (λ σ H Q Q'=>mono σ H Q Q') hs
theorem xD:∀ {ns ms:G B},ns.map V.int=ms.map V.int->ns=ms
 | [],[],_=>rfl
 | [],_::_,h=>by cases h
 | _::_,[],h=>by cases h
 | i::r,j::t,h=>by
  simp only[Wr,ZE,V.int.injEq] at h;rw[h.1,xD h.2]
def jn(F:G B->Prop):G V->Prop:=λ xs=>∃ ns,xs=ns.map V.int/\F ns
theorem BJ(F:G B->Prop)(ns:G B):jn F (ns.map V.int)=F ns:=propext {λ ⟨ms,e,h⟩=>by rw[xD e];exact h,λ h=>{(ns),J,h}}
def DM(F:G B->Prop)(a:B):jn F [.int a]=F [a]:=BJ F [a]
theorem jG{k:V->Prop}(P:B->Prop)(h0:0<=i)(h1:i<xs.length)(hx:∀ v∈xs,∃ j,v=.int j/\P j)(h:∀ j,P j->k (.int j)):aJ (atI xs i) k:=BC h0 h1 λ v hv=>by
 let(j,rfl,hj):=hx v hv;exact h j hj
def xR(i j:B)(h:i.natAbs<2 ^ 256)(h':j.natAbs<2 ^ 256):Kl i j=True:=Zx {(h),h'}
def Vd(lo hi:Ü B)(H:Hp)(Q:VK):G V->Prop:=λ xs=>∀ p,H p=L->Q (.ref p) (upd H p (.lst (uD xs lo hi)))
def Ud:V->Ü B->Ü B->Hp->VK->Prop:=λ x lo hi H Q=>match x with
 | .ref a=>aJ (aF H a) (Vd lo hi H Q)
 | _=>False
theorem UW:SlR X Ud:=KA.mono λ x lo hi H Q h=>by
 unfold Ud at h;split at h
 ·rename_i a;let(xs,e,q):=aq h;exact{a,xs,J,SqL.of (bO e),q}
 ·exact h.elim
def RM(r:V->Ü B->Ü B->Hp->VK->Prop)(x:V)(l:Ü B)(Q:VK):Ü B->Hp->Prop:=λ u H=>r x l u H Q
def P1(r:V->Ü B->Ü B->Hp->VK->Prop)(x:V)(l:Ü B)(Q:VK)(u:Ü B)(H:Hp):RM r x l Q u H=r x l u H Q:=rfl
def RN(r:V->Ü B->Ü B->Hp->VK->Prop)(th:TO)(σ:St)(x:V)(Q:VK):Ü B->Hp->Prop:=λ l H=>th σ H (RM r x l Q)
def P2(r:V->Ü B->Ü B->Hp->VK->Prop)(th:TO)(σ:St)(x:V)(Q:VK)(l:Ü B)(H:Hp):RN r th σ x Q l H=th σ H (RM r x l Q):=rfl
def Ur(r:V->Ü B->Ü B->Hp->VK->Prop)(tl th:TO)(σ:St)(Q:VK):VK:=λ x H=>tl σ H (RN r th σ x Q)
def P4(r:V->Ü B->Ü B->Hp->VK->Prop)(tl th:TO)(σ:St)(Q:VK)(x:V)(H:Hp):Ur r tl th σ Q x H=tl σ H (RN r th σ x Q):=rfl
def SJ(r:V->Ü B->Ü B->Hp->VK->Prop)(te:TE)(tl th:TO)(σ:St)(H:Hp)(Q:VK):tSl r te tl th σ H Q=te σ H (Ur r tl th σ Q):=rfl
def Di(σ:St)(H:Hp)(Q:Ü B->Hp->Prop):Bj σ H Q=Q L H:=rfl
def Ov(Q:Ü B->Hp->Prop):VK:=λ x H=>∃ i,x=.int i/\Q (U i) H
theorem Mf(Q:Ü B->Hp->Prop)(i:B)(H:Hp):Ov Q (.int i) H=Q (U i) H:=propext {λ ⟨_,e,q⟩=>by cases e;exact q,λ q=>{(i),J,q}}
def LA(t:TE)(σ:St)(H:Hp)(Q:Ü B->Hp->Prop):NY t σ H Q=t σ H (Ov Q):=rfl
def ll(o:HO)(H:Hp)(Q:VK):Prop:=∀ (p:Z) (H':Hp),H p=L->Ext H H'->H' p=U o->Q (.ref p) H'
theorem ll.to{Q:VK}(h:ll o H Q):∀ p,H p=L->Q (.ref p) (upd H p o):=λ p hp=>h p _ hp (Ext.new hp) aj
def kQT(Q:VK):G V->Hp->Prop:=λ xs H=>xs.length<=Å/\ll (.tup xs) H Q
def Ta(Q:VK)(xs:G V)(H:Hp):kQT Q xs H=(xs.length<=Å/\ll (.tup xs) H Q):=rfl
def kQL(Q:VK):G V->Hp->Prop:=λ xs H=>xs.length<=Å/\ll (.lst xs) H Q
def Tb(Q:VK)(xs:G V)(H:Hp):kQL Q xs H=(xs.length<=Å/\ll (.lst xs) H Q):=rfl
def Uc(t:TA):TE:=λ σ H Q=>t σ H (kQT Q)
def PJ(t:TA)(σ:St)(H:Hp)(Q:VK):Uc t σ H Q=t σ H (kQT Q):=rfl
def RE(t:TA):TE:=λ σ H Q=>t σ H (kQL Q)
def PQ(t:TA)(σ:St)(H:Hp)(Q:VK):RE t σ H Q=t σ H (kQL Q):=rfl
theorem KZ{x1}(h:PA X es t):PE X (.Tuple es x1 pos) (Uc t):=by
 intro pins s σ H Q I hq;refine wpAny_Tuple_spliced (thn (h pos pins s σ H _ I hq) λ us s1 ⟨xs,H1,I1,r,z,q⟩=>{by rw[←r.length];exact z,?_});let hf:H1 %[s1|99]=L:=I1.hok.fresh (VF _);refine{.ref %[s1|99],upd H1 %[s1|99] (.tup xs),I1.laid (t':=s1.toks) (λ b u e=>Vz _ e) (VF _) ?_,J,q.to _ hf};exact{z,us,r,{_,VG _ J,J,_,J}}
theorem K0(h:PA X es t):PE X (.List es pos) (RE t):=by
 intro pins s σ H Q I hq;refine wpAny_List_spliced (thn (h pos pins s σ H _ I hq) λ us s1 ⟨xs,H1,I1,r,z,q⟩=>{by rw[←r.length];exact z,?_});let hf:H1 %[s1|99]=L:=I1.hok.fresh (VF _);refine{.ref %[s1|99],upd H1 %[s1|99] (.lst xs),I1.laid (t':=s1.toks) (λ b u e=>Vz _ e) (VF _) ?_,J,q.to _ hf};exact{z,us,0,r,VG _ J}
def kN(f:G V->HO)(H:Hp)(Q:VK):G V->Prop:=λ ys=>ll (f ys) H Q
def U9(f:G V->HO)(H:Hp)(Q:VK)(ys:G V):kN f H Q ys=ll (f ys) H Q:=rfl
def JZ(xs:G V)(H:Hp)(Q:VK):Prop:=match xs with
 | [.ref p]=>aJ (dH H p) (kN .lst H Q)
 | _=>False
def LU(p:Z)(H:Hp)(Q:VK):JZ [.ref p] H Q=aJ (dH H p) (kN .lst H Q):=rfl
theorem iC:cn X (.type "list") JZ:=zJ.mono λ xs H Q h=>by
 unfold JZ at h;split at h
 ·exact eA (λ _ q=>q.to) h
 ·exact h.elim
def kNT(p:Z)(H:Hp)(Q:VK):HO->Prop:=λ o=>match o with
 | .lst ys=>ll (.tup ys) H Q
 | .tup _=>Q (.ref p) H
 | _=>False
def Mh(p:Z)(H:Hp)(Q:VK)(ys:G V):kNT p H Q (.lst ys)=ll (.tup ys) H Q:=rfl
def AX(xs:G V)(H:Hp)(Q:VK):Prop:=match xs with
 | [.ref p]=>aJ (H p) (kNT p H Q)
 | _=>False
def GI(p:Z)(H:Hp)(Q:VK):AX [.ref p] H Q=aJ (H p) (kNT p H Q):=rfl
theorem jc:cn X (.type "tuple") AX:=wb.mono λ xs H Q h=>by
 unfold AX at h;split at h
 ·refine eA (λ o q=>?_) h;unfold kNT at q;unfold J7;split at q
  ·exact q.to
  ·exact q
  ·exact q.elim
 ·exact h.elim
def Rj(xs:G V)(H:Hp)(Q:VK):G V->Prop:=λ ys=>xs.length+ys.length<=Å/\ll (.lst (xs++ys)) H Q
def Qg(xs:G V)(H:Hp)(Q:VK)(ys:G V):Rj xs H Q ys=(xs.length+ys.length<=Å/\ll (.lst (xs++ys)) H Q):=rfl
def RV(b:Z)(H:Hp)(Q:VK):G V->Prop:=λ xs=>aJ (aF H b) (Rj xs H Q)
def Qh(b:Z)(H:Hp)(Q:VK)(xs:G V):RV b H Q xs=aJ (aF H b) (Rj xs H Q):=rfl
def Rc:R2:=λ x y H Q=>match x,y with
 | .ref l,.ref b=>aJ (aF H l) (RV b H Q)
 | _,_=>False
def Jn(l b:Z)(H:Hp)(Q:VK):Rc (.ref l) (.ref b) H Q=aJ (aF H l) (RV b H Q):=rfl
theorem bb:OpR X (binaryOp .Add) Rc:=Pb.mono λ x y H Q h=>by
 unfold Rc at h;split at h
 ·rw[PF];exact eA (λ _ q=>eA (λ _ q=>{(q.1),q.2.to}) q) h
 ·exact h.elim
def kNS(lo hi:Ü B)(H:Hp)(Q:VK):G V->Prop:=λ xs=>ll (.lst (uD xs lo hi)) H Q
def Te(lo hi:Ü B)(H:Hp)(Q:VK)(xs:G V):kNS lo hi H Q xs=ll (.lst (uD xs lo hi)) H Q:=rfl
def nSl:V->Ü B->Ü B->Hp->VK->Prop:=λ x lo hi H Q=>match x with
 | .ref a=>aJ (aF H a) (kNS lo hi H Q)
 | _=>False
def SX(a:Z)(lo hi:Ü B)(H:Hp)(Q:VK):nSl (.ref a) lo hi H Q=aJ (aF H a) (kNS lo hi H Q):=rfl
theorem yg:SlR X nSl:=UW.mono λ x lo hi H Q h=>by
 unfold nSl at h;split at h
 ·exact eA (λ _ q=>q.to) h
 ·exact h.elim
theorem PE.mono{e:Ò}{t t':TE}(h:PE X e t)(m:∀ σ H Q,t' σ H Q->t σ H Q):PE X e t':=λ pins s σ H Q I q=>h pins s σ H Q I (m _ _ _ q)
def Oj:TE:=λ _ H Q=>ll (.dK []) H Q
def LV(σ:St)(H:Hp)(Q:VK):Oj σ H Q=ll (.dK []) H Q:=rfl
def lK:PE X (.Dict [] [] pos) Oj:=Gn.mono λ _ _ _ h=>h.to
def Itv(K:Æ)(a:Z)(xs:G V):It:=
 ⟨λ i H=>SqL K H a xs/\i<xs.length,λ i H x H'=>H'=H/\xs[xs.length - 1 - i]? = U x,λ i _=>i=xs.length⟩
theorem kD{Q:Ü O->À->Prop}(hs:SfN A s.heap [])(hit:s.heap.IsRevIter it l (-1))
  (hQ:∀ h',Heap.ExtBut it s.heap h'->Q L { s with heap:=h' }):Ä (É prog w) A (pyNext (.ref it)) Q E s:=by
 let(o,ho,hc,hd):=id hit;unfold pyNext
 refine My (WR (Wb (name:=Õ "__next__") hit.typeIs F.slot_lri_next
  (Wu F.slot_lri_next hit.typeIs F.entry_lri_next ?_ (F.args_lri_next_1 _))))
 unfold Builtin.«list_reverseiterator.__next__»;refine wpAny_bind (wpAny_of_eq (a:=(Ê it,[])) J ?_)
 try dsimp only
 refine My (VV ho hd (x:=rawInt (-1)) J ?_)
 show Ä _ _ (if (-1:B)<0 then _ else _) _ _ s
 rw[V7 (by decide)];refine My (Xr ?_)
 first
 | show Ä _ _ (newExc (.type "StopIteration") [] >>= _) _ _ _
 | (refine My ?_;show Ä _ _ (newExc (.type "StopIteration") [] >>= _) _ _ _)
 refine jV hs λ h' e kp af=>?_;refine My (Xg (T := "StopIteration") (b:=Y) af XT ?_);exact VC (hQ _ λ b o _ q=>kp b o q)
theorem FO{tg:Ò}(a it:Z)(xs:G V):E4 P w K A tg (Itv K a xs) [it] it (λ i h=>i<=xs.length/\h.IsRevIter it a ((xs.length:B) - 1 - (i:B))) where
 mem:=by simp
 obj:=λ i h st b hb=>by
  let e:b=it:=by simpa using hb
  subst e;let(_,o,e,c,d):=st;exact{o,e,λ v z=>by rw[d] at z;cases z}
 keep:=λ i h h' st k=>{st.1,st.2.at λ o e=>k it (by simp) o e}
 item:=by
  intro X hP hw hK hc i pins s σ H E I hf st hg;subst hP hw hK;let(hq,aX):=hg;let(its,rv,p,hz):=I.list hq;let hx:xs[xs.length - 1 - i]? = U (xs[xs.length - 1 - i]'(by omega)):=VA (by omega);let(u,hu,ru):=rv.get hx;let(f0,f1,f2,f3,f4,f5):=hf it (by simp);let af:=st.2;rw[show ((xs.length:B) - 1 - (i:B))=((xs.length - 1 - i:à):B) by omega] at af;refine wpAny_pyNext_rev_item af p.isList (x:=u) (by simpa using hu) λ h' aS sb=>?_;let I1:Inv X pins σ H { s with heap:=h' }:=I.turned (t':=s.toks) (λ b o hb e=>(sb.2 b hb).trans e) f0 f1 f3 f4 f5;let(o,e,c,d):=id aS;rw[show (((xs.length - 1 - i:à):B) - 1)=(xs.length:B) - 1 - ((i+1:à):B) by omega] at aS;exact{u,J,Fs (s:={ s with heap:=h' }) e c d (by decide) {_,H,I1,ru,{(J),hx},{(aX),aS},λ b hb=>(hf b hb).1}}
 done:=by
  intro X hP hw hK hc i pins s σ H E I hf st hg;subst hP hw hK;let e:i=xs.length:=hg;subst e;let(f0,f1,f2,f3,f4,f5):=hf it (by simp);let af:=st.2;rw[show ((xs.length:B) - 1 - (xs.length:B))=-1 by omega] at af;exact kD (I.sfn [] λ _ z=>nomatch z) af λ h' eb=>{J,I.turned (t':=s.toks) (λ b o hb e=>eb b o hb e) f0 f1 f3 f4 f5}
 self:=λ _ _ _ _ _ st h=>wpAny_pyIter_revIter st.2 h
def RO(K:Æ)(a:Z)(H:Hp)(R:It->Hp->Prop):G V->Prop:=λ xs=>R (Itv K a xs) H
def P6(K:Æ)(a:Z)(H:Hp)(R:It->Hp->Prop)(xs:G V):RO K a H R xs=R (Itv K a xs) H:=rfl
def Rg(K:Æ)(R:It->Hp->Prop):G V->Hp->Prop:=λ vs H=>match vs with
 | [.ref a]=>aJ (aF H a) (RO K a H R)
 | _=>False
def P7(K:Æ)(R:It->Hp->Prop)(a:Z)(H:Hp):Rg K R [.ref a] H=aJ (aF H a) (RO K a H R):=rfl
def UI(K:Æ)(ta:TA):TI:=λ σ H R=>ta σ H (Rg K R)
def QG(K:Æ)(ta:TA)(σ:St)(H:Hp)(R:It->Hp->Prop):UI K ta σ H R=ta σ H (Rg K R):=rfl
section
variable {tg:Ò}
theorem Jf{a:Ò}{p:Pos}(hg:Gl X "reversed")(hm:X.mg "reversed"=L)(ha:PA X [a] ta)(hs:starEach [a] X.env=[(Á,eval a X.env)]:=by rfl):PI X tg (.Call (.Name "reversed" p) [a] [] pos) (UI X.K ta):=by
 intro pins s σ H R I h;refine Call_ (eP I hg hm (show bootBuiltins "reversed"=U (.type "reversed") by decide +kernel) (PyProof.Rows.callWith_type1 (thn (ha pos pins s σ H _ I h) λ us s1 ⟨vs,H1,I1,r1,q1⟩=>?_) hs J));unfold Rg at q1;split at q1
 ·rename_i b;let(xs,e,q):=aq q1
  cases r1 with
  | cons r rr=>
   cases rr;cases r;let(its,rv,pl,hz):=I1.list (SqL.of (bO e));refine call_reversed_list pl.isList ?_;let hsz:(its.toArray.size:B)=(xs.length:B):=by rw[←rv.length.symm];simp
   let I2:Inv X pins σ H1 { s1 with heap:=s1.heap.push (revObj b ((its.toArray.size:B) - 1)) }:=I1.kept (t':=s1.toks) λ b o e=>Vz _ e;let hit:(s1.heap.push (revObj b ((its.toArray.size:B) - 1))).IsRevIter %[s1|99] b ((xs.length:B) - 1 - ((0:à):B)):={_,VG _ J,J,by rw[hsz];simp[revObj]};refine wpAny_pyIter_revIter hit {%[s1|99],[%[s1|99]],_,_,H1,J,I2,FO b _ xs,{Wz _,hit},λ c hb=>?_,q};let e:c=%[s1|99]:=by simpa using hb
   subst e;exact I1.fpOk (VF _) (I1.hok.fresh (VF _))
 ·exact q1.elim
end
theorem BM{a:Z}(Pv:à->St->Hp->Prop)(h0:Pv 0 σ H)(hl:∀ i σ H,i<=xs.length->Pv i σ H->SqL K H a xs)
  (hs:∀ i x σ H,i<xs.length->xs[xs.length - 1 - i]? = U x->Pv i σ H->g x σ H (uG tb {Pv (i+1),rt,nx,Pv (i+1)})) (hd:∀ σ H,Pv xs.length σ H->nx σ H):JC g tb {(nx),rt,bk,ct} σ (Itv K a xs) H:=by
 refine{λ i m σ H=>m=xs.length - i/\i<=xs.length/\Pv i σ H,{xs.length,by simp,Wz _,h0},?_};rintro i m σ H ⟨rfl,hi,p⟩;let q:=hl i σ H hi p
 by_cases hlt:i<xs.length
 ·refine .inr {⟨q,hlt⟩,Pv (i+1),λ σ' H' p'=>{xs.length - (i+1),by omega,J,hlt,p'},λ x H' y=>?_};let(e,y):=y;subst e;exact hs i x σ _ hlt y p
 ·let e:i=xs.length:=by omega
  subst e;exact .inl {J,hd σ H p}
def hAd(A:Î):G Z:=match A.handled with
 | some (.ref e)=>[e]
 | _=>[]
theorem SfN.lt{l:G Z}(x:SfN A h l)(hb:b∈hAd A):b<h.objs.size:=by
 unfold hAd at hb;split at hb
 ·rename_i e he;let(e',oe,z,q,_):=x _ he;cases z;rw[VO.mp hb];exact VE q
 ·cases hb
theorem Inv.sfn_push(I:Inv X pins σ H s)(o:Obj):SfN X.A (s.heap.push o) [%[s|99]]:=λ a ha=>by
 let(e,oe,h1,h2,h3,_):=I.sfn [] (λ _ z=>nomatch z) a ha;exact{e,oe,h1,Vz _ h2,h3,λ z=>Þ (VE h2) (by rw[VO.mp z];exact WA _)}
theorem Walks.listS(I ax:Z)(aX:ax≠I)(items:Array O) :
  Walks prog w A I (I::ax::hAd A) [I] items.size (λ i v=>items[i]? = U v) (λ i g=>(g.IsListIter I ax i/\g.IsList ax items)/\SfN A g [I]) where
 sub:=λ c hc=>by simp at hc;simp[hc]
 frame:=λ _ _ _ st hk=>{⟨st.1.1.at λ o e=>hk I (by simp) o e,st.1.2.at λ o e=>hk ax (by simp) o e⟩,λ a ha=>by
  let(e,oe,rfl,h2,h3):=st.2 a ha;exact{e,oe,J,hk e (by simp[hAd,ha]) oe h2,h3}}
 item:=λ i s Q E hi st hQ=>by
  refine wpAny_pyNext_list_item st.1.1 st.1.2 (x:=items[i]) (by simp[hi]) λ h' aS af=>?_;exact hQ _ h' s.toks (by simp[hi]) ⟨⟨aS,st.1.2.extBut af.extBut aX⟩,st.2.ext (λ b o n q=>af.extBut b o (by simpa using n) q) λ _ z=>z⟩ λ b o hb e=>af.extBut b o (λ h=>hb (by simp[h])) e
 done:=λ s Q E st hQ=>fh st.2 st.1.1 st.1.2 (by simp) λ h' a3=>hQ h' s.toks λ b o hb e=>a3 b o (λ h=>hb (by simp[h])) e
 self:=λ _ _ _ _ st hQ=>wpAny_pyIter_listiter st.1.1 hQ
theorem nq:∀ (n:à) (ns:G B) (val:à->B),(∀ i,val i=ns.getD i 0)->n<=ns.length->preSum val n=(ns.take n).sum
 | 0,ns,val,h,hl=>by simp[preSum]
 | n+1,ns,val,h,hl=>by
  let ih:=nq n ns val h (by omega)
  let e:ns.take (n+1)=ns.take n++[ns.getD n 0]:=by
   rw[List.take_succ,VA (by omega)];simp[List.getD,VA (show n<ns.length by omega)]
  rw[preSum,ih,e,ZA,h];simp
def J8(H:Hp)(Q:VK):G B->Prop:=λ ns=>Q (.int ns.sum) H
def L6(H:Hp)(Q:VK)(ns:G B):J8 H Q ns=Q (.int ns.sum) H:=rfl
def RB:G V->Hp->VK->Prop:=λ vs H Q=>match vs with
 | [.ref p]=>aJ (aF H p) (jn (J8 H Q))
 | _=>False
def PL(p:Z)(H:Hp)(Q:VK):RB [.ref p] H Q=aJ (aF H p) (jn (J8 H Q)):=rfl
def R7(F:G Ý->Prop):G V->Prop:=λ xs=>∃ bs,xs=bs.map V.bl/\F bs
theorem Cc:∀ {ns ms:G Ý},ns.map V.bl=ms.map V.bl->ns=ms
 | [],[],_=>rfl
 | [],_::_,h=>by cases h
 | _::_,[],h=>by cases h
 | i::r,j::t,h=>by
  simp only[Wr,ZE,V.bl.injEq] at h;rw[h.1,Cc h.2]
theorem Qw(F:G Ý->Prop)(bs:G Ý):R7 F (bs.map V.bl)=F bs:=propext {λ ⟨ms,e,h⟩=>by rw[Cc e];exact h,λ h=>{(bs),J,h}}
def Ki(H:Hp)(Q:VK):G Ý->Prop:=λ bs=>Q (.bl (bs.all id)) H
def Mv(H:Hp)(Q:VK)(bs:G Ý):Ki H Q bs=Q (.bl (bs.all id)) H:=rfl
def RH:G V->Hp->VK->Prop:=λ vs H Q=>match vs with
 | [.ref p]=>aJ (aF H p) (R7 (Ki H Q))
 | _=>False
def PV(p:Z)(H:Hp)(Q:VK):RH [.ref p] H Q=aJ (aF H p) (R7 (Ki H Q)):=rfl
theorem gO:cn X (.builtin "sum") RB:=by
 intro pins s σ H vs us Q I r h;unfold RB at h;split at h
 ·rename_i p;let(xs,e,ns,rfl,q):=aq h
  cases r with
  | cons r rr=>
   cases rr;cases r;let(its,rv,pl,hz):=I.list (SqL.of (bO e));let aX:∀ b∈hAd X.A,b<%[s|99]:=λ b hb=>(I.sfn [] λ _ z=>nomatch z).lt hb;let af:p<%[s|99]:=by let(_,e,_):=pl.isList;exact VE e
   let hlen:its.length=ns.length:=by have:=rv.length;simpa using this.symm
   refine call_sum_walkAnyS (Yh pl.isList {%[s|99],_,_,_,_,_,_,λ i=>ns.getD i 0,J,(Walks.listS (A:=X.A.in1) _ p (VQ af) its.toArray).toS,{⟨⟨_,VG _ J,J,J⟩,pl.isList.push _⟩,I.sfn_push _},λ b hb=>?_,λ i v hP=>?_,λ s' t' hm=>?_})
   ·rw[V9]
    rcases VU.mp hb with rfl|hb
    ·exact Xs _
    ·rcases VU.mp hb with rfl|hb
     ·exact Zc af
     ·exact Zc (aX b hb)
   ·let hv:its[i]? = U v:=by simpa using hP
    let hi:i<ns.length:=by rw[←hlen];exact(VB.mp hv).1
    let(u,hu,ru):=rv.get (i:=i) (x:=.int (ns.getD i 0)) (by rw[VS,VA hi];simp[List.getD,VA hi]);rw[hv] at hu;cases hu;exact ru
   ·let(hp,g,d,tk,os):=s'
    let kp:∀ b o,s.heap.get? b=U o->hp.get? b=U o:=λ b o e=>hm.heap b o (λ aS=>by
     have:b=%[s|99]:=by simpa using aS
     subst this;exact Þ (VE e) (WA _)) (Vz _ e)
    let e1:g=s.gens:=hm.gens;let e2:d=s.drawn:=hm.drawn;let e3:os=s.os:=hm.os;subst e1 e2 e3;refine{.int ns.sum,H,I.kept (t':=tk) kp,?_,q};let es:=nq its.toArray.size ns (λ i=>ns.getD i 0) (λ _=>J) (by simp[hlen]);rw[show its.toArray.size=ns.length by simp[hlen],WN] at es;rw[show its.toArray.size=ns.length by simp[hlen],es];exact{(t'),J}
 ·exact h.elim
theorem EZ(bs:G Ý):(Ì bs.length).all (λ i=>bs.getD i Á)=bs.all id:=by
 rw[WX,W4,W4];refine{λ h x hx=>?_,λ h i hi=>?_}
 ·let(i,hi,e):=YY hx;have:=h i (WO.mpr hi)
  simpa [List.getD,VA hi,e] using this
 ·let af:=WO.mp hi;have:=h (bs[i]) (Xm af)
  simpa [List.getD,VA af] using this
theorem gP:cn X (.builtin "all") RH:=by
 intro pins s σ H vs us Q I r h;unfold RH at h;split at h
 ·rename_i p;let(xs,e,bs,rfl,q):=aq h
  cases r with
  | cons r rr=>
   cases rr;cases r;let(its,rv,pl,hz):=I.list (SqL.of (bO e));let aX:∀ b∈hAd X.A,b<%[s|99]:=λ b hb=>(I.sfn [] λ _ z=>nomatch z).lt hb;let aS:p<%[s|99]:=by let(_,e,_):=pl.isList;exact VE e
   let hlen:its.length=bs.length:=by have:=rv.length;simpa using this.symm
   refine call_all_walk (Yh pl.isList {%[s|99],_,_,_,_,_,λ i=>bs.getD i Á,J,Walks.listS (A:=X.A.in1) _ p (VQ aS) its.toArray,{⟨⟨_,VG _ J,J,J⟩,pl.isList.push _⟩,I.sfn_push _},λ i v s' Q' E' hP hQ=>?_,λ h' tk hk=>?_})
   ·let hv:its[i]? = U v:=by simpa using hP
    let hi:i<bs.length:=by rw[←hlen];exact(VB.mp hv).1
    let(u,hu,ru):=rv.get (i:=i) (x:=.bl (bs.getD i Á)) (by rw[VS,VA hi];simp[List.getD,VA hi]);rw[hv] at hu;cases hu;let e2:v=.bool (bs.getD i Á):=ru;subst e2;exact Xq hQ
   ·let kp:∀ b o,s.heap.get? b=U o->h'.get? b=U o:=λ b o e=>hk b o (λ af=>by
     have:b=%[s|99]:=by simpa using af
     subst this;exact Þ (VE e) (WA _)) (Vz _ e)
    refine{.bl (bs.all id),H,I.kept (t':=tk) kp,?_,q};rw[show its.toArray.size=bs.length by simp[hlen],EZ];exact J
 ·exact h.elim
structure Src(prog:Ë)(w:Ï)(it:Z)(fr:G Z)(st:à->Í->Prop)(val:à->Ü O):Prop where
 mem:it∈fr
 there:∀ k h,st k h->∀ b∈fr,∃ o,h.get? b=U o
 keep:∀ k h h',st k h->(∀ b∈fr,∀ o,h.get? b=U o->h'.get? b=U o)->st k h'
 item:∀ (A:Î) k s v (Q:O->À->Prop) (E:O->À->Prop),st k s.heap->val k=U v->(∀ h',st (k+1) h'->Heap.SameBut it s.heap h'->Q v { s with heap:=h' })->Ä (É prog w) A (Builtin.SmallTypes.nextOf (.ref it)) Q E s
 fin:∀ (A:Î) k s (Q:O->À->Prop) (E:O->À->Prop),SfN A s.heap [it]->st k s.heap->val k=L->(∀ h' e,Heap.ExtBut it s.heap h'->(∃ o,h'.get? e=U o/\o.cls=.type "StopIteration")->E (.ref e) { s with heap:=h' })->Ä (É prog w) A (Builtin.SmallTypes.nextOf (.ref it)) Q E s
theorem uj{j t:Z}{xs:Array O}{Q:O->À->Prop}(hs:SfN A s.heap [j])(hj:s.heap.IsListIter j t k)(ht:s.heap.IsList t xs)(hv:xs[k]? = L)
  (hE:∀ g e,Heap.ExtBut j s.heap g->(∃ o,g.get? e=U o/\o.cls=.type "StopIteration")->E (.ref e) { s with heap:=g }):Ä (É prog w) A (Builtin.SmallTypes.nextOf (.ref j)) Q E s:=by
 let(oj,h0,h1,h2):=id hj;let(ot,g0,_,n,g1):=ht;unfold Builtin.SmallTypes.nextOf;refine wpAny_bind (wpAny_callSpecial?_slot (name:=Õ "__next__") hj.typeIs slot_listiter_next (wpAny_call_entry slot_listiter_next hj.typeIs entry_listiter_next ?_ (args_listiter_next _)));refine wpAny_bind (m:=field (.ref j) 0) (wpAny_field h0 h2 (x:=.ref t) J ?_)
 show Ä _ _ (if (Ê t == Ñ)=Y then _ else _) _ _ _
 rw[VY (show ¬ ((.ref t:O) == .none)=Y from VJ)];refine My (m:=field (.ref j) 1) (VV h0 h2 (x:=.int k 0) J ?_);refine My (m:=seqItems? (.ref t)) (V2 g0 g1 ?_);simp only[VW,hv];refine My (Xr (My (W9 h0 h2 (by simp) ?_)));let sb:=WE s.heap j (Obj.mapFields (·.setIfInBounds 0 Ñ))
 show Ä _ _ (newExc (.type "StopIteration") [] >>= _) _ _ _
 exact jV (hs.ext (λ b o n q=>(sb.2 b (by simpa using n)).trans q) λ _ z=>nomatch z) λ h' e kp af=>hE _ _ (λ b o hb q=>kp b o ((sb.2 b hb).trans q)) af
theorem FQ(it l:Z)(af:l≠it)(xs:Array O):Src prog w it [it,l] (λ k h=>h.IsListIter it l k/\h.IsList l xs) (λ k=>xs[k]?) where
 mem:=VP
 there:=λ k h st b hb=>by
  rcases VU.mp hb with e|hb
  ·let(o,q,_):=st.1;exact{o,by rw[e];exact q}
  ·let(o,q,_):=st.2;exact{o,by rw[VO.mp hb];exact q}
 keep:=λ k h h' st q=>{st.1.at λ o e=>q it (by simp) o e,st.2.at λ o e=>q l (by simp) o e}
 item:=λ A k s v Q E st hv hQ=>wpAny_nextOf_list_item st.1 st.2 hv λ h' a b=>hQ h' {a,st.2.extBut b.extBut af} b
 fin:=λ A k s Q E hh st hv hE=>uj hh st.1 st.2 hv hE
section
theorem rp{j t:Z}{xs:Array O}{v:O}{Q:O->À->Prop}(hj:s.heap.IsTupleIter j t k)(ht:s.heap.IsTuple t xs)(hv:xs[k]? = U v)
  (hQ:∀ g,g.IsTupleIter j t (k+1)->Heap.SameBut j s.heap g->Q v { s with heap:=g }):Ä (É prog w) A (Builtin.SmallTypes.nextOf (.ref j)) Q E s:=by
 let(oj,h0,h1,h2):=id hj;let(ot,g0,_,n,g1):=ht;unfold Builtin.SmallTypes.nextOf;refine wpAny_bind (wpAny_callSpecial?_slot (name:=Õ "__next__") hj.typeIs F.slot_tuple_iterator_next (wpAny_call_entry F.slot_tuple_iterator_next hj.typeIs F.entry_tuple_iterator_next ?_ (F.args_tuple_iterator_next_1 _)));refine wpAny_bind (m:=field (.ref j) 0) (wpAny_field h0 h2 (x:=.ref t) J ?_)
 show Ä _ _ (if (Ê t == Ñ)=Y then _ else _) _ _ _
 rw[VY (show ¬ ((.ref t:O) == .none)=Y from VJ)];refine My (m:=field (.ref j) 1) (VV h0 h2 (x:=.int k 0) J ?_);refine My (m:=seqItems? (.ref t)) (V2 g0 g1 ?_);simp only[VW,hv];refine My (W9 h0 h2 (by simp) (VC {v,J,VC (hQ _ {_,VZ _ h0 (W0 (Xj h2 _)),(Obj.cls_mapFields ..).trans h1,?_} (WE ..))}));rw[Xj h2];simp[rawInt]
theorem ui{j t:Z}{xs:Array O}{Q:O->À->Prop}(hs:SfN A s.heap [j])(hj:s.heap.IsTupleIter j t k)(ht:s.heap.IsTuple t xs)(hv:xs[k]? = L)
  (hE:∀ g e,Heap.ExtBut j s.heap g->(∃ o,g.get? e=U o/\o.cls=.type "StopIteration")->E (.ref e) { s with heap:=g }):Ä (É prog w) A (Builtin.SmallTypes.nextOf (.ref j)) Q E s:=by
 let(oj,h0,h1,h2):=id hj;let(ot,g0,_,n,g1):=ht;unfold Builtin.SmallTypes.nextOf;refine wpAny_bind (wpAny_callSpecial?_slot (name:=Õ "__next__") hj.typeIs F.slot_tuple_iterator_next (wpAny_call_entry F.slot_tuple_iterator_next hj.typeIs F.entry_tuple_iterator_next ?_ (F.args_tuple_iterator_next_1 _)));refine wpAny_bind (m:=field (.ref j) 0) (wpAny_field h0 h2 (x:=.ref t) J ?_)
 show Ä _ _ (if (Ê t == Ñ)=Y then _ else _) _ _ _
 rw[VY (show ¬ ((.ref t:O) == .none)=Y from VJ)];refine My (m:=field (.ref j) 1) (VV h0 h2 (x:=.int k 0) J ?_);refine My (m:=seqItems? (.ref t)) (V2 g0 g1 ?_);simp only[VW,hv];refine My (Xr (My (W9 h0 h2 (by simp) ?_)));let sb:=WE s.heap j (Obj.mapFields (·.setIfInBounds 0 Ñ))
 show Ä _ _ (newExc (.type "StopIteration") [] >>= _) _ _ _
 exact jV (hs.ext (λ b o n q=>(sb.2 b (by simpa using n)).trans q) λ _ z=>nomatch z) λ h' e kp af=>hE _ _ (λ b o hb q=>kp b o ((sb.2 b hb).trans q)) af
theorem Kz(it l:Z)(af:l≠it)(xs:Array O):Src prog w it [it,l] (λ k h=>h.IsTupleIter it l k/\h.IsTuple l xs) (λ k=>xs[k]?) where
 mem:=VP
 there:=λ k h st b hb=>by
  rcases VU.mp hb with e|hb
  ·let(o,q,_):=st.1;exact{o,by rw[e];exact q}
  ·let(o,q,_):=st.2;exact{o,by rw[VO.mp hb];exact q}
 keep:=λ k h h' st q=>{st.1.at λ o e=>q it (by simp) o e,st.2.at λ o e=>q l (by simp) o e}
 item:=λ A k s v Q E st hv hQ=>rp st.1 st.2 hv λ h' a b=>hQ h' {a,st.2.extBut b.extBut af} b
 fin:=λ A k s Q E hh st hv hE=>ui hh st.1 st.2 hv hE
structure gr(z TI TO i j:Z)(f g:G Z):Prop where
 ti:TI≠z/\TI≠TO/\TI≠i/\TI≠j
 zt:z≠TO
 zf:z ∉ f
 zg:z ∉ g
 tf:TO ∉ f
 tg:TO ∉ g
 ig:i ∉ g
 jf:j ∉ f
variable {z TI TO i j:Z}{f g:G Z}{ti tj:à->Í->Prop}{vi vj:à->Ü O}{m:à}{x y a b:O}
def bj{q:Z}{l:G Z}(hp:p∈l)(hq:q ∉ l):p≠q:=λ e=>hq (e ▸ hp)
theorem Src.but{fr:G Z}{st:à->Í->Prop}{val:à->Ü O}(S:Src prog w it fr st val)(q:st k h)(e:Heap.ExtBut c h h')(hc:c ∉ fr):st k h':=
 S.keep k h h' q λ b hb o ho=>e b o (bj hb hc) ho
theorem Cw(S:Src prog w i f ti vi)(T:Src prog w j g tj vj)(D:gr z TI TO i j f g){Q:O->À->Prop}
  (hz:IsZip s.heap z TI TO .none) (aS:IsPair s.heap TI (.ref i) (.ref j)) (aX:IsPair s.heap TO a b) (hi:ti k s.heap) (hj:tj m s.heap) (hx:vi k=U x) (hy:vj m=U y)
  (hQ:∀ h',IsZip h' z TI TO (rawInt %[s|99])->IsPair h' TO x y->ti (k+1) h'->tj (m+1) h'->IsPair h' %[s|99] x y->h'.objs.size=%[s|99]+1->(∀ c o,c ∉ [z,TO,i,j]->s.heap.get? c=U o->h'.get? c=U o)->Q (.ref %[s|99]) { s with heap:=h' }) :
  Ä (É prog w) A (Builtin.«zip.__next__» ⟨[.ref z],[]⟩) (λ fin s'=>∃ v,fin=.done (.ret v)/\Q v s') E s:=by
 let iz:i≠z:=bj S.mem D.zf;let jz:j≠z:=bj T.mem D.zg;let a3:i≠TO:=bj S.mem D.tf;let a4:j≠TO:=bj T.mem D.tg;let ij:i≠j:=bj S.mem D.jf;refine wpAny_bind (m:=field (.ref z) 2) (wpAny_field hz J (x:=.bool Á) J ?_);refine wpAny_bind (m:=field (.ref z) 3) (wpAny_field hz J (x:=.ref TI) J (wpAny_bind (wpAny_seqItems aS J ?_)));refine wpAny_bind (m:=Builtin.SmallTypes.ownedTupleIsFree (.ref z)) ?_;unfold Builtin.SmallTypes.ownedTupleIsFree;refine wpAny_bind (wpAny_field hz J (x:=.none) J (wpAny_pure ?_));simp only[if_true];refine wpAny_bind (wpAny_rule (wpAny_bind (wpAny_field hz J (x:=.ref TO) J (wpAny_bind (wpAny_setField_rec hz (by simp) λ q1 z1 s1=>?_)))));replace z1:IsZip q1 z TI TO .ellipsis:=z1;refine wpAny_bind ?_;simp only[List.zipIdx_cons,List.zipIdx_nil,forIn_cons,forIn_nil];refine wpAny_bind (wpAny_bind (wpAny_onRaise (wpAny_bind (m:=Builtin.SmallTypes.nextOf (.ref i)) (S.item _ k _ x _ _ (S.but hi s1.extBut D.zf) hx λ q2 i2 s2=>wpAny_pure ?_))));let o2:IsPair q2 TO a b:=s2.extBut _ _ a3.symm (s1.extBut _ _ D.zt.symm aX);refine wpAny_bind (wpAny_seqItems o2 J (wpAny_bind (wpAny_updateSeq_pair o2 λ q3 o3 s3=>wpAny_bind (wpAny_letGo (wpAny_pure ?_)))));replace o3:IsPair q3 TO x b:=o3;let j3:tj m q3:=T.but (T.but (T.but hj s1.extBut D.zg) s2.extBut D.ig) s3.extBut D.tg;refine wpAny_bind (wpAny_bind (wpAny_onRaise (wpAny_bind (m:=Builtin.SmallTypes.nextOf (.ref j)) (T.item _ m _ y _ _ j3 hy λ q4 j4 s4=>wpAny_pure ?_))));let o4:IsPair q4 TO x b:=s4.extBut _ _ a4.symm o3;refine wpAny_bind (wpAny_seqItems o4 J (wpAny_bind (wpAny_updateSeq_pair o4 λ q5 o5 s5=>wpAny_bind (wpAny_letGo (wpAny_pure (wpAny_pure ?_))))));replace o5:IsPair q5 TO x y:=o5;refine wpAny_bind (wpAny_seqItems o5 J (wpAny_bind (wpAny_newTuple ?_)));let sz:q5.objs.size=%[s|99]:=by rw[s5.1,s4.1,s3.1,s2.1,s1.1]
 let z5:IsZip q5 z TI TO .ellipsis:=s5.extBut _ _ D.zt (s4.extBut _ _ jz.symm (s3.extBut _ _ D.zt (s2.extBut _ _ iz.symm z1)))
 let k5:∀ c o,c ∉ [z,TO,i,j]->s.heap.get? c=U o->q5.get? c=U o:=λ c o hc e=>by
  simp only[VU,VM,V6,X8] at hc;exact s5.extBut _ _ hc.2.1 (s4.extBut _ _ hc.2.2.2 (s3.extBut _ _ hc.2.1 (s2.extBut _ _ hc.2.2.1 (s1.extBut _ _ hc.1 e))))
 let i5:ti (k+1) q5:=S.but (S.but (S.but i2 s3.extBut D.tf) s4.extBut D.jf) s5.extBut D.tf;let j5:tj (m+1) q5:=T.but j4 s5.extBut D.tg;let af:z<q5.objs.size:=Heap.lt_size z5;refine wpAny_bind (m:=Builtin.SmallTypes.ownedTupleHandOut (.ref z) (.ref q5.objs.size)) ?_;unfold Builtin.SmallTypes.ownedTupleHandOut;let z6:IsZip (q5.push { cls:=.type "tuple",data:=.seq #[x,y] }) z TI TO .ellipsis:=Heap.get?_push_of_some _ z5;refine wpAny_bind (wpAny_setField_rec z6 (by simp) λ q7 z7 s7=>?_);replace z7:IsZip q7 z TI TO (rawInt q5.objs.size):=z7;refine wpAny_setField_rec z7 (by simp) λ q8 z8 s8=>?_;replace z8:IsZip q8 z TI TO (rawInt q5.objs.size):=z8;let up:∀ c o,c≠z->q5.get? c=U o->q8.get? c=U o:=λ c o hc e=>s8.extBut _ _ hc (s7.extBut _ _ hc (Heap.get?_push_of_some _ e));let t8:IsPair q8 q5.objs.size x y:=s8.extBut _ _ (Nat.ne_of_gt af) (s7.extBut _ _ (Nat.ne_of_gt af) (Heap.get?_push_size _ J));let n8:q8.objs.size=q5.objs.size+1:=by rw[s8.1,s7.1,Heap.size_push]
 rw[sz] at z8 t8 n8;refine VC {_,J,?_}
 show Q (.ref q5.objs.size) _
 rw[sz];exact hQ q8 z8 (up _ _ D.zt.symm o5) (S.keep _ _ _ i5 λ c hc o e=>up c o (bj hc D.zf) e) (T.keep _ _ _ j5 λ c hc o e=>up c o (bj hc D.zg) e) t8 n8 λ c o hc e=>up c o (λ q=>hc (by simp[q])) (k5 c o hc e)
theorem FG(hs:SfN A s.heap [z,TO,i,j])(S:Src prog w i f ti vi)(T:Src prog w j g tj vj)(D:gr z TI TO i j f g){Q:Fin->À->Prop}
  (hz:IsZip s.heap z TI TO .none) (aS:IsPair s.heap TI (.ref i) (.ref j)) (aX:IsPair s.heap TO a b) (hi:ti k s.heap) (hj:tj m s.heap) (a3:vi k=L\/vj m=L)
  (hE:∀ h' e,(∀ c o,c ∉ [z,TO,i,j]->s.heap.get? c=U o->h'.get? c=U o)->(∃ o,h'.get? e=U o/\o.cls=.type "StopIteration")->E (.ref e) { s with heap:=h' }) :
  Ä (É prog w) A (Builtin.«zip.__next__» ⟨[.ref z],[]⟩) Q E s:=by
 let iz:i≠z:=bj S.mem D.zf;let jz:j≠z:=bj T.mem D.zg;let a4:i≠TO:=bj S.mem D.tf;let a5:j≠TO:=bj T.mem D.tg;refine wpAny_bind (m:=field (.ref z) 2) (wpAny_field hz J (x:=.bool Á) J ?_);refine wpAny_bind (m:=field (.ref z) 3) (wpAny_field hz J (x:=.ref TI) J (wpAny_bind (wpAny_seqItems aS J ?_)));refine wpAny_bind (m:=Builtin.SmallTypes.ownedTupleIsFree (.ref z)) ?_;unfold Builtin.SmallTypes.ownedTupleIsFree;refine wpAny_bind (wpAny_field hz J (x:=.none) J (wpAny_pure ?_));simp only[if_true];refine wpAny_bind (wpAny_rule (wpAny_bind (wpAny_field hz J (x:=.ref TO) J (wpAny_bind (wpAny_setField_rec hz (by simp) λ q1 z1 s1=>?_)))));replace z1:IsZip q1 z TI TO .ellipsis:=z1;refine wpAny_bind ?_;simp only[List.zipIdx_cons,List.zipIdx_nil,forIn_cons,forIn_nil];refine wpAny_bind (wpAny_bind (wpAny_onRaise (wpAny_bind (m:=Builtin.SmallTypes.nextOf (.ref i)) ?_)))
 cases hx:vi k with
 | none=>
  refine S.fin _ k _ _ _ (hs.ext (λ b o n q=>s1.extBut _ _ (λ y=>n (by simp[y])) q) (by simp)) (S.but hi s1.extBut D.zf) hx λ q2 e s2 ⟨oe,he,af⟩=>?_;let z2:IsZip q2 z TI TO .ellipsis:=s2 _ _ iz.symm z1;let ez:e≠z:=λ q=>by subst q;rw[z2] at he;cases he;simp at af
  refine Wm z2 (by simp) λ q3 _ s3=>hE q3 e (λ c o hc q=>?_) {oe,s3.extBut _ _ ez he,af};simp only[VU,VM,V6,X8] at hc;exact s3.extBut _ _ hc.1 (s2 _ _ hc.2.2.1 (s1.extBut _ _ hc.1 q))
 | some x=>
  let hy:vj m=L:=a3.resolve_left (by rw[hx];exact YX x);refine S.item _ k _ x _ _ (S.but hi s1.extBut D.zf) hx λ q2 i2 s2=>VC ?_;let o2:IsPair q2 TO a b:=s2.extBut _ _ a4.symm (s1.extBut _ _ D.zt.symm aX);refine My (V2 o2 J (My (Y9 o2 λ q3 o3 s3=>My (Xe (VC ?_)))));let j3:tj m q3:=T.but (T.but (T.but hj s1.extBut D.zg) s2.extBut D.ig) s3.extBut D.tg;refine My (My (Xh (My (m:=Builtin.SmallTypes.nextOf (.ref j)) (T.fin _ m _ _ _ (hs.ext (λ b o n q=>s3.extBut _ _ (λ y=>n (by simp[y])) (s2.extBut _ _ (λ y=>n (by simp[y])) (s1.extBut _ _ (λ y=>n (by simp[y])) q))) (by simp)) j3 hy λ q4 e s4 ⟨oe,he,af⟩=>?_))));let z4:IsZip q4 z TI TO .ellipsis:=s4 _ _ jz.symm (s3.extBut _ _ D.zt (s2.extBut _ _ iz.symm z1));let ez:e≠z:=λ q=>by subst q;rw[z4] at he;cases he;simp at af
  refine Wm z4 (by simp) λ q5 _ s5=>hE q5 e (λ c o hc q=>?_) {oe,s5.extBut _ _ ez he,af};simp only[VU,VM,V6,X8] at hc;exact s5.extBut _ _ hc.1 (s4 _ _ hc.2.2.2 (s3.extBut _ _ hc.2.1 (s2.extBut _ _ hc.2.2.1 (s1.extBut _ _ hc.1 q))))
theorem iK(S:Src prog w i f ti vi)(T:Src prog w j g tj vj)(D:gr z TI TO i j f g){Q:Ü O->À->Prop}
  (hz:IsZip s.heap z TI TO .none) (af:IsPair s.heap TI (.ref i) (.ref j)) (aS:IsPair s.heap TO a b) (hi:ti k s.heap) (hj:tj m s.heap) (hx:vi k=U x) (hy:vj m=U y)
  (hQ:∀ h',IsZip h' z TI TO (rawInt %[s|99])->IsPair h' TO x y->ti (k+1) h'->tj (m+1) h'->IsPair h' %[s|99] x y->h'.objs.size=%[s|99]+1->(∀ c o,c ∉ [z,TO,i,j]->s.heap.get? c=U o->h'.get? c=U o)->Q (U (.ref %[s|99])) { s with heap:=h' }) :
  Ä (É prog w) A (pyNext (.ref z)) Q E s:=by
 let ty:s.TypeIs (.ref z) "zip":={_,hz,J};unfold pyNext;exact wpAny_bind (wpAny_attempt (wpAny_callSpecial?_slot (name:=Õ "__next__") ty F.slot_zip_next (wpAny_call_entry F.slot_zip_next ty F.entry_zip_next (Cw S T D hz af aS hi hj hx hy λ h' c1 c2 c3 c4 c5 c6 c7=>wpAny_pure (hQ h' c1 c2 c3 c4 c5 c6 c7)) (F.args_zip_next_1 _))))
theorem jM(hs:SfN A s.heap [z,TO,i,j])(S:Src prog w i f ti vi)(T:Src prog w j g tj vj)(D:gr z TI TO i j f g){Q:Ü O->À->Prop}
  (hz:IsZip s.heap z TI TO .none) (af:IsPair s.heap TI (.ref i) (.ref j)) (aS:IsPair s.heap TO a b) (hi:ti k s.heap) (hj:tj m s.heap) (aX:vi k=L\/vj m=L)
  (hQ:∀ h',(∀ c o,c ∉ [z,TO,i,j]->s.heap.get? c=U o->h'.get? c=U o)->Q L { s with heap:=h' }):Ä (É prog w) A (pyNext (.ref z)) Q E s:=by
 let ty:s.TypeIs (.ref z) "zip":={_,hz,J};unfold pyNext;refine wpAny_bind (wpAny_attempt (wpAny_callSpecial?_slot (name:=Õ "__next__") ty F.slot_zip_next (wpAny_call_entry F.slot_zip_next ty F.entry_zip_next (FG (show SfN A.in1 s.heap _ from hs) S T D hz af aS hi hj aX λ h' e kp he=>?_) (F.args_zip_next_1 _))));let(o,ho,hc):=he;exact wpAny_bind (wpAny_isInstance (T := "StopIteration") (b:=Y) {(o),ho,hc} isSubtype_stop (wpAny_pure (hQ _ kp)))
end
def SeqAt(h:Í)(k:Ý)(l:Z)(xs:Array O):Prop:=match k with
 | true=>h.IsTuple l xs
 | false=>h.IsList l xs
def bo(h:Í)(k:Ý)(it l:Z)(n:à):Prop:=match k with
 | true=>h.IsTupleIter it l n
 | false=>h.IsListIter it l n
def n9(k:Ý)(l:Z):Obj:=match k with
 | true=>{ cls:=.type "tuple_iterator",data:=.fields #[.ref l,.int 0 0] }
 | false=>{ cls:=.type "list_iterator",data:=.fields #[.ref l,.int 0 0] }
theorem SeqAt.at{k:Ý}{xs:Array O}(q:SeqAt h k l xs)(e:∀ o,h.get? l=U o->h'.get? l=U o):SeqAt h' k l xs:=by
 cases k
 ·exact Heap.IsList.at q e
 ·exact Heap.IsTuple.at q e
theorem SeqAt.obj{k:Ý}{xs:Array O}(q:SeqAt h k l xs):∃ o n,h.get? l=U o/\o.data=.seq xs n:=by
 cases k
 ·let(o,e,_,n,d):=(show h.IsList l xs from q);exact{(o),n,e,d}
 ·let(o,e,_,n,d):=(show h.IsTuple l xs from q);exact{(o),n,e,d}
theorem bo.at{k:Ý}(q:bo h k it l n)(e:∀ o,h.get? it=U o->h'.get? it=U o):bo h' k it l n:=by
 cases k
 ·exact Heap.IsListIter.at q e
 ·exact Heap.IsTupleIter.at q e
theorem bo.obj{k:Ý}(q:bo h k it l n):∃ o fs,h.get? it=U o/\o.data=.fields fs:=by
 cases k
 ·let(o,e,_,d):=(show h.IsListIter it l n from q);exact{o,_,e,d}
 ·let(o,e,_,d):=(show h.IsTupleIter it l n from q);exact{o,_,e,d}
theorem eM(k:Ý)(it l:Z)(af:l≠it)(xs:Array O):Src prog w it [it,l] (λ n h=>bo h k it l n/\SeqAt h k l xs) (λ n=>xs[n]?):=by
 cases k
 ·exact FQ it l af xs
 ·exact Kz it l af xs
theorem mi{k:Ý}{xs:Array O}{Q:O->À->Prop}(h:SeqAt s.heap k l xs)(hQ:Q (.ref %[s|99]) { s with heap:=s.heap.push (n9 k l) }):Ä (É prog w) A (pyIter (.ref l)) Q E s:=by
 cases k
 ·exact Yh h hQ
 ·exact wpAny_pyIter_tuple h hQ
abbrev zq1(ka:Ý)(a:Z)(h:Í):Í:=h.push (n9 ka a)
abbrev zq2(ka kb:Ý)(a b:Z)(h:Í):Í:=(zq1 ka a h).push (n9 kb b)
abbrev zq3(ka kb:Ý)(a b:Z)(h:Í):Í:=(zq2 ka kb a b h).push { cls:=.type "tuple",data:=.seq #[.ref h.objs.size,.ref (zq1 ka a h).objs.size] }
abbrev zq4(ka kb:Ý)(a b:Z)(h:Í):Í:=(zq3 ka kb a b h).push { cls:=.type "tuple",data:=.seq #[.none,.none] }
abbrev zq5(ka kb:Ý)(a b:Z)(h:Í):Í:=(zq4 ka kb a b h).push { cls:=.type "zip",data:=.fields #[.none,.bool Á,.bool Á,.ref (zq2 ka kb a b h).objs.size,.ref (zq3 ka kb a b h).objs.size] }
theorem Ct(ka kb:Ý)(a b:Z)(xs ys:Array O):Meets (Builtin.«zip.__new__» ⟨[.type "zip",.ref a,.ref b],[]⟩) (λ _ R s=>SeqAt s.heap ka a xs/\SeqAt s.heap kb b ys/\R (.ok (.ret (.ref (zq4 ka kb a b s.heap).objs.size))) { s with heap:=zq5 ka kb a b s.heap }):=
 .of_wp λ prog w A R s h=>by
  let(hp,g,d,tk,os):=s;let(h1,h2,h):=h;let af:=sub_zip;let q1:SeqAt (Shared.heap {(hp),g,d,tk,os}) ka a xs:=h1;let q2:SeqAt (Shared.heap {hp.push (n9 ka a),g,d,tk,os}) kb b ys:=h2.at λ o e=>Vz _ e
  wp_walk using mi q1,mi q2
  exact{_,J,h}
theorem BX{a:Z}{xs ys:Array O}{Q:O->À->Prop}(h1:SeqAt s.heap ka a xs)(h2:SeqAt s.heap kb b ys)
  (h:∀ h' n,n=%[s|99]->IsZip h' (n+4) (n+2) (n+3) .none->IsPair h' (n+2) (.ref n) (.ref (n+1))->IsPair h' (n+3) .none .none->bo h' ka n a 0->bo h' kb (n+1) b 0->h'.objs.size=n+5->(∀ c o,s.heap.get? c=U o->h'.get? c=U o)->Q (.ref (n+4)) { s with heap:=h' }) :
  Ä (É prog w) A (call (.type "zip") [.ref a,.ref b]) Q E s:=by
 refine callType_new F.called_zip (by decide) (F.typeCall_zip_2 _ _) (F.newCall_zip_2 _ _) (λ ob=>F.args_object_init_3 ob _ _) F.entry_zip_new (Ct ka kb a b xs ys) {h1,h2,?_};let n1:(zq1 ka a s.heap).objs.size=%[s|99]+1:=V9 ..;let n2:(zq2 ka kb a b s.heap).objs.size=%[s|99]+2:=by rw[V9,n1]
 let n3:(zq3 ka kb a b s.heap).objs.size=%[s|99]+3:=by rw[V9,n2]
 let n4:(zq4 ka kb a b s.heap).objs.size=%[s|99]+4:=by rw[V9,n3]
 let n5:(zq5 ka kb a b s.heap).objs.size=%[s|99]+5:=by rw[V9,n4]
 let f1:bo (zq1 ka a s.heap) ka %[s|99] a 0:=by
  cases ka<;>exact{_,VG _ J,J,J}
 let f2:bo (zq2 ka kb a b s.heap) kb (zq1 ka a s.heap).objs.size b 0:=by
  cases kb<;>exact{_,VG _ J,J,J}
 let u2:∀ c o,(zq2 ka kb a b s.heap).get? c=U o->(zq5 ka kb a b s.heap).get? c=U o:=λ c o e=>Vz _ (Vz _ (Vz _ e));let g5:(zq5 ka kb a b s.heap).get? (zq4 ka kb a b s.heap).objs.size=U _:=VG _ J;let g4:(zq5 ka kb a b s.heap).get? (zq3 ka kb a b s.heap).objs.size=U _:=Vz _ (VG _ J);let g3:(zq5 ka kb a b s.heap).get? (zq2 ka kb a b s.heap).objs.size=U _:=Vz _ (Vz _ (VG _ J));let e1:bo (zq5 ka kb a b s.heap) ka %[s|99] a 0:=f1.at λ o e=>u2 _ o (Vz _ e);let e2:bo (zq5 ka kb a b s.heap) kb (zq1 ka a s.heap).objs.size b 0:=f2.at λ o e=>u2 _ o e
 show _/\_
 rw[n2,n3,n4] at g5;rw[n1,n2] at g3;rw[n3] at g4;rw[n1] at e2;rw[n4];exact{⟨_,g5,J⟩,h _ _ J g5 g3 g4 e1 e2 n5 λ c o e=>u2 c o (Vz _ (Vz _ e))}
section
variable {σ:G (Ü V)}
theorem Inv.turnNew{ch:G Z}{n:Z}(I:Inv X pins σ H s)(af:∀ b∈ch,yk X pins H b)(k:∀ b ob,b ∉ ch->s.heap.get? b=U ob->h'.get? b=U ob)(hn:%[s|99]<=n)(new:bE X.prog X.w (upd H n o) h' n o) :
  Inv X pins σ (upd H n o) { s with heap:=h',toks:=t' }:=by
 let fn:=I.hok.fresh hn;let up:∀ {b u},H b=U u->upd H n o b=U u:=λ {b u} e=>by rw[ag (ba e fn)];exact e
 let aS:∀ {b u},H b=U u->b ∉ ch:=λ {b u} e z=>by rw[(af b z).1] at e;cases e
 refine I.step (g':=s.gens) (d':=s.drawn) (ch:=ch) (λ b hb=>{(af b hb).2.2.2.1,(af b hb).2.1,(af b hb).2.2.2.2.1,(af b hb).2.2.2.2.2}) (λ b ob _ _ hc e _=>k b ob hc e) (λ b ob _ _ hc e _=>{ob.slots,k b ob hc e})
  (λ b ob _ e q=>?_) (λ b ob hc e=>{ob,k b ob hc e}) (λ _ _ e=>up e) (λ _ _ _ e=>up e) (λ b ps e=>{#[],by rw[up e];simp}) (λ m hm=>?_) (λ b u e=>?_) I.bare
 ·rw[ag (VQ (VR (VE e) hn))];exact q
 ·let(ol,es,ep,ho,r):=hm;exact{ol,es,ep,k _ ol (λ z=>(af _ z).2.1 J) ho,r}
 ·by_cases hb:b=n
  ·subst hb;rw[aj] at e;cases e;exact new
  ·rw[ag hb] at e;refine(I.hok b u e).stay (λ c v hc q=>k c v ?_ q) (λ c q=>up q) (λ c y q=>up q) λ c xs q=>up q
   rcases hc with rfl|hc
   ·exact aS e
   ·exact aS hc
theorem Inv.turnL{ch:G Z}(I:Inv X pins σ H s)(af:∀ b∈ch,yk X pins H b)(k:∀ b ob,b ∉ ch->s.heap.get? b=U ob->h'.get? b=U ob):Inv X pins σ H { s with heap:=h',toks:=t' }:=by
 let aS:∀ {b u},H b=U u->b ∉ ch:=λ {b u} e z=>by rw[(af b z).1] at e;cases e
 refine I.step (g':=s.gens) (d':=s.drawn) (ch:=ch) (λ b hb=>{(af b hb).2.2.2.1,(af b hb).2.1,(af b hb).2.2.2.2.1,(af b hb).2.2.2.2.2}) (λ b ob _ _ hc e _=>k b ob hc e) (λ b ob _ _ hc e _=>{ob.slots,k b ob hc e})
  (λ _ _ _ _ q=>q) (λ b ob hc e=>{ob,k b ob hc e}) (λ _ _ e=>e) (λ _ _ _ e=>e) (λ b ps e=>{#[],by rw[e];simp}) (λ m hm=>?_) (λ b u e=>?_) I.bare
 ·let(ol,es,ep,ho,r):=hm;exact{ol,es,ep,k _ ol (λ z=>(af _ z).2.1 J) ho,r}
 ·refine(I.hok b u e).stay (λ c v hc q=>k c v ?_ q) (λ _ q=>q) (λ _ _ q=>q) λ _ _ q=>q
  rcases hc with rfl|hc
  ·exact aS e
  ·exact aS hc
end
def SqK(k:Ý)(H:Hp)(a:Z)(xs:G V):Prop:=match k with
 | true=>H a=U (.tup xs)
 | false=>H a=U (.lst xs)
theorem SqK.ne{k:Ý}{a:Z}(h:SqK k H a xs)(e:H b=L):a≠b:=λ z=>by
 subst z;cases k
 ·rw[show H a=U (.lst xs) from h] at e;cases e
 ·rw[show H a=U (.tup xs) from h] at e;cases e
theorem Inv.sq{k:Ý}{a:Z}(I:Inv X pins σ H s)(h:SqK k H a xs):∃ its:G O,bf xs its/\SeqAt s.heap k a its.toArray:=by
 cases k
 ·let(its,r,p,_):=I.list (SqL.of h);exact{(its),r,p.isList}
 ·let(its,r,p,_):=I.tuple (SqT.of h);exact{(its),r,p}
def Itz(ka kb:Ý)(a b:Z)(xs ys:G V):It:=
 ⟨λ i H=>SqK ka H a xs/\SqK kb H b ys/\i<xs.length/\i<ys.length,λ i H x H'=>∃ p u v,H p=L/\x=.ref p/\xs[i]? = U u/\ys[i]? = U v/\H'=upd H p (.tup [u,v]),λ i H=>SqK ka H a xs/\SqK kb H b ys/\(xs.length<=i\/ys.length<=i)⟩
def Tnz(ka kb:Ý)(a b z TI TO p q:Z)(i:à)(h:Í):Prop:=IsZip h z TI TO .none/\IsPair h TI (.ref p) (.ref q)/\(∃ u v,IsPair h TO u v)/\bo h ka p a i/\bo h kb q b i
theorem FN{x1}(ka kb:Ý)(a b z TI TO p q:Z)(xs ys:G V)(nd:[z,TI,TO,p,q].Nodup):E4 P w K A (.Tuple elts x1 tp) (Itz ka kb a b xs ys) [z,TI,TO,p,q] z (Tnz ka kb a b z TI TO p q) where
 mem:=VP
 obj:=λ i h st c hc=>by
  let(e1,e2,(u,v,e3),e4,e5):=st;simp only[VU,VM,V6] at hc
  rcases hc with rfl|rfl|rfl|rfl|rfl
  ·exact{_,e1,λ v z=>by cases z}
  ·exact{_,e2,λ v z=>by cases z}
  ·exact{_,e3,λ v z=>by cases z}
  ·let(o,fs,e,d):=e4.obj;exact{o,e,λ v z=>by rw[d] at z;cases z}
  ·let(o,fs,e,d):=e5.obj;exact{o,e,λ v z=>by rw[d] at z;cases z}
 keep:=λ i h h' st k=>by
  let(e1,e2,(u,v,e3),e4,e5):=st;exact{k z (by simp) _ e1,k TI (by simp) _ e2,{u,v,k TO (by simp) _ e3},e4.at λ o e=>k p (by simp) o e,e5.at λ o e=>k q (by simp) o e}
 item:=by
  intro X hP hw hK hc i pins s σ H E I hf st hg;subst hP hw hK;let(e1,e2,(u0,v0,e3),e4,e5):=st;let(ha,hb,l1,l2):=hg;let(as,ra,sa):=I.sq ha;let(bs,rb,sb):=I.sq hb;let hx:xs[i]? = U xs[i]:=VA l1;let hy:ys[i]? = U ys[i]:=VA l2;let(u,hu,ru):=ra.get hx;let(v,hv,rv):=rb.get hy;let free:∀ c∈[z,TI,TO,p,q],H c=L:=λ c h=>(hf c h).1;let af:∀ c∈[z,TI,TO,p,q],a≠c:=λ c h=>ha.ne (free c h);let aS:∀ c∈[z,TI,TO,p,q],b≠c:=λ c h=>hb.ne (free c h);simp only[Xa,VU,VM,V6,X8,Xy,and_true,Yc] at nd;let((z1,z2,z3,z4),(t1,t2,t3),(w1,w2),y1):=nd;let S:=eM (prog:=X.prog) (w:=X.w) ka p a (af p (by simp)) as.toArray;let T:=eM (prog:=X.prog) (w:=X.w) kb q b (aS q (by simp)) bs.toArray;let D:gr z TI TO p q [p,a] [q,b]:={⟨VL z1,t1,t2,t3⟩,z2,by simp[z3,VL (af z (by simp))],by simp[z4,VL (aS z (by simp))],by simp[w1,VL (af TO (by simp))],by simp[w2,VL (aS TO (by simp))],by simp[y1,VL (aS p (by simp))],by simp[VL y1,VL (af q (by simp))]};refine iK S T D e1 e2 e3 {(e4),sa} ⟨e5,sb⟩ (x:=u) (y:=v) (by simpa using hu) (by simpa using hv) λ h1 c1 c2 c3 c4 c5 c6 c7=>?_;refine{_,J,wpAny_letOwnedTupleGo_zip (s:={ s with heap:=h1 }) c1 λ h2 d1 d2=>?_};let lt:z<%[s|99]:=VE e1;let kp:∀ c o,c ∉ [z,TO,p,q]->s.heap.get? c=U o->h2.get? c=U o:=λ c o hc e=>d2.extBut _ _ (λ q=>hc (by simp[q])) (c7 c o hc e);let hn:h2.get? %[s|99]=U { cls:=.type "tuple",data:=.seq #[u,v] }:=d2.extBut _ _ (Wn lt) c5;let I2:Inv X pins σ (upd H %[s|99] (.tup [xs[i],ys[i]])) { s with heap:=h2 }:=I.turnNew (t':=s.toks) (ch:=[z,TO,p,q]) (λ c hc=>hf c (by simp only[VU,VM,V6] at hc ⊢;rcases hc with h|h|h|h<;>simp[h])) kp (VF _) {(show 2<=Å by decide),[u,v],.cons ru (.cons rv .nil),{_,hn,J,_,J}};let fr:H %[s|99]=L:=I.hok.fresh (VF _);refine{.ref %[s|99],_,I2,J,{_,_,_,fr,J,hx,hy,J},{d1,d2.extBut _ _ (VL z1) (c7 TI _ (by simp[VL z1,t1,t2,t3]) e2),{u,v,d2.extBut _ _ (VL z2) c2},c3.1.at λ o e=>d2.extBut _ _ (VL z3) e,c4.1.at λ o e=>d2.extBut _ _ (VL z4) e},λ c hc=>?_}
  obtain⟨o,ho,_⟩:∃ o,s.heap.get? c=U o/\True:=by
   simp only[VU,VM,V6] at hc
   rcases hc with rfl|rfl|rfl|rfl|rfl
   ·exact{_,e1,trivial}
   ·exact{_,e2,trivial}
   ·exact{_,e3,trivial}
   ·let(o,_,e,_):=e4.obj;exact{(o),e,trivial}
   ·let(o,_,e,_):=e5.obj;exact{(o),e,trivial}
  rw[ag (VQ (VE ho))];exact free c hc
 done:=by
  intro X hP hw hK hc i pins s σ H E I hf st hg;subst hP hw hK;let(e1,e2,(u0,v0,e3),e4,e5):=st;let(ha,hb,l):=hg;let(as,ra,sa):=I.sq ha;let(bs,rb,sb):=I.sq hb;let free:∀ c∈[z,TI,TO,p,q],H c=L:=λ c h=>(hf c h).1;let af:∀ c∈[z,TI,TO,p,q],a≠c:=λ c h=>ha.ne (free c h);let aS:∀ c∈[z,TI,TO,p,q],b≠c:=λ c h=>hb.ne (free c h);simp only[Xa,VU,VM,V6,X8,Xy,and_true,Yc] at nd;let((z1,z2,z3,z4),(t1,t2,t3),(w1,w2),y1):=nd;let S:=eM (prog:=X.prog) (w:=X.w) ka p a (af p (by simp)) as.toArray;let T:=eM (prog:=X.prog) (w:=X.w) kb q b (aS q (by simp)) bs.toArray;let D:gr z TI TO p q [p,a] [q,b]:={⟨VL z1,t1,t2,t3⟩,z2,by simp[z3,VL (af z (by simp))],by simp[z4,VL (aS z (by simp))],by simp[w1,VL (af TO (by simp))],by simp[w2,VL (aS TO (by simp))],by simp[y1,VL (aS p (by simp))],by simp[VL y1,VL (af q (by simp))]};let la:=ra.length;let lb:=rb.length;refine jM (I.sfn _ λ c hc=>free c (by simp only[VU,VM,V6] at hc ⊢;rcases hc with h|h|h|h<;>simp[h])) S T D e1 e2 e3 ⟨e4,sa⟩ ⟨e5,sb⟩ (l.imp (λ h=>by simp;omega) λ h=>by simp;omega) λ h1 kp=>{J,I.turnL (t':=s.toks) (ch:=[z,TO,p,q]) (λ c hc=>hf c (by simp only[VU,VM,V6] at hc ⊢;rcases hc with h|h|h|h<;>simp[h])) kp}
 self:=λ _ _ _ _ _ st h=>Yo st.1 h
def kZ2(ka:Ý)(a b:Z)(xs:G V)(H:Hp)(R:It->Hp->Prop):HO->Prop:=λ o=>match o with
 | .lst ys=>R (Itz ka Á a b xs ys) H
 | .tup ys=>R (Itz ka Y a b xs ys) H
 | _=>False
def LY(ka:Ý)(a b:Z)(xs ys:G V)(H:Hp)(R:It->Hp->Prop):kZ2 ka a b xs H R (.lst ys)=R (Itz ka Á a b xs ys) H:=rfl
def LX(ka:Ý)(a b:Z)(xs ys:G V)(H:Hp)(R:It->Hp->Prop):kZ2 ka a b xs H R (.tup ys)=R (Itz ka Y a b xs ys) H:=rfl
def kZ1(a b:Z)(H:Hp)(R:It->Hp->Prop):HO->Prop:=λ o=>match o with
 | .lst xs=>aJ (H b) (kZ2 Á a b xs H R)
 | .tup xs=>aJ (H b) (kZ2 Y a b xs H R)
 | _=>False
def L4(a b:Z)(xs:G V)(H:Hp)(R:It->Hp->Prop):kZ1 a b H R (.lst xs)=aJ (H b) (kZ2 Á a b xs H R):=rfl
def LZ(a b:Z)(xs:G V)(H:Hp)(R:It->Hp->Prop):kZ1 a b H R (.tup xs)=aJ (H b) (kZ2 Y a b xs H R):=rfl
def kZ0(R:It->Hp->Prop):G V->Hp->Prop:=λ vs H=>match vs with
 | [.ref a,.ref b]=>aJ (H a) (kZ1 a b H R)
 | _=>False
def S3(R:It->Hp->Prop)(a b:Z)(H:Hp):kZ0 R [.ref a,.ref b] H=aJ (H a) (kZ1 a b H R):=rfl
def UG(ta:TA):TI:=λ σ H R=>ta σ H (kZ0 R)
def QE(ta:TA)(σ:St)(H:Hp)(R:It->Hp->Prop):UG ta σ H R=ta σ H (kZ0 R):=rfl
theorem QQ{R:It->Hp->Prop}(h:kZ0 R vs H):∃ a b ka kb xs ys,vs=[.ref a,.ref b]/\SqK ka H a xs/\SqK kb H b ys/\R (Itz ka kb a b xs ys) H:=by
 unfold kZ0 at h;split at h
 ·rename_i a b;let(o,e,h):=aq h;unfold kZ1 at h;split at h
  ·rename_i xs;let(o',e',h):=aq h;unfold kZ2 at h;split at h
   ·exact{a,b,Á,Á,xs,_,J,e,e',h}
   ·exact{a,b,Á,Y,xs,_,J,e,e',h}
   ·exact h.elim
  ·rename_i xs;let(o',e',h):=aq h;unfold kZ2 at h;split at h
   ·exact{a,b,Y,Á,xs,_,J,e,e',h}
   ·exact{a,b,Y,Y,xs,_,J,e,e',h}
   ·exact h.elim
  ·exact h.elim
 ·exact h.elim
theorem OY{a b:Ò}{x1}{tp:Pos}{ta:TA}{p pos:Pos}(hg:Gl X "zip")(hm:X.mg "zip"=L)(ha:PA X [a,b] ta)(hs:starEach [a,b] X.env=[(Á,eval a X.env),(Á,eval b X.env)]:=by rfl)(af:starEach [b] X.env=[(Á,eval b X.env)]:=by rfl) :
  PI X (.Tuple elts x1 tp) (.Call (.Name "zip" p) [a,b] [] pos) (UG ta):=by
 intro pins s σ H R I h;refine Call_ (eP I hg hm (show bootBuiltins "zip"=U (.type "zip") by decide +kernel) (Wd (thn (ha pos pins s σ H _ I h) λ us s1 ⟨vs,H1,I1,r1,q1⟩=>?_) (by rw[hs,af]) (by rw[af];rfl)));let(a,b,ka,kb,xs,ys,rfl,sa,sb,q):=QQ q1
 cases r1 with
 | cons r rr=>
  cases rr with
  | cons r' rr=>
   cases rr;cases r;cases r';let(as,ra,aS):=I1.sq sa;let(bs,rb,aX):=I1.sq sb;refine BX aS aX λ h' n hn e1 e2 e3 e4 e5 e6 e7=>?_;let I2:Inv X pins σ H1 { s1 with heap:=h' }:=I1.kept (t':=s1.toks) e7;refine Yo (s:={ s1 with heap:=h' }) e1 {n+4,[n+4,n+2,n+3,n,n+1],_,_,H1,J,I2,FN ka kb a b (n+4) (n+2) (n+3) n (n+1) xs ys (by simp),{e1,e2,{_,_,e3},e4,e5},λ c hc=>?_,q}
   let hle:%[s1|99]<=c:=by
    rw[←hn];simp only[VU,VM,V6] at hc
    rcases hc with rfl|rfl|rfl|rfl|rfl
    ·exact Wv ..
    ·exact Wv ..
    ·exact Wv ..
    ·exact VF _
    ·exact Wv ..
   exact I1.fpOk hle (I1.hok.fresh hle)
def Rp(te:TE)(σ2:St)(N1:VK)(N0:Hp->Prop):Ý->Hp->Prop:=λ b H=>if b=Y then te σ2 H N1 else N0 H
def aK(te:TE)(σ2:St)(N1:VK)(N0:Hp->Prop)(b:Ý)(H:Hp):Rp te σ2 N1 N0 b H=(if b=Y then te σ2 H N1 else N0 H):=rfl
def kCm(k:à)(tt:TT)(te:TE)(σ:St)(N1:VK)(N0:Hp->Prop):St->Hp->Prop:=λ σ2 H=>(∃ vs:St,vs.length=k/\σ2=vs++σ)/\tt σ2 H (Rp te σ2 N1 N0)
theorem aH(tt:TT)(te:TE)(σ:St)(N1:VK)(N0:Hp->Prop)(a:Ü V)(H:Hp):kCm 1 tt te σ N1 N0 (a::σ) H=tt (a::σ) H (Rp te (a::σ) N1 N0):=propext {λ h=>h.2,λ h=>{⟨[a],J,J⟩,h}}
theorem fq(tt:TT)(te:TE)(σ:St)(N1:VK)(N0:Hp->Prop)(a b:Ü V)(H:Hp):kCm 2 tt te σ N1 N0 (a::b::σ) H=tt (a::b::σ) H (Rp te (a::b::σ) N1 N0):=propext {λ h=>h.2,λ h=>{⟨[a,b],J,J⟩,h}}
def LM(σ:St):È 1 (L:Ü V)++σ=L::σ:=rfl
def LL(σ:St):È 2 (L:Ü V)++σ=L::L::σ:=rfl
def Al(R:α->V->Prop)(zs:G α)(ys:G V):Prop:=ys.length=zs.length/\∀ (i:à) z y,zs[i]? = U z->ys[i]? = U y->R z y
theorem Al.nil{R:α->V->Prop}:Al R [] []:={J,λ i z y h=>by simp at h}
theorem Al.snoc{R:α->V->Prop}{zs:G α}{z:α}(h:Al R zs ys)(r:R z y):Al R (zs++[z]) (ys++[y]):=by
 refine{by simp[h.1],λ i z' y' h1 h2=>?_}
 by_cases hi:i<zs.length
 ·rw[Wq hi] at h1;rw[Wq (by rw[h.1];exact hi)] at h2;exact h.2 i z' y' h1 h2
 ·rw[Wj (by omega)] at h1;rw[Wj (by rw[h.1];omega),h.1] at h2
  by_cases h0:i - zs.length=0
  ·rw[h0] at h1 h2;simp at h1 h2;subst h1;subst h2;exact r
  ·rw[WT (by simp;omega)] at h1;cases h1
theorem Al.imp{R S:α->V->Prop}{zs:G α}(h:Al R zs ys)(f:∀ z y,R z y->S z y):Al S zs ys:={h.1,λ i z y a b=>f z y (h.2 i z y a b)}
theorem Al.map{f:α->V}{zs:G α}(h:Al (λ z y=>y=f z) zs ys):ys=zs.map f:=by
 apply Ze;intro i;rw[VS]
 by_cases hi:i<zs.length
 ·let e1:zs[i]? = U zs[i]:=VA hi;have e2:ys[i]? = U (ys[i]'(by rw[h.1];exact hi)):=VA _;rw[e1,e2,h.2 i _ _ e1 e2];rfl
 ·have:=h.1;rw[WT (show ys.length<=i by omega),WT (show zs.length<=i by omega)];rfl
section
variable {tt:TT}{te:TE}{Q:VK}{K:PySem.W.Frag}
theorem eU(zs:G α)(c:α->Ý)(P:α->V->Hp->Prop)(R:Z->α->V->Hp->Prop)
  (a5:∀ i z H',zs[i]? = U z->Ext H H'->ww.go i H'/\∀ x af,ww.yld i H' x af->Ext H' af/\P z x af)
  (a6:∀ H',Ext H H'->ww.stop zs.length H')
  (a3:∀ D z y H1 H2,R D z y H1->Ext H1 H2->R D z y H2) (a4:∀ D z y H1 o,R D z y H1->R D z y (upd H1 D o))
  (hl:zs.length<=Å)
  (hs:∀ D z x H' N1 N0,z∈zs->H D=L->Ext H H'->(∃ ys,H' D=U (.lst ys))->P z x H'->(c z=Y->∀ y af,Ext H' af->R D z y af->N1 y af)->(c z=Á->∀ af,Ext H' af->N0 af)->g x (È k L++σ) H' (kCm k tt te σ N1 N0))
  (hd:∀ D ys H',H D=L->Ext H H'->H' D=U (.lst ys)->Al (λ z y=>R D z y H') (zs.filter c) ys->Q (.ref D) H'):Fl k g tt te σ Q ww H:=by
 intro D hD;refine{λ i m ys H'=>m=zs.length - i/\i<=zs.length/\Ext H H'/\H' D=U (.lst ys)/\Al (λ z y=>R D z y H') ((zs.take i).filter c) ys,{zs.length,by simp,Wz _,Ext.new hD,aj,by simpa using Al.nil},?_};rintro i m ys H' ⟨rfl,hi,e,aS,al⟩
 by_cases hlt:i<zs.length
 ·let hz:zs[i]? = U zs[i]:=VA hlt;let(go,y):=a5 i zs[i] H' hz e;let tk:zs.take (i+1)=zs.take i++[zs[i]]:=by rw[List.take_succ,hz];rfl
  let ln:ys.length<Å:=by
   let h1:=al.1;let h2:=YO c (zs.take i);simp only[Wi] at h2;omega
  refine .inr {go,λ aX H2=>Ext H H2/\H2 D=U (.lst aX)/\Al (λ z y=>R D z y H2) ((zs.take (i+1)).filter c) aX,λ aX H2 p=>{zs.length - (i+1),by omega,J,hlt,p},λ x H2 z=>?_};let(e2,p2):=y x H2 z;refine hs D zs[i] x H2 (kC3 D ys _) _ (Xm hlt) hD (e.trans e2) ⟨ys,e2.at aS⟩ p2 (λ hc y H3 e3 r3=>?_) λ hc H3 e3=>?_
  ·refine{e3.at (e2.at aS),ln,(e.trans (e2.trans e3)).put hD,aj,?_};rw[tk,Yr,show [zs[i]].filter c=[zs[i]] by simp[hc]];exact Al.snoc (al.imp λ z y r=>a4 _ _ _ _ _ (a3 _ _ _ _ _ r (e2.trans e3))) (a4 _ _ _ _ _ r3)
  ·refine{e.trans (e2.trans e3),(e2.trans e3).at aS,?_};rw[tk,Yr,show [zs[i]].filter c=[] by simp[hc],X6];exact al.imp λ z y r=>a3 _ _ _ _ _ r (e2.trans e3)
 ·let e':i=zs.length:=by omega
  subst e';rw[WN] at al;exact .inl {a6 H' e,hd D ys H' hD e aS al}
theorem bc(zs:G α)(c:α->Ý)(f:α->V)(P:α->V->Hp->Prop)
  (aS:∀ i z H',zs[i]? = U z->Ext H H'->ww.go i H'/\∀ x af,ww.yld i H' x af->Ext H' af/\P z x af)
  (aX:∀ H',Ext H H'->ww.stop zs.length H') (hl:zs.length<=Å)
  (hs:∀ D z x H' N1 N0,z∈zs->H D=L->Ext H H'->P z x H'->(c z=Y->∀ af,Ext H' af->N1 (f z) af)->(c z=Á->∀ af,Ext H' af->N0 af)->g x (È k L++σ) H' (kCm k tt te σ N1 N0))
  (hd:∀ D H',H D=L->Ext H H'->H' D=U (.lst ((zs.filter c).map f))->Q (.ref D) H'):Fl k g tt te σ Q ww H:=
 eU zs c P (λ _ z y _=>y=f z) aS aX (λ _ _ _ _ _ r _=>r) (λ _ _ _ _ _ r=>r) hl (λ D z x H' N1 N0 hz hD e _ p k1 k0=>hs D z x H' N1 N0 hz hD e p (λ hc af e'=>k1 hc _ af e' J) k0) λ D ys H' hD e a3 al=>hd D H' hD e (by rw[←al.map];exact a3)
theorem cF{lo:B}:(∀ i z H',(Ì n)[i]? = U z->Ext H H'->(Itr lo n).go i H'/\∀ x af,(Itr lo n).yld i H' x af->Ext H' af/\x=.int (lo+(z:à)))/\∀ H',Ext H H'->(Itr lo n).stop (Ì n).length H':=by
 refine{λ i z H' hz _=>?_,λ H' _=>by simp[Itr]};let(h1,h2):=VB.mp hz;let e:i=z:=by simpa using h2
 subst e;exact{(show i<n by simpa using h1),λ x af y=>{by rw[y.1];exact Ext.refl _,y.2}}
theorem gp{a:Z}(h:H a=U (.lst xs)):(∀ i z H',xs[i]? = U z->Ext H H'->(Itl K a).go i H'/\∀ x af,(Itl K a).yld i H' x af->Ext H' af/\(x=z/\af a=U (.lst xs)))/\∀ H',Ext H H'->(Itl K a).stop xs.length H':=
 ⟨λ i z H' hz e=>{⟨xs,z,SqL.of (e.at h),hz⟩,λ x af y=>{by rw[y.1];exact Ext.refl _,We ((y.2 xs (SqL.of (e.at h))).symm.trans hz),by rw[y.1];exact e.at h}},λ H' e=>{xs,SqL.of (e.at h),VF _}⟩
theorem SqK.ext{kk:Ý}{a:Z}(h:SqK kk H a xs)(e:Ext H H'):SqK kk H' a xs:=by
 cases kk
 ·exact e.at (show H a=U (.lst xs) from h)
 ·exact e.at (show H a=U (.tup xs) from h)
def II(z:V × V)(x:V)(H:Hp):Prop:=∃ p,x=.ref p/\H p=U (.tup [z.1,z.2])
theorem kL{a:Z}(ha:SqK ka H a xs)(hb:SqK kb H b ys):(∀ i z H',(xs.zip ys)[i]? = U z->Ext H H'->(Itz ka kb a b xs ys).go i H'/\∀ x af,(Itz ka kb a b xs ys).yld i H' x af->Ext H' af/\II z x af)/\∀ H',Ext H H'->(Itz ka kb a b xs ys).stop (xs.zip ys).length H':=by
 refine{λ i z H' hz e=>?_,λ H' e=>{ha.ext e,hb.ext e,?_}}
 ·let(h1,h2):=VB.mp hz;rw[Xf] at h1;refine{⟨ha.ext e,hb.ext e,by omega,by omega⟩,λ x af y=>?_};let(p,u,v,hp,rfl,hu,hv,rfl):=y;refine{Ext.new hp,p,J,?_};rw[aj];rw[VA (by omega)] at hu hv;cases hu;cases hv;rw[←h2,List.getElem_zip]
 ·rw[Xf];omega
theorem qe{a:Z}(Pv:à->St->Hp->Prop)(h0:Pv 0 σ H)(hl:∀ i σ H,Pv i σ H->SqK ka H a xs/\SqK kb H b ys)
  (hs:∀ i u v p σ H H',xs[i]? = U u->ys[i]? = U v->Pv i σ H->H p=L->Ext H H'->H' p=U (.tup [u,v])->g (.ref p) σ H' (uG tb {Pv (i+1),rt,nx,Pv (i+1)})) (hd:∀ σ H,Pv (min xs.length ys.length) σ H->nx σ H):JC g tb {(nx),rt,bk,ct} σ (Itz ka kb a b xs ys) H:=by
 refine{λ i m σ H=>m=min xs.length ys.length - i/\i<=min xs.length ys.length/\Pv i σ H,{min xs.length ys.length,by simp,Wz _,h0},?_};rintro i m σ H ⟨rfl,hi,p⟩;let(qa,qb):=hl i σ H p
 by_cases hlt:i<min xs.length ys.length
 ·refine .inr {⟨qa,qb,by omega,by omega⟩,Pv (i+1),λ σ' H' p'=>{min xs.length ys.length - (i+1),by omega,J,hlt,p'},λ x H' y=>?_};let(r,u,v,hr,rfl,hu,hv,rfl):=y;exact hs i u v r σ H _ hu hv p hr (Ext.new hr) aj
 ·let e:i=min xs.length ys.length:=by omega
  subst e;exact .inl {⟨qa,qb,by omega⟩,hd σ H p}
end
def OF(sc:Scope)(N:G Ç)(scope:Scope)(N':G Ç)(k:à):Ý:=
 scope.names.all (λ y=>!(y.2 == .cell)) && (scope.kind == .function) && scope.names.all (λ y=>!(y.2 == .local) || scope.names.lookup y.1 == U .local) && scope.names.all (λ y=>!(y.2 == .free) || sc.names.lookup y.1 == U .cell) && decide (N'.length=k+N.length) &&
  ((N'.drop k).zip N).all (λ p=>(!(scope.names.lookup p.1 == U .free) || decide (p.1=p.2)) && !(scope.names.lookup p.1 == U .local))
theorem aD(sc:Scope)(N:G Ç)(h1:X.env.scope=sc)(h2:X.N=N)(h:OF sc N scope N' k=Y):lX X scope N' k:=by
 unfold OF at h;simp only[Bool.and_eq_true,decide_eq_true_eq] at h;let(((((a1,a2),a3),a4),a5),a6):=h;rw[all_eq_true] at a1 a3 a4 a6
 let pr:∀ i x,N'[k+i]? = U x->∃ y,N[i]? = U y/\(x,y)∈(N'.drop k).zip N:=λ i x hx=>by
  let h0:=(VB.mp hx).1;let hi:i<N.length:=by omega
  let e1:(N'.drop k)[i]? = U x:=by rw[List.getElem?_drop];exact hx
  let e2:N[i]? = U N[i]:=VA hi;refine{_,e2,V8 (i:=i) ?_};rw[Yu];exact{(e1),e2}
 refine{λ y hy e=>?_,by simpa using a2,λ y hy e=>?_,λ y hy e=>?_,by rw[h2];exact a5,λ i x hx hf=>?_,λ i x hx hf=>?_}
 ·have:=a1 y hy;rw[e] at this;simp at this
 ·have:=a3 y hy;rw[e] at this;simpa using this
 ·have:=a4 y hy;rw[e] at this;rw[h1];simpa using this
 ·let(y,hy,hm):=pr i x hx;have:=a6 _ hm;simp only[hf] at this;rw[h2,hy];simp at this;rw[this]
 ·let(y,hy,hm):=pr i x hx;have:=a6 _ hm;simp[hf] at this
def Ke(H:Hp)(Q:VK):V->Prop:=λ v=>Q v H
def Ml(H:Hp)(Q:VK)(v:V):Ke H Q v=Q v H:=rfl
def Fj(K:Æ)(f:Ç)(H:Hp)(Q:VK):HO->Prop:=λ o=>match o with
 | .ins C dx fs=>Cls K C/\cq K C f/\aJ (fs.lookup f) (Ke H Q)
 | _=>False
def Mm(K:Æ)(f:Ç)(H:Hp)(Q:VK)(C dx:Z)(fs:G (Ç × V)):Fj K f H Q (.ins C dx fs)=(Cls K C/\cq K C f/\aJ (fs.lookup f) (Ke H Q)):=rfl
def NO(K:Æ)(f:Ç)(Q:VK):VK:=λ x H=>match x with
 | .ref a=>aJ (H a) (Fj K f H Q)
 | _=>False
def Qo(K:Æ)(f:Ç)(Q:VK)(a:Z)(H:Hp):NO K f Q (.ref a) H=aJ (H a) (Fj K f H Q):=rfl
def Ui(K:Æ)(ta:TE)(f:Ç):TE:=λ σ H Q=>ta σ H (NO K f Q)
def PY(K:Æ)(ta:TE)(f:Ç)(σ:St)(H:Hp)(Q:VK):Ui K ta f σ H Q=ta σ H (NO K f Q):=rfl
theorem MQ{f:Ç}{Q:VK}{x:V}(h:NO K f Q x H):∃ a C dx fs v,x=.ref a/\H a=U (.ins C dx fs)/\Cls K C/\cq K C f/\fs.lookup f=U v/\Q v H:=by
 unfold NO at h;split at h
 ·let(o,e,h):=aq h;unfold Fj at h;split at h
  ·let(c,n,h):=h;let(v,l,q):=aq h;exact{_,_,_,_,v,J,e,c,n,l,q}
  ·exact h.elim
 ·exact h.elim
section
variable {e o value:Ò}{ta tv:TE}{f:Ç}{pos':Pos}
theorem La(he:PE X e ta)(hb:attributeBase e f X.env (eval e X.env)=eval e X.env):PE X (.Attribute e f pos) (Ui X.K ta f):=by
 intro pins s σ H Q I h;refine Cf hb (thn (he pins s σ H _ I h) λ u s1 ⟨x,H1,I1,rx,q1⟩=>?_);let(a,C,dx,fs,v,ex,ea,c,n,l,q):=MQ q1;subst ex;obtain rfl:u=Ê a:=rx;exact zF I1 ea c n l λ u' s2 I2 ru=>{(v),H1,I2,ru,q}
def Ff(K:Æ)(f:Ç)(y:V)(a:Z)(σ:St)(nx:St->Hp->Prop)(H:Hp):HO->Prop:=λ o=>match o with
 | .ins C dx fs=>Cls K C/\cq K C f/\fs.length<1000/\nx σ (upd H a (.ins C dx (gC f y fs)))
 | _=>False
def L7(K:Æ)(f:Ç)(y:V)(a:Z)(σ:St)(nx:St->Hp->Prop)(H:Hp)(C dx:Z)(fs:G (Ç × V)):Ff K f y a σ nx H (.ins C dx fs)=(Cls K C/\cq K C f/\fs.length<1000/\nx σ (upd H a (.ins C dx (gC f y fs)))):=rfl
def Fg(K:Æ)(f:Ç)(y:V)(σ:St)(nx:St->Hp->Prop):VK:=λ x H=>match x with
 | .ref a=>aJ (H a) (Ff K f y a σ nx H)
 | _=>False
def Ma(K:Æ)(f:Ç)(y:V)(σ:St)(nx:St->Hp->Prop)(a:Z)(H:Hp):Fg K f y σ nx (.ref a) H=aJ (H a) (Ff K f y a σ nx H):=rfl
def Ka(K:Æ)(f:Ç)(ta:TE)(σ:St)(nx:St->Hp->Prop):VK:=λ y H=>ta σ H (Fg K f y σ nx)
def Mb(K:Æ)(f:Ç)(ta:TE)(σ:St)(nx:St->Hp->Prop)(y:V)(H:Hp):Ka K f ta σ nx y H=ta σ H (Fg K f y σ nx):=rfl
def Oh(K:Æ)(ta tv:TE)(f:Ç):TS:=λ D σ H=>tv σ H (Ka K f ta σ D.nx)
def LP(K:Æ)(ta tv:TE)(f:Ç)(nx:St->Hp->Prop)(rt:VK)(bk ct:St->Hp->Prop)(σ:St)(H:Hp):Oh K ta tv f {(nx),rt,bk,ct} σ H=tv σ H (Ka K f ta σ nx):=rfl
theorem lJ(ha:PE X o ta)(hv:PE X value tv)(hs:swapsWith value (U (.Attribute o f pos')) pos.line X.env=pure Á):PS X (.Assign [.Attribute o f pos'] value pos) (Oh X.K ta tv f):=by
 intro pins s σ H D I h;refine plainObj_wpAny_Assign_Attribute (thn (hv pins s σ H _ I h) λ u s1 ⟨y,H1,I1,ry,q⟩=>thn (ha pins s1 σ H1 _ I1 q) λ ov s2 ⟨x,H2,I2,rx,q1⟩=>?_) hs;unfold Fg at q1;split at q1
 ·rename_i a;obtain rfl:ov=Ê a:=rx;let(ob,ea,q1):=aq q1;unfold Ff at q1;split at q1
  ·let(c,n,l,q2):=q1;exact yx I2 ea c n l ry λ s3 I3=>{σ,_,I3,q2}
  ·exact q1.elim
 ·exact q1.elim
end
def rX(sp:Sp)(dvs:G V)(E:XK)(a:Z)(Q:VK):G V->Hp->Prop:=λ vs H=>sp (.ref a::(vs++dvs)) H Q E
def yX(sp:Sp)(dvs:G V)(E:XK)(a:Z)(Q:VK)(H:Hp):rX sp dvs E a Q [] H=sp (.ref a::dvs) H Q E:=rfl
def yW(sp:Sp)(dvs:G V)(E:XK)(a:Z)(Q:VK)(x:V)(H:Hp):rX sp dvs E a Q [x] H=sp (.ref a::x::dvs) H Q E:=rfl
def yV(sp:Sp)(dvs:G V)(E:XK)(a:Z)(Q:VK)(x y:V)(H:Hp):rX sp dvs E a Q [x,y] H=sp (.ref a::x::y::dvs) H Q E:=rfl
def wO(C:Z)(m:Ç)(sp:Sp)(dvs:G V)(E:XK)(t:TA)(σ:St)(Q:VK)(a:Z)(H:Hp):HO->Prop:=λ o=>match o with
 | .ins C' dx fs=>C'=C/\fs.lookup m=L/\t σ H (rX sp dvs E a Q)
 | _=>False
theorem GQ(C:Z)(m:Ç)(sp:Sp)(dvs:G V)(E:XK)(t:TA)(σ:St)(Q:VK)(a:Z)(H:Hp)(dx:Z)(fs:G (Ç × V)):wO C m sp dvs E t σ Q a H (.ins C dx fs)=(fs.lookup m=L/\t σ H (rX sp dvs E a Q)):=propext {λ h=>h.2,λ h=>{(J),h}}
def Ao(C:Z)(m:Ç)(sp:Sp)(dvs:G V)(E:XK)(t:TA)(σ:St)(Q:VK):VK:=λ x H=>match x with
 | .ref a=>aJ (H a) (wO C m sp dvs E t σ Q a H)
 | _=>False
def Mi(C:Z)(m:Ç)(sp:Sp)(dvs:G V)(E:XK)(t:TA)(σ:St)(Q:VK)(a:Z)(H:Hp):Ao C m sp dvs E t σ Q (.ref a) H=aJ (H a) (wO C m sp dvs E t σ Q a H):=rfl
def JY(C:Z)(m:Ç)(sp:Sp)(dvs:G V)(E:XK)(ta:TE)(t:TA):TE:=λ σ H Q=>ta σ H (Ao C m sp dvs E t σ Q)
def LR(C:Z)(m:Ç)(sp:Sp)(dvs:G V)(E:XK)(ta:TE)(t:TA)(σ:St)(H:Hp)(Q:VK):JY C m sp dvs E ta t σ H Q=ta σ H (Ao C m sp dvs E t σ Q):=rfl
theorem xC{m:Ç}{sp:Sp}{dvs:G V}{E:XK}{Q:VK}{x:V}(h:Ao C m sp dvs E t σ Q x H):∃ a dx fs,x=.ref a/\H a=U (.ins C dx fs)/\fs.lookup m=L/\t σ H λ vs H2=>sp (x::(vs++dvs)) H2 Q E:=by
 unfold Ao at h;split at h
 ·let(o,e,h):=aq h;unfold wO at h;split at h
  ·let(rfl,l,h):=h;exact{_,_,_,J,e,l,h}
  ·exact h.elim
 ·exact h.elim
section
variable {X:Cx}{cb:Ý}{CX:CXT}{k:à}{f C:Z}{fd:Â}{ps:G Ç}{sp:Sp}{dvs:G V}{ds:G O}{E:XK}{x m:Ç}{p pos apos:Pos}{e o:Ò}{es:G Ò}{ta:TE}{t:TA}
theorem Gk{pl:Sem Ý}(he:PE X o ta)(c:Cls X.K C)(hm:wF X.K C m f)(F:lu cb X.prog X.w X.K X.mg X.base CX k f fd ps sp)(hr:jk k X.A)(hb:az X.K fd ps ds)(hd:bf dvs ds)(hx:kR CX X E)(ha:PA X (e::es) t)
  (af:starEach (e::es) X.env=(Á,eval e X.env)::starEach es X.env:=by rfl) (aS:(backTo pos (starEach es X.env)).any (·.1)=Á:=by rfl)
  (ht:eval (.Call (.Attribute o m apos) (e::es) [] pos) X.env=(do
   let ov ←eval o X.env
   standAt apos.atName
   let (f,first) ←holding [ov] (getMethod ov m pl)
   callWith pos f first (backTo pos (starEach (e::es) X.env)) (backToKw pos (keywordEach [] X.env))):=by rfl) (aX:(!cb || X.calm)=Y:=by rfl) :
  PE X (.Call (.Attribute o m apos) (e::es) [] pos) (JY C m sp dvs E ta t):=by
 intro pins s σ H Q I h;refine W.methodCall_KW (pl:=pl) (thn (he pins s σ H _ I h) λ u s1 ⟨x,H1,I1,rx,q0⟩=>?_) ht;let(a,dx,fs,ex,ea,l,q):=xC q0;subst ex;obtain rfl:u=Ê a:=rx;refine pe I1 ea c hm l ?_;refine W.callWith_K (first:=[.ref a]) (h₀:=X.base) I.ok.mod.kin hm.kp (thn (ha pos pins s1 σ H1 _ I1 q) λ us s2 ⟨vs,H2,I2,r,q2⟩=>{I2.kIn,?_}) af aS;exact AR (us:=.ref a::us) (vs:=.ref a::vs) aX F hr hb hd hx I2 (.cons J r) q2
theorem CL{pl:Sem Ý}(he:PE X o ta)(c:Cls X.K C)(hm:wF X.K C m f)(F:lu cb X.prog X.w X.K X.mg X.base CX k f fd ps sp)(hr:jk k X.A)(hb:az X.K fd ps ds)(hd:bf dvs ds)(hx:kR CX X E)
  (ht:eval (.Call (.Attribute o m apos) [] [] pos) X.env=(do
   let ov ←eval o X.env
   standAt apos.atName
   let (f,first) ←holding [ov] (getMethod ov m pl)
   callWith pos f first (backTo pos (starEach [] X.env)) (backToKw pos (keywordEach [] X.env))):=by rfl) (af:(!cb || X.calm)=Y:=by rfl) :
  PE X (.Call (.Attribute o m apos) [] [] pos) (JY C m sp dvs E ta NI):=by
 intro pins s σ H Q I h;refine W.methodCall_KW (pl:=pl) (thn (he pins s σ H _ I h) λ u s1 ⟨x,H1,I1,rx,q0⟩=>?_) ht;let(a,dx,fs,ex,ea,l,q):=xC q0;subst ex;obtain rfl:u=Ê a:=rx;refine pe I1 ea c hm l ?_;exact W.callWith_K0 (first:=[.ref a]) I1.kIn hm.kp (AR (us:=[.ref a]) (vs:=[.ref a]) af F hr hb hd hx I1 (.cons J .nil) q)
end
def Fh(x:Z)(Q:VK):VK:=λ v H=>v=.non/\Q (.ref x) H
theorem Mj(x:Z)(Q:VK)(H:Hp):Fh x Q .non H=Q (.ref x) H:=propext {λ h=>h.2,λ h=>{(J),h}}
def yo(C:Z)(sp:Sp)(dvs:G V)(E:XK)(Q:VK):G V->Hp->Prop:=λ vs H=>∀ (x dx:Z) (H':Hp),H x=L->H dx=L->dx≠x->Ext H H'->H' x=U (.ins C dx [])->H' dx=U (.own x)->sp (.ref x::(vs++dvs)) H' (Fh x Q) E
def Dn(C:Z)(sp:Sp)(dvs:G V)(E:XK)(Q:VK)(a:V)(H:Hp):yo C sp dvs E Q [a] H=∀ (x dx:Z) (H':Hp),H x=L->H dx=L->dx≠x->Ext H H'->H' x=U (.ins C dx [])->H' dx=U (.own x)->sp (.ref x::a::dvs) H' (Fh x Q) E:=rfl
def Dm(C:Z)(sp:Sp)(dvs:G V)(E:XK)(Q:VK)(a b c:V)(H:Hp):yo C sp dvs E Q [a,b,c] H=∀ (x dx:Z) (H':Hp),H x=L->H dx=L->dx≠x->Ext H H'->H' x=U (.ins C dx [])->H' dx=U (.own x)->sp (.ref x::a::b::c::dvs) H' (Fh x Q) E:=rfl
def Oi(C:Z)(sp:Sp)(dvs:G V)(E:XK)(t:TA):TE:=λ σ H Q=>t σ H (yo C sp dvs E Q)
def LS(C:Z)(sp:Sp)(dvs:G V)(E:XK)(t:TA)(σ:St)(H:Hp)(Q:VK):Oi C sp dvs E t σ H Q=t σ H (yo C sp dvs E Q):=rfl
section
variable {sp:Sp}{dvs:G V}{ds:G O}{E:XK}{m:Ç}{p apos:Pos}{e o:Ò}{ta:TE}
theorem yo.to{Q:VK}(h:yo C sp dvs E Q vs H):∀ x dx,H x=L->H dx=L->dx≠x->sp (.ref x::(vs++dvs)) (upd (upd H dx (.own x)) x (.ins C dx [])) (λ v H2=>v=.non/\Q (.ref x) H2) E:=λ x dx hx hd ne=>
 h x dx _ hx hd ne ((Ext.new hd).put hx) aj (by rw[ag ne,aj])
theorem Gm(M:Mk X.K C f)(F:lu cb X.prog X.w X.K X.mg X.base CX k f fd ps sp)(hr:jk (k+1) X.A)(hg:Gl X x)(hm:X.mg x=U (.ref C))(hb:az X.K fd ps ds)(hd:bf dvs ds)(hx:kR CX X E)
  (ha:PA X (e::es) t) (af:(x == ("__debug__":Ç))=Á:=by decide) (he:starEach (e::es) X.env=(Á,eval e X.env)::starEach es X.env:=by rfl) (aS:(backTo pos (starEach es X.env)).any (·.1)=Á:=by rfl) (aX:(!cb || X.calm)=Y:=by rfl) :
  PE X (.Call (.Name x p) (e::es) [] pos) (Oi C sp dvs E t):=by
 intro pins s σ H Q I h;refine W3 (gK I hg hm ?_ af);refine W.callWith_K (h₀:=X.base) I.ok.mod.kin M.kp (thn (ha pos pins s σ H _ I h) λ us s1 ⟨vs,H1,I1,r,q⟩=>{I1.kIn,?_}) he aS;exact FW aX M F hr hb hd hx I1 r q.to
end
def BH:Ò->Ý
 | .Starred ..=>Á
 | _=>Y
theorem Ky{e:Ò}(h:BH e=Y):starEach (e::es) env=(Á,eval e env)::starEach es env:=by
 cases e<;>first|rfl|cases h
theorem NL{e:Ò}{te:TE}(ha:PE X e te)(hr:PA X es t)(hn:BH e=Y:=by rfl):PA X (e::es) (E9 te t):=Le ha hr (Ky hn)
def SG(K:Æ)(t:TA)(σ:St)(H:Hp)(Q:VK):tXI K t σ H Q=t σ H (kXI K Q):=rfl
def Ll(K:Æ)(ta tv:TE)(f:Ç)(nx:St->Hp->Prop)(rt:VK)(bk ct:St->Hp->Prop)(σ:St)(H:Hp):NT K ta tv f {(nx),rt,bk,ct} σ H=tv σ H (RK K f ta σ nx):=rfl
def PZ(K:Æ)(f:Ç)(ta:TE)(σ:St)(nx:St->Hp->Prop)(y:V)(H:Hp):RK K f ta σ nx y H=ta σ H (Up K f y σ nx):=rfl
def Dh(C:Z)(sp:Sp)(E:St->XK)(t:TA)(D:iG)(σ:St)(H:Hp):Bi C sp E t D σ H=t σ H (kRI C sp (E σ)):=rfl
def SH(K:Æ)(ta:TE)(f:Ç)(σ:St)(H:Hp)(Q:VK):tXF K ta f σ H Q=ta σ H (kXF K f Q):=rfl
def Rw(C:Z)(f:Ç):Sp:=λ vs H Q E=>∃ e x,vs=[.ref e,x]/\H e=U (exH e C L)/\∀ dx H',H dx=L->dx≠e->(∀ b o,b≠e->H b=U o->H' b=U o)->H' e=U (exH e C (U dx))->H' dx=U (.xd [(f,x)])->Q .non H'
theorem QJ(C:Z)(f:Ç){Q:VK}{E:XK}(h:Rw C f vs H Q E):vs.length=2:=by
 let(_,_,rfl,_):=h;rfl
theorem QS{f:Ç}{E:XK}{x:V}(h:∀ dx H',Ext H H'->H' dx=U (.xd [(f,x)])->E (.ref C) (U dx) H'):kRI C (Rw C f) E [x] H:=by
 refine{(show 1<=Å by decide),λ e he=>{e,x,J,aj,λ dx H' h1 h2 h3 h4 h5=>{J,U dx,h4,λ _ z=>by cases z;exact{_,by rw[eQ h2];exact h5},h dx _ (nY.ext λ b o q=>?_) (by rw[eQ h2];exact h5)}}};let hb:b≠e:=ba q he;rw[eQ hb];exact h3 b o hb (by rw[ag hb];exact q)
def bp(H:Hp)(z:G B)(y:V):Prop:=∃ q,y=.ref q/\H q=U (.tup (z.map V.int))
theorem bp.ext{z:G B}(h:bp H z y)(e:Ext H H'):bp H' z y:=by
 let(q,rfl,hq):=h;exact{q,J,e.at hq}
theorem bp.upd{z:G B}(h:bp H z y)(hp:H p=U (.lst xs)):bp (upd H p o) z y:=by
 let(q,rfl,hq):=h;exact{q,J,by rw[ag (λ z=>by rw[z,hp] at hq;cases hq)];exact hq}
def bP(H:Hp)(p:Z)(zs:G (G B)):Prop:=∃ ys,H p=U (.lst ys)/\Al (bp H) zs ys
theorem bP.ext{zs:G (G B)}(h:bP H p zs)(e:Ext H H'):bP H' p zs:=by
 let(ys,hp,al):=h;exact{ys,e.at hp,al.imp λ _ _ r=>r.ext e}
theorem wY{H:Hp}{f:V->Ü PyData}:∀ {zs:G (G B)}{ys:G V},Al (bp H) zs ys->aV (ys.map (dR H (dR H f)))=U (zs.map λ z=>PyData.tuple (z.map PyData.int))
 | [],ys,h=>by rw[WH h.1];rfl
 | z::zs,[],h=>by have:=h.1;simp at this
 | z::zs,y::ys,h=>by
  let(q,rfl,hq):=h.2 0 z y J J;let ih:=wY (H:=H) (f:=f) (zs:=zs) (ys:=ys) ⟨by have:=h.1;simpa using this,λ i z y a b=>h.2 (i+1) z y (by simpa using a) (by simpa using b)⟩
  let e1:dR H (dR H f) (.ref q)=U (.tuple (z.map PyData.int)):=by
   rw[eh,hq]
   show Ah (dR H f) (.tup (z.map V.int))=_
   rw[ef,fg];rfl
  rw[Wr,e1,fG,ih];rfl
def ao(h:n<=5000):n<=Å:=Wo h (by decide)
def kP(h:n<5000):n<Å:=VR h (by decide)
theorem fR{R:α->V->Hp->Prop}(hR:∀ z y H H',R z y H->Ext H H'->R z y H'){zs:G α}(h:H l=U (.lst ys))(al:Al (λ z y=>R z y H) zs ys) :
  (∀ i z H',zs[i]? = U z->Ext H H'->(Itl K l).go i H'/\∀ x af,(Itl K l).yld i H' x af->Ext H' af/\R z x af)/\∀ H',Ext H H'->(Itl K l).stop zs.length H':=by
 refine{λ i z H' hz e=>?_,λ H' e=>{ys,SqL.of (e.at h),by rw[al.1];exact VF _}};let hi:i<ys.length:=by rw[al.1];exact(VB.mp hz).1
 let hy:ys[i]? = U ys[i]:=VA hi;refine{⟨ys,ys[i],SqL.of (e.at h),hy⟩,λ x af y=>?_};let hx:x=ys[i]:=We ((y.2 ys (SqL.of (e.at h))).symm.trans hy);refine{by rw[y.1];exact Ext.refl _,?_};rw[hx,y.1];exact hR _ _ _ _ (al.2 i z _ hz hy) e
def axP(a:B × B)(x:V)(H:Hp):Prop:=∃ q,x=.ref q/\H q=U (.tup [.int a.1,.int a.2])
theorem axP.ext{a:B × B}{x:V}(h:axP a x H)(e:Ext H H'):axP a x H':=by
 let(q,rfl,hq):=h;exact{q,J,e.at hq}
theorem oS{axs:G (B × B)}(al:Al (bp H) (axs.map λ a=>[a.1,a.2]) ys):Al (λ a y=>axP a y H) axs ys:=by
 refine{by rw[al.1,VD],λ i a y ha hy=>?_};let(q,hq,h):=al.2 i [a.1,a.2] y (by rw[VS,ha];rfl) hy;exact{(q),hq,h}
abbrev iJ(h:Í)(z TI TO:Z)(f0:O)(f:Ý):Prop:=
 h.get? z=U { cls:=.type "zip",dict:=L,data:=.fields #[f0,.bool f,.bool Á,.ref TI,.ref TO],slots:=#[] }
section
theorem IG{a:Z}{o:Obj}{Q:Ü Obj->À->Prop}(ho:s.heap.get? a=U o)(h:Q (U o) s):Ä (É prog w) A (loadIfAlive a) Q E s:=by
 let h':Q (s.heap.get? a) s:=by rw[ho];exact h
 exact λ _ _ _=>h'
variable {z TI TO i j:Z}{f g:G Z}{ti tj:à->Í->Prop}{vi vj:à->Ü O}{m:à}{x y:O}{t:Z}{fl:Ý}{ot:Obj}
theorem r0{Q:Ý->À->Prop}(hz:iJ s.heap z TI TO (rawInt t) fl)(ht:s.heap.get? t=U ot)
  (hQ:∀ h',iJ h' z TI TO (rawInt t) Y->Heap.SameBut z s.heap h'->Q Á { s with heap:=h' }):Ä (É prog w) A (Builtin.SmallTypes.ownedTupleIsFree (.ref z)) Q E s:=by
 unfold Builtin.SmallTypes.ownedTupleIsFree;refine wpAny_bind (wpAny_field hz J (x:=rawInt t) J ?_)
 show Ä _ _ (loadIfAlive ((t:B).toNat) >>= _) _ _ _
 rw[VW];refine My (IG ht ?_);simp only[Option.isNone_some,WQ,XU];refine My (VV hz J (x:=.bool fl) J ?_)
 cases fl with
 | true=>
  rw[VY (show ¬ ((Value.bool Y != Value.bool Y)=Y) from VJ)];exact VC (hQ s.heap hz (Heap.SameBut.refl _ _))
 | false=>
  rw[V7 (show (Value.bool Á != Value.bool Y)=Y from J)];exact My (Wm hz (by simp) λ h3 z3 s3=>VC (hQ h3 z3 s3))
theorem Cu(S:Src prog w i f ti vi)(T:Src prog w j g tj vj)(D:gr z TI TO i j f g){Q:O->À->Prop}
  (hz:iJ s.heap z TI TO (rawInt t) fl) (ht:s.heap.get? t=U ot) (af:IsPair s.heap TI (.ref i) (.ref j)) (hi:ti k s.heap) (hj:tj m s.heap) (hx:vi k=U x) (hy:vj m=U y)
  (hQ:∀ h',iJ h' z TI TO (rawInt t) Y->ti (k+1) h'->tj (m+1) h'->IsPair h' %[s|99] x y->h'.objs.size=%[s|99]+1->(∀ c o,c ∉ [z,i,j]->s.heap.get? c=U o->h'.get? c=U o)->Q (.ref %[s|99]) { s with heap:=h' }) :
  Ä (É prog w) A (Builtin.«zip.__next__» ⟨[.ref z],[]⟩) (λ fin s'=>∃ v,fin=.done (.ret v)/\Q v s') E s:=by
 let iz:i≠z:=bj S.mem D.zf;let jz:j≠z:=bj T.mem D.zg;refine My (m:=field (.ref z) 2) (VV hz J (x:=.bool Á) J ?_);refine My (m:=field (.ref z) 3) (VV hz J (x:=.ref TI) J (My (V2 af J ?_)));refine My (m:=Builtin.SmallTypes.ownedTupleIsFree (.ref z)) (r0 hz ht λ q1 z1 s1=>?_);simp only[WQ,XU];refine My ?_;simp only[List.forIn_toArray,X4,YK];refine My (My (Wh (My (m:=Builtin.SmallTypes.nextOf (.ref i)) (S.item _ k _ x _ _ (S.but hi s1.extBut D.zf) hx λ q2 i2 s2=>VC ?_))));let j2:tj m q2:=T.but (T.but hj s1.extBut D.zg) s2.extBut D.ig;refine VC ?_;refine My (My (Wh (My (m:=Builtin.SmallTypes.nextOf (.ref j)) (T.item _ m _ y _ _ j2 hy λ q3 j3 s3=>VC ?_))));refine VC (VC ?_);refine My (wpAny_newTuple (hsz:=(show 2<=Å by decide)) ?_);let sz:q3.objs.size=%[s|99]:=by rw[s3.1,s2.1,s1.1]
 let z3:iJ q3 z TI TO (rawInt t) Y:=s3.extBut _ _ jz.symm (s2.extBut _ _ iz.symm z1);let i3:ti (k+1) q3:=S.but i2 s3.extBut D.jf;refine VC {_,J,?_}
 show Q (.ref q3.objs.size) _
 let n3:IsPair (q3.push { cls:=.type "tuple",data:=.seq #[x,y] }) q3.objs.size x y:=VG _ J;let n4:(q3.push { cls:=.type "tuple",data:=.seq #[x,y] }).objs.size=q3.objs.size+1:=V9 ..;rw[sz] at n3 n4;rw[sz];refine hQ _ (Vz _ z3) (S.keep _ _ _ i3 λ c hc o e=>Vz _ e) (T.keep _ _ _ j3 λ c hc o e=>Vz _ e) n3 n4 λ c o hc e=>?_;simp only[VU,VM,V6,X8] at hc;exact Vz _ (s3.extBut _ _ hc.2.2 (s2.extBut _ _ hc.2.1 (s1.extBut _ _ hc.1 e)))
theorem FE(hh:A.handled=L)(S:Src prog w i f ti vi)(T:Src prog w j g tj vj)(D:gr z TI TO i j f g){Q:Fin->À->Prop}
  (hz:iJ s.heap z TI TO (rawInt t) fl) (ht:s.heap.get? t=U ot) (af:IsPair s.heap TI (.ref i) (.ref j)) (hi:ti k s.heap) (hj:tj m s.heap) (aS:vi k=L\/vj m=L)
  (hE:∀ h' e,(∀ c o,c ∉ [z,i,j]->s.heap.get? c=U o->h'.get? c=U o)->(∃ o,h'.get? e=U o/\o.cls=.type "StopIteration")->E (.ref e) { s with heap:=h' }) :
  Ä (É prog w) A (Builtin.«zip.__next__» ⟨[.ref z],[]⟩) Q E s:=by
 refine My (m:=field (.ref z) 2) (VV hz J (x:=.bool Á) J ?_);refine My (m:=field (.ref z) 3) (VV hz J (x:=.ref TI) J (My (V2 af J ?_)));refine My (m:=Builtin.SmallTypes.ownedTupleIsFree (.ref z)) (r0 hz ht λ q1 z1 s1=>?_);simp only[WQ,XU];refine My ?_;simp only[List.forIn_toArray,X4,YK];refine My (My (Wh (My (m:=Builtin.SmallTypes.nextOf (.ref i)) ?_)))
 cases hx:vi k with
 | none=>
  refine S.fin _ k _ _ _ (.no hh) (S.but hi s1.extBut D.zf) hx λ q2 e s2 he=>hE q2 e (λ c o hc q=>?_) he;simp only[VU,VM,V6,X8] at hc;exact s2 _ _ hc.2.1 (s1.extBut _ _ hc.1 q)
 | some x=>
  let hy:vj m=L:=aS.resolve_left (by rw[hx];exact YX x);refine S.item _ k _ x _ _ (S.but hi s1.extBut D.zf) hx λ q2 i2 s2=>VC (VC ?_);let j2:tj m q2:=T.but (T.but hj s1.extBut D.zg) s2.extBut D.ig;refine My (My (Wh (My (m:=Builtin.SmallTypes.nextOf (.ref j)) (T.fin _ m _ _ _ (.no hh) j2 hy λ q3 e s3 he=>hE q3 e (λ c o hc q=>?_) he))));simp only[VU,VM,V6,X8] at hc;exact s3 _ _ hc.2.2 (s2.extBut _ _ hc.2.1 (s1.extBut _ _ hc.1 q))
theorem om(S:Src prog w i f ti vi)(T:Src prog w j g tj vj)(D:gr z TI TO i j f g){Q:Ü O->À->Prop}
  (hz:iJ s.heap z TI TO (rawInt t) fl) (ht:s.heap.get? t=U ot) (af:IsPair s.heap TI (.ref i) (.ref j)) (hi:ti k s.heap) (hj:tj m s.heap) (hx:vi k=U x) (hy:vj m=U y)
  (hQ:∀ h',iJ h' z TI TO (rawInt t) Y->ti (k+1) h'->tj (m+1) h'->IsPair h' %[s|99] x y->h'.objs.size=%[s|99]+1->(∀ c o,c ∉ [z,i,j]->s.heap.get? c=U o->h'.get? c=U o)->Q (U (.ref %[s|99])) { s with heap:=h' }) :
  Ä (É prog w) A (pyNext (.ref z)) Q E s:=by
 let ty:s.TypeIs (.ref z) "zip":={_,hz,J};unfold pyNext;exact wpAny_bind (wpAny_attempt (wpAny_callSpecial?_slot (name:=Õ "__next__") ty F.slot_zip_next (wpAny_call_entry F.slot_zip_next ty F.entry_zip_next (Cu S T D hz ht af hi hj hx hy λ h' c1 c2 c3 c4 c5 c6=>wpAny_pure (hQ h' c1 c2 c3 c4 c5 c6)) (F.args_zip_next_1 _))))
theorem qU(hh:A.handled=L)(S:Src prog w i f ti vi)(T:Src prog w j g tj vj)(D:gr z TI TO i j f g){Q:Ü O->À->Prop}
  (hz:iJ s.heap z TI TO (rawInt t) fl) (ht:s.heap.get? t=U ot) (af:IsPair s.heap TI (.ref i) (.ref j)) (hi:ti k s.heap) (hj:tj m s.heap) (aS:vi k=L\/vj m=L)
  (hQ:∀ h',(∀ c o,c ∉ [z,i,j]->s.heap.get? c=U o->h'.get? c=U o)->Q L { s with heap:=h' }):Ä (É prog w) A (pyNext (.ref z)) Q E s:=by
 let ty:s.TypeIs (.ref z) "zip":={_,hz,J};unfold pyNext;refine wpAny_bind (wpAny_attempt (wpAny_callSpecial?_slot (name:=Õ "__next__") ty F.slot_zip_next (wpAny_call_entry F.slot_zip_next ty F.entry_zip_next (FE (show A.in1.handled=L from hh) S T D hz ht af hi hj aS λ h' e kp he=>?_) (F.args_zip_next_1 _))));let(o,ho,hc):=he;exact wpAny_bind (wpAny_isInstance (T := "StopIteration") (b:=Y) {(o),ho,hc} isSubtype_stop (wpAny_pure (hQ _ kp)))
def Zst(ka kb:Ý)(a b z TI TO p q:Z)(as bs:Array O)(n:à)(h:Í):Prop:=
 (IsZip h z TI TO .none\/∃ (t:Z) (fl:Ý) (ot:Obj),iJ h z TI TO (rawInt t) fl/\h.get? t=U ot/\t ∉ [z,TI,TO,p,q])/\IsPair h TI (.ref p) (.ref q)/\(∃ u v,IsPair h TO u v)/\(bo h ka p a n/\SeqAt h ka a as)/\(bo h kb q b n/\SeqAt h kb b bs)
theorem Zst.keep{a z TI TO q:Z}{as bs:Array O}(st:Zst ka kb a b z TI TO p q as bs n h)(k:∀ c o,h.get? c=U o->h'.get? c=U o):Zst ka kb a b z TI TO p q as bs n h':=by
 let(e0,e1,(u,v,e2),(e3,e4),e5,e6):=st;refine{e0.imp (λ e=>k _ _ e) (λ ⟨t,fl,ot,x1,x2,x3⟩=>{t,fl,ot,k _ _ x1,k _ _ x2,x3}),k _ _ e1,{u,v,k _ _ e2},{e3.at λ o e=>k _ o e,e4.at λ o e=>k _ o e},e5.at λ o e=>k _ o e,e6.at λ o e=>k _ o e}
variable {a q:Z}{as bs:Array O}
theorem Fz(nd:[z,TI,TO,p,q].Nodup)(na:a ∉ [z,TI,TO,p,q])(nb:b ∉ [z,TI,TO,p,q]){Q:Ü O->À->Prop}(st:Zst ka kb a b z TI TO p q as bs n s.heap)(hx:as[n]? = U x)(hy:bs[n]? = U y)
  (hQ:∀ h',Zst ka kb a b z TI TO p q as bs (n+1) h'->IsPair h' %[s|99] x y->h'.objs.size=%[s|99]+1->(∀ c o,c ∉ [z,TI,TO,p,q]->s.heap.get? c=U o->h'.get? c=U o)->Q (U (.ref %[s|99])) { s with heap:=h' }) :
  Ä (É prog w) A (pyNext (.ref z)) Q E s:=by
 let(e0,e1,(u,v,e2),e3,e4):=st;simp only[Xa,VU,VM,V6,X8,Xy,and_true,Yc] at nd na nb;let((z1,z2,z3,z4),(t1,t2,t3),(w1,w2),y1):=nd;let(a1,a2,a3,a4,a5):=na;let(b1,b2,b3,b4,b5):=nb;let S:=eM (prog:=prog) (w:=w) ka p a a4 as;let T:=eM (prog:=prog) (w:=w) kb q b b5 bs;let D:gr z TI TO p q [p,a] [q,b]:={⟨VL z1,t1,t2,t3⟩,z2,by simp[z3,VL a1],by simp[z4,VL b1],by simp[w1,VL a3],by simp[w2,VL b3],by simp[y1,VL b4],by simp[VL y1,VL a5]}
 let zl:z<%[s|99]/\TI<%[s|99]/\TO<%[s|99]/\p<%[s|99]/\q<%[s|99]:=by
  refine{?_,VE e1,VE e2,?_,?_}
  ·rcases e0 with e|⟨_,_,_,e,_⟩<;>exact VE e
  ·let(o,_,e,_):=e3.1.obj;exact VE e
  ·let(o,_,e,_):=e4.1.obj;exact VE e
 let nw:%[s|99] ∉ [z,TI,TO,p,q]:=by
  simp only[VU,VM,V6,X8];exact{Wn zl.1,Wn zl.2.1,Wn zl.2.2.1,Wn zl.2.2.2.1,Wn zl.2.2.2.2}
 rcases e0 with e0|⟨t,fl,ot,e0,et,nt⟩
 ·refine iK S T D e0 e1 e2 e3 e4 hx hy λ h1 c1 c2 c3 c4 c5 c6 c7=>hQ h1 ⟨.inr {_,Á,_,c1,c5,nw},c7 TI _ (by simp[VL z1,t1,t2,t3]) e1,{_,_,c2},c3,c4⟩ c5 c6 λ c o hc e=>c7 c o (λ z=>hc ?_) e;simp only[VU,VM,V6] at z ⊢
  rcases z with h|h|h|h<;>simp[h]
 ·refine om S T D e0 et e1 e3 e4 hx hy λ h1 c1 c3 c4 c5 c6 c7=>hQ h1 ⟨.inr {_,Y,_,c1,c7 t _ (λ z=>nt ?_) et,nt},c7 TI _ (by simp[VL z1,t2,t3]) e1,{_,_,c7 TO _ (by simp[VL z2,w1,w2]) e2},c3,c4⟩ c5 c6 λ c o hc e=>c7 c o (λ z=>hc ?_) e
  all_goals
   simp only[VU,VM,V6] at z ⊢
   rcases z with h|h|h<;>simp[h]
theorem Km(hh:A.handled=L)(nd:[z,TI,TO,p,q].Nodup)(na:a ∉ [z,TI,TO,p,q])(nb:b ∉ [z,TI,TO,p,q]){Q:Ü O->À->Prop}(st:Zst ka kb a b z TI TO p q as bs n s.heap)(af:as[n]? = L\/bs[n]? = L)
  (hQ:∀ h',(∀ c o,c ∉ [z,TI,TO,p,q]->s.heap.get? c=U o->h'.get? c=U o)->Q L { s with heap:=h' }) :
  Ä (É prog w) A (pyNext (.ref z)) Q E s:=by
 let(e0,e1,(u,v,e2),e3,e4):=st;simp only[Xa,VU,VM,V6,X8,Xy,and_true,Yc] at nd na nb;let((z1,z2,z3,z4),(t1,t2,t3),(w1,w2),y1):=nd;let(a1,a2,a3,a4,a5):=na;let(b1,b2,b3,b4,b5):=nb;let S:=eM (prog:=prog) (w:=w) ka p a a4 as;let T:=eM (prog:=prog) (w:=w) kb q b b5 bs;let D:gr z TI TO p q [p,a] [q,b]:={⟨VL z1,t1,t2,t3⟩,z2,by simp[z3,VL a1],by simp[z4,VL b1],by simp[w1,VL a3],by simp[w2,VL b3],by simp[y1,VL b4],by simp[VL y1,VL a5]}
 rcases e0 with e0|⟨t,fl,ot,e0,et,nt⟩
 ·refine jM (.no hh) S T D e0 e1 e2 e3 e4 af λ h1 kp=>hQ h1 λ c o hc e=>kp c o (λ z=>hc ?_) e;simp only[VU,VM,V6] at z ⊢
  rcases z with h|h|h|h<;>simp[h]
 ·refine qU hh S T D e0 et e1 e3 e4 af λ h1 kp=>hQ h1 λ c o hc e=>kp c o (λ z=>hc ?_) e;simp only[VU,VM,V6] at z ⊢
  rcases z with h|h|h<;>simp[h]
structure Got(h:Í)(lo:à)(as bs:Array O)(ts:G Z):Prop where
 nd:ts.Nodup
 lo:∀ t∈ts,lo<=t
 get:∀ (m:à) t,ts[m]? = U t->∃ x y,as[m]? = U x/\bs[m]? = U y/\IsPair h t x y
theorem Got.lt{lo:à}{as bs:Array O}{ts:G Z}(xz:Got h lo as bs ts):∀ t∈ts,t<h.objs.size:=λ t ht=>by
 let(m,hm,rfl):=YY ht;let(x,y,_,_,e):=xz.get m _ (VA hm);exact VE e
theorem FA{R:Result->À->Prop}(hh:A.handled=L)(nd:[z,TI,TO,p,q].Nodup)(na:a ∉ [z,TI,TO,p,q])(nb:b ∉ [z,TI,TO,p,q])(S lo:Z)(hS:S ∉ [z,TI,TO,p,q])(aS:a≠S)(bS:b≠S)(a8:∀ c∈[z,TI,TO,p,q],lo<=c)(a9:lo<=S)(hsz:min as.size bs.size<=Å) :
  ∀ (k n:à) (s:À) (ts:G Z) (c:à),min as.size bs.size - n=k->n<=min as.size bs.size->Zst ka kb a b z TI TO p q as bs n s.heap->s.heap.get? S=U { cls:=.type "list",dict:=L,data:=.seq (ts.map Ê).toArray c,slots:=#[] }->ts.length=n->Got s.heap lo as bs ts->S ∉ ts->(∀ t∈ts,t ∉ [z,TI,TO,p,q])->lo<=%[s|99] →
  (∀ h' aX c',h'.get? S=U { cls:=.type "list",dict:=L,data:=.seq (aX.map Ê).toArray c',slots:=#[] }->aX.length=min as.size bs.size->Got h' lo as bs aX->S ∉ aX->(∀ d o,d<lo->s.heap.get? d=U o->h'.get? d=U o)->R (.ok (.ret .none)) { s with heap:=h' }) →
  codeAny (É prog w) A (.builtin "list.extend.loop" ⟨[.ref S,.ref z,.none],[]⟩) R s:=by
 intro k
 induction k with
 | zero=>
  intro n s ts c hk hn st hL hl xz a3 a4 a6 hR;refine Ye PySem.F.entry_extend_loop ?_;rw[XS XF _]
  show Ä _ A.in1 (pyNext (.ref z) >>= _) _ _ s
  refine My (Km (show A.in1.handled=L from hh) nd na nb st ?_ λ h' kp=>?_)
  ·by_cases h1:as.size<=n
   ·exact .inl (Array.getElem?_eq_none h1)
   ·exact .inr (Array.getElem?_eq_none (by omega))
  ·exact VC (hR h' ts c (kp _ _ hS hL) (by omega) ⟨xz.nd,xz.lo,λ m t ht=>by
    let(x,y,e1,e2,e3):=xz.get m t ht;exact{x,y,e1,e2,kp _ _ (a4 t (V8 ht)) e3}⟩ a3 λ d o hd e=>kp d o (λ z=>Þ (a8 d z) (Nat.not_le.mpr hd)) e)
 | succ k ih=>
  intro n s ts c hk hn st hL hl xz a3 a4 a6 hR;let h1:n<as.size:=by omega
  let h2:n<bs.size:=by omega
  refine Ye PySem.F.entry_extend_loop ?_;rw[XS XF _]
  show Ä _ A.in1 (pyNext (.ref z) >>= _) _ _ s
  refine My (Fz nd na nb st (XG h1) (XG h2) λ h' bt pr sz kp=>?_);let a7:=kp _ _ hS hL
  show Ä _ A.in1 (updateSeq S (·.push (.ref %[s|99])) >>= _) _ _ _
  refine My ?_;let Sn:S≠%[s|99]:=VQ (VE hL);let af:∀ d o,d≠S->h'.get? d=U o->(h'.update S (Obj.mapSeq (·.push (.ref %[s|99])))).get? d=U o:=λ d o hd e=>(V4 _ _ (VL hd)).trans e
  let G':Got (h'.update S (Obj.mapSeq (·.push (.ref %[s|99])))) lo as bs (ts++[%[s|99]]):=by
   refine{?_,λ t ht=>?_,λ m t ht=>?_}
   ·rw[List.nodup_append];refine{xz.nd,by simp,λ x hx y hy=>?_};rw[VO.mp hy];exact VQ (xz.lt x hx)
   ·rcases Wf.mp ht with ht|ht
    ·exact xz.lo t ht
    ·rw[VO.mp ht];exact a6
   ·by_cases hm:m<ts.length
    ·rw[Wq hm] at ht;let(x,y,e1,e2,e3):=xz.get m t ht;let a5:=V8 ht;exact{x,y,e1,e2,af _ _ (λ z=>a3 (z ▸ a5)) (kp _ _ (a4 t a5) e3)}
    ·rw[Wj (by omega)] at ht
     let h0:m - ts.length=0:=by
      rcases Nat.eq_zero_or_pos (m - ts.length) with h|h
      ·exact h
      ·rw[WT (by simp;omega)] at ht;cases ht
     rw[h0] at ht;simp at ht;subst ht;let bB:m=n:=by omega
     subst bB;exact{_,_,XG h1,XG h2,af _ _ (VL Sn) pr}
  let nw:%[s|99] ∉ [z,TI,TO,p,q]:=by
   let(e0,e1,(u,v,e2),e3,e4):=st;simp only[VU,VM,V6,X8];refine{?_,Wn (VE e1),Wn (VE e2),?_,?_}
   ·rcases e0 with e|⟨_,_,_,e,_⟩<;>exact Wn (VE e)
   ·let(o,_,e,_):=e3.1.obj;exact Wn (VE e)
   ·let(o,_,e,_):=e4.1.obj;exact Wn (VE e)
  let stK:Zst ka kb a b z TI TO p q as bs (n+1) (h'.update S (Obj.mapSeq (·.push (.ref %[s|99])))):=by
   let(e0,e1,(u,v,e2),(e3,e4),e5,e6):=bt;simp only[VU,VM,V6,X8] at hS;let(n1,n2,n3,n4,n5):=hS;refine{e0.imp (λ e=>af _ _ (VL n1) e) (λ ⟨t,fl,ot,x1,x2,x3⟩=>?_),af _ _ (VL n2) e1,{u,v,af _ _ (VL n3) e2},{e3.at λ o e=>af _ o (VL n4) e,e4.at λ o e=>af _ o aS e},e5.at λ o e=>af _ o (VL n5) e,e6.at λ o e=>af _ o bS e}
   by_cases htS:t=S
   ·subst htS;exact{t,fl,_,af _ _ (VL n1) x1,VZ _ a7 J,x3}
   ·exact{t,fl,ot,af _ _ (VL n1) x1,af _ _ htS x2,x3}
  let b0:(h'.update S (Obj.mapSeq (·.push (Ê %[s|99])))).get? S=U { cls:=.type "list",dict:=L,data:=.seq ((ts++[%[s|99]]).map Ê).toArray (c+1),slots:=#[] }:=by
   rw[VZ (Obj.mapSeq (·.push (Ê %[s|99]))) a7 J];simp[Obj.mapSeq]
  refine Xp a7 J (VC {Ys XF _,ih (n+1) _ (ts++[%[s|99]]) _ (by omega) (by omega) stK b0 (by simp[hl]) G' ?_ ?_ ?_ λ h3 b1 c3 r1 r2 r3 r4 r5=>hR h3 b1 c3 r1 r2 r3 r4 λ d o hd e=>r5 d o hd ?_}) ?_ ?_
  ·intro hm
   rcases Wf.mp hm with hm|hm
   ·exact a3 hm
   ·exact Sn (VO.mp hm)
  ·intro t ht
   rcases Wf.mp ht with ht|ht
   ·exact a4 t ht
   ·rw[VO.mp ht];exact nw
  ·show lo<=(h'.update S _).objs.size
   rw[YV,sz];exact Wo a6 (XM _)
  ·exact af _ _ (VQ (VR hd a9)) (kp d o (λ z=>Þ (a8 d z) (Nat.not_le.mpr hd)) e)
  ·simp;omega
  ·simp;omega
theorem yq:typeLookup (.type "zip") "__len__"=pure L:=by rw[typeLookup_type,builtinLookup_eq_fast];kernel_rfl
theorem vg:typeLookup (.type "zip") "__length_hint__"=pure L:=by rw[typeLookup_type,builtinLookup_eq_fast];kernel_rfl
theorem Zst.ty(st:Zst ka kb a b z TI TO p q as bs n s.heap):s.TypeIs (.ref z) "zip":=by
 rcases st.1 with e|⟨_,_,_,e,_⟩
 ·exact{_,e,J}
 ·exact{_,e,J}
theorem Zst.but{S:Z}(st:Zst ka kb a b z TI TO p q as bs 0 h)(e0:IsZip h z TI TO .none)(hS:S ∉ [z,TI,TO,p,q])(aS:a≠S)(bS:b≠S)(k:∀ c o,c≠S->h.get? c=U o->h'.get? c=U o):Zst ka kb a b z TI TO p q as bs 0 h':=by
 let(_,e1,(u,v,e2),(e3,e4),e5,e6):=st;simp only[VU,VM,V6,X8] at hS;let(n1,n2,n3,n4,n5):=hS;exact{.inl (k _ _ (VL n1) e0),k _ _ (VL n2) e1,{u,v,k _ _ (VL n3) e2},{e3.at λ o e=>k _ o (VL n4) e,e4.at λ o e=>k _ o aS e},e5.at λ o e=>k _ o (VL n5) e,e6.at λ o e=>k _ o bS e}
theorem rH{Q:O->À->Prop}(hh:A.handled=L)(nd:[z,TI,TO,p,q].Nodup)(na:a ∉ [z,TI,TO,p,q])(nb:b ∉ [z,TI,TO,p,q])(lo:Z)(a5:∀ c∈[z,TI,TO,p,q],lo<=c)(hsz:min as.size bs.size<=Å)
  (e0:IsZip s.heap z TI TO .none) (st:Zst ka kb a b z TI TO p q as bs 0 s.heap)
  (hQ:∀ h' af c',h'.get? %[s|99]=U { cls:=.type "list",dict:=L,data:=.seq (af.map Ê).toArray c',slots:=#[] }->af.length=min as.size bs.size->Got h' lo as bs af->%[s|99] ∉ af->(∀ d o,d<lo->s.heap.get? d=U o->h'.get? d=U o)->Q (.ref %[s|99]) { s with heap:=h' }) :
  Ä (É prog w) A (call (.type "list") [.ref z]) Q E s:=by
 let zl:∀ c∈[z,TI,TO,p,q],c<%[s|99]:=by
  let(_,e1,(u,v,e2),(e3,e4),e5,e6):=st;intro c hc;simp only[VU,VM,V6] at hc
  rcases hc with rfl|rfl|rfl|rfl|rfl
  ·exact VE e0
  ·exact VE e1
  ·exact VE e2
  ·let(o,_,e,_):=e3.obj;exact VE e
  ·let(o,_,e,_):=e5.obj;exact VE e
 let aS:%[s|99] ∉ [z,TI,TO,p,q]:=λ hm=>WA _ (zl _ hm);let bt:%[s|99]≠z:=λ e=>aS (by simp[e]);let al:a<%[s|99]:=by let(o,_,e,_):=st.2.2.2.1.2.obj;exact VE e
 let bl:b<%[s|99]:=by let(o,_,e,_):=st.2.2.2.2.2.obj;exact VE e
 let a6:lo<=%[s|99]:=Yf (Nat.lt_of_le_of_lt (a5 z (by simp)) (zl z (by simp)))
 refine callType_codes (Q₁:=λ obj s₁=>obj=.ref %[s|99]/\s₁={ s with heap:=s.heap.push { cls:=.type "list",data:=.seq #[] } }) PySem.F.called_list (PySem.F.typeCall_list_1 _) PySem.F.entry_list_init
  (code_list_new _ {(J),J}) λ obj s₁ h₁=>?_
 let(rfl,rfl):=h₁;let hS:(s.heap.push { cls:=.type "list",data:=.seq #[] }).get? %[s|99]=U { cls:=.type "list",data:=.seq #[] }:=VG _ J;refine{⟨_,hS,J⟩,PySem.F.args_list_init_2 _ _,?_}
 show Ä _ A.in1.in1 (do let old ←Builtin.List.listItems (.ref %[s|99]);Builtin.List.listUpdate (.ref %[s|99]) (λ _=>#[]);letGo old.toList.reverse;Builtin.List.listExtendWith (.ref %[s|99]) (.ref z) .none) _ _ _
 refine wpAny_bind ?_;unfold Builtin.List.listItems;refine wpAny_bind (wpAny_seqItems hS J (wpAny_pure ?_))
 show Ä _ A.in1.in1 (updateSeq %[s|99] (λ _=>#[]) >>= λ _=>letGo (#[]:Array O).toList.reverse >>= λ _=>Builtin.List.listExtendWith (.ref %[s|99]) (.ref z) .none) _ _ _
 refine My (Xp hS J ?_);let aX:=VZ (Obj.mapSeq (λ _=>(#[]:Array O))) hS J;refine My (Xe ?_);let k1:∀ c o,s.heap.get? c=U o->((s.heap.push { cls:=.type "list",data:=.seq #[] }).update %[s|99] (Obj.mapSeq (λ _=>(#[]:Array O)))).get? c=U o:=λ c o e=>(V4 _ _ (Wn (VE e))).trans (Vz _ e);let a3:=st.keep k1;let e1:=k1 _ _ e0;let a7:((s.heap.push { cls:=.type "list",data:=.seq #[] }).update %[s|99] (Obj.mapSeq (λ _=>(#[]:Array O)))).objs.size=%[s|99]+1:=by rw[YV,V9]
 generalize (s.heap.push { cls:=.type "list",data:=.seq #[] }).update %[s|99] (Obj.mapSeq (λ _=>(#[]:Array O)))=hp at aX k1 a3 e1 a7;unfold Builtin.List.listExtendWith;let a4:Shared.TypeIs { s with heap:=hp } (.ref z) "zip":=Zst.ty (s:={ s with heap:=hp }) a3;refine wpAny_bind (wpAny_typeOf a4 ?_);let h1:Builtin.List.listSameRef (.ref %[s|99]) (.ref z)=Á:=by simp[Builtin.List.listSameRef,bt]
 let h2:(Ø "zip" == Ø "list")=Á:=by decide
 let h3:(Ø "zip" == Ø "tuple")=Á:=by decide
 simp only[h1,h2,h3,Bool.or_false,Bool.false_eq_true,if_false];refine wpAny_bind (wpAny_pyIter_zip e1 ?_);refine wpAny_bind (wpAny_holding ?_);unfold Builtin.List.listLengthHint;refine wpAny_bind (wpAny_specialOf a4 yq ?_)
 show Ä _ A.in1.in1 (specialOf (Ê z) (Õ "__length_hint__") >>= _) _ _ _
 refine My (XC a4 vg ?_);refine VC ?_
 show Ä _ A.in1.in1 (rule "list.extend.makes-room" >>= λ _=>Builtin.List.listTouch (.ref %[s|99]) >>= λ _=>
  again (.builtin "list.extend.loop" ⟨[.ref %[s|99],.ref z,.none],[]⟩)) _ _ _
 refine My (Xr ?_);refine My ?_
 show Ä _ A.in1.in1 (updateSeq %[s|99] (·.push .none) >>= λ _=>updateSeq %[s|99] (·.pop)) _ _ _
 refine My (Xp aX J ?_);let a8:=VZ (Obj.mapSeq (·.push Ñ)) aX J;refine Xp (hz:=by seq_fits) a8 rfl ?_;let bB:=VZ (Obj.mapSeq (·.pop)) a8 J
 let a9:∀ c o,c≠%[s|99]->hp.get? c=U o->((hp.update %[s|99] (Obj.mapSeq (·.push Ñ))).update %[s|99] (Obj.mapSeq (·.pop))).get? c=U o:=
  λ c o hc e=>(V4 _ _ (VL hc)).trans ((V4 _ _ (VL hc)).trans e)
 let bS:=a3.but e1 aS (VQ al) (VQ bl) a9;refine VC {Ys XF _,FA (A:=A.in1) hh nd na nb %[s|99] lo aS (VQ al) (VQ bl) a5 a6 hsz _ 0 _ [] _ J (Wz _) bS (by exact bB) rfl ⟨Yc,λ t h=>Þ h VM,λ m t h=>by simp at h⟩ (by simp) (λ t h=>Þ h VM) ?_ λ h' af c' r1 r2 r3 r4 r5=>?_}
 ·show lo<=((hp.update _ _).update _ _).objs.size
  rw[YV,YV,a7];exact Wo a6 (XM _)
 ·refine{J,hQ h' af c' r1 r2 r3 r4 λ d o hd e=>r5 d o hd (a9 d o (VQ (VE e)) (k1 d o e))}
end
theorem Inv.adoptAll:∀ (ts:G Z) (zs:G (V × V)){H:Hp},Inv X pins σ H s->ts.length=zs.length->ts.Nodup->(∀ t∈ts,oi X pins t/\H t=L)->(∀ (m:à) t z,ts[m]? = U t->zs[m]? = U z->∃ u v,b9 z.1 u/\b9 z.2 v/\IsPair s.heap t u v) →
  ∃ H',Inv X pins σ H' s/\Ext H H'/\(∀ c,c ∉ ts->H' c=H c)/\∀ (m:à) t z,ts[m]? = U t->zs[m]? = U z->H' t=U (.tup [z.1,z.2])
 | [],zs,H,I,_,_,_,_=>{H,I,Ext.refl _,λ _ _=>J,λ m t z h=>by simp at h}
 | t::ts,[],H,I,hl,_,_,_=>by simp at hl
 | t::ts,z::zs,H,I,hl,nd,hn,hp=>by
  rw[Xa] at nd;let(N,ht):=hn t VP;let(u,v,ru,rv,pr):=hp 0 t z J J;let I1:=I.adopt (o:=.tup [z.1,z.2]) N ht {(show 2<=Å by decide),[u,v],.cons ru (.cons rv .nil),{_,pr,J,_,J}};let up:∀ c∈ts,c≠t:=λ c hc e=>nd.1 (e ▸ hc);let(H',I',e',q',g'):=Inv.adoptAll ts zs I1 (by simpa using hl) nd.2 (λ c hc=>{(hn c (VI _ hc)).1,by rw[ag (up c hc)];exact(hn c (VI _ hc)).2}) λ m t' z' h1 h2=>hp (m+1) t' z' (by simpa using h1) (by simpa using h2);refine{H',I',(Ext.new ht).trans e',λ c hc=>?_,λ m t' z' h1 h2=>?_}
  ·rw[q' c (λ h=>hc (VI _ h)),ag (λ h=>hc (by rw[h];exact VP))]
  ·cases m with
   | zero=>
    simp at h1 h2;subst h1;subst h2;rw[q' t nd.1,aj]
   | succ m=>exact g' m t' z' (by simpa using h1) (by simpa using h2)
def lzK(xs ys:G V)(H:Hp)(Q:VK):Prop:=∀ (D:Z) (ts:G V) (H':Hp),H D=L->Ext H H'->H' D=U (.lst ts)->Al (λ z y=>II z y H') (xs.zip ys) ts->Q (.ref D) H'
theorem JH(xs ys:G V)(H:Hp)(Q:VK):lzK xs ys H Q=∀ (D:Z) (ts:G V) (H':Hp),H D=L->Ext H H'->H' D=U (.lst ts)->Al (λ z y=>II z y H') (xs.zip ys) ts->Q (.ref D) H':=rfl
def NC(xs:G V)(H:Hp)(Q:VK):HO->Prop:=λ o=>match o with
 | .lst ys=>lzK xs ys H Q
 | .tup ys=>lzK xs ys H Q
 | _=>False
def GR(xs ys:G V)(H:Hp)(Q:VK):NC xs H Q (.lst ys)=lzK xs ys H Q:=rfl
def Rk(b:Z)(H:Hp)(Q:VK):HO->Prop:=λ o=>match o with
 | .lst xs=>aJ (H b) (NC xs H Q)
 | .tup xs=>aJ (H b) (NC xs H Q)
 | _=>False
def GS(b:Z)(xs:G V)(H:Hp)(Q:VK):Rk b H Q (.lst xs)=aJ (H b) (NC xs H Q):=rfl
def NN(Q:VK):G V->Hp->Prop:=λ vs H=>match vs with
 | [.ref a,.ref b]=>aJ (H a) (Rk b H Q)
 | _=>False
def Qj(Q:VK)(a b:Z)(H:Hp):NN Q [.ref a,.ref b] H=aJ (H a) (Rk b H Q):=rfl
def tLZ(ta:TA):TE:=λ σ H Q=>ta σ H (NN Q)
def SN(ta:TA)(σ:St)(H:Hp)(Q:VK):tLZ ta σ H Q=ta σ H (NN Q):=rfl
theorem MP{Q:VK}(h:NN Q vs H):∃ a b ka kb xs ys,vs=[.ref a,.ref b]/\SqK ka H a xs/\SqK kb H b ys/\lzK xs ys H Q:=by
 unfold NN at h;split at h
 ·rename_i a b;let(o,e,h):=aq h;unfold Rk at h;split at h
  ·rename_i xs;let(o',e',h):=aq h;unfold NC at h;split at h
   ·exact{a,b,Á,Á,xs,_,J,e,e',h}
   ·exact{a,b,Á,Y,xs,_,J,e,e',h}
   ·exact h.elim
  ·rename_i xs;let(o',e',h):=aq h;unfold NC at h;split at h
   ·exact{a,b,Y,Á,xs,_,J,e,e',h}
   ·exact{a,b,Y,Y,xs,_,J,e,e',h}
   ·exact h.elim
  ·exact h.elim
 ·exact h.elim
theorem Inv.sqLe{k:Ý}{a:Z}(I:Inv X pins σ H s)(h:SqK k H a xs):xs.length<=Å:=by
 cases k
 ·let(_,_,_,h):=I.list (SqL.of h);exact h
 ·let(_,_,_,h):=I.tuple (SqT.of h);exact h
def sj:∀ ts:G Z,bf (ts.map V.ref) (ts.map Ê)
 | []=>.nil
 | _::ts=>.cons J (sj ts)
theorem km{a b:Ò}{p p2 af:Pos}(hc:X.calm=Y)(hg:Gl X "list")(hm:X.mg "list"=L)(a9:Gl X "zip")(bt:X.mg "zip"=L)(ha:PA X [a,b] ta)(hs:starEach [a,b] X.env=[(Á,eval a X.env),(Á,eval b X.env)]:=by rfl)(a3:starEach [b] X.env=[(Á,eval b X.env)]:=by rfl)(a4:starEach [Expr.Call (.Name "zip" p2) [a,b] [] af] X.env=[(Á,eval (Expr.Call (.Name "zip" p2) [a,b] [] af) X.env)]:=by rfl)(a5:starEach ([]:G Ò) X.env=[]:=by rfl) :
  PE X (.Call (.Name "list" p) [.Call (.Name "zip" p2) [a,b] [] af] [] pos) (tLZ ta):=by
 intro pins s σ H Q I h;refine W3 (eP I hg hm (show bootBuiltins "list"=U (.type "list") by decide +kernel) ?_);refine Wd ?_ (by rw[a4,a5]) (by rw[a5];rfl);rw[a4]
 show Ä _ _ (spliced ((Á,eval _ X.env)::[])) _ _ s
 refine ZG ?_;refine Call_ (eP I a9 bt (show bootBuiltins "zip"=U (.type "zip") by decide +kernel) (Wd (thn (ha af pins s σ H _ I h) λ us s1 ⟨vs,H1,I1,r1,q1⟩=>?_) (by rw[hs,a3]) (by rw[a3];rfl)));let(a,b,ka,kb,xs,ys,rfl,sa,sb,q):=MP q1
 cases r1 with
 | cons r rr=>
  cases rr with
  | cons r' rr=>
   cases rr;cases r;cases r';let(as,ra,aS):=I1.sq sa;let(bs,rb,aX):=I1.sq sb;let la:=ra.length;let lb:=rb.length;let lz:=I1.sqLe sa;let bS:=I1.sqLe sb;refine BX aS aX λ h' n hn e1 e2 e3 e4 e5 e6 e7=>?_;refine Calls.spliced_nil ?_
   let nn:∀ c∈[n+4,n+2,n+3,n,n+1],n<=c:=λ c hc=>by
    simp only[VU,VM,V6] at hc
    rcases hc with rfl|rfl|rfl|rfl|rfl<;>omega
   let al:a<n:=by rw[hn];let(o,_,e,_):=aS.obj;exact VE e
   let bl:b<n:=by rw[hn];let(o,_,e,_):=aX.obj;exact VE e
   refine rH (s:={ s1 with heap:=h' }) (I1.ok.hd hc) (by simp) (λ z=>Þ (nn a z) (Nat.not_le.mpr al)) (λ z=>Þ (nn b z) (Nat.not_le.mpr bl)) n nn (by simp;omega) e1 ⟨.inl e1,e2,{_,_,e3},{e4,aS.at λ o e=>e7 _ o e},e5,aX.at λ o e=>e7 _ o e⟩ λ h2 ts c r1 r2 xz r4 r5=>?_;let bB:h2.get? (n+5)=U { cls:=.type "list",dict:=L,data:=.seq (ts.map Ê).toArray c,slots:=#[] }:=by rw[←e6];exact r1
   let I2:Inv X pins σ H1 { s1 with heap:=h2 }:=I1.kept (t':=s1.toks) λ c o e=>r5 c o (by rw[hn];exact VE e) (e7 c o e);let a6:ts.length=(xs.zip ys).length:=by rw[r2,Xf];simp;omega
   let fr:∀ t,n<=t->oi X pins t/\H1 t=L:=λ t ht=>{I1.newAt (by rw[←hn];exact ht),I1.hok.fresh (by rw[←hn];exact ht)}
   let(H2,I3,x2,q2,g2):=I2.adoptAll ts (xs.zip ys) a6 xz.nd (λ t ht=>fr t (xz.lo t ht)) λ m t z h1 h2=>by
    let(u,v,g1,g2,g3):=xz.get m t h1;rw[Yu] at h2;let(u',hu,ru):=ra.get h2.1;let(v',hv,rv):=rb.get h2.2;let a7:as.toArray[m]? = U u':=by simpa using hu
    let a8:bs.toArray[m]? = U v':=by simpa using hv
    rw[g1] at a7;rw[g2] at a8;cases a7;cases a8;exact{(u),v,ru,rv,g3}
   let hD:H2 (n+5)=L:=by
    rw[q2 _ (by rw[←e6];exact r4)];exact(fr (n+5) (Wv ..)).2
   let I4:=I3.adopt (o:=.lst (ts.map V.ref)) (fr (n+5) (Wv ..)).1 hD {by rw[VD,r2];simp;omega,ts.map Ê,c,sj ts,bB};refine{.ref (n+5),_,I4,by rw[←e6];rfl,q (n+5) (ts.map V.ref) _ (fr (n+5) (Wv ..)).2 (x2.trans (Ext.new hD)) aj {by rw[VD,a6],λ m z y hz hy=>?_}};rw[VS] at hy;let(t,ht,rfl):=VH.mp hy;exact{t,J,by rw[ag (λ e=>r4 (by rw[e6,←e];exact V8 ht))];exact g2 m t z ht hz}
def RG(xs:G V)(H:Hp)(Q:VK):Prop:=match xs with
 | [.int i]=>Q (.int i) H
 | [.bl k]=>Q (.int (if k=Y then 1 else 0)) H
 | _=>False
def GH(k:Ý)(H:Hp)(Q:VK):RG [.bl k] H Q=Q (.int (if k=Y then 1 else 0)) H:=rfl
theorem eB:cn X (.type "int") RG:=EG.mono λ xs H Q h=>by
 unfold RG at h;split at h
 ·exact .inl {_,J,h}
 ·exact .inr {_,J,h}
 ·exact h.elim
def Kf(l:Z)(xs:G V)(H:Hp)(Q:VK):G V->Prop:=λ zs=>xs.length+zs.length<=Å/\Q .non (upd H l (.lst (xs++zs)))
def Mn(l:Z)(xs:G V)(H:Hp)(Q:VK)(zs:G V):Kf l xs H Q zs=(xs.length+zs.length<=Å/\Q .non (upd H l (.lst (xs++zs)))):=rfl
def Ow(l b:Z)(H:Hp)(Q:VK):G V->Prop:=λ xs=>aJ (aF H b) (Kf l xs H Q)
def Mo(l b:Z)(H:Hp)(Q:VK)(xs:G V):Ow l b H Q xs=aJ (aF H b) (Kf l xs H Q):=rfl
theorem Dj(l b:Z)(H:Hp)(Q:VK):Bq (.ref l) [.ref b] H Q=aJ (aF H l) (Ow l b H Q):=by
 refine propext {λ h=>?_,λ h=>?_}
 ·let(l',b',xs,zs,e1,e2,h1,h2,h3,q):=h;cases e1;cases e2;unfold aF;rw[h1]
  show aJ (aF H b) _
  unfold aF;rw[h2];exact{(h3),q}
 ·let(xs,e,h):=aq h;let(zs,e2,h3,q):=aq h;exact{l,b,xs,zs,J,J,bO e,bO e2,h3,q}
section
variable {a b c d:Ò}{ta tb tc td:TE}
end
section
variable {tt:TT}{te:TE}{Q:VK}{K:PySem.W.Frag}
theorem jI(zs:G α)(c:α->Ý)(P:α->V->Hp->Prop)(R:Z->α->V->Hp->Prop)
  (a5:∀ i z H',zs[i]? = U z->Ext H H'->ww.go i H'/\∀ x af,ww.yld i H' x af->Ext H' af/\P z x af)
  (a6:∀ H',Ext H H'->ww.stop zs.length H')
  (a3:∀ D z y H1 H2,R D z y H1->Ext H1 H2->R D z y H2) (a4:∀ D z y H1 xs o,R D z y H1->H1 D=U (.lst xs)->R D z y (upd H1 D o))
  (hl:zs.length<=Å)
  (hs:∀ D z x H' N1 N0,z∈zs->H D=L->Ext H H'->(∃ ys,H' D=U (.lst ys))->P z x H'->(c z=Y->∀ y af,Ext H' af->R D z y af->N1 y af)->(c z=Á->∀ af,Ext H' af->N0 af)->g x (È k L++σ) H' (kCm k tt te σ N1 N0))
  (hd:∀ D ys H',H D=L->Ext H H'->H' D=U (.lst ys)->Al (λ z y=>R D z y H') (zs.filter c) ys->Q (.ref D) H'):Fl k g tt te σ Q ww H:=by
 intro D hD;refine{λ i m ys H'=>m=zs.length - i/\i<=zs.length/\Ext H H'/\H' D=U (.lst ys)/\Al (λ z y=>R D z y H') ((zs.take i).filter c) ys,{zs.length,by simp,Wz _,Ext.new hD,aj,by simpa using Al.nil},?_};rintro i m ys H' ⟨rfl,hi,e,aS,al⟩
 by_cases hlt:i<zs.length
 ·let hz:zs[i]? = U zs[i]:=VA hlt;let(go,y):=a5 i zs[i] H' hz e;let tk:zs.take (i+1)=zs.take i++[zs[i]]:=by rw[List.take_succ,hz];rfl
  let ln:ys.length<Å:=by
   let h1:=al.1;let h2:=YO c (zs.take i);simp only[Wi] at h2;omega
  refine .inr {go,λ aX H2=>Ext H H2/\H2 D=U (.lst aX)/\Al (λ z y=>R D z y H2) ((zs.take (i+1)).filter c) aX,λ aX H2 p=>{zs.length - (i+1),by omega,J,hlt,p},λ x H2 z=>?_};let(e2,p2):=y x H2 z;refine hs D zs[i] x H2 (kC3 D ys _) _ (Xm hlt) hD (e.trans e2) ⟨ys,e2.at aS⟩ p2 (λ hc y H3 e3 r3=>?_) λ hc H3 e3=>?_
  ·refine{e3.at (e2.at aS),ln,(e.trans (e2.trans e3)).put hD,aj,?_};rw[tk,Yr,show [zs[i]].filter c=[zs[i]] by simp[hc]];exact Al.snoc (al.imp λ z y r=>a4 _ _ _ _ _ _ (a3 _ _ _ _ _ r (e2.trans e3)) (e3.at (e2.at aS))) (a4 _ _ _ _ _ _ r3 (e3.at (e2.at aS)))
  ·refine{e.trans (e2.trans e3),(e2.trans e3).at aS,?_};rw[tk,Yr,show [zs[i]].filter c=[] by simp[hc],X6];exact al.imp λ z y r=>a3 _ _ _ _ _ r (e2.trans e3)
 ·let e':i=zs.length:=by omega
  subst e';rw[WN] at al;exact .inl {a6 H' e,hd D ys H' hD e aS al}
end
def Ite(l:Z)(xs:G V):It:=
 ⟨λ i H=>H l=U (.lst xs)/\i<xs.length,λ i H x H'=>∃ p u,H p=L/\x=.ref p/\xs[i]? = U u/\H'=upd H p (.tup [.int (i:B),u]),λ i H=>H l=U (.lst xs)/\i=xs.length⟩
def Tne(l e it:Z)(i:à)(h:Í):Prop:=(∃ old,IsEnum h e it (i:B) old)/\h.IsListIter it l i
theorem CD{K:PySem.W.Frag}{x1}(l e it:Z)(xs:G V)(ne:e≠it)(hA:A.handled=L):E4 P w K A (.Tuple elts x1 tp) (Ite l xs) [e,it] e (Tne l e it) where
 mem:=VP
 obj:=λ i h st c hc=>by
  let((old,e1),e2):=st;simp only[VU,VM,V6] at hc
  rcases hc with rfl|rfl
  ·exact{_,e1,λ v z=>by cases z}
  ·let(o,e,_,d):=e2;exact{o,e,λ v z=>by rw[d] at z;cases z}
 keep:=λ i h h' st k=>by
  let((old,e1),e2):=st;exact{⟨old,k e (by simp) _ e1⟩,e2.at λ o q=>k it (by simp) o q}
 item:=by
  intro X hP hw hK hc i pins s σ H E I hf st hg;subst hP hw hK;let(ha,l1):=hg;let(as,ra,pl,_):=I.list (SqL.of ha);let hx:xs[i]? = U xs[i]:=VA l1;let(u,hu,ru):=ra.get hx;let free:∀ c∈[e,it],H c=L:=λ c h=>(hf c h).1;let aS:l≠e:=λ z=>by have:=free e (by simp);rw[←z,ha] at this;cases this
  let aX:l≠it:=λ z=>by have:=free it (by simp);rw[←z,ha] at this;cases this
  let W:=WalksT.enumerate (prog:=X.prog) (w:=X.w) (show X.A.handled=L by rw[hc];exact hA) e it l ne aS aX as.toArray;let la:=ra.length;let(e1,e2):=st;let(old,a4):=e1;refine W.item i s _ E (by simp;omega) ⟨⟨old,a4⟩,e2,pl.isList⟩ λ T vals h1 tk hp hle hT af kp=>{_,J,?_};refine W.go elts x1 tp i T ⟨h1,s.gens,s.drawn,tk,s.os⟩ _ E af λ h2 a5 a6=>?_;let nT:=W.apart i T h1 af;let(a3,x,a7,rfl):=hp
  let a8:x=u:=by
   have:as[i]? = U x:=by simpa using a7
   rw[hu] at this;exact(We this).symm
  subst a8;let a9:h2.IsTuple T #[.int (i:B) a3,x]:=hT.at λ o q=>a6 T o nT q;let I2:Inv X pins σ (upd H T (.tup [.int (i:B),xs[i]])) { s with heap:=h2,toks:=tk }:=I.turnNew (t':=tk) (ch:=[e,it]) (λ c hc=>hf c hc) (λ c o hc q=>a6 c o hc (kp c o hc q)) hle {(show 2<=Å by decide),[.int (i:B) a3,x],.cons {(a3),J} (.cons ru .nil),a9};let fr:H T=L:=I.hok.fresh hle;refine{.ref T,_,I2,J,{_,_,fr,J,hx,J},{(a5.1),a5.2.1},λ c hc=>?_}
  let bt:c<%[s|99]:=by
   simp only[VU,VM,V6] at hc
   rcases hc with rfl|rfl
   ·exact VE a4
   ·let(o,q,_):=e2;exact VE q
  rw[ag (VQ (VR bt hle))];exact free c hc
 done:=by
  intro X hP hw hK hc i pins s σ H E I hf st hg;subst hP hw hK;let(ha,rfl):=hg;let(as,ra,pl,_):=I.list (SqL.of ha);let free:∀ c∈[e,it],H c=L:=λ c h=>(hf c h).1;let aS:l≠e:=λ z=>by have:=free e (by simp);rw[←z,ha] at this;cases this
  let aX:l≠it:=λ z=>by have:=free it (by simp);rw[←z,ha] at this;cases this
  let W:=WalksT.enumerate (prog:=X.prog) (w:=X.w) (show X.A.handled=L by rw[hc];exact hA) e it l ne aS aX as.toArray;let la:=ra.length;let hsz:as.toArray.size=xs.length:=by simp[la]
  let(e1,e2):=st;refine W.done s _ E (by rw[hsz];exact{(e1),e2,pl.isList}) λ h' tk kp=>{J,I.turnL (t':=tk) (ch:=[e,it]) (λ c hc=>hf c hc) kp}
 self:=λ A i s Q E st h=>by
  let((old,e1),e2):=st;exact wpAny_pyIter_enum e1 h
def R0(l:Z)(H:Hp)(R:It->Hp->Prop):G V->Prop:=λ xs=>R (Ite l xs) H
def Qp(l:Z)(H:Hp)(R:It->Hp->Prop)(xs:G V):R0 l H R xs=R (Ite l xs) H:=rfl
def Ro(R:It->Hp->Prop):G V->Hp->Prop:=λ vs H=>match vs with
 | [.ref l]=>aJ (aF H l) (R0 l H R)
 | _=>False
def Qq(R:It->Hp->Prop)(l:Z)(H:Hp):Ro R [.ref l] H=aJ (aF H l) (R0 l H R):=rfl
def OC(ta:TA):TI:=λ σ H R=>ta σ H (Ro R)
def Mz(ta:TA)(σ:St)(H:Hp)(R:It->Hp->Prop):OC ta σ H R=ta σ H (Ro R):=rfl
theorem Bx{a:Ò}{x1}{tp:Pos}{ta:TA}{p pos:Pos}(hg:Gl X "enumerate")(hm:X.mg "enumerate"=L)(ha:PA X [a] ta)(he:starEach [a] X.env=[(Á,eval a X.env)]:=by rfl)(hq:X.calm=Y:=by rfl) :
  PI X (.Tuple elts x1 tp) (.Call (.Name "enumerate" p) [a] [] pos) (OC ta):=by
 intro pins s σ H R I h;refine Call_ (eP I hg hm (show bootBuiltins "enumerate"=U (.type "enumerate") by decide +kernel) (PyProof.Rows.callWith_type1 (thn (ha pos pins s σ H _ I h) λ us s1 ⟨vs,H1,I1,r1,q1⟩=>?_) (by rw[he];rfl) (by rfl)));unfold Ro at q1;split at q1
 ·rename_i l;let(xs,e,q):=aq q1;replace e:=bO e
  cases r1 with
  | cons r rr=>
   cases rr;cases r;let(as,ra,pl,_):=I1.list (SqL.of e);refine call_enumerate_list pl.isList λ h' e1 e2 e3 e4=>?_;let I2:Inv X pins σ H1 { s1 with heap:=h' }:=I1.kept (t':=s1.toks) e4;refine wpAny_pyIter_enum (s:={ s1 with heap:=h' }) e1 {%[s1|99]+1,[%[s1|99]+1,%[s1|99]],_,_,H1,J,I2,CD l (%[s1|99]+1) %[s1|99] xs (by simp) (I1.ok.hd hq),{⟨_,e1⟩,e2},λ c hc=>?_,q}
   let hle:%[s1|99]<=c:=by
    simp only[VU,VM,V6] at hc
    rcases hc with rfl|rfl
    ·exact Wv ..
    ·exact VF _
   exact I1.fpOk hle (I1.hok.fresh hle)
 ·exact q1.elim
section
variable {Q:VK}{K:PySem.W.Frag}
theorem Ib(Pv:à->St->Hp->Prop)(h0:Pv 0 σ H)(hl:∀ i σ H,Pv i σ H->H l=U (.lst xs))
  (hs:∀ i u p σ H H',xs[i]? = U u->Pv i σ H->H p=L->Ext H H'->H' p=U (.tup [.int (i:B),u])->g (.ref p) σ H' (uG tb {Pv (i+1),rt,nx,Pv (i+1)})) (hd:∀ σ H,Pv xs.length σ H->nx σ H):JC g tb {(nx),rt,bk,ct} σ (Ite l xs) H:=by
 refine{λ i m σ H=>m=xs.length - i/\i<=xs.length/\Pv i σ H,{xs.length,by simp,Wz _,h0},?_};rintro i m σ H ⟨rfl,hi,p⟩;let qa:=hl i σ H p
 by_cases hlt:i<xs.length
 ·refine .inr {⟨qa,hlt⟩,Pv (i+1),λ σ' H' p'=>{xs.length - (i+1),by omega,J,hlt,p'},λ x H' y=>?_};let(r,u,hr,rfl,hu,rfl):=y;exact hs i u r σ H _ hu p hr (Ext.new hr) aj
 ·let e:i=xs.length:=by omega
  subst e;exact .inl {⟨qa,J⟩,hd σ H p}
end
section
variable {sp:Sp}{dvs:G V}{ds:G O}{E:St->XK}{m:Ç}{p apos:Pos}{e o:Ò}{ta:TE}
end
theorem fi{β:Type}(f:α->Ü β)(g:α->β):∀ xs:G α,(∀ x∈xs,f x=U (g x))->xs.filterMap f=xs.map g
 | [],_=>rfl
 | x::r,h=>by
  rw[Yl,h x VP]
  show g x::_=_
  rw[fi f g r λ y hy=>h y (VI _ hy)];rfl
theorem qW(its:G O):slicePick its.toArray L L (U (-1))=its.reverse.toArray:=by
 unfold slicePick sliceBounds sliceRange;simp only[Option.getD_some,size_toArray,show ¬ ((-1:B) > 0) by decide,if_false]
 let e:(Ì (if (its.length:B) - 1 > -1 then ((its.length:B) - 1 - -1 - -1 - 1) / - -1 else 0).toNat)=Ì its.length:=by
  congr 1
  by_cases h:(its.length:B) - 1 > -1
  ·rw[V7 h,show (- -1:B)=1 from J,Int.ediv_one];omega
  ·rw[VY h];omega
 rw[e];congr 1;rw[List.filterMap_map];apply Ze;intro i
 by_cases hi:i<its.length
 ·rw[fi _ (λ k=>(its.reverse[k]?).getD .none) (Ì its.length) (λ k hk=>?_)]
  ·rw[VS,XO hi]
   show U ((its.reverse[i]?).getD .none)=_
   rw[VA (by simpa using hi)];rfl
  ·let af:=WO.mp hk
   show its.toArray[((its.length:B) - 1 + -1 * (k:B)).toNat]? = _
   let hn:((its.length:B) - 1 + -1 * (k:B)).toNat=its.length - 1 - k:=by omega
   rw[hn,List.getElem?_toArray,YQ af,VA (by omega)];rfl
 ·rw[WT (show its.reverse.length<=i by rw[W7];omega)];refine WT (Wo (List.length_filterMap_le _ _) ?_);rw[V5];omega
def Kc(H:Hp)(Q:VK):G V->Prop:=λ xs=>ll (.lst xs.reverse) H Q
def Md(H:Hp)(Q:VK)(xs:G V):Kc H Q xs=ll (.lst xs.reverse) H Q:=rfl
def Rh(Q:VK):VK:=λ x H=>match x with
 | .ref p=>aJ (aF H p) (Kc H Q)
 | _=>False
def P8(Q:VK)(p:Z)(H:Hp):Rh Q (.ref p) H=aJ (aF H p) (Kc H Q):=rfl
def TY(te:TE):TE:=λ σ H Q=>te σ H (Rh Q)
def Pt(te:TE)(σ:St)(H:Hp)(Q:VK):TY te σ H Q=te σ H (Rh Q):=rfl
section
variable {e st:Ò}{te tst:TE}{p2:Pos}
theorem Jg(he:PE X e te)(hs:PE X st tst)(h1:∀ (σ:St) (H:Hp) (Q:VK),Q (.int (-1)) H->tst σ H Q):PE X (.Subscript e (.Slice L L (U st) p2) pos) (TY te):=by
 intro pins s σ H Q I h;refine Subscript_ (thn (he pins s σ H _ I h) λ v s1 ⟨x,H1,I1,r1,q1⟩=>?_);unfold Rh at q1;split at q1
 ·rename_i p;let(xs,ex,q):=aq q1;replace ex:=bO ex;cases r1;refine wpAny_Slice ?_;rw[evalPart_none];refine VC ?_;refine VC ?_;rw[evalPart_some];refine thn (hs pins s1 σ H1 (λ y H'=>y=.int (-1)/\H'=H1) I1 (h1 σ H1 _ {(J),J})) λ u s2 ⟨y,H2,I2,r2,e2,e3⟩=>?_;subst e2 e3;let(tk,rfl):=r2;let I4:Inv X pins σ H2 { s2 with heap:=s2.heap.push { cls:=.type "slice",data:=.fields #[.none,.none,.int (-1) tk] } }:=I2.kept (t':=s2.toks) λ b ob q=>Vz _ q
  show Ä (É X.prog X.w) X.A (subscriptTail e (.Slice L L (U st) p2) (.ref p) (.ref %[s2|99])) (EP X pins σ Q) X.xe { s2 with heap:=s2.heap.push { cls:=.type "slice",data:=.fields #[.none,.none,.int (-1) tk] } }
  let(its,r,ht,hz):=I4.list (SqL.of ex);refine tail_any (ops:=[.ref p,.ref %[s2|99]]) ht.isList.typeIs slot_list_getitem.lookup ?_ (by with_unfolding_all rfl);let hlen:=r.length;refine wpAny_getItem_list_slice (st:=U (-1)) ht.isList (Heap.IsSliceOf.new ..) .none .none (.int (-1) tk) (by simp) ?_ (by rw[V3]<;>omega);rw[qW];let fr:=I4.hok.fresh (VF (Heap.objs (s2.heap.push { cls:=.type "slice",data:=.fields #[.none,.none,.int (-1) tk] })).size);refine⟨.ref (s2.heap.push { cls:=.type "slice",data:=.fields #[.none,.none,.int (-1) tk] }).objs.size,_,I4.laid (t':=s2.toks) (o:=.lst xs.reverse) (λ b ob q=>Vz _ q) (VF _) ?_,J,q _ _ fr (Ext.new fr) aj⟩;exact{by rw[W7];exact hz,its.reverse,0,r.reverse,VG _ J}
 ·exact q1.elim
end
def E6(n:B):G V:=(Ì n.toNat).map λ (i:à)=>V.int (i:B)
def kLR(Q:VK):G V->Hp->Prop:=λ vs H=>match vs with
 | [.int n]=>0<=n/\n<=4096/\ll (.lst (E6 n)) H Q
 | _=>False
def Sj(Q:VK)(n:B)(H:Hp):kLR Q [.int n] H=(0<=n/\n<=4096/\ll (.lst (E6 n)) H Q):=rfl
def tLR(ta:TA):TE:=λ σ H Q=>ta σ H (kLR Q)
def SO(ta:TA)(σ:St)(H:Hp)(Q:VK):tLR ta σ H Q=ta σ H (kLR Q):=rfl
theorem vt{n:B}(h0:n<=4096)(h1:-5000<=n):Builtin.Range.small 0 n 1=Y/\Builtin.Range.rangeSize 0 n 1=((n.toNat:à):B):=by
 let e:Builtin.Range.rangeSize 0 n 1=((n.toNat:à):B):=by
  unfold Builtin.Range.rangeSize;rw[if_pos (by decide)];split
  ·rw[Int.ediv_one];omega
  ·omega
 refine{?_,e};unfold Builtin.Range.small;rw[e,if_pos (by decide)];unfold Builtin.Range.rangeFitsLong;simp;omega
theorem m5:∀ {xs:G V}{us:G O},us.length=xs.length->(∀ (i:à) (x:V) (u:O),xs[i]? = U x->us[i]? = U u->b9 x u)->bf xs us
 | [],[],_,_=>.nil
 | [],_::_,h,_=>by cases h
 | _::_,[],h,_=>by cases h
 | x::xs,u::us,h,k=>.cons (k 0 x u J J) (m5 (by simpa using h) λ i y w a b=>k (i+1) y w (by simpa using a) (by simpa using b))
theorem tZ{a:Ò}{p p2 af:Pos}(hc:X.calm=Y)(hg:Gl X "list")(hm:X.mg "list"=L)(a4:Gl X "range")(a5:X.mg "range"=L)(ha:PA X [a] ta)(hs:starEach [a] X.env=[(Á,eval a X.env)]:=by rfl)(aS:starEach [Expr.Call (.Name "range" p2) [a] [] af] X.env=[(Á,eval (Expr.Call (.Name "range" p2) [a] [] af) X.env)]:=by rfl)(aX:starEach ([]:G Ò) X.env=[]:=by rfl) :
  PE X (.Call (.Name "list" p) [.Call (.Name "range" p2) [a] [] af] [] pos) (tLR ta):=by
 intro pins s σ H Q I h;refine W3 (eP I hg hm (show bootBuiltins "list"=U (.type "list") by decide +kernel) ?_);refine Wd ?_ (by rw[aS,aX]) (by rw[aX];rfl);rw[aS]
 show Ä _ _ (spliced ((Á,eval _ X.env)::[])) _ _ s
 refine Calls.spliced_cons ?_;refine Call_ (eP I a4 a5 boot_range (PyProof.Rows.callWith_type1 (thn (ha af pins s σ H _ I h) λ us s1 ⟨vs,H1,I1,r1,q1⟩=>?_) hs J));unfold kLR at q1;split at q1
 ·rename_i n;let(a8,hn,q):=q1
  cases r1 with
  | cons r rr=>
   cases rr;let(t,rfl):=r;refine call_range_1 ?_;refine Calls.spliced_nil ?_;let(k1,k2):=vt hn (by omega);let I2:Inv X pins σ H1 { s1 with heap:=s1.heap.push { cls:=.type "range",data:=.fields #[.int 0 s1.toks,.int n t,.int 1 (s1.toks+1)] },toks:=s1.toks+1+1 }:=I1.kept (t':=s1.toks+1+1) λ b ob e=>Vz _ e;refine call_list_range (s:={ s1 with heap:=s1.heap.push { cls:=.type "range",data:=.fields #[.int 0 s1.toks,.int n t,.int 1 (s1.toks+1)] },toks:=s1.toks+1+1 }) (n:=n.toNat) (I1.ok.hd hc) (VG _ J) k1 k2 (by omega) λ h' tk acc c kp a3 hit=>?_;let fr:=I2.hok.fresh (VF _)
   let hv:bf (E6 n) acc.toList:=by
    refine m5 (by unfold E6;rw[length_map,length_range,Array.length_toList,hit.1]) λ i x u hx hu=>?_;unfold E6 at hx;rw[getElem?_map] at hx;let(j,hj,rfl):=Option.map_eq_some_iff.mp hx;let(a9,a6):=List.getElem?_eq_some_iff.mp hj;let ej:i=j:=by simpa using a6
    subst ej;let(a7,e):=hit.2 i u (by simpa using hu);exact{a7,by rw[e];congr 1;omega}
   refine⟨.ref (s1.heap.push { cls:=.type "range",data:=.fields #[.int 0 s1.toks,.int n t,.int 1 (s1.toks+1)] }).objs.size,_,I2.laid (t':=tk) (o:=.lst (E6 n)) kp (VF _) {?_,acc.toList,c,hv,?_},J,q _ _ fr (Ext.new fr) aj⟩
   ·unfold E6;rw[length_map,length_range];exact ao (by omega)
   ·exact a3
 ·exact q1.elim
theorem oI(h:n+64<cLine):n+1<cLine:=by omega
def R4(Q:VK)(x:V):VK:=λ y H=>∃ a v,x=.ref a/\E5 H a y (U v)/\Q v H
def Ux(ty:TE)(σ:St)(Q:VK):VK:=λ x H=>ty σ H (R4 Q x)
def Qu(ty:TE)(σ:St)(Q:VK)(x:V)(H:Hp):Ux ty σ Q x H=ty σ H (R4 Q x):=rfl
def LD(td ty:TE)(σ:St)(H:Hp)(Q:VK):N4 td ty σ H Q=td σ H (Ux ty σ Q):=rfl
def IQ{a:Z}{k:Key}{Q:VK}(e:H a=U (.dK kvs))(h:iH kvs k=U v)(q:Q v H):R4 Q (.ref a) (kV k) H:={a,v,J,h ▸ E5.k e,q}
def Ua(neg:Ý):R2:=λ y x H Q=>∃ a o,x=.ref a/\E5 H a y o/\Q (.bl (if neg=Y then !o.isSome else o.isSome)) H
def IM{neg:Ý}{a:Z}{k:Key}{Q:VK}(e:H a=U (.dK kvs))(q:Q (.bl (if neg=Y then !(iH kvs k).isSome else (iH kvs k).isSome)) H):Ua neg (kV k) (.ref a) H Q:={a,_,J,E5.k e,q}
theorem Ji(hu:X.A.units+1<cLine):OpR X (compareOp .In) (Ua Á):=by
 intro pins s σ H x y v u Q I rx ry h;let(a,o,rfl,g,q):=h;obtain rfl:u=Ê a:=ry;exact Vf hu I g rx λ s3 I3=>{.bl o.isSome,H,I3,J,q}
def R1(nx:St->Hp->Prop)(σ:St)(v x:V):VK:=λ y H=>∃ a H4,x=.ref a/\NG H a y v H4/\nx σ H4
def R3(ty:TE)(nx:St->Hp->Prop)(σ:St)(v:V):VK:=λ x H=>ty σ H (R1 nx σ v x)
def Qs(ty:TE)(nx:St->Hp->Prop)(σ:St)(v x:V)(H:Hp):R3 ty nx σ v x H=ty σ H (R1 nx σ v x):=rfl
def Uw(td ty:TE)(nx:St->Hp->Prop)(σ:St):VK:=λ v H=>td σ H (R3 ty nx σ v)
def Qt(td ty:TE)(nx:St->Hp->Prop)(σ:St)(v:V)(H:Hp):Uw td ty nx σ v H=td σ H (R3 ty nx σ v):=rfl
def LK(td ty tv:TE)(nx:St->Hp->Prop)(rt:VK)(bk ct:St->Hp->Prop)(σ:St)(H:Hp):N8 td ty tv {(nx),rt,bk,ct} σ H=tv σ H (Uw td ty nx σ):=rfl
def IP{a:Z}{k:Key}(e:H a=U (.dK kvs))(hl:kvs.length<Å)(q:nx σ (upd H a (.dK (pW kvs k v)))):R1 nx σ v (.ref a) (kV k) H:={a,_,J,NG.k e hl,q}
def tV(i:à):TE:=λ σ H Q=>match σ[i]? with
 | some (U v)=>Q v H
 | _=>False
theorem NV(i:à):Q5 i=tV i:=by
 funext σ H Q;refine propext {λ ⟨v,e,q⟩=>?_,λ h=>?_}
 ·unfold tV;rw[e];exact q
 ·unfold tV at h;split at h
  ·rename_i v e;exact{(v),e,h}
  ·exact h.elim
def Pp{Q:VK}:tV 0 (U v::σ) H Q=Q v H:=rfl
def Po{Q:VK}:tV 1 (a0::U v::σ) H Q=Q v H:=rfl
def Pn{Q:VK}:tV 2 (a0::a1::U v::σ) H Q=Q v H:=rfl
def Pm{Q:VK}:tV 3 (a0::a1::a2::U v::σ) H Q=Q v H:=rfl
def Pl{Q:VK}:tV 4 (a0::a1::a2::a3::U v::σ) H Q=Q v H:=rfl
def Pk{Q:VK}:tV 5 (a0::a1::a2::a3::a4::U v::σ) H Q=Q v H:=rfl
def Pj{Q:VK}:tV 6 (a0::a1::a2::a3::a4::a5::U v::σ) H Q=Q v H:=rfl
def Ph{Q:VK}:tV 7 (a0::a1::a2::a3::a4::a5::a6::U v::σ) H Q=Q v H:=rfl
def Pg{Q:VK}:tV 8 (a0::a1::a2::a3::a4::a5::a6::a7::U v::σ) H Q=Q v H:=rfl
def Pf{Q:VK}:tV 9 (a0::a1::a2::a3::a4::a5::a6::a7::a8::U v::σ) H Q=Q v H:=rfl
def Lx{Q:VK}:tV 10 (a0::a1::a2::a3::a4::a5::a6::a7::a8::a9::U v::σ) H Q=Q v H:=rfl
def Lw{Q:VK}:tV 11 (a0::a1::a2::a3::a4::a5::a6::a7::a8::a9::af::U v::σ) H Q=Q v H:=rfl
def Lv{Q:VK}:tV 12 (a0::a1::a2::a3::a4::a5::a6::a7::a8::a9::af::aS::U v::σ) H Q=Q v H:=rfl
def Lu{Q:VK}:tV 13 (a0::a1::a2::a3::a4::a5::a6::a7::a8::a9::af::aS::aX::U v::σ) H Q=Q v H:=rfl
def Ls{Q:VK}:tV 14 (a0::a1::a2::a3::a4::a5::a6::a7::a8::a9::af::aS::aX::bt::U v::σ) H Q=Q v H:=rfl
def Lr{Q:VK}:tV 15 (a0::a1::a2::a3::a4::a5::a6::a7::a8::a9::af::aS::aX::bt::bB::U v::σ) H Q=Q v H:=rfl
def Lq{Q:VK}:tV 16 (a0::a1::a2::a3::a4::a5::a6::a7::a8::a9::af::aS::aX::bt::bB::bS::U v::σ) H Q=Q v H:=rfl
def Lp{Q:VK}:tV 17 (a0::a1::a2::a3::a4::a5::a6::a7::a8::a9::af::aS::aX::bt::bB::bS::b0::U v::σ) H Q=Q v H:=rfl
def Lo{Q:VK}:tV 18 (a0::a1::a2::a3::a4::a5::a6::a7::a8::a9::af::aS::aX::bt::bB::bS::b0::b1::U v::σ) H Q=Q v H:=rfl
def Ln{Q:VK}:tV 19 (a0::a1::a2::a3::a4::a5::a6::a7::a8::a9::af::aS::aX::bt::bB::bS::b0::b1::b2::U v::σ) H Q=Q v H:=rfl
def Lm{b3:Ü V}{Q:VK}:tV 20 (a0::a1::a2::a3::a4::a5::a6::a7::a8::a9::af::aS::aX::bt::bB::bS::b0::b1::b2::b3::U v::σ) H Q=Q v H:=rfl
def nI0(g:B->B->V):R2:=λ x y H Q=>match x,y with
 | .int i,.int j=>Q (g i j) H
 | _,_=>False
def S0(g:B->B->V)(i j:B)(H:Hp)(Q:VK):nI0 g (.int i) (.int j) H Q=Q (g i j) H:=rfl
theorem oK(g:B->B->V):rI0 g=nI0 g:=by
 funext x y H Q;refine propext {λ ⟨i,j,e,e',q⟩=>by subst e e';exact q,λ h=>?_};unfold nI0 at h;split at h
 ·exact{_,_,J,J,h}
 ·exact h.elim
def nI(C:B->B->Prop)(g:B->B->V):R2:=λ x y H Q=>match x,y with
 | .int i,.int j=>C i j/\Q (g i j) H
 | _,_=>False
def U7(C:B->B->Prop)(g:B->B->V)(i j:B)(H:Hp)(Q:VK):nI C g (.int i) (.int j) H Q=(C i j/\Q (g i j) H):=rfl
theorem Fd(C:B->B->Prop)(g:B->B->V):rI C g=nI C g:=by
 funext x y H Q;refine propext {λ ⟨i,j,e,e',q⟩=>by subst e e';exact q,λ h=>?_};unfold nI at h;split at h
 ·exact{_,_,J,J,h}
 ·exact h.elim
def nU(g:B->V):V->Hp->VK->Prop:=λ x H Q=>match x with
 | .int i=>Q (g i) H
 | _=>False
def U6(g:B->V)(i:B)(H:Hp)(Q:VK):nU g (.int i) H Q=Q (g i) H:=rfl
theorem SF(g:B->V):rU g=nU g:=by
 funext x H Q;refine propext {λ ⟨i,e,q⟩=>by subst e;exact q,λ h=>?_};unfold nU at h;split at h
 ·exact{_,J,h}
 ·exact h.elim
def oP(Q:Ý->Hp->Prop):VK:=λ x H=>match x with
 | .bl k=>Q k H
 | _=>False
def GN(Q:Ý->Hp->Prop)(k:Ý)(H:Hp):oP Q (.bl k) H=Q k H:=rfl
theorem HC(Q:Ý->Hp->Prop):Ot Q=oP Q:=by
 funext x H;refine propext {λ ⟨k,e,q⟩=>by subst e;exact q,λ h=>?_};unfold oP at h;split at h
 ·exact{_,J,h}
 ·exact h.elim
def ym(t:TE):TT:=λ σ H Q=>t σ H (oP Q)
def LO(t:TE)(σ:St)(H:Hp)(Q:Ý->Hp->Prop):ym t σ H Q=t σ H (oP Q):=rfl
theorem qI(t:TE):JI t=ym t:=by
 funext σ H Q
 show t σ H (Ot Q)=t σ H (oP Q)
 rw[HC]
def Dc(t:TE):tB t=ym t:=qI t
def Ap(tb:TE)(σ:St)(Q:VK):VK:=λ x H=>match x with
 | .bl c=>if c=Y then tb σ H Q else Q (.bl Á) H
 | _=>False
def Mu(tb:TE)(σ:St)(Q:VK)(c:Ý)(H:Hp):Ap tb σ Q (.bl c) H=(if c=Y then tb σ H Q else Q (.bl Á) H):=rfl
def J0(ta tb:TE):TE:=λ σ H Q=>ta σ H (Ap tb σ Q)
def LW(ta tb:TE)(σ:St)(H:Hp)(Q:VK):J0 ta tb σ H Q=ta σ H (Ap tb σ Q):=rfl
theorem Gz(ta tb:TE):N6 ta tb=J0 ta tb:=by
 funext σ H Q
 show ta σ H (Tz tb σ Q)=ta σ H (Ap tb σ Q)
 congr 1;funext x H;refine propext {λ ⟨k,e,q⟩=>by subst e;exact q,λ h=>?_};unfold Ap at h;split at h
 ·exact{_,J,h}
 ·exact h.elim
def An(Q:VK):VK:=λ x H=>match x with
 | .bl c=>Q (.bl (!c)) H
 | _=>False
def Mg(Q:VK)(c:Ý)(H:Hp):An Q (.bl c) H=Q (.bl (!c)) H:=rfl
def JX(ta:TE):TE:=λ σ H Q=>ta σ H (An Q)
def LQ(ta:TE)(σ:St)(H:Hp)(Q:VK):JX ta σ H Q=ta σ H (An Q):=rfl
theorem Gy(ta:TE):NZ ta=JX ta:=by
 funext σ H Q
 show ta σ H (Tt Q)=ta σ H (An Q)
 congr 1;funext x H;refine propext {λ ⟨k,e,q⟩=>by subst e;exact q,λ h=>?_};unfold An at h;split at h
 ·exact{_,J,h}
 ·exact h.elim
def yp(r':R2)(tc:TE)(σ:St)(y:V)(Q:VK):VK:=λ z H=>match z with
 | .bl k=>if k=Y then tc σ H (Rq r' y Q) else Q (.bl Á) H
 | _=>False
def Mr(r':R2)(tc:TE)(σ:St)(y:V)(Q:VK)(k:Ý)(H:Hp):yp r' tc σ y Q (.bl k) H=(if k=Y then tc σ H (Rq r' y Q) else Q (.bl Á) H):=rfl
theorem MS(r':R2)(tc:TE)(σ:St)(y:V)(Q:VK):R6 r' tc σ y Q=yp r' tc σ y Q:=by
 funext z H;refine propext {λ ⟨k,e,q⟩=>by subst e;exact q,λ h=>?_};unfold yp at h;split at h
 ·exact{_,J,h}
 ·exact h.elim
def Fo(r r':R2)(tc:TE)(σ:St)(x:V)(Q:VK):VK:=λ y H=>r x y H (yp r' tc σ y Q)
def Ms(r r':R2)(tc:TE)(σ:St)(x y:V)(Q:VK)(H:Hp):Fo r r' tc σ x Q y H=r x y H (yp r' tc σ y Q):=rfl
def Fp(r r':R2)(tb tc:TE)(σ:St)(Q:VK):VK:=λ x H=>tb σ H (Fo r r' tc σ x Q)
def Mt(r r':R2)(tb tc:TE)(σ:St)(Q:VK)(x:V)(H:Hp):Fp r r' tb tc σ Q x H=tb σ H (Fo r r' tc σ x Q):=rfl
def AZ(r r':R2)(ta tb tc:TE):TE:=λ σ H Q=>ta σ H (Fp r r' tb tc σ Q)
def GL(r r':R2)(ta tb tc:TE)(σ:St)(H:Hp)(Q:VK):AZ r r' ta tb tc σ H Q=ta σ H (Fp r r' tb tc σ Q):=rfl
theorem Dd(r r':R2)(ta tb tc:TE):IW r r' ta tb tc=AZ r r' ta tb tc:=by
 funext σ H Q
 show ta σ H (Ve r r' tb tc σ Q)=ta σ H (Fp r r' tb tc σ Q)
 congr 1;funext x H1
 show tb σ H1 (Uy r r' tc σ x Q)=tb σ H1 (Fo r r' tc σ x Q)
 congr 1;funext y H2
 show r x y H2 (R6 r' tc σ y Q)=r x y H2 (yp r' tc σ y Q)
 rw[MS]
def Ft:TGs:=λ vs σ H Q=>match vs with
 | []=>Q σ H
 | _=>False
def MB(σ:St)(H:Hp)(Q:St->Hp->Prop):Ft [] σ H Q=Q σ H:=rfl
theorem MX:UL=Ft:=by
 funext vs σ H Q;refine propext {λ ⟨e,q⟩=>by subst e;exact q,λ h=>?_};unfold Ft at h;split at h
 ·exact{(J),h}
 ·exact h.elim
def wR(t:TG)(u:TGs):TGs:=λ vs σ H Q=>match vs with
 | v::r=>t v σ H (kGs u r Q)
 | _=>False
def G9(t:TG)(u:TGs)(v:V)(r:G V)(σ:St)(H:Hp)(Q:St->Hp->Prop):wR t u (v::r) σ H Q=t v σ H (kGs u r Q):=rfl
theorem HY(t:TG)(u:TGs):OD t u=wR t u:=by
 funext vs σ H Q;refine propext {λ ⟨v,r,e,q⟩=>by subst e;exact q,λ h=>?_};unfold wR at h;split at h
 ·exact{_,_,J,h}
 ·exact h.elim
theorem kJ{f:α0->G V}{xL:α0->Prop}(inj:∀ a a',f a=f a'->a=a')(a:α0):(∃ a',f a=f a'/\xL a')=xL a:=propext ⟨λ ⟨a',e,q⟩=>by obtain rfl:=inj _ _ e;exact q,λ q=>{(a),J,q}⟩
theorem kK{f:α0->G V}{xL:α0->Prop}(h:∃ a,vs=f a/\xL a)(l:∀ a,(f a).length=n):vs.length=n:=by
 let(_,rfl,_):=h;exact l _
theorem gv{f:α0->α1->G V}{xL:α0->α1->Prop}(inj:∀ a b a' b',f a b=f a' b'->a=a'/\b=b')(a:α0)(b:α1):(∃ a' b',f a b=f a' b'/\xL a' b')=xL a b:=propext ⟨λ ⟨a',b',e,q⟩=>by let(rfl,rfl):=inj _ _ _ _ e;exact q,λ q=>{(a),b,J,q}⟩
theorem gB{f:α0->α1->G V}{xL:α0->α1->Prop}(h:∃ a b,vs=f a b/\xL a b)(l:∀ a b,(f a b).length=n):vs.length=n:=by
 let(_,_,rfl,_):=h;exact l _ _
theorem wC{f:α0->α1->α2->G V}{xL:α0->α1->α2->Prop}(inj:∀ a b c a' b' c',f a b c=f a' b' c'->a=a'/\b=b'/\c=c')(a:α0)(b:α1)(c:α2):(∃ a' b' c',f a b c=f a' b' c'/\xL a' b' c')=xL a b c:=propext ⟨λ ⟨a',b',c',e,q⟩=>by let(rfl,rfl,rfl):=inj _ _ _ _ _ _ e;exact q,λ q=>{(a),b,c,J,q}⟩
theorem Ae{f:α0->α1->α2->G V}{xL:α0->α1->α2->Prop}(h:∃ a b c,vs=f a b c/\xL a b c)(l:∀ a b c,(f a b c).length=n):vs.length=n:=by
 let(_,_,_,rfl,_):=h;exact l _ _ _
theorem NK{f:α0->α1->α2->α3->G V}{xL:α0->α1->α2->α3->Prop}(inj:∀ a b c d a' b' c' d',f a b c d=f a' b' c' d'->a=a'/\b=b'/\c=c'/\d=d')(a:α0)(b:α1)(c:α2)(d:α3):(∃ a' b' c' d',f a b c d=f a' b' c' d'/\xL a' b' c' d')=xL a b c d:=propext ⟨λ ⟨a',b',c',d',e,q⟩=>by let(rfl,rfl,rfl,rfl):=inj _ _ _ _ _ _ _ _ e;exact q,λ q=>{(a),b,c,d,J,q}⟩
theorem Q6{f:α0->α1->α2->α3->G V}{xL:α0->α1->α2->α3->Prop}(h:∃ a b c d,vs=f a b c d/\xL a b c d)(l:∀ a b c d,(f a b c d).length=n):vs.length=n:=by
 let(_,_,_,_,rfl,_):=h;exact l _ _ _ _
theorem T7{α4:Type}{f:α0->α1->α2->α3->α4->G V}{xL:α0->α1->α2->α3->α4->Prop}(inj:∀ a b c d i a' b' c' d' i',f a b c d i=f a' b' c' d' i'->a=a'/\b=b'/\c=c'/\d=d'/\i=i')(a:α0)(b:α1)(c:α2)(d:α3)(i:α4):(∃ a' b' c' d' i',f a b c d i=f a' b' c' d' i'/\xL a' b' c' d' i')=xL a b c d i:=propext ⟨λ ⟨a',b',c',d',i',e,q⟩=>by let(rfl,rfl,rfl,rfl,rfl):=inj _ _ _ _ _ _ _ _ _ _ e;exact q,λ q=>{(a),b,c,d,i,J,q}⟩
theorem T8{α4:Type}{f:α0->α1->α2->α3->α4->G V}{xL:α0->α1->α2->α3->α4->Prop}(h:∃ a b c d i,vs=f a b c d i/\xL a b c d i)(l:∀ a b c d i,(f a b c d i).length=n):vs.length=n:=by
 let(_,_,_,_,_,rfl,_):=h;exact l _ _ _ _ _
theorem Va{P:G O->Prop}(h:P []):∀ us:G O,us.length=0->P us:=λ us e=>by
 cases us with
 | nil=>exact h
 | cons a r=>cases e
theorem nX{P:G O->Prop}(h:∀ a,P [a]):∀ us:G O,us.length=1->P us:=λ us e=>by
 cases us with
 | nil=>cases e
 | cons x r=>exact Va (P:=λ r=>P (x::r)) (h x) r (YM e)
theorem iP{P:G O->Prop}(h:∀ a b,P [a,b]):∀ us:G O,us.length=2->P us:=λ us e=>by
 cases us with
 | nil=>cases e
 | cons x r=>exact nX (P:=λ r=>P (x::r)) (h x) r (YM e)
theorem uB{P:G O->Prop}(h:∀ a b c,P [a,b,c]):∀ us:G O,us.length=3->P us:=λ us e=>by
 cases us with
 | nil=>cases e
 | cons x r=>exact iP (P:=λ r=>P (x::r)) (h x) r (YM e)
theorem Rf{P:G O->Prop}(h:∀ a b c d,P [a,b,c,d]):∀ us:G O,us.length=4->P us:=λ us e=>by
 cases us with
 | nil=>cases e
 | cons x r=>exact uB (P:=λ r=>P (x::r)) (h x) r (YM e)
theorem Um{P:G O->Prop}(h:∀ a b c d i,P [a,b,c,d,i]):∀ us:G O,us.length=5->P us:=λ us e=>by
 cases us with
 | nil=>cases e
 | cons x r=>exact Rf (P:=λ r=>P (x::r)) (h x) r (YM e)
section
variable {X:Cx}
theorem pvN(i:à){x:Ç}{pos:Pos}(hN:X.N[i]? = U x:=by rfl)(hv:Vis X.env.scope x:=by first|exact Or.inl rfl|exact Or.inr (Or.inl J)|exact Or.inr (Or.inr J))(hd:(x == ("__debug__":Ç))=Á:=by decide)
  (af:(x == ("__classdict__":Ç))=Á:=by decide):PE X (.Name x pos) (tV i):=by rw[←NV];exact pv i hN hv hd af
theorem bN:OpR X (binaryOp .Add) (nI0 λ i j=>.int (i+j)):=by rw[←oK];exact wL
theorem fK:OpR X (binaryOp .Sub) (nI0 λ i j=>.int (i - j)):=by rw[←oK];exact O4
theorem yl:OpR X (compareOp .Lt) (nI0 λ i j=>.bl (decide (i<j))):=by rw[←oK];exact Oe
theorem Am:OpR X (compareOp .LtE) (nI0 λ i j=>.bl (decide (i<=j))):=by rw[←oK];exact Sv
theorem nZ:OpR X (compareOp .Gt) (nI0 λ i j=>.bl (decide (j<i))):=by rw[←oK];exact Of
theorem Og:OpR X (compareOp .GtE) (nI0 λ i j=>.bl (decide (j<=i))):=by rw[←oK];exact Sw
theorem eN:OpR X (binaryOp .Mult) (nI oG λ i j=>.int (i * j)):=by rw[←Fd];exact kO
theorem BF:OpR X (binaryOp .Mult) (nI Kl λ i j=>.int (i * j)):=by rw[←Fd];exact Lg
theorem jX:OpR X (binaryOp .FloorDiv) (nI Si λ i j=>.int (i / j)):=by rw[←Fd];exact Lh
theorem lW:OpR X (binaryOp .Mod) (nI (λ _ j=>0<j) λ i j=>.int (i % j)):=by rw[←Fd];exact lV
theorem gJ:UnR X (unaryOp .USub) (nU λ i=>.int (-i)):=by rw[←SF];exact OJ
variable {a b c d e:Ò}{ta tb tc td t:TE}{pos:Pos}
theorem Ge{op:CmpOp}{r:R2}(ho:OpR X (compareOp op) r)(ha:PE X a ta)(hb:PE X b tb)(hm:behindInMarks op b=Á):PT X (.Compare a [op] [b] pos) (ym (tOp r ta tb)):=by rw[←qI];exact uW ho ha hb hm
theorem KH(h:PE X e t)(he:∀ whole,isTrue e X.env whole=(do let v ←whole;standAt e.pos;holding [v] (truthy v)):=by intro _;rfl):PT X e (ym t):=by rw[←Dc];exact OU h he
theorem sI{op af:CmpOp}{r r':R2}(ho:OpR X (compareOp op) r)(aS:OpR X (compareOp af) r')(ha:PE X a ta)(hb:PE X b tb)(hc:PE X c tc)
  (hm:lastMarks [op,af] [b,c]=Á:=by with_unfolding_all rfl):PE X (.Compare a [op,af] [b,c] pos) (AZ r r' ta tb tc):=by rw[←Dd];exact Gp ho aS ha hb hc hm
variable {dQ:G Ò}
theorem Ld(ha:PE X a ta)(hb:PE X (.BoolOp .And (b::dQ) pos) tb):PE X (.BoolOp .And (a::b::dQ) pos) (J0 ta tb):=by rw[←Gz];exact O3 ha hb
theorem uX(ha:PE X a ta):PE X (.UnaryOp .Not a pos) (JX ta):=by rw[←Gy];exact O2 ha
def aO:PGs X [] Ft:=by rw[←MX];exact KW
theorem CK{e:Ò}{t:TG}{u:TGs}(h1:PG X e t)(h2:PGs X es u)
  (hs:(assignEach (e::es) X.env).map (·.2)=assign e X.env::(assignEach es X.env).map (·.2):=by rfl):PGs X (e::es) (wR t u):=by rw[←HY];exact Gi h1 h2 hs
end
def rY{c:TT}{t u:TS}(R:St->Hp->Prop)(h:∀ af:St->Hp->Prop,(∀ σ' H',R σ' H'->af σ' H')->NJ c t u {(af),rt,bk,ct} σ H)(k:∀ σ' H',R σ' H'->nx σ' H'):NJ c t u {(nx),rt,bk,ct} σ H:=h nx k
def Ol{i:à}:ME (tV i):=by rw[←NV];exact A3
def xw{t:TE}(h:ME t):MT (ym t):=by rw[←qI];exact uZ h
def RP(k:B)(H:Hp)(Q:VK):G V->Prop:=λ xs=>0<=k/\k<=4096/\xs.length * k.toNat<=Å/\ll (.lst (È k.toNat xs).flatten) H Q
def Qc(k:B)(H:Hp)(Q:VK)(xs:G V):RP k H Q xs=(0<=k/\k<=4096/\xs.length * k.toNat<=Å/\ll (.lst (È k.toNat xs).flatten) H Q):=rfl
def RI:R2:=λ x y H Q=>match x,y with
 | .ref l,.int k=>aJ (aF H l) (RP k H Q)
 | _,_=>False
def PX(l:Z)(k:B)(H:Hp)(Q:VK):RI (.ref l) (.int k) H Q=aJ (aF H l) (RP k H Q):=rfl
theorem fT:OpR X (binaryOp .Mult) RI:=O5.mono λ x y H Q h=>by
 unfold RI at h;split at h
 ·rename_i l k;let(xs,e,h0,h1,h2,q):=aq h;exact{l,k,xs,J,J,bO e,by omega,by omega,h2,q.to}
 ·exact h.elim
def A5(l:Z)(i:B)(xs:G V)(H:Hp)(Q:VK):V->Prop:=λ y=>Q y (upd H l (.lst (xs.eraseIdx i.toNat)))
def GP(l:Z)(i:B)(xs:G V)(H:Hp)(Q:VK)(y:V):A5 l i xs H Q y=Q y (upd H l (.lst (xs.eraseIdx i.toNat))):=rfl
def Kd(l:Z)(i:B)(H:Hp)(Q:VK):G V->Prop:=λ xs=>0<=i/\i<xs.length/\xs.length<=4096/\aJ (xs[i.toNat]?) (A5 l i xs H Q)
def Me(l:Z)(i:B)(H:Hp)(Q:VK)(xs:G V):Kd l i H Q xs=(0<=i/\i<xs.length/\xs.length<=4096/\aJ (xs[i.toNat]?) (A5 l i xs H Q)):=rfl
def AY:V->G V->Hp->VK->Prop:=λ x vs H Q=>match x,vs with
 | .ref l,[.int i]=>aJ (aF H l) (Kd l i H Q)
 | _,_=>False
def GJ(l:Z)(i:B)(H:Hp)(Q:VK):AY (.ref l) [.int i] H Q=aJ (aF H l) (Kd l i H Q):=rfl
theorem De:MtM X "list.pop" AY:=λ pins s σ H x vs v us Q I rx rv h=>GA pins s σ H x vs v us Q I rx rv (by
 unfold AY at h;split at h
 ·rename_i l i;let(xs,e,h0,h1,h2,q):=aq h;let(y,hy,q):=aq q;exact{l,xs,i,i.toNat,y,J,J,bO e,by omega,by omega,seqIndex_of h0 h1,hy,q}
 ·exact h.elim)
theorem BI(h:MA t):ME (RE t):=λ σ H Q Q' m q=>h σ H _ _ (λ xs H1 ⟨l,n⟩=>{l,λ p H' a b c=>m _ _ (n p H' a b c)}) q
def RY(neg:Ý)(x:V)(H:Hp)(Q:VK):G V->Prop:=λ xs=>jo x=Y/\xs.all jo=Y/\Q (.bl (if neg=Y then !inV x xs else inV x xs)) H
def Ql(neg:Ý)(x:V)(H:Hp)(Q:VK)(xs:G V):RY neg x H Q xs=(jo x=Y/\xs.all jo=Y/\Q (.bl (if neg=Y then !inV x xs else inV x xs)) H):=rfl
def nIn(neg:Ý):R2:=λ x y H Q=>match y with
 | .ref p=>aJ (dH H p) (RY neg x H Q)
 | _=>False
def SY(neg:Ý)(x:V)(p:Z)(H:Hp)(Q:VK):nIn neg x (.ref p) H Q=aJ (dH H p) (RY neg x H Q):=rfl
theorem Jc{neg:Ý}{x:V}{Q:VK}(h:nIn neg x y H Q):rIn K neg x y H Q:=by
 unfold nIn at h;split at h
 ·rename_i p;let(xs,e,h1,h2,q):=aq h;exact{p,xs,J,jH e,h1,h2,q}
 ·exact h.elim
theorem O8:OpR X (compareOp .In) (nIn Á):=CQ.mono λ x y H Q h=>Jc h
theorem CP:OpR X (compareOp .NotIn) (nIn Y):=ua.mono λ x y H Q h=>Jc h
def Ry(ns:G B):G B:=firstMet (λ i=>ns.getD i 0) ns.length
def NA(ns:G B):à:=(Ry ns).length
def Rx(ns:G B):B->Ý:=λ k=>(Ry ns).any λ x=>x == k
def Ue:G V->Hp->VK->Prop:=λ vs H Q=>∃ p ns,vs=[.ref p]/\H p=U (.lst (ns.map V.int))/\ns.length<=4000/\ll (.set (Rx ns) (NA ns)) H Q
def Kr{ns:G B}{Q:VK}(e:H p=U (.lst (ns.map V.int)))(hl:ns.length<=4000)(q:ll (.set (Rx ns) (NA ns)) H Q):Ue [.ref p] H Q:={(p),ns,J,e,hl,q}
def Oc:G V->Hp->VK->Prop:=λ vs H Q=>∃ p S n,vs=[.ref p]/\H p=U (.set S n)/\Q (.int n) H
def FK{S:B->Ý}{Q:VK}(e:H p=U (.set S n))(q:Q (.int n) H):Oc [.ref p] H Q:={(p),S,n,J,e,q}
theorem EB(hc:X.calm=Y):cn X (.type "set") Ue:=by
 intro pins s σ H vs us Q I r h;let(p,ns,rfl,e,hl,q):=h
 cases r with
 | cons r rr=>
  cases rr;cases r;let(its,r',pl,hz):=I.list (SqL.of e);let hlen:=r'.length;rw[length_map] at hlen;let hI:IntsAre its ns:=zD r';refine call_set_list (ns:=ns) (I.ok.hd hc) pl.isList (by simpa using hI) (by rw[size_toArray];unfold scanBound;omega) λ h' tk af kp=>?_;let es:its.toArray.size=ns.length:=by rw[size_toArray,hlen]
  rw[es] at af;let fr:=I.hok.fresh (VF _);exact{.ref %[s|99],_,I.laid (t':=tk) (h':=h') (o:=.set (Rx ns) (NA ns)) (λ b u hb=>kp b u (VE hb) hb) (VF _) af,J,q _ _ fr (Ext.new fr) aj}
theorem zK:cn X (.builtin "len") Oc:=by
 intro pins s σ H vs us Q I r h;let(p,S,n,rfl,e,q):=h;let(u,rfl,rx):=uE r;cases rx;let hn:=oO;let(o,es,ep,t,h1,h2,h3,h4,h5,h6,h7,h8):=I.hok _ _ e;unfold scanBound at h6;exact call_len_set h1 h2 h3 h7 (by omega) {.int n,H,I.tok _,{s.toks+1,by rw[h8]},q}
theorem vp(σ:G B)(v:B):(step_dedup σ v).length<=σ.length+1:=by rw[step_length];split<;>omega
theorem BN:∀ (ns σ:G B),(List.foldl step_dedup σ ns).length<=σ.length+ns.length
 | [],σ=>VF _
 | v::ns,σ=>by
  let h1:=BN ns (step_dedup σ v);let h2:=vp σ v;simp only[X5,Wc];omega
theorem BO:∀ (ns σ:G B),(List.foldl step_dedup σ ns).length=σ.length+ns.length ↔ ns.Nodup/\∀ x∈ns,x ∉ σ
 | [],σ=>{λ _=>{Yc,λ _ h=>Þ h VM},λ _=>J}
 | v::ns,σ=>by
  let ih:=BO ns (step_dedup σ v);let hl:=BN ns (step_dedup σ v);simp only[X5,Wc,Xa,VU,forall_eq_or_imp]
  by_cases hv:v∈σ
  ·let e:step_dedup σ v=σ:=by unfold step_dedup;rw[if_pos (by rw[List.any_eq_true];exact{v,hv,by simp})]
   rw[e] at hl ⊢;exact{λ h=>Þ h (by omega),λ h=>Þ hv h.2.1}
  ·let e:step_dedup σ v=σ++[v]:=by
    unfold step_dedup;rw[if_neg];intro h;rw[List.any_eq_true] at h;let(x,hx,he):=h;exact hv ((of_decide_eq_true (by simpa using he):x=v) ▸ hx)
   rw[e] at ih ⊢;rw[VN,WD] at ih;constructor
   ·intro h;let(a,b):=ih.mp (by omega);exact{⟨λ hm=>b v hm (Wt _ (VO.mpr J)),a⟩,hv,λ x hx hs=>b x hx (Xc _ hs)}
   ·rintro ⟨⟨a,b⟩,_,c⟩
    have:=ih.mpr {b,λ x hx hs=>by
     rcases Wf.mp hs with h|h
     ·exact c x hx h
     ·exact a (VO.mp h ▸ hx)}
    omega
theorem zG(ns:G B):(Ì ns.length).map (λ i=>ns.getD i 0)=ns:=by
 refine YF (by rw[VD,V5]) λ i h1 h2=>?_;rw[List.getElem_map,Y6,Xz,VA h2];rfl
theorem Bp(ns:G B):NA ns=ns.length ↔ ns.Nodup:=by
 unfold NA Ry firstMet;rw[zG];have:=BO ns [];simp only[length_nil,Nat.zero_add] at this;rw[this];exact{λ h=>h.1,λ h=>{h,λ _ _=>not_mem_nil}}
structure IsC(K:Æ)(C:Z):Prop where
 cl:Cls K C
 fc:Ó K (.ref C) "__class__"=U (U (.builtin "object.__class__"))
 ocs:W.specialIn K (.builtin "object.__class__") "__get__"=U (U (.builtin "getset_descriptor.__get__"))
 oct:W.takesIn K (.builtin "object.__class__")=U Y
 mo:Û K C (.type "object")=U Y
section
variable {K:Frag}{x dx:Z}{name:Ç}{v:O}
theorem FR{vs:Array O}{sl:Array (Ü O)}{m:Ç->Ü O}{names:G Ç}{Q:Unit->À->Prop}(c:rZ K C)(X:K.In s.heap)(hx:s.heap.get? x=U {.ref C,U dx,.fields vs,sl})(hn:s.heap.Ns1 dx m)(hw:PySem.Within m names)(hl:names.length<=100)(a3:x≠dx)(ht:takerIn K C name=U L)
  (h:∀ h' tk,h'.Ns1 dx (λ y=>if y=name then U v else m y)->(∀ b o,b≠dx->s.heap.get? b=U o->h'.get? b=U o)->Q () { s with heap:=h',toks:=tk }) :
  Ä (É prog w) A (setAttr (.ref x) name v) Q E s:=by
 let(af,_,_,aS,_):=id hn;let I:InstAt s.heap x {.ref C,U dx,.fields vs,sl} C (U af):={(hx),J,J,aS};refine set_plain X I c.sa (xr (s:={ s with toks:=s.toks+1 }) X I c.ov ht λ b=>?_);let(cd,hc,aX):=any_some c.hd;refine My (VC (My (My (Zi hx ?_))))
 show Ä _ _ (do if !(←classData C).hasDict then pure L else _) _ _ _
 refine My (Looks.here (s:={ s with toks:=s.toks+1 }) (looks_clsIn X hc) ?_);rw[aX,VY (by decide)]
 show Ä _ _ (pure (U dx)) _ _ _
 refine VC ?_
 show Ä _ _ (Builtin.ObjectAttr.storeInDict dx (.str name s.toks) name v) _ _ _
 unfold Builtin.ObjectAttr.storeInDict Builtin.ObjectAttr.newKeyGuard;refine wpAny_bind (wpAny_pure (wpAny_bind (wpAny_nsSet1 hn λ h2 n2 s2=>?_)));let(oD,eD,pD,q1,q2,q3):=n2.count (Within.cons name v hw);refine wpAny_bind (wpAny_lookBehind q1 (by rw[q2];exact pastItsLine_dict (Nat.le_trans q3 (by rw[length_cons,sizeLine_eq];omega))) ?_);exact wpAny_pure (h h2 _ n2 λ b o hb e=>(s2.2 b hb).trans e)
end
def Uo(K:Frag)(f:Ç)(y:V)(σ:St)(nx:St->Hp->Prop):VK:=λ x H=>∃ e C dx fs,x=.ref e/\H e=U (exH e C (U dx))/\H dx=U (.xd fs)/\fs.length<=100/\rZ K C/\takerIn K C f=U L/\nx σ (upd H dx (.xd ((f,y)::fs)))
def J6(K:Frag)(f:Ç)(ta:TE)(σ:St)(nx:St->Hp->Prop):VK:=λ y H=>ta σ H (Uo K f y σ nx)
def IL(K:Frag)(ta tv:TE)(f:Ç):TS:=λ D σ H=>tv σ H (J6 K f ta σ D.nx)
section
variable {e o value:Ò}{ta tv:TE}{f:Ç}{pos':Pos}
theorem Cy:∀ {fs:G (Ç × V)}{m:Ç->Ü O},(∀ g,oF (fs.lookup g) (m g))->PySem.Within m (fs.map Prod.fst):=by
 intro fs m hr y hy;let h:=hr y
 cases hl:fs.lookup y with
 | none=>
  rw[hl] at h
  cases hm:m y with
  | none=>exact Þ hm hy
  | some u=>rw[hm] at h;exact h.elim
 | some v=>
  clear h hr
  induction fs with
  | nil=>cases hl
  | cons p fs ih=>
   rw[Xd] at hl
   by_cases e:y=p.1
   ·rw[Wr,e];exact VP
   ·rw[WK.mpr e] at hl;exact VI _ (ih hl)
theorem Inv.writeX{x:Z}{fs fs':G (Ç × V)}(I:Inv X pins σ H s)(hx:H x=U (.xd fs))(k:∀ b u,b≠x->s.heap.get? b=U u->h'.get? b=U u)(af:∃ u,h'.get? x=U u)
  (new:bE X.prog X.w (upd H x (.xd fs')) h' x (.xd fs')):Inv X pins σ (upd H x (.xd fs')) { s with heap:=h',toks:=t' }:=by
 let ne:∀ {b:Z} {u:HO},H b=U u->u ≠ .xd fs->b≠x:=λ q n z=>by rw[z,hx] at q;exact n (We q).symm
 let no:∀ {b:Z},H b=L->b≠x:=λ n z=>by rw[z,hx] at n;cases n
 refine I.un ⟨λ b u q n _ _=>k b u (no n) q,λ b u q n _ _=>{u.slots,k b u (no n) q},λ b u q n _=>by rw[ag (no n)];exact n,λ b u q _=>?_,λ b xs q=>?_,λ b u v q=>?_,λ b ps q=>{#[],?_}⟩ λ b u q=>?_
 ·by_cases hb:b=x
  ·subst hb;exact af
  ·exact{u,k b u hb q}
 ·rw[ag (ne q (by intro z;cases z))];exact q
 ·rw[ag (ne q (by intro z;cases z))];exact q
 ·rw[ag (ne q (by intro z;cases z)),q];simp
 ·by_cases hb:b=x
  ·subst hb;rw[aj] at q;cases q;exact new
  ·rw[ag hb] at q;refine(I.hok b u q).stay (λ c v hc r=>k c v ?_ r) (λ c r=>by rw[ag (ne r (by intro z;cases z))];exact r) (λ c y r=>by rw[ag (ne r (by intro z;cases z))];exact r) λ c xs r=>by rw[ag (ne r (by intro z;cases z))];exact r
   rcases hc with rfl|hc
   ·exact hb
   ·exact ne hc (by intro z;cases z)
theorem Gf(ha:PE X o ta)(hv:PE X value tv)(hs:swapsWith value (U (.Attribute o f pos')) pos.line X.env=pure Á):PS X (.Assign [.Attribute o f pos'] value pos) (IL X.K ta tv f):=by
 intro pins s σ H D I h;refine Yj (thn (hv pins s σ H _ I h) λ u s1 ⟨y,H1,I1,ry,q⟩=>thn (ha pins s1 σ H1 _ I1 q) λ ov s2 ⟨x,H2,I2,rx,q1⟩=>?_) hs;let(ex,C,dx,fs,rfl,he,hd,hl,st,ht,k):=q1;obtain rfl:ov=Ê ex:=rx;let(t0,h0):=mj (I2.hok ex _ he);let(mA,hn,hr):=I2.hok dx _ hd;let ne:ex≠dx:=λ z=>by rw[z,hd] at he;cases he
 refine FR st I2.kIn h0 hn (Cy hr) (by rw[VD];exact hl) ne ht λ h' tk q1 q2=>?_;let(_,_,_,q3,_):=id q1;let ww:=I2.writeX (t':=tk) (x:=dx) (fs':=(f,y)::fs) hd (λ b u hb z=>q2 b u hb z) ⟨_,q3⟩ ⟨_,q1,λ g=>?_⟩
 ·exact{σ,_,ww,k}
 ·show oF (List.lookup g ((f,y)::fs)) (if g=f then U u else mA g)
  by_cases hg:g=f
  ·subst hg;rw[V7 J,List.lookup_cons_self];exact ry
  ·let hb:(g == f)=Á:=WK.mpr hg;rw[VY hg,Xd,hb];exact hr g
end
def GC(K:Frag)(ta tv:TE)(f:Ç)(nx:St->Hp->Prop)(rt:VK)(bk ct:St->Hp->Prop)(σ:St)(H:Hp):IL K ta tv f {(nx),rt,bk,ct} σ H=tv σ H (J6 K f ta σ nx):=rfl
def L5(K:Frag)(f:Ç)(ta:TE)(σ:St)(nx:St->Hp->Prop)(y:V)(H:Hp):J6 K f ta σ nx y H=ta σ H (Uo K f y σ nx):=rfl
def Rv(C:Z)(f g:Ç):Sp:=λ vs H Q E=>∃ e x y,vs=[.ref e,x,y]/\H e=U (exH e C L)/\∀ dx H',H dx=L->dx≠e->(∀ b o,b≠e->H b=U o->H' b=U o)->H' e=U (exH e C (U dx))->H' dx=U (.xd [(g,y),(f,x)])->Q .non H'
theorem QI(C:Z)(f g:Ç){Q:VK}{E:XK}(h:Rv C f g vs H Q E):vs.length=3:=by
 let(_,_,_,rfl,_):=h;rfl
theorem QR{f g:Ç}{E:XK}{x:V}(h:∀ dx H',Ext H H'->H' dx=U (.xd [(g,y),(f,x)])->E (.ref C) (U dx) H'):kRI C (Rv C f g) E [x,y] H:=by
 refine{(show 2<=Å by decide),λ e he=>{e,x,y,J,aj,λ dx H' h1 h2 h3 h4 h5=>{J,U dx,h4,λ _ z=>by cases z;exact{_,by rw[eQ h2];exact h5},h dx _ (nY.ext λ b o q=>?_) (by rw[eQ h2];exact h5)}}};let hb:b≠e:=ba q he;rw[eQ hb];exact h3 b o hb (by rw[ag hb];exact q)
abbrev df(h:Í)(T:Z)(a b c:O):Prop:=h.get? T=U { cls:=.type "tuple",data:=.seq #[a,b,c] }
section
theorem cQ{a b c x:O}{Q:Unit->À->Prop}(hT:df s.heap T a b c)
  (h:∀ h',h'.get? T=U { cls:=.type "tuple",data:=.seq ((#[a,b,c]:Array O).setIfInBounds k x) }->Heap.SameBut T s.heap h'->Q () { s with heap:=h' }) :
  Ä (É prog w) A (updateSeq T (·.setIfInBounds k x)) Q E s:=by
 refine Xp hT J (h _ ?_ (WE ..));rw[VZ _ hT J];simp[Obj.mapSeq]
structure oU(z TI TO i j l:Z)(f g e:G Z):Prop where
 ti:TI≠z/\TI≠TO/\TI≠i/\TI≠j/\TI≠l
 zt:z≠TO
 zf:z ∉ f
 zg:z ∉ g
 ze:z ∉ e
 tf:TO ∉ f
 tg:TO ∉ g
 te:TO ∉ e
 ig:i ∉ g
 ie:i ∉ e
 jf:j ∉ f
 je:j ∉ e
 lf:l ∉ f
 lg:l ∉ g
variable {z TI TO i j:Z}{f g e:G Z}{ti tj tl:à->Í->Prop}{vi vj vl:à->Ü O}{m:à}{x y a b c:O}
theorem Cv(S:Src prog w i f ti vi)(T:Src prog w j g tj vj)(zz:Src prog w l e tl vl)(D:oU z TI TO i j l f g e){Q:O->À->Prop}
  (hz:IsZip s.heap z TI TO .none) (a6:df s.heap TI (.ref i) (.ref j) (.ref l)) (a7:df s.heap TO a b c) (hi:ti k s.heap) (hj:tj m s.heap) (hl:tl n s.heap) (hx:vi k=U x) (hy:vj m=U y) (hu:vl n=U u)
  (hQ:∀ h',IsZip h' z TI TO (rawInt %[s|99])->df h' TO x y u->ti (k+1) h'->tj (m+1) h'->tl (n+1) h'->df h' %[s|99] x y u->h'.objs.size=%[s|99]+1->(∀ c o,c ∉ [z,TO,i,j,l]->s.heap.get? c=U o->h'.get? c=U o)->Q (.ref %[s|99]) { s with heap:=h' }) :
  Ä (É prog w) A (Builtin.«zip.__next__» ⟨[.ref z],[]⟩) (λ fin s'=>∃ v,fin=.done (.ret v)/\Q v s') E s:=by
 let iz:i≠z:=bj S.mem D.zf;let jz:j≠z:=bj T.mem D.zg;let lz:l≠z:=bj zz.mem D.ze;let a8:i≠TO:=bj S.mem D.tf;let a9:j≠TO:=bj T.mem D.tg;let bt:l≠TO:=bj zz.mem D.te;refine wpAny_bind (m:=field (.ref z) 2) (wpAny_field hz J (x:=.bool Á) J ?_);refine wpAny_bind (m:=field (.ref z) 3) (wpAny_field hz J (x:=.ref TI) J (wpAny_bind (wpAny_seqItems a6 J ?_)));refine wpAny_bind (m:=Builtin.SmallTypes.ownedTupleIsFree (.ref z)) ?_;unfold Builtin.SmallTypes.ownedTupleIsFree;refine wpAny_bind (wpAny_field hz J (x:=.none) J (wpAny_pure ?_));simp only[if_true];refine wpAny_bind (wpAny_rule (wpAny_bind (wpAny_field hz J (x:=.ref TO) J (wpAny_bind (wpAny_setField_rec hz (by simp) λ q1 z1 s1=>?_)))));replace z1:IsZip q1 z TI TO .ellipsis:=z1;refine wpAny_bind ?_;simp only[List.zipIdx_cons,List.zipIdx_nil,forIn_cons,forIn_nil];refine wpAny_bind (wpAny_bind (wpAny_onRaise (wpAny_bind (m:=Builtin.SmallTypes.nextOf (.ref i)) (S.item _ k _ x _ _ (S.but hi s1.extBut D.zf) hx λ q2 i2 s2=>wpAny_pure ?_))));let o2:df q2 TO a b c:=s2.extBut _ _ a8.symm (s1.extBut _ _ D.zt.symm a7);refine wpAny_bind (wpAny_seqItems o2 J (wpAny_bind (cQ o2 λ q3 o3 s3=>wpAny_bind (wpAny_letGo (wpAny_pure ?_)))));replace o3:df q3 TO x b c:=o3;let j3:tj m q3:=T.but (T.but (T.but hj s1.extBut D.zg) s2.extBut D.ig) s3.extBut D.tg;refine wpAny_bind (wpAny_bind (wpAny_onRaise (wpAny_bind (m:=Builtin.SmallTypes.nextOf (.ref j)) (T.item _ m _ y _ _ j3 hy λ q4 j4 s4=>wpAny_pure ?_))));let o4:df q4 TO x b c:=s4.extBut _ _ a9.symm o3;refine wpAny_bind (wpAny_seqItems o4 J (wpAny_bind (cQ o4 λ q5 o5 s5=>wpAny_bind (wpAny_letGo (wpAny_pure ?_)))));replace o5:df q5 TO x y c:=o5;let l5:tl n q5:=zz.but (zz.but (zz.but (zz.but (zz.but hl s1.extBut D.ze) s2.extBut D.ie) s3.extBut D.te) s4.extBut D.je) s5.extBut D.te;refine wpAny_bind (wpAny_bind (wpAny_onRaise (wpAny_bind (m:=Builtin.SmallTypes.nextOf (.ref l)) (zz.item _ n _ u _ _ l5 hu λ q6 l6 s6=>wpAny_pure ?_))));let o6:df q6 TO x y c:=s6.extBut _ _ bt.symm o5;refine wpAny_bind (wpAny_seqItems o6 J (wpAny_bind (cQ o6 λ q7 o7 s7=>wpAny_bind (wpAny_letGo (wpAny_pure (wpAny_pure ?_))))));replace o7:df q7 TO x y u:=o7;refine wpAny_bind (wpAny_seqItems o7 J (wpAny_bind (wpAny_newTuple ?_)));let sz:q7.objs.size=%[s|99]:=by rw[s7.1,s6.1,s5.1,s4.1,s3.1,s2.1,s1.1]
 let z7:IsZip q7 z TI TO .ellipsis:=s7.extBut _ _ D.zt (s6.extBut _ _ lz.symm (s5.extBut _ _ D.zt (s4.extBut _ _ jz.symm (s3.extBut _ _ D.zt (s2.extBut _ _ iz.symm z1)))))
 let k7:∀ c o,c ∉ [z,TO,i,j,l]->s.heap.get? c=U o->q7.get? c=U o:=λ c o hc e=>by
  simp only[VU,VM,V6,X8] at hc;exact s7.extBut _ _ hc.2.1 (s6.extBut _ _ hc.2.2.2.2 (s5.extBut _ _ hc.2.1 (s4.extBut _ _ hc.2.2.2.1 (s3.extBut _ _ hc.2.1 (s2.extBut _ _ hc.2.2.1 (s1.extBut _ _ hc.1 e))))))
 let i7:ti (k+1) q7:=S.but (S.but (S.but (S.but (S.but i2 s3.extBut D.tf) s4.extBut D.jf) s5.extBut D.tf) s6.extBut D.lf) s7.extBut D.tf;let j7:tj (m+1) q7:=T.but (T.but (T.but j4 s5.extBut D.tg) s6.extBut D.lg) s7.extBut D.tg;let l7:tl (n+1) q7:=zz.but l6 s7.extBut D.te;let a3:z<q7.objs.size:=Heap.lt_size z7;refine wpAny_bind (m:=Builtin.SmallTypes.ownedTupleHandOut (.ref z) (.ref q7.objs.size)) ?_;unfold Builtin.SmallTypes.ownedTupleHandOut;let z8:IsZip (q7.push { cls:=.type "tuple",data:=.seq #[x,y,u] }) z TI TO .ellipsis:=Heap.get?_push_of_some _ z7;refine wpAny_bind (wpAny_setField_rec z8 (by simp) λ q9 z9 s9=>?_);replace z9:IsZip q9 z TI TO (rawInt q7.objs.size):=z9;refine wpAny_setField_rec z9 (by simp) λ af aS aX=>?_;replace aS:IsZip af z TI TO (rawInt q7.objs.size):=aS;let up:∀ c o,c≠z->q7.get? c=U o->af.get? c=U o:=λ c o hc e=>aX.extBut _ _ hc (s9.extBut _ _ hc (Heap.get?_push_of_some _ e));let a4:df af q7.objs.size x y u:=aX.extBut _ _ (Nat.ne_of_gt a3) (s9.extBut _ _ (Nat.ne_of_gt a3) (Heap.get?_push_size _ J));let a5:af.objs.size=q7.objs.size+1:=by rw[aX.1,s9.1,Heap.size_push]
 rw[sz] at aS a4 a5;refine VC {_,J,?_}
 show Q (.ref q7.objs.size) _
 rw[sz];exact hQ af aS (up _ _ D.zt.symm o7) (S.keep _ _ _ i7 λ c hc o e=>up c o (bj hc D.zf) e) (T.keep _ _ _ j7 λ c hc o e=>up c o (bj hc D.zg) e) (zz.keep _ _ _ l7 λ c hc o e=>up c o (bj hc D.ze) e) a4 a5 λ c o hc e=>up c o (λ q=>hc (by simp[q])) (k7 c o hc e)
theorem FF(hh:A.handled=L)(S:Src prog w i f ti vi)(T:Src prog w j g tj vj)(zz:Src prog w l e tl vl)(D:oU z TI TO i j l f g e){Q:Fin->À->Prop}
  (hz:IsZip s.heap z TI TO .none) (aS:df s.heap TI (.ref i) (.ref j) (.ref l)) (aX:df s.heap TO a b c) (hi:ti k s.heap) (hj:tj m s.heap) (hl:tl n s.heap) (a3:vi k=L\/vj m=L\/vl n=L)
  (hE:∀ h' e,(∀ c o,c ∉ [z,TO,i,j,l]->s.heap.get? c=U o->h'.get? c=U o)->(∃ o,h'.get? e=U o/\o.cls=.type "StopIteration")->E (.ref e) { s with heap:=h' }) :
  Ä (É prog w) A (Builtin.«zip.__next__» ⟨[.ref z],[]⟩) Q E s:=by
 let iz:i≠z:=bj S.mem D.zf;let jz:j≠z:=bj T.mem D.zg;let lz:l≠z:=bj zz.mem D.ze;let a4:i≠TO:=bj S.mem D.tf;let a5:j≠TO:=bj T.mem D.tg;refine wpAny_bind (m:=field (.ref z) 2) (wpAny_field hz J (x:=.bool Á) J ?_);refine wpAny_bind (m:=field (.ref z) 3) (wpAny_field hz J (x:=.ref TI) J (wpAny_bind (wpAny_seqItems aS J ?_)));refine wpAny_bind (m:=Builtin.SmallTypes.ownedTupleIsFree (.ref z)) ?_;unfold Builtin.SmallTypes.ownedTupleIsFree;refine wpAny_bind (wpAny_field hz J (x:=.none) J (wpAny_pure ?_));simp only[if_true];refine wpAny_bind (wpAny_rule (wpAny_bind (wpAny_field hz J (x:=.ref TO) J (wpAny_bind (wpAny_setField_rec hz (by simp) λ q1 z1 s1=>?_)))));replace z1:IsZip q1 z TI TO .ellipsis:=z1;refine wpAny_bind ?_;simp only[List.zipIdx_cons,List.zipIdx_nil,forIn_cons,forIn_nil];refine wpAny_bind (wpAny_bind (wpAny_onRaise (wpAny_bind (m:=Builtin.SmallTypes.nextOf (.ref i)) ?_)))
 cases hx:vi k with
 | none=>
  refine S.fin _ k _ _ _ (.no hh) (S.but hi s1.extBut D.zf) hx λ q2 e s2 ⟨oe,he,af⟩=>?_;let z2:IsZip q2 z TI TO .ellipsis:=s2 _ _ iz.symm z1;let ez:e≠z:=λ q=>by subst q;rw[z2] at he;cases he;simp at af
  refine Wm z2 (by simp) λ q3 _ s3=>hE q3 e (λ c o hc q=>?_) {oe,s3.extBut _ _ ez he,af};simp only[VU,VM,V6,X8] at hc;exact s3.extBut _ _ hc.1 (s2 _ _ hc.2.2.1 (s1.extBut _ _ hc.1 q))
 | some x=>
  refine S.item _ k _ x _ _ (S.but hi s1.extBut D.zf) hx λ q2 i2 s2=>VC ?_;let o2:df q2 TO a b c:=s2.extBut _ _ a4.symm (s1.extBut _ _ D.zt.symm aX);refine My (V2 o2 J (My (cQ o2 λ q3 o3 s3=>My (Xe (VC ?_)))));replace o3:df q3 TO x b c:=o3;let j3:tj m q3:=T.but (T.but (T.but hj s1.extBut D.zg) s2.extBut D.ig) s3.extBut D.tg;refine My (My (Xh (My (m:=Builtin.SmallTypes.nextOf (.ref j)) ?_)))
  cases hy:vj m with
  | none=>
   refine T.fin _ m _ _ _ (.no hh) j3 hy λ q4 e s4 ⟨oe,he,af⟩=>?_;let z4:IsZip q4 z TI TO .ellipsis:=s4 _ _ jz.symm (s3.extBut _ _ D.zt (s2.extBut _ _ iz.symm z1));let ez:e≠z:=λ q=>by subst q;rw[z4] at he;cases he;simp at af
   refine Wm z4 (by simp) λ q5 _ s5=>hE q5 e (λ c o hc q=>?_) {oe,s5.extBut _ _ ez he,af};simp only[VU,VM,V6,X8] at hc;exact s5.extBut _ _ hc.1 (s4 _ _ hc.2.2.2.1 (s3.extBut _ _ hc.2.1 (s2.extBut _ _ hc.2.2.1 (s1.extBut _ _ hc.1 q))))
  | some y=>
   let hu:vl n=L:=by
    rcases a3 with h|h|h
    ·rw[hx] at h;cases h
    ·rw[hy] at h;cases h
    ·exact h
   refine T.item _ m _ y _ _ j3 hy λ q4 j4 s4=>VC ?_;let o4:df q4 TO x b c:=s4.extBut _ _ a5.symm o3;refine My (V2 o4 J (My (cQ o4 λ q5 o5 s5=>My (Xe (VC ?_)))));let l5:tl n q5:=zz.but (zz.but (zz.but (zz.but (zz.but hl s1.extBut D.ze) s2.extBut D.ie) s3.extBut D.te) s4.extBut D.je) s5.extBut D.te;refine My (My (Xh (My (m:=Builtin.SmallTypes.nextOf (.ref l)) (zz.fin _ n _ _ _ (.no hh) l5 hu λ q6 e s6 ⟨oe,he,af⟩=>?_))));let z6:IsZip q6 z TI TO .ellipsis:=s6 _ _ lz.symm (s5.extBut _ _ D.zt (s4.extBut _ _ jz.symm (s3.extBut _ _ D.zt (s2.extBut _ _ iz.symm z1))));let ez:e≠z:=λ q=>by subst q;rw[z6] at he;cases he;simp at af
   refine Wm z6 (by simp) λ q7 _ s7=>hE q7 e (λ c o hc q=>?_) {oe,s7.extBut _ _ ez he,af};simp only[VU,VM,V6,X8] at hc;exact s7.extBut _ _ hc.1 (s6 _ _ hc.2.2.2.2 (s5.extBut _ _ hc.2.1 (s4.extBut _ _ hc.2.2.2.1 (s3.extBut _ _ hc.2.1 (s2.extBut _ _ hc.2.2.1 (s1.extBut _ _ hc.1 q))))))
theorem oq(S:Src prog w i f ti vi)(T:Src prog w j g tj vj)(zz:Src prog w l e tl vl)(D:oU z TI TO i j l f g e){Q:Ü O->À->Prop}
  (hz:IsZip s.heap z TI TO .none) (af:df s.heap TI (.ref i) (.ref j) (.ref l)) (aS:df s.heap TO a b c) (hi:ti k s.heap) (hj:tj m s.heap) (hl:tl n s.heap) (hx:vi k=U x) (hy:vj m=U y) (hu:vl n=U u)
  (hQ:∀ h',IsZip h' z TI TO (rawInt %[s|99])->df h' TO x y u->ti (k+1) h'->tj (m+1) h'->tl (n+1) h'->df h' %[s|99] x y u->h'.objs.size=%[s|99]+1->(∀ c o,c ∉ [z,TO,i,j,l]->s.heap.get? c=U o->h'.get? c=U o)->Q (U (.ref %[s|99])) { s with heap:=h' }) :
  Ä (É prog w) A (pyNext (.ref z)) Q E s:=by
 let ty:s.TypeIs (.ref z) "zip":={_,hz,J};unfold pyNext;exact wpAny_bind (wpAny_attempt (wpAny_callSpecial?_slot (name:=Õ "__next__") ty F.slot_zip_next (wpAny_call_entry F.slot_zip_next ty F.entry_zip_next (Cv S T zz D hz af aS hi hj hl hx hy hu λ h' c1 c2 c3 c4 c5 c6 c7 c8=>wpAny_pure (hQ h' c1 c2 c3 c4 c5 c6 c7 c8)) (F.args_zip_next_1 _))))
theorem qV(hh:A.handled=L)(S:Src prog w i f ti vi)(T:Src prog w j g tj vj)(zz:Src prog w l e tl vl)(D:oU z TI TO i j l f g e){Q:Ü O->À->Prop}
  (hz:IsZip s.heap z TI TO .none) (af:df s.heap TI (.ref i) (.ref j) (.ref l)) (aS:df s.heap TO a b c) (hi:ti k s.heap) (hj:tj m s.heap) (hl:tl n s.heap) (aX:vi k=L\/vj m=L\/vl n=L)
  (hQ:∀ h',(∀ c o,c ∉ [z,TO,i,j,l]->s.heap.get? c=U o->h'.get? c=U o)->Q L { s with heap:=h' }):Ä (É prog w) A (pyNext (.ref z)) Q E s:=by
 let ty:s.TypeIs (.ref z) "zip":={_,hz,J};unfold pyNext;refine wpAny_bind (wpAny_attempt (wpAny_callSpecial?_slot (name:=Õ "__next__") ty F.slot_zip_next (wpAny_call_entry F.slot_zip_next ty F.entry_zip_next (FF (show A.in1.handled=L from hh) S T zz D hz af aS hi hj hl aX λ h' e kp he=>?_) (F.args_zip_next_1 _))));let(o,ho,hc):=he;exact wpAny_bind (wpAny_isInstance (T := "StopIteration") (b:=Y) {(o),ho,hc} isSubtype_stop (wpAny_pure (hQ _ kp)))
end
theorem ou(a b c:O):checkTypeCall "zip" ⟨[a,b,c],[]⟩=pure ():=by kernel_rfl
theorem rq(a b c:O):checkBuiltinCall "zip.__new__" ⟨[.type "zip",a,b,c],[]⟩=pure ():=by kernel_rfl
theorem jS(a b c d:O):argsOk "object.__init__" ⟨[a,b,c,d],[]⟩:=by
 unfold argsOk;rw[signature?_of (id := "object.__init__") (n:=['_','_','t','i','n','i','_','_']) (o:=['t','c','e','j','b','o']) (by kernel_rfl) F.owner_object];kernel_rfl
abbrev yq1(a:Z)(h:Í):Í:=h.push (n9 Á a)
abbrev yq2(a b:Z)(h:Í):Í:=(yq1 a h).push (n9 Á b)
abbrev Nx(a b c:Z)(h:Í):Í:=(yq2 a b h).push (n9 Á c)
abbrev yq3(a b c:Z)(h:Í):Í:=(Nx a b c h).push { cls:=.type "tuple",data:=.seq #[.ref h.objs.size,.ref (yq1 a h).objs.size,.ref (yq2 a b h).objs.size] }
abbrev yq4(a b c:Z)(h:Í):Í:=(yq3 a b c h).push { cls:=.type "tuple",data:=.seq #[.none,.none,.none] }
abbrev yq5(a b c:Z)(h:Í):Í:=(yq4 a b c h).push { cls:=.type "zip",data:=.fields #[.none,.bool Á,.bool Á,.ref (Nx a b c h).objs.size,.ref (yq3 a b c h).objs.size] }
theorem yr(a b c:Z)(xs ys us:Array O):Meets (Builtin.«zip.__new__» ⟨[.type "zip",.ref a,.ref b,.ref c],[]⟩) (λ _ R s=>SeqAt s.heap Á a xs/\SeqAt s.heap Á b ys/\SeqAt s.heap Á c us/\R (.ok (.ret (.ref (yq4 a b c s.heap).objs.size))) { s with heap:=yq5 a b c s.heap }):=
 .of_wp λ prog w A R s h=>by
  let(hp,g,d,tk,os):=s;let(h1,h2,h3,h):=h;let af:=sub_zip;let q1:SeqAt (Shared.heap {(hp),g,d,tk,os}) Á a xs:=h1;let q2:SeqAt (Shared.heap {hp.push (n9 Á a),g,d,tk,os}) Á b ys:=h2.at λ o e=>Vz _ e;let q3:SeqAt (Shared.heap {(hp.push (n9 Á a)).push (n9 Á b),g,d,tk,os}) Á c us:=h3.at λ o e=>Vz _ (Vz _ e)
  wp_walk using mi q1,mi q2,mi q3
  exact{_,J,h}
theorem Ni{a:Z}{xs ys us:Array O}{Q:O->À->Prop}(h1:SeqAt s.heap Á a xs)(h2:SeqAt s.heap Á b ys)(h3:SeqAt s.heap Á c us)
  (h:∀ h' n,n=%[s|99]->IsZip h' (n+5) (n+3) (n+4) .none->df h' (n+3) (.ref n) (.ref (n+1)) (.ref (n+2))->df h' (n+4) .none .none .none->bo h' Á n a 0->bo h' Á (n+1) b 0->bo h' Á (n+2) c 0->h'.objs.size=n+6->(∀ c o,s.heap.get? c=U o->h'.get? c=U o)->Q (.ref (n+5)) { s with heap:=h' }) :
  Ä (É prog w) A (call (.type "zip") [.ref a,.ref b,.ref c]) Q E s:=by
 refine callType_new F.called_zip (by decide) (ou _ _ _) (rq _ _ _) (λ ob=>jS ob _ _ _) F.entry_zip_new (yr a b c xs ys us) {h1,h2,h3,?_};let n1:(yq1 a s.heap).objs.size=%[s|99]+1:=V9 ..;let n2:(yq2 a b s.heap).objs.size=%[s|99]+2:=by rw[V9,n1]
 let n3:(Nx a b c s.heap).objs.size=%[s|99]+3:=by rw[V9,n2]
 let n4:(yq3 a b c s.heap).objs.size=%[s|99]+4:=by rw[V9,n3]
 let n5:(yq4 a b c s.heap).objs.size=%[s|99]+5:=by rw[V9,n4]
 let n6:(yq5 a b c s.heap).objs.size=%[s|99]+6:=by rw[V9,n5]
 let f1:bo (yq1 a s.heap) Á %[s|99] a 0:={_,VG _ J,J,J};let f2:bo (yq2 a b s.heap) Á (yq1 a s.heap).objs.size b 0:={_,VG _ J,J,J};let f3:bo (Nx a b c s.heap) Á (yq2 a b s.heap).objs.size c 0:={_,VG _ J,J,J};let u2:∀ d o,(Nx a b c s.heap).get? d=U o->(yq5 a b c s.heap).get? d=U o:=λ d o e=>Vz _ (Vz _ (Vz _ e));let g5:(yq5 a b c s.heap).get? (yq4 a b c s.heap).objs.size=U _:=VG _ J;let g4:(yq5 a b c s.heap).get? (yq3 a b c s.heap).objs.size=U _:=Vz _ (VG _ J);let g3:(yq5 a b c s.heap).get? (Nx a b c s.heap).objs.size=U _:=Vz _ (Vz _ (VG _ J));let e1:bo (yq5 a b c s.heap) Á %[s|99] a 0:=f1.at λ o e=>u2 _ o (Vz _ (Vz _ e));let e2:bo (yq5 a b c s.heap) Á (yq1 a s.heap).objs.size b 0:=f2.at λ o e=>u2 _ o (Vz _ e);let e3:bo (yq5 a b c s.heap) Á (yq2 a b s.heap).objs.size c 0:=f3.at λ o e=>u2 _ o e
 show _/\_
 rw[n3,n4,n5] at g5;rw[n1,n2,n3] at g3;rw[n4] at g4;rw[n1] at e2;rw[n2] at e3;rw[n5];exact{⟨_,g5,J⟩,h _ _ J g5 g3 g4 e1 e2 e3 n6 λ d o e=>u2 d o (Vz _ (Vz _ (Vz _ e)))}
def It3(a b c:Z)(xs ys us:G V):It:=
 ⟨λ i H=>SqK Á H a xs/\SqK Á H b ys/\SqK Á H c us/\i<xs.length/\i<ys.length/\i<us.length,λ i H x H'=>∃ p u v t,H p=L/\x=.ref p/\xs[i]? = U u/\ys[i]? = U v/\us[i]? = U t/\H'=upd H p (.tup [u,v,t]),λ i H=>SqK Á H a xs/\SqK Á H b ys/\SqK Á H c us/\(xs.length<=i\/ys.length<=i\/us.length<=i)⟩
def Tn3(a b c z TI TO p q r:Z)(i:à)(h:Í):Prop:=IsZip h z TI TO .none/\df h TI (.ref p) (.ref q) (.ref r)/\(∃ u v t,df h TO u v t)/\bo h Á p a i/\bo h Á q b i/\bo h Á r c i
theorem CB{x1}(a b c z TI TO p q r:Z)(xs ys us:G V)(nd:[z,TI,TO,p,q,r].Nodup)(hA:A.handled=L):E4 P w K A (.Tuple elts x1 tp) (It3 a b c xs ys us) [z,TI,TO,p,q,r] z (Tn3 a b c z TI TO p q r) where
 mem:=VP
 obj:=λ i h st d hd=>by
  let(e1,e2,(u,v,t,e3),e4,e5,e6):=st;simp only[VU,VM,V6] at hd
  rcases hd with rfl|rfl|rfl|rfl|rfl|rfl
  ·exact{_,e1,λ v z=>by cases z}
  ·exact{_,e2,λ v z=>by cases z}
  ·exact{_,e3,λ v z=>by cases z}
  ·let(o,fs,e,d):=e4.obj;exact{o,e,λ v z=>by rw[d] at z;cases z}
  ·let(o,fs,e,d):=e5.obj;exact{o,e,λ v z=>by rw[d] at z;cases z}
  ·let(o,fs,e,d):=e6.obj;exact{o,e,λ v z=>by rw[d] at z;cases z}
 keep:=λ i h h' st k=>by
  let(e1,e2,(u,v,t,e3),e4,e5,e6):=st;exact{k z (by simp) _ e1,k TI (by simp) _ e2,{u,v,t,k TO (by simp) _ e3},e4.at λ o e=>k p (by simp) o e,e5.at λ o e=>k q (by simp) o e,e6.at λ o e=>k r (by simp) o e}
 item:=by
  intro X hP hw hK hc i pins s σ H E I hf st hg;subst hP hw hK;let(e1,e2,(u0,v0,t0,e3),e4,e5,e6):=st;let(ha,hb,a3,l1,l2,l3):=hg;let(as,ra,sa):=I.sq ha;let(bs,rb,sb):=I.sq hb;let(cs,rc,sc):=I.sq a3;let hx:xs[i]? = U xs[i]:=VA l1;let hy:ys[i]? = U ys[i]:=VA l2;let ht:us[i]? = U us[i]:=VA l3;let(u,hu,ru):=ra.get hx;let(v,hv,rv):=rb.get hy;let(y,a4,ry):=rc.get ht;let free:∀ d∈[z,TI,TO,p,q,r],H d=L:=λ d h=>(hf d h).1;let af:∀ d∈[z,TI,TO,p,q,r],a≠d:=λ d h=>ha.ne (free d h);let aS:∀ d∈[z,TI,TO,p,q,r],b≠d:=λ d h=>hb.ne (free d h);let aX:∀ d∈[z,TI,TO,p,q,r],c≠d:=λ d h=>a3.ne (free d h);simp only[Xa,VU,VM,V6,X8,Xy,and_true,Yc] at nd;let((z1,z2,z3,z4,z5),(t1,t2,t3,t4),(w1,w2,w3),(y1,y2),y3):=nd;let S:=eM (prog:=X.prog) (w:=X.w) Á p a (af p (by simp)) as.toArray;let T:=eM (prog:=X.prog) (w:=X.w) Á q b (aS q (by simp)) bs.toArray;let zz:=eM (prog:=X.prog) (w:=X.w) Á r c (aX r (by simp)) cs.toArray;let D:oU z TI TO p q r [p,a] [q,b] [r,c]:={⟨VL z1,t1,t2,t3,t4⟩,z2,by simp[z3,VL (af z (by simp))],by simp[z4,VL (aS z (by simp))],by simp[z5,VL (aX z (by simp))],by simp[w1,VL (af TO (by simp))],by simp[w2,VL (aS TO (by simp))],by simp[w3,VL (aX TO (by simp))],by simp[y1,VL (aS p (by simp))],by simp[y2,VL (aX p (by simp))],by simp[VL y1,VL (af q (by simp))],by simp[y3,VL (aX q (by simp))],by simp[VL y2,VL (af r (by simp))],by simp[VL y3,VL (aS r (by simp))]};refine oq S T zz D e1 e2 e3 {(e4),sa} ⟨e5,sb⟩ ⟨e6,sc⟩ (x:=u) (y:=v) (u:=y) (by simpa using hu) (by simpa using hv) (by simpa using a4) λ h1 c1 c2 c3 c4 a5 c5 c6 c7=>?_;refine{_,J,wpAny_letOwnedTupleGo_zip (s:={ s with heap:=h1 }) c1 λ h2 d1 d2=>?_};let lt:z<%[s|99]:=VE e1;let kp:∀ d o,d ∉ [z,TO,p,q,r]->s.heap.get? d=U o->h2.get? d=U o:=λ d o hd e=>d2.extBut _ _ (λ q=>hd (by simp[q])) (c7 d o hd e);let hn:h2.get? %[s|99]=U { cls:=.type "tuple",data:=.seq #[u,v,y] }:=d2.extBut _ _ (Wn lt) c5;let I2:Inv X pins σ (upd H %[s|99] (.tup [xs[i],ys[i],us[i]])) { s with heap:=h2 }:=I.turnNew (t':=s.toks) (ch:=[z,TO,p,q,r]) (λ d hd=>hf d (by simp only[VU,VM,V6] at hd ⊢;rcases hd with h|h|h|h|h<;>simp[h])) kp (VF _) {(show 3<=Å by decide),[u,v,y],.cons ru (.cons rv (.cons ry .nil)),{_,hn,J,_,J}};let fr:H %[s|99]=L:=I.hok.fresh (VF _);refine{.ref %[s|99],_,I2,J,{_,_,_,_,fr,J,hx,hy,ht,J},{d1,d2.extBut _ _ (VL z1) (c7 TI _ (by simp[VL z1,t1,t2,t3,t4]) e2),{u,v,y,d2.extBut _ _ (VL z2) c2},c3.1.at λ o e=>d2.extBut _ _ (VL z3) e,c4.1.at λ o e=>d2.extBut _ _ (VL z4) e,a5.1.at λ o e=>d2.extBut _ _ (VL z5) e},λ d hd=>?_}
  obtain⟨o,ho,_⟩:∃ o,s.heap.get? d=U o/\True:=by
   simp only[VU,VM,V6] at hd
   rcases hd with rfl|rfl|rfl|rfl|rfl|rfl
   ·exact{_,e1,trivial}
   ·exact{_,e2,trivial}
   ·exact{_,e3,trivial}
   ·let(o,_,e,_):=e4.obj;exact{(o),e,trivial}
   ·let(o,_,e,_):=e5.obj;exact{(o),e,trivial}
   ·let(o,_,e,_):=e6.obj;exact{(o),e,trivial}
  rw[ag (VQ (VE ho))];exact free d hd
 done:=by
  intro X hP hw hK hc i pins s σ H E I hf st hg;subst hP hw hK;let(e1,e2,(u0,v0,t0,e3),e4,e5,e6):=st;let(ha,hb,a3,l):=hg;let(as,ra,sa):=I.sq ha;let(bs,rb,sb):=I.sq hb;let(cs,rc,sc):=I.sq a3;let free:∀ d∈[z,TI,TO,p,q,r],H d=L:=λ d h=>(hf d h).1;let af:∀ d∈[z,TI,TO,p,q,r],a≠d:=λ d h=>ha.ne (free d h);let aS:∀ d∈[z,TI,TO,p,q,r],b≠d:=λ d h=>hb.ne (free d h);let aX:∀ d∈[z,TI,TO,p,q,r],c≠d:=λ d h=>a3.ne (free d h);simp only[Xa,VU,VM,V6,X8,Xy,and_true,Yc] at nd;let((z1,z2,z3,z4,z5),(t1,t2,t3,t4),(w1,w2,w3),(y1,y2),y3):=nd;let S:=eM (prog:=X.prog) (w:=X.w) Á p a (af p (by simp)) as.toArray;let T:=eM (prog:=X.prog) (w:=X.w) Á q b (aS q (by simp)) bs.toArray;let zz:=eM (prog:=X.prog) (w:=X.w) Á r c (aX r (by simp)) cs.toArray;let D:oU z TI TO p q r [p,a] [q,b] [r,c]:={⟨VL z1,t1,t2,t3,t4⟩,z2,by simp[z3,VL (af z (by simp))],by simp[z4,VL (aS z (by simp))],by simp[z5,VL (aX z (by simp))],by simp[w1,VL (af TO (by simp))],by simp[w2,VL (aS TO (by simp))],by simp[w3,VL (aX TO (by simp))],by simp[y1,VL (aS p (by simp))],by simp[y2,VL (aX p (by simp))],by simp[VL y1,VL (af q (by simp))],by simp[y3,VL (aX q (by simp))],by simp[VL y2,VL (af r (by simp))],by simp[VL y3,VL (aS r (by simp))]};let la:=ra.length;let lb:=rb.length;let lc:=rc.length;refine qV (show X.A.handled=L by rw[hc];exact hA) S T zz D e1 e2 e3 ⟨e4,sa⟩ ⟨e5,sb⟩ ⟨e6,sc⟩ (l.imp (λ h=>by simp;omega) (Or.imp (λ h=>by simp;omega) λ h=>by simp;omega)) λ h1 kp=>{J,I.turnL (t':=s.toks) (ch:=[z,TO,p,q,r]) (λ d hd=>hf d (by simp only[VU,VM,V6] at hd ⊢;rcases hd with h|h|h|h|h<;>simp[h])) kp}
 self:=λ _ _ _ _ _ st h=>Yo st.1 h
def kY2(a b c:Z)(xs ys:G V)(H:Hp)(R:It->Hp->Prop):G V->Prop:=λ us=>R (It3 a b c xs ys us) H
def S4(a b c:Z)(xs ys us:G V)(H:Hp)(R:It->Hp->Prop):kY2 a b c xs ys H R us=R (It3 a b c xs ys us) H:=rfl
def kY1(a b c:Z)(xs:G V)(H:Hp)(R:It->Hp->Prop):G V->Prop:=λ ys=>aJ (aF H c) (kY2 a b c xs ys H R)
def S5(a b c:Z)(xs ys:G V)(H:Hp)(R:It->Hp->Prop):kY1 a b c xs H R ys=aJ (aF H c) (kY2 a b c xs ys H R):=rfl
def kY(a b c:Z)(H:Hp)(R:It->Hp->Prop):G V->Prop:=λ xs=>aJ (aF H b) (kY1 a b c xs H R)
def U8(a b c:Z)(xs:G V)(H:Hp)(R:It->Hp->Prop):kY a b c H R xs=aJ (aF H b) (kY1 a b c xs H R):=rfl
def kY0(R:It->Hp->Prop):G V->Hp->Prop:=λ vs H=>match vs with
 | [.ref a,.ref b,.ref c]=>aJ (aF H a) (kY a b c H R)
 | _=>False
def S6(R:It->Hp->Prop)(a b c:Z)(H:Hp):kY0 R [.ref a,.ref b,.ref c] H=aJ (aF H a) (kY a b c H R):=rfl
def OA(ta:TA):TI:=λ σ H R=>ta σ H (kY0 R)
def Mw(ta:TA)(σ:St)(H:Hp)(R:It->Hp->Prop):OA ta σ H R=ta σ H (kY0 R):=rfl
theorem KU{a b c:Ò}{x1}{tp:Pos}{ta:TA}{p pos:Pos}(hg:Gl X "zip")(hm:X.mg "zip"=L)(ha:PA X [a,b,c] ta)(hs:starEach [a,b,c] X.env=[(Á,eval a X.env),(Á,eval b X.env),(Á,eval c X.env)]:=by rfl)(af:starEach [b,c] X.env=[(Á,eval b X.env),(Á,eval c X.env)]:=by rfl)(hq:X.calm=Y:=by rfl) :
  PI X (.Tuple elts x1 tp) (.Call (.Name "zip" p) [a,b,c] [] pos) (OA ta):=by
 intro pins s σ H R I h;refine Call_ (eP I hg hm (show bootBuiltins "zip"=U (.type "zip") by decide +kernel) (PyProof.Rows.callWith_type1 (thn (ha pos pins s σ H _ I h) λ us s1 ⟨vs,H1,I1,r1,q1⟩=>?_) (by rw[hs,af]) (by rw[af];rfl)));unfold kY0 at q1;split at q1
 ·rename_i a b c;let(xs,e1,q1):=aq q1;let(ys,e2,q1):=aq q1;let(zs,e3,q):=aq q1;let sa:SqK Á H1 a xs:=bO e1;let sb:SqK Á H1 b ys:=bO e2;let sc:SqK Á H1 c zs:=bO e3
  cases r1 with
  | cons r rr=>
   cases rr with
   | cons r' rr=>
    cases rr with
    | cons r'' rr=>
     cases rr;cases r;cases r';cases r'';let(as,ra,aS):=I1.sq sa;let(bs,rb,aX):=I1.sq sb;let(cs,rc,a3):=I1.sq sc;refine Ni aS aX a3 λ h' n hn e1 e2 e3 e4 e5 a4 e6 e7=>?_;let I2:Inv X pins σ H1 { s1 with heap:=h' }:=I1.kept (t':=s1.toks) e7;refine Yo (s:={ s1 with heap:=h' }) e1 {n+5,[n+5,n+3,n+4,n,n+1,n+2],_,_,H1,J,I2,CB a b c (n+5) (n+3) (n+4) n (n+1) (n+2) xs ys zs (by simp) (I1.ok.hd hq),{e1,e2,{_,_,_,e3},e4,e5,a4},λ d hd=>?_,q}
     let hle:%[s1|99]<=d:=by
      rw[←hn];simp only[VU,VM,V6] at hd
      rcases hd with rfl|rfl|rfl|rfl|rfl|rfl
      ·exact Wv ..
      ·exact Wv ..
      ·exact Wv ..
      ·exact VF _
      ·exact Wv ..
      ·exact Wv ..
     exact I1.fpOk hle (I1.hok.fresh hle)
 ·exact q1.elim
theorem HZ{a:Z}{us:G V}(Pv:à->St->Hp->Prop)(h0:Pv 0 σ H)(hl:∀ i σ H,Pv i σ H->H a=U (.lst xs)/\H b=U (.lst ys)/\H c=U (.lst us))
  (hs:∀ i u v t p σ H H',xs[i]? = U u->ys[i]? = U v->us[i]? = U t->Pv i σ H->H p=L->Ext H H'->H' p=U (.tup [u,v,t])->g (.ref p) σ H' (uG tb {Pv (i+1),rt,nx,Pv (i+1)})) (hd:∀ σ H,Pv (min xs.length (min ys.length us.length)) σ H->nx σ H):JC g tb {(nx),rt,bk,ct} σ (It3 a b c xs ys us) H:=by
 refine{λ i m σ H=>m=min xs.length (min ys.length us.length) - i/\i<=min xs.length (min ys.length us.length)/\Pv i σ H,{min xs.length (min ys.length us.length),by simp,Wz _,h0},?_};rintro i m σ H ⟨rfl,hi,p⟩;let(qa,qb,qc):=hl i σ H p
 by_cases hlt:i<min xs.length (min ys.length us.length)
 ·refine .inr {⟨qa,qb,qc,by omega,by omega,by omega⟩,Pv (i+1),λ σ' H' p'=>{min xs.length (min ys.length us.length) - (i+1),by omega,J,hlt,p'},λ x H' y=>?_};let(r,u,v,t,hr,rfl,hu,hv,ht,rfl):=y;exact hs i u v t r σ H _ hu hv ht p hr (Ext.new hr) aj
 ·let e:i=min xs.length (min ys.length us.length):=by omega
  subst e;exact .inl {⟨qa,qb,qc,by omega⟩,hd σ H p}
def U3(neg:Ý):R2:=λ x y H Q=>∃ d ds,jm H 6 x=U d/\jm H 6 y=U (.list ds)/\Q (.bl (if neg=Y then !(ds.any λ y=>PyData.eqv y d) else ds.any λ y=>PyData.eqv y d)) H
theorem Hb{ds:G PyData}(h:(PyData.list ds).canLay0=Y):PyData.canLayAll0 ds=Y:=by simpa [PyData.canLay0] using h
theorem CO(hu:X.A.units+64<cLine):OpR X (compareOp .NotIn) (U3 Y):=by
 intro pins s σ H x y v u Q I rx ry h;let(d,ds,e1,e2,q):=h;let(a,b,c):=mm (K:=X.K) 6 x d e1;let(a',b',c'):=mm (K:=X.K) 6 y _ e2;let(as,z):=a.reads I rx;let(bs,z'):=a'.reads I ry;exact SeqAt.notIn_list_reads z' z (Hb b') b (by have:=Nat.min_le_right (PyData.depthAll ds) d.depth;omega) {.bl _,H,I,J,q}
def JA(X:Cx)(f:O)(ks:G Ç)(r:G V->G V->Hp->VK->Prop):Prop:=∀ pins s σ H vs us zs ws Q,Inv X pins σ H s->bf vs us->bf zs ws->r vs zs H Q->Ä (É X.prog X.w) X.A (call f us (ks.zip ws)) (EP X pins σ Q) X.xe s
def R9(r:G V->G V->Hp->VK->Prop)(Q:VK)(vs:G V):G V->Hp->Prop:=λ zs H=>r vs zs H Q
def Qz(r:G V->G V->Hp->VK->Prop)(Q:VK)(vs zs:G V)(H:Hp):R9 r Q vs zs H=r vs zs H Q:=rfl
def Sa(r:G V->G V->Hp->VK->Prop)(tk:TA)(σ:St)(Q:VK):G V->Hp->Prop:=λ vs H=>tk σ H (R9 r Q vs)
def QA(r:G V->G V->Hp->VK->Prop)(tk:TA)(σ:St)(Q:VK)(vs:G V)(H:Hp):Sa r tk σ Q vs H=tk σ H (R9 r Q vs):=rfl
def T4(r:G V->G V->Hp->VK->Prop)(t tk:TA):TE:=λ σ H Q=>t σ H (Sa r tk σ Q)
def Pz(r:G V->G V->Hp->VK->Prop)(t tk:TA)(σ:St)(H:Hp)(Q:VK):T4 r t tk σ H Q=t σ H (Sa r tk σ Q):=rfl
theorem sJ{X:Cx}{id:String}{x:Ç}{p pos:Pos}{e:Ò}{es:G Ò}{kws:G Keyword}{ks:G Ç}{r:G V->G V->Hp->VK->Prop}{t tk:TA}(hc:JA X (.builtin id) ks r)(hg:Gl X x)(hm:X.mg x=L)(hv:bootBuiltins x=U (.builtin id))(ha:PA X (e::es) t)(hk:PK X kws tk)(hn:x ≠ "__name__":=by decide)(af:(x == ("__debug__":Ç))=Á:=by decide)
  (aS:(backToKw pos (keywordEach kws X.env)).filterMap (·.1)=ks:=by rfl)
  (h1:backTo pos (starEach (e::es) X.env)=(Á,eval e X.env)::backTo pos (starEach es X.env):=by rfl)
  (h2:(backTo pos (starEach (e::es) X.env)).any (·.1)=Á:=by rfl)
  (h3:(backToKw pos (keywordEach kws X.env)).all (·.1.isSome)=Y:=by rfl)
  (h4:(backToKw pos (keywordEach kws X.env)).any (·.1.isNone)=Á:=by rfl):PE X (.Call (.Name x p) (e::es) kws pos) (T4 r t tk):=by
 intro pins s σ H Q I h;refine W3 (eP I hg hm hv ?_ hn af);refine callWith_kw (thn (ha pos pins s σ H _ I h) λ us s1 ⟨vs,H1,I1,r1,q1⟩=>thn (hk pos pins s1 σ H1 _ I1 q1) λ ws s2 ⟨zs,H2,I2,r2,q2⟩=>?_) h1 h2 h3 h4;rw[aS];exact hc pins s2 σ H2 vs us zs ws Q I2 r1 r2 q2
theorem zI{id:String}{b:Builtin}{xs:G O}{kv:G (Ç × O)}{Q:O->À->Prop}(hk:builtinKind id=L)(hp:plainId id=Y)
  (hb:entryFor table id=U b) (ha:argsOk id {(xs),kv})
  (hc:Ä (É prog w) A.in1 (b {(xs),kv}) (λ fin z=>match fin with
   | .done f=>(match (Except.ok f:Result) with | .ok (.ret v)=>Q v z | .ok _=>False | .error e=>E e z)
   | .again c=>c.quiet=Y/\codeAny (É prog w) A c (λ r z=>match r with | .ok (.ret v)=>Q v z | .ok _=>False | .error e=>E e z) z) E s) :
  Ä (É prog w) A (call (.builtin id) xs kv) Q E s:=by
 refine X7 (XR (args:={(xs),kv}) hp hb ?_);simp only[checkBuiltinCall,hk]
 cases hs:Manifest.signature? id with
 | none=>exact VC hc
 | some sg=>
  simp only[argsOk,hs] at ha;let h2:Bind.checkArgs id sg {(xs),kv}=pure ():=ha;simp only[h2];exact VC hc
def nmM:Ý->String|true => "max" | false => "min"
def nmL:Ý->String|true => "max.loop" | false => "min.loop"
def opM:Ý->CmpOp|true=>.Gt|false=>.Lt
def ltM:Ý->B->B->Ý|true=>λ a b=>decide (a > b)|false=>λ a b=>decide (a<b)
theorem plM(mx:Ý):plainId (nmL mx)=Y:=by cases mx;exact F.plain_min_loop;exact F.plain_max_loop
section
variable {R:Result->À->Prop}{ww:Z}{wr:G Z}{xz:Array GenState->Array GenState->Prop}{P:à->O->Prop}{St:à->À->Prop}
theorem Pd(mx:Ý)(kv:G (Ç × O))(W:WalksS prog w A.in1 ww fp wr xz n P St)(bt:à->à->Ý)(a4:CmpOf prog w A.in1 (opM mx) P bt)(D:Z)(hD:D ∉ fp) :
  ∀ (k j:à) (s:À) (b:O) (c:à),n - (j+1)=k->j+1<=n->St (j+1) s->P (argBest bt j) b->s.heap.get? D=U { cls:=.type "list",dict:=L,data:=.seq #[b,b] c,slots:=#[] } →
  (∀ v z,P (argBest bt (n - 1)) v->Moved (D::wr) xz s z->R (.ok (.ret v)) z)->codeAny (É prog w) A (.builtin (nmL mx) {[.ref ww,.none,.ref D],kv}) R s:=by
 let a5:D ∉ wr:=λ h=>hD (W.sub _ h);let sub:∀ a∈wr,a∈D::wr:=λ a ha=>VI _ ha;let nm:(toString "min" ++ toString ".loop":String) = "min.loop":=by decide
 let a6:(toString "max" ++ toString ".loop":String) = "max.loop":=by decide
 let nD:∀ {a:Z},a ∉ D::wr->D≠a:=λ ha h=>ha (by rw[h];exact VP);let pq:=plM mx
 cases mx <;>
 (
  intro k
  induction k with
  | zero=>
   intro j s b c hk hj st hb hg hR;let a7:j+1=n:=by omega
   refine(Ye (by first|exact F.entry_min_loop|exact F.entry_max_loop) ?_);rw[(XS pq _)]
   show Ä _ A.in1 ((seqItems? (.ref D)) >>= _) _ _ s
   refine My (V2 hg J ?_)
   show Ä _ A.in1 ((tryCatch (pyNext (.ref ww)) _) >>= _) _ _ s
   refine My (YH (W.done s _ _ (a7 ▸ st) λ z mv=>?_));let af:=mv.heap D _ a5 hg
   show Ä _ A.in1 ((updateSeq D (λ _=>#[])) >>= _) _ _ _
   refine My ?_;refine(Xp af J (My (Xe (VC ?_))));exact hR b _ (by rw[←a7];exact hb) ((mv.mono sub).then_heap (tk:=z.toks) (VF _) λ a o ha e=>(V4 _ _ (nD ha)).trans e)
  | succ k ih=>
   intro j s b c hk hj st hb hg hR;let aS:j+1<n:=by omega
   refine(Ye (by first|exact F.entry_min_loop|exact F.entry_max_loop) ?_);rw[(XS pq _)]
   show Ä _ A.in1 ((seqItems? (.ref D)) >>= _) _ _ s
   refine My (V2 hg J ?_)
   show Ä _ A.in1 ((tryCatch (pyNext (.ref ww)) _) >>= _) _ _ s
   refine My (YH (W.item (j+1) s _ _ aS st λ v z hP a8 mv=>?_));let af:=mv.heap D _ a5 hg
   show Ä _ A.in1 ((tryCatch (holding [v,v] (richCompare _ v b >>= _)) _) >>= _) _ _ _
   refine My (YH (Wh (My (a4 (j+1) (argBest bt j) v b _ _ _ hP hb ?_))));refine(My (Wh (Xq ?_)));refine(My (Xe (VC ?_)))
   cases hbt:bt (j+1) (argBest bt j) with
   | true=>
    simp only[YA];refine My ?_;refine(Xp af J (My (Xe ?_)))
    first|rw[nm]|rw[a6]
    refine VC {Ys pq _,ih (j+1) _ v _ (by omega) aS (W.frame _ z _ z.toks a8 (VF _) λ a ha o e=>?_) (by simp only[argBest,hbt,YA];exact hP) (VZ _ af J) λ v' z' aX a3=>?_}
    ·exact(V4 _ _ (λ h:D=a=>hD (by rw[h];exact ha))).trans e
    ·exact hR v' z' aX (Moved.trans W.gtrans ((mv.mono sub).then_heap (by first|exact VF _|exact XM _|omega) λ a o ha e=>(V4 _ _ (nD ha)).trans e) a3)
   | false=>
    simp only[WQ,XU];refine(My (Xe ?_))
    first|rw[nm]|rw[a6]
    refine VC {Ys pq _,ih (j+1) _ b c (by omega) aS a8 (by simp only[argBest,hbt,WQ,XU];exact hb) af λ v' z' aX a3=>?_};exact hR v' z' aX (Moved.trans W.gtrans (mv.mono sub) a3)
 )
theorem Lk(mx:Ý)(d:O)(W:WalksS prog w A.in1 ww fp wr xz n P St)(bt:à->à->Ý)(af:CmpOf prog w A.in1 (opM mx) P bt)(D:Z)(hD:D ∉ fp){c:à}(st:St 0 s)
  (hg:s.heap.get? D=U { cls:=.type "list",dict:=L,data:=.seq #[] c,slots:=#[] })
  (h0:n=0->∀ z,Moved (D::wr) xz s z->R (.ok (.ret d)) z) (hR:0<n->∀ v z,P (argBest bt (n - 1)) v->Moved (D::wr) xz s z->R (.ok (.ret v)) z):codeAny (É prog w) A (.builtin (nmL mx) {[.ref ww,.none,.ref D],[("default",d)]}) R s:=by
 let aX:D ∉ wr:=λ h=>hD (W.sub _ h);let sub:∀ a∈wr,a∈D::wr:=λ a ha=>VI _ ha;let nm:(toString "min" ++ toString ".loop":String) = "min.loop":=by decide
 let a3:(toString "max" ++ toString ".loop":String) = "max.loop":=by decide
 let nD:∀ {a:Z},a ∉ D::wr->D≠a:=λ ha h=>ha (by rw[h];exact VP);let pq:=plM mx
 cases mx <;>
 (
  refine(Ye (by first|exact F.entry_min_loop|exact F.entry_max_loop) ?_);rw[(XS pq _)]
  show Ä _ A.in1 ((seqItems? (.ref D)) >>= _) _ _ s
  refine My (V2 hg J ?_)
  show Ä _ A.in1 ((tryCatch (pyNext (.ref ww)) _) >>= _) _ _ s
  by_cases hn:n=0
  ·refine My (YH (W.done s _ _ (by rw[hn];exact st) λ z mv=>?_));refine My (Xr (VC ?_));exact h0 hn z (mv.mono sub)
  ·refine My (YH (W.item 0 s _ _ (by omega) st λ v z hP a4 mv=>?_));let aS:=mv.heap D _ aX hg
   show Ä _ A.in1 ((updateSeq D (λ _=>#[v,v])) >>= _) _ _ _
   refine My ?_;refine(Xp aS J ?_)
   first|rw[nm]|rw[a3]
   refine VC {Ys pq _,Pd _ _ W bt af D hD _ 0 _ v _ J (by omega) (W.frame _ z _ z.toks a4 (VF _) λ a ha o e=>?_) hP (VZ _ aS J) λ v' z' a5 a6=>?_}
   ·exact(V4 _ _ (λ h:D=a=>hD (by rw[h];exact ha))).trans e
   ·exact hR (by omega) v' z' a5 (Moved.trans W.gtrans ((mv.mono sub).then_heap (by first|exact VF _|exact XM _|omega) λ a o ha e=>(V4 _ _ (nD ha)).trans e) a6)
 )
end
theorem Il(mx:Ý){x d:O}{Q:O->À->Prop}
  (h:Ä (É prog w) A.in1 (pyIter x) (λ it z=>∃ ww fp wr xz n P St bt,it=.ref ww/\WalksS prog w A.in1 ww fp wr xz n P St/\St 0 z/\(∀ b∈fp,b<%[z|99])/\CmpOf prog w A.in1 (opM mx) P bt /\
   (n=0->∀ z',Moved wr xz z z'->Q d z')/\(0<n->∀ v z',P (argBest bt (n - 1)) v->Moved wr xz z z'->Q v z')) E s) :
  Ä (É prog w) A (call (.builtin (nmM mx)) [x] [("default",d)]) Q E s:=by
 let nm:(toString "min" ++ toString ".loop":String) = "min.loop":=by decide
 let aS:(toString "max" ++ toString ".loop":String) = "max.loop":=by decide
 refine zI (by cases mx;exact F.kind_min;exact F.kind_max) (by cases mx;exact F.plain_min;exact F.plain_max) (b:=bif mx then Builtin.«max» else Builtin.«min») (by cases mx;exact F.entry_min;exact F.entry_max) (by cases mx<;>(unfold argsOk;kernel_rfl)) ?_;let pq:=plM mx
 cases mx <;>
 (
  show Ä _ A.in1 (Builtin.Builtins.bindParams _ ["key", "default"] 0 {[],[("default",d)]} >>= _) _ _ s
  refine My (wpAny_of_eq (show Builtin.Builtins.bindParams _ ["key", "default"] 0 {[],[("default",d)]}=pure [L,U d] from J) ?_);refine My (VC ?_);refine My (thn h λ it z hz=>?_);let(ww,fp,wr,xz,n,P,St,bt,rfl,W,st,aX,af,h0,hQ):=hz;refine My (Yi ?_);let hD:%[z|99] ∉ fp:=λ hm=>WA _ (aX _ hm)
  first|rw[nm]|rw[aS]
  refine VC {Ys pq _,Lk _ d W bt af %[z|99] hD (W.frame 0 z _ z.toks st (VF _) λ b _ o e=>Vz _ e) (VG _ J) (λ hn z' mv=>?_) λ hn v z' hP mv=>?_}
  ·exact h0 hn z' (Moved.drop_new (tk:=z.toks) mv (VF _))
  ·exact hQ hn v z' hP (Moved.drop_new (tk:=z.toks) mv (VF _))
 )
def kMM(d:B)(H:Hp)(Q:VK):G B->Prop:=λ ns=>∀ M,(ns=[]/\M=d)\/M∈ns->Q (.int M) H
def qMM:G V->G V->Hp->VK->Prop:=λ vs zs H Q=>match vs,zs with
 | [.ref p],[.int d]=>aJ (aF H p) (jn (kMM d H Q))
 | _,_=>False
def SU(p:Z)(d:B)(H:Hp)(Q:VK):qMM [.ref p] [.int d] H Q=aJ (aF H p) (jn (kMM d H Q)):=rfl
theorem pI(bt:à->à->Ý):∀ n,argBest bt n<=n
 | 0=>VF _
 | n+1=>by
  have:=pI bt n;unfold argBest
  split<;>omega
theorem xN(mx:Ý)(hc:X.calm=Y):JA X (.builtin (nmM mx)) ["default"] qMM:=by
 intro pins s σ H vs us zs ws Q I r rz h;unfold qMM at h;split at h
 ·rename_i p d;let(xs,e,ns,rfl,q):=aq h
  cases rz with
  | cons rd rz'=>
  cases rz'
  cases r with
  | cons r rr=>
   cases rr;cases r;let(its,rv,pl,hz):=I.list (SqL.of (bO e));let aS:p<%[s|99]:=by let(_,e,_):=pl.isList;exact VE e
   let hlen:its.length=ns.length:=by have:=rv.length;simpa using this.symm
   let hsz:its.toArray.size=ns.length:=by simp[hlen]
   let hP:∀ (i:à) (v:O),its.toArray[i]? = U v->∃ t,v=.int (ns.getD i 0) t:=λ i v hP=>by
    let hv:its[i]? = U v:=by simpa using hP
    let hi:i<ns.length:=by rw[←hlen];exact(VB.mp hv).1
    let(u,hu,ru):=rv.get (i:=i) (x:=.int (ns.getD i 0)) (by rw[VS,VA hi];simp[List.getD,VA hi]);rw[hv] at hu;cases hu;exact ru
   refine Il mx (Yh pl.isList {%[s|99],_,_,_,_,_,_,λ i j=>ltM mx (ns.getD i 0) (ns.getD j 0),J,(Walks.list (show X.A.in1.handled=L from I.ok.hd hc) _ p (VQ aS) its.toArray).toS,{⟨_,VG _ J,J,J⟩,pl.isList.push _},λ b hb=>?_,(by cases mx;exact CmpOf.ints_lt _ hP;exact CmpOf.ints_gt _ hP),λ hn s' hm=>?_,λ hn v s' hv hm=>?_})
   ·rw[V9]
    rcases VU.mp hb with rfl|hb
    ·exact Xs _
    ·rw[VO.mp hb];exact Zc aS
   ·let(hp,g,d',tk,os):=s'
    let kp:∀ b o,s.heap.get? b=U o->hp.get? b=U o:=λ b o e=>hm.heap b o (λ af=>by
     have:b=%[s|99]:=by simpa using af
     subst this;exact Þ (VE e) (WA _)) (Vz _ e)
    let e1:g=s.gens:=hm.gens;let e2:d'=s.drawn:=hm.drawn;let e3:os=s.os:=hm.os;subst e1 e2 e3;exact{.int d,H,I.kept (t':=tk) kp,rd,q _ (.inl {WH (by rw[←hsz];exact hn),J})}
   ·let(hp,g,d',tk,os):=s'
    let kp:∀ b o,s.heap.get? b=U o->hp.get? b=U o:=λ b o e=>hm.heap b o (λ af=>by
     have:b=%[s|99]:=by simpa using af
     subst this;exact Þ (VE e) (WA _)) (Vz _ e)
    let e1:g=s.gens:=hm.gens;let e2:d'=s.drawn:=hm.drawn;let e3:os=s.os:=hm.os;subst e1 e2 e3;let b1:=pI (λ i j=>ltM mx (ns.getD i 0) (ns.getD j 0)) (its.toArray.size - 1);rw[hsz] at hn;let aX:=hP _ v hv;generalize argBest (λ i j=>ltM mx (ns.getD i 0) (ns.getD j 0)) (its.toArray.size - 1)=k at b1 aX;rw[hsz] at b1;let hk:k<ns.length:=by omega
    refine{.int (ns.getD k 0),H,I.kept (t':=tk) kp,aX,q _ (.inr ?_)};rw[List.getD,VA hk];exact Xm hk
 ·exact h.elim
def Oo(kv:G (B × B))(c:B):Ü B:=(kv.find? λ p=>decide (p.1=c)).map λ p=>p.2
def Vw(ka kb:G (B × B)):Ý:=ka.length == kb.length && ka.all λ p=>Oo kb p.1 == U p.2
abbrev PKy:=G B × G B
def rM(prog:Ë)(w:Ï)(h:Í)(k:PKy)(a:Z):Prop:=∃ o u v n,h.get? a=U o/\o.cls=.type "tuple" /\ o.data=.seq #[.ref u,.ref v] n/\IsTupleKey (intKind prog w) h k.1 u/\IsTupleKey (intKind prog w) h k.2 v
theorem rM.inj{a:Z}{x y:PKy}(hx:rM prog w h x a)(hy:rM prog w h y a):x=y:=by
 let(o,u,v,n,h1,h2,h3,h4,h5):=hx;let(o',u',v',n',g1,g2,g3,g4,g5):=hy;rw[h1] at g1;cases g1;rw[h3] at g3;cases g3;exact Prod.ext (h4.inj g4) (h5.inj g5)
theorem rM.typeIs{a:Z}{k:PKy}(h:rM prog w s.heap k a):s.TypeIs (.ref a) "tuple":=by
 let(o,u,v,n,h1,h2,_):=h;exact{(o),h1,h2}
theorem rM.keeps{k:PKy}{a d:Z}{o:Obj}{es:Array DictEntry}{ep:à}(hk:rM prog w h k a)(hd:h.get? d=U o)(ho:o.data=.dict es ep)(hs:Heap.SameBut d h h'):rM prog w h' k a:=by
 let(o',u,v,n,h1,h2,h3,h4,h5):=hk;let af:a≠d:=λ e=>by rw[e,hd] at h1;cases h1;rw[ho] at h3;cases h3
 exact{o',u,v,n,(hs.2 a af).trans h1,h2,h3,h4.keeps hd ho hs,h5.keeps hd ho hs}
def wJ(prog:Ë)(w:Ï)(k:PKy):B:=reduceHash (Builtin.Tuple.tupleHashOf [tupleKeyHash (intKind prog w) k.1,tupleKeyHash (intKind prog w) k.2])
theorem KR{k:PKy}{a:Z}{Q:B->À->Prop}(hu:A.units+1<cLine)(hk:rM prog w s.heap k a)
  (q:Q (wJ prog w k) { s with toks:=s.toks+((k.1.length+1)+(k.2.length+1)+1) }):Ä (É prog w) A (pyHash (.ref a)) Q E s:=by
 let ty:=hk.typeIs;let(o,u,v,n,h1,h2,h3,h4,h5):=hk;unfold pyHash pyHashByItsType;refine wpAny_bind (wpAny_cRoomFor_or (.inr (by omega)) ?_);refine wpAny_bind (wpAny_specialOf ty PySem.F.slot_tuple_hash.lookup ?_);rw[if_neg (by rw[beq_iff_eq];intro z;cases z)];refine wpAny_bind (wpAny_specialOf ty PySem.F.slot_tuple_hash.lookup ?_);rw[if_neg (by decide)];refine wpAny_bind (wpAny_callSpecialIfBoundUnlessNone?_slot ty PySem.F.slot_tuple_hash (wpAny_call_entry PySem.F.slot_tuple_hash ty PySem.F.entry_tuple_hash ?_ (PySem.F.args_tuple_hash_1 _)));unfold Builtin.«tuple.__hash__»;refine wpAny_bind ?_
 show Ä _ _ (pure (Ê a,_)) _ _ _
 refine VC ?_;refine My (wpAny_tupleItemsOf h1 h3 ?_);refine My ?_;rw[←Array.forIn_toList]
 show Ä _ _ (forIn [Ê u,Ê v] #[] _) _ _ _
 simp only[forIn_cons,forIn_nil];refine wpAny_bind (wpAny_bind (wpAny_pyHash_tuple (show A.units+1<cLine from hu) h4 (wpAny_pure ?_)));refine wpAny_bind (wpAny_bind (wpAny_pyHash_tuple (show A.units+1<cLine from hu) h5 (wpAny_pure (wpAny_pure ?_))));unfold retInt;refine wpAny_ret_mkInt ?_
 show Ä _ _ (pyHashByItsType.reduced _) _ _ _
 let q':Q (wJ prog w k) { heap:=s.heap,gens:=s.gens,drawn:=s.drawn,toks:=s.toks+(k.1.length+1)+(k.2.length+1)+1,os:=s.os }:=by
  rw[Nat.add_assoc,Nat.add_assoc,←Nat.add_assoc (k.1.length+1)];exact q
 unfold wJ reduceHash at q';unfold pyHashByItsType.reduced;simp only[Array.toList_push,List.nil_append,List.cons_append];split
 ·rename_i hc;rw[V7 hc] at q';exact VC q'
 ·rename_i hc;rw[VY hc] at q';exact My (Xr (VC q'))
theorem HG{k:B}{v:O}(h:Value.isInt k v=Y):∃ t,v=.int k t:=by
 cases v<;>simp[Value.isInt] at h
 rename_i t;subst h;exact{_,J}
theorem pd:∀ {xs:G B}{vs:G O},ItemsAre (intKind prog w) xs vs->ReadsAll h vs (xs.map PyData.int) []
 | _,_,.nil=>.nil
 | _,_,.cons (k:=k) (v:=v) hk t=>by
  let(tk,rfl):=HG hk;exact .cons (.int _ _) (pd t)
theorem wZ{xs:G B}{a:Z}(hk:IsTupleKey (intKind prog w) h xs a):Reads h (.ref a) (.tuple (xs.map PyData.int)) []:=by
 let(o,its,n,h1,h2,h3,h4):=hk;exact .tuple h1 h2 h3 (pd h4)
def pkD(k:PKy):PyData:=.tuple [.tuple (k.1.map PyData.int),.tuple (k.2.map PyData.int)]
theorem rM.reads{k:PKy}{a:Z}(hk:rM prog w h k a):Reads h (.ref a) (pkD k) []:=by
 let(o,u,v,n,h1,h2,h3,h4,h5):=hk;exact .tuple h1 h2 h3 (.cons (wZ h4) (.cons (wZ h5) .nil))
theorem AU(k:PKy):(pkD k).canLay0=Y/\(pkD k).depth<=2:=by
 let key:∀ xs:G B,PyData.canLayAll0 (xs.map PyData.int)=Y/\PyData.depthAll (xs.map PyData.int)=0:=by
  intro xs
  induction xs with
  | nil=>exact{by simp[PyData.canLayAll0],by simp[PyData.depthAll]}
  | cons x xs ih=>exact{by simp[PyData.canLayAll0,PyData.canLay0,ih.1],by simp[PyData.depthAll,PyData.depth,ih.2]}
 exact{by simp[pkD,PyData.canLay0,PyData.canLayAll0,key],by simp[pkD,PyData.depth,PyData.depthAll,key]}
theorem KS(a b:PKy):PyData.eqv (pkD a) (pkD b)=decide (a=b):=by
 unfold pkD;rw[fN,dq,dq,fP,fN,eG,fN,eG,Bool.and_true];let(a1,a2):=a;let(b1,b2):=b
 by_cases h1:a1=b1
 ·by_cases h2:a2=b2
  ·simp[h1,h2]
  ·simp[h1,h2]
 ·simp[h1]
theorem So{x y:PKy}{a:Z}{Q:Ý->À->Prop}(hu:A.units+2<cLine)(hx:rM prog w s.heap x a)(hy:rM prog w s.heap y b)(q:Q (decide (x=y)) s):Ä (É prog w) A (eqBool (.ref a) (.ref b)) Q E s:=by
 let h1:=(AU x).2;have:=SeqAt.eqAt_reads (pkD x) (pkD y) A s _ _ _ _ hx.reads hy.reads (AU x).1 (AU y).1 (by have:=Nat.min_le_left (pkD x).depth (pkD y).depth;omega);rw[KS] at this;exact this _ _ _ _ q
theorem vw{vs:G O}{Q:Ü Ý × Unit->À->Prop}(h:∀ v∈vs,∀ Q':Ý->À->Prop,Q' Y s->Ä (É prog w) A (eqIsQuiet n v) Q' E s)(q:Q (L,()) s) :
  Ä (É prog w) A (forIn vs (L,()) λ y (_:Ü Ý × Unit)=>do
   let r ←eqIsQuiet n y
   if (!r)=Y then pure (ForInStep.done (U Á,())) else pure (ForInStep.yield (L,()))) Q E s:=by
 induction vs with
 | nil=>exact VC q
 | cons v vs ih=>
  rw[X4];refine My (My (h v VP _ ?_));rw[VY (by decide)];exact VC (ih λ v hv=>h v (VI _ hv))
theorem sE{a:Z}{o:Obj}{vs:G O}{m:à}{Q:Ý->À->Prop}(h1:s.heap.get? a=U o)(h2:o.cls=.type "tuple")(h3:o.data=.seq vs.toArray m)(h:∀ v∈vs,∀ Q':Ý->À->Prop,Q' Y s->Ä (É prog w) A (eqIsQuiet n v) Q' E s)(q:Q Y s):Ä (É prog w) A (eqIsQuiet (n+1) (.ref a)) Q E s:=by
 let ty:s.TypeIs (.ref a) "tuple":={(o),h1,h2};rw[eqIsQuiet.eq_def];refine My (XC ty PySem.F.slot_tuple_eq.lookup ?_);refine My (Xg ty isSubtype_tuple_tuple ?_);rw[VY (by decide)];refine My (V2 h1 h3 ?_);refine My ?_;rw[←Array.forIn_toList];exact vw h (VC q)
theorem Gh{k:PKy}{a:Z}{Q:Ý->À->Prop}(hk:rM prog w s.heap k a)(q:Q Y s):Ä (É prog w) A (eqIsQuiet 8 (.ref a)) Q E s:=by
 let(o,u,v,n,h1,h2,h3,h4,h5):=hk
 let one:∀ {xs:G B} {b:Z},IsTupleKey (intKind prog w) s.heap xs b->∀ Q':Ý->À->Prop,Q' Y s->Ä (É prog w) A (eqIsQuiet 7 (.ref b)) Q' E s:=by
  intro xs b hb Q' q';let(o,its,n,g1,g2,g3,g4):=hb;refine sE (vs:=its.toList) g1 g2 g3 (λ v hv aS af=>?_) q';rw[eqIsQuiet_byValue _ (g4.byValue v hv)];exact VC af
 refine sE (vs:=[.ref u,.ref v]) h1 h2 h3 (λ y hy Q' q'=>?_) q;simp only[VU,VM,V6] at hy
 rcases hy with rfl|rfl
 ·exact one h4 Q' q'
 ·exact one h5 Q' q'
def qF(prog:Ë)(w:Ï):HeapKind prog w PKy where
 is:=rM prog w
 hash:=wJ prog w
 draws k:=(k.1.length+1)+(k.2.length+1)+1
 room A:=A.units+2<cLine
 inj:=rM.inj
 keeps:=rM.keeps
 pyHash:=λ hr hk q=>KR (by omega) hk q
 eqBool:=λ hr hx hy q=>So hr hx hy q
 quiet:=λ hk q=>Gh hk q
def UX(P:Ë)(w:Ï)(a:Z)(xs:G (PKy × Z × O))(h:Í):Prop:=∃ o es ep,h.get? a=U o/\o.ExactDict/\o.data=.dict es ep/\es.toList=xs.map (entryOfKey (qF P w))/\(xs.map (·.1)).Nodup
def dPo(P:Ë)(w:Ï)(a:Z)(xs:G (PKy × Z × O)):HO:=.ext (UX P w a xs)
def PKV(H:Hp)(k:PKy)(b:Z):Prop:=∃ u v,H b=U (.tup [.ref u,.ref v])/\H u=U (.tup (k.1.map V.int))/\H v=U (.tup (k.2.map V.int))
def yj(P:Ë)(w:Ï)(H:Hp)(d:Z)(zn:G PKy):Prop:=∃ xs,H d=U (dPo P w d xs)/\(d == sysModules)=Á/\xs.length<=zn.length/\(∀ x∈xs,PKV H x.1 x.2.1)/\∀ k,(atKey xs k).isSome=decide (k∈zn)
theorem PKV.ext{k:PKy}(h:PKV H k b)(e:Ext H H'):PKV H' k b:=by
 let(u,v,h1,h2,h3):=h;exact{u,v,e.at h1,e.at h2,e.at h3}
theorem PKV.upd{k:PKy}{d:Z}{φ:Í->Prop}(h:PKV H k b)(hd:H d=U (.ext φ)):PKV (upd H d o) k b:=by
 let(u,v,h1,h2,h3):=h;exact{u,v,by rw[ag (λ z=>by rw[z,hd] at h1;cases h1)];exact h1,by rw[ag (λ z=>by rw[z,hd] at h2;cases h2)];exact h2,by rw[ag (λ z=>by rw[z,hd] at h3;cases h3)];exact h3}
theorem yj.ext{d:Z}{zn:G PKy}(h:yj P w H d zn)(e:Ext H H'):yj P w H' d zn:=by
 let(xs,h1,h2,h3,h4,h5):=h;exact{xs,e.at h1,h2,h3,λ x hx=>(h4 x hx).ext e,h5}
theorem xE:∀ {ks:G B}{us:G O},bf (ks.map V.int) us->ItemsAre (intKind P w) ks us
 | [],_,r=>by rw[YC] at r;cases r;exact .nil
 | k::ks,_,r=>by
  rw[Wr] at r
  cases r with
  | cons h t=>
   let(tk,e):=(show ∃ t,_=Value.int k t from h);subst e;exact .cons (intKind_is P w k tk) (xE t)
section
variable {a:Z}
theorem NU{ks:G B}(ok:HOk P w H h)(e:H a=U (.tup (ks.map V.int))):IsTupleKey (intKind P w) h ks a:=by
 let(_,its,r,o,h1,h2,n,h3):=(show bE P w H h a (.tup (ks.map V.int)) from ok a _ e);exact{o,its.toArray,n,h1,h2,h3,by simpa using xE r}
theorem Od{k:PKy}(ok:HOk P w H h)(e:PKV H k a):rM P w h k a:=by
 let(u,v,h1,h2,h3):=e;let(_,its,r,o,g1,g2,n,g3):=(show bE P w H h a (.tup [.ref u,.ref v]) from ok a _ h1)
 cases r with
 | cons r1 t1=>cases t1 with
  | cons r2 t2=>cases t2 with
   | nil=>
    cases (show _=Ê u from r1);cases (show _=Ê v from r2);exact{o,u,v,n,g1,g2,g3,NU ok h2,NU ok h3}
theorem Ts{xs:G (PKy × Z × O)}(ok:HOk P w H h)(e:H a=U (dPo P w a xs))(hk:∀ x∈xs,PKV H x.1 x.2.1):h.DictOfH (qF P w) a xs:=by
 let((o,es,ep,h1,h2,h3,h4,h5),_):=(show bE P w H h a (dPo P w a xs) from ok a _ e);exact{o,es,ep,h1,h2,h3,h4,λ x hx=>Od ok (hk x hx),h5}
end
section
variable {d:Z}{k:PKy}{zn:G PKy}
theorem vc{xs:G (PKy × Z × O)}{j:PKy}:(atKey xs j).isSome=Y ↔ ∃ x∈xs,x.1=j:=by
 unfold atKey;rw[Option.isSome_map,List.find?_isSome];simp
theorem oW{xs:G (PKy × Z × O)}{v:O}:∀ x∈storedH xs k b v,(∃ y∈xs,x.1=y.1/\x.2.1=y.2.1)\/(x.1=k/\x.2.1=b):=by
 intro x hx;unfold storedH at hx;split at hx
 ·let(y,hy,rfl):=List.mem_map.mp hx;refine .inl {y,hy,?_};unfold putAt
  split<;>exact{(J),J}
 ·rcases Wf.mp hx with h|h
  ·exact .inl {(x),h,J,J}
  ·rw[VO.mp h];exact .inr {(J),J}
theorem EY{xs:G (PKy × Z × O)}{v:O}(j:PKy):(atKey (storedH xs k b v) j).isSome=(decide (j=k) || (atKey xs j).isSome):=by
 apply WX.mpr;rw[Bool.or_eq_true,Yy,vc,vc];constructor
 ·rintro ⟨x,hx,rfl⟩
  rcases oW x hx with ⟨y,hy,e,_⟩|⟨e,_⟩
  ·exact .inr {(y),hy,e.symm}
  ·exact .inl e
 ·intro h;unfold storedH;split
  ·rename_i hk;rw[vc] at hk
   let h':∃ x∈xs,x.1=j:=by
    rcases h with rfl|h
    ·exact hk
    ·exact h
   let(x,hx,rfl):=h';refine{_,List.mem_map.mpr {(x),hx,J},?_};unfold putAt
   split<;>rfl
  ·rcases h with rfl|⟨x,hx,e⟩
   ·exact{_,Wt _ (VO.mpr J),J}
   ·exact{x,Xc _ hx,e}
theorem yw{xs:G (PKy × Z × O)}{v:O}:(storedH xs k b v).length<=xs.length+1:=by
 unfold storedH;split
 ·rw[VD];omega
 ·rw[VN];exact VF _
theorem Ss{r:O}{Q:Unit->À->Prop}(hu:A.units+64<cLine)(I:Inv X pins σ H s)(g:yj X.prog X.w H d zn)(hk:PKV H k b)(hz:zn.length<=Å)
  (h:∀ (o:HO) (s':À),yj X.prog X.w (upd H d o) d (k::zn)->Inv X pins σ (upd H d o) s'->Q () s'):Ä (É X.prog X.w) A (setItem (.ref d) (.ref b) r) Q E s:=by
 let(xs,h1,h2,h3,h4,h5):=g;refine wpAny_setItem_heap (knd:=qF X.prog X.w) (hsz:=by omega) (show A.units+1+2<cLine by omega) (Od I.hok hk) (Ts I.hok h1 h4) λ h' dd hs=>?_;let(q,es,ep,hq,g2,g3,g4,_,g5):=dd
 let af:∀ x∈storedH xs k b r,PKV (upd H d (dPo X.prog X.w d (storedH xs k b r))) x.1 x.2.1:=λ x hx=>by
  rcases oW x hx with ⟨y,hy,e1,e2⟩|⟨e1,e2⟩
  ·rw[e1,e2];exact(h4 y hy).upd h1
  ·rw[e1,e2];exact hk.upd h1
 refine h (dPo X.prog X.w d (storedH xs k b r)) _ {_,aj,h2,?_,af,λ j=>?_} (u7 I (by rw[h1];exact True.intro) hs {(q),hq} ?_)
 ·have:=yw (xs:=xs) (k:=k) (b:=b) (v:=r);rw[Wc];omega
 ·rw[EY,h5,←Bool.decide_or];exact decide_eq_decide.mpr VU.symm
 ·refine{⟨q,es,ep,hq,g2,g3,g4,g5⟩,{(q),hq},λ h1 h2 ⟨o,es,ep,a1,a2⟩ hk=>{o,es,ep,hk _ a1,a2}}
end
def Uh(P:Ë)(w:Ï)(H:Hp)(Q:VK):Prop:=∀ (p:Z) (H':Hp),H p=L->Ext H H'->yj P w H' p []->Q (.ref p) H'
def Jj(P:Ë)(w:Ï):TE:=λ _ H Q=>Uh P w H Q
def GK(P:Ë)(w:Ï)(σ:St)(H:Hp)(Q:VK):Jj P w σ H Q=Uh P w H Q:=rfl
def RS(P:Ë)(w:Ï)(nx:St->Hp->Prop)(σ:St)(x:V):VK:=λ y H=>∃ d b k zn,x=.ref d/\y=.ref b/\yj P w H d zn/\PKV H k b/\zn.length<=Å/\∀ o,yj P w (upd H d o) d (k::zn)->nx σ (upd H d o)
def RT(P:Ë)(w:Ï)(ty:TE)(nx:St->Hp->Prop)(σ:St):VK:=λ x H=>ty σ H (RS P w nx σ x)
def Qd(P:Ë)(w:Ï)(ty:TE)(nx:St->Hp->Prop)(σ:St)(x:V)(H:Hp):RT P w ty nx σ x H=ty σ H (RS P w nx σ x):=rfl
def RU(P:Ë)(w:Ï)(td ty:TE)(nx:St->Hp->Prop)(σ:St):VK:=λ _ H=>td σ H (RT P w ty nx σ)
def Qe(P:Ë)(w:Ï)(td ty:TE)(nx:St->Hp->Prop)(σ:St)(v:V)(H:Hp):RU P w td ty nx σ v H=td σ H (RT P w ty nx σ):=rfl
def N7(P:Ë)(w:Ï)(td ty tv:TE):TS:=λ D σ H=>tv σ H (RU P w td ty D.nx σ)
def LJ(P:Ë)(w:Ï)(td ty tv:TE)(nx:St->Hp->Prop)(rt:VK)(bk ct:St->Hp->Prop)(σ:St)(H:Hp):N7 P w td ty tv {(nx),rt,bk,ct} σ H=tv σ H (RU P w td ty nx σ):=rfl
def OI{d:Z}{k:PKy}{zn:G PKy}(e:yj P w H d zn)(hk:PKV H k b)(hz:zn.length<=Å)(q:∀ o,yj P w (upd H d o) d (k::zn)->nx σ (upd H d o)):RS P w nx σ (.ref d) (.ref b) H:={(d),b,k,zn,J,J,e,hk,hz,q}
theorem sH:PE X (.Dict [] [] pos) (Jj X.prog X.w):=λ pins s σ H Q I h=>by
 let hn:=I.hok.fresh (VF %[s|99]);refine wpAny_Dict_empty {.ref %[s|99],_,I.laid (a:=%[s|99]) (o:=dPo X.prog X.w %[s|99] []) (t':=s.toks) (λ _ _ q=>Vz _ q) (VF _) ?_,J,h _ _ hn (Ext.new hn) ?_}
 ·exact{⟨_,#[],0,VG _ J,{(J),J,J},J,J,Yc⟩,{_,VG _ J},λ h1 h2 ⟨o,es,ep,a1,a2⟩ hk=>{o,es,ep,hk _ a1,a2}}
 ·exact{[],aj,WK.mpr (VL (VQ I.big)),VF _,λ x hx=>by (cases hx),λ k=>by rw[Wl VM];rfl}
theorem KL{td ty tv:TE}{o i value:Ò}{pos':Pos}(hu:X.A.units+64<cLine)(ho:PE X o td)(hi:PE X i ty)(hv:PE X value tv)(hs:swapsWith value (U (.Subscript o i pos')) pos.line X.env=pure Á) :
  PS X (.Assign [.Subscript o i pos'] value pos) (N7 X.prog X.w td ty tv):=by
 intro pins s σ H D I h;refine wpAny_Assign_Subscript (thn (hv pins s σ H _ I h) λ r s1 ⟨v,H1,I1,rv,q1⟩=>thn (ho pins s1 σ H1 _ I1 q1) λ u s2 ⟨x,H2,I2,rx,q2⟩=>thn (hi pins s2 σ H2 _ I2 q2) λ iv s3 ⟨y,H3,I3,ry,d,b,k,zn,ex,ey,g,hk,hz,q3⟩=>?_) hs;subst ex ey;obtain rfl:u=Ê d:=rx;obtain rfl:iv=Ê b:=ry;exact Ss hu I3 g hk hz λ o s4 kn I4=>{σ,_,I4,q3 o kn}
section
variable {X:Cx}
def wQ(i:à)(tb:Z->TS)(tr:O->Ü Z->TS)(cls:O)(d:Ü Z)(D:iG)(σ:St)(H:Hp):Ý->Prop:=λ b=>if b=Y then ∀ (e:Z) (oe:Obj),H e=L->oe.cls=cls->oe.dict=d->As oe->dc i (.ref e) σ (upd H e (nW oe)) (J9 i (tb e) (D.del i)) else tr cls d D σ H
def GW(i:à)(tb:Z->TS)(tr:O->Ü Z->TS)(cls:O)(d:Ü Z)(D:iG)(σ:St)(H:Hp)(b:Ý):wQ i tb tr cls d D σ H b=(if b=Y then ∀ (e:Z) (oe:Obj),H e=L->oe.cls=cls->oe.dict=d->As oe->dc i (.ref e) σ (upd H e (nW oe)) (J9 i (tb e) (D.del i)) else tr cls d D σ H):=rfl
def IV(K:Æ)(C:O)(i:à)(tb:Z->TS)(tr:O->Ü Z->TS):O->Ü Z->TS:=λ cls d D σ H=>aJ (Ù K cls C) (wQ i tb tr cls d D σ H)
def GF(K:Æ)(C:O)(i:à)(tb:Z->TS)(tr:O->Ü Z->TS)(cls:O)(d:Ü Z)(D:iG)(σ:St)(H:Hp):IV K C i tb tr cls d D σ H=aJ (Ù K cls C) (wQ i tb tr cls d D σ H):=rfl
theorem AV{x n:Ç}{i:à}{np pos:Pos}{b₀:Stmt}{body:G Stmt}{dQ:G ExceptHandler}{C:O}{tb:Z->TS}{tr:O->Ü Z->TS}(hN:X.N.Nodup)(hi:X.N[i]? = U n)(hk:X.env.scope.names.lookup n=U .local)(hg:Gl X x)(hm:X.mg x=U C\/(X.mg x=L/\bootBuiltins x=U C/\x ≠ "__name__"))(hb:∀ e H1,PSs (X.mark e H1) (b₀::body) (tb e))(hr:PHs X dQ tr)
  (aS:(x == ("__debug__":Ç))=Á:=by decide):PHs X (.ExceptHandler (U (.Name x np)) (U n) (b₀::body) pos::dQ) (IV X.K C i tb tr):=by
 intro pins s σ H D e T cls d I N hn ex h;let(b,hx,h):=aq h;let(oe,vs,oT,ts,he,hc,hd,af,_,_,_,_,_,aX):=id ex;let Im:=(I.track N he hn).mark N.s0 N.fs (e:=e) (o:=oe) (u:=.ext λ _=>True) aj {(vs),af,aX}
 let ld:∀ {Q:O->À->Prop} {E:O->À->Prop},Q C s->Ä (É X.prog X.w) (X.A.mark (U (.ref e))) (eval (.Name x np) X.env) Q E s:=λ {Q E} q=>by
  rcases hm with z|⟨z1,z2,z3⟩
  ·exact gK (X:=X.mark e (upd X.H₀ e (nW oe))) Im hg z q aS
  ·exact eP (X:=X.mark e (upd X.H₀ e (nW oe))) Im hg z1 z2 q z3 aS
 refine PySem.wpAny_handleBy_cons (PySem.codeAny_handlers_test (ld ((W.exm_one I.kIn (QV ex) hx).here ?_))) (by intro q;cases q);unfold wQ at h
 cases b with
 | false=>
  rw[VY VJ] at h;exact hr pins s σ H D e T cls d I N hn ex h
 | true=>
  rw[V7 J] at h;refine PySem.codeAny_handlers_suite_as (Na ex λ h' kp=>?_);refine qi (X:=X.mark e (upd X.H₀ e (nW oe))) (Im.kept (t':=s.toks) kp) hN hi (.inl hk) (show b9 (.ref e) (.ref e) from J) (λ s1 I1=>?_) (.inr hk);let hh:tb e (D.del i) (σ.set i (U (.ref e))) (upd H e (nW oe)):=h e oe hn hc hd {(vs),af,aX}
  let a3:∀ o:HO,X.H₀ e=U o->(∀ xs,o ≠ .tup xs)/\(∀ ob u,o ≠ .frz ob u)/\∀ ps,o ≠ .tbl ps:=λ o h0=>
   ⟨λ xs z=>(by have:=I.base.tups e xs (h0.trans (W2 U z));rw[hn] at this;cases this),λ ob u z=>(by have:=I.base.frzs e ob u (h0.trans (W2 U z));rw[hn] at this;cases this),λ ps z=>(by let(_,this):=I.base.tbls e ps (h0.trans (W2 U z));rw[hn] at this;cases this)⟩
  refine Xx (hb e _ pins s1 _ _ (D.del i) I1 hh) (λ f s2 q=>?_) λ _ _ z=>z.elim
  show Ä _ X.A _ _ _ s2
  let q':=SP.unmark I.ok N.s0 a3 q
  cases f with
  | next=>let(σ',H',ww,q):=q';exact qd ww hi hk hN λ s3 J3=>{_,H',J3,q}
  | brk=>let(σ',H',ww,q):=q';exact qd ww hi hk hN λ s3 J3=>{_,H',J3,q}
  | cont=>let(σ',H',ww,q):=q';exact qd ww hi hk hN λ s3 J3=>{_,H',J3,q}
  | ret u=>let(v,σ',H',ww,r,q):=q';exact qd ww hi hk hN λ s3 J3=>{v,_,H',J3,r,q}
end
def Kg(to:TS)(D:iG):St->Hp->Prop:=λ σ H=>to D σ H
def NW(tb:(St->XK)->TS)(th:O->Ü Z->TS)(to:TS):TS:=λ D σ H=>tb (λ σ' cls d H'=>th cls d D σ' H') {Kg to D,D.rt,D.bk,D.ct} σ H
def Ly(tb:(St->XK)->TS)(th:O->Ü Z->TS)(to:TS)(D:iG)(σ:St)(H:Hp):NW tb th to D σ H=tb (RL th D) {Kg to D,D.rt,D.bk,D.ct} σ H:=rfl
theorem KI{body:G Stmt}{h₀:ExceptHandler}{hs:G ExceptHandler}{tb:(St->XK)->TS}{th:O->Ü Z->TS}{orelse:G Stmt}{to:TS}(af:X.stack=X.env::X.outer/\X.env.frame=U X.env.locals/\X.ex=[])
  (hb:∀ (EX:St->XK) (E:O->À->Prop) (pn:G (Z × Obj)),(∀ σ,Bd (CX1 X.prog X.w) (X.tried E pn) (EX σ) σ)->PSs (X.tried E pn) body (tb EX)) (hh:PHs X (h₀::hs) th) (ho:PSs X orelse to) :
  PS X (.Try body (h₀::hs) orelse [] pos) (NW tb th to):=by
 intro pins s σ H D I h;refine PySem.wpAny_Try_except ?_;let a3:∀ E pn,(X.tried E pn).Ok:=λ E pn=>{(I.ok.mod),I.ok.kind,I.ok.glob,I.ok.blt,I.ok.above,I.ok.inj,I.ok.has,I.ok.cab,I.ok.hd,I.ok.sf,I.ok.frames,I.ok.stk,I.ok.exf,I.ok.bs,I.ok.bsz,I.ok.noex,I.ok.exfs,I.ok.funs,I.ok.frf}
 let back:∀ {E:O->À->Prop} {aS:G (Z × Obj)} {σ':St} {H':Hp} {s':À},Inv (X.tried E (X.pn++pins)) aS σ' H' s'->Inv X pins σ' H' s':=λ {E aS σ' H' s'} ww=>
  ⟨I.ok,ww.os,ww.bare,ww.base,ww.loc,ww.cell,ww.free,ww.freeC,λ p hp=>ww.pin p (Xc _ hp),ww.hok,ww.len⟩
 let I0:∀ E,Inv (X.tried E (X.pn++pins)) [] σ H s:=λ E=>{a3 E _,I.os,I.bare,I.base,I.loc,I.cell,I.free,I.freeC,λ p hp=>I.pin p (by simpa using hp),I.hok,I.len};refine thn (hb (λ σ' cls d H'=>th cls d D σ' H') _ (X.pn++pins) ?_ [] s σ H ⟨Kg to D,D.rt,D.bk,D.ct⟩ (I0 _) h) λ f s1 q=>?_
 ·intro σ1 a4 H1 s1 ev s2 I1 hc;let(e,T,cls,dd,H',rfl,os,bare,aX,hok,ne,nT,He,HT,ex,a6,hE):=hc;let I2:=I1.call' (ch:=[]) os aX hok bare (λ b z=>Þ z (by simp))
  let nf:∀ b,s1.heap.get? b=L->b ∉ frs (X.env::X.outer):=λ b hb z=>by
   let st:=I1.stack;let a5:s1.heap.FunFrames X.base (X.env::X.outer):=by rw[←af.1];exact st
   let(_,o,q,_):=a5.mem z;rw[hb] at q;cases q
  let nb:X.base.get? T=L:=by
   cases q:X.base.get? T with
   | none=>rfl
   | some o=>
    have:=I1.bk T o q;rw[nT] at this;cases this
  let fl:s2.heap.FunFrames X.base (X.env::X.outer):=by rw[←af.1];exact I2.stack
  let fr:X.A.frames=U (X.env::X.outer):=by rw[←af.1];exact I.ok.frames
  refine mR (base:=X.base) (outer:=X.outer) fr fl af.2.1 ex (nf e ne) (nf T nT) nb λ g T' ng a7 ex'=>?_;let fs:∀ b∈frs (X.env::X.outer),b∈frs X.stack:=λ b hb=>by rw[af.1];exact hb
  let I3:=I1.call' (s':={ s2 with heap:=g }) (ch:=[]) os (aX.noted ng ne (λ b z=>by rw[z];exact nT) λ b hb=>.inl (fs b hb)) (hok.noted ng He (λ b z=>by rw[z];exact HT) λ b hb=>I2.stkFree b (fs b hb)) bare (λ b z=>Þ z (by simp));exact hh pins _ σ1 H' D e T' cls dd (back I3) (oi.of (back I1) af.2.2 ne) He ex' hE
 ·cases f with
  | next=>let(σ',H',ww,q):=q;exact ho pins s1 σ' H' D (back ww) q
  | brk=>let(σ',H',ww,q):=q;exact{σ',H',back ww,q}
  | cont=>let(σ',H',ww,q):=q;exact{σ',H',back ww,q}
  | ret u=>let(v,σ',H',ww,r,q):=q;exact{v,σ',H',back ww,r,q}
end L2
namespace PH
variable {ns vals z ms ws ps ls rs:G B}{H H':Hp}{b room f a u xL r wq:B}{α:Type}{axs:G (B × B)}{m:Ç}{p q:Z}{k i j n:à}{zs ys us:G V}{y:V}{K:Æ}{fd:Â}{mg:Ç->Ü O}{A os:G (B × B)}{d:Ü Z}{E:XK}{o:B × B}{kvs:G (Key × V)}{b4 b5:Ý}
def fk(ns:G B):Prop:=ns.length<=8/\∀ n∈ns,1<=n/\n<=1000000000
def ae:G B->B
 | []=>1
 | n::r=>n * ae r
def gq:G B->G B
 | []=>[]
 | _::r=>ae r::gq r
def aC:G B->B->G B
 | [],_=>[]
 | n::r,x=>x / ae r % n::aC r x
theorem bT:∀ ns ms:G B,ae (ns++ms)=ae ns * ae ms
 | [],ms=>by simp[ae]
 | n::r,ms=>by simp only[Zt,ae,bT r ms,Xn]
theorem kl(ns:G B)(i:à)(z:B)(h:ns[i]? = U z):ae (ns.take (i+1))=ae (ns.take i) * z:=by
 rw[WZ,h,bT];simp[ae]
theorem mP:∀ ns:G B,(∀ n∈ns,1<=n/\n<=1000000000)->1<=ae ns/\ae ns<=1000000000 ^ ns.length
 | [],_=>by simp[ae]
 | n::r,h=>by
  let(h1,h2):=mP r λ m hm=>h m (VI _ hm);let(g1,g2):=h n VP;refine{?_,?_}
  ·show 1<=n * ae r
   exact Int.le_trans (by omega) (WV g1 h1 (by decide) (by omega):1 * 1<=n * ae r)
  ·show n * ae r<=1000000000 ^ (r.length+1)
   rw[Zm,WL];exact WV h2 g2 (by omega) (Int.le_trans (by omega) h2)
theorem KP:∀ {k:à},k<=8->(1000000000:B) ^ k<=1000000000 ^ 8
 | 0,_=>by decide
 | 1,_=>by decide
 | 2,_=>by decide
 | 3,_=>by decide
 | 4,_=>by decide
 | 5,_=>by decide
 | 6,_=>by decide
 | 7,_=>by decide
 | 8,_=>by decide
 | k+9,h=>by omega
theorem fk.prod(h:fk ns):1<=ae ns/\ae ns<=1000000000 ^ 8:=by
 let(a,b):=mP ns h.2;exact{a,Int.le_trans b (KP h.1)}
theorem fk.take(h:fk ns)(i:à):fk (ns.take i):=⟨by have:=h.1;simp;omega,λ n hn=>h.2 n (Xo hn)⟩
theorem fk.drop(h:fk ns)(i:à):fk (ns.drop i):=⟨by have:=h.1;simp;omega,λ n hn=>h.2 n (XB hn)⟩
theorem mY(ns:G B)(i:à)(z:B)(hi:i<ns.length)(h:ns[ns.length - 1 - i]? = U z):ns.drop (ns.length - (i+1))=z::ns.drop (ns.length - i):=by
 let e:ns.length - (i+1)=ns.length - 1 - i:=by omega
 let e2:ns.length - i=ns.length - 1 - i+1:=by omega
 rw[e,e2];let(hl,hz):=VB.mp h;rw[←hz];exact Yv hl
theorem oY(ns:G B)(i:à)(z:B)(hi:i<ns.length)(h:ns[ns.length - 1 - i]? = U z):ae (ns.drop (ns.length - (i+1)))=ae (ns.drop (ns.length - i)) * z:=by
 rw[mY ns i z hi h];exact WL _ _
theorem vB(ns:G B)(i:à)(z:B)(hi:i<ns.length)(h:ns[ns.length - 1 - i]? = U z):(gq (ns.drop (ns.length - (i+1)))).reverse=(gq (ns.drop (ns.length - i))).reverse++[ae (ns.drop (ns.length - i))]:=by
 rw[mY ns i z hi h];simp[gq]
theorem vq(ns:G B)(x:B)(i:à)(z:B)(hi:i<ns.length)(h:ns[ns.length - 1 - i]? = U z):(aC (ns.drop (ns.length - (i+1))) x).reverse=(aC (ns.drop (ns.length - i)) x).reverse++[x / ae (ns.drop (ns.length - i)) % z]:=by
 rw[mY ns i z hi h];simp[aC]
theorem DT(ns:G B)(x:B)(i:à)(z:B)(hi:i<ns.length)(h:ns[ns.length - 1 - i]? = U z)(hz:0<=ae (ns.drop (ns.length - i))):x / ae (ns.drop (ns.length - (i+1)))=x / ae (ns.drop (ns.length - i)) / z:=by
 rw[oY ns i z hi h];exact(X0 hz).symm
theorem oZ:∀ ns:G B,(gq ns).length=ns.length
 | []=>rfl
 | _::r=>by simp[gq,oZ r]
theorem bI:∀ (ns:G B) (x:B),(aC ns x).length=ns.length
 | [],_=>rfl
 | _::r,x=>by simp[aC,bI r x]
def InR:G B->G B->Prop
 | [],[]=>True
 | n::r,x::xs=>(0<=x/\x<n)/\InR r xs
 | _,_=>False
def Rb:G B->G B->B
 | _::r,x::xs=>x * ae r+Rb r xs
 | _,_=>0
theorem InR.len:∀ {ns xs:G B},InR ns xs->xs.length=ns.length
 | [],[],_=>rfl
 | [],_::_,h=>h.elim
 | _::_,[],h=>h.elim
 | _::r,_::xs,⟨_,h⟩=>by simp[InR.len h]
theorem InR.split:∀ (ns:G B) (x:B),(∀ n∈ns,1<=n/\n<=1000000000)->InR ns (aC ns x)
 | [],_,_=>trivial
 | n::r,x,hs=>⟨⟨Xk _ (by have:=hs n VP;omega),WY _ (by have:=hs n VP;omega)⟩,InR.split r x λ m hm=>hs m (VI _ hm)⟩
theorem InR.zeros:∀ r:G B,(∀ n∈r,1<=n/\n<=1000000000)->InR r (r.map λ _=>0)
 | [],_=>trivial
 | n::r,h=>⟨⟨Y0 0,(by have:=h n VP;show (0:B)<n;omega)⟩,InR.zeros r λ m hm=>h m (VI _ hm)⟩
open PySem L2
def vi:V->B
 | .int i=>i
 | _=>0
def iI(x:V)(b:B):Ý:=match x with
 | .int i=>decide (0<=i) && decide (i<b)
 | _=>Á
def fm(H:Hp)(x:V):Prop:=(isW H x).isSome=Y/\∀ q xs,x=.ref q->H q=U (.tup xs)->∀ y∈xs,(isW H y).isSome=Y
theorem u6(e:Ext H H'){x:V}{b:Ý}(h:isW H x=U b):isW H' x=U b:=by
 cases x with
 | ref p=>
  let(_,o,ho,_):=ft h;rw[eS,ho] at h;rw[eS,e.at ho];exact h
 | _=>exact h
theorem jl(l:G α):(l.filter λ _=>Y)=l:=List.filter_eq_self.mpr λ _ _=>J
theorem Jk:∀ (ys ps:G B),(((ys.map V.int).zip (ps.map V.int)).filter λ _=>Y).map (λ z=>V.int (vi z.1 * vi z.2))=(List.zipWith (λ x p=>x * p) ys ps).map V.int
 | [],_=>rfl
 | _::_,[]=>rfl
 | y::ys,p::ps=>by
  let ih:=Jk ys ps;rw[jl] at ih ⊢;simp only[Wr,Y4,W8,ih];rfl
def ay(a:B × B):B × B:=(a.1,if a.1 > 1 then a.2 else 0)
def axL(axs:G (B × B)):G (G B):=axs.map λ a=>[a.1,a.2]
def aG(axs:G (B × B)):B:=(axs.map λ a=>min 0 ((a.1 - 1) * a.2)).sum
def aE(axs:G (B × B)):B:=(axs.map λ a=>max 0 ((a.1 - 1) * a.2)).sum
def bY(axs:G (B × B)):Prop:=axs.length<=8/\∀ a∈axs,1<=a.1/\a.1<=1000000000
structure da(room first:B)(axs:G (B × B)):Prop where
 ax:bY axs
 r1:1<=room
 r2:room<=1000000000000000000
 lo:0<=first+aG (axs.map ay)
 hi:first+aE (axs.map ay)<room
theorem bY.kept(h:bY axs):bY (axs.map ay):={by rw[VD];exact h.1,λ a ha=>by
 let(b,hb,rfl):=VT.mp ha;exact h.2 b hb}
theorem bY.sizes(h:bY axs):fk (axs.map λ a=>a.1):={by rw[VD];exact h.1,λ n hn=>by
 let(b,hb,rfl):=VT.mp hn;exact h.2 b hb}
def gw(room first:B)(l:Z):G (Ç × V):=gC "axes" (.ref l) (gC "first" (.int first) (gC "room" (.int room) []))
theorem SA:¬ (("room":Ç) = "axes"):=by decide +kernel
theorem Sz:¬ (("room":Ç) = "first"):=by decide +kernel
theorem SE:¬ (("first":Ç) = "axes"):=by decide +kernel
theorem cG(room first:B)(l:Z):(gw room first l).lookup ("room":Ç)=U (.int room):=by
 unfold gw;rw[aN,if_neg SA,aN,if_neg Sz,aN,if_pos J]
theorem dn(room first:B)(l:Z):(gw room first l).lookup ("first":Ç)=U (.int first):=by
 unfold gw;rw[aN,if_neg SE,aN,if_pos J]
theorem cH(room first:B)(l:Z):(gw room first l).lookup ("axes":Ç)=U (.ref l):=by
 unfold gw;rw[aN,if_pos J]
theorem FJ(room first:B)(l:Z)(h1:¬ m = "axes")(h2:¬ m = "first")(h3:¬ m = "room"):(gw room first l).lookup m=L:=by
 unfold gw;rw[aN,if_neg h1,aN,if_neg h2,aN,if_neg h3];rfl
theorem aU:∀ ns:G B,(∀ n∈ns,(1:B)<=n)->1<=ae ns
 | [],_=>by simp[ae]
 | n::ns,h=>by
  let h1:=h n VP;let h2:=aU ns λ m hm=>h m (VI _ hm)
  show 1<=n * ae ns
  have:=WV h1 h2 (by decide) (by omega);omega
def za:aG []=0:=rfl
def zE:aE []=0:=rfl
theorem bu(a:B × B)(l:G (B × B)):aG (a::l)=min 0 ((a.1 - 1) * a.2)+aG l:=by unfold aG;simp
theorem bz(a:B × B)(l:G (B × B)):aE (a::l)=max 0 ((a.1 - 1) * a.2)+aE l:=by unfold aE;simp
def ik(xs ps:G B):B:=(List.zipWith (λ x p=>x * p) xs ps).sum
theorem vJ{x p s:B}(h0:0<=x)(h1:x<=s - 1):min 0 ((s - 1) * p)<=x * p/\x * p<=max 0 ((s - 1) * p):=by
 rcases Int.le_total 0 p with hp|hp
 ·let a:=Yd h0 hp;let b:=Wg h1 hp;omega
 ·let a:=Yd h0 (show 0<=-p by omega);let b:=Wg h1 (show 0<=-p by omega);rw[ZF] at a b;rw[ZF] at b;omega
theorem nz:∀ (axs:G (B × B)) (xs:G B),InR (axs.map λ a=>a.1) xs->aG axs<=ik xs (axs.map λ a=>a.2)/\ik xs (axs.map λ a=>a.2)<=aE axs
 | [],[],_=>by decide
 | [],_::_,h=>h.elim
 | _::_,[],h=>h.elim
 | a::r,x::xs,⟨⟨h0,h1⟩,h⟩=>by
  let(b1,b2):=nz r xs h
  let e:ik (x::xs) ((a::r).map λ a=>a.2)=x * a.2+ik xs (r.map λ a=>a.2):=by
   unfold ik;rw[map_cons,zipWith_cons_cons,sum_cons]
  rw[bu,bz,e];let af:x<a.1:=h1;let(c1,c2):=vJ (p:=a.2) h0 (show x<=a.1 - 1 by omega);omega
theorem InR.bound:∀ {ns ys:G B},fk ns->InR ns ys->∀ a∈ys,0<=a/\a<1000000000:=λ {ns ys} hs hy=>by
 have:∀ {ns ys:G B},(∀ n∈ns,1<=n/\n<=1000000000)->InR ns ys->∀ a∈ys,0<=a/\a<1000000000:=by
  intro ns
  induction ns with
  | nil=>intro ys _ h a ha;cases ys with
   | nil=>cases ha
   | cons _ _=>exact h.elim
  | cons n r ih=>intro ys hs h a ha;cases ys with
   | nil=>exact h.elim
   | cons y ys=>
    let hn:=hs n VP;let hy:0<=y/\y<n:=h.1
    rcases VU.mp ha with rfl|ha
    ·omega
    ·exact ih (λ m hm=>hs m (VI _ hm)) h.2 a ha
 exact this hs.2 hy
theorem jN(ns:G B)(h:∀ n∈ns,(1:B)<=n)(i:à):ae (ns.take i)<=ae ns:=by
 let e:ae ns=ae (ns.take i) * ae (ns.drop i):=by rw[←bT,List.take_append_drop]
 let a:=aU (ns.take i) λ n hn=>h n (Xo hn);let b:=aU (ns.drop i) λ n hn=>h n (XB hn);rw[e];have:=WI b (show 0<=ae (ns.take i) by omega);omega
def cc(cs:G B)(a:B × B):G B:=cs.flatMap λ c=>(Ì a.1.toNat).map λ (n:à)=>c+(n:B) * a.2
def ah(first:B)(axs:G (B × B)):G B:=axs.foldl cc [first]
theorem mw(cs:G B)(a:B × B):(cc cs a).length=cs.length * a.1.toNat:=by
 unfold cc
 induction cs with
 | nil=>simp
 | cons c r ih=>rw[Yb,VN,ih,VD,V5,Wc,Nat.add_mul];omega
theorem jb(first:B)(axs:G (B × B))(a:B × B):ah first (axs++[a])=cc (ah first axs) a:=by
 unfold ah;rw[foldl_append];rfl
theorem sU:∀ (axs:G (B × B)) (cs:G B),(∀ a∈axs,(1:B)<=a.1)->((axs.foldl cc cs).length:B)=cs.length * ae (axs.map λ a=>a.1)
 | [],cs,_=>by simp[ae]
 | a::r,cs,h=>by
  let ha:=h a VP;rw[X5,sU r (cc cs a) λ b hb=>h b (VI _ hb),mw,Ym,WU (by omega),Xn];rfl
theorem aM(first:B)(axs:G (B × B))(h:∀ a∈axs,(1:B)<=a.1):((ah first axs).length:B)=ae (axs.map λ a=>a.1):=by
 unfold ah;rw[sU axs [first] h];simp
def fj(ns:G B):G (G B):=(Ì (ae ns).toNat).map λ i=>aC ns ((i:à):B)
theorem nh:∀ (p:G B) (n x:B),0<n->aC (p++[n]) x=aC p (x / n)++[x % n]
 | [],n,x,hn=>by simp[aC,ae]
 | m::p,n,x,hn=>by
  let ih:=nh p n x hn
  show x / ae (p++[n]) % m::aC (p++[n]) x=x / n / ae p % m::(aC p (x / n)++[x % n])
  rw[ih,bT,show ae [n]=n by simp[ae],WL,X0 (by omega)]
theorem sD(b:à):∀ a:à,Ì (a * b)=(Ì a).flatMap λ j=>(Ì b).map λ k=>j * b+k
 | 0=>by simp
 | a+1=>by
  rw[Nat.succ_mul,List.range_add,sD b a,ZC,YZ];simp
theorem yy(p:G B)(n:B)(hp:0<=ae p)(hn:0<n):fj (p++[n])=(fj p).flatMap λ row=>(Ì n.toNat).map λ k=>row++[((k:à):B)]:=by
 unfold fj
 let e:(ae (p++[n])).toNat=(ae p).toNat * n.toNat:=by
  rw[bT,show ae [n]=n by simp[ae]];let(a,ha):=WB hp;let(b,hb):=WB (show 0<=n by omega);rw[ha,hb];rfl
 rw[e,sD,List.map_flatMap,List.flatMap_map];congr 1;funext j;rw[WC];apply XN;intro k hk;let af:k<n.toNat:=by simpa using hk
 show aC (p++[n]) ((j * n.toNat+k:à):B)=aC p (j:à)++[((k:à):B)]
 rw[nh p n _ hn]
 let c:((j * n.toNat+k:à):B)=(k:B)+(j:B) * n:=by
  push_cast
  rw[show ((n.toNat:à):B)=n by omega];omega
 rw[c,Int.add_mul_ediv_right _ _ (by omega),Int.ediv_eq_zero_of_lt (by omega) (by omega),Ww,Int.add_mul_emod_self_right,Zf (by omega) (by omega)]
def mO(ns:G B):(fj ns).length=(ae ns).toNat:=by simp[fj]
theorem si(a:B × B)(h:1<=a.1):∀ (cs:G B) (m:à),(cc cs a)[m]? = (cs[m / a.1.toNat]?).map λ c=>c+((m % a.1.toNat:à):B) * a.2
 | [],m=>by simp[cc]
 | c::cs,m=>by
  let hs:0<a.1.toNat:=by omega
  let e:cc (c::cs) a=((Ì a.1.toNat).map λ (n:à)=>c+(n:B) * a.2)++cc cs a:=by unfold cc;rw[List.flatMap_cons]
  rw[e]
  by_cases hm:m<a.1.toNat
  ·rw[Wq (by rw[VD,V5];exact hm),VS,XO hm,Nat.div_eq_of_lt hm,Nat.mod_eq_of_lt hm];rfl
  ·rw[Wj (by rw[VD,V5];omega),VD,V5,si a h cs (m - a.1.toNat)]
   let e1:m / a.1.toNat=(m - a.1.toNat) / a.1.toNat+1:=by
    have:=Nat.div_eq_sub_div hs (show a.1.toNat<=m by omega);exact this
   let e2:m % a.1.toNat=(m - a.1.toNat) % a.1.toNat:=Nat.mod_eq_sub_mod (by omega);rw[e1,e2,List.getElem?_cons_succ]
theorem sV:∀ (axs:G (B × B)) (cs:G B) (k:à),(∀ a∈axs,(1:B)<=a.1)->(axs.foldl cc cs)[k]? = (cs[((k:B) / ae (axs.map λ a=>a.1)).toNat]?).map λ c=>c+ik (aC (axs.map λ a=>a.1) (k:B)) (axs.map λ a=>a.2)
 | [],cs,k,_=>by
  show cs[k]? = (cs[((k:B) / 1).toNat]?).map λ c=>c+0
  rw[Int.ediv_one,VW];simp
 | a::r,cs,k,h=>by
  let ha:=h a VP;let hr:=λ b hb=>h b (VI a hb);let hp:1<=ae (r.map λ a=>a.1):=aU _ λ n hn=>by let(b,hb,rfl):=VT.mp hn;exact hr b hb
  rw[X5,sV r (cc cs a) k hr,si a ha];generalize hP:ae (r.map λ a=>a.1)=P at hp;let af:0<=(k:B) / P:=Int.ediv_nonneg (by omega) (by omega)
  let e1:((k:B) / P).toNat / a.1.toNat=((k:B) / ae ((a::r).map λ a=>a.1)).toNat:=by
   show _=((k:B) / (a.1 * ae (r.map λ a=>a.1))).toNat
   rw[hP,WL a.1 P,←X0 (by omega)];generalize (k:B) / P=m at af;let hd:m / a.1=((m.toNat / a.1.toNat:à):B):=by rw[Int.natCast_ediv,WU af,WU (by omega)]
   rw[hd,VW]
  let e2:((((k:B) / P).toNat % a.1.toNat:à):B)=(k:B) / P % a.1:=by rw[Int.natCast_emod,WU af,WU (by omega)]
  rw[e1,e2,Option.map_map];congr 1;funext c
  show c+(k:B) / P % a.1 * a.2+ik (aC (r.map λ a=>a.1) (k:B)) (r.map λ a=>a.2)=c+ik ((k:B) / ae (r.map λ a=>a.1) % a.1::aC (r.map λ a=>a.1) (k:B)) (a.2::r.map λ a=>a.2)
  unfold ik;rw[zipWith_cons_cons,sum_cons,hP];omega
theorem iB{first:B}{c:B}(h:∀ a∈axs,(1:B)<=a.1)(hk:(ah first axs)[k]? = U c):c=first+ik (aC (axs.map λ a=>a.1) (k:B)) (axs.map λ a=>a.2):=by
 unfold ah at hk;rw[sV axs [first] k h] at hk;let(c0,h1,h2):=Option.map_eq_some_iff.mp hk;have:c0∈[first]:=mem_of_getElem? h1;rw[List.mem_singleton.mp this] at h2;exact h2.symm
theorem mQ:∀ (ns:G B) (x:B),(∀ n∈ns,(1:B)<=n)->Rb ns (aC ns x)=x % ae ns
 | [],x,_=>by show 0=x % 1;rw[Int.emod_one]
 | n::r,x,h=>by
  let ih:=mQ r x λ m hm=>h m (VI _ hm);let hp:=aU r λ m hm=>h m (VI _ hm)
  show x / ae r % n * ae r+Rb r (aC r x)=x % (n * ae r)
  rw[ih];generalize ae r=P at hp;let a:=YR x (n * P);let b:=YR x P;let c:=YR (x / P) n;let d:x / P / n=x / (n * P):=by rw[X0 (by omega),WL P n]
  rw[d] at c;let e1:n * P * (x / (n * P))=P * (n * (x / (n * P))):=by rw[WL n P,Xn]
  let e2:P * (x / P)=P * (x / P % n)+P * (n * (x / (n * P))):=by rw[←Int.mul_add,c]
  let e3:x / P % n * P=P * (x / P % n):=WL _ _;omega
theorem su{i j:B}(h:∀ n∈ns,(1:B)<=n)(i0:0<=i)(i1:i<ae ns)(j0:0<=j)(j1:j<ae ns)(e:aC ns i=aC ns j):i=j:=by
 let a:=mQ ns i h;let b:=mQ ns j h;rw[Zf i0 i1] at a;rw[Zf j0 j1] at b;rw[←a,←b,e]
def Ag(W R:G B->B)(zs:G (G B))(vals:G B):G B:=zs.foldl (λ vs z=>vs.set (W z).toNat (vs.getD (R z).toNat 0)) vals
theorem qD(W R:G B->B):∀ (zs:G (G B)) (vals:G B),(Ag W R zs vals).length=vals.length
 | [],_=>rfl
 | z::zs,vals=>by
  show (Ag W R zs _).length=_
  rw[qD W R zs,Y2]
theorem CH{W R:G B->B}{zs:G (G B)}(hz:zs[i]? = U z):Ag W R (zs.take (i+1)) vals=(Ag W R (zs.take i) vals).set (W z).toNat ((Ag W R (zs.take i) vals).getD (R z).toNat 0):=by
 unfold Ag;rw[take_add_one,hz,foldl_append];rfl
theorem InR.set:∀ {ms pl:G B}{a:à}{v:B},InR ms pl->0<=v->v<ms.getD a 0->InR ms (pl.set a v)
 | [],[],a,v,h,_,h1=>by simpa using h
 | [],_::_,_,_,h,_,_=>h.elim
 | _::_,[],_,_,h,_,_=>h.elim
 | m::ms,x::pl,0,v,h,h0,h1=>{⟨h0,h1⟩,h.2}
 | m::ms,x::pl,a+1,v,h,h0,h1=>{h.1,InR.set h.2 h0 (by simpa using h1)}
def oE(ms:G B):B:=(ms.map λ s=>s - 1).sum
def fJ:G B->G B->B
 | s::ms,p::ps=>(s - 1) * (p.natAbs:B)+fJ ms ps
 | _,_=>0
theorem Nt{s p:B}(hs:1<=s):max 0 ((s - 1) * p) - min 0 ((s - 1) * p)=(s - 1) * (p.natAbs:B)/\0<=(s - 1) * (p.natAbs:B):=by
 rcases Int.le_total 0 p with h|h
 ·have:=Yd (show 0<=s - 1 by omega) h;rw[show (p.natAbs:B)=p by omega];omega
 ·have:=Yd (show 0<=s - 1 by omega) (show 0<=-p by omega);rw[ZF] at this;rw[show (p.natAbs:B)=-p by omega,ZF];omega
theorem qj:∀ (ms ps:G B),(∀ m∈ms,(1:B)<=m)->ps.length=ms.length->aE (ms.zip ps) - aG (ms.zip ps)=fJ ms ps/\aG (ms.zip ps)<=0/\0<=aE (ms.zip ps)/\0<=fJ ms ps
 | [],[],_,_=>by decide
 | [],_::_,_,h=>by simp at h
 | _::_,[],_,h=>by simp at h
 | s::ms,p::ps,h,hl=>by
  let(i1,i2,i3,i4):=qj ms ps (λ m hm=>h m (VI _ hm)) (by simpa using hl);let(a1,a2):=Nt (p:=p) (h s VP);rw[Y4,bu,bz]
  show _=(s - 1) * (p.natAbs:B)+fJ ms ps/\_/\_/\0<=(s - 1) * (p.natAbs:B)+fJ ms ps
  generalize (s - 1) * (p.natAbs:B)=y at *;generalize (s - 1) * p=x at *;omega
theorem Bm(h:∀ m∈ms,(1:B)<=m):0<=oE ms:=by
 unfold oE
 induction ms with
 | nil=>decide
 | cons s r ih=>
  have:=ih λ m hm=>h m (VI _ hm);have:=h s VP;rw[Wr,YT];omega
theorem sv:∀ (ms ps:G B) (xL:B),(∀ m∈ms,(1:B)<=m)->ps.length=ms.length->(∀ p∈ps,(p.natAbs:B)<=xL)->0<=xL->fJ ms ps<=oE ms * xL
 | [],[],xL,_,_,_,_=>by show (0:B)<=0 * xL;omega
 | [],_::_,_,_,h,_,_=>by simp at h
 | _::_,[],_,_,h,_,_=>by simp at h
 | s::ms,p::ps,xL,h,hl,hb,h0=>by
  let ih:=sv ms ps xL (λ m hm=>h m (mem_cons_of_mem _ hm)) (by simpa using hl) (λ q hq=>hb q (mem_cons_of_mem _ hq)) h0;let hs:=h s mem_cons_self;let hp:=hb p mem_cons_self;let m1:=Int.mul_le_mul_of_nonneg_left hp (show 0<=s - 1 by omega);let e:oE (s::ms)=(s - 1)+oE ms:=by unfold oE;rw[map_cons,sum_cons]
  show (s - 1) * (p.natAbs:B)+fJ ms ps<=_
  rw[e,Int.add_mul];omega
theorem sA(s:B)(ms:G B):oE (s::ms)=(s - 1)+oE ms:=by unfold oE;rw[map_cons,sum_cons]
theorem CF(h:∀ m∈ms,1<=m/\m<=3)(hp:ae ms<=60):oE ms<=7:=by
 let key:∀ l:G B,(∀ m∈l,1<=m/\m<=3)->(3:B) ^ (oE l).toNat<=ae l * ae l/\0<=oE l/\1<=ae l:=by
  intro l
  induction l with
  | nil=>intro _;decide
  | cons s r ih=>
   intro hl;let(i1,i2,i3):=ih λ m hm=>hl m (VI _ hm);let hs:=hl s VP;rw[sA]
   show _<=s * ae r * (s * ae r)/\_/\1<=s * ae r
   let e:s * ae r * (s * ae r)=s * s * (ae r * ae r):=by
    rw[Xn,Xn,Int.mul_left_comm (ae r) s (ae r)]
   rw[e];generalize hP:ae r * ae r=P at *;generalize ae r=p at *;generalize oE r=t at *;let(n,rfl):=WB i2
   rcases (show s=1\/s=2\/s=3 by omega) with rfl|rfl|rfl
   ·rw[show ((1:B) - 1+(n:B)).toNat=n by omega];rw[VW] at i1;omega
   ·rw[show ((2:B) - 1+(n:B)).toNat=n+1 by omega,Zm];rw[VW] at i1;have:(0:B)<=3 ^ n:=Int.pow_nonneg (by decide);omega
   ·rw[show ((3:B) - 1+(n:B)).toNat=n+1+1 by omega,Zm,Zm];rw[VW] at i1;omega
 let(k1,k2,k3):=key ms h;let af:=WV hp hp (by omega) (by decide);let(n,hn):=WB k2;rw[hn,VW] at k1;rw[hn]
 rcases Nat.lt_or_ge n 8 with h8|h8
 ·omega
 ·have:(3:B) ^ 8<=3 ^ n:=by
   let(d,rfl):=Nat.exists_eq_add_of_le h8;rw[Int.pow_add]
   have:(1:B)<=3 ^ d:=by
    have:(0:B)<3 ^ d:=Int.pow_pos (by decide);omega
   have:=WI this (show (0:B)<=3 ^ 8 by decide);omega
  have:(3:B) ^ 8=6561:=by decide
  omega
theorem Bo{k:B}(hk:0<=k):∀ ms:G B,(∀ m∈ms,1<=m/\m<=k+1)->oE ms<=k * ms.length
 | [],_=>by show (0:B)<=k * 0;omega
 | s::r,h=>by
  let ih:=Bo hk r λ m hm=>h m (VI _ hm);let hs:=h s VP;rw[sA,Wc,show ((r.length+1:à):B)=(r.length:B)+1 by omega,Int.mul_add,Yn];omega
def top(i:à):Stmt:=PySem.Challenge.pw_pacehall_k79_loops_refused.main.body.getD i (.Pass {(0),0,0,0})
abbrev cW:Stmt:=cC (top 9) 0
local macro_rules | `(nofun) => `(by decide +kernel)
local macro_rules | `(∅) => `(⟨rfl,rfl,rfl,nofun,rfl,nofun,nofun⟩)
theorem jQ:ai ["self", "number"] ["self", "number"] (aa cW):=∅
abbrev dM:Stmt:=cC (top 10) 0
theorem lC:ai ["self", "one", "other"] ["self", "one", "other"] (aa dM):=∅
abbrev kg:Stmt:=top 12
theorem zY:ai ["thing"] ["thing"] (aa kg):=∅
abbrev kh:Stmt:=top 15
theorem iF:ai ["sizes", "count", "size"] ["sizes"] (aa kh):=∅
abbrev ke:Stmt:=top 16
theorem fQ:ai ["sizes", "paces", "pace", "size"] ["sizes"] (aa ke):=∅
abbrev dt:Stmt:=top 17
theorem kI:ai ["thing", "bound"] ["thing", "bound"] (aa dt):=∅
abbrev iq:Stmt:=top 18
theorem zZ:ai ["sizes", "thing"] ["sizes", "thing"] (aa iq):=∅
abbrev fw:Stmt:=top 19
theorem cw:ai ["sizes", "number", "place", "left", "size"] ["sizes", "number"] (aa fw):=∅
abbrev kd:Stmt:=top 20
theorem zX:ai ["sizes", "number"] ["sizes", "number"] (aa kd):=∅
abbrev gb:Stmt:=top 21
theorem jP:ai ["count"] ["count"] (aa gb):=∅
abbrev lH:Stmt:=top 22
theorem lS:ai ["sizes", "count"] ["sizes"] (aa lH):=∅
abbrev iW:Stmt:=top 27
theorem wx:ai ["thing", "low", "high"] ["thing", "low", "high"] (aa iW):=∅
abbrev mK:Stmt:=top 28
theorem ET:ai ["thing"] ["thing"] (aa mK):=∅
abbrev mM:Stmt:=top 29
theorem EV:ai ["thing"] ["thing"] (aa mM):=∅
abbrev ir:Stmt:=top 30
theorem Ac:ai ["thing"] ["thing"] (aa ir):=∅
abbrev iV:Stmt:=top 31
theorem wu:ai ["axis"] ["axis"] (aa iV):=∅
abbrev cS:Stmt:=cC (top 32) 0
theorem nV:ai ["self", "room", "first", "axes"] ["self", "room", "first", "axes"] (aa cS):=∅
abbrev eY:Stmt:=cC (top 32) 1
theorem ux:ai ["self"] ["self"] (aa eY):=∅
abbrev eZ:Stmt:=cC (top 32) 2
theorem uy:ai ["self"] ["self"] (aa eZ):=∅
abbrev gW:Stmt:=cC (top 32) 3
theorem uA:ai ["self"] ["self"] (aa gW):=∅
abbrev fX:Stmt:=cC (top 32) 4
theorem wB:ai ["self", "place"] ["self", "place"] (aa fX):=∅
abbrev gX:Stmt:=cC (top 32) 6
theorem cJ:ai ["self", "found", "size", "pace"] ["self"] (aa gX):=∅
abbrev fe:Stmt:=cC (top 32) 7
theorem uz:ai ["self"] ["self"] (aa fe):=∅
abbrev cR:Stmt:=cC (top 32) 8
theorem nS:ai ["self"] ["self"] (aa cR):=∅
abbrev jF:Stmt:=top 33
theorem m3:ai ["cells", "size", "pace", "found", "cell"] ["cells", "size", "pace"] (aa jF):=∅
abbrev jW:Stmt:=top 35
theorem BY:ai ["sizes", "room", "cells"] ["sizes", "room"] (aa jW):=∅
abbrev iX:Stmt:=top 36
theorem bR:ai ["view", "seen", "number", "cell"] ["view"] (aa iX):=∅
abbrev fB:Stmt:=top 37
theorem iN:ai ["one", "other"] ["one", "other"] (aa fB):=∅
abbrev mL:Stmt:=top 39
theorem EU:ai ["thing", "many"] ["thing", "many"] (aa mL):=∅
abbrev fO:Stmt:=top 40
theorem pH:ai ["sizes", "thing", "many"] ["sizes", "thing"] (aa fO):=∅
abbrev fC:Stmt:=top 41
theorem iO:ai ["sizes", "order"] ["sizes", "order"] (aa fC):=∅
abbrev bW:Stmt:=top 42
theorem dF:ai ["to", "source"] ["to", "source"] (aa bW):=∅
abbrev dJ:Stmt:=top 43
theorem cB:ai ["sizes", "order", "steps", "place", "loop", "step"] ["sizes", "order", "steps"] (aa dJ):=∅
abbrev fL:Stmt:=top 44
theorem jK:ai ["sizes", "order", "walk"] ["sizes", "order"] (aa fL):=∅
abbrev qC:Stmt:=top 45
theorem ip:ai ["store", "to", "source", "order", "values", "place"] ["store", "to", "source", "order"] (aa qC):=∅
abbrev fz:Stmt:=top 47
theorem dA:ai ["view", "found"] ["view"] (aa fz):=∅
abbrev bX:Stmt:=top 48
theorem aQ:ai ["to", "source", "spots", "found", "place", "cell", "origin"] ["to", "source", "spots"] (aa bX):=∅
abbrev gf:Stmt:=top 49
theorem bC:ai ["to", "source", "spots", "written", "found", "place", "cell"] ["to", "source"] (aa gf):=∅
abbrev JT:Stmt:=top 51
theorem TF:ai ["pair", "axis"] ["pair", "axis"] (aa JT):=∅
abbrev gc:Stmt:=top 52
theorem gm:ai ["pair", "order", "axis", "way"] ["pair", "order"] (aa gc):=∅
abbrev mh:Stmt:=top 53
theorem Cb:ai ["to", "source", "order"] ["to", "source", "order"] (aa mh):=∅
abbrev dv:Stmt:=top 54
theorem cx:ai ["pairs", "many", "axis", "gaps", "low", "high"] ["pairs", "many"] (aa dv):=∅
abbrev bV:Stmt:=top 55
theorem bq:ai ["pairs", "many", "chosen", "axis", "above", "below", "pair"] ["pairs", "many"] (aa bV):=∅
abbrev cI:Stmt:=top 56
theorem aY:ai ["to", "source", "left", "many", "order", "loop", "used"] ["to", "source"] (aa cI):=∅
abbrev g9:Stmt:=top 57
abbrev ni:Stmt:=top 58
abbrev AQ:Stmt:=top 59
theorem oQ:ai ["to", "source", "some", "known", "pair"] ["to", "source", "some"] (aa AQ):=∅
abbrev fD:Stmt:=top 61
theorem oC:ai ["view", "many"] ["view", "many"] (aa fD):=∅
abbrev dP:Stmt:=cC (top 62) 0
theorem lD:ai ["self", "values"] ["self", "values"] (aa dP):=∅
abbrev cX:Stmt:=cC (top 62) 1
theorem jR:ai ["self"] ["self"] (aa cX):=∅
abbrev cD:Stmt:=cC (top 62) 2
theorem eL:ai ["self", "view"] ["self", "view"] (aa cD):=∅
abbrev kS:Stmt:=cC (top 62) 3
abbrev i8:Stmt:=cC (top 62) 4
theorem jg:ai ["self", "view", "values", "cell", "value"] ["self", "view", "values"] (aa i8):=∅
abbrev i6:Stmt:=top 64
theorem fZ:ai ["_law_script", "_law_k", "_law_many", "_law_number", "_law_cell"] ["_law_script", "_law_k", "_law_many"] (aa i6):=∅
abbrev gT:Stmt:=top 65
theorem uv:ai ["_law_found"] ["_law_found"] (aa gT):=∅
abbrev gi:Stmt:=top 66
theorem ed:ai ["_law_number", "_law_by", "_law_many", "_law_found", "_law_k"] ["_law_number", "_law_by", "_law_many"] (aa gi):=∅
abbrev gU:Stmt:=top 67
theorem aP:ai ["_law_script", "_law_most_here", "_law_wide", "_law_many", "_law_menu", "_law_sizes_here", "_law_count", "_law_digit", "_law_size"] ["_law_script", "_law_most_here", "_law_wide"] (aa gU):=∅
abbrev iZ:Stmt:=top 68
theorem bA:ai ["_law_script", "_law_sizes_here", "_law_unit", "_law_turn", "_law_signs", "_law_paces", "_law_left", "_law_axis"] ["_law_script", "_law_sizes_here"] (aa iZ):=∅
abbrev dW:Stmt:=top 69
theorem dZ:ai ["_law_script", "_law_paces", "_law_way", "_law_k", "_law_axis"] ["_law_script", "_law_paces"] (aa dW):=∅
abbrev eW:Stmt:=top 70
theorem uw:ai ["_law_sizes_here", "_law_paces"] ["_law_sizes_here", "_law_paces"] (aa eW):=∅
abbrev fW:Stmt:=top 71
theorem wA:ai ["_law_sizes_here", "_law_paces"] ["_law_sizes_here", "_law_paces"] (aa fW):=∅
abbrev eX:Stmt:=top 72
theorem bU:ai ["_law_first", "_law_sizes_here", "_law_paces", "_law_found", "_law_size", "_law_pace", "_law_longer", "_law_cell"] ["_law_first", "_law_sizes_here", "_law_paces"] (aa eX):=∅
abbrev ki:Stmt:=top 73
theorem bJ:ai ["_law_script", "_law_sizes_here", "_law_paces", "_law_others_here", "_law_first", "_law_begin", "_law_last", "_law_room", "_law_one", "_law_other"] ["_law_script", "_law_sizes_here"] (aa ki):=∅
abbrev gj:Stmt:=top 74
theorem rJ:ai ["_law_way", "_law_store", "_law_one", "_law_other", "_law_order"] ["_law_way", "_law_store", "_law_one", "_law_other", "_law_order"] (aa gj):=∅
abbrev fV:Stmt:=top 75
theorem eJ:ai ["_law_way", "_law_store", "_law_one", "_law_other", "_law_order", "e", "_law_flags", "_law_k"] ["_law_way", "_law_store", "_law_one", "_law_other", "_law_order"] (aa fV):=∅
abbrev kj:Stmt:=top 76
theorem kC:ai ["_law_way", "_law_bits", "_law_k", "_law_word_here"] ["_law_way", "_law_bits"] (aa kj):=∅
abbrev iY:Stmt:=top 77
theorem wz:ai ["_law_view", "_law_more", "_law_room"] ["_law_view", "_law_more", "_law_room"] (aa iY):=∅
abbrev gh:Stmt:=top 78
theorem bZ:ai ["_law_view", "_law_cell", "_law_sizes_here", "_law_axes"] ["_law_view", "_law_cell"] (aa gh):=∅
abbrev fE:Stmt:=top 79
theorem dB:ai ["_law_script", "_law_one", "_law_other", "_law_order", "_law_way", "e"] ["_law_script", "_law_one", "_law_other", "_law_order"] (aa fE):=∅
abbrev iR:Stmt:=top 80
theorem dG:ai ["_law_script", "_law_sizes_here", "_law_one", "_law_other", "_law_writes", "_law_reads", "_law_cell", "_law_bits", "_law_more", "_law_first", "_law_second", "_law_axes", "_law_order", "_law_odd", "_law_held", "_law_store", "_law_way", "_law_beside", "_law_there", "_law_left", "_law_right"] ["_law_script"] (aa iR):=∅
set_option genInjectivity false in
structure Adr where
 a_Hd:Z
 a_Hw:Z
 a_Hx:Z
 a_MG:Z
 a_Hy:Z
 a_MH:Z
 a_Hz:Z
 a_HA:Z
 a_MK:Z
 a_MN:Z
 a_ML:Z
 a_vS:Z
 d_vS:Â
 a_vV:Z
 d_vV:Â
 a_Hf:Z
 d_Hf:Â
 a_Hg:Z
 d_Hg:Â
 a_Hh:Z
 d_Hh:Â
 a_vU:Z
 d_vU:Â
 a_Hi:Z
 d_Hi:Â
 a_zd:Z
 d_zd:Â
 a_Hj:Z
 d_Hj:Â
 a_zu:Z
 d_zu:Â
 a_MD:Z
 d_MD:Â
 a_Eb:Z
 d_Eb:Â
 a_Hq:Z
 d_Hq:Â
 a_Hr:Z
 d_Hr:Â
 a_Hk:Z
 d_Hk:Â
 a_Ec:Z
 d_Ec:Â
 a_vY:Z
 d_vY:Â
 a_zB:Z
 d_zB:Â
 a_zC:Z
 d_zC:Â
 a_DU:Z
 d_DU:Â
 a_Ed:Z
 d_Ed:Â
 a_DV:Z
 d_DV:Â
 a_DW:Z
 d_DW:Â
 a_vZ:Z
 d_vZ:Â
 a_Hs:Z
 d_Hs:Â
 a_MI:Z
 d_MI:Â
 a_Ee:Z
 d_Ee:Â
 a_zh:Z
 d_zh:Â
 a_Ht:Z
 d_Ht:Â
 a_Hl:Z
 d_Hl:Â
 a_zk:Z
 d_zk:Â
 a_sP:Z
 d_sP:Â
 a_vW:Z
 d_vW:Â
 a_Hv:Z
 d_Hv:Â
 a_MF:Z
 d_MF:Â
 a_zm:Z
 d_zm:Â
 a_um:Z
 d_um:Â
 a_zv:Z
 d_zv:Â
 a_ZH:Z
 d_ZH:Â
 a_zw:Z
 d_zw:Â
 a_MJ:Z
 d_MJ:Â
 a_zp:Z
 d_zp:Â
 a_zb:Z
 d_zb:Â
 a_DX:Z
 d_DX:Â
 a_zc:Z
 d_zc:Â
 a_Ef:Z
 d_Ef:Â
 a_MM:Z
 d_MM:Â
 a_zq:Z
 d_zq:Â
 a_vX:Z
 d_vX:Â
 a_vT:Z
 d_vT:Â
 a_vR:Z
 d_vR:Â
 a_DY:Z
 d_DY:Â
 a_Eg:Z
 d_Eg:Â
 a_Eh:Z
 d_Eh:Â
 a_DZ:Z
 d_DZ:Â
 a_zx:Z
 d_zx:Â
 a_D0:Z
 d_D0:Â
 a_Ei:Z
 d_Ei:Â
 a_zy:Z
 d_zy:Â
 a_D9:Z
 d_D9:Â
 a_Ej:Z
 d_Ej:Â
 a_Ea:Z
 d_Ea:Â
 a_Hm:Z
 d_Hm:Â
 a_zz:Z
 d_zz:Â
 a_Ek:Z
 d_Ek:Â
 a_Ho:Z
 d_Ho:Â
 a_El:Z
 d_El:Â
 a_zA:Z
 d_zA:Â
 a_zr:Z
 d_zr:Â
 a_law:Z
 d_law:Â
variable {t:Adr}
structure Tx(K:Æ)(mg:Ç->Ü O)(t:Adr):Prop where
 m_Hd:mg "PaceError"=U (.ref t.a_Hd)
 m_Hw:mg "NoPlace"=U (.ref t.a_Hw)
 m_Hx:mg "NoCells"=U (.ref t.a_Hx)
 m_MG:mg "NoView"=U (.ref t.a_MG)
 m_Hy:mg "NoCount"=U (.ref t.a_Hy)
 m_MH:mg "NoPair"=U (.ref t.a_MH)
 m_Hz:mg "NoOrder"=U (.ref t.a_Hz)
 m_HA:mg "TooMany"=U (.ref t.a_HA)
 m_MK:mg "Twice"=U (.ref t.a_MK)
 m_MN:mg "View"=U (.ref t.a_MN)
 m_ML:mg "Store"=U (.ref t.a_ML)
 qAh:W.excIn K t.a_MG [.type "ValueError",.type "Exception",.type "BaseException",.type "object"] "ValueError.__new__"=Y
 qAi:W.excIn K t.a_MH [.type "ValueError",.type "Exception",.type "BaseException",.type "object"] "ValueError.__new__"=Y
 qAf:W.excIn K t.a_Hy [.type "ValueError",.type "Exception",.type "BaseException",.type "object"] "ValueError.__new__"=Y
 qAg:W.excIn K t.a_Hz [.type "ValueError",.type "Exception",.type "BaseException",.type "object"] "ValueError.__new__"=Y
 qA6:Ù K (.ref t.a_HA) (.ref t.a_HA)=U Y
 qAa:Ù K (.ref t.a_MK) (.ref t.a_HA)=U Á
 qAc:Ù K (.ref t.a_MK) (.ref t.a_MK)=U Y
 ocs:W.specialIn K (.builtin "object.__class__") "__get__"=U (U (.builtin "getset_descriptor.__get__"))
 oct:W.takesIn K (.builtin "object.__class__")=U Y
 xh:([t.a_MG,t.a_MH,t.a_Hy,t.a_Hz,t.a_HA,t.a_MK].all λ c=>Ö K c && Ú K (.ref c) == U (.type "type") && Ó K (.ref c) "__getattribute__" == U (U (.builtin "BaseException.__getattribute__")) && Ó K (.ref c) "__getattr__" == U L && Û K c (.type "BaseException") == U Y && Û K c (.type "object") == U Y && Ó K (.ref c) "__class__" == U (U (.builtin "object.__class__")))=Y
 xs:([t.a_MG,t.a_MH,t.a_Hy,t.a_Hz,t.a_HA,t.a_MK].all λ a=>[t.a_MG,t.a_MH,t.a_Hy,t.a_Hz,t.a_HA,t.a_MK].all λ c=>W.subIn K (.ref a) (.ref c) == U (a == c))=Y
 xp:([t.a_MG,t.a_MH,t.a_Hy,t.a_Hz,t.a_HA,t.a_MK].all λ a=>W.subIn K (.ref a) (.type "ValueError") == U Y && Ù K (.ref a) (.ref t.a_Hd) == U Y)=Y
 xn:decide (List.Nodup [t.a_MG,t.a_MH,t.a_Hy,t.a_Hz,t.a_HA,t.a_MK])=Y
 m_MOST_TOLD:∃ tk,mg "MOST_TOLD"=U (.int 4096 tk)
 m_MOST_ROOM:∃ tk,mg "MOST_ROOM"=U (.int 1000000000000000000 tk)
 m_MOST_SIZE:∃ tk,mg "MOST_SIZE"=U (.int 1000000000 tk)
 m_MOST_AXES:∃ tk,mg "MOST_AXES"=U (.int 8 tk)
 oi_TooMany:ND K t.a_HA t.a_vS
 tk_TooMany_number:W.takerIn K t.a_HA "number"=U L
 qAm:cq K t.a_HA "number"
 bi_PaceError:OH K t.a_Hd
 oi_Twice:ND K t.a_MK t.a_vV
 tk_Twice_one:W.takerIn K t.a_MK "one"=U L
 qB0:cq K t.a_MK "one"
 tk_Twice_other:W.takerIn K t.a_MK "other"=U L
 qAr:cq K t.a_MK "other"
 qA0:Cls K t.a_MN
 qA3:cq K t.a_MN "axes"
 qA5:cq K t.a_MN "first"
 qA7:cq K t.a_MN "room"
 qAj:Mk K t.a_MN t.a_vY
 qA1:wF K t.a_MN "sizes" t.a_zB
 qAs:wF K t.a_MN "paces" t.a_zC
 qAd:wF K t.a_MN "count" t.a_DU
 qAe:wF K t.a_MN "cell" t.a_Ed
 qA9:wF K t.a_MN "cells" t.a_DV
 qAt:wF K t.a_MN "least" t.a_DW
 qAo:wF K t.a_MN "greatest" t.a_vZ
 qA2:Cls K t.a_ML
 qAb:cq K t.a_ML "floor"
 qB1:Mk K t.a_ML t.a_vX
 qA8:wF K t.a_ML "all_values" t.a_vT
 qA4:wF K t.a_ML "refuse_room" t.a_vR
 qB9:wF K t.a_ML "read" t.a_DY
 qB2:wF K t.a_ML "put" t.a_Eg
 F_vS:Fun K "__init__" "TooMany.__init__" cW t.a_vS t.d_vS
 b_vS:az K t.d_vS ["self", "number"] []
 F_vV:Fun K "__init__" "Twice.__init__" dM t.a_vV t.d_vV
 b_vV:az K t.d_vV ["self", "one", "other"] []
 F_Hf:Fun K "is_whole" "is_whole" kg t.a_Hf t.d_Hf
 m_Hf:mg "is_whole"=U (.ref t.a_Hf)
 b_Hf:az K t.d_Hf ["thing"] []
 F_Hg:Fun K "count_of" "count_of" kh t.a_Hg t.d_Hg
 m_Hg:mg "count_of"=U (.ref t.a_Hg)
 b_Hg:az K t.d_Hg ["sizes"] []
 F_Hh:Fun K "paces_of" "paces_of" ke t.a_Hh t.d_Hh
 m_Hh:mg "paces_of"=U (.ref t.a_Hh)
 b_Hh:az K t.d_Hh ["sizes"] []
 F_vU:Fun K "is_number_below" "is_number_below" dt t.a_vU t.d_vU
 m_vU:mg "is_number_below"=U (.ref t.a_vU)
 b_vU:az K t.d_vU ["thing", "bound"] []
 F_Hi:Fun K "is_place" "is_place" iq t.a_Hi t.d_Hi
 m_Hi:mg "is_place"=U (.ref t.a_Hi)
 b_Hi:az K t.d_Hi ["sizes", "thing"] []
 F_zd:Fun K "split_number" "split_number" fw t.a_zd t.d_zd
 m_zd:mg "split_number"=U (.ref t.a_zd)
 b_zd:az K t.d_zd ["sizes", "number"] []
 F_Hj:Fun K "place_at" "place_at" kd t.a_Hj t.d_Hj
 m_Hj:mg "place_at"=U (.ref t.a_Hj)
 b_Hj:az K t.d_Hj ["sizes", "number"] []
 F_zu:Fun K "refuse_long" "refuse_long" gb t.a_zu t.d_zu
 m_zu:mg "refuse_long"=U (.ref t.a_zu)
 b_zu:az K t.d_zu ["count"] []
 F_MD:Fun K "places" "places" lH t.a_MD t.d_MD
 m_MD:mg "places"=U (.ref t.a_MD)
 b_MD:az K t.d_MD ["sizes"] []
 F_Eb:Fun K "is_within" "is_within" iW t.a_Eb t.d_Eb
 m_Eb:mg "is_within"=U (.ref t.a_Eb)
 b_Eb:az K t.d_Eb ["thing", "low", "high"] []
 F_Hq:Fun K "is_size" "is_size" mK t.a_Hq t.d_Hq
 m_Hq:mg "is_size"=U (.ref t.a_Hq)
 b_Hq:az K t.d_Hq ["thing"] []
 F_Hr:Fun K "is_axis" "is_axis" mM t.a_Hr t.d_Hr
 m_Hr:mg "is_axis"=U (.ref t.a_Hr)
 b_Hr:az K t.d_Hr ["thing"] []
 F_Hk:Fun K "are_axes" "are_axes" ir t.a_Hk t.d_Hk
 m_Hk:mg "are_axes"=U (.ref t.a_Hk)
 b_Hk:az K t.d_Hk ["thing"] []
 F_Ec:Fun K "kept_axis" "kept_axis" iV t.a_Ec t.d_Ec
 m_Ec:mg "kept_axis"=U (.ref t.a_Ec)
 b_Ec:az K t.d_Ec ["axis"] []
 F_vY:Fun K "__init__" "View.__init__" cS t.a_vY t.d_vY
 b_vY:az K t.d_vY ["self", "room", "first", "axes"] []
 F_zB:Fun K "sizes" "View.sizes" eY t.a_zB t.d_zB
 b_zB:az K t.d_zB ["self"] []
 F_zC:Fun K "paces" "View.paces" eZ t.a_zC t.d_zC
 b_zC:az K t.d_zC ["self"] []
 F_DU:Fun K "count" "View.count" gW t.a_DU t.d_DU
 b_DU:az K t.d_DU ["self"] []
 F_Ed:Fun K "cell" "View.cell" fX t.a_Ed t.d_Ed
 b_Ed:az K t.d_Ed ["self", "place"] []
 F_DV:Fun K "cells" "View.cells" gX t.a_DV t.d_DV
 b_DV:az K t.d_DV ["self"] []
 F_DW:Fun K "least" "View.least" fe t.a_DW t.d_DW
 b_DW:az K t.d_DW ["self"] []
 F_vZ:Fun K "greatest" "View.greatest" cR t.a_vZ t.d_vZ
 b_vZ:az K t.d_vZ ["self"] []
 F_Hs:Fun K "widened" "widened" jF t.a_Hs t.d_Hs
 m_Hs:mg "widened"=U (.ref t.a_Hs)
 b_Hs:az K t.d_Hs ["cells", "size", "pace"] []
 F_MI:NR K "whole" "whole" jW t.a_MI t.d_MI
 m_MI:mg "whole"=U (.ref t.a_MI)
 b_MI:az K t.d_MI ["sizes", "room"] []
 b_whole_1:az K t.d_MI ["sizes", "room"] [Ñ]
 F_Ee:Fun K "has_twice" "has_twice" iX t.a_Ee t.d_Ee
 m_Ee:mg "has_twice"=U (.ref t.a_Ee)
 b_Ee:az K t.d_Ee ["view"] []
 F_zh:Fun K "refuse_rooms" "refuse_rooms" fB t.a_zh t.d_zh
 m_zh:mg "refuse_rooms"=U (.ref t.a_zh)
 b_zh:az K t.d_zh ["one", "other"] []
 F_Ht:Fun K "is_loop" "is_loop" mL t.a_Ht t.d_Ht
 m_Ht:mg "is_loop"=U (.ref t.a_Ht)
 b_Ht:az K t.d_Ht ["thing", "many"] []
 F_Hl:Fun K "is_order" "is_order" fO t.a_Hl t.d_Hl
 m_Hl:mg "is_order"=U (.ref t.a_Hl)
 b_Hl:az K t.d_Hl ["sizes", "thing"] []
 F_zk:Fun K "refuse_order" "refuse_order" fC t.a_zk t.d_zk
 m_zk:mg "refuse_order"=U (.ref t.a_zk)
 b_zk:az K t.d_zk ["sizes", "order"] []
 F_sP:Fun K "refuse_sizes_unlike" "refuse_sizes_unlike" bW t.a_sP t.d_sP
 m_sP:mg "refuse_sizes_unlike"=U (.ref t.a_sP)
 b_sP:az K t.d_sP ["to", "source"] []
 F_vW:Fun K "place_by_steps" "place_by_steps" dJ t.a_vW t.d_vW
 m_vW:mg "place_by_steps"=U (.ref t.a_vW)
 b_vW:az K t.d_vW ["sizes", "order", "steps"] []
 F_Hv:Fun K "walk_of" "walk_of" fL t.a_Hv t.d_Hv
 m_Hv:mg "walk_of"=U (.ref t.a_Hv)
 b_Hv:az K t.d_Hv ["sizes", "order"] []
 F_MF:Fun K "looped" "looped" qC t.a_MF t.d_MF
 m_MF:mg "looped"=U (.ref t.a_MF)
 b_MF:az K t.d_MF ["store", "to", "source", "order"] []
 F_zm:Fun K "refuse_twice" "refuse_twice" fz t.a_zm t.d_zm
 m_zm:mg "refuse_twice"=U (.ref t.a_zm)
 b_zm:az K t.d_zm ["view"] []
 F_um:Fun K "places_written_anew" "places_written_anew" bX t.a_um t.d_um
 m_um:mg "places_written_anew"=U (.ref t.a_um)
 b_um:az K t.d_um ["to", "source", "spots"] []
 F_zv:Fun K "bound_pairs" "bound_pairs" gf t.a_zv t.d_zv
 m_zv:mg "bound_pairs"=U (.ref t.a_zv)
 b_zv:az K t.d_zv ["to", "source"] []
 F_ZH:Fun K "gap" "gap" JT t.a_ZH t.d_ZH
 m_ZH:mg "gap"=U (.ref t.a_ZH)
 b_ZH:az K t.d_ZH ["pair", "axis"] []
 F_zw:Fun K "comes_right" "comes_right" gc t.a_zw t.d_zw
 m_zw:mg "comes_right"=U (.ref t.a_zw)
 b_zw:az K t.d_zw ["pair", "order"] []
 F_MJ:Fun K "keeps" "keeps" mh t.a_MJ t.d_MJ
 m_MJ:mg "keeps"=U (.ref t.a_MJ)
 b_MJ:az K t.d_MJ ["to", "source", "order"] []
 F_zp:Fun K "helpful_loop" "helpful_loop" dv t.a_zp t.d_zp
 m_zp:mg "helpful_loop"=U (.ref t.a_zp)
 b_zp:az K t.d_zp ["pairs", "many"] []
 F_zb:Fun K "barring_pairs" "barring_pairs" bV t.a_zb t.d_zb
 m_zb:mg "barring_pairs"=U (.ref t.a_zb)
 b_zb:az K t.d_zb ["pairs", "many"] []
 F_DX:Fun K "loop_order" "loop_order" cI t.a_DX t.d_DX
 m_DX:mg "loop_order"=U (.ref t.a_DX)
 b_DX:az K t.d_DX ["to", "source"] []
 F_zc:Fun K "is_known_pair" "is_known_pair" g9 t.a_zc t.d_zc
 m_zc:mg "is_known_pair"=U (.ref t.a_zc)
 b_zc:az K t.d_zc ["thing", "sizes", "known"] []
 F_Ef:Fun K "bars_axis" "bars_axis" ni t.a_Ef t.d_Ef
 m_Ef:mg "bars_axis"=U (.ref t.a_Ef)
 b_Ef:az K t.d_Ef ["pairs", "axis"] []
 F_MM:Fun K "bars" "bars" AQ t.a_MM t.d_MM
 m_MM:mg "bars"=U (.ref t.a_MM)
 b_MM:az K t.d_MM ["to", "source", "some"] []
 F_zq:Fun K "refuse_count" "refuse_count" fD t.a_zq t.d_zq
 m_zq:mg "refuse_count"=U (.ref t.a_zq)
 b_zq:az K t.d_zq ["view", "many"] []
 F_vX:Fun K "__init__" "Store.__init__" dP t.a_vX t.d_vX
 b_vX:az K t.d_vX ["self", "values"] []
 F_vT:Fun K "all_values" "Store.all_values" cX t.a_vT t.d_vT
 b_vT:az K t.d_vT ["self"] []
 F_vR:Fun K "refuse_room" "Store.refuse_room" cD t.a_vR t.d_vR
 b_vR:az K t.d_vR ["self", "view"] []
 F_DY:Fun K "read" "Store.read" kS t.a_DY t.d_DY
 b_DY:az K t.d_DY ["self", "view"] []
 F_Eg:Fun K "put" "Store.put" i8 t.a_Eg t.d_Eg
 b_Eg:az K t.d_Eg ["self", "view", "values"] []
 F_Eh:Fun K "_law_draw" "_law_draw" i6 t.a_Eh t.d_Eh
 m_Eh:mg "_law_draw"=U (.ref t.a_Eh)
 b_Eh:az K t.d_Eh ["_law_script", "_law_k", "_law_many"] []
 F_DZ:Fun K "_law_whole" "_law_whole" gT t.a_DZ t.d_DZ
 m_DZ:mg "_law_whole"=U (.ref t.a_DZ)
 b_DZ:az K t.d_DZ ["_law_found"] []
 F_zx:Fun K "_law_digits" "_law_digits" gi t.a_zx t.d_zx
 m_zx:mg "_law_digits"=U (.ref t.a_zx)
 b_zx:az K t.d_zx ["_law_number", "_law_by", "_law_many"] []
 F_D0:Fun K "_law_sizes" "_law_sizes" gU t.a_D0 t.d_D0
 m_D0:mg "_law_sizes"=U (.ref t.a_D0)
 b_D0:az K t.d_D0 ["_law_script", "_law_most_here", "_law_wide"] []
 F_Ei:Fun K "_law_once" "_law_once" iZ t.a_Ei t.d_Ei
 m_Ei:mg "_law_once"=U (.ref t.a_Ei)
 b_Ei:az K t.d_Ei ["_law_script", "_law_sizes_here"] []
 F_zy:Fun K "_law_others" "_law_others" dW t.a_zy t.d_zy
 m_zy:mg "_law_others"=U (.ref t.a_zy)
 b_zy:az K t.d_zy ["_law_script", "_law_paces"] []
 F_D9:Fun K "_law_least" "_law_least" eW t.a_D9 t.d_D9
 m_D9:mg "_law_least"=U (.ref t.a_D9)
 b_D9:az K t.d_D9 ["_law_sizes_here", "_law_paces"] []
 F_Ej:Fun K "_law_most" "_law_most" fW t.a_Ej t.d_Ej
 m_Ej:mg "_law_most"=U (.ref t.a_Ej)
 b_Ej:az K t.d_Ej ["_law_sizes_here", "_law_paces"] []
 F_Ea:Fun K "_law_cells" "_law_cells" eX t.a_Ea t.d_Ea
 m_Ea:mg "_law_cells"=U (.ref t.a_Ea)
 b_Ea:az K t.d_Ea ["_law_first", "_law_sizes_here", "_law_paces"] []
 F_Hm:Fun K "_law_two" "_law_two" ki t.a_Hm t.d_Hm
 m_Hm:mg "_law_two"=U (.ref t.a_Hm)
 b_Hm:az K t.d_Hm ["_law_script", "_law_sizes_here"] []
 F_zz:Fun K "_law_called" "_law_called" gj t.a_zz t.d_zz
 m_zz:mg "_law_called"=U (.ref t.a_zz)
 b_zz:az K t.d_zz ["_law_way", "_law_store", "_law_one", "_law_other", "_law_order"] []
 F_Ek:Fun K "_law_word" "_law_word" fV t.a_Ek t.d_Ek
 m_Ek:mg "_law_word"=U (.ref t.a_Ek)
 b_Ek:az K t.d_Ek ["_law_way", "_law_store", "_law_one", "_law_other", "_law_order"] []
 F_Ho:Fun K "_law_due" "_law_due" kj t.a_Ho t.d_Ho
 m_Ho:mg "_law_due"=U (.ref t.a_Ho)
 b_Ho:az K t.d_Ho ["_law_way", "_law_bits"] []
 F_El:Fun K "_law_with" "_law_with" iY t.a_El t.d_El
 m_El:mg "_law_with"=U (.ref t.a_El)
 b_El:az K t.d_El ["_law_view", "_law_more", "_law_room"] []
 F_zA:Fun K "_law_unlike" "_law_unlike" gh t.a_zA t.d_zA
 m_zA:mg "_law_unlike"=U (.ref t.a_zA)
 b_zA:az K t.d_zA ["_law_view", "_law_cell"] []
 F_zr:Fun K "_law_numbers" "_law_numbers" fE t.a_zr t.d_zr
 m_zr:mg "_law_numbers"=U (.ref t.a_zr)
 b_zr:az K t.d_zr ["_law_script", "_law_one", "_law_other", "_law_order"] []
 F_law:Fun K "law" "law" iR t.a_law t.d_law
 m_law:mg "law"=U (.ref t.a_law)
 b_law:az K t.d_law ["_law_script"] []
 z_ValueError:mg "ValueError"=L
 z_all:mg "all"=L
 z_bool:mg "bool"=L
 z_enumerate:mg "enumerate"=L
 z_int:mg "int"=L
 z_isinstance:mg "isinstance"=L
 z_len:mg "len"=L
 z_list:mg "list"=L
 z_max:mg "max"=L
 z_min:mg "min"=L
 z_range:mg "range"=L
 z_reversed:mg "reversed"=L
 z_set:mg "set"=L
 z_sum:mg "sum"=L
 z_tuple:mg "tuple"=L
 z_zip:mg "zip"=L
variable {xs:G V}
local macro_rules | `(tactic| trivial) => `(tactic| first | exact Or.inl rfl | exact Or.inr rfl | exact Or.inr (Or.inl rfl) | exact Or.inr (Or.inr rfl) | assumption)
local macro_rules | `(tactic| simp! only [$xs,*]) => do
  let ys := xs.getElems.map λ x => (⟨x.raw⟩ : Lean.TSyntax `Lean.Parser.Tactic.simpLemma)
  let zs ← ("!reduceIte !fM !M8 !M7 !M6 !M5 !M4 !M3 !M1 !M0 !MZ !MY !HX !HW !HV !HU !HS !HR !HQ !HP !HN !HM !HL !A4 !Td !SM !U5 !S8 !SI !yS !vO !vN !Qf !Pw !QD !PD !Tc !SK !Qm !SQ !Qv !Px !GY !Mq !LF !DS !DR !DQ !DP !DO !LH !To !SR !LB !Pr !Pu !Mp !LC !Jo !oM !QB !PC !Tg !Qi !PR !Qk !Tf !SV !PN !PM !yT !vQ !uk !vP !DL !DK !DJ !DI !DH !DG !DF !DB !DA !Dz !Dy !Du !Dt !Ds !Dx !Dw !Dv !Dr !Dq !Dp !DE !DD !DC !Qy !Tp !SS !Qx !PB !QC !Dk !Qa !yR !Mc !P5 !LN !GU !GV !QH !Th !SW !aA !Py !S9 !Mx !DN !Qn !QF !S7 !GG !P0 !Pq !GO !GD !L8 !Tq !Qr !GZ !J1 !Ti !Tj !Tn !PU !Pe !LG !L9 !Lz !Jq !yZ !eh !ko !ef !rD !fG !GX !xx !Jp !yU !rC !rB !rA !BJ !DM !P1 !P2 !P4 !SJ !Di !Mf !LA !Ta !Tb !PJ !PQ !U9 !LU !Mh !GI !Qg !Qh !Jn !Te !SX !LV !P6 !P7 !QG !L6 !PL !Qw !Mv !PV !LY !LX !L4 !LZ !S3 !QE !aK !aH !fq !LM !LL !Ml !Mm !Qo !PY !L7 !Ma !Mb !LP !yX !yW !yV !GQ !Mi !LR !Mj !Dn !Dm !LS !SG !Ll !PZ !Dh !SH !GR !GS !Qj !SN !GH !Mn !Mo !Dj !Qp !Qq !Mz !Md !P8 !Pt !SO !Qu !LD !Qs !Qt !LK !Pp !Po !Pn !Pm !Pl !Pk !Pj !Ph !Pg !Pf !Lx !Lw !Lv !Lu !Ls !Lr !Lq !Lp !Lo !Ln !Lm !S0 !U7 !U6 !GN !LO !Mu !LW !Mg !LQ !Mr !Ms !Mt !GL !MB !G9 !Qc !PX !Me !GJ !Ql !SY !GC !L5 !S4 !S5 !U8 !S6 !Mw !Qz !QA !Pz !SU !GK !Qd !Qe !LJ !GW !GF !Ly fM dH aF Aj FU FT Ha FP Ad aj Ks Bh lY Av Kv OL Kw Kt Ku FL HF MU HE HD Vg FX Ik Nh TN TM TL TK TJ TH fN xH fP lM eG fg Nv Q4 Q3 Option.isSome_some Option.isSome_none Option.map_some List.length_cons List.length_nil List.length_map List.map_cons List.map_nil and_true true_and and_self implies_true reduceCtorEq decide_true decide_false Bool.not_true Bool.not_false if_true if_false decide_eq_true_eq Bool.false_eq_true Bool.not_eq_true' decide_eq_false_iff_not Bool.and_true Bool.true_and Bool.and_self Bool.and_eq_true Int.reduceToNat Int.reducePow Int.reduceMul Int.reduceAdd Int.reduceSub Int.reduceNeg Int.reduceLT Int.reduceLE Int.reduceEq Int.reduceNe Int.reduceDiv Int.reduceMod Nat.reduceAdd Nat.reduceLeDiff Nat.reduceLT Nat.reduceMul Nat.reducePow gt_iff_lt ge_iff_le ne_eq false_implies true_implies eq_self String.reduceEq Int.cast_ofNat_Int not_true_eq_false not_false_eq_true false_and and_false List.cons_append List.nil_append List.append_nil Tr J4".splitOn " ").toArray.mapM λ s => if s.startsWith "!" then `(Lean.Parser.Tactic.simpLemma| ↓ $(Lean.mkIdent (s.replace "!" "").toName):ident) else `(Lean.Parser.Tactic.simpLemma| $(Lean.mkIdent s.toName):ident)
  `(tactic| simp (config := { failIfUnchanged := false, maxDischargeDepth := 30, maxSteps := 10000000 }) only [$zs,*, $ys,*, *])
local macro_rules | `(%[$xs,*|$k:num]) => do
  let a := xs.getElems
  let s (i : Nat) : String := a[i]!.raw.getId.toString
  let I (n : String) : Lean.TSyntax `term := ⟨(Lean.mkIdent n.toName).raw⟩
  let b ← a.mapM λ x => match x.raw.isNatLit? with
    | some 99 => `(%[0|2])
    | some _ => `(%[$x|0])
    | none => pure x
  match k.getNat with
  | 67 => `($(a[0]!) (P := $(I "P")) (w := $(I "w")) (base := $(I "base")) $(I "T"))
  | 0 => `(@pvN _ $(a[0]!) _ _ (by rfl) (by trivial) (by decide) (by decide))
  | 1 => if a.size = 1 then `(@NL _ _ _ _ _ $(b[0]!) (@cZ _) (by rfl)) else `(@NL _ _ _ _ _ $(b[0]!) $(a[1]!) (by rfl))
  | 2 => `(@gI _ _ _ _)
  | 7 => `(by trivial)
  | 8 => `(by omega)
  | 3 => `(@BB _ _ _ _ _ _ _ _ _ _ _ _ _ _ _ _ _ $(I ("G_" ++ s 0)) ($(I "hr.mono") (by decide)) (by rfl) $(I ("T.m_" ++ s 0)) $(I ("T.F_" ++ s 0 ++ ".kp")) $(I ("T.b_" ++ s 0)) .nil aZ $(a[1]!) (by decide) (by rfl) (by rfl) (by rfl))
  | 4 => `(@gH _ _ $(a[0]!) _ _ _ _ ($(a[1]!)).nd rfl (Or.inl rfl) $(b[2]!) (by rfl) (by trivial))
  | 5 => `(@Bz _ _ $(a[0]!) _ ($(a[1]!)).nd rfl (Or.inl rfl) (by trivial))
  | 6 => `(@lL _ _ _ _ _ _ _ $(Lean.Syntax.mkStrLit (s 0)) _ $(a[1]!) (by rfl) $(I ("T.z_" ++ s 0)) (by decide +kernel) $(a[2]!) (by decide) (by decide) (by rfl) (by rfl))
  | 15 => `(@JV _ _ _ _ _ _ _ du $(b[0]!) $(b[1]!) (λ _ _=>J))
  | 18 => `(@CK _ _ _ _ _ $(b[0]!) $(b[1]!) ∅)
  | 19 => `(@KN _ _ _ _ $(b[0]!) ∅)
  | 22 => `(@La _ _ _ _ _ $(b[0]!) J)
  | 24 => `(@OX _ _ _ _ _ _ _ _ $(b[0]!) $(b[1]!) $(b[2]!) $(b[3]!) (by intros;rfl))
  | 25 => `(@Lb _ _ _ _ _ _ _ _ _ _ _ $(b[0]!) $(b[1]!) $(b[2]!) $(b[3]!) $(b[4]!) $(b[5]!) $(b[6]!) (by intros;rfl))
  | 26 => `(@KH _ _ _ $(b[0]!) (by intros;rfl))
  | 29 => `(@O0 _ _ _ _ _ $(b[0]!) $(b[1]!) ∅ ∅)
  | 33 => `(@CM _ _ _ _ _ _ _ _ _ $(b[0]!) ∅ $(b[1]!) nofun $(b[2]!) ⋯ ⋯ ∅ ∅)
  | 34 => `(@CJ _ _ _ _ _ _ ∅ $(b[0]!) $(b[1]!) ∅)
  | 36 => `(@Gj _ _ _ _ _ _ _ _ _ _ yg $(b[0]!) $(b[1]!) $(b[2]!))
  | 40 => `(@Sr _ _ _ _ _ _ _ _ _ _ _ _ $(b[0]!) $(b[1]!) $(b[2]!) $(b[3]!) $(b[4]!) $(b[5]!) ∅ ∅ ∅ ∅ ∅)
  | 43 => `(@OY _ _ _ _ _ _ _ _ _ ∅ $(b[0]!) $(b[1]!) ∅ ∅)
  | 44 => `(@Sq _ _ _ _ _ _ gJ $(b[0]!))
  | 66 => `(@KJ _ _ _ _ _ _ _ _ _ _ _ _ _ $(b[0]!) $(b[1]!) $(b[2]!) $(b[3]!) $(b[4]!) J $(b[5]!) $(b[6]!) $(b[7]!) $(b[8]!) $(b[9]!) $(b[10]!) ∅ (by intros;rfl) %[0|7])
  | 51 => `(%[$(a[0]!),_,(show List.Nodup (($(a[1]!)) : List Str) from by decide +kernel),rfl,(Or.inl rfl),%[0|7]|17])
  | 201 => `(($(a[0]!)).binds (ps := $(a[1]!)) (λ _ _ _ _ _ _ => Rf (λ _ _ _ _ => rfl)))
  | 202 => `(($(a[0]!)).binds (ps := $(a[1]!)) (λ _ _ _ _ _ _ => Um (λ _ _ _ _ _ => rfl)))
  | 203 => `(($(a[0]!)).binds (ps := $(a[1]!)) (λ _ _ _ _ _ _ => iP (λ _ _ => rfl)))
  | 204 => `(($(a[0]!)).binds (ps := $(a[1]!)) (λ _ _ _ _ _ _ => nX (λ _ => rfl)))
  | 205 => `(($(a[0]!)).binds (ps := $(a[1]!)) (λ _ _ _ _ _ _ => uB (λ _ _ _ => rfl)))
  | 45 => `(some (.ref $(a[0]!)))
  | 46 => `(some (.lst (List.map V.int $(a[0]!))))
  | 47 => `(some (.int $(a[0]!)))
  | 48 => `(List (Int × Int))
  | 49 => `(aT $(I "P") $(I "w") $(I "K") $(I "mg") $(I "base") CX0 $(a[0]!) $(I ("t.a_" ++ s 1)) $(I ("t.d_" ++ s 1)))
  | 50 => do
    let J (n : String) : Lean.Ident := Lean.mkIdent n.toName
    if a[0]!.raw.isNatLit? == some 1 then `(fun $(J "c"):ident $(J "A"):ident $(J "o"):ident $(J "s'"):ident $(J "H"):ident $(J "vs"):ident $(J "Q"):ident $(J "E"):ident $(J "hr"):ident $(J "h"):ident => ?_) else `(fun $(J "c"):ident $(J "A"):ident $(J "o"):ident $(J "s"):ident $(J "H"):ident $(J "vs"):ident $(J "Q"):ident $(J "E"):ident $(J "hr"):ident $(J "h"):ident => ?_)
  | 53 => do
    let vs ← match a[1]! with | `([$v,*]) => pure v.getElems | _ => pure #[]
    let ws ← vs.mapM λ x => `(some ($x))
    let ns ← (List.replicate (a[2]!.raw.isNatLit?.getD 0) 0).toArray.mapM λ _ => `(none)
    let us := ws ++ ns
    `(show av $(a[0]!) $(a[1]!) = [$us,*] from rfl)
  | 60 => `(%[$(a[0]!),$(I ("T." ++ s 1)),$(I ("T." ++ s 2)),$(I ("G_" ++ s 3)),($(I "hr.mono") (by decide)),$(I ("T.b_" ++ s 3)),.nil,$(a[4]!),$(a[5]!),(by rfl),(by rfl),(by rfl),(by rfl)|42])
  | 61 => `(%[$(a[0]!),$(I ("T." ++ s 1)),$(I ("T." ++ s 2)),$(I ("G_" ++ s 3)),($(I "hr.mono") (by decide)),$(I ("T.b_" ++ s 3)),.nil,$(a[4]!),(by rfl),(by rfl)|23])
  | 62 => `(%[$(I ("T." ++ s 0)),$(I ("G_" ++ s 1)),($(I "hr.mono") (by decide)),(by rfl),$(I ("T." ++ s 2)),$(I ("T.b_" ++ s 1)),.nil,$(a[3]!),$(a[4]!),(by decide),(by rfl),(by rfl),(by rfl)|65])
  | 68 => `(%[$(I ("G_" ++ s 0)),($(I "hr.mono") (by decide)),(by rfl),$(I ("T.m_" ++ s 0)),$(I ("T.F_" ++ s 0 ++ ".kp")),$(I ("T.b_" ++ s 0)),.nil,$(a[1]!),$(a[2]!),(by decide),(by rfl),(by rfl),(by rfl)|28])
  | 63 => do
    let n := a[0]!.raw.isNatLit?.getD 0
    let k := a[1]!.raw.isNatLit?.getD 0
    let rs ← (List.replicate k 0).toArray.mapM λ _ => `(rfl)
    let mut r ← if k = 1 then `(λ h => by cases h; exact rfl) else `(λ h => by cases h; exact ⟨$rs,*⟩)
    for _ in List.replicate n 0 do
      r ← `(λ _ => $r)
    return r
  | 70 => do
    let l ← match a[2]!.raw.isNatLit?.getD 0 with
      | 1 => `(kK)
      | 2 => `(gB)
      | 3 => `(Ae)
      | 4 => `(Q6)
      | _ => Lean.Macro.throwUnsupported
    let n := a[2]!.raw.isNatLit?.getD 0
    let mut r ← `(rfl)
    for _ in List.replicate n 0 do r ← `(λ _ => $r)
    `($(I ("T.F_" ++ s 0 ++ ".ok")) $(a[1]!) (λ _ _ _ _ h => $l h $r) %[0|50])
  | 72 => `(λ _ _ _ _ _ => $(a[0]!))
  | k => do
    let z (w : String) := ((w.splitOn ";").map (·.splitOn " ")).find? (·.head! == toString k)
    if let some r := z "9 jB 5 b;10 p8 3 b;11 gD 8 b;12 AS 4 b;13 Ge 8 b;14 JU 8 b;16 K0 4 b;17 Bz 2 a;20 OZ 4 b;21 KZ 5 b;23 CL 18 a;27 bL 3 a;28 BB 17 a;30 gy 3 a;31 OV 4 b;32 Sm 7 b;35 OS 4 b;37 KQ 3 b;38 OT 7 b;39 Ld 7 b;41 Lc 8 b;42 Gk 21 a;65 Gm 18 a" then
      let us ← (List.replicate r[2]!.toNat! 0).toArray.mapM λ _ => `(_)
      let xs := us ++ if r[3]! == "b" then b else a
      return ← `(@$(Lean.mkIdent r[1]!.toName):ident $xs*)
    let some r := z "100 _law_axis _law_script _law_sizes_here _law_one _law_other _law_writes _law_reads _law_cell _law_bits _law_more _law_first _law_second _law_axes _law_order _law_odd _law_held _law_store _law_way _law_beside _law_there _law_left _law_right;101 _law_script _law_sizes_here _law_one _law_other _law_writes _law_reads _law_cell _law_bits _law_more _law_first _law_second _law_axes _law_order _law_odd _law_held _law_store _law_way _law_beside _law_there _law_left _law_right;102 _law_part _law_script _law_sizes_here _law_one _law_other _law_writes _law_reads _law_cell _law_bits _law_more _law_first _law_second _law_axes _law_order _law_odd _law_held _law_store _law_way _law_beside _law_there _law_left _law_right;103 _law_k _law_script _law_sizes_here _law_one _law_other _law_writes _law_reads _law_cell _law_bits _law_more _law_first _law_second _law_axes _law_order _law_odd _law_held _law_store _law_way _law_beside _law_there _law_left _law_right;104 _law_size _law_pace _law_sizes_here _law_paces;105 _law_way _law_store _law_one _law_other _law_order;106 size pace self;107 to source left many order loop used;108 pair pairs many chosen axis above below !pair;109 _law_sizes_here _law_paces;110 _law_k _law_first _law_sizes_here _law_paces _law_found _law_size _law_pace _law_longer _law_cell;111 _law_first _law_sizes_here _law_paces _law_found _law_size _law_pace _law_longer _law_cell;112 axis way to source left many order loop used;113 _law_j _law_way _law_store _law_one _law_other _law_order e _law_flags _law_k;114 to source;115 to source order;116 _law_way _law_store _law_one _law_other _law_order e _law_flags _law_k;117 pairs many chosen axis above below pair;118 _law_digit _law_script _law_paces _law_way _law_k _law_axis;119 sizes order;120 loop sizes thing many;121 loop sizes order walk;122 _law_script _law_sizes_here;123 store to source order;124 self room first axes;125 pair to source order;126 sizes order walk;127 pair to source left many order loop used;128 axis to source left many order loop used;129 _law_script _law_paces _law_way _law_k _law_axis;130 to source spots written found place cell;131 _law_view _law_more _law_room;132 pair pairs many axis gaps low high;133 _law_script _law_one _law_other _law_order;134 sizes thing;135 number size sizes thing;136 store to source order values place;137 number pace self place;138 number cells size pace found cell;139 self view;140 to source some;141 sizes number" | Lean.Macro.throwUnsupported
    let ys : Array Lean.Term := (r.drop 1).toArray.map λ x => ⟨(Lean.Syntax.mkStrLit x).raw⟩
    `([$ys,*])
local macro_rules | `(∅) => `(by rfl)
local macro_rules | `(⋯) => `(by decide)
local macro_rules | `(tactic| ac_rfl) => `(tactic| simp! only [and_true])
local macro_rules | `(tactic| exists $xs,*) => do
  let a := xs.getElems
  let e := a.back!
  let mut r ← `(tactic| skip)
  for x in a.pop do
    let i : Lean.Ident := ⟨x.raw⟩
    r ← `(tactic| ($r; replace $i := λ (_ : Unit) => ($i ()).ext $e))
  return r
local macro_rules | `(tactic| exists $x:ident) => `(tactic| replace $x := λ (_ : Unit) => $x)
local macro_rules | `(tactic| intros $x:ident $xs*) => do
  let ys := #[x.raw] ++ xs.map (·.raw)
  let mut r ← `(tactic| skip)
  for i in List.range (ys.size / 2) do
    let g : Lean.Ident := Lean.mkIdent ("G_" ++ ys[2*i]!.getId.toString).toName
    let o : Lean.Term := ⟨ys[2*i+1]!⟩
    r ← `(tactic| ($r; have $g:ident := %[$o|67]))
  return r
section
variable {P:Ë}{w:Ï}{K:PySem.W.Frag}{base:Í}
def AJ(K:Æ)(a:Z)(ns:G B):Sp:=λ vs H Q E=>∃ (k:B) (m:B),vs=[.ref a,.int k,.int m]/\(SqL K H a (ns.map V.int)/\ns.length<=63/\(0<=k/\k<1000)/\0<m/\∀ z:B,0<=z->z<m->Q (.int z) H)
theorem bg(K:Æ)(a:Z)(ns:G B)(k:B)(m:B)(H:Hp)(Q:VK)(E:XK):AJ K a ns [.ref a,.int k,.int m] H Q E=(SqL K H a (ns.map V.int)/\ns.length<=63/\(0<=k/\k<1000)/\0<m/\∀ z:B,0<=z->z<m->Q (.int z) H):=gv (f:=λ (k:B) (m:B)=>[.ref a,.int k,.int m]) %[4,2|63] k m
theorem dE(T:Tx K mg t)(a:Z)(ns:G B):%[1,Eh|49] ["_law_script", "_law_k", "_law_many"] (AJ K a ns):=by
 refine %[Eh,fZ,2|70]
 ·let(k,m,rfl,hS,hl,(af,aS),hm,kk):=h;let fin:∀ z:B,Q (.int (z % m)) H:=λ z=>kk _ (Xk _ %[|8]) (WY _ hm)
  refine{_,(jB (JU (uW Oe (pv 1) (lL (id := "len") ff ∅ T.z_len nofun (NL (pv 0) cZ)) (ar _))
   (p8 (AS (gD lV (JV u4 (pv 0) (pv 1) (λ _ _=>J)) (pv 2))))
   au)
  (jB (gH (i:=3) fZ.nd J (Or.inl J) (gD wL (gD kO (gD kO (pv 1) (pv 1)) gI) gI))
  (jB (JU (uW Of (lL (id := "len") ff ∅ T.z_len nofun (NL (pv 0) cZ)) gI (ar _))
   (jB (gH (i:=4) fZ.nd J (Or.inl J) (gD lV (JV u4 (pv 0) (gD lV (pv 1) (lL (id := "len") ff ∅ T.z_len nofun (NL (pv 0) cZ))) (λ _ _=>J)) gI))
   (p8 (gH (i:=3) fZ.nd J (Or.inl J) (gD wL (gD kO (pv 4) (gD wL gI (gD kO (gD kO gI (pv 1)) (pv 1)))) (gD kO (pv 1) gI)))))
   au)
  (p8 (AS (gD lV (gD lV (gD kO (gD lV (pv 3) gI) gI) gI) (pv 2))))))),?_}
  refine{_,J,_,J,a,_,J,.inl hS,_,_,J,J,_,J,?_};refine UD (λ h=>?_) (λ h=>?_)
  ·let h1:k<(ns.length:B):=by simpa using h
   let(z,hz,_):=qT ns k af h1;exact{_,J,_,J,a,_,k,_,J,J,hS,hz,_,J,_,_,J,J,hm,fin _}
  ·refine{_,J,_,J,_,_,J,J,.inl {by omega,by omega},_,_,J,J,.inr {by decide,by decide},_,_,J,J,?_};refine{_,J,a,_,J,.inl hS,_,_,J,J,_,J,?_};refine UD (λ h2=>?_) (λ h2=>?_)
   ·let h3:0<(ns.length:B):=by simpa using h2
    let h4:(0:B)<((ns.map V.int).length:B):=by simpa using h3
    let(z,hz,_):=qT ns (k % ((ns.map V.int).length:B)) (Xk _ %[|8]) (by have:=WY k h4;simpa using this);refine{_,J,_,J,_,J,a,_,J,.inl hS,_,_,J,J,h4,a,_,_,_,J,J,hS,hz,_,_,J,J,(by first|decide|(show (0:B)<_;decide)),?_};refine{_,J,_,J,_,_,J,J,.inl {by decide,by decide},_,J,_,_,J,J,.inr {by omega,by omega},_,_,J,J,_,_,J,J,?_,?_}
    ·refine .inl {?_,?_}
     ·have:=Xk z (show (999999937:B)≠0 by decide);omega
     ·have:=WY z (show (0:B)<999999937 by decide);omega
    refine{_,J,_,_,J,J,.inr {by decide,by decide},_,_,J,J,?_};exact{_,J,_,_,J,J,(by first|decide|(show (0:B)<_;decide)),_,_,J,J,.inr {by decide,by decide},_,_,J,J,(by first|decide|(show (0:B)<_;decide)),_,J,_,_,J,J,hm,fin _}
   ·exact{_,J,_,_,J,J,(by first|decide|(show (0:B)<_;decide)),_,_,J,J,.inr {by decide,by decide},_,_,J,J,(by first|decide|(show (0:B)<_;decide)),_,J,_,_,J,J,hm,fin _}
def pZ  : Sp:=λ vs H Q E=>∃ (x:V),vs=[x]/\(aJ (isW H x) (kE4 H Q))
theorem bH  (x:V) (H:Hp) (Q:VK) (E:XK):pZ  [x] H Q E=(aJ (isW H x) (kE4 H Q)):=kJ (f:=λ (x:V)=>[x]) %[2,1|63] x
theorem qZ(T:Tx K mg t):pY P w K mg base CX0 1 t.a_DZ t.d_DZ ["_law_found"] pZ:=by
 refine %[DZ,uv,1|70]
 ·let(x,rfl,h):=h;let(b,hb,k):=aq h;clear h;rw[J1] at k;refine{_,%[%[%[%[isinstance,cu,%[0,%[(@er _ _ (.ty "int") (.type "int") _ ∅ T.z_int nofun J ⋯ ⋯)|1]|1]|6],(@lU _ _ _ _ _ (@uX _ _ _ _ %[isinstance,cu,%[0,%[(@er _ _ (.ty "bool") (.type "bool") _ ∅ T.z_bool nofun J ⋯ ⋯)|1]|1]|6]))|39]|12]|10],?_};rw[%[["_law_found"],[x],0|53]]
  cases x with
  | int i=>cases hb;ac_rfl
  | bl i=>cases hb;ac_rfl
  | non=>cases hb;ac_rfl
  | str i=>cases hb;ac_rfl
  | ref p=>
   let(rfl,o,ho,ht):=ft hb
   rcases ht with ht|ht|ht<;>ac_rfl
  | _=>cases hb
theorem eC(T:Tx K mg t):pY P w K mg base CX0 1 t.a_Hf t.d_Hf ["thing"] pZ:=by
 refine %[Hf,zY,1|70]
 ·let(x,rfl,h):=h;let(b,hb,k):=aq h;clear h;rw[J1] at k;refine{_,%[%[%[%[isinstance,cu,%[0,%[(@er _ _ (.ty "int") (.type "int") _ ∅ T.z_int nofun J ⋯ ⋯)|1]|1]|6],(@lU _ _ _ _ _ (@uX _ _ _ _ %[isinstance,cu,%[0,%[(@er _ _ (.ty "bool") (.type "bool") _ ∅ T.z_bool nofun J ⋯ ⋯)|1]|1]|6]))|39]|12]|10],?_};rw[%[["thing"],[x],0|53]]
  cases x with
  | int i=>cases hb;ac_rfl
  | bl i=>cases hb;ac_rfl
  | non=>cases hb;ac_rfl
  | str i=>cases hb;ac_rfl
  | ref p=>
   let(rfl,o,ho,ht):=ft hb
   rcases ht with ht|ht|ht<;>ac_rfl
  | _=>cases hb
def kSz(F:G B->Prop):G B->Prop:=λ ns=>fk ns/\F ns
def rO(F:G B->Prop)(ns:G B):kSz F ns=(fk ns/\F ns):=rfl
def R5(H:Hp)(Q:VK):G B->Prop:=λ ns=>Q (.int (ae ns)) H
def oH(H:Hp)(Q:VK)(ns:G B):R5 H Q ns=Q (.int (ae ns)) H:=rfl
def uS  : Sp:=λ vs H Q E=>∃ (p:Z),vs=[.ref p]/\(aJ (aF H p) (jn (kSz (R5 H Q))))
theorem gR  (p:Z) (H:Hp) (Q:VK) (E:XK):uS  [.ref p] H Q E=(aJ (aF H p) (jn (kSz (R5 H Q)))):=kJ (f:=λ (p:Z)=>[.ref p]) %[2,1|63] p
theorem eE(T:Tx K mg t):pY P w K mg base CX0 1 t.a_Hg t.d_Hg ["sizes"] uS:=by
 refine %[Hg,iF,1|70]
 ·let(p,rfl,h):=h;let(xs,hp,ns,rfl,hs,k):=aq h;replace hp:=bO hp;rw[oH] at k;refine{_,%[%[1,iF,99|4],%[%[VX,%[0|20],%[2,iF|5],%[%[1,iF,%[BF,1,2|11]|4]|10]|24],%[%[1|12]|10]|9]|9],?_};rw[%[["sizes", "count", "size"],[.ref p],2|53]];ac_rfl;refine dj (xs:=ns.map V.int) (λ i σ H'=>∃ v:Ü V,σ=[%[p|45],U (.int (ae (ns.take i))),v]/\H'=H) ⟨_,J,J⟩ (λ i σ H' _ ⟨_,_,e⟩=>by subst e;exact hp) ?_ ?_
  ·rintro i x _ _ hi ⟨v,rfl,rfl⟩;rw[VS] at hi;let(z,hz,rfl):=VH.mp hi;let e:=kl ns i z hz;let b1:=(hs.take i).prod;let b2:=hs.2 z (V8 hz)
   let c1:(ae (ns.take i)).natAbs<2 ^ 256:=by
    generalize ae (ns.take i)=y at b1;have:(1000000000:B) ^ 8<2 ^ 256:=by decide
    omega
   let c2:z.natAbs<2 ^ 256:=by omega
   clear b1 b2;simp! only[↓aA,xR];exact{_,J}
  ·rintro _ _ ⟨v,rfl,rfl⟩;rw[VD,WN];ac_rfl
def qm  : Sp:=λ vs H Q E=>∃ (i:B) (lo:B) (hi:B),vs=[.int i,.int lo,.int hi]/\(Q (.bl (decide (lo<=i) && decide (i<=hi))) H)
theorem pC  (i:B) (lo:B) (hi:B) (H:Hp) (Q:VK) (E:XK):qm  [.int i,.int lo,.int hi] H Q E=(Q (.bl (decide (lo<=i) && decide (i<=hi))) H):=wC (f:=λ (i:B) (lo:B) (hi:B)=>[.int i,.int lo,.int hi]) %[6,3|63] i lo hi
theorem kU(T:Tx K mg t):%[2,Eb|49] ["thing", "low", "high"] qm:=by
 intros Hf eC;refine %[Eb,wx,3|70]
 ·let(i,lo,hi,rfl,k):=h;refine{_,%[%[%[%[Hf,%[0|1]|3],(@lU _ _ _ _ _ (@sI _ _ _ _ _ _ _ _ _ _ _ _ Am Am %[1|0] %[0|0] %[2|0] ∅))|39]|12]|10],?_};rw[%[["thing", "low", "high"],[.int i,.int lo,.int hi],0|53]]
  by_cases h0:lo<=i
  ·rw[Wk h0,Bool.true_and] at k;simp! only[↓bH]
  ·rw[Wl h0,YW] at k;simp! only[↓bH]
def Az  : Sp:=λ vs H Q E=>∃ (i:B),vs=[.int i]/\(Q (.bl (decide (1<=i) && decide (i<=1000000000))) H)
theorem Ir  (i:B) (H:Hp) (Q:VK) (E:XK):Az  [.int i] H Q E=(Q (.bl (decide (1<=i) && decide (i<=1000000000))) H):=kJ (f:=λ (i:B)=>[.int i]) %[2,1|63] i
theorem yI(T:Tx K mg t):%[3,Hq|49] ["thing"] Az:=by
 intros Eb kU;refine %[Hq,ET,1|70]
 ·let(i,rfl,k):=h;refine{_,%[%[%[Eb,%[0,%[99,%[(@ek _ _ (.int 1000000000) _ _ ∅ T.m_MOST_SIZE.choose_spec {_,J} ⋯)|1]|1]|1]|3]|12]|10],?_};rw[%[["thing"],[.int i],0|53]];simp! only[↓pC]
abbrev yd  (p:Z) (H:Hp) (Q:VK) (E:XK):Prop:=∃ a:B × B,H p=U (.tup [.int a.1,.int a.2])/\1<=a.1/\a.1<=1000000000/\Q (.bl Y) H
def AL  : Sp:=λ vs H Q E=>∃ (p:Z),vs=[.ref p]/\(yd  p H Q E)
theorem IA  (p:Z) (H:Hp) (Q:VK) (E:XK):AL  [.ref p] H Q E=(yd  p H Q E):=kJ (f:=λ (p:Z)=>[.ref p]) %[2,1|63] p
theorem yK(T:Tx K mg t):%[4,Hr|49] ["thing"] AL:=by
 intros Hq yI Hf eC;refine %[Hr,EV,1|70]
 ·let(p,rfl,a,hp,h1,h2,k):=h;refine{_,%[%[%[%[isinstance,cu,%[0,%[(@er _ _ (.ty "tuple") (.type "tuple") _ ∅ T.z_tuple nofun J ⋯ ⋯)|1]|1]|6],%[%[(br hr.units),%[len,aB,%[0|1]|6],99,(ar _)|41],%[%[Hq,%[%[0,99|15]|1]|3],(@lU _ _ _ _ _ %[Hf,%[%[0,99|15]|1]|3])|39]|39]|39]|12]|10],?_};rw[%[["thing"],[.ref p],0|53]];simp! only[↓Ir,↓bH]
abbrev ya  (p:Z) (H:Hp) (Q:VK) (E:XK):Prop:=∃ a:B × B,H p=U (.tup [.int a.1,.int a.2])/\∀ (r:Z) (H':Hp),H r=L->Ext H H'->H' r=U (.tup [.int (ay a).1,.int (ay a).2])->Q (.ref r) H'
def AH  : Sp:=λ vs H Q E=>∃ (p:Z),vs=[.ref p]/\(ya  p H Q E)
theorem Iy  (p:Z) (H:Hp) (Q:VK) (E:XK):AH  [.ref p] H Q E=(ya  p H Q E):=kJ (f:=λ (p:Z)=>[.ref p]) %[2,1|63] p
theorem uc(T:Tx K mg t):%[1,Ec|49] ["axis"] AH:=by
 refine %[Ec,wu,1|70]
 ·let(p,rfl,a,hp,k):=h;refine{_,%[%[%[%[%[0,99|15],%[(@qE _ _ _ _ _ _ _ _ %[nZ,%[0,99|15],99,(ar _)|13] %[0,99|15] %[|2])|1]|1]|21]|12]|10],?_};rw[%[["axis"],[.ref p],0|53]];let e1:(ay a).1=a.1:=rfl
  by_cases h1:1<a.1
  ·let e2:(ay a).2=a.2:=V7 h1;rw[e1,e2] at k;ac_rfl;exact λ r H' h e h'=>k r H' h e h'
  ·let e2:(ay a).2=0:=VY h1;rw[e1,e2] at k;ac_rfl;exact λ r H' h e h'=>k r H' h e h'
abbrev ye  (p:Z) (H:Hp) (Q:VK) (E:XK):Prop:=∃ axs:%[|48],bP H p (axL axs)/\bY axs/\∀ H',Ext H H'->Q (.bl Y) H'
def AM  : Sp:=λ vs H Q E=>∃ (p:Z),vs=[.ref p]/\(ye  p H Q E)
theorem IB  (p:Z) (H:Hp) (Q:VK) (E:XK):AM  [.ref p] H Q E=(ye  p H Q E):=kJ (f:=λ (p:Z)=>[.ref p]) %[2,1|63] p
theorem vF(T:Tx K mg t):%[5,Hk|49] ["thing"] AM:=by
 intros Hr yK;refine %[Hk,Ac,1|70]
 ·let(p,rfl,axs,(ys,hp,al),ha,k):=h;refine{_,%[%[%[%[isinstance,cu,%[0,%[(@er _ _ (.ty "list") (.type "list") _ ∅ T.z_list nofun J ⋯ ⋯)|1]|1]|6],%[%[Am,%[len,aB,%[0|1]|6],(@ek _ _ (.int 8) _ _ ∅ T.m_MOST_AXES.choose_spec {_,J} ⋯),(ar _)|41],(@lU _ _ _ _ _ %[all,gP,%[%[(["axis", "thing"]),(1),(aD (aa ir) ["thing"] J J nofun),%[0|20],%[%[(0),["axis", "thing"]|51]|72],%[(@aI _)|72],%[%[Hr,%[0|1]|3]|72]|25]|1]|6])|39]|39]|12]|10],?_};rw[%[["thing"],[.ref p],0|53]];let hl:ys.length=axs.length:=by rw[al.1];unfold axL;rw[length_map]
  let a6:(axs.length:B)<=8:=by have:=ha.1;omega
  ac_rfl;refine bc ys (λ _=>Y) (λ _=>.bl Y) (λ z x H'=>x=z/\H' p=U (.lst ys)) (gp hp).1 (gp hp).2 (ao %[|8]) ?_ ?_
  ·intro D z x H' N1 N0 hz hD e ⟨hx,_⟩ k1 _;subst hx;let(i,hi,rfl):=YY hz;let af:i<axs.length:=by rw[←hl];exact hi
   let(q,aX,a3):=al.2 i [axs[i].1,axs[i].2] ys[i] (by unfold axL;rw[getElem?_map,getElem?_eq_getElem af];rfl) (getElem?_eq_getElem hi);let hb:=ha.2 _ (getElem_mem af);let a4:=k1 rfl H' (Ext.refl _);let a5:=e.at a3;rw[aX];clear k1 k hp al;simp! only[↓aH,↓aK];rw[IA];exact⟨axs[i],a5,hb.1,hb.2,a4⟩
  ·intro D H' hD e aS;let a7:H' D=U (.lst ((ys.map λ _=>Y).map V.bl)):=by rw[aS,jl,WC];rfl
   let e2:((ys.map λ _=>Y).all id)=Y:=by rw[List.all_map];simp
   let k2:=k H' e;clear k aS;ac_rfl
theorem i9{zs:G (G B)}(al:Al (bp H) zs ys)(h:ys[i]? = U y):∃ z,zs[i]? = U z/\bp H z y:=by
 let hi:i<ys.length:=(VB.mp h).1;have hz:zs[i]? = U (zs[i]'(by rw[←al.1];exact hi)):=VA _;exact{_,hz,al.2 i _ y hz h}
def A8(x:V)(b:B)(H:Hp)(Q:VK):Ý->Prop:=λ _=>Q (.bl (iI x b)) H
def lE(x:V)(b:B)(H:Hp)(Q:VK)(c:Ý):A8 x b H Q c=Q (.bl (iI x b)) H:=rfl
def uV  : Sp:=λ vs H Q E=>∃ (x:V) (b:B),vs=[x,.int b]/\(aJ (isW H x) (A8 x b H Q))
theorem m4  (x:V) (b:B) (H:Hp) (Q:VK) (E:XK):uV  [x,.int b] H Q E=(aJ (isW H x) (A8 x b H Q)):=gv (f:=λ (x:V) (b:B)=>[x,.int b]) %[4,2|63] x b
theorem cY(T:Tx K mg t):pY P w K mg base CX0 2 t.a_vU t.d_vU ["thing", "bound"] uV:=by
 intros Hf eC;refine %[vU,kI,2|70]
 ·let(x,b,rfl,h):=h;let(c,hw,k):=aq h;rw[lE] at k;refine{_,%[%[%[%[Hf,%[0|1]|3],(@lU _ _ _ _ _ (@sI _ _ _ _ _ _ _ _ _ _ _ _ Am yl %[|2] %[0|0] %[1|0] ∅))|39]|12]|10],?_};rw[%[["thing", "bound"],[x,.int b],0|53]]
  cases x with
  | int i=>
   cases hw;let k':Q (.bl (decide (0<=i) && decide (i<b))) H:=k;clear k h
   by_cases h0:0<=i
   ·rw[Wk h0,Bool.true_and] at k';simp! only[↓bH]
   ·rw[Wl h0,YW] at k';simp! only[↓bH]
  | bl i=>cases hw;let k':Q (.bl Á) H:=k;clear k h;simp! only[↓bH]
  | non=>cases hw;let k':Q (.bl Á) H:=k;clear k h;simp! only[↓bH]
  | str i=>cases hw;let k':Q (.bl Á) H:=k;clear k h;simp! only[↓bH]
  | ref p=>
   let(rfl,o,ho,ht):=ft hw;let k':Q (.bl Á) H:=k;clear k h;simp! only[↓bH]
  | _=>cases hw
theorem InR.zip:∀ {ns ys:G B}{a b:B},InR ns ys->(a,b)∈ys.zip ns->0<=a/\a<b
 | _::_,_::_,_,_,h,hm=>by
  rw[Y4] at hm
  rcases VU.mp hm with e|hm
  ·cases e;exact h.1
  ·exact InR.zip h.2 hm
 | [],_,_,_,_,hm=>by simp at hm
 | _::_,[],_,_,_,hm=>by simp at hm
def mG  : Sp:=λ vs H Q E=>∃ (p:Z) (q:Z),vs=[.ref p,.ref q]/\(∃ (ns ys:G B),H p=%[ns|46]/\ns.length<=8/\H q=U (.tup (ys.map V.int))/\InR ns ys/\∀ H',Ext H H'->Q (.bl Y) H')
theorem wm  (p:Z) (q:Z) (H:Hp) (Q:VK) (E:XK):mG  [.ref p,.ref q] H Q E=(∃ (ns ys:G B),H p=%[ns|46]/\ns.length<=8/\H q=U (.tup (ys.map V.int))/\InR ns ys/\∀ H',Ext H H'->Q (.bl Y) H'):=gv (f:=λ (p:Z) (q:Z)=>[.ref p,.ref q]) %[4,2|63] p q
theorem vE(T:Tx K mg t):pY P w K mg base CX0 3 t.a_Hi t.d_Hi %[|134] mG:=by
 intros vU cY;refine %[Hi,zZ,2|70]
 ·let(p,q,rfl,ns,ys,hp,h8,hq,hy,k):=h;refine{_,%[%[(PW.pt %[%[%[%[isinstance,cu,%[1,%[(@er _ _ (.ty "tuple") (.type "tuple") _ ∅ T.z_tuple nofun J ⋯ ⋯)|1]|1]|6]|26]|31],%[%[(bM hr.units),%[len,aB,%[1|1]|6],%[len,aB,%[0|1]|6],(ar _)|13]|35]|32]),%[%[(@gy _ _ _ _)|12]|10],(@au _)|14],%[%[%[all,gP,%[%[(%[|135]),(2),(aD (aa iq) %[|134] J J nofun),%[T.z_zip,%[1,%[0|1]|1]|43],%[(%[(2),%[%[(0),%[|135]|51],%[%[(1),%[|135]|51],(@aO _)|18]|18]|29].mono λ _ _ _ _ h=>cp h)|72],%[(@aI _)|72],%[%[vU,%[0,%[1|1]|1]|3]|72]|25]|1]|6]|12]|10]|9],?_};rw[%[%[|134],[.ref p,.ref q],0|53]];clear G_vU;let hl:(ys.length:B)=(ns.length:B):=by rw[hy.len]
  exists k;ac_rfl;refine bc ((ys.map V.int).zip (ns.map V.int)) (λ _=>Y) (λ _=>.bl Y) II (kL (ka:=Y) (kb:=Á) hq hp).1 (kL (ka:=Y) (kb:=Á) hq hp).2 (ao (by rw[Xf,VD,VD];omega)) ?_ ?_
  ·intro D z y H' N1 N0 hz hD e ⟨r,a3,aS⟩ k1 _;subst a3;rw[Zl] at hz;let((a,b),hm,rfl):=VT.mp hz;replace aS:H' r=U (.tup [.int a,.int b]):=aS;let aX:=InR.zip hy hm;let a4:iI (.int a) b=Y:=by show (decide (0<=a) && decide (a<b))=Y;rw[Wk aX.1,Wk aX.2];rfl
   let a5:=k1 rfl H' (Ext.refl _);clear k1 k hz hm hy;simp! only[↓fq,↓aK,↓m4,↓lE]
  ·intro D H' hD e af;rw[jl] at af;let a6:H' D=U (.lst ((È ((ys.map V.int).zip (ns.map V.int)).length Y).map V.bl)):=by rw[af,List.map_const',List.map_replicate]
   let ea:((È ((ys.map V.int).zip (ns.map V.int)).length Y).all id)=Y:=by rw[List.all_replicate];split<;>rfl
   let k2:=k () H' e;clear k af hy;ac_rfl
def NM(x:B)(H:Hp)(Q:VK):G B->Prop:=λ ns=>∀ (r:Z) (H':Hp),H r=L->Ext H H'->H' r=U (.tup ((aC ns x).map V.int))->Q (.ref r) H'
def wG(x:B)(H:Hp)(Q:VK)(ns:G B):NM x H Q ns=∀ (r:Z) (H':Hp),H r=L->Ext H H'->H' r=U (.tup ((aC ns x).map V.int))->Q (.ref r) H':=rfl
def uK  : Sp:=λ vs H Q E=>∃ (p:Z) (x:B),vs=[.ref p,.int x]/\(aJ (aF H p) (jn (kSz (NM x H Q))))
theorem sZ  (p:Z) (x:B) (H:Hp) (Q:VK) (E:XK):uK  [.ref p,.int x] H Q E=(aJ (aF H p) (jn (kSz (NM x H Q)))):=gv (f:=λ (p:Z) (x:B)=>[.ref p,.int x]) %[4,2|63] p x
theorem hU(T:Tx K mg t):%[1,zd|49] %[|141] uK:=by
 refine %[zd,cw,2|70]
 ·let(p,x,rfl,h):=h;let(xs,hp,ns,rfl,hs,k):=aq h;replace hp:=bO hp;rw[wG] at k;refine{_,%[%[2,cw,%[(@cZ _)|16]|4],%[%[3,cw,1|4],%[%[VX,(@Jf _ _ _ _ _ _ ∅ T.z_reversed %[0|1] ∅),%[4,cw|5],%[%[%[Wa,Wy,Wx,cP,2,%[%[lW,3,4|11]|1]|40]|19],%[%[3,cw,%[jX,3,4|11]|4]|10]|9]|24],%[%[(@Jh _ _ _ _ _ _ _ _ _ Wa PySem.F.slot_list_reverse PySem.F.type_list_reverse o8 %[2|0] ∅ ∅)|19],%[%[%[jc,T.z_tuple,%[2|1]|33]|12]|10]|9]|9]|9]|9],?_};rw[%[["sizes", "number", "place", "left", "size"],[.ref p,.int x],3|53]];ac_rfl;intro r H1 af e1 h1;let aS:r≠p:=λ z=>by rw[z,hp] at af;cases af
  let aX:=e1.at hp
  try ac_rfl
  refine BM (xs:=ns.map V.int) (λ i σ H'=>∃ v:Ü V,σ=[%[p|45],%[x|47],%[r|45],U (.int (x / ae (ns.drop (ns.length - i)))),v]/\Ext H H'/\H' r=U (.lst ((aC (ns.drop (ns.length - i)) x).reverse.map V.int))) ⟨L,by simp[ae],e1,by simpa [aC] using h1⟩ (λ i σ H' _ ⟨_,_,e,_⟩=>SqL.of (e.at hp)) ?_ ?_
  ·rintro i y _ H2 hi hx ⟨v,rfl,e2,h2⟩;rw[VD] at hi hx;rw[VS] at hx;let(z,hz,rfl):=VH.mp hx;let b1:=(hs.drop (ns.length - i)).prod;let b2:=hs.2 z (V8 hz);let e:=DT ns x i z hi hz %[|8];let e':=vq ns x i z hi hz
   let a3:((aC (ns.drop (ns.length - i)) x).reverse).length<Å:=by
    rw[W7,bI];exact of_eq_true (J4 _ (by have:=hs.1;simp;omega))
   let z0:0<z:=by omega
   let z1:z<1073741824:=by omega
   clear b1 b2;simp! only[↓aA];exact{_,J,e2.put af,by rw[Ws];rfl}
  ·rintro _ H2 ⟨v,rfl,e2,h2⟩;rw[VD,Nat.sub_self,Zv] at h2;ac_rfl;intro q H3 hq e3 h3;exact k q H3 ((e2.put af).free hq) ((e2.put af).trans e3) (by rw[h3,←X2,List.reverse_reverse])
def RQ(H:Hp)(Q:VK):G B->Prop:=λ ns=>∀ (r:Z) (H':Hp),H r=L->Ext H H'->H' r=U (.lst ((gq ns).map V.int))->Q (.ref r) H'
def IK(H:Hp)(Q:VK)(ns:G B):RQ H Q ns=∀ (r:Z) (H':Hp),H r=L->Ext H H'->H' r=U (.lst ((gq ns).map V.int))->Q (.ref r) H':=rfl
def uQ  : Sp:=λ vs H Q E=>∃ (p:Z),vs=[.ref p]/\(aJ (aF H p) (jn (kSz (RQ H Q))))
theorem EJ  (p:Z) (H:Hp) (Q:VK) (E:XK):uQ  [.ref p] H Q E=(aJ (aF H p) (jn (kSz (RQ H Q)))):=kJ (f:=λ (p:Z)=>[.ref p]) %[2,1|63] p
theorem vD(T:Tx K mg t):%[1,Hh|49] ["sizes"] uQ:=by
 refine %[Hh,fQ,1|70]
 ·let(p,rfl,h):=h;let(xs,hp,ns,rfl,hs,k):=aq h;replace hp:=bO hp;rw[IK] at k;refine{_,%[%[1,fQ,%[(@cZ _)|16]|4],%[%[2,fQ,99|4],%[%[VX,(@Jf _ _ _ _ _ _ ∅ T.z_reversed %[0|1] ∅),%[3,fQ|5],%[%[%[Wa,Wy,Wx,cP,1,%[2|1]|40]|19],%[%[2,fQ,%[BF,2,3|11]|4]|10]|9]|24],%[%[(@Jh _ _ _ _ _ _ _ _ _ Wa PySem.F.slot_list_reverse PySem.F.type_list_reverse o8 %[1|0] ∅ ∅)|19],%[%[1|12]|10]|9]|9]|9]|9],?_};rw[%[["sizes", "paces", "pace", "size"],[.ref p],3|53]];ac_rfl;intro r H1 af e1 h1;let aS:=e1.at hp;let aX:r≠p:=λ z=>by rw[z,hp] at af;cases af
  ac_rfl;refine BM (xs:=ns.map V.int) (λ i σ H'=>∃ v:Ü V,σ=[%[p|45],%[r|45],U (.int (ae (ns.drop (ns.length - i)))),v]/\Ext H H'/\H' r=U (.lst ((gq (ns.drop (ns.length - i))).reverse.map V.int))) ⟨L,by simp[ae],e1,by simpa [gq] using h1⟩ (λ i σ H' _ ⟨_,_,e,_⟩=>SqL.of (e.at hp)) ?_ ?_
  ·rintro i x _ H2 hi hx ⟨v,rfl,e2,h2⟩;rw[VD] at hi hx;rw[VS] at hx;let(z,hz,rfl):=VH.mp hx;let e:=oY ns i z hi hz;let e':=vB ns i z hi hz;let b1:=(hs.drop (ns.length - i)).prod;let b2:=hs.2 z (V8 hz)
   let a3:((gq (ns.drop (ns.length - i))).reverse).length<Å:=by
    rw[W7,oZ];exact of_eq_true (J4 _ (by have:=hs.1;simp;omega))
   let c1:(ae (ns.drop (ns.length - i))).natAbs<2 ^ 256:=by
    generalize ae (ns.drop (ns.length - i))=y at b1;have:(1000000000:B) ^ 8<2 ^ 256:=by decide
    omega
   let c2:z.natAbs<2 ^ 256:=by omega
   clear b1 b2;simp! only[↓aA,xR];exact{_,J,e2.put af,by rw[Ws];rfl}
  ·rintro _ H2 ⟨v,rfl,e2,h2⟩;rw[VD,Nat.sub_self,Zv] at h2;ac_rfl;exact k r _ af (e2.put af) (by rw[aj,←X2,List.reverse_reverse])
def mF  : Sp:=λ vs H Q E=>∃ (p:Z) (i:B),vs=[.ref p,.int i]/\(∃ ns:G B,H p=%[ns|46]/\fk ns/\0<=i/\i<ae ns/\NM i H Q ns)
theorem nB  (p:Z) (i:B) (H:Hp) (Q:VK) (E:XK):mF  [.ref p,.int i] H Q E=(∃ ns:G B,H p=%[ns|46]/\fk ns/\0<=i/\i<ae ns/\NM i H Q ns):=gv (f:=λ (p:Z) (i:B)=>[.ref p,.int i]) %[4,2|63] p i
theorem vC(T:Tx K mg t):%[3,Hj|49] %[|141] mF:=by
 intros Hg eE vU cY zd hU;refine %[Hj,zX,2|70]
 ·let(p,i,rfl,ns,hp,hs,i0,i1,k1):=h
  let af:iI (.int i) (ae ns)=Y:=by
   show (decide (0<=i) && decide (i<ae ns))=Y
   rw[Wk i0,Wk i1];rfl
  refine{_,%[%[%[%[%[vU,%[1,%[%[Hg,%[0|1]|3]|1]|1]|3]|26]|31],%[(@cy _ _)|10],(@au _)|14],%[%[%[zd,%[0,%[1|1]|1]|3]|12]|10]|9],?_};rw[%[%[|141],[.ref p,.int i],0|53]];simp! only[↓gR,↓rO,↓oH,↓m4,↓lE,↓sZ]
abbrev x8(cT:Z)(n:B)(H:Hp)(Q:VK)(E:XK):Prop:=(n<=4096->Q .non H)/\¬ 4096<n
def AG(cT:Z):Sp:=λ vs H Q E=>∃ (n:B),vs=[.int n]/\(x8 cT n H Q E)
theorem qS(cT:Z)(n:B)(H:Hp)(Q:VK)(E:XK):AG cT [.int n] H Q E=(x8 cT n H Q E):=kJ (f:=λ (n:B)=>[.int n]) %[2,1|63] n
theorem fF(T:Tx K mg t):%[3,zu|49] ["count"] (AG t.a_HA):=by
 refine %[zu,jP,1|70]
 ·let(n,rfl,k1,hn):=h;refine{_,%[%[%[nZ,0,(@ek _ _ (.int 4096) _ _ ∅ T.m_MOST_TOLD.choose_spec {_,J} ⋯),(ar _)|13],%[(@cy _ _)|10],(@au _)|14]|10],?_};rw[%[["count"],[.int n],0|53]];let af:=k1 %[|8];clear k1;ac_rfl
theorem Uk(x:B):min 0 x=if x<0 then x else 0:=by split<;>omega
theorem Ul(x:B):max 0 x=if 0<x then x else 0:=by split<;>omega
structure ak(C:Z)(H:Hp)(v:Z)(room first:B)(axs:%[|48]):Prop where
 ob:∃ dx l,H v=U (.ins C dx (gw room first l))/\bP H l (axL axs)
theorem ak.ext{C:Z}{v:Z}{first:B}{axs:%[|48]}(h:ak C H v room first axs)(e:Ext H H'):ak C H' v room first axs:=by
 let(dx,l,h1,h2):=h.ob;exact{⟨dx,l,e.at h1,h2.ext e⟩}
theorem JW(h:m∈([("sizes":Ç), "paces", "count", "cell", "cell_at", "cells", "least", "greatest"]:G Ç)):¬ m = "axes" /\ ¬ m = "first" /\ ¬ m = "room":=by
 revert m
 decide +kernel
def vn(room first:B)(l:Z)(h:m∈([("sizes":Ç), "paces", "count", "cell", "cell_at", "cells", "least", "greatest"]:G Ç)):(gw room first l).lookup m=L:=FJ room first l (JW h).1 (JW h).2.1 (JW h).2.2
theorem TQ{axs:%[|48]}(al:Al (bp H) (axL axs) ys)(h:ys[i]? = U y):∃ a q,axs[i]? = U a/\y=.ref q/\H q=U (.tup [.int a.1,.int a.2]):=by
 let(z,hz,q,hq,af):=i9 al h;unfold axL at hz;rw[getElem?_map] at hz;let(a,ha,rfl):=Option.map_eq_some_iff.mp hz;exact{(a),q,ha,hq,af}
abbrev tU(C:Z)(v:Z)(H:Hp)(Q:VK)(E:XK):Prop:=∃ (room first:B) (axs:%[|48]),ak C H v room first axs/\bY axs/\∀ H',Ext H H'->Q (.int (first+aG axs)) H'
def p6(C:Z):Sp:=λ vs H Q E=>∃ (v:Z),vs=[.ref v]/\(tU C v H Q E)
theorem EN(C:Z)(v:Z)(H:Hp)(Q:VK)(E:XK):p6 C [.ref v] H Q E=(tU C v H Q E):=kJ (f:=λ (v:Z)=>[.ref v]) %[2,1|63] v
theorem rk(T:Tx K mg t):%[1,DW|49] ["self"] (p6 t.a_MN):=by
 refine %[DW,uz,1|70]
 ·let(v,rfl,room,first,axs,vo,af,k):=h;let(dx,l,hv,ys,hl,al):=vo.ob;let c1:=T.qA0;let c2:=T.qA5;let c3:=T.qA3
  let f1:=dn room first l
  let f2:=cH room first l
  refine{_,%[%[%[bN,%[0|22],%[sum,gO,%[%[(%[|106]),(2),(aD (aa fe) ["self"] J J nofun),%[%[0|22]|20],%[(%[(2),%[%[(0),%[|106]|51],%[%[(1),%[|106]|51],(@aO _)|18]|18]|29].mono λ _ _ _ _ h=>cp h)|72],%[(@aI _)|72],%[%[min,(sX J),%[99,%[%[eN,%[fK,0,99|11],1|11]|1]|1]|6]|72]|25]|1]|6]|11]|12]|10],?_};rw[%[["self"],[.ref v],0|53]];ac_rfl;let wk:=fR (K:=K) (R:=axP) (λ _ _ _ _ h e=>h.ext e) hl (oS al);refine bc axs (λ _=>Y) (λ a=>.int (min 0 ((a.1 - 1) * a.2))) axP wk.1 wk.2 (ao (by have:=af.1;omega)) ?_ ?_
  ·intro D a x H' N1 N0 ha hD e ⟨q,hx,hq⟩ k1 _;subst hx;let hb:=af.2 a ha;let aX:=k1 rfl H' (Ext.refl _);let a3:oG (a.1 - 1) a.2:=.inl {by omega,by omega};rw[Uk] at aX;clear k1 k;simp! only[↓fq,↓aK]
  ·intro D H' hD e aS;let a4:H' D=U (.lst ((axs.map λ a=>min 0 ((a.1 - 1) * a.2)).map V.int)):=by rw[aS,jl,WC];rfl
   let k2:Q (.int (first+(axs.map λ a=>min 0 ((a.1 - 1) * a.2)).sum)) H':=k H' e;clear k aS;ac_rfl
abbrev lj(C:Z)(v:Z)(H:Hp)(Q:VK)(E:XK):Prop:=∃ (room first:B) (axs:%[|48]),ak C H v room first axs/\bY axs/\∀ H',Ext H H'->Q (.int (first+aE axs)) H'
def kc(C:Z):Sp:=λ vs H Q E=>∃ (v:Z),vs=[.ref v]/\(lj C v H Q E)
theorem ur(C:Z)(v:Z)(H:Hp)(Q:VK)(E:XK):kc C [.ref v] H Q E=(lj C v H Q E):=kJ (f:=λ (v:Z)=>[.ref v]) %[2,1|63] v
theorem ly(T:Tx K mg t):%[1,vZ|49] ["self"] (kc t.a_MN):=by
 refine %[vZ,nS,1|70]
 ·let(v,rfl,room,first,axs,vo,af,k):=h;let(dx,l,hv,ys,hl,al):=vo.ob;let c1:=T.qA0;let c2:=T.qA5;let c3:=T.qA3
  let f1:=dn room first l
  let f2:=cH room first l
  refine{_,%[%[%[bN,%[0|22],%[sum,gO,%[%[(%[|106]),(2),(aD (aa cR) ["self"] J J nofun),%[%[0|22]|20],%[(%[(2),%[%[(0),%[|106]|51],%[%[(1),%[|106]|51],(@aO _)|18]|18]|29].mono λ _ _ _ _ h=>cp h)|72],%[(@aI _)|72],%[%[max,(jJ J),%[99,%[%[eN,%[fK,0,99|11],1|11]|1]|1]|6]|72]|25]|1]|6]|11]|12]|10],?_};rw[%[["self"],[.ref v],0|53]];ac_rfl;let wk:=fR (K:=K) (R:=axP) (λ _ _ _ _ h e=>h.ext e) hl (oS al);refine bc axs (λ _=>Y) (λ a=>.int (max 0 ((a.1 - 1) * a.2))) axP wk.1 wk.2 (ao (by have:=af.1;omega)) ?_ ?_
  ·intro D a x H' N1 N0 ha hD e ⟨q,hx,hq⟩ k1 _;subst hx;let hb:=af.2 a ha;let aX:=k1 rfl H' (Ext.refl _);let a3:oG (a.1 - 1) a.2:=.inl {by omega,by omega};rw[Ul] at aX;clear k1 k;simp! only[↓fq,↓aK]
  ·intro D H' hD e aS;let a4:H' D=U (.lst ((axs.map λ a=>max 0 ((a.1 - 1) * a.2)).map V.int)):=by rw[aS,jl,WC];rfl
   let k2:Q (.int (first+(axs.map λ a=>max 0 ((a.1 - 1) * a.2)).sum)) H':=k H' e;clear k aS;ac_rfl
def Uq(H:Hp)(Q:VK)(f:B × B->B)(axs:%[|48]):Prop:=∀ (r:Z) (H':Hp),H r=L->Ext H H'->H' r=U (.lst ((axs.map f).map V.int))->Q (.ref r) H'
abbrev pK(C:Z)(v:Z)(H:Hp)(Q:VK)(E:XK):Prop:=∃ (room first:B) (axs:%[|48]),ak C H v room first axs/\axs.length<=8/\Uq H Q (λ a=>a.1) axs
def qp(C:Z):Sp:=λ vs H Q E=>∃ (v:Z),vs=[.ref v]/\(pK C v H Q E)
theorem aR(C:Z)(v:Z)(H:Hp)(Q:VK)(E:XK):qp C [.ref v] H Q E=(pK C v H Q E):=kJ (f:=λ (v:Z)=>[.ref v]) %[2,1|63] v
theorem aL(T:Tx K mg t):pY P w K mg base CX0 1 t.a_zB t.d_zB ["self"] (qp t.a_MN):=by
 refine %[zB,ux,1|70]
 ·let(v,rfl,room,first,axs,vo,aS,k):=h;let(dx,l,hv,ys,hl,al):=vo.ob;let c1:=T.qA0;let c3:=T.qA3
  let f2:=cH room first l
  refine{_,%[%[%[(%[|106]),(2),(aD (aa eY) ["self"] J J nofun),%[%[0|22]|20],%[(%[(2),%[%[(0),%[|106]|51],%[%[(1),%[|106]|51],(@aO _)|18]|18]|29].mono λ _ _ _ _ h=>cp h)|72],%[(@aI _)|72],%[%[0|0]|72]|25]|12]|10],?_};rw[%[["self"],[.ref v],0|53]];ac_rfl;let wk:=fR (K:=K) (R:=axP) (λ _ _ _ _ h e=>h.ext e) hl (oS al);refine bc axs (λ _=>Y) (λ a=>.int a.1) axP wk.1 wk.2 (ao %[|8]) ?_ ?_
  ·intro D a x H' N1 N0 ha hD e ⟨q,hx,hq⟩ k1 _;subst hx;let aX:=k1 rfl H' (Ext.refl _);clear k1 k;simp! only[↓fq,↓aK]
  ·intro D H' hD e af;exact k D H' hD e (by rw[af,jl,WC];rfl)
abbrev pL(C:Z)(v:Z)(H:Hp)(Q:VK)(E:XK):Prop:=∃ (room first:B) (axs:%[|48]),ak C H v room first axs/\axs.length<=8/\Uq H Q (λ a=>a.2) axs
def qr(C:Z):Sp:=λ vs H Q E=>∃ (v:Z),vs=[.ref v]/\(pL C v H Q E)
theorem zM(C:Z)(v:Z)(H:Hp)(Q:VK)(E:XK):qr C [.ref v] H Q E=(pL C v H Q E):=kJ (f:=λ (v:Z)=>[.ref v]) %[2,1|63] v
theorem rj(T:Tx K mg t):pY P w K mg base CX0 1 t.a_zC t.d_zC ["self"] (qr t.a_MN):=by
 refine %[zC,uy,1|70]
 ·let(v,rfl,room,first,axs,vo,aS,k):=h;let(dx,l,hv,ys,hl,al):=vo.ob;let c1:=T.qA0;let c3:=T.qA3
  let f2:=cH room first l
  refine{_,%[%[%[(%[|106]),(2),(aD (aa eZ) ["self"] J J nofun),%[%[0|22]|20],%[(%[(2),%[%[(0),%[|106]|51],%[%[(1),%[|106]|51],(@aO _)|18]|18]|29].mono λ _ _ _ _ h=>cp h)|72],%[(@aI _)|72],%[%[1|0]|72]|25]|12]|10],?_};rw[%[["self"],[.ref v],0|53]];ac_rfl;let wk:=fR (K:=K) (R:=axP) (λ _ _ _ _ h e=>h.ext e) hl (oS al);refine bc axs (λ _=>Y) (λ a=>.int a.2) axP wk.1 wk.2 (ao %[|8]) ?_ ?_
  ·intro D a x H' N1 N0 ha hD e ⟨q,hx,hq⟩ k1 _;subst hx;let aX:=k1 rfl H' (Ext.refl _);clear k1 k;simp! only[↓fq,↓aK]
  ·intro D H' hD e af;exact k D H' hD e (by rw[af,jl,WC];rfl)
abbrev pM(C:Z)(v:Z)(H:Hp)(Q:VK)(E:XK):Prop:=∃ (room first:B) (axs:%[|48]),ak C H v room first axs/\bY axs/\∀ H',Ext H H'->Q (.int (ae (axs.map λ a=>a.1))) H'
def qt(C:Z):Sp:=λ vs H Q E=>∃ (v:Z),vs=[.ref v]/\(pM C v H Q E)
theorem iD(C:Z)(v:Z)(H:Hp)(Q:VK)(E:XK):qt C [.ref v] H Q E=(pM C v H Q E):=kJ (f:=λ (v:Z)=>[.ref v]) %[2,1|63] v
theorem dX(T:Tx K mg t):pY P w K mg base CX0 2 t.a_DU t.d_DU ["self"] (qt t.a_MN):=by
 intros zB aL Hg eE;refine %[DU,uA,1|70]
 ·let(v,rfl,room,first,axs,vo,af,k):=h;let(dx,l,hv,_):=vo.ob
  let f3:=vn room first l (m := "sizes") nofun
  refine{_,%[%[%[Hg,%[%[%[0|0],qA0,qA1,zB,aZ|61]|1]|3]|12]|10],?_};rw[%[["self"],[.ref v],0|53]];ac_rfl;rw[aR];refine{room,first,axs,vo,af.1,λ r H' aS e h'=>?_};let k':=k H' e;let hsz:=af.sizes;clear k;simp! only[↓gR,↓rO,↓oH]
def uJ(C:Z):Sp:=λ vs H Q E=>∃ (x:Z) (room:B) (first:B) (l:Z),vs=[.ref x,.int room,.int first,.ref l]/\(∃ (dx:Z) (axs:%[|48]),H x=U (.ins C dx [])/\bP H l (axL axs)/\da room first axs/\∀ (H':Hp) (D:Z),(∀ H0,Ext H0 H->H0 x=L->Ext H0 H')->H D=L->H' x=U (.ins C dx (gw room first D))->bP H' D (axL (axs.map ay))->Q .non H')
theorem gQ(C:Z)(x:Z)(room:B)(first:B)(l:Z)(H:Hp)(Q:VK)(E:XK):uJ C [.ref x,.int room,.int first,.ref l] H Q E=(∃ (dx:Z) (axs:%[|48]),H x=U (.ins C dx [])/\bP H l (axL axs)/\da room first axs/\∀ (H':Hp) (D:Z),(∀ H0,Ext H0 H->H0 x=L->Ext H0 H')->H D=L->H' x=U (.ins C dx (gw room first D))->bP H' D (axL (axs.map ay))->Q .non H'):=NK (f:=λ (x:Z) (room:B) (first:B) (l:Z)=>[.ref x,.int room,.int first,.ref l]) %[8,4|63] x room first l
theorem cA(T:Tx K mg t):%[6,vY|49] %[|124] (uJ t.a_MN):=by
 intros Eb kU Hf eC Hk vF Ec uc DW rk vZ ly;refine %[vY,nV,4|70]
 ·let(x,room,first,l,rfl,dx,axs,hx,tl,af,k):=h;let c1:=T.qA0;let c2:=T.qA5;let c3:=T.qA3;let c4:=T.qA7;refine{_,%[%[(PW.pt %[%[%[%[Eb,%[1,%[99,%[(@ek _ _ (.int 1000000000000000000) _ _ ∅ T.m_MOST_ROOM.choose_spec {_,J} ⋯)|1]|1]|1]|3]|26]|31],%[%[%[%[Hf,%[2|1]|3]|26]|31],%[%[%[%[Hk,%[3|1]|3]|26]|31]|35]|32]|32]),%[(@cy _ _)|10],(@au _)|14],%[(@lJ _ _ _ _ _ _ _ _ %[0|0] %[1|0] rfl),%[(@lJ _ _ _ _ _ _ _ _ %[0|0] %[2|0] rfl),%[(@lJ _ _ _ _ _ _ _ _ %[0|0] %[(["axis", "self", "room", "first", "axes"]),(1),(aD (aa cS) %[|124] J J nofun),%[3|20],%[%[(0),["axis", "self", "room", "first", "axes"]|51]|72],%[(@aI _)|72],%[%[Ec,%[0|1]|3]|72]|25] J),%[%[(PW.pt %[%[yl,%[%[0|0],qA0,qAt,DW,aZ|61],99,(ar _)|13],%[%[Og,%[%[0|0],qA0,qAo,vZ,aZ|61],1,(ar _)|13]|35]|32]),%[(@cy _ _)|10],(@au _)|14]|10]|9]|9]|9]|9],?_};rw[%[%[|124],[.ref x,.int room,.int first,.ref l],0|53]];let r1:=af.r1;let r2:=af.r2;simp! only[↓pC,↓bH];rw[IB];refine{axs,tl,af.ax,λ H1 e1=>?_};let aX:=e1.at hx;let b0:=tl.ext e1;clear hx tl;ac_rfl;refine{(show (1:à)<1000 by decide),?_};let(ys,aS,a7):=b0;let b1:l≠x:=λ z=>by rw[z,aX] at aS;cases aS
  let a3:(upd H1 x (HO.ins t.a_MN dx (gC "first" (V.int first) (gC "room" (V.int room) [])))) x=U (HO.ins t.a_MN dx (gC "first" (V.int first) (gC "room" (V.int room) []))):=aj
  let a8:(upd H1 x (HO.ins t.a_MN dx (gC "first" (V.int first) (gC "room" (V.int room) [])))) l=U (.lst ys):=by rw[ag b1];exact aS
  let a9:Al (λ a y=>axP a y (upd H1 x (HO.ins t.a_MN dx (gC "first" (V.int first) (gC "room" (V.int room) []))))) axs ys:=(oS a7).imp λ a y ⟨q,hy,hq⟩=>{q,hy,by rw[ag (λ z=>by rw[z,aX] at hq;cases hq)];exact hq};let b2:∀ H0,Ext H0 H->H0 x=L->Ext H0 (upd H1 x (HO.ins t.a_MN dx (gC "first" (V.int first) (gC "room" (V.int room) [])))):=λ H0 q0 q1=>(q0.trans e1).put q1
  let b3:∀ b,b≠x->(upd H1 x (HO.ins t.a_MN dx (gC "first" (V.int first) (gC "room" (V.int room) [])))) b=L->H b=L:=λ b hb q=>by rw[ag hb] at q;exact e1.free q
  generalize upd H1 x (HO.ins t.a_MN dx (gC "first" (V.int first) (gC "room" (V.int room) [])))=H2 at a3 a8 a9 b2 b3;clear aS a7 aX;ac_rfl;let wk:=fR (K:=K) (R:=axP) (λ _ _ _ _ h e=>h.ext e) a8 a9;refine eU axs (λ _=>Y) axP (λ D a y H'=>∃ q,y=.ref q/\q≠D/\H' q=U (.tup [.int (ay a).1,.int (ay a).2])) wk.1 wk.2 (λ D _ y H1 H2 ⟨q,h1,h2,h3⟩ e=>{q,h1,h2,e.at h3}) (λ D _ y H1 o ⟨q,h1,h2,h3⟩=>{q,h1,h2,by rw[ag h2];exact h3}) (ao (by have:=af.ax.1;omega)) ?_ ?_
  ·intro D a y H' N1 N0 ha hD e ⟨cm,bt⟩ ⟨q,hy,hq⟩ k1 _;subst hy;let b6:=k1 rfl;clear k1 k;simp! only[↓aH,↓aK];rw[Iy];exact{a,hq,λ r b7 bB e' h'=>b6 _ b7 e' {r,J,(λ z=>by rw[z,bt] at bB;cases bB),h'}}
  ·intro D zs H3 hD e3 b8 a4;rw[jl] at a4;let cf:=e3.at a3;let bS:D≠x:=λ z=>by rw[z,a3] at hD;cases hD
   clear wk;ac_rfl;refine{(show (2:à)<1000 by decide),?_}
   let tt:bP (upd H3 x (HO.ins t.a_MN dx (gw room first D))) D (axL (axs.map ay)):=by
    refine{zs,by rw[ag bS];exact b8,?_,λ i z y hz hy=>?_}
    ·rw[a4.1];unfold axL;rw[length_map,length_map]
    ·unfold axL at hz;rw[map_map,getElem?_map] at hz;let(a,ha,rfl):=Option.map_eq_some_iff.mp hz;let(q,cg,_,a5):=a4.2 i a y ha hy;exact{q,cg,by rw[ag (λ z=>by rw[z,cf] at a5;cases a5)];exact a5}
   let b4:∀ H0,Ext H0 H->H0 x=L->Ext H0 (upd H3 x (HO.ins t.a_MN dx (gw room first D))):=λ H0 q0 q1=>((b2 H0 q0 q1).trans e3).put q1;let a6:(upd H3 x (HO.ins t.a_MN dx (gw room first D))) x=U (HO.ins t.a_MN dx (gw room first D)):=aj
   let f1:=vn room first D (m := "least") nofun
   let f2:=vn room first D (m := "greatest") nofun
   refine{f1,?_}
   show p6 t.a_MN [V.ref x] (upd H3 x (HO.ins t.a_MN dx (gw room first D))) _ _
   generalize upd H3 x (HO.ins t.a_MN dx (gw room first D))=H4 at tt b4 a6
   let vo:ak t.a_MN H4 x room first (axs.map ay):={(dx),D,a6,tt}
   rw[EN];refine{room,first,axs.map ay,vo,af.ax.kept,λ H5 e5=>?_}
   let cv:¬ first+aG (axs.map ay)<0:=by have:=af.lo;omega
   let ck:=e5.at a6;ac_rfl;rw[ur];refine{room,first,axs.map ay,vo.ext e5,af.ax.kept,λ H6 e6=>?_}
   let cz:¬ room<=first+aE (axs.map ay):=by have:=af.hi;omega
   let k':=k H6 D (λ H0 q0 q1=>((b4 H0 q0 q1).trans e5).trans e6) (b3 D bS hD) (e6.at ck) ((tt.ext e5).ext e6);clear k;ac_rfl
theorem oV(cs:G B)(a:B × B)(i:à)(c:B)(h:cs[i]? = U c):cc (cs.take (i+1)) a=cc (cs.take i) a++(Ì a.1.toNat).map λ (n:à)=>c+(n:B) * a.2:=by
 unfold cc;rw[take_add_one,h,List.flatMap_append];simp
abbrev nF  (p:Z) (z:B) (pc:B) (H:Hp) (Q:VK) (E:XK):Prop:=∃ cs:G B,H p=%[cs|46]/\1<=z/\cs.length * z.toNat<=4096/\z<=1000000000/\∀ (r:Z) (H':Hp),H r=L->Ext H H'->H' r=U (.lst ((cc cs (z,pc)).map V.int))->Q (.ref r) H'
def mC  : Sp:=λ vs H Q E=>∃ (p:Z) (z:B) (pc:B),vs=[.ref p,.int z,.int pc]/\(nF  p z pc H Q E)
theorem wd  (p:Z) (z:B) (pc:B) (H:Hp) (Q:VK) (E:XK):mC  [.ref p,.int z,.int pc] H Q E=(nF  p z pc H Q E):=wC (f:=λ (p:Z) (z:B) (pc:B)=>[.ref p,.int z,.int pc]) %[6,3|63] p z pc
theorem yG(T:Tx K mg t):%[1,Hs|49] ["cells", "size", "pace"] mC:=by
 refine %[Hs,m3,3|70]
 ·let(p,z,pc,rfl,cs,hp,hz,a4,a5,k):=h;refine{_,%[%[3,m3,%[(@cZ _)|16]|4],%[%[VX,%[0|20],%[(4),_,m3.nd,J,(Or.inr J),%[|7]|17],%[%[%[Wa,PySem.F.slot_list_extend,PySem.F.type_list_extend,sN,3,%[%[(%[|138]),(1),(aD (aa jF) ["cells", "size", "pace", "found", "cell"] J J nofun),%[T.z_range,%[1|1]|34],%[%[(0),%[|138]|51]|72],%[(@aI _)|72],%[%[bN,5,%[eN,0,3|11]|11]|72]|25]|1]|40]|19]|10]|24],%[%[3|12]|10]|9]|9],?_};rw[%[["cells", "size", "pace", "found", "cell"],[.ref p,.int z,.int pc],2|53]];ac_rfl;intro r H1 af e1 h1;let a6:=e1.at hp;ac_rfl;refine dj (xs:=cs.map V.int) (λ i σ H'=>∃ v4:Ü V,σ=[%[p|45],%[z|47],%[pc|47],%[r|45],v4]/\Ext H H'/\H' r=U (.lst ((cc (cs.take i) (z,pc)).map V.int))) ⟨L,J,e1,h1⟩ (λ i σ H' _ ⟨_,_,e,_⟩=>e.at hp) ?_ ?_
  ·rintro i x _ H2 hi ⟨v4,rfl,e2,h2⟩;rw[VS] at hi;let(c,hc,rfl):=VH.mp hi;let a7:i<cs.length:=(VB.mp hc).1
   let a8:z.toNat<=4096:=by
    have:=YU z.toNat (show 1<=cs.length by omega);omega
   let a9:(cc (cs.take i) (z,pc)).length+z.toNat<=4096:=by
    rw[mw,Wi,show ((z,pc):B × B).1=z from J];have:(min i cs.length+1) * z.toNat<=cs.length * z.toNat:=YU _ %[|8];rw[Nat.add_mul,Nat.one_mul] at this;omega
   simp! only[↓aA];refine{by omega,by omega,?_};refine bc (Ì z.toNat) (λ _=>Y) (λ j=>.int (c+(j:B) * pc)) (λ j x H'=>x=.int (0+(j:à))) cF.1 cF.2 (ao (by rw[V5];omega)) ?_ ?_
   ·intro D j x H' N1 N0 hj hD e hx k1 _;subst hx;let bt:=WO.mp hj;let bB:=k1 rfl H' (Ext.refl _);let bS:oG (j:B) pc:=.inl %[|8];let e0:(0:B)+(j:B)=(j:B):=Ww _;clear k1 k hj;simp! only[↓aH,↓aK]
   ·intro D H3 hD e3 aS;let aX:H3 D=U (.lst (((Ì z.toNat).map λ (j:à)=>c+(j:B) * pc).map V.int)):=by rw[aS,jl,WC];rfl
    let a3:=e3.at h2;let hle:(cc (cs.take i) (z,pc)).length+(Ì z.toNat).length<=Å:=ao (by rw[V5];omega);clear aS hi;ac_rfl;refine{_,J,(e2.trans e3).put af,?_};rw[oV cs (z,pc) i c hc,Ws]
  ·rintro _ H2 ⟨v4,rfl,e2,h2⟩;ac_rfl;rw[VD,WN] at h2;exact k r H2 af e2 h2
abbrev tX(C cT:Z)(v:Z)(H:Hp)(Q:VK)(E:XK):Prop:=∃ (room first:B) (axs:%[|48]),ak C H v room first axs/\bY axs/\(ae (axs.map λ a=>a.1)<=4096->∀ (r:Z) (H':Hp),H r=L->Ext H H'->H' r=U (.lst ((ah first axs).map V.int))->Q (.ref r) H')/\¬ 4096<ae (axs.map λ a=>a.1)
def uU(C cT:Z):Sp:=λ vs H Q E=>∃ (v:Z),vs=[.ref v]/\(tX C cT v H Q E)
theorem gS(C cT:Z)(v:Z)(H:Hp)(Q:VK)(E:XK):uU C cT [.ref v] H Q E=(tX C cT v H Q E):=kJ (f:=λ (v:Z)=>[.ref v]) %[2,1|63] v
theorem dY(T:Tx K mg t):%[4,DV|49] ["self"] (uU t.a_MN t.a_HA):=by
 intros DU dX zu fF Hs yG;refine %[DV,cJ,1|70]
 ·let(v,rfl,room,first,axs,vo,aS,kQ,kE):=h;let(dx,l,hv,ys,hl,al):=vo.ob;let c1:=T.qA0;let c2:=T.qA5;let c3:=T.qA3
  let f1:=dn room first l
  let f2:=cH room first l
  let f3:=vn room first l (m := "count") nofun
  refine{_,%[%[%[zu,%[%[%[0|0],qA0,qAd,DU,aZ|61]|1]|3]|19],%[%[1,cJ,%[%[%[0|22]|1]|16]|4],%[%[VX,%[%[0|22]|20],(%[(2),%[%[2,cJ|5],%[%[3,cJ|5],(@aO _)|18]|18]|29].mono λ _ _ _ _ h=>cp h),%[%[1,cJ,%[Hs,%[1,%[2,%[3|1]|1]|1]|3]|4]|10]|24],%[%[1|12]|10]|9]|9]|9],?_};rw[%[["self", "found", "size", "pace"],[.ref v],3|53]];clear G_DU G_zu G_Hs;ac_rfl;rw[iD];refine{room,first,axs,vo,aS,λ H1 e1=>?_};let a3:=e1.at hv;let a4:=e1.at hl;ac_rfl;rw[qS];refine{λ hc=>?_,kE};let a5:=kQ hc;clear kQ kE;ac_rfl;intro r H2 a6 e2 h2;let bB:=e2.at a3;let bS:=e2.at a4;ac_rfl;let af:∀ a∈axs,(1:B)<=a.1:=λ a ha=>(aS.2 a ha).1;refine dj (xs:=ys) (λ i σ H'=>∃ (r:Z) (v2 v3:Ü V),σ=[%[v|45],%[r|45],v2,v3]/\Ext H H'/\H r=L/\H' r=U (.lst ((ah first (axs.take i)).map V.int))) ⟨r,L,L,J,e1.trans e2,e1.free a6,h2⟩ (λ i σ H' _ ⟨_,_,_,_,e,_,_⟩=>e.at hl) ?_ ?_
  ·rintro i y _ H3 hi ⟨r3,v2,v3,rfl,e3,aX,h3⟩;let(a,q,ha,rfl,hq):=TQ al hi;let b0:=e3.at hq;let hm:=aS.2 a (V8 ha);simp! only[↓aA];rw[wd];refine{_,h3,hm.1,?_,hm.2,λ r4 H4 a7 e4 h4=>?_}
   ·let a8:=aM first (axs.take i) λ b hb=>af b (Xo hb)
    let hp:=jN (axs.map λ a=>a.1) (λ n hn=>by let(b,hb,rfl):=VT.mp hn;exact af b hb) (i+1);rw[kl _ i a.1 (by rw[VS,ha];rfl),←Zu,←a8] at hp;let a9:((a.1.toNat:à):B)=a.1:=WU %[|8]
    have:(((ah first (axs.take i)).length * a.1.toNat:à):B)<=4096:=by rw[Ym,a9];omega
    omega
   ·ac_rfl;refine{r4,_,_,J,e3.trans e4,e3.free a7,?_};rw[h4,WZ,ha]
    show _=U (HO.lst (List.map V.int (ah first (axs.take i++[a]))))
    rw[jb]
  ·rintro _ H3 ⟨r3,v2,v3,rfl,e3,aX,h3⟩;let bt:ys.length=axs.length:=by rw[al.1];unfold axL;rw[length_map]
   rw[bt,WN] at h3;ac_rfl;exact a5 r3 H3 aX e3 h3
abbrev yc(C:Z)(v:Z)(q:Z)(H:Hp)(Q:VK)(E:XK):Prop:=∃ (room first:B) (axs:%[|48]) (ys:G B),ak C H v room first axs/\bY axs/\H q=U (.tup (ys.map V.int))/\InR (axs.map λ a=>a.1) ys/\∀ H',Ext H H'->Q (.int (first+ik ys (axs.map λ a=>a.2))) H'
def AK(C:Z):Sp:=λ vs H Q E=>∃ (v:Z) (q:Z),vs=[.ref v,.ref q]/\(yc C v q H Q E)
theorem lQ(C:Z)(v:Z)(q:Z)(H:Hp)(Q:VK)(E:XK):AK C [.ref v,.ref q] H Q E=(yc C v q H Q E):=gv (f:=λ (v:Z) (q:Z)=>[.ref v,.ref q]) %[4,2|63] v q
theorem k9(T:Tx K mg t):pY P w K mg base CX0 4 t.a_Ed t.d_Ed ["self", "place"] (AK t.a_MN):=by
 intros Hi vE zB aL zC rj;refine %[Ed,wB,2|70]
 ·let(v,q,rfl,room,first,axs,ys,vo,af,hq,hy,aS):=h;let(dx,l,hv,_):=vo.ob;let c1:=T.qA0;let c2:=T.qA5
  let f1:=dn room first l
  let f3:=vn room first l (m := "sizes") nofun
  let f4:=vn room first l (m := "paces") nofun
  refine{_,%[%[%[%[%[Hi,%[%[%[0|0],qA0,qA1,zB,aZ|61],%[1|1]|1]|3]|26]|31],%[(@cy _ _)|10],(@au _)|14],%[%[%[bN,%[0|22],%[sum,gO,%[%[(%[|137]),(2),(aD (aa fX) ["self", "place"] J J nofun),%[T.z_zip,%[1,%[%[%[0|0],qA0,qAs,zC,aZ|61]|1]|1]|43],%[(%[(2),%[%[(0),%[|137]|51],%[%[(1),%[|137]|51],(@aO _)|18]|18]|29].mono λ _ _ _ _ h=>cp h)|72],%[(@aI _)|72],%[%[eN,0,1|11]|72]|25]|1]|6]|11]|12]|10]|9],?_};rw[%[["self", "place"],[.ref v,.ref q],0|53]];clear G_Hi G_zB G_zC;let hsz:=af.sizes;ac_rfl;rw[aR];refine{room,first,axs,vo,af.1,λ r H1 a8 e1 h1=>?_};let a5:=e1.at hv;let aX:=e1.at hq;clear hq;ac_rfl;rw[wm];refine{_,ys,h1,by rw[VD];exact af.1,aX,hy,λ H2 e2=>?_};let a6:=e2.at a5;let a7:=e2.at aX;ac_rfl;rw[zM];refine{room,first,axs,vo.ext (e1.trans e2),af.1,λ r3 H3 a9 e3 h3=>?_};let a3:=e3.at a7;ac_rfl;let bt:=hy.len;let h8:=af.1;refine bc ((ys.map V.int).zip ((axs.map λ a=>a.2).map V.int)) (λ _=>Y) (λ z=>.int (vi z.1 * vi z.2)) II (kL (ka:=Y) (kb:=Á) a3 h3).1 (kL (ka:=Y) (kb:=Á) a3 h3).2 (ao (by rw[Xf,VD,VD,VD];omega)) ?_ ?_
  ·intro D z y H' N1 N0 hz hD e ⟨u,hu,bB⟩ k1 _;subst hu;let(x0,n0):=z;let hm:=Xw hz;let(a,ha,rfl):=VT.mp hm.1;let(b,bS,rfl):=VT.mp hm.2;let b0:N1 (.int (a * b)) H':=k1 J H' (Ext.refl _);let ca:=hy.bound hsz a ha;let b1:oG a b:=.inl {by omega,by omega};clear k1 hm hz aS;simp! only[↓fq,↓aK]
  ·intro D H' hD e a4
   let b2:H' D=U (.lst ((List.zipWith (λ x p=>x * p) ys (axs.map λ a=>a.2)).map V.int)):=by
    rw[a4,Jk]
   let k2:Q (.int (first+(List.zipWith (λ x p=>x * p) ys (axs.map λ a=>a.2)).sum)) H':=aS H' (e1.trans (e2.trans (e3.trans e)));let b3:=(e3.trans e).at a6;clear aS a4;ac_rfl
def oJ(l:Z):G (Ç × V):=gC "floor" (V.ref l) []
theorem eV(l:Z):(oJ l).lookup ("floor":Ç)=%[l|45]:=by
 unfold oJ;rw[aN,if_pos J]
theorem dD(l:Z)(h:m∈([("all_values":Ç), "refuse_room", "read", "put", "copied", "fill"]:G Ç)):(oJ l).lookup m=L:=by
 have:¬ m = "floor":=by
  revert m
  decide +kernel
 unfold oJ;rw[aN,if_neg this];rfl
structure bQ(C:Z)(H:Hp)(s l:Z)(vals:G B):Prop where
 ob:∃ dx,H s=U (.ins C dx (oJ l))
 fl:H l=%[vals|46]
theorem bQ.ext{C:Z}{s l:Z}(h:bQ C H s l vals)(e:Ext H H'):bQ C H' s l vals:=by
 let(dx,h1):=h.ob;exact{⟨dx,e.at h1⟩,e.at h.fl}
abbrev tN(C:Z)(x:Z)(p:Z)(H:Hp)(Q:VK)(E:XK):Prop:=∃ (dx:Z) (vals:G B),H x=U (.ins C dx [])/\H p=%[vals|46]/\1<=vals.length/\vals.length<=4096/\∀ (H':Hp) (l:Z),(∀ H0,Ext H0 H->H0 x=L->Ext H0 H')->H l=L->H' x=U (.ins C dx (oJ l))->H' l=%[vals|46]->Q .non H'
def uL(C:Z):Sp:=λ vs H Q E=>∃ (x:Z) (p:Z),vs=[.ref x,.ref p]/\(tN C x p H Q E)
theorem tq(C:Z)(x:Z)(p:Z)(H:Hp)(Q:VK)(E:XK):uL C [.ref x,.ref p] H Q E=(tN C x p H Q E):=gv (f:=λ (x:Z) (p:Z)=>[.ref x,.ref p]) %[4,2|63] x p
theorem kH(T:Tx K mg t):%[4,vX|49] ["self", "values"] (uL t.a_ML):=by
 intros zu fF;refine %[vX,lD,2|70]
 ·let(x,p,rfl,dx,vals,hx,hp,aS,aX,k):=h;let c1:=T.qA2;let c2:=T.qAb;refine{_,%[%[%[(br hr.units),%[len,aB,%[1|1]|6],99,(ar _)|13],%[(@cy _ _)|10],(@au _)|14],%[%[%[zu,%[%[len,aB,%[1|1]|6]|1]|3]|19],%[(@lJ _ _ _ _ _ _ _ _ %[0|0] %[iC,T.z_list,%[1|1]|33] J)|10]|9]|9],?_};rw[%[["self", "values"],[.ref x,.ref p],0|53]];clear G_zu;let a3:¬ ((vals.length:B)=0):=by omega
  ac_rfl;rw[qS];refine{λ _=>?_,λ h=>Þ h %[|8]};ac_rfl;intro l H1 hl e1 h1;let a4:=e1.at hx;let af:l≠x:=λ z=>by rw[z,hx] at hl;cases hl
  ac_rfl;exact k _ l (λ H0 q0 q1=>(q0.trans e1).put q1) hl aj (by rw[ag af];exact h1)
def AO(C:Z):Sp:=λ vs H Q E=>∃ (s:Z),vs=[.ref s]/\(∃ (l:Z) (vals:G B),bQ C H s l vals/\vals.length<=4096/\∀ (r:Z) (H':Hp),H r=L->Ext H H'->H' r=%[vals|46]->Q (.ref r) H')
theorem lR(C:Z)(s:Z)(H:Hp)(Q:VK)(E:XK):AO C [.ref s] H Q E=(∃ (l:Z) (vals:G B),bQ C H s l vals/\vals.length<=4096/\∀ (r:Z) (H':Hp),H r=L->Ext H H'->H' r=%[vals|46]->Q (.ref r) H'):=kJ (f:=λ (s:Z)=>[.ref s]) %[2,1|63] s
theorem cE(T:Tx K mg t):%[1,vT|49] ["self"] (AO t.a_ML):=by
 refine T.F_vT.ok jR (λ _ _ _ _ h=>kK h λ _=>J) %[1|50]
 ·let(s,rfl,l,vals,so,aS,k):=h;let(dx,hs):=so.ob;let aX:=so.fl;let c1:=T.qA2;let c2:=T.qAb;let f1:=eV l;refine{_,%[%[%[iC,T.z_list,%[%[0|22]|1]|33]|12]|10],?_};rw[%[["self"],[.ref s],0|53]];ac_rfl;intro r H1 af e1 h1;exact k r H1 af e1 h1
abbrev xW(CS CV:Z)(s:Z)(v:Z)(H:Hp)(Q:VK)(E:XK):Prop:=∃ (l:Z) (vals:G B) (room first:B) (axs:%[|48]),bQ CS H s l vals/\ak CV H v room first axs/\room=vals.length/\Q .non H
def AA(CS CV:Z):Sp:=λ vs H Q E=>∃ (s:Z) (v:Z),vs=[.ref s,.ref v]/\(xW CS CV s v H Q E)
theorem qR(CS CV:Z)(s:Z)(v:Z)(H:Hp)(Q:VK)(E:XK):AA CS CV [.ref s,.ref v] H Q E=(xW CS CV s v H Q E):=gv (f:=λ (s:Z) (v:Z)=>[.ref s,.ref v]) %[4,2|63] s v
theorem dU(T:Tx K mg t):%[1,vR|49] %[|139] (AA t.a_ML t.a_MN):=by
 refine T.F_vR.ok eL (λ _ _ _ _ h=>gB h λ _ _=>J) %[1|50]
 ·let(s,v,rfl,l,vals,room,first,axs,so,vo,af,k):=h;let(dx,hs):=so.ob;let(dy,D,hv,_):=vo.ob;let aS:=so.fl;let c1:=T.qA2;let c2:=T.qAb;let c3:=T.qA0;let c4:=T.qA7;let f1:=eV l
  let f2:=cG room first D
  refine{_,%[%[%[(bM hr.units),%[1|22],%[len,aB,%[%[0|22]|1]|6],(ar _)|13],%[(@cy _ _)|10],(@au _)|14]|10],?_};rw[%[%[|139],[.ref s,.ref v],0|53]];subst af;ac_rfl
def qx(CV:Z):Sp:=λ vs H Q E=>∃ (v:Z) (n:B),vs=[.ref v,.int n]/\(∃ (room first:B) (axs:%[|48]),ak CV H v room first axs/\bY axs/\n=ae (axs.map λ a=>a.1)/\∀ H',Ext H H'->Q .non H')
theorem zQ(CV:Z)(v:Z)(n:B)(H:Hp)(Q:VK)(E:XK):qx CV [.ref v,.int n] H Q E=(∃ (room first:B) (axs:%[|48]),ak CV H v room first axs/\bY axs/\n=ae (axs.map λ a=>a.1)/\∀ H',Ext H H'->Q .non H'):=gv (f:=λ (v:Z) (n:B)=>[.ref v,.int n]) %[4,2|63] v n
theorem nN(T:Tx K mg t):%[3,zq|49] ["view", "many"] (qx t.a_MN):=by
 intros DU dX;refine T.F_zq.ok oC (λ _ _ _ _ h=>gB h λ _ _=>J) %[1|50]
 ·let(v,n,rfl,room,first,axs,vo,af,hn,k):=h;let(dy,D,hv,_):=vo.ob
  let f3:=vn room first D (m := "count") nofun
  let c3:=T.qA0;refine{_,%[%[%[(bM hr.units),%[%[0|0],qA0,qAd,DU,aZ|61],1,(ar _)|13],%[(@cy _ _)|10],(@au _)|14]|10],?_};rw[%[["view", "many"],[.ref v,.int n],0|53]];clear G_DU;subst hn;ac_rfl;rw[iD];refine{room,first,axs,vo,af,λ H1 e1=>?_};let k1:=k H1 e1;clear k;ac_rfl
theorem fU{c:B}(h0:0<=c)(h1:c<vals.length):atI (vals.map V.int) c=U (.int (vals.getD c.toNat 0)):=by
 let(n,rfl):=WB h0;let hn:n<vals.length:=by omega
 refine gL ?_;rw[VS,VA hn];simp[List.getD,VA hn]
theorem Fq{c:B}(h0:0<=c)(h1:c<n):ixN n c=U c.toNat:=by
 unfold ixN;rw[if_pos h0,if_pos %[|8]]
def vf(cs:G B)(n:à):Prop:=∀ c∈cs,0<=c/\c<(n:B)
def Sl(vals cs:G B):G B:=cs.map λ c=>vals.getD c.toNat 0
def E3(vals cs ws:G B):G B:=(cs.zip ws).foldl (λ vs p=>vs.set p.1.toNat p.2) vals
abbrev IH(CS CV:Z)(s:Z)(v:Z)(H:Hp)(Q:VK)(E:XK):Prop:=∃ (l:Z) (vals:G B) (room first:B) (axs:%[|48]),bQ CS H s l vals/\ak CV H v room first axs/\bY axs/\room=vals.length/\ae (axs.map λ a=>a.1)<=4096/\vf (ah first axs) vals.length/\∀ (r:Z) (H':Hp),H r=L->Ext H H'->H' r=U (.lst ((Sl vals (ah first axs)).map V.int))->Q (.ref r) H'
def US(CS CV:Z):Sp:=λ vs H Q E=>∃ (s:Z) (v:Z),vs=[.ref s,.ref v]/\(IH CS CV s v H Q E)
theorem sF{cs:G B}{c z:B}(hc:cs[i]? = U c)(hw:ws[i]? = U z):E3 vals (cs.take (i+1)) (ws.take (i+1))=(E3 vals (cs.take i) (ws.take i)).set c.toNat z:=by
 unfold E3
 let e1:(cs.take (i+1)).zip (ws.take (i+1))=(cs.take i).zip (ws.take i)++[(c,z)]:=by
  rw[WZ,WZ,hc,hw,Zz (by
   let h1:=(VB.mp hc).1;let h2:=(VB.mp hw).1;rw[Wi,Wi];omega)]
  rfl
 rw[e1,Yk];rfl
theorem Ga(vals:G B):∀ (ps:%[|48]),(ps.foldl (λ vs p=>vs.set p.1.toNat p.2) vals).length=vals.length:=by
 intro ps
 induction ps generalizing vals with
 | nil=>rfl
 | cons p ps ih=>rw[X5,ih,Y2]
def vy(vals cs ws:G B):(E3 vals cs ws).length=vals.length:=Ga vals _
theorem qJ(xs:G B)(j:à)(z:B):(xs.map V.int).set j (.int z)=(xs.set j z).map V.int:=by
 rw[List.map_set]
def JM(CS CV:Z):Sp:=λ vs H Q E=>∃ (s:Z) (v:Z) (p:Z),vs=[.ref s,.ref v,.ref p]/\(∃ (l:Z) (vals:G B) (room first:B) (axs:%[|48]) (ws:G B),bQ CS H s l vals/\ak CV H v room first axs/\bY axs/\room=vals.length/\vals.length<=4096/\ae (axs.map λ a=>a.1)<=4096/\vf (ah first axs) vals.length/\H p=%[ws|46]/\p≠l/\(ws.length:B)=ae (axs.map λ a=>a.1)/\∀ H',(∀ H0,Ext H0 H->H0 l=L->Ext H0 H')->(∀ b o,b≠l->H b=U o->H' b=U o)->H' l=U (.lst ((E3 vals (ah first axs) ws).map V.int))->Q .non H')
theorem Nl(CS CV:Z)(s:Z)(v:Z)(p:Z)(H:Hp)(Q:VK)(E:XK):JM CS CV [.ref s,.ref v,.ref p] H Q E=(∃ (l:Z) (vals:G B) (room first:B) (axs:%[|48]) (ws:G B),bQ CS H s l vals/\ak CV H v room first axs/\bY axs/\room=vals.length/\vals.length<=4096/\ae (axs.map λ a=>a.1)<=4096/\vf (ah first axs) vals.length/\H p=%[ws|46]/\p≠l/\(ws.length:B)=ae (axs.map λ a=>a.1)/\∀ H',(∀ H0,Ext H0 H->H0 l=L->Ext H0 H')->(∀ b o,b≠l->H b=U o->H' b=U o)->H' l=U (.lst ((E3 vals (ah first axs) ws).map V.int))->Q .non H'):=wC (f:=λ (s:Z) (v:Z) (p:Z)=>[.ref s,.ref v,.ref p]) %[6,3|63] s v p
theorem uh(T:Tx K mg t):%[5,Eg|49] ["self", "view", "values"] (JM t.a_ML t.a_MN):=by
 intros vR dU zq nN DV dY;refine T.F_Eg.ok jg (λ _ _ _ _ h=>Ae h λ _ _ _=>J) %[1|50]
 ·let(s,v,p,rfl,l,vals,room,first,axs,ws,so,vo,a3,a4,cf,cg,a5,hp,b2,b3,k):=h;subst a4;let(dx,hs):=so.ob;let(dy,D,hv,_):=vo.ob;let a9:=so.fl;let c1:=T.qA2;let c2:=T.qAb;let c3:=T.qA0;let f1:=eV l;let f2:=dD l (m := "refuse_room") nofun
  let f3:=vn (vals.length:B) first D (m := "cells") nofun
  refine{_,%[%[%[%[0|0],qA2,qA4,vR,aZ,%[1|1]|60]|19],%[%[%[zq,%[1,%[%[len,aB,%[2|1]|6]|1]|1]|3]|19],%[%[VX,%[T.z_zip,%[%[%[1|0],qA0,qA9,DV,aZ|61],%[2|1]|1]|43],(%[(2),%[%[3,jg|5],%[%[4,jg|5],(@aO _)|18]|18]|29].mono λ _ _ _ _ h=>cp h),%[(@rT _ _ _ _ _ _ %[4|0] (@wK _ _ _ _ _ _ _ %[0|22] %[3|0] lG (by intros;rfl)) ∅ ∅ ∅)|10]|24]|10]|9]|9],?_};rw[%[["self", "view", "values", "cell", "value"],[.ref s,.ref v,.ref p],2|53]];clear G_vR G_zq G_DV;ac_rfl;rw[qR];refine{l,vals,_,first,axs,so,vo,J,?_};ac_rfl;rw[zQ];refine{_,first,axs,vo,a3,(by first|rfl|exact b3),λ H1 e1=>?_};let ck:=e1.at hv;let b6:=e1.at hp;ac_rfl;rw[gS];refine{_,first,axs,vo.ext e1,a3,λ _ r2 H2 bt e2 h2=>?_,λ h=>Þ h %[|8]}
  let b7:=aM first axs λ a ha=>(a3.2 a ha).1
  generalize ah first axs=cs at h2 a5 k b7
  let bB:cs.length=ws.length:=by omega
  let b8:=e2.at b6;let a6:=(e1.trans e2).at hs;let aS:=(e1.trans e2).at a9;let bS:r2≠l:=λ z=>by rw[z,e1.at a9] at bt;cases bt
  ac_rfl;refine qe (ka:=Á) (kb:=Á) (xs:=cs.map V.int) (ys:=ws.map V.int) (λ i σ H'=>∃ v3 v4:Ü V,σ=[%[s|45],%[v|45],%[p|45],v3,v4]/\(∀ H0,Ext H0 H2->H0 l=L->Ext H0 H')/\(∀ b o,b≠l->H2 b=U o->H' b=U o)/\H' l=U (.lst ((E3 vals (cs.take i) (ws.take i)).map V.int))) ⟨L,L,J,λ _ q _=>q,λ _ _ _ q=>q,aS⟩ (λ i σ H' ⟨_,_,_,_,hk,_⟩=>{hk _ _ bS h2,hk _ _ b2 b8}) ?_ ?_
  ·rintro i u x q _ H3 H4 hu hx ⟨v3,v4,rfl,a7,af,h3⟩ hq e4 h4;rw[VS] at hu hx;let(c,hc,rfl):=VH.mp hu;let(z,hz,rfl):=VH.mp hx;let b0:=a5 c (V8 hc);let cm:=e4.at (af _ _ (λ z=>by rw[z,aS] at a6;cases a6) a6);let b1:=e4.at h3;let hlen:=vy vals (cs.take i) (ws.take i);let aX:=λ (_:Unit)=>sF (vals:=vals) hc hz;generalize E3 vals (cs.take i) (ws.take i)=vv at h3 b1 hlen aX;let cv:ixN vv.length c=U c.toNat:=Fq b0.1 (by rw[hlen];exact b0.2);clear hu hx hc hz k a5 hlen h3;simp! only[↓aA];refine{_,_,J,λ H0 q0 q1=>((a7 H0 q0 q1).trans e4).put q1,λ b o hb a8=>by rw[ag hb];exact e4.at (af b o hb a8),?_};rw[aX (),←qJ]
  ·rintro _ H3 ⟨v3,v4,rfl,a7,af,h3⟩;let hm:min (cs.map V.int).length (ws.map V.int).length=cs.length:=by rw[VD,VD];omega
   rw[hm,WN,bB,WN] at h3;exact k H3 (λ H0 q0 q1=>a7 H0 (q0.trans (e1.trans e2)) q1) (λ b o hb a8=>af b o hb ((e1.trans e2).at a8)) h3
theorem Fun.x{x qual:Ç}{st:Stmt}{f:Z}(F:Fun K x qual st f fd):NR K x qual st f fd:=by
 let(oc,od,kV,doc,pm,an,cdv,ct,osl,e,lk,af):=F.ex;exact{⟨oc,od,.none,kV,doc,pm,an,cdv,ct,osl,e,lk,af⟩,F.kp}
abbrev pP(C cN:Z)(u:Z)(v:Z)(H:Hp)(Q:VK)(E:XK):Prop:=∃ (r1 r2 f1 f2:B) (A xL:%[|48]),ak C H u r1 f1 A/\ak C H v r2 f2 xL/\(r1=r2->Q .non H)/\(r1≠r2->∀ H',Ext H H'->E (.ref cN) L H')
def qv(C cN:Z):Sp:=λ vs H Q E=>∃ (u:Z) (v:Z),vs=[.ref u,.ref v]/\(pP C cN u v H Q E)
theorem pE(C cN:Z)(u:Z)(v:Z)(H:Hp)(Q:VK)(E:XK):qv C cN [.ref u,.ref v] H Q E=(pP C cN u v H Q E):=gv (f:=λ (u:Z) (v:Z)=>[.ref u,.ref v]) %[4,2|63] u v
theorem gs(T:Tx K mg t):aT P w K mg base (CX1 P  w) 1 t.a_zh t.d_zh ["one", "other"] (qv t.a_MN t.a_MH):=by
 refine(Fun.x T.F_zh).ok iN (λ _ _ _ _ h=>gB h λ _ _=>J) %[0|50]
 ·let(u,v,rfl,ra,rb,f1,f2,A,xL,vu,vv,kQ,kE):=h;let(dx,D,hu,_):=vu.ob;let(dy,D2,hv,_):=vv.ob;let c1:=T.qA0;let c4:=T.qA7;let g1:=cG ra f1 D;let g2:=cG rb f2 D2;refine{_,%[%[%[(bM hr.units),%[0|22],%[1|22],(ar _)|13],%[(@lI _ _ _ _ _ _ _ _ _ _ J ∅ T.m_MH ⟨T.qAi⟩ (λ σ=>iu) %[(@bL _ _ _ _)|1] ∅ ∅ ⋯)|10],(@au _)|14]|10],?_};rw[%[["one", "other"],[.ref u,.ref v],0|53]]
  by_cases he:ra=rb
  ·subst he;let k':=kQ rfl;clear kQ kE;ac_rfl
  ·let k':=kE he H (Ext.refl _);clear kQ kE;ac_rfl
theorem ji(T:Tx K mg t):%[1,vS|49] ["self", "number"] (Rw t.a_HA "number"):=by
 refine T.F_vS.ok jQ (λ vs H Q E h=>QJ _ _ h) %[0|50]
 ·let(e,x,rfl,he,k):=h;refine{_,%[%[(@xm _ _ _ _ _ _ _ _ _ _ ∅ T.m_Hd T.bi_PaceError %[0,%[1|1]|1] ⋯ ∅ ∅ ∅)|19],%[(@Bs _ _ _ _ _ _ _ _ %[0|0] %[1|0] rfl)|10]|9],?_};rw[%[["self", "number"],[.ref e,x],0|53]];ac_rfl;refine{e,_,_,_,[x],J,he,T.oi_TooMany,(show 1<=Å by decide),?_};ac_rfl;exact{e,_,J,he,T.oi_TooMany.st,T.tk_TooMany_number,λ dx H' h1 h2 h3 h4 h5=>k dx H' h1 h2 h3 h4 h5}
abbrev tS(cT:Z)(n:B)(H:Hp)(Q:VK)(E:XK):Prop:=(n<=4096->Q .non H)/\(4096<n->∀ dx H',Ext H H'->H' dx=U (.xd [("number",.int n)])->E (.ref cT) (U dx) H')
def uR(cT:Z):Sp:=λ vs H Q E=>∃ (n:B),vs=[.int n]/\(tS cT n H Q E)
theorem tG(cT:Z)(n:B)(H:Hp)(Q:VK)(E:XK):uR cT [.int n] H Q E=(tS cT n H Q E):=kJ (f:=λ (n:B)=>[.int n]) %[2,1|63] n
theorem ia(T:Tx K mg t):aT P w K mg base (CX1 P  w) 3 t.a_zu t.d_zu ["count"] (uR t.a_HA):=by
 intros vS ji;refine(Fun.x T.F_zu).ok jP (λ _ _ _ _ h=>kK h λ _=>J) %[0|50]
 ·let(n,rfl,k1,k2):=h;refine{_,%[%[%[nZ,0,(@ek _ _ (.int 4096) _ _ ∅ T.m_MOST_TOLD.choose_spec {_,J} ⋯),(ar _)|13],%[(@sG _ _ _ _ _ _ _ _ _ _ _ _ _ _ _ J ∅ T.m_HA T.oi_TooMany G_vS (hr.mono ⋯) T.b_vS (λ σ=>nk) %[0|1] ∅ ∅ ⋯)|10],(@au _)|14]|10],?_};rw[%[["count"],[.int n],0|53]]
  by_cases hn:4096<n
  ·let af:=k2 hn;clear k1 k2;ac_rfl;exact QS af
  ·let aS:=k1 %[|8];clear k1 k2;ac_rfl
theorem aT.up{P:Ë}{w:Ï}{base:Í}{CX:CXT}{f:Z}{ps:G Ç}{sp:Sp}(F:aT P w K mg base CX0 k f fd ps sp):aT P w K mg base CX k f fd ps sp:=
 ⟨F.len,λ A outer s H args us vs Q E hr hc he hb hv hs=>Xi (F.run A outer s H args us vs Q E hr hc he hb hv hs) λ r s' h=>by
  cases r with
  | error e=>exact h.elim
  | ok c=>cases c<;>exact h⟩
theorem aT.both{P:Ë}{w:Ï}{base:Í}{CX:CXT}{f:Z}{ps:G Ç}{sp af aS:Sp}(F:aT P w K mg base CX k f fd ps sp)(F':aT P w K mg base CX k f fd ps af)(h:∀ vs H Q E,aS vs H Q E->sp vs H Q E\/af vs H Q E):aT P w K mg base CX k f fd ps aS:=
 ⟨λ vs H Q E q=>(h _ _ _ _ q).elim (F.len vs H Q E) (F'.len vs H Q E),λ A outer s H args us vs Q E hr hc he hb hv hs=>(h _ _ _ _ hs).elim (F.run A outer s H args us vs Q E hr hc he hb hv) (F'.run A outer s H args us vs Q E hr hc he hb hv)⟩
def VwN(C:Z)(H:Hp)(x:Z)(room n:B):Prop:=∃ f A,ak C H x room f A/\bY A/\ae (A.map λ a=>a.1)=n
theorem VwN.ext{C:Z}{x:Z}{n:B}(h:VwN C H x room n)(e:Ext H H'):VwN C H' x room n:=by
 let(f,A,h1,h2):=h;exact{f,A,h1.ext e,h2}
abbrev tP(CS CV cV:Z)(s:Z)(v:Z)(H:Hp)(Q:VK)(E:XK):Prop:=∃ (l:Z) (vals:G B) (room n:B),bQ CS H s l vals/\VwN CV H v room n/\(room=vals.length->Q .non H)/\(room≠vals.length->∀ H',Ext H H'->E (.ref cV) L H')
def uN(CS CV cV:Z):Sp:=λ vs H Q E=>∃ (s:Z) (v:Z),vs=[.ref s,.ref v]/\(tP CS CV cV s v H Q E)
theorem tE(CS CV cV:Z)(s:Z)(v:Z)(H:Hp)(Q:VK)(E:XK):uN CS CV cV [.ref s,.ref v] H Q E=(tP CS CV cV s v H Q E):=gv (f:=λ (s:Z) (v:Z)=>[.ref s,.ref v]) %[4,2|63] s v
theorem ib(T:Tx K mg t):aT P w K mg base (CX1 P  w) 1 t.a_vR t.d_vR %[|139] (uN t.a_ML t.a_MN t.a_MG):=by
 refine(Fun.x T.F_vR).ok eL (λ _ _ _ _ h=>gB h λ _ _=>J) %[1|50]
 ·let(s,v,rfl,l,vals,room,n,so,(first,axs,vo,_),kQ,kE):=h;let(dx,hs):=so.ob;let(dy,D,hv,_):=vo.ob;let af:=so.fl;let c1:=T.qA2;let c2:=T.qAb;let c3:=T.qA0;let c4:=T.qA7;let f1:=eV l
  let f2:=cG room first D
  refine{_,%[%[%[(bM hr.units),%[1|22],%[len,aB,%[%[0|22]|1]|6],(ar _)|13],%[(@lI _ _ _ _ _ _ _ _ _ _ J ∅ T.m_MG ⟨T.qAh⟩ (λ σ=>iu) %[(@bL _ _ _ _)|1] ∅ ∅ ⋯)|10],(@au _)|14]|10],?_};rw[%[%[|139],[.ref s,.ref v],0|53]]
  by_cases he:room=(vals.length:B)
  ·let k':=kQ he;subst he;clear kQ kE;ac_rfl
  ·let k':=kE he H (Ext.refl _);clear kQ kE;ac_rfl
abbrev pT(C cT:Z)(v:Z)(H:Hp)(Q:VK)(E:XK):Prop:=∃ (room n:B),VwN C H v room n/\4096<n/\∀ dx H',Ext H H'->H' dx=U (.xd [("number",.int n)])->E (.ref cT) (U dx) H'
def qA(C cT:Z):Sp:=λ vs H Q E=>∃ (v:Z),vs=[.ref v]/\(pT C cT v H Q E)
theorem zU(C cT:Z)(v:Z)(H:Hp)(Q:VK)(E:XK):qA C cT [.ref v] H Q E=(pT C cT v H Q E):=kJ (f:=λ (v:Z)=>[.ref v]) %[2,1|63] v
theorem oB(T:Tx K mg t):aT P w K mg base (CX1 P  w) 4 t.a_DV t.d_DV ["self"] (qA t.a_MN t.a_HA):=by
 intros DU dX zu ia;refine(Fun.x T.F_DV).ok cJ (λ _ _ _ _ h=>kK h λ _=>J) %[0|50]
 ·let(v,rfl,room,n,(first,axs,vo,af,hn),aS,k):=h;let(dx,l,hv,_):=vo.ob;let c1:=T.qA0;let c2:=T.qA5;let c3:=T.qA3
  let f3:=vn room first l (m := "count") nofun
  refine{_,%[%[%[zu,aw,%[%[%[0|0],qA0,qAd,DU,aZ|61]|1]|68]|19],(@bG _ _)|9],?_};rw[%[["self", "found", "size", "pace"],[.ref v],3|53]];clear G_DU G_zu;exists k;ac_rfl;rw[iD];refine{room,first,axs,vo,af,λ H1 e1=>?_};rw[hn];ac_rfl;rw[tG];exact{λ h=>Þ h %[|8],λ _ dx H' e' h'=>k () dx H' (e1.trans e') h'}
def xcl(t:Adr):à->Z
 | 0=>t.a_MG
 | 1=>t.a_MH
 | 2=>t.a_Hy
 | 3=>t.a_Hz
 | 4=>t.a_HA
 | _=>t.a_MK
def XdQ(f:B)(A:%[|48])(H:Hp):à->Ü Z->Prop
 | 4,d=>∃ dx,d=U dx/\H dx=U (.xd [("number",.int (ae (A.map λ a=>a.1)))])
 | 5,d=>∃ (dx p q:Z) (i j:à) (c:B),d=U dx/\i<j/\(ah f A)[i]? = U c/\(ah f A)[j]? = U c/\H dx=U (.xd [("other",.ref q),("one",.ref p)])/\H p=U (.tup ((aC (A.map λ a=>a.1) (i:B)).map V.int))/\H q=U (.tup ((aC (A.map λ a=>a.1) (j:B)).map V.int))
 | _,d=>d=L
def RaX(t:Adr)(f:B)(A:%[|48])(H:Hp)(E:XK)(j:à):Prop:=∀ (d:Ü Z) (H':Hp),Ext H H'->XdQ f A H' j d->E (.ref (xcl t j)) d H'
def RaW(t:Adr)(H:Hp)(E:XK)(j:à):Prop:=∀ (d:Ü Z) (H':Hp),Ext H H'->lq H' d->E (.ref (xcl t j)) d H'
theorem XdQ.dO(h:XdQ f A H j d):lq H d:=by
 match j with
 | 4=>let(dx,rfl,h2):=h;rw[gY,h2];trivial
 | 5=>let(dx,_,_,_,_,_,rfl,_,_,_,h2,_):=h;rw[gY,h2];trivial
 | 0=>rw[show d=L from h];trivial
 | 1=>rw[show d=L from h];trivial
 | 2=>rw[show d=L from h];trivial
 | 3=>rw[show d=L from h];trivial
 | _+6=>rw[show d=L from h];trivial
theorem RaW.x(h:RaW t H E j):RaX t f A H E j:=λ d H' e q=>h d H' e q.dO
theorem RaX.ext{H1:Hp}(h:RaX t f A H E j)(e:Ext H H1):RaX t f A H1 E j:=λ d H' e' x=>h d H' (e.trans e') x
theorem RaW.ext{H1:Hp}(h:RaW t H E j)(e:Ext H H1):RaW t H1 E j:=λ d H' e' x=>h d H' (e.trans e') x
theorem kG(T:Tx K mg t):%[1,vV|49] ["self", "one", "other"] (Rv t.a_MK "one" "other"):=by
 refine T.F_vV.ok lC (λ vs H Q E h=>QI _ _ _ h) %[0|50]
 ·let(e,x,y,rfl,he,k):=h;refine{_,%[%[(@xm _ _ _ _ _ _ _ _ _ _ ∅ T.m_Hd T.bi_PaceError %[0,%[1,%[2|1]|1]|1] ⋯ ∅ ∅ ∅)|19],%[(@Bs _ _ _ _ _ _ _ _ %[0|0] %[1|0] rfl),%[(@Gf _ _ _ _ _ _ _ _ %[0|0] %[2|0] rfl)|10]|9]|9],?_};rw[%[["self", "one", "other"],[.ref e,x,y],0|53]];ac_rfl;refine{e,_,_,_,[x,y],J,he,T.oi_Twice,(show 2<=Å by decide),?_};ac_rfl;refine{e,_,J,he,T.oi_Twice.st,T.tk_Twice_one,λ dx H' h1 h2 h3 h4 h5=>?_};ac_rfl;refine{e,_,dx,[("one",x)],J,h4,h5,(show 1<=100 by decide),T.oi_Twice.st,T.tk_Twice_other,?_};ac_rfl;refine k dx _ h1 h2 (λ b o hb hH=>?_) ?_ ?_
  ·rw[ag (ba hH h1)];exact h3 b o hb hH
  ·rw[ag (VL h2)];exact h4
  ·exact aj
abbrev nG(C cN:Z)(u:Z)(v:Z)(H:Hp)(Q:VK)(E:XK):Prop:=∃ (r1 r2 f1 f2:B) (A xL:%[|48]),ak C H u r1 f1 A/\ak C H v r2 f2 xL/\A.length<=8/\xL.length<=8/\((A.map λ a=>a.1)=(xL.map λ a=>a.1)->∀ H',Ext H H'->Q .non H')/\(¬ (A.map λ a=>a.1)=(xL.map λ a=>a.1)->∀ H',Ext H H'->E (.ref cN) L H')
def mD(C cN:Z):Sp:=λ vs H Q E=>∃ (u:Z) (v:Z),vs=[.ref u,.ref v]/\(nG C cN u v H Q E)
theorem jd(C cN:Z)(u:Z)(v:Z)(H:Hp)(Q:VK)(E:XK):mD C cN [.ref u,.ref v] H Q E=(nG C cN u v H Q E):=gv (f:=λ (u:Z) (v:Z)=>[.ref u,.ref v]) %[4,2|63] u v
theorem bD(T:Tx K mg t):aT P w K mg base (CX1 P  w) 2 t.a_sP t.d_sP %[|114] (mD t.a_MN t.a_Hy):=by
 intros zB aL;refine(Fun.x T.F_sP).ok dF (λ _ _ _ _ h=>gB h λ _ _=>J) %[0|50]
 ·let(u,v,rfl,r1,r2,f1,f2,A,xL,vu,vv,h8,aX,kQ,kE):=h;let(dx,D,hu,_):=vu.ob;let(dy,D2,hv,_):=vv.ob;let c1:=T.qA0;let g1:=vn r1 f1 D (m := "sizes") nofun;let g2:=vn r2 f2 D2 (m := "sizes") nofun;refine{_,%[%[%[(bM hr.units),%[%[0|0],qA0,qA1,zB,aZ|61],%[%[1|0],qA0,qA1,zB,aZ|61],(ar _)|13],%[(@lI _ _ _ _ _ _ _ _ _ _ J ∅ T.m_Hy ⟨T.qAf⟩ (λ σ=>iu) %[(@bL _ _ _ _)|1] ∅ ∅ ⋯)|10],(@au _)|14]|10],?_};rw[%[%[|114],[.ref u,.ref v],0|53]];clear G_zB;exists kQ;exists kE;ac_rfl;rw[aR];refine{r1,f1,A,vu,h8,λ q1 H1 a3 e1 h1=>?_};let a4:=e1.at hv;clear a3;ac_rfl;rw[aR];refine{r2,f2,xL,vv.ext e1,aX,λ q2 H2 af e2 h2=>?_};let aS:=e2.at h1
  by_cases hs:(A.map λ a=>a.1)=(xL.map λ a=>a.1)
  ·rw[←hs] at h2;let k':=kQ () hs H2 (e1.trans e2);clear kQ kE af h1 hs;ac_rfl
  ·let k':=kE () hs H2 (e1.trans e2);generalize (A.map λ a=>a.1)=m1 at hs aS;generalize (xL.map λ a=>a.1)=m2 at hs h2;clear kQ kE af h1;ac_rfl
abbrev pS  (n:B) (b:B) (m:B) (H:Hp) (Q:VK) (E:XK):Prop:=1<=b/\b<=1000/\0<=m/\m<=8/\∀ (ds:G B) (r:Z) (H':Hp),H r=L->Ext H H'->H' r=%[ds|46]->(ds.length:B)=m->(∀ d∈ds,0<=d/\d<b)->Q (.ref r) H'
def qz  : Sp:=λ vs H Q E=>∃ (n:B) (b:B) (m:B),vs=[.int n,.int b,.int m]/\(pS  n b m H Q E)
theorem kz  (n:B) (b:B) (m:B) (H:Hp) (Q:VK) (E:XK):qz  [.int n,.int b,.int m] H Q E=(pS  n b m H Q E):=wC (f:=λ (n:B) (b:B) (m:B)=>[.int n,.int b,.int m]) %[6,3|63] n b m
theorem dz(T:Tx K mg t):%[1,zx|49] ["_law_number", "_law_by", "_law_many"] qz:=by
 refine %[zx,ed,3|70]
 ·let(n,b,m,rfl,hb,a4,a5,a6,k):=h;refine{_,%[%[3,ed,%[(@cZ _)|16]|4],%[%[VX,%[T.z_range,%[2|1]|34],%[4,ed|5],%[%[%[Wa,Wy,Wx,cP,3,%[%[lW,0,1|11]|1]|40]|19],%[%[0,ed,%[jX,0,1|11]|4]|10]|9]|24],%[%[3|12]|10]|9]|9],?_};rw[%[["_law_number", "_law_by", "_law_many", "_law_found", "_law_k"],[.int n,.int b,.int m],2|53]];let a3:0<b:=by omega
  ac_rfl;intro r H1 aS e1 h1;ac_rfl;refine{by omega,by omega,?_};refine qf (λ i σ H'=>∃ (x:B) (ds:G B) (v4:Ü V),σ=[%[x|47],%[b|47],%[m|47],%[r|45],v4]/\Ext H H'/\H' r=%[ds|46]/\ds.length=i/\∀ d∈ds,0<=d/\d<b) {n,[],L,J,e1,h1,J,λ _ h=>Þ h VM} ?_ ?_
  ·rintro i _ H2 hi ⟨x,ds,v4,rfl,e2,h2,aX,af⟩;let a7:i<m.toNat:=hi;let g1:=Xk x (show b≠0 by omega);let g2:=WY x a3;let a8:ds.length<Å:=kP %[|8];exists af;clear hi k;simp! only[↓aA];refine{kP %[|8],by omega,x / b,ds++[x % b],_,J,e2.put aS,by rw[Ws];rfl,by simp[aX],λ d hd=>?_}
   rcases Wf.mp hd with h|h
   ·exact af () d h
   ·rw[VO.mp h];exact{(g1),g2}
  ·rintro _ H2 ⟨x,ds,v4,rfl,e2,h2,aX,af⟩;let k1:=k ds r H2 aS e2 h2 %[|8] af;clear k af;ac_rfl
def Vq(os:%[|48])(n:à):Prop:=os.length=n/\(os.map λ o=>o.1).Perm ((Ì n).map λ (i:à)=>(i:B))/\∀ o∈os,o.2=1\/o.2=-1
theorem ph:∀ (xs:G B) (k:à),(xs.map V.int).eraseIdx k=(xs.eraseIdx k).map V.int
 | [],k=>by cases k<;>rfl
 | x::xs,0=>rfl
 | x::xs,k+1=>W2 (V.int x::·) (ph xs k)
theorem pf:∀ {xs:G B}{k:à}{x:B},xs[k]? = U x->(x::xs.eraseIdx k).Perm xs
 | [],k,x,h=>by simp at h
 | y::xs,0,x,h=>by cases h;exact List.Perm.refl _
 | y::xs,k+1,x,h=>(List.Perm.swap y x _).trans ((pf (xs:=xs) (k:=k) (by simpa using h)).cons y)
def Kh(cT:Z)(H:Hp)(Q:VK)(E:XK):G B->Prop:=λ ns=>(ae ns<=4096->∀ D H',H D=L->Ext H H'->bP H' D (fj ns)->Q (.ref D) H')/\¬ 4096<ae ns
def Be(cT:Z)(H:Hp)(Q:VK)(E:XK)(ns:G B):Kh cT H Q E ns=((ae ns<=4096->∀ D H',H D=L->Ext H H'->bP H' D (fj ns)->Q (.ref D) H')/\¬ 4096<ae ns):=rfl
def qy(cT:Z):Sp:=λ vs H Q E=>∃ (p:Z),vs=[.ref p]/\(aJ (aF H p) (jn (kSz (Kh cT H Q E))))
theorem pF(cT:Z)(p:Z)(H:Hp)(Q:VK)(E:XK):qy cT [.ref p] H Q E=(aJ (aF H p) (jn (kSz (Kh cT H Q E)))):=kJ (f:=λ (p:Z)=>[.ref p]) %[2,1|63] p
theorem sM(T:Tx K mg t):%[4,MD|49] ["sizes"] (qy t.a_HA):=by
 intros Hg eE zu fF zd hU;refine %[MD,lS,1|70]
 ·let(p,rfl,h):=h;let(xs,hp,ns,rfl,hs,k1,k2):=aq h;replace hp:=bO hp;clear h;refine{_,%[%[1,lS,%[Hg,%[0|1]|3]|4],%[%[%[zu,%[1|1]|3]|19],%[%[%[(["number", "sizes", "count"]),(1),(aD (aa lH) ["sizes", "count"] J J nofun),%[T.z_range,%[1|1]|34],%[%[(0),["number", "sizes", "count"]|51]|72],%[(@aI _)|72],%[%[zd,%[1,%[0|1]|1]|3]|72]|25]|12]|10]|9]|9],?_};rw[%[["sizes", "count"],[.ref p],1|53]];let a6:=hs.prod.1;simp! only[↓gR,↓rO,↓oH];rw[qS];refine{λ hn=>?_,k2};let aX:=k1 hn;clear k1 k2;let af:ae ns<2 ^ 62:=by omega
  let a3:-(2 ^ 62)<=ae ns:=by omega
  ac_rfl;refine{a3,af,?_};refine eU (Ì (ae ns).toNat) (λ _=>Y) (λ j x H'=>x=.int (0+(j:à))) (λ D j y H'=>∃ q,y=.ref q/\q≠D/\H' q=U (.tup ((aC ns (j:à)).map V.int))) cF.1 cF.2 (λ D _ y H1 H2 ⟨q,h1,h2,h3⟩ e=>{q,h1,h2,e.at h3}) (λ D _ y H1 o ⟨q,h1,h2,h3⟩=>{q,h1,h2,by rw[ag h2];exact h3}) (ao (by rw[V5];omega)) ?_ ?_
  ·intro D j x H' N1 N0 hz hD e ⟨a7,aS⟩ hx kk _;subst hx;let a8:=e.at hp;let a4:=kk rfl;clear kk;simp! only[↓aH,↓aK,↓sZ,↓rO];rw[wG];intro r H2 af e2 h2;rw[Ww] at h2;exact a4 _ H2 e2 {r,J,(λ z=>by rw[z,aS] at af;cases af),h2}
  ·intro D ys H' hD e a5 al;rw[jl] at al;refine aX D H' hD e {ys,a5,?_,λ i z y hz hy=>?_}
   ·rw[al.1,V5,mO]
   ·unfold fj at hz;rw[getElem?_map] at hz;let(j,hj,rfl):=Option.map_eq_some_iff.mp hz;let(q,h1,_,h3):=al.2 i j y hj hy;exact{(q),h1,h3}
def rN(ms:G B)(o:B × B)(y:B):B:=if o.2=1 then y else ms.getD o.1.toNat 0 - 1 - y
def dS(ms:G B)(os:%[|48])(ys:G B):G B:=(os.zip ys).foldl (λ pl p=>pl.set p.1.1.toNat (rN ms p.1 p.2)) (È ms.length 0)
theorem yD(ms:G B)(ps:G ((B × B) × B)):∀ pl:G B,(ps.foldl (λ pl p=>pl.set p.1.1.toNat (rN ms p.1 p.2)) pl).length=pl.length:=by
 induction ps with
 | nil=>intro pl;rfl
 | cons p ps ih=>intro pl;rw[X5,ih,Y2]
theorem vz{ys:G B}{y:B}(ho:os[i]? = U o)(hy:ys[i]? = U y):dS ms (os.take (i+1)) (ys.take (i+1))=(dS ms (os.take i) (ys.take i)).set o.1.toNat (rN ms o y):=by
 unfold dS
 let e1:(os.take (i+1)).zip (ys.take (i+1))=(os.take i).zip (ys.take i)++[(o,y)]:=by
  rw[WZ,WZ,ho,hy,Zz (by
   let h1:=(VB.mp ho).1;let h2:=(VB.mp hy).1;rw[Wi,Wi];omega)]
  rfl
 rw[e1,Yk];rfl
theorem jA(n:à):(È n [V.int 0]).flatten=(È n (0:B)).map V.int:=by
 induction n with
 | zero=>rfl
 | succ n ih=>rw[Xv,Ya,ih,Xv,Wr];rfl
abbrev nK  (p:Z) (o:Z) (q:Z) (H:Hp) (Q:VK) (E:XK):Prop:=∃ (ms:G B) (os:%[|48]) (ys:G B),H p=%[ms|46]/\bP H o (os.map λ o=>[o.1,o.2])/\H q=U (.tup (ys.map V.int))/\ms.length<=8/\ys.length=os.length/\(∀ o∈os,0<=o.1/\o.1<(ms.length:B))/\∀ (r:Z) (H':Hp),H r=L->Ext H H'->H' r=U (.tup ((dS ms os ys).map V.int))->Q (.ref r) H'
def mI  : Sp:=λ vs H Q E=>∃ (p:Z) (o:Z) (q:Z),vs=[.ref p,.ref o,.ref q]/\(nK  p o q H Q E)
theorem wo  (p:Z) (o:Z) (q:Z) (H:Hp) (Q:VK) (E:XK):mI  [.ref p,.ref o,.ref q] H Q E=(nK  p o q H Q E):=wC (f:=λ (p:Z) (o:Z) (q:Z)=>[.ref p,.ref o,.ref q]) %[6,3|63] p o q
theorem kF(T:Tx K mg t):%[1,vW|49] ["sizes", "order", "steps"] mI:=by
 refine %[vW,cB,3|70]
 ·let(p,o,q,rfl,ms,os,ys,hp,(us,ho,al),hq,h8,aX,a3,k):=h;refine{_,%[%[3,cB,%[fT,%[%[99|1]|16],%[len,aB,%[0|1]|6]|11]|4],%[%[VX,%[T.z_zip,%[1,%[2|1]|1]|43],(%[(2),%[%[4,cB|5],%[%[5,cB|5],(@aO _)|18]|18]|29].mono λ _ _ _ _ h=>cp h),%[(@rT _ _ _ _ _ _ (@qE _ _ _ _ _ _ _ _ %[(br hr.units),%[4,99|15],99,(ar _)|13] %[5|0] %[fK,%[fK,%[0,%[4,99|15]|15],99|11],5|11]) (@wK _ _ _ _ _ _ _ %[3|0] %[4,99|15] lG (by intros;rfl)) ∅ ∅ ∅)|10]|24],%[%[%[jc,T.z_tuple,%[3|1]|33]|12]|10]|9]|9],?_};rw[%[["sizes", "order", "steps", "place", "loop", "step"],[.ref p,.ref o,.ref q],3|53]];ac_rfl;intro z1 H1 a9 e1 h1;let bt:=e1.at hp;ac_rfl;refine{by omega,by omega,ao (by simp;omega),?_};intro r H2 a6 e2 h2;rw[VW,jA] at h2;let aS:=e1.trans e2;let a4:H r=L:=e1.free a6;let bB:=aS.at ho;let bS:=aS.at hq;ac_rfl;refine qe (ka:=Á) (kb:=Y) (xs:=us) (ys:=ys.map V.int) (λ i σ H'=>∃ v4 v5:Ü V,σ=[%[p|45],%[o|45],%[q|45],%[r|45],v4,v5]/\Ext H H'/\H' r=U (.lst ((dS ms (os.take i) (ys.take i)).map V.int))) ⟨L,L,J,aS,h2⟩ (λ i σ H' ⟨_,_,_,e,_⟩=>{e.at ho,e.at hq}) ?_ ?_
  ·rintro i u x t _ H3 H4 hu hx ⟨v4,v5,rfl,e3,h3⟩ ht e4 h4;rw[VS] at hx;let(y,hy,rfl):=VH.mp hx;let hi:i<os.length:=by rw[←aX];exact(VB.mp hy).1
   let(w,rfl,hw):=al.2 i [os[i].1,os[i].2] u (by rw[getElem?_map,getElem?_eq_getElem hi];rfl) hu;let af:=λ (_:Unit)=>vz (ms:=ms) (getElem?_eq_getElem hi) hy;let hb:=a3 os[i] (getElem_mem hi);let a7:H4 w=U (.tup [.int os[i].1,.int os[i].2]):=(e3.trans e4).at hw;let b0:=(e3.trans e4).at hp;let a5:=e4.at h3;let hlen:(dS ms (os.take i) (ys.take i)).length=ms.length:=by unfold dS;rw[yD,length_replicate]
   unfold rN at af;generalize os[i]=oo at af hb a7;let(o1,o2):=oo;generalize dS ms (os.take i) (ys.take i)=pl at h3 a5 hlen af;let b1:ixN pl.length o1=U o1.toNat:=Fq hb.1 (by rw[hlen];exact hb.2);let b2:=fU (vals:=ms) hb.1 hb.2;clear hu hx k a3 hlen h3 hw
   by_cases hg:o2=1
   ·simp! only[↓aA];refine{_,_,J,(e3.trans e4).put a4,?_};rw[af (),List.map_set];simp[hg]
   ·simp! only[↓aA];refine{_,_,J,(e3.trans e4).put a4,?_};rw[af (),List.map_set];simp[hg]
  ·rintro _ H3 ⟨v4,v5,rfl,e3,h3⟩;let hm:min us.length (ys.map V.int).length=os.length:=by rw[al.1,VD,VD];omega
   rw[hm,WN,←aX,WN] at h3;ac_rfl;intro r' H4 a8 e4 h4;exact k r' H4 (e3.free a8) (e3.trans e4) h4
def Nz(x:V):Ý:=match x with
 | .int i=>inV (.int i) [.int 1,.int (-1)]
 | _=>Á
def rP(n:B):Ü HO->Ý
 | some (.tup [x,y])=>iI x n && Nz y
 | _=>Á
def gE(n:B)(x:V)(H:Hp):Ý:=match x with
 | .ref q=>rP n (H q)
 | _=>Á
theorem m9(e:Ext H H'){x:V}(h:fm H x):fm H' x:=by
 let(b,hb):=V1.mp h.1;refine{V1.mpr {b,u6 e hb},λ q xs hx hq y hy=>?_};subst hx;let(_,o,ho,_):=ft hb;have:=e.at ho;rw[hq] at this;cases this;let(c,hc):=V1.mp (h.2 q xs J ho y hy);exact V1.mpr {c,u6 e hc}
theorem mT(e:Ext H H'){n:B}{x:V}(h:fm H x):gE n x H'=gE n x H:=by
 let(b,hb):=V1.mp h.1
 cases x with
 | ref q=>
  let(_,o,ho,_):=ft hb
  show rP n (H' q)=rP n (H q)
  rw[ho,e.at ho]
 | _=>rfl
abbrev x5  (x:V) (n:B) (H:Hp) (Q:VK) (E:XK):Prop:=fm H x/\∀ H',Ext H H'->Q (.bl (gE n x H)) H'
def AF  : Sp:=λ vs H Q E=>∃ (x:V) (n:B),vs=[x,.int n]/\(x5  x n H Q E)
theorem Iw  (x:V) (n:B) (H:Hp) (Q:VK) (E:XK):AF  [x,.int n] H Q E=(x5  x n H Q E):=gv (f:=λ (x:V) (n:B)=>[x,.int n]) %[4,2|63] x n
theorem yJ(T:Tx K mg t):%[3,Ht|49] ["thing", "many"] AF:=by
 intros vU cY Hf eC;refine %[Ht,EU,2|70]
 ·let(x,n,rfl,hk,k):=h;refine{_,%[%[(PW.pt %[%[%[%[isinstance,cu,%[0,%[(@er _ _ (.ty "tuple") (.type "tuple") _ ∅ T.z_tuple nofun J ⋯ ⋯)|1]|1]|6]|26]|31],%[%[(bM hr.units),%[len,aB,%[0|1]|6],99,(ar _)|13]|35]|32]),%[%[(@gy _ _ _ _)|12]|10],(@au _)|14],%[%[%[%[vU,%[%[0,99|15],%[1|1]|1]|3],%[%[Hf,%[%[0,99|15]|1]|3],(@lU _ _ _ _ _ %[O8,%[0,99|15],%[%[99,%[%[99|44]|1]|1]|21],(by with_unfolding_all rfl)|41])|39]|39]|12]|10]|9],?_};rw[%[["thing", "many"],[x,.int n],0|53]]
  cases x with
  | int i=>have k':Q (.bl Á) H:=k H (Ext.refl _);clear k;ac_rfl
  | bl i=>have k':Q (.bl Á) H:=k H (Ext.refl _);clear k;ac_rfl
  | non=>have k':Q (.bl Á) H:=k H (Ext.refl _);clear k;ac_rfl
  | str i=>have k':Q (.bl Á) H:=k H (Ext.refl _);clear k;ac_rfl
  | ref q=>
   let(b,hb):=V1.mp hk.1;let(rfl,o,ho,ht):=ft hb;let af:gE n (.ref q) H=rP n (U o):=by rw[←ho];rfl
   rw[af] at k;clear af hb
   cases o with
   | tup xs=>
    by_cases hl:xs.length=2
    ·match xs,hl with
     | [x,y],_=>
      let(c,hc):=V1.mp (hk.2 q _ J ho x (by simp));let(d,hd):=V1.mp (hk.2 q _ J ho y (by simp));replace k:∀ H',Ext H H'->Q (.bl (iI x n && Nz y)) H':=k;clear hk ht;ac_rfl;rw[m4,hc,fM,lE]
      cases hbl:iI x n with
      | false=>
       let k':=k H (Ext.refl _);rw[hbl,YW] at k';clear k hbl;ac_rfl
      | true=>
       rw[hbl,Bool.true_and] at k;clear hbl;ac_rfl;rw[bH]
       cases y with
       | int i=>
        cases hd;ac_rfl;intro z H1 hz e1 h1;let k':=k H1 e1;let e2:Nz (.int i)=inV (.int i) [.int 1,.int (-1)]:=rfl;rw[e2] at k';clear k;ac_rfl;exact{(J),J}
       | bl i=>cases hd;let k':Q (.bl Á) H:=k H (Ext.refl _);clear k;ac_rfl
       | non=>cases hd;let k':Q (.bl Á) H:=k H (Ext.refl _);clear k;ac_rfl
       | str i=>cases hd;let k':Q (.bl Á) H:=k H (Ext.refl _);clear k;ac_rfl
       | ref p=>
        let(rfl,o,ho,ht):=ft hd;let k':Q (.bl Á) H:=k H (Ext.refl _);clear k;ac_rfl
       | _=>cases hd
    ·let k':Q (.bl Á) H:=by
      let e:rP n (U (.tup xs))=Á:=by
       match xs,hl with
       | [],_=>rfl
       | [_],_=>rfl
       | [_,_],h=>exact Þ J h
       | _::_::_::_,_=>rfl
      rw[e] at k;exact k H (Ext.refl _)
     let aS:¬ ((xs.length:B)=2):=by omega
     clear k;ac_rfl
   | lst xs=>have k':Q (.bl Á) H:=k H (Ext.refl _);clear k;ac_rfl
   | dK xs=>have k':Q (.bl Á) H:=k H (Ext.refl _);clear k;ac_rfl
   | dT xs=>have k':Q (.bl Á) H:=k H (Ext.refl _);clear k ht;let ht:tyO (.dT xs)=U "dict":=rfl;ac_rfl
   | frz ob u=>
    cases u with
    | lst ys=>have k':Q (.bl Á) H:=k H (Ext.refl _);clear k ht;let ht:tyO (.frz ob (.lst ys))=U "list":=rfl;ac_rfl
    | _=>rcases ht with ht|ht|ht<;>cases ht
   | _=>rcases ht with ht|ht|ht<;>cases ht
  | _=>cases hk.1
def bh(n:à)(H:Hp)(q:Z)(os:%[|48]):Prop:=bP H q (os.map λ o=>[o.1,o.2])/\os.length=n/\∀ o∈os,(0<=o.1/\o.1<(n:B))/\(o.2=1\/o.2=-1)
def TR(n:à)(H:Hp)(q:Z)(xs:G V):Prop:=(∀ y∈xs,fm H y)/\(xs.all λ y=>gE n y H)=Á
def bF(n:à)(H:Hp)(x:V):Prop:=((isW H x).isSome=Y/\∀ q o,x=.ref q->H q=U o->tyO o≠U "list")\/∃ q xs,x=.ref q/\H q=U (.lst xs)/\xs.length<=20/\(xs.length≠n\/TR n H q xs\/∃ os,bh n H q os/\¬ (os.map λ o=>o.1).Nodup)
theorem yE{w:Z}(h:H w=U (.tup [.int a,.int b])):fm H (.ref w):=by
 refine{by rw[eS];simp[h,lY],λ q xs e hq y hy=>?_};cases e;rw[h] at hq;cases hq;simp only[VU,VM,V6] at hy
 rcases hy with rfl|rfl<;>rfl
theorem CN{w:Z}{n:B}(h:H w=U (.tup [.int a,.int b]))(h0:0<=a/\a<n)(h1:b=1\/b=-1):gE n (.ref w) H=Y:=by
 show rP n (H w)=Y
 rw[h]
 show (iI (.int a) n && Nz (.int b))=Y
 let e1:iI (.int a) n=(decide (0<=a) && decide (a<n)):=rfl;rw[e1,Wk h0.1,Wk h0.2]
 rcases h1 with rfl|rfl<;>rfl
theorem bh.all(h:bh n H q os)(hq:H q=U (.lst xs)):xs.length=n/\(∀ y∈xs,fm H y/\gE n y H=Y):=by
 let((us,hu,al),hl,ho):=h;rw[hq] at hu;cases hu;refine{by rw[al.1,VD,hl],λ y hy=>?_};let(i,hi,rfl):=List.mem_iff_getElem.mp hy;let af:i<os.length:=by have:=al.1;rw[VD] at this;omega
 let(w,e,hw):=al.2 i [os[i].1,os[i].2] xs[i] (by rw[VS,VA af];rfl) (VA hi);let hb:=ho os[i] (Xm af);rw[e];exact{yE hw,CN hw hb.1 hb.2}
def mH  : Sp:=λ vs H Q E=>∃ (p:Z) (x:V),vs=[.ref p,x]/\(∃ ms:G B,H p=%[ms|46]/\ms.length<=8/\(bF ms.length H x->∀ H',Ext H H'->Q (.bl Á) H')/\(¬ bF ms.length H x->∃ q os,x=.ref q/\bh ms.length H q os/\∀ H',Ext H H'->Q (.bl Y) H'))
theorem nC  (p:Z) (x:V) (H:Hp) (Q:VK) (E:XK):mH  [.ref p,x] H Q E=(∃ ms:G B,H p=%[ms|46]/\ms.length<=8/\(bF ms.length H x->∀ H',Ext H H'->Q (.bl Á) H')/\(¬ bF ms.length H x->∃ q os,x=.ref q/\bh ms.length H q os/\∀ H',Ext H H'->Q (.bl Y) H')):=gv (f:=λ (p:Z) (x:V)=>[.ref p,x]) %[4,2|63] p x
theorem nu(T:Tx K mg t):%[4,Hl|49] %[|134] mH:=by
 intros Ht yJ;refine %[Hl,pH,2|70]
 ·let(p,x,rfl,ms,hp,h8,aX,af):=h
  let a3:((isW H x).isSome=Y/\(∀ q o,x=.ref q->H q=U o->tyO o≠U "list")/\Q (.bl Á) H)\/(∃ q xs,x=.ref q/\H q=U (.lst xs)/\xs.length≠ms.length/\xs.length<=20/\Q (.bl Á) H)\/(∃ q xs,x=.ref q/\H q=U (.lst xs)/\xs.length=ms.length/\(∀ y∈xs,fm H y)/\((xs.all λ y=>gE (ms.length:à) y H)=Á->∀ H',Ext H H'->Q (.bl Á) H')/\((xs.all λ y=>gE (ms.length:à) y H)=Y->∃ os,bh ms.length H q os/\∀ H',Ext H H'->Q (.bl (decide ((NA (os.map λ o=>o.1):B)=(ms.length:B)))) H')):=by
   by_cases hB:bF ms.length H x
   ·let kf:=aX hB
    rcases hB with ⟨a,b⟩|⟨q,xs,e,hq,hl,hc⟩
    ·exact .inl {a,b,kf H (Ext.refl _)}
    ·by_cases hn:xs.length=ms.length
     ·right;right
      rcases hc with h1|h1|⟨os,h1,h2⟩
      ·exact Þ hn h1
      ·exact{q,xs,e,hq,hn,h1.1,λ _=>kf,λ h=>Þ (h1.2.symm.trans h) ⋯}
      ·let h3:=h1.all hq;refine{q,xs,e,hq,hn,λ y hy=>(h3.2 y hy).1,λ _=>kf,λ _=>{os,h1,λ H' e'=>?_}};rw[Wl]
       ·exact kf H' e'
       ·intro h;refine h2 ((Bp _).mp ?_);rw[VD,h1.2.1];omega
     ·exact .inr (.inl {q,xs,e,hq,hn,hl,kf H (Ext.refl _)})
   ·let(q,os,e,h1,kt):=af hB;let(us,hu,al):=h1.1;let h3:=h1.all hu;right;right;refine{q,us,e,hu,h3.1,λ y hy=>(h3.2 y hy).1,λ hf=>?_,λ _=>{os,h1,λ H' e'=>?_}}
    ·exact Þ hf (by rw[W4.mpr λ y hy=>(h3.2 y hy).2];decide)
    ·rw[Wk]
     ·exact kt H' e'
     ·let a4:(os.map λ o=>o.1).Nodup:=Classical.byContradiction λ a4=>hB (.inr {q,us,e,hu,by omega,.inr (.inr {(os),h1,a4})});have:=(Bp _).mpr a4;rw[this,VD,h1.2.1]
  clear aX af;refine{_,%[(@gH _ _ (2) _ _ _ _ pH.nd J (Or.inr J) %[len,aB,%[0|1]|6] ∅ %[|7]),%[%[(PW.pt %[%[%[%[isinstance,cu,%[1,%[(@er _ _ (.ty "list") (.type "list") _ ∅ T.z_list nofun J ⋯ ⋯)|1]|1]|6]|26]|31],%[%[(bM hr.units),%[len,aB,%[1|1]|6],2,(ar _)|13],%[%[%[%[all,gP,%[%[(%[|120]),(1),(aD (aa fO) ["sizes", "thing", "many"] J J nofun),%[1|20],%[%[(0),%[|120]|51]|72],%[(@aI _)|72],%[%[Ht,%[0,%[3|1]|1]|3]|72]|25]|1]|6]|26]|31]|35]|32]|32]),%[%[(@gy _ _ _ _)|12]|10],(@au _)|14],%[%[%[(br hr.units),%[len,zK,%[%[(EB J),T.z_set,%[%[(%[|120]),(1),(aD (aa fO) ["sizes", "thing", "many"] J J nofun),%[1|20],%[%[(0),%[|120]|51]|72],%[(@aI _)|72],%[%[0,99|15]|72]|25]|1]|33]|1]|6],2,(ar _)|41]|12]|10]|9]|9],?_};rw[%[["sizes", "thing", "many"],[.ref p,x],1|53]]
  rcases a3 with ⟨a,b,k⟩|⟨q,xs,rfl,hq,hn,hl,k⟩|⟨q,xs,rfl,hq,hn,aS,kf,kt⟩
  ·cases x with
   | int i=>clear a b;ac_rfl
   | bl i=>clear a b;ac_rfl
   | non=>clear a b;ac_rfl
   | str i=>clear a b;ac_rfl
   | ref q=>
    let(c,hc):=V1.mp a;let(rfl,o,ho,ht):=ft hc;clear a hc
    cases o with
    | lst xs=>exact Þ J (b q _ J ho)
    | tup xs=>clear b ht;ac_rfl
    | dK xs=>clear b ht;ac_rfl
    | dT xs=>clear b ht;let ht:tyO (.dT xs)=U "dict":=rfl;ac_rfl
    | frz ob u=>
     cases u with
     | lst ys=>exact Þ J (b q _ J ho)
     | _=>rcases ht with ht|ht|ht<;>cases ht
    | _=>rcases ht with ht|ht|ht<;>cases ht
   | _=>cases a
  ·let bS:¬ ((xs.length:B)=(ms.length:B)):=by omega
   clear hn;ac_rfl
  ·let b0:((xs.length:B)=(ms.length:B)):=by omega
   let a9:xs.length<=Å:=ao %[|8];ac_rfl;refine bc xs (λ _=>Y) (λ y=>.bl (gE (ms.length:à) y H)) (λ z x _=>x=z) (λ i z H' hz e=>⟨((gp (K:=K) hq).1 i z H' hz e).1,λ x a6 y=>⟨(((gp (K:=K) hq).1 i z H' hz e).2 x a6 y).1,(((gp (K:=K) hq).1 i z H' hz e).2 x a6 y).2.1⟩⟩) (gp hq).2 a9 ?_ ?_
   ·intro D z y H' N1 N0 hz hD e hy k1 _;subst hy;let ht:=m9 e (aS y hz);let a5:=k1 rfl;rw[←mT e (aS y hz)] at a5;clear k1 kf kt aS hz hq;simp! only[↓aH,↓aK];rw[Iw];exact{(ht),a5}
   ·intro D H1 hD e1 h1;rw[jl] at h1;let b1:H1 D=U (.lst ((xs.map λ y=>gE (ms.length:à) y H).map V.bl)):=by rw[h1,WC];rfl
    let ea:((xs.map λ y=>gE (ms.length:à) y H).all id)=xs.all λ y=>gE (ms.length:à) y H:=by rw[List.all_map];rfl
    clear h1 aS
    cases hall:(xs.all λ y=>gE (ms.length:à) y H) with
    | false=>
     let k':=kf hall H1 e1;rw[hall] at ea;clear kf kt hall;ac_rfl
    | true=>
     let(os,bt,k'):=kt hall;rw[hall] at ea;clear kf kt hall;let((us,hu,al),b2,b3):=bt;let a7:=e1.at hu;let a8:=al.imp λ _ _ z=>bp.ext z e1;rw[hq] at hu;cases hu;clear hq al;ac_rfl;refine bc (os.map λ o=>[o.1,o.2]) (λ _=>Y) (λ z=>.int (z.getD 0 0)) (λ z x H'=>bp H' z x) (fR (R:=λ z x H'=>bp H' z x) (λ _ _ _ _ h e=>bp.ext h e) a7 a8).1 (fR (R:=λ z x H'=>bp H' z x) (λ _ _ _ _ h e=>bp.ext h e) a7 a8).2 (ao (by rw[VD];omega)) ?_ ?_
     ·intro D z y H' N1 N0 hz hD e hy k1 _;let(w,rfl,hw):=hy;let(o,ho,rfl):=VT.mp hz;let a5:N1 (.int o.1) H':=k1 J H' (Ext.refl _);clear k1 k' hz;simp! only[↓aH,↓aK]
     ·intro D2 H2 b6 e2 h2;rw[jl,WC] at h2;let bB:H2 D2=U (.lst ((os.map λ o=>o.1).map V.int)):=by rw[h2,WC];rfl
      clear h2;ac_rfl;refine Kr bB (by rw[VD];omega) ?_;intro S H3 hS e3 h3;let k2:=k' H3 (e1.trans (e2.trans e3));clear k';ac_rfl;refine FK h3 ?_;ac_rfl
def szO(ms:G B)(os:%[|48]):G B:=os.map λ o=>ms.getD o.1.toNat 0
theorem iU{c:B}(h0:0<=c)(h1:c<(ms.length:B)):ms.getD c.toNat 0∈ms:=by
 let hn:c.toNat<ms.length:=by omega
 rw[Xz,VA hn];exact Xm hn
theorem OO(hs:fk ms)(hl:os.length=ms.length)(ho:∀ o∈os,(0<=o.1/\o.1<(ms.length:B))/\(o.2=1\/o.2=-1)):fk (szO ms os):=by
 refine{by unfold szO;rw[length_map,hl];exact hs.1,λ n hn=>?_};let(o,h,rfl):=List.mem_map.mp hn;exact hs.2 _ (iU (ho o h).1.1 (ho o h).1.2)
theorem sC(h:z∈fj ns):z.length=ns.length:=by
 unfold fj at h;let(j,_,rfl):=List.mem_map.mp h;rw[bI]
def bh.ext(h:bh n H q os)(e:Ext H H'):bh n H' q os:={h.1.ext e,h.2}
theorem bF.ext{x:V}(h:bF n H x)(e:Ext H H'):bF n H' x:=by
 rcases h with ⟨a,b⟩|⟨q,xs,hx,hq,hl,hc⟩
 ·let(c,hc):=V1.mp a;refine .inl {V1.mpr {c,u6 e hc},λ q o hx ho=>?_};subst hx;let(_,o',af,_):=ft hc;have:=e.at af;rw[ho] at this;cases this;exact b q _ J af
 ·refine .inr {q,xs,hx,e.at hq,hl,?_}
  rcases hc with h|⟨h1,h2⟩|⟨os,h1,h2⟩
  ·exact .inl h
  ·refine .inr (.inl {λ y hy=>m9 e (h1 y hy),?_});rw[←h2];rw[WX,W4,W4];exact{λ h y hy=>by rw[←mT e (h1 y hy)];exact h y hy,λ h y hy=>by rw[mT e (h1 y hy)];exact h y hy}
  ·exact .inr (.inr {os,h1.ext e,h2})
def UR(n:B)(H:Hp)(y:V):Prop:=fm H y/\gE n y H=Á
theorem IF{n:B}(h:H p=U (.lst xs)):UR n H (.ref p):=by
 refine{⟨by rw[eS];simp[h,Bh],λ q ys e hq y hy=>?_⟩,by show rP n (H p)=Á;rw[h];rfl};cases e;rw[h] at hq;cases hq
def mq(h:H p=U (.lst xs))(hl:xs.length<=20)(hn:xs.length≠n):bF n H (.ref p):=.inr {p,xs,J,h,hl,.inl hn}
theorem ID{x:V}(h:match x with | .int _=>True | .non=>True|_=>False):bF n H x:=by
 cases x with
 | int i=>exact .inl {J,λ q o e=>by cases e}
 | non=>exact .inl {J,λ q o e=>by cases e}
 | _=>exact h.elim
theorem Nn(h:H p=U (.tup xs)):bF n H (.ref p):=.inl {by rw[eS];simp[h,lY],λ q o e ho=>by cases e;rw[h] at ho;cases ho;rw[lY];decide}
theorem IE(h:H p=U (.dK [])):bF n H (.ref p):=.inl {by rw[eS];simp[h,Av],λ q o e ho=>by cases e;rw[h] at ho;cases ho;rw[Av];decide}
theorem yA(ms:G B):(Ì ms.length).map (λ i=>ms.getD i 0)=ms:=by
 refine YF (by rw[VD,V5]) λ i h1 h2=>?_;rw[List.getElem_map,Y6,Xz,VA h2];rfl
theorem Gq:∀ {os af:%[|48]}{us:G V}{H:Hp},Al (bp H) (os.map λ o=>[o.1,o.2]) us->Al (bp H) (af.map λ o=>[o.1,o.2]) us->os=af:=by
 intro os af us H h h';let l1:=h.1;let l2:=h'.1;rw[VD] at l1 l2;refine YF %[|8] λ i h1 h2=>?_;let hu:i<us.length:=by omega
 let(w,e,hw):=h.2 i [os[i].1,os[i].2] us[i] (by rw[VS,VA h1];rfl) (VA hu);let(w',e',aS):=h'.2 i [af[i].1,af[i].2] us[i] (by rw[VS,VA h2];rfl) (VA hu);rw[e] at e';cases e';rw[hw] at aS;have:=We aS;simp only[HO.tup.injEq,Wr,YC,ZE,V.int.injEq,and_true] at this;exact Prod.ext this.1 this.2
theorem BG(h:bh n H q os)(hn:(os.map λ o=>o.1).Nodup):¬ bF n H (.ref q):=by
 let(us,hu,al):=h.1;let ha:=h.all hu;rintro (⟨_,b⟩|⟨q',xs,e,hq,_,hc⟩)
 ·exact b q _ J hu J
 ·cases e;rw[hu] at hq;cases hq
  rcases hc with h1|⟨_,h1⟩|⟨aX,h1,h2⟩
  ·exact h1 ha.1
  ·rw[W4.mpr λ y hy=>(ha.2 y hy).2] at h1;cases h1
  ·let(a3,af,aS):=h1.1;rw[hu] at af;cases af;rw[←Gq al aS] at h2;exact h2 hn
def idO(n:à):%[|48]:=(Ì n).map λ (i:à)=>((i:B),(1:B))
theorem BL(n:à):(idO n).length=n:=by unfold idO;rw[length_map,length_range]
theorem MV(n:à):((idO n).map λ o=>o.1)=(Ì n).map λ (i:à)=>(i:B):=by unfold idO;rw[map_map];rfl
theorem mX(n:à):((idO n).map λ o=>o.1).Nodup:=by
 rw[MV];exact List.pairwise_map.mpr (List.Pairwise.imp (λ h e=>h (Int.ofNat.inj e)) List.nodup_range)
theorem IZ(ms:G B):szO ms (idO ms.length)=ms:=by
 let e1:szO ms (idO ms.length)=(Ì ms.length).map λ i=>ms.getD i 0:=by unfold szO idO;rw[map_map];rfl
 rw[e1,yA]
def gz(n:à)(H:Hp)(x:V):Prop:=∃ q,x=.ref q/\bh n H q (idO n)
theorem gz.ext{x:V}(h:gz n H x)(e:Ext H H'):gz n H' x:=by
 let(q,h1,h2):=h;exact{q,h1,h2.ext e}
theorem gz.no{x:V}(h:gz n H x):¬ bF n H x:=by
 let(q,rfl,h2):=h;exact BG h2 (mX n)
abbrev xX  (p:Z) (q:Z) (H:Hp) (Q:VK) (E:XK):Prop:=∃ (ms:G B) (os:%[|48]),H p=%[ms|46]/\ms.length<=8/\bh ms.length H q os/\(os.map λ o=>o.1).Nodup/\∀ H',Ext H H'->Q .non H'
def AB  : Sp:=λ vs H Q E=>∃ (p:Z) (q:Z),vs=[.ref p,.ref q]/\(xX  p q H Q E)
theorem xO  (p:Z) (q:Z) (H:Hp) (Q:VK) (E:XK):AB  [.ref p,.ref q] H Q E=(xX  p q H Q E):=gv (f:=λ (p:Z) (q:Z)=>[.ref p,.ref q]) %[4,2|63] p q
theorem hZ(T:Tx K mg t):%[5,zk|49] %[|119] AB:=by
 intros Hl nu;refine %[zk,iO,2|70]
 ·let(p,q,rfl,ms,os,hp,h8,h1,af,k):=h;refine{_,%[%[%[%[%[Hl,%[0,%[1|1]|1]|3]|26]|31],%[(@cy _ _)|10],(@au _)|14]|10],?_};rw[%[%[|119],[.ref p,.ref q],0|53]];ac_rfl;rw[nC];refine{ms,hp,h8,λ hB=>Þ hB (BG h1 af),λ _=>{q,os,J,h1,λ H1 e1=>?_}};let k':=k H1 e1;clear k af;ac_rfl
abbrev pJ(cT:Z)(p:Z)(q:Z)(H:Hp)(Q:VK)(E:XK):Prop:=∃ (ms:G B) (os:%[|48]),H p=%[ms|46]/\fk ms/\bh ms.length H q os/\(os.map λ o=>o.1).Nodup/\ae (szO ms os)<=4096/\∀ (r:Z) (H':Hp),H r=L->Ext H H'->bP H' r ((fj (szO ms os)).map λ ys=>dS ms os ys)->Q (.ref r) H'
def qo(cT:Z):Sp:=λ vs H Q E=>∃ (p:Z) (q:Z),vs=[.ref p,.ref q]/\(pJ cT p q H Q E)
theorem zL(cT:Z)(p:Z)(q:Z)(H:Hp)(Q:VK)(E:XK):qo cT [.ref p,.ref q] H Q E=(pJ cT p q H Q E):=gv (f:=λ (p:Z) (q:Z)=>[.ref p,.ref q]) %[4,2|63] p q
theorem yH(T:Tx K mg t):%[6,Hv|49] %[|119] (qo t.a_HA):=by
 intros zk hZ MD sM vW kF;refine %[Hv,jK,2|70]
 ·let(p,q,rfl,ms,os,hp,hs,h1,b8,hn,k1):=h;refine{_,%[%[%[zk,%[0,%[1|1]|1]|3]|19],%[%[2,jK,%[MD,%[%[(%[|121]),(1),(aD (aa fL) %[|126] J J nofun),%[1|20],%[%[(0),%[|121]|51]|72],%[(@aI _)|72],%[%[1,%[0,99|15]|15]|72]|25]|1]|3]|4],%[%[%[(["steps", "sizes", "order", "walk"]),(1),(aD (aa fL) %[|126] J J nofun),%[2|20],%[%[(0),["steps", "sizes", "order", "walk"]|51]|72],%[(@aI _)|72],%[%[vW,%[1,%[2,%[0|1]|1]|1]|3]|72]|25]|12]|10]|9]|9],?_};rw[%[%[|126],[.ref p,.ref q],1|53]];ac_rfl;rw[xO];refine{ms,os,hp,hs.1,h1,b8,λ H1 e1=>?_};let((us,hu,al),cf,af):=h1;let aS:=e1.at hu;let aX:=e1.at hp;let a3:=al.imp λ _ _ z=>bp.ext z e1;let h8:=hs.1;ac_rfl;refine bc (os.map λ o=>[o.1,o.2]) (λ _=>Y) (λ z=>.int (ms.getD (z.getD 0 0).toNat 0)) (λ z x H'=>bp H' z x) (fR (R:=λ z x H'=>bp H' z x) (λ _ _ _ _ h e=>bp.ext h e) aS a3).1 (fR (R:=λ z x H'=>bp H' z x) (λ _ _ _ _ h e=>bp.ext h e) aS a3).2 (ao (by rw[VD];omega)) ?_ ?_
  ·intro D z y H' N1 N0 hz hD e hy kk _;let(w,rfl,hw):=hy;let(o,ho,rfl):=VT.mp hz;let a5:N1 (.int (ms.getD o.1.toNat 0)) H':=kk J H' (Ext.refl _);let a9:=e.at aX;let cT:=fU (vals:=ms) (af o ho).1.1 (af o ho).1.2;clear kk k1 hz af hp aX hu aS;simp! only[↓aH,↓aK]
  ·intro D H2 hD e2 h2;rw[jl,map_map] at h2;let cg:H2 D=U (.lst ((szO ms os).map V.int)):=by rw[h2];unfold szO;rw[map_map];rfl
   let cV:=OO hs cf af;let ck:=e1.trans e2;let bt:=e2.at aX;let bB:=e2.at aS;let bS:=a3.imp λ _ _ z=>bp.ext z e2;clear h2 aX aS a3;simp! only[↓pF,↓rO];rw[Be];refine{λ _ W H3 hW e3 h3=>?_,λ h=>Þ h %[|8]};let a5:=k1;clear k1;let(ws,a6,a7):=h3;let b0:=e3.at bt;let b1:=e3.at bB;let a4:=bS.imp λ _ _ z=>bp.ext z e3;let c0:(fj (szO ms os)).length<=4096:=by rw[mO];omega
   clear cg bt bB bS;ac_rfl;refine eU (fj (szO ms os)) (λ _=>Y) (λ z x H'=>bp H' z x) (λ D z y H'=>∃ q,y=.ref q/\q≠D/\H' q=U (.tup ((dS ms os z).map V.int))) (fR (R:=λ z x H'=>bp H' z x) (λ _ _ _ _ h e=>bp.ext h e) a6 a7).1 (fR (R:=λ z x H'=>bp H' z x) (λ _ _ _ _ h e=>bp.ext h e) a6 a7).2 (λ D _ y H1 H2 ⟨q,h1,h2,h3⟩ e=>{q,h1,h2,e.at h3}) (λ D _ y H1 o ⟨q,h1,h2,h3⟩=>{q,h1,h2,by rw[ag h2];exact h3}) (ao %[|8]) ?_ ?_
   ·intro D2 z y H' N1 N0 hz b2 e ⟨c1,b3⟩ hx kk _;let(w,rfl,hw):=hx;let cm:=kk rfl;let a9:=e.at b0;let cv:=e.at b1;let cz:=a4.imp λ _ _ z=>bp.ext z e;let cN:=sC hz;clear kk b0 b1 a4 a5 a6 a7 hz;simp! only[↓aH,↓aK];rw[wo];refine{ms,os,z,a9,{(us),cv,cz},hw,h8,by rw[cN];unfold szO;rw[length_map],λ o ho=>(af o ho).1,λ r H4 b6 e4 h4=>?_};exact cm _ H4 e4 {r,J,(λ z=>by rw[z,b3] at b6;cases b6),h4}
   ·intro D2 ys H4 b2 e4 cO a8;rw[jl] at a8;let b7:=ck.trans e3;refine a5 D2 H4 (b7.free b2) (b7.trans e4) {ys,cO,?_,λ i z y hz hy=>?_}
    ·rw[a8.1,VD]
    ·rw[VS] at hz;let(j,hj,rfl):=VH.mp hz;let(q,h1,_,h3):=a8.2 i j y hj hy;exact{(q),h1,h3}
def uP(cO:Z):Sp:=λ vs H Q E=>∃ (p:Z) (x:V),vs=[.ref p,x]/\(∃ ms:G B,H p=%[ms|46]/\ms.length<=8/\((bF ms.length H x/\∀ H',Ext H H'->E (.ref cO) L H')\/(gz ms.length H x/\∀ H',Ext H H'->Q .non H')))
theorem tF(cO:Z)(p:Z)(x:V)(H:Hp)(Q:VK)(E:XK):uP cO [.ref p,x] H Q E=(∃ ms:G B,H p=%[ms|46]/\ms.length<=8/\((bF ms.length H x/\∀ H',Ext H H'->E (.ref cO) L H')\/(gz ms.length H x/\∀ H',Ext H H'->Q .non H'))):=gv (f:=λ (p:Z) (x:V)=>[.ref p,x]) %[4,2|63] p x
theorem gu(T:Tx K mg t):aT P w K mg base (CX1 P  w) 5 t.a_zk t.d_zk %[|119] (uP t.a_Hz):=by
 intros Hl nu;refine(Fun.x T.F_zk).ok iO (λ _ _ _ _ h=>gB h λ _ _=>J) %[0|50]
 ·let(p,x,rfl,ms,hp,h8,hh):=h;refine{_,%[%[%[%[%[Hl,%[0,%[1|1]|1]|3]|26]|31],%[(@lI _ _ _ _ _ _ _ _ _ _ J ∅ T.m_Hz ⟨T.qAg⟩ (λ σ=>iu) %[(@bL _ _ _ _)|1] ∅ ∅ ⋯)|10],(@au _)|14]|10],?_};rw[%[%[|119],[.ref p,x],0|53]];ac_rfl;rw[nC]
  rcases hh with ⟨hB,k⟩|⟨hG,k⟩
  ·refine{ms,hp,h8,λ _ H1 e1=>?_,λ h=>Þ hB h};let k':=k H1 e1;clear k hB;ac_rfl
  ·refine{ms,hp,h8,λ h=>Þ h hG.no,λ _=>?_};let(q,rfl,h1):=hG;refine{q,_,J,h1,λ H1 e1=>?_};let k':=k H1 e1;clear k h1;ac_rfl
abbrev nH(cT:Z)(p:Z)(H:Hp)(Q:VK)(E:XK):Prop:=∃ ns:G B,H p=%[ns|46]/\fk ns/\4096<ae ns/\∀ dx H',Ext H H'->H' dx=U (.xd [("number",.int (ae ns))])->E (.ref cT) (U dx) H'
def mE(cT:Z):Sp:=λ vs H Q E=>∃ (p:Z),vs=[.ref p]/\(nH cT p H Q E)
theorem we(cT:Z)(p:Z)(H:Hp)(Q:VK)(E:XK):mE cT [.ref p] H Q E=(nH cT p H Q E):=kJ (f:=λ (p:Z)=>[.ref p]) %[2,1|63] p
theorem yL(T:Tx K mg t):aT P w K mg base (CX1 P  w) 4 t.a_MD t.d_MD ["sizes"] (mE t.a_HA):=by
 intros Hg eE zu ia;refine(Fun.x T.F_MD).ok lS (λ _ _ _ _ h=>kK h λ _=>J) %[0|50]
 ·let(p,rfl,ns,hp,hs,hn,k):=h;refine{_,%[%[1,lS,%[Hg,%[0|1]|3]|4],%[%[%[zu,aw,%[1|1]|68]|19],(@bG _ _)|9]|9],?_};rw[%[["sizes", "count"],[.ref p],1|53]];let af:=hs.prod.1;simp! only[↓gR,↓rO,↓oH];rw[tG];exact{λ h=>Þ h %[|8],λ _=>k}
abbrev tL(t:Adr)(p:Z)(x:V)(H:Hp)(Q:VK)(E:XK):Prop:=∃ (ms:G B) (j:à),H p=%[ms|46]/\fk ms/\((j=3/\bF ms.length H x)\/(j=4/\gz ms.length H x/\4096<ae ms))/\RaW t H E j
def uI(t:Adr):Sp:=λ vs H Q E=>∃ (p:Z) (x:V),vs=[.ref p,x]/\(tL t p x H Q E)
theorem EH(t:Adr)(p:Z)(x:V)(H:Hp)(Q:VK)(E:XK):uI t [.ref p,x] H Q E=(tL t p x H Q E):=gv (f:=λ (p:Z) (x:V)=>[.ref p,x]) %[4,2|63] p x
theorem vI(T:Tx K mg t):aT P w K mg base (CX1 P  w) 6 t.a_Hv t.d_Hv %[|119] (uI t):=by
 intros zk gu MD yL;refine(Fun.x T.F_Hv).ok jK (λ _ _ _ _ h=>gB h λ _ _=>J) %[0|50]
 ·let(p,x,rfl,ms,j,hp,hs,hj,k):=h;refine{_,%[%[%[zk,aw,%[0,%[1|1]|1]|68]|19],%[%[2,jK,%[MD,aw,%[%[(%[|121]),(1),(aD (aa fL) %[|126] J J nofun),%[1|20],%[%[(0),%[|121]|51]|72],%[(@aI _)|72],%[%[1,%[0,99|15]|15]|72]|25]|1]|68]|4],(@bG _ _)|9]|9],?_};rw[%[%[|126],[.ref p,x],1|53]];clear G_zk G_MD;ac_rfl;rw[tF]
  rcases hj with ⟨rfl,hB⟩|⟨rfl,hG,aX⟩
  ·exact{ms,hp,hs.1,.inl {hB,λ H' e=>k L H' e (by rw[gZ];trivial)}}
  ·refine{ms,hp,hs.1,.inr {hG,λ H1 e1=>?_}};let(q,rfl,h1):=hG;let hsz:=IZ ms;let((us,hu,al),a5,af):=h1;generalize idO ms.length=os at hsz hu al a5 af;let aS:=e1.at hu;let a3:=e1.at hp;let a4:=al.imp λ _ _ z=>bp.ext z e1;let h8:=hs.1;exists hsz;exists k;ac_rfl;refine bc (os.map λ o=>[o.1,o.2]) (λ _=>Y) (λ z=>.int (ms.getD (z.getD 0 0).toNat 0)) (λ z x H'=>bp H' z x) (fR (R:=λ z x H'=>bp H' z x) (λ _ _ _ _ h e=>bp.ext h e) aS a4).1 (fR (R:=λ z x H'=>bp H' z x) (λ _ _ _ _ h e=>bp.ext h e) aS a4).2 (ao (by rw[VD];omega)) ?_ ?_
   ·intro D z y H' N1 N0 hz hD e hy kk _;let(w,rfl,hw):=hy;let(o,ho,rfl):=VT.mp hz;let a7:N1 (.int (ms.getD o.1.toNat 0)) H':=kk J H' (Ext.refl _);let a8:=e.at a3;let a9:=fU (vals:=ms) (af o ho).1.1 (af o ho).1.2;clear kk k hz af hp a3 hu aS;simp! only[↓aH,↓aK]
   ·intro D H2 hD e2 h2;rw[jl,WC] at h2
    let a6:H2 D=%[ms|46]:=by
     let h3:(szO ms os).map V.int=ms.map V.int:=by rw[hsz ()]
     rw[h2,←h3];unfold szO;rw[map_map];rfl
    clear h2;ac_rfl;rw[we];exact{ms,a6,hs,aX,λ dx H' e h=>k () (U dx) H' (e1.trans (e2.trans e)) (by rw[gY,h];trivial)}
def NH(ms:G B)(o:B × B):G B:=(Ì (ms.getD o.1.toNat 0).toNat).map λ (k:à)=>rN ms o (k:B)
def iQ(ms:G B)(os:%[|48]):G (G B):=os.foldl (λ fs o=>fs.flatMap λ pl=>(NH ms o).map λ k=>pl.set o.1.toNat k) [È ms.length 0]
theorem yt(ms:G B)(os:%[|48])(o:B × B):iQ ms (os++[o])=(iQ ms os).flatMap λ pl=>(NH ms o).map λ k=>pl.set o.1.toNat k:=by
 unfold iQ;rw[foldl_append];rfl
theorem vA(ms:G B)(os:%[|48])(o:B × B)(ys:G B)(y:B)(h:ys.length=os.length):dS ms (os++[o]) (ys++[y])=(dS ms os ys).set o.1.toNat (rN ms o y):=by
 unfold dS;rw[List.zip_append %[|8],foldl_append];rfl
theorem lh{β:Type}{f g:α->G β}:∀ {l:G α},(∀ x∈l,f x=g x)->l.flatMap f=l.flatMap g
 | [],_=>rfl
 | x::l,h=>by rw[Yb,Yb,h x VP,lh λ y hy=>h y (VI _ hy)]
theorem Kq(ms:G B)(hs:∀ n∈ms,1<=n/\n<=1000000000)(os:%[|48])(ho:∀ o∈os,0<=o.1/\o.1<(ms.length:B)):(fj (szO ms os)).map (λ ys=>dS ms os ys)=iQ ms os:=by
 suffices h:∀ (n:à) (os:%[|48]),os.length=n->(∀ o∈os,0<=o.1/\o.1<(ms.length:B))->(fj (szO ms os)).map (λ ys=>dS ms os ys)=iQ ms os from h _ os J ho
 intro n
 induction n with
 | zero=>
  intro os h _;have:os=[]:=List.length_eq_zero_iff.mp h;subst this;rfl
 | succ n ih=>
  intro os h ho;obtain⟨as,o,rfl⟩:∃ as o,os=as++[o]:={os.dropLast,os.getLast (by intro e;rw[e] at h;simp at h),(List.dropLast_concat_getLast _).symm};let aS:as.length=n:=by rw[VN,WD] at h;omega
  let aX:=ih as aS λ o h=>ho o (Xc _ h);let af:=ho o (Wt _ (VO.mpr J));let hm:=hs _ (iU af.1 af.2)
  let a3:∀ n∈szO ms as,1<=n/\n<=1000000000:=λ n hn=>by
   let(o,h,rfl):=VT.mp hn;have:=ho o (Xc _ h);exact hs _ (iU this.1 this.2)
  let e1:szO ms (as++[o])=szO ms as++[ms.getD o.1.toNat 0]:=by unfold szO;rw[map_append];rfl
  rw[e1,yy _ _ (by have:=mP _ a3;omega) %[|8],yt,←aX,List.map_flatMap,List.flatMap_map];refine lh λ row hr=>?_;let a4:=sC hr;rw[map_map];unfold NH;rw[map_map];refine List.map_congr_left λ k _=>?_
  show dS ms (as++[o]) (row++[(k:B)])=_
  rw[vA _ _ _ _ _ (by rw[a4];unfold szO;rw[length_map])];rfl
theorem sL{i:B}{k:V->Prop}(P:V->Prop)(h0:0<=i)(h1:i<xs.length)(ha:∀ v∈xs,P v)(hk:∀ v,P v->k v):aJ (atI xs i) k:=BC h0 h1 λ v hv=>hk v (ha v hv)
def SzK(ms:G B):Prop:=(ms.length<=3/\(∀ m∈ms,1<=m/\m<=6)/\ae ms<=60)\/(ms.length<=8/\(∀ m∈ms,1<=m/\m<=3)/\ae ms<=54)
def SzI(ms:G B)(i:à):Prop:=ms.length=i/\ae ms<=60/\∀ m∈ms,1<=m/\m<=6
abbrev Cq(K:PySem.W.Frag)(a:Z)(ns:G B)(p:Z)(H:Hp)(Q:VK)(E:XK):Prop:=p=a/\SqL K H a (ns.map V.int)/\ns.length<=63/\∀ (ms:G B) (r:Z) (H':Hp),Ext H H'->H' r=%[ms|46]->SzK ms->ms.length<=3->Q (.ref r) H'
def JP(K:Æ)(a:Z)(ns:G B):Sp:=λ vs H Q E=>∃ (p:Z),vs=[.ref p,.int 60,.bl Á]/\(Cq K a ns p H Q E)
theorem Nm(K:Æ)(a:Z)(ns:G B)(p:Z)(H:Hp)(Q:VK)(E:XK):JP K a ns [.ref p,.int 60,.bl Á] H Q E=(Cq K a ns p H Q E):=kJ (f:=λ (p:Z)=>[.ref p,.int 60,.bl Á]) %[2,1|63] p
theorem rf(T:Tx K mg t)(a:Z)(ns:G B):%[2,D0|49] ["_law_script", "_law_most_here", "_law_wide"] (JP K a ns):=by
 let G_Eh:=%[dE|67] a ns;intros zx dz;refine %[D0,aP,1|70]
 ·let(_,rfl,rfl,hS,hl,kk):=h;rename_i a;refine{_,%[%[3,aP,%[%[%[99,%[99,%[99,%[99,%[99,%[99,%[99,%[99|1]|1]|1]|1]|1]|1]|1]|1]|16],%[Eh,%[0,%[99,%[99|1]|1]|1]|3]|15]|4],%[%[4,aP,%[%[99,%[99,%[99,%[99,%[99,%[99,%[99,%[99|1]|1]|1]|1]|1]|1]|1]|1]|16]|4],%[%[(PW.pt %[%[2|26],(@fS _ _ _ _ %[(br hr.units),%[Eh,%[0,%[99,%[99|1]|1]|1]|3],99,(ar _)|13])|38]),%[%[3,aP,%[bN,99,%[Eh,%[0,%[99,%[99|1]|1]|1]|3]|11]|4],%[%[4,aP,%[%[99,%[99,%[99,%[99,%[99,%[99,%[99,%[99|1]|1]|1]|1]|1]|1]|1]|1]|16]|4]|10]|9],(@au _)|14],%[%[5,aP,%[(@cZ _)|16]|4],%[%[6,aP,99|4],%[%[VX,%[%[zx,%[%[Eh,%[0,%[99,%[99|1]|1]|1]|3],%[99,%[3|1]|1]|1]|3]|20],%[7,aP|5],%[%[8,aP,%[4,7|15]|4],%[%[%[nZ,%[eN,6,8|11],1,(ar _)|13],%[%[8,aP,99|4]|10],(@au _)|14],%[%[6,aP,%[eN,6,8|11]|4],%[%[%[Wa,Wy,Wx,cP,5,%[8|1]|40]|19]|10]|9]|9]|9]|24],%[%[5|12]|10]|9]|9]|9]|9]|9]|9],?_};rw[%[["_law_script", "_law_most_here", "_law_wide", "_law_many", "_law_menu", "_law_sizes_here", "_law_count", "_law_digit", "_law_size"],[.ref a,.int 60,.bl Á],6|53]];clear G_Eh G_zx;exists kk;ac_rfl;intro q1 H1 cT e1 h1;let bt:=e1.2 K a _ hS;clear cT;ac_rfl;rw[bg];refine{bt,hl,{by decide,by decide},by decide,λ d d0 d1=>?_};ac_rfl;refine jG (λ j=>0<=j/\j<=3) d0 d1 (λ v hv=>?_) λ mn b0=>?_
  ·simp only[VU,VM,V6] at hv
   rcases hv with rfl|rfl|rfl|rfl|rfl|rfl|rfl|rfl<;>exact{_,J,by decide}
  clear h1;ac_rfl;intro q2 H2 cV e2 h2;let b1:=e2.2 K a _ bt;clear cV;let a5:(mn<=3/\∀ m∈([2,3,4,2,5,1,3,6]:G B),1<=m/\m<=6):={b0.2,by decide};let(b2,c4):=b0;obtain⟨mu,hmue⟩:∃ mu:G B,mu=[2,3,4,2,5,1,3,6]:={_,J};let b3:H2 q2=%[mu|46]:=by rw[hmue];exact h2
  let a6:mu.length=8:=by rw[hmue];rfl
  rw[←hmue] at a5;let b6:mn<=8:=by omega
  clear h2 hmue;ac_rfl;intro r H4 b7 e4 h4;let b8:=e4.2 K a _ b1;let a9:=e4.at b3;clear b3;ac_rfl;rw[bg];refine{b8,hl,{by decide,by decide},by decide,λ c c0 c1=>?_};ac_rfl;rw[kz];refine{by decide,by decide,b2,b6,λ ds dr H5 bB e5 h5 bS cf=>?_};let aX:=e5.at h4;let af:=e5.at a9;let cg:q2≠r:=λ z=>by rw[z,aX] at af;have:=W2 List.length (HO.lst.inj (We af));rw[VD,a6] at this;simp at this
  let ck:dr≠r:=λ z=>by rw[z,h4] at bB;cases bB
  let cv:=e1.trans (e2.trans (e4.trans e5));let cz:H r=L:=(e1.trans e2).free b7;exists bS;exists a6;exists a5;exists cf;clear h4 a9 bB e1 e2 e4 e5 bt b1 b8;ac_rfl;refine dj (xs:=ds.map V.int) (λ i σ H'=>∃ (ms:G B) (v7 v8:Ü V),σ=[%[a|45],U (.int 60),U (.bl Á),%[mn|47],%[q2|45],%[r|45],U (.int (ae ms)),v7,v8]/\Ext H H'/\H' q2=%[mu|46]/\H' dr=%[ds|46]/\H' r=%[ms|46]/\SzI ms i) ⟨[],L,L,J,cv,af,h5,aX,{J,by decide,λ _ h=>Þ h VM}⟩ (λ i σ H' _ ⟨_,_,_,_,_,_,h,_⟩=>h) ?_ ?_
  ·rintro i y _ H6 hi ⟨ms,v7,v8,rfl,e6,q6,d6,h6,⟨aS,a3,a4⟩⟩;rw[VS] at hi;let(g,hg,rfl):=VH.mp hi;let(g0,g8):=cf () g (V8 hg);let c2:i<ds.length:=(VB.mp hg).1;let c3:=fU (vals:=mu) g0 (by rw[a6 ()];omega)
   let cN:mu.getD g.toNat 0∈mu:=by
    have:g.toNat<mu.length:=by rw[a6 ()];omega
    rw[List.getD,VA this];exact Xm this
   let a7:1<=mu.getD g.toNat 0/\mu.getD g.toNat 0<=6:=(a5 ()).2 _ cN;generalize mu.getD g.toNat 0=z at c3 a7;let p1:=aU ms λ m hm=>(a4 m hm).1;let cm:oG (ae ms) z:=.inr {by omega,by omega};let c5:ms.length<Å:=kP (by have:=bS ();omega);let a8:∀ s:B,ae (ms++[s])=ae ms * s:=λ s=>by rw[bT];show _ * (s * 1)=_;rw[Yn]
   let fin:∀ s:B,1<=s->s<=6->ae ms * s<=60->SzI (ms++[s]) (i+1):=by
    intro s s1 s6 hs;refine{by rw[VN,aS];rfl,by rw[a8];exact hs,λ m hm=>?_}
    rcases Wf.mp hm with h|h
    ·exact a4 m h
    ·rw[VO.mp h];exact{(s1),s6}
   exists fin;exists a8;exists a7;exists a4;exists aS;clear hi hg b7 h5 aX af cv hS p1 c2 g0 g8 c0 c1 b2 b6 d0 d1 cN
   by_cases hbig:60<ae ms * z
   ·let c6:oG (ae ms) 1:=.inr {by decide,by decide};let f1:=λ (_:Unit)=>fin () 1 ⋯ ⋯ (by rw[Yn];exact a3);clear fin;simp! only[↓aA];refine{ms++[1],_,_,by rw[a8 ()],e6.put cz,by rw[ag cg];exact q6,by rw[ag ck];exact d6,by rw[Ws];rfl,f1 ()}
   ·let hle:ae ms * z<=60:=by omega
    let f1:=λ (_:Unit)=>fin () z (a7 ()).1 (a7 ()).2 hle;clear fin;simp! only[↓aA];refine{ms++[z],_,_,by rw[a8 ()],e6.put cz,by rw[ag cg];exact q6,by rw[ag ck];exact d6,by rw[Ws];rfl,f1 ()}
  ·rintro _ H6 ⟨ms,v7,v8,rfl,e6,q6,d6,h6,⟨aS,a3,a4⟩⟩;rw[VD] at aS;let cO:ms.length<=3:=by have:=bS ();have:=(a5 ()).1;omega
   let hsz:SzK ms:=.inl {cO,a4,by omega};let k':=kk () ms r H6 e6 h6 hsz cO;clear kk hsz;ac_rfl
theorem yC{l1 l2:G B}(h:l1.Perm l2):ae l1=ae l2:=by
 induction h with
 | nil=>rfl
 | cons x _ ih=>show x * _=x * _;rw[ih]
 | swap x y l=>show y * (x * ae l)=x * (y * ae l);rw[←Xn,←Xn,WL y x]
 | trans _ _ i1 i2=>exact i1.trans i2
def jT(ms:G B)(v:B):B:=ms.getD v.toNat 0
theorem xi(ms:G B):((Ì ms.length).map λ (i:à)=>(i:B)).map (jT ms)=ms:=by
 rw[WC];apply Ze;intro i;rw[VS]
 by_cases hi:i<ms.length
 ·rw[XO hi,VA hi]
  show U (ms.getD ((i:B)).toNat 0)=_
  rw[VW,List.getD,VA hi];rfl
 ·rw[WT (by rw[V5];omega),WT %[|8]];rfl
theorem qk:∀ (ms ps:G B) (x:à) (p:B),ps.length=ms.length->x<ms.length->ps.getD x 0=0->fJ ms (ps.set x p)=fJ ms ps+(ms.getD x 0 - 1) * (p.natAbs:B)
 | [],_,_,_,_,h,_=>by simp at h
 | _::_,[],_,_,h,_,_=>by simp at h
 | m::ms,q::ps,0,p,hl,hx,h0=>by
  let af:q=0:=h0;subst af
  show (m - 1) * (p.natAbs:B)+fJ ms ps=(m - 1) * ((0:B).natAbs:B)+fJ ms ps+(m - 1) * (p.natAbs:B)
  rw[show (((0:B).natAbs:à):B)=0 from J,Zn];omega
 | m::ms,q::ps,x+1,p,hl,hx,h0=>by
  let ih:=qk ms ps x p (by simpa using hl) (by simpa using hx) (by simpa using h0)
  show (m - 1) * (q.natAbs:B)+fJ ms (ps.set x p)=(m - 1) * (q.natAbs:B)+fJ ms ps+(ms.getD x 0 - 1) * (p.natAbs:B)
  rw[ih];omega
theorem my:∀ ms:G B,fJ ms (È ms.length 0)=0
 | []=>rfl
 | m::ms=>by
  show (m - 1) * (((0:B).natAbs:à):B)+fJ ms (È ms.length 0)=0
  rw[my ms,show (((0:B).natAbs:à):B)=0 from J,Zn];rfl
structure jr(ms ls ps:G B)(u xL:B):Prop where
 len:ps.length=ms.length
 sub:∀ x∈ls,0<=x/\x<(ms.length:B)
 nd:ls.Nodup
 lle:ls.length<=ms.length
 zer:∀ x∈ls,ps.getD x.toNat 0=0
 u1:1<=u
 c:∃ c:B,1<=c/\ae (ls.map (jT ms)) * c=ae ms
 ub:u * ae (ls.map (jT ms))<=(2+((ms.length:B) - ls.length)) * ae ms
 sp:fJ ms ps<=u
 pb:∀ p∈ps,(p.natAbs:B)<=xL
theorem jr.one(h:jr ms ls ps u xL)(h1:∀ m∈ms,(1:B)<=m):∀ m∈ls.map (jT ms),(1:B)<=m:=λ m hm=>by
 let(x,hx,rfl):=VT.mp hm;have:=h.sub x hx;exact h1 _ (iU this.1 this.2)
theorem jr.ule(h:jr ms ls ps u xL)(h1:∀ m∈ms,(1:B)<=m):u<=(2+((ms.length:B) - ls.length)) * ae ms:=by
 let q1:=aU _ (h.one h1);have:=WI q1 (show 0<=u by have:=h.u1;omega);have:=h.ub;omega
theorem jr.step{es:G B}{x p:B}(h:jr ms ls ps u xL)(h1:∀ m∈ms,(1:B)<=m)(hp:(x::es).Perm ls)(a6:0<=b)(a4:b<=1)(aS:(p.natAbs:B)=u)(hB:((ms.length:B)+1) * ae ms<=xL):jr ms es (ps.set x.toNat p) (u * jT ms x+b) xL:=by
 let aX:x∈ls:=hp.mem_iff.mp VP;let hx:=h.sub x aX;let a3:(x::es).Nodup:=hp.nodup_iff.mpr h.nd;let a7:es.length+1=ls.length:=by rw[←hp.length_eq];rfl
 let af:∀ y∈es,y∈ls:=λ y hy=>hp.mem_iff.mp (VI _ hy)
 let hq:ae (ls.map (jT ms))=jT ms x * ae (es.map (jT ms)):=by
  rw[←yC (hp.map (jT ms))];rfl
 let s1:1<=jT ms x:=h1 _ (iU hx.1 hx.2)
 let q1:1<=ae (es.map (jT ms)):=aU _ λ m hm=>by
  let(y,hy,rfl):=VT.mp hm;have:=h.sub y (af y hy);exact h1 _ (iU this.1 this.2)
 let(c,c1,hc):=h.c;let u1:=h.u1
 let us:u<=u * jT ms x:=by
  have:=WI s1 (show 0<=u by omega);omega
 let hle:=h.lle;let hP:=aU ms h1;refine{by rw[Y2];exact h.len,λ y hy=>h.sub y (af y hy),(Xa.mp a3).2,by omega,λ y hy=>?_,by omega,{c * jT ms x,?_,?_},?_,?_,λ q hq=>?_}
 ·let a8:y≠x:=λ e=>(Xa.mp a3).1 (e ▸ hy);let a9:=h.sub y (af y hy);have:=h.zer y (af y hy);rw[List.getD,Yg %[|8]];exact this
 ·have:=WV c1 s1 ⋯ %[|8];omega
 ·rw[←hc,hq,WL c,WL (jT ms x) (ae _),Xn]
 ·let e1:(u * jT ms x+b) * ae (es.map (jT ms))=u * ae (ls.map (jT ms))+b * ae (es.map (jT ms)):=by rw[hq,Int.add_mul,Xn]
  let hQ:ae (es.map (jT ms))<=ae ms:=by
   let w1:=Wg s1 (show 0<=ae (es.map (jT ms)) by omega);let w2:=WI c1 (show 0<=jT ms x * ae (es.map (jT ms)) by omega);rw[hq] at hc;omega
  let bt:=Wg a4 (show 0<=ae (es.map (jT ms)) by omega);let bB:=h.ub
  let e2:(2+((ms.length:B) - (es.length:B))) * ae ms=(2+((ms.length:B) - (ls.length:B))) * ae ms+ae ms:=by
   rw[show 2+((ms.length:B) - (es.length:B))=2+((ms.length:B) - (ls.length:B))+1 by omega,Int.add_mul (2+((ms.length:B) - (ls.length:B))) 1,Int.one_mul]
  rw[e1,e2];omega
 ·let hz:=h.zer x aX;rw[qk ms ps x.toNat p h.len %[|8] hz,aS];let bS:=h.sp
  let e:(ms.getD x.toNat 0 - 1) * u=u * jT ms x - u:=by
   show (jT ms x - 1) * u=_
   rw[Int.sub_mul,Int.one_mul,WL]
  rw[e];omega
 ·rcases List.mem_or_eq_of_mem_set hq with hq|rfl
  ·exact h.pb q hq
  ·rw[aS];let a5:=h.ule h1;have:(2+((ms.length:B) - (ls.length:B))) * ae ms<=((ms.length:B)+1) * ae ms:=Wg %[|8] %[|8];omega
theorem jr.init(h1:∀ m∈ms,(1:B)<=m)(u1:1<=u)(u2:u<=2)(hB:0<=xL):jr ms ((Ì ms.length).map λ (i:à)=>(i:B)) (È ms.length 0) u xL:=by
 let hP:=aU ms h1;refine{Xu,λ x hx=>?_,?_,by rw[VD,V5];exact VF _,λ x hx=>?_,u1,{1,by decide,by rw[xi,Yn]},?_,by rw[my];omega,λ p hp=>?_}
 ·let(i,hi,rfl):=VT.mp hx;have:=WO.mp hi;omega
 ·refine List.Pairwise.map _ (λ a b af=>?_) List.nodup_range;omega
 ·rw[List.getD,XZ]
  split<;>rfl
 ·rw[xi,VD,V5];have:=Wg u2 (show 0<=ae ms by omega);rw[show 2+((ms.length:B) - (ms.length:B))=2 by omega];exact this
 ·rw[List.eq_of_mem_replicate hp];exact hB
def PcK(ms ps:G B):Prop:=ps.length=ms.length/\∃ S xL:B,fJ ms ps<=S/\(∀ p∈ps,(p.natAbs:B)<=xL)/\6<=xL/\0<=S/\S+oE ms * (xL+2)<=3960
theorem SzK.pos(h:SzK ms):(∀ m∈ms,1<=m/\m<=6)/\ms.length<=8/\ae ms<=60:=by
 rcases h with h|h
 ·exact{h.2.1,by omega,h.2.2}
 ·exact⟨λ m hm=>by have:=h.2.1 m hm;omega,h.1,by omega⟩
theorem SzK.bounds(h:SzK ms):∃ xL:B,((ms.length:B)+1) * ae ms<=xL/\6<=xL/\(2+(ms.length:B)) * ae ms+oE ms * (xL+2)<=3960/\0<=oE ms/\oE ms<=15:=by
 let h1:∀ m∈ms,(1:B)<=m:=λ m hm=>(h.pos.1 m hm).1;let hP:=aU ms h1;let nn:=Bm h1
 rcases h with ⟨h3,h6,hp⟩|⟨h8,h3,hp⟩
 ·let t:=Bo (k:=5) ⋯ ms h6;let hl:(ms.length:B)<=3:=by omega
  let m1:=WV (show (ms.length:B)+1<=4 by omega) hp %[|8] ⋯;let m2:=WV (show 2+(ms.length:B)<=5 by omega) hp %[|8] ⋯;exact{240,by omega,by decide,by omega,nn,by omega}
 ·let t:=CF h3 %[|8];let hl:(ms.length:B)<=8:=by omega
  let m1:=WV (show (ms.length:B)+1<=9 by omega) hp %[|8] ⋯;let m2:=WV (show 2+(ms.length:B)<=10 by omega) hp %[|8] ⋯;exact{486,by omega,by decide,by omega,nn,by omega}
theorem jr.done(h:jr ms [] ps u xL)(h1:∀ m∈ms,(1:B)<=m)(hB:6<=xL)(hb:(2+(ms.length:B)) * ae ms+oE ms * (xL+2)<=3960):PcK ms ps:=by
 let hu:=h.ule h1;let hP:=aU ms h1;rw[show 2+((ms.length:B) - (([]:G B).length:B))=2+(ms.length:B) by simp] at hu;have:=Yd (show 0<=2+(ms.length:B) by omega) (show 0<=ae ms by omega);exact{h.len,(2+(ms.length:B)) * ae ms,xL,by have:=h.sp;omega,h.pb,hB,this,hb}
def BD:G B->G B->Prop
 | [],[]=>True
 | s::ms,d::ds=>(d.natAbs:B)<=s - 1/\BD ms ds
 | _,_=>False
def BD.len:∀ {ms d:G B},BD ms d->d.length=ms.length
 | [],[],_=>rfl
 | [],_::_,h=>h.elim
 | _::_,[],h=>h.elim
 | _::ms,_::d,h=>W2 (· + 1) (BD.len h.2)
theorem eT(x p:B)(xs ps:G B):ik (x::xs) (p::ps)=x * p+ik xs ps:=by
 unfold ik;rw[zipWith_cons_cons,sum_cons]
theorem xJ:∀ {ms d ps:G B},BD ms d->ps.length=ms.length->((ik d ps).natAbs:B)<=fJ ms ps
 | [],[],[],_,_=>by decide
 | [],[],_::_,_,h=>by simp at h
 | [],_::_,_,h,_=>h.elim
 | _::_,[],_,h,_=>h.elim
 | _::_,_::_,[],_,h=>by simp at h
 | s::ms,x::d,p::ps,h,hl=>by
  let ih:=xJ h.2 (ps:=ps) (by simpa using hl);rw[eT]
  show _<=(s - 1) * (p.natAbs:B)+fJ ms ps
  let h1:((x * p).natAbs:B)<=(s - 1) * (p.natAbs:B):=by
   rw[Int.natAbs_mul,Ym];exact Wg h.1 %[|8]
  omega
theorem BR:∀ {d ps:G B}{a:à}{p:B},d.length=ps.length->a<ps.length->ps.getD a 0=0->ik d (ps.set a p)=ik d ps+d.getD a 0 * p
 | [],[],_,_,_,h,_=>by simp at h
 | [],_::_,_,_,h,_,_=>by simp at h
 | _::_,[],_,_,h,_,_=>by simp at h
 | x::d,q::ps,0,p,hl,ha,h0=>by
  let af:q=0:=h0;subst af;rw[List.set_cons_zero,eT,eT,Zn]
  show x * p+ik d ps=0+ik d ps+x * p
  omega
 | x::d,q::ps,a+1,p,hl,ha,h0=>by
  let ih:=BR (d:=d) (ps:=ps) (a:=a) (p:=p) (by simpa using hl) (by simpa using ha) (by simpa using h0);rw[List.set_cons_succ,eT,eT,ih]
  show x * q+(ik d ps+d.getD a 0 * p)=x * q+ik d ps+d.getD a 0 * p
  omega
structure og(ms ls ps:G B)(u:B):Prop where
 sps:fJ ms ps<u
 ij:∀ d,BD ms d->ik d ps=0->∀ a:à,a<ms.length->¬ (a:B)∈ls->d.getD a 0=0
theorem og.init(u1:1<=u):og ms ((Ì ms.length).map λ (i:à)=>(i:B)) (È ms.length 0) u:=
 ⟨by rw[my];omega,λ d _ _ a ha hn=>Þ (VT.mpr {a,WO.mpr ha,J}) hn⟩
theorem og.step{es:G B}{x p:B}(h:jr ms ls ps u xL)(hJ:og ms ls ps u)(h1:∀ m∈ms,(1:B)<=m)(hp:(x::es).Perm ls)(a3:0<=b)(aS:(p.natAbs:B)=u):og ms es (ps.set x.toNat p) (u * jT ms x+b):=by
 let aX:x∈ls:=hp.mem_iff.mp VP;let hx:=h.sub x aX;let hz:=h.zer x aX;let hl:=h.len;let hs:=hJ.sps;let hu:=h.u1;refine{?_,λ d hd h0 a ha hn=>?_}
 ·rw[qk ms ps x.toNat p hl %[|8] hz,aS]
  let e:(ms.getD x.toNat 0 - 1) * u=u * jT ms x - u:=by
   show (jT ms x - 1) * u=_
   rw[Int.sub_mul,Int.one_mul,WL]
  rw[e];omega
 ·rw[BR (by rw[hd.len,hl]) %[|8] hz] at h0;let hb:=xJ hd hl
  let af:d.getD x.toNat 0=0:=by
   apply Classical.byContradiction;intro a4
   have:u<=((d.getD x.toNat 0 * p).natAbs:B):=by
    rw[Int.natAbs_mul,Ym,aS];have:=Wg (show (1:B)<=((d.getD x.toNat 0).natAbs:B) by omega) (show 0<=u by omega);omega
   omega
  by_cases hax:(a:B)=x
  ·rw[←hax,VW] at af;exact af
  ·rw[af,Int.zero_mul] at h0;refine hJ.ij d hd %[|8] a ha λ hm=>?_
   rcases VU.mp (hp.mem_iff.mpr hm) with e|e
   ·exact hax e
   ·exact hn e
def Fx(ms ps:G B):Prop:=∀ d,BD ms d->ik d ps=0->∀ a:à,a<ms.length->d.getD a 0=0
theorem og.done(h:og ms [] ps u):Fx ms ps:=λ d hd h0 a ha=>h.ij d hd h0 a ha (λ z=>by cases z)
theorem BQ:∀ {x y ps:G B},x.length=ps.length->y.length=ps.length->ik (List.zipWith (λ a b=>a - b) x y) ps=ik x ps - ik y ps
 | [],[],[],_,_=>rfl
 | _::_,_,[],h,_=>by simp at h
 | _,_::_,[],_,h=>by simp at h
 | [],_,_::_,h,_=>by simp at h
 | _,[],_::_,_,h=>by simp at h
 | a::x,b::y,p::ps,hx,hy=>by
  let ih:=BQ (x:=x) (y:=y) (ps:=ps) (by simpa using hx) (by simpa using hy);rw[W8,eT,eT,eT,ih,Int.sub_mul];omega
theorem BD.sub:∀ {ms x y:G B},InR ms x->InR ms y->BD ms (List.zipWith (λ a b=>a - b) x y)
 | [],[],[],_,_=>trivial
 | [],_::_,_,h,_=>h.elim
 | [],_,_::_,_,h=>h.elim
 | _::_,[],_,h,_=>h.elim
 | _::_,_,[],_,h=>h.elim
 | m::ms,a::x,b::y,hx,hy=>⟨by have:=hx.1;have:=hy.1;show ((a - b).natAbs:B)<=m - 1;omega,BD.sub hx.2 hy.2⟩
theorem Kn(hl:ps.length=ms.length):(ms.zip ps).map (λ a=>a.2)=ps:=by
 rw[show (λ a:B × B=>a.2)=Prod.snd from J,List.map_snd_zip %[|8]]
theorem wV(hl:ps.length=ms.length):(ms.zip ps).map (λ a=>a.1)=ms:=by
 rw[show (λ a:B × B=>a.1)=Prod.fst from J,Zr %[|8]]
theorem Fx.nodup(h:Fx ms ps)(hs:∀ n∈ms,1<=n/\n<=1000000000)(hl:ps.length=ms.length)(f:B):(ah f (ms.zip ps)).Nodup:=by
 let one:∀ a∈ms.zip ps,(1:B)<=a.1:=λ a ha=>(hs a.1 (of_mem_zip (show (a.1,a.2)∈ms.zip ps from ha)).1).1;let hlen:=aM f (ms.zip ps) one;rw[wV hl] at hlen;unfold List.Nodup;rw[List.pairwise_iff_getElem];intro i j hi hj aS e;let a:=iB one (getElem?_eq_getElem hi);let b:=iB one (getElem?_eq_getElem hj);rw[wV hl,Kn hl] at a b;rw[a,b] at e;let zi:InR ms (aC ms (i:B)):=InR.split ms i hs;let zj:InR ms (aC ms (j:B)):=InR.split ms j hs;let hd:=BQ (x:=aC ms (i:B)) (y:=aC ms (j:B)) (ps:=ps) (by rw[bI,hl]) (by rw[bI,hl]);let af:=h _ (BD.sub zi zj) %[|8]
 let heq:aC ms (i:B)=aC ms (j:B):=by
  refine YF (by rw[bI,bI]) λ n h1 h2=>?_;let hn:n<ms.length:=by rw[bI] at h1;exact h1
  have:=af n hn;rw[Xz,List.getElem?_zipWith,VA h1,VA h2] at this;have:(aC ms (i:B))[n] - (aC ms (j:B))[n]=0:=this;omega
 have:=su (λ n hn=>(hs n hn).1) %[|8] %[|8] %[|8] %[|8] heq;omega
abbrev xZ(K:PySem.W.Frag)(a:Z)(ns:G B)(p:Z)(l:Z)(H:Hp)(Q:VK)(E:XK):Prop:=p=a/\SqL K H a (ns.map V.int)/\ns.length<=63/\∃ ms:G B,H l=%[ms|46]/\SzK ms/\∀ (ps:G B) (r:Z) (H':Hp),Ext H H'->H' r=%[ps|46]->PcK ms ps->Fx ms ps->Q (.ref r) H'
def AE(K:Æ)(a:Z)(ns:G B):Sp:=λ vs H Q E=>∃ (p:Z) (l:Z),vs=[.ref p,.ref l]/\(xZ K a ns p l H Q E)
theorem Iv(K:Æ)(a:Z)(ns:G B)(p:Z)(l:Z)(H:Hp)(Q:VK)(E:XK):AE K a ns [.ref p,.ref l] H Q E=(xZ K a ns p l H Q E):=gv (f:=λ (p:Z) (l:Z)=>[.ref p,.ref l]) %[4,2|63] p l
theorem uf(T:Tx K mg t)(a:Z)(ns:G B):%[2,Ei|49] %[|122] (AE K a ns):=by
 let G_Eh:=%[dE|67] a ns;intros zx dz;refine %[Ei,bA,2|70]
 ·let(_,l,rfl,rfl,hS,hl,ms,hm,hsz,kk):=h;rename_i a;refine{_,%[%[2,bA,%[bN,99,%[Eh,%[0,%[99,%[99|1]|1]|1]|3]|11]|4],%[%[3,bA,%[Eh,%[0,%[99,%[99|1]|1]|1]|3]|4],%[%[4,bA,%[zx,%[%[Eh,%[0,%[99,%[99|1]|1]|1]|3],%[99,%[%[len,aB,%[1|1]|6]|1]|1]|1]|3]|4],%[%[5,bA,%[fT,%[%[99|1]|16],%[len,aB,%[1|1]|6]|11]|4],%[%[6,bA,(@tZ _ _ _ _ _ _ _ J ∅ T.z_list ∅ T.z_range %[%[len,aB,%[1|1]|6]|1] ∅ ∅ ∅)|4],%[(@xl _ _ _ _ _ _ VX %[(bM hr.units),6,%[(@cZ _)|16],(ar _)|13] %[%[7,bA,%[Wa,PySem.F.slot_list_pop,PySem.F.type_list_pop,De,6,%[%[lW,3,%[len,aB,%[6|1]|6]|11]|1]|40]|4],%[%[3,bA,%[jX,3,%[bN,%[len,aB,%[6|1]|6],99|11]|11]|4],%[(@rT _ _ _ _ _ _ %[eN,2,%[%[%[99,%[%[99|44],%[99,%[%[99|44]|1]|1]|1]|1]|16],%[4,7|15]|15]|11] (@wK _ _ _ _ _ _ _ %[5|0] %[7|0] lG (by intros;rfl)) ∅ ∅ ∅),%[%[2,bA,%[bN,%[eN,2,%[1,7|15]|11],%[jX,%[4,7|15],99|11]|11]|4]|10]|9]|9]|9]),%[%[5|12]|10]|9]|9]|9]|9]|9]|9],?_};rw[%[["_law_script", "_law_sizes_here", "_law_unit", "_law_turn", "_law_signs", "_law_paces", "_law_left", "_law_axis"],[.ref a,.ref l],6|53]];clear G_Eh G_zx;let h8:=hsz.pos.2.1;let one:∀ m∈ms,(1:B)<=m:=λ m hm=>(hsz.pos.1 m hm).1;let m6:∀ m∈ms,m<=6:=λ m hm=>(hsz.pos.1 m hm).2;let d1:=hsz.pos.2.2;let(xL,cO,d2,b0,_,_):=hsz.bounds;exists kk;exists one;exists m6;exists cO;exists b0;let n8:(ms.length:B)<=8:=by omega
  ac_rfl;rw[bg];refine{hS,hl,{by decide,by decide},by decide,λ u0 d3 d4=>?_};ac_rfl;rw[bg];refine{hS,hl,{by decide,by decide},by decide,λ tn t0 t1=>?_};ac_rfl;rw[bg];refine{hS,hl,{by decide,by decide},by decide,λ c c0 c1=>?_};ac_rfl;rw[kz];refine{by decide,by decide,by omega,n8,λ ds d H1 d5 e1 h1 cT cV=>?_};let c2:=e1.at hm;let hle:((È ms.length [V.int 0]).flatten).length<=Å:=by rw[jA,VD,Xu];exact ao %[|8]
  ac_rfl;intro z1 H2 d6 e2 h2;let c3:=e2.at c2;clear d6;ac_rfl;refine{by omega,by omega,ao (by simp;omega),?_};intro r H3 a3 e3 h3;rw[Int.toNat_natCast,jA] at h3;let c4:=e3.at c3;clear c2 c3 h2;ac_rfl;rw[Sj];refine{by omega,by omega,?_};intro lf H4 af e4 h4;let a9:E6 (ms.length:B)=((Ì ms.length).map λ (i:à)=>(i:B)).map V.int:=by unfold E6;rw[map_map,Int.toNat_natCast];rfl
  rw[a9] at h4;let bt:=e4.at h3;let b1:=e1.trans (e2.trans (e3.trans e4));let c5:=b1.at hm;let bB:=(e2.trans (e3.trans e4)).at h1;let c6:H lf=L:=(e1.trans (e2.trans e3)).free af;let d7:H r=L:=(e1.trans e2).free a3;let c7:lf≠r:=λ z=>by rw[z,h3] at af;cases af
  let nl:l≠lf:=λ z=>by rw[←z,c4] at af;cases af
  let d8:l≠r:=λ z=>by rw[←z,(e1.trans e2).at hm] at a3;cases a3
  let d9:d≠lf:=λ z=>by rw[←z,(e2.trans e3).at h1] at af;cases af
  let ea:d≠r:=λ z=>by rw[←z,e2.at h1] at a3;cases a3
  let bS:=og.init (ms:=ms) (show 1<=1+u0 by omega);let c8:=jr.init (ms:=ms) (xL:=xL) (one ()) (show 1<=1+u0 by omega) %[|8] %[|8];exists cT;exists cV;clear h1 h3 c4 d5 a9 e1 e2 e3 e4 af a3 hsz d1 c0 c1 t1 d3 d4;ac_rfl;refine Bf (by repeat' first|exact Ol|exact mo_nI0|exact mo_nI|apply xw|apply mo_unN|exact A3|exact Uj|exact mo_rI0|exact mo_rI|exact mo_rIsN|exact xv|exact Jl|exact mo_qIx|exact Jm|exact mo_qLen|exact mo_inD|exact mo_qLenD|apply mo_dget2|apply uZ|apply mo_tB|apply mo_not|apply mo_and|apply mo_or|apply Om|apply mo_un|apply mo_cons|apply BI|apply mo_cb) (λ m σ H'=>∃ (ls ps:G B) (u tn:B) (v7:Ü V),σ=[%[a|45],%[l|45],%[u|47],%[tn|47],%[d|45],%[r|45],%[lf|45],v7]/\m=ls.length/\Ext H H'/\H' l=%[ms|46]/\H' lf=%[ls|46]/\H' r=%[ps|46]/\H' d=%[ds|46]/\0<=tn/\jr ms ls ps u xL/\og ms ls ps u) _ {_,_,_,tn,L,J,J,b1,c5,h4,bt,bB,t0,c8,bS} ?_;rintro m _ H5 ⟨ls,ps,u,tn,v7,rfl,rfl,e5,c9,a6,b2,de,eb,hI,hJ⟩;clear h4 bt bB c5 b1 c8 bS
  cases ls with
  | nil=>
   let fin:=hI.done (one ()) d2 (b0 ());let aS:=hJ.done;exists fin;exists aS;clear hI hJ;ac_rfl;intro q H6 hq e6 h6;let dh:=e6.at a6;let k1:=kk () ps r H6 (e5.trans e6) (e6.at b2) (fin ()) (aS ());clear a6 kk fin aS hq;ac_rfl
  | cons l0 ls=>
   let hlen:=hI.lle;rw[Wc] at hlen;let a4:=hI.ule (one ());let ey:=hI.u1;let a5:=hI.sub;exists hI;exists hJ;exists a4;exists a5;ac_rfl;intro q H6 hq e6 h6;let dh:=e6.at a6;clear a6 hq;let i0:=Xk tn (show ((ls.length+1:à):B)≠0 by omega);let i1:=WY tn (show (0:B)<((ls.length+1:à):B) by omega);ac_rfl;generalize hix:(tn % ((ls.length+1:à):B))=ix at i0 i1 ⊢;refine{by omega,by omega,?_};obtain⟨x,hx⟩:∃ x,(l0::ls)[ix.toNat]? = U x:={_,VA (by rw[Wc];omega)}
   let dk:(V.int l0::List.map V.int ls)[ix.toNat]? = %[x|47]:=by
    show ((l0::ls).map V.int)[ix.toNat]? = _
    rw[VS,hx];rfl
   let aX:0<=x/\x<(ms.length:B):=a5 () x (V8 hx)
   let dr:(V.int l0::List.map V.int ls).eraseIdx ix.toNat=((l0::ls).eraseIdx ix.toNat).map V.int:=by
    rw[show (V.int l0::List.map V.int ls)=(l0::ls).map V.int from J,ph]
   let dy:((l0::ls).eraseIdx ix.toNat).length=ls.length:=by rw[List.length_eraseIdx_of_lt (by rw[Wc];omega)];rfl
   rw[dk,fM,GP,dr];let a7:=pf hx;generalize (l0::ls).eraseIdx ix.toNat=es at dy a7 ⊢;let b3:(upd H6 lf (.lst (es.map V.int))) lf=%[es|46]:=aj;let b6:(upd H6 lf (.lst (es.map V.int))) r=%[ps|46]:=by rw[ag (VL c7)];exact e6.at b2
   let b7:(upd H6 lf (.lst (es.map V.int))) d=%[ds|46]:=by rw[ag d9];exact e6.at de
   let b8:(upd H6 lf (.lst (es.map V.int))) l=%[ms|46]:=by rw[ag nl];exact e6.at c9
   let e7:Ext H (upd H6 lf (.lst (es.map V.int))):=(e5.trans e6).put c6;generalize upd H6 lf (.lst (es.map V.int))=H7 at b3 b6 b7 b8 e7 ⊢;let(z,hz,ec):=qT ds x aX.1 (by have:=cT ();omega);let a8:=cV () z ec;let ez:=fU (vals:=ms) aX.1 aX.2;let cf:=iU (ms:=ms) aX.1 aX.2;let ee:=one () _ cf;let eg:=m6 () _ cf;let dN:ps.length=ms.length:=(hI ()).len;let ew:ixN ps.length x=U x.toNat:=Fq aX.1 (by rw[dN];exact aX.2)
   replace a4:u<=3960:=by
    let hP:=aU ms (one ());let hb:=b0 ();have:=a4 ();rw[Wc] at this;let m1:(2+((ms.length:B) - ((ls.length+1:à):B))) * ae ms<=(2+(ms.length:B)) * ae ms:=Wg %[|8] %[|8];let nn:=Yd (Bm (one ())) (show 0<=xL+2 by omega);omega
   let eD:oG u (ms.getD x.toNat 0):=.inr {by omega,by omega};let cg:=λ (b p:B) ck ej cm=>(hI ()).step (b:=b) (p:=p) (one ()) a7 ck ej cm (cO ());let cv:=λ (b p:B) ck cm=>og.step (b:=b) (p:=p) (hI ()) (hJ ()) (one ()) a7 ck cm;exists cv;exists cg;exists a8;exists ee;exists eg;exists dN;clear dh b2 de c9 h6 dk dr hx hix hI hJ a5 a7 cf i0 i1 e5 e6;ac_rfl;refine{%[|8],?_};intro w2 H8 el e8 h8;let d0:=e8.at b7;clear el;ac_rfl;refine jG (λ j=>j=1\/j=-1) (a8 ()).1 (show z<4 from (a8 ()).2) (λ v hv=>?_) λ j hj=>?_
   ·simp only[VU,VM,V6] at hv
    rcases hv with rfl|rfl|rfl|rfl
    ·exact{_,J,.inl J}
    ·exact{_,J,.inr J}
    ·exact{_,J,.inl J}
    ·exact{_,J,.inr J}
   let cz:((u * j).natAbs:B)=u:=by
    rcases hj with rfl|rfl
    ·rw[Yn];omega
    ·omega
   let eF:oG u j:=.inl {by omega,by omega};let en:=e8.at b6;let cN:0<=z / 2/\z / 2<=1:=by have:=a8 ();omega
   let fin:=λ (_:Unit)=>cg () (z / 2) (u * j) cN.1 cN.2 cz;let aS:=λ (_:Unit)=>cv () (z / 2) (u * j) cN.1 cz;clear h8 cg cv hj cz;ac_rfl;rw[qJ];let eo:upd H8 r (.lst ((ps.set x.toNat (u * j)).map V.int)) l=%[ms|46]:=by rw[ag d8];exact e8.at b8
   let ep:upd H8 r (.lst ((ps.set x.toNat (u * j)).map V.int)) lf=%[es|46]:=by rw[ag c7];exact e8.at b3
   let et:upd H8 r (.lst ((ps.set x.toNat (u * j)).map V.int)) d=%[ds|46]:=by rw[ag ea];exact d0
   let eu:upd H8 r (.lst ((ps.set x.toNat (u * j)).map V.int)) r=U (.lst ((ps.set x.toNat (u * j)).map V.int)):=aj;let e9:Ext H (upd H8 r (.lst ((ps.set x.toNat (u * j)).map V.int))):=(e7.trans e8).put d7;generalize upd H8 r (.lst ((ps.set x.toNat (u * j)).map V.int))=H9 at eo ep et eu e9 ⊢;clear en d0 b6 b7 b8 b3 e8;ac_rfl;exact{es.length,by omega,es,ps.set x.toNat (u * j),_,_,_,J,J,e9,J,J,Int.ediv_nonneg eb %[|8],fin (),aS ()}
def OtK(ms ps qs:G B):Prop:=qs.length=ms.length/\∀ xL:B,6<=xL->(∀ p∈ps,(p.natAbs:B)<=xL)->∀ q∈qs,(q.natAbs:B)<=xL+2
theorem lN(xs:G V)(z:B)(h:0<=z):uD xs (U z) L=xs.drop z.toNat:=by
 unfold uD;let(n,rfl):=Int.eq_ofNat_of_zero_le h;rw[HT.sIx_none,HT.sIx_nat]
 show _=xs.drop n
 rcases Nat.le_total n xs.length with q|q
 ·rw[Zy q];exact W6 (by rw[Xl];omega)
 ·rw[Zq q,YJ (VF _),YJ q,List.take_nil]
theorem Bb(xs:G V)(z:B)(h:0<=z):uD xs L (U z)=xs.take z.toNat:=by
 unfold uD;let(n,rfl):=Int.eq_ofNat_of_zero_le h;rw[HT.sIx_none,HT.sIx_nat,drop_zero,Nat.sub_zero]
 show xs.take (min n xs.length)=xs.take n
 rcases Nat.le_total n xs.length with q|q
 ·rw[Zy q]
 ·rw[Zq q,WN,W6 q]
theorem iT{l b:Z}{Q:VK}(h:H l=U (.lst xs))(h':H b=U (.lst ys))(hl:xs.length+ys.length<=Å)(q:ll (.lst (xs++ys)) H Q):Ri Rc (.ref l) Q (.ref b) H:=by
 rw[A4,Jn,aF,h]
 show aJ (aF H b) (Rj xs H Q)
 rw[aF,h'];exact{(hl),q}
theorem OtK.refl(h:ps.length=ms.length):OtK ms ps ps:={h,λ xL _ hb q hq=>by have:=hb q hq;omega}
theorem OtK.put{x:à}{z:B}(h:ps.length=ms.length)(hx:x<ps.length)(hz:∀ xL:B,6<=xL->(∀ p∈ps,(p.natAbs:B)<=xL)->(z.natAbs:B)<=xL+2):OtK ms ps (ps.take x++[z]++ps.drop (x+1)):=by
 refine{by rw[VN,VN,Wi,Xl,WD];omega,λ xL h6 hb q hq=>?_}
 rcases Wf.mp hq with hq|hq
 ·rcases Wf.mp hq with hq|hq
  ·have:=hb q (Xo hq);omega
  ·rw[VO.mp hq];exact hz xL h6 hb
 ·have:=hb q (XB hq);omega
theorem OtK.turn{x:à}(h:ps.length=ms.length)(hx:x<ps.length):OtK ms ps (ps.drop x++ps.take x):=by
 refine{by rw[VN,Wi,Xl];omega,λ xL h6 hb q hq=>?_}
 rcases Wf.mp hq with hq|hq
 ·have:=hb q (XB hq);omega
 ·have:=hb q (Xo hq);omega
theorem OtK.small{qs:G B}(h:qs.length=ms.length)(hq:∀ q∈qs,-6<=q/\q<=6):OtK ms ps qs:={h,λ xL h6 _ q hm=>by have:=hq q hm;omega}
abbrev xY(K:PySem.W.Frag)(a:Z)(ns:G B)(p:Z)(l:Z)(H:Hp)(Q:VK)(E:XK):Prop:=p=a/\SqL K H a (ns.map V.int)/\ns.length<=63/\∃ ms ps:G B,H l=%[ps|46]/\ps.length=ms.length/\ps.length<=8/\∀ (qs:G B) (r:Z) (H':Hp),Ext H H'->H' r=%[qs|46]->OtK ms ps qs->Q (.ref r) H'
def AD(K:Æ)(a:Z)(ns:G B):Sp:=λ vs H Q E=>∃ (p:Z) (l:Z),vs=[.ref p,.ref l]/\(xY K a ns p l H Q E)
theorem Iu(K:Æ)(a:Z)(ns:G B)(p:Z)(l:Z)(H:Hp)(Q:VK)(E:XK):AD K a ns [.ref p,.ref l] H Q E=(xY K a ns p l H Q E):=gv (f:=λ (p:Z) (l:Z)=>[.ref p,.ref l]) %[4,2|63] p l
theorem oy(T:Tx K mg t)(a:Z)(ns:G B):%[2,zy|49] ["_law_script", "_law_paces"] (AD K a ns):=by
 let G_Eh:=%[dE|67] a ns;intros zx dz;refine %[zy,dZ,2|70]
 ·let(_,l,rfl,rfl,hS,hl,ms,ps,hp,a4,cN,kk):=h;rename_i a;refine{_,%[%[2,dZ,%[Eh,%[0,%[99,%[99|1]|1]|1]|3]|4],%[%[3,dZ,%[Eh,%[0,%[99,%[99|1]|1]|1]|3]|4],%[%[(PW.pt %[%[yl,2,99,(ar _)|13],%[%[(br hr.units),1,%[(@cZ _)|16],(ar _)|13]|35]|32]),%[%[%[iC,T.z_list,%[1|1]|33]|12]|10],(@au _)|14],%[%[4,dZ,%[lW,3,%[len,aB,%[1|1]|6]|11]|4],%[%[%[(br hr.units),2,99,(ar _)|13],%[%[%[bb,%[bb,%[1,(@dg _),%[4|37]|36],%[%[%[fK,99,%[1,4|15]|11]|1]|16]|11],%[1,%[%[bN,4,99|11]|37],(@dg _)|36]|11]|12]|10],(@au _)|14],%[%[%[(br hr.units),2,99,(ar _)|13],%[%[%[bb,%[1,%[4|37],(@dg _)|36],%[1,(@dg _),%[4|37]|36]|11]|12]|10],(@au _)|14],%[%[%[(br hr.units),2,99,(ar _)|13],%[%[%[(%[|118]),(1),(aD (aa dW) %[|129] J J nofun),%[%[zx,%[%[Eh,%[0,%[99,%[99|1]|1]|1]|3],%[99,%[%[len,aB,%[1|1]|6]|1]|1]|1]|3]|20],%[%[(0),%[|118]|51]|72],%[(@aI _)|72],%[%[fK,0,99|11]|72]|25]|12]|10],(@au _)|14],%[%[%[(br hr.units),2,99,(ar _)|13],%[%[%[bb,%[bb,%[1,(@dg _),%[4|37]|36],%[%[99|1]|16]|11],%[1,%[%[bN,4,99|11]|37],(@dg _)|36]|11]|12]|10],(@au _)|14],%[%[%[bb,%[bb,%[1,(@dg _),%[4|37]|36],%[%[%[bN,%[1,4|15],%[%[%[99,%[%[99|44],%[99|1]|1]|1]|16],%[lW,%[jX,3,99|11],99|11]|15]|11]|1]|16]|11],%[1,%[%[bN,4,99|11]|37],(@dg _)|36]|11]|12]|10]|9]|9]|9]|9]|9]|9]|9]|9],?_};rw[%[%[|129],[.ref a,.ref l],3|53]];clear G_Eh G_zx;exists kk;exists a4;ac_rfl;rw[bg];refine{hS,hl,{by decide,by decide},by decide,λ wy w0 w1=>?_};ac_rfl;rw[bg];refine{hS,hl,{by decide,by decide},by decide,λ k k0 k1=>?_}
  by_cases hw3:wy<3
  ·ac_rfl;intro r1 H1 b2 e1 h1;exact kk () ps r1 H1 e1 h1 (OtK.refl (a4 ()))
  ·cases hps:ps with
   | nil=>
    let bt:H l=U (.lst []):=by rw[hp,hps];rfl
    clear hp;ac_rfl;intro r1 H1 b2 e1 h1;let bB:=e1.at bt;clear b2 bt;ac_rfl;intro r2 H2 a5 e2 h2;exact kk () ps r2 H2 (e1.trans e2) (by rw[h2,hps];rfl) (OtK.refl (a4 ()))
   | cons y0 ys=>
   let b6:0<(ps.length:B):=by rw[hps,Wc];omega
   let cO:¬ ps=[]:=λ z=>by rw[hps] at z;cases z
   let bt:H l=U (.lst (.int y0::ys.map V.int)):=by rw[hp,hps];rfl
   let hlen:ps.length=ys.length+1:=by rw[hps];rfl
   let x0:=Xk k (show (ps.length:B)≠0 by omega);let x1:=WY k b6;obtain⟨x,hx⟩:∃ x,k % ((ys.length+1:à):B)=x:={_,J};rw[hlen,hx] at x0 x1;clear hp;ac_rfl;intro r1 H1 b2 e1 h1;let bB:=e1.at bt;let b3:=e1.2 K a _ hS;clear b2 bt;let af:V.int y0::ys.map V.int=ps.map V.int:=by rw[hps];rfl
   let a8:x.toNat<ps.length:=by omega
   let c4:atI (V.int y0::ys.map V.int) x=U (.int (ps.getD x.toNat 0)):=by rw[af];exact fU x0 (by rw[hlen];exact x1)
   let b7:ps.getD x.toNat 0∈ps:=by
    rw[List.getD,VA a8];exact Xm a8
   let cT:(0:B)<((ys.length+1:à):B):=by omega
   let ct:=Bb (.int y0::ys.map V.int) x x0;let cf:=lN (.int y0::ys.map V.int) x x0;let cV:=lN (.int y0::ys.map V.int) (x+1) %[|8];rw[show (x+1).toNat=x.toNat+1 by omega] at cV;let c5:ys.length+1<=8:=by omega
   exists af;exists hlen;clear hps b6 cO hS cN
   by_cases h3:wy=3
   ·ac_rfl;intro r2 H2 a5 e2 h2;let a3:=e2.at bB;let cg:=e2.2 K a _ b3;clear a5;ac_rfl;intro q2 G2 bS g2 k2;let a6:=g2.at h2;let aS:=g2.at a3;clear bS h2 a3;refine iT a6 k2 (ao (by rw[Wi,WD,Wc,VD];omega)) ?_;intro q3 G3 b0 g3 k3;let a7:=g3.at aS;clear b0 a6 k2 aS;ac_rfl;intro q4 G4 b1 g4 k4;let aX:=g4.at k3;clear b1 k3 a7;refine iT aX k4 (ao (by rw[VN,Wi,Xl,WD,Wc,VD];omega)) ?_;intro q5 G5 ck g5 k5;let fin:=kk () (ps.take x.toNat++[0 - ps.getD x.toNat 0]++ps.drop (x.toNat+1)) q5 G5 (e1.trans (e2.trans (g2.trans (g3.trans (g4.trans g5))))) (by rw[k5,af (),Ws,Ws,Zu,Y5];rfl) (OtK.put (a4 ()) a8 λ xL h6 hb=>by have:=hb _ b7;omega);clear kk aX k4 k5;ac_rfl
   by_cases h4:wy=4
   ·ac_rfl;intro r2 H2 a5 e2 h2;let a3:=e2.at bB;clear a5;ac_rfl;intro r3 H3 c2 e3 a9;let b8:=e3.at h2;clear c2 h2 a3;refine iT b8 a9 (ao (by rw[Wi,Xl,Wc,VD];omega)) ?_;intro r4 H4 c6 e4 cm;let fin:=kk () (ps.drop x.toNat++ps.take x.toNat) r4 H4 (e1.trans (e2.trans (e3.trans e4))) (by rw[cm,af (),Ws,Zu,Y5]) (OtK.turn (a4 ()) a8);clear kk b8 a9 cm;ac_rfl
   by_cases h5:wy=5
   ·ac_rfl;rw[bg];refine{b3,hl,{by decide,by decide},by decide,λ c c0 c1=>?_};ac_rfl;rw[kz];refine{by decide,by decide,by omega,by omega,λ ds d H2 hd2 e2 h2 cv cz=>?_};let c7:ds.length<=9:=by omega
    exists cv;exists cz;clear hd2;ac_rfl;refine bc (ds.map V.int) (λ _=>Y) (λ z=>.int (vi z - 6)) (λ z x H'=>x=z/\H' d=%[ds|46]) (gp h2).1 (gp h2).2 (ao (by rw[VD];omega)) ?_ ?_
    ·intro D z y H' N1 N0 hz hD e ⟨hy,_⟩ kx _;subst hy;let(i,_,rfl):=VT.mp hz;let c8:N1 (.int (i - 6)) H':=kx J H' (Ext.refl _);clear kx kk hz;simp! only[↓aH,↓aK]
    ·intro D H3 hD e3 a9;rw[jl,WC] at a9
     let fin:=kk () (ds.map λ i=>i - 6) D H3 (e1.trans (e2.trans e3)) (by rw[a9,WC];rfl) (OtK.small (by rw[VD,←a4 ()];have:=cv ();have:=hlen ();omega) λ q hq=>by
      let(i,hi,rfl):=VT.mp hq;have:=cz () i hi;omega)
     clear kk a9;ac_rfl
   by_cases h6:wy=6
   ·ac_rfl;intro r2 H2 a5 e2 h2;let a3:=e2.at bB;let cg:=e2.2 K a _ b3;clear a5;ac_rfl;intro q2 G2 bS g2 k2;let a6:=g2.at h2;let aS:=g2.at a3;clear bS h2 a3;refine iT a6 k2 (ao (by rw[Wi,WD,Wc,VD];omega)) ?_;intro q3 G3 b0 g3 k3;let a7:=g3.at aS;clear b0 a6 k2 aS;ac_rfl;intro q4 G4 b1 g4 k4;let aX:=g4.at k3;clear b1 k3 a7;refine iT aX k4 (ao (by rw[VN,Wi,Xl,WD,Wc,VD];omega)) ?_;intro q5 G5 ck g5 k5;let fin:=kk () (ps.take x.toNat++[0]++ps.drop (x.toNat+1)) q5 G5 (e1.trans (e2.trans (g2.trans (g3.trans (g4.trans g5))))) (by rw[k5,af (),Ws,Ws,Zu,Y5];rfl) (OtK.put (a4 ()) a8 λ xL h6 hb=>by show (0:B)<=xL+2;omega);clear kk aX k4 k5;ac_rfl
   ·let m0:=Xk (k / 8) (show (3:B)≠0 by decide);let m1:=WY (k / 8) (show (0:B)<3 by decide);ac_rfl;intro r2 H2 a5 e2 h2;let a3:=e2.at bB;let cg:=e2.2 K a _ b3;clear a5;ac_rfl;intro q1 G1 c3 g1 k1;clear c3;ac_rfl;refine jG (λ j=>-1<=j/\j<=2) m0 m1 (λ v hv=>?_) λ j hj=>?_
    ·simp only[VU,VM,V6] at hv
     rcases hv with rfl|rfl|rfl<;>exact{_,J,by decide}
    clear k1;ac_rfl;intro q2 G2 bS g2 k2;let a6:=(g1.trans g2).at h2;let aS:=(g1.trans g2).at a3;clear bS h2 a3;refine iT a6 k2 (ao (by rw[Wi,WD,Wc,VD];omega)) ?_;intro q3 G3 b0 g3 k3;let a7:=g3.at aS;clear b0 a6 k2 aS;ac_rfl;intro q4 G4 b1 g4 k4;let aX:=g4.at k3;clear b1 k3 a7;refine iT aX k4 (ao (by rw[VN,Wi,Xl,WD,Wc,VD];omega)) ?_;intro q5 G5 ck g5 k5;let fin:=kk () (ps.take x.toNat++[ps.getD x.toNat 0+j]++ps.drop (x.toNat+1)) q5 G5 (e1.trans (e2.trans (g1.trans (g2.trans (g3.trans (g4.trans g5)))))) (by rw[k5,af (),Ws,Ws,Zu,Y5];rfl) (OtK.put (a4 ()) a8 λ xL h6 hb=>by have:=hb _ b7;omega);clear kk aX k4 k5;ac_rfl
abbrev Cp  (l:Z) (r:Z) (H:Hp) (Q:VK) (E:XK):Prop:=∃ ms ps:G B,H l=%[ms|46]/\H r=%[ps|46]/\(∀ m∈ms,1<=m/\m<=6)/\ms.length<=8/\ps.length=ms.length/\∀ H',Ext H H'->Q (.int (aG (ms.zip ps))) H'
def JO  : Sp:=λ vs H Q E=>∃ (l:Z) (r:Z),vs=[.ref l,.ref r]/\(Cp  l r H Q E)
theorem u9  (l:Z) (r:Z) (H:Hp) (Q:VK) (E:XK):JO  [.ref l,.ref r] H Q E=(Cp  l r H Q E):=gv (f:=λ (l:Z) (r:Z)=>[.ref l,.ref r]) %[4,2|63] l r
theorem rg(T:Tx K mg t):%[1,D9|49] %[|109] JO:=by
 refine %[D9,uw,2|70]
 ·let(l,r,rfl,ms,ps,hm,hp,h6,h8,a4,k):=h;refine{_,%[%[%[sum,gO,%[%[(%[|104]),(2),(aD (aa eW) %[|109] J J nofun),%[T.z_zip,%[0,%[1|1]|1]|43],%[(%[(2),%[%[(0),%[|104]|51],%[%[(1),%[|104]|51],(@aO _)|18]|18]|29].mono λ _ _ _ _ h=>cp h)|72],%[(@aI _)|72],%[%[min,(sX J),%[99,%[%[eN,1,%[fK,0,99|11]|11]|1]|1]|6]|72]|25]|1]|6]|12]|10],?_};rw[%[%[|109],[.ref l,.ref r],0|53]];exists h6;ac_rfl;refine bc ((ms.map V.int).zip (ps.map V.int)) (λ _=>Y) (λ z=>.int (min 0 ((vi z.1 - 1) * vi z.2))) II (kL (ka:=Á) (kb:=Á) hm hp).1 (kL (ka:=Á) (kb:=Á) hm hp).2 (ao (by rw[Xf,VD,VD];omega)) ?_ ?_
  ·intro D z y H' N1 N0 hz hD e ⟨u,hu,a5⟩ k1 _;subst hu;let(x0,n0):=z;let af:=Xw hz;let(a,ha,rfl):=VT.mp af.1;let(b,a6,rfl):=VT.mp af.2;let aX:N1 (.int (min 0 ((a - 1) * b))) H':=k1 J H' (Ext.refl _);let ca:=h6 () a ha;let a7:oG b (a - 1):=.inr {by omega,by omega};rw[Uk,WL] at aX;clear k1 af hz k;simp! only[↓fq,↓aK]
  ·intro D H' hD e aS
   let a8:H' D=U (.lst (((ms.zip ps).map λ a=>min 0 ((a.1 - 1) * a.2)).map V.int)):=by
    rw[aS,jl,Zl,WC,WC];rfl
   let a3:((ms.zip ps).map λ a=>min 0 ((a.1 - 1) * a.2)).sum=aG (ms.zip ps):=rfl;let k2:=k H' e;clear k aS;ac_rfl
abbrev Co  (l:Z) (r:Z) (H:Hp) (Q:VK) (E:XK):Prop:=∃ ms ps:G B,H l=%[ms|46]/\H r=%[ps|46]/\(∀ m∈ms,1<=m/\m<=6)/\ms.length<=8/\ps.length=ms.length/\∀ H',Ext H H'->Q (.int (aE (ms.zip ps))) H'
def JN  : Sp:=λ vs H Q E=>∃ (l:Z) (r:Z),vs=[.ref l,.ref r]/\(Co  l r H Q E)
theorem BZ  (l:Z) (r:Z) (H:Hp) (Q:VK) (E:XK):JN  [.ref l,.ref r] H Q E=(Co  l r H Q E):=gv (f:=λ (l:Z) (r:Z)=>[.ref l,.ref r]) %[4,2|63] l r
theorem ug(T:Tx K mg t):%[1,Ej|49] %[|109] JN:=by
 refine %[Ej,wA,2|70]
 ·let(l,r,rfl,ms,ps,hm,hp,h6,h8,a4,k):=h;refine{_,%[%[%[sum,gO,%[%[(%[|104]),(2),(aD (aa fW) %[|109] J J nofun),%[T.z_zip,%[0,%[1|1]|1]|43],%[(%[(2),%[%[(0),%[|104]|51],%[%[(1),%[|104]|51],(@aO _)|18]|18]|29].mono λ _ _ _ _ h=>cp h)|72],%[(@aI _)|72],%[%[max,(jJ J),%[99,%[%[eN,1,%[fK,0,99|11]|11]|1]|1]|6]|72]|25]|1]|6]|12]|10],?_};rw[%[%[|109],[.ref l,.ref r],0|53]];exists h6;ac_rfl;refine bc ((ms.map V.int).zip (ps.map V.int)) (λ _=>Y) (λ z=>.int (max 0 ((vi z.1 - 1) * vi z.2))) II (kL (ka:=Á) (kb:=Á) hm hp).1 (kL (ka:=Á) (kb:=Á) hm hp).2 (ao (by rw[Xf,VD,VD];omega)) ?_ ?_
  ·intro D z y H' N1 N0 hz hD e ⟨u,hu,a5⟩ k1 _;subst hu;let(x0,n0):=z;let af:=Xw hz;let(a,ha,rfl):=VT.mp af.1;let(b,a6,rfl):=VT.mp af.2;let aX:N1 (.int (max 0 ((a - 1) * b))) H':=k1 J H' (Ext.refl _);let ca:=h6 () a ha;let a7:oG b (a - 1):=.inr {by omega,by omega};rw[Ul,WL] at aX;clear k1 af hz k;simp! only[↓fq,↓aK]
  ·intro D H' hD e aS
   let a8:H' D=U (.lst (((ms.zip ps).map λ a=>max 0 ((a.1 - 1) * a.2)).map V.int)):=by
    rw[aS,jl,Zl,WC,WC];rfl
   let a3:((ms.zip ps).map λ a=>max 0 ((a.1 - 1) * a.2)).sum=aE (ms.zip ps):=rfl;let k2:=k H' e;clear k aS;ac_rfl
abbrev Cr  (f:B) (l:Z) (q:Z) (H:Hp) (Q:VK) (E:XK):Prop:=∃ ms ps:G B,H l=%[ms|46]/\H q=%[ps|46]/\(∀ m∈ms,1<=m/\m<=6)/\ms.length<=8/\ps.length=ms.length/\ae ms<=60/\∀ (r:Z) (H':Hp),Ext H H'->H' r=U (.lst ((ah f (ms.zip ps)).map V.int))->Q (.ref r) H'
def JQ  : Sp:=λ vs H Q E=>∃ (f:B) (l:Z) (q:Z),vs=[.int f,.ref l,.ref q]/\(Cr  f l q H Q E)
theorem B3  (f:B) (l:Z) (q:Z) (H:Hp) (Q:VK) (E:XK):JQ  [.int f,.ref l,.ref q] H Q E=(Cr  f l q H Q E):=wC (f:=λ (f:B) (l:Z) (q:Z)=>[.int f,.ref l,.ref q]) %[6,3|63] f l q
theorem rh(T:Tx K mg t):%[1,Ea|49] ["_law_first", "_law_sizes_here", "_law_paces"] JQ:=by
 refine %[Ea,bU,3|70]
 ·let(first,l,q,rfl,ms,ps,hm,hp,h6,h8,ck,cm,k):=h;refine{_,%[%[3,bU,%[%[0|1]|16]|4],%[%[VX,%[T.z_zip,%[1,%[2|1]|1]|43],(%[(2),%[%[4,bU|5],%[%[(5),_,bU.nd,J,(Or.inr J),%[|7]|17],(@aO _)|18]|18]|29].mono λ _ _ _ _ h=>cp h),%[%[6,bU,%[(@cZ _)|16]|4],%[%[VX,%[3|20],%[(7),_,bU.nd,J,(Or.inr J),%[|7]|17],%[%[%[Wa,PySem.F.slot_list_extend,PySem.F.type_list_extend,sN,6,%[%[(%[|110]),(1),(aD (aa eX) %[|111] J J nofun),%[T.z_range,%[4|1]|34],%[%[(0),%[|110]|51]|72],%[(@aI _)|72],%[%[bN,8,%[eN,6,0|11]|11]|72]|25]|1]|40]|19]|10]|24],%[%[3,bU,6|4]|10]|9]|9]|24],%[%[3|12]|10]|9]|9],?_};rw[%[%[|111],[.int first,.ref l,.ref q],5|53]]
  let aS:(ms.zip ps).map (λ a=>a.1)=ms:=by
   rw[show (λ a:B × B=>a.1)=Prod.fst from J,Zr %[|8]]
  let aX:∀ a∈ms.zip ps,(1:B)<=a.1:=λ a ha=>(h6 a.1 (Xw (show (a.1,a.2)∈ms.zip ps from ha)).1).1;exists aX;exists aS;exists h6;exists k;ac_rfl;intro r H1 bS e1 h1;let b0:=e1.at hm;let b1:=e1.at hp;ac_rfl;refine qe (ka:=Á) (kb:=Á) (xs:=ms.map V.int) (ys:=ps.map V.int) (λ i σ H'=>∃ (r:Z) (v4 v5 v6 v7:Ü V),σ=[%[first|47],%[l|45],%[q|45],%[r|45],v4,v5,v6,v7]/\Ext H H'/\H' r=U (.lst ((ah first ((ms.zip ps).take i)).map V.int))) ⟨r,L,L,L,L,J,e1,h1⟩ (λ i σ H' ⟨_,_,_,_,_,_,e,_⟩=>{e.at hm,e.at hp}) ?_ ?_
  ·rintro i x y w' _ H2 H3 hx hy ⟨r,v4,v5,v6,v7,rfl,e2,h2⟩ hw e3 h3;rw[VS] at hx hy;let(a,ha,rfl):=VH.mp hx;let(b,hb,rfl):=VH.mp hy;let a3:(ms.zip ps)[i]? = U (a,b):=by rw[Yu];exact{(ha),hb}
   let cv:=h6 () a (V8 ha)
   let hlen:(ah first ((ms.zip ps).take i)).length * a.toNat<=60:=by
    let a4:=aM first ((ms.zip ps).take i) λ b hb=>aX () b (Xo hb)
    let a5:=jN ms (λ n hn=>(h6 () n hn).1) (i+1);rw[kl _ i a ha] at a5;rw[Zu,aS ()] at a4;rw[←a4] at a5;let b2:((a.toNat:à):B)=a:=WU %[|8]
    have:(((ah first ((ms.zip ps).take i)).length * a.toNat:à):B)<=60:=by rw[Ym,b2];omega
    omega
   let a6:ah first ((ms.zip ps).take (i+1))=cc (ah first ((ms.zip ps).take i)) (a,b):=by
    rw[WZ,a3]
    show ah first ((ms.zip ps).take i++[(a,b)])=_
    rw[jb]
   rw[a6];let af:=e3.at h2;let a7:=e2.trans e3
   generalize ah first ((ms.zip ps).take i)=cs at hlen af h2
   exists hlen;clear a6 hx hy ha hb a3 hw h2 e2 e3 h1 bS b0 b1 e1;simp! only[↓aA];intro g H4 a8 e4 h4;let a9:=e4.at af;let b3:H g=L:=a7.free a8;ac_rfl;refine dj (xs:=cs.map V.int) (λ j σ H'=>∃ v7:Ü V,σ=[%[first|47],%[l|45],%[q|45],%[r|45],%[a|47],%[b|47],%[g|45],v7]/\Ext H H'/\Ext H3 H'/\H' g=U (.lst ((cc (cs.take j) (a,b)).map V.int))) ⟨_,J,a7.trans e4,e4,h4⟩ (λ j σ H' _ ⟨_,_,_,e,_⟩=>e.at af) ?_ ?_
   ·rintro j x _ H5 hj ⟨b6,rfl,e5,bt,h5⟩;rw[VS] at hj;let(c,hc,rfl):=VH.mp hj;let cz:j<cs.length:=(VB.mp hc).1
    let b7:(cc (cs.take j) (a,b)).length+a.toNat<=60:=by
     rw[mw,Wi]
     show min j cs.length * a.toNat+a.toNat<=60
     have:(min j cs.length+1) * a.toNat<=cs.length * a.toNat:=YU _ %[|8];rw[Nat.add_mul,Nat.one_mul] at this;have:=hlen ();omega
    rw[oV cs (a,b) j c hc];generalize cc (cs.take j) (a,b)=ws at h5 b7;clear hj hc a9 h4 e4 k;simp! only[↓aA];refine{by omega,by omega,?_};refine bc (Ì a.toNat) (λ _=>Y) (λ m=>.int (c+(m:B) * b)) (λ j x H'=>x=.int (0+(j:à))) cF.1 cF.2 (ao (by rw[V5];omega)) ?_ ?_
    ·intro D m x H' N1 N0 bB hD e hx k1 _;subst hx;let cN:=WO.mp bB
     let cO:N1 (.int (c+b * (0+(m:B)))) H':=by
      rw[Ww,WL b];exact k1 J H' (Ext.refl _)
     let cT:oG b (0+(m:B)):=.inr {by omega,by omega};clear k1 bB;simp! only[↓aH,↓aK]
    ·intro D H6 hD e6 b8;rw[jl] at b8;let cg:=e6.at h5;let cV:ws.length+(Ì a.toNat).length<=Å:=ao (by rw[V5];omega);clear h5;ac_rfl;refine{_,J,(e5.trans e6).put b3,(bt.trans e6).put a8,?_};rw[Ws,WC];rfl
   ·rintro _ H5 ⟨b6,rfl,e5,bt,h5⟩;rw[VD,WN] at h5;ac_rfl;exact{g,_,_,_,_,J,e5,h5}
  ·rintro _ H3 ⟨r3,v4,v5,v6,v7,rfl,e3,h3⟩;let cf:min (ms.map V.int).length (ps.map V.int).length=(ms.zip ps).length:=by rw[VD,VD,Xf]
   rw[cf,WN] at h3;ac_rfl;exact k () r3 H3 e3 h3
theorem Cz(cs:G B)(a:B × B)(h:1<=a.1):cc cs (ay a)=cc cs a:=by
 unfold cc
 show (cs.flatMap λ c=>(Ì a.1.toNat).map λ (n:à)=>c+(n:B) * (if a.1 > 1 then a.2 else 0))=_
 by_cases h1:a.1 > 1
 ·rw[V7 h1]
 ·rw[VY h1];let e:a.1.toNat=1:=by omega
  rw[e];refine W2 (λ f=>cs.flatMap f) (funext λ c=>?_);simp
theorem sT:∀ (axs:%[|48]) (cs:G B),(∀ a∈axs,(1:B)<=a.1)->(axs.map ay).foldl cc cs=axs.foldl cc cs
 | [],cs,_=>rfl
 | a::r,cs,h=>by
  rw[Wr,X5,X5,Cz cs a (h a VP),sT r _ λ b hb=>h b (VI _ hb)]
def pA(f:B)(axs:%[|48])(h:∀ a∈axs,(1:B)<=a.1):ah f (axs.map ay)=ah f axs:=sT axs [f] h
theorem ei(axs:%[|48]):(axs.map ay).map (λ a=>a.1)=axs.map λ a=>a.1:=by rw[WC];rfl
theorem mW{axs:%[|48]}(h:bY axs):bY (axs.map ay):={by rw[VD];exact h.1,λ a ha=>by
 let(b,hb,rfl):=VT.mp ha;exact h.2 b hb}
theorem mB:∀ l:%[|48],(∀ a∈l,(1:B)<=a.1)->aG (l.map ay)=aG l/\aE (l.map ay)=aE l
 | [],_=>{(J),J}
 | a::r,h=>by
  let(i1,i2):=mB r λ b hb=>h b (VI _ hb);let ha:=h a VP
  let e:((ay a).1 - 1) * (ay a).2=(a.1 - 1) * a.2:=by
   show (a.1 - 1) * (if a.1 > 1 then a.2 else 0)=_
   split
   ·rfl
   ·have:a.1=1:=by omega
    rw[this];simp
  rw[Wr,bu,bz,bu,bz,e,i1,i2];exact{(J),J}
theorem FC(ms ws:G B):(ms.map V.int).zip (ws.map V.int)=(ms.zip ws).map λ z=>(V.int z.1,V.int z.2):=by
 rw[Zl];rfl
theorem Bc{ts:G V}(al:Al (λ z y=>II z y H) ((ms.map V.int).zip (ws.map V.int)) ts):Al (bp H) (axL (ms.zip ws)) ts:=by
 rw[FC] at al;refine{by rw[al.1];unfold axL;rw[length_map,length_map],λ i z y hz hy=>?_};unfold axL at hz;rw[getElem?_map] at hz;let(x,hx,rfl):=Option.map_eq_some_iff.mp hz;let(p,hp,hq):=al.2 i (V.int x.1,V.int x.2) y (by rw[getElem?_map,hx];rfl) hy;exact{(p),hp,hq}
structure NF(ms:G B)(room f:B)(ps:G B):Prop where
 len:ps.length=ms.length
 lo:0<=f+aG (ms.zip ps)
 hi:f+aE (ms.zip ps)<room
theorem FD(h:SzK ms)(hl:ps.length=ms.length):bY (ms.zip ps):=⟨by rw[Xf];have:=h.pos.2.1;omega,λ a ha=>by
 have:=h.pos.1 a.1 (Xw (show (a.1,a.2)∈ms.zip ps from ha)).1;omega⟩
theorem Ko(hl:ps.length=ms.length):(ms.zip ps).map (λ a=>a.1)=ms:=by
 rw[show (λ a:B × B=>a.1)=Prod.fst from J,Zr %[|8]]
theorem NF.view(h:NF ms room f ps)(hs:SzK ms)(r1:1<=room)(r2:room<=4096):da room f (ms.zip ps):=by
 let af:=FD hs h.len;let(g1,g2):=mB (ms.zip ps) λ a ha=>(af.2 a ha).1;have:=h.lo;have:=h.hi;exact{af,r1,by omega,by rw[g1];omega,by rw[g2];omega}
theorem CA{qs:G B}(hs:SzK ms)(hp:PcK ms ps)(hq:OtK ms ps qs):∃ S1 S2:B,aE (ms.zip ps) - aG (ms.zip ps)<=S1/\aE (ms.zip qs) - aG (ms.zip qs)<=S2/\S1+S2<=3960/\aG (ms.zip ps)<=0/\0<=aE (ms.zip ps)/\aG (ms.zip qs)<=0/\0<=aE (ms.zip qs):=by
 let one:∀ m∈ms,(1:B)<=m:=λ m hm=>(hs.pos.1 m hm).1;let(hl,S,xL,h1,h2,h3,h4,h5):=hp;let(a1,a2,a3,_):=qj ms ps one hl;let(b1,b2,b3,_):=qj ms qs one hq.1;let hb:=sv ms qs (xL+2) one hq.1 (hq.2 xL h3 h2) %[|8];exact{S,oE ms * (xL+2),by omega,by omega,h5,a2,a3,b2,b3}
abbrev Cn(K:PySem.W.Frag)(a:Z)(ns:G B)(C:Z)(p:Z)(l:Z)(H:Hp)(Q:VK)(E:XK):Prop:=p=a/\SqL K H a (ns.map V.int)/\ns.length<=63/\∃ ms:G B,H l=%[ms|46]/\SzK ms/\∀ (room f1 f2:B) (ps qs:G B) (x1 x2 c1 c2 r:Z) (H':Hp),Ext H H'->H' r=U (.tup [.ref x1,.ref x2,.ref c1,.ref c2])->ak C H' x1 room f1 ((ms.zip ps).map ay)->ak C H' x2 room f2 ((ms.zip qs).map ay)->H' c1=U (.lst ((ah f1 (ms.zip ps)).map V.int))->H' c2=U (.lst ((ah f2 (ms.zip qs)).map V.int))->NF ms room f1 ps->NF ms room f2 qs->1<=room->room<=4095->(ah f1 (ms.zip ps)).Nodup->Q (.ref r) H'
def JL(K:Æ)(a:Z)(ns:G B)(C:Z):Sp:=λ vs H Q E=>∃ (p:Z) (l:Z),vs=[.ref p,.ref l]/\(Cn K a ns C p l H Q E)
theorem Nk(K:Æ)(a:Z)(ns:G B)(C:Z)(p:Z)(l:Z)(H:Hp)(Q:VK)(E:XK):JL K a ns C [.ref p,.ref l] H Q E=(Cn K a ns C p l H Q E):=gv (f:=λ (p:Z) (l:Z)=>[.ref p,.ref l]) %[4,2|63] p l
theorem vG(T:Tx K mg t)(a:Z)(ns:G B):%[8,Hm|49] %[|122] (JL K a ns t.a_MN):=by
 let G_Eh:=%[dE|67] a ns;intros zx dz;let G_Ei:=%[uf|67] a ns;let G_zy:=%[oy|67] a ns;intros D9 rg Ej ug Ea rh vY cA;refine %[Hm,bJ,2|70]
 ·let(_,l,rfl,rfl,hS,hl,ms,hm,hsz,kk):=h;rename_i a;refine{_,%[%[2,bJ,%[Ei,%[0,%[1|1]|1]|3]|4],%[%[3,bJ,%[zy,%[0,%[2|1]|1]|3]|4],%[%[4,bJ,%[fK,%[Eh,%[0,%[99,%[99|1]|1]|1]|3],%[D9,%[1,%[2|1]|1]|3]|11]|4],%[%[5,bJ,%[fK,%[Eh,%[0,%[99,%[99|1]|1]|1]|3],%[D9,%[1,%[3|1]|1]|3]|11]|4],%[%[%[(br hr.units),%[Eh,%[0,%[99,%[99|1]|1]|1]|3],99,(ar _)|13],%[%[5,bJ,%[max,(jJ J),%[%[bN,4,%[%[%[99,%[99,%[%[99|44]|1]|1]|1]|16],%[Eh,%[0,%[99,%[99|1]|1]|1]|3]|15]|11],%[%[fK,99,%[D9,%[1,%[3|1]|1]|3]|11]|1]|1]|6]|4]|10],(@au _)|14],%[%[6,bJ,%[max,(jJ J),%[%[bN,4,%[Ej,%[1,%[2|1]|1]|3]|11],%[%[bN,5,%[Ej,%[1,%[3|1]|1]|3]|11]|1]|1]|6]|4],%[%[7,bJ,%[bN,%[bN,6,99|11],%[Eh,%[0,%[99,%[99|1]|1]|1]|3]|11]|4],%[%[8,bJ,%[qAj,vY,m_MN,aZ,%[7,%[4,%[(@km _ _ _ _ _ _ _ _ J ∅ T.z_list ∅ T.z_zip %[1,%[2|1]|1] ∅ ∅ ∅ ∅)|1]|1]|1]|62]|4],%[%[9,bJ,%[qAj,vY,m_MN,aZ,%[7,%[5,%[(@km _ _ _ _ _ _ _ _ J ∅ T.z_list ∅ T.z_zip %[1,%[3|1]|1] ∅ ∅ ∅ ∅)|1]|1]|1]|62]|4],%[%[%[%[8,%[9,%[%[Ea,%[4,%[1,%[2|1]|1]|1]|3],%[%[Ea,%[5,%[1,%[3|1]|1]|1]|3]|1]|1]|1]|1]|21]|12]|10]|9]|9]|9]|9]|9]|9]|9]|9]|9],?_};rw[%[["_law_script", "_law_sizes_here", "_law_paces", "_law_others_here", "_law_first", "_law_begin", "_law_last", "_law_room", "_law_one", "_law_other"],[.ref a,.ref l],8|53]];clear G_Eh G_zx G_Ei G_zy G_D9 G_Ej G_Ea G_vY;let h8:=hsz.pos.2.1;let c0:=hsz.pos.2.2;let m6:=λ (_:Unit)=>hsz.pos.1;exists kk;ac_rfl;rw[Iv];refine{J,hS,hl,ms,hm,hsz,λ ps r1 H2 e2 h2 cg c3=>?_};exists c3;let ck:=e2.2 K a _ hS;let c4:=e2.at hm;let af:=cg.1;ac_rfl;rw[Iu];refine{J,ck,hl,ms,ps,h2,af,by omega,λ qs r3 H3 e3 h3 cm=>?_};let cv:=e3.2 K a _ ck;let aX:=e3.at c4;let a3:=e3.at h2;let aS:=cm.1;let(S1,S2,b1,b2,b3,b4,b5,b6,b7):=CA hsz cg cm;exists cg;exists cm;exists af;exists aS;exists hsz;let eb:=e2.trans e3;clear h2 c4 ck e2 e3 hS hm;ac_rfl;rw[bg];refine{cv,hl,{by decide,by decide},by decide,λ d1 ec ee=>?_};ac_rfl;rw[u9];refine{ms,ps,aX,a3,m6 (),h8,af (),λ H4 e4=>?_};let cz:=e4.2 K a _ cv;ac_rfl;rw[bg];refine{cz,hl,{by decide,by decide},by decide,λ d2 ej el=>?_};ac_rfl;rw[u9];refine{ms,qs,e4.at aX,e4.at h3,m6 (),h8,aS (),λ H5 e5=>?_};let a9:=e5.2 K a _ cz;let bt:=e4.trans e5;obtain⟨f1,hf1⟩:∃ f,d1 - aG (ms.zip ps)=f:={_,J};obtain⟨g2,hg2⟩:∃ f,d2 - aG (ms.zip qs)=f:={_,J};clear cv cz;simp! only[-oM];refine rY (λ σ' H'=>∃ f2:B,σ'=[%[a|45],%[l|45],%[r1|45],%[r3|45],%[f1|47],%[f2|47],L,L,L,L]/\Ext H5 H'/\0<=f2+aG (ms.zip qs)/\f2+aE (ms.zip qs)<=13+S1+S2) (λ fb hn=>?_) ?_
  ·exists hn;ac_rfl;rw[bg];refine{a9,hl,{by decide,by decide},by decide,λ g g0 g1=>?_}
   by_cases hg:g=0
   ·ac_rfl;intro q6 H6 en e6 h6;let bB:=e6.2 K a _ a9;clear en;ac_rfl;rw[bg];refine{bB,hl,{by decide,by decide},by decide,λ x x0 x1=>?_};ac_rfl;refine jG (λ j=>-1<=j/\j<=1) x0 x1 (λ v hv=>?_) λ j hj=>?_
    ·simp only[VU,VM,V6] at hv
     rcases hv with rfl|rfl|rfl<;>exact{_,J,by decide}
    clear h6;ac_rfl;rw[u9];refine{ms,qs,(bt.trans e6).at aX,(bt.trans e6).at h3,m6 (),h8,aS (),λ H7 e7=>?_};let eo:=hn () [%[a|45],%[l|45],%[r1|45],%[r3|45],%[f1|47],U (.int (if f1+j<0 - aG (ms.zip qs) then 0 - aG (ms.zip qs) else f1+j)),L,L,L,L] H7 {_,J,e6.trans e7,by split<;>omega,by split<;>omega};clear hn;ac_rfl
   ·let eo:=hn () [%[a|45],%[l|45],%[r1|45],%[r3|45],%[f1|47],%[g2|47],L,L,L,L] H5 {g2,J,Ext.refl _,by omega,by omega};clear hn;ac_rfl
  rintro _ H6 ⟨f2,rfl,e6,c5,ep⟩;let bS:=bt.trans e6;let b0:=bS.at aX;let a4:=bS.at a3;let a5:=bS.at h3;let bB:=e6.2 K a _ a9;let lo1:0<=f1+aG (ms.zip ps):=by omega
  let et:f1+aE (ms.zip ps)<=12+S1:=by omega
  clear a9 e4 e5 e6 bt aX a3 h3 hf1 hg2;ac_rfl;rw[BZ];refine{ms,ps,b0,a4,m6 (),h8,af (),λ H7 e7=>?_};ac_rfl;rw[BZ];refine{ms,qs,e7.at b0,e7.at a5,m6 (),h8,aS (),λ H8 e8=>?_};let a6:=e7.trans e8;let eu:=a6.2 K a _ bB;let cN:=a6.at b0;let c6:=a6.at a4;let b8:=a6.at a5;obtain⟨la,hla⟩:∃ la,(if f1+aE (ms.zip ps)<f2+aE (ms.zip qs) then f2+aE (ms.zip qs) else f1+aE (ms.zip ps))=la:={_,J}
  let ew:f1+aE (ms.zip ps)<=la/\f2+aE (ms.zip qs)<=la/\la<=13+S1+S2:=by
   rw[←hla]
   split<;>omega
  clear b0 a4 a5 bB e7;ac_rfl;rw[bg];refine{eu,hl,{by decide,by decide},by decide,λ d3 fo fu=>?_};obtain⟨room,hroom⟩:∃ r,la+1+d3=r:={_,J};let cO:1<=room:=by omega
  let ey:room<=4095:=by omega
  let o1:NF ms room f1 ps:={af (),lo1,by omega};let o2:NF ms room f2 qs:={aS (),c5,by omega};let v1:=o1.view (hsz ()) cO %[|8];let v2:=o2.view (hsz ()) cO %[|8];exists o1;exists o2;clear hla ew lo1 et c5 ep b1 b2 b3 b4 b5 b6 b7 ec ee ej el;ac_rfl;rw[JH];intro D1 ez H9 eD e9 h9 c7;let t9:=Bc c7;let c8:=e9.at cN;let cf:=e9.at b8;clear c7 eD;ac_rfl;intro x1 c9 G1 de dh dk g1 k1 eF;rw[gQ];refine{c9,ms.zip ps,k1,bP.ext ⟨ez,h9,t9⟩ g1,v1,λ G2 D2 dr eH a7 dy=>?_};let eg:=dr H9 g1 de;let cT:ak t.a_MN G2 x1 room f1 ((ms.zip ps).map ay):={(c9),D2,a7,dy};let eI:=e9.trans eg;let dN:=eg.at c8;let cV:=eg.at cf;clear h9 t9 c8 cf k1 eF de dh dk g1 dr eH a7 dy eg;ac_rfl;rw[JH];intro D3 eO G3 eR g3 k3 d0;let t3:=Bc d0;clear d0 eR;ac_rfl;intro x2 d4 G4 a7 d5 d6 g4 k4 e0;rw[gQ];refine{d4,ms.zip qs,k4,bP.ext ⟨eO,k3,t3⟩ g4,v2,λ G5 D5 d7 e1 d8 d9=>?_};let ea:=g3.trans (d7 G3 g4 a7);let fa:ak t.a_MN G5 x2 room f2 ((ms.zip qs).map ay):={(d4),D5,d8,d9};let a8:=eI.trans ea;replace cT:=cT.ext ea;clear k3 t3 k4 e0 a7 d5 d6 g4 d7 e1 d8 d9 dN cV;ac_rfl;rw[B3];refine{ms,ps,a8.at cN,a8.at c6,m6 (),h8,af (),c0,λ c1 G6 g6 k6=>?_};ac_rfl;rw[B3];refine{ms,qs,(a8.trans g6).at cN,(a8.trans g6).at b8,m6 (),h8,aS (),c0,λ c2 G7 g7 k7=>?_};ac_rfl;intro r G8 fx g8 k8;exact kk () room f1 f2 ps qs x1 x2 c1 c2 r G8 (eb.trans (bS.trans (a6.trans (a8.trans (g6.trans (g7.trans g8)))))) k8 (cT.ext (g6.trans (g7.trans g8))) (fa.ext (g6.trans (g7.trans g8))) ((g7.trans g8).at k6) (g8.at k7) (o1 ()) (o2 ()) cO ey ((c3 ()).nodup (λ n hn=>by have:=m6 () n hn;omega) (af ()) f1)
theorem Gx{c:B}(h:ws.Nodup)(af:i<j)(h1:ws[i]? = U c)(h2:ws[j]? = U c):False:=by
 let(a,ha):=VB.mp h1;let(b,hb):=VB.mp h2;have:=(Zs h).mp (ha.trans hb.symm);omega
abbrev tM(C:Z)(v:Z)(H:Hp)(Q:VK)(E:XK):Prop:=∃ (room first:B) (axs:%[|48]),ak C H v room first axs/\bY axs/\ae (axs.map λ a=>a.1)<=4096/\((ah first axs).Nodup->∀ H',Ext H H'->Q .non H')/\(∀ (i j:à) (c:B) (r p q:Z) (H':Hp),i<j->(ah first axs)[i]? = U c->(ah first axs)[j]? = U c->Ext H H'->H' r=U (.tup [.ref p,.ref q])->H' p=U (.tup ((aC (axs.map λ a=>a.1) (i:B)).map V.int))->H' q=U (.tup ((aC (axs.map λ a=>a.1) (j:B)).map V.int))->Q (.ref r) H')
def lZ(C:Z):Sp:=λ vs H Q E=>∃ (v:Z),vs=[.ref v]/\(tM C v H Q E)
theorem sY(C:Z)(v:Z)(H:Hp)(Q:VK)(E:XK):lZ C [.ref v] H Q E=(tM C v H Q E):=kJ (f:=λ (v:Z)=>[.ref v]) %[2,1|63] v
theorem kZ(T:Tx K mg t):%[5,Ee|49] ["view"] (lZ t.a_MN):=by
 intros DV dY zB aL Hj vC;refine %[Ee,bR,1|70]
 ·let(v,rfl,room,first,axs,vo,aS,hc,kN,kT):=h;exists kN;exists kT;let(dx,l,hv,_):=vo.ob;let a7:=hv;let c1:=T.qA0
  let f3:=vn room first l (m := "cells") nofun
  let f4:=vn room first l (m := "sizes") nofun
  refine{_,%[%[1,bR,(@lK _ _)|4],%[%[VX,(@Bx _ _ _ _ _ _ _ _ ∅ T.z_enumerate %[%[%[0|0],qA0,qA9,DV,aZ|61]|1] ∅ ∅),(%[(2),%[%[2,bR|5],%[%[3,bR|5],(@aO _)|18]|18]|29].mono λ _ _ _ _ h=>cp h),%[%[%[(Ji (oI hr.units)),3,1,(by with_unfolding_all rfl)|13],%[%[%[%[%[Hj,%[%[%[0|0],qA0,qA1,zB,aZ|61],%[(@BA _ _ _ _ _ _ (oI hr.units) %[1|0] %[3|0] (λ _ _=>J))|1]|1]|3],%[%[Hj,%[%[%[0|0],qA0,qA1,zB,aZ|61],%[2|1]|1]|3]|1]|1]|21]|12]|10],(@au _)|14],%[(@Bt _ _ _ _ _ _ _ _ _ (oI hr.units) %[1|0] %[3|0] %[2|0] rfl)|10]|9]|24],%[%[(@js _ _ _)|12]|10]|9]|9],?_};rw[%[["view", "seen", "number", "cell"],[.ref v],3|53]];clear G_DV G_zB G_Hj;ac_rfl;intro d H1 b0 e1 h1;let a8:=e1.at hv;ac_rfl;rw[gS];refine{room,first,axs,vo.ext e1,aS,λ _ r2 H2 cv e2 h2=>?_,by omega}
  let b1:((ah first axs).length:B)=ae (axs.map λ a=>a.1):=aM first axs λ b hb=>(aS.2 b hb).1
  generalize ah first axs=cs at h2 kN kT b1
  let a9:=e2.at h1;let cz:=e2.at a8;ac_rfl;let hsz:=aS.sizes;let cN:cs.length<=4096:=by omega
  let b2:=e1.trans e2;clear h1 a8 hv;refine Ib (λ i σ H'=>∃ (kvs:G (Key × V)) (v2 v3:Ü V),σ=[%[v|45],%[d|45],v2,v3]/\Ext H H'/\H' r2=%[cs|46]/\H' d=U (.dK kvs)/\kvs.length<=i/\(cs.take i).Nodup/\(∀ c,iH kvs (.inl c)=L->c ∉ cs.take i)/\∀ c x,iH kvs (.inl c)=U x->∃ k:à,k<i/\x=.int (k:B)/\cs[k]? = U c) ⟨[],L,L,J,b2,h2,a9,VF _,Yc,λ c _=>VM,λ c x h=>by cases h⟩ (λ i σ H' ⟨_,_,_,_,_,h,_⟩=>h) ?_ ?_
  ·rintro i u p _ H3 H4 hi ⟨kvs,v2,v3,rfl,e3,h3,bt,b3,aX,hB,hC⟩ cO e4 h4;rw[VS] at hi;let(c,a3,rfl):=VH.mp hi;let cT:i<cs.length:=(VB.mp a3).1;let a4:=e4.at bt;let a5:=e4.at h3;let a6:=e3.trans e4;let bB:=a6.at a7;clear hi;simp! only[↓aA];refine IM (k:=.inl c) a4 ?_
   cases hvv:iH kvs (.inl c) with
   | some x=>
    let(k,b6,rfl,b7):=hC c x hvv;let cm:k<cs.length:=by omega
    clear kN hB hC aX;ac_rfl;rw[aR];refine{room,first,axs,vo.ext a6,aS.1,λ r5 H5 cV e5 h5=>?_};let b8:=e5.at a4;let bS:=e5.at bB;clear a4 bB;ac_rfl;refine IQ (k:=.inl c) b8 hvv ?_;ac_rfl;rw[nB];refine{_,h5,hsz,by omega,by omega,?_};rw[wG];intro r6 H6 c0 e6 h6;let c2:=e6.at bS;clear bS;ac_rfl;rw[aR];refine{room,first,axs,vo.ext (a6.trans (e5.trans e6)),aS.1,λ r7 H7 c3 e7 h7=>?_};ac_rfl;rw[nB];refine{_,h7,hsz,by omega,by omega,?_};rw[wG];intro r8 H8 c4 e8 h8;ac_rfl;intro r9 H9 c5 e9 h9;exact kT () k i c r9 r6 r8 H9 b6 b7 a3 (a6.trans (e5.trans (e6.trans (e7.trans (e8.trans e9))))) h9 ((e7.trans (e8.trans e9)).at h6) (e9.at h8)
   | none=>
    let cf:kvs.length<Å:=kP %[|8];let cg:r2≠d:=λ z=>by rw[z,a4] at a5;cases a5
    clear kN kT;ac_rfl;refine IP (k:=.inl c) a4 cf ?_;refine{_,_,_,J,a6.put b0,by rw[ag cg];exact a5,aj,?_,?_,λ c' af hm=>?_,λ c' x af=>?_}
    ·rw[Gb _ hvv,VN];simp;omega
    ·rw[WZ,a3];exact List.nodup_append.mpr {aX,by simp,λ a ha b hb=>by rw[Option.toList_some,VO] at hb;subst hb;exact λ e=>hB _ hvv (e ▸ ha)}
    ·rw[lF] at af;split at af
     ·cases af
     ·rename_i ck;rw[WZ,a3] at hm
      rcases Wf.mp hm with hm|hm
      ·exact hB c' af hm
      ·rw[Option.toList_some,VO] at hm;exact ck (by rw[hm])
    ·rw[lF] at af;split at af
     ·rename_i he;cases af;cases he;exact{i,Xs _,J,a3}
     ·let(k,k1,k2,k3):=hC c' x af;exact{k,by omega,k2,k3}
  ·rintro _ H3 ⟨kvs,v2,v3,rfl,e3,h3,bt,b3,aX,hB,hC⟩;rw[VD,WN] at aX;let k':=kN () aX H3 e3;clear kN kT;ac_rfl
abbrev tO(C:Z)(u:Z)(v:Z)(H:Hp)(Q:VK)(E:XK):Prop:=∃ (room f1 f2:B) (A xL:%[|48]),ak C H u room f1 A/\ak C H v room f2 xL/\Q .non H
def uM(C:Z):Sp:=λ vs H Q E=>∃ (u:Z) (v:Z),vs=[.ref u,.ref v]/\(tO C u v H Q E)
theorem tu(C:Z)(u:Z)(v:Z)(H:Hp)(Q:VK)(E:XK):uM C [.ref u,.ref v] H Q E=(tO C u v H Q E):=gv (f:=λ (u:Z) (v:Z)=>[.ref u,.ref v]) %[4,2|63] u v
theorem hV(T:Tx K mg t):%[1,zh|49] ["one", "other"] (uM t.a_MN):=by
 refine %[zh,iN,2|70]
 ·let(u,v,rfl,room,f1,f2,A,xL,vu,vv,k):=h;let(dx,D,hu,_):=vu.ob;let(dy,D2,hv,_):=vv.ob;let c1:=T.qA0;let c4:=T.qA7;let g1:=cG room f1 D;let g2:=cG room f2 D2;refine{_,%[%[%[(bM hr.units),%[0|22],%[1|22],(ar _)|13],%[(@cy _ _)|10],(@au _)|14]|10],?_};rw[%[["one", "other"],[.ref u,.ref v],0|53]];ac_rfl
abbrev pN(C:Z)(u:Z)(v:Z)(H:Hp)(Q:VK)(E:XK):Prop:=∃ (r1 r2 f1 f2:B) (A xL:%[|48]),ak C H u r1 f1 A/\ak C H v r2 f2 xL/\A.length<=8/\(A.map λ a=>a.1)=(xL.map λ a=>a.1)/\∀ H',Ext H H'->Q .non H'
def qu(C:Z):Sp:=λ vs H Q E=>∃ (u:Z) (v:Z),vs=[.ref u,.ref v]/\(pN C u v H Q E)
theorem ky(C:Z)(u:Z)(v:Z)(H:Hp)(Q:VK)(E:XK):qu C [.ref u,.ref v] H Q E=(pN C u v H Q E):=gv (f:=λ (u:Z) (v:Z)=>[.ref u,.ref v]) %[4,2|63] u v
theorem bK(T:Tx K mg t):%[2,sP|49] %[|114] (qu t.a_MN):=by
 intros zB aL;refine %[sP,dF,2|70]
 ·let(u,v,rfl,r1,r2,f1,f2,A,xL,vu,vv,h8,hs,k):=h;let(dx,D,hu,_):=vu.ob;let(dy,D2,hv,_):=vv.ob;let c1:=T.qA0;let g1:=vn r1 f1 D (m := "sizes") nofun;let g2:=vn r2 f2 D2 (m := "sizes") nofun;refine{_,%[%[%[(bM hr.units),%[%[0|0],qA0,qA1,zB,aZ|61],%[%[1|0],qA0,qA1,zB,aZ|61],(ar _)|13],%[(@cy _ _)|10],(@au _)|14]|10],?_};rw[%[%[|114],[.ref u,.ref v],0|53]];clear G_zB;let hl:xL.length<=8:=by have:=W2 List.length hs;rw[VD,VD] at this;omega
  exists k;exists hs;ac_rfl;rw[aR];refine{r1,f1,A,vu,h8,λ q1 H1 af e1 h1=>?_};let a3:=e1.at hv;clear af;ac_rfl;rw[aR];refine{r2,f2,xL,vv.ext e1,hl,λ q2 H2 aS e2 h2=>?_};let aX:=e2.at h1;rw[←hs ()] at h2;let k':=k () H2 (e1.trans e2);clear k aS h1;ac_rfl
abbrev tQ(C:Z)(v:Z)(H:Hp)(Q:VK)(E:XK):Prop:=∃ (room first:B) (axs:%[|48]),ak C H v room first axs/\bY axs/\ae (axs.map λ a=>a.1)<=4096/\(ah first axs).Nodup/\∀ H',Ext H H'->Q .non H'
def uO(C:Z):Sp:=λ vs H Q E=>∃ (v:Z),vs=[.ref v]/\(tQ C v H Q E)
theorem EI(C:Z)(v:Z)(H:Hp)(Q:VK)(E:XK):uO C [.ref v] H Q E=(tQ C v H Q E):=kJ (f:=λ (v:Z)=>[.ref v]) %[2,1|63] v
theorem nM(T:Tx K mg t):%[6,zm|49] ["view"] (uO t.a_MN):=by
 intros Ee kZ;refine %[zm,dA,1|70]
 ·let(v,rfl,room,first,axs,vo,aS,hc,af,kN):=h;refine{_,%[%[1,dA,%[Ee,%[0|1]|3]|4],%[%[%[qG,1,(@js _ _ _),(ar _)|13],%[(@cy _ _)|10],(@au _)|14]|10]|9],?_};rw[%[["view", "found"],[.ref v],1|53]];clear G_Ee;exists kN;ac_rfl;rw[sY];refine{room,first,axs,vo,aS,hc,λ _ H1 e1=>?_,λ i j c r p q H1 aX hi hj e1 a3 a4 a5=>(Gx af aX hi hj).elim};let k':=kN () H1 e1;clear kN af;ac_rfl
theorem Gd{κ:Type}[DecidableEq κ](kvs:G (κ × V))(k:κ)(v:V):(pW kvs k v).length<=kvs.length+1:=by
 unfold pW;split
 ·rw[VD];omega
 ·rw[VN];simp
structure yi(ws rs:G B)(ys:G V)(i:à)(kvs:G (Key × V)):Prop where
 len:kvs.length<=i
 get:∀ c x,iH kvs (.inl c)=U x->∃ n,n<i/\ws[n]? = U c/\rs[n]? ≠ U c/\ys[n]? = U x
 has:∀ n c,n<i->ws[n]? = U c->rs[n]? ≠ U c->iH kvs (.inl c)≠L
theorem yi.nil:yi ws rs ys 0 []:={VF _,(λ c x h=>by cases h),λ n c h=>Þ h (Nat.not_lt_zero _)}
theorem yi.skip{c:B}(h:yi ws rs ys i kvs)(hw:ws[i]? = U c)(hr:rs[i]? = U c):yi ws rs ys (i+1) kvs:=by
 refine⟨by have:=h.len;omega,λ c x hc=>?_,λ n c' hn h1 h2=>?_⟩
 ·let(n,a,b):=h.get c x hc;exact{n,by omega,b}
 ·by_cases hni:n=i
  ·subst hni;rw[hw] at h1;cases h1;exact Þ hr h2
  ·exact h.has n c' %[|8] h1 h2
theorem yi.put{c d:B}{u:V}(h:yi ws rs ys i kvs)(hw:ws[i]? = U c)(hr:rs[i]? = U d)(af:¬ c=d)(hu:ys[i]? = U u):yi ws rs ys (i+1) (pW kvs (.inl c) u):=by
 refine⟨by have:=h.len;have:=Gd kvs (.inl c) u;omega,λ c' x hc=>?_,λ n c' hn h1 h2=>?_⟩
 ·rw[lF] at hc;split at hc
  ·rename_i he;cases hc;cases he;exact{i,Xs _,hw,λ e=>af (by rw[hr] at e;exact(We e).symm),hu}
  ·let(n,a,b):=h.get c' x hc;exact{n,by omega,b}
 ·rw[lF];split
  ·exact YX _
  ·rename_i aS
   by_cases hni:n=i
   ·subst hni;rw[hw] at h1;cases h1;exact Þ J aS
   ·exact h.has n c' %[|8] h1 h2
abbrev yf(C:Z)(u:Z)(v:Z)(l:Z)(H:Hp)(Q:VK)(E:XK):Prop:=∃ (room f1 f2:B) (A xL:%[|48]) (ys:G V),ak C H u room f1 A/\ak C H v room f2 xL/\bY A/\bY xL/\(A.map λ a=>a.1)=(xL.map λ a=>a.1)/\ae (A.map λ a=>a.1)<=4096/\H l=U (.lst ys)/\(ys.length:B)=ae (A.map λ a=>a.1)/\∀ (d:Z) (kvs:G (Key × V)) (H':Hp),Ext H H'->H d=L->H' d=U (.dK kvs)->yi (ah f1 A) (ah f2 xL) ys ys.length kvs->Q (.ref d) H'
def AN(C:Z):Sp:=λ vs H Q E=>∃ (u:Z) (v:Z) (l:Z),vs=[.ref u,.ref v,.ref l]/\(yf C u v l H Q E)
theorem IC(C:Z)(u:Z)(v:Z)(l:Z)(H:Hp)(Q:VK)(E:XK):AN C [.ref u,.ref v,.ref l] H Q E=(yf C u v l H Q E):=wC (f:=λ (u:Z) (v:Z) (l:Z)=>[.ref u,.ref v,.ref l]) %[6,3|63] u v l
theorem gA(T:Tx K mg t):%[5,um|49] ["to", "source", "spots"] (AN t.a_MN):=by
 intros DV dY;refine %[um,aQ,3|70]
 ·let(u,v,l,rfl,room,f1,f2,A,xL,ys,vu,vv,hA,hB,hs,hc,hl,cv,k):=h;let(dx,D,hu,_):=vu.ob;let(dy,D2,hv,_):=vv.ob;let c1:=T.qA0;let g1:=vn room f1 D (m := "cells") nofun;let g2:=vn room f2 D2 (m := "cells") nofun;refine{_,%[%[3,aQ,(@lK _ _)|4],%[%[VX,(@KU _ _ _ _ _ _ _ _ _ _ ∅ T.z_zip %[2,%[%[%[0|0],qA0,qA9,DV,aZ|61],%[%[%[1|0],qA0,qA9,DV,aZ|61]|1]|1]|1] ∅ ∅ ∅),(%[(3),%[%[4,aQ|5],%[%[5,aQ|5],%[%[6,aQ|5],(@aO _)|18]|18]|18]|29].mono λ _ _ _ _ h=>cp h),%[%[%[(bM hr.units),5,6,(ar _)|13],%[(@Bt _ _ _ _ _ _ _ _ _ (oI hr.units) %[3|0] %[5|0] %[4|0] rfl)|10],(@au _)|14]|10]|24],%[%[3|12]|10]|9]|9],?_};rw[%[["to", "source", "spots", "found", "place", "cell", "origin"],[.ref u,.ref v,.ref l],4|53]];clear G_DV;exists k;let l1:=aM f1 A λ b hb=>(hA.2 b hb).1;let l2:=aM f2 xL λ b hb=>(hB.2 b hb).1;rw[←hs] at l2;ac_rfl;intro d H1 hd e1 h1;let b6:=e1.at hu;let bB:=e1.at hl;ac_rfl;rw[gS];refine{room,f1,A,vu.ext e1,hA,λ _ r2 H2 b7 e2 h2=>?_,by omega};let b8:=(e1.trans e2).at hv;let bS:=e2.at bB;let a9:=e2.at h1;clear b7 b6 bB h1;ac_rfl;rw[gS];refine{room,f2,xL,vv.ext (e1.trans e2),hB,λ _ r3 H3 cf e3 h3=>?_,by rw[←hs];omega};let b0:=e3.at h2;let cg:=e3.at bS;let b1:=e3.at a9;let ck:=e1.trans (e2.trans e3);generalize ah f1 A=ws at *;generalize ah f2 xL=rs at *;clear cf b8 bS a9 h2 hu hv;ac_rfl;refine HZ (xs:=ys) (ys:=ws.map V.int) (us:=rs.map V.int) (λ i σ H'=>∃ (kvs:G (Key × V)) (v4 v5 v6:Ü V),σ=[%[u|45],%[v|45],%[l|45],%[d|45],v4,v5,v6]/\Ext H H'/\H' l=U (.lst ys)/\H' r2=%[ws|46]/\H' r3=%[rs|46]/\H' d=U (.dK kvs)/\yi ws rs ys i kvs) ⟨[],L,L,L,J,ck,cg,b0,h3,b1,yi.nil⟩ (λ i σ H' ⟨_,_,_,_,_,_,a,b,c,_⟩=>{(a),b,c}) ?_ ?_
  ·rintro i x y z p _ H4 H5 hx hy hz ⟨kvs,v4,v5,v6,rfl,e4,a6,aS,aX,a3,af⟩ hp e5 h5;rw[VS] at hy hz;let(wc,hw,rfl):=VH.mp hy;let(rc,a7,rfl):=VH.mp hz;let hi:i<ys.length:=(VB.mp hx).1;let bt:=e5.at a6;let a4:=e5.at aS;let a5:=e5.at aX;let a8:=e5.at a3;let cm:kvs.length<Å:=kP (by have:=af.len;omega);let b2:=e4.trans e5
   by_cases hne:wc=rc
   ·subst hne;let hn:=af.skip hw a7;exists hn;clear af hx hy hz hw a7 a6 aS aX a3 k hp;simp! only[↓aA];exact{kvs,_,_,_,J,b2,J,hn ()}
   ·let hn:=af.put hw a7 hne hx;exists hn;let n1:l≠d:=λ z=>by rw[z,a8] at bt;cases bt
    let n2:r2≠d:=λ z=>by rw[z,a8] at a4;cases a4
    let n3:r3≠d:=λ z=>by rw[z,a8] at a5;cases a5
    clear af hx hy hz hw a7 a6 aS aX a3 k hp;simp! only[↓aA];refine IP (k:=.inl wc) a8 cm ?_;exact{_,_,_,_,J,b2.put hd,by rw[ag n1];exact bt,by rw[ag n2];exact a4,by rw[ag n3];exact a5,aj,hn ()}
  ·rintro _ H4 ⟨kvs,v4,v5,v6,rfl,e4,a6,aS,aX,a3,af⟩;let b3:min ys.length (min (ws.map V.int).length (rs.map V.int).length)=ys.length:=by rw[VD,VD];omega
   rw[b3] at af;let k':=k () d kvs H4 e4 hd a3 af;clear k af b3;ac_rfl
def kM(ws rs:G B)(j:à):G (à × à):=match rs[j]? with
 | some c=>(match ws.findIdx? (λ x=>decide (x=c)) with
  | some i=>if rs[i]? = U c then [] else [(i,j)]
  | none=>[])
 | none=>[]
def dC(ws rs:G B)(n:à):G (à × à):=(Ì n).flatMap (kM ws rs)
theorem nr(ws rs:G B)(n:à):dC ws rs (n+1)=dC ws rs n++kM ws rs n:=by
 unfold dC;rw[List.range_succ,List.flatMap_append,List.flatMap_singleton]
theorem Nb{c:B}(af:ws.Nodup)(h:ws[n]? = U c):ws.findIdx? (λ x=>decide (x=c))=U n:=by
 let(hn,he):=VB.mp h;rw[Y7];refine{hn,Wk he,λ j hj=>?_};intro aS;let e2:=X9 aS;exact Þ ((Zs af).mp (e2.trans he.symm)) %[|8]
theorem yi.pair{c:B}(h:yi ws rs ys n kvs)(af:ws.Nodup)(hl:ws.length<=n)(hj:rs[j]? = U c) :
  (iH kvs (.inl c)=L->kM ws rs j=[])/\∀ x,iH kvs (.inl c)=U x->∃ i,kM ws rs j=[(i,j)]/\ys[i]? = U x:=by
 refine{λ hv=>?_,λ x hv=>?_}
 ·unfold kM;rw[hj]
  show (match ws.findIdx? (λ x=>decide (x=c)) with|some i=>if rs[i]? = U c then [] else [(i,j)]|none=>[])=[]
  cases hf:ws.findIdx? (λ x=>decide (x=c)) with
  | none=>rfl
  | some i=>
   rw[Y7] at hf;let(hi,he,_):=hf;let aS:=X9 he
   by_cases hr:rs[i]? = U c
   ·show (if rs[i]? = U c then [] else [(i,j)])=[]
    rw[V7 hr]
   ·exact Þ hv (h.has i c %[|8] (by rw[VA hi,aS]) hr)
 ·let(i,hi,hw,hr,hx):=h.get c x hv;refine{i,?_,hx};unfold kM;rw[hj]
  show (match ws.findIdx? (λ x=>decide (x=c)) with|some i=>if rs[i]? = U c then [] else [(i,j)]|none=>[])=_
  rw[Nb af hw]
  show (if rs[i]? = U c then [] else [(i,j)])=_
  rw[VY hr]
def jq(H:Hp)(ys:G V)(ij:à × à)(y:V):Prop:=∃ q u v,y=.ref q/\H q=U (.tup [u,v])/\ys[ij.1]? = U u/\ys[ij.2]? = U v
theorem jq.ext{ij:à × à}(h:jq H ys ij y)(e:Ext H H'):jq H' ys ij y:=by
 let(q,u,v,h1,h2,h3):=h;exact{q,u,v,h1,e.at h2,h3}
theorem jq.upd{ij:à × à}{r:Z}{o:HO}(h:jq H ys ij y)(hr:H r=U (.lst zs)):jq (upd H r o) ys ij y:=by
 let(q,u,v,h1,h2,h3):=h;exact{q,u,v,h1,by rw[ag (λ z=>by rw[z,hr] at h2;cases h2)];exact h2,h3}
theorem vd{R:α->V->Prop}{zs:G α}{z:α}(h:Al R zs ys)(r:R z y):Al R (zs++[z]) (ys++[y]):=by
 refine{by rw[VN,VN,h.1];rfl,λ i a b ha hb=>?_}
 by_cases hi:i<zs.length
 ·rw[Wq hi] at ha;rw[Wq (by rw[h.1];exact hi)] at hb;exact h.2 i a b ha hb
 ·rw[Wj %[|8]] at ha;rw[Wj (by rw[h.1];omega),h.1] at hb
  let h0:i - zs.length=0:=by
   have:=(VB.mp ha).1;simp at this;omega
  rw[h0] at ha hb;cases ha;cases hb;exact r
def mf(C:Z):Sp:=λ vs H Q E=>∃ (u:Z) (v:Z),vs=[.ref u,.ref v]/\(∃ (room f1 f2:B) (A xL:%[|48]),ak C H u room f1 A/\ak C H v room f2 xL/\bY A/\bY xL/\(A.map λ a=>a.1)=(xL.map λ a=>a.1)/\ae (A.map λ a=>a.1)<=4096/\(ah f1 A).Nodup/\∀ (l r:Z) (ys zs:G V) (H':Hp),Ext H H'->H r=L->H' l=U (.lst ys)->Al (bp H') (fj (A.map λ a=>a.1)) ys->H' r=U (.lst zs)->Al (jq H' ys) (dC (ah f1 A) (ah f2 xL) (ah f2 xL).length) zs->Q (.ref r) H')
theorem jL(C:Z)(u:Z)(v:Z)(H:Hp)(Q:VK)(E:XK):mf C [.ref u,.ref v] H Q E=(∃ (room f1 f2:B) (A xL:%[|48]),ak C H u room f1 A/\ak C H v room f2 xL/\bY A/\bY xL/\(A.map λ a=>a.1)=(xL.map λ a=>a.1)/\ae (A.map λ a=>a.1)<=4096/\(ah f1 A).Nodup/\∀ (l r:Z) (ys zs:G V) (H':Hp),Ext H H'->H r=L->H' l=U (.lst ys)->Al (bp H') (fj (A.map λ a=>a.1)) ys->H' r=U (.lst zs)->Al (jq H' ys) (dC (ah f1 A) (ah f2 xL) (ah f2 xL).length) zs->Q (.ref r) H'):=gv (f:=λ (u:Z) (v:Z)=>[.ref u,.ref v]) %[4,2|63] u v
theorem dw(T:Tx K mg t):%[7,zv|49] %[|114] (mf t.a_MN):=by
 intros zh hV sP bK zm nM MD sM zB aL DV dY um gA;refine %[zv,bC,2|70]
 ·let(u,v,rfl,room,f1,f2,A,xL,vu,vv,hA,hB,hs,hc,ck,kN):=h;let(dx,D,hu,_):=vu.ob;let(dy,D2,hv,_):=vv.ob;let c1:=T.qA0;let g1:=vn room f1 D (m := "sizes") nofun;let g2:=vn room f2 D2 (m := "cells") nofun;refine{_,%[%[%[zh,%[0,%[1|1]|1]|3]|19],%[%[%[sP,%[0,%[1|1]|1]|3]|19],%[%[%[zm,%[0|1]|3]|19],%[%[2,bC,%[MD,%[%[%[0|0],qA0,qA1,zB,aZ|61]|1]|3]|4],%[%[3,bC,%[um,%[0,%[1,%[2|1]|1]|1]|3]|4],%[%[4,bC,%[(@cZ _)|16]|4],%[%[VX,%[T.z_zip,%[2,%[%[%[1|0],qA0,qA9,DV,aZ|61]|1]|1]|43],(%[(2),%[%[5,bC|5],%[%[6,bC|5],(@aO _)|18]|18]|29].mono λ _ _ _ _ h=>cp h),%[%[%[(Ji (oI hr.units)),6,3,(by with_unfolding_all rfl)|13],%[%[%[Wa,Wy,Wx,cP,4,%[%[%[(@BA _ _ _ _ _ _ (oI hr.units) %[3|0] %[6|0] (λ _ _=>J)),%[5|1]|1]|21]|1]|40]|19]|10],(@au _)|14]|10]|24],%[%[4|12]|10]|9]|9]|9]|9]|9]|9]|9],?_};rw[%[%[|130],[.ref u,.ref v],5|53]];clear G_zh G_sP G_zm G_MD G_zB G_DV G_um;exists hs;exists kN;exists ck;ac_rfl;rw[tu];refine{room,f1,f2,A,xL,vu,vv,?_};ac_rfl;rw[ky];refine{room,room,f1,f2,A,xL,vu,vv,hA.1,hs (),λ H1 e1=>?_};let c4:=vu.ext e1;let d8:=vv.ext e1;ac_rfl;rw[EI];refine{room,f1,A,c4,hA,hc,ck (),λ H2 e2=>?_};let cm:=kN ();let b0:=e1.trans e2;let d9:=b0.at hu;let c5:=vu.ext b0;let ea:=vv.ext b0;exists cm;clear kN c4 d8;ac_rfl;rw[aR];refine{room,f1,A,c5,hA.1,λ r3 H3 eb e3 h3=>?_};let hsz:fk (A.map λ a=>a.1):=hA.sizes;let cv:=b0.trans e3;let ec:=vu.ext cv;let ee:=vv.ext cv;clear eb d9 c5 ea;simp! only[↓pF,↓rO,↓Be];refine{λ r4 H4 eg e4 t4=>?_,by omega};let(ys,h4,cz):=t4;let cN:=cv.trans e4;let c6:=vu.ext cN;let c7:=vv.ext cN;let p1:1<=ae (A.map λ a=>a.1):=aU _ λ m hm=>(hsz.2 m hm).1;let ej:(ys.length:B)=ae (A.map λ a=>a.1):=by rw[cz.1,mO];omega
  clear eg ec ee h3;ac_rfl;rw[IC];refine{room,f1,f2,A,xL,ys,c6,c7,hA,hB,hs (),hc,h4,ej,λ d kvs H5 e5 ey h5 c8=>?_};let b1:=cN.trans e5;let aX:=e5.at h4;let c9:=cz.imp λ _ _ t=>bp.ext t e5;let de:=b1.at hv;let el:=vv.ext b1;let l1:=aM f1 A λ b hb=>(hA.2 b hb).1;let l2:=aM f2 xL λ b hb=>(hB.2 b hb).1;rw[←hs ()] at l2;clear c6 c7 h4 cz;ac_rfl;intro r6 H6 b2 e6 h6;let en:=e6.at de;let b6:=e6.at aX;let b7:=e6.at h5;let f6:H r6=L:=b1.free b2;let n4:r4≠r6:=λ z=>by rw[z,b2] at aX;cases aX
  let nd:d≠r6:=λ z=>by rw[z,b2] at h5;cases h5
  clear de aX h5;ac_rfl;rw[gS];refine{room,f2,xL,el.ext e6,hB,λ _ r7 H7 cO e7 h7=>?_,by rw[←hs ()];omega};let n7:r7≠r6:=λ z=>by rw[z,h6] at cO;cases cO
  let dh:=e7.at b6;let dk:=e7.at b7;let dr:=e7.at h6;let eo:=b1.trans (e6.trans e7);let ep:=e6.trans e7;let dN:=c9.imp λ _ _ t=>bp.ext t ep;generalize ah f1 A=ws at *;generalize ah f2 xL=rs at *;let d0:=λ (_:Unit)=>λ {j:à} {c:B} (hj:rs[j]? = U c)=>c8.pair (ck ()) %[|8] hj;clear cO en b6 b7 h6 c9 b2;ac_rfl;refine qe (ka:=Á) (kb:=Á) (xs:=ys) (ys:=rs.map V.int) (λ i σ H'=>∃ (zs:G V) (v5 v6:Ü V),σ=[%[u|45],%[v|45],%[r4|45],%[d|45],%[r6|45],v5,v6]/\Ext H H'/\H' r4=U (.lst ys)/\H' r7=%[rs|46]/\H' d=U (.dK kvs)/\H' r6=U (.lst zs)/\Al (bp H') (fj (A.map λ a=>a.1)) ys/\zs.length<=i/\Al (jq H' ys) (dC ws rs i) zs) ⟨[],L,L,J,eo,dh,h7,dk,dr,dN,VF _,Al.nil⟩ (λ i σ H' ⟨_,_,_,_,_,a,b,_⟩=>{(a),b}) ?_ ?_
  ·rintro i x y p _ H8 H9 hx hy ⟨zs,v5,v6,rfl,e8,a3,a9,bt,a4,bB,et,a7⟩ hp e9 h9;rw[VS] at hy;let(c,d1,rfl):=VH.mp hy;let hi:i<ys.length:=(VB.mp hx).1;let d2:=e8.trans e9;let b8:=e9.at a3;let cf:=e9.at a9;let a5:=e9.at bt;let cg:=e9.at a4;let cT:=bB.imp λ _ _ t=>bp.ext t e9;let bS:=a7.imp λ _ _ t=>jq.ext t e9;let(b3,a6):=d0 () d1;let cV:=nr ws rs i;let ez:zs.length<Å:=kP %[|8];exists cV;exists cT;exists bS;exists b3;exists a6;exists hx;clear hy d1 a3 a9 bt a4 bB a7 hp dN;simp! only[↓aA];refine IM (k:=.inl c) a5 ?_
   cases a8:iH kvs (.inl c) with
   | none=>
    let hn:=b3 () a8;let fin:Al (jq H9 ys) (dC ws rs (i+1)) zs:=by rw[cV (),hn,X6];exact bS ()
    exists fin;clear b3 a6 hn a8;ac_rfl;exact{zs,_,_,J,d2,J,cT (),by omega,fin ()}
   | some x0=>
    let(i0,d3,d4):=a6 () x0 a8;exists d3;exists d4;let d5:=a8;exists a8;clear b3 a6 d5;ac_rfl;refine IQ (k:=.inl c) a5 (a8 ()) ?_;ac_rfl;intro eu eD d6 af ew;let aS:=af.at cg;let c0:=af.at b8;let c2:=af.at cf;let c3:=af.at a5;clear d6 cg b8 cf a5;ac_rfl;refine{_,_,_,J,(d2.trans af).put f6,by rw[ag n4];exact c0,by rw[ag n7];exact c2,by rw[ag nd];exact c3,J,?_,?_,?_}
    ·exact(cT ()).imp λ _ _ t=>(bp.ext t af).upd aS
    ·rw[VN];show _+1<=_;omega
    ·rw[cV (),d3 ()];exact vd ((bS ()).imp λ _ _ t=>(jq.ext t af).upd aS) (jq.upd {eu,x0,x,J,ew,d4 (),hx ()} aS)
  ·rintro _ H8 ⟨zs,v5,v6,rfl,e8,a3,a9,bt,a4,bB,et,a7⟩;let d7:min ys.length (rs.map V.int).length=rs.length:=by rw[VD];omega
   rw[d7] at a7;let k':=cm () r4 r6 ys zs H8 e8 f6 a3 bB a4 a7;clear cm a7 bB d7 d0 c8;ac_rfl
def ic(x y:G B)(a:à):B:=x.getD a 0 - y.getD a 0
def crB:%[|48]->G B->G B->Ý
 | [],_,_=>Á
 | o::os,x,y=>if ic x y o.1.toNat=0 then crB os x y else decide (0<ic x y o.1.toNat * o.2)
def Ii{x y:G B}(h:ic x y o.1.toNat=0):crB (o::os) x y=crB os x y:=V7 h
def Ij{x y:G B}(h:¬ ic x y o.1.toNat=0):crB (o::os) x y=decide (0<ic x y o.1.toNat * o.2):=VY h
def Vl(n:à)(os:%[|48]):Prop:=(∀ o∈os,(0<=o.1/\o.1<(n:B))/\(o.2=1\/o.2=-1))/\(os.map λ o=>o.1).Nodup
def Vv(n:à)(z:G B)(os:%[|48]):G B:=os.foldl (λ pl o=>pl.set o.1.toNat (z.getD o.1.toNat 0)) (È n 0)
def Vu(W R:α->B)(zC:G α):%[|48]:=zC.foldl (λ kv n=>kv++[(W n,(Oo kv (R n)).getD (R n))]) []
def Vp(ms ws:G B)(z:G B):B:=ws.getD (Rb ms z).toNat 0
def Vo(ms ws rs:G B)(os:%[|48]):Ý:=(dC ws rs rs.length).all λ p=>crB os (aC ms (p.1:B)) (aC ms (p.2:B))
abbrev PP:=G B × G B
def Vx(d:B)(ns:G B)(M:B):Prop:=(ns=[]/\M=d)\/(M∈ns/\∀ a∈ns,M<=a)
def Vr(d:B)(ns:G B)(M:B):Prop:=(ns=[]/\M=d)\/(M∈ns/\∀ a∈ns,a<=M)
def Kj(zn:G PP)(a:à):G B:=zn.map λ z=>ic z.1 z.2 a
def Vs(zn:G PP)(a:à)(w:B):Prop:=(w=1\/w=-1)/\(∀ z∈zn,0<=ic z.1 z.2 a * w)/\∃ z∈zn,¬ ic z.1 z.2 a=0
def Vt(zn:G PP)(a:à):Prop:=(∀ z∈zn,ic z.1 z.2 a=0)\/((∃ z∈zn,ic z.1 z.2 a<0)/\∃ z∈zn,0<ic z.1 z.2 a)
structure LoI(n:à)(P zC:G PP)(os:%[|48]):Prop where
 ord:Vl n os
 sub:∀ z∈zC,z∈P
 zer:∀ z∈zC,∀ o∈os,ic z.1 z.2 o.1.toNat=0
 crr:∀ z∈P,z∈zC\/crB os z.1 z.2=Y
def Vn(n:à)(os:%[|48]):%[|48]:=(((Ì n).map λ (i:à)=>(i:B)).filter λ a=>decide (¬ a∈os.map λ o=>o.1)).map λ a=>(a,1)
theorem qh{f:V->Ü PyData}(h:H p=U (.tup (z.map V.int))):dR H (dR H f) (.ref p)=U (.tuple (z.map PyData.int)):=by
 rw[eh,h]
 show Ah (dR H f) (.tup (z.map V.int))=_
 rw[ef,fg];rfl
theorem xG(a b:G B):PyData.eqv (.tuple (a.map PyData.int)) (.tuple (b.map PyData.int))=decide (a=b):=by rw[fN,eG]
def PrV(H:Hp)(z:G B × G B)(y:V):Prop:=∃ q u v,y=.ref q/\H q=U (.tup [.ref u,.ref v])/\H u=U (.tup (z.1.map V.int))/\H v=U (.tup (z.2.map V.int))
theorem PrV.ext{z:G B × G B}(h:PrV H z y)(e:Ext H H'):PrV H' z y:=by
 let(q,u,v,h1,h2,h3,h4):=h;exact{q,u,v,h1,e.at h2,e.at h3,e.at h4}
theorem PrV.upd{z:G B × G B}{r:Z}{o:HO}(h:PrV H z y)(hr:H r=U (.lst zs)):PrV (upd H r o) z y:=by
 let(q,u,v,h1,h2,h3,h4):=h;exact{q,u,v,h1,by rw[ag (λ z=>by rw[z,hr] at h2;cases h2)];exact h2,by rw[ag (λ z=>by rw[z,hr] at h3;cases h3)];exact h3,by rw[ag (λ z=>by rw[z,hr] at h4;cases h4)];exact h4}
def prD(z:G B × G B):PyData:=.tuple [.tuple (z.1.map PyData.int),.tuple (z.2.map PyData.int)]
theorem Bu{H:Hp}{f:V->Ü PyData}:∀ {zs:G (G B × G B)}{ys:G V},Al (PrV H) zs ys->aV (ys.map (dR H (dR H (dR H f))))=U (zs.map prD)
 | [],ys,h=>by rw[WH h.1];rfl
 | z::zs,[],h=>by have:=h.1;simp at this
 | z::zs,y::ys,h=>by
  let(q,u,v,rfl,hq,hu,hv):=h.2 0 z y J J;let ih:=Bu (H:=H) (f:=f) (zs:=zs) (ys:=ys) ⟨by have:=h.1;simpa using this,λ i z y a b=>h.2 (i+1) z y (by simpa using a) (by simpa using b)⟩
  let e1:dR H (dR H (dR H f)) (.ref q)=U (prD z):=by
   rw[eh,hq]
   show Ah (dR H (dR H f)) (.tup [.ref u,.ref v])=_
   rw[ef]
   show (aV [dR H (dR H f) (.ref u),dR H (dR H f) (.ref v)]).map PyData.tuple=_
   rw[qh hu,qh hv];rfl
  rw[Wr,e1,fG,ih];rfl
def E1(ms:G B)(z:à × à):G B × G B:=(aC ms (z.1:B),aC ms (z.2:B))
theorem Ja(al:Al (bp H) (fj ms) ys)(h:ys[i]? = U y):∃ q,y=.ref q/\H q=U (.tup ((aC ms (i:B)).map V.int)):=by
 let(z,hz,q,hq,af):=i9 al h;unfold fj at hz;rw[getElem?_map] at hz;let(k,hk,rfl):=Option.map_eq_some_iff.mp hz
 have:k=i:=by
  let hi:=(VB.mp hk).1;rw[VA hi] at hk;have:=We hk;rw[Y6] at this;exact this.symm
 subst this;exact{(q),hq,af}
theorem uY{zC:G (à × à)}(al:Al (bp H) (fj ms) ys)(af:Al (jq H ys) zC zs):Al (PrV H) (zC.map (E1 ms)) zs:=by
 refine{by rw[af.1,VD],λ k z y hz hy=>?_};rw[VS] at hz;let(ij,hk,rfl):=VH.mp hz;let(q,u,v,rfl,hq,hu,hv):=af.2 k ij y hk hy;let(a,rfl,ha):=Ja al hu;let(b,rfl,hb):=Ja al hv;exact{(q),a,b,J,hq,ha,hb}
def Vy(g:B->B):Prop:=∀ x y,g x=g y->x=y
theorem PrV.len{zC:G (à × à)}:∀ z∈zC.map (E1 ms),z.1.length=ms.length/\z.2.length=ms.length:=λ z hz=>by
 let(ij,_,rfl):=VT.mp hz
 show (aC ms _).length=_/\(aC ms _).length=_
 rw[bI,bI];exact{(J),J}
theorem yF(ws rs:G B)(j:à):(kM ws rs j).length<=1:=by
 unfold kM
 repeat' split
 all_goals simp
theorem iw(ws rs:G B):∀ n,(dC ws rs n).length<=n
 | 0=>VF _
 | n+1=>by
  rw[nr,VN];have:=iw ws rs n;have:=yF ws rs n;omega
abbrev Cs  (p:Z) (a:B) (H:Hp) (Q:VK) (E:XK):Prop:=∃ z:G B × G B,PrV H z (.ref p)/\0<=a/\a<(z.1.length:B)/\z.2.length=z.1.length/\Q (.int (ic z.1 z.2 a.toNat)) H
def JR  : Sp:=λ vs H Q E=>∃ (p:Z) (a:B),vs=[.ref p,.int a]/\(Cs  p a H Q E)
theorem jY  (p:Z) (a:B) (H:Hp) (Q:VK) (E:XK):JR  [.ref p,.int a] H Q E=(Cs  p a H Q E):=gv (f:=λ (p:Z) (a:B)=>[.ref p,.int a]) %[4,2|63] p a
theorem wM(T:Tx K mg t):%[1,ZH|49] ["pair", "axis"] JR:=by
 refine %[ZH,TF,2|70]
 ·let(p,a,rfl,z,(_,u,v,af,hq,hu,hv),a0,a1,hl,k):=h;cases af;refine{_,%[%[%[fK,%[%[0,99|15],1|15],%[%[0,99|15],1|15]|11]|12]|10],?_};rw[%[["pair", "axis"],[.ref p,.int a],0|53]];let h1:=fU (vals:=z.1) a0 a1;let h2:=fU (vals:=z.2) a0 (by rw[hl];exact a1);unfold ic at k;ac_rfl
abbrev tW  (p:Z) (q:Z) (H:Hp) (Q:VK) (E:XK):Prop:=∃ (z:G B × G B) (os:%[|48]) (n:à),PrV H z (.ref p)/\z.1.length=n/\z.2.length=n/\n<=8/\bh n H q os/\∀ H',Ext H H'->Q (.bl (crB os z.1 z.2)) H'
def uT  : Sp:=λ vs H Q E=>∃ (p:Z) (q:Z),vs=[.ref p,.ref q]/\(tW  p q H Q E)
theorem ER  (p:Z) (q:Z) (H:Hp) (Q:VK) (E:XK):uT  [.ref p,.ref q] H Q E=(tW  p q H Q E):=gv (f:=λ (p:Z) (q:Z)=>[.ref p,.ref q]) %[4,2|63] p q
theorem iL(T:Tx K mg t):%[2,zw|49] ["pair", "order"] uT:=by
 intros ZH wM;refine %[zw,gm,2|70]
 ·let(p,q,rfl,z,os,n,pz,l1,l2,n8,((us,hu,al),b0,aS),k):=h;refine{_,%[%[VX,%[1|20],(%[(2),%[%[2,gm|5],%[%[3,gm|5],(@aO _)|18]|18]|29].mono λ _ _ _ _ h=>cp h),%[%[%[(bM hr.units),%[ZH,%[0,%[2|1]|1]|3],99,(ar _)|13],%[%[%[nZ,%[eN,%[ZH,%[0,%[2|1]|1]|3],3|11],99,(ar _)|41]|12]|10],(@au _)|14]|10]|24],%[%[(@gy _ _ _ _)|12]|10]|9],?_};rw[%[["pair", "order", "axis", "way"],[.ref p,.ref q],2|53]];clear G_ZH;exists k;exists aS;ac_rfl;refine dj (xs:=us) (λ i σ H'=>∃ v2 v3:Ü V,σ=[%[p|45],%[q|45],v2,v3]/\Ext H H'/\crB (os.drop i) z.1 z.2=crB os z.1 z.2) ⟨L,L,J,Ext.refl _,J⟩ (λ i σ H' _ ⟨_,_,_,e,_⟩=>e.at hu) ?_ ?_
  ·rintro i y _ H1 hi ⟨v2,v3,rfl,e1,hc⟩;let bt:i<os.length:=by have:=(VB.mp hi).1;rw[al.1,VD] at this;exact this
   obtain⟨o,af⟩:∃ o,os[i]? = U o:={_,VA bt};let(w',rfl,hw):=al.2 i [o.1,o.2] y (by rw[VS,af];rfl) hi;let hb:=aS () o (V8 af)
   let a3:os.drop i=o::os.drop (i+1):=by
    let(h,e):=VB.mp af;rw[Yv h,e]
   let a4:=e1.at hw;let aX:=pz.ext e1;let(a,b):=o;let a5:0<=a:=hb.1.1;let a6:a<(z.1.length:B):=by rw[l1];exact hb.1.2
   let a7:z.2.length=z.1.length:=by omega
   let bS:H1 w'=U (.tup [.int a,.int b]):=a4;rw[a3] at hc;let hz:=λ (h:ic z.1 z.2 a.toNat=0)=>(Ii (o:=(a,b)) (os:=os.drop (i+1)) (x:=z.1) (y:=z.2) h).symm.trans hc;let hs:=λ (h:¬ ic z.1 z.2 a.toNat=0)=>(Ij (o:=(a,b)) (os:=os.drop (i+1)) (x:=z.1) (y:=z.2) h).symm.trans hc;let cb:b=1\/b=-1:=hb.2;let k1:=k () H1 e1;exists hz;exists hs;exists aX;clear hc a3 hw a4 af hi hb k aS;simp! only[↓aA];rw[jY];refine{z,aX (),a5,a6,a7,?_};generalize hg:ic z.1 z.2 a.toNat=g at hz hs;let cm:oG g b:=.inr %[|8]
   by_cases h0:g=0
   ·let a8:=hz () h0;exists a8;clear hz hs hg;ac_rfl;exact{_,_,J,e1,a8 ()}
   ·let a9:=hs () h0;rw[←a9] at k1;exists k1;exists hg;clear hz hs a9;ac_rfl;rw[jY];refine{z,aX (),a5,a6,a7,?_};rw[hg ()];let k2:Q (.bl (decide (0<g * b))) H1:=k1 ();clear k1;ac_rfl
  ·rintro _ H1 ⟨v2,v3,rfl,e1,hc⟩;let bB:us.length=os.length:=by rw[al.1,VD]
   rw[bB,List.drop_length] at hc;let k1:=k () H1 e1;rw[←hc] at k1;let k2:Q (.bl Á) H1:=k1;clear k k1 hc;ac_rfl
def me(C:Z):Sp:=λ vs H Q E=>∃ (u:Z) (v:Z) (q:Z),vs=[.ref u,.ref v,.ref q]/\(∃ (room f1 f2:B) (A xL:%[|48]) (ms:G B) (os:%[|48]),ak C H u room f1 A/\ak C H v room f2 xL/\bY A/\bY xL/\(A.map λ a=>a.1)=ms/\(xL.map λ a=>a.1)=ms/\ae ms<=60/\(ah f1 A).Nodup/\bh ms.length H q os/\(os.map λ o=>o.1).Nodup/\∀ (b:Ý) (H':Hp),Ext H H'->Q (.bl b) H')
theorem EO(C:Z)(u:Z)(v:Z)(q:Z)(H:Hp)(Q:VK)(E:XK):me C [.ref u,.ref v,.ref q] H Q E=(∃ (room f1 f2:B) (A xL:%[|48]) (ms:G B) (os:%[|48]),ak C H u room f1 A/\ak C H v room f2 xL/\bY A/\bY xL/\(A.map λ a=>a.1)=ms/\(xL.map λ a=>a.1)=ms/\ae ms<=60/\(ah f1 A).Nodup/\bh ms.length H q os/\(os.map λ o=>o.1).Nodup/\∀ (b:Ý) (H':Hp),Ext H H'->Q (.bl b) H'):=wC (f:=λ (u:Z) (v:Z) (q:Z)=>[.ref u,.ref v,.ref q]) %[6,3|63] u v q
theorem Gs(T:Tx K mg t):%[8,MJ|49] %[|115] (me t.a_MN):=by
 intros zh hV sP bK zk hZ zB aL zv dw zw iL;refine %[MJ,Cb,3|70]
 ·let(u,v,q,rfl,room,f1,f2,A,xL,ms,os,vu,vv,hA,hB,m1,m2,ck,a5,lo,a6,k):=h;let(dx,D,hu,_):=vu.ob;let c1:=T.qA0;let g1:=vn room f1 D (m := "sizes") nofun;refine{_,%[%[%[zh,%[0,%[1|1]|1]|3]|19],%[%[%[sP,%[0,%[1|1]|1]|3]|19],%[%[%[zk,%[%[%[0|0],qA0,qA1,zB,aZ|61],%[2|1]|1]|3]|19],%[%[%[all,gP,%[%[(%[|125]),(1),(aD (aa mh) %[|115] J J nofun),%[%[zv,%[0,%[1|1]|1]|3]|20],%[%[(0),%[|125]|51]|72],%[(@aI _)|72],%[%[zw,%[0,%[3|1]|1]|3]|72]|25]|1]|6]|12]|10]|9]|9]|9],?_};rw[%[%[|115],[.ref u,.ref v,.ref q],0|53]];clear G_zh G_sP G_zk G_zB G_zv G_zw;let h8:ms.length<=8:=by rw[←m1,VD];exact hA.1
  let n2:=aM f2 xL λ b hb=>(hB.2 b hb).1;rw[m2] at n2;exists m1;exists m2;exists a5;exists a6;exists k;ac_rfl;rw[tu];refine{room,f1,f2,A,xL,vu,vv,?_};ac_rfl;rw[ky];refine{room,room,f1,f2,A,xL,vu,vv,hA.1,by rw[m1 (),m2 ()],λ H1 e1=>?_};let bB:=e1.at hu;ac_rfl;rw[aR];refine{room,f1,A,vu.ext e1,hA.1,λ r2 H2 bS e2 h2=>?_};rw[m1 ()] at h2;let aX:=e1.trans e2;let a7:=lo.ext aX;clear bS bB e1 e2;ac_rfl;rw[xO];refine{ms,os,h2,h8,a7,a6 (),λ H3 e3=>?_};let af:=aX.trans e3;clear e3 aX a7 h2;ac_rfl;rw[jL];refine{room,f1,f2,A,xL,vu.ext af,vv.ext af,hA,hB,by rw[m1 (),m2 ()],by rw[m1 ()];omega,a5 (),λ l r ys zs H4 e4 b0 b1 a3 b2 aS=>?_};rw[m1 ()] at a3;let a8:=uY a3 aS;let a9:=af.trans e4;let b3:=lo.ext a9;let b6:=iw (ah f1 A) (ah f2 xL) (ah f2 xL).length;let a4:∀ z∈(dC (ah f1 A) (ah f2 xL) (ah f2 xL).length).map (E1 ms),z.1.length=ms.length/\z.2.length=ms.length:=PrV.len;let b7:((dC (ah f1 A) (ah f2 xL) (ah f2 xL).length).map (E1 ms)).length<=60:=by rw[VD];omega
  generalize (dC (ah f1 A) (ah f2 xL) (ah f2 xL).length).map (E1 ms)=zn at a8 a4 b7;exists a4;let wk:=fR (K:=K) (R:=λ z x H'=>PrV H' z x) (λ _ _ _ _ h e=>PrV.ext h e) b2 a8;clear b0 b1 a3 aS af e4 b6;ac_rfl;refine bc zn (λ _=>Y) (λ z=>.bl (crB os z.1 z.2)) (λ z x H'=>PrV H' z x) wk.1 wk.2 (ao %[|8]) ?_ ?_
  ·intro D z y H' N1 N0 hz hD e hy k1 _;let b8:=hy;let(y',_,_,rfl,_):=b8;let cf:=k1 rfl;let cg:=b3.ext e;let bt:=a4 () z hz;clear k1 k wk hz;simp! only[↓aH,↓aK];rw[ER];exact{(z),os,ms.length,hy,bt.1,bt.2,h8,cg,cf}
  ·intro D H5 hD e5 h5;rw[jl] at h5;let cm:H5 D=U (.lst ((zn.map λ z=>crB os z.1 z.2).map V.bl)):=by rw[h5,WC];rfl
   let k':=k () ((zn.map λ z=>crB os z.1 z.2).all id) H5 (a9.trans e5);clear k h5 wk;ac_rfl
def JF(n:à)(zn:G PP):Prop:=∀ z∈zn,z.1.length=n/\z.2.length=n
def OG(n:à)(zC:G PP)(H:Hp)(x:V):Prop:=x=.non\/∃ (a:à) (w:B) (q:Z),x=.ref q/\H q=U (.tup [.int (a:B),.int w])/\a<n/\∃ z∈zC,¬ ic z.1 z.2 a=0
theorem Jt{zn:G PP}{M:B}(h:M∈Kj zn i)(h0:¬ M=0):∃ z∈zn,¬ ic z.1 z.2 i=0:=by
 let(z,hz,rfl):=VT.mp h;exact{(z),hz,h0}
abbrev yb  (l:Z) (n:B) (H:Hp) (Q:VK) (E:XK):Prop:=∃ (zn:G PP) (zs:G V) (m:à),n=(m:B)/\m<=8/\H l=U (.lst zs)/\Al (PrV H) zn zs/\zn.length<=60/\JF m zn/\∀ (x:V) (H':Hp),Ext H H'->OG m zn H' x->Q x H'
def AI  : Sp:=λ vs H Q E=>∃ (l:Z) (n:B),vs=[.ref l,.int n]/\(yb  l n H Q E)
theorem xP  (l:Z) (n:B) (H:Hp) (Q:VK) (E:XK):AI  [.ref l,.int n] H Q E=(yb  l n H Q E):=gv (f:=λ (l:Z) (n:B)=>[.ref l,.int n]) %[4,2|63] l n
theorem nO(T:Tx K mg t):%[2,zp|49] ["pairs", "many"] AI:=by
 intros ZH wM;refine %[zp,cx,2|70]
 ·let(l,_,rfl,zn,zs,m,rfl,m8,hl,al,bS,a5,kk):=h;refine{_,%[%[VX,%[T.z_range,%[1|1]|34],%[(2),_,cx.nd,J,(Or.inr J),%[|7]|17],%[%[(%[|132]),(1),(3),_,cx.nd,(Or.inl J),(aD (aa dv) ["pairs", "many", "axis", "gaps", "low", "high"] J J nofun),%[0|20],%[%[(0),%[|132]|51]|72],%[(@aI _)|72],%[%[ZH,%[0,%[3|1]|1]|3]|72]|66],%[%[4,cx,(@sJ _ ("min") _ _ _ _ _ _ _ _ _ _ (xN Á J) ∅ T.z_min nofun %[3|1] (@Bw _ _ _ _ _ _ _ %[|2] (@Je _)) ⋯ ⋯ ∅ ∅ ∅ ∅ ∅)|4],%[%[5,cx,(@sJ _ ("max") _ _ _ _ _ _ _ _ _ _ (xN Y J) ∅ T.z_max nofun %[3|1] (@Bw _ _ _ _ _ _ _ %[|2] (@Je _)) ⋯ ⋯ ∅ ∅ ∅ ∅ ∅)|4],%[%[(PW.pt %[%[Og,4,99,(ar _)|13],(@fS _ _ _ _ %[nZ,5,99,(ar _)|13])|38]),%[%[%[%[2,%[99|1]|1]|21]|12]|10],(@au _)|14],%[%[(PW.pt %[%[Am,5,99,(ar _)|13],(@fS _ _ _ _ %[yl,4,99,(ar _)|13])|38]),%[%[%[%[2,%[%[99|44]|1]|1]|21]|12]|10],(@au _)|14]|10]|9]|9]|9]|9]|24],%[%[(@js _ _ _)|12]|10]|9],?_};rw[%[["pairs", "many", "axis", "gaps", "low", "high"],[.ref l,.int (m:B)],4|53]];clear G_ZH;exists kk;exists a5;ac_rfl;refine{by omega,by omega,?_};refine qf (λ i σ H'=>∃ v2 v3 v4 v5:Ü V,σ=[%[l|45],U (.int (m:B)),v2,v3,v4,v5]/\Ext H H') {L,L,L,L,J,Ext.refl _} ?_ ?_
  ·rintro i _ H1 hi ⟨v2,v3,v4,v5,rfl,e1⟩;let a6:i<m:=by have:i<((m:B)).toNat:=hi;omega
   let a7:=e1.at hl;let a8:=al.imp λ _ _ t=>PrV.ext t e1;let wk:=fR (K:=K) (R:=λ z x H'=>PrV H' z x) (λ _ _ _ _ h e=>PrV.ext h e) a7 a8;clear hi a8;simp! only[↓aA];refine bc zn (λ _=>Y) (λ z=>.int (ic z.1 z.2 i)) (λ z x H'=>PrV H' z x) wk.1 wk.2 (ao %[|8]) ?_ ?_
   ·intro D z y H' N1 N0 hz hD e hy k1 _;let a9:=hy;let(y',_,_,rfl,_):=a9;let bt:=k1 rfl H' (Ext.refl _);let b0:=a5 () z hz;clear k1 kk wk hz;simp! only[↓aH,↓aK];rw[jY];refine{z,hy,by omega,by omega,by omega,?_};rw[Ww,VW];exact bt
   ·intro D H2 hD e2 h2;rw[jl] at h2;let a4:H2 D=U (.lst ((Kj zn i).map V.int)):=by rw[h2];unfold Kj;rw[map_map];rfl
    clear h2 wk hD a7;ac_rfl;intro lo aS;ac_rfl;intro af aX;let a3:=e1.trans e2
    by_cases ha:0<=lo/\0<af
    ·let hh:∃ z∈zn,¬ ic z.1 z.2 i=0:=aX.elim (λ h=>Þ h.2 %[|8]) λ h=>Jt h %[|8];let(b1,b2):=ha;exists hh;clear aS aX a4;ac_rfl;intro r H3 bB e3 h3;rw[Ww] at h3;exact kk () (.ref r) H3 (a3.trans e3) (.inr {i,_,r,J,h3,a6,hh ()})
    ·by_cases hb:af<=0/\lo<0
     ·let hh:∃ z∈zn,¬ ic z.1 z.2 i=0:=aS.elim (λ h=>Þ h.2 %[|8]) λ h=>Jt h %[|8];let(b3,b6):=hb;let b7:¬ 0<=lo:=by omega
      exists hh;clear aS aX a4 ha;ac_rfl;intro r H3 bB e3 h3;rw[Ww] at h3;exact kk () (.ref r) H3 (a3.trans e3) (.inr {i,_,r,J,h3,a6,hh ()})
     ·clear aS aX kk a4
      by_cases q1:0<=lo
      ·let q2:¬ 0<af:=λ h=>ha {(q1),h};let q3:¬ lo<0:=by omega
       let q4:af<=0:=by omega
       clear ha hb;ac_rfl;exact{_,_,_,_,J,a3}
      ·let q3:lo<0:=by omega
       let q4:¬ af<=0:=λ h=>hb {(h),q3};clear ha hb;ac_rfl;exact{_,_,_,_,J,a3}
  ·rintro _ H1 ⟨v2,v3,v4,v5,rfl,e1⟩;let k':=kk () .non H1 e1 (.inl J);clear kk;ac_rfl
theorem wU{R:α->V->Prop}{zs ws:G α}(h:Al R zs ys)(h':Al R ws us):Al R (zs++ws) (ys++us):=by
 refine{by rw[VN,VN,h.1,h'.1],λ i z y hz hy=>?_}
 by_cases hi:i<zs.length
 ·rw[Wq hi] at hz;rw[Wq (by rw[h.1];exact hi)] at hy;exact h.2 i z y hz hy
 ·rw[Wj %[|8]] at hz;rw[Wj (by rw[h.1];omega),h.1] at hy;exact h'.2 _ z y hz hy
theorem Bv(a b:PP):PyData.eqv (prD a) (prD b)=decide (a=b):=by
 unfold prD;rw[fN,dq,dq,fP,xG,xG,Bool.and_true];let(a1,a2):=a;let(b1,b2):=b
 by_cases h1:a1=b1
 ·by_cases h2:a2=b2
  ·simp[h1,h2]
  ·simp[h1,h2]
 ·simp[h1]
theorem KO(zB:G PP)(z:PP):((zB.map prD).any λ y=>PyData.eqv y (prD z))=decide (z∈zB):=by
 rw[List.any_map];apply WX.mpr;rw[YG,Yy];constructor
 ·rintro ⟨y,hy,e⟩;let e':PyData.eqv (prD y) (prD z)=Y:=e;rw[Bv] at e';rw[←X9 e'];exact hy
 ·intro h;exact{z,h,by show PyData.eqv (prD z) (prD z)=Y;rw[Bv];exact Wk J}
theorem Q0{f:V->Ü PyData}{z:PP}(h:PrV H z y):dR H (dR H (dR H f)) y=U (prD z):=by
 let(q,u,v,rfl,hq,hu,hv):=h;rw[eh,hq]
 show Ah (dR H (dR H f)) (.tup [.ref u,.ref v])=_
 rw[ef]
 show (aV [dR H (dR H f) (.ref u),dR H (dR H f) (.ref v)]).map PyData.tuple=_
 rw[qh hu,qh hv];rfl
theorem HI(a:B)(xs:G B):inV (.int a) (xs.map V.int)=decide (a∈xs):=by
 unfold inV;rw[List.any_map];apply Bool.eq_iff_iff.mpr;rw[List.any_eq_true,decide_eq_true_eq];constructor
 ·rintro ⟨y,hy,e⟩;let e':eqV (.int y) (.int a)=Y:=e;have:y=a:=by simpa [eqV] using e'
  rw[←this];exact hy
 ·intro h;exact{a,h,by show eqV (.int a) (.int a)=Y;simp[eqV]}
def upB(a:à)(z:PP):Ý:=decide (0<ic z.1 z.2 a)
def Kk(a:à)(z:PP):Ý:=decide (ic z.1 z.2 a<0)
theorem Cj{R:α->V->Prop}{zs:G α}(h:Al R zs ys)(n:à):Al R (zs.take n) (ys.take n):=by
 refine{by rw[Wi,Wi,h.1],λ i z y hz hy=>?_};rw[List.getElem?_take] at hz hy;split at hz
 ·rename_i hi;rw[V7 hi] at hy;exact h.2 i z y hz hy
 ·cases hz
abbrev nL  (l:Z) (n:B) (H:Hp) (Q:VK) (E:XK):Prop:=∃ (zn:G PP) (zs:G V) (m:à),n=(m:B)/\m<=8/\H l=U (.lst zs)/\Al (PrV H) zn zs/\zn.length<=60/\JF m zn/\∀ (r:Z) (H':Hp),Ext H H'->Q (.ref r) H'
def mJ  : Sp:=λ vs H Q E=>∃ (l:Z) (n:B),vs=[.ref l,.int n]/\(nL  l n H Q E)
theorem wt  (l:Z) (n:B) (H:Hp) (Q:VK) (E:XK):mJ  [.ref l,.int n] H Q E=(nL  l n H Q E):=gv (f:=λ (l:Z) (n:B)=>[.ref l,.int n]) %[4,2|63] l n
theorem lx(T:Tx K mg t):%[2,zb|49] ["pairs", "many"] mJ:=by
 intros ZH wM;refine %[zb,bq,2|70]
 ·let(l,_,rfl,zn,zs,m,rfl,m8,hl,al,d3,b6,kk):=h;refine{_,%[%[2,bq,%[(@cZ _)|16]|4],%[%[VX,%[T.z_range,%[1|1]|34],%[(3),_,bq.nd,J,(Or.inr J),%[|7]|17],%[%[(%[|108]),(1),(4),_,bq.nd,(Or.inl J),(aD (aa bV) %[|117] J J nofun),%[0|20],%[%[(0),%[|108]|51]|72],%[(@p7 _ _ _ %[nZ,%[ZH,%[0,%[4|1]|1]|3],99,(ar _)|13])|72],%[%[0|0]|72]|66],%[%[(%[|108]),(1),(5),_,bq.nd,(Or.inl J),(aD (aa bV) %[|117] J J nofun),%[0|20],%[%[(0),%[|108]|51]|72],%[(@p7 _ _ _ %[yl,%[ZH,%[0,%[4|1]|1]|3],99,(ar _)|13])|72],%[%[0|0]|72]|66],%[%[VX,%[%[bb,%[4,(@dg _),%[99|37]|36],%[5,(@dg _),%[99|37]|36]|11]|20],%[6,bq|5],%[%[%[(CO hr.units),6,2,(by with_unfolding_all rfl)|13],%[%[%[Wa,Wy,Wx,cP,2,%[6|1]|40]|19]|10],(@au _)|14]|10]|24]|10]|9]|9]|24],%[%[2|12]|10]|9]|9],?_};rw[%[%[|117],[.ref l,.int (m:B)],5|53]];clear G_ZH;exists kk;exists b6;ac_rfl;intro r H1 c5 e1 h1;ac_rfl;refine{by omega,by omega,?_};refine qf (λ i σ H'=>∃ (zB:G PP) (ys:G V) (v3 v4 v5 v6:Ü V),σ=[%[l|45],U (.int (m:B)),%[r|45],v3,v4,v5,v6]/\Ext H H'/\H' r=U (.lst ys)/\Al (PrV H') zB ys/\zB.length<=2 * i) {[],[],L,L,L,L,J,e1,h1,Al.nil,VF _} ?_ ?_
  ·rintro i _ H2 hi ⟨zB,ys,v3,v4,v5,v6,rfl,e2,h2,a8,cm⟩;let d4:i<m:=by have:i<((m:B)).toNat:=hi;omega
   let b7:=e2.at hl;let cv:=al.imp λ _ _ t=>PrV.ext t e2;let wk:=fR (K:=K) (R:=λ z x H'=>PrV H' z x) (λ _ _ _ _ h e=>PrV.ext h e) b7 cv;exists a8;clear hi;simp! only[↓aA];refine jI zn (upB i) (λ z x H'=>PrV H' z x) (λ D z y H'=>PrV H' z y) wk.1 wk.2 (λ D _ y H1 H2 h e=>h.ext e) (λ D _ y H1 xs o h hD=>h.upd hD) (ao %[|8]) ?_ ?_
   ·intro D z y H' N1 N0 hz hD e _ hy k1 k0;let b8:=hy;let(y',_,_,rfl,_):=b8;let af:=λ h=>k1 h (.ref y') H' (Ext.refl _) hy;let aS:=λ h=>k0 h H' (Ext.refl _);let c6:=b6 () z hz;unfold upB at af aS;exists af;exists aS;clear k1 k0 kk wk hz;simp! only[↓aH,↓aK];rw[jY];refine{z,hy,by omega,by omega,by omega,?_};rw[Int.zero_add,Int.toNat_natCast];generalize ic z.1 z.2 i=g at af aS
    by_cases hg:0<g
    ·let k2:=af () (Wk hg);clear af aS;ac_rfl
    ·let k2:=aS () (Wl hg);clear af aS;ac_rfl
   intro D1 a6 H3 c7 e3 h3 cz;let cN:=e3.at b7;let b0:=cv.imp λ _ _ t=>PrV.ext t e3;let bt:=fR (K:=K) (R:=λ z x H'=>PrV H' z x) (λ _ _ _ _ h e=>PrV.ext h e) cN b0;clear wk c7 b7;ac_rfl;refine jI zn (Kk i) (λ z x H'=>PrV H' z x) (λ D z y H'=>PrV H' z y) bt.1 bt.2 (λ D _ y H1 H2 h e=>h.ext e) (λ D _ y H1 xs o h hD=>h.upd hD) (ao %[|8]) ?_ ?_
   ·intro D z y H' N1 N0 hz hD e _ hy k1 k0;let b8:=hy;let(y',_,_,rfl,_):=b8;let af:=λ h=>k1 h (.ref y') H' (Ext.refl _) hy;let aS:=λ h=>k0 h H' (Ext.refl _);let c6:=b6 () z hz;unfold Kk at af aS;exists af;exists aS;clear k1 k0 kk bt hz;simp! only[↓aH,↓aK];rw[jY];refine{z,hy,by omega,by omega,by omega,?_};rw[Int.zero_add,Int.toNat_natCast];generalize ic z.1 z.2 i=g at af aS
    by_cases hg:g<0
    ·let k2:=af () (Wk hg);clear af aS;ac_rfl
    ·let k2:=aS () (Wl hg);clear af aS;ac_rfl
   intro D2 a7 H4 c8 e4 h4 cO;let cT:=e4.at h3;let cf:=e3.trans e4;let b1:=cz.imp λ _ _ t=>PrV.ext t e4;let aX:=wU (Cj b1 1) (Cj cO 1);exists aX;clear bt c8 cN cz cO b1 b0 h3;let c9:uD a6 L (U 1)=a6.take 1:=Bb a6 1 ⋯;let de:uD a7 L (U 1)=a7.take 1:=Bb a7 1 ⋯;ac_rfl;intro t1 H5 dh e5 h5;let cV:=e5.at h4;clear dh h4 cT c9;ac_rfl;intro t2 H6 dk e6 h6;let c0:=e6.at h5;let c1:(a6.take 1).length+(a7.take 1).length<=Å:=ao (by rw[Wi,Wi];omega);clear dk cV h5 de;ac_rfl;intro t3 H7 cg e7 h7;let ck:=e5.trans (e6.trans e7);let bB:=cf.trans ck;let bS:=(aX ()).imp λ _ _ t=>PrV.ext t ck;let dr:(a6.take 1++a7.take 1).length<=2:=by rw[VN,Wi,Wi];omega
   let nt:t3≠r:=λ z=>by rw[z,(cf.trans (e5.trans e6)).at h2] at cg;cases cg
   let b2:=bB.at h2;let b3:=(a8 ()).imp λ _ _ t=>PrV.ext t bB;let dy:=e2.trans bB;generalize (zn.filter (upB i)).take 1++(zn.filter (Kk i)).take 1=XX at bS;generalize a6.take 1++a7.take 1=xs at h7 bS dr;clear cg h6 c0 c1 aX e5 e6 e7 ck cf bB a8;ac_rfl;refine dj (xs:=xs) (λ j σ H'=>∃ (Y':G PP) (a4:G V) (v6:Ü V),σ=[%[l|45],U (.int (m:B)),%[r|45],U (.int (0+(i:B))),%[D1|45],%[D2|45],v6]/\Ext H H'/\H' t3=U (.lst xs)/\H' r=U (.lst a4)/\Al (PrV H') Y' a4/\Y'.length<=2 * i+j/\Al (PrV H') XX xs) ⟨zB,ys,_,J,dy,h7,b2,b3,cm,bS⟩ (λ j σ H' _ ⟨_,_,_,_,_,h,_⟩=>h) ?_ ?_
   ·rintro j y _ H8 hj ⟨Y',a4,dN,rfl,e8,c2,a9,a3,c3,a5⟩;let d1:j<XX.length:=by have:=(VB.mp hj).1;rw[a5.1] at this;exact this
    obtain⟨z,hz⟩:∃ z,XX[j]? = U z:={_,VA d1};let pz:=a5.2 j z y hz hj;let d5:j<2:=by have:=a5.1;omega
    let dp:jm H8 6 y=U (prD z):=Q0 (f:=dR H8 (dR H8 (dR H8 noD))) pz;let d0:aV (a4.map (jm H8 5))=U (Y'.map prD):=Bu (f:=dR H8 (dR H8 noD)) a3
    let dl:jm H8 6 (.ref r)=U (.list (Y'.map prD)):=by
     rw[o9,a9]
     show Ah (jm H8 5) (.lst a4)=_
     rw[ko,d0];rfl
    let d2:a4.length<=20:=by rw[a3.1];omega
    exists dp;exists dl;exists a3;exists a5;exists pz;clear d0 hj hz kk;simp! only[↓aA];refine{_,_,dp (),dl (),?_};rw[V7 J,KO]
    by_cases hm:z∈Y'
    ·rw[Wk hm];clear hm;ac_rfl;exact{Y',a4,_,J,e8,J,a3 (),by omega,a5 ()}
    ·rw[Wl hm];let d6:a4.length<Å:=kP %[|8];clear hm;ac_rfl;exact{Y'++[z],a4++[y],_,J,e8.put c5,by rw[ag nt];exact c2,J,vd ((a3 ()).imp λ _ _ t=>PrV.upd t a9) (PrV.upd (pz ()) a9),by rw[VN,WD];omega,(a5 ()).imp λ _ _ t=>PrV.upd t a9}
   ·rintro _ H8 ⟨Y',a4,dN,rfl,e8,c2,a9,a3,c3,a5⟩;let c4:Y'.length<=2 * (i+1):=by omega
    exists a3;clear a5 b3 bS h7 b2;ac_rfl;exact{Y',a4,_,_,_,_,J,e8,J,a3 (),c4}
  ·rintro _ H2 ⟨zB,ys,v3,v4,v5,v6,rfl,e2,h2,a8,cm⟩;let k':=kk () r H2 e2;clear kk a8;ac_rfl
theorem JF.filter{zn:G PP}{p:PP->Ý}(h:JF n zn):JF n (zn.filter p):=λ z hz=>h z (ZD.mp hz).1
def LoW(n:à)(zC:G PP)(os:%[|48]):Prop:=JF n zC/\os.length+zC.length<=60
theorem LoW.step{a:à}{zC:G PP}(h:LoW n zC os)(hz:∃ z∈zC,¬ ic z.1 z.2 a=0):LoW n (zC.filter λ z=>decide (ic z.1 z.2 a=0)) (os++[((a:B),wq)])/\(zC.filter λ z=>decide (ic z.1 z.2 a=0)).length<zC.length:=by
 let af:(zC.filter λ z=>decide (ic z.1 z.2 a=0)).length<zC.length:=by
  let(z,h1,h2):=hz;exact List.length_filter_lt_length_iff_exists.mpr {z,h1,by simpa using h2}
 exact⟨⟨h.1.filter,by rw[VN];have:=h.2;show os.length+1+_<=60;omega⟩,af⟩
def md(C:Z):Sp:=λ vs H Q E=>∃ (u:Z) (v:Z),vs=[.ref u,.ref v]/\(∃ (room f1 f2:B) (A xL:%[|48]) (ms:G B),ak C H u room f1 A/\ak C H v room f2 xL/\bY A/\bY xL/\(A.map λ a=>a.1)=ms/\(xL.map λ a=>a.1)=ms/\ae ms<=60/\(ah f1 A).Nodup/\∀ (x:Z) (H':Hp),Ext H H'->Q (.ref x) H')
theorem EL(C:Z)(u:Z)(v:Z)(H:Hp)(Q:VK)(E:XK):md C [.ref u,.ref v] H Q E=(∃ (room f1 f2:B) (A xL:%[|48]) (ms:G B),ak C H u room f1 A/\ak C H v room f2 xL/\bY A/\bY xL/\(A.map λ a=>a.1)=ms/\(xL.map λ a=>a.1)=ms/\ae ms<=60/\(ah f1 A).Nodup/\∀ (x:Z) (H':Hp),Ext H H'->Q (.ref x) H'):=gv (f:=λ (u:Z) (v:Z)=>[.ref u,.ref v]) %[4,2|63] u v
theorem qY(T:Tx K mg t):%[8,DX|49] %[|114] (md t.a_MN):=by
 intros zv dw zp nO ZH wM zb lx;refine %[DX,aY,2|70]
 ·let(u,v,rfl,room,f1,f2,A,xL,ms,vu,vv,hA,hB,m1,m2,eH,c2,kk):=h;let(dx,D,hu,tD):=vu.ob;let(ax,hD,c4):=tD;let eI:ax.length=ms.length:=by rw[c4.1,←m1];unfold axL;rw[length_map,length_map]
  let c1:=T.qA0;let c3:=T.qA3;let g3:=cH room f1 D;refine{_,%[%[2,aY,%[zv,%[0,%[1|1]|1]|3]|4],%[%[3,aY,%[len,aB,%[%[0|22]|1]|6]|4],%[%[4,aY,%[(@cZ _)|16]|4],%[(@gH _ _ (5) _ _ _ _ aY.nd J (Or.inr J) %[zp,%[2,%[3|1]|1]|3] ∅ %[|7]),%[(@xl _ _ _ _ _ _ VX %[qG,5,(@js _ _ _),(ar _)|13] %[%[%[Wa,Wy,Wx,cP,4,%[5|1]|40]|19],%[%[(%[|127]),(1),(2),_,aY.nd,(Or.inl J),(aD (aa cI) %[|107] J J nofun),%[2|20],%[%[(0),%[|127]|51]|72],%[(@p7 _ _ _ %[(br hr.units),%[ZH,%[0,%[%[6,99|15]|1]|1]|3],99,(ar _)|13])|72],%[%[0|0]|72]|66],%[(@gH _ _ (5) _ _ _ _ aY.nd J (Or.inr J) %[zp,%[2,%[3|1]|1]|3] ∅ %[|7])|10]|9]|9]),%[%[%[nZ,%[len,aB,%[2|1]|6],99,(ar _)|13],%[%[%[%[(@bL _ _ _ _),%[%[zb,%[2,%[3|1]|1]|3]|1]|1]|21]|12]|10],(@au _)|14],%[(@gH _ _ (6) _ _ _ _ aY.nd J (Or.inr J) %[(%[|112]),(2),(aD (aa cI) %[|107] J J nofun),%[4|20],%[(%[(2),%[%[(0),%[|112]|51],%[%[(1),%[|112]|51],(@aO _)|18]|18]|29].mono λ _ _ _ _ h=>cp h)|72],%[(@aI _)|72],%[%[0|0]|72]|25] ∅ %[|7]),%[%[%[%[(@bL _ _ _ _),%[%[bb,4,%[(%[|128]),(1),(aD (aa cI) %[|107] J J nofun),%[T.z_range,%[3|1]|34],%[%[(0),%[|128]|51]|72],%[(@p7 _ _ _ %[CP,0,7,(by with_unfolding_all rfl)|13])|72],%[%[%[0,%[99|1]|1]|21]|72]|25]|11]|1]|1]|21]|12]|10]|9]|9]|9]|9]|9]|9]|9],?_};rw[%[%[|107],[.ref u,.ref v],5|53]];clear G_zv G_zp G_ZH G_zb c4;let h8:ms.length<=8:=by rw[←m1,VD];exact hA.1
  let n2:=aM f2 xL λ b hb=>(hB.2 b hb).1;rw[m2] at n2;exists m1;exists m2;exists c2;exists kk;ac_rfl;rw[jL];refine{room,f1,f2,A,xL,vu,vv,hA,hB,by rw[m1 (),m2 ()],by rw[m1 ()];omega,c2 (),λ l r ys zs H1 e1 d8 d9 cg bS b6=>?_};rw[m1 ()] at cg;let b0:=uY cg b6;let ea:=iw (ah f1 A) (ah f2 xL) (ah f2 xL).length;let a6:JF ms.length ((dC (ah f1 A) (ah f2 xL) (ah f2 xL).length).map (E1 ms)):=PrV.len;let ck:((dC (ah f1 A) (ah f2 xL) (ah f2 xL).length).map (E1 ms)).length<=60:=by rw[VD];omega
  generalize (dC (ah f1 A) (ah f2 xL) (ah f2 xL).length).map (E1 ms)=zn at b0 a6 ck;let eb:=e1.at hu;let ec:=e1.at hD;let eD:(ax.length:B)=(ms.length:B):=by omega
  exists a6;exists b0;clear d9 cg b6 ea d8;ac_rfl;intro od H2 cm e2 h2;let c5:=e1.trans e2;let c6:H od=L:=e1.free cm;let ee:r≠od:=λ z=>by rw[z,cm] at bS;cases bS
  let cv:=e2.at bS;let cz:=λ (_:Unit)=>(b0 ()).imp λ _ _ t=>PrV.ext t e2;clear bS b0 eb ec cm e1 e2;ac_rfl;rw[xP];refine{zn,zs,ms.length,J,h8,cv,cz (),ck,a6 (),λ x H3 e3 nx=>?_};let c7:=c5.trans e3;let c8:=e3.at cv;let b7:=e3.at h2;let c9:=(cz ()).imp λ _ _ t=>PrV.ext t e3;let de:LoW ms.length zn []:={a6 (),by show 0+zn.length<=60;omega};clear cv cz h2 c5 e3;ac_rfl;refine Bf (by repeat' first|exact Ol|exact mo_nI0|exact mo_nI|apply xw|apply mo_unN|exact A3|exact Uj|exact mo_rI0|exact mo_rI|exact mo_rIsN|exact xv|exact Jl|exact mo_qIx|exact Jm|exact mo_qLen|exact mo_inD|exact mo_qLenD|apply mo_dget2|apply uZ|apply mo_tB|apply mo_not|apply mo_and|apply mo_or|apply Om|apply mo_un|apply mo_cons|apply BI|apply mo_cb) (λ m σ H'=>∃ (zC:G PP) (os:%[|48]) (lf:Z) (zs us:G V) (x:V),σ=[%[u|45],%[v|45],%[lf|45],U (.int (ms.length:B)),%[od|45],U x,L]/\m=zC.length/\Ext H H'/\H' lf=U (.lst zs)/\Al (PrV H') zC zs/\zC.length<=60/\H' od=U (.lst us)/\Al (bp H') (os.map λ o=>[o.1,o.2]) us/\LoW ms.length zC os/\lf≠od/\OG ms.length zC H' x) _ {zn,[],_,zs,[],x,J,J,c7,c8,c9,ck,b7,{J,λ i z y h=>by cases h},de,ee,nx} ?_;rintro m _ H4 ⟨zC,os,lf,a7,us,x4,rfl,rfl,e4,cN,a8,dh,aX,a3,hI,eg,hN⟩;clear c8 c9 b7 de nx c7;let eO:us.length<=60:=by have:=hI.2;rw[a3.1,VD];omega
  rcases hN with rfl|⟨a,w',q,rfl,hq,eR,hh⟩
  ·let e0:us.length=os.length:=by rw[a3.1,VD]
   exists hI;exists a8;exists a3;let a9:a7.length=zC.length:=(a8 ()).1
   by_cases hLe:zC=[]
   ·subst hLe;let ej:a7=[]:=WH a9;subst ej;let wk:=fR (K:=K) (R:=axP) (λ _ _ _ _ h e=>h.ext e) aX (oS (a3 ()));clear hI a9;ac_rfl;refine bc os (λ _=>Y) (λ o=>.int o.1) (λ z x H'=>axP z x H') wk.1 wk.2 (ao %[|8]) ?_ ?_
    ·intro D z y H' N1 N0 hz hD e ⟨qq,hy,fa⟩ k1 _;subst hy;let aS:N1 (.int z.1) H':=k1 J H' (Ext.refl _);clear k1 kk wk hz;simp! only[↓fq,↓aK]
    ·intro D5 H5 el e5 h5;rw[jl] at h5;let b1:H5 D5=U (.lst ((os.map λ o=>o.1).map V.int)):=by rw[h5,WC];rfl
     let a5:=e5.at aX;let af:=(a3 ()).imp λ _ _ t=>bp.ext t e5;exists af;clear h5 wk el aX a3;ac_rfl;refine{by omega,by omega,?_};rw[VW];refine jI (Ì ms.length) (λ j=>decide (¬ (j:B)∈os.map λ o=>o.1)) (λ j x H'=>x=.int (0+(j:à))) (λ D j y H'=>∃ q,y=.ref q/\H' q=U (.tup [.int (j:B),.int 1])) cF.1 cF.2 (λ D _ y H1 H2 ⟨q,h1,h3⟩ e=>{q,h1,e.at h3}) (λ D _ y H1 xs o ⟨q,h1,h3⟩ hD=>{q,h1,by rw[ag (λ z=>by rw[z,hD] at h3;cases h3)];exact h3}) (ao (by rw[V5];omega)) ?_ ?_
     ·intro D j y H' N1 N0 hj hD e _ hy k1 k0;subst hy;let dk:=e.at b1;let b2:=HI (j:B) (os.map λ o=>o.1);let fb:jo (.int (j:B))=Y:=rfl;let dr:(((os.map λ o=>o.1).map V.int).all jo)=Y:=by rw[List.all_map];exact W4.mpr λ _ _=>J
      let aS:=k1;let a4:=k0
      by_cases hm:(j:B)∈os.map λ o=>o.1
      ·rw[Wk hm] at b2;let k2:=k0 (Wl (λ z=>z hm)) H' (Ext.refl _);clear k1 k0 aS a4 kk hj hm b1;generalize (os.map λ o=>o.1).map V.int=xs at dk b2 dr;rw[Ww];simp! only[↓aH,↓aK]
      ·rw[Wl hm] at b2;let k2:=k1 (Wk hm);clear k1 k0 aS a4 kk hj hm b1;generalize (os.map λ o=>o.1).map V.int=xs at dk b2 dr;rw[Ww];simp! only[↓aH,↓aK];intro t1 H9 fo e9 h9;exact k2 _ H9 e9 {(t1),J,h9}
     intro D7 dy H7 en e7 h7 dN;let eo:=e7.at a5
     let d0:us.length+dy.length<=5000:=by
      have:dy.length<=ms.length:=by rw[dN.1];have:=YO (λ j:à=>decide (¬ (j:B)∈os.map λ o=>o.1)) (Ì ms.length);rw[V5] at this;exact this
      omega
     clear dN en b1 a5;ac_rfl;refine{ao %[|8],?_};intro r8 H8 ep e8 fu;let et:=e7.trans e8;clear ep d0 eo h7;ac_rfl;intro x9 H9 fx e9 h9;exact kk () x9 H9 (e4.trans (e5.trans (et.trans e9)))
   ·let cO:(0:B)<(a7.length:B):=by
     have:zC.length≠0:=λ e=>hLe (WH e);omega
    let d7:(0:B)<(zC.length:B):=by rw[←a9];exact cO
    clear a9;ac_rfl;rw[wt];refine{zC,a7,ms.length,J,h8,cN,a8 (),dh,(hI ()).1,λ r5 H5 e5=>?_};ac_rfl;intro x6 H6 fy e6 h6;exact kk () x6 H6 (e4.trans (e5.trans e6))
  ·let(d1,eu):=hI.step (wq:=w') hh;let ew:q≠od:=λ z=>by rw[z,aX] at hq;cases hq
   let eF:us.length<Å:=kP %[|8];let cT:(upd H4 od (.lst (us++[.ref q]))) q=U (.tup [.int (a:B),.int w']):=by rw[ag ew];exact hq
   let bt:(upd H4 od (.lst (us++[.ref q]))) lf=U (.lst a7):=by rw[ag eg];exact cN
   let a5:(upd H4 od (.lst (us++[.ref q]))) od=U (.lst (us++[.ref q])):=aj;let cV:=a8.imp λ _ _ t=>PrV.upd (o:=.lst (us++[.ref q])) t aX
   let af:Al (bp (upd H4 od (.lst (us++[.ref q])))) ((os++[((a:B),w')]).map λ o=>[o.1,o.2]) (us++[.ref q]):=by
    rw[Ws];exact vd (a3.imp λ _ _ t=>bp.upd t aX) (bp.upd {(q),J,hq} aX)
   let e5:Ext H (upd H4 od (.lst (us++[.ref q]))):=e4.put c6;let bB:=λ (_:Unit)=>hI.1;exists d1;clear hI hh a8 a3;ac_rfl;generalize upd H4 od (.lst (us++[.ref q]))=H5 at cT bt a5 cV af e5 ⊢;let wk:=fR (K:=K) (R:=λ z x H'=>PrV H' z x) (λ _ _ _ _ h e=>PrV.ext h e) bt cV;exists af;clear hq cN aX cV e4;ac_rfl;refine jI zC (λ z=>decide (ic z.1 z.2 a=0)) (λ z x H'=>PrV H' z x) (λ D z y H'=>PrV H' z y) wk.1 wk.2 (λ D _ y H1 H2 h e=>h.ext e) (λ D _ y H1 xs o h hD=>h.upd hD) (ao %[|8]) ?_ ?_
   ·intro D z y H' N1 N0 hz hD e _ hy k1 k0;let ey:=hy;let(y',_,_,rfl,_):=ey;let aS:=λ h=>k1 h (.ref y') H' (Ext.refl _) hy;let a4:=λ h=>k0 h H' (Ext.refl _);let a9:=bB () z hz;let fA:=e.at cT;exists aS;exists a4;clear k1 k0 wk hz;simp! only[↓aH,↓aK];rw[jY];refine{z,hy,by omega,by omega,by omega,?_};rw[VW];generalize ic z.1 z.2 a=g at aS a4
    by_cases hg:g=0
    ·let k2:=aS () (Wk hg);clear aS a4;ac_rfl
    ·let k2:=a4 () (Wl hg);clear aS a4;ac_rfl
   intro D6 d2 H6 c0 e6 h6 b3;let d3:=e6.at a5;let nD:D6≠od:=λ z=>by rw[z,a5] at c0;cases c0
   let b8:=λ (_:Unit)=>(af ()).imp λ _ _ t=>bp.ext t e6;let d4:=e5.trans e6;let d5:(zC.filter λ z=>decide (ic z.1 z.2 a=0)).length<=60:=by omega
   let cf:=λ (_:Unit)=>(bB ()).filter (p:=λ z=>decide (ic z.1 z.2 a=0));exists b3;clear wk c0 bt a5 af bB cT e5;ac_rfl;rw[xP];refine{_,d2,ms.length,J,h8,h6,b3 (),d5,cf (),λ x7 H7 e7 d6=>?_};let q1:=λ (_:Unit)=>e7.at h6;let q2:=λ (_:Unit)=>(b3 ()).imp λ _ _ t=>PrV.ext t e7;let q3:=λ (_:Unit)=>e7.at d3;let q4:=λ (_:Unit)=>(b8 ()).imp λ _ _ t=>bp.ext t e7;let ez:=d4.trans e7;exists d6;clear b8 b3 cf a6 h6 d3 e7 d4 e6;ac_rfl;exact{_,eu,_,_,D6,d2,_,x7,J,J,ez,q1 (),q2 (),d5,q3 (),q4 (),d1 (),nD,d6 ()}
theorem PrV.pk{z:PP}(h:PrV H z (.ref q)):PKV H z q:=by
 let(q',u,v,e,h1,h2,h3):=h;cases e;exact{(u),v,h1,h2,h3}
theorem Gg{z:PP}{d:Z}{φ:Í->Prop}{o:HO}(h:PrV H z y)(hd:H d=U (.ext φ)):PrV (upd H d o) z y:=by
 let(q,u,v,rfl,h1,h2,h3):=h;let(u',v',g1,g2,g3):=PKV.upd (o:=o) (k:=z) (b:=q) {(u),v,h1,h2,h3} hd;exact{(q),u',v',J,g1,g2,g3}
theorem Oq{d:Z}{zn:G PKy}(h:yj P w H d zn):∃ φ,H d=U (.ext φ):=by
 let(xs,h1,_):=h;exact{_,h1}
def rS(C:Z):Sp:=λ vs H Q E=>∃ (u:Z) (v:Z) (x:V),vs=[.ref u,.ref v,x]/\(∃ (room f1 f2:B) (A xL:%[|48]) (ms:G B) (q:Z),x=.ref q/\H q=U (.lst [])/\ak C H u room f1 A/\ak C H v room f2 xL/\bY A/\bY xL/\(A.map λ a=>a.1)=ms/\(xL.map λ a=>a.1)=ms/\ae ms<=60/\(ah f1 A).Nodup/\∀ H',Ext H H'->Q (.bl Á) H')
theorem Iz(C:Z)(u:Z)(v:Z)(x:V)(H:Hp)(Q:VK)(E:XK):rS C [.ref u,.ref v,x] H Q E=(∃ (room f1 f2:B) (A xL:%[|48]) (ms:G B) (q:Z),x=.ref q/\H q=U (.lst [])/\ak C H u room f1 A/\ak C H v room f2 xL/\bY A/\bY xL/\(A.map λ a=>a.1)=ms/\(xL.map λ a=>a.1)=ms/\ae ms<=60/\(ah f1 A).Nodup/\∀ H',Ext H H'->Q (.bl Á) H'):=wC (f:=λ (u:Z) (v:Z) (x:V)=>[.ref u,.ref v,x]) %[6,3|63] u v x
theorem Li(T:Tx K mg t):%[8,MM|49] %[|140] (rS t.a_MN):=by
 intros zv dw;refine %[MM,oQ,3|70]
 ·let(u,v,_,rfl,room,f1,f2,A,xL,ms,xq,rfl,bS,vu,vv,hA,hB,m1,m2,cm,bt,kk):=h;refine{_,%[(@gH _ _ (3) _ _ _ _ oQ.nd J (Or.inr J) (@sH _ _) ∅ %[|7]),%[%[VX,%[%[zv,%[0,%[1|1]|1]|3]|20],%[4,oQ|5],%[(@KL _ _ _ _ _ _ _ _ _ hr.units %[3|0] %[4|0] (@gy _ _ _ _) J)|10]|24],%[%[(PW.pt %[%[%[%[isinstance,cu,%[2,%[(@er _ _ (.ty "list") (.type "list") _ ∅ T.z_list nofun J ⋯ ⋯)|1]|1]|6]|26]|31],%[%[(br hr.units),%[len,aB,%[2|1]|6],99,(ar _)|13]|35]|32]),%[%[(@gy _ _ _ _)|12]|10],(@au _)|14],(@bG _ _)|9]|9]|9],?_};rw[%[["to", "source", "some", "known", "pair"],[.ref u,.ref v,.ref xq],2|53]];clear G_zv;let n1:=aM f1 A λ b hb=>(hA.2 b hb).1;let n2:=aM f2 xL λ b hb=>(hB.2 b hb).1;rw[m1] at n1;rw[m2] at n2;exists m1;exists m2;exists bt;exists kk;ac_rfl;intro d H1 b0 e1 aX;replace aX:Unit->yj P w H1 d []:=λ (_:Unit)=>aX;ac_rfl;rw[jL];refine{room,f1,f2,A,xL,vu.ext e1,vv.ext e1,hA,hB,by rw[m1 (),m2 ()],by rw[m1 ()];omega,bt (),λ l r2 cv zs H2 e2 b1 b2 a6 a3 a4=>?_};rw[m1 ()] at a6;let a7:=uY a6 a4;let b3:=iw (ah f1 A) (ah f2 xL) (ah f2 xL).length;let b6:((dC (ah f1 A) (ah f2 xL) (ah f2 xL).length).map (E1 ms)).length<=60:=by rw[VD];omega
  generalize (dC (ah f1 A) (ah f2 xL) (ah f2 xL).length).map (E1 ms)=zn at a7 b6;let a8:=(aX ()).ext e2;let bB:=e1.trans e2
  let b7:r2≠d:=λ z=>by
   let(φ,hφ):=Oq a8;rw[z,hφ] at a3;cases a3
  clear b2 a6 a4 b3 b1 aX e1 e2;ac_rfl;refine dj (xs:=zs) (λ i σ H'=>∃ (Z':G PKy) (v4:Ü V),σ=[%[u|45],%[v|45],%[xq|45],%[d|45],v4]/\Ext H H'/\H' r2=U (.lst zs)/\Al (PrV H') zn zs/\yj P w H' d Z'/\Z'.length=i) ⟨[],L,J,bB,a3,a7,a8,J⟩ (λ i σ H' _ ⟨_,_,_,_,h,_⟩=>h) ?_ ?_
  ·rintro i y _ H3 hi ⟨Z',v4,rfl,e3,a9,af,aS,a5⟩;let b8:i<zn.length:=by have:=(VB.mp hi).1;rw[af.1] at this;exact this
   obtain⟨z,hz⟩:∃ z,zn[i]? = U z:={_,VA b8};let pz:=af.2 i z y hz hi;let(φ,hφ):=Oq aS;let cf:=pz;let(q,_,_,rfl,_):=cf;let cg:=pz.pk;exists af;exists aS;clear hi hz pz kk;simp! only[↓aA];refine OI (aS ()) cg (by rw[Zo];omega) λ o ck=>?_;exact{z::Z',_,J,e3.put b0,by rw[ag b7];exact a9,(af ()).imp λ _ _ t=>Gg t hφ,ck,by rw[Wc,a5]}
  ·rintro _ H3 ⟨Z',v4,rfl,e3,a9,af,aS,a5⟩;let cz:=e3.at bS;let k':=kk () H3 e3;clear kk a9 af a3 a7 a8 aS bB;ac_rfl
def cj(f:B)(A:%[|48])(z:G B):B:=f+ik z (A.map λ a=>a.2)
theorem qL:∀ (A:%[|48]) (z:G B),InR (A.map λ a=>a.1) z->ik z ((A.map ay).map λ a=>a.2)=ik z (A.map λ a=>a.2)
 | [],[],_=>rfl
 | [],_::_,h=>h.elim
 | _::_,[],h=>h.elim
 | a::A,x::z,h=>by
  let ih:=qL A z h.2;let hx:(0<=x/\x<a.1):=h.1
  show ik (x::z) ((ay a).2::(A.map ay).map λ a=>a.2)=ik (x::z) (a.2::A.map λ a=>a.2)
  unfold ik at ih ⊢;rw[zipWith_cons_cons,zipWith_cons_cons,sum_cons,sum_cons,ih]
  have:x * (ay a).2=x * a.2:=by
   show x * (if a.1 > 1 then a.2 else 0)=_
   split
   ·rfl
   ·rw[show x=0 by omega,Int.zero_mul,Int.zero_mul]
  rw[this]
theorem Bg(hs:∀ n∈ms,1<=n/\n<=1000000000):∀ (os:%[|48]) (fs:G (G B)),(∀ o∈os,(0<=o.1/\o.1<(ms.length:B))/\(o.2=1\/o.2=-1))->(∀ pl∈fs,InR ms pl)->∀ z∈os.foldl (λ fs o=>fs.flatMap λ pl=>(NH ms o).map λ k=>pl.set o.1.toNat k) fs,InR ms z
 | [],fs,_,hf,z,hz=>hf z hz
 | o::os,fs,ho,hf,z,hz=>by
  refine Bg hs os _ (λ o' aS=>ho o' (mem_cons_of_mem _ aS)) (λ pl af=>?_) z hz;let(p0,aX,af):=List.mem_flatMap.mp af;let(k,hk,rfl):=List.mem_map.mp af;unfold NH at hk;let(j,hj,rfl):=List.mem_map.mp hk;let a3:=List.mem_range.mp hj;refine(hf p0 aX).set ?_ ?_
  ·unfold rN
   split<;>omega
  ·unfold rN
   split<;>omega
theorem FI(hs:∀ n∈ms,1<=n/\n<=1000000000)(ho:∀ o∈os,(0<=o.1/\o.1<(ms.length:B))/\(o.2=1\/o.2=-1)):∀ z∈iQ ms os,InR ms z:=by
 refine Bg hs os _ ho λ pl af=>?_;rw[VO.mp af];have:=InR.zeros ms hs
 rwa [List.map_const'] at this
theorem pB(h0:0<=f+aG A)(h1:f+aE A<room)(hz:InR (A.map λ a=>a.1) z):0<=cj f A z/\cj f A z<room:=by
 have:=nz A z hz;unfold cj;omega
theorem xk(vals ws:G B)(n:à)(hv:vals.length=n)(hw:ws.length=n):∀ i:à,i<=n->E3 vals (((Ì n).map λ (k:à)=>(k:B)).take i) (ws.take i)=ws.take i++vals.drop i
 | 0,_=>rfl
 | i+1,hi=>by
  let ih:=xk vals ws n hv hw i %[|8];let hc:((Ì n).map λ (k:à)=>(k:B))[i]? = U (i:B):=by rw[VS,XO %[|8]];rfl
  let af:ws[i]? = U ws[i]:=VA %[|8];let hl:(ws.take i).length=i:=by rw[Wi];omega
  rw[sF hc af,ih,VW,List.set_append,VY %[|8],hl,Nat.sub_self,Yv (show i<vals.length by omega),List.set_cons_zero,WZ,af,List.append_assoc];rfl
theorem KG(h:ws.length=vals.length):E3 vals ((Ì vals.length).map λ (k:à)=>(k:B)) ws=ws:=by
 have:=xk vals ws vals.length J h vals.length (VF _);rw[W6 (by rw[VD,V5];exact VF _),W6 %[|8],YJ (VF _),X6] at this;exact this
theorem vk(n:à)(h:1<=n):ah 0 ([((n:B),(1:B))].map ay)=(Ì n).map λ (k:à)=>(k:B):=by
 rw[pA 0 _ (λ a ha=>by rw[VO.mp ha];show (1:B)<=n;omega)]
 show cc [0] ((n:B),(1:B))=_
 unfold cc;simp
abbrev Cm(C:Z)(p:Z)(H:Hp)(Q:VK)(E:XK):Prop:=∃ n:B,H p=U (.lst [.int n])/\1<=n/\n<=4096/\∀ (x:Z) (H':Hp),Ext H H'->ak C H' x n 0 ([(n,1)].map ay)->Q (.ref x) H'
def JK(C:Z):Sp:=λ vs H Q E=>∃ (p:Z),vs=[.ref p,.non]/\(Cm C p H Q E)
theorem Nj(C:Z)(p:Z)(H:Hp)(Q:VK)(E:XK):JK C [.ref p,.non] H Q E=(Cm C p H Q E):=kJ (f:=λ (p:Z)=>[.ref p,.non]) %[2,1|63] p
theorem Gr(T:Tx K mg t):%[8,MI|49] ["sizes", "room"] (JK t.a_MN):=by
 intros Hg eE Hh vD vY cA;refine %[MI,BY,1|70]
 ·let(p,rfl,n,hp,n1,n2,k):=h;refine{_,%[%[2,BY,(@qE _ _ _ _ _ _ _ _ %[O6,1,(@js _ _ _),(ar _)|13] %[Hg,%[0|1]|3] %[1|0])|4],%[%[%[qAj,vY,m_MN,aZ,%[2,%[99,%[(@km _ _ _ _ _ _ _ _ J ∅ T.z_list ∅ T.z_zip %[0,%[%[Hh,%[0|1]|3]|1]|1] ∅ ∅ ∅ ∅)|1]|1]|1]|62]|12]|10]|9],?_};rw[%[["sizes", "room", "cells"],[.ref p,.non],1|53]];clear G_Hg G_Hh G_vY;let hsz:fk [n]:={by simp,λ m hm=>by rw[VO.mp hm];omega};let af:H p=U (.lst (([n]:G B).map V.int)):=hp;let a6:ae [n]=n:=by show n * 1=n;omega
  let a7:gq [n]=[1]:=rfl;let aS:bY [(n,(1:B))]:={by simp,λ a ha=>by rw[VO.mp ha];show 1<=n/\n<=1000000000;omega}
  let hv:da n 0 [(n,(1:B))]:=by
   let(g1,g2):=mB [(n,(1:B))] λ a ha=>(aS.2 a ha).1;refine{aS,n1,by omega,?_,?_}
   ·rw[g1,bu];show 0<=0+(min 0 ((n - 1) * 1)+0);omega
   ·rw[g2,bz];show 0+(max 0 ((n - 1) * 1)+0)<n;omega
  exists k;clear hp;simp! only[↓gR,↓rO,↓oH,↓EJ,↓IK];intro q H1 a3 e1 h1;let a8:=e1.at af;clear a3 af;ac_rfl;rw[JH];intro D ts H2 hD e2 h2 aX;let t2:Al (bp H2) (axL [(n,(1:B))]) ts:=Bc (ms:=[n]) (ws:=[1]) aX;clear hD aX;ac_rfl;intro x dx H3 hx a9 bt e3 h3 bB;rw[gQ];refine{dx,[(n,1)],h3,bP.ext ⟨ts,h2,t2⟩ e3,hv,λ H4 D2 e4 bS a4 a5=>?_};let k':=k () x H4 (e1.trans (e2.trans (e4 H2 e3 hx))) {(dx),D2,a4,a5};clear k;ac_rfl
def jv(CS CV:Z):Sp:=λ vs H Q E=>∃ (s:Z) (v:Z) (u:Z) (q:Z),vs=[.ref s,.ref v,.ref u,.ref q]/\(∃ (l:Z) (vals ms:G B) (os:%[|48]) (f1 f2:B) (A1 A2:%[|48]),bQ CS H s l vals/\ak CV H v vals.length f1 (A1.map ay)/\ak CV H u vals.length f2 (A2.map ay)/\bh ms.length H q os/\(os.map λ o=>o.1).Nodup/\(∀ m∈ms,1<=m/\m<=6)/\ms.length<=8/\ae (szO ms os)<=4096/\(A1.map λ a=>a.1)=ms/\(A2.map λ a=>a.1)=ms/\1<=vals.length/\vals.length<=4096/\(0<=f1+aG A1/\f1+aE A1<(vals.length:B))/\(0<=f2+aG A2/\f2+aE A2<(vals.length:B))/\∀ H',(∀ H0,Ext H0 H->H0 l=L->Ext H0 H')->(∀ b o,b≠l->H b=U o->H' b=U o)->H' l=U (.lst ((Ag (cj f1 A1) (cj f2 A2) (iQ ms os) vals).map V.int))->Q .non H')
theorem zR(CS CV:Z)(s:Z)(v:Z)(u:Z)(q:Z)(H:Hp)(Q:VK)(E:XK):jv CS CV [.ref s,.ref v,.ref u,.ref q] H Q E=(∃ (l:Z) (vals ms:G B) (os:%[|48]) (f1 f2:B) (A1 A2:%[|48]),bQ CS H s l vals/\ak CV H v vals.length f1 (A1.map ay)/\ak CV H u vals.length f2 (A2.map ay)/\bh ms.length H q os/\(os.map λ o=>o.1).Nodup/\(∀ m∈ms,1<=m/\m<=6)/\ms.length<=8/\ae (szO ms os)<=4096/\(A1.map λ a=>a.1)=ms/\(A2.map λ a=>a.1)=ms/\1<=vals.length/\vals.length<=4096/\(0<=f1+aG A1/\f1+aE A1<(vals.length:B))/\(0<=f2+aG A2/\f2+aE A2<(vals.length:B))/\∀ H',(∀ H0,Ext H0 H->H0 l=L->Ext H0 H')->(∀ b o,b≠l->H b=U o->H' b=U o)->H' l=U (.lst ((Ag (cj f1 A1) (cj f2 A2) (iQ ms os) vals).map V.int))->Q .non H'):=NK (f:=λ (s:Z) (v:Z) (u:Z) (q:Z)=>[.ref s,.ref v,.ref u,.ref q]) %[8,4|63] s v u q
theorem CT(T:Tx K mg t):%[9,MF|49] %[|123] (jv t.a_ML t.a_MN):=by
 intros vR dU sP bK vT cE zB aL Hv yH Ed k9 Eg uh MI Gr;refine T.F_MF.ok ip (λ _ _ _ _ h=>Q6 h λ _ _ _ _=>J) %[1|50]
 ·let(s,v,u,q,rfl,l,vals,ms,os,f1,f2,A1,A2,so,vv,vu,lo,cv,h6,h8,dk,m1,m2,eo,cz,bS,b0,k):=h;let(ds,hs):=so.ob;let cN:=so.fl;let(dx,D,hv,_):=vv.ob;let(dy,D2,hu,_):=vu.ob;let dr:=hv;let dN:=hs;let c1:=T.qA2;let c2:=T.qA0;let n1:=dD l (m := "refuse_room") nofun;let n2:=dD l (m := "all_values") nofun;let n3:=dD l (m := "put") nofun;let g1:=vn (vals.length:B) f1 D (m := "sizes") nofun;let g2:=vn (vals.length:B) f1 D (m := "cell") nofun;let g3:=vn (vals.length:B) f2 D2 (m := "cell") nofun;refine{_,%[%[%[%[0|0],qA2,qA4,vR,aZ,%[1|1]|60]|19],%[%[%[%[0|0],qA2,qA4,vR,aZ,%[2|1]|60]|19],%[%[%[sP,%[1,%[2|1]|1]|3]|19],%[%[4,ip,%[%[0|0],qA2,qA8,vT,aZ|61]|4],%[%[VX,%[%[Hv,%[%[%[1|0],qA0,qA1,zB,aZ|61],%[3|1]|1]|3]|20],%[5,ip|5],%[(@rT _ _ _ _ _ _ %[4,%[%[2|0],qA0,qAe,Ed,aZ,%[5|1]|60]|15] (@wK _ _ _ _ _ _ _ %[4|0] %[%[1|0],qA0,qAe,Ed,aZ,%[5|1]|60] lG (by intros;rfl)) ∅ ∅ ∅)|10]|24],%[%[%[%[0|0],qA2,qB2,Eg,aZ,%[%[G_MI,(hr.mono ⋯),∅,T.m_MI,T.F_MI.kp,T.b_whole_1,(.cons (show b9 V.non Ñ from J) .nil),aZ,%[%[%[%[len,aB,%[4|1]|6]|1]|16]|1],⋯,∅,∅,∅|28],%[4|1]|1]|60]|19]|10]|9]|9]|9]|9]|9],?_};rw[%[%[|136],[.ref s,.ref v,.ref u,.ref q],2|53]];clear G_vR G_sP G_vT G_zB G_Hv G_Ed G_Eg G_MI;let a5:∀ n∈ms,1<=n/\n<=1000000000:=λ n hn=>by have:=h6 n hn;omega
  let k1:((A1.map ay).map λ a=>a.1)=ms:=by rw[ei];exact m1
  let k2:((A2.map ay).map λ a=>a.1)=ms:=by rw[ei];exact m2
  let cO:bY A1:=⟨by rw[←VD (f:=λ a:B × B=>a.1),m1];exact h8,λ a ha=>a5 a.1 (by rw[←m1];exact VT.mpr {(a),ha,J})⟩;let cT:bY A2:=⟨by rw[←VD (f:=λ a:B × B=>a.1),m2];exact h8,λ a ha=>a5 a.1 (by rw[←m2];exact VT.mpr {(a),ha,J})⟩;let b1:=mW cO;let d0:=mW cT;let a6:=FI a5 lo.2.2;let b2:=Kq ms a5 os λ o ho=>(lo.2.2 o ho).1
  let b3:∀ z∈iQ ms os,(cj f1 (A1.map ay) z=cj f1 A1 z/\cj f2 (A2.map ay) z=cj f2 A2 z)/\(0<=cj f1 A1 z/\cj f1 A1 z<(vals.length:B))/\(0<=cj f2 A2 z/\cj f2 A2 z<(vals.length:B)):=λ z hz=>by
   let i1:=a6 z hz;let i2:=a6 z hz;rw[←m1] at i1;rw[←m2] at i2;refine{⟨?_,?_⟩,pB bS.1 bS.2 i1,pB b0.1 b0.2 i2}
   ·unfold cj;rw[qL A1 z i1]
   ·unfold cj;rw[qL A2 z i2]
  exists a6;exists b2;exists b3;exists k;exists k1;exists k2;exists cv;clear m1 m2 cO cT bS b0 h6;ac_rfl;rw[qR];refine{l,vals,_,f1,_,so,vv,J,?_};ac_rfl;rw[qR];refine{l,vals,_,f2,_,so,vu,J,?_};ac_rfl;rw[ky];refine{_,_,f1,f2,_,_,vv,vu,b1.1,by rw[k1 (),k2 ()],λ H1 e1=>?_};let d1:=e1.at hs;clear hs;ac_rfl;rw[lR];refine{l,vals,so.ext e1,cz,λ r H2 d2 e2 h2=>?_};let b6:=e1.trans e2;let cV:=b6.at hv;clear d1 hv;ac_rfl;rw[aR];refine{_,f1,_,vv.ext b6,b1.1,λ z3 H3 d3 e3 h3=>?_};rw[k1 ()] at h3;let c0:=b6.trans e3;clear d3 cV;ac_rfl;rw[zL];refine{ms,os,h3,{(h8),a5},lo.ext c0,cv (),dk,λ wk H4 b7 e4 t4=>?_};rw[b2 ()] at t4;let d4:=c0.trans e4;let aX:=(e3.trans e4).at h2;let d5:wk≠r:=λ e=>by rw[e,e3.at h2] at b7;cases b7
  let b8:H r=L:=e1.free d2;let d6:l≠r:=λ e=>by rw[e] at cN;rw[cN] at b8;cases b8
  let(us,cf,al):=t4;clear h3 b7 e3 e4 b2 e2;ac_rfl;refine dj (xs:=us) (λ i σ H'=>∃ v5:Ü V,σ=[%[s|45],%[v|45],%[u|45],%[q|45],%[r|45],v5]/\Ext H H'/\(∀ b o,b≠r->H4 b=U o->H' b=U o)/\H' r=U (.lst ((Ag (cj f1 A1) (cj f2 A2) ((iQ ms os).take i) vals).map V.int))) ⟨L,J,d4,λ _ _ _ h=>h,aX⟩ (λ i σ H' _ ⟨_,_,_,kp,_⟩=>kp wk _ d5 cf) ?_ ?_
  ·rintro i y _ H5 hi ⟨v5,rfl,e5,kp,h5⟩;let(z,cg,w',rfl,a8):=i9 al hi;let ck:=V8 cg;let((c3,c4),(d7,d8),(d9,ea)):=b3 () z ck;let a9:=a6 () z ck;let c5:w' ≠ r:=λ e=>by rw[e,aX] at a8;cases a8
   let cm:=kp w' _ c5 a8;let a7:=CH (W:=cj f1 A1) (R:=cj f2 A2) (vals:=vals) cg;let af:=qD (cj f1 A1) (cj f2 A2) ((iQ ms os).take i) vals;generalize Ag (cj f1 A1) (cj f2 A2) ((iQ ms os).take i) vals=c6 at h5 a7 af;let a3:=fU (vals:=c6) d9 (by rw[af];exact ea);let a4:ixN c6.length (cj f1 A1 z)=U (cj f1 A1 z).toNat:=Fq d7 (by rw[af];exact d8);let eb:=e5.at hu;let c7:=e5.at dr;exists a7;exists af;exists c3;exists c4;clear hi cg ck a8 cf aX b3 a6 k al;simp! only[↓aA];rw[lQ];refine{_,f2,_,z,vu.ext e5,d0,cm,by rw[k2 ()];exact a9,λ H6 e6=>?_};rw[show f2+ik z ((A2.map ay).map λ a=>a.2)=cj f2 A2 z from c4 ()];let ec:=e6.at c7;let bt:=e6.at h5;let c8:=e6.at cm;clear eb c7 cm;ac_rfl;rw[lQ];refine{_,f1,_,z,vv.ext (e5.trans e6),b1,c8,by rw[k1 ()];exact a9,λ H7 e7=>?_};rw[show f1+ik z ((A1.map ay).map λ a=>a.2)=cj f1 A1 z from c3 ()];let bB:=e7.at bt;let aS:=e6.trans e7;clear ec bt c8;ac_rfl;refine{_,J,(e5.trans aS).put b8,λ b o hb ho=>by rw[ag hb];exact aS.at (kp b o hb ho),?_};rw[a7 (),←qJ]
  ·rintro _ H5 ⟨v5,rfl,e5,kp,h5⟩;let c9:us.length=(iQ ms os).length:=al.1;rw[c9,WN] at h5;let af:=qD (cj f1 A1) (cj f2 A2) (iQ ms os) vals;generalize Ag (cj f1 A1) (cj f2 A2) (iQ ms os) vals=ws at h5 af k;let ee:=e5.at dN;let eg:=so.ext e5;let ej:(ws.length:B)<=4096:=by omega
   let el:1<=(ws.length:B):=by omega
   exists af;clear cf aX al c9;ac_rfl;intro z6 H6 en e6 de;clear en;ac_rfl;rw[Nj];refine{_,de,el,ej,λ x H7 e7 vx=>?_};let aS:=e6.trans e7;let bB:=aS.at h5;let ep:=aS.at ee;clear de;ac_rfl;rw[Nl];let wc:=vk ws.length %[|8];refine{l,vals,_,0,_,ws,eg.ext aS,vx,mW {by simp,λ a ha=>by rw[VO.mp ha];show 1<=(ws.length:B)/\(ws.length:B)<=1000000000;omega},by rw[af ()],cz,?_,?_,bB,VL d6,?_,λ H8 q1 q2 q3=>?_}
   ·rw[ei];show (ws.length:B) * 1<=4096;omega
   ·intro c hc;rw[wc] at hc;let(i,hi,rfl):=VT.mp hc;have:=WO.mp hi;have:=af ();omega
   ·rw[ei];show (ws.length:B)=(ws.length:B) * 1;omega
   ·rw[wc,af (),KG (af ())] at q3;let dh:=e5.trans aS;let k':=k () H8 (λ H0 x0 x1=>q1 H0 (x0.trans dh) x1) (λ b o hb ho=>q2 b o hb (dh.at ho)) q3;clear k;ac_rfl
abbrev pO(C cT:Z)(v:Z)(H:Hp)(Q:VK)(E:XK):Prop:=∃ (room n:B),VwN C H v room n/\4096<n/\∀ dx H',Ext H H'->H' dx=U (.xd [("number",.int n)])->E (.ref cT) (U dx) H'
def ju(C cT:Z):Sp:=λ vs H Q E=>∃ (v:Z),vs=[.ref v]/\(pO C cT v H Q E)
theorem zN(C cT:Z)(v:Z)(H:Hp)(Q:VK)(E:XK):ju C cT [.ref v] H Q E=(pO C cT v H Q E):=kJ (f:=λ (v:Z)=>[.ref v]) %[2,1|63] v
theorem rl(T:Tx K mg t):aT P w K mg base (CX1 P  w) 5 t.a_Ee t.d_Ee ["view"] (ju t.a_MN t.a_HA):=by
 intros DV oB;refine(Fun.x T.F_Ee).ok bR (λ _ _ _ _ h=>kK h λ _=>J) %[0|50]
 ·let(v,rfl,room,n,vv,af,k):=h;let(first,axs,vo,aS,hn):=id vv;let(dx,l,hv,_):=vo.ob;let c1:=T.qA0
  let f3:=vn room first l (m := "cells") nofun
  refine{_,%[%[1,bR,(@lK _ _)|4],%[%[PassesOwn.leaving,(@Bx _ _ _ _ _ _ _ _ ∅ T.z_enumerate %[%[%[0|0],qA0,qA9,DV,aw|61]|1] ∅ ∅),(%[(2),%[%[2,bR|5],%[%[3,bR|5],(@aO _)|18]|18]|29].mono λ _ _ _ _ h=>cp h),(@bG _ _)|24],(@bG _ _)|9]|9],?_};rw[%[["view", "seen", "number", "cell"],[.ref v],3|53]];clear G_DV;exists k;ac_rfl;intro d H1 aX e1 h1;let a3:=e1.at hv;ac_rfl;rw[zU];exact{room,n,vv.ext e1,af,λ dx H' e h=>k () dx H' (e1.trans e) h}
def xc(C cT:Z):Sp:=λ vs H Q E=>∃ (v:Z),vs=[.ref v]/\((lZ C [.ref v] H Q E)\/(ju C cT [.ref v] H Q E))
theorem zO(C cT:Z)(v:Z)(H:Hp)(Q:VK)(E:XK):xc C cT [.ref v] H Q E=((lZ C [.ref v] H Q E)\/(ju C cT [.ref v] H Q E)):=kJ (f:=λ (v:Z)=>[.ref v]) %[2,1|63] v
theorem rm(T:Tx K mg t):aT P w K mg base (CX1 P  w) 5 t.a_Ee t.d_Ee ["view"] (xc t.a_MN t.a_HA):=by
 refine aT.both (aT.up (kZ (P:=P) (w:=w) (base:=base) T)) (rl (P:=P) (w:=w) (base:=base) T) λ vs H Q E h=>?_;let(v,rfl,h):=h;exact h
def TwD(f:B)(A:%[|48])(j:à):Prop:=(j=4/\4096<ae (A.map λ a=>a.1))\/(j=5/\ae (A.map λ a=>a.1)<=4096/\¬ (ah f A).Nodup)
abbrev pQ(t:Adr)(v:Z)(H:Hp)(Q:VK)(E:XK):Prop:=∃ (room f:B) (A:%[|48]) (j:à),ak t.a_MN H v room f A/\bY A/\TwD f A j/\RaX t f A H E j
def qw(t:Adr):Sp:=λ vs H Q E=>∃ (v:Z),vs=[.ref v]/\(pQ t v H Q E)
theorem zP(t:Adr)(v:Z)(H:Hp)(Q:VK)(E:XK):qw t [.ref v] H Q E=(pQ t v H Q E):=kJ (f:=λ (v:Z)=>[.ref v]) %[2,1|63] v
theorem lA(T:Tx K mg t):aT P w K mg base (CX1 P  w) 6 t.a_zm t.d_zm ["view"] (qw t):=by
 intros Ee rm vV kG;refine(Fun.x T.F_zm).ok dA (λ _ _ _ _ h=>kK h λ _=>J) %[0|50]
 ·let(v,rfl,room,first,axs,j,vo,af,hj,k):=h;refine{_,%[%[1,dA,%[Ee,aw,%[0|1]|68]|4],%[%[%[qG,1,(@js _ _ _),(ar _)|13],%[(@sG _ _ _ _ _ _ _ _ _ _ _ _ _ _ _ J ∅ T.m_MK T.oi_Twice G_vV (hr.mono ⋯) T.b_vV (λ σ=>nk) %[%[1,99|15],%[%[1,99|15]|1]|1] ∅ ∅ ⋯)|10],(@au _)|14]|10]|9],?_};rw[%[["view", "found"],[.ref v],1|53]];clear G_Ee G_vV;exists k;ac_rfl;rw[zO]
  rcases hj with ⟨rfl,aS⟩|⟨rfl,hc,aX⟩
  ·refine .inr ?_;rw[zN];exact{room,_,{(first),axs,vo,af,J},aS,λ dx H' e h=>k () (U dx) H' e {(dx),J,h}}
  ·refine .inl ?_;rw[sY];refine{room,first,axs,vo,af,hc,λ h=>Þ h aX,λ i j c r p q H1 a4 hi hj e1 a7 a5 a6=>?_};let a3:=λ dx H' (e:Ext H H') h1 h2 h3=>k () (U dx) H' e {(dx),p,q,i,j,c,J,a4,hi,hj,h1,h2,h3};clear k hi hj aX;exists a3;ac_rfl;exact QR λ dx H2 e2 h2=>a3 () dx H2 (e1.trans e2) h2 (e2.at a5) (e2.at a6)
def NS(r1 r2 f:B)(A xL:%[|48])(j:à):Prop:=(j=1/\r1≠r2)\/(r1=r2/\((j=2/\¬ (A.map λ a=>a.1)=(xL.map λ a=>a.1))\/((A.map λ a=>a.1)=(xL.map λ a=>a.1)/\TwD f A j)))
def jx(t:Adr):Sp:=λ vs H Q E=>∃ (u:Z) (v:Z),vs=[.ref u,.ref v]/\(∃ (r1 r2 f1 f2:B) (A xL:%[|48]) (j:à),ak t.a_MN H u r1 f1 A/\ak t.a_MN H v r2 f2 xL/\bY A/\bY xL/\NS r1 r2 f1 A xL j/\RaX t f1 A H E j)
theorem iE(t:Adr)(u:Z)(v:Z)(H:Hp)(Q:VK)(E:XK):jx t [.ref u,.ref v] H Q E=(∃ (r1 r2 f1 f2:B) (A xL:%[|48]) (j:à),ak t.a_MN H u r1 f1 A/\ak t.a_MN H v r2 f2 xL/\bY A/\bY xL/\NS r1 r2 f1 A xL j/\RaX t f1 A H E j):=gv (f:=λ (u:Z) (v:Z)=>[.ref u,.ref v]) %[4,2|63] u v
theorem cU(T:Tx K mg t):aT P w K mg base (CX1 P  w) 7 t.a_zv t.d_zv %[|114] (jx t):=by
 intros zh gs sP bD zm lA;refine(Fun.x T.F_zv).ok bC (λ _ _ _ _ h=>gB h λ _ _=>J) (λ cdv A' outer s H vs Q E hr h=>?_)
 ·let(u,v,rfl,r1,r2,f1,f2,A,xL,j,vu,vv,hA,hB,hj,k):=h;refine{_,%[%[%[zh,aw,%[0,%[1|1]|1]|68]|19],%[%[%[sP,aw,%[0,%[1|1]|1]|68]|19],%[%[%[zm,aw,%[0|1]|68]|19],(@bG _ _)|9]|9]|9],?_};rw[%[%[|130],[.ref u,.ref v],5|53]];clear G_zh G_sP G_zm;exists k;exists hj;ac_rfl;rw[pE];refine{r1,r2,f1,f2,A,xL,vu,vv,λ he=>?_,λ aX H1 e1=>?_}
  ·let aS:=(hj ()).elim (λ h=>Þ he h.2) (λ h=>h.2);exists aS;clear hj he;ac_rfl;rw[jd];refine{r1,r2,f1,f2,A,xL,vu,vv,hA.1,hB.1,λ hs H1 e1=>?_,λ hs H1 e1=>?_}
   ·let af:=(aS ()).elim (λ h=>Þ hs h.2) (λ h=>h.2);exists af;clear aS hs;ac_rfl;rw[zP];exact{r1,f1,A,j,vu.ext e1,hA,af (),(k ()).ext e1}
   ·let af:j=2:=(aS ()).elim (λ h=>h.1) (λ h=>Þ h.1 hs);subst af;exact k () L H1 e1 J
  ·let af:j=1:=(hj ()).elim (λ h=>h.1) (λ h=>Þ h.1 aX);subst af;exact k () L H1 e1 J
abbrev tR(t:Adr)(u:Z)(v:Z)(H:Hp)(Q:VK)(E:XK):Prop:=∃ (r1 r2 f1 f2:B) (A xL:%[|48]) (j:à),ak t.a_MN H u r1 f1 A/\ak t.a_MN H v r2 f2 xL/\bY A/\bY xL/\NS r1 r2 f1 A xL j/\RaX t f1 A H E j
def ma(t:Adr):Sp:=λ vs H Q E=>∃ (u:Z) (v:Z),vs=[.ref u,.ref v]/\(tR t u v H Q E)
theorem EK(t:Adr)(u:Z)(v:Z)(H:Hp)(Q:VK)(E:XK):ma t [.ref u,.ref v] H Q E=(tR t u v H Q E):=gv (f:=λ (u:Z) (v:Z)=>[.ref u,.ref v]) %[4,2|63] u v
theorem oz(T:Tx K mg t):aT P w K mg base (CX1 P  w) 8 t.a_DX t.d_DX %[|114] (ma t):=by
 intros zv cU;refine(Fun.x T.F_DX).ok aY (λ _ _ _ _ h=>gB h λ _ _=>J) (λ cdv A' outer s H vs Q E hr h=>?_)
 ·let(u,v,rfl,h):=h;refine{_,%[%[2,aY,%[zv,aw,%[0,%[1|1]|1]|68]|4],(@bG _ _)|9],?_};rw[%[%[|107],[.ref u,.ref v],5|53]];clear G_zv;exists h;ac_rfl;rw[iE];exact h ()
abbrev pV(t:Adr)(u:Z)(v:Z)(x:V)(H:Hp)(Q:VK)(E:XK):Prop:=∃ (r1 r2 f1 f2:B) (A xL:%[|48]) (j:à),ak t.a_MN H u r1 f1 A/\ak t.a_MN H v r2 f2 xL/\bY A/\bY xL/\NS r1 r2 f1 A xL j/\RaX t f1 A H E j
def jy(t:Adr):Sp:=λ vs H Q E=>∃ (u:Z) (v:Z) (x:V),vs=[.ref u,.ref v,x]/\(pV t u v x H Q E)
theorem zW(t:Adr)(u:Z)(v:Z)(x:V)(H:Hp)(Q:VK)(E:XK):jy t [.ref u,.ref v,x] H Q E=(pV t u v x H Q E):=wC (f:=λ (u:Z) (v:Z) (x:V)=>[.ref u,.ref v,x]) %[6,3|63] u v x
theorem Gu(T:Tx K mg t):aT P w K mg base (CX1 P  w) 8 t.a_MM t.d_MM %[|140] (jy t):=by
 intros zv cU;refine(Fun.x T.F_MM).ok oQ (λ _ _ _ _ h=>Ae h λ _ _ _=>J) (λ cdv A' outer s H vs Q E hr h=>?_)
 ·let(u,v,x,rfl,h):=h;refine{_,%[(@gH _ _ (3) _ _ _ _ oQ.nd J (Or.inr J) (@sH _ _) ∅ %[|7]),%[%[PassesOwn.leaving,%[%[zv,aw,%[0,%[1|1]|1]|68]|20],%[4,oQ|5],(@bG _ _)|24],(@bG _ _)|9]|9],?_};rw[%[["to", "source", "some", "known", "pair"],[.ref u,.ref v,x],2|53]];clear G_zv;exists h;ac_rfl;intro d0 H0 af e0 h0;ac_rfl;rw[iE];let(r1,r2,f1,f2,A,xL,j,vu,vv,hA,hB,hj,k):=h ();exact{r1,r2,f1,f2,A,xL,j,vu.ext e0,vv.ext e0,hA,hB,hj,k.ext e0}
def UQ(r1 r2 f:B)(A xL:%[|48])(H:Hp)(x:V)(j:à):Prop:=(j=1/\r1≠r2)\/(r1=r2/\((j=2/\¬ (A.map λ a=>a.1)=(xL.map λ a=>a.1))\/((A.map λ a=>a.1)=(xL.map λ a=>a.1)/\((j=3/\bF A.length H x)\/(gz A.length H x/\TwD f A j)))))
abbrev pR(t:Adr)(u:Z)(v:Z)(x:V)(H:Hp)(Q:VK)(E:XK):Prop:=∃ (r1 r2 f1 f2:B) (A xL:%[|48]) (j:à),ak t.a_MN H u r1 f1 A/\ak t.a_MN H v r2 f2 xL/\bY A/\bY xL/\UQ r1 r2 f1 A xL H x j/\RaX t f1 A H E j
def jw(t:Adr):Sp:=λ vs H Q E=>∃ (u:Z) (v:Z) (x:V),vs=[.ref u,.ref v,x]/\(pR t u v x H Q E)
theorem zS(t:Adr)(u:Z)(v:Z)(x:V)(H:Hp)(Q:VK)(E:XK):jw t [.ref u,.ref v,x] H Q E=(pR t u v x H Q E):=wC (f:=λ (u:Z) (v:Z) (x:V)=>[.ref u,.ref v,x]) %[6,3|63] u v x
theorem CU(T:Tx K mg t):aT P w K mg base (CX1 P  w) 8 t.a_MJ t.d_MJ %[|115] (jw t):=by
 intros zh gs sP bD zk gu zB aL zv cU zw iL;refine(Fun.x T.F_MJ).ok Cb (λ _ _ _ _ h=>Ae h λ _ _ _=>J) (λ cdv A' outer s H vs Q E hr h=>?_)
 ·let(u,v,x,rfl,r1,r2,f1,f2,A,xL,j,vu,vv,hA,hB,hj,k):=h;let(dx,D,hu,_):=vu.ob;let c1:=T.qA0;let g1:=vn r1 f1 D (m := "sizes") nofun;refine{_,%[%[%[zh,aw,%[0,%[1|1]|1]|68]|19],%[%[%[sP,aw,%[0,%[1|1]|1]|68]|19],%[%[%[zk,aw,%[%[%[0|0],qA0,qA1,zB,aZ|61],%[2|1]|1]|68]|19],%[%[%[all,gP,%[%[(%[|125]),(1),(aD (aa mh) %[|115] J J nofun),%[%[zv,aw,%[0,%[1|1]|1]|68]|20],%[%[(0),%[|125]|51]|72],%[(@aI _)|72],%[%[zw,%[0,%[3|1]|1]|3]|72]|25]|1]|6]|12]|10]|9]|9]|9],?_};rw[%[%[|115],[.ref u,.ref v,x],0|53]];clear G_zh G_sP G_zk G_zB G_zv G_zw;exists k;exists hj;ac_rfl;rw[pE];refine{r1,r2,f1,f2,A,xL,vu,vv,λ he=>?_,λ a6 H1 e1=>?_}
  ·let aS:=(hj ()).elim (λ h=>Þ he h.2) (λ h=>h.2);exists aS;clear hj;exists he;ac_rfl;rw[jd];refine{r1,r2,f1,f2,A,xL,vu,vv,hA.1,hB.1,λ hs H1 e1=>?_,λ hs H1 e1=>?_}
   ·let af:=(aS ()).elim (λ h=>Þ hs h.2) (λ h=>h.2);exists af;exists hs;let a7:=e1.at hu;clear aS;ac_rfl;rw[aR];refine{r1,f1,A,vu.ext e1,hA.1,λ r3 H2 a8 e2 h2=>?_};let a9:(A.map λ a=>a.1).length<=8:=by rw[VD];exact hA.1
    let aX:=e1.trans e2;let a3:(A.map λ a=>a.1).length=A.length:=by rw[VD]
    exists a3;clear a8 a7;ac_rfl;rw[tF];refine{_,h2,a9,?_};rw[a3 ()]
    rcases af () with ⟨rfl,bt⟩|⟨hG,a5⟩
    ·exact .inl {bt.ext aX,λ H' e=>k () L H' (aX.trans e) J}
    ·refine .inr {hG.ext aX,λ H3 e3=>?_};let a4:=aX.trans e3;exists a5;clear af a3;ac_rfl;rw[iE];exact{r1,r2,f1,f2,A,xL,j,vu.ext a4,vv.ext a4,hA,hB,.inr {he (),.inr {hs (),a5 ()}},(k ()).ext a4}
   ·let af:j=2:=(aS ()).elim (λ h=>h.1) (λ h=>Þ h.1 hs);subst af;exact k () L H1 e1 J
  ·let af:j=1:=(hj ()).elim (λ h=>h.1) (λ h=>Þ h.1 a6);subst af;exact k () L H1 e1 J
def UP(n r1 r2:B)(A xL:%[|48])(H:Hp)(x:V)(j:à):Prop:=(j=0/\¬ (r1=n/\r2=n))\/((r1=n/\r2=n)/\((j=2/\¬ (A.map λ a=>a.1)=(xL.map λ a=>a.1))\/((A.map λ a=>a.1)=(xL.map λ a=>a.1)/\((j=3/\bF A.length H x)\/(j=4/\gz A.length H x/\4096<ae (A.map λ a=>a.1))))))
abbrev nJ(t:Adr)(s:Z)(v:Z)(u:Z)(x:V)(H:Hp)(Q:VK)(E:XK):Prop:=∃ (l:Z) (vals:G B) (r1 r2 f1 f2:B) (A xL:%[|48]) (j:à),bQ t.a_ML H s l vals/\vals.length<=4096/\ak t.a_MN H v r1 f1 A/\ak t.a_MN H u r2 f2 xL/\bY A/\bY xL/\UP vals.length r1 r2 A xL H x j/\RaW t H E j
def gN(t:Adr):Sp:=λ vs H Q E=>∃ (s:Z) (v:Z) (u:Z) (x:V),vs=[.ref s,.ref v,.ref u,x]/\(nJ t s v u x H Q E)
theorem wg(t:Adr)(s:Z)(v:Z)(u:Z)(x:V)(H:Hp)(Q:VK)(E:XK):gN t [.ref s,.ref v,.ref u,x] H Q E=(nJ t s v u x H Q E):=NK (f:=λ (s:Z) (v:Z) (u:Z) (x:V)=>[.ref s,.ref v,.ref u,x]) %[8,4|63] s v u x
theorem yM(T:Tx K mg t):aT P w K mg base (CX1 P  w) 9 t.a_MF t.d_MF %[|123] (gN t):=by
 intros vR ib sP bD vT cE zB aL Hv vI;refine(Fun.x T.F_MF).ok ip (λ _ _ _ _ h=>Q6 h λ _ _ _ _=>J) (λ cdv A' outer s' H vs Q E hr h=>?_)
 ·let(s,v,u,x,rfl,l,vals,r1,r2,f1,f2,A,xL,j,so,bt,vv,vu,hA,hB,hj,k):=h;let(ds,hs):=so.ob;let(dx,D,hv,_):=vv.ob;let b1:=hs;let c1:=T.qA2;let c2:=T.qA0;let n1:=dD l (m := "refuse_room") nofun;let n2:=dD l (m := "all_values") nofun;let g1:=vn r1 f1 D (m := "sizes") nofun;refine{_,%[%[%[%[0|0],qA2,qA4,vR,aw,%[1|1]|60]|19],%[%[%[%[0|0],qA2,qA4,vR,aw,%[2|1]|60]|19],%[%[%[sP,aw,%[1,%[2|1]|1]|68]|19],%[%[4,ip,%[%[0|0],qA2,qA8,vT,aZ|61]|4],%[%[PassesOwn.leaving,%[%[Hv,aw,%[%[%[1|0],qA0,qA1,zB,aZ|61],%[3|1]|1]|68]|20],%[5,ip|5],(@bG _ _)|24],(@bG _ _)|9]|9]|9]|9]|9],?_};rw[%[%[|136],[.ref s,.ref v,.ref u,x],2|53]];clear G_vR G_sP G_vT G_zB G_Hv;exists k;exists hj
  let k0:¬ (r1=vals.length/\r2=vals.length)->∀ H',Ext H H'->E (.ref t.a_MG) L H':=λ aS H' e=>by
   let af:j=0:=(hj ()).elim (λ h=>h.1) (λ h=>Þ h.1 aS);let k1:=k ();rw[af] at k1;exact k1 L H' e (by rw[gZ];trivial)
  exists k0;ac_rfl;rw[tE];refine{l,vals,r1,_,so,{(f1),A,vv,hA,J},λ he=>?_,λ aS=>k0 () (λ h=>aS h.1)};exists he;ac_rfl;rw[tE];refine{l,vals,r2,_,so,{(f2),xL,vu,hB,J},λ a6=>?_,λ aS=>k0 () (λ h=>aS h.2)};let aX:=(hj ()).elim (λ h=>Þ ⟨he (),a6⟩ h.2) (λ h=>h.2);exists aX;clear hj he a6 k0;ac_rfl;rw[jd];refine{r1,r2,f1,f2,A,xL,vv,vu,hA.1,hB.1,λ a3 H1 e1=>?_,λ a3 H1 e1=>?_}
  ·let af:=(aX ()).elim (λ h=>Þ a3 h.2) (λ h=>h.2);exists af;let bB:=e1.at hs;clear aX hs a3;ac_rfl;rw[lR];refine{l,vals,so.ext e1,bt,λ r H2 b2 e2 h2=>?_};let a4:=e1.trans e2;let a7:=a4.at hv;clear bB hv;ac_rfl;rw[aR];refine{_,f1,_,vv.ext a4,hA.1,λ z3 H3 bS e3 h3=>?_};let a5:=a4.trans e3;let a8:(A.map λ a=>a.1).length=A.length:=by rw[VD]
   exists a8;clear bS a7;ac_rfl;rw[EH];refine{_,j,h3,hA.sizes,?_,(k ()).ext a5};rw[a8 ()]
   rcases af () with ⟨rfl,b0⟩|⟨rfl,hG,a9⟩
   ·exact .inl {J,b0.ext a5}
   ·exact .inr {J,hG.ext a5,a9}
  ·let af:j=2:=(aX ()).elim (λ h=>h.1) (λ h=>Þ h.1 a3);subst af;exact k () L H1 e1 (by rw[gZ];trivial)
def sx(t:Adr):Sp:=λ vs H Q E=>∃ (s:Z) (v:Z) (u:Z) (x:V),vs=[.ref s,.ref v,.ref u,x]/\((jv t.a_ML t.a_MN [.ref s,.ref v,.ref u,x] H Q E)\/(gN t [.ref s,.ref v,.ref u,x] H Q E))
theorem wj(t:Adr)(s:Z)(v:Z)(u:Z)(x:V)(H:Hp)(Q:VK)(E:XK):sx t [.ref s,.ref v,.ref u,x] H Q E=((jv t.a_ML t.a_MN [.ref s,.ref v,.ref u,x] H Q E)\/(gN t [.ref s,.ref v,.ref u,x] H Q E)):=NK (f:=λ (s:Z) (v:Z) (u:Z) (x:V)=>[.ref s,.ref v,.ref u,x]) %[8,4|63] s v u x
theorem yN(T:Tx K mg t):aT P w K mg base (CX1 P  w) 9 t.a_MF t.d_MF %[|123] (sx t):=
 aT.both (aT.up (CT (P:=P) (w:=w) (base:=base) T)) (yM (P:=P) (w:=w) (base:=base) T) λ vs H Q E ⟨_,_,_,_,e,h⟩=>by rw[e];exact h
def xf(t:Adr):Sp:=λ vs H Q E=>∃ (u:Z) (v:Z) (x:V),vs=[.ref u,.ref v,x]/\((me t.a_MN [.ref u,.ref v,x] H Q E)\/(jw t [.ref u,.ref v,x] H Q E))
theorem zT(t:Adr)(u:Z)(v:Z)(x:V)(H:Hp)(Q:VK)(E:XK):xf t [.ref u,.ref v,x] H Q E=((me t.a_MN [.ref u,.ref v,x] H Q E)\/(jw t [.ref u,.ref v,x] H Q E)):=wC (f:=λ (u:Z) (v:Z) (x:V)=>[.ref u,.ref v,x]) %[6,3|63] u v x
theorem CW(T:Tx K mg t):aT P w K mg base (CX1 P  w) 8 t.a_MJ t.d_MJ %[|115] (xf t):=
 aT.both (aT.up (Gs (P:=P) (w:=w) (base:=base) T)) (CU (P:=P) (w:=w) (base:=base) T) λ vs H Q E ⟨_,_,_,e,h⟩=>by rw[e];exact h
def Bk(t:Adr):Sp:=λ vs H Q E=>∃ (u:Z) (v:Z),vs=[.ref u,.ref v]/\((md t.a_MN [.ref u,.ref v] H Q E)\/(ma t [.ref u,.ref v] H Q E))
theorem EM(t:Adr)(u:Z)(v:Z)(H:Hp)(Q:VK)(E:XK):Bk t [.ref u,.ref v] H Q E=((md t.a_MN [.ref u,.ref v] H Q E)\/(ma t [.ref u,.ref v] H Q E)):=gv (f:=λ (u:Z) (v:Z)=>[.ref u,.ref v]) %[4,2|63] u v
theorem oA(T:Tx K mg t):aT P w K mg base (CX1 P  w) 8 t.a_DX t.d_DX %[|114] (Bk t):=
 aT.both (aT.up (qY (P:=P) (w:=w) (base:=base) T)) (oz (P:=P) (w:=w) (base:=base) T) λ vs H Q E ⟨_,_,e,h⟩=>by rw[e];exact h
def xg(t:Adr):Sp:=λ vs H Q E=>∃ (u:Z) (v:Z),vs=[.ref u,.ref v]/\((mf t.a_MN [.ref u,.ref v] H Q E)\/(jx t [.ref u,.ref v] H Q E))
theorem zV(t:Adr)(u:Z)(v:Z)(H:Hp)(Q:VK)(E:XK):xg t [.ref u,.ref v] H Q E=((mf t.a_MN [.ref u,.ref v] H Q E)\/(jx t [.ref u,.ref v] H Q E)):=gv (f:=λ (u:Z) (v:Z)=>[.ref u,.ref v]) %[4,2|63] u v
theorem nQ(T:Tx K mg t):aT P w K mg base (CX1 P  w) 7 t.a_zv t.d_zv %[|114] (xg t):=
 aT.both (aT.up (dw (P:=P) (w:=w) (base:=base) T)) (cU (P:=P) (w:=w) (base:=base) T) λ vs H Q E ⟨_,_,e,h⟩=>by rw[e];exact h
def Bl(t:Adr):Sp:=λ vs H Q E=>∃ (u:Z) (v:Z) (x:V),vs=[.ref u,.ref v,x]/\((rS t.a_MN [.ref u,.ref v,x] H Q E)\/(jy t [.ref u,.ref v,x] H Q E))
theorem ES(t:Adr)(u:Z)(v:Z)(x:V)(H:Hp)(Q:VK)(E:XK):Bl t [.ref u,.ref v,x] H Q E=((rS t.a_MN [.ref u,.ref v,x] H Q E)\/(jy t [.ref u,.ref v,x] H Q E)):=wC (f:=λ (u:Z) (v:Z) (x:V)=>[.ref u,.ref v,x]) %[6,3|63] u v x
theorem Gv(T:Tx K mg t):aT P w K mg base (CX1 P  w) 8 t.a_MM t.d_MM %[|140] (Bl t):=
 aT.both (aT.up (Li (P:=P) (w:=w) (base:=base) T)) (Gu (P:=P) (w:=w) (base:=base) T) λ vs H Q E ⟨_,_,_,e,h⟩=>by rw[e];exact h
def Ar(H:Hp)(w:B)(x:V)(n r1 r2 f1 f2:B)(A xL:%[|48]):Prop:=r1=r2/\(A.map λ a=>a.1)=(xL.map λ a=>a.1)/\(w=0->r1=n/\1<=n/\A.map ay=A/\xL.map ay=xL/\gz A.length H x/\(∀ a∈A,1<=a.1/\a.1<=6)/\ae (A.map λ a=>a.1)<=4096/\(0<=f1+aG A/\f1+aE A<n)/\(0<=f2+aG xL/\f2+aE xL<n))/\(w≠0->ae (A.map λ a=>a.1)<=60/\(ah f1 A).Nodup)/\(w=1->gz A.length H x)
def uH(H:Hp)(w:B)(x:V)(n r1 r2 f1:B)(A xL:%[|48])(j:à):Prop:=(w=0->UP n r1 r2 A xL H x j)/\(w=1->UQ r1 r2 f1 A xL H x j)/\(2<=w->NS r1 r2 f1 A xL j)
def Aft(w:B)(l:Z)(H H':Hp):Prop:=(w≠0->Ext H H')/\∀ H0,Ext H0 H->H0 l=L->Ext H0 H'
theorem Aft.of{l:Z}(e:Ext H H'):Aft wq l H H':={λ _=>e,λ _ e0 _=>e0.trans e}
structure Au(t:Adr)(H:Hp)(w:B)(st:V)(u v l:Z)(vals:G B)(r1 r2 f1 f2:B)(A xL:%[|48]):Prop where
 w0:0<=w/\w<=4
 one:ak t.a_MN H u r1 f1 A
 two:ak t.a_MN H v r2 f2 xL
 ax:bY A
 bx:bY xL
 st:w=0->∃ s,st=.ref s/\bQ t.a_ML H s l vals/\vals.length<=4096
abbrev pU(t:Adr)(w:B)(st:V)(u:Z)(v:Z)(x:V)(H:Hp)(Q:VK)(E:XK):Prop:=∃ (l:Z) (vals:G B) (r1 r2 f1 f2:B) (A xL:%[|48]),Au t H w st u v l vals r1 r2 f1 f2 A xL/\((Ar H w x vals.length r1 r2 f1 f2 A xL/\∀ y H',Aft w l H H'->Q y H')\/∃ j,uH H w x vals.length r1 r2 f1 A xL j/\(w=0->RaW t H E j)/\(w≠0->RaX t f1 A H E j))
def qB(t:Adr):Sp:=λ vs H Q E=>∃ (w:B) (st:V) (u:Z) (v:Z) (x:V),vs=[.int w,st,.ref u,.ref v,x]/\(pU t w st u v x H Q E)
theorem pG(t:Adr)(w:B)(st:V)(u:Z)(v:Z)(x:V)(H:Hp)(Q:VK)(E:XK):qB t [.int w,st,.ref u,.ref v,x] H Q E=(pU t w st u v x H Q E):=T7 (f:=λ (w:B) (st:V) (u:Z) (v:Z) (x:V)=>[.int w,st,.ref u,.ref v,x]) %[10,5|63] w st u v x
theorem iM(T:Tx K mg t):aT P w K mg base (CX1 P  w) 10 t.a_zz t.d_zz %[|105] (qB t):=by
 intros MF yN MJ CW DX oA zv nQ MM Gv;refine(Fun.x T.F_zz).ok rJ (λ _ _ _ _ h=>T8 h λ _ _ _ _ _=>J) (λ cdv A' outer s' H vs Q E hr h=>?_)
 ·let(wy,st,u,v,x,rfl,l,vals,r1,r2,f1,f2,A,xL,ci,h):=h;refine{_,%[%[%[(br hr.units),0,99,(ar _)|13],%[%[%[MF,aw,%[1,%[2,%[3,%[4|1]|1]|1]|1]|68]|12]|10],(@au _)|14],%[%[%[(br hr.units),0,99,(ar _)|13],%[%[%[MJ,aw,%[2,%[3,%[4|1]|1]|1]|68]|12]|10],(@au _)|14],%[%[%[(br hr.units),0,99,(ar _)|13],%[%[%[DX,aw,%[2,%[3|1]|1]|68]|12]|10],(@au _)|14],%[%[%[(br hr.units),0,99,(ar _)|13],%[%[%[zv,aw,%[2,%[3|1]|1]|68]|12]|10],(@au _)|14],%[%[%[MM,aw,%[2,%[3,%[%[(@cZ _)|16]|1]|1]|1]|68]|12]|10]|9]|9]|9]|9],?_};rw[%[%[|105],[.int wy,st,.ref u,.ref v,x],0|53]];clear G_MF G_MJ G_DX G_zv G_MM;exists h;let(w0,w4):=ci.w0;let v1:=ci.one;let v2:=ci.two;let hA:=ci.ax;let hB:=ci.bx;let aS:=ci.st;let aX:(A.map λ a=>a.1).length=A.length:=by rw[VD]
  exists aX;clear ci
  rcases (show wy=0\/wy=1\/wy=2\/wy=3\/wy=4 by omega) with rfl|rfl|rfl|rfl|rfl
  ·let(s,rfl,so,a3):=aS J;clear aS;ac_rfl;rw[wj]
   rcases h () with ⟨hN,kk⟩|⟨j,hj,kW,_⟩
   ·let(rr,hs,h0,_,_):=hN;let(rn,n1,ka,kb,(q,rfl,lo),h6,hp,a4,a5):=h0 J;refine .inl ?_;rw[zR];subst rr rn;rw[←aX ()] at lo;refine{l,vals,_,_,f1,f2,A,xL,so,by rw[ka];exact v1,by rw[kb];exact v2,lo,mX _,λ m hm=>?_,by rw[aX ()];exact hA.1,by rw[IZ];exact hp,J,hs.symm,by omega,a3,a4,a5,λ H' q1 _ _=>kk _ H' {λ h=>Þ rfl h,q1}};let(a,ha,rfl):=VT.mp hm;exact h6 a ha
   ·refine .inr ?_;rw[wg];exact{l,vals,r1,r2,f1,f2,A,xL,j,so,a3,v1,v2,hA,hB,hj.1 J,kW J}
  ·clear aS;ac_rfl;rw[zT]
   rcases h () with ⟨hN,kk⟩|⟨j,hj,_,kX⟩
   ·let(rr,hs,_,h1,h2):=hN;let(hp,af):=h1 ⋯;let(q,rfl,lo):=h2 J;refine .inl ?_;rw[EO];subst rr;rw[←aX ()] at lo;exact{r1,f1,f2,A,xL,_,_,v1,v2,hA,hB,J,hs.symm,hp,af,lo,mX _,λ b H' e=>kk _ H' (Aft.of e)}
   ·refine .inr ?_;rw[zS];exact{r1,r2,f1,f2,A,xL,j,v1,v2,hA,hB,hj.2.1 J,kX ⋯}
  ·clear aS;ac_rfl;rw[EM]
   rcases h () with ⟨hN,kk⟩|⟨j,hj,_,kX⟩
   ·let(rr,hs,_,h1,_):=hN;let(hp,af):=h1 ⋯;refine .inl ?_;rw[EL];subst rr;exact{r1,f1,f2,A,xL,_,v1,v2,hA,hB,J,hs.symm,hp,af,λ x' H' e=>kk _ H' (Aft.of e)}
   ·refine .inr ?_;rw[EK];exact{(r1),r2,f1,f2,A,xL,j,v1,v2,hA,hB,hj.2.2 ⋯,kX ⋯}
  ·clear aS;ac_rfl;rw[zV]
   rcases h () with ⟨hN,kk⟩|⟨j,hj,_,kX⟩
   ·let(rr,hs,_,h1,_):=hN;let(hp,af):=h1 ⋯;refine .inl ?_;rw[jL];subst rr;exact{r1,f1,f2,A,xL,v1,v2,hA,hB,hs,by omega,af,λ l' r' ys zs H' e _ _ _ _ _=>kk _ H' (Aft.of e)}
   ·refine .inr ?_;rw[iE];exact{(r1),r2,f1,f2,A,xL,j,v1,v2,hA,hB,hj.2.2 ⋯,kX ⋯}
  ·clear aS;ac_rfl;intro q1 H1 a6 e1 h1;ac_rfl;rw[ES]
   rcases h () with ⟨hN,kk⟩|⟨j,hj,_,kX⟩
   ·let(rr,hs,_,h2,_):=hN;let(hp,af):=h2 ⋯;refine .inl ?_;rw[Iz];subst rr;exact{r1,f1,f2,A,xL,_,q1,J,h1,v1.ext e1,v2.ext e1,hA,hB,J,hs.symm,hp,af,λ H' e=>kk _ H' (Aft.of (e1.trans e))}
   ·refine .inr ?_;rw[zW];exact{r1,r2,f1,f2,A,xL,j,v1.ext e1,v2.ext e1,hA,hB,hj.2.2 ⋯,(kX ⋯).ext e1}
def cl6(t:Adr):G Z:=[t.a_MG,t.a_MH,t.a_Hy,t.a_Hz,t.a_HA,t.a_MK]
theorem Fw(T:Tx K mg t){c:Z}(h:c∈cl6 t):Af K c/\Ú K (.ref c)=U (.type "type"):=by
 let q:=W4.mp T.xh c h;simp only[Xt,W5] at q;let((((((h1,h2),h3),h4),h5),h6),h7):=q;exact{⟨h3,h4,h5,h6,h7,T.ocs,T.oct,h1⟩,h2}
theorem Vb(T:Tx K mg t){a c:Z}(ha:a∈cl6 t)(hc:c∈cl6 t):Ô K (.ref a) (.ref c)=U (a == c):=by
 let q:=W4.mp (W4.mp T.xs a ha) c hc;rw[W5] at q;let(h1,h2):=Fw T hc
 cases e:(a == c) with
 | true=>rw[e] at q;exact MO h1.hd h2 q
 | false=>rw[e] at q;exact QL e h1.hd h2 q
theorem xp6(T:Tx K mg t){a:Z}(ha:a∈cl6 t):Ô K (.ref a) (.type "ValueError")=U Y/\Ù K (.ref a) (.ref t.a_Hd)=U Y:=by
 let q:=W4.mp T.xp a ha;simp only[Xt,W5] at q;exact{QK nofun q.1,q.2}
theorem rR(t:Adr):∀ j,j<6->(cl6 t)[j]? = U (xcl t j)
 | 0,_=>rfl
 | 1,_=>rfl
 | 2,_=>rfl
 | 3,_=>rfl
 | 4,_=>rfl
 | 5,_=>rfl
 | n+6,h=>Þ h %[|8]
theorem Ny(T:Tx K mg t)(hi:i<6)(hj:j<6):Ô K (.ref (xcl t j)) (.ref (xcl t i))=U (decide (j=i)):=by
 let hx:=rR t i hi;let hy:=rR t j hj;rw[Vb T (V8 hy) (V8 hx)];congr 1;rw[WX,W5,decide_eq_true_iff];constructor
 ·intro e;let nd:(cl6 t).Nodup:=X9 T.xn;let(h1,e1):=VB.mp hx;let(h2,e2):=VB.mp hy
  rcases Nat.lt_trichotomy i j with z|z|z
  ·exact Þ (e1.trans (e.symm.trans e2.symm)) (Yt.mp nd i j h1 h2 z)
  ·exact z.symm
  ·exact Þ (e2.trans (e.trans e1.symm)) (Yt.mp nd j i h2 h1 z)
 ·intro e;rw[e]
def j6{p:à->Prop}(h0:p 0)(h1:p 1)(h2:p 2)(h3:p 3)(h4:p 4)(h5:p 5):∀ j,j<6->p j
 | 0,_=>h0
 | 1,_=>h1
 | 2,_=>h2
 | 3,_=>h3
 | 4,_=>h4
 | 5,_=>h5
 | n+6,h=>Þ h %[|8]
def xwd:à->Ç
 | 0 => "view"
 | 1 => "pair"
 | 2 => "count"
 | 3 => "order"
 | 4 => "many"
 | _ => "twice"
def flg(j:à):G Ý:=[decide (j=0),decide (j=1),decide (j=2),decide (j=3),decide (j=4),decide (j=5),Á]
theorem OQ(h:RaW t H E j):(wq=0->RaW t H E j)/\(wq≠0->RaX t f A H E j):={λ _=>h,λ _=>h.x}
theorem Jx(h:lq H d)(e:Ext H H'):lq H' d:=by
 cases d with
 | none=>trivial
 | some dx=>let(o,h1,h2):=h;exact{o,e.at h1,h2}
def Q1{o:HO}(h:lq H d)(e:H p=L):lq (upd H p o) d:=Jx h (Ext.new e)
theorem nE(H:Hp)(f:V->Ü PyData):∀ bs:G Ý,aV ((bs.map V.bl).map (dR H f))=U (bs.map PyData.bool)
 | []=>rfl
 | i::r=>by
  show (aV ((r.map V.bl).map (dR H f))).map _=_
  rw[nE H f r];rfl
theorem pj:∀ bs cs:G Ý,PyData.eqvAll (bs.map PyData.bool) (cs.map PyData.bool)=decide (bs=cs)
 | [],[]=>by rw[YC,fP];rfl
 | [],c::cs=>by rw[YC,Wr,xI];rfl
 | b::bs,[]=>by rw[YC,Wr,lM];rfl
 | b::bs,c::cs=>by rw[Wr,Wr,dq,pj bs cs,Ig];simp
theorem BW{bs:G Ý}(h:H p=U (.lst (bs.map V.bl))):jm H 6 (.ref p)=U (.list (bs.map PyData.bool)):=by
 rw[Jq,eh,h]
 show (aV ((bs.map V.bl).map _)).map _=_
 rw[nE];rfl
theorem QW{bs cs:G Ý}{Q:VK}(hp:H p=U (.lst (bs.map V.bl)))(hq:H q=U (.lst (cs.map V.bl)))(h:Q (.bl (decide (bs=cs))) H):qEq Á (.ref p) (.ref q) H Q:=by
 rw[Dl,BW hp,fM,Jp,BW hq,fM,xx,xH,pj];exact h
def Q8(i:à):G Ý:=(Ì 7).map λ k=>decide (k=i)
abbrev xS(t:Adr)(w:B)(st:V)(u:Z)(v:Z)(x:V)(H:Hp)(Q:VK)(E:XK):Prop:=∃ (l:Z) (vals:G B) (r1 r2 f1 f2:B) (A xL:%[|48]),Au t H w st u v l vals r1 r2 f1 f2 A xL/\((Ar H w x vals.length r1 r2 f1 f2 A xL/\∀ H',Aft w l H H'->Q (.str "none") H')\/∃ j,j<6/\uH H w x vals.length r1 r2 f1 A xL j/\∀ H',Ext H H'->Q (.str (xwd j)) H')
def wH(t:Adr):Sp:=λ vs H Q E=>∃ (w:B) (st:V) (u:Z) (v:Z) (x:V),vs=[.int w,st,.ref u,.ref v,x]/\(xS t w st u v x H Q E)
theorem Ip(t:Adr)(w:B)(st:V)(u:Z)(v:Z)(x:V)(H:Hp)(Q:VK)(E:XK):wH t [.int w,st,.ref u,.ref v,x] H Q E=(xS t w st u v x H Q E):=T7 (f:=λ (w:B) (st:V) (u:Z) (v:Z) (x:V)=>[.int w,st,.ref u,.ref v,x]) %[10,5|63] w st u v x
theorem ud(T:Tx K mg t):%[11,Ek|49] %[|105] (wH t):=by
 intros zz iM;refine T.F_Ek.ok eJ (λ _ _ _ _ h=>T8 h λ _ _ _ _ _=>J) (λ cdv A' outer s' H vs Q E hr h=>?_)
 ·let(wy,st,u,v,x,rfl,l,vals,r1,r2,f1,f2,A,xL,ci,hh):=h;refine{_,%[(@OW _ _ _ _ _ _ _ ⟨rfl,J,J⟩ (λ EX E pn hx=>%[%[(@xo _ _ _ _ _ _ _ _ _ _ _ _ _ _ _ _ _ G_zz (hr.mono ⋯) ∅ T.m_zz T.F_zz.kp T.b_zz .nil hx %[0,%[1,%[2,%[3,%[4|1]|1]|1]|1]|1] ⋯ ∅ ∅ ∅)|19]|10]) (@AV _ _ _ (5) _ _ _ _ _ _ _ _ eJ.nd J J ∅ (.inl T.m_Hd) (λ ee H1=>%[%[6,eJ,%[%[%[isinstance,(dm (K:=K) J),%[5,%[(@ek _ _ (.ref t.a_MG) _ _ ∅ T.m_MG J ⋯)|1]|1]|6],%[%[isinstance,(dm (K:=K) J),%[5,%[(@ek _ _ (.ref t.a_MH) _ _ ∅ T.m_MH J ⋯)|1]|1]|6],%[%[isinstance,(dm (K:=K) J),%[5,%[(@ek _ _ (.ref t.a_Hy) _ _ ∅ T.m_Hy J ⋯)|1]|1]|6],%[%[isinstance,(dm (K:=K) J),%[5,%[(@ek _ _ (.ref t.a_Hz) _ _ ∅ T.m_Hz J ⋯)|1]|1]|6]|1]|1]|1]|1]|16]|4],%[%[6,eJ,%[bb,6,%[%[%[isinstance,(dm (K:=K) J),%[5,%[(@ek _ _ (.ref t.a_HA) _ _ ∅ T.m_HA J ⋯)|1]|1]|6],%[%[isinstance,(dm (K:=K) J),%[5,%[(@ek _ _ (.ref t.a_MK) _ _ ∅ T.m_MK J ⋯)|1]|1]|6],%[(@uX _ _ _ _ %[isinstance,(dm (K:=K) J),%[5,%[(@er _ _ (.ty "ValueError") (.type "ValueError") _ ∅ T.z_ValueError nofun J ⋯ ⋯)|1]|1]|6])|1]|1]|1]|16]|11]|4],%[%[VX,%[T.z_range,%[99|1]|34],%[(7),_,eJ.nd,J,(Or.inr J),%[|7]|17],%[%[%[(br hr.units),6,%[(%[|113]),(1),(aD (aa fV) %[|116] J J nofun),%[T.z_range,%[99|1]|34],%[%[(0),%[|113]|51]|72],%[(@aI _)|72],%[%[(br hr.units),0,8,(ar _)|41]|72]|25],(ar _)|13],%[%[%[%[%[(@bL _ _ _ _),%[(@bL _ _ _ _),%[(@bL _ _ _ _),%[(@bL _ _ _ _),%[(@bL _ _ _ _),%[(@bL _ _ _ _)|1]|1]|1]|1]|1]|1]|16],7|15]|12]|10],(@au _)|14]|10]|24],%[%[(@bL _ _ _ _)|12]|10]|9]|9]|9]) (@By _) ⋯)),%[%[(@bL _ _ _ _)|12]|10]|9],?_};rw[%[%[|116],[.int wy,st,.ref u,.ref v,x],3|53]];clear G_zz;exists hh;exists ci;ac_rfl;rw[pG];refine{l,vals,r1,r2,f1,f2,A,xL,ci (),?_}
  rcases hh () with ⟨hN,k⟩|⟨j,hj,hD,k⟩
  ·refine .inl {hN,λ y H' a=>?_};let k':=k H' a;clear k hh hN ci;ac_rfl
  ·refine .inr {j,hD,OQ λ d H1 e1 hd=>?_};let hm:=V8 (rR t j hj);let ec:=(Fw T hm).1;let(kv,kp):=xp6 T hm;let k0:Ô K (.ref (xcl t j)) (.ref t.a_MG)=_:=Ny T (i:=0) ⋯ hj;let k1:Ô K (.ref (xcl t j)) (.ref t.a_MH)=_:=Ny T (i:=1) ⋯ hj;let k2:Ô K (.ref (xcl t j)) (.ref t.a_Hy)=_:=Ny T (i:=2) ⋯ hj;let k3:Ô K (.ref (xcl t j)) (.ref t.a_Hz)=_:=Ny T (i:=3) ⋯ hj;let k4:Ô K (.ref (xcl t j)) (.ref t.a_HA)=_:=Ny T (i:=4) ⋯ hj;let k5:Ô K (.ref (xcl t j)) (.ref t.a_MK)=_:=Ny T (i:=5) ⋯ hj;exists k;clear hh hD ci hm;ac_rfl;intro e oe he hc a4 nc;let a7:∃ vs,oe.data=.fields vs:=by let(vs,h1,_):=nc;exact{(vs),h1}
   let e2:Ext H (upd H1 e (nW oe)):=e1.trans (Ext.new he);let g2:(upd H1 e (nW oe)) e=U (nW oe):=aj;let d2:lq (upd H1 e (nW oe)) oe.dict:=by rw[a4];exact Q1 hd he
   generalize upd H1 e (nW oe)=H2 at e2 g2 d2;clear he a4 nc e1 hd;ac_rfl;intro l1 H3 _ e3 h3;let g3:=e3.at g2;let d3:=Jx d2 e3;clear g2 d2;ac_rfl;intro l2 H4 _ e4 h4;let a5:=e4.at h3;clear h3;ac_rfl;intro l3 H5 _ e5 h5;let a6:H5 l3=U (.lst ((flg j).map V.bl)):=h5;let k':=λ (H':Hp) (e:Ext H5 H')=>k () H' (e2.trans (e3.trans (e4.trans (e5.trans e))));exists k';clear a5 h4 h5 e2 e3 e4 e5 g3 d3 k k0 k1 k2 k3 k4 k5;ac_rfl;refine qf (λ i σ H'=>∃ v7:Ü V,σ=[%[wy|47],U st,%[u|45],%[v|45],U x,%[e|45],%[l3|45],v7]/\Ext H5 H'/\i<=j) {L,J,Ext.refl _,Wz _} ?_ ?_
   ·rintro i _ H6 hi ⟨v7,rfl,e6,aS⟩;let h6:=e6.at a6;clear a6;simp! only[↓aA];simp only[Ww];refine bc (Ì 7) (λ _=>Y) (λ (k:à)=>.bl (decide ((k:B)=(i:B)))) (λ k x _=>x=.int (0+(k:à))) cF.1 cF.2 ⋯ ?_ ?_
    ·intro D k y H' N1 N0 hz hD e7 hy kk _;subst hy;let a9:=kk rfl H' (Ext.refl _);clear kk hz;simp only[Ww];simp! only[↓aH,↓aK]
    ·intro D H7 hD e7 h7;rw[jl] at h7
     let aX:H7 D=U (.lst ((Q8 i).map V.bl)):=by
      rw[h7];unfold Q8;rw[map_map];refine congrArg (λ z=>U (HO.lst z)) (List.map_congr_left λ k _=>?_)
      show V.bl (decide ((k:B)=(i:B)))=V.bl (decide (k=i))
      congr 1;rw[decide_eq_decide];omega
     let af:=e7.at h6
     let a3:decide (flg j=Q8 i)=decide (i=j):=by
      let key:∀ a:Fin 6,∀ b:Fin 6,decide (flg a.1=Q8 b.1)=decide (b.1=a.1):=by decide
      exact key {(j),hj} ⟨i,hi⟩
     clear h7;rw[A4];refine QW af aX ?_;rw[a3]
     by_cases he:i=j
     ·let kq:=k';subst he;clear k' aX af a3 h6 hD aS;ac_rfl;intro l4 H8 _ e8 h8;let bt:=kq () H8 ((e6.trans e7).trans e8);let bB:atI [V.str "view",V.str "pair",V.str "count",V.str "order",V.str "many",V.str "twice"] ((i:à):B)=U (.str (xwd i)):=j6 (p:=λ i=>atI [V.str "view",V.str "pair",V.str "count",V.str "order",V.str "many",V.str "twice"] ((i:à):B)=U (.str (xwd i))) J J J J J J i hi;clear kq;ac_rfl
     ·let a8:i+1<=j:=by omega
      clear k' aX af a3 h6 hD;ac_rfl;exact{_,J,e6.trans e7}
   ·rintro _ H6 ⟨v7,rfl,e6,aS⟩;exact Þ aS %[|8]
def JB:Ü à->Ç
 | none => "none"
 | some j=>xwd j
def jj(w:B)(b1 b2 b3 b4 b5:Ý)(i:à):Ü à:=if i<=0/\b1=Y then U 1 else if i<=1/\b2=Y then U 2 else if i<=2/\b3=Y/\w<2 then U 3 else if i<=3/\b4=Y then U 4 else if i<=4/\b5=Y/\0<w then U 5 else L
def uC(w:B)(b0 b1 b2 b3 b4 b5:Ý):Ü à:=if w=0/\(b0=Y\/b1=Y) then U 0 else jj w b1 b2 b3 b4 b5 0
def JS  : Sp:=λ vs H Q E=>∃ (w:B) (b:Z),vs=[.int w,.ref b]/\(∃ b0 b1 b2 b3 b4 b5:Ý,H b=U (.lst [.bl b0,.bl b1,.bl b2,.bl b3,.bl b4,.bl b5])/\∀ H',Ext H H'->Q (.str (JB (uC w b0 b1 b2 b3 b4 b5))) H')
theorem Ca  (w:B) (b:Z) (H:Hp) (Q:VK) (E:XK):JS  [.int w,.ref b] H Q E=(∃ b0 b1 b2 b3 b4 b5:Ý,H b=U (.lst [.bl b0,.bl b1,.bl b2,.bl b3,.bl b4,.bl b5])/\∀ H',Ext H H'->Q (.str (JB (uC w b0 b1 b2 b3 b4 b5))) H'):=gv (f:=λ (w:B) (b:Z)=>[.int w,.ref b]) %[4,2|63] w b
theorem vH(T:Tx K mg t):%[1,Ho|49] ["_law_way", "_law_bits"] JS:=by
 refine T.F_Ho.ok kC (λ _ _ _ _ h=>gB h λ _ _=>J) (λ cdv A' outer s' H vs Q E hr h=>?_)
 ·let(wy,b,rfl,b0,b1,b2,b3,b4,b5,hb,k):=h;refine{_,%[%[(PW.pt %[%[(br hr.units),0,99,(ar _)|13],(@fS _ _ _ _ (PW.pt %[%[%[1,99|15]|26],%[%[%[1,99|15]|26]|35]|32]))|38]),%[%[(@bL _ _ _ _)|12]|10],(@au _)|14],%[%[VX,%[%[%[%[%[99,%[(@bL _ _ _ _)|1]|1]|21],%[%[%[99,%[(@bL _ _ _ _)|1]|1]|21],%[%[%[99,%[(@bL _ _ _ _)|1]|1]|21],%[%[%[99,%[(@bL _ _ _ _)|1]|1]|21],%[%[%[99,%[(@bL _ _ _ _)|1]|1]|21]|1]|1]|1]|1]|1]|16]|20],(%[(2),%[%[2,kC|5],%[%[3,kC|5],(@aO _)|18]|18]|29].mono λ _ _ _ _ h=>cp h),%[%[(PW.pt %[%[%[1,2|15]|26],%[(PW.pt %[%[(bM hr.units),2,99,(ar _)|13],%[%[yl,0,99,(ar _)|13]|35]|32]),(@fS _ _ _ _ (PW.pt %[%[(bM hr.units),2,99,(ar _)|13],%[%[nZ,0,99,(ar _)|13]|35]|32]))|38]|38]),%[%[3|12]|10],(@au _)|14]|10]|24],%[%[(@bL _ _ _ _)|12]|10]|9]|9],?_};rw[%[["_law_way", "_law_bits", "_law_k", "_law_word_here"],[.int wy,.ref b],2|53]];exists k
  by_cases hv:wy=0/\(b0=Y\/b1=Y)
  ·let k':=k () H (Ext.refl _);unfold uC at k';rw[if_pos hv] at k';let k1:Q (.str "view") H:=k';let(rfl,hv):=hv;clear k k'
   rcases hv with rfl|rfl
   ·ac_rfl
   ·cases b0
    ·ac_rfl
    ·ac_rfl
  ·let k1:∀ H',Ext H H'->Q (.str (JB (jj wy b1 b2 b3 b4 b5 0))) H':=λ H' e=>by
    have:=k () H' e;unfold uC at this;rw[if_neg hv] at this;exact this
   exists k1;clear k;simp! only[-oM];refine rY (λ σ' H'=>σ'=[%[wy|47],%[b|45],L,L]/\H'=H) (λ a5 hn=>?_) ?_
   ·let a6:=hn _ H {(J),J};clear hn k1
    by_cases h0:wy=0
    ·let a3:b0=Á:=by cases b0 with|false=>rfl|true=>exact Þ {h0,.inl rfl} hv
     let a4:b1=Á:=by cases b1 with|false=>rfl|true=>exact Þ {h0,.inr rfl} hv
     subst a3 a4 h0;clear hv;ac_rfl
    ·clear hv;ac_rfl
   rintro _ _ ⟨rfl,rfl⟩;clear hv;ac_rfl;intro p1 H1 _ e1 h1;let hb:=e1.at hb;ac_rfl;intro p2 H2 _ e2 h2;let h1:=e2.at h1;let hb:=e2.at hb;ac_rfl;intro p3 H3 _ e3 h3;let h1:=e3.at h1;let h2:=e3.at h2;let hb:=e3.at hb;ac_rfl;intro p4 H4 _ e4 h4;let h1:=e4.at h1;let h2:=e4.at h2;let h3:=e4.at h3;let hb:=e4.at hb;ac_rfl;intro p5 H5 _ e5 h5;let h1:=e5.at h1;let h2:=e5.at h2;let h3:=e5.at h3;let h4:=e5.at h4;let hb:=e5.at hb;ac_rfl;intro l6 H6 _ e6 h6;let h1:=e6.at h1;let h2:=e6.at h2;let h3:=e6.at h3;let h4:=e6.at h4;let h5:=e6.at h5;let hb:=e6.at hb;let aX:=e1.trans (e2.trans (e3.trans (e4.trans (e5.trans e6))));replace k1:=λ (H':Hp) (e:Ext H6 H')=>k1 () H' (aX.trans e);exists k1;clear e1 e2 e3 e4 e5 e6 aX;ac_rfl;refine dj (xs:=[.ref p1,.ref p2,.ref p3,.ref p4,.ref p5]) (λ i σ H'=>∃ v2 v3:Ü V,σ=[%[wy|47],%[b|45],v2,v3]/\Ext H6 H'/\jj wy b1 b2 b3 b4 b5 0=jj wy b1 b2 b3 b4 b5 i) ⟨L,L,J,Ext.refl _,J⟩ (λ i σ H' _ ⟨_,_,_,e,_⟩=>e.at h6) ?_ ?_
   ·rintro i y _ H7 hi ⟨v2,v3,rfl,e7,hd⟩;replace k1:=k1 () H7 e7;rw[hd] at k1;exists hd;let a7:=e7.at hb;clear hb h6
    rcases i with _|_|_|_|_|i
    ·cases hi;let h7:=e7.at h1;clear h1 h2 h3 h4 h5
     by_cases hc:b1=Y
     ·let kq:Q (.str "pair") H7:=by
       let e:jj wy b1 b2 b3 b4 b5 0=U 1:=by unfold jj;simp[hc]
       rw[e] at k1;exact k1
      clear k1 hd;subst hc;simp! only[↓aA]
     ·let af:jj wy b1 b2 b3 b4 b5 0=jj wy b1 b2 b3 b4 b5 1:=by rw[hd ()];unfold jj;simp[hc]
      exists af;clear k1 hd
      let aS:b1=Á:=by cases b1 with|false=>rfl|true=>exact Þ rfl hc
      subst aS;clear hc;simp! only[↓aA];exact{_,_,J,e7,af ()}
    ·cases hi;let h7:=e7.at h2;clear h1 h2 h3 h4 h5
     by_cases hc:b2=Y
     ·let kq:Q (.str "count") H7:=by
       let e:jj wy b1 b2 b3 b4 b5 1=U 2:=by unfold jj;simp[hc]
       rw[e] at k1;exact k1
      clear k1 hd;subst hc;simp! only[↓aA]
     ·let af:jj wy b1 b2 b3 b4 b5 0=jj wy b1 b2 b3 b4 b5 2:=by rw[hd ()];unfold jj;simp[hc]
      exists af;clear k1 hd
      let aS:b2=Á:=by cases b2 with|false=>rfl|true=>exact Þ rfl hc
      subst aS;clear hc;simp! only[↓aA];exact{_,_,J,e7,af ()}
    ·cases hi;let h7:=e7.at h3;clear h1 h2 h3 h4 h5
     by_cases hc:b3=Y/\wy<2
     ·let kq:Q (.str "order") H7:=by
       let e:jj wy b1 b2 b3 b4 b5 2=U 3:=by unfold jj;simp[hc]
       rw[e] at k1;exact k1
      clear k1 hd;let(rfl,hw):=hc;simp! only[↓aA]
     ·let af:jj wy b1 b2 b3 b4 b5 0=jj wy b1 b2 b3 b4 b5 3:=by rw[hd ()];unfold jj;simp[hc]
      exists af;clear k1 hd
      cases aS:b3 with
      | false=>
       subst aS;simp! only[↓aA];exact{_,_,J,e7,af ()}
      | true=>
       let hw:¬ wy<2:=λ h=>hc {(aS),h};subst aS;clear hc;simp! only[↓aA];exact{_,_,J,e7,af ()}
    ·cases hi;let h7:=e7.at h4;clear h1 h2 h3 h4 h5
     by_cases hc:b4=Y
     ·let kq:Q (.str "many") H7:=by
       let e:jj wy b1 b2 b3 b4 b5 3=U 4:=by unfold jj;simp[hc]
       rw[e] at k1;exact k1
      clear k1 hd;subst hc;simp! only[↓aA]
     ·let af:jj wy b1 b2 b3 b4 b5 0=jj wy b1 b2 b3 b4 b5 4:=by rw[hd ()];unfold jj;simp[hc]
      exists af;clear k1 hd
      let aS:b4=Á:=by cases b4 with|false=>rfl|true=>exact Þ rfl hc
      subst aS;clear hc;simp! only[↓aA];exact{_,_,J,e7,af ()}
    ·cases hi;let h7:=e7.at h5;clear h1 h2 h3 h4 h5
     by_cases hc:b5=Y/\0<wy
     ·let kq:Q (.str "twice") H7:=by
       let e:jj wy b1 b2 b3 b4 b5 4=U 5:=by unfold jj;simp[hc]
       rw[e] at k1;exact k1
      clear k1 hd;let(rfl,hw):=hc;simp! only[↓aA]
     ·let af:jj wy b1 b2 b3 b4 b5 0=jj wy b1 b2 b3 b4 b5 5:=by rw[hd ()];unfold jj;simp[hc]
      exists af;clear k1 hd
      cases aS:b5 with
      | false=>
       subst aS;simp! only[↓aA];exact{_,_,J,e7,af ()}
      | true=>
       let hw:¬ 0<wy:=λ h=>hc {(aS),h};subst aS;clear hc;simp! only[↓aA];exact{_,_,J,e7,af ()}
    ·simp at hi
   ·rintro _ H7 ⟨v2,v3,rfl,e7,hd⟩;let k2:=k1 () H7 e7;rw[hd] at k2;let kq:Q (.str "none") H7:=k2;clear k1 k2 hd;ac_rfl
theorem kr(A xL:%[|48]):aG (A++xL)=aG A+aG xL:=by
 unfold aG;rw[map_append,List.sum_append]
theorem ku(A xL:%[|48]):aE (A++xL)=aE A+aE xL:=by
 unfold aE;rw[map_append,List.sum_append]
theorem w9:∀ A:%[|48],aG A.reverse=aG A/\aE A.reverse=aE A
 | []=>{(J),J}
 | a::A=>by
  let ih:=w9 A;rw[Zd,kr,ku,ih.1,ih.2,bu,bz,bu,bz,za,zE];omega
def Ce(A xL:%[|48]):axL (A++xL)=axL A++axL xL:=Ws
theorem Q2{R:α->V->Prop}{zs:G α}(h:Al R zs ys):Al R zs.reverse ys.reverse:=by
 refine{by rw[W7,W7,h.1],λ i z y hz hy=>?_};let hi:i<zs.length:=by have:=(VB.mp hz).1;rwa [W7] at this
 rw[YQ hi] at hz;rw[YQ (by rw[h.1];exact hi),h.1] at hy;exact h.2 _ z y hz hy
abbrev xU(C:Z)(v:Z)(m:Z)(room:B)(H:Hp)(Q:VK)(E:XK):Prop:=∃ (r f:B) (A M:%[|48]),ak C H v r f A/\bP H m (axL M)/\A.length<=8/\M.length<=8/\da room f (A++M)/\∀ (x:Z) (H':Hp),Ext H H'->ak C H' x room f ((A++M).map ay)->Q (.ref x) H'
def Ax(C:Z):Sp:=λ vs H Q E=>∃ (v:Z) (m:Z) (room:B),vs=[.ref v,.ref m,.int room]/\(xU C v m room H Q E)
theorem qQ(C:Z)(v:Z)(m:Z)(room:B)(H:Hp)(Q:VK)(E:XK):Ax C [.ref v,.ref m,.int room] H Q E=(xU C v m room H Q E):=wC (f:=λ (v:Z) (m:Z) (room:B)=>[.ref v,.ref m,.int room]) %[6,3|63] v m room
theorem ue(T:Tx K mg t):%[8,El|49] %[|131] (Ax t.a_MN):=by
 intros vY cA;refine T.F_El.ok wz (λ _ _ _ _ h=>Ae h λ _ _ _=>J) (λ cdv A' outer s' H vs Q E hr h=>?_)
 ·let(v,m,room,rfl,r,f,A,M,vo,(ws,hm,af),aX,a3,hok,k):=h;let(dx,D,hv,us,hD,al):=vo.ob;let c1:=T.qA0;let c2:=T.qA5;let c3:=T.qA3;let g1:=dn r f D;let g2:=cH r f D;refine{_,%[%[%[qAj,vY,m_MN,aZ,%[2,%[%[0|22],%[%[bb,%[0|22],1|11]|1]|1]|1]|62]|12]|10],?_};rw[%[%[|131],[.ref v,.ref m,.int room],0|53]];clear G_vY;exists k;let a6:us.length<=8:=by rw[al.1];unfold axL;rw[length_map];exact aX
  let a7:ws.length<=8:=by rw[af.1];unfold axL;rw[length_map];exact a3
  let a8:us.length+ws.length<=Å:=ao %[|8];ac_rfl;intro p1 H1 _ e1 h1;let t1:bP H1 p1 (axL (A++M)):={_,h1,by rw[Ce];exact wU (al.imp λ _ _ z=>bp.ext z e1) (af.imp λ _ _ z=>bp.ext z e1)};exists t1;clear h1 al af hD hm;ac_rfl;intro x aS H3 hx a9 bt e3 h3 bB;rw[gQ];refine{aS,A++M,h3,(t1 ()).ext e3,hok,λ H4 D2 e4 bS a4 a5=>?_};let k':=k () x H4 (e1.trans (e4 H1 e3 hx)) {(aS),D2,a4,a5};clear k;ac_rfl
theorem mz:∀ M:%[|48],(∀ a∈M,a.2=0)->aG M=0/\aE M=0
 | [],_=>{(J),J}
 | a::M,h=>by
  let ih:=mz M λ b hb=>h b (VI _ hb);let h0:=h a VP;rw[bu,bz,ih.1,ih.2,h0,Zn];decide
def NP(r f:B)(A xL:%[|48]):Prop:=da r f xL/\¬ (xL.map λ a=>a.1)=A.map λ a=>a.1
def Fy(M:%[|48]):Prop:=(1<=M.length/\M.length<=2)/\∀ a∈M,(1<=a.1/\a.1<=3)/\a.2=0
instance (M:%[|48]):Decidable (Fy M):=by unfold Fy;infer_instance
theorem da.more{M:%[|48]}(h:da r f A)(h6:A.length<=6)(hM:Fy M):NP r f A (A++M):=by
 let hz:aG (M.map ay)=0/\aE (M.map ay)=0:=mz _ λ a ha=>by
  let(b,hb,rfl):=VT.mp ha
  show (if b.1 > 1 then b.2 else 0)=0
  rw[(hM.2 b hb).2];split<;>rfl
 refine⟨⟨⟨by rw[VN];have:=hM.1;omega,λ a ha=>?_⟩,h.r1,h.r2,?_,?_⟩,λ e=>?_⟩
 ·rcases Wf.mp ha with ha|ha
  ·exact h.ax.2 a ha
  ·have:=(hM.2 a ha).1;omega
 ·rw[Ws,kr,hz.1];have:=h.lo;omega
 ·rw[Ws,ku,hz.2];have:=h.hi;omega
 ·have:=W2 List.length e;rw[VD,VD,VN] at this;have:=hM.1;omega
def oR(h:H p=U (.tup [.int a,.int b])):Al (bp H) (axL [(a,b)]) [.ref p]:=Al.snoc (zs:=[]) (ys:=[]) Al.nil {(p),J,h}
def Ci{c d:B}(h:H p=U (.tup [.int a,.int b]))(h':H q=U (.tup [.int c,.int d])):Al (bp H) (axL [(a,b),(c,d)]) [.ref p,.ref q]:=Al.snoc (zs:=axL [(a,b)]) (ys:=[.ref p]) (oR h) {(q),J,h'}
theorem da.rev(h:da r f A)(hs:¬ (A.map λ a=>a.1)=(A.map λ a=>a.1).reverse):NP r f A A.reverse:=by
 let(g1,g2):=w9 (A.map ay);refine{⟨⟨by rw[W7];exact h.ax.1,λ a ha=>h.ax.2 a (List.mem_reverse.mp ha)⟩,h.r1,h.r2,?_,?_⟩,λ e=>hs ?_}
 ·rw[X2,g1];exact h.lo
 ·rw[X2,g2];exact h.hi
 ·rw[X2] at e;exact e.symm
theorem da.inc{a:B × B}(h:da r f (a::A))(h5:a.1<=5000):NP r f (a::A) ((a.1+1,0)::A):=by
 let h1:=(h.ax.2 a VP).1
 let ez:((a.1+1 - 1) * (ay (a.1+1,(0:B))).2:B)=0:=by show (a.1+1 - 1) * (if a.1+1 > 1 then (0:B) else 0)=0;split<;>simp
 refine{⟨⟨h.ax.1,λ b hb=>?_⟩,h.r1,h.r2,?_,?_⟩,λ e=>?_}
 ·rcases VU.mp hb with rfl|hb
  ·show 1<=a.1+1/\a.1+1<=1000000000;omega
  ·exact h.ax.2 b (VI _ hb)
 ·have:=h.lo;rw[Wr,bu] at this ⊢;let e:(((ay (a.1+1,(0:B))).1 - 1) * (ay (a.1+1,(0:B))).2:B)=0:=ez;rw[e];omega
 ·have:=h.hi;rw[Wr,bz] at this ⊢;let e:(((ay (a.1+1,(0:B))).1 - 1) * (ay (a.1+1,(0:B))).2:B)=0:=ez;rw[e];omega
 ·have:=List.cons.inj e;have:a.1+1=a.1:=this.1;omega
def xF{c:TT}{t u:TS}{D:iG}{σ:St}(R:Ý->Hp->Prop)(h:∀ Qb:Ý->Hp->Prop,(∀ b H',R b H'->Qb b H')->c σ H Qb)(k:∀ b H',R b H'->RZ t u D σ b H'):NJ c t u D σ H:=h _ k
abbrev xV(C:Z)(v:Z)(c:B)(H:Hp)(Q:VK)(E:XK):Prop:=∃ (r f:B) (A:%[|48]),ak C H v r f A/\da r f A/\A.length<=6/\(∀ a∈A,a.1<=5000)/\0<=c/\c<6/\∀ (xL:%[|48]) (x:Z) (H':Hp),Ext H H'->ak C H' x r f (xL.map ay)->NP r f A xL->Q (.ref x) H'
def Ay(C:Z):Sp:=λ vs H Q E=>∃ (v:Z) (c:B),vs=[.ref v,.int c]/\(xV C v c H Q E)
theorem Iq(C:Z)(v:Z)(c:B)(H:Hp)(Q:VK)(E:XK):Ay C [.ref v,.int c] H Q E=(xV C v c H Q E):=gv (f:=λ (v:Z) (c:B)=>[.ref v,.int c]) %[4,2|63] v c
theorem ow(T:Tx K mg t):%[8,zA|49] ["_law_view", "_law_cell"] (Ay t.a_MN):=by
 intros vY cA zB aL;refine T.F_zA.ok bZ (λ _ _ _ _ h=>gB h λ _ _=>J) (λ cdv A' outer s' H vs Q E hr h=>?_)
 ·let(v,c,rfl,r,f,A,vo,hok,c8,ck,c0,c6,k):=h;let(dx,D,hv,us,hD,al):=vo.ob;let c1:=T.qA0;let c2:=T.qA5;let c3:=T.qA3;let c4:=T.qA7;let g1:=dn r f D;let g2:=cH r f D;let g3:=cG r f D;let g4:=vn r f D (m := "sizes") nofun;refine{_,%[%[2,bZ,%[%[0|0],qA0,qA1,zB,aZ|61]|4],%[%[3,bZ,%[iC,T.z_list,%[%[0|22]|1]|33]|4],%[%[(PW.pt %[%[(br hr.units),1,99,(ar _)|13],(@fS _ _ _ _ %[(bM hr.units),2,(@Jg _ _ _ _ _ _ _ %[2|0] %[99|44] (λ _ _ _ h=>h)),(ar _)|13])|38]),%[%[3,bZ,(@Jg _ _ _ _ _ _ _ %[3|0] %[99|44] (λ _ _ _ h=>h))|4]|10],%[%[(PW.pt %[%[nZ,1,99,(ar _)|13],(@fS _ _ _ _ %[(bM hr.units),3,%[(@cZ _)|16],(ar _)|13])|38]),%[%[3,bZ,%[bb,%[%[%[%[%[bN,%[%[3,99|15],99|15],99|11],%[99|1]|1]|21]|1]|16],%[3,%[99|37],(@dg _)|36]|11]|4]|10],%[%[3,bZ,%[bb,3,%[%[%[%[%[%[%[99,%[99|1]|1]|21]|1]|16],%[%[%[%[%[99,%[99|1]|1]|21]|1]|16],%[%[%[%[%[99,%[99|1]|1]|21],%[%[%[99,%[99|1]|1]|21]|1]|1]|16]|1]|1]|1]|16],%[lW,1,99|11]|15]|11]|4]|10]|14]|10]|14],%[%[%[qAj,vY,m_MN,aZ,%[%[0|22],%[%[0|22],%[3|1]|1]|1]|62]|12]|10]|9]|9]|9],?_};rw[%[["_law_view", "_law_cell", "_law_sizes_here", "_law_axes"],[.ref v,.int c],2|53]];clear G_vY G_zB;exists k;let cf:us.length=A.length:=by rw[al.1];unfold axL;rw[length_map]
  let cm:us.length<=6:=by omega
  let d4:us.length<=Å:=ao %[|8];exists cf;exists ck;exists hok;ac_rfl;rw[aR];refine{r,f,A,vo,by omega,λ q1 H1 c9 e1 h1=>?_};let cv:=e1.at hv;let de:=e1.at hD;let cz:=al.imp λ _ _ z=>bp.ext z e1;clear c9 hv hD al;ac_rfl;intro q2 H2 af e2 h2;let cg:=e2.at cv;let bB:=e2.at h1;let aX:=cz.imp λ _ _ z=>bp.ext z e2;let dh:=e1.trans e2;clear af cv h1 de cz e1 e2;simp! only[-oM];refine rY (λ σ' H'=>∃ (xL:%[|48]) (p:Z),σ'=[%[v|45],%[c|47],%[q1|45],%[p|45]]/\Ext H2 H'/\bP H' p (axL xL)/\NP r f A xL) (λ d5 hn=>?_) ?_
  ·exists hn;refine xF (λ b H'=>Ext H2 H'/\(b=Y->¬ (A.map λ a=>a.1)=(A.map λ a=>a.1).reverse)) (λ Qb hq=>?_) ?_
   ·exists hq;clear hn k
    by_cases cN:c=3
    ·let d6:(c=3)=True:=Zx cN;exists cN;ac_rfl;intro q3 H3 _ e3 h3;let d3:=e3.at bB
     by_cases hs:(A.map λ a=>a.1)=(A.map λ a=>a.1).reverse
     ·let dk:H3 q3=U (.lst ((A.map λ a=>a.1).map V.int)):=by rw[h3,←X2,←hs]
      let bS:=hq () Á H3 {e3,λ h=>by cases h};clear h3 hs hq;ac_rfl
     ·let dk:H3 q3=U (.lst ((A.map λ a=>a.1).reverse.map V.int)):=by rw[h3,X2]
      let bS:=hq () Y H3 {e3,λ _=>hs};clear h3 hq;ac_rfl
    ·let bS:=hq () Á H2 {Ext.refl _,λ h=>by cases h};clear hq;ac_rfl
   rintro b H3 ⟨e3,hb⟩;replace h2:=e3.at h2;replace aX:=aX.imp λ _ _ z=>bp.ext z e3;let ea:=λ (_:Unit)=>e3;clear bB cg e3
   cases b with
   | true=>
    replace hb:=hb J;exists hb;ac_rfl;intro q4 H4 _ e4 h4;let cO:=hn () [%[v|45],%[c|47],%[q1|45],%[q4|45]] H4 {A.reverse,q4,J,(ea ()).trans e4,{_,h4,by unfold axL;rw[map_reverse];exact Q2 (aX.imp λ _ _ z=>bp.ext z e4)},(hok ()).rev (hb ())};clear hn;ac_rfl
   | false=>
    rw[Jo,VY ⋯];clear hb;refine xF (λ b H'=>Ext H3 H'/\(b=Y->A ≠ [])) (λ Qb hq=>?_) ?_
    ·exists hq;clear hn k
     by_cases hc4:3<c
     ·ac_rfl;intro q3 H4 _ e3 h3;let af:=e3.at h2;let ta:=wY (f:=dR H4 (dR H4 (dR H4 noD))) (aX.imp λ _ _ z=>bp.ext z e3)
      by_cases hA0:A=[]
      ·let bS:=hq () Á H4 {e3,λ h=>by cases h};subst hA0;let dr:us=[]:=WH (by rw[cf ()];rfl);subst dr;clear hq ta;ac_rfl
      ·let bS:=hq () Y H4 {e3,λ _=>hA0};let(a0,A0,rfl):=List.exists_cons_of_ne_nil hA0;let d7:PyData.eqvAll ((axL (a0::A0)).map λ z=>PyData.tuple (z.map PyData.int)) []=Á:=by unfold axL;rw[map_cons,map_cons,lM]
       clear hq;ac_rfl
     ·let bS:=hq () Á H3 {Ext.refl _,λ h=>by cases h};clear hq;ac_rfl
    rintro b H4 ⟨e4,hb⟩;replace h2:=e4.at h2;replace aX:=aX.imp λ _ _ z=>bp.ext z e4;replace ea:=λ (_:Unit)=>(ea ()).trans e4;clear e4
    cases b with
    | true=>
     let(a0,A0,rfl):=List.exists_cons_of_ne_nil (hb J);obtain⟨u0,bt,rfl⟩:∃ u0 bt,us=u0::bt:=List.exists_cons_of_ne_nil (λ z=>by have:=cf ();rw[z] at this;cases this);let(w0,rfl,cT):=aX.2 0 [a0.1,a0.2] u0 J J;let a9:Al (bp H4) (axL A0) bt:=⟨by have:=aX.1;unfold axL at this ⊢;simpa using this,λ i z y hz hy=>aX.2 (i+1) z y hz hy⟩;let h5:=ck () a0 mem_cons_self;let dy:H4 w0=U (.tup [.int a0.1,.int a0.2]):=cT;exists h5;clear hb aX cT;ac_rfl;intro p4 H5 z4 e4 h4;replace h2:=e4.at h2;replace a9:=a9.imp λ _ _ z=>bp.ext z e4;replace ea:=λ (_:Unit)=>(ea ()).trans e4;clear z4 e4 dy;ac_rfl;intro l5 H6 z5 e5 cV;replace h2:=e5.at h2;replace h4:=e5.at h4;replace a9:=a9.imp λ _ _ z=>bp.ext z e5;replace ea:=λ (_:Unit)=>(ea ()).trans e5;clear z5 e5;ac_rfl;intro l6 H7 z6 e6 h6;rw[lN _ 1 ⋯] at h6;replace h6:H7 l6=U (.lst bt):=h6;replace cV:=e6.at cV;replace h4:=e6.at h4;replace a9:=a9.imp λ _ _ z=>bp.ext z e6;replace ea:=λ (_:Unit)=>(ea ()).trans e6;let dN:1+bt.length<=Å:=ao (by have:bt.length+1<=6:=cm;omega);clear z6 e6 h2;ac_rfl;intro l7 H8 z7 e7 h7;let cO:=hn () [%[v|45],%[c|47],%[q1|45],%[l7|45]] H8 {(a0.1+1,0)::A0,l7,J,(ea ()).trans e7,{_,h7,wU (oR (e7.at h4)) (a9.imp λ _ _ z=>bp.ext z e7)},(hok ()).inc (h5 ())};clear hn;ac_rfl
    | false=>
     clear hb;let af:=h2;let aS:=aX;clear h2 aX;ac_rfl;intro p1 G0 z0 a0 b0;clear z0;replace af:=a0.at af;replace aS:=aS.imp λ _ _ z=>bp.ext z a0;replace ea:=λ (_:Unit)=>(ea ()).trans a0;clear a0;ac_rfl;intro l1 G1 z1 a1 b1;clear z1;replace b0:=a1.at b0;replace af:=a1.at af;replace aS:=aS.imp λ _ _ z=>bp.ext z a1;replace ea:=λ (_:Unit)=>(ea ()).trans a1;clear a1;ac_rfl;intro p2 G2 z2 a2 b2;clear z2;replace b0:=a2.at b0;replace b1:=a2.at b1;replace af:=a2.at af;replace aS:=aS.imp λ _ _ z=>bp.ext z a2;replace ea:=λ (_:Unit)=>(ea ()).trans a2;clear a2;ac_rfl;intro l2 G3 z3 a3 b3;clear z3;replace b0:=a3.at b0;replace b1:=a3.at b1;replace b2:=a3.at b2;replace af:=a3.at af;replace aS:=aS.imp λ _ _ z=>bp.ext z a3;replace ea:=λ (_:Unit)=>(ea ()).trans a3;clear a3;ac_rfl;intro p3 G4 z4 a4 b4;clear z4;replace b0:=a4.at b0;replace b1:=a4.at b1;replace b2:=a4.at b2;replace b3:=a4.at b3;replace af:=a4.at af;replace aS:=aS.imp λ _ _ z=>bp.ext z a4;replace ea:=λ (_:Unit)=>(ea ()).trans a4;clear a4;ac_rfl;intro p4 G5 z5 a5 b5;clear z5;replace b0:=a5.at b0;replace b1:=a5.at b1;replace b2:=a5.at b2;replace b3:=a5.at b3;replace b4:=a5.at b4;replace af:=a5.at af;replace aS:=aS.imp λ _ _ z=>bp.ext z a5;replace ea:=λ (_:Unit)=>(ea ()).trans a5;clear a5;ac_rfl;intro l3 G6 z6 a6 b6;clear z6;replace b0:=a6.at b0;replace b1:=a6.at b1;replace b2:=a6.at b2;replace b3:=a6.at b3;replace b4:=a6.at b4;replace b5:=a6.at b5;replace af:=a6.at af;replace aS:=aS.imp λ _ _ z=>bp.ext z a6;replace ea:=λ (_:Unit)=>(ea ()).trans a6;clear a6;ac_rfl;intro zC G7 z7 a7 b7;clear z7;replace b0:=a7.at b0;replace b1:=a7.at b1;replace b2:=a7.at b2;replace b3:=a7.at b3;replace b4:=a7.at b4;replace b5:=a7.at b5;replace b6:=a7.at b6;replace af:=a7.at af;replace aS:=aS.imp λ _ _ z=>bp.ext z a7;replace ea:=λ (_:Unit)=>(ea ()).trans a7;clear a7;ac_rfl;refine sL (λ y=>∃ (m:Z) (M:%[|48]),y=.ref m/\bP G7 m (axL M)/\Fy M) %[|8] (by show c % 3<((3:à):B);omega) (λ y hy=>?_) λ y hy=>?_
     ·simp only[VU,VM,V6] at hy
      rcases hy with rfl|rfl|rfl
      ·exact{l1,[(1,0)],J,{_,b1,oR b0},by decide,by decide}
      ·exact{l2,[(2,0)],J,{_,b3,oR b2},by decide,by decide}
      ·exact{l3,[(3,0),(1,0)],J,{_,b6,Ci b4 b5},by decide,by decide}
     let(m,M,rfl,(ws,hm,c5),hM):=hy;let d0:ws.length=M.length:=by rw[c5.1];unfold axL;rw[length_map]
     let dN:us.length+ws.length<=Å:=ao (by have:=hM.1;omega);exists d0;exists hM;clear b0 b1 b2 b3 b4 b5 b6 b7;ac_rfl;intro q9 G8 _ a8 b8;let cO:=hn () [%[v|45],%[c|47],%[q1|45],%[q9|45]] G8 {A++M,q9,J,(ea ()).trans a8,{_,b8,by rw[Ce];exact wU (aS.imp λ _ _ z=>bp.ext z a8) (c5.imp λ _ _ z=>bp.ext z a8)},(hok ()).more c8 (hM ())};clear hn;ac_rfl
  rintro _ H3 ⟨xL,p,rfl,e3,t3,hB⟩;let d8:=e3.at cg;exists hB;clear cg bB aX h2;ac_rfl;intro x c7 H4 hx d9 eb e4 h4 ec;rw[gQ];refine{c7,xL,h4,t3.ext e4,(hB ()).1,λ H5 D2 e5 ee d1 d2=>?_};let k':=k () xL x H5 (dh.trans (e3.trans (e5 H3 e4 hx))) {(c7),D2,d1,d2} (hB ());clear k;ac_rfl
def wI(t:Adr):Sp:=λ vs H Q E=>∃ (s0:V) (u:Z) (v:Z) (x:V),vs=[s0,.ref u,.ref v,x]/\(∃ (r f1 f2:B) (A xL:%[|48]) (j:à),ak t.a_MN H u r f1 A/\ak t.a_MN H v r f2 xL/\bY A/\bY xL/\(A.map λ a=>a.1)=(xL.map λ a=>a.1)/\gz A.length H x/\TwD f1 A j/\∀ H',Ext H H'->Q (.bl Y) H')
theorem lP(t:Adr)(s0:V)(u:Z)(v:Z)(x:V)(H:Hp)(Q:VK)(E:XK):wI t [s0,.ref u,.ref v,x] H Q E=(∃ (r f1 f2:B) (A xL:%[|48]) (j:à),ak t.a_MN H u r f1 A/\ak t.a_MN H v r f2 xL/\bY A/\bY xL/\(A.map λ a=>a.1)=(xL.map λ a=>a.1)/\gz A.length H x/\TwD f1 A j/\∀ H',Ext H H'->Q (.bl Y) H'):=NK (f:=λ (s0:V) (u:Z) (v:Z) (x:V)=>[s0,.ref u,.ref v,x]) %[8,4|63] s0 u v x
theorem nP(T:Tx K mg t):%[11,zr|49] %[|133] (wI t):=by
 intros zz iM DZ qZ DU dX Ed k9;refine T.F_zr.ok dB (λ _ _ _ _ h=>Q6 h λ _ _ _ _=>J) (λ cdv A' outer s' H vs Q E hr h=>?_)
 ·let(s0,u,v,x,rfl,r,f1,f2,A,xL,j,vu,vv,hA,hB,hs,hG,hj,k):=h;let(dx,D,hu,_):=vu.ob;let c1:=T.qA0;let g1:=vn r f1 D (m := "count") nofun;let g2:=vn r f1 D (m := "cell") nofun;refine{_,%[%[VX,%[%[%[99,%[99,%[99|1]|1]|1]|16]|20],%[4,dB|5],%[(@KI _ _ _ _ _ _ _ _ _ ⟨rfl,J,J⟩ (λ EX E pn hx=>%[%[(@xo _ _ _ _ _ _ _ _ _ _ _ _ _ _ _ _ _ G_zz (hr.mono ⋯) ∅ T.m_zz T.F_zz.kp T.b_zz .nil hx %[4,%[(@js _ _ _),%[1,%[2,%[3|1]|1]|1]|1]|1] ⋯ ∅ ∅ ∅)|19]|10]) (@AV _ _ _ (5) _ _ _ _ _ _ _ _ dB.nd J J ∅ (.inl T.m_HA) (λ ee H1=>%[%[(PW.pt %[%[%[%[G_DZ,((hr.mono ⋯).hand _),∅,T.m_DZ,T.F_DZ.kp,T.b_DZ,.nil,aZ,%[(@il _ (K) J _ _ _ _ %[5|0] rfl)|1],⋯,∅,∅,∅|28]|26]|31],%[%[(bM hr.units),(@il _ (K) J _ _ _ _ %[5|0] rfl),%[%[1|0],T.qA0,T.qAd,G_DU,((hr.mono ⋯).hand _),T.b_DU,.nil,aZ,∅,∅|23],(ar _)|13]|35]|32]),%[%[(@gy _ _ _ _)|12]|10],(@au _)|14]|10]) (@AV _ _ _ (5) _ _ _ _ _ _ _ _ dB.nd J J ∅ (.inl T.m_MK) (λ ee H1=>%[%[(PW.pt %[%[(br hr.units),(@il _ (K) J _ _ _ _ %[5|0] rfl),(@il _ (K) J _ _ _ _ %[5|0] rfl),(ar _)|13],%[%[(bM hr.units),%[%[1|0],T.qA0,T.qAe,G_Ed,((hr.mono ⋯).hand _),T.b_Ed,.nil,aZ,%[(@il _ (K) J _ _ _ _ %[5|0] rfl)|1],∅,∅,∅,∅|42],%[%[1|0],T.qA0,T.qAe,G_Ed,((hr.mono ⋯).hand _),T.b_Ed,.nil,aZ,%[(@il _ (K) J _ _ _ _ %[5|0] rfl)|1],∅,∅,∅,∅|42],(ar _)|13]|35]|32]),%[%[(@gy _ _ _ _)|12]|10],(@au _)|14]|10]) (@By _) ⋯) ⋯) %[%[(@gy _ _ _ _)|12]|10])|10]|24],%[%[(@gy _ _ _ _)|12]|10]|9],?_};rw[%[["_law_script", "_law_one", "_law_other", "_law_order", "_law_way", "e"],[s0,.ref u,.ref v,x],2|53]];clear G_zz G_DZ G_DU G_Ed;exists k;exists hj;exists hs;let b2:Ù K (.ref (xcl t 4)) (.ref t.a_HA)=U Y:=T.qA6;let b3:Ù K (.ref (xcl t 5)) (.ref t.a_HA)=U Á:=T.qAa;let b6:Ù K (.ref (xcl t 5)) (.ref t.a_MK)=U Y:=T.qAc;let b7:=(Fw T (V8 (rR t 4 ⋯))).1;let a9:=(Fw T (V8 (rR t 5 ⋯))).1;let b8:cq K (xcl t 4) "number":=T.qAm;let cf:cq K (xcl t 5) "one":=T.qB0;let cg:cq K (xcl t 5) "other":=T.qAr;ac_rfl;intro l1 H1 _ e1 h1;ac_rfl;refine dj (xs:=[.int 1,.int 2,.int 3]) (λ i σ H'=>∃ v4:Ü V,σ=[U s0,%[u|45],%[v|45],U x,v4,L]/\Ext H1 H') ⟨L,J,Ext.refl _⟩ (λ i σ H' _ ⟨_,_,e⟩=>e.at h1) ?_ ?_
  ·rintro i y _ H2 hi ⟨v4,rfl,e2⟩;let a6:=e1.trans e2
   obtain⟨wy,rfl,w1,w3⟩:∃ wy:B,y=.int wy/\1<=wy/\wy<=3:=by
    rcases i with _|_|_|i
    ·cases hi;exact{1,J,by decide,by decide}
    ·cases hi;exact{2,J,by decide,by decide}
    ·cases hi;exact{3,J,by decide,by decide}
    ·simp at hi
   let bt:wy≠0:=by omega
   let a3:uH H2 wy x 0 r r f1 A xL j:={λ h=>Þ h bt,λ _=>.inr {J,.inr {hs (),.inr {hG.ext a6,hj ()}}},λ _=>.inr {J,.inr {hs (),hj ()}}};exists a3;exists bt;clear h1 hi;simp! only[↓aA];rw[pG];refine{u,[],r,r,f1,f2,A,xL,{by omega,vu.ext a6,vv.ext a6,hA,hB,λ h=>Þ h (bt ())},.inr {j,a3 (),λ h=>Þ h (bt ()),λ _ d H3 e3 hd=>?_}};let aS:=a6.trans e3;let eI:=e2.trans e3
   rcases hj () with ⟨rfl,cV⟩|⟨rfl,hc,cz⟩
   ·let(dx,rfl,a8):=hd;clear a3 hj;ac_rfl;intro e oe he a4 a5 nc;let aX:∃ vs,oe.data=.fields vs:=by let(vs,h1,_):=nc;exact{(vs),h1}
    let e4:Ext H3 (upd H3 e (nW oe)):=Ext.new he;let g4:(upd H3 e (nW oe)) e=U (nW oe):=aj;let af:=e4.at a8;let a7:=(aS.trans e4).at hu;replace eI:=λ (_:Unit)=>eI.trans e4;replace aS:=λ (_:Unit)=>aS.trans e4;generalize upd H3 e (nW oe)=H4 at eI aS e4 g4 af a7;clear he a8 e4 nc e3 a6 e2 e1 b2 b3 b6 hu;ac_rfl;refine{e,oe,_,dx,_,_,J,g4,a4,a5,aX,af,b7,b8,J,?_};simp! only[↓bH];refine{e,oe,_,dx,_,_,J,g4,a4,a5,aX,af,b7,b8,J,?_};ac_rfl;rw[iD];refine{r,f1,A,vu.ext (aS ()),hA,λ H5 e5=>?_};let eF:=λ (_:Unit)=>(eI ()).trans e5;clear g4 af a7 e5;ac_rfl;exact{_,J,eF ()}
   ·let(dx,p,q,i',j',c,rfl,cN,ck,b1,a8,hp,hq):=hd;clear a3 hj;ac_rfl;intro e oe he a4 a5 nc;let aX:∃ vs,oe.data=.fields vs:=by let(vs,h1,_):=nc;exact{(vs),h1}
    let e4:Ext H3 (upd H3 e (nW oe)):=Ext.new he;let g4:(upd H3 e (nW oe)) e=U (nW oe):=aj;let af:=e4.at a8;let a7:=(aS.trans e4).at hu;let bB:=e4.at hp;let bS:=e4.at hq;replace eI:=λ (_:Unit)=>eI.trans e4;replace aS:=λ (_:Unit)=>aS.trans e4;generalize upd H3 e (nW oe)=H4 at eI aS e4 g4 af a7 bB bS;clear he a8 e4 nc e3 a6 e2 e1 b2 b3 b6 hu hp hq;let a1:∀ a∈A,(1:B)<=a.1:=λ a ha=>(hA.2 a ha).1;let n1:∀ n∈A.map (λ a=>a.1),1<=n/\n<=1000000000:=λ n hn=>by let(a,ha,rfl):=VT.mp hn;exact hA.2 a ha
    let z1:=iB a1 ck;let z2:=iB a1 b1;let cO:=aM f1 A a1;let l2:=(VB.mp b1).1
    let cm:¬ aC (A.map λ a=>a.1) (i':B)=aC (A.map λ a=>a.1) (j':B):=λ h=>by
     have:=su (λ n hn=>(n1 n hn).1) %[|8] %[|8] %[|8] %[|8] h;omega
    let r1:=InR.split (A.map λ a=>a.1) (i':B) n1;let r2:=InR.split (A.map λ a=>a.1) (j':B) n1;generalize aC (A.map λ a=>a.1) (i':B)=pl at bB z1 cm r1;generalize aC (A.map λ a=>a.1) (j':B)=ql at bS z2 cm r2;exists z1;exists z2;clear ck b1 cO l2 n1 a1 cN hc cz;ac_rfl;refine{e,oe,_,dx,_,_,J,g4,a4,a5,aX,af,a9,cf,J,?_};ac_rfl;refine{e,oe,_,dx,_,_,J,g4,a4,a5,aX,af,a9,cg,J,?_};ac_rfl;refine{e,oe,_,dx,_,_,J,g4,a4,a5,aX,af,a9,cf,J,?_};ac_rfl;rw[lQ];refine{r,f1,A,pl,vu.ext (aS ()),hA,bB,r1,λ H5 e5=>?_};rw[←z1 ()];let g5:=e5.at g4;let b0:=e5.at af;let cT:=e5.at a7;let cv:=e5.at bS;let eF:=λ (_:Unit)=>(eI ()).trans e5;replace aS:=λ (_:Unit)=>(aS ()).trans e5;clear g4 af a7 bS bB e5;ac_rfl;refine{e,oe,_,dx,_,_,J,g5,a4,a5,aX,b0,a9,cg,J,?_};ac_rfl;rw[lQ];refine{r,f1,A,ql,vu.ext (aS ()),hA,cv,r2,λ H6 e6=>?_};rw[←z2 ()];replace eF:=λ (_:Unit)=>(eF ()).trans e6;clear g5 b0 cT cv e6;ac_rfl;exact{_,J,eF ()}
  ·rintro _ H2 ⟨v4,rfl,e2⟩;let k':=k () H2 (e1.trans e2);clear k hj;ac_rfl
theorem J5(A:%[|48]):(A.map ay).map ay=A.map ay:=by
 rw[WC];refine XN λ a _=>?_
 show ((a.1,if a.1 > 1 then (if a.1 > 1 then a.2 else 0) else 0):B × B)=(a.1,if a.1 > 1 then a.2 else 0)
 split<;>rfl
def cK(b4 b5:Ý)(c:B):%[|48]:=(if b4=Y then [(c,0)] else [])++(if b5=Y then [(2,0)] else [])
theorem jD(b4 b5:Ý)(c:B):(cK b4 b5 c).length<=2:=by unfold cK;cases b4<;>cases b5<;>simp
theorem jC{c:B}{a:B × B}(h:a∈cK b4 b5 c):(a.1=c/\b4=Y\/a.1=2)/\a.2=0:=by
 unfold cK at h
 cases b4<;>cases b5<;>simp at h
 ·subst h;simp
 ·subst h;simp
 ·rcases h with h|h<;>subst h<;>simp
theorem mS(b4 b5:Ý)(c:B):(cK b4 b5 c).map ay=cK b4 b5 c:=by
 rw[XN (g:=id) λ a ha=>?_,List.map_id];have:=(jC ha).2
 show ((a.1,if a.1 > 1 then a.2 else 0):B × B)=a
 rw[this]
 split<;>exact Prod.ext J this.symm
theorem Df(b4 b5:Ý)(c:B):aG (cK b4 b5 c)=0/\aE (cK b4 b5 c)=0:=mz _ λ a ha=>(jC ha).2
theorem iS{af c:B}{zn:%[|48]}(h:da room f zn)(h6:zn.length<=6)(hc:1<=c/\c<=5000)(r1:room<=af)(r2:af<=5000):da af f (zn.map ay++cK b4 b5 c):=by
 let g:=Df b4 b5 c;refine{⟨?_,λ a ha=>?_⟩,by have:=h.r1;omega,by omega,?_,?_}
 ·rw[VN,VD];have:=jD b4 b5 c;omega
 ·rcases Wf.mp ha with ha|ha
  ·exact h.ax.kept.2 a ha
  ·have:=(jC ha).1;omega
 ·rw[Ws,J5,mS,kr,g.1];have:=h.lo;omega
 ·rw[Ws,J5,mS,ku,g.2];have:=h.hi;omega
theorem gM(zn:%[|48])(b4 b5:Ý)(c:B):(zn.map ay++cK b4 b5 c).map ay=zn.map ay++cK b4 b5 c:=by rw[Ws,J5,mS]
theorem jZ(hl:ps.length=ms.length)(b4 b5:Ý)(c:B):(((ms.zip ps).map ay++cK b4 b5 c).map λ a=>a.1)=ms++(cK b4 b5 c).map λ a=>a.1:=by
 rw[Ws,ei,Ko hl]
theorem Dg(b4 b5:Ý)(c:B):ae ((cK b4 b5 c).map λ a=>a.1)=(if b4=Y then c else 1) * (if b5=Y then 2 else 1):=by
 unfold cK;cases b4<;>cases b5<;>simp[ae]
theorem zH(f:B)(A:%[|48]):ah f (A++[(2,0)])=(ah f A).flatMap λ c=>[c,c]:=by
 rw[jb]
 show cc (ah f A) (2,0)=_
 unfold cc;refine congrArg (λ g=>List.flatMap g (ah f A)) ?_;funext c;simp[List.range_succ]
theorem vm(h:∀ a∈A,(1:B)<=a.1):¬ (ah f (A++[(2,0)])).Nodup:=by
 rw[zH];let hl:=aM f A h;let hp:=aU (A.map λ a=>a.1) λ m hm=>by let(a,ha,rfl):=VT.mp hm;exact h a ha
 cases hc:ah f A with
 | nil=>rw[hc] at hl;have:(0:B)=_:=hl;omega
 | cons c cs=>intro hn;rw[Yb] at hn;simp at hn
theorem QY{x:V}{n f1 f2 r2:B}{xL:%[|48]}{b0 b1 b2 b3:Ý}(hw:0<=wq/\wq<=4)
  (hn:n=r+(if b0=Y then 1 else 0)) (hr:r2=r+(if b1=Y then 1 else 0)) (a3:1<=r)
  (s0:b2=Á->(A.map λ a=>a.1)=xL.map λ a=>a.1) (s1:b2=Y->¬ (A.map λ a=>a.1)=xL.map λ a=>a.1)
  (o0:b3=Á->gz A.length H x) (o1:b3=Y->bF A.length H x)
  (p1:b4=Y->4096<ae (A.map λ a=>a.1)) (p0:b4=Á->ae (A.map λ a=>a.1)<=4096)
  (d1:b4=Á->b5=Y->¬ (ah f1 A).Nodup) (d0:b4=Á->b5=Á->ae (A.map λ a=>a.1)<=60/\(ah f1 A).Nodup)
  (kA:A.map ay=A) (hA:b4=Á->∀ a∈A,1<=a.1/\a.1<=6) (fA:0<=f1+aG A/\f1+aE A<r) (hB:b2=Á->xL.map ay=xL/\0<=f2+aG xL/\f2+aE xL<r) :
  (uC wq b0 b1 b2 b3 b4 b5=L/\Ar H wq x n r r2 f1 f2 A xL)\/∃ j,uC wq b0 b1 b2 b3 b4 b5=U j/\j<6/\uH H wq x n r r2 f1 A xL j:=by
 unfold uC jj
 by_cases h0:wq=0/\(b0=Y\/b1=Y)
 ·rw[V7 h0];refine .inr {0,J,by decide,λ _=>.inl {J,λ h=>?_},λ h=>Þ h %[|8],λ h=>Þ h %[|8]}
  rcases h0.2 with h'|h'<;>subst h'<;>simp at hn hr<;>omega
 rw[VY h0]
 cases b1 with
 | true=>
  let w0:wq≠0:=λ h=>h0 {h,.inr rfl};let aX:r≠r2:=by simp at hr;omega
  exact .inr {1,by simp,by decide,λ h=>Þ h w0,λ _=>.inl {(J),aX},λ _=>.inl {(J),aX}}
 | false=>
 let af:r=r2:=by simp at hr;omega
 let aS:wq=0->r=n/\r2=n:=λ h=>by
  cases b0 with
  | true=>exact Þ {h,.inl J} h0
  | false=>simp at hn;omega
 cases b2 with
 | true=>
  let hs:=s1 rfl;exact .inr {2,by simp,by decide,λ h=>.inr {aS h,.inl {(J),hs}},λ _=>.inr {af,.inl {(J),hs}},λ _=>.inr {af,.inl {(J),hs}}}
 | false=>
 let hs:=s0 rfl
 by_cases h3:b3=Y/\wq<2
 ·let hb:=o1 h3.1;exact .inr {3,by simp[h3],by decide,λ h=>.inr {aS h,.inr {hs,.inl {(J),hb}}},λ _=>.inr {af,.inr {hs,.inl {(J),hb}}},λ h=>Þ h %[|8]}
 let hG:wq<2->gz A.length H x:=λ h=>o0 (by cases b3 with|false=>rfl|true=>exact Þ {(J),h} h3)
 cases b4 with
 | true=>
  let hp:=p1 rfl;exact .inr {4,by simp[h3],by decide,λ h=>.inr {aS h,.inr {hs,.inr {J,hG %[|8],hp}}},λ h=>.inr {af,.inr {hs,.inr {hG %[|8],.inl {(J),hp}}}},λ _=>.inr {af,.inr {hs,.inl {(J),hp}}}}
 | false=>
 let hp:=p0 rfl
 by_cases h5:b5=Y/\0<wq
 ·let hd:=d1 rfl h5.1;exact .inr {5,by simp[h3,h5],by decide,λ h=>Þ h %[|8],λ h=>.inr {af,.inr {hs,.inr {hG %[|8],.inr {(J),hp,hd}}}},λ _=>.inr {af,.inr {hs,.inr {(J),hp,hd}}}}
 ·refine .inl {by simp[h3,h5],af,hs,λ h=>{(aS h).1,by have:=(aS h).1;omega,kA,(hB J).1,hG %[|8],hA J,hp,?_,?_},λ h=>?_,λ h=>hG %[|8]}
  ·have:=(aS h).1;omega
  ·have:=(aS h).1;have:=(hB J).2;omega
  ·refine d0 J ?_
   cases b5 with
   | false=>rfl
   | true=>exact Þ {J,by omega} h5
def Vh(c:B):V->V
 | .int p=>.bl (decide (c / p % 2=1))
 | _=>.non
theorem Jb(b:Ý)(x:V):(È (if b=Y then (1:B) else 0).toNat [x]).flatten=if b=Y then [x] else []:=by cases b<;>rfl
theorem Nr{t1 t4:Z}{cz:B}(h1:H t1=U (.tup [.int cz,.int 0]))(h4:H t4=U (.tup [.int 2,.int 0]))(b4 b5:Ý):Al (bp H) (axL (cK b4 b5 cz)) ((if b4=Y then [.ref t1] else [])++(if b5=Y then [.ref t4] else [])):=by
 cases b4<;>cases b5
 ·exact Al.nil
 ·exact oR h4
 ·exact oR h1
 ·exact Ci h1 h4
theorem wX{wy:B}{st x:V}{u v l:Z}{r1 r2 f1 f2:B}{xL:%[|48]}{Q:VK}(ci:Au t H wy st u v l vals r1 r2 f1 f2 A xL)(res:Ü à)(hd:(res=L/\Ar H wy x vals.length r1 r2 f1 f2 A xL)\/∃ j,res=U j/\j<6/\uH H wy x vals.length r1 r2 f1 A xL j)
  (k:∀ H',(res=L->Aft wy l H H')->(res≠L->Ext H H')->Q (.str (JB res)) H'):wH t [.int wy,st,.ref u,.ref v,x] H Q E:=by
 rw[Ip];refine{l,vals,r1,r2,f1,f2,A,xL,ci,?_}
 rcases hd with ⟨rfl,hN⟩|⟨j,rfl,hj,hS⟩
 ·exact .inl {hN,λ H' a=>k H' (λ _=>a) λ h=>Þ J h}
 ·exact .inr {j,hj,hS,λ H' e=>k H' (λ h=>by cases h) λ _=>e}
theorem FH(j:à):¬ (xwd j=("none":Ç)):=by
 match j with
 | 0=>decide
 | 1=>decide
 | 2=>decide
 | 3=>decide
 | 4=>decide
 | _+5=>show ¬ (("twice":Ç) = "none");decide
def yh(H:Hp)(l:Z):Hp:=λ b=>if b=l then L else H b
def CY(H:Hp)(l:Z):yh H l l=L:=V7 J
theorem Gw(H:Hp)(l:Z):Ext (yh H l) H:=nY.ext λ b u e=>by
 unfold yh at e;split at e
 ·cases e
 ·exact e
theorem Ic{H0:Hp}{l:Z}(e:Ext H0 H)(h:H0 l=L):Ext H0 (yh H l):=nY.ext λ b u q=>by
 unfold yh;rw[if_neg (λ z=>by rw[z,h] at q;cases q)];exact e.at q
def LpI(C:Z)(Fm:Hp)(s l:Z)(vals:G B)(d0:Ü à)(i:à)(H':Hp):Prop:=Ext Fm H'/\((i<=4\/d0≠L)->bQ C H' s l vals)
theorem OP(n:à):((Ì n).map λ (k:à)=>(k:B) * (k:B)).length=n:=by rw[VD,V5]
theorem oX(hs:SzK ms)(hl:ps.length=ms.length){c:B}(hc:4097<=c):(b4=Y->4096<ae (((ms.zip ps).map ay++cK b4 b5 c).map λ a=>a.1))/\(b4=Á->ae (((ms.zip ps).map ay++cK b4 b5 c).map λ a=>a.1)<=4096)/\(b4=Á->b5=Á->ae (((ms.zip ps).map ay++cK b4 b5 c).map λ a=>a.1)<=60):=by
 rw[jZ hl,bT,Dg];let h1:=aU ms λ m hm=>(hs.pos.1 m hm).1;let h2:=hs.pos.2.2;generalize ae ms=z at h1 h2;refine{λ h=>?_,λ h=>?_,λ h h'=>?_}
 ·subst h;cases b5
  ·show 4096<z * (c * 1)
   rw[Yn];have:=WV h1 hc %[|8] %[|8];omega
  ·show 4096<z * (c * 2)
   have:=WV h1 (show 4097<=c * 2 by omega) %[|8] %[|8];omega
 ·subst h;cases b5
  ·show z * (1 * 1)<=4096;omega
  ·show z * (1 * 2)<=4096;omega
 ·subst h h'
  show z * (1 * 1)<=60;omega
theorem mZ{zn:%[|48]}{c:B}(h:∀ a∈zn,(1:B)<=a.1)(hn:(ah f zn).Nodup):(b5=Y->¬ (ah f (zn.map ay++cK Á b5 c)).Nodup)/\(b5=Á->(ah f (zn.map ay++cK Á b5 c)).Nodup):=by
 refine{λ hb=>?_,λ hb=>?_}
 ·subst hb
  show ¬ (ah f (zn.map ay++[(2,0)])).Nodup
  refine vm λ a ha=>?_;let(b,hb,rfl):=VT.mp ha;exact h b hb
 ·subst hb
  show (ah f (zn.map ay++[])).Nodup
  rw[X6,pA f zn h];exact hn
def Vj(b2:Ý)(A B0 xL:%[|48]):Prop:=(b2=Á->xL=B0)/\(b2=Y->¬ (A.map λ a=>a.1)=xL.map λ a=>a.1)
def PrX(H:Hp)(x:V)(n:à)(ys:G V):Prop:=Al (λ (j:à) y=>∃ q,y=.ref q/\H q=U (.tup [.int (j:B),x])) (Ì n) ys
theorem PrX.ext{x:V}(h:PrX H x n ys)(e:Ext H H'):PrX H' x n ys:=h.imp λ _ _ ⟨q,h1,h2⟩=>{q,h1,e.at h2}
theorem PrX.len{x:V}(h:PrX H x n ys):ys.length=n:=by have:=h.1;rw[V5] at this;exact this
theorem PrX.loops{D:Z}(h:PrX H (.int 1) n ys)(hD:H D=U (.lst ys)):bh n H D (idO n):=by
 refine{⟨ys,hD,?_,λ i z y hz hy=>?_⟩,BL n,λ o ho=>?_}
 ·rw[VD,BL];exact h.len
 ·unfold idO at hz;rw[map_map,getElem?_map] at hz;let(j,hj,rfl):=Option.map_eq_some_iff.mp hz;let(q,h1,h2):=h.2 i j y hj hy;exact{(q),h1,h2}
 ·unfold idO at ho;let(j,hj,rfl):=List.mem_map.mp ho;have:=List.mem_range.mp hj;exact{by show 0<=(j:B)/\(j:B)<(n:B);omega,.inl J}
theorem PrX.bad{x:V}{D:Z}(h:PrX H x n ys)(hw:Nz x=Á)(hx:(isW H x).isSome=Y)(af:∀ p,x ≠ .ref p)(aS:n<=8)(hD:H D=U (.lst (ys++zs)))(hz:(n=0/\zs.length=1)\/(n≠0/\zs=[])):bF n H (.ref D):=by
 let hl:=h.len
 rcases hz with ⟨h0,h1⟩|⟨h0,rfl⟩
 ·exact mq hD (by rw[VN];omega) (by rw[VN];omega)
 ·rw[X6] at hD
  let each:∀ y∈ys,fm H y/\gE n y H=Á:=λ y hy=>by
   let(i,hi,rfl):=List.mem_iff_getElem.mp hy;let(q,h1,h2):=h.2 i i ys[i] (XO %[|8]) (VA hi);rw[h1];refine{⟨by rw[eS];simp[h2,lY],λ q' xs e hq z hz=>?_⟩,?_}
   ·cases e;rw[h2] at hq;cases hq;simp only[VU,VM,V6] at hz
    rcases hz with rfl|rfl
    ·rfl
    ·exact hx
   ·show rP n (H q)=Á
    rw[h2]
    show (iI _ _ && Nz x)=Á
    rw[hw,Bool.and_false]
  refine .inr {D,ys,J,hD,by omega,.inr (.inl {λ y hy=>(each y hy).1,?_})};rw[Bool.eq_false_iff];intro ha;let hy:ys ≠ []:=λ z=>h0 (by rw[←hl,z];rfl);let(y,aX,rfl):=XA hy;have:=W4.mp ha y VP;rw[(each y VP).2] at this;cases this
theorem Np(h:bh n H q os)(hq:H q=U (.lst us))(hk:k<n)(h8:n<=8)(hy:UR n H y)(hp:H p=U (.lst (us.take k++[y]++us.drop (k+1)))):bF n H (.ref p):=by
 let ha:=h.all hq;refine .inr {p,_,J,hp,?_,.inr (.inl {λ z hz=>?_,?_})}
 ·simp;omega
 ·rcases Wf.mp hz with hz|hz
  ·rcases Wf.mp hz with hz|hz
   ·exact(ha.2 z (Xo hz)).1
   ·rw[VO.mp hz];exact hy.1
  ·exact(ha.2 z (XB hz)).1
 ·rw[List.all_append,List.all_append];have:([y].all λ y=>gE (n:B) y H)=Á:=by simp[hy.2]
  rw[this];simp
theorem Ng(xs:G V)(z:B)(h:0<=z):uD xs L (U z)=xs.take z.toNat:=by
 unfold uD;let(n,rfl):=Int.eq_ofNat_of_zero_le h;rw[HT.sIx_none,HT.sIx_nat,drop_zero,Nat.sub_zero]
 show xs.take (min n xs.length)=xs.take n
 rcases Nat.le_total n xs.length with q|q
 ·rw[Zy q]
 ·rw[Zq q,WN,W6 q]
def Sf(b3:Ý)(n:à)(H:Hp)(x:V):Prop:=(b3=Á->gz n H x)/\(b3=Y->bF n H x)
theorem PrX.put{x:V}(h:PrX H x n ys)(hp:H p=U (.lst xs)):PrX (upd H p (.lst zs)) x n ys:=h.imp λ _ _ ⟨q,h1,h2⟩=>{q,h1,by rw[ag (λ z=>by rw[z,hp] at h2;cases h2)];exact h2}
theorem Fc{x:V}{D:Z}(al:Al (λ (j:à) y=>∃ q,y=.ref q/\q≠D/\H q=U (.tup [.int (j:B),x])) (Ì n) ys):PrX H x n ys:=al.imp λ _ _ ⟨q,h1,_,h3⟩=>{(q),h1,h3}
theorem Sb(n:à)(x:V):∃ zs,(if n=0 then [x] else [])=zs/\((n=0/\zs.length=1)\/(n≠0/\zs=[])):=by
 by_cases h:n=0
 ·exact{_,V7 h,.inl {(h),J}}
 ·exact{_,VY h,.inr {(h),J}}
theorem EW{od l6 c:Z}(lo:bh n H od (idO n))(af:H od=U (.lst us))(h6:H l6=U (.lst [.int 0,.int 1]))(h8:n<=8)(hc:H c=U (.lst ([.ref l6]++us.drop 1))):bF n H (.ref c):=by
 by_cases hn:n=0
 ·have:=(lo.all af).1;refine mq hc (by rw[VN,Xl];show 1+_<=20;omega) (by rw[VN,Xl];show 1+_≠n;omega)
 ·exact Np (k:=0) lo af %[|8] h8 (IF h6) hc
theorem Rz(n:à)(x:V):(È (if (n:B)=0 then (1:B) else 0).toNat [x]).flatten=if n=0 then [x] else []:=by
 by_cases h:n=0
 ·rw[V7 %[|8],V7 h];rfl
 ·rw[VY %[|8],VY h];rfl
abbrev Nw(K:PySem.W.Frag)(a:Z)(H:Hp)(Q:VK)(E:XK):Prop:=∃ ns:G B,SqL K H a (ns.map V.int)/\ns.length<=63/\∀ H',Q (.bl Y) H'
def Ak(K:Æ):Sp:=λ vs H Q E=>∃ (a:Z),vs=[.ref a]/\(Nw K a H Q E)
theorem Pc(T:Tx K mg t):%[13,law|49] ["_law_script"] (Ak K):=by
 refine T.F_law.ok dG (λ _ _ _ _ h=>kK h λ _=>J) (λ cdv A' outer s' H vs Q E hr h=>?_)
 ·let(a,rfl,ns,hS,hl,kk):=h;let G_Eh:=%[dE|67] a ns;let G_D0:=%[rf|67] a ns;let G_Hm:=%[vG|67] a ns;intros El ue zA ow Ek ud Ho vH zr nP vX kH vT cE;let c1:=T.qA0;let c2:=T.qA7;let c3:=T.qA2;refine{_,%[%[1,dG,%[D0,%[0,%[99,%[(@gy _ _ _ _)|1]|1]|1]|3]|4],%[(@rT _ _ _ _ _ _ %[Hm,%[0,%[1|1]|1]|3] (%[(4),%[%[2,dG|5],%[%[3,dG|5],%[%[4,dG|5],%[%[5,dG|5],(@aO _)|18]|18]|18]|18]|29].mono λ _ _ _ _ h=>cp h) ∅ ∅ ∅),%[(@gH _ _ (6) _ _ _ _ dG.nd J (Or.inr J) %[Eh,%[0,%[99,%[99|1]|1]|1]|3] ∅ %[|7]),%[%[(%[|102]),(1),(7),_,dG.nd,(Or.inl J),(aD (aa iR) %[|101] J J nofun),%[%[%[99,%[99,%[99,%[99,%[99,%[99|1]|1]|1]|1]|1]|1]|16]|20],%[%[(0),%[|102]|51]|72],%[(@aI _)|72],%[%[(br hr.units),%[lW,%[jX,7,0|11],99|11],99,(ar _)|41]|72]|66],%[%[8,dG,%[bb,%[fT,%[%[%[%[%[fK,99,%[eN,99,%[Eh,%[0,%[99,%[99|1]|1]|1]|3]|11]|11],%[99|1]|1]|21]|1]|16],%[eB,T.z_int,%[%[7,99|15]|1]|33]|11],%[fT,%[%[%[%[99,%[99|1]|1]|21]|1]|16],%[eB,T.z_int,%[%[7,99|15]|1]|33]|11]|11]|4],%[%[9,dG,%[El,%[2,%[8,%[%[2|22]|1]|1]|1]|3]|4],%[%[10,dG,%[El,%[3,%[8,%[%[bN,%[2|22],%[eB,T.z_int,%[%[7,99|15]|1]|33]|11]|1]|1]|1]|3]|4],%[%[%[%[7,99|15]|26],%[%[10,dG,%[zA,%[10,%[%[Eh,%[0,%[99,%[99|1]|1]|1]|3]|1]|1]|3]|4]|10],(@au _)|14],%[%[11,dG,%[bN,%[len,aB,%[1|1]|6],%[len,aB,%[8|1]|6]|11]|4],%[%[(%[|100]),(1),(12),_,dG.nd,(Or.inl J),(aD (aa iR) %[|101] J J nofun),%[T.z_range,%[11|1]|34],%[%[(0),%[|100]|51]|72],%[(@aI _)|72],%[%[%[0,%[99|1]|1]|21]|72]|66],%[%[%[%[7,99|15]|26],%[%[13,dG,%[%[%[bb,12,%[%[%[%[11,%[99|1]|1]|21]|1]|16]|11],%[%[jc,T.z_tuple,%[12|1]|33],%[(@js _ _ _),%[%[(%[|100]),(1),(aD (aa iR) %[|101] J J nofun),%[T.z_range,%[%[bN,11,99|11]|1]|34],%[%[(0),%[|100]|51]|72],%[(@aI _)|72],%[%[%[0,%[99|1]|1]|21]|72]|25]|1]|1]|1]|1]|16]|4],%[%[13,dG,%[bb,13,%[%[%[bb,%[(%[|100]),(1),(aD (aa iR) %[|101] J J nofun),%[T.z_range,%[11|1]|34],%[%[(0),%[|100]|51]|72],%[(@aI _)|72],%[%[%[0,%[(@gy _ _ _ _)|1]|1]|21]|72]|25],%[fT,%[%[%[%[11,%[99|1]|1]|21]|1]|16],%[eB,T.z_int,%[%[(br hr.units),11,99,(ar _)|41]|1]|33]|11]|11],%[%[bb,%[%[%[%[99,%[99|1]|1]|16]|1]|16],%[12,%[99|37],(@dg _)|36]|11]|1]|1]|16]|11]|4],%[%[13,dG,%[bb,13,%[%[%[bb,%[bb,12,%[12,(@dg _),%[99|37]|36]|11],%[fT,%[%[%[%[99,%[99|1]|1]|21]|1]|16],%[eB,T.z_int,%[%[(br hr.units),11,99,(ar _)|41]|1]|33]|11]|11],%[(@lK _ _)|1]|1]|16]|11]|4],%[%[%[Wa,Wy,Wx,cP,13,%[%[bb,%[(%[|100]),(1),(aD (aa iR) %[|101] J J nofun),%[T.z_range,%[11|1]|34],%[%[(0),%[|100]|51]|72],%[(@aI _)|72],%[%[%[0,%[99|1]|1]|21]|72]|25],%[fT,%[%[(@js _ _ _)|1]|16],%[eB,T.z_int,%[%[(br hr.units),11,99,(ar _)|41]|1]|33]|11]|11]|1]|40]|19],%[%[12,dG,%[13,%[Eh,%[0,%[99,%[99|1]|1]|1]|3]|15]|4]|10]|9]|9]|9]|9],(@au _)|14],%[%[(%[|103]),(1),(14),_,dG.nd,(Or.inl J),(aD (aa iR) %[|101] J J nofun),%[T.z_range,%[%[bN,%[2|22],%[eB,T.z_int,%[%[7,99|15]|1]|33]|11]|1]|34],%[%[(0),%[|103]|51]|72],%[(@aI _)|72],%[%[eN,0,0|11]|72]|66],%[%[15,dG,%[qB1,vX,m_ML,aZ,%[14|1]|62]|4],%[%[VX,%[%[%[99,%[99,%[99,%[99,%[99|1]|1]|1]|1]|1]|16]|20],%[16,dG|5],%[%[%[(bM hr.units),%[Ek,%[16,%[15,%[9,%[10,%[12|1]|1]|1]|1]|1]|3],%[Ho,%[16,%[7|1]|1]|3],(ar _)|13],%[%[(@gy _ _ _ _)|12]|10],(@au _)|14],%[%[(PW.pt %[%[(bM hr.units),%[Ho,%[99,%[7|1]|1]|3],(@bL _ _ _ _),(ar _)|13],(@fS _ _ _ _ %[(bM hr.units),%[%[15|0],qA2,qA8,vT,aZ|61],14,(ar _)|13])|38]),%[%[(@gy _ _ _ _)|12]|10],(@au _)|14]|10]|9]|24],%[%[17,dG,%[qB1,vX,m_ML,aZ,%[%[fT,%[%[99|1]|16],%[2|22]|11]|1]|62]|4],%[%[18,dG,%[El,%[2,%[%[(@cZ _)|16],%[%[bN,%[2|22],99|11]|1]|1]|1]|3]|4],%[%[VX,%[%[%[%[%[18,%[3|1]|1]|21],%[%[%[3,%[18|1]|1]|21],%[%[%[18,%[18|1]|1]|21]|1]|1]|1]|16]|20],(%[(2),%[%[19,dG|5],%[%[20,dG|5],(@aO _)|18]|18]|29].mono λ _ _ _ _ h=>cp h),%[%[%[(bM hr.units),%[Ek,%[99,%[17,%[19,%[20,%[12|1]|1]|1]|1]|1]|3],(@bL _ _ _ _),(ar _)|13],%[%[(@gy _ _ _ _)|12]|10],(@au _)|14]|10]|24],%[%[%[(bM hr.units),%[%[17|0],qA2,qA8,vT,aZ|61],%[fT,%[%[99|1]|16],%[2|22]|11],(ar _)|13],%[%[(@gy _ _ _ _)|12]|10],(@au _)|14],%[%[(PW.pt %[(PW.pt %[%[%[7,99|15]|26],%[%[%[7,99|15]|26]|35]|32]),%[%[%[%[7,99|15]|26]|31],%[%[%[%[7,99|15]|26]|31],(@fS _ _ _ _ %[%[%[7,99|15]|26]|31])|38]|38]|38]),%[%[%[zr,%[0,%[9,%[10,%[12|1]|1]|1]|1]|3]|12]|10],(@au _)|14],%[%[(@gy _ _ _ _)|12]|10]|9]|9]|9]|9]|9]|9]|9]|9]|9]|9]|9]|9]|9]|9]|9]|9]|9]|9]|9],?_};rw[%[%[|101],[.ref a],20|53]];clear G_Eh G_D0 G_Hm G_El G_zA G_Ek G_Ho G_zr G_vX G_vT;exists kk;ac_rfl;rw[Nm];refine{J,hS,hl,λ ms p1 H1 e1 h1 hsz l3=>?_};let kq:=e1.2 K a _ hS;clear hS;ac_rfl;rw[Nk];refine{J,kq,hl,ms,h1,hsz,λ room f1 f2 ps qs x1 x2 w1 w2 p2 H2 e2 h2 v1 v2 rx ry o1 o2 kv y6 g6=>?_};let kx:=e2.2 K a _ kq;let a8:=e2.at h1;clear kq h1 rx ry;ac_rfl;rw[bg];refine{kx,hl,{by decide,by decide},by decide,λ cell y7 y8=>?_};let g7:ps.length=ms.length:=o1.len;let oj:qs.length=ms.length:=o2.len;exists g6;exists o1;exists o2;exists g7;exists oj;exists hsz;clear h2;ac_rfl;intro p3 H3 _ e3 h3;let kE:=e3.2 K a _ kx;replace a8:=e3.at a8;replace v1:=v1.ext e3;replace v2:=v2.ext e3;clear kx e1 e2 e3;ac_rfl;refine bc [.int 1,.int 2,.int 4,.int 8,.int 16,.int 32] (λ _=>Y) (Vh cell) (λ z x _=>x=z) (λ i z H' hz e=>⟨((gp (K:=K) h3).1 i z H' hz e).1,λ x oo y=>⟨(((gp (K:=K) h3).1 i z H' hz e).2 x oo y).1,(((gp (K:=K) h3).1 i z H' hz e).2 x oo y).2.1⟩⟩) (gp h3).2 ⋯ ?_ ?_
  ·intro D z y H' N1 N0 hz hD e hy k1 _;subst hy;let bS:=k1 rfl H' (Ext.refl _);clear k1 a8 h3 kE v1 v2 kk;simp only[VU,VM,V6] at hz
   rcases hz with rfl|rfl|rfl|rfl|rfl|rfl
   ·replace bS:N1 (.bl (decide (cell / 1 % 2=1))) H':=bS;simp! only[↓aH,↓aK]
   ·replace bS:N1 (.bl (decide (cell / 2 % 2=1))) H':=bS;simp! only[↓aH,↓aK]
   ·replace bS:N1 (.bl (decide (cell / 4 % 2=1))) H':=bS;simp! only[↓aH,↓aK]
   ·replace bS:N1 (.bl (decide (cell / 8 % 2=1))) H':=bS;simp! only[↓aH,↓aK]
   ·replace bS:N1 (.bl (decide (cell / 16 % 2=1))) H':=bS;simp! only[↓aH,↓aK]
   ·replace bS:N1 (.bl (decide (cell / 32 % 2=1))) H':=bS;simp! only[↓aH,↓aK]
  intro bt H4 _ e4 h4;rw[jl] at h4;replace h4:H4 bt=U (.lst [.bl (decide (cell / 1 % 2=1)),.bl (decide (cell / 2 % 2=1)),.bl (decide (cell / 4 % 2=1)),.bl (decide (cell / 8 % 2=1)),.bl (decide (cell / 16 % 2=1)),.bl (decide (cell / 32 % 2=1))]):=h4;generalize decide (cell / 1 % 2=1)=b0 at h4;generalize decide (cell / 2 % 2=1)=b1 at h4;generalize decide (cell / 4 % 2=1)=b2 at h4;generalize decide (cell / 8 % 2=1)=b3 at h4;generalize decide (cell / 16 % 2=1)=b4 at h4;generalize decide (cell / 32 % 2=1)=b5 at h4;let kQ:=e4.2 K a _ kE;replace a8:=e4.at a8;replace v1:=v1.ext e4;replace v2:=v2.ext e4;clear kE h3 e4;ac_rfl;rw[bg];refine{kQ,hl,{by decide,by decide},by decide,λ d5 rz r3=>?_}
  let cm:oG 903 d5:=by rcases (show d5=0\/d5=1 by omega) with rfl|rfl<;>exact .inr ⋯
  ac_rfl;intro t1 H5 _ e5 h5;obtain⟨cz,d1⟩:∃ cz,5000 - 903 * d5=cz:={_,J};let y9:cz=5000\/cz=4097:=by omega
  rw[d1] at h5;replace h4:=e5.at h4;clear cm d1;ac_rfl;intro t2 H6 _ e6 h6;replace h4:=e6.at h4;replace h5:=e6.at h5;ac_rfl;refine{by cases b4<;>decide,by cases b4<;>decide,by cases b4<;>decide,?_};rw[Jb];intro t3 H7 _ e7 h7;replace h4:=e7.at h4;replace h5:=e7.at h5;clear h6;ac_rfl;intro t4 H8 _ e8 h8;replace h4:=e8.at h4;replace h5:=e8.at h5;replace h7:=e8.at h7;ac_rfl;intro t5 H9 _ e9 h9;replace h4:=e9.at h4;replace h5:=e9.at h5;replace h7:=e9.at h7;replace h8:=e9.at h8;ac_rfl;refine{by cases b5<;>decide,by cases b5<;>decide,by cases b5<;>decide,?_};rw[Jb];intro t6 G0 _ a0 g0;replace h4:=a0.at h4;replace h5:=a0.at h5;replace h7:=a0.at h7;replace h8:=a0.at h8;clear h9;let r4:((if b4=Y then [V.ref t1] else []).length+(if b5=Y then [V.ref t4] else []).length)<=Å:=ao (by cases b4<;>cases b5<;>simp);ac_rfl;intro t7 G1 _ a1 g1;replace h4:=a1.at h4;let tm:bP G1 t7 (axL (cK b4 b5 cz)):={_,g1,Nr (a1.at h5) (a1.at h8) b4 b5};let g8:=e5.trans (e6.trans (e7.trans (e8.trans (e9.trans (a0.trans a1)))));let oD:=g8.2 K a _ kQ;replace a8:=g8.at a8;replace v1:=v1.ext g8;replace v2:=v2.ext g8;obtain⟨ml,ey,kT⟩:∃ ml:G V,G1 t7=U (.lst ml)/\ml.length=(cK b4 b5 cz).length:={_,g1,by cases b4<;>cases b5<;>rfl};exists tm;exists kT;clear kQ h5 h7 h8 g0 g1 e5 e6 e7 e8 e9 a0 a1 g8 r4 rz r3;let m6:(ms.zip ps).length<=6:=by rw[Xf];omega
  let m7:(ms.zip qs).length<=6:=by rw[Xf];omega
  let ec:=(o1 ()).view (hsz ()) kv %[|8];let fy:=(o2 ()).view (hsz ()) kv %[|8];let d1:1<=cz/\cz<=5000:=by omega
  exists m6;exists m7;exists ec;exists fy;exists d1;let(zi,D1,a5,_):=v1.ob;let q1:=cG room f1 D1;ac_rfl;rw[qQ];refine{room,f1,_,cK b4 b5 cz,v1,tm (),by rw[VD];have:=m6 ();omega,by have:=jD b4 b5 cz;omega,iS (ec ()) (m6 ()) (d1 ()) (Y0 _) %[|8],λ y1 G2 a2 u1=>?_};rw[gM] at u1;replace h4:=a2.at h4;let oL:=a2.2 K a _ oD;replace a8:=a2.at a8;replace v1:=v1.ext a2;replace v2:=v2.ext a2;exists tm,a2;replace ey:=a2.at ey;replace a5:=a2.at a5;clear oD a2;ac_rfl;rw[qQ];refine{room,f2,_,cK b4 b5 cz,v2,tm (),by rw[VD];have:=m7 ();omega,by have:=jD b4 b5 cz;omega,iS (fy ()) (m7 ()) (d1 ()) (by split<;>omega) (by split<;>omega),λ y2 G3 a3 u2=>?_};rw[gM] at u2;replace h4:=a3.at h4;let kW:=a3.2 K a _ oL;replace a8:=a3.at a8;replace v1:=v1.ext a3;replace v2:=v2.ext a3;replace u1:=u1.ext a3;replace ey:=a3.at ey;replace a5:=a3.at a5;clear oL a3 tm;obtain⟨A,hA⟩:∃ A,(ms.zip ps).map ay++cK b4 b5 cz=A:={_,J};obtain⟨B0,d4⟩:∃ B0,(ms.zip qs).map ay++cK b4 b5 cz=B0:={_,J};obtain⟨r2,fA⟩:∃ r2,room+(if b1=Y then 1 else 0)=r2:={_,J};rw[hA] at u1;rw[d4,fA] at u2
  let hK:da r2 f2 B0:=by rw[←d4,←fA];exact iS (fy ()) (m7 ()) (d1 ()) (by split<;>omega) (by split<;>omega)
  let hg:da room f1 A:=by rw[←hA];exact iS (ec ()) (m6 ()) (d1 ()) (Y0 _) %[|8]
  let lB:B0.length<=6:=by rw[←d4,VN,VD,Xf];have:=jD b4 b5 cz;omega
  let bB:∀ a∈B0,a.1<=5000:=λ b hb=>by
   rw[←d4] at hb
   rcases Wf.mp hb with hb|hb
   ·let(z,hz,rfl):=VT.mp hb;have:=(hsz ()).pos.1 z.1 (Xw (show (z.1,z.2)∈ms.zip qs from hz)).1
    show z.1<=5000
    omega
   ·have:=(jC hb).1;have:=d1 ();omega
  let hh:(A.map λ a=>a.1)=B0.map λ a=>a.1:=by rw[←hA,←d4,jZ (g7 ()),jZ (oj ())]
  let kB:B0.map ay=B0:=by rw[←d4,gM]
  exists hg;exists hK;exists lB;exists bB;exists hh;exists kB;exists hA;exists d4;exists fA;simp! only[-oM];refine rY (λ σ' H'=>∃ (y3:Z) (xL:%[|48]),σ'=[%[a|45],%[p1|45],%[x1|45],%[x2|45],%[w1|45],%[w2|45],%[cell|47],%[bt|45],%[t7|45],%[y1|45],%[y3|45],L,L,L,L,L,L,L,L,L,L]/\Ext G3 H'/\ak t.a_MN H' y3 r2 f2 xL/\bY xL/\Vj b2 A B0 xL) (λ r6 hn=>?_) ?_
  ·exists hn;clear kk
   cases b2 with
   | false=>
    let kX:=hn () [%[a|45],%[p1|45],%[x1|45],%[x2|45],%[w1|45],%[w2|45],%[cell|47],%[bt|45],%[t7|45],%[y1|45],%[y2|45],L,L,L,L,L,L,L,L,L,L] G3 {y2,B0,J,Ext.refl _,u2,(hK ()).ax,λ _=>J,λ h=>by cases h};clear hn;ac_rfl
   | true=>
    ac_rfl;rw[bg];refine{kW,hl,{by decide,by decide},by decide,λ d6 r7 r8=>?_};ac_rfl;rw[Iq];refine{r2,f2,B0,u2,hK (),lB (),bB (),r7,r8,λ xL y3 G4 a4 u3 hu=>?_};let kX:=hn () [%[a|45],%[p1|45],%[x1|45],%[x2|45],%[w1|45],%[w2|45],%[cell|47],%[bt|45],%[t7|45],%[y1|45],%[y3|45],L,L,L,L,L,L,L,L,L,L] G4 {y3,xL.map ay,J,a4,u3,hu.1.ax.kept,(λ h=>by cases h),λ _ e=>hu.2 (by rw[←hh (),e,ei])};clear hn;ac_rfl
  rintro _ G4 ⟨y3,xL,rfl,a4,u3,xB,hB⟩;let aS:=a4.2 K a _ kW;replace h4:=a4.at h4;replace a8:=a4.at a8;replace v1:=v1.ext a4;replace v2:=v2.ext a4;replace u1:=u1.ext a4;replace ey:=a4.at ey;replace a5:=a4.at a5;exists hB;clear kW a4 u2 hK lB bB;obtain⟨n,hn⟩:∃ n:à,(ms.length:B)+(ml.length:B)=(n:B):={ms.length+ml.length,by omega};let n8:n<=5:=by have:=kT ();have:=jD b4 b5 cz;omega
  let nA:A.length=n:=by rw[←hA (),VN,VD,Xf];have:=g7 ();have:=kT ();omega
  let sb:(n:B)<2 ^ 62:=by omega
  let sd:-(2 ^ 62)<=(n:B):=by omega
  exists nA;exists v1;exists v2;exists u1;exists u3;ac_rfl;clear a8 ey;refine{by omega,by omega,?_};refine eU (Ì (n)) (λ _=>Y) (λ j x H'=>x=.int (0+(j:à))) (λ D j y H'=>∃ q,y=.ref q/\q≠D/\H' q=U (.tup [.int (j:B),.int 1])) cF.1 cF.2 (λ D _ y H1 H2 ⟨q,h1,h2,h3⟩ e=>{q,h1,h2,e.at h3}) (λ D _ y H1 o ⟨q,h1,h2,h3⟩=>{q,h1,h2,by rw[ag h2];exact h3}) (ao (by rw[V5];omega)) ?_ ?_
  ·intro D j x H' N1 N0 hz hD e ⟨k6,dy⟩ hx b8 _;subst hx;let ee:=b8 rfl;clear b8 hz h4 a5 aS v1 v2 u1 u3;simp only[Ww];simp! only[↓aH,↓aK];intro r Hn dN en ez;exact ee _ Hn en {r,J,(λ z=>by rw[z,dy] at dN;cases dN),ez}
  intro od se K1 z1 e1 aX k7;rw[jl] at k7;let px:=Fc k7;exists px;replace h4:=e1.at h4;replace a5:=e1.at a5;replace aS:=e1.2 K a _ aS;exists v1,v2,u1,u3,e1;clear z1 e1 k7;let a6:=(px ()).len;generalize se=us at aX px a6;exists a6;clear hn sb sd;simp! only[-oM];refine rY (λ σ' H'=>∃ (x:V) (hL:Ü V),σ'=[%[a|45],%[p1|45],%[x1|45],%[x2|45],%[w1|45],%[w2|45],%[cell|47],%[bt|45],%[t7|45],%[y1|45],%[y3|45],U (.int (n:B)),U x,hL,L,L,L,L,L,L,L]/\Ext K1 H'/\Sf b3 n H' x) (λ r6 hn=>?_) ?_
  ·exists hn;clear kk
   cases b3 with
   | false=>
    let kX:=hn () [%[a|45],%[p1|45],%[x1|45],%[x2|45],%[w1|45],%[w2|45],%[cell|47],%[bt|45],%[t7|45],%[y1|45],%[y3|45],U (.int (n:B)),%[od|45],L,L,L,L,L,L,L,L] K1 {.ref od,L,J,Ext.refl _,λ _=>{od,J,(px ()).loops aX},λ h=>by cases h};clear hn;ac_rfl
   | true=>
    let ea:=λ (_:Unit)=>Ext.refl K1;clear v1 v2 u1 u3 a5;let zj:us.length+1<=Å:=ao (by have:=a6 ();omega);let z0:us.length<=Å:=ao (by have:=a6 ();omega);ac_rfl;intro q1 K2 z2 e2 j1;replace h4:=e2.at h4;replace aS:=e2.2 K a _ aS;replace aX:=e2.at aX;exists px,e2;replace ea:=λ (_:Unit)=>(ea ()).trans e2;clear z2 e2;ac_rfl;intro l1 K3 z3 e3 j2;replace h4:=e3.at h4;replace aS:=e3.2 K a _ aS;replace aX:=e3.at aX;exists px,e3;replace ea:=λ (_:Unit)=>(ea ()).trans e3;replace j1:=e3.at j1;clear z3 e3;ac_rfl;intro c1 K4 z4 e4 j3;replace h4:=e4.at h4;replace aS:=e4.2 K a _ aS;replace aX:=e4.at aX;exists px,e4;replace ea:=λ (_:Unit)=>(ea ()).trans e4;replace j1:=e4.at j1;replace j2:=e4.at j2;clear z4 e4;let B1:=λ (_:Unit)=>mq (n:=n) j3 (by rw[VN];have:=a6 ();show us.length+1<=20;omega) (by rw[VN];have:=a6 ();show us.length+1≠n;omega);clear j1 j2 j3;ac_rfl;intro t2 K5 z5 e5 j4;replace h4:=e5.at h4;replace aS:=e5.2 K a _ aS;replace aX:=e5.at aX;exists px,e5;replace ea:=λ (_:Unit)=>(ea ()).trans e5;exists B1,e5;clear z5 e5;let B2:=λ (_:Unit)=>Nn (n:=n) j4;clear j4;ac_rfl;refine{by omega,by omega,?_};refine eU (Ì (n+1)) (λ _=>Y) (λ j x H'=>x=.int (0+(j:à))) (λ D j y H'=>∃ q,y=.ref q/\q≠D/\H' q=U (.tup [.int (j:B),.int 0])) cF.1 cF.2 (λ D _ y H1 H2 ⟨q,h1,h2,h3⟩ e=>{q,h1,h2,e.at h3}) (λ D _ y H1 o ⟨q,h1,h2,h3⟩=>{q,h1,h2,by rw[ag h2];exact h3}) (ao (by rw[V5];omega)) ?_ ?_
    ·intro D j x H' N1 N0 hz hD e ⟨k6,dy⟩ hx b8 _;subst hx;let ee:=b8 rfl;clear b8 hz h4 aS aX px ea B1 B2;simp only[Ww];simp! only[↓aH,↓aK];intro r Hn dN en ez;exact ee _ Hn en {r,J,(λ z=>by rw[z,dy] at dN;cases dN),ez}
    intro c4 A0 K6 z6 e6 j5 la;rw[jl] at la;let hM:=Fc la;exists hM;replace h4:=e6.at h4;replace aS:=e6.2 K a _ aS;replace aX:=e6.at aX;exists px,e6;replace ea:=λ (_:Unit)=>(ea ()).trans e6;exists B1,B2,e6;clear z6 e6 la;let B4:=λ (_:Unit)=>mq (n:=n) j5 (by have:=(hM ()).len;omega) (by have:=(hM ()).len;omega);clear j5 hM;ac_rfl;intro o1 K7 z7 e7 w3;replace h4:=e7.at h4;replace aS:=e7.2 K a _ aS;replace aX:=e7.at aX;exists px,e7;replace ea:=λ (_:Unit)=>(ea ()).trans e7;exists B1,B2,B4,e7;clear z7 e7;ac_rfl;refine{by omega,by omega,?_};refine eU (Ì (n)) (λ _=>Y) (λ j x H'=>x=.int (0+(j:à))) (λ D j y H'=>∃ q,y=.ref q/\q≠D/\H' q=U (.tup [.int (j:B),.bl Y])) cF.1 cF.2 (λ D _ y H1 H2 ⟨q,h1,h2,h3⟩ e=>{q,h1,h2,e.at h3}) (λ D _ y H1 o ⟨q,h1,h2,h3⟩=>{q,h1,h2,by rw[ag h2];exact h3}) (ao (by rw[V5];omega)) ?_ ?_
    ·intro D j x H' N1 N0 hz hD e ⟨k6,dy⟩ hx b8 _;subst hx;let ee:=b8 rfl;clear b8 hz h4 aS aX px ea B1 B2 B4 w3;simp only[Ww];simp! only[↓aH,↓aK];intro r Hn dN en ez;exact ee _ Hn en {r,J,(λ z=>by rw[z,dy] at dN;cases dN),ez}
    intro A1 sg K8 z8 e8 j6 lb;rw[jl] at lb;let c9:=Fc lb;exists c9;replace h4:=e8.at h4;replace aS:=e8.2 K a _ aS;replace aX:=e8.at aX;exists px,e8;replace ea:=λ (_:Unit)=>(ea ()).trans e8;exists B1,B2,B4,e8;replace w3:=e8.at w3;clear z8 e8 lb;let l5:=(c9 ()).len;exists l5;ac_rfl;intro q5 K9 z9 e9 j7;replace h4:=e9.at h4;replace aS:=e9.2 K a _ aS;replace aX:=e9.at aX;exists px,e9;replace ea:=λ (_:Unit)=>(ea ()).trans e9;exists B1,B2,B4,e9;replace w3:=e9.at w3;replace j6:=e9.at j6;exists c9,e9;clear z9 e9;ac_rfl;intro A2 CS sh cO j8;replace h4:=cO.at h4;replace aS:=cO.2 K a _ aS;replace aX:=cO.at aX;exists px,cO;replace ea:=λ (_:Unit)=>(ea ()).trans cO;exists B1,B2,B4,cO;replace w3:=cO.at w3;replace j6:=cO.at j6;exists c9,cO;replace j7:=cO.at j7;clear sh cO;ac_rfl;refine{by split<;>decide,by split<;>decide,by split<;>decide,?_};rw[Rz];intro r5 CV s6 cf j9;replace h4:=cf.at h4;replace aS:=cf.2 K a _ aS;replace aX:=cf.at aX;exists px,cf;replace ea:=λ (_:Unit)=>(ea ()).trans cf;exists B1,B2,B4,cf;replace w3:=cf.at w3;replace j6:=cf.at j6;exists c9,cf;replace j7:=cf.at j7;replace j8:=cf.at j8;clear s6 cf;let(s8,i2,hN):=Sb n (.ref q5);rw[i2] at j9;exists hN;clear i2;let oN:sg.length+s8.length<=Å:=ao (by have:=l5 ();have:=hN ();rcases this with h|h<;>simp[h]<;>omega);clear j7 j8;ac_rfl;intro c5 C0 tp cT oT;replace h4:=cT.at h4;replace aS:=cT.2 K a _ aS;replace aX:=cT.at aX;exists px,cT;replace ea:=λ (_:Unit)=>(ea ()).trans cT;exists B1,B2,B4,cT;replace w3:=cT.at w3;replace j6:=cT.at j6;exists c9,cT;replace j9:=cT.at j9;clear tp cT;let B5:=λ (_:Unit)=>(c9 ()).bad (x:=.bl Y) J J (λ _ h=>by cases h) %[|8] oT (hN ());clear j6 c9 j9 oT;clear oN l5 hN;ac_rfl;intro l6 C1 tr d0 eg;replace h4:=d0.at h4;replace aS:=d0.2 K a _ aS;replace aX:=d0.at aX;exists px,d0;replace ea:=λ (_:Unit)=>(ea ()).trans d0;exists B1,B2,B4,d0;replace w3:=d0.at w3;exists B5,d0;clear tr d0;ac_rfl;intro l7 C2 tD de hj;replace h4:=de.at h4;replace aS:=de.2 K a _ aS;replace aX:=de.at aX;exists px,de;replace ea:=λ (_:Unit)=>(ea ()).trans de;exists B1,B2,B4,de;replace w3:=de.at w3;exists B5,de;replace eg:=de.at eg;clear tD de;ac_rfl;intro s7 C3 tT a7 f3;replace h4:=a7.at h4;replace aS:=a7.2 K a _ aS;replace aX:=a7.at aX;exists px,a7;replace ea:=λ (_:Unit)=>(ea ()).trans a7;exists B1,B2,B4,a7;replace w3:=a7.at w3;exists B5,a7;replace eg:=a7.at eg;replace hj:=a7.at hj;clear tT a7;rw[lN _ 1 ⋯] at f3;replace f3:_=U (HO.lst (us.drop 1)):=f3;let o4:1+(us.drop 1).length<=Å:=ao (by rw[Xl];have:=a6 ();omega);ac_rfl;intro c6 C4 t8 cg o5;replace h4:=cg.at h4;replace aS:=cg.2 K a _ aS;replace aX:=cg.at aX;exists px,cg;replace ea:=λ (_:Unit)=>(ea ()).trans cg;exists B1,B2,B4,cg;replace w3:=cg.at w3;exists B5,cg;replace eg:=cg.at eg;replace hj:=cg.at hj;replace f3:=cg.at f3;clear t8 cg;let B6:=λ (_:Unit)=>EW ((px ()).loops aX) aX eg %[|8] o5;clear eg hj f3 o5;clear o4;ac_rfl;intro l8 C5 lk dh lz;replace h4:=dh.at h4;replace aS:=dh.2 K a _ aS;replace aX:=dh.at aX;exists px,dh;replace ea:=λ (_:Unit)=>(ea ()).trans dh;exists B1,B2,B4,dh;replace w3:=dh.at w3;exists B5,B6,dh;clear lk dh;ac_rfl;intro o2 C6 l0 cV w4;replace h4:=cV.at h4;replace aS:=cV.2 K a _ aS;replace aX:=cV.at aX;exists px,cV;replace ea:=λ (_:Unit)=>(ea ()).trans cV;exists B1,B2,B4,cV;replace w3:=cV.at w3;exists B5,B6,cV;replace lz:=cV.at lz;clear l0 cV;clear w3 lz;ac_rfl;intro s9 C7 l4 dr eD;replace h4:=dr.at h4;replace aS:=dr.2 K a _ aS;replace aX:=dr.at aX;exists px,dr;replace ea:=λ (_:Unit)=>(ea ()).trans dr;exists B1,B2,B4,B5,B6,dr;replace w4:=dr.at w4;clear l4 dr;rw[Ng _ 1 ⋯] at eD;replace eD:_=U (HO.lst (us.take 1)):=eD;let htk:(us.take 1).length<=1/\(n≠0->(us.take 1).length=1)/\(n=0->(us.take 1).length=0):=by rw[Wi];have:=a6 ();omega
    generalize us.take 1=tk at eD htk;exists htk;let o6:us.length+tk.length<=Å:=ao (by have:=a6 ();have:=htk ();omega);ac_rfl;intro C8 C9 mc c0 d2;replace h4:=c0.at h4;replace aS:=c0.2 K a _ aS;replace aX:=c0.at aX;exists px,c0;replace ea:=λ (_:Unit)=>(ea ()).trans c0;exists B1,B2,B4,B5,B6,c0;replace w4:=c0.at w4;replace eD:=c0.at eD;clear mc c0;clear eD;clear o6;ac_rfl;intro t9 D3 mn c7 ho;replace h4:=c7.at h4;replace aS:=c7.2 K a _ aS;replace aX:=c7.at aX;exists px,c7;replace ea:=λ (_:Unit)=>(ea ()).trans c7;exists B1,B2,B4,B5,B6,c7;replace w4:=c7.at w4;replace d2:=c7.at d2;clear mn c7;ac_rfl;intro EX Fm mu ck mv;replace h4:=ck.at h4;replace aS:=ck.2 K a _ aS;replace aX:=ck.at aX;exists px,ck;replace ea:=λ (_:Unit)=>(ea ()).trans ck;exists B1,B2,B4,B5,B6,ck;replace w4:=ck.at w4;replace d2:=ck.at d2;replace ho:=ck.at ho;clear mu ck;ac_rfl;refine{by split<;>decide,by split<;>decide,by split<;>decide,?_};rw[Rz];intro Fn G5 uu b7 hO;replace h4:=b7.at h4;replace aS:=b7.2 K a _ aS;replace aX:=b7.at aX;exists px,b7;replace ea:=λ (_:Unit)=>(ea ()).trans b7;exists B1,B2,B4,B5,B6,b7;replace w4:=b7.at w4;replace d2:=b7.at d2;replace ho:=b7.at ho;replace mv:=b7.at mv;clear uu b7;let(o7,hp,ej):=Sb n (.ref t9);rw[hp] at hO;exists ej;clear hp;clear ho mv;obtain⟨ut,hut⟩:∃ ut,us++tk=ut:={_,J};let hs:ut.length=us.length+tk.length:=by rw[←hut,VN]
    rw[hut] at d2;exists hs;clear hut;let pa:ut.length+o7.length<=Å:=ao (by have:=a6 ();have:=htk ();have:=hs ();rcases ej () with h|h<;>simp[h]<;>omega);ac_rfl;intro f5 G6 u0 cv pq;replace h4:=cv.at h4;replace aS:=cv.2 K a _ aS;replace aX:=cv.at aX;exists px,cv;replace ea:=λ (_:Unit)=>(ea ()).trans cv;exists B1,B2,B4,B5,B6,cv;replace w4:=cv.at w4;replace d2:=cv.at d2;replace hO:=cv.at hO;clear u0 cv;let B7:=λ (_:Unit)=>mq (n:=n) pq (by rw[VN];have:=a6 ();have:=htk ();have:=hs ();rcases ej () with h|h<;>simp[h]<;>omega) (by rw[VN];have:=a6 ();have:=htk ();have:=hs ();rcases ej () with h|h<;>simp[h]<;>omega);clear d2 hO pq;clear pa hs htk ej;ac_rfl;intro gg G7 ve c8 pz;replace h4:=c8.at h4;replace aS:=c8.2 K a _ aS;replace aX:=c8.at aX;exists px,c8;replace ea:=λ (_:Unit)=>(ea ()).trans c8;exists B1,B2,B4,B5,B6,c8;replace w4:=c8.at w4;exists B7,c8;clear ve c8;let B8:=λ (_:Unit)=>IE (n:=n) pz;clear pz;ac_rfl;intro G8 He vh cN vo;replace h4:=cN.at h4;replace aS:=cN.2 K a _ aS;replace aX:=cN.at aX;exists px,cN;replace ea:=λ (_:Unit)=>(ea ()).trans cN;exists B1,B2,B4,B5,B6,cN;replace w4:=cN.at w4;exists B7,B8,cN;clear vh cN;let vr:=λ (_:Unit)=>aS;let eb:=ea;let D1:=B1;let D2:=B2;let D4:=B4;let D5:=B5;let D6:=B6;let D7:=B7;let D8:=B8;clear aS ea B1 B2 B4 B5 B6 B7 B8 aX px;ac_rfl;intro o3 HT zo mx w5;let eo:=λ (_:Unit)=>mx;replace h4:=mx.at h4;exists zo;clear mx w4 vo;ac_rfl;refine{by omega,by omega,?_};refine eU (Ì (n)) (λ _=>Y) (λ j x H'=>x=.int (0+(j:à))) (λ D j y H'=>∃ q,y=.ref q/\q≠D/\H' q=U (.tup [.int (j:B),.int 2])) cF.1 cF.2 (λ D _ y H1 H2 ⟨q,h1,h2,h3⟩ e=>{q,h1,h2,e.at h3}) (λ D _ y H1 o ⟨q,h1,h2,h3⟩=>{q,h1,h2,by rw[ag h2];exact h3}) (ao (by rw[V5];omega)) ?_ ?_
    ·intro D j x H' N1 N0 hz hD e ⟨k6,dy⟩ hx b8 _;subst hx;let ee:=b8 rfl;clear b8 hz h4 w5 eo;simp only[Ww];simp! only[↓aH,↓aK];intro r Hn dN en ez;exact ee _ Hn en {r,J,(λ z=>by rw[z,dy] at dN;cases dN),ez}
    intro H0 pD Im vu hP eH ht;rw[jl] at ht;let d3:=Fc ht;exists d3;replace h4:=hP.at h4;replace w5:=hP.at w5;replace eo:=λ (_:Unit)=>(eo ()).trans hP;clear vu hP ht;let l9:=(d3 ()).len;exists l9;ac_rfl;intro IY I0 vv gk m1;replace h4:=gk.at h4;replace w5:=gk.at w5;replace eo:=λ (_:Unit)=>(eo ()).trans gk;replace eH:=gk.at eH;exists d3,gk;clear vv gk;ac_rfl;refine{by split<;>decide,by split<;>decide,by split<;>decide,?_};rw[Rz];intro I1 vx v3 eI hQ;replace h4:=eI.at h4;replace w5:=eI.at w5;replace eo:=λ (_:Unit)=>(eo ()).trans eI;replace eH:=eI.at eH;exists d3,eI;replace m1:=eI.at m1;clear v3 eI;let(p0,hv,hC):=Sb n (.non);rw[hv] at hQ;exists hC;clear hv;let p4:pD.length+p0.length<=Å:=ao (by have:=l9 ();have:=hC ();rcases this with h|h<;>simp[h]<;>omega);clear m1;let w6:=w5;ac_rfl;intro el m2 hE e0 p5;replace h4:=e0.at h4;replace w5:=e0.at w5;replace eo:=λ (_:Unit)=>(eo ()).trans e0;replace eH:=e0.at eH;exists d3,e0;replace hQ:=e0.at hQ;clear e0;let v5:el≠o3:=λ z=>by rw[z,show vx o3=_ from w6] at hE;cases hE
    clear hE w6 eH hQ p4;let P9:=λ (_:Unit)=>(d3 ()).put (zs:=[.ref c1,.ref t2,.non,.ref c4,.ref c5,.ref c6,.ref f5,.ref gg,.ref el]) w5;let eu:=λ (_:Unit)=>(eo ()).put (o:=.lst [.ref c1,.ref t2,.non,.ref c4,.ref c5,.ref c6,.ref f5,.ref gg,.ref el]) (zo ());let m8:(upd m2 o3 (.lst [.ref c1,.ref t2,.non,.ref c4,.ref c5,.ref c6,.ref f5,.ref gg,.ref el])) el=_:=(ag v5).trans p5;let v7:(upd m2 o3 (.lst [.ref c1,.ref t2,.non,.ref c4,.ref c5,.ref c6,.ref f5,.ref gg,.ref el])) o3=U (.lst [.ref c1,.ref t2,.non,.ref c4,.ref c5,.ref c6,.ref f5,.ref gg,.ref el]):=aj;clear p5 d3 eo;ac_rfl;generalize upd m2 o3 (.lst [.ref c1,.ref t2,.non,.ref c4,.ref c5,.ref c6,.ref f5,.ref gg,.ref el])=Hu at P9 eu m8 v7 ⊢;rw[bg];refine{(eu ()).2 K a _ (vr ()),hl,{by decide,by decide},by decide,λ d7 v8 wc=>?_};let B9:=(P9 ()).bad (x:=.int 2) J J (λ _ h=>by cases h) %[|8] m8 (hC ());exists B9;clear m8 P9 w5 h4;ac_rfl;refine sL (λ y=>bF n Hu y) v8 (by simpa using wc) (λ y hy=>?_) λ y hy=>?_
    ·simp only[VU,VM,V6] at hy
     rcases hy with rfl|rfl|rfl|rfl|rfl|rfl|rfl|rfl|rfl
     ·exact(D1 ()).ext (eu ())
     ·exact(D2 ()).ext (eu ())
     ·exact ID (x:=.non) trivial
     ·exact(D4 ()).ext (eu ())
     ·exact(D5 ()).ext (eu ())
     ·exact(D6 ()).ext (eu ())
     ·exact(D7 ()).ext (eu ())
     ·exact(D8 ()).ext (eu ())
     ·exact B9 ()
    let kX:=hn () [%[a|45],%[p1|45],%[x1|45],%[x2|45],%[w1|45],%[w2|45],%[cell|47],%[bt|45],%[t7|45],%[y1|45],%[y3|45],U (.int (n:B)),U y,%[o3|45],L,L,L,L,L,L,L] Hu {y,%[o3|45],J,(eb ()).trans (eu ()),(λ h=>by cases h),λ _=>hy};clear hn;ac_rfl
  rintro _ F0 ⟨x,hL,rfl,f0,a9⟩;replace h4:=f0.at h4;replace a5:=f0.at a5;replace aS:=f0.2 K a _ aS;exists v1,v2,u1,u3,f0;exists a9;clear f0 aX px a6;obtain⟨nn,hR⟩:∃ nn:à,room+(if b0=Y then 1 else 0)=(nn:B):={(room+(if b0=Y then 1 else 0)).toNat,by rw[WU];split<;>omega}
  let I2:1<=nn/\nn<=4096:=by cases b0<;>simp at hR<;>omega
  ac_rfl;exists hR;refine{by omega,by omega,?_};refine bc (Ì nn) (λ _=>Y) (λ (k:à)=>.int ((k:B) * (k:B))) (λ k x _=>x=.int (0+(k:à))) cF.1 cF.2 (ao (by rw[V5];omega)) ?_ ?_
  ·intro D k y H' N1 N0 hz hD e7 hy b8 _;subst hy;let ee:=b8 rfl H' (Ext.refl _);let hk:=WO.mp hz;let cm:oG (k:B) (k:B):=.inr %[|8];clear b8 hz h4 a5 aS v1 v2 u1 u3 a9;simp only[Ww];simp! only[↓aH,↓aK]
  intro hd F1 _ g1 k1;rw[jl] at k1;obtain⟨vals,hvals⟩:∃ vals,((Ì nn).map λ (k:à)=>(k:B) * (k:B))=vals:={_,J};let bS:F1 hd=%[vals|46]:=by rw[k1,←hvals,WC];rfl
  let vl:vals.length=nn:=by rw[←hvals,OP]
  replace h4:=g1.at h4;replace a5:=g1.at a5;replace aS:=g1.2 K a _ aS;exists v1,v2,u1,u3,g1;replace a9:=λ (_:Unit)=>(show Sf b3 n F1 x from {λ h=>((a9 ()).1 h).ext g1,λ h=>((a9 ()).2 h).ext g1});exists vl;clear k1 hvals g1;ac_rfl;intro s ds F2 qa wh hT g2 k2 wi;rw[tq];refine{ds,vals,k2,g2.at bS,by have:=vl ();omega,by have:=vl ();omega,λ F3 l g3 i3 qb i4=>?_};let gF:=g3 F1 g2 qa;let qc:F1 l=L:=g2.free i3;let nc:bQ t.a_ML F3 s l vals:={⟨ds,qb⟩,i4};clear g3 i3 k2 wi wh hT g2 qa;ac_rfl;intro lw F4 z4 g4 k4;let ql:lw≠l:=λ z=>by rw[z,nc.fl] at z4;cases z4
  replace gF:=gF.trans g4;let nf:=nc.ext g4;let eF:=Ic gF qc;let eO:=Gw F4 l
  let ng:(yh F4 l) lw=U (.lst [.int 1,.int 2,.int 3,.int 4,.int 0]):=by
   unfold yh;rw[if_neg ql];exact k4
  let lm:=CY F4 l;let nt:=eF.at h4;let nD:=eF.at bS;let xA:bY A:=(hg ()).ax
  let dk:∀ (wy:B) (H5:Hp),0<=wy/\wy<=4->Ext (yh F4 l) H5->(uC wy b0 b1 b2 b3 b4 b5=L/\Ar H5 wy x vals.length room r2 f1 f2 A xL)\/∃ j,uC wy b0 b1 b2 b3 b4 b5=U j/\j<6/\uH H5 wy x vals.length room r2 f1 A xL j:=λ wy H5 hw e5=>by
   let sp:=oX (ps:=ps) (hsz ()) (g7 ()) (b4:=b4) (b5:=b5) (c:=cz) %[|8];rw[hA ()] at sp;let z1:∀ a∈ms.zip ps,(1:B)<=a.1:=λ a ha=>((ec ()).ax.2 a ha).1;let kA:A.map ay=A:=by rw[←hA (),gM]
   let i5:da room f2 B0:=by rw[←d4 ()];exact iS (fy ()) (m7 ()) (d1 ()) (Y0 _) %[|8]
   let eo:=eF.trans e5;refine QY hw (by rw[vl ()];exact(hR ()).symm) (fA ()).symm kv (λ h=>by rw[(hB ()).1 h];exact hh ()) (hB ()).2 (λ h=>by rw[nA ()];exact((a9 ()).1 h).ext eo) (λ h=>by rw[nA ()];exact((a9 ()).2 h).ext eo) sp.1 sp.2.1 (λ h4 h5=>?_) (λ h4 h5=>{sp.2.2 h4 h5,?_}) kA (λ h4 a ha=>?_) ?_ (λ h=>?_)
   ·have:=(mZ (f:=f1) (b5:=b5) (c:=cz) z1 (g6 ())).1 h5;rw[←h4,hA ()] at this;exact this
   ·have:=(mZ (f:=f1) (b5:=b5) (c:=cz) z1 (g6 ())).2 h5;rw[←h4,hA ()] at this;exact this
   ·rw[←hA ()] at ha
    rcases Wf.mp ha with ha|ha
    ·let(b,hb,rfl):=VT.mp ha;exact(hsz ()).pos.1 b.1 (Xw (show (b.1,b.2)∈ms.zip ps from hb)).1
    ·rcases (jC ha).1 with h|h
     ·rw[h4] at h;exact Þ h.2 ⋯
     ·omega
   ·let h1:=(hg ()).lo;let h2:=(hg ()).hi;rw[kA] at h1 h2;exact{(h1),h2}
   ·rw[(hB ()).1 h];let h1:=i5.lo;let h2:=i5.hi;rw[kB ()] at h1 h2;exact{kB (),h1,h2}
  exists dk;exists eF;exists eO;exists nf;exists lm;exists nt;exists nD;exists ng;exists xA;exists h4;exists a5;exists aS;clear bS qb i4 nc gF qc ql z4 g4;ac_rfl;refine dj (xs:=[.int 1,.int 2,.int 3,.int 4,.int 0]) (λ i σ H'=>∃ hW:Ü V,σ=[%[a|45],%[p1|45],%[x1|45],%[x2|45],%[w1|45],%[w2|45],%[cell|47],%[bt|45],%[t7|45],%[y1|45],%[y3|45],U (.int (n:B)),U x,hL,%[hd|45],%[s|45],hW,L,L,L,L]/\LpI t.a_ML (yh F4 l) s l vals (uC 0 b0 b1 b2 b3 b4 b5) i H') ⟨L,J,eO (),λ _=>nf ()⟩ (λ i σ H' _ ⟨_,_,h,_⟩=>h.at (ng ())) ?_ ?_
  ·rintro i y _ H5 hi ⟨hW,rfl,e5,qn⟩;let wk:i<=4:=by have:=(VB.mp hi).1;simp at this;omega
   obtain⟨wy,rfl,hw,qq⟩:∃ wy:B,y=.int wy/\(0<=wy/\wy<=4)/\(wy=0->i=4):=by
    rcases i with _|_|_|_|_|i
    ·cases hi;exact{1,J,by decide,by decide}
    ·cases hi;exact{2,J,by decide,by decide}
    ·cases hi;exact{3,J,by decide,by decide}
    ·cases hi;exact{4,J,by decide,by decide}
    ·cases hi;exact{0,J,by decide,by decide}
    ·simp at hi
   let so:=qn (.inl wk);let ci:Au t H5 wy (.ref s) y1 y3 l vals room r2 f1 f2 A xL:={hw,(u1 ()).ext ((eF ()).trans e5),(u3 ()).ext ((eF ()).trans e5),xA (),xB,λ _=>{s,J,so,by have:=vl ();omega}};exists ci;exists so;exists hw;exists qq;exists e5;clear hi qn kk k4;simp! only[↓aA];refine wX (ci ()) _ (dk () wy H5 (hw ()) (e5 ())) λ H6 q0 gn=>?_
   let lp:LpI t.a_ML (yh F4 l) s l vals (uC 0 b0 b1 b2 b3 b4 b5) (i+1) H6:=by
    by_cases hd:uC wy b0 b1 b2 b3 b4 b5=L
    ·let af:=q0 hd;refine{af.2 _ (e5 ()) (lm ()),λ h=>?_}
     let w7:wy≠0:=λ hz=>by
      rcases h with h|h
      ·have:=qq () hz;omega
      ·rw[hz] at hd;exact h hd
     exact(so ()).ext (af.1 w7)
    ·exact{(e5 ()).trans (gn hd),λ _=>(so ()).ext (gn hd)}
   let nT:=lp.1.at (nt ());exists lp;clear q0 gn;ac_rfl;rw[Ca];refine{b0,b1,b2,b3,b4,b5,nT,λ H7 e7=>?_};let q2:=e7.at nT;let n0:=λ (_:Unit)=>(show LpI t.a_ML (yh F4 l) s l vals (uC 0 b0 b1 b2 b3 b4 b5) (i+1) H7 from {(lp ()).1.trans e7,λ h=>((lp ()).2 h).ext e7});clear nT lp e7;ac_rfl;rw[Ca];refine{b0,b1,b2,b3,b4,b5,q2,λ H8 e8=>?_};let ep:=λ (_:Unit)=>(show LpI t.a_ML (yh F4 l) s l vals (uC 0 b0 b1 b2 b3 b4 b5) (i+1) H8 from {(n0 ()).1.trans e8,λ h=>((n0 ()).2 h).ext e8});clear q2 n0 e8
   cases hX:uC 0 b0 b1 b2 b3 b4 b5 with
   | none=>
    rw[hX] at ep;let w8:JB L=("none":Ç):=rfl;exists hX;ac_rfl;exact{_,J,ep ()}
   | some j0=>
    rw[hX] at ep;let w8:JB (U j0)=xwd j0:=rfl;let I3:=FH j0;let hY:=(ep ()).2 (.inr (by intro h;cases h));let(d8,xq):=hY.ob;let I4:=dD l (m := "all_values") nofun;exists hY;exists hX;ac_rfl;rw[lR];refine{l,vals,hY (),by have:=vl ();omega,λ r9 H9 _ e9 h9=>?_};let I5:=((ep ()).1.trans e9).at (nD ());let x3:=λ (_:Unit)=>(show LpI t.a_ML (yh F4 l) s l vals (U j0) (i+1) H9 from {(ep ()).1.trans e9,λ h=>((ep ()).2 h).ext e9});clear ep hY xq e9;ac_rfl;exact{_,J,x3 ()}
  rintro _ F5 ⟨hW,rfl,e5,_⟩;let a7:=(eF ()).trans e5;replace h4:=a7.at (h4 ());replace a5:=a7.at (a5 ());exists v1,v2,u1,u3,a7;replace a9:=λ (_:Unit)=>(show Sf b3 n F5 x from {λ h=>((a9 ()).1 h).ext a7,λ h=>((a9 ()).2 h).ext a7});clear e5 a7 eF eO nf lm nt nD ng dk aS k4;ac_rfl;intro I6 F6 mc f6 x4;replace h4:=f6.at h4;replace a5:=f6.at a5;let eR:=λ (_:Unit)=>f6;clear mc f6;ac_rfl;refine{by omega,by omega,ao %[|8],?_};rw[jA];obtain⟨zs,ih⟩:∃ zs,È room.toNat (0:B)=zs:={_,J};let zl:zs.length=room.toNat:=by rw[←ih,Xu]
  exists zl;rw[ih];intro I7 F7 mn f7 q3;replace h4:=f7.at h4;replace a5:=f7.at a5;replace eR:=λ (_:Unit)=>(eR ()).trans f7;clear mn f7 x4;ac_rfl;intro s2 q4 F8 i7 q6 q7 f8 k8 x6;rw[tq];refine{q4,zs,k8,f8.at q3,by have:=zl ();omega,by have:=zl ();omega,λ F9 l2 f9 q8 jz kn=>?_};let fx:=f9 F7 f8 i7;let b6:bQ t.a_ML F9 s2 l2 zs:={⟨q4,jz⟩,kn};replace h4:=fx.at h4;replace a5:=fx.at a5;replace eR:=λ (_:Unit)=>(eR ()).trans fx;exists b6;clear f9 q8 k8 x6 q6 q7 f8 i7 fx q3 jz kn;ac_rfl;intro I8 I9 mu hF q9;replace h4:=hF.at h4;replace a5:=hF.at a5;replace eR:=λ (_:Unit)=>(eR ()).trans hF;exists b6,hF;clear mu hF;ac_rfl;rw[qQ];refine{room,f1,_,cK Á Á 1,(v1 ()).ext (eR ()),{[],q9,Al.nil},by rw[VD];have:=m6 ();omega,by decide,iS (ec ()) (m6 ()) ⋯ %[|8] %[|8],λ th J2 hG u5=>?_};rw[gM] at u5;let xT:bY ((ms.zip ps).map ay++cK Á Á 1):=(iS (ec ()) (m6 ()) (show 1<=(1:B)/\(1:B)<=5000 by decide) (Y0 room) %[|8]).ax;generalize (ms.zip ps).map ay++cK Á Á 1=AT at u5 xT;replace h4:=hG.at h4;replace a5:=hG.at a5;replace eR:=λ (_:Unit)=>(eR ()).trans hG;exists b6,hG;exists u5;exists xT;clear hG q9;ac_rfl;intro n1 J3 hE gx et;replace h4:=gx.at h4;replace a5:=gx.at a5;replace eR:=λ (_:Unit)=>(eR ()).trans gx;exists b6,u5,gx;clear hE gx;ac_rfl;intro n2 KX x7 fo g5;replace h4:=fo.at h4;replace a5:=fo.at a5;replace et:=fo.at et;replace eR:=λ (_:Unit)=>(eR ()).trans fo;exists b6,u5,fo;clear x7 fo;ac_rfl;intro n3 LI x9 ew iv;replace h4:=ew.at h4;replace a5:=ew.at a5;replace et:=ew.at et;replace g5:=ew.at g5;replace eR:=λ (_:Unit)=>(eR ()).trans ew;exists b6,u5,ew;clear x9 ew;ac_rfl;intro L0 ix y0 d9 n4;replace h4:=d9.at h4;replace a5:=d9.at a5;replace et:=d9.at et;replace g5:=d9.at g5;replace iv:=d9.at iv;replace eR:=λ (_:Unit)=>(eR ()).trans d9;exists b6,u5,d9;let n5:=λ (_:Unit)=>(v2 ()).ext (eR ());let n6:bY ((ms.zip qs).map ay):=(fy ()).ax.kept;exists n6
  let lr:∀ (i:à) (y:V),[V.ref n1,V.ref n2,V.ref n3][i]? = U y->∃ (q lf rt:Z) (ra rb fa fb:B) (Aa Ab:%[|48]),y=.ref q/\ix q=U (.tup [.ref lf,.ref rt])/\ak t.a_MN ix lf ra fa Aa/\ak t.a_MN ix rt rb fb Ab/\bY Aa/\bY Ab/\¬ (ra=room/\rb=room):=λ i y hi=>by
   rcases i with _|_|_|i
   ·cases hi;exact{n1,th,x2,room+1,room,f1,f2,AT,_,J,et,u5 (),n5 (),xT (),n6 (),by omega}
   ·cases hi;exact{n2,x2,th,room,room+1,f2,f1,_,AT,J,g5,n5 (),u5 (),n6 (),xT (),by omega}
   ·cases hi;exact{n3,th,th,room+1,room+1,f1,f1,AT,AT,J,iv,u5 (),u5 (),xT (),xT (),by omega}
   ·simp at hi
  exists lr;exists h4;exists a5;clear y0 d9 et g5 iv n5;ac_rfl;refine dj (xs:=[.ref n1,.ref n2,.ref n3]) (λ i σ H'=>∃ n7 v20:Ü V,σ=[%[a|45],%[p1|45],%[x1|45],%[x2|45],%[w1|45],%[w2|45],%[cell|47],%[bt|45],%[t7|45],%[y1|45],%[y3|45],U (.int (n:B)),U x,hL,%[hd|45],%[s|45],hW,%[s2|45],%[th|45],n7,v20]/\Ext ix H') ⟨L,L,J,Ext.refl _⟩ (λ i σ H' _ ⟨_,_,_,h⟩=>h.at n4) ?_ ?_
  ·rintro i y _ H5 hi ⟨n7,v20,rfl,e5⟩;let(q,lf,rt,ra,rb,fa,fb,Aa,Ab,rfl,hq,va,vb,xa,xb,hT):=lr () i y hi;let L1:=e5.at hq;let ri:(zs.length:B)=room:=by rw[zl ()];omega
   let ci:Au t H5 0 (.ref s2) lf rt l2 zs ra rb fa fb Aa Ab:={by decide,va.ext e5,vb.ext e5,xa,xb,λ _=>{s2,J,(b6 ()).ext e5,by have:=zl ();omega}};let rn:uH H5 0 x zs.length ra rb fa Aa Ab 0:={λ _=>.inl {J,by rw[ri];exact hT},λ h=>Þ h ⋯,λ h=>Þ h ⋯};exists ci;exists rn;exists e5;clear hq hi kk n4 hT ri va vb xa xb;simp! only[↓aA];refine wX (ci ()) (U 0) (.inr {0,J,by decide,rn ()}) λ H6 _ gn=>?_;let e6:=λ (_:Unit)=>(e5 ()).trans (gn (by intro h;cases h));let L2:JB (U 0)=("view":Ç):=rfl;clear gn;ac_rfl;exact{_,_,J,e6 ()}
  rintro _ L3 ⟨n7,v20,rfl,hI⟩;let h4:=hI.at (h4 ());let a5:=hI.at (a5 ());replace eR:=λ (_:Unit)=>(eR ()).trans hI;let fu:=(b6 ()).ext hI;let(PH,ro):=fu.ob;let y5:=dD l2 (m := "all_values") nofun;exists fu;clear hI b6 n4 lr u5;ac_rfl;rw[lR];refine{l2,zs,fu (),by have:=zl ();omega,λ r9 Qb lk iz i0=>?_};replace h4:=iz.at h4;replace a5:=iz.at a5;replace eR:=λ (_:Unit)=>(eR ()).trans iz;clear lk iz fu ro;ac_rfl;intro Sn S1 l0 hJ y4;replace h4:=hJ.at h4;replace a5:=hJ.at a5;replace i0:=hJ.at i0;replace eR:=λ (_:Unit)=>(eR ()).trans hJ;clear l0 hJ;ac_rfl;refine{by omega,by omega,ao %[|8],?_};rw[jA,ih];intro S2 oe l4 i1 T1;replace h4:=i1.at h4;replace i0:=i1.at i0;replace eR:=λ (_:Unit)=>(eR ()).trans i1;exists ih;clear l4 i1 y4 a5
  by_cases hc:(b4=Y\/b5=Y)/\b1=Á/\b2=Á/\b3=Á
  ·let(rr,rfl,rfl,rfl):=hc;let kf:=kk ();let sp:=oX (ps:=ps) (hsz ()) (g7 ()) (b4:=b4) (b5:=b5) (c:=cz) %[|8];rw[hA ()] at sp;let z1:∀ a∈ms.zip ps,(1:B)<=a.1:=λ a ha=>((ec ()).ax.2 a ha).1
   let tw:∃ j,TwD f1 A j:=by
    cases b4 with
    | true=>exact{4,.inl {J,sp.1 J}}
    | false=>
     let h5:b5=Y:=rr.elim (λ h=>by cases h) id;have:=(mZ (f:=f1) (b5:=b5) (c:=cz) z1 (g6 ())).1 h5;rw[hA ()] at this;exact{5,.inr {J,sp.2.1 J,this}}
   let(j,ru):=tw;let rv:room=r2:=by have:=fA ();simpa using this
   let oh:=(u3 ()).ext (eR ());rw[←rv] at oh;let gG:gz A.length oe x:=by rw[nA ()];exact((a9 ()).1 J).ext (eR ())
   let fin:wI t [.ref a,.ref y1,.ref y3,x] oe Q (λ _ _ _=>False):=by
    rw[lP];exact{room,f1,f2,A,xL,j,(u1 ()).ext (eR ()),oh,xA (),xB,by rw[(hB ()).1 J];exact hh (),gG,ru,λ H' _=>kf H'}
   rw[lP] at fin;exists fin;clear ru sp z1 oh gG kf rv kk u1 u3 v1 v2 a9
   cases b4 with
   | true=>
    ac_rfl;rw[lP];exact fin ()
   | false=>
    let h5:b5=Y:=rr.elim (λ h=>by cases h) id;subst h5;ac_rfl;rw[lP];exact fin ()
  ·let kf:=kk () oe;clear kk u1 u3 v1 v2 a9 eR hA d4 fA hR hg ec fy hh kB hB g6 hsz o1 o2
   cases b1<;>cases b2<;>cases b3<;>cases b4<;>cases b5<;>first|exact Þ {by decide,J,J,J} hc|ac_rfl
end
theorem UU{l:W.OpenLaw}{w:Ï}{h:Í}{fa:Z}(X:K.In h)(xz:h.Ns Ã mg)(n5:mg "law"=%[fa|45])
  {C0:Z} (y0:Ð K Ã "PaceError"=U (%[C0|45]))
  {C1:Z} (y1:Ð K Ã "NoPlace"=U (%[C1|45]))
  {C2:Z} (y2:Ð K Ã "NoCells"=U (%[C2|45]))
  {C3:Z} (y3:Ð K Ã "NoView"=U (%[C3|45]))
  {C4:Z} (y4:Ð K Ã "NoCount"=U (%[C4|45]))
  {C5:Z} (y5:Ð K Ã "NoPair"=U (%[C5|45]))
  {C6:Z} (y6:Ð K Ã "NoOrder"=U (%[C6|45]))
  {C7:Z} (y7:Ð K Ã "TooMany"=U (%[C7|45]))
  {C8:Z} (y8:Ð K Ã "Twice"=U (%[C8|45]))
  {C9:Z} (y9:Ð K Ã "View"=U (%[C9|45]))
  {b2:Z} (n6:Ð K Ã "Store"=U (%[b2|45]))
  (qAh:W.excIn K C3 [.type "ValueError",.type "Exception",.type "BaseException",.type "object"] "ValueError.__new__"=Y)
  (qAi:W.excIn K C5 [.type "ValueError",.type "Exception",.type "BaseException",.type "object"] "ValueError.__new__"=Y)
  (qAf:W.excIn K C4 [.type "ValueError",.type "Exception",.type "BaseException",.type "object"] "ValueError.__new__"=Y)
  (qAg:W.excIn K C6 [.type "ValueError",.type "Exception",.type "BaseException",.type "object"] "ValueError.__new__"=Y)
  (qA6:Ù K (.ref C7) (.ref C7)=U Y)
  (qAa:Ù K (.ref C8) (.ref C7)=U Á)
  (qAc:Ù K (.ref C8) (.ref C8)=U Y)
  (ocs:W.specialIn K (.builtin "object.__class__") "__get__"=U (U (.builtin "getset_descriptor.__get__")))
  (oct:W.takesIn K (.builtin "object.__class__")=U Y)
  (xh:([C3,C5,C4,C6,C7,C8].all λ c=>Ö K c && Ú K (.ref c) == U (.type "type") && Ó K (.ref c) "__getattribute__" == U (U (.builtin "BaseException.__getattribute__")) && Ó K (.ref c) "__getattr__" == U L && Û K c (.type "BaseException") == U Y && Û K c (.type "object") == U Y && Ó K (.ref c) "__class__" == U (U (.builtin "object.__class__")))=Y)
  (xs:([C3,C5,C4,C6,C7,C8].all λ a=>[C3,C5,C4,C6,C7,C8].all λ c=>W.subIn K (.ref a) (.ref c) == U (a == c))=Y)
  (xp:([C3,C5,C4,C6,C7,C8].all λ a=>W.subIn K (.ref a) (.type "ValueError") == U Y && Ù K (.ref a) (.ref C0) == U Y)=Y)
  (xn:decide (List.Nodup [C3,C5,C4,C6,C7,C8])=Y)
  {f0:Z} {d0:Â} (F0:Fun K "__init__" "TooMany.__init__" cW f0 d0)
  {f1:Z} {d1:Â} (F1:Fun K "__init__" "Twice.__init__" dM f1 d1)
  {f2:Z} {d2:Â} (a2:Ð K Ã "is_whole"=U (%[f2|45])) (F2:Fun K "is_whole" "is_whole" kg f2 d2)
  {f3:Z} {d3:Â} (a3:Ð K Ã "count_of"=U (%[f3|45])) (F3:Fun K "count_of" "count_of" kh f3 d3)
  {f4:Z} {d4:Â} (a4:Ð K Ã "paces_of"=U (%[f4|45])) (F4:Fun K "paces_of" "paces_of" ke f4 d4)
  {f5:Z} {d5:Â} (a5:Ð K Ã "is_number_below"=U (%[f5|45])) (F5:Fun K "is_number_below" "is_number_below" dt f5 d5)
  {f6:Z} {d6:Â} (a6:Ð K Ã "is_place"=U (%[f6|45])) (F6:Fun K "is_place" "is_place" iq f6 d6)
  {f7:Z} {d7:Â} (a7:Ð K Ã "split_number"=U (%[f7|45])) (F7:Fun K "split_number" "split_number" fw f7 d7)
  {f8:Z} {d8:Â} (a8:Ð K Ã "place_at"=U (%[f8|45])) (F8:Fun K "place_at" "place_at" kd f8 d8)
  {f9:Z} {d9:Â} (a9:Ð K Ã "refuse_long"=U (%[f9|45])) (F9:Fun K "refuse_long" "refuse_long" gb f9 d9)
  {g5:Z} {n7:Â} (n8:Ð K Ã "places"=U (%[g5|45])) (j0:Fun K "places" "places" lH g5 n7)
  {g6:Z} {oe:Â} (oh:Ð K Ã "is_within"=U (%[g6|45])) (j1:Fun K "is_within" "is_within" iW g6 oe)
  {g7:Z} {oj:Â} (oo:Ð K Ã "is_size"=U (%[g7|45])) (j2:Fun K "is_size" "is_size" mK g7 oj)
  {g8:Z} {oD:Â} (oL:Ð K Ã "is_axis"=U (%[g8|45])) (j3:Fun K "is_axis" "is_axis" mM g8 oD)
  {hb:Z} {oN:Â} (oT:Ð K Ã "are_axes"=U (%[hb|45])) (j4:Fun K "are_axes" "are_axes" ir hb oN)
  {hc:Z} {o1:Â} (o2:Ð K Ã "kept_axis"=U (%[hc|45])) (j5:Fun K "kept_axis" "kept_axis" iV hc o1)
  {e3:Z} {o3:Â} (j7:Fun K "__init__" "View.__init__" cS e3 o3)
  {e4:Z} {o4:Â} (hg:Fun K "sizes" "View.sizes" eY e4 o4)
  {e5:Z} {o5:Â} (hh:Fun K "paces" "View.paces" eZ e5 o5)
  {e6:Z} {o6:Â} (hj:Fun K "count" "View.count" gW e6 o6)
  {e7:Z} {o7:Â} (hk:Fun K "cell" "View.cell" fX e7 o7)
  {e8:Z} {pa:Â} (ho:Fun K "cells" "View.cells" gX e8 pa)
  {e9:Z} {pq:Â} (hp:Fun K "least" "View.least" fe e9 pq)
  {fb:Z} {px:Â} (hq:Fun K "greatest" "View.greatest" cR fb px)
  {hs:Z} {pz:Â} (pD:Ð K Ã "widened"=U (%[hs|45])) (j8:Fun K "widened" "widened" jF hs pz)
  {j9:Z} {kf:O} {kk:Ü Z} {kn:à} {kq:Array (Ü O)}
  {fo:Z} {kv kx:Ü Z} {kA:Array (Ü O)} {kB kE kQ kT gk kW:O}
  (p0:Ð K Ã "whole"=U (%[fo|45])) (p1:K.lookup fo=U {kB,kv,.func (W.fnOf "whole" "whole" (fv jW) (dI jW) (aa jW) (.ref j9) kE kQ kT kx gk kW),kA})
  (kX:K.lookup j9=U {kf,kk,.seq #[Ñ] kn,kq})
  (p3:W.codeIn K gk "whole"=Y) (p4:W.keepIn K (.ref fo)=Y)
  {ht:Z} {p5:Â} (qa:Ð K Ã "has_twice"=U (%[ht|45])) (k4:Fun K "has_twice" "has_twice" iX ht p5)
  {hu:Z} {qb:Â} (qc:Ð K Ã "refuse_rooms"=U (%[hu|45])) (k6:Fun K "refuse_rooms" "refuse_rooms" fB hu qb)
  {hv:Z} {ql:Â} (qn:Ð K Ã "is_loop"=U (%[hv|45])) (k7:Fun K "is_loop" "is_loop" mL hv ql)
  {hy:Z} {qq:Â} (qs:Ð K Ã "is_order"=U (%[hy|45])) (k8:Fun K "is_order" "is_order" fO hy qq)
  {hA:Z} {q0:Â} (q1:Ð K Ã "refuse_order"=U (%[hA|45])) (la:Fun K "refuse_order" "refuse_order" fC hA q0)
  {hB:Z} {q2:Â} (q3:Ð K Ã "refuse_sizes_unlike"=U (%[hB|45])) (lb:Fun K "refuse_sizes_unlike" "refuse_sizes_unlike" bW hB q2)
  {hC:Z} {q4:Â} (q5:Ð K Ã "place_by_steps"=U (%[hC|45])) (lk:Fun K "place_by_steps" "place_by_steps" dJ hC q4)
  {hD:Z} {q6:Â} (q7:Ð K Ã "walk_of"=U (%[hD|45])) (lp:Fun K "walk_of" "walk_of" fL hD q6)
  {hE:Z} {q8:Â} (q9:Ð K Ã "looped"=U (%[hE|45])) (lr:Fun K "looped" "looped" qC hE q8)
  {hF:Z} {ra:Â} (rb:Ð K Ã "refuse_twice"=U (%[hF|45])) (lz:Fun K "refuse_twice" "refuse_twice" fz hF ra)
  {hG:Z} {ri:Â} (rn:Ð K Ã "places_written_anew"=U (%[hG|45])) (lB:Fun K "places_written_anew" "places_written_anew" bX hG ri)
  {hI:Z} {ro:Â} (rr:Ð K Ã "bound_pairs"=U (%[hI|45])) (l0:Fun K "bound_pairs" "bound_pairs" gf hI ro)
  {hJ:Z} {ru:Â} (rv:Ð K Ã "gap"=U (%[hJ|45])) (l1:Fun K "gap" "gap" JT hJ ru)
  {hK:Z} {rx:Â} (ry:Ð K Ã "comes_right"=U (%[hK|45])) (l2:Fun K "comes_right" "comes_right" gc hK rx)
  {hL:Z} {rz:Â} (r3:Ð K Ã "keeps"=U (%[hL|45])) (l3:Fun K "keeps" "keeps" mh hL rz)
  {hM:Z} {r4:Â} (r5:Ð K Ã "helpful_loop"=U (%[hM|45])) (l4:Fun K "helpful_loop" "helpful_loop" dv hM r4)
  {hN:Z} {r6:Â} (r7:Ð K Ã "barring_pairs"=U (%[hN|45])) (l5:Fun K "barring_pairs" "barring_pairs" bV hN r6)
  {hO:Z} {r8:Â} (r9:Ð K Ã "loop_order"=U (%[hO|45])) (l6:Fun K "loop_order" "loop_order" cI hO r8)
  {hP:Z} {sb:Â} (sd:Ð K Ã "is_known_pair"=U (%[hP|45])) (l7:Fun K "is_known_pair" "is_known_pair" g9 hP sb)
  {hQ:Z} {se:Â} (sg:Ð K Ã "bars_axis"=U (%[hQ|45])) (l8:Fun K "bars_axis" "bars_axis" ni hQ se)
  {hR:Z} {sh:Â} (so:Ð K Ã "bars"=U (%[hR|45])) (l9:Fun K "bars" "bars" AQ hR sh)
  {hS:Z} {s6:Â} (s7:Ð K Ã "refuse_count"=U (%[hS|45])) (mc:Fun K "refuse_count" "refuse_count" fD hS s6)
  {fu:Z} {s8:Â} (ml:Fun K "__init__" "Store.__init__" dP fu s8)
  {fx:Z} {s9:Â} (hT:Fun K "all_values" "Store.all_values" cX fx s9)
  {fy:Z} {tm:Â} (hW:Fun K "refuse_room" "Store.refuse_room" cD fy tm)
  {fA:Z} {tp:Â} (hX:Fun K "read" "Store.read" kS fA tp)
  {gg:Z} {tr:Â} (hY:Fun K "put" "Store.put" i8 gg tr)
  {h3:Z} {tw:Â} (tD:Ð K Ã "_law_draw"=U (%[h3|45])) (mn:Fun K "_law_draw" "_law_draw" i6 h3 tw)
  {h4:Z} {tT:Â} (t2:Ð K Ã "_law_whole"=U (%[h4|45])) (mu:Fun K "_law_whole" "_law_whole" gT h4 tT)
  {h5:Z} {t4:Â} (t5:Ð K Ã "_law_digits"=U (%[h5|45])) (mv:Fun K "_law_digits" "_law_digits" gi h5 t4)
  {h6:Z} {t6:Â} (t7:Ð K Ã "_law_sizes"=U (%[h6|45])) (mx:Fun K "_law_sizes" "_law_sizes" gU h6 t6)
  {h7:Z} {t8:Â} (t9:Ð K Ã "_law_once"=U (%[h7|45])) (m1:Fun K "_law_once" "_law_once" iZ h7 t8)
  {h8:Z} {uu:Â} (u0:Ð K Ã "_law_others"=U (%[h8|45])) (m2:Fun K "_law_others" "_law_others" dW h8 uu)
  {h9:Z} {u2:Â} (u3:Ð K Ã "_law_least"=U (%[h9|45])) (m6:Fun K "_law_least" "_law_least" eW h9 u2)
  {ih:Z} {u5:Â} (va:Ð K Ã "_law_most"=U (%[ih|45])) (m7:Fun K "_law_most" "_law_most" fW ih u5)
  {iv:Z} {vb:Â} (ve:Ð K Ã "_law_cells"=U (%[iv|45])) (m8:Fun K "_law_cells" "_law_cells" eX iv vb)
  {ix:Z} {vh:Â} (vo:Ð K Ã "_law_two"=U (%[ix|45])) (nc:Fun K "_law_two" "_law_two" ki ix vh)
  {iz:Z} {vr:Â} (vu:Ð K Ã "_law_called"=U (%[iz|45])) (nf:Fun K "_law_called" "_law_called" gj iz vr)
  {i0:Z} {vv:Â} (vx:Ð K Ã "_law_word"=U (%[i0|45])) (ng:Fun K "_law_word" "_law_word" fV i0 vv)
  {i1:Z} {v3:Â} (v5:Ð K Ã "_law_due"=U (%[i1|45])) (nt:Fun K "_law_due" "_law_due" kj i1 v3)
  {i2:Z} {v7:Â} (v8:Ð K Ã "_law_with"=U (%[i2|45])) (nA:Fun K "_law_with" "_law_with" iY i2 v7)
  {i3:Z} {wc:Â} (wh:Ð K Ã "_law_unlike"=U (%[i3|45])) (nD:Fun K "_law_unlike" "_law_unlike" gh i3 wc)
  {i4:Z} {wi:Â} (wk:Ð K Ã "_law_numbers"=U (%[i4|45])) (nT:Fun K "_law_numbers" "_law_numbers" fE i4 wi)
  {i5:Z} {n0 gn:Ü Z} {n1:Array (Ü O)} {n2 gx gF gG eH g0:O}
  (n3:Ð K Ã "law"=U (%[i5|45])) (wy:K.lookup i5=U {n2,n0,.func (W.fnOf "law" "law" (fv iR) (dI iR) (aa iR) .none gx gF gG gn eH g0),n1})
  (w4:W.codeIn K eH "law"=Y) (w5:W.keepIn K (.ref i5)=Y)
  (g4:Ó K (.ref C7) "__init__"=U (%[f0|45]))
  (eb:A9 K C7 f0 [.type "ValueError",.type "Exception",.type "BaseException",.type "object"] "ValueError.__new__"=Y)
  (ec:Ú K (.ref f0)=U (.type "function"))
  (ee:qg K C7=Y)
  (eg:Ó K (.ref C7) "__setattr__"=U (U (.builtin "object.__setattr__")))
  (ej:Ö K C7=Y)
  (bB:W.takerIn K C7 "number"=U L)
  (bS:Ó K (.ref C7) "number"=U L)
  (c6:W.specialIn K (.ref C0) "__getattribute__"=U (U (.builtin "type.__getattribute__")))
  (c7:W.readsIn K C0 (.type "type")=Y)
  (c8:W.findCls K (.ref C0) (.type "type") "__init__"=U (.val (.builtin "ValueError.__init__")))
  (jz:Ó K (.ref C8) "__init__"=U (%[f1|45]))
  (el:A9 K C8 f1 [.type "ValueError",.type "Exception",.type "BaseException",.type "object"] "ValueError.__new__"=Y)
  (en:Ú K (.ref f1)=U (.type "function"))
  (eo:qg K C8=Y)
  (ep:Ó K (.ref C8) "__setattr__"=U (U (.builtin "object.__setattr__")))
  (et:Ö K C8=Y)
  (c9:W.takerIn K C8 "one"=U L)
  (de:Ó K (.ref C8) "one"=U L)
  (cf:W.takerIn K C8 "other"=U L)
  (cg:Ó K (.ref C8) "other"=U L)
  (eI:W.plainGet K C9 Str.empty=Y)
  (eO:Ö K C9=Y)
  (eR:W.plainOver K C9=Y)
  (e0:Ó K (.ref C9) "__setattr__"=U (U (.builtin "object.__setattr__")))
  (dh:Ó K (.ref C9) "axes"=U L)
  (cm:Ó K (.ref C9) "first"=U L)
  (dk:Ó K (.ref C9) "room"=U L)
  (b3:Ó K (.ref C9) "__init__"=U (%[e3|45]))
  (b6:W.isFn K (.ref e3)=Y)
  (e1:W.makesIn K C9=Y)
  (e2:W.keepIn K (.ref C9)=Y)
  (cv:Ó K (.ref C9) "sizes"=U (%[e4|45]))
  (cz:W.isFn K (.ref e4)=Y)
  (cN:Ó K (.ref C9) "paces"=U (%[e5|45]))
  (cO:W.isFn K (.ref e5)=Y)
  (cT:Ó K (.ref C9) "count"=U (%[e6|45]))
  (cV:W.isFn K (.ref e6)=Y)
  (dr:Ó K (.ref C9) "cell"=U (%[e7|45]))
  (dy:W.isFn K (.ref e7)=Y)
  (c0:Ó K (.ref C9) "cells"=U (%[e8|45]))
  (c1:W.isFn K (.ref e8)=Y)
  (c2:Ó K (.ref C9) "least"=U (%[e9|45]))
  (c3:W.isFn K (.ref e9)=Y)
  (b7:Ó K (.ref C9) "greatest"=U (%[fb|45]))
  (b8:W.isFn K (.ref fb)=Y)
  (eu:W.plainGet K b2 Str.empty=Y)
  (ew:Ö K b2=Y)
  (ey:W.plainOver K b2=Y)
  (ez:Ó K (.ref b2) "__setattr__"=U (U (.builtin "object.__setattr__")))
  (ck:Ó K (.ref b2) "floor"=U L)
  (b0:Ó K (.ref b2) "__init__"=U (%[fu|45]))
  (b1:W.isFn K (.ref fu)=Y)
  (eD:W.makesIn K b2=Y)
  (eF:W.keepIn K (.ref b2)=Y)
  (aX:Ó K (.ref b2) "all_values"=U (%[fx|45]))
  (bt:W.isFn K (.ref fx)=Y)
  (af:Ó K (.ref b2) "refuse_room"=U (%[fy|45]))
  (aS:W.isFn K (.ref fy)=Y)
  (c4:Ó K (.ref b2) "read"=U (%[fA|45]))
  (c5:W.isFn K (.ref fA)=Y)
  (dN:Ó K (.ref b2) "put"=U (%[gg|45]))
  (ea:W.isFn K (.ref gg)=Y)
  {w6:Tok} (w0:Ð K Ã "MOST_TOLD"=U (U (.int 4096 w6)))
  {w7:Tok} (w1:Ð K Ã "MOST_ROOM"=U (U (.int 1000000000000000000 w7)))
  {w8:Tok} (w2:Ð K Ã "MOST_SIZE"=U (U (.int 1000000000 w8)))
  {xa:Tok} (w3:Ð K Ã "MOST_AXES"=U (U (.int 8 xa)))
  (z0:Ð K Ã "ValueError"=U L)
  (z1:Ð K Ã "all"=U L)
  (z2:Ð K Ã "bool"=U L)
  (z3:Ð K Ã "enumerate"=U L)
  (z4:Ð K Ã "int"=U L)
  (z5:Ð K Ã "isinstance"=U L)
  (z6:Ð K Ã "len"=U L)
  (z7:Ð K Ã "list"=U L)
  (z8:Ð K Ã "max"=U L)
  (z9:Ð K Ã "min"=U L)
  (xb:Ð K Ã "range"=U L)
  (xq:Ð K Ã "reversed"=U L)
  (xA:Ð K Ã "set"=U L)
  (xB:Ð K Ã "sum"=U L)
  (xT:Ð K Ã "tuple"=U L)
  (x1:Ð K Ã "zip"=U L)
  : ∃ fd:Â,(∀ (s:À) (v:O),BindsTo s fd {[v],[]} [("_law_script",v)])/\∀ base:Í,K.In base->base.Ns Ã mg->aT l.prog w K mg base CX0 13 fa fd ["_law_script"] (Ak K):=by
 let e:=n5.symm.trans (V0 X xz n3);cases e;let x2:=M9 (st:=jW) p1 p3 p4;let n4:=QU (st:=iR) wy w4 w5;let T:Tx K mg {C0,C1,C2,C3,C4,C5,C6,C7,C8,C9,b2,f0,_,f1,_,f2,_,f3,_,f4,_,f5,_,f6,_,f7,_,f8,_,f9,_,g5,_,g6,_,g7,_,g8,_,hb,_,hc,_,e3,_,e4,_,e5,_,e6,_,e7,_,e8,_,e9,_,fb,_,hs,_,fo,_,ht,_,hu,_,hv,_,hy,_,hA,_,hB,_,hC,_,hD,_,hE,_,hF,_,hG,_,hI,_,hJ,_,hK,_,hL,_,hM,_,hN,_,hO,_,hP,_,hQ,_,hR,_,hS,_,fu,_,fx,_,fy,_,fA,_,gg,_,h3,_,h4,_,h5,_,h6,_,h7,_,h8,_,h9,_,ih,_,iv,_,ix,_,iz,_,i0,_,i1,_,i2,_,i3,_,i4,_,fa,_}:={V0 X xz y0,V0 X xz y1,V0 X xz y2,V0 X xz y3,V0 X xz y4,V0 X xz y5,V0 X xz y6,V0 X xz y7,V0 X xz y8,V0 X xz y9,V0 X xz n6,qAh,qAi,qAf,qAg,qA6,qAa,qAc,ocs,oct,xh,xs,xp,xn,{_,V0 X xz w0},{_,V0 X xz w1},{_,V0 X xz w2},{_,V0 X xz w3},{eb,ec,{(ee),eg,ej}},bB,bS,{(c6),c7,c8},{el,en,{(eo),ep,et}},c9,de,cf,cg,{(eI),eO,eR,e0},dh,cm,dk,{(e1),b3,b6,e2},{(cv),cz,hg.kp},{(cN),cO,hh.kp},{(cT),cV,hj.kp},{(dr),dy,hk.kp},{(c0),c1,ho.kp},{(c2),c3,hp.kp},{(b7),b8,hq.kp},{(eu),ew,ey,ez},ck,{(eD),b0,b1,eF},{(aX),bt,hT.kp},{(af),aS,hW.kp},{(c4),c5,hX.kp},{(dN),ea,hY.kp},F0,%[F0,["self", "number"]|203],F1,%[F1,["self", "one", "other"]|205],F2,V0 X xz a2,%[F2,["thing"]|204],F3,V0 X xz a3,%[F3,["sizes"]|204],F4,V0 X xz a4,%[F4,["sizes"]|204],F5,V0 X xz a5,%[F5,["thing", "bound"]|203],F6,V0 X xz a6,%[F6,%[|134]|203],F7,V0 X xz a7,%[F7,%[|141]|203],F8,V0 X xz a8,%[F8,%[|141]|203],F9,V0 X xz a9,%[F9,["count"]|204],j0,V0 X xz n8,%[j0,["sizes"]|204],j1,V0 X xz oh,%[j1,["thing", "low", "high"]|205],j2,V0 X xz oo,%[j2,["thing"]|204],j3,V0 X xz oL,%[j3,["thing"]|204],j4,V0 X xz oT,%[j4,["thing"]|204],j5,V0 X xz o2,%[j5,["axis"]|204],j7,%[j7,%[|124]|201],hg,%[hg,["self"]|204],hh,%[hh,["self"]|204],hj,%[hj,["self"]|204],hk,%[hk,["self", "place"]|203],ho,%[ho,["self"]|204],hp,%[hp,["self"]|204],hq,%[hq,["self"]|204],j8,V0 X xz pD,%[j8,["cells", "size", "pace"]|205],x2,V0 X xz p0,(λ s us i7 hl=>match us,(show us.length=2 by simp only[VN,Wc,Y3] at hl;omega) with|[_,_],_=>BindsTo.of_defaults rfl (i7 _ _ kX) J J J),(λ s us i7 hl=>match us,(show us.length=1 by simp only[VN,Wc,Y3] at hl;omega) with|[_],_=>BindsTo.of_defaults rfl (i7 _ _ kX) J J J),k4,V0 X xz qa,%[k4,["view"]|204],k6,V0 X xz qc,%[k6,["one", "other"]|203],k7,V0 X xz qn,%[k7,["thing", "many"]|203],k8,V0 X xz qs,%[k8,%[|134]|203],la,V0 X xz q1,%[la,%[|119]|203],lb,V0 X xz q3,%[lb,%[|114]|203],lk,V0 X xz q5,%[lk,["sizes", "order", "steps"]|205],lp,V0 X xz q7,%[lp,%[|119]|203],lr,V0 X xz q9,%[lr,%[|123]|201],lz,V0 X xz rb,%[lz,["view"]|204],lB,V0 X xz rn,%[lB,["to", "source", "spots"]|205],l0,V0 X xz rr,%[l0,%[|114]|203],l1,V0 X xz rv,%[l1,["pair", "axis"]|203],l2,V0 X xz ry,%[l2,["pair", "order"]|203],l3,V0 X xz r3,%[l3,%[|115]|205],l4,V0 X xz r5,%[l4,["pairs", "many"]|203],l5,V0 X xz r7,%[l5,["pairs", "many"]|203],l6,V0 X xz r9,%[l6,%[|114]|203],l7,V0 X xz sd,%[l7,["thing", "sizes", "known"]|205],l8,V0 X xz sg,%[l8,["pairs", "axis"]|203],l9,V0 X xz so,%[l9,%[|140]|205],mc,V0 X xz s7,%[mc,["view", "many"]|203],ml,%[ml,["self", "values"]|203],hT,%[hT,["self"]|204],hW,%[hW,%[|139]|203],hX,%[hX,%[|139]|203],hY,%[hY,["self", "view", "values"]|205],mn,V0 X xz tD,%[mn,["_law_script", "_law_k", "_law_many"]|205],mu,V0 X xz t2,%[mu,["_law_found"]|204],mv,V0 X xz t5,%[mv,["_law_number", "_law_by", "_law_many"]|205],mx,V0 X xz t7,%[mx,["_law_script", "_law_most_here", "_law_wide"]|205],m1,V0 X xz t9,%[m1,%[|122]|203],m2,V0 X xz u0,%[m2,["_law_script", "_law_paces"]|203],m6,V0 X xz u3,%[m6,%[|109]|203],m7,V0 X xz va,%[m7,%[|109]|203],m8,V0 X xz ve,%[m8,["_law_first", "_law_sizes_here", "_law_paces"]|205],nc,V0 X xz vo,%[nc,%[|122]|203],nf,V0 X xz vu,%[nf,%[|105]|202],ng,V0 X xz vx,%[ng,%[|105]|202],nt,V0 X xz v5,%[nt,["_law_way", "_law_bits"]|203],nA,V0 X xz v8,%[nA,%[|131]|205],nD,V0 X xz wh,%[nD,["_law_view", "_law_cell"]|203],nT,V0 X xz wk,%[nT,%[|133]|201],n4,V0 X xz n3,%[n4,["_law_script"]|204],WJ X xz z0,WJ X xz z1,WJ X xz z2,WJ X xz z3,WJ X xz z4,WJ X xz z5,WJ X xz z6,WJ X xz z7,WJ X xz z8,WJ X xz z9,WJ X xz xb,WJ X xz xq,WJ X xz xA,WJ X xz xB,WJ X xz xT,WJ X xz x1};exact{W.fnOf "law" "law" (fv iR) (dI iR) (aa iR) .none gx gF gG gn eH g0,λ s v=>.of_eq J,λ base _ _=>Pc T}
theorem walk{l:W.OpenLaw}{q:Ë}{loose:G Ç}{XP:(Ç->Ü O)->Í->Prop}{YP:Ï->Í->Prop}{d:DefRec}{K:Params->Æ}(hn:l.most=U 63)(af:d.params.defaults=[])
  (hY:∀ (w:Ï) (h:Í),YP w h->(K w.params).In h)
  (F:∀ (w:Ï) (mg:Ç->Ü O) (fa:Z) (h:Í),(K w.params).In h->h.Ns Ã mg->mg d.name=%[fa|45] →
   ∃ fd:Â,(∀ (s:À) (u:O),BindsTo s fd {[u],[]} [("_law_script",u)])/\∀ base:Í,(K w.params).In base->base.Ns Ã mg->aT l.prog w (K w.params) mg base CX0 13 fa fd ["_law_script"] (Ak (K w.params))) :
  W.WalkO q loose XP YP l.row.toRowW d [] (λ f vs=>PySem.call f vs):=
 L2.walk_of (n:=63) (k:=13) (x := "_law_script") (CX:=λ _=>CX0) (sp:=λ w=>Ak (K w.params)) hn ⋯ af ⟨by decide,by decide,J⟩ hY F (λ _ _ a ns hl _ hS=>{a,J,ns,hS,hl,λ _=>J}) λ _ _ _ _ _ z=>z
end PH
set_option genInjectivity false
set_option genSizeOf false
structure PySem.W.Fast where(tw6630224768806869037 tw17918893410047723915 tw16817330599347689918 tw9404110079793600663 tw13452602776211915944 tw121236704977973318 tw3499779096369700266 tw10540331577591287841 tw18224400664896485963 tw6885962532692608292 tw2936846987942303423 tw12376870935295261439 tw7167108422594448825 tw188048850558123750 tw9035088739604393135 tw16217074806678154557 tw10641915989605437457 tw10452927811470751363 tw8006715883880332621 tw7759816493879857353 tw1676465014899258870 tw712607681664519933 tw630281345187936231 tw7903134403956401986 tw6393448480738418671 tw143680106039531602 tw17848286747870986872 tw1647401099528389430 tw1796975480184124711 tw17117163286554830181 tw14595379737889661051 tw51937913104935890 tw18326563893018382986 tw14857108785524762631 tw14297883545068754748 tw2072024426105302528 tw13081757710457729717 tw10485137216728118971 tw9815132335430825066 tw4851990036320012404 tw2847423251802965771 tw12825412871044257449 tw17656915866805520637 tw543994116777823662 tw11744449912950138635 tw2621938773518363584 tw7666160197556651033 tw4353988800169843264 tw14298606272232626678 tw3819374122864257768 tw8650440507778294865 tw13111621765250099987 tw17222273087037914214 tw7536891772560935382 tw14158473134178166833 tw14165394455199501554 tw3687780306968134938 tw6926506082224651638 tw5837278774291421488 tw1149139212725581803 tw14698886593320602210 tw690524788045712770 tw8131313698088357970 tw14798377184411297777 tw5167294429571382285 tw5760951832937328846 tw4851176164631854974 tw5821127587351406320 tw13591578557682425046 tw15441210207448707513 tw1683300725284285732 tw11366989497171210849 tw13214800036553826262 tw12754693762149986269 tw17116066850715788472 tw40394325130405546 tw18136936810555355730 tw11206064157145757694 tw10544613796187613775 tw12641938328192859618 tw14485010056750851124 tw6575007391830434679 tw7214918332474178585 tw6326921698117960799 tw15156191154230858627 tw6831925331252551606 tw12739670402127279818 tw1094946863975008711 tw4662900524831363047 tw4596307153227676171 tw15656923183416355588 tw5552368798133937122 tw1716227390984155287 tw3660819617039766688 tw11361694823608957299 tw4218303660923488874 tw2283935850898557187 tw9938801084205502857 tw6661935230763352884 tw4206180034844039051 tw5423603122249765398 tw908875406099033327 tw12957305916822082460 tw7374043718717858630 tw3977579478137920020 tw8145250815195346092 tw6048015918895620137 tw5981980056242004785 tw2950416507924757878 tw16194087364043246315 tw13855178267363154014 tw9185943508067111114 tw11737131257100791461 tw10645023046177616893 tw13796531452178657299 tw5130130206434087143 tw6615545422357447238 tw16912092476494383592 tw12937032402600608599 tw781468976556467037 tw7185223021608859285 tw498183715676690423 tw16049973022087038279 tw16790007355501679399 tw18406244164988963713 tw16496920144958870379 tw2486359172629904589 tw3933464396202540851 tw8357377901998309090 tw2082161948079664177 tw1039304298518618358 tw3888433553375437441 tw8756511350436264859 tw6110675874066195741 tw8211821093792437781 tw8378466118840248612 tw11824721259150173644 tw11214205772232584686 tw8725425544855918943 tw1348708647897673831 tw577185369846924455 tw2516717997097004817 tw8560128469314042634 tw12332978881784241879 tw2149932569177768494 tw6176780814850171979 tw17099220368136663144 tw8287556875982485543 tw5274560678513773987 tw15683226996508828611 tw16369397600631165766 tw4493851242258421518 tw5394609298206757785 tw7831573146680815767 tw8118292722891558215 tw3050457540518431840 tw1255381897189095338 tw1783719930191774295 tw769197477911762810 tw7192093488452229281 tw15193192326581016619 tw15743472635910682987 tw2135891659139956243 tw17675924218341754459 tw7829177579697051710 tw10243990258299791757 tw1243096477198585626 tw482023410666604245 tw7622392704958309098 tw13697802294321275624 tw15305363190755189351 tw5983314368165765941 tw18241524698377427789 tw2568483021559282950 tw6687690134335244652 tw5652610229901662551 tw3681166441456987285 tw7690068039867470856 tw7903479876845856676 tw2046477909836044118 tw2494236294409160039 tw17049797465114904287 tw12520607262503285666 tw1677513955854384520 tw5667109853428345531 tw2310260900498770722 tw14815061665800322668 tw9087023334984678406 tw3984383767290315567 tw2082822412578272152 tw7810190092677890139 tw6806770234303907233 tw5150360495670595062 tw1186215412242213665 tw14533555030867825314 tw5280596816336303625 tw12660420974448817830 tw2103377356555559608 tw12643735908959094459 tw15551665498817555966 tw9310752607240472402 tw15991878139971196226 tw10685853658640902294 tw610415124961326150 tw13242908297903857487 tw16225051264289647318 tw4844991414428377080 tw14559233858244127499 tw13539517416925238678 tw9244221805711822438 tw6082023760998771736 tw16264281680933726179 tw6663792770392405401 tw6853581218207794494 tw8207061937788573584 tw5834192489599541646 tw11947154088383547898 tw9069863586414181855 tw12918067178879865981 tw3123369229081300976 tw16885891359206945599 tw6766880300263350885 tw5295937881187179811 tw10249119357542324507 tw14840094981759567488 tw1632748048902873142 tw5745833145452108793 tw6925388137794182941 tw4983819073423712921 tw7549680084292691913 tw11688859303882807101 tw1616965686996566551 tw7648447600398530780 tw10248547766238756151 tw5676452252095927703 tw6813478681516611842 tw4904697931826543086 tw8509204446077999400 tw15974282029707826900 tw12140700017496593394 tw8447285825152039376 tw13422327064675425470 tw12885058799557467552 tw4698470077893223534 tw5905856026097703660 tw9919212571467275668 tw1620843995055179554 tw194943537097730194 tw4644977920774575232 tw11939048393776029342 tw13956420033007318975 tw8809219379620777382 tw14837726575431017679 tw446428213418561328 tw13897535357506457442 tw15341109021443930044 tw54904662055737726 tw10949885831277113775 tw4281330844122524043 tw8471032457468750512 tw2032827087582025617 tw9655055901431491602 tw1582176573079007092 tw2781617479952685957 tw8878947298447122615 tw15300352404708646125 tw972964373973288855 tw18188214441726331245 tw5572776286423074841 tw12352581488042511235 tw1208921590459655196 tw13574083807893655867 tw4459067314762337856 tw5407940951314579167 tw9586741330040629929 tw5349352026470429297 tw1192871550728738175 tw5013729148002957167 tw3230210160102846109 tw9509920240461926190 tw9444438944785005153 tw14091643307518853749 tw3494369873531939785 tw14082862737645012850 tw18219440574429154724 tw7300111957556596239 tw8166665708715133362 tw9265941001826755957 tw6418284218211487383 tw3696767588053048637 tw13780547865266294263 tw18109148388682182421 tw10331555549304868246 tw3993458039168948176 tw8445098270078265771 tw7286455224892365228 tw8843259644667574872 tw1260629145858553993 tw12258083244004127928 tw4595652145266129323 tw2740754805308323019 tw5125270324699343624 tw16380839592386711089 tw11397761113024528254 tw6163125879671026879 tw15110827920793817621 tw4263892630876126522 tw9369276849382763997 tw4474813818916599582 tw3568603336634721180 tw12193243014616527385 tw2974042829215574611 tw12454204066625611709 tw6783385346980653430 tw2351178100926331432 tw17104911490241329315 tw5815557748017798559 tw6732124743834177268 tw12154767924172465548 tw10873520488837227601:Prop)
open PySem PySem.W PyProof.Rows
theorem PySem.Challenge.cw_pacehall_k79_loops_refused_holds : PySem.Challenge.rw_pacehall_k79_loops_refused.Holds := by
 w_on;o_law;k_head;(case hw=>w_witness2)
 k_fill
 refine PH.walk (l:=PySem.Challenge.rw_pacehall_k79_loops_refused) rfl rfl (λ w h Y=>PySem.W.kIn_of Y) ?F
 case F=>
  intro w mg fa h KX G hmg
  apply PH.UU KX G hmg
  (case y0|y1|y2|y3|y4|y5|y6|y7|y8|y9|n6|g4=>first|k_is|k_exc|kts_exm|decide|rfl|decide +kernel|kernel_rfl)
  (case jz|b3|cv|cN|cT|dr|c0|c2|b7|b0|aX|af=>first|k_is|k_exc|kts_exm|decide|rfl|decide +kernel|kernel_rfl)
  (case c4|dN|a2|a3|a4|a5|a6|a7|a8|a9|n8|oh=>first|k_is|k_exc|kts_exm|decide|rfl|decide +kernel|kernel_rfl)
  (case oo|oL|oT|o2|pD|p0|qa|qc|qn|qs|q1|q3=>first|k_is|k_exc|kts_exm|decide|rfl|decide +kernel|kernel_rfl)
  (case q5|q7|q9|rb|rn|rr|rv|ry|r3|r5|r7|r9=>first|k_is|k_exc|kts_exm|decide|rfl|decide +kernel|kernel_rfl)
  (case sd|sg|so|s7|tD|t2|t5|t7|t9|u0|u3|va=>first|k_is|k_exc|kts_exm|decide|rfl|decide +kernel|kernel_rfl)
  (case ve|vo|vu|vx|v5|v8|wh|wk|n3=>first|k_is|k_exc|kts_exm|decide|rfl|decide +kernel|kernel_rfl)
  (case F0|F1|F2|F3|F4|F5|F6|F7|F8|F9|j0|j1=>(refine' L2.QU ?l ?c ?k;(case l|c|k=>first|k_is|k_exc|kts_exm|decide|rfl|decide +kernel|kernel_rfl)))
  (case j2|j3|j4|j5|j7|hg|hh|hj|hk|ho|hp|hq=>(refine' L2.QU ?l ?c ?k;(case l|c|k=>first|k_is|k_exc|kts_exm|decide|rfl|decide +kernel|kernel_rfl)))
  (case j8|k4|k6|k7|k8|la|lb|lk|lp|lr|lz|lB=>(refine' L2.QU ?l ?c ?k;(case l|c|k=>first|k_is|k_exc|kts_exm|decide|rfl|decide +kernel|kernel_rfl)))
  (case l0|l1|l2|l3|l4|l5|l6|l7|l8|l9|mc|ml=>(refine' L2.QU ?l ?c ?k;(case l|c|k=>first|k_is|k_exc|kts_exm|decide|rfl|decide +kernel|kernel_rfl)))
  (case hT|hW|hX|hY|mn|mu|mv|mx|m1|m2|m6|m7=>(refine' L2.QU ?l ?c ?k;(case l|c|k=>first|k_is|k_exc|kts_exm|decide|rfl|decide +kernel|kernel_rfl)))
  (case m8|nc|nf|ng|nt|nA|nD|nT=>(refine' L2.QU ?l ?c ?k;(case l|c|k=>first|k_is|k_exc|kts_exm|decide|rfl|decide +kernel|kernel_rfl)))
  (case qAh|qAi|qAf|qAg|qA6|qAa|qAc|ocs|oct|xh|xs|xp=>first|k_is|k_exc|kts_exm|decide|rfl|decide +kernel|kernel_rfl)
  (case xn|p1|kX|p3|p4|wy|w4|w5|eb|ec|ee|eg=>first|k_is|k_exc|kts_exm|decide|rfl|decide +kernel|kernel_rfl)
  (case ej|bB|bS|c6|c7|c8|el|en|eo|ep|et|c9=>first|k_is|k_exc|kts_exm|decide|rfl|decide +kernel|kernel_rfl)
  (case de|cf|cg|eI|eO|eR|e0|dh|cm|dk|b6|e1=>first|k_is|k_exc|kts_exm|decide|rfl|decide +kernel|kernel_rfl)
  (case e2|cz|cO|cV|dy|c1|c3|b8|eu|ew|ey|ez=>first|k_is|k_exc|kts_exm|decide|rfl|decide +kernel|kernel_rfl)
  (case ck|b1|eD|eF|bt|aS|c5|ea|w0|w1|w2|w3=>first|k_is|k_exc|kts_exm|decide|rfl|decide +kernel|kernel_rfl)
  (case z0|z1|z2|z3|z4|z5|z6|z7|z8|z9|xb|xq=>first|k_is|k_exc|kts_exm|decide|rfl|decide +kernel|kernel_rfl)
  (case xA|xB|xT|x1=>first|k_is|k_exc|kts_exm|decide|rfl|decide +kernel|kernel_rfl)
#print axioms PySem.Challenge.cw_pacehall_k79_loops_refused_holds