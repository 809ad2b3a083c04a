import PyProof.Rows.All
import Wide.All
import OpenK.AllK
import Wide.FinOn
import Lean
import PyProof.EqAt
import PyProof.EqKinds
import PyProof.TupleCall
import PyProof.NeKinds
import KE.KLam
import KE.KMinKey
import KE.KSortTup
import PyProof.AutoListH
import PyProof.MeetsStr
import PyProof.StrLawsJoin
import PyProof.FitsReplace
import PyProof.Rows.TupDisplay
import PyProof.ListRange
import PyProof.ZipIter
import PyProof.ListNew
import KE.KSortKey
import PyProof.StationsW
import PyProof.ExcClass2
import PyProof.ExcInit
import PyProof.ExcBaseAll.ValueError
import PyProof.RulesAs
import PyProof.NsDelKeeps
import PyProof.ExcAttrAll.ValueError
import PyProof.IsiBase
import KE.KIsAll
import PyProof.InstStoreFacts
import PyProof.Rows.SetFrom
import PyProof.SetRoads
import KE.KRevIter
import PySem.Challenge.RW_cutyard_k32_none_with_paper
open PySem.W (instObj methodObj Frag lookIn InstAt plainGet hasDictIn findIn handedIn plainGet_of isFn plainOver takerIn makesIn typeIn emptyDict keepIn callWith_K cellsFrom_some fnOf codeIn kIn_of mg_of nsIn mg_none_of)
set_option Elab.async false
set_option linter.all false
set_option maxRecDepth 100000
noncomputable section
open List renaming length_map->Il,getElem?_append_right->Im,length_append->Io,getElem?_append_left->Ip,length_set->Iv,mem_cons_self->Iy,mem_singleton->Iz,mem_cons_of_mem->IC,mem_of_getElem?->ID,getElem?_map->IE,length_range->IF,size_toArray->IG,length_cons->IH,getD_eq_getElem?_getD->II,append_assoc->IJ,mem_cons->IL,getElem?_set_ne->IP,map_cons->IQ,getElem?_set_self->IS,length_singleton->IX,mem_range->IY,mem_append->IZ,mem_map->I0,mem_of_find?_eq_some->Ja,lookup_cons->Jc,nodup_cons->Jg,append_nil->Ji,flatten_cons->Jn,mem_append_right->Jo,getElem?_eq_none->Jp,mem_filter->Jq,getElem?_range->Jr,length_take->Jv,map_map->Jw,length_replicate->Jy,getElem?_eq_some_iff->Jz,map_append->JB,length_eraseIdx_of_lt->JF,getElem?_eq_getElem->JK,replicate_succ->JL,length_filter_le->JN,take_length->JR,find?_cons_of_neg->JS,ext_getElem?->JU,nodup_append->JV,length_eq_zero_iff->JY,filter_cons_of_pos->JZ,getElem?_of_mem->J0,take_of_length_le->J1,length_nil->J3,mem_append_left->J5,getElem?_replicate->J7,filter_cons_of_neg->J9,find?_cons_of_pos->Kb,length_drop->Ke,all_eq_true->Kf,filter_append->Kh,map_singleton->Kk,sum_singleton->Kl,find?_cons->Kn,range_succ->Ko,set_append_left->Kp,sum_cons->Kt,not_mem_nil->KA,map_set->KD,getElem?_zipWith->KH,any_cons->KJ,mem_or_eq_of_mem_set->KR,getElem_mem->KS,filterMap_cons->KU,map_congr_left->KW,eraseIdxIfInBounds_toArray->KY,mem_filterMap->KZ,sum_append->K2,pairwise_cons->K3,find?_some->K4,pairwise_lt_range->K5,take_append_of_le_length->K6,set_append_right->K9,any_eq_true->Lf,zipWith_append->Lh,of_mem_zip->Li,nil_append->Lj,getElem?_zip_eq_some->Lk,getElem?_eq_none_iff->Ll,getElem?_take_of_lt->Lo,getElem?_drop->Ls,mem_of_mem_eraseIdx->Lw,take_succ_eq_append_getElem->LI,mem_reverse->LK,dropLast_eq_take->LM,eraseIdx_eq_take_drop_succ->LQ,forIn_cons->LU,mem_of_mem_take->L0,length_reverse->L3,drop_zero->L5,filterMap_map->L6,lookup_append->L8,foldl_append->Mf,drop_eq_getElem_cons->Mj,findIdx?_eq_none_iff->Ml,mem_flatten->Mt,mem_flatMap->Mu,map_zipWith->Mv,eq_of_mem_replicate->Mw,length_erase_of_mem->Mx,map_zip_eq_zipWith->Mz,getElem?_cons_succ->MA,length_zip->MD,length_pos_of_mem->MF,getElem?_eraseIdx->MG,forIn_nil->MI,pairwise_reverse->ML,countP_le_length->MM,all_cons->MP,any_map->MT
open PySem renaming wpAny_bind->Iq,wpAny_pure->IK,boot_len->IV,wpAny_loadPart'->JA,mem_of_lookup->JE,wpAny_field->JQ,wpAny_callSpecial?_slot->JX,wpAny_mono->Kc,wpAny_holding->Kd,wpAny_newObj_type->Ks,wpAny_call_entry->Kw,wpAny_seqItems->Kz,wpAny_setField_rec->KC,wpAny_passesOwn->KG,wpAny_truthy_bool->KN,call_meets->KP,wpAny_pyIter_tuple->K1,wpAny_Call_Name_kw->Ln,wpAny_pyNext_list_item->Lz,sizeLine_eq->LA,wpAny_pyNext_list_end->LL,wpAny_execs_nil->LR,wpAny_updateSeq_pair->LV,call_isinstance->LY,tupleKind_room_in1->L7,wpAny_standAt->Mc,wpAny_onRaise->Md,wpAny_pyIter_list->Me,typeIs_int->Mi,codeAny_mono->Mn,noFill_tuple_add->Mp,wpAny_ite_false->MC,Shared->À,mainGlobals->Á,Expr->Ã,model->Ä,Program->Å,assignEach->Æ,Stmt->Ç,World->È,compareOp->É,foldedSetIterable->Ê,attributeBase->Ë,Around->Ì,FuncData->Í,swapsWith->Î,binaryOp->Ï,IsPair->Ó,Obj->Ô,keywordEach->Õ,Pos->Ö,cellsFrom->Ø,sysModules->Ù,bootBuiltins->Ú,Keyword->Ü,Scope->ß,sliceBounds->á,backToKw->â,getItem->ä,cLine->å,builtinsNs->æ,IsZip->ç,swapsWithSole->è,swappedStores->é,Operator->ë,Env->ì,codeAny->í,IsPart->ï,letOwnedTupleGo->ñ,rawInt->ò,pyNext->ó,PassesOwn->ø,valueAt->ü,callerA->ý,IntMulOk->þ,tupleKind->Ā,seqIndex?->ā,subscripted->Ą,BindsTo->Č,wpAny_rule->č,newFunctionEnv->Ď,field->ď,compEnvC->Đ,atKey->đ,CmpOp->Ē,wpAny_binaryOp_repeat_ref->ē,wpAny_attempt->Ė,seq_tuple_add->ė,rangeSize_one->Ę,wpAny_pyNext_tuple_item->Ĝ,bindL->ĝ,bindC->Ğ,wpAny_typeOf->ĥ,wpAny_pyNext_tuple_end->Ħ,wpAny_pyIter_tupleiter->ħ,seqIndex_neg->Ĩ,concat_meets->ĩ,Params->ī,wpAny_pyIter_listiter->į,wpAny_pyIter_revIter->Ĵ,wpAny_letGo->ĵ,seqIndex_of->Ķ,typeIs_str->ĺ,wpAny_sequenceKey->ł,wpAny_pyIter_enum->Ń,slot_list_getitem->ń,Tok->Ň,Meets->ň,wpAny_pyIter_zip->Ŋ,wpAny_isInstance->ŋ,storeName->Ō,small_one->ō,wpAny_specialOf->Ő,pushCells_keeps->ő,isinstance_true->Œ,call_list_range->œ
open Nat renaming le_refl->Iu,le_trans->IU,sub_self->Je,ne_of_lt->Jk,lt_of_lt_of_le->Jl,lt_or_ge->Js,add_sub_cancel_left->JG,not_lt_zero->JI,le_of_lt->JW,lt_irrefl->J4,mul_le_mul->Kg,zero_le->Km,pow_le_pow_right->Kq,mul_le_mul_right->Kr,pow_lt_pow_right->KQ,lt_of_le_of_lt->K0,lt_succ_of_lt->K7,lt_succ_self->Le,le_mul_of_pos_left->LD,le_add_right->LJ,add_sub_add_right->LN,le_of_eq->Mm,mul_comm->Mq,lt_trans->Mr,ne_of_gt->MR
open PySem.Heap renaming get?_push_of_some->IA,get?_push_size->IM,lt_size->IT,size_push->Jx
open PyProof.Rows renaming boot_tuple->IB,callWith_type1->JM,slot_tuple_getitem->JP,boot_int->Kj,boot_abs->KI,boot_any->LO,boot_max->LP,boot_all->MN,envOfC->ê,AllBare->ð,subscriptTail->Ě,boot_list->Ġ,IsTup->ġ,subscriptTail_builtinR->ĭ,IntsAre->Į,entry_tuple_getitem->ĸ,args_tuple_getitem->ļ
open PySem.PassesOwn renaming never->IW
open Option.some renaming inj->Jf
open Bool renaming false_ne_true->Jm,and_eq_true->JJ,and_false->Ki,false_and->Kv,not_eq_true'->Mh,eq_iff_iff->MB,false_eq_true->Ĥ,bne_false->Ĺ,bne_true->ľ,true->ŗ,false->Ř
open Int renaming zero_add->Jt,toNat_natCast->JO,natAbs_mul->J6,eq_ofNat_of_zero_le->Ka,add_zero->La,natAbs_neg->Lb,zero_mul->Lc,natAbs_ediv_le_natAbs->Lm,mul_assoc->LH,mul_zero->L1,emod_lt_of_pos->Mb,emod_nonneg->ME,zero_ediv->MQ,ediv_one->MS
open Ne renaming symm->JD
open Classical renaming byContradiction->JH
open PySem.W renaming mg_none_of->JT,Frag->Â,findIn->Ð,nsIn->Ò,emptyDict->Ý,keepIn->ã,instObj->î,plainGet->ô,hasDictIn->ö,plainOver->Ă,codeIn->ă,plainGet_of->ą,fnOf->ę,methodObj->ğ,makesIn->Ī,lookIn->Ļ,takerIn->Ņ
open Array renaming length_toList->J2,getElem?_toList->MH,toList->Ł,ext'->ŏ
open PySem.F renaming plainAttrs_list->J8,slot_tuple_iterator_next->KL,slot_tuple_mul->Lg,args_tuple_add_2->Lq,slot_list_append->Lu,type_list_append->Lv,entry_tuple_add->Ly,slot_tuple_add->LB,slot_int_rmul->LS,slot_zip_next->LX,args_tuple_iterator_next_1->L4,entry_tuple_iterator_next->L9,args_tuple_mul_2->Ma,entry_tuple_mul->Mg,slot_list_pop->MJ,type_list_pop->MK
open Decidable renaming em->K8
open PySem.AutoSeq1 renaming sub_tuple_tuple->Lr,idx_int->Ms
open Option renaming map_eq_some_iff->LC,isSome_iff_exists->Mo,isSome_some->ĕ,isSome_map->ě,getD_none->Ģ,bind_some->ģ,none->Ľ,some->Z,none->ŕ
open PySem.Paired renaming length->LF,snoc->Ċ
open List.cons renaming inj->LG
open False renaming elim->Ñ
open True renaming intro->Û
open Or renaming inr->Þ
open Sum renaming inl->à,inr->ú
open PySem.Obj renaming mapSeq->õ,data_mapFields->Ĭ
open PySem.Data renaming seq->ù,cell->û,fields->Ĕ
open PySem.Calls renaming Name_function_global->ÿ,callWith_builtin->Ĉ
open PySem.Around renaming under->Ć
open Sum.inl renaming inj->ć
open PySem.Shared renaming heap->ĉ
open PySem.Code renaming isFrame->ċ,frames->Ŏ
open PySem.MeetsSeq.EqGives renaming int->ķ
open PySem.W.WShape renaming has->ņ
open PySem.W.WData renaming int->Ŕ
abbrev Y:=List
abbrev Ŗ:=Option
theorem S{α:Sort _}{a:α}:a=a:=rfl
local macro_rules|`(())=>`(by omega)
local macro_rules|`('b')=>`(by decide)
local macro_rules|`('a')=>`(by decide +kernel)
local macro_rules|`(tactic|show $e)=>`(tactic|exact $e)
section
open Lean
def cV9:Nat->Term->MacroM (TSyntax `rcasesPat)
 |0,_=>Macro.throwUnsupported
 |n+1,t=>do match t with
  |`($x:ident)=>`(rcasesPat|$x:ident)
  |`(_)=>`(rcasesPat|_)
  |`(⟨$ps,*⟩)=>do
   let qs←ps.getElems.mapM fun p=>do
    let q←cV9 n p
    `(Lean.Parser.Tactic.rcasesPatLo|$q:rcasesPat)
   `(rcasesPat|⟨$qs,*⟩)
  |_=>Macro.throwUnsupported
end
local macro_rules|`(tactic|let $p:term:=$e)=>do
 let q←cV9 99 p
 `(tactic|obtain $q:rcasesPat:=$e)
abbrev fI(x:PySem.Str):Prop:=(x==("__classdict__":PySem.Str))=false
abbrev ab(x:PySem.Str):Prop:=(x==("__debug__":PySem.Str))=false
abbrev Ir:=@if_neg
abbrev Iw:=@if_pos
abbrev Jb:=@decide_eq_false
abbrev Jd:=@of_decide_eq_true
abbrev Jh:=@decide_eq_true
abbrev Jj:=@beq_self_eq_true
abbrev Ju:=@congrArg
abbrev JC:=@of_decide_eq_false
abbrev Ku:=@beq_eq_false_iff_ne
abbrev KO:=@decide_eq_true_eq
abbrev Ld:=@beq_iff_eq
abbrev Lx:=@if_true
abbrev LZ:=@beq_false_of_ne
abbrev MO:=@if_false
local macro_rules|`(tactic|ac_rfl)=>`(tactic|exact⟨rfl,rfl,rfl,by decide +kernel,rfl,by decide +kernel,by decide +kernel⟩)
local macro_rules|`(tactic|lia)=>`(tactic|decide +kernel)
local macro_rules|`(tactic|nofun)=>`(tactic|first|exact Or.inl rfl|exact Or.inr (Or.inl rfl)|exact Or.inr (Or.inr rfl)|exact .inr rfl|assumption)
theorem VF{c:Sort _}{a:c}{b:Prop}:a=a\/b:=.inl rfl
namespace L2
open PySem PySem.Spec PyProof.Rows
noncomputable abbrev aD:=Sum Int Str
noncomputable def jy:aD->Value->Bool
 |.inl k,v=>Value.isInt k v
 |.inr x,v=>Value.isStrOf x v
noncomputable def yT(w:È):aD->Int
 |.inl k=>hashInt k
 |.inr x=>hashStr w x
theorem ik:∀{k:aD}{v:Value},jy k v=ŗ->(∃i t,k=à i/\v=Value.int i t)\/(∃x t,k=ú x/\v=Value.str x t)
 |.inl i,v,h=>by let⟨t,e⟩:=Value.isInt_shape (k:=i) (v:=v) h;show .inl ⟨i,t,S,e⟩
 |.inr x,v,h=>by let⟨t,e⟩:=Value.isStrOf_shape (x:=x) (v:=v) h;show .inr ⟨x,t,S,e⟩
theorem xg(i:Int)(t:Ň):jy (.inl i) (.int i t)=ŗ:=by simp[jy,Value.isInt]
theorem AD(x:Str)(t:Ň):jy (.inr x) (.str x t)=ŗ:=by simp[jy,Value.isStrOf]
theorem AE(a b:Int):decide ((à a:aD)=à b)=(a==b):=by
 by_cases e:a=b
 ·subst e;simp
 ·have h:¬ (à a:aD)=à b:=λq=>e (ć q);rw[Jb h];show (Ku.mpr e).symm
theorem CD(a b:Str):decide ((ú a:aD)=ú b)=decide (a=b):=by
 by_cases e:a=b
 ·subst e;simp
 ·have h:¬ (ú a:aD)=ú b:=λq=>e (ú.inj q);rw[Jb h,Jb e]
theorem Gz(a:Int)(b:Str):decide ((à a:aD)=ú b)=Ř:=Jb (λq=>nomatch q)
theorem EG(a:Str)(b:Int):decide ((ú a:aD)=à b)=Ř:=Jb (λq=>nomatch q)
noncomputable def fA(prog:Å)(w:È):PySem.KeyKind prog w aD where
 is:=jy
 hash:=yT w
 inj:=λv a b g f=>by
  rcases ik g with⟨i,t,rfl,rfl⟩|⟨x,t,rfl,rfl⟩
  ·rcases ik f with⟨j,u,rfl,e⟩|⟨y,u,rfl,e⟩
   ·injection e with e1 _;rw[e1]
   ·show nomatch e
  ·rcases ik f with⟨j,u,rfl,e⟩|⟨y,u,rfl,e⟩
   ·show nomatch e
   ·injection e with e1 _;rw[e1]
 byValue:=λk v h=>by rcases ik h with⟨i,t,rfl,rfl⟩|⟨x,t,rfl,rfl⟩<;>rfl
 pyHash:=λc h=>by
  rcases ik c with⟨i,t,rfl,rfl⟩|⟨x,t,rfl,rfl⟩
  ·show wpAny_pyHash_int h
  ·show wpAny_pyHash_str h
 eqBool:=λl c h=>by
  rcases ik l with⟨i,t,rfl,rfl⟩|⟨x,t,rfl,rfl⟩
  ·rcases ik c with⟨j,u,rfl,rfl⟩|⟨y,u,rfl,rfl⟩
   ·rw[AE]at h;show wpAny_eqBool_int h
   ·rw[Gz]at h;show SeqAt.EqAt.int_str i t y u _ _ _ _ h
  ·rcases ik c with⟨j,u,rfl,rfl⟩|⟨y,u,rfl,rfl⟩
   ·rw[EG]at h;show SeqAt.EqAt.str_int x t j u _ _ _ _ h
   ·rw[CD]at h;show wpAny_eqBool_str h
 «strs»:=λk x t v h=>by
  rcases ik h with⟨i,u,rfl,e⟩|⟨y,u,rfl,e⟩
  ·show nomatch e
  ·injection e with e1 _;subst e1;cases v<;>rfl
theorem BU(prog:Å)(w:È)(i:Int)(t:Ň):(fA prog w).is (.inl i) (.int i t)=ŗ:=xg i t
theorem yz(prog:Å)(w:È)(x:Str)(t:Ň):(fA prog w).is (.inr x) (.str x t)=ŗ:=AD x t
inductive V where
 |non|bl (b:Bool)|int (i:Int)|str (x:Str)|byt (b:Array UInt8)|flt (b:UInt64)|ref (a:Addr)|ty (n:String)
 deriving DecidableEq
noncomputable def RelV:V->Value->Prop
 |.non,u=>u=Value.none
 |.bl b,u=>u=Value.bool b
 |.int i,u=>∃t,u=Value.int i t
 |.str x,u=>∃t,u=Value.str x t
 |.byt b,u=>∃t,u=Value.bytes b t
 |.flt b,u=>∃t,u=Value.float b t
 |.ref a,u=>u=Value.ref a
 |.ty n,u=>u=Value.type n
noncomputable abbrev Vals:Y V->Y Value->Prop:=Paired RelV
theorem Vals.length{xs:Y V}{us:Y Value}(r:Vals xs us):xs.length=us.length:=LF r
theorem Vals.get:∀{xs:Y V}{us:Y Value}{i:Nat}{x:V},Vals xs us->xs[i]?=Z x->∃u,us[i]?=Z u/\RelV x u
 |_,_,_,_,.nil,e=>by simp at e
 |_,_,0,_,.cons r _,e=>by simp at e;subst e;show⟨_,S,r⟩
 |_,_,i+1,x,.cons _ t,e=>by let⟨u,a,c⟩:=Vals.get (i:=i) (x:=x) t (by simpa using e);show⟨u,by simpa using a,c⟩
theorem Vals.set{x:V}{u:Value}(r:RelV x u):∀{xs:Y V}{us:Y Value}(i:Nat),Vals xs us->Vals (xs.set i x) (us.set i u)
 |_,_,_,.nil=>.nil
 |_,_,0,.cons _ t=>.cons r t
 |_,_,i+1,.cons q t=>.cons q (Vals.set r i t)
theorem Vals.append:∀{xs c:Y V}{us a:Y Value},Vals xs us->Vals c a->Vals (xs++c) (us++a)
 |_,_,_,_,.nil,s=>s
 |_,_,_,_,.cons r t,s=>.cons r (Vals.append t s)
theorem Vals.take:∀{xs:Y V}{us:Y Value}(n:Nat),Vals xs us->Vals (xs.take n) (us.take n)
 |_,_,0,_=>.nil
 |_,_,_+1,.nil=>.nil
 |_,_,n+1,.cons r t=>.cons r (Vals.take n t)
theorem Vals.drop:∀{xs:Y V}{us:Y Value}(n:Nat),Vals xs us->Vals (xs.drop n) (us.drop n)
 |_,_,0,r=>r
 |_,_,_+1,.nil=>.nil
 |_,_,n+1,.cons _ t=>Vals.drop n t
noncomputable def RelO:Ŗ V->Ŗ Value->Prop
 |some v,Z u=>RelV v u
 |none,ŕ=>True
 |_,_=>False
noncomputable def KV{a:Type}:Y (a×V)->Y (a×Value)->Prop:=Paired λ(p:a×V)(q:a×Value)=>p.1=q.1/\RelV p.2 q.2
noncomputable def kV:aD->V
 |.inl i=>.int i
 |.inr x=>.str x
inductive HO where
  |lst (xs:List V)
  |tup (xs:List V)
  |dK (M0:List (aD×V))|dT (M0:List (List aD×V))
  |set (Q:Int->Bool) (n:Nat)
  |ins (C dx:Addr) (fs:List (Str×V))
  |own (x:Addr)
  |xd (fs:List (Str×V))
  |met (f x:Addr)
  |rng (lo hi:Int)
  |frz (o:Ô) (u:HO)
  |tbl (ps:Array Value)
  |ext (φ:Heap->Prop)
noncomputable abbrev Hp:=Addr->Ŗ HO
noncomputable def aq(H:Hp)(a:Addr)(o:HO):Hp:=λb=>if b=a then Z o else H b
theorem bh{H:Hp}{a:Addr}{o:HO}:aq H a o a=Z o:=by unfold aq;rw[Iw S]
theorem aY{H:Hp}{a b:Addr}{o:HO}(h:b≠a):aq H a o b=H b:=by unfold aq;rw[Ir h]
theorem D6{H:Hp}{a:Addr}{o u:HO}:aq (aq H a o) a u=aq H a u:=by
 funext b;unfold aq;split<;>rfl
theorem wE{H:Hp}{a b:Addr}{o u:HO}(h:H a=Z o)(h':H b=Z u)(d:o≠u):a≠b:=by intro e;subst e;rw[h]at h';show d (Jf h')
theorem de{H:Hp}{a b:Addr}{o:HO}(h:H a=Z o)(h':H b=ŕ):a≠b:=by intro e;subst e;rw[h]at h';cases h'
noncomputable def IsTupD(h:Heap)(a:Addr)(c:Array Value):Prop:=∃o,h.get? a=Z o/\(o.cls=.type "tuple"/\o.dict=ŕ)/\∃n,o.data=.seq c n
theorem IsTupD.tup{h:Heap}{a:Addr}{f:Array Value}(x:IsTupD h a f):ġ h a f:=let ⟨o,e,c,d⟩:=x;⟨o,e,c.1,d⟩
theorem IsTupD.lt{h:Heap}{a:Addr}{c:Array Value}(x:IsTupD h a c):a<h.objs.size:=x.tup.lt
theorem IsTupD.new(h:Heap)(a:Array Value):IsTupD (h.push { cls:=.type "tuple",data:=.seq a }) h.objs.size a:=⟨_,IM _ S,⟨S,S⟩,_,S⟩
section
variable(P:Å)(w:È)
noncomputable def ObjOk(H:Hp)(h:Heap)(a:Addr):HO->Prop
 |.lst xs=>xs.length<=sizeLine/\∃(j:Y Value)(n:Nat),Vals xs j/\h.get? a=Z { cls:=.type "list",data:=.seq j.toArray n }
 |.tup xs=>xs.length<=sizeLine/\∃j:Y Value,Vals xs j/\IsTupD h a j.toArray
 |.dK g=>g.length<=sizeLine/\(a==Ù)=Ř/\∃vs,KV g vs/\h.DictOf (fA P w) a vs
 |.dT g=>g.length<=sizeLine/\(a==Ù)=Ř/\∃xs:Y (Y aD×Addr×Value),
   Paired (λ(p:Y aD×V)(q:Y aD×Addr×Value)=>p.1=q.1/\H q.2.1=Z (.tup (p.1.map kV))/\RelV p.2 q.2.2) g xs /\
   ∃o es B,h.get? a=Z o/\o.ExactDict/\o.data=.dict es B/\es.toList=xs.map (entryOfKey (Ā (fA P w)))/\(xs.map (·.1)).Nodup
 |.set Q n=>h.SetOf (intKind P w) a Q n
 |.ins C l fs=>H l=Z (.own a)/\fs.length<=1000/\l≠a/\h.get? a=Z (î C l) /\
   ∃e,h.Ns1 l e/\(∀f,RelO (fs.lookup f) (e f))/\PySem.Within e (fs.map (·.1))
 |.own _=>∃o,h.get? a=Z o
 |.xd fs=>∃e,h.Ns1 a e/\∀f,RelO (fs.lookup f) (e f)
 |.rng lo E=>∃t u v,h.get? a=Z { cls:=.type "range",data:=.fields #[.int lo t,.int E u,.int 1 v] }
 |.frz o u=>h.get? a=Z o/\ObjOk H h a u
 |.tbl ps=>h.get? a=Z { cls:=.none,data:=.fields #[] }\/∃(c:Addr)(o:Ô)(vs:Array Value)(x y:Value)(q:Str)(t t':Ň),ps=#[x,y,.str q t]/\H c=Z (.frz o (.own a)) /\
   h.get? a=Z { cls:=.none,data:=.fields #[x,y,.ref c] }/\o.data=.fields vs/\vs[1]?=Z (.str q t')
 |.met f x=>h.get? a=Z (ğ (.ref f) (.ref x))
 |.ext r=>r h/\(∃o,h.get? a=Z o)/\∀z A:Heap,r z->(∀o,z.get? a=Z o->A.get? a=Z o)->r A
noncomputable def HOk(H:Hp)(h:Heap):Prop:=∀a o,H a=Z o->ObjOk P w H h a o
end
section
variable{P:Å}{w:È}{H g:Hp}{h h':Heap}{a:Addr}{o:HO}
theorem ObjOk.lt(x:ObjOk P w H h a o):a<h.objs.size:=by
 cases o with
 |lst xs=>let⟨_,_,_,_,e⟩:=x;show IT e
 |tup xs=>let⟨_,_,_,p⟩:=x;show p.lt
 |dK c=>let⟨_,_,_,_,o,_,_,e,_⟩:=x;show IT e
 |dT c=>let⟨_,_,_,_,o,_,_,e,_⟩:=x;show IT e
 |set Q n=>let⟨o,_,_,_,e,_⟩:=x;show IT e
 |ins C j fs=>let⟨_,_,_,e,_⟩:=x;show IT e
 |own y=>let⟨_,e⟩:=x;show IT e
 |xd fs=>let⟨_,⟨_,_,_,e,_⟩,_⟩:=x;show IT e
 |rng lo l=>let⟨_,_,_,e⟩:=x;show IT e
 |frz r u=>let⟨e,_⟩:=x;show IT e
 |tbl ps=>rcases x with x|⟨_,_,_,_,_,_,_,_,_,_,x,_⟩<;>show IT x
 |met f y=>show IT (show h.get? a=Z _ from x)
 |ext v=>let⟨_,⟨_,e⟩,_⟩:=x;show IT e
theorem Paired.mapP{c e:Type}{F G:c->e->Prop}:∀{l₁:Y c}{l₂:Y e},Paired F l₁ l₂->(∀a b,F a b->G a b)->Paired G l₁ l₂
 |_,_,.nil,_=>.nil
 |_,_,.cons r t,f=>.cons (f _ _ r) (Paired.mapP t f)
theorem ObjOk.stay(x:ObjOk P w H h a o)(k:∀b u,(b=a\/H b=Z (.own a))->h.get? b=Z u->h'.get? b=Z u)
  (M:∀b,H b=Z (.own a)->g b=Z (.own a)) (N:∀b xs,H b=Z (.tup xs)->g b=Z (.tup xs)) (L:∀b o u,H b=Z (.frz o u)->g b=Z (.frz o u)):ObjOk P w g h' a o:=by
 induction o with
 |lst xs=>let⟨z,A,n,r,e⟩:=x;show⟨z,A,n,r,k _ _ (.inl S) e⟩
 |tup xs=>let⟨z,A,r,j,e,c⟩:=x;show⟨z,A,r,j,k _ _ (.inl S) e,c⟩
 |dK G=>let⟨z,y,vs,r,j,es,l,e,c⟩:=x;show⟨z,y,vs,r,j,es,l,k _ _ (.inl S) e,c⟩
 |dT G=>
  let⟨z,y,xs,r,j,es,l,e,c⟩:=x;show⟨z,y,xs,Paired.mapP r λp q z=>⟨z.1,N _ _ z.2.1,z.2.2⟩,j,es,l,k _ _ (.inl S) e,c⟩
 |set U n=>let⟨j,es,l,t,e,c⟩:=x;show⟨j,es,l,t,k _ _ (.inl S) e,c⟩
 |ins C Q fs=>
  let⟨d,z,ne,e,E,⟨F,es,l,B,c⟩,r⟩:=x;show⟨M _ d,z,ne,k _ _ (.inl S) e,E,⟨F,es,l,k _ _ (.inr d) B,c⟩,r⟩
 |own y=>let⟨j,e⟩:=x;show⟨j,k _ _ (.inl S) e⟩
 |xd fs=>let⟨E,⟨F,es,l,e,c⟩,r⟩:=x;show⟨E,⟨F,es,l,k _ _ (.inl S) e,c⟩,r⟩
 |rng lo R=>let⟨t,u,v,e⟩:=x;show⟨t,u,v,k _ _ (.inl S) e⟩
 |frz j u O=>let⟨e,q⟩:=x;show⟨k _ _ (.inl S) e,O q⟩
 |tbl ps=>
  rcases x with x|⟨c,o,vs,y,z,q,t,t',I,B,J,K⟩
  ·show .inl (k a _ (.inl S) x)
  ·show .inr ⟨c,o,vs,y,z,q,t,t',I,L _ _ _ B,k a _ (.inl S) J,K⟩
 |met f y=>
  have e:h.get? a=Z (ğ (.ref f) (.ref y)):=x;change h'.get? a=Z (ğ (.ref f) (.ref y));show k a _ (.inl S) e
 |ext T=>let⟨p,⟨o,e⟩,st⟩:=x;show⟨st _ _ p λo q=>k _ _ (.inl S) q,⟨o,k _ _ (.inl S) e⟩,st⟩
theorem HOk.lt(x:HOk P w H h)(e:H a=Z o):a<h.objs.size:=(x a o e).lt
theorem HOk.fresh(x:HOk P w H h)(e:h.objs.size<=a):H a=ŕ:=by
 cases q:H a with
 |none=>rfl
 |some u=>show absurd (Jl (x.lt q) e) (J4 _)
theorem HOk.kept(x:HOk P w H h)(k:∀b u,h.get? b=Z u->h'.get? b=Z u):HOk P w H h':=λa o e=>
 (x a o e).stay (λb u _ q=>k b u q) (λ_ q=>q) (λ_ _ q=>q) λ_ _ _ q=>q
theorem HOk.laid(x:HOk P w H h)(k:∀b u,h.get? b=Z u->h'.get? b=Z u)(l:h.objs.size<=a)(new:ObjOk P w (aq H a o) h' a o):HOk P w (aq H a o) h':=λb u e=>by
 have f:=x.fresh l;by_cases j:b=a
 ·subst j;rw[bh]at e;cases e;show new
 ·rw[aY j]at e
  show (x b u e).stay (λc v _ q=>k c v q) (λc q=>by rw[aY (de q f)];show q) (λc xs q=>by rw[aY (de q f)];show q) λc p r q=>by rw[aY (de q f)];show q
end
noncomputable def Rd(H:Hp)(a:Addr)(u:HO):Prop:=H a=Z u\/∃o,H a=Z (.frz o u)
theorem Rd.ok{P:Å}{w:È}{H:Hp}{h:Heap}{a:Addr}{u:HO}(r:Rd H a u)(x:HOk P w H h):ObjOk P w H h a u:=by
 rcases r with r|⟨o,r⟩
 ·show x a u r
 ·let⟨_,q⟩:=x a _ r;show q
noncomputable def k8:Ŗ HO->Prop
 |some (.lst _)=>True
 |some (.dK _)=>True
 |some (.dT _)=>True
 |some (.set _ _)=>True
 |some (.ins _ _ _)=>True
 |some (.ext _)=>True
 |_=>False
section
variable{P:Å}{w:È}{H:Hp}{h h':Heap}{x e:Addr}{o':HO}
theorem HOk.write(ok:HOk P w H h)(mu:k8 (H x))(p:e=x\/H e=Z (.own x))(k:∀b u,b≠e->h.get? b=Z u->h'.get? b=Z u)(B:∃u,h'.get? e=Z u)
  (new:ObjOk P w (aq H x o') h' x o'):HOk P w (aq H x o') h':=λb u q=>by
 have o:∀c y,H c=Z (.own y)->c≠x:=λc y r z=>by subst z;rw[r]at mu;show mu
 have C:∀c xs,H c=Z (.tup xs)->c≠x:=λc xs r z=>by subst z;rw[r]at mu;show mu
 have E:∀c j l,H c=Z (.frz j l)->c≠x:=λc j l r z=>by subst z;rw[r]at mu;show mu
 by_cases f:b=x
 ·subst f;rw[bh]at q;cases q;show new
 ·rw[aY f]at q;by_cases a:b=e
  ·have A:H b=Z (.own x):=by
    rcases p with z|z
    ·show absurd (a.trans z) f
    ·rw[a];show z
   rw[q]at A;cases A;let⟨v,F⟩:=B;show⟨v,by rw[a];show F⟩
  ·refine (ok b u q).stay (λc v g r=>k c v ?_ r) (λc r=>by rw[aY (o c b r)];show r) (λc xs r=>by rw[aY (C c xs r)];show r) λc j l r=>by rw[aY (E c j l r)];show r
   rcases g with rfl|g
   ·show a
   ·rintro rfl;rcases p with z|z
    ·show o c b g z
    ·rw[g]at z;cases z;show f S
end
structure Un(fs ex:List Addr)(H H':Hp)(h h':Heap):Prop where
 keep:∀b o,h.get? b=Z o->H b=ŕ->b∉fs->b∉ex->h'.get? b=Z o
 slot:∀b o,h.get? b=Z o->H b=ŕ->b∈fs->b∉ex->∃sl,h'.get? b=Z { o with slots:=sl }
 free:∀b o,h.get? b=Z o->H b=ŕ->b∉ex->H' b=ŕ
 there:∀b o,h.get? b=Z o->b∉ex->∃o',h'.get? b=Z o'
 tups:∀b xs,H b=Z (.tup xs)->H' b=Z (.tup xs)
 frzs:∀b o u,H b=Z (.frz o u)->H' b=Z (.frz o u)
 tbls:∀b ps,H b=Z (.tbl ps)->H' b=Z (.tbl ps)
section
variable{fs ex:Y Addr}{H f:Hp}{h c h':Heap}{a x e:Addr}{o:HO}
theorem Un.any(u:Un fs ex H f h c){b:Addr}{g:Ô}(q:h.get? b=Z g)(n:H b=ŕ)(l:b∉ex):∃sl,c.get? b=Z { g with slots:=sl }:=by
 by_cases j:b∈fs
 ·show u.slot b g q n j l
 ·show⟨g.slots,u.keep b g q n j l⟩
theorem Un.kept(k:∀b u,h.get? b=Z u->h'.get? b=Z u):Un fs ex H H h h':=
 ⟨λb g q _ _ _=>k b g q,λb g q _ _ _=>⟨g.slots,k b g q⟩,λ_ _ _ n _=>n,λb g q _=>⟨g,k b g q⟩,λ_ _ q=>q,λ_ _ _ q=>q,λ_ _ q=>q⟩
theorem Un.refl:Un fs ex H H h h:=Un.kept λ_ _ q=>q
theorem Un.laid(k:∀b u,h.get? b=Z u->h'.get? b=Z u)(j:h.objs.size<=a)(g:H a=ŕ):Un fs ex H (aq H a o) h h' where
 keep:=λb u q _ _ _=>k b u q
 slot:=λb u q _ _ _=>⟨u.slots,k b u q⟩
 free:=λb u q n _=>by rw[aY (Jk (Jl (IT q) j))];show n
 there:=λb u q _=>⟨u,k b u q⟩
 tups:=λb xs q=>by rw[aY (de q g)];show q
 frzs:=λb u xs q=>by rw[aY (de q g)];show q
 tbls:=λb ps q=>by rw[aY (de q g)];show q
theorem Un.write(mu:k8 (H x))(w:e=x\/H e=Z (.own x))(k:∀b u,b≠e->h.get? b=Z u->h'.get? b=Z u)(v:∃u,h'.get? e=Z u):Un fs ex H (aq H x o) h h':=by
 have p:∀b,H b=ŕ->b≠x:=λb n z=>by subst z;rw[n]at mu;show mu
 have l:∀b,H b=ŕ->b≠e:=λb n z=>by
  subst z;rcases w with r|r
  ·show p b n r
  ·rw[n]at r;cases r
 have g:∀b u,H b=Z u->¬ k8 (Z u)->b≠x:=λb u q nm z=>by subst z;rw[q]at mu;show nm mu
 refine⟨λb u q n _ _=>k b u (l b n) q,λb u q n _ _=>⟨u.slots,k b u (l b n) q⟩,λb u q n _=>by rw[aY (p b n)];show n,λb u q _=>?_,
  λb xs q=>by rw[aY (g b _ q λz=>z)];show q,λb u xs q=>by rw[aY (g b _ q λz=>z)];show q,λb ps q=>by rw[aY (g b _ q λz=>z)];show q⟩
 by_cases j:b=e
 ·subst j;show v
 ·show⟨u,k b u j q⟩
end
noncomputable def nO(h:Heap)(H:Hp):Y Addr:=(List.range h.objs.size).filter λa=>(H a).isSome
noncomputable def ic(h:Heap)(H:Hp):Heap:=PySem.W.hideAll h (nO h H)
theorem CP(h:Heap)(H:Hp):(ic h H).objs.size=h.objs.size:=PySem.W.hideAll_size _ _
theorem AH{h:Heap}{H:Hp}{b:Addr}{o:Ô}(e:h.get? b=Z o)(n:H b=ŕ):(ic h H).get? b=Z o:=
 PySem.W.hideAll_get _ e λa=>by have q:(H b).isSome=ŗ:=(Jq.mp a).2;rw[n]at q;simp at q
theorem GP{h:Heap}{H:Hp}{b:Addr}{o:Ô}(e:(ic h H).get? b=Z o):h.get? b=Z o/\H b=ŕ:=by
 have a:h.get? b=Z o:=PySem.W.of_hideAll (nO h H) e;refine⟨a,?_⟩
 cases q:H b with
 |none=>rfl
 |some x=>
  have c:b∈nO h H:=Jq.mpr ⟨IY.mpr (IT a),by simp[q]⟩;have z:(ic h H).get? b=ŕ:=PySem.W.hideAll_none (nO h H) c;rw[z]at e;cases e
structure Mod(K:Â)(mg:Str->Option Value)(base:Heap):Prop where
 kin:K.In base
 glob:base.Ns Á mg
 blt:∃mb,base.Ns æ mb/\∀x:Str,x≠"__name__"->mb x=Ú x
 nolimit:base.NoLimit
 bmod:∃bm ob,mg "__builtins__"=Z (.ref bm)/\bm≠æ/\base.get? bm=Z ob/\ob.cls=.type "module"/\ob.dict=Z æ/\ob.data=.plain
 seer:base.NoSeer
 dig:∃mc,base.Ns cStatics mc/\mc "sys.int_max_str_digits"=ŕ
structure Cx where
 prog:Å
 w:È
 K:Â
 mg:Str->Option Value
 base:Heap
 A:Ì
 N:List Str
 s₀:À
 H₀:Hp
 env:ì
 outer:List ì
 stack:List ì
 ex:List Addr
 fn:Str->Bool
 calm:Bool
 pn:List (Addr×Ô)
 xe:Value->À->Prop
noncomputable def gq(l:Y ì):Y Addr:=l.filterMap (·.frame)
noncomputable abbrev Cx.fs(X:Cx):Y Addr:=gq X.outer
noncomputable def cR(a:ß)(x:Str):Prop:=a.names.lookup x=Z .local\/a.names.lookup x=Z .cell\/a.names.lookup x=Z .free
noncomputable def dO(a:ß)(x:Str):Prop:=a.names.lookup x=Z .local\/a.names.lookup x=Z .cell
noncomputable def Df(env:ì)(h:Heap)(m:Str->Ŗ Value)(x:Str)(u:Value):Prop:=
 (env.kindOf x=Z .local/\m x=Z u)\/((env.kindOf x=Z .cell\/env.kindOf x=Z .free)/\∃c,env.cells.lookup x=Z c/\h.IsCell c (Z u))
structure Cx.Ok(X:Cx):Prop where
 mod:Mod X.K X.mg X.base
 kind:X.env.scope.kind=.function
 glob:X.env.globals=Á
 blt:X.env.builtins=æ
 above:X.s₀.heap.objs.size<=X.env.locals
 inj:∀x y c,X.env.cells.lookup x=Z c->X.env.cells.lookup y=Z c->x=y
 has:∀x,(X.env.kindOf x=Z .cell\/X.env.kindOf x=Z .free)->∃c,X.env.cells.lookup x=Z c
 cab:∀x c,X.fn x=ŗ->X.env.cells.lookup x=Z c->X.s₀.heap.objs.size<=c
 hd:X.calm=ŗ->X.A.handled=ŕ
 frames:X.A.frames=Z X.stack
 stk:X.stack=X.outer\/(X.stack=X.env::X.outer/\X.env.frame=Z X.env.locals)
 exf:∀b∈X.ex,b≠X.env.locals/\∀x c,X.env.cells.lookup x=Z c->c≠b
 bs:∀b o,X.base.get? b=Z o->X.s₀.heap.get? b=Z o/\X.H₀ b=ŕ
 bsz:X.base.objs.size<=X.s₀.heap.objs.size
 noex:∀b o,X.base.get? b=Z o->b∉X.ex
 exfs:∀b∈X.ex,b∉X.fs
 funs:X.s₀.heap.FunFrames X.base X.outer
 frf:∀b∈X.fs,X.H₀ b=ŕ
structure Inv(X:Cx)(pins:List (Addr×Ô))(σ:List (Option V))(H:Hp)(s:À):Prop where
 ok:X.Ok
 os:s.os=X.s₀.os
 bare:ð s.gens
 base:Un X.fs X.ex X.H₀ H X.s₀.heap s.heap
 loc:∃m,s.heap.Ns X.env.locals m/\∀(i:Nat)(x:Str)(v:V),X.N[i]?=Z x->σ[i]?=Z (Z v)->cR X.env.scope x->∃u,RelV v u/\Df X.env s.heap m x u
 cell:∀x c,X.env.cells.lookup x=Z c->∃v,s.heap.IsCell c v
 free:H X.env.locals=ŕ
 freeC:∀x c,X.env.cells.lookup x=Z c->H c=ŕ
 pin:∀p∈X.pn++pins,s.heap.get? p.1=Z p.2/\H p.1=ŕ/\p.1≠X.env.locals/\p.1∉X.fs/\∀v,p.2.data≠.cell v
 hok:HOk X.prog X.w H s.heap
 len:σ.length=X.N.length
section
variable{X:Cx}{f:Y (Addr×Ô)}{g:Y (Ŗ V)}{H w:Hp}{s:À}{h':Heap}
theorem Cx.Ok.nofr(ok:X.Ok){b:Addr}{o:Ô}(e:X.base.get? b=Z o):b∉X.fs:=λa=>by have:=(ok.funs.mem a).1;rw[e]at this;cases this
theorem Inv.bs(I:Inv X f g H s):∀b o,X.base.get? b=Z o->s.heap.get? b=Z o/\H b=ŕ:=λb o e=>
 ⟨I.base.keep b o (I.ok.bs b o e).1 (I.ok.bs b o e).2 (I.ok.nofr e) (I.ok.noex b o e),I.base.free b o (I.ok.bs b o e).1 (I.ok.bs b o e).2 (I.ok.noex b o e)⟩
theorem Inv.bk(I:Inv X f g H s):∀b o,X.base.get? b=Z o->s.heap.get? b=Z o:=λb o e=>(I.bs b o e).1
theorem Inv.mod(I:Inv X f g H s):Mod X.K X.mg X.base:=I.ok.mod
theorem Inv.kIn(I:Inv X f g H s):X.K.In s.heap:=I.ok.mod.kin.keeps I.bk
theorem Inv.lt(I:Inv X f g H s):X.env.locals<s.heap.objs.size:=let ⟨_,hn,_⟩:=I.loc;hn.lt
theorem Inv.sz(I:Inv X f g H s):X.s₀.heap.objs.size<=s.heap.objs.size:=IU I.ok.above (JW I.lt)
theorem Inv.nofs(I:Inv X f g H s){a:Addr}(h:s.heap.objs.size<=a):a∉X.fs:=λc=>by let⟨_,o,e,_⟩:=I.ok.funs.mem c;show absurd (Jl (IT e) (IU I.sz h)) (J4 _)
theorem Inv.cne(I:Inv X f g H s):∀x c,X.env.cells.lookup x=Z c->c≠X.env.locals:=λx c e z=>by let⟨v,o,a,hd⟩:=I.cell x c e;let⟨m,⟨o',es,l,h,j,_⟩,_⟩:=I.loc;rw[z,h]at a;cases a;rw[j]at hd;cases hd
theorem Inv.funs(I:Inv X f g H s):s.heap.FunFrames X.base X.outer:=by
 have all:∀(l:Y ì),(∀b∈gq l,b∈X.fs)->X.s₀.heap.FunFrames X.base l->s.heap.FunFrames X.base l:=by
  intro l
  induction l with
  |nil=>intro _ _;trivial
  |cons env r A=>
   intro j u;let⟨p,⟨L,o,h,v,x,hd⟩,y⟩:=u;have a:L∈X.fs:=j L (by unfold gq;rw[KU,h];show Iy);let⟨sl,e⟩:=I.base.slot L o x (I.ok.frf L a) a λz=>I.ok.exfs L z a;show⟨p,⟨L,_,h,v,e,hd⟩,A (λb c=>j b (by unfold gq;rw[KU,h];show IC _ c)) y⟩
 show all X.outer (λ_ c=>c) I.ok.funs
theorem Inv.stack(I:Inv X f g H s):s.heap.FunFrames X.base X.stack:=by
 rcases I.ok.stk with e|⟨e,a⟩
 ·rw[e];show I.funs
 ·rw[e];let⟨m,c,_⟩:=I.loc;refine .cons (by rw[I.ok.kind];decide) a c ?_ I.funs;show Heap.get?_none_of_le (IU I.ok.bsz I.ok.above)
theorem Inv.stkSub(I:Inv X f g H s):∀b∈gq X.stack,b∈X.env.locals::X.fs:=λb a=>by
 rcases I.ok.stk with e|⟨e,c⟩
 ·rw[e]at a;show IC _ a
 ·rw[e]at a;unfold gq at a;rw[KU,c]at a;show a
theorem Inv.stkFree(I:Inv X f g H s):∀b∈gq X.stack,H b=ŕ:=λb a=>by
 rcases IL.mp (I.stkSub b a)with e|a
 ·rw[e];show I.free
 ·let⟨_,o,c,_⟩:=I.ok.funs.mem a;show I.base.free b o c (I.ok.frf b a) λz=>I.ok.exfs b z a
theorem Inv.step{g':Array GenState}{t':Nat}{d':Drawn}{ch:Y Addr}(I:Inv X f g H s)
  (B:∀b∈ch,(b∈X.ex\/X.s₀.heap.objs.size<=b)/\b≠X.env.locals/\(∀x c,X.env.cells.lookup x=Z c->c≠b)/\∀p∈X.pn++f,p.1≠b)
  (keep:∀b o,b≠X.env.locals->b∉X.fs->b∉ch->s.heap.get? b=Z o->H b=ŕ->h'.get? b=Z o)
  (slot:∀b o,b≠X.env.locals->b∈X.fs->b∉ch->s.heap.get? b=Z o->H b=ŕ->∃sl,h'.get? b=Z { o with slots:=sl }) (free:∀b o,b∉ch->s.heap.get? b=Z o->H b=ŕ->w b=ŕ)
  (there:∀b o,b∉ch->s.heap.get? b=Z o->∃o',h'.get? b=Z o')
  (tups:∀b xs,H b=Z (.tup xs)->w b=Z (.tup xs)) (frzs:∀b o u,H b=Z (.frz o u)->w b=Z (.frz o u)) (tbls:∀b ps,H b=Z (.tbl ps)->w b=Z (.tbl ps))
  (ns:∀m,s.heap.Ns X.env.locals m->h'.Ns X.env.locals m) (hok:HOk X.prog X.w w h') (P:ð g') :
  Inv X f g w { s with heap:=h',gens:=g',drawn:=d',toks:=t' }:=by
 have E:∀b o,X.s₀.heap.get? b=Z o->b≠X.env.locals:=λb o e=>Jk (Jl (IT e) I.ok.above)
 have F:∀b o,X.s₀.heap.get? b=Z o->b∉X.ex->b∉ch:=λb o e a y=>by
  rcases (B b y).1 with z|z
  ·show a z
  ·show absurd (Jl (IT e) z) (J4 _)
 have h:∀x c,X.env.cells.lookup x=Z c->∀v,s.heap.IsCell c v->h'.IsCell c v:=λx c e v N=>by
  let⟨o,A,hd⟩:=N;have C:c∉ch:=λz=>(B c z).2.2.1 x c e S;by_cases K:c∈X.fs
  ·let⟨sl,q⟩:=slot c o (I.cne x c e) K C A (I.freeC x c e);show⟨_,q,hd⟩
  ·show⟨o,keep c o (I.cne x c e) K C A (I.freeC x c e),hd⟩
 refine⟨I.ok,I.os,P,⟨λb o e n y a=>?_,λb o e n y a=>?_,λb o e n a=>?_,λb o e a=>?_,λb xs e=>tups b xs (I.base.tups b xs e),λb o xs e=>frzs b o xs (I.base.frzs b o xs e),λb ps e=>tbls b ps (I.base.tbls b ps e)⟩,?_,λx c e=>?_,?_,λx c e=>?_,λp L=>?_,hok,I.len⟩
 ·show keep b o (E b o e) y (F b o e a) (I.base.keep b o e n y a) (I.base.free b o e n a)
 ·let⟨sl,j⟩:=I.base.slot b o e n y a;let⟨J,G⟩:=slot b _ (E b o e) y (F b o e a) j (I.base.free b o e n a);show⟨J,G⟩
 ·let⟨o',j⟩:=I.base.there b o e a;show free b o' (F b o e a) j (I.base.free b o e n a)
 ·let⟨o',j⟩:=I.base.there b o e a;show there b o' (F b o e a) j
 ·let⟨m,R,Q⟩:=I.loc;refine⟨m,ns m R,λi x v j G O=>?_⟩;let⟨u,r,l⟩:=Q i x v j G O;refine⟨u,r,?_⟩;rcases l with l|⟨k,c,e,z⟩
  ·show .inl l
  ·show .inr ⟨k,c,e,h x c e _ z⟩
 ·let⟨v,z⟩:=I.cell x c e;show⟨v,h x c e v z⟩
 ·let⟨m,⟨o,_,_,A,_⟩,_⟩:=I.loc;show free _ o (λz=>(B _ z).2.1 S) A I.free
 ·let⟨v,o,A,hd⟩:=I.cell x c e;show free c o (λz=>(B c z).2.2.1 x c e S) A (I.freeC x c e)
 ·let⟨e,n,ne,M,d⟩:=I.pin p L;have C:p.1∉ch:=λz=>(B p.1 z).2.2.2 p L S;show⟨keep p.1 p.2 ne M C e n,free p.1 p.2 C e n,ne,M,d⟩
theorem Inv.un{t':Nat}(I:Inv X f g H s)(u:Un X.fs [] H w s.heap h')(hok:HOk X.prog X.w w h'):Inv X f g w { s with heap:=h',toks:=t' }:=by
 let⟨m,⟨o,es,y,h,r⟩,_⟩:=id I.loc;let⟨sl,p⟩:=u.any h I.free (by simp)
 show I.step (g':=s.gens) (d':=s.drawn) (ch:=[]) (λ_ z=>nomatch z) (λb o _ a _ e n=>u.keep b o e n a (by simp)) (λb o _ a _ e n=>u.slot b o e n a (by simp)) (λb o _ e n=>u.free b o e n (by simp)) (λb o _ e=>u.there b o e (by simp)) u.tups u.frzs u.tbls (λA v=>by
  let⟨o',j,l,c,x⟩:=v;rw[h]at c;cases c
  show⟨_,j,l,p,x⟩) hok I.bare
theorem Inv.call{g':Array GenState}{t':Nat}{d':Drawn}{ch:Y Addr}(I:Inv X f g H s)(u:Un (gq X.stack) ch H w s.heap h')(hok:HOk X.prog X.w w h')(C:ð g')
  (l:∀b∈ch,(b∈X.ex\/X.s₀.heap.objs.size<=b)/\b≠X.env.locals/\(∀x c,X.env.cells.lookup x=Z c->c≠b)/\∀p∈X.pn++f,p.1≠b) :
  Inv X f g w { s with heap:=h',gens:=g',drawn:=d',toks:=t' }:=by
 let⟨m,⟨o,es,G,v,r⟩,_⟩:=id I.loc;let⟨sl,h⟩:=u.any v I.free λz=>(l _ z).2.1 S
 show I.step (ch:=ch) l (λb o h B a e n=>u.keep b o e n (λz=>(IL.mp (I.stkSub b z)).elim h B) a) (λb o _ _ a e n=>u.any e n a) (λb o a e n=>u.free b o e n a) (λb o a e=>u.there b o e a) u.tups u.frzs u.tbls (λJ E=>by
  let⟨o',y,A,j,F⟩:=E;rw[v]at j;cases j
  show⟨_,y,A,h,F⟩) hok C
theorem Inv.turned{t':Nat}{a:Addr}(I:Inv X f g H s)(k:∀b o,b≠a->s.heap.get? b=Z o->h'.get? b=Z o)(G:H a=ŕ)(l:a≠X.env.locals)
  (A:a∈X.ex\/X.s₀.heap.objs.size<=a) (B:∀x c,X.env.cells.lookup x=Z c->c≠a) (C:∀p∈X.pn++f,p.1≠a):Inv X f g H { s with heap:=h',toks:=t' }:=by
 have j:∀b u,H b=Z u->b≠a:=λb u e z=>by rw[z,G]at e;cases e
 refine I.step (g':=s.gens) (d':=s.drawn) (ch:=[a]) (λb E=>?_) (λb o _ _ h e _=>k b o (λz=>h (by simp[z])) e) (λb o _ _ h e _=>⟨o.slots,k b o (λz=>h (by simp[z])) e⟩) (λ_ _ _ _ n=>n)
  (λb o h e=>⟨o,k b o (λz=>h (by simp[z])) e⟩) (λ_ _ e=>e) (λ_ _ _ e=>e) (λb ps e=>e) (λm F=>?_) (λb u e=>?_) I.bare
 ·have e:b=a:=by simpa using E
  subst e;show⟨A,l,B,C⟩
 ·let⟨o,es,y,J,r⟩:=F;show⟨o,es,y,k _ o (JD l) J,r⟩
 ·refine (I.hok b u e).stay (λc v h q=>k c v ?_ q) (λ_ q=>q) (λ_ _ q=>q) λ_ _ _ q=>q;rcases h with z|z
  ·rw[z];show j b u e
  ·show j c _ z
theorem Inv.tok(I:Inv X f g H s)(t:Nat):Inv X f g H { s with toks:=t }:=I.un (h':=s.heap) (t':=t) Un.refl I.hok
theorem Inv.kept{t':Nat}(I:Inv X f g H s)(k:∀b u,s.heap.get? b=Z u->h'.get? b=Z u):Inv X f g H { s with heap:=h',toks:=t' }:=I.un (Un.kept k) (I.hok.kept k)
theorem Inv.laid{a:Addr}{o:HO}{t':Nat}(I:Inv X f g H s)(k:∀b u,s.heap.get? b=Z u->h'.get? b=Z u)(c:s.heap.objs.size<=a)(new:ObjOk X.prog X.w (aq H a o) h' a o) :
  Inv X f g (aq H a o) { s with heap:=h',toks:=t' }:=I.un (Un.laid k c (I.hok.fresh c)) (I.hok.laid k c new)
theorem Inv.write{x e:Addr}{o:HO}{t':Nat}(I:Inv X f g H s)(mu:k8 (H x))(c:e=x\/H e=Z (.own x))(k:∀b u,b≠e->s.heap.get? b=Z u->h'.get? b=Z u)(a:∃u,h'.get? e=Z u)
  (new:ObjOk X.prog X.w (aq H x o) h' x o):Inv X f g (aq H x o) { s with heap:=h',toks:=t' }:=I.un (Un.write mu c k a) (I.hok.write mu c k a new)
theorem Inv.pins_of{a:Y (Addr×Ô)}(I:Inv X f g H s)(h:∀p∈a,s.heap.get? p.1=Z p.2/\H p.1=ŕ/\p.1≠X.env.locals/\p.1∉X.fs/\∀v,p.2.data≠.cell v):Inv X a g H s:=
 ⟨I.ok,I.os,I.bare,I.base,I.loc,I.cell,I.free,I.freeC,λp c=>(IZ.mp c).elim (λz=>I.pin p (J5 _ z)) (h p),I.hok,I.len⟩
theorem wf{N:Y Str}(h:N.Nodup){i j:Nat}{x:Str}(a:N[i]?=Z x)(b:N[j]?=Z x):i=j:=by let⟨l,c⟩:=Jz.mp a;let⟨o,e⟩:=Jz.mp b;show (List.getElem_inj h).mp (c.trans e.symm)
theorem wv{M:Model}{A:Ì}{E:Value->À->Prop}{i:Nat}{x:Str}{v:V}{u:Value}{Q:Unit->À->Prop}(I:Inv X f g H s)(hN:X.N.Nodup)(P:X.N[i]?=Z x)(G:dO X.env.scope x)(r:RelV v u)
  (h:∀s',Inv X f (g.set i (Z v)) H s'->(∃a,Heap.SameBut a s.heap s'.heap/\(a=X.env.locals\/X.env.cells.lookup x=Z a))->Q Unit.unit s') (hf:X.fn x=ŗ\/X.env.scope.names.lookup x=Z .local:=by nofun):wpAny M A (Ō X.env x u) Q E s:=by
 let⟨m,b_,hl⟩:=id I.loc
 have T1:(X.env.scope.kind==.class ||(X.env.scope.kind==.module&&X.env.locals != X.env.globals))=Ř:=by rw[I.ok.kind];rfl
 have K:i<g.length:=by rw[I.len];show (Jz.mp P).1
 have cne:=I.cne
 have C:∀{a:Addr}{h':Heap},(∃o,s.heap.get? a=Z o/\H a=ŕ)->Heap.SameBut a s.heap h'->HOk X.prog X.w H h':=λ{a h'} ha l b ob e=>by
  let⟨_,_,QC⟩:=ha;refine (I.hok b ob e).stay (λc T F q=>(l.2 c ?_).trans q) (λ_ q=>q) (λ_ _ q=>q) λ_ _ _ q=>q;rintro rfl;rcases F with rfl|F
  ·rw[QC]at e;cases e
  ·rw[QC]at F;cases F
 rcases G with L|L
 ·refine wpAny_storeName_local L b_ (λh' RQ l=>?_) T1;let⟨oL,_,_,hoL,_⟩:=id b_;refine h _ ⟨I.ok,I.os,I.bare,⟨λb o e n N G=>?_,λb o e n N G=>?_,I.base.free,λb o e G=>?_,I.base.tups,I.base.frzs,I.base.tbls⟩,⟨_,RQ,λj y v' B J be=>?_⟩,λy c e=>?_,I.free,I.freeC,λp hp=>?_,C ⟨oL,hoL,I.free⟩ l,by simpa using I.len⟩ ⟨_,l,.inl S⟩
  ·show (l.2 b (Jk (Jl (IT e) I.ok.above))).trans (I.base.keep b o e n N G)
  ·let⟨sl,B⟩:=I.base.slot b o e n N G;show⟨sl,(l.2 b (Jk (Jl (IT e) I.ok.above))).trans B⟩
  ·let⟨o',B⟩:=I.base.there b o e G;show⟨o',(l.2 b (Jk (Jl (IT e) I.ok.above))).trans B⟩
  ·by_cases O:j=i
   ·subst O;rw[P]at B;cases B;rw[IS K]at J;cases J;show⟨u,r,.inl ⟨L,by simp⟩⟩
   ·rw[IP (JD O)]at J;let⟨u',r',q⟩:=hl j y v' B J be;refine⟨u',r',?_⟩;rcases q with⟨k,e⟩|⟨k,c,e,z⟩
    ·refine .inl ⟨k,?_⟩;have:y≠x:=λe=>O (wf hN B (e▸P));simp[this,e]
    ·show .inr ⟨k,c,e,z.sameBut l (cne y c e)⟩
  ·let⟨T,z⟩:=I.cell y c e;show⟨T,z.sameBut l (cne y c e)⟩
  ·let⟨e,n,ne,nf,d⟩:=I.pin p hp;show⟨(l.2 p.1 ne).trans e,n,ne,nf,d⟩
 ·have U:X.fn x=ŗ:=by
   rcases hf with z|z
   ·show z
   ·rw[z]at L;cases L
  let⟨c,F⟩:=I.ok.has x (.inl L);let⟨T,z⟩:=I.cell x c F;refine wpAny_storeName_cell I.ok.kind L F z (λh' RT l=>?_);let⟨oc,R,T2⟩:=id z;refine h { s with heap:=h' } ⟨I.ok,I.os,I.bare,⟨λb o e n N G=>?_,λb o e n N G=>?_,I.base.free,λb o e G=>?_,I.base.tups,I.base.frzs,I.base.tbls⟩,⟨m,b_.sameBut l (JD (cne x c F)),λj y v' B J be=>?_⟩,λy a_ e=>?_,I.free,I.freeC,λp hp=>?_,C ⟨oc,R,I.freeC x c F⟩ l,by simpa using I.len⟩ ⟨c,l,.inr F⟩
  ·show (l.2 b (Jk (Jl (IT e) (I.ok.cab x c U F)))).trans (I.base.keep b o e n N G)
  ·let⟨sl,B⟩:=I.base.slot b o e n N G;show⟨sl,(l.2 b (Jk (Jl (IT e) (I.ok.cab x c U F)))).trans B⟩
  ·let⟨o',B⟩:=I.base.there b o e G;show⟨o',(l.2 b (Jk (Jl (IT e) (I.ok.cab x c U F)))).trans B⟩
  ·by_cases O:j=i
   ·subst O;rw[P]at B;cases B;rw[IS K]at J;cases J;show⟨u,r,.inr ⟨.inl L,c,F,RT⟩⟩
   ·rw[IP (JD O)]at J;let⟨u',r',q⟩:=hl j y v' B J be;refine⟨u',r',?_⟩;rcases q with q|⟨k,a_,e,z'⟩
    ·show .inl q
    ·refine .inr ⟨k,a_,e,z'.sameBut l ?_⟩;rintro rfl;show O (wf hN B (I.ok.inj _ _ _ e F▸P))
  ·by_cases QW:a_=c
   ·subst QW;show⟨_,RT⟩
   ·let⟨w2,z2⟩:=I.cell y a_ e;show⟨w2,z2.sameBut l QW⟩
  ·let⟨e,n,ne,nf,d⟩:=I.pin p hp;refine⟨(l.2 p.1 ?_).trans e,n,ne,nf,d⟩;intro q;rw[q,R]at e;have q':oc=p.2:=Jf e;show d T (by rw[←q'];show T2)
theorem pZ{M:Model}{A:Ì}{E:Value->À->Prop}{i:Nat}{x:Str}{v:V}{u:Value}{Q:Unit->À->Prop}(I:Inv X f g H s)(e:X.N.Nodup)(l:X.N[i]?=Z x)(o:dO X.env.scope x)(r:RelV v u)
  (h:∀a,Inv X f (g.set i (Z v)) H a->Q Unit.unit a) (j:X.fn x=ŗ\/X.env.scope.names.lookup x=Z .local:=by nofun):wpAny M A (Ō X.env x u) Q E s:=
 wv I e l o r (λa c _=>h a c) j
theorem Inv.call'{a:À}{ch:Y Addr}(I:Inv X f g H s)(l:a.os=s.os)(u:Un (gq X.stack) ch H w s.heap a.heap)(hok:HOk X.prog X.w w a.heap)(j:ð a.gens)
  (h:∀b∈ch,(b∈X.ex\/X.s₀.heap.objs.size<=b)/\b≠X.env.locals/\(∀x c,X.env.cells.lookup x=Z c->c≠b)/\∀p∈X.pn++f,p.1≠b):Inv X f g w a:=by
 let⟨h',g',d',t',o'⟩:=a;have e:o'=s.os:=l;subst e;show I.call (g':=g') (t':=t') (d':=d') u hok j h
end
noncomputable abbrev XK:=Value->Ŗ Addr->Hp->Prop
noncomputable abbrev St:=Y (Ŗ V)
noncomputable abbrev VK:=V->Hp->Prop
noncomputable abbrev TE:=St->Hp->VK->Prop
noncomputable abbrev TT:=St->Hp->(Bool->Hp->Prop)->Prop
noncomputable abbrev TA:=St->Hp->(Y V->Hp->Prop)->Prop
structure Ends where
 nx:St->Hp->Prop
 rt:VK
 bk:St->Hp->Prop:=λ_ _=>False
 ct:St->Hp->Prop:=λ_ _=>False
noncomputable abbrev TS:=Ends->St->Hp->Prop
noncomputable def EP(X:Cx)(a:Y (Addr×Ô))(f:St)(Q:VK)(u:Value)(e:À):Prop:=∃v c,Inv X a f c e/\RelV v u/\Q v c
noncomputable def TP(X:Cx)(a:Y (Addr×Ô))(f:St)(Q:Bool->Hp->Prop)(b:Bool)(e:À):Prop:=∃c,Inv X a f c e/\Q b c
noncomputable def AP(X:Cx)(a:Y (Addr×Ô))(f:St)(Q:Y V->Hp->Prop)(us:Y Value)(e:À):Prop:=∃vs c,Inv X a f c e/\Vals vs us/\Q vs c
noncomputable def SP(X:Cx)(c:Y (Addr×Ô))(D:Ends)(f:Flow)(g:À):Prop:=
 match f with
 |.next=>∃a e,Inv X c a e g/\D.nx a e
 |.brk=>∃a e,Inv X c a e g/\D.bk a e
 |.cont=>∃a e,Inv X c a e g/\D.ct a e
 |.ret u=>∃v a e,Inv X c a e g/\RelV v u/\D.rt v e
noncomputable def PE(X:Cx)(e:Ã)(t:TE):Prop:=
 ∀(a:Y (Addr×Ô))(s:À)(c:St)(H:Hp)(Q:VK),Inv X a c H s->t c H Q->wpAny (Ä X.prog X.w) X.A (eval e X.env) (EP X a c Q) X.xe s
noncomputable def PT(X:Cx)(e:Ã)(t:TT):Prop:=
 ∀(a:Y (Addr×Ô))(s:À)(c:St)(H:Hp)(Q:Bool->Hp->Prop),Inv X a c H s->t c H Q->wpAny (Ä X.prog X.w) X.A (isTrue e X.env (eval e X.env)) (TP X a c Q) X.xe s
noncomputable def PW(X:Cx)(e:Ã)(t:TT):Prop:=
 ∀(c:Sem Value)(a:Y (Addr×Ô))(s:À)(f:St)(H:Hp)(Q:Bool->Hp->Prop),Inv X a f H s->t f H Q->wpAny (Ä X.prog X.w) X.A (isTrue e X.env c) (TP X a f Q) X.xe s
theorem PW.pt{X:Cx}{e:Ã}{t:TT}(h:PW X e t):PT X e t:=h _
noncomputable def PA(X:Cx)(es:Y Ã)(t:TA):Prop:=
 ∀(c:Ö)(a:Y (Addr×Ô))(s:À)(e:St)(H:Hp)(Q:Y V->Hp->Prop),Inv X a e H s->t e H Q->wpAny (Ä X.prog X.w) X.A (spliced (backTo c (starEach es X.env))) (AP X a e Q) X.xe s
noncomputable def PS(X:Cx)(st:Ç)(t:TS):Prop:=
 ∀(a:Y (Addr×Ô))(s:À)(c:St)(H:Hp)(D:Ends),Inv X a c H s->t D c H->wpAny (Ä X.prog X.w) X.A (exec st X.env) (SP X a D) X.xe s
noncomputable def PSs(X:Cx)(st:Y Ç)(t:TS):Prop:=
 ∀(a:Y (Addr×Ô))(s:À)(c:St)(H:Hp)(D:Ends),Inv X a c H s->t D c H->wpAny (Ä X.prog X.w) X.A (execs st X.env) (SP X a D) X.xe s
theorem aI{e:Type}{t:Sem e}{Q c:e->À->Prop}{M:Model}{A:Ì}{E:Value->À->Prop}{s:À}(h:wpAny M A t Q E s)(f:∀a s,Q a s->c a s):wpAny M A t c E s:=Kc h f λ_ _ x=>x
section
variable{X:Cx}
noncomputable def kq(i:Nat):TE:=λa H Q=>∃v,a[i]?=Z (Z v)/\Q v H
noncomputable def tC(v:V):TE:=λ_ H Q=>Q v H
theorem xf{i:Nat}{x:Str}{f:Ö}(y:X.N[i]?=Z x)(C:cR X.env.scope x)(hd:ab x:=by decide)(w:fI x:=by decide):PE X (.Name x f) (kq i):=by
 intro j s E H Q I h;let⟨v,e,h⟩:=h;let⟨m,B,z⟩:=I.loc;let⟨u,r,l⟩:=z i x v y e C;have a:EP X j E Q u s:=⟨v,H,I,r,h⟩;rcases l with⟨g,A⟩|⟨g,c,p,o⟩
 ·show wpAny_Name (wpAny_loadName_local I.ok.kind g B A a) hd
 ·rcases g with g|g
  ·show wpAny_Name (wpAny_loadName_cell I.ok.kind g p o a) hd
  ·show wpAny_Name (wpAny_loadName_free I.ok.kind g p o a w) hd
theorem xO{i j f}:PE X (.Constant (.int i) j f) (tC (.int i)):=λ_ _ _ H _ I h=>wpAny_Constant_int ⟨.int i,H,I.tok _,⟨_,S⟩,h⟩
theorem yD{b j f}:PE X (.Constant (.bool b) j f) (tC (.bl b)):=λ_ _ _ H _ I h=>Constant_bool ⟨.bl b,H,I,S,h⟩
theorem D7{j f}:PE X (.Constant .none j f) (tC .non):=λ_ _ _ H _ I h=>Constant_none ⟨.non,H,I,S,h⟩
theorem Fe{x j f}:PE X (.Constant (.str x) j f) (tC (.str x)):=λ_ _ _ H _ I h=>Calls.Constant_str ⟨.str x,H,I.tok _,⟨_,S⟩,h⟩
noncomputable def Gl(X:Cx)(x:Str):Prop:=X.env.kindOf x=Z .globalImplicit
theorem vB{E:Value->À->Prop}{a:Y (Addr×Ô)}{s:À}{g:St}{H:Hp}{x:Str}{u:Value}{f:Ö}{Q:Value->À->Prop}(I:Inv X a g H s)(c:Gl X x)(e:X.mg x=Z u)(h:Q u s)
  (hd:ab x:=by decide):wpAny (Ä X.prog X.w) X.A (eval (.Name x f) X.env) Q E s:=
 ÿ I.ok.kind c (Calls.loadGlobal_global (by rw[I.ok.glob];show I.mod.glob.keeps I.bk) e h) hd
theorem ir{E:Value->À->Prop}{a:Y (Addr×Ô)}{s:À}{p:St}{H:Hp}{x:Str}{u:Value}{f:Ö}{Q:Value->À->Prop}(I:Inv X a p H s)(g:Gl X x)(j:X.mg x=ŕ)(o:Ú x=Z u)(h:Q u s)
  (l:x≠"__name__":=by decide) (hd:ab x:=by decide):wpAny (Ä X.prog X.w) X.A (eval (.Name x f) X.env) Q E s:=by
 let⟨r,c,e⟩:=I.mod.blt;show ÿ I.ok.kind g (Calls.loadGlobal_builtin (by rw[I.ok.glob];show I.mod.glob.keeps I.bk) j (by rw[I.ok.blt];show c.keeps I.bk) ((e x l).trans o) h) hd
theorem fR{x:Str}{v:V}{u:Value}{f:Ö}(a:Gl X x)(c:X.mg x=ŕ)(g:Ú x=Z u)(r:RelV v u)(e:x≠"__name__":=by decide)(hd:ab x:=by decide):PE X (.Name x f) (tC v):=
 λ_ _ _ H _ I h=>ir I a c g ⟨v,H,I,r,h⟩ e hd
variable{a b:Ã}{o tb:TE}{f:Ö}
noncomputable def PC(X:Cx)(j:Ē)(a b:Ã)(t:TE):Prop:=
 ∀(c:Y (Addr×Ô))(s:À)(h:St)(H:Hp)(Q:VK),Inv X c h H s->t h H Q->
  wpAny (Ä X.prog X.w) X.A (eval a X.env) (λv e=>wpAny (Ä X.prog X.w) X.A (eval b X.env) (λu g=>wpAny (Ä X.prog X.w) X.A (É j v u) (EP X c h Q) X.xe g) X.xe e) X.xe s
noncomputable def tB(t:TE):TT:=λg H Q=>t g H λx e=>∃c,x=.bl c/\Q c e
theorem HG{j:Ē}{t:TE}(h:PC X j a b t)(g:behindInMarks j b=Ř:=by first|show nobehind _ 'b' 'b'|rfl):PT X (.Compare a [j] [b] f) (tB t):=by intro e s B H Q I y;refine wpAny_isTrue_Compare1 (aI (h e s B H _ I y) λv C g=>aI g λu E w=>aI w λc F r=>?_) g;let⟨x,l,p,A,z⟩:=r;let⟨d,rfl,q⟩:=z;cases A;show KN ⟨l,p,q⟩
variable{p w:TT}{g:Y Ã}
noncomputable def Dz(t u:TT):TT:=λh H Q=>t h H λc e=>if c=ŗ then u h e Q else Q Ř e
noncomputable def Fg(t u:TT):TT:=λh H Q=>t h H λc e=>if c=ŗ then Q ŗ e else u h e Q
noncomputable def Bf(t:TT):TT:=λh H Q=>t h H λc e=>Q (!c) e
theorem uX(l:PT X a p):PW X (.BoolOp .And [a] f) p:=by
 intro v j s r H Q I h;refine isTrue_and (aI (l j s r H Q I h) λc u e=>?_)
 cases c with
 |true=>show isTrue_and_nil e
 |false=>show e
theorem sW(l:PT X a p):PW X (.BoolOp .Or [a] f) p:=by
 intro v j s r H Q I h;refine isTrue_or (aI (l j s r H Q I h) λc u e=>?_)
 cases c with
 |false=>show isTrue_or_nil e
 |true=>show e
theorem uv(x:PT X a p)(y:PW X (.BoolOp .And (b::g) f) w):PW X (.BoolOp .And (a::b::g) f) (Dz p w):=by
 intro A e s u H Q I h;refine isTrue_and (aI (x e s u H _ I h) λc z v=>?_);let⟨j,l,r⟩:=v
 cases c with
 |true=>show y A e z u j Q l r
 |false=>show⟨j,l,r⟩
theorem tI(x:PT X a p)(y:PW X (.BoolOp .Or (b::g) f) w):PW X (.BoolOp .Or (a::b::g) f) (Fg p w):=by
 intro A e s u H Q I h;refine isTrue_or (aI (x e s u H _ I h) λc z v=>?_);let⟨j,l,r⟩:=v
 cases c with
 |true=>show⟨j,l,r⟩
 |false=>show y A e z u j Q l r
theorem zJ(l:PT X a p):PT X (.UnaryOp .Not a f) (Bf p):=by intro e s r H Q I h;show isTrue_not (l e s r H (λc j=>Q (!c) j) I h)
noncomputable def Eb(o tb:TE):TE:=λh H Q=>o h H λx e=>∃c,x=.bl c/\if c=ŗ then tb h e Q else Q (.bl Ř) e
noncomputable def xC(o:TE):TE:=λh H Q=>o h H λx e=>∃c,x=.bl c/\Q (.bl (!c)) e
theorem wx{op}{t:TE}(h:PE X a t):PE X (.BoolOp op [a] f) t:=λc s j H Q I e=>BoolOp_one (h c s j H Q I e)
theorem wg(z:PE X a o)(A:PE X (.BoolOp .And (b::g) f) tb):PE X (.BoolOp .And (a::b::g) f) (Eb o tb):=by
 intro e s u H Q I h;refine BoolOp_and (aI (z e s u H _ I h) λv C y=>?_);let⟨x,l,r,B,j⟩:=y;let⟨c,rfl,j⟩:=j;cases B;refine KN ?_
 cases c with
 |true=>show A e C u l Q r j
 |false=>show⟨.bl Ř,l,r,S,j⟩
theorem zd(y:PE X a o):PE X (.UnaryOp .Not a f) (xC o):=by intro e s A H Q I h;refine UnaryOp_ (aI (y e s A H _ I h) λv B u=>?_);let⟨x,l,r,z,j⟩:=u;let⟨c,rfl,j⟩:=j;cases z;show not_of (KN ⟨.bl (!c),l,r,S,j⟩)
noncomputable def G2(t:TT)(o tb:TE):TE:=λe H Q=>t e H λc h=>if c=ŗ then o e h Q else tb e h Q
theorem xH{c:Ã}(A:PT X c p)(y:PE X a o)(z:PE X b tb):PE X (.IfExp c a b f) (G2 p o tb):=by
 intro e s j H Q I h;refine wpAny_IfExp (aI (A e s j H _ I h) λd v x=>?_);let⟨l,r,u⟩:=x
 cases d with
 |true=>show y e v j l Q r u
 |false=>show z e v j l Q r u
end
noncomputable def SqL(K:Â)(H:Hp)(a:Addr)(xs:Y V):Prop:=
 Rd H a (.lst xs) \/
  ∃(o:Ô)(c:Array Value)(n:Nat),K.lookup a=Z o/\o.cls=.type "list"/\o.dict=ŕ/\o.data=.seq c n/\c.size<=sizeLine/\Vals xs c.toList
noncomputable def SqT(K:Â)(H:Hp)(a:Addr)(xs:Y V):Prop:=
 Rd H a (.tup xs) \/
  ∃(o:Ô)(c:Array Value)(n:Nat),K.lookup a=Z o/\o.cls=.type "tuple"/\o.data=.seq c n/\c.size<=sizeLine/\Vals xs c.toList
noncomputable def ym:Value->Ŗ V
 |.none=>Z .non
 |.bool b=>Z (.bl b)
 |.int i _=>Z (.int i)
 |.str x _=>Z (.str x)
 |.bytes b _=>Z (.byt b)
 |.float b _=>Z (.flt b)
 |.ref a=>Z (.ref a)
 |.type n=>Z (.ty n)
 |_=>ŕ
theorem RelV.abs{x:V}{u:Value}(r:RelV x u):ym u=Z x:=by
 cases x with
 |non=>cases r;rfl
 |bl _=>cases r;rfl
 |int _=>let⟨t,rfl⟩:=r;rfl
 |str _=>let⟨t,rfl⟩:=r;rfl
 |byt _=>let⟨t,rfl⟩:=r;rfl
 |flt _=>let⟨t,rfl⟩:=r;rfl
 |ref _=>cases r;rfl
 |ty _=>cases r;rfl
theorem RelV.inj{x y:V}{u:Value}(r:RelV x u)(q:RelV y u):x=y:=Jf (r.abs.symm.trans q.abs)
theorem Vals.inj:∀{xs a:Y V}{us:Y Value},Vals xs us->Vals a us->xs=a
 |_,_,_,.nil,.nil=>rfl
 |_,_,_,.cons r t,.cons c t'=>by rw[r.inj c,Vals.inj t t']
section
variable{X:Cx}{c:Y (Addr×Ô)}{f:St}{H:Hp}{s:À}{a:Addr}{xs g:Y V}
theorem SqL.of{K:Â}(h:H a=Z (.lst xs)):SqL K H a xs:=.inl (.inl h)
theorem SqT.of{K:Â}(h:H a=Z (.tup xs)):SqT K H a xs:=.inl (.inl h)
theorem Inv.list(I:Inv X c f H s)(h:SqL X.K H a xs):∃j:Y Value,Vals xs j/\PlainL s.heap a j.toArray/\xs.length<=sizeLine:=by
 rcases h with h|⟨o,j,n,p,l,hd,u,v,r⟩
 ·let⟨z,j,n,r,e⟩:=h.ok I.hok;show⟨j,r,⟨_,n,e,S,S,S⟩,z⟩
 ·refine⟨j.toList,r,⟨o,n,I.kIn a o p,l,hd,by simpa using u⟩,?_⟩;have e:=r.length;simp only[J2]at e;omega
theorem Inv.tuple(I:Inv X c f H s)(h:SqT X.K H a xs):∃j:Y Value,Vals xs j/\ġ s.heap a j.toArray/\xs.length<=sizeLine:=by
 rcases h with h|⟨o,j,n,u,l,v,w,r⟩
 ·let⟨z,j,r,p⟩:=h.ok I.hok;show⟨j,r,p.tup,z⟩
 ·refine⟨j.toList,r,⟨o,I.kIn a o u,l,n,by simpa using v⟩,?_⟩;have e:=r.length;simp only[J2]at e;omega
theorem Inv.list_inj(I:Inv X c f H s)(h:SqL X.K H a xs)(h':SqL X.K H a g):xs=g:=by
 let⟨l,r,⟨o,n,e,_,_,d⟩,_⟩:=I.list h;let⟨Ng,p,⟨o',u,j,_,_,d'⟩,_⟩:=I.list h';rw[e]at j;cases j;rw[d]at d';injection d' with d1 _
 have:l=Ng:=by simpa using Ju Ł d1
 subst this;show r.inj p
theorem Inv.tuple_inj(I:Inv X c f H s)(h:SqT X.K H a xs)(h':SqT X.K H a g):xs=g:=by
 let⟨l,r,⟨o,e,_,n,d⟩,_⟩:=I.tuple h;let⟨Ng,p,⟨o',j,_,u,d'⟩,_⟩:=I.tuple h';rw[e]at j;cases j;rw[d]at d';injection d' with d1 _
 have:l=Ng:=by simpa using Ju Ł d1
 subst this;show r.inj p
end
noncomputable abbrev Cx.wish(X:Cx)(E:Value->À->Prop):Cx:={ X with xe:=E }
noncomputable abbrev Cx.nox(X:Cx):Cx:=X.wish λ_ _=>False
theorem Cx.Ok.wish{X:Cx}(ok:X.Ok)(E:Value->À->Prop):(X.wish E).Ok:=
 ⟨ok.mod,ok.kind,ok.glob,ok.blt,ok.above,ok.inj,ok.has,ok.cab,ok.hd,ok.frames,ok.stk,ok.exf,ok.bs,ok.bsz,ok.noex,ok.exfs,ok.funs,ok.frf⟩
theorem Cx.Ok.unwish{X:Cx}{E:Value->À->Prop}(ok:(X.wish E).Ok):X.Ok:=
 ⟨ok.mod,ok.kind,ok.glob,ok.blt,ok.above,ok.inj,ok.has,ok.cab,ok.hd,ok.frames,ok.stk,ok.exf,ok.bs,ok.bsz,ok.noex,ok.exfs,ok.funs,ok.frf⟩
section
variable{X:Cx}{a:Y (Addr×Ô)}{c:St}{H:Hp}{s:À}{E:Value->À->Prop}
theorem Inv.wish(I:Inv X a c H s)(E:Value->À->Prop):Inv (X.wish E) a c H s:=⟨I.ok.wish E,I.os,I.bare,I.base,I.loc,I.cell,I.free,I.freeC,I.pin,I.hok,I.len⟩
theorem Inv.unwish(I:Inv (X.wish E) a c H s):Inv X a c H s:=⟨I.ok.unwish,I.os,I.bare,I.base,I.loc,I.cell,I.free,I.freeC,I.pin,I.hok,I.len⟩
theorem SP.unwish{D:Ends}{f:Flow}{j:À}(h:SP (X.wish E) a D f j):SP X a D f j:=by
 cases f with
 |next=>let⟨e,g,I,q⟩:=h;show⟨e,g,I.unwish,q⟩
 |brk=>let⟨e,g,I,q⟩:=h;show⟨e,g,I.unwish,q⟩
 |cont=>let⟨e,g,I,q⟩:=h;show⟨e,g,I.unwish,q⟩
 |ret u=>let⟨v,e,g,I,r,q⟩:=h;show⟨v,e,g,I.unwish,r,q⟩
theorem PSs.nox{st:Y Ç}{t:TS}(h:PSs X.nox st t):PSs X st t:=λa s c H D I e=>
 Kc (h a s c H D (I.wish _) e) (λ_ _ q=>q.unwish) λ_ _ z=>Ñ z
end
section
variable{X:Cx}{st:Ç}{l:Y Ç}{t u:TS}{e:Ã}{j:TE}{g:Ö}
noncomputable def DN:TS:=λD a H=>D.nx a H
noncomputable def Hm(t u:TS):TS:=λD a H=>t { D with nx:=u D } a H
theorem pss_nil:PSs X [] DN:=λ_ _ a H _ I h=>LR ⟨a,H,I,h⟩
theorem mH(r:PS X st t)(w:PSs X l u):PSs X (st::l) (Hm t u):=by
 intro a s y H D I h;refine wpAny_execs_cons (aI (r a s y H { D with nx:=u D } I h) λf x q=>?_)
 cases f with
 |next=>
  let⟨c,o,p,q⟩:=q;show w a x c o D p q
 |ret v=>show q
 |brk=>show q
 |cont=>show q
theorem t6(c:PS X st t):PSs X [st] t:=by
 intro a s o H D I h;refine wpAny_execs_cons (aI (c a s o H D I h) λf p q=>?_)
 cases f with
 |next=>show LR q
 |ret v=>show q
 |brk=>show q
 |cont=>show q
theorem Inv.quiet{a:Y (Addr×Ô)}{c:St}{H:Hp}{s:À}(I:Inv X a c H s):interactive X.env=Ř:=by simp[interactive,I.ok.kind]
noncomputable def B8(j:TE):TS:=λD a H=>j a H λ_ c=>D.nx a c
theorem kM(r:PE X e j)(w:Î e ŕ g.line X.env=pure Ř:=by rfl):PS X (.Expr e g) (B8 j):=by intro a s c H D I h;show wpAny_Expr_any (aI (r a s c H _ I h) λv A p=>by let⟨x,f,o,z,y⟩:=p;show⟨c,f,o,y⟩) I.quiet w
noncomputable def CK(j:TE):TS:=λD a H=>j a H D.rt
theorem vO(r:PE X e j):PS X (.Return (Z e) g) (CK j):=by intro a s c H D I h;show wpAny_Return_some (aI (r a s c H _ I h) λv z p=>by let⟨x,f,o,y,w⟩:=p;show⟨x,c,f,o,y,w⟩)
noncomputable def Af(c:TT)(t u:TS):TS:=λD a H=>c a H λb f=>if b=ŗ then t D a f else u D a f
theorem sY{c:Ã}{a b:Y Ç}{x:TT}(B:PT X c x)(z:PSs X a t)(A:PSs X b u):PS X (.If c a b g) (Af x t u):=by
 intro f s o H D I h;refine wpAny_If (aI (B f s o H _ I h) λd w y=>?_);let⟨p,r,v⟩:=y
 cases d with
 |true=>show z f w o p D r v
 |false=>show A f w o p D r v
noncomputable def Cz:TS:=λ_ _ _=>False
theorem ps_never:PS X st Cz:=λ_ _ _ _ _ _ h=>h.elim
end
noncomputable abbrev TG:=V->St->Hp->(St->Hp->Prop)->Prop
noncomputable abbrev fB:=Y V->St->Hp->(St->Hp->Prop)->Prop
noncomputable def PG(X:Cx)(a:Ã)(t:TG):Prop:=
 ∀(c:Y (Addr×Ô))(s:À)(g:St)(H:Hp)(v:V)(u:Value)(Q:St->Hp->Prop),Inv X c g H s->RelV v u->t v g H Q->
  wpAny (Ä X.prog X.w) X.A (assign a X.env u) (λ_ h=>∃e f,Inv X c e f h/\Q e f) X.xe s
noncomputable def PGs(X:Cx)(h:Y Ã)(t:fB):Prop:=
 ∀(a:Y (Addr×Ô))(s:À)(f:St)(H:Hp)(vs:Y V)(us:Y Value)(Q:St->Hp->Prop),Inv X a f H s->Vals vs us->t vs f H Q->
  wpAny (Ä X.prog X.w) X.A (assignInOrder ((Æ h X.env).map (·.2)) us) (λ_ g=>∃c e,Inv X a c e g/\Q c e) X.xe s
noncomputable abbrev kX:=V->V->V->Hp->(Hp->Prop)->Prop
noncomputable def rh(X:Cx)(t:kX):Prop:=
 ∀(a:Y (Addr×Ô))(s:À)(g:St)(H:Hp)(o i v:V)(f e u:Value)(Q:Hp->Prop),Inv X a g H s->RelV o f->RelV i e->RelV v u->t o i v H Q->
  wpAny (Ä X.prog X.w) X.A (setItem f e u) (λ_ h=>∃c,Inv X a g c h/\Q c) X.xe s
noncomputable abbrev jn:=V->V->Hp->VK->Prop
noncomputable def kZ(X:Cx)(e:ë)(t:jn):Prop:=
 ∀(a:Y (Addr×Ô))(s:À)(c:St)(H:Hp)(x y:V)(v u:Value)(Q:VK),Inv X a c H s->RelV x v->RelV y u->t x y H Q->
  wpAny (Ä X.prog X.w) X.A (inplaceOp e v u) (EP X a c Q) X.xe s
section
variable{X:Cx}{p:Ö}
noncomputable def ig(i:Nat):TG:=λv a H Q=>Q (a.set i (Z v)) H
theorem kE{i:Nat}{x:Str}(e:X.N.Nodup)(g:X.N[i]?=Z x)(j:dO X.env.scope x)(f:X.fn x=ŗ\/X.env.scope.names.lookup x=Z .local:=by nofun):PG X (.Name x p) (ig i):=by intro a s o H v u Q I r h;show wpAny_assign_Name (pZ I e g j r (λl c=>⟨_,H,c,h⟩) f)
noncomputable def xc:fB:=λvs a H Q=>vs=[]/\Q a H
noncomputable def Fn(t:TG)(u:fB):fB:=λvs e H Q=>∃v r,vs=v::r/\t v e H λa c=>u r a c Q
theorem pgs_nil:PGs X [] xc:=by intro a s c H vs us Q I r h;let⟨e,h⟩:=h;subst e;cases r;show assignInOrder_nil ⟨c,H,I,h⟩
theorem kC{e:Ã}{es:Y Ã}{t:TG}{u:fB}(o:PG X e t)(w:PGs X es u)
  (x:(Æ (e::es) X.env).map (·.2)=assign e X.env::(Æ es X.env).map (·.2):=by rfl):PGs X (e::es) (Fn t u):=by
 intro a s A H vs us Q I r h;let⟨v,B,l,h⟩:=h;subst l
 cases r with
 |cons r rr=>
  rw[x];refine assignInOrder_cons (aI (o a s A H _ _ _ I r h) λ_ z j=>?_);let⟨c,f,g,y⟩:=j;show w a z c f _ _ Q g rr y
noncomputable def pJ(K:Â)(n:Nat)(t:fB):TG:=λv c H Q=>∃a xs,v=.ref a/\SqT K H a xs/\xs.length=n/\t xs c H Q
theorem vo{es:Y Ã}{k:Nat}{t:fB}{n:Nat}(y:X.calm=ŗ)(h:PGs X es t)
  (A:(Æ es X.env).length=n:=by rfl) (w:(Æ es X.env).findIdx? (·.1)=ŕ:=by rfl):PG X (.Tuple es k p) (pJ X.K n t):=by
 intro c s j H v u Q I r f;let⟨a,xs,x,B,z,f⟩:=f;subst x;cases r;let⟨F,g,C,G⟩:=I.tuple B;refine assign_Tuple_tuple (I.ok.hd y) C (by simp[A,←z,g.length]) w λh' E=>?_;have l:Inv X c j H { s with heap:=h' }:=I.kept (t':=s.toks) λb o e=>E b o (Jk (IT e)) e;show h c _ j H xs _ Q l (by simpa using g) f
noncomputable def Di(to g:TE)(t:kX):TG:=λv a H Q=>to a H λo c=>g a c λi e=>t o i v e λf=>Q a f
theorem rN{o i:Ã}{to g:TE}{t:kX}(K:PE X o to)(J:PE X i g)(L:rh X t)
  (G:∀v,assign (.Subscript o i p) X.env v=(do
   let c ←holding [v] (eval o X.env)
   let e ←holding [v,c] (eval i X.env)
   standAt p
   holding [v,c,e] (setItem c e v)
   release [v,c,e] []):=by intro _;rfl):PG X (.Subscript o i p) (Di to g t):=by
 intro a s f H v u Q I r h;rw[G];refine Iq (Kd (aI (K a s f H _ I h) λc a_ C=>?_));let⟨x,j,z,P,M⟩:=C;refine Iq (Kd (aI (J a a_ f j _ z M) λe T E=>?_));let⟨y,l,A,R,N⟩:=E;refine Iq (Mc (Iq (Kd (aI (L a T f l x y v c e u _ A P R r N) λ_ U F=>?_))));let⟨w,B,O⟩:=F;show wpAny_release ⟨f,w,B,O⟩
noncomputable def iR(e:TE)(g:TG):TS:=λD a H=>e a H λx c=>g x a c D.nx
theorem mT{c e:Ã}{f:TE}{g:TG}(w:PE X e f)(y:PG X c g)(z:è [c] e p.line X.env=pure Ř:=by rfl)(A:é [c] e X.env=pure ŕ:=by rfl)
  (u:(Æ [c] X.env).map (·.2)=[assign c X.env]:=by rfl):PS X (.Assign [c] e p) (iR f g):=by
 intro a s j H D I h;refine wpAny_Assign_stores (aI (w a s j H _ I h) λv E r=>?_) z A;let⟨x,l,o,C,B⟩:=r;rw[u];show aI (y a E j l x v _ o C B) λ_ F q=>q
theorem qo{i:Nat}{x:Str}{e:Ã}{f:TE}{a:Ö}(r:X.N.Nodup)(z:X.N[i]?=Z x)(B:dO X.env.scope x)(u:PE X e f)(A:Î e (Z (.Name x a)) p.line X.env=pure Ř:=by rfl)(w:X.fn x=ŗ\/X.env.scope.names.lookup x=Z .local:=by nofun) :
  PS X (.Assign [.Name x a] e p) (iR f (ig i)):=by
 intro c s F H D I h;refine wpAny_Assign_Name (aI (u c s F H _ I h) λv G o=>?_) A;let⟨y,g,j,E,C⟩:=o;show pZ j r z B E (λJ l=>⟨_,g,l,C⟩) w
noncomputable def A0(i:Nat)(f:TE)(g:jn):TS:=λD a H=>∃x,a[i]?=Z (Z x)/\f a H λy c=>g x y c λz e=>D.nx (a.set i (Z z)) e
theorem HE{i:Nat}{x:Str}{e:Ã}{F:TE}{B:ë}{G:jn}{g:Ö}(T:X.N.Nodup)(E:X.N[i]?=Z x)(A:dO X.env.scope x)(be:PE X e F)(ho:kZ X B G)(b_:X.fn x=ŗ\/X.env.scope.names.lookup x=Z .local:=by nofun) :
  PS X (.AugAssign (.Name x g) B e p) (A0 i F G):=by
 intro a s J H D I h;let⟨v,a_,h⟩:=h;let⟨m,hn,hl⟩:=I.loc
 have C:cR X.env.scope x:=by rcases A with k|k;show .inl k;show .inr (.inl k)
 let⟨u,r,l⟩:=hl i x v E a_ C;refine wpAny_AugAssign_Name ?_
 have go:wpAny (Ä X.prog X.w) X.A (eval e X.env) (λw j=>wpAny (Ä X.prog X.w) X.A (inplaceOp B u w) (λr o=>wpAny (Ä X.prog X.w) X.A (Ō X.env x r) (λ_=>SP X a D .next) X.xe o) X.xe j) X.xe s:=by refine aI (be a s J H _ I h) λw s1 P=>?_;let⟨y,K,M,r1,q1⟩:=P;refine aI (ho a s1 J K v y u w _ M r r1 q1) λz s2 Q=>?_;let⟨zv,L,N,r2,q2⟩:=Q;show pZ N T E A r2 (λs3 O=>⟨_,L,O,q2⟩) b_
 rcases l with⟨f,hm⟩|⟨f,c,U,R⟩
 ·show wpAny_loadName_local I.ok.kind f hn hm go
 ·rcases f with f|f
  ·show wpAny_loadName_cell I.ok.kind f U R go
  ·rcases A with k|k
   ·have:X.env.scope.names.lookup x=Z .free:=f;rw[k]at this;cases this
   ·have:X.env.scope.names.lookup x=Z .free:=f;rw[k]at this;cases this
noncomputable def Dr(to w v:TE)(l:V->V->Hp->VK->Prop)(u:jn)(r:kX):TS:=λD a H=>to a H λo c=>w a c λi e=>l o i e λx f=>v a f λy g=>u x y g λz h=>r o i z h λj=>D.nx a j
noncomputable def oJ(X:Cx)(t:V->V->Hp->VK->Prop):Prop:=
 ∀(a:Y (Addr×Ô))(s:À)(f:St)(H:Hp)(o i:V)(e c:Value)(Q:VK),Inv X a f H s->RelV o e->RelV i c->t o i H Q->
  wpAny (Ä X.prog X.w) X.A (ä e c) (EP X a f Q) X.xe s
theorem Ey{o i e:Ã}{to A z:TE}{l:V->V->Hp->VK->Prop}{u:jn}{r:kX}{w:ë}{be:Ö}(ho:PE X o to)(hi:PE X i A)(hg:oJ X l)(he:PE X e z)(hp:kZ X w u)(hs:rh X r)
  (ha:∀f c new,augStore i f c new=(do holding [new,f,c] (setItem f c new);release [new,f,c] [];pure .next):=by intros;rfl):PS X (.AugAssign (.Subscript o i be) w e p) (Dr to A z l u r):=by
 intro a s g H D I h;refine wpAny_AugAssign_SubscriptAny (aI (ho a s g H _ I h) λf s1 a_=>?_) ha;let⟨B,E,M,x,q1⟩:=a_;refine aI (hi a s1 g E _ M q1) λc s2 T=>?_;let⟨C,F,N,y,q2⟩:=T;refine aI (hg a s2 g F B C f c _ N x y q2) λj s3 U=>?_;let⟨x3,G,O,r3,q3⟩:=U;refine aI (he a s3 g G _ O q3) λv s4 b_=>?_;let⟨x4,J,P,r4,q4⟩:=b_;refine aI (hp a s4 g J x3 x4 j v _ P r3 r4 q4) λnew s5 T3=>?_;let⟨x5,K,Q,r5,q5⟩:=T3
 show aI (hs a s5 g K B C x5 f c new _ Q x y r5 q5) λ_ s6 T4=>by let⟨L,R,q6⟩:=T4;show⟨g,L,R,q6⟩
noncomputable def qz(f:Int->Int->Int):jn:=λx y H Q=>∃i j,x=.int i/\y=.int j/\Q (.int (f i j)) H
theorem tj:kZ X .Add (qz λi j=>i+j):=by intro a s l H x y v u Q I f g h;let⟨i,j,c,e,q⟩:=h;subst c;subst e;let⟨t,rfl⟩:=f;let⟨t',rfl⟩:=g;show iadd_int ⟨.int _,H,I.tok _,⟨_,S⟩,q⟩
end
section
variable{X:Cx}{a:Ö}
noncomputable def BI(c:TT)(tb:TS):TS:=λD e H=>∃W:Nat->St->Hp->Prop,(∃m,W m e H)/\∀m e H,W m e H->
 c e H λb h=>if b=ŗ then ∃N:St->Hp->Prop,(∀f g,N f g->∃j,j<m/\W j f g)/\tb { D with nx:=N,ct:=N,bk:=D.nx } e h else D.nx e h
theorem tE{c:Ã}{l:Y Ç}{K:TT}{tb:TS}(J:ø (Ä X.prog X.w) X.A X.env X.xe)(P:PT X c K)(O:PSs X l tb):PS X (.While c l [] a) (BI K tb):=by
 intro e s b_ H D I h;let⟨W,⟨Q,U⟩,p⟩:=h;refine wpAny_While (codeAny_whileLoop (λn R=>∃r B,Inv X e r B R/\W n r B) ?_ Q ⟨b_,H,I,U⟩);rintro n a_ ⟨j,C,L,be⟩;refine KG J (aI (P e a_ j C _ L (p n j C be)) λb T M=>?_);let⟨E,F,u⟩:=M
 cases b with
 |true=>
  let⟨N,G,u⟩:=u;rw[Iw S];refine KG J (aI (O e T j E _ F u) λf s3 w=>?_)
  cases f with
  |next=>
   let⟨g,o,x,n3⟩:=w;let⟨z,y,A⟩:=G g o n3;show⟨z,y,g,o,x,A⟩
  |cont=>
   let⟨g,o,x,n3⟩:=w;let⟨z,y,A⟩:=G g o n3;show⟨z,y,g,o,x,A⟩
  |brk=>show w
  |ret v=>show w
 |false=>
  rw[Ir Jm];show LR ⟨j,E,F,u⟩
end
structure It where
 go:Nat->Hp->Prop
 yld:Nat->Hp->V->Hp->Prop
 stop:Nat->Hp->Prop
noncomputable def eI(X:Cx)(a:Y (Addr×Ô))(H:Hp)(b:Addr):Prop:=
 H b=ŕ/\b≠X.env.locals/\b∉X.fs/\(b∈X.ex\/X.s₀.heap.objs.size<=b)/\(∀x c,X.env.cells.lookup x=Z c->c≠b)/\∀p∈X.pn++a,p.1≠b
theorem Inv.fpOk{X:Cx}{a:Y (Addr×Ô)}{l:St}{H g:Hp}{s:À}{b:Addr}(I:Inv X a l H s)(f:s.heap.objs.size<=b)(h:g b=ŕ):eI X a g b:=by
 refine⟨h,MR (Jl I.lt f),I.nofs f,.inr (IU I.sz f),λx c e z=>?_,λp j z=>?_⟩
 ·let⟨v,q⟩:=I.cell x c e;show absurd (Jl q.lt (by rw[z];show f)) (J4 _)
 ·show absurd (Jl (IT (I.pin p j).1) (by rw[z];show f)) (J4 _)
structure Turn(P:Å)(w:È)(K:Â)(tg:Ã)(J:It)(fp:List Addr)(it:Addr)(tn:Nat->Heap->Prop):Prop where
 mem:it∈fp
 obj:∀i h,tn i h->∀b∈fp,∃o,h.get? b=Z o/\∀v,o.data≠.cell v
 keep:∀i h h',tn i h->(∀b∈fp,∀o,h.get? b=Z o->h'.get? b=Z o)->tn i h'
 item:∀(X:Cx),X.prog=P->X.w=w->X.K=K->X.calm=ŗ->∀(i:Nat)(pins:List (Addr×Ô))(s:À)(σ:St)(H:Hp)(E:Value->À->Prop),Inv X pins σ H s->(∀b∈fp,eI X pins H b)->tn i s.heap->J.go i H->
  wpAny (Ä P w) X.A (ó (.ref it)) (λr s1=>∃u,r=Z u /\
   wpAny (Ä P w) X.A (ñ tg (.ref it) u) (λ_ s2=>∃x H',Inv X pins σ H' s2/\RelV x u/\J.yld i H x H'/\tn (i+1) s2.heap/\∀b∈fp,H' b=ŕ) E s1) E s
 done:∀(X:Cx),X.prog=P->X.w=w->X.K=K->X.calm=ŗ->∀(i:Nat)(pins:List (Addr×Ô))(s:À)(σ:St)(H:Hp)(E:Value->À->Prop),Inv X pins σ H s->(∀b∈fp,eI X pins H b)->tn i s.heap->J.stop i H->
  wpAny (Ä P w) X.A (ó (.ref it)) (λr s1=>r=ŕ/\Inv X pins σ H s1) E s
 self:∀(A:Ì)(i:Nat)(s:À)(Q:Value->À->Prop)(E:Value->À->Prop),tn i s.heap->Q (.ref it) s->wpAny (Ä P w) A (pyIter (.ref it)) Q E s
noncomputable abbrev TI:=St->Hp->(It->Hp->Prop)->Prop
noncomputable def rT(X:Cx)(a:Y (Addr×Ô))(o:St)(l:Ã)(R:It->Hp->Prop)(j:Value)(g:À):Prop:=
 ∃(f:Addr)(e:Y Addr)(h:Nat->Heap->Prop)(J:It)(c:Hp),j=.ref f/\Inv X a o c g/\Turn X.prog X.w X.K l J e f h/\h 0 g.heap/\(∀b∈e,eI X a c b)/\R J c
noncomputable def PI(X:Cx)(g c:Ã)(h:TI):Prop:=
 ∀(a:Y (Addr×Ô))(s:À)(e:St)(H:Hp)(R:It->Hp->Prop),Inv X a e H s->h e H R->
  wpAny (Ä X.prog X.w) X.A (eval c X.env) (λv f=>wpAny (Ä X.prog X.w) X.A (pyIter v) (rT X a e g R) X.xe f) X.xe s
theorem mK{M:Model}{A:Ì}{E:Value->À->Prop}{s:À}{e:Ã}{c:Addr}{u:Value}{o:Ô}{n:String}{vs:Array Value}{Q:Unit->À->Prop}(j:s.heap.get? c=Z o)(f:o.cls=.type n)(hd:o.data=.fields vs)
  (g:["enumerate","zip","dict_itemiterator","dict_reverseitemiterator","odict_iterator","itertools.zip_longest","itertools.pairwise"].contains n=Ř) (a:Q Unit.unit s):wpAny M A (ñ e (.ref c) u) Q E s:=by
 unfold ñ
 cases e<;>first
  |show IK a
  |(cases u<;>first
   |show IK a
   |(refine Iq (wpAny_load j ?_)
     rw [f, hd];change wpAny M A (if (["enumerate", "zip", "dict_itemiterator", "dict_reverseitemiterator", "odict_iterator", "itertools.zip_longest", "itertools.pairwise"].contains n&&vs[0]?==Z (ò _)) = ŗ then _ else _) Q E s;rw [Ir (by intro h; rw [g, Kv]at h; cases h)]
     show IK a))
noncomputable def ra(K:Â)(a:Addr):It:=
 ⟨λi H=>∃xs x,SqL K H a xs/\xs[i]?=Z x,λi H x c=>c=H/\∀xs,SqL K H a xs->xs[i]?=Z x,λi H=>∃xs,SqL K H a xs/\xs.length<=i⟩
noncomputable def pB(K:Â)(a:Addr):It:=
 ⟨λi H=>∃xs x,SqT K H a xs/\xs[i]?=Z x,λi H x c=>c=H/\∀xs,SqT K H a xs->xs[i]?=Z x,λi H=>∃xs,SqT K H a xs/\xs.length<=i⟩
noncomputable def na(lo:Int)(n:Nat):It:=⟨λi _=>i<n,λi H x a=>a=H/\x=.int (lo+i),λi _=>n<=i⟩
theorem Fh{P:Å}{w:È}{K:Â}{tg:Ã}(a j:Addr):Turn P w K tg (ra K a) [j] j (λi h=>h.IsListIter j a i) where
 mem:=by simp
 obj:=λi h st b g=>by
  have e:b=j:=by simpa using g
  subst e;let⟨o,e,c,d⟩:=st;show⟨o,e,λv z=>by rw[d]at z;cases z⟩
 keep:=λi h h' st k=>st.at λo e=>k j (by simp) o e
 item:=by
  intro X J M G R i f s a_ H E I l st L;subst J M G;let⟨xs,x,r,N⟩:=L;let⟨U,O,p,hz⟩:=I.list r;let⟨u,hu,ru⟩:=O.get N;let⟨y,A,b_,B,C,F⟩:=l j (by simp);refine Lz st p.isList (x:=u) (by simpa using hu) λh' Q sb=>?_;have T:Inv X f a_ H { s with heap:=h' }:=I.turned (t':=s.toks) (λb o g e=>(sb.2 b g).trans e) y A B C F;let⟨o,e,c,d⟩:=id Q;show⟨u,S,mK (s:={ s with heap:=h' }) e c d 'b' ⟨x,H,T,ru,⟨S,λys hy=>by rw[I.list_inj hy r];show N⟩,Q,λb g=>(l b g).1⟩⟩
 done:=by
  intro X J M G R i f s a_ H E I l st L;subst J M G;let⟨xs,r,N⟩:=L;let⟨U,O,p,hz⟩:=I.list r;let⟨y,A,b_,B,C,F⟩:=l j (by simp);have hl:=O.length;show LL (I.ok.hd R) st p.isList (by simp;omega) λh' be=>⟨S,I.turned (t':=s.toks) (λb o g e=>be b o g e) y A B C F⟩
 self:=λ_ _ _ _ _ st h=>į st h
theorem yJ{P:Å}{w:È}{K:Â}{tg:Ã}(a j:Addr):Turn P w K tg (pB K a) [j] j (λi h=>h.IsTupleIter j a i) where
 mem:=by simp
 obj:=λi h st b g=>by
  have e:b=j:=by simpa using g
  subst e;let⟨o,e,c,d⟩:=st;show⟨o,e,λv z=>by rw[d]at z;cases z⟩
 keep:=λi h h' st k=>st.at λo e=>k j (by simp) o e
 item:=by
  intro X L N J a_ i f s T H E I l st M;subst L N J;let⟨xs,x,r,O⟩:=M;let⟨y,Q,p,hz⟩:=I.tuple r;let⟨u,hu,ru⟩:=Q.get O;let⟨A,B,b_,C,F,G⟩:=l j (by simp);refine Ĝ st (show s.heap.IsTuple a y.toArray from p) (x:=u) (by simpa using hu) λh' R sb=>?_;have U:Inv X f T H { s with heap:=h' }:=I.turned (t':=s.toks) (λb o g e=>(sb.2 b g).trans e) A B C F G;let⟨o,e,c,d⟩:=id R;show⟨u,S,mK (s:={ s with heap:=h' }) e c d 'b' ⟨x,H,U,ru,⟨S,λys hy=>by rw[I.tuple_inj hy r];show O⟩,R,λb g=>(l b g).1⟩⟩
 done:=by
  intro X L N J a_ i f s T H E I l st M;subst L N J;let⟨xs,r,O⟩:=M;let⟨y,Q,p,hz⟩:=I.tuple r;let⟨A,B,b_,C,F,G⟩:=l j (by simp);have hl:=Q.length;show Ħ (I.ok.hd a_) st (show s.heap.IsTuple a y.toArray from p) (by simp;omega) λh' be=>⟨S,I.turned (t':=s.toks) (λb o g e=>be b o g e) A B C F G⟩
 self:=λ_ _ _ _ _ st h=>ħ st h
theorem AV{P:Å}{w:È}{K:Â}{R:Ã}(a:Addr)(lo:Int)(n:Nat):Turn P w K R (na lo n) [a] a (λi h=>IsRangeIter h a (lo+(i:Nat)*1) ((n:Int)-(i:Nat)) 1) where
 mem:=by simp
 obj:=λi h st b f=>by
  have e:b=a:=by simpa using f
  subst e
  show⟨_,st,λv z=>by
   have U:Ĕ _=û v:=z
   cases U⟩
 keep:=λi h h' st k=>k a (by simp) _ st
 item:=by
  intro X y C x A i c s J H E I g st B;subst y C x;let⟨j,l,N,p,r,u⟩:=g a (by simp);have W:=Walks.range (prog:=X.prog) (w:=X.w) (I.ok.hd A) a lo 1 n;refine W.item i s _ _ B st λv h' G O F Q=>?_;let⟨t,rfl⟩:=O;have L:Inv X c J H { s with heap:=h',toks:=G }:=I.turned (λb o f e=>Q b o (by simpa using f) e) j l p r u;refine⟨_,S,mK (s:={ s with heap:=h',toks:=G }) (n:="range_iterator") F S S 'b' ⟨.int (lo+i),H,L,⟨t,?_⟩,⟨S,S⟩,F,λb f=>(g b f).1⟩⟩;rw[Int.mul_one]
 done:=by intro X y C x A i c s J H E I g st B;subst y C x;let⟨j,l,N,p,r,u⟩:=g a (by simp);show wpAny_pyNext_range_end (I.ok.hd A) st (by have:n<=i:=B;omega) λh' M=>⟨S,I.turned (t':=s.toks) (λb o f e=>M b o f e) j l p r u⟩
 self:=λ_ _ _ _ _ st h=>wpAny_pyIter_rangeiter st h
section
variable{X:Cx}{c:Ã}
theorem Bn{f:Y (Addr×Ô)}{j:St}{H:Hp}{s:À}{R:It->Hp->Prop}{E:Value->À->Prop}{lo a:Int}{t u v:Ň}{h:Nat}(I:Inv X f j H s)(r:-(2^62)<=lo)(w:lo<2^62)(x:-(2^62)<=a)(y:a<2^62)
  (q:R (na lo (a-lo).toNat) H):wpAny (Ä X.prog X.w) X.A (pyIter (.ref s.heap.objs.size)) (rT X f j c R) E { s with heap:=s.heap.push { cls:=.type "range",data:=.fields #[.int lo t,.int a u,.int 1 v] },toks:=h }:=by
 refine wpAny_pyIter_range (IsRange.new ..) (ō r w x y) ?_;have g:Inv X f j H { s with heap:=s.heap.push { cls:=.type "range",data:=.fields #[.int lo t,.int a u,.int 1 v] },toks:=h }:=I.kept λb o e=>IA _ e
 refine⟨(s.heap.push { cls:=.type "range",data:=.fields #[.int lo t,.int a u,.int 1 v] }).objs.size,[(s.heap.push { cls:=.type "range",data:=.fields #[.int lo t,.int a u,.int 1 v] }).objs.size],_,_,H,S,
  g.kept (t':=h) λb o e=>IA _ e,AV _ lo (a-lo).toNat,?_,λb z=>?_,q⟩
 ·have l:lo+((0:Nat):Int)*1=lo:=by simp
  have p:(((a-lo).toNat:Nat):Int)-((0:Nat):Int)=Builtin.Range.rangeSize lo a 1:=by rw[Ę];split<;>omega
  change IsRangeIter _ _ (lo+((0:Nat):Int)*1) ((((a-lo).toNat:Nat):Int)-((0:Nat):Int)) 1;rw[l,p];show IM _ S
 ·have e:b=(s.heap.push { cls:=.type "range",data:=.fields #[.int lo t,.int a u,.int 1 v] }).objs.size:=by simpa using z
  subst e;show g.fpOk (Iu _) (g.hok.fresh (Iu _))
noncomputable def zw(e:TA):TI:=λf H R=>e f H λvs a=>∃j:Int,vs=[.int j]/\-(2^62)<=j/\j<2^62/\R (na 0 j.toNat) a
theorem vN{a:Ã}{o:TA}{p g:Ö}(x:Gl X "range")(y:X.mg "range"=ŕ)(w:PA X [a] o)(z:starEach [a] X.env=[(Ř,eval a X.env)]:=by rfl):PI X c (.Call (.Name "range" p) [a] [] g) (zw o):=by
 intro f s C H R I h;refine Call_ (ir I x y boot_range (JM (aI (w g f s C H _ I h) λus F v=>?_) z S));let⟨vs,E,u,B,l⟩:=v;let⟨j,e,l,A,q⟩:=l;subst e
 cases B with
 |cons r rr=>
  cases rr;let⟨t,rfl⟩:=r;show call_range_1 (Bn u () () l A (by simpa using q))
noncomputable def A6(p:TI)(g:TG)(tb:TS):TS:=λD a H=>p a H λJ l=>∃W:Nat->Nat->St->Hp->Prop,(∃m,W 0 m a l)/\∀i m a H,W i m a H->
 (J.stop i H/\D.nx a H)\/(J.go i H/\∃N:St->Hp->Prop,(∀f e,N f e->∃j,j<m/\W (i+1) j f e)/\∀x e,J.yld i H x e->g x a e λh o=>tb { D with nx:=N,ct:=N,bk:=D.nx } h o)
noncomputable def lg(a:Y Addr)(h:Heap):Y (Addr×Ô):=a.filterMap λb=>(h.get? b).map λo=>(b,o)
theorem mh{a:Y Addr}{h:Heap}{b:Addr}{o:Ô}(f:b∈a)(e:h.get? b=Z o):(b,o)∈lg a h:=KZ.mpr ⟨b,f,by rw[e];rfl⟩
theorem Bb{a:Y Addr}{h:Heap}{p:Addr×Ô}(j:p∈lg a h):p.1∈a/\h.get? p.1=Z p.2:=by
 let⟨b,g,e⟩:=KZ.mp j
 cases q:h.get? b with
 |none=>rw[q]at e;cases e
 |some o=>
  rw[q]at e;have f:(b,o)=p:=Jf e;subst f;show⟨g,q⟩
theorem Inv.pinned{a:Y (Addr×Ô)}{j:St}{H:Hp}{s:À}{f:Y Addr}(I:Inv X a j H s)(w:∀b∈f,eI X a H b)(x:∀b∈f,∃o,s.heap.get? b=Z o/\∀v,o.data≠.cell v):Inv X (a++lg f s.heap) j H s:=
 I.pins_of λp y=>(IZ.mp y).elim (λz=>I.pin p (Jo _ z)) λz=>by let⟨h,e⟩:=Bb z;let⟨l,r,u,_⟩:=w p.1 h;let⟨o,g,d⟩:=x p.1 h;rw[e]at g;cases g;show⟨e,l,r,u,d⟩
theorem Inv.unpinned{a pl:Y (Addr×Ô)}{e:St}{H:Hp}{s:À}(I:Inv X (a++pl) e H s):Inv X a e H s:=I.pins_of λp f=>I.pin p (Jo _ (J5 _ f))
theorem sw{y:Ã}{C:Y Ç}{wi:TI}{g:TG}{tb:TS}{be:Ö}(K:ø (Ä X.prog X.w) X.A X.env X.xe)(hc:X.calm=ŗ)(hi:PI X c y wi)(hg:PG X c g)(w:PSs X C tb)
  (hs:∀x,Ê y X.env x=pure x:=by intro _;rfl):PS X (.For c y C [] be) (A6 wi g tb):=by
 intro a s σ H D I h;refine wpAny_For (aI (hi a s σ H _ I h) λv s1 h1=>aI h1 λTa s2 h2=>?_) hs;let⟨it,F,tn,J,H2,e,I2,T,QE,f2,W,⟨m0,w0⟩,O⟩:=h2;subst e;have R:∀{B:Hp},(∀b∈F,B b=ŕ)->∀b∈F,eI X a B b:=λhn b w=>⟨hn b w,(f2 b w).2⟩;refine codeAny_forLoop_any (λn s'=>∃i z B,Inv X a z B s'/\tn i s'.heap/\(∀b∈F,B b=ŕ)/\W i n z B) ?_ m0 ⟨0,σ,H2,I2,QE,λb w=>(f2 b w).1,w0⟩;rintro n s3 ⟨i,A,P,I3,M,G,w3⟩;rcases O i n A P w3 with⟨stop,qn⟩|⟨go,N,hN,step⟩
 ·refine KG K (aI (T.done X S S S hc i a s3 A P X.xe I3 (R G) M stop) λr s4 MY=>?_);let⟨U,I4⟩:=MY;subst U;show LR ⟨A,P,I4,qn⟩
 ·refine KG K (aI (T.item X S S S hc i a s3 A P X.xe I3 (R G) M go) λr s4 NC=>?_);let⟨u,U,h4⟩:=NC;subst U;refine KG K (aI h4 λ_ s5 Ov=>?_);let⟨x,H5,I5,r5,y5,a_,Tb⟩:=Ov;have Q:=I5.pinned (R Tb) (T.obj _ _ a_);refine KG K (aI (hg _ s5 A H5 x u _ Q r5 (step x H5 y5)) λ_ s6 RU=>?_);let⟨σ6,H6,I6,q6⟩:=RU;refine KG K (aI (w _ s6 σ6 H6 _ I6 q6) λf b_ E=>?_)
  have again:∀{j:St}{l:Hp},Inv X (a++lg F s5.heap) j l b_->N j l->∃m,m<n/\∃i z B,Inv X a z B b_/\tn i b_.heap/\(∀b∈F,B b=ŕ)/\W i m z B:=λ{j l} p L=>by let⟨m',hm,w7⟩:=hN j l L;refine⟨m',hm,i+1,j,l,p.unpinned,T.keep _ _ _ a_ λb w o e=>(p.pin (b,o) (Jo _ (Jo _ (mh w e)))).1,λb w=>?_,w7⟩;let⟨o,e,d⟩:=T.obj _ _ a_ b w;show (p.pin (b,o) (Jo _ (Jo _ (mh w e)))).2.1
  cases f with
  |next=>let⟨j,l,p,L⟩:=E;show again p L
  |cont=>let⟨j,l,p,L⟩:=E;show again p L
  |brk=>let⟨j,l,p,E⟩:=E;show⟨j,l,p.unpinned,E⟩
  |ret v=>let⟨x7,j,l,p,r7,E⟩:=E;show⟨x7,j,l,p.unpinned,r7,E⟩
end
noncomputable abbrev R2:=V->V->Hp->VK->Prop
noncomputable def cb(X:Cx)(f:Value->Value->Sem Value)(r:R2):Prop:=
 ∀(a:Y (Addr×Ô))(s:À)(c:St)(H:Hp)(x y:V)(v u:Value)(Q:VK),Inv X a c H s->RelV x v->RelV y u->r x y H Q->
  wpAny (Ä X.prog X.w) X.A (f v u) (EP X a c Q) X.xe s
noncomputable def pG(X:Cx)(f:Value->Sem Value)(r:V->Hp->VK->Prop):Prop:=
 ∀(a:Y (Addr×Ô))(s:À)(c:St)(H:Hp)(x:V)(v:Value)(Q:VK),Inv X a c H s->RelV x v->r x H Q->
  wpAny (Ä X.prog X.w) X.A (f v) (EP X a c Q) X.xe s
noncomputable def eg(X:Cx)(f:Value)(r:Y V->Hp->VK->Prop):Prop:=
 ∀(a:Y (Addr×Ô))(s:À)(c:St)(H:Hp)(xs:Y V)(us:Y Value)(Q:VK),Inv X a c H s->Vals xs us->r xs H Q->
  wpAny (Ä X.prog X.w) X.A (call f us) (EP X a c Q) X.xe s
noncomputable def AC(X:Cx)(r:V->Hp->(Bool->Hp->Prop)->Prop):Prop:=
 ∀(a:Y (Addr×Ô))(s:À)(c:St)(H:Hp)(x:V)(v:Value)(Q:Bool->Hp->Prop),Inv X a c H s->RelV x v->r x H Q->
  wpAny (Ä X.prog X.w) X.A (truthy v) (TP X a c Q) X.xe s
noncomputable def iI(r:R2)(f tb:TE):TE:=λa H Q=>f a H λx c=>tb a c λy e=>r x y e Q
noncomputable def D4(r:V->Hp->VK->Prop)(c:TE):TE:=λe H Q=>c e H λx a=>r x a Q
noncomputable def rI(C:Int->Int->Prop)(g:Int->Int->V):R2:=λx y H Q=>∃i j,x=.int i/\y=.int j/\C i j/\Q (g i j) H
noncomputable def hV(g:Int->Int->V):R2:=λx y H Q=>∃i j,x=.int i/\y=.int j/\Q (g i j) H
noncomputable def rU(g:Int->V):V->Hp->VK->Prop:=λx H Q=>∃i,x=.int i/\Q (g i) H
section
variable{X:Cx}{a b:Ã}{c tb:TE}{e:Ö}
theorem rf(E:PE X a c)(F:PE X b tb){g:Y (Addr×Ô)}{s:À}{l:St}{H:Hp}{R:V->V->Hp->Prop}(I:Inv X g l H s)
  (h:c l H λx w=>tb l w λy j=>R x y j) {Q:Value->À->Prop} {f:Value->Value->Sem Value}
  (G:∀v u r x y j,Inv X g l j r->RelV x v->RelV y u->R x y j->wpAny (Ä X.prog X.w) X.A (f v u) Q X.xe r) :
  wpAny (Ä X.prog X.w) X.A (eval a X.env) (λv o=>wpAny (Ä X.prog X.w) X.A (eval b X.env) (λu p=>wpAny (Ä X.prog X.w) X.A (f v u) Q X.xe p) X.xe o) X.xe s:=by
 refine aI (E g s l H _ I h) λv N B=>?_;let⟨x,w,z,L,J⟩:=B;refine aI (F g N l w _ z J) λu r C=>?_;let⟨y,j,A,M,K⟩:=C;show G v u r x y j A L M K
theorem wz{g:ë}{r:R2}(w:cb X (Ï g) r)(o:PE X a c)(p:PE X b tb):PE X (.BinOp a g b e) (iI r c tb):=by intro f s C H Q I h;show wpAny_BinOp (rf o p I h λv u B x y j l z A q=>w f B C j x y v u Q l z A q)
theorem Ae{g:UnaryOp}{r:V->Hp->VK->Prop}(w:pG X (unaryOp g) r)(u:PE X a c):PE X (.UnaryOp g a e) (D4 r c):=by intro f s j H Q I h;show UnaryOp_ (aI (u f s j H _ I h) λv A p=>by let⟨x,l,o,z,y⟩:=p;show w f A j l x v Q o z y)
theorem nN{f:Value->Value->Sem Value}{C:Int->Int->Prop}{g:Int->Int->Int}
  (rule:∀(i j:Int)(t u:Ň)(s:À)(Q:Value->À->Prop)(E:Value->À->Prop),C i j->Q (.int (g i j) s.toks) { s with toks:=s.toks+1 }->wpAny (Ä X.prog X.w) X.A (f (.int i t) (.int j u)) Q E s) :
  cb X f (rI C λi j=>.int (g i j)):=by
 intro l s w H x y v u Q I p r h;let⟨i,j,rfl,rfl,o,q⟩:=h;let⟨t,rfl⟩:=p;let⟨t',rfl⟩:=r;show rule i j t t' s _ _ o ⟨.int (g i j),H,I.tok _,⟨_,S⟩,q⟩
theorem vQ{f:Value->Value->Sem Value}{g:Int->Int->Int}
  (rule:∀(i j:Int)(t u:Ň)(s:À)(Q:Value->À->Prop)(E:Value->À->Prop),Q (.int (g i j) s.toks) { s with toks:=s.toks+1 }->wpAny (Ä X.prog X.w) X.A (f (.int i t) (.int j u)) Q E s) :
  cb X f (hV λi j=>.int (g i j)):=by
 intro l s r H x y v u Q I o p h;let⟨i,j,rfl,rfl,q⟩:=h;let⟨t,rfl⟩:=o;let⟨t',rfl⟩:=p;show rule i j t t' s _ _ ⟨.int (g i j),H,I.tok _,⟨_,S⟩,q⟩
theorem lz{f:Value->Value->Sem Value}{g:Int->Int->Bool}
  (rule:∀(i j:Int)(t u:Ň)(s:À)(Q:Value->À->Prop)(E:Value->À->Prop),Q (.bool (g i j)) s->wpAny (Ä X.prog X.w) X.A (f (.int i t) (.int j u)) Q E s) :
  cb X f (hV λi j=>.bl (g i j)):=by
 intro l s r H x y v u Q I o p h;let⟨i,j,rfl,rfl,q⟩:=h;let⟨t,rfl⟩:=o;let⟨t',rfl⟩:=p;show rule i j t t' s _ _ ⟨.bl (g i j),H,I,S,q⟩
noncomputable def vH(i j:Int):Prop:=0<=j/\j<=1000000/\i.natAbs<2^64
theorem DK:cb X (Ï .Add) (hV λi j=>.int (i+j)):=vQ λ_ _ _ _ _ _ _ q=>add_int q
theorem wH:cb X (Ï .Sub) (hV λi j=>.int (i-j)):=vQ λ_ _ _ _ _ _ _ q=>sub_int q
theorem ya:cb X (Ï .Mod) (rI (λ_ j=>0<j) λi j=>.int (i % j)):=nN λi j _ _ _ _ _ f q=>by have g:(0:Int)<j:=f;show mod_int' () (by rw[Int.fmod_eq_emod_of_nonneg i ()];show q)
theorem B4:cb X (Ï .Pow) (rI vH λi j=>.int (i^j.toNat)):=nN λ_ _ _ _ _ _ _ f q=>pow_int_small f.1 f.2.1 f.2.2 q
theorem Ce{f:Value->Sem Value}{g:Int->Int}
  (rule:∀(i:Int)(t:Ň)(s:À)(Q:Value->À->Prop)(E:Value->À->Prop),Q (.int (g i) s.toks) { s with toks:=s.toks+1 }->wpAny (Ä X.prog X.w) X.A (f (.int i t)) Q E s) :
  pG X f (rU λi=>.int (g i)):=by
 intro j s o H x v Q I l h;let⟨i,rfl,q⟩:=h;let⟨t,rfl⟩:=l;show rule i t s _ _ ⟨.int (g i),H,I.tok _,⟨_,S⟩,q⟩
theorem yL:pG X (unaryOp .USub) (rU λi=>.int (-i)):=Ce λ_ _ _ _ _ q=>neg_int q
end
section
variable{X:Cx}{a b:Ã}{f tb:TE}{g:Ö}
theorem n6{c:Y (Addr×Ô)}{j:St}{H:Hp}{s:À}{Q:VK}{k h:Bool}(I:Inv X c j H s)(q:Q (.bl k) H)(e:k=h):EP X c j Q (.bool h) s:=by subst e;show⟨.bl k,H,I,S,q⟩
theorem CU:cb X (É .Lt) (hV λi j=>.bl (decide (i<j))):=lz λ_ _ _ _ _ _ _ q=>lt_int q
theorem DI:cb X (É .LtE) (hV λi j=>.bl (decide (i<=j))):=lz λ_ _ _ _ _ _ _ q=>le_int q
theorem Am:cb X (É .Gt) (hV λi j=>.bl (decide (j<i))):=lz λ_ _ _ _ _ _ _ q=>gt_int q
theorem xm:cb X (É .GtE) (hV λi j=>.bl (decide (j<=i))):=lz λ_ _ _ _ _ _ _ q=>ge_int q
theorem Av:cb X (É .Is) (λx y H Q=>y=.non/\Q (.bl (decide (x=.non))) H):=by
 intro c s l H x y v u Q I e j h;let⟨rfl,q⟩:=h;cases j;refine is_none_gen (n6 I q ?_)
 cases x<;>first
  |(cases e;rfl)
  |(let⟨t,rfl⟩:=e;rfl)
theorem zg:cb X (É .IsNot) (λx y H Q=>y=.non/\Q (.bl (!decide (x=.non))) H):=by
 intro c s l H x y v u Q I e j h;let⟨rfl,q⟩:=h;cases j;refine isnot_none_gen (n6 I q ?_)
 cases x<;>first
  |(cases e;rfl)
  |(let⟨t,rfl⟩:=e;rfl)
theorem aw(b:Ã){c:Ē}(h:c≠.In:=by decide)(l:c≠.NotIn:=by decide):behindInMarks c b=Ř:=by
 have e:(c==Ē.In)=Ř:=by cases c<;>first|rfl|show absurd S h
 have j:(c==Ē.NotIn)=Ř:=by cases c<;>first|rfl|show absurd S l
 cases b<;>simp[behindInMarks,e,j]
theorem vq{e:Ē}{r:R2}(z:cb X (É e) r)(o:PE X a f)(p:PE X b tb)(w:behindInMarks e b=Ř):PE X (.Compare a [e] [b] g) (iI r f tb):=by intro c s E H Q I h;show wpAny_Compare1 (rf o p I h λv u C x y j l A B q=>z c C E j x y v u Q l A B q) w
noncomputable def qA(t:TE):TT:=λe H Q=>t e H λx c=>∃k,x=.bl k/\Q k c
theorem vd{l:Ē}{r:R2}(K:cb X (É l) r)(F:PE X a f)(G:PE X b tb)(J:behindInMarks l b=Ř):PT X (.Compare a [l] [b] g) (qA (iI r f tb)):=by
 intro j s o H Q I h
 refine wpAny_isTrue_Compare1 (aI (F j s o H _ I h) λv a_ ⟨x,p,B,O,L⟩=>aI (G j a_ o p _ B L) λu T ⟨y,w,C,P,M⟩=>
  aI (K j T o w x y v u _ C O P M) λc U ⟨z,A,E,R,k,e,N⟩=>?_) J
 subst e;cases R;show KN ⟨A,E,N⟩
noncomputable def qV(K:Â)(x:V)(H:Hp)(k:Bool):Prop:=
 match x with
 |.non=>k=Ř
 |.bl b=>k=b
 |.int i=>k=(i != 0)
 |.str y=>y.length<=sizeLine/\k=((y.length:Int) != 0)
 |.byt y=>y.size<=sizeLine/\k=((y.size:Int) != 0)
 |.ref p=>(∃xs,SqL K H p xs/\k=!xs.isEmpty)\/(∃xs,SqT K H p xs/\k=!xs.isEmpty)\/∃c,H p=Z (.dK c)/\k=!c.isEmpty
 |_=>False
theorem CI{e:Type}{c:Y (e×V)}{vs:Y (e×Value)}(r:KV c vs):(!vs.isEmpty)=!c.isEmpty:=by cases r<;>rfl
theorem uU{xs:Y V}{c:Y Value}(r:Vals xs c):(!c.toArray.isEmpty)=!xs.isEmpty:=by cases r<;>simp
theorem iQ:(sizeLine:Nat)<2^63:=by rw[LA];decide
theorem Ay:AC X (λx H Q=>∃k,qV X.K x H k/\Q k H):=by
 intro z s G H x v Q I o h;let⟨k,e,q⟩:=h;have E:=iQ;have F:sizeLine=16777216:=LA
 cases x with
 |non=>
  cases o;have c:k=Ř:=e;subst c;show truthy_none ⟨H,I,q⟩
 |bl b=>
  cases o;have c:k=b:=e;subst c;show KN ⟨H,I,q⟩
 |int i=>
  let⟨t,rfl⟩:=o;have c:k=(i != 0):=e;subst c;show PySem.P.truthy_int ⟨H,I,q⟩
 |str y=>
  let⟨t,rfl⟩:=o;obtain⟨C,c⟩:y.length<=sizeLine/\k=((y.length:Int) != 0):=e;subst c;show PySem.P.truthy_str () ⟨H,I.tok _,q⟩
 |byt y=>
  let⟨t,rfl⟩:=o;obtain⟨C,c⟩:y.size<=sizeLine/\k=((y.size:Int) != 0):=e;subst c;show PySem.W.truthy_bytes () ⟨H,I.tok _,q⟩
 |ref p=>
  cases o;have c:(∃xs,SqL X.K H p xs/\k=!xs.isEmpty)\/(∃xs,SqT X.K H p xs/\k=!xs.isEmpty)\/∃l,H p=Z (.dK l)/\k=!l.isEmpty:=e;rcases c with⟨xs,u,c⟩|⟨xs,u,c⟩|⟨l,u,c⟩
  ·subst c;let⟨A,r,pl,w⟩:=I.list u;have j:=r.length;show wpAny_truthy_list pl.isList (by simp only[IG];omega) ⟨H,I.tok _,by rw[uU r];show q⟩
  ·subst c;let⟨A,r,pl,w⟩:=I.tuple u;have j:=r.length;show truthy_tuple pl (by simp only[IG];omega) ⟨H,I.tok _,by rw[uU r];show q⟩
  ·subst c;obtain⟨w,B,vs,r,m⟩:l.length<=sizeLine/\(p==Ù)=Ř/\∃vs,KV l vs/\s.heap.DictOf (fA X.prog X.w) p vs:=I.hok p _ u;have j:l.length=vs.length:=LF r;show wpAny_truthy_dict B m () ⟨H,I.tok _,by rw[CI r];show q⟩
 |_=>show (show False from e).elim
theorem we(u:PE X a f)(w:∀c,isTrue a X.env c=(do let v ←c;standAt a.pos;holding [v] (truthy v))) :
  PT X a (λj H Q=>f j H λx l=>∃k,qV X.K x l k/\Q k l):=by
 intro e s j H Q I h;show isTrue_plain (aI (u e s j H _ I h) λv A r=>by let⟨x,o,p,z,y⟩:=r;show Ay e A j o x v Q p z y) (w _)
theorem yB:cb X (Ï .Add) (λx y H Q=>∃i j,x=.str i/\y=.str j/\i.length+j.length<=sizeLine/\Q (.str (i++j)) H):=by intro c s r H x y v u Q I l o h;let⟨i,j,rfl,rfl,e,q⟩:=h;let⟨t,rfl⟩:=l;let⟨t',rfl⟩:=o;show add_str (λt' p=>⟨.str (i++j),H,I.tok _,⟨_,S⟩,q⟩) e
theorem hZ{x:V}{us:Y Value}(r:Vals [x] us):∃u,us=[u]/\RelV x u:=by
 cases r with
 |cons c e=>cases e;show⟨_,S,c⟩
theorem uI{x y:V}{us:Y Value}(r:Vals [x,y] us):∃u c,us=[u,c]/\RelV x u/\RelV y c:=by
 cases r with
 |cons e h=>
  cases h with
  |cons j l=>cases l;show⟨_,_,S,e,j⟩
theorem xG:eg X (.builtin "abs") (λxs H Q=>∃i,xs=[.int i]/\Q (.int (if i<0 then -i else i)) H):=by intro c s j H xs us Q I r h;let⟨i,rfl,q⟩:=h;let⟨u,rfl,t,rfl⟩:=hZ r;show call_abs_int λu e=>⟨.int (if i<0 then -i else i),H,I.tok _,⟨_,S⟩,q⟩
theorem Hd(l:X.calm=ŗ):eg X (.builtin "max") (λxs H Q=>∃i j,xs=[.int i,.int j]/\Q (.int (if j>i then j else i)) H):=by
 intro e s v H xs us Q I r h;let⟨i,j,rfl,q⟩:=h;let⟨u,p,rfl,⟨t,rfl⟩,⟨t',rfl⟩⟩:=uI r;refine max_two_ints (I.ok.hd l) λh' o k=>⟨_,H,I.kept k,?_,q⟩;by_cases c:j>i
 ·rw[Iw c,Iw c];show⟨_,S⟩
 ·rw[Ir c,Ir c];show⟨_,S⟩
theorem Hv(l:X.calm=ŗ):eg X (.builtin "min") (λxs H Q=>∃i j,xs=[.int i,.int j]/\Q (.int (if j<i then j else i)) H):=by
 intro e s v H xs us Q I r h;let⟨i,j,rfl,q⟩:=h;let⟨u,p,rfl,⟨t,rfl⟩,⟨t',rfl⟩⟩:=uI r;refine min_two_ints (I.ok.hd l) λh' o k=>⟨_,H,I.kept k,?_,q⟩;by_cases c:j<i
 ·rw[Iw c,Iw c];show⟨_,S⟩
 ·rw[Ir c,Ir c];show⟨_,S⟩
theorem uJ:eg X (.type "int") (λxs H Q=>(∃i,xs=[.int i]/\Q (.int i) H)\/∃k,xs=[.bl k]/\Q (.int (if k then 1 else 0)) H):=by
 intro c s j H xs us Q I r h;rcases h with⟨i,rfl,q⟩|⟨k,rfl,q⟩
 ·let⟨u,rfl,t,rfl⟩:=hZ r;show call_int_int ⟨.int i,H,I,⟨_,S⟩,q⟩
 ·let⟨u,rfl,e⟩:=hZ r;cases e;show call_int_bool ⟨.int (if k then 1 else 0),H,I.tok _,⟨_,S⟩,q⟩
end
structure ObjM(h:Heap)(x dx C:Addr)(mA:Str->Option Value):Prop where
 obj:h.get? x=Z (î C dx)
 ns:h.Ns1 dx mA
 ne:dx≠x
theorem yd{h:Heap}{c:Addr}{f:Str->Ŗ Value}(n:h.Ns1 c f):∃g,h.get? c=Z g/\∀name,Ļ name g=Z (f name):=by
 let⟨o,es,v,r,hd,l,_,p⟩:=n;refine⟨o,r,λname=>?_⟩;have e:=p name;unfold nsFind findBy at e;rw[←Array.find?_toList]at e;unfold Ļ;rw[hd];dsimp only;split
 ·rename_i y q;rw[q]at e;show Ju Z e
 ·rename_i q;rw[q]at e
  have a:es.toList.any (·.refKey)=Ř:=by rw[List.any_eq_false];intro y u;let⟨z,t,j⟩:=l y (Array.mem_toList_iff.mp u);simp[DictEntry.refKey,j]
  have a':¬ es.toList.any (·.refKey)=ŗ:=by rw[a];show Jm
  rw[Ir a'];show Ju Z e
theorem ObjM.look{h:Heap}{x c C:Addr}{e:Str->Ŗ Value}(I:ObjM h x c C e):∃a,InstAt h x (î C c) C (Z a)/\∀name,Ļ name a=Z (e name):=
 let ⟨a,ho,hl⟩:=yd I.ns
 ⟨a,⟨I.obj,S,S,ho⟩,hl⟩
section
variable{prog:Å}{w:È}{A:Ì}{E:Value->À->Prop}{s:À}{K:Â}{x e C f:Addr}{c:Str->Ŗ Value}{name:Str}{v:Value}
theorem xJ{a:Bool}{Q:Value->À->Prop}(X:K.In s.heap)(I:ObjM s.heap x e C c)(l:ô K C name=ŗ)(o:ö K C=ŗ)
  (j:Ð K (.ref C) name=Z ŕ) (r:c name=Z v) (g:handedIn v=ŗ) (h:Q v { s with toks:=s.toks+1 }) :
  wpAny (Ä prog w) A (getAttr (.ref x) name a) Q E s:=by
 let⟨u,J,p⟩:=I.look;show PySem.W.get_value X J (ą l).1 (PySem.W.findObj_own o j S (by rw[p,r])) g h
theorem DE{pl:Sem Bool}{Q:Value×Y Value->À->Prop}(X:K.In s.heap)(I:ObjM s.heap x e C c)(a:ô K C name=ŗ)
  (g:Ð K (.ref C) name=Z (Z (.ref f))) (l:isFn K (.ref f)=ŗ) (o:c name=ŕ) (h:Q (.ref f,[.ref x]) s) :
  wpAny (Ä prog w) A (getMethod (.ref x) name pl) Q E s:=by
 let⟨p,J,j⟩:=I.look;show PySem.W.method_fn X J (ą a).1 (ą a).2 g (Ld.mp l) (by change (Ļ name p).map (·.isSome)=Z Ř;rw[j,o];rfl) h
theorem A4{ns:Y Str}{Q:Unit->À->Prop}(X:K.In s.heap)(I:ObjM s.heap x e C c)
  (L:Ð K (.ref C) "__setattr__"=Z (Z (.builtin "object.__setattr__"))) (H:Ă K C=ŗ) (M:Ņ K C name=Z ŕ) (G:ö K C=ŗ)
  (N:PySem.Within c ns) (hsz:ns.length<=sizeLine)
  (h:∀h',ObjM h' x e C (λy=>if y=name then Z v else c y)->Heap.SameBut e s.heap h'->Q Unit.unit { s with heap:=h',toks:=s.toks+2 }) :
  wpAny (Ä prog w) A (setAttr (.ref x) name v) Q E s:=by
 let⟨T,J,R⟩:=I.look;refine PySem.W.set_plain X J L (PySem.W.osa_open (s:={ s with toks:=s.toks+1 }) (r:=ŕ) X J H M λb=>?_);let⟨P,F,u⟩:=PySem.W.any_some G;have O:s.heap.get? x=Z ⟨.ref C,Z e,.plain,#[]⟩:=I.obj;refine Iq (IK (Iq (Iq (wpAny_loadPart O (Iq (PySem.W.Looks.here (s:={ s with toks:=s.toks+1 }) (PySem.W.looks_clsIn X F) ?_))))));rw[u];refine IK (a:=Z e) (Iq (IK (Iq ?_)));refine wpAny_nsSet1 (s:={ s with toks:=s.toks+1 }) I.ns λh' p o=>?_;let⟨U,B,z,l,j,g⟩:=p.count (PySem.Within.cons name v N);refine Iq (wpAny_lookBehind l (by rw[j];show pastItsLine_dict (IU g (by rw[IH];omega))) ?_);show IK (h _ ⟨(o.2 _ (JD I.ne)).trans I.obj,p,I.ne⟩ o)
theorem zF{R:Result->À->Prop}{vs:Y Value}{a:Y (Str×Value)}(X:K.In s.heap)(o:Ī K C=ŗ)
  (l:Ð K (.ref C) "__init__"=Z (Z (.ref f))) (j:typeIn K (.ref f)=Z (.type "function"))
  (h:í (Ä prog w) (A.under (.builtin "type.__call__" ⟨.ref C::vs,a⟩)) (.call (.ref f) ⟨.ref (s.heap.objs.size+1)::vs,a⟩) (PySem.W.InitBack (s.heap.objs.size+1) R)
   { s with heap:=(s.heap.push Ý).push (î C s.heap.objs.size) }) :
  í (Ä prog w) A (.call (.ref C) ⟨vs,a⟩) R s:=by
 let⟨p,g,d,t,os⟩:=s;show PySem.W.make_core (PySem.W.makes_of X o) (PySem.W.looks_findIn X l) (λself=>PySem.W.bind_fn X self j) (.inl S) h
end
noncomputable def cS(f:Str)(v:V):Y (Str×V)->Y (Str×V)
 | []=>[(f,v)]
 |(g,x)::r=>if g=f then (g,v)::r else (g,x)::cS f v r
theorem t9(f g:Str)(v:V):∀fs:Y (Str×V),(cS f v fs).lookup g=if g=f then Z v else fs.lookup g
 | []=>by
  change List.lookup g [(f,v)]=_;by_cases h:g=f
  ·have a:(g==f)=ŗ:=Ld.mpr h;simp only[List.lookup,a,Iw h]
  ·have a:(g==f)=Ř:=Ku.mpr h;simp only[List.lookup,a,Ir h]
 |(k,x)::r=>by
  have j:=t9 f g v r;rw[show cS f v ((k,x)::r)=(if k=f then (k,v)::r else (k,x)::cS f v r)from rfl];by_cases c:k=f
  ·rw[Iw c];by_cases h:g=k
   ·have a:(g==k)=ŗ:=Ld.mpr h;simp only[List.lookup,a,Iw (h.trans c)]
   ·have a:(g==k)=Ř:=Ku.mpr h;simp only[List.lookup,a,Ir (λe:g=f=>h (e.trans c.symm))]
  ·rw[Ir c];by_cases h:g=k
   ·have a:(g==k)=ŗ:=Ld.mpr h;simp only[List.lookup,a,Ir (λe:g=f=>c (h.symm.trans e))]
   ·have a:(g==k)=Ř:=Ku.mpr h;simp only[List.lookup,a];show j
theorem oW(f:Str)(v:V):∀fs:Y (Str×V),f∈(cS f v fs).map (·.1)/\∀g,g∈fs.map (·.1)->g∈(cS f v fs).map (·.1)
 | []=>⟨by simp[cS],λg h=>by simp at h⟩
 |(k,x)::r=>by
  let⟨c,j⟩:=oW f v r;rw[show cS f v ((k,x)::r)=(if k=f then (k,v)::r else (k,x)::cS f v r)from rfl];by_cases a:k=f
  ·rw[Iw a];subst a;show⟨by simp,λg h=>by simpa using h⟩
  ·rw[Ir a];refine⟨?_,λg h=>?_⟩
   ·rw[IQ];show IC _ c
   ·rw[IQ]at h ⊢;rcases IL.mp h with e|e
    ·show IL.mpr (.inl e)
    ·show IC _ (j g e)
theorem vF(f:Str)(v:V):∀fs:Y (Str×V),(cS f v fs).length<=fs.length+1
 | []=>by simp[cS]
 |(k,x)::r=>by
  have c:=vF f v r;rw[show cS f v ((k,x)::r)=(if k=f then (k,v)::r else (k,x)::cS f v r)from rfl];by_cases a:k=f
  ·rw[Iw a,IH,IH];omega
  ·rw[Ir a,IH,IH];omega
theorem RelO.some_of{v:V}{o:Ŗ Value}(r:RelO (Z v) o):∃u,o=Z u/\RelV v u:=by
 cases o with
 |none=>show (show False from r).elim
 |some u=>show⟨u,S,r⟩
theorem RelO.none_of{o:Ŗ Value}(r:RelO ŕ o):o=ŕ:=by
 cases o with
 |none=>rfl
 |some u=>show (show False from r).elim
theorem zY{v:V}{u:Value}(r:RelV v u):handedIn u=ŗ:=by
 cases v with
 |non=>cases (show u=Value.none from r);rfl
 |bl b=>cases (show u=Value.bool b from r);rfl
 |int i=>let⟨t,e⟩:=(show ∃t,u=Value.int i t from r);cases e;rfl
 |str x=>let⟨t,e⟩:=(show ∃t,u=Value.str x t from r);cases e;rfl
 |byt b=>let⟨t,e⟩:=(show ∃t,u=Value.bytes b t from r);cases e;rfl
 |flt b=>let⟨t,e⟩:=(show ∃t,u=Value.float b t from r);cases e;rfl
 |ref a=>cases (show u=Value.ref a from r);rfl
 |ty n=>cases (show u=Value.type n from r);rfl
section
variable{P:Å}{w:È}{H:Hp}{h:Heap}{a C c:Addr}{fs:Y (Str×V)}
theorem rg(hok:HOk P w H h)(e:H a=Z (.ins C c fs)):∃g,ObjM h a c C g/\(∀f,RelO (fs.lookup f) (g f))/\PySem.Within g (fs.map (·.1))/\fs.length<=1000/\H c=Z (.own a):=by let⟨d,z,ne,j,g,n,r,q⟩:=(show ObjOk P w H h a (.ins C c fs)from hok a _ e);show⟨g,⟨j,n,ne⟩,r,q,z,d⟩
end
structure Cls(K:Â)(C:Addr):Prop where
 pg:ô K C Str.empty=ŗ
 hd:ö K C=ŗ
 po:Ă K C=ŗ
 sa:Ð K (.ref C) "__setattr__"=Z (Z (.builtin "object.__setattr__"))
theorem Cls.get{K:Â}{C:Addr}(c:Cls K C)(f:Str):ô K C f=ŗ:=c.pg
noncomputable def NoAttr(K:Â)(C:Addr)(f:Str):Prop:=Ð K (.ref C) f=Z ŕ
theorem NoAttr.taker{K:Â}{C:Addr}{f:Str}(n:NoAttr K C f):Ņ K C f=Z ŕ:=by unfold Ņ;rw[show Ð K (.ref C) f=Z ŕ from n];rfl
structure Meth(K:Â)(C:Addr)(m:Str)(f:Addr):Prop where
 at_:Ð K (.ref C) m=Z (Z (.ref f))
 fn:isFn K (.ref f)=ŗ
 kp:ã K (.ref f)=ŗ
section
variable{X:Cx}{j:Y (Addr×Ô)}{p:St}{H:Hp}{s:À}{a C B:Addr}{fs:Y (Str×V)}{f:Str}{v:V}{A:Ì}{E:Value->À->Prop}
theorem zR{b:Bool}{Q:Value->À->Prop}(I:Inv X j p H s)(e:H a=Z (.ins C B fs))(c:Cls X.K C)(n:NoAttr X.K C f)(l:fs.lookup f=Z v)
  (h:∀u w,Inv X j p H w->RelV v u->Q u w):wpAny (Ä X.prog X.w) A (getAttr (.ref a) f b) Q E s:=by
 let⟨y,O,r,_,_,_⟩:=rg I.hok e;let⟨u,x,g⟩:=RelO.some_of (v:=v) (o:=y f) (by rw[←l];show r f);show xJ I.kIn O (c.get f) c.hd n x (zY g) (h u _ (I.tok _) g)
theorem Cq{m:Str}{g:Addr}{pl:Sem Bool}{Q:Value×Y Value->À->Prop}(I:Inv X j p H s)(e:H a=Z (.ins C B fs))(c:Cls X.K C)(k:Meth X.K C m g)(l:fs.lookup m=ŕ)
  (h:Q (.ref g,[.ref a]) s):wpAny (Ä X.prog X.w) A (getMethod (.ref a) m pl) Q E s:=by
 let⟨u,O,r,_,_,_⟩:=rg I.hok e;have o:u m=ŕ:=RelO.none_of (by rw[←l];show r m);show DE I.kIn O (c.get m) k.at_ k.fn o h
theorem GA{y:V}{u:Value}{Q:Unit->À->Prop}(I:Inv X j p H s)(e:H a=Z (.ins C B fs))(c:Cls X.K C)(n:NoAttr X.K C f)(P:fs.length<1000)(N:RelV y u)
  (h:∀G,Inv X j p (aq H a (.ins C B (cS f y fs))) G->Q Unit.unit G):wpAny (Ä X.prog X.w) A (setAttr (.ref a) f u) Q E s:=by
 let⟨F,O,r,J,_,w⟩:=rg I.hok e
 have M:(fs.map (·.1)).length<=sizeLine:=by rw[Il,LA];omega
 refine A4 I.kIn O c.sa c.po n.taker c.hd J M λh' l sb=>h _ ?_
 have hd:∃o,h'.get? B=Z o:=let ⟨o,_,_,e',_⟩:=l.ns;⟨o,e'⟩
 refine I.write (x:=a) (e:=B) (by rw[e];show Û) (.inr w) (λb q K z=>(sb.2 b K).trans z) hd ?_;refine⟨by rw[aY O.ne];show w,?_,O.ne,l.obj,_,l.ns,λg=>?_,λg L=>?_⟩
 ·have:=vF f y fs;omega
 ·change RelO ((cS f y fs).lookup g) (if g=f then Z u else F g);rw[t9];by_cases q:g=f
  ·rw[Iw q,Iw q];show N
  ·rw[Ir q,Ir q];show r g
 ·by_cases q:g=f
  ·rw[q];show (oW f y fs).1
  ·refine (oW f y fs).2 g (J g λz=>L ?_);change (if g=f then Z u else F g)=ŕ;rw[Ir q];show z
theorem Inv.made(I:Inv X j p H s):Inv X j p (aq (aq H s.heap.objs.size (.own (s.heap.objs.size+1))) (s.heap.objs.size+1) (.ins C s.heap.objs.size []))
  { s with heap:=(s.heap.push Ý).push (î C s.heap.objs.size) }:=by
 have c:(s.heap.push Ý).get? s.heap.objs.size=Z Ý:=IM s.heap S
 have h:((s.heap.push Ý).push (î C s.heap.objs.size)).get? (s.heap.objs.size+1)=Z (î C s.heap.objs.size):=by
  have:=IM (s.heap.push Ý) (o:=î C s.heap.objs.size) S
  rwa [Jx]at this
 have l:(s.heap.push Ý).Ns s.heap.objs.size (λ_=>ŕ):=⟨Ý,#[],_,c,S,(λe r=>absurd r (by simp)),λ_=>rfl⟩;have g:=I.laid (a:=s.heap.objs.size) (o:=.own (s.heap.objs.size+1)) (h':=s.heap.push Ý) (t':=s.toks) (λb u q=>IA _ q) (Iu _) ⟨_,c⟩;refine g.laid (a:=s.heap.objs.size+1) (o:=.ins C s.heap.objs.size []) (t':=s.toks) (λb u q=>IA _ q) (Mm (Jx _ _)) ?_;have ne:s.heap.objs.size≠s.heap.objs.size+1:=Jk (Le _);refine⟨by rw[aY ne,bh],Km _,ne,h,λ_=>ŕ,(Heap.Ns1.of_empty l).at λo q=>IA _ q,λ_=>Û,λy w=>absurd rfl w⟩
theorem zx{prog:Å}{w:È}{env:ì}{e:Ã}{f:Str}{g:Ö}{s:À}{Q:Value->À->Prop}(l:Ë e f env (eval e env)=eval e env)
  (h:wpAny (Ä prog w) A (eval e env) (λo c=>wpAny (Ä prog w) A (getAttr o f ŗ) Q E c) E s):wpAny (Ä prog w) A (eval (.Attribute e f g) env) Q E s:=
 Attribute_any_ h (by rw[arm_eval_Attribute,l])
end
noncomputable def vM(K:Â)(g:TE)(f:Str):TE:=λh H Q=>g h H λx c=>∃a C e fs v,x=.ref a/\c a=Z (.ins C e fs)/\Cls K C/\NoAttr K C f/\fs.lookup f=Z v/\Q v c
noncomputable def Eg(K:Â)(j l:TE)(f:Str):TS:=λD c H=>l c H λy h=>j c h λx e=>∃a C g fs,x=.ref a/\e a=Z (.ins C g fs)/\Cls K C/\NoAttr K C f/\fs.length<1000 /\
 D.nx c (aq e a (.ins C g (cS f y fs)))
section
variable{X:Cx}{o e g:Ã}{f:Str}{p j:Ö}{r w:TE}
theorem wO(J:PE X e r)(G:Ë e f X.env (eval e X.env)=eval e X.env):PE X (.Attribute e f p) (vM X.K r f):=by intro y s M H Q I h;refine zx G (aI (J y s M H _ I h) λu O E=>?_);let⟨x,z,A,L,a,C,N,fs,v,ex,F,c,n,l,q⟩:=E;subst ex;obtain rfl:u=Value.ref a:=L;show zR A F c n l λu' P B K=>⟨v,z,B,K,q⟩
theorem qQ(J:PE X o r)(L:PE X g w)(K:Î g (Z (.Attribute o f j)) p.line X.env=pure Ř):PS X (.Assign [.Attribute o f j] g p) (Eg X.K r w f):=by intro v s z H D I h;refine plainObj_wpAny_Assign_Attribute (aI (L v s z H _ I h) λu Q ⟨y,A,B,P,q⟩=>aI (J v Q z A _ B q) λM T ⟨x,R,E,O,a,C,a_,fs,ex,G,c,n,l,N⟩=>?_) K;subst ex;obtain rfl:M=Value.ref a:=O;show GA E G c n l P λU F=>⟨z,_,F,N⟩
end
structure Room(k:Nat)(A:Ì):Prop where
 hd:A.handled=ŕ
 dp:A.depth+3*k+5<recursionLimit
 un:A.units+16*k+200<å
theorem Room.mono{j k:Nat}{A:Ì}(r:Room k A)(h:j<=k):Room j A:=⟨r.hd,by have:=r.dp;omega,by have:=r.un;omega⟩
theorem Room.deeper{k:Nat}{A:Ì}(r:Room (k+1) A)(env:ì):Room k (A.deeper env):=
 ⟨r.hd,by have:=r.dp;change A.depth+1+3*k+5<_;omega,by have:=r.un;change A.units+3+16*k+200<_;omega⟩
theorem By{A:Ì}{C:Addr}{us:Y Value}{a:Y (Str×Value)}:(A.under (.builtin "type.__call__" ⟨.ref C::us,a⟩)).depth=A.depth+1:=by
 first|rfl|simp[Ć,Code.weight,Code.isCreation,Code.isGuard,Code.isCaller,Ŏ,ċ,guardIds]
theorem HH{A:Ì}{C:Addr}{us:Y Value}{a:Y (Str×Value)}:(A.under (.builtin "type.__call__" ⟨.ref C::us,a⟩)).units=A.units+1:=by
 first|rfl|simp[Ć,Code.cUnits,Ŏ,ċ]
theorem Room.make{k:Nat}{A:Ì}(r:Room (k+1) A)(C:Addr)(us:Y Value)(a:Y (Str×Value)):Room k (A.under (.builtin "type.__call__" ⟨.ref C::us,a⟩)):=
 ⟨r.hd,by have:=r.dp;rw[By];omega,by have:=r.un;rw[HH];omega⟩
theorem Room.depth{k:Nat}{A:Ì}(r:Room k A):A.depth<recursionLimit:=by have:=r.dp;omega
theorem Room.units{k:Nat}{A:Ì}(r:Room k A):A.units+64<å:=by have:=r.un;omega
noncomputable def Dw:TA:=λ_ H Q=>Q [] H
noncomputable def BB(f:TE)(g:TA):TA:=λa H Q=>f a H λx c=>g a c λxs e=>Q (x::xs) e
section
variable{X:Cx}{e:Ã}{es:Y Ã}{c:TE}{t:TA}{a:Ö}
theorem pa_nil:PA X [] Dw:=λ_ _ _ _ H Q I h=>Calls.spliced_nil ⟨[],H,I,.nil,h⟩
theorem eY(w:PE X e c)(y:PA X es t)(z:starEach (e::es) X.env=(Ř,eval e X.env)::starEach es X.env:=by rfl):PA X (e::es) (BB c t):=by
 intro a f s g H Q I h;rw[z];change wpAny _ _ (spliced ((Ř,eval e X.env)::backTo a (starEach es X.env))) _ _ s;refine Calls.spliced_cons (aI (w f s g H _ I h) λu F r=>?_);let⟨x,j,o,C,A⟩:=r
 show aI (y a f F g j _ o A) λus G v=>by let⟨xs,l,p,E,B⟩:=v;show⟨x::xs,l,p,.cons C E,B⟩
noncomputable def DJ(t:TA):TE:=λg H Q=>t g H λxs f=>xs.length<=sizeLine/\∀p,f p=ŕ->Q (.ref p) (aq f p (.tup xs))
noncomputable def zB(t:TA):TE:=λg H Q=>t g H λxs f=>xs.length<=sizeLine/\∀p,f p=ŕ->Q (.ref p) (aq f p (.lst xs))
theorem pz{x1}(h:PA X es t):PE X (.Tuple es x1 a) (DJ t):=by
 intro f s v H Q I p;refine wpAny_Tuple_spliced (aI (h a f s v H _ I p) λus g ⟨xs,j,l,r,z,q⟩=>⟨by rw[←r.length];show z,?_⟩);have o:j g.heap.objs.size=ŕ:=l.hok.fresh (Iu _);refine⟨.ref g.heap.objs.size,aq j g.heap.objs.size (.tup xs),l.laid (t':=g.toks) (λb u e=>IA _ e) (Iu _) ?_,S,q _ o⟩;show⟨z,us,r,⟨_,IM _ S,⟨S,S⟩,_,S⟩⟩
theorem uL(h:PA X es t):PE X (.List es a) (zB t):=by
 intro f s v H Q I p;refine wpAny_List_spliced (aI (h a f s v H _ I p) λus g ⟨xs,j,l,r,z,q⟩=>⟨by rw[←r.length];show z,?_⟩);have o:j g.heap.objs.size=ŕ:=l.hok.fresh (Iu _);refine⟨.ref g.heap.objs.size,aq j g.heap.objs.size (.lst xs),l.laid (t':=g.toks) (λb u e=>IA _ e) (Iu _) ?_,S,q _ o⟩;show⟨z,us,0,r,IM _ S⟩
end
noncomputable abbrev Sp:=Y V->Hp->VK->XK->Prop
noncomputable abbrev eu:=Y ì->Hp->À->XK->Value->À->Prop
structure Env0(P:Å)(w:È)(K:Â)(mg:Str->Option Value)(base:Heap)(A:Ì)(outer:List ì)(s:À)(H:Hp):Prop where
 frames:A.frames=Z outer
 mod:Mod K mg base
 bs:∀b o,base.get? b=Z o->s.heap.get? b=Z o/\H b=ŕ
 bsz:base.objs.size<=s.heap.objs.size
 funs:s.heap.FunFrames base outer
 frf:∀b∈gq outer,H b=ŕ
 hok:HOk P w H s.heap
 bare:ð s.gens
noncomputable def CE(outer:Y ì)(P:Å)(w:È)(H:Hp)(s:À)(Q:VK)(u:Value)(a:À):Prop:=
 ∃v c,a.os=s.os/\ð a.gens/\Un (gq outer) [] H c s.heap a.heap/\HOk P w c a.heap/\RelV v u/\Q v c
noncomputable def CR(CX:eu)(outer:Y ì)(P:Å)(w:È)(H:Hp)(s:À)(Q:VK)(E:XK)(r:Result)(a:À):Prop:=
 match r with
 |.ok (.ret u)=>CE outer P w H s Q u a
 |.ok _=>False
 |.error e=>CX outer H s E e a
structure FnOk(P:Å)(w:È)(K:Â)(mg:Str->Option Value)(base:Heap)(CX:eu)(k:Nat)(f:Addr)(fd:Í)(ps:List Str)(sp:Sp):Prop where
 len:∀vs H Q E,sp vs H Q E->vs.length=ps.length
 run:∀(A:Ì)(outer:List ì)(s:À)(H:Hp)(args:Args)(us:List Value)(vs:List V)(Q:VK)(E:XK),Room k A->Env0 P w K mg base A outer s H->Č s fd args (ps.zip us)->Vals vs us->sp vs H Q E->
  í (Ä P w) A (.call (.ref f) args) (CR CX outer P w H s Q E) s
theorem FnOk.mono{P:Å}{w:È}{K:Â}{mg:Str->Ŗ Value}{base:Heap}{CX:eu}{j k:Nat}{f:Addr}{a:Í}{ps:Y Str}{sp:Sp}(F:FnOk P w K mg base CX j f a ps sp)(h:j<=k) :
  FnOk P w K mg base CX k f a ps sp:=⟨F.len,λA outer s H args us vs Q E c=>F.run A outer s H args us vs Q E (c.mono h)⟩
theorem FnOk.imp{P:Å}{w:È}{K:Â}{mg:Str->Ŗ Value}{base:Heap}{CX:eu}{k:Nat}{f:Addr}{c:Í}{ps:Y Str}{sp a:Sp}(F:FnOk P w K mg base CX k f c ps sp)
  (h:∀vs H Q E,a vs H Q E->sp vs H Q E):FnOk P w K mg base CX k f c ps a:=
 ⟨λvs H Q E q=>F.len vs H Q E (h _ _ _ _ q),λA outer s H args us vs Q E j g e o l=>F.run A outer s H args us vs Q E j g e o (h _ _ _ _ l)⟩
theorem Env0.make{P:Å}{w:È}{K:Â}{mg:Str->Ŗ Value}{base:Heap}{A:Ì}{outer:Y ì}{s:À}{H:Hp}(e:Env0 P w K mg base A outer s H)(C:Addr)(us:Y Value)(a:Y (Str×Value)) :
  Env0 P w K mg base (A.under (.builtin "type.__call__" ⟨.ref C::us,a⟩)) outer s H:=⟨by first|show e.frames|(simpa [Ć,Code.envs,ċ,pushEnvs] using e.frames),e.mod,e.bs,e.bsz,e.funs,e.frf,e.hok,e.bare⟩
section
variable{X:Cx}{a:Y (Addr×Ô)}{c:St}{H:Hp}{s e:À}
theorem Inv.env0(I:Inv X a c H s):Env0 X.prog X.w X.K X.mg X.base X.A X.stack s H:=
 ⟨I.ok.frames,I.ok.mod,I.bs,IU I.ok.bsz I.sz,I.stack,I.stkFree,I.hok,I.bare⟩
theorem Inv.after{Q:VK}{u:Value}(I:Inv X a c H s)(h:CE X.stack X.prog X.w H s Q u e):EP X a c Q u e:=by let⟨v,f,os,bare,un,hok,r,q⟩:=h;let⟨l,g,d,t,j⟩:=e;obtain rfl:j=s.os:=os;show⟨v,f,I.call (h':=l) (g':=g) (d':=d) (t':=t) (ch:=[]) un hok bare (λb z=>absurd z (by simp)),r,q⟩
end
noncomputable def Dv(sp:Sp)(dvs:Y V)(E:XK)(t:TA):TE:=λc H Q=>t c H λvs a=>sp (vs++dvs) a Q E
noncomputable def B7(C:Addr)(m:Str)(sp:Sp)(dvs:Y V)(E:XK)(h:TE)(t:TA):TE:=λe H Q=>h e H λx c=>∃a g fs,x=.ref a/\c a=Z (.ins C g fs)/\fs.lookup m=ŕ /\
 t e c λvs f=>sp (x::(vs++dvs)) f Q E
noncomputable def yE(C:Addr)(sp:Sp)(dvs:Y V)(E:XK)(t:TA):TE:=λf H Q=>t f H λvs c=>∀x a,c x=ŕ->c a=ŕ->a≠x->
 sp (.ref x::(vs++dvs)) (aq (aq c a (.own x)) x (.ins C a [])) (λv e=>v=.non/\Q (.ref x) e) E
noncomputable def Binds(K:Â)(a:Í)(ps:Y Str)(ds:Y Value):Prop:=
 ∀(s:À)(us:Y Value),K.In s.heap->(us++ds).length=ps.length->Č s a ⟨us,[]⟩ (ps.zip (us++ds))
theorem Binds.all{K:Â}{a:Í}{ps:Y Str}(h:∀us:Y Value,us.length=ps.length->bindArgs a ⟨us,[]⟩=pure (ps.zip us)):Binds K a ps []:=λs us _ c=>by rw[Ji]at c ⊢;show .of_eq (h us c)
noncomputable def iZ(CX:eu)(X:Cx)(E:XK):Prop:=∀(a:Y (Addr×Ô))(f:St)(H:Hp)(s:À)(e:Value)(c:À),Inv X a f H s->CX X.stack H s E e c->X.xe e c
section
variable{X:Cx}{CX:eu}{k:Nat}{f C:Addr}{w:Í}{ps:Y Str}{sp:Sp}{dvs:Y V}{ds:Y Value}{E:XK}{x m:Str}{p g j:Ö}{e o:Ã}{es:Y Ã}{y:TE}{t:TA}
theorem uC{a:Y (Addr×Ô)}{l:St}{H:Hp}{s:À}{Q:VK}{us:Y Value}{vs:Y V}(F:FnOk X.prog X.w X.K X.mg X.base CX k f w ps sp)(G:Room k X.A)(A:Binds X.K w ps ds)(hd:Vals dvs ds)(J:iZ CX X E)
  (I:Inv X a l H s) (r:Vals vs us) (h:sp (vs++dvs) H Q E):wpAny (Ä X.prog X.w) X.A (call (.ref f) us) (EP X a l Q) X.xe s:=by
 have v:Vals (vs++dvs) (us++ds):=r.append hd
 have B:(us++ds).length=ps.length:=by rw[←v.length];show F.len _ _ _ _ h
 refine wpAny_call (Mn (F.run X.A X.stack s H ⟨us,[]⟩ (us++ds) (vs++dvs) Q E G I.env0 (A s us I.kIn B) v h) λr K c=>?_)
 cases r with
 |error e=>show J a l H s e K I c
 |ok z=>
  cases z with
  |ret u=>show I.after c
  |next=>show Ñ c
  |brk=>show Ñ c
  |cont=>show Ñ c
theorem qv(F:FnOk X.prog X.w X.K X.mg X.base CX k f w ps sp)(K:Room k X.A)(B:Gl X x)(J:X.mg x=Z (.ref f))(G:ã X.K (.ref f)=ŗ)(z:Binds X.K w ps ds)(hd:Vals dvs ds)(L:iZ CX X E)
  (v:PA X (e::es) t) (u:ab x:=by decide) (A:starEach (e::es) X.env=(Ř,eval e X.env)::starEach es X.env:=by rfl) (l:(backTo g (starEach es X.env)).any (·.1)=Ř:=by rfl) :
  PE X (.Call (.Name x p) (e::es) [] g) (Dv sp dvs E t):=by
 intro a s M H Q I h;refine Ln (vB I B J ?_ u);refine callWith_K (h₀:=X.base) I.ok.mod.kin G (aI (v g a s M H _ I h) λus O ⟨vs,N,c,r,q⟩=>⟨c.kIn,?_⟩) A l;show uC F K z hd L c r q
theorem tH{pl:Sem Bool}(P:PE X o y)(c:Cls X.K C)(B:Meth X.K C m f)(F:FnOk X.prog X.w X.K X.mg X.base CX k f w ps sp)(R:Room k X.A)(O:Binds X.K w ps ds)(hd:Vals dvs ds)(T:iZ CX X E)(N:PA X (e::es) t)
  (K:starEach (e::es) X.env=(Ř,eval e X.env)::starEach es X.env:=by rfl) (L:(backTo g (starEach es X.env)).any (·.1)=Ř:=by rfl)
  (a_:eval (.Call (.Attribute o m j) (e::es) [] g) X.env=(do
   let ov ←eval o X.env
   standAt j.atName
   let (f,first) ←holding [ov] (getMethod ov m pl)
   callWith g f first (backTo g (starEach (e::es) X.env)) (â g (Õ [] X.env))):=by rfl) :
  PE X (.Call (.Attribute o m j) (e::es) [] g) (B7 C m sp dvs E y t):=by
 intro v s G H Q I h;refine PySem.W.methodCall_KW (pl:=pl) (aI (P v s G H _ I h) λu b_ ⟨x,J,z,be,a,dx,fs,ex,M,l,q⟩=>?_) a_;subst ex;obtain rfl:u=Value.ref a:=be;refine Cq z M c B l ?_;refine callWith_K (first:=[.ref a]) (h₀:=X.base) I.ok.mod.kin B.kp (aI (N g v b_ G J _ z q) λus s2 ⟨vs,H2,A,r,U⟩=>⟨A.kIn,?_⟩) K L;show uC (us:=.ref a::us) (vs:=.ref a::vs) F R O hd T A (.cons S r) U
structure Mk(K:Â)(C f:Addr):Prop where
 makes:Ī K C=ŗ
 init:Ð K (.ref C) "__init__"=Z (Z (.ref f))
 fn:isFn K (.ref f)=ŗ
 kp:ã K (.ref C)=ŗ
theorem Ep{a:Y (Addr×Ô)}{A:St}{H:Hp}{s:À}{Q:VK}{us:Y Value}{vs:Y V}(M:Mk X.K C f)(F:FnOk X.prog X.w X.K X.mg X.base CX k f w ps sp)(R:Room (k+1) X.A)(O:Binds X.K w ps ds)(hd:Vals dvs ds)
  (a_:iZ CX X E) (I:Inv X a A H s) (r:Vals vs us)
  (h:∀x z,H x=ŕ->H z=ŕ->z≠x->sp (.ref x::(vs++dvs)) (aq (aq H z (.own x)) x (.ins C z [])) (λv K=>v=.non/\Q (.ref x) K) E) :
  wpAny (Ä X.prog X.w) X.A (call (.ref C) us) (EP X a A Q) X.xe s:=by
 have B:=h (s.heap.objs.size+1) s.heap.objs.size (I.hok.fresh (Nat.le_succ _)) (I.hok.fresh (Iu _)) (Jk (Le _));have l:=Inv.made (C:=C) I;have G:Vals (V.ref (s.heap.objs.size+1)::(vs++dvs)) (Value.ref (s.heap.objs.size+1)::(us++ds)):=.cons S (r.append hd)
 have P:(Value.ref (s.heap.objs.size+1)::us++ds).length=ps.length:=by have e:=G.length;rw[F.len _ _ _ _ B]at e;show e.symm
 refine wpAny_call (zF (f:=f) I.kIn M.makes M.init (Ld.mp M.fn) (Mn (F.run _ X.stack _ _ ⟨Value.ref (s.heap.objs.size+1)::us,[]⟩ (Value.ref (s.heap.objs.size+1)::(us++ds)) _ _ E (R.make C us [])
  (l.env0.make C us []) (O _ (Value.ref (s.heap.objs.size+1)::us) l.kIn P) G B) λr be c=>?_))
 cases r with
 |error e=>show a_ a A _ _ e be l c
 |ok N=>
  cases N with
  |ret u=>
   let⟨v,J,L,U,ev,T⟩:=l.after c;subst ev;show⟨U,⟨V.ref (s.heap.objs.size+1),J,L,S,T⟩⟩
  |next=>show Ñ c
  |brk=>show Ñ c
  |cont=>show Ñ c
theorem G6(M:Mk X.K C f)(F:FnOk X.prog X.w X.K X.mg X.base CX k f w ps sp)(J:Room (k+1) X.A)(B:Gl X x)(G:X.mg x=Z (.ref C))(z:Binds X.K w ps ds)(hd:Vals dvs ds)(K:iZ CX X E)
  (v:PA X (e::es) t) (u:ab x:=by decide) (A:starEach (e::es) X.env=(Ř,eval e X.env)::starEach es X.env:=by rfl) (l:(backTo g (starEach es X.env)).any (·.1)=Ř:=by rfl) :
  PE X (.Call (.Name x p) (e::es) [] g) (yE C sp dvs E t):=by
 intro a s L H Q I h;refine Ln (vB I B G ?_ u);refine callWith_K (h₀:=X.base) I.ok.mod.kin M.kp (aI (v g a s L H _ I h) λus O ⟨vs,N,c,r,q⟩=>⟨c.kIn,?_⟩) A l;show Ep M F J z hd K c r q
end
structure FnScope(N P:List Str)(sc:ß):Prop where
 kind:sc.kind=.function
 co:sc.isCoroutine=Ř
 gen:sc.isGenerator=Ř
 nd:N.Nodup
 pre:N.take P.length=P
 par:∀x∈P,sc.names.lookup x=Z .local\/sc.names.lookup x=Z .cell
 nofree:∀y∈sc.names,y.2≠.free
theorem sE{kindOf:Str->Ŗ NameKind}{x:Str}:∀{binds:Y (Str×Value)}{m:Str->Ŗ Value},(∀v,(x,v)∉binds)->ĝ kindOf binds m x=m x
 | [],_,_=>rfl
 |(n,v)::r,m,h=>by
  unfold ĝ;rw[sE λw a=>h w (IC _ a)];split
  ·have:x≠n:=by rintro rfl;show h v Iy
   simp[this]
  ·rfl
theorem vk{kindOf:Str->Ŗ NameKind}{x:Str}:∀{binds:Y (Str×Value)}{m:Str->Ŗ Value},(∀v,(x,v)∉binds)->Ğ kindOf binds m x=m x
 | [],_,_=>rfl
 |(n,v)::r,m,h=>by
  unfold Ğ;rw[vk λw a=>h w (IC _ a)];split
  ·rfl
  ·have:x≠n:=by rintro rfl;show h v Iy
   simp[this]
theorem rK{kindOf:Str->Ŗ NameKind}{x:Str}{v:Value}:∀{P:Y Str}{vs:Y Value}{i:Nat}{m:Str->Ŗ Value},P.Nodup->P[i]?=Z x->vs[i]?=Z v->kindOf x=Z .local->
  ĝ kindOf (P.zip vs) m x=Z v
 | [],_,_,_,_,h,_,_=>by simp at h
 |_::_,[],_,_,_,_,h,_=>by simp at h
 |p::P,w::vs,0,m,nd,a,c,e=>by
  simp at a c;subst a;subst c;change ĝ kindOf ((p,w)::P.zip vs) m p=_;unfold ĝ;rw[sE λv f=>(Jg.mp nd).1 (Li f).1,Iw e];simp
 |p::P,w::vs,i+1,m,nd,a,c,e=>by change ĝ kindOf ((p,w)::P.zip vs) m x=_;unfold ĝ;show rK (i:=i) (Jg.mp nd).2 (by simpa using a) (by simpa using c) e
theorem uy{kindOf:Str->Ŗ NameKind}{x:Str}{v:Value}:∀{P:Y Str}{vs:Y Value}{i:Nat}{m:Str->Ŗ Value},P.Nodup->P[i]?=Z x->vs[i]?=Z v->kindOf x≠Z .local->
  Ğ kindOf (P.zip vs) m x=Z v
 | [],_,_,_,_,h,_,_=>by simp at h
 |_::_,[],_,_,_,_,h,_=>by simp at h
 |p::P,w::vs,0,m,nd,a,c,e=>by
  simp at a c;subst a;subst c;change Ğ kindOf ((p,w)::P.zip vs) m p=_;unfold Ğ;rw[vk λv f=>(Jg.mp nd).1 (Li f).1,Ir e];simp
 |p::P,w::vs,i+1,m,nd,a,c,e=>by change Ğ kindOf ((p,w)::P.zip vs) m x=_;unfold Ğ;show uy (i:=i) (Jg.mp nd).2 (by simpa using a) (by simpa using c) e
noncomputable def eQ(N:Y Str)(vs:Y V):St:=vs.map Z++List.replicate (N.length-vs.length) ŕ
noncomputable def iu(CX:eu)(P:Å)(w:È)(K:Â)(mg:Str->Ŗ Value)(base:Heap)(N:Y Str)(qual:Str)(scope:ß)(f:Addr)(a:Value)(A:Ì)(outer:Y ì)(s:À)(H:Hp)(E:XK):Cx where
 prog:=P
 w:=w
 K:=K
 mg:=mg
 base:=base
 A:=A.deeper (ê qual scope s.heap.objs.size f a)
 N:=N
 s₀:=s
 H₀:=H
 env:=ê qual scope s.heap.objs.size f a
 outer:=outer
 stack:=ê qual scope s.heap.objs.size f a::outer
 ex:=[]
 calm:=ŗ
 fn:=λ_=>ŗ
 pn:=[]
 xe:=λe h=>wpAny (Ä P w) (A.deeper (ê qual scope s.heap.objs.size f a)) (leaving (ê qual scope s.heap.objs.size f a) e) (λ_ c=>CX outer H s E e c) (λg c=>CX outer H s E g c) h
theorem qu{a:ß}{n:Nat}{x:Str}(h:a.names.lookup x=Z .cell):∃c,(Ø n a.names []).lookup x=Z c:=by have q:=cellsFrom_some a.names n [] (.inl h);show Mo.mp q
theorem zG{CX:eu}{P:Å}{w:È}{K:Â}{mg:Str->Ŗ Value}{base:Heap}{N ps:Y Str}{qual:Str}{scope:ß}{f:Addr}{C:Value}{A:Ì}{outer:Y ì}{s M:À}{H:Hp}{E:XK}{us:Y Value}{vs:Y V}
  (a_:FnScope N ps scope) (hd:A.handled=ŕ) (j:Env0 P w K mg base A outer s H) (U:vs.length=ps.length) (r:Vals vs us)
  (x:InCallC s s.heap.objs.size (ĝ (ê qual scope s.heap.objs.size f C).kindOf (ps.zip us) λ_=>ŕ) (Ø (s.heap.objs.size+1) scope.names []) (Ğ (ê qual scope s.heap.objs.size f C).kindOf (ps.zip us) λ_=>ŕ) M) :
  Inv (iu CX P w K mg base N qual scope f C A outer s H E) [] (eQ N vs) H M:=by
 have R:ps.length<=N.length:=by have:=Ju List.length a_.pre;rw[Jv]at this;omega
 let⟨F,X,rfl,J⟩:=x.done;have I:∀b:Addr,b∉(iu CX P w K mg base N qual scope f C A outer s H E).ex:=λb z=>absurd (show b∈([]:Y Addr)from z) (by simp)
 refine⟨⟨j.mod,a_.kind,S,S,Iu _,λy z c F g=>?_,λy l=>?_,λy c _ h=>?_,λ_=>hd,Ì.frames_deeper j.frames,.inr ⟨S,S⟩,λb z=>absurd z (I b),j.bs,j.bsz,λb _ _=>I b,λb z=>absurd z (I b),j.funs,j.frf⟩,
  rfl,j.bare,Un.kept J,⟨_,x.toInCall.ns,λi y v F g T=>?_⟩,λy c h=>⟨_,x.cell y c h⟩,j.hok.fresh (Iu _),λy c h=>?_,λp o=>absurd (show p∈([]:Y (Addr×Ô))from o) (by simp),j.hok.kept J,?_⟩
 ·show name_of_addr x.apart (JE F) (JE g)
 ·have l:scope.names.lookup y=Z .cell\/scope.names.lookup y=Z .free:=l;rcases l with l|l
  ·show qu l
  ·show absurd S (a_.nofree _ (JE l))
 ·show JW (x.above y c (JE h))
 ·have G:i<vs.length:=by
   unfold eQ at g;by_cases G:i<vs.length
   ·show G
   ·rw[Im (by simpa using G)]at g;rw[J7]at g;split at g<;>cases g
  have O:vs[i]?=Z v:=by
   unfold eQ at g;rw[Ip (by simpa using G),IE]at g
   cases e:vs[i]? with
   |none=>rw[e]at g;cases g
   |some a=>rw[e]at g;cases g;rfl
  let⟨u,L,Q⟩:=r.get O
  have o:ps[i]?=Z y:=by rw[←a_.pre,Lo ()];show F
  have B:ps.Nodup:=by rw[←a_.pre];show a_.nd.sublist (List.take_sublist _ _)
  refine⟨u,Q,?_⟩;rcases a_.par y (ID o)with k|k
  ·show .inl ⟨k,rK B o L k⟩
  ·let⟨c,e⟩:=qu (n:=s.heap.objs.size+1) k;refine .inr ⟨.inl k,c,e,?_⟩;have q:=x.cell y c e;rw[uy B o L (by change scope.names.lookup y≠_;rw[k];decide)]at q;show q
 ·show j.hok.fresh (JW (x.above y c (JE h)))
 ·unfold eQ;change _=N.length;rw[Io,Il,Jy];omega
theorem se{CX:eu}{P:Å}{w:È}{K:Â}{mg:Str->Ŗ Value}{base:Heap}{k:Nat}{f:Addr}{name qual:Str}{a:Arguments}{c:Y Ç}{scope:ß}{T kV p U j ct oc:Value}{R od:Ŗ Addr}
  {PU:Array (Ŗ Value)} {N ps:Y Str} {sp:Sp} (lk:K.lookup f=Z ⟨oc,od,.func (ę name qual a c scope T kV p U R j ct),PU⟩) (be:ă K j qual=ŗ) (a_:FnScope N ps scope)
  (len:∀vs H Q E,sp vs H Q E->vs.length=ps.length)
  (NU:∀(A:Ì)(outer:Y ì)(s:À)(H:Hp)(vs:Y V)(Q:VK)(E:XK),Room k (A.deeper (ê qual scope s.heap.objs.size f j))->sp vs H Q E->
   ∃t,PSs (iu CX P w K mg base N qual scope f j A outer s H E) c t/\t { nx:=λ_ h=>Q .non h,rt:=Q } (eQ N vs) H) :
  FnOk P w K mg base CX (k+1) f (ę name qual a c scope T kV p U R j ct) ps sp:=by
 refine⟨len,λA outer s H args us vs Q E C z hb r O=>?_⟩;have hl:=len _ _ _ _ O;have M:K.In s.heap:=z.mod.kin.keeps λb o e=>(z.bs b o e).1;have F:s.heap.NoLimit:=z.mod.nolimit.keeps λb o e=>(z.bs b o e).1
 have RY:∀y∈ps.zip us,scope.names.lookup y.1=Z .local\/(scope.names.lookup y.1=Z .cell/\((Ø (s.heap.objs.size+1) scope.names []).lookup y.1).isSome=ŗ):=λb_ hy=>by
  let⟨n,v⟩:=b_;rcases a_.par n (Li hy).1 with q|q
  ·show .inl q
  ·show .inr ⟨q,cellsFrom_some _ _ _ (.inl q)⟩
 refine codeAny_call_function C.depth (M _ _ lk) S a_.co a_.gen S (PySem.W.codeRec_of M be) (hb _ _ _ _ ?_);refine wpAny_newFunctionEnv_cells a_.kind RY λenv he X x=>?_;subst he;refine⟨F.keeps x.toInCall.keep,codeAny_func ?_⟩;let⟨t,ht,hq⟩:=NU A outer s H vs Q E (C.deeper _) O;have I:Inv (iu CX P w K mg base N qual scope f j A outer s H E) [] (eQ N vs) H X:=zG a_ C.hd z hl r x;refine Kc (ht [] X (eQ N vs) H _ I hq) (λfl L l=>?_) λe L l=>l
 have B:∀{g:St}{h:Hp}{v:V}{u:Value},Inv (iu CX P w K mg base N qual scope f j A outer s H E) [] g h L->RelV v u->Q v h->CE outer P w H s Q u L:=
  λ{g h v u} J G q=>⟨v,h,J.os,J.bare,J.base,J.hok,G,q⟩
 cases fl with
 |ret u=>
  let⟨v,g,h,J,G,q⟩:=l;show B J G q
 |next=>
  let⟨g,h,J,q⟩:=l;show B (v:=V.non) (u:=Value.none) J S q
 |brk=>
  let⟨_,_,_,q⟩:=l;show Ñ q
 |cont=>
  let⟨_,_,_,q⟩:=l;show Ñ q
section
variable{X:Cx}{x:Str}{p a:Ö}{e:Ã}{es:Y Ã}{t:TA}{id T:String}{r:Y V->Hp->VK->Prop}
noncomputable def sC(r:Y V->Hp->VK->Prop)(t:TA):TE:=λf H Q=>t f H λvs c=>r vs c Q
theorem v7(w:eg X (.builtin id) r)(z:Gl X x)(A:X.mg x=ŕ)(C:Ú x=Z (.builtin id))(v:PA X (e::es) t)(B:x≠"__name__":=by decide)(u:ab x:=by decide)
  (y:starEach (e::es) X.env=(Ř,eval e X.env)::starEach es X.env:=by rfl) (o:(backTo a (starEach es X.env)).any (·.1)=Ř:=by rfl):PE X (.Call (.Name x p) (e::es) [] a) (sC r t):=by
 intro c s f H Q I h;refine Ln (ir I z A C ?_ B u);show PyProof.Rows.callWith_builtin1 (aI (v a c s f H _ I h) λus G l=>by let⟨vs,g,j,F,E⟩:=l;show w c G f g vs us Q j F E) y o
theorem le(w:eg X (.type T) r)(z:Gl X x)(A:X.mg x=ŕ)(C:Ú x=Z (.type T))(v:PA X (e::es) t)(B:x≠"__name__":=by decide)(u:ab x:=by decide)
  (y:starEach (e::es) X.env=(Ř,eval e X.env)::starEach es X.env:=by rfl) (o:(backTo a (starEach es X.env)).any (·.1)=Ř:=by rfl):PE X (.Call (.Name x p) (e::es) [] a) (sC r t):=by
 intro c s f H Q I h;refine Ln (ir I z A C ?_ B u);show JM (aI (v a c s f H _ I h) λus G l=>by let⟨vs,g,j,F,E⟩:=l;show w c G f g vs us Q j F E) y o
end
end L2
namespace HT
open PySem PyProof.Rows
section
variable{prog:Å}{w:È}{A:Ì}{E:Value->À->Prop}{s:À}
theorem cat_tup{t b:Addr}{vs a:Y Value}{Q:Value->À->Prop}(z:ġ s.heap t vs.toArray)(y:ġ s.heap b a.toArray)(u:vs≠[])
  (v:a=[]->Q (.ref t) s) (x:a≠[]->Q (.ref s.heap.objs.size) { s with heap:=s.heap.push { cls:=.type "tuple",data:=.seq (vs++a).toArray } })
  (hsz:vs.length+a.length<=sizeLine):wpAny (Ä prog w) A (Ï .Add (.ref t) (.ref b)) Q E s:=by
 let⟨⟨cls,p,data,sl⟩,g,r,n,hd⟩:=id z;let⟨⟨B,l,data2,o⟩,f,j,n2,c⟩:=id y;simp only at r hd j c;subst r hd j c
 have e:vs.toArray++a.toArray=(vs++a).toArray:=by simp
 by_cases h:a=[]
 ·show ĩ ⟨_,g,S⟩ ⟨_,f,S⟩ Mp ė LB Ly (Lq _ _)
   (tuple_addW1 t b vs.toArray a.toArray n n2 p l sl o (by simpa using u) (by simp[h])) ⟨g,f,v h⟩
 ·refine ĩ ⟨_,g,S⟩ ⟨_,f,S⟩ Mp ė LB Ly (Lq _ _)
   (tuple_addW2 t b vs.toArray a.toArray n n2 p l sl o (by simpa using u) (by simpa using h) (by rw[IG,IG];show hsz)) ⟨g,f,?_⟩
  rw[e];show x h
noncomputable def sIx(n d:Nat):Ŗ Int->Nat
 |none=>d
 |some v=>if v<0 then (v+(n:Int)).toNat else min v.toNat n
theorem sIx_nat(n d k:Nat):sIx n d (Z (k:Int))=min k n:=by change (if (k:Int)<0 then ((k:Int)+(n:Int)).toNat else min (k:Int).toNat n)=min k n;rw[Ir (),JO]
theorem BG(n d:Nat)(hd:d<=n)(o:Ŗ Int):sIx n d o<=n:=by
 cases o with
 |none=>show hd
 |some v=>
  change (if v<0 then (v+(n:Int)).toNat else min v.toNat n)<=n;by_cases a:v<0
  ·rw[Iw a];omega
  ·rw[Ir a];show Nat.min_le_right _ _
theorem uP(v:Int)(n d:Nat):(if v<0 then max (v+(n:Int)) 0 else min v (n:Int))=((sIx n d (Z v):Nat):Int):=by
 change (if v<0 then max (v+(n:Int)) 0 else min v (n:Int))=(((if v<0 then (v+(n:Int)).toNat else min v.toNat n):Nat):Int);by_cases a:v<0
 ·simp only[Iw a];omega
 ·simp only[Ir a];omega
theorem yy(lo a:Ŗ Int)(n:Nat):Builtin.Slice.sliceAdjust lo a 1 (n:Int)=(((sIx n 0 lo:Nat):Int),((sIx n n a:Nat):Int)):=by
 have c:¬ ((1:Int)<0):=by omega
 unfold Builtin.Slice.sliceAdjust;simp only[c,MO];refine Prod.ext ?_ ?_
 ·cases lo with
  |none=>rfl
  |some v=>show uP v n 0
 ·cases a with
  |none=>rfl
  |some v=>show uP v n n
theorem zW(i j:Nat):Builtin.Slice.slicePlaces (i:Int) (j:Int) 1=j-i:=by
 unfold Builtin.Slice.slicePlaces
 have a:(1:Int)>0:=by omega
 simp only[a,Lx,MS];split<;>omega
theorem vI{v:Value}{o:Ŗ Int}{Q:Ŗ Int->À->Prop}(p:ï v o)(h:Q o s):wpAny (Ä prog w) A (Builtin.Slice.slicePartIndex v) Q E s:=by
 cases p with
 |none=>show slicePart_none h
 |int i t=>show slicePart_int h
theorem uq{sl:Addr}{f g:Value}{lo a:Ŗ Int}{n:Nat}{Q:Int×Int×Nat->À->Prop}(j:s.heap.IsSliceOf sl f g .none)(pl:ï f lo)(l:ï g a)
  (h:Q (((sIx n 0 lo:Nat):Int),1,sIx n n a-sIx n 0 lo) s):wpAny (Ä prog w) A (Builtin.Slice.sliceApplied (.ref sl) (pure (n:Int))) Q E s:=by
 let⟨os,c,o,e⟩:=id j;unfold Builtin.Slice.sliceApplied Builtin.Slice.sliceFields;refine Iq (Iq (JQ c e (x:=f) S (Iq (JQ c e (x:=g) S (Iq (JQ c e (x:=.none) S (IK ?_)))))));refine Iq (slicePart_none ?_);change wpAny _ _ (if ((1:Int)==0)=ŗ then _ else _) _ _ s;rw[Ir 'b'];refine Iq (vI pl (Iq (vI l (Iq (IK ?_)))));change wpAny _ _ (match Builtin.Slice.sliceAdjust lo a 1 (n:Int)with|(lo,a)=>pure (lo,(1:Int),Builtin.Slice.slicePlaces lo a 1)) _ _ s;rw[yy lo a n];change wpAny _ _ (pure (((sIx n 0 lo:Nat):Int),(1:Int),Builtin.Slice.slicePlaces ((sIx n 0 lo:Nat):Int) ((sIx n n a:Nat):Int) 1)) _ _ s;rw[zW];show IK h
theorem Gg(xs:Array Value)(i k:Nat):((List.range k).filterMap λ(m:Nat)=>xs[((i:Int)+(m:Int)*1).toNat]?).toArray=((xs.toList.drop i).take k).toArray:=by
 have e:(λ(m:Nat)=>xs[((i:Int)+(m:Int)*1).toNat]?)=λm=>xs[i+m]?:=by
  funext m
  have:((i:Int)+(m:Int)*1).toNat=i+m:=by omega
  rw[this]
 rw[e];have:=pick_run xs i k;rw[L6]at this;have a:((λx=>xs[x]?) ∘ λx=>i+x)=λm=>xs[i+m]?:=rfl;rw[a]at this;rw[this]
theorem getItem_tuple_cut{t sl:Addr}{a:Array Value}{j l:Value}{lo c:Ŗ Int}{Q:Value->À->Prop}(f:ġ s.heap t a)(g:s.heap.IsSliceOf sl j l .none)(pl:ï j lo)(x:ï l c)
  (v:¬ (sIx a.size 0 lo=0/\sIx a.size a.size c=a.size))
  (h:Q (.ref s.heap.objs.size) { s with heap:=s.heap.push { cls:=.type "tuple",data:=.seq ((a.toList.drop (sIx a.size 0 lo)).take (sIx a.size a.size c-sIx a.size 0 lo)).toArray } })
  (hsz:a.size<=sizeLine):wpAny (Ä prog w) A (ä (.ref t) (.ref sl)) Q E s:=by
 have e:sizeOk (.seq ((a.toList.drop (sIx a.size 0 lo)).take (sIx a.size a.size c-sIx a.size 0 lo)).toArray):=by change ((a.toList.drop (sIx a.size 0 lo)).take (sIx a.size a.size c-sIx a.size 0 lo)).toArray.size<=sizeLine;rw[IG,Jv,Ke,J2];omega
 have z:sIx a.size a.size c<=a.size:=BG _ _ (Iu _) c;let⟨os,p,r,y⟩:=id g;have u:s.TypeIs (.ref sl) "slice":=⟨os,p,r⟩;unfold ä
 try with_reducible refine Kd ?_
 first|refine Iq (IK ?_)|skip
 refine Iq (ł f.typeIs 'b' ?_)
 refine Iq (JX (name:=Str.ofString "__getitem__") f.typeIs JP
  (Kw JP f.typeIs ĸ ?_ (ļ _ _)))
 change wpAny _ _ (Builtin.Tuple.tupleItemsOf (.ref t) >>= _) _ _ s;refine Iq (tupleItemsOf_ f ?_);refine Iq (ĥ u ?_);rw[Iw 'b'];refine Iq (uq g pl x ?_)
 have o:¬ ((((sIx a.size 0 lo:Nat):Int)==0&&(1:Int)==1&&(sIx a.size a.size c-sIx a.size 0 lo)==a.size)=ŗ):=by
  intro q;rw[JJ,JJ]at q;have B:((sIx a.size 0 lo:Nat):Int)=0:=eq_of_beq q.1.1;have C:sIx a.size a.size c-sIx a.size 0 lo=a.size:=eq_of_beq q.2;show v ⟨(),()⟩
 change wpAny _ _ (if (((sIx a.size 0 lo:Nat):Int)==0&&(1:Int)==1&&(sIx a.size a.size c-sIx a.size 0 lo)==a.size)=ŗ then _ else _) _ _ s;rw[Ir o,Gg]
 first
  |show Iq (m:=Builtin.Tuple.tupleExact _) (Ks (IK ⟨_,S,IK h⟩) e)
  |show Iq (m:=Builtin.Tuple.tupleExact _) (Ks (Iq (IK (IK ⟨_,S,IK h⟩))) e)
  |show Iq (Iq (m:=Builtin.Tuple.tupleExact _) (Ks (IK (IK ⟨_,S,IK h⟩)) e))
  |show Iq (Iq (m:=Builtin.Tuple.tupleExact _) (Ks (IK ⟨_,S,IK h⟩) e))
end
end HT
namespace L2
open PySem PySem.Spec PyProof.Rows
noncomputable abbrev TO:=St->Hp->(Ŗ Int->Hp->Prop)->Prop
noncomputable def PO(X:Cx)(e:Ŗ Ã)(t:TO):Prop:=
 ∀(a:Y (Addr×Ô))(s:À)(c:St)(H:Hp)(Q:Ŗ Int->Hp->Prop),Inv X a c H s->t c H Q->
  wpAny (Ä X.prog X.w) X.A (evalPart e X.env) (λu g=>∃o f,Inv X a c f g/\ï u o/\Q o f) X.xe s
noncomputable def zT:TO:=λ_ H Q=>Q ŕ H
noncomputable def xM(t:TE):TO:=λc H Q=>t c H λx a=>∃i,x=.int i/\Q (Z i) a
section
variable{X:Cx}{e:Ã}{f:TE}{lo c:Ŗ Ã}{g j:TO}{B A:Ö}
theorem po_none:PO X ŕ zT:=by intro a s l H Q I h;rw[evalPart_none];show IK ⟨ŕ,H,I,.none,h⟩
theorem zD(h:PE X e f):PO X (Z e) (xM f):=by intro a s y H Q I r;rw[evalPart_some];refine aI (h a s y H _ I r) λu z p=>?_;let⟨x,l,o,w,v⟩:=p;let⟨i,rfl,q⟩:=v;let⟨t,rfl⟩:=w;show⟨Z i,l,o,.int i t,q⟩
noncomputable def SlR(X:Cx)(r:V->Ŗ Int->Ŗ Int->Hp->VK->Prop):Prop:=
 ∀(a:Y (Addr×Ô))(s:À)(o:St)(H:Hp)(x:V)(v h l:Value)(lo c:Ŗ Int)(sl:Addr)(Q:VK),Inv X a o H s->RelV x v->s.heap.IsSliceOf sl h l .none->ï h lo->ï l c->r x lo c H Q->
  ∃T id,typeLookup (.type T) "__getitem__"=pure (Z (.builtin id))/\s.TypeIs v T/\wpAny (Ä X.prog X.w) X.A (ä v (.ref sl)) (EP X a o Q) X.xe s
theorem SlR.or{r p:V->Ŗ Int->Ŗ Int->Hp->VK->Prop}(h:SlR X r)(h':SlR X p):SlR X (λx lo c H Q=>r x lo c H Q\/p x lo c H Q):=by
 intro a s z H x v w y lo c sl Q I u l pl o q;rcases q with q|q
 ·show h a s z H x v w y lo c sl Q I u l pl o q
 ·show h' a s z H x v w y lo c sl Q I u l pl o q
noncomputable def EY(r:V->Ŗ Int->Ŗ Int->Hp->VK->Prop)(f:TE)(g j:TO):TE:=λa H Q=>f a H λx h=>g a h λl o=>j a o λu p=>r x l u p Q
theorem Cw{r:V->Ŗ Int->Ŗ Int->Hp->VK->Prop}(P:SlR X r)(M:PE X e f)(O:PO X lo g)(a_:PO X c j):PE X (.Subscript e (.Slice lo c ŕ A) B) (EY r f g j):=by
 intro a s p H Q I h;refine Subscript_ (aI (M a s p H _ I h) λv s1 ⟨x,C,F,r1,be⟩=>?_);refine wpAny_Slice (aI (O a s1 p C _ F be) λw s2 ⟨l,E,G,pl,b_⟩=>aI (a_ a s2 p E _ G b_) λy o ⟨u,z,J,U,q3⟩=>?_);rw[evalPart_none];refine IK ?_;have K:Inv X a p z { o with heap:=o.heap.push { cls:=.type "slice",data:=.fields #[w,y,.none] } }:=J.kept (t':=o.toks) λb ob q=>IA _ q;let⟨T,id,L,R,N⟩:=P a { o with heap:=o.heap.push { cls:=.type "slice",data:=.fields #[w,y,.none] } } p z x v w y l u o.heap.objs.size Q K r1 (Heap.IsSliceOf.new ..) pl U q3;change wpAny (Ä X.prog X.w) X.A (Ě e (.Slice lo c ŕ A) v (.ref o.heap.objs.size)) (EP X a p Q) X.xe { o with heap:=o.heap.push { cls:=.type "slice",data:=.fields #[w,y,.none] } };show tail_any (ops:=[.ref o.heap.objs.size,v]) R L N (by with_unfolding_all rfl)
noncomputable def iF(xs:Y V)(lo c:Ŗ Int):Y V:=(xs.drop (HT.sIx xs.length 0 lo)).take (HT.sIx xs.length xs.length c-HT.sIx xs.length 0 lo)
theorem sR(xs:Y V)(lo c:Ŗ Int):(iF xs lo c).length<=xs.length:=by unfold iF;rw[Jv,Ke];omega
noncomputable def tz(K:Â):V->Ŗ Int->Ŗ Int->Hp->VK->Prop:=λx lo c H Q=>∃a xs,x=.ref a/\SqT K H a xs /\
 ¬ (HT.sIx xs.length 0 lo=0/\HT.sIx xs.length xs.length c=xs.length)/\∀p,H p=ŕ->Q (.ref p) (aq H p (.tup (iF xs lo c)))
theorem sl_tup:SlR X (tz X.K):=by
 intro w s M H x v K L lo c sl Q I G z pl F h;let⟨a,xs,rfl,E,C,q⟩:=h;cases G;let⟨y,r,p,u⟩:=I.tuple E
 have l:y.toArray.size=xs.length:=by rw[IG];show r.length.symm
 refine⟨"tuple",_,JP.lookup,p.typeIs,?_⟩;refine HT.getItem_tuple_cut p z pl F (by rw[l];show C) ?_ (by rw[l];show u);rw[l];refine⟨.ref s.heap.objs.size,_,I.laid (t':=s.toks) (o:=.tup (iF xs lo c)) (λb J q=>IA _ q) (Iu _) ?_,S,q _ (I.hok.fresh (Iu _))⟩;show⟨IU (sR xs lo c) u,_,(r.drop (HT.sIx xs.length 0 lo)).take (HT.sIx xs.length xs.length c-HT.sIx xs.length 0 lo),IsTupD.new _ _⟩
noncomputable def BZ(K:Â):R2:=λx y H Q=>∃a b xs h,x=.ref a/\y=.ref b/\SqT K H a xs/\SqT K H b h/\xs≠[]/\xs.length+h.length<=sizeLine /\
 (h=[]->Q (.ref a) H)/\(h≠[]->∀p,H p=ŕ->Q (.ref p) (aq H p (.tup (xs++h))))
theorem Vals.nil_iff{xs:Y V}{us:Y Value}(r:Vals xs us):us=[]↔xs=[]:=by
 cases r with
 |nil=>simp
 |cons _ _=>simp
theorem wJ:cb X (Ï .Add) (BZ X.K):=by intro C s T H x y v u Q I M N h;let⟨a,b,xs,O,rfl,rfl,E,F,G,r,K,L⟩:=h;cases M;cases N;let⟨P,p,J,_⟩:=I.tuple E;let⟨R,l,A,_⟩:=I.tuple F;refine HT.cat_tup J A (λz=>G (p.nil_iff.mp z)) (λz=>⟨.ref a,H,I,S,K (l.nil_iff.mp z)⟩) (λz=>?_) (by rw[←p.length,←l.length];show r);refine⟨.ref s.heap.objs.size,_,I.laid (t':=s.toks) (o:=.tup (xs++O)) (λb U q=>IA _ q) (Iu _) ?_,S,L (λw=>z (l.nil_iff.mpr w)) _ (I.hok.fresh (Iu _))⟩;show⟨by rw[Io];show r,_,p.append l,IsTupD.new _ _⟩
end
noncomputable def fv(n:Nat)(i:Int):Ŗ Nat:=if 0<=i then (if i<n then Z i.toNat else ŕ) else if -(n:Int)<=i then Z (i+n).toNat else ŕ
noncomputable def cF{a:Type}(xs:Y a)(i:Int):Ŗ a:=(fv xs.length i).bind λj=>xs[j]?
theorem vt{n:Nat}{i:Int}{j:Nat}(h:fv n i=Z j):ā i n=Z j/\j<n/\-(n:Int)<=i/\i<n:=by
 unfold fv at h;by_cases c:0<=i
 ·rw[Iw c]at h;by_cases a:i<n
  ·rw[Iw a]at h;have e:i.toNat=j:=Jf h;show⟨by rw[Ķ c a,e],(),(),a⟩
  ·rw[Ir a]at h;cases h
 ·rw[Ir c]at h;by_cases a:-(n:Int)<=i
  ·rw[Iw a]at h;have e:(i+n).toNat=j:=Jf h;show⟨by rw[Ĩ () a,e],(),a,()⟩
  ·rw[Ir a]at h;cases h
theorem qI{a:Type}{xs:Y a}{i:Int}{v:a}(h:cF xs i=Z v):∃j,ā i xs.length=Z j/\xs[j]?=Z v/\j<xs.length/\-(xs.length:Int)<=i/\i<xs.length:=by
 unfold cF at h
 cases e:fv xs.length i with
 |none=>rw[e]at h;cases h
 |some j=>
  rw[e]at h;let⟨c,f,g,l⟩:=vt e;show⟨j,c,h,f,g,l⟩
theorem Fa{a:Type}{xs:Y a}{j:Nat}{v:a}(h:xs[j]?=Z v):cF xs (j:Int)=Z v:=by
 have c:j<xs.length:=(Jz.mp h).1
 have e:fv xs.length (j:Int)=Z j:=by unfold fv;rw[Iw (),Iw ()];simp
 unfold cF;rw[e];show h
noncomputable def nj(b:Ã):Prop:=∀o i,Ą b Ř o i=operate [o,i] (ä o i)
noncomputable def js(X:Cx)(r:R2):Prop:=
 ∀(e a:Ã)(c:Y (Addr×Ô))(s:À)(f:St)(H:Hp)(x y:V)(v u:Value)(Q:VK),Inv X c f H s->RelV x v->RelV y u->r x y H Q->
  Ą a Ř v u=operate [v,u] (ä v u)->wpAny (Ä X.prog X.w) X.A (Ě e a v u) (EP X c f Q) X.xe s
noncomputable def vm(X:Cx)(id:String)(r:V->Y V->Hp->VK->Prop):Prop:=
 ∀(a:Y (Addr×Ô))(s:À)(c:St)(H:Hp)(x:V)(xs:Y V)(v:Value)(us:Y Value)(Q:VK),Inv X a c H s->RelV x v->Vals xs us->r x xs H Q->
  wpAny (Ä X.prog X.w) X.A (call (.builtin id) (v::us)) (EP X a c Q) X.xe s
section
variable{X:Cx}{a b:Ã}{E tb:TE}{C:Ö}
theorem qL{r:R2}(l:js X r)(g:PE X a E)(j:PE X b tb)(o:nj b):PE X (.Subscript a b C) (iI r E tb):=by intro c s A H Q I h;show Subscript_ (rf g j I h λv u z x y e f p w q=>l a b c z A e x y v u Q f p w q (o _ _))
noncomputable def tq(K:Â):R2:=λx y H Q=>∃p xs i v,x=.ref p/\y=.int i/\SqL K H p xs/\cF xs i=Z v/\Q v H
noncomputable def B6(K:Â):R2:=λx y H Q=>∃p xs i v,x=.ref p/\y=.int i/\SqT K H p xs/\cF xs i=Z v/\Q v H
noncomputable def wK:R2:=λx y H Q=>∃z i c,x=.str z/\y=.int i/\z.length<=sizeLine/\cF z.cps.toList i=Z c/\Q (.str ⟨#[c]⟩) H
theorem qR:js X (tq X.K):=by
 intro o l c s G H x y v u Q I a_ T h F;let⟨p,xs,i,z,rfl,rfl,R,O,q⟩:=h;cases a_;let⟨t,rfl⟩:=T;let⟨J,r,pl,hz⟩:=I.list R;let⟨j,f,L,be,M,N⟩:=qI O;let⟨w,A,K⟩:=r.get L;have P:=r.length;have b_:=iQ;have e:EP X c G Q w s:=⟨z,H,I,K,q⟩;by_cases B:0<=i
 ·have g:i.toNat=j:=by rw[Ķ B N]at f;show Jf f
  show item_listR pl.isList B () (by rw[g];simpa using A) e F
 ·have g:(i+(J.toArray.size:Int)).toNat=j:=by rw[Ĩ () M]at f;rw[IG,←P];show Jf f
  show ĭ (x:=w) pl.isList.typeIs ń.lookup
   (wpAny_getItem_list_neg (Q:=λr U=>r=w/\EP X c G Q r U) pl.isList () (by rw[IG]<;>omega) () (by rw[g];simpa using A) ⟨S,e⟩) F
theorem DZ:js X (B6 X.K):=by
 intro g f c s l H x y v u Q I M N h L;let⟨p,xs,i,z,rfl,rfl,K,G,q⟩:=h;cases M;let⟨t,rfl⟩:=N;let⟨P,r,pl,be⟩:=I.tuple K;let⟨j,B,F,R,a_,T⟩:=qI G;let⟨w,A,o⟩:=r.get F;have J:=r.length;have U:=iQ;have e:EP X c l Q w s:=⟨z,H,I,o,q⟩
 show ĭ (x:=w) pl.typeIs slot_tuple_getitem.lookup
  (getItem_tuple (j:=j) (Q:=λr O=>r=w/\EP X c l Q r O) pl () () (by rw[IG,←J];show B) (by simpa using A) ⟨S,e⟩) L
theorem zc:js X wK:=by
 intro f e l s O H x y v u Q I J K h G;let⟨z,i,c,rfl,rfl,N,B,q⟩:=h;let⟨t,rfl⟩:=J;let⟨t',rfl⟩:=K;let⟨j,g,r,L,w,A⟩:=qI B
 have F:z.cps.toList.length=z.length:=by simp[Str.length]
 rw[F]at g w A;have M:=iQ
 show tail_any (ĺ s z t) slot_str_getitem.lookup (getItem_str (c:=c) (by
  have o:decide (i < -(2^63:Int))=Ř:=Jb ();have p:decide (i≥2^63)=Ř:=Jb ()
  rw[o,p,Bool.or_false]) (by rw[g];simpa using r) ⟨.str ⟨#[c]⟩,H,I.tok _,⟨_,S⟩,q⟩) G
theorem xS(c:Y Value)(n j:Nat)(u:Value):õ (·.setIfInBounds j u) { cls:=.type "list",data:=.seq c.toArray n }={ cls:=.type "list",data:=.seq (c.set j u).toArray n }:=by simp[õ]
theorem Inv.lst{c:Y (Addr×Ô)}{g:St}{H:Hp}{s:À}{p:Addr}{xs:Y V}(I:Inv X c g H s)(h:H p=Z (.lst xs)) :
  ∃(f:Y Value)(n:Nat),Vals xs f/\s.heap.get? p=Z { cls:=.type "list",data:=.seq f.toArray n }/\xs.length<=sizeLine:=by
 let⟨z,f,n,r,e⟩:=I.hok p _ h;show⟨f,n,r,e,z⟩
theorem Inv.lstUpd{c:Y (Addr×Ô)}{v:St}{H:Hp}{s:À}{p:Addr}{xs j:Y V}{l Ng:Y Value}{n g:Nat}{f:Ô->Ô}(I:Inv X c v H s)(h:H p=Z (.lst xs))
  (y:s.heap.get? p=Z { cls:=.type "list",data:=.seq l.toArray n }) (o:f { cls:=.type "list",data:=.seq l.toArray n }={ cls:=.type "list",data:=.seq Ng.toArray g }) (r:Vals j Ng) (z:j.length<=sizeLine) (t:Nat) :
  Inv X c v (aq H p (.lst j)) { s with heap:=s.heap.update p f,toks:=t }:=by
 have e:(s.heap.update p f).get? p=Z { cls:=.type "list",data:=.seq Ng.toArray g }:=by
  rw[Heap.get?_update_self f y (by rw[o]<;>rfl),o]
 refine I.write (x:=p) (e:=p) (by rw[h];trivial) (.inl S) (λb u w q=>(Heap.get?_update_other _ _ (JD w)).trans q) ⟨_,e⟩ ?_;show⟨z,Ng,g,r,e⟩
noncomputable def Ad:V->V->V->Hp->(Hp->Prop)->Prop:=λo i v H Q=>∃p xs k j,o=.ref p/\i=.int k/\H p=Z (.lst xs)/\fv xs.length k=Z j/\Q (aq H p (.lst (xs.set j v)))
theorem oP:rh X Ad:=by
 intro c s M H o i v R P u Q I K J L h;let⟨p,xs,k,j,rfl,rfl,B,F,q⟩:=h;cases K;let⟨t,rfl⟩:=J;let⟨x,n,r,l,G⟩:=I.lst B;let⟨e,N,z,A⟩:=vt F;have g:=r.length;have O:=iQ
 have w:Inv X c M (aq H p (.lst (xs.set j v))) { s with heap:=s.heap.update p (õ (·.setIfInBounds j u)) }:=
  I.lstUpd B l (xS x n j u) (r.set L j) (by rw[Iv];show G) s.toks
 by_cases y:0<=k
 ·have f:k.toNat=j:=by rw[Ķ y A]at e;show Jf e
  show PySem.W.ki_setAt l y () (by rw[IG,←g];show A) (by rw[f];show⟨_,w,q⟩)
 ·have f:(k+(x.toArray.size:Int)).toNat=j:=by rw[Ĩ () z]at e;rw[IG,←g];show Jf e
  show PySem.W.ki_setBack l () (by rw[IG,←g];show z) () (by rw[f];show⟨_,w,q⟩)
theorem C3(lo c:Ŗ Int)(n:Nat):(á lo c ŕ n).1=((HT.sIx n 0 lo:Nat):Int)/\(á lo c ŕ n).2.1=((HT.sIx n n c:Nat):Int)/\(á lo c ŕ n).2.2=1:=by
 refine⟨?_,?_,S⟩
 ·cases lo with
  |none=>simp[á,HT.sIx]
  |some i=>
   simp only[á,HT.sIx,Ģ,show (1:Int)>0 by decide,Lx];by_cases h:i<0
   ·simp only[h,Lx]<;>omega
   ·simp only[h,MO]<;>omega
 ·cases c with
  |none=>simp[á,HT.sIx]
  |some i=>
   simp only[á,HT.sIx,Ģ,show (1:Int)>0 by decide,Lx];by_cases h:i<0
   ·simp only[h,Lx]<;>omega
   ·simp only[h,MO]<;>omega
theorem Do(c:Y Value)(lo e:Ŗ Int):slicePick c.toArray lo e ŕ=((c.drop (HT.sIx c.length 0 lo)).take (HT.sIx c.length c.length e-HT.sIx c.length 0 lo)).toArray:=by let⟨f,g,h⟩:=C3 lo e c.toArray.size;unfold slicePick;rw[f,g,h];simp only[sliceRange_one,pick_run,IG]<;>rfl
noncomputable def ue(K:Â):V->Ŗ Int->Ŗ Int->Hp->VK->Prop:=λx lo c H Q=>∃a xs,x=.ref a/\SqL K H a xs/\∀p,H p=ŕ->Q (.ref p) (aq H p (.lst (iF xs lo c)))
theorem sl_list:SlR X (ue X.K):=by
 intro g s F H x v A B lo e sl Q I w j pl u h;let⟨a,xs,rfl,l,q⟩:=h;cases w;let⟨y,r,f,p⟩:=I.list l;have c:=r.length;refine⟨"list",_,ń.lookup,f.isList.typeIs,?_⟩;refine wpAny_getItem_list_slice f.isList j pl u .none (by simp) ?_ (by rw[IG]<;>omega);rw[Do,←c];refine⟨.ref s.heap.objs.size,_,I.laid (t':=s.toks) (o:=.lst (iF xs lo e)) (λb z q=>IA _ q) (Iu _) ?_,S,q _ (I.hok.fresh (Iu _))⟩;show⟨IU (sR xs lo e) p,_,0,(r.drop (HT.sIx xs.length 0 lo)).take (HT.sIx xs.length xs.length e-HT.sIx xs.length 0 lo),IM _ S⟩
noncomputable def ii:V->Bool
 |.non=>ŗ
 |.bl _=>ŗ
 |.int _=>ŗ
 |.str _=>ŗ
 |_=>Ř
noncomputable def ie:V->V->Bool
 |.non,.non=>ŗ
 |.bl a,.bl b=>a==b
 |.bl a,.int b=>(if a then 1 else 0)==b
 |.int a,.bl b=>a==(if b then 1 else 0)
 |.int a,.int b=>a==b
 |.str a,.str b=>a==b
 |_,_=>Ř
theorem EQ{A:Ì}{s:À}{y x:V}{u v:Value}(f:RelV y u)(c:RelV x v)(g:ii y=ŗ)(e:ii x=ŗ):SeqAt.EqAt A s u v (ie y x):=by
 cases y with
 |non=>
  cases f
  cases x with
  |non=>cases c;show SeqAt.EqAt.same _
  |bl b=>cases c;show SeqAt.EqAt.none_bool b
  |int b=>let⟨t,rfl⟩:=c;show SeqAt.EqAt.none_int b t
  |str b=>let⟨t,rfl⟩:=c;show SeqAt.EqAt.none_str b t
  |_=>show absurd (show Ř=ŗ from e) Jm
 |bl a=>
  cases f
  cases x with
  |non=>cases c;show SeqAt.EqAt.bool_none a
  |bl b=>cases c;show SeqAt.EqAt.bool_bool a b
  |int b=>let⟨t,rfl⟩:=c;show SeqAt.EqAt.bool_int a b t
  |str b=>let⟨t,rfl⟩:=c;show SeqAt.EqAt.bool_str a b t
  |_=>show absurd (show Ř=ŗ from e) Jm
 |int a=>
  let⟨t',rfl⟩:=f
  cases x with
  |non=>cases c;show SeqAt.EqAt.int_none a t'
  |bl b=>cases c;show SeqAt.EqAt.int_bool a t' b
  |int b=>let⟨t,rfl⟩:=c;show SeqAt.EqAt.int_int a t' b t
  |str b=>let⟨t,rfl⟩:=c;show SeqAt.EqAt.int_str a t' b t
  |_=>show absurd (show Ř=ŗ from e) Jm
 |str a=>
  let⟨t',rfl⟩:=f
  cases x with
  |non=>cases c;show SeqAt.EqAt.str_none a t'
  |bl b=>cases c;show SeqAt.EqAt.str_bool a t' b
  |int b=>let⟨t,rfl⟩:=c;show SeqAt.EqAt.str_int a t' b t
  |str b=>let⟨t,rfl⟩:=c;show SeqAt.EqAt.str_str a t' b t
  |_=>show absurd (show Ř=ŗ from e) Jm
 |_=>show absurd (show Ř=ŗ from g) Jm
noncomputable def ip(x:V)(u:Value):Bool:=match u with
 |.none=>ie .non x
 |.bool b=>ie (.bl b) x
 |.int i _=>ie (.int i) x
 |.str z _=>ie (.str z) x
 |_=>Ř
theorem u0{x y:V}{u:Value}(r:RelV y u)(f:ii y=ŗ):ip x u=ie y x:=by
 cases y with
 |non=>cases r;rfl
 |bl b=>cases r;rfl
 |int i=>let⟨t,rfl⟩:=r;rfl
 |str z=>let⟨t,rfl⟩:=r;rfl
 |_=>show absurd (show Ř=ŗ from f) Jm
theorem qF{x:V}:∀{xs:Y V}{us:Y Value},Vals xs us->xs.all ii=ŗ->us.any (ip x)=xs.any λy=>ie y x
 |_,_,.nil,_=>rfl
 |y::xs,u::us,.cons r t,f=>by rw[MP,JJ]at f;rw[KJ,KJ,u0 r f.1,qF t f.2]
theorem qW{A:Ì}{s:À}{x:V}{v:Value}(g:RelV x v)(e:ii x=ŗ):∀{xs:Y V}{us:Y Value},Vals xs us->xs.all ii=ŗ->∀u∈us,SeqAt.EqAt A s u v (ip x u)
 |_,_,.nil,_=>λu c=>by cases c
 |y::xs,u::us,.cons r t,f=>λu' c=>by
  rw[MP,JJ]at f;rcases IL.mp c with rfl|c
  ·rw[u0 r f.1];show EQ r g f.1 e
  ·show qW g e t f.2 u' c
noncomputable def jE(x:V)(xs:Y V):Bool:=xs.any λy=>ie y x
noncomputable def zL(K:Â)(c:Bool):R2:=λx y H Q=>∃p xs,y=.ref p/\(SqL K H p xs\/SqT K H p xs)/\ii x=ŗ/\xs.all ii=ŗ/\Q (.bl (if c then !jE x xs else jE x xs)) H
theorem EB:cb X (É .In) (zL X.K Ř):=by
 intro j s A H x y v u Q I l z h;let⟨p,xs,rfl,e,g,fs,q⟩:=h;cases z;rcases e with e|e
 ·let⟨c,r,pl,o⟩:=I.list e;refine SeqAt.in_listAt (ip x) pl.isList (λw f=>qW l g r fs w (by simpa using f)) ⟨.bl _,H,I,S,?_⟩;rw[show c.toArray.any (ip x)=c.any (ip x)by simp,qF r fs];show q
 ·let⟨c,r,pl,o⟩:=I.tuple e;refine SeqAt.in_tupleAt (ip x) pl (λw f=>qW l g r fs w (by simpa using f)) ⟨.bl _,H,I,S,?_⟩;rw[show c.toArray.any (ip x)=c.any (ip x)by simp,qF r fs];show q
theorem pF:eg X (.builtin "len") (λxs H Q=>∃p e,xs=[.ref p]/\(SqL X.K H p e\/SqT X.K H p e)/\Q (.int e.length) H):=by
 intro j s x H xs us Q I r h;let⟨p,e,rfl,f,q⟩:=h;let⟨u,rfl,v⟩:=hZ r;cases v;have w:=iQ;rcases f with f|f
 ·let⟨l,g,pl,o⟩:=I.list f;have c:=g.length;show Calls.call_len_list pl.isList (by simp only[IG]<;>omega) ⟨.int e.length,H,I.tok _,⟨s.toks+1,by rw[IG,c]⟩,q⟩
 ·let⟨l,g,pl,o⟩:=I.tuple f;have c:=g.length;show len_tuple pl (by simp only[IG]<;>omega) ⟨.int e.length,H,I.tok _,⟨s.toks+1,by rw[IG,c]⟩,q⟩
theorem Er:eg X (.builtin "len") (λxs H Q=>∃z,xs=[.str z]/\z.length<=sizeLine/\Q (.int z.length) H):=by
 intro c s g H xs us Q I r h;let⟨z,rfl,f,q⟩:=h;let⟨u,rfl,t,rfl⟩:=hZ r;have e:=iQ;show len_str () ⟨.int z.length,H,I.tok _,⟨_,S⟩,q⟩
theorem vZ:eg X (.type "list") (λxs H Q=>∃p j,xs=[.ref p]/\(SqL X.K H p j\/SqT X.K H p j)/\∀l,H l=ŕ->Q (.ref l) (aq H l (.lst j))):=by
 intro z s G H xs us Q I r h;let⟨p,j,rfl,x,q⟩:=h;let⟨u,rfl,F⟩:=hZ r;cases F
 have v:∀(c:Y Value),Vals j c->j.length<=sizeLine->∀(h':Heap)(f:Nat),(∀b o',s.heap.get? b=Z o'->h'.get? b=Z o')->
   h'.get? s.heap.objs.size=Z { cls:=.type "list",dict:=ŕ,data:=.seq c.toArray f,slots:=#[] }->EP X z G Q (.ref s.heap.objs.size) { s with heap:=h' }:=λc g y h' f kp e=>
  ⟨.ref s.heap.objs.size,_,I.laid (t':=s.toks) kp (Iu _) (show ObjOk X.prog X.w _ h' _ (.lst j)from ⟨y,c,f,g,e⟩),S,q _ (I.hok.fresh (Iu _))⟩
 rcases x with x|x
 ·let⟨c,g,pl,y⟩:=I.list x;have w:=g.length;let⟨o,B,A,n,hd⟩:=pl.isList;show call_list_seq p (.inl S) B A hd (λh' f kp e=>v c g y h' f kp e) (by simp only[IG]<;>omega)
 ·let⟨c,g,pl,y⟩:=I.tuple x;have w:=g.length;let⟨o,B,A,n,hd⟩:=pl;show call_list_seq p (.inr S) B A hd (λh' f kp e=>v c g y h' f kp e) (by simp only[IG]<;>omega)
theorem oR:eg X (.type "tuple") (λxs H Q=>∃p f,xs=[.ref p]/\((SqL X.K H p f/\∀l,H l=ŕ->Q (.ref l) (aq H l (.tup f)))\/(SqT X.K H p f/\Q (.ref p) H))):=by
 intro c s z H xs us Q I r h;let⟨p,f,rfl,h⟩:=h;let⟨u,rfl,B⟩:=hZ r;cases B;rcases h with⟨j,q⟩|⟨j,q⟩
 ·let⟨g,v,pl,y⟩:=I.list j;have x:=v.length;refine call_tuple_list pl.isList (λh' kp=>?_) (by simp only[IG]<;>omega);have w:Inv X c z H { s with heap:=h' }:=I.kept (t':=s.toks) kp
  have A:Inv X c z (aq H h'.objs.size (.tup f)) { s with heap:=h'.push { cls:=.type "tuple",data:=.seq g.toArray } }:=
   w.laid (t':=s.toks) (λb o e=>IA _ e) (Iu _) (show ObjOk X.prog X.w _ _ _ (.tup f)from ⟨y,g,v,IsTupD.new _ _⟩)
  show⟨.ref h'.objs.size,_,A,S,q _ (w.hok.fresh (Iu _))⟩
 ·let⟨g,v,pl,y⟩:=I.tuple j;show call_tuple_same pl ⟨.ref p,H,I,S,q⟩
noncomputable def oY(K:Â)(T:String)(x:V)(H:Hp):Prop:=match x with
 |.str _=>T="str"
 |.int _=>T="int"
 |.ref p=>(T="list"/\∃xs,SqL K H p xs)\/(T="tuple"/\((∃xs,H p=Z (.tup xs))\/∃o,K.lookup p=Z o/\o.cls=.type "tuple"/\o.dict=ŕ)) \/
   (T="dict"/\((∃c,H p=Z (.dK c))\/∃c,H p=Z (.dT c)))\/(T="set"/\∃Q n,H p=Z (.set Q n))
 |_=>False
theorem wj{h:Y (Addr×Ô)}{A:St}{H:Hp}{s:À}{T:String}{x:V}{v:Value}(I:Inv X h A H s)(r:RelV x v)(j:oY X.K T x H) :
  s.TypeIs v T/\∀a,v=.ref a->∃l,s.heap.get? a=Z l/\l.dict=ŕ:=by
 cases x with
 |str z=>
  let⟨t,rfl⟩:=r;cases (show T="str" from j);show⟨ĺ s z t,λ_ e=>nomatch e⟩
 |int i=>
  let⟨t,rfl⟩:=r;cases (show T="int" from j);show⟨Mi s i t,λ_ e=>nomatch e⟩
 |ref p=>
  cases r;rcases j with⟨rfl,xs,y⟩|⟨rfl,⟨xs,f⟩|⟨o,f,w,hd⟩⟩|⟨rfl,f⟩|⟨rfl,Q,n,f⟩
  ·let⟨B,_,pl,_⟩:=I.list y;refine⟨pl.isList.typeIs,λa e=>?_⟩;cases e;let⟨o,n,e,c,hd,_⟩:=pl;show⟨o,e,hd⟩
  ·let⟨_,_,_,o,e,⟨c,hd⟩,_⟩:=I.hok p _ f;refine⟨⟨o,e,c⟩,λa g=>?_⟩;cases g;show⟨o,e,hd⟩
  ·refine⟨⟨o,I.kIn p o f,w⟩,λa e=>?_⟩;cases e;show⟨o,I.kIn _ o f,hd⟩
  ·have z:∃o,s.heap.get? p=Z o/\o.ExactDict:=by
    rcases f with⟨u,f⟩|⟨u,f⟩
    ·let⟨_,_,_,_,o,_,_,e,ex,_⟩:=I.hok p _ f;show⟨o,e,ex⟩
    ·let⟨_,_,_,_,o,_,_,e,ex,_⟩:=I.hok p _ f;show⟨o,e,ex⟩
   let⟨o,e,ex⟩:=z;refine⟨⟨o,e,ex.1⟩,λa g=>?_⟩;cases g;show⟨o,e,ex.2.1⟩
  ·let⟨o,_,_,_,e,ex,_⟩:=I.hok p _ f;refine⟨⟨o,e,ex.1⟩,λa g=>?_⟩;cases g;show⟨o,e,ex.2.1⟩
 |_=>show Ñ j
noncomputable def zo(K:Â)(T:String)(r:V->Y V->Hp->VK->Prop)(to:TE):TE:=λe H Q=>to e H λx c=>oY K T x c/\r x [] c Q
noncomputable def D2(K:Â)(T:String)(r:V->Y V->Hp->VK->Prop)(to:TE)(t:TA):TE:=λe H Q=>to e H λx c=>oY K T x c/\t e c λxs f=>r x xs f Q
variable{o e:Ã}{es:Y Ã}{to:TE}{t:TA}{name:Str}{g B:Ö}{T id:String}{r:V->Y V->Hp->VK->Prop}
theorem xX(K:PlainAttrs T)(slot:Slot T name id)(z:typeOf (.builtin id)=pure (.type "method_descriptor"))(G:vm X id r)(J:PE X o to)
  (w:Ë o name X.env (eval o X.env)=eval o X.env:=by rfl) (y:(g.endLine==B.line)=ŗ:=by rfl):PE X (.Call (.Attribute o name g) [] [] B) (zo X.K T r to):=by
 intro c s l H Q I h;refine wpAny_Call_method0_late w y (aI (J c s l H _ I h) λv M u=>?_);let⟨x,p,f,j,N,L⟩:=u;let⟨A,F⟩:=wj f j N;show⟨T,id,K,slot,z,A,F,Ĉ S (PySem.evalArgs_none (G c M l p x [] v [] Q f j .nil L))⟩
theorem kt(U:PlainAttrs T)(slot:Slot T name id)(L:typeOf (.builtin id)=pure (.type "method_descriptor"))(P:vm X id r)(R:PE X o to)(O:PA X (e::es) t)
  (F:Ë o name X.env (eval o X.env)=eval o X.env:=by rfl)
  (J:((backTo B (starEach (e::es) X.env)).all (λx=>!x.1)&&(â B (Õ [] X.env)).all (λx=>x.1.isSome)
   && decide ((e::es).length+([]:Y Ü).length+(if ([]:Y Ü).isEmpty then 0 else 1)<30))=ŗ:=by rfl)
  (G:(g.endLine==B.line)=ŗ:=by rfl) (a_:starEach (e::es) X.env=(Ř,eval e X.env)::starEach es X.env:=by rfl) (K:(backTo B (starEach es X.env)).any (·.1)=Ř:=by rfl) :
  PE X (.Call (.Attribute o name g) (e::es) [] B) (D2 X.K T r to t):=by
 intro c s f H Q I h;refine wpAny_Call_method_late F J G S (aI (R c s f H _ I h) λv s1 z=>?_);let⟨x,u,j,p,ty,be⟩:=z;let⟨M,N⟩:=wj j p ty;refine⟨T,id,U,slot,L,M,N,?_⟩;have l:=O B c s1 f u _ j be;rw[a_]at l ⊢;refine Ĉ (by change (Ř ||(backTo B (starEach es X.env)).any (·.1))=Ř;rw[K]<;>rfl) (Calls.evalArgs_plain ?_)
 show aI l λus s2 A=>by let⟨vs,w,y,r2,b_⟩:=A;show P c s2 f w x vs v us Q y p r2 b_
end
noncomputable def ox(X:Cx)(id:String)(r:V->Y V->Hp->VK->Prop):Prop:=
 ∀(a:Y (Addr×Ô))(s:À)(c:St)(H:Hp)(x:V)(xs:Y V)(v:Value)(us:Y Value)(Q:VK),Inv X a c H s->RelV x v->Vals xs us->r x xs H Q->
  wpAny (Ä X.prog X.w) X.A (call (.builtin id) (v::us)) (EP X a c Q) X.xe s
theorem Vals.one:∀{x:V}{us:Y Value},Vals [x] us->∃u,us=[u]/\RelV x u
 |_,_,.cons r .nil=>⟨_,S,r⟩
theorem Vals.zero:∀{us:Y Value},Vals [] us->us=[]
 |_,.nil=>rfl
theorem Vals.dropLast{xs:Y V}{us:Y Value}(h:Vals xs us):Vals xs.dropLast us.dropLast:=by
 induction h with
 |nil=>show .nil
 |cons r t a=>
  cases t with
  |nil=>show .nil
  |cons q t'=>show .cons r a
theorem Vals.eraseIdx:∀{xs:Y V}{us:Y Value}(i:Nat),Vals xs us->Vals (xs.eraseIdx i) (us.eraseIdx i)
 |_,_,_,.nil=>.nil
 |_,_,0,.cons _ t=>t
 |_,_,i+1,.cons r t=>.cons r (Vals.eraseIdx i t)
theorem Vals.rep{xs:Y V}{us:Y Value}(h:Vals xs us):∀k:Nat,Vals (List.replicate k xs).flatten (List.replicate k us).flatten
 |0=>.nil
 |k+1=>by rw[JL,JL,Jn,Jn];show Vals.append h (Vals.rep h k)
theorem A9{f:Type}(l:Y f):l.eraseIdx (l.length-1)=l.dropLast:=by
 induction l with
 |nil=>rfl
 |cons a r c=>
  cases r with
  |nil=>rfl
  |cons b r=>
   have e:(a::b::r).length-1=((b::r).length-1)+1:=by
    have g:(a::b::r).length=r.length+2:=rfl;have h:(b::r).length=r.length+1:=rfl;omega
   rw[e,List.eraseIdx_cons_succ,c]
   all_goals rfl
theorem pI{a:Type}:∀(l:Y a)(i:Nat),(l.eraseIdx i).length<=l.length
 | [],_=>Iu _
 |_::_,0=>Nat.le_succ _
 |_::r,i+1=>Nat.succ_le_succ (pI r i)
theorem pO(c:Y Value):∀(k:Nat)(a:Y Value),
  List.foldl (λg h=>g++h) a.toArray (List.replicate k c.toArray)=(a++(List.replicate k c).flatten).toArray
 |0,a=>by simp
 |k+1,a=>by
  have e:a.toArray++c.toArray=(a++c).toArray:=by simp
  have f:(a++c)++(List.replicate k c).flatten=a++(List.replicate (k+1) c).flatten:=by rw[JL,Jn,IJ]
  rw[←f,←pO c k (a++c),←e,JL,List.foldl_cons]
section
variable{X:Cx}{a:Y (Addr×Ô)}{c:St}{H:Hp}{s:À}{l:Addr}{xs g:Y V}
theorem Inv.lset{h Ng:Y Value}{n:Nat}{f:Array Value->Array Value}{t':Nat}(I:Inv X a c H s)(j:H l=Z (.lst xs))
  (e:s.heap.get? l=Z { cls:=.type "list",data:=.seq h.toArray n }) (p:f h.toArray=Ng.toArray) (v:Vals g Ng) (w:g.length<=sizeLine) :
  Inv X a c (aq H l (.lst g)) { s with heap:=s.heap.update l (õ f),toks:=t' }:=by
 have q:=PySem.IsL.update e f;rw[p]at q;refine I.write (x:=l) (e:=l) (by rw[j];show trivial) (.inl S) (λy u o r=>(Heap.get?_update_other s.heap (õ f) (JD o)).trans r) ⟨_,q⟩ ?_;show⟨w,Ng,_,v,q⟩
theorem Inv.lnew{e:Y Value}{t':Nat}(I:Inv X a c H s)(f:Vals g e)(h:g.length<=sizeLine) :
  Inv X a c (aq H s.heap.objs.size (.lst g)) { s with heap:=s.heap.push { cls:=.type "list",data:=.seq e.toArray },toks:=t' }:=
 I.laid (λ_ _ q=>IA _ q) (Iu _) ⟨h,e,0,f,IM _ S⟩
theorem Inv.fresh(I:Inv X a c H s):H s.heap.objs.size=ŕ:=I.hok.fresh (Iu _)
theorem Inv.lstM(I:Inv X a c H s)(h:H l=Z (.lst xs)):xs.length<=sizeLine/\∃(f:Y Value)(n:Nat),Vals xs f/\xs.length=f.length/\s.heap.get? l=Z { cls:=.type "list",data:=.seq f.toArray n }:=by let⟨z,f,n,r,e⟩:=I.hok l _ h;show⟨z,f,n,r,r.length,e⟩
theorem Ci{n:Nat}(h:n<=sizeLine):Builtin.List.listTooLong n=Ř:=by unfold Builtin.List.listTooLong;show Jb ()
end
section
variable{X:Cx}
noncomputable def zZ:V->Y V->Hp->VK->Prop:=λx vs H Q=>∃l xs y,x=.ref l/\vs=[y]/\H l=Z (.lst xs)/\xs.length<sizeLine/\Q .non (aq H l (.lst (xs++[y])))
theorem mw:ox X "list.append" zZ:=by intro f s A H x vs v us Q I o j h;let⟨l,xs,y,rfl,rfl,c,w,q⟩:=h;cases o;let⟨u,rfl,g⟩:=j.one;let⟨z,a,n,r,p,e⟩:=I.lstM c;refine KP F.slot_list_append ⟨_,e,S⟩ F.entry_list_append (F.args_list_append_2 _ _) (PySem.list_append l a.toArray n u (by rw[IG];omega)) ⟨e,?_⟩;refine⟨.non,_,I.lset (Ng:=a++[u]) c e (by simp) (r.append (.cons g .nil)) ?_,S,q⟩;rw[Io,IX];omega
noncomputable def FH:V->Y V->Hp->VK->Prop:=λx vs H Q=>∃l xs y,x=.ref l/\vs=[]/\H l=Z (.lst xs)/\xs[xs.length-1]?=Z y/\Q y (aq H l (.lst xs.dropLast))
theorem D8:ox X "list.pop" FH:=by
 intro f s E H x vs v us Q I C B h;let⟨l,xs,y,rfl,rfl,c,w,q⟩:=h;cases C;have j:=B.zero;subst j;let⟨z,a,n,r,o,e⟩:=I.lstM c;let⟨u,p,A⟩:=r.get w
 have g:a.toArray[a.toArray.size-1]?=Z u:=by change a.toArray[a.length-1]?=Z u;rw[←MH,←o];show p
 refine KP F.slot_list_pop ⟨_,e,S⟩ F.entry_list_pop (F.args_list_pop_1 _) (MeetsSeq.list_pop_last l a.toArray n u g (by rw[IG];omega)) ⟨e,?_⟩;refine⟨y,_,I.lset (Ng:=a.dropLast) c e ?_ r.dropLast ?_,A,q⟩
 ·change a.toArray.eraseIdxIfInBounds (a.toArray.size-1)=a.dropLast.toArray;rw[IG,KY,A9]
 ·rw[List.length_dropLast];omega
noncomputable def Hl:V->Y V->Hp->VK->Prop:=λx vs H Q=>∃l xs i k y,x=.ref l/\vs=[.int i]/\H l=Z (.lst xs)/\-(2^63)<=i/\i<2^63/\ā i xs.length=Z k/\xs[k]?=Z y/\Q y (aq H l (.lst (xs.eraseIdx k)))
theorem Hy:ox X "list.pop" Hl:=by
 intro f s K H x vs v us Q I J G h;let⟨l,xs,i,k,y,rfl,rfl,c,j,o,p,C,q⟩:=h;cases J;let⟨u,rfl,E⟩:=G.one;let⟨t,rfl⟩:=E;let⟨z,a,n,r,A,e⟩:=I.lstM c;let⟨w,B,g⟩:=r.get C
 refine KP F.slot_list_pop ⟨_,e,S⟩ F.entry_list_pop (F.args_list_pop_2 _ _)
  (MeetsSeq.list_pop_at l a.toArray n i t k w (fitsIndex_both j o) (by rw[IG,←A];show p) (by rw[←MH];show B) (by rw[IG];omega)) ⟨e,?_⟩
 refine⟨y,_,I.lset (Ng:=a.eraseIdx k) c e ?_ (r.eraseIdx k) ?_,g,q⟩
 ·change a.toArray.eraseIdxIfInBounds k=(a.eraseIdx k).toArray;rw[KY]
 ·have:=pI xs k;omega
noncomputable def CA:R2:=λx y H Q=>∃l b xs a,x=.ref l/\y=.ref b/\H l=Z (.lst xs)/\H b=Z (.lst a)/\xs.length+a.length<=sizeLine/\∀p,H p=ŕ->Q (.ref p) (aq H p (.lst (xs++a)))
theorem Bh:cb X (Ï .Add) CA:=by
 intro f s K H x y v u Q I A B h;let⟨l,b,xs,J,rfl,rfl,p,o,F,q⟩:=h;cases A;cases B;let⟨z,a,n,r,E,e⟩:=I.lstM p;let⟨G,c,n2,w,C,g⟩:=I.lstM o;refine PySem.P.add_list e g ?_ (by rw[IG,IG];omega)
 have j:a.toArray++c.toArray=(a++c).toArray:=by simp
 rw[j];show⟨.ref _,_,I.lnew (t':=s.toks) (r.append w) (by rw[Io];omega),S,q _ I.fresh⟩
noncomputable def wX:R2:=λx y H Q=>∃l k xs,x=.ref l/\y=.int k/\H l=Z (.lst xs)/\-(2^63)<=k/\k<2^63/\xs.length*k.toNat<=sizeLine /\
 ∀p,H p=ŕ->Q (.ref p) (aq H p (.lst (List.replicate k.toNat xs).flatten))
theorem pE{c:Type}(xs:Y c)(k:Nat):(List.replicate k xs).flatten.length=k*xs.length:=by
 induction k with
 |zero=>simp
 |succ k a=>rw[JL,Jn,Io,a,Nat.succ_mul,Nat.add_comm]
theorem At:cb X (Ï .Mult) wX:=by
 intro p s R H x y v u Q I M N h;let⟨l,k,xs,rfl,rfl,K,G,J,o,q⟩:=h;cases M;let⟨t,rfl⟩:=N;let⟨z,c,n,r,L,e⟩:=I.lstM K
 have f:c.toArray.size*k.toNat<=sizeLine:=by rw[IG,←L];show o
 have A:¬ c.toArray.size*k.toNat>(2^63-1)/8:=by
  have:(sizeLine:Nat)<=(2^63-1)/8:=by decide
  omega
 have C:¬ (!Builtin.List.listFitsIndex k)=ŗ:=by rw[fitsIndex_both G J];show Jm
 have B:¬ Builtin.List.listTooLong (c.toArray.size*k.toNat)=ŗ:=by rw[Ci f];show Jm
 have w:List.foldl (λg j=>g++j) #[] (List.replicate (if c.toArray.isEmpty=ŗ then 0 else k.toNat) c.toArray)=(List.replicate k.toNat c).flatten.toArray:=by
  have E:∀m:Nat,List.foldl (λg j=>g++j) #[] (List.replicate m c.toArray)=(List.replicate m c).flatten.toArray:=λm=>by have:=pO c m [];rw[Lj]at this;show this
  rw[E]
  cases c with
  |nil=>simp
  |cons a P=>rw[Ir (by simp)]
 refine ē (T:="list") (U:="int") 'b' ⟨_,e,S⟩ (λO=>Mi O k t) noFill_list_mul F.fills_int_mul LS repeat_list F.slot_int_index.lookup
  (KP LS (Mi s k t) F.entry_int_rmul (F.args_int_rmul_2 _ _) (int___rmul___int_list k t l c.toArray n)
   ⟨e,S,⟨_,e,S⟩,KP F.slot_list_mul ⟨_,e,S⟩ F.entry_list_mul (F.args_list_mul_2 _ _) (AutoListH.list___mul___list_int_3 l c.toArray n k t C A B) ⟨e,?_⟩⟩)
 rw[w];show⟨.ref _,_,I.lnew (t':=s.toks) (r.rep k.toNat) (by rw[pE,Mq];show o),S,q _ I.fresh⟩
end
end L2
namespace Att
open PySem PySem.W PySem.Calls PyProof.Rows
theorem xh{P:ī}{h:Heap}:∀(ns:Y Int)(vs:Y Value),WellAll P h vs (ns.map Ŕ)->Į vs ns:=by
 intro ns
 induction ns with
 |nil=>
  intro vs w;rw[List.map_nil]at w;cases w;show .nil
 |cons n ns c=>
  intro vs w;rw[IQ]at w
  cases w with
  |cons a b=>
   cases a;show .cons _ _ (c _ b)
theorem GH{l:OpenLaw}{n:Nat}(y:l.most=Z n){P:ī}{h:Heap}{args:Y WData}{vals:Y Value}
  (g:l.row.toRowW.claim.pre args=ŗ) (o:WellAll P h vals args) :
  ∃a vs ns,vals=[Value.ref a]/\args=[WData.list (ns.map Ŕ)]/\h.get? a=Z { cls:=.type "list",data:=.seq vs.toArray }/\Į vs ns/\ns.length<=n:=by
 have u:WShape.hasAll [] args [.list .int]=ŗ:=(pre_splitW g).1;have j:l.pre.holds [] { args:=args }=ŗ:=(pre_splitW g).2;let⟨d,r,rfl,v,w⟩:=hasAllW_cons u;obtain rfl:=hasAllW_nil w;let⟨xs,rfl,x⟩:=hasW_list v;let⟨ns,rfl⟩:=items_int x
 have c:ns.length<=n:=by
  unfold OpenLaw.pre at j
  have e:(WTm.not (.lt (.lit (.int (n:Int))) (.len (.arg 0)))).holds [] { args:=[.list (ns.map .int)] }=ŗ:=by have e:=(holds_andW j).1;rw[y]at e;show e
  have f:=condW_of e (w_not (w_lt w_lit (w_len_list (w_arg S))));rw[Il]at f;refine Nat.le_of_not_lt λq=>?_
  have A:(n:Int)<((ns.length:Nat):Int):=by omega
  first
   |(rw[Jh A]at f;show absurd f 'b')
   |(simp at f;omega)
 cases o with
 |cons B C=>
  cases C
  cases B with
  |list z p=>show⟨_,_,ns,S,S,z,xh ns _ p,c⟩
theorem He(l:OpenLaw)(args:Y WData):l.row.toRowW.claim.post args (.bool ŗ) args=ŗ:=
 postW_of (r:=l.row.toRowW) (X:=(ŗ==ŗ))
  (show ņ [] (.bool ŗ) .bool=ŗ by first|rfl|decide|simp[ņ,WShape.arms,WShape.armsAll])
  (show (WTm.eq .res (.lit (.bool ŗ))).value [] { args:=args,res:=Z (.bool ŗ),after:=args }=Z (.bool (ŗ==ŗ))from w_eq_bool (w_res S) w_lit) S
theorem attach_call{l:OpenLaw}{n:Nat}{q:Å}{e:Y Str}{z:(Str->Ŗ Value)->Heap->Prop}{A:È->Heap->Prop}{d:DefRec}
  (a_:l.most=Z n) (H:d.params.defaults=[])
  (call:∀(w:È)(s₀ c:À)(mg x:Str->Ŗ Value)(j:Addr)(o:Ô)(y u g:Value)(a:Addr)(vs:Y Value)(ns:Y Int),
   Ground q e [] z w s₀ mg x c.heap->A w c.heap->
   c.heap.get? j=Z o->o.data=.func (docDef d.name d.params d.body d.scope y u g)->c.heap.CodeRec u d.name->mg d.name=Z (.ref j)->
   c.heap.get? a=Z { cls:=.type "list",data:=.seq vs.toArray }->Į vs ns->ns.length<=n->c.gens=#[]->
   í (Ä l.prog w) ý (.call (.ref j) ⟨[.ref a],[]⟩) (λr v=>r=.ok (.ret (.bool ŗ))/\OldK c.heap v.heap/\v.os=c.os/\ð v.gens) c) :
  WalkO q e z A l.row.toRowW d [] (λf vs=>PySem.call f vs):=by
 intro w s₀ c mg x G be j o y u g L kV T hd E B J P args vals as F C X I Q;obtain rfl:L=.none:=Dflts.none B H;obtain rfl:kV=.none:=Dflts.noKw B;let⟨a,vs,ns,rfl,rfl,K,h,p⟩:=GH a_ F I;refine enter_call (Mn (call w s₀ c mg x j o y u g a vs ns G be T (fd_plain hd) E J K h p P) λr v U=>?_);let⟨rfl,M,N,O⟩:=U;show⟨.inl ⟨.bool ŗ,.bool ŗ,[],S,λ_=>rfl,.bool ŗ,He l _,λ_=>⟨List.Pairwise.nil,λ_ R=>(nomatch R)⟩⟩,M,N,O⟩
end Att
namespace L2
open PySem PySem.Spec PyProof.Rows
theorem sU:∀{vs:Y Value}{ns:Y Int},Į vs ns->Vals (ns.map V.int) vs
 |_,_,.nil=>.nil
 |_,_,.cons n t h=>.cons ⟨t,S⟩ (sU h)
noncomputable def ph(H:Hp):Prop:=∀b,H b=ŕ\/∃o xs,H b=Z (.frz o (.lst xs))
theorem EL{P:Å}{w:È}{K:Â}{mg a_:Str->Ŗ Value}{CX:eu}{k:Nat}{O a:Addr}{X:Í}{x:Str}{sp:Sp}{c:À}{vs:Y Value}{ns:Y Int}
  (T:K.In c.heap) (I:c.heap.Ns Á mg) (g:c.heap.Ns æ a_) (Tj:∀x:Str,x≠"__name__"->a_ x=Ú x) (Uc:c.heap.NoLimit)
  (Ud:∃f p,mg "__builtins__"=Z (.ref f)/\f≠æ/\c.heap.get? f=Z p/\p.cls=.type "module"/\p.dict=Z æ/\p.data=.plain) (L:c.heap.NoSeer) (Q:∃j,c.heap.Ns cStatics j/\j "sys.int_max_str_digits"=ŕ) (hg:c.gens=#[])
  (C:c.heap.get? a=Z { cls:=.type "list",data:=.seq vs.toArray }) (b_:Į vs ns) (hl:ns.length<=sizeLine) (hr:Room k ý)
  (F:∀base:Heap,K.In base->base.Ns Á mg->FnOk P w K mg base CX k O X [x] sp) (R3:∀(s:À)(u:Value),Č s X ⟨[u],[]⟩ [(x,u)])
  (OR:∀H:Hp,ph H->SqL K H a (ns.map V.int)->sp [.ref a] H (λv _=>v=.bl ŗ) λ_ _ _=>False)
  (Ue:∀H e l,CX [] H c (λ_ _ _=>False) e l->False) :
  í (Ä P w) ý (.call (.ref O) ⟨[.ref a],[]⟩) (λr l=>r=.ok (.ret (.bool ŗ))/\OldK c.heap l.heap/\l.os=c.os/\ð l.gens) c:=by
 have rv:=sU b_;have Ug:=b_.length
 have A:∀H:Hp,ph H->SqL K H a (ns.map V.int)->HOk P w H c.heap->(∀b,H b≠ŕ->b=a)->(H a≠ŕ->K.lookup a=ŕ)->
   í (Ä P w) ý (.call (.ref O) ⟨[.ref a],[]⟩) (λr l=>r=.ok (.ret (.bool ŗ))/\OldK c.heap l.heap/\l.os=c.os/\ð l.gens) c:=by
  intro H be hS hok N hK;have M:∀{b:Addr}{o:Ô},c.heap.get? b=Z o->H b=ŕ->(ic c.heap H).get? b=Z o:=λe n=>AH e n
  have RX:∀{b:Addr}{o:Ô}{es:Array DictEntry}{E:Nat},c.heap.get? b=Z o->o.data=.dict es E->H b=ŕ:=λ{b o es E} e d=>by
   cases q:H b with
   |none=>rfl
   |some u=>
    have B:b=a:=N b (by rw[q];simp);subst B;rw[C]at e;cases e;have d':ù vs.toArray _=Data.dict es E:=d;cases d'
  have y:∀{b:Addr}{m:Str->Ŗ Value},c.heap.Ns b m->(ic c.heap H).Ns b m:=λ{b m} MY=>by let⟨o,es,E,e,d,r⟩:=MY;show⟨o,es,E,M e (RX e d),d,r⟩
  have G:K.In (ic c.heap H):=λb o e=>M (T b o e) (by
   cases q:H b with
   |none=>rfl
   |some u=>
    have B:b=a:=N b (by rw[q];simp);subst B
    rw[hK (by rw[q];simp)]at e;cases e)
  have hM:Mod K mg (ic c.heap H):=⟨G,y I,⟨a_,y g,Tj⟩,let ⟨j,h1,h2⟩:=Uc;⟨j,y h1,h2⟩,let ⟨f,p,b1,b2,b3,b4,b5,b6⟩:=Ud;⟨f,p,b1,b2,M b3 (by
   cases q:H f with
   |none=>rfl
   |some u=>
    have B:f=a:=N f (by rw[q];simp)
    rw[B,C]at b3;cases b3;injection b4 with z;show absurd z 'b'),b4,b5,b6⟩,
   ⟨let ⟨j,h1,h2⟩:=L.statics;⟨j,y h1,h2⟩,let ⟨j,h1,h2⟩:=L.mods;⟨j,y h1,h2⟩,let ⟨j,h1,h2⟩:=L.imp;⟨j,y h1,h2⟩,let ⟨m1,f,p,n1,b1,b3,b4,b5⟩:=L.main;⟨m1,f,p,y n1,b1,M b3 (by
   cases q:H f with
   |none=>rfl
   |some u=>
    have B:f=a:=N f (by rw[q];simp)
    rw[B,C]at b3;cases b3;injection b4 with z;show absurd z 'b'),b4,b5⟩⟩,let ⟨j,h1,h2⟩:=Q;⟨j,y h1,h2⟩⟩
  have e0:Env0 P w K mg (ic c.heap H) ý [] c H:=⟨S,hM,λb o e=>GP e,Mm (CP _ _),trivial,λb g=>absurd (show b∈([]:Y Addr)from g) (by simp),hok,.of_eq hg⟩;refine Mn ((F _ G (y I)).run ý [] c H ⟨[.ref a],[]⟩ [.ref a] [.ref a] _ _ hr e0 (R3 c (.ref a)) (.cons S .nil) (OR H be hS)) λr l h=>?_
  cases r with
  |error e=>show (Ue H e l h).elim
  |ok fl=>
   cases fl with
   |next=>show Ñ h
   |brk=>show Ñ h
   |cont=>show Ñ h
   |ret u=>
    let⟨v,H',os,bare,un,Uh,r',q⟩:=h;have q':v=.bl ŗ:=q;subst q';obtain rfl:u=Value.bool ŗ:=r';refine⟨S,OldK.of_keep λb o e=>?_,os,bare⟩
    cases q:H b with
    |none=>show un.keep b o e q (by intro z;show absurd (show b∈([]:Y Addr)from z) (by simp)) (by simp)
    |some u=>
     rcases be b with z|⟨p,xs,z⟩
     ·rw[q]at z;cases z
     ·have z2:=un.frzs b p _ z;let⟨U,_⟩:=hok b _ z;let⟨e2,_⟩:=Uh b _ z2;rw[e]at U;cases U;show e2
 cases R:K.lookup a with
 |some o=>
  have e:=T a o R;rw[C]at e;cases e;refine A (λ_=>ŕ) (λ_=>.inl S) (.inr ⟨_,vs.toArray,_,R,S,S,S,by rw[IG,Ug];show hl,by simpa using rv⟩) (λb u z=>by have J:(ŕ:Ŗ HO)=Z u:=z;cases J) (λb z=>absurd S z) λz=>absurd S z
 |none=>
  refine A (λb=>if b=a then Z (.frz { cls:=.type "list",data:=.seq vs.toArray } (.lst (ns.map V.int))) else ŕ) (λb=>?_) (.inl (.inr ⟨{ cls:=.type "list",data:=.seq vs.toArray },Iw S⟩)) (λb u z=>?_) (λb z=>?_) λ_=>R
  ·by_cases g:b=a
   ·show .inr ⟨_,_,Iw g⟩
   ·show .inl (Ir g)
  ·by_cases g:b=a
   ·have J:=(Iw g).symm.trans z;cases J;subst g;show⟨C,by rw[Il];show hl,vs,_,rv,C⟩
   ·have J:=(Ir g).symm.trans z;cases J
  ·by_cases g:b=a
   ·show g
   ·show absurd (Ir g) z
theorem walk_of{l:PySem.W.OpenLaw}{n k:Nat}{q:Å}{j:Y Str}{N:(Str->Ŗ Value)->Heap->Prop}{B:È->Heap->Prop}{d:DefRec}{K:ī->Â}{CX:È->eu}{sp:È->Sp}{x:Str}
  (b_:l.most=Z n) (L:n<=sizeLine) (E:d.params.defaults=[]) (X:importsNone q=ŗ) (hr:Room k ý)
  (a_:∀(w:È)(h:Heap),B w h->(K w.params).In h)
  (F:∀(w:È)(mg:Str->Ŗ Value)(r:Addr)(h:Heap),(K w.params).In h->h.Ns Á mg->mg d.name=Z (.ref r)->
   ∃y:Í,(∀(s:À)(u:Value),Č s y ⟨[u],[]⟩ [(x,u)]) /\
    ∀base:Heap,(K w.params).In base->base.Ns Á mg->FnOk l.prog w (K w.params) mg base (CX w) k r y [x] (sp w))
  (C:∀(w:È)(H:Hp)(a:Addr)(ns:Y Int),ns.length<=n->ph H->SqL (K w.params) H a (ns.map V.int)->sp w [.ref a] H (λv _=>v=.bl ŗ) λ_ _ _=>False)
  (M:∀(w:È)(H:Hp)(s:À)(e:Value)(z:À),CX w [] H s (λ_ _ _=>False) e z->False) :
  PySem.W.WalkO q j N B l.row.toRowW d [] (λf vs=>PySem.call f vs):=by
 refine Att.attach_call b_ E λw s₀ p mg mb r o pm cd O a vs ns G be ho hd M9 I J g c U=>?_;have A:=a_ w _ be;let⟨y,T,P⟩:=F w mg r _ A G.T.g I;show EL A G.T.g G.T.b G.T.builtins G.T.nolimit G.T.bmain (G.T.seer X) G.T.nodigits U J g (IU c L) hr P T (λH Q R=>C w H a ns c Q R) λH e z=>M w H p e z
end L2
/- THE LAST Tn (shape; LID, My.* are yours):
   My.Adr: a structure of To addresses that your layer names (classes, RF); My.Txt K t: a structure (Prop) of To equations over K;
   My.txt_mk : {K} {implicit addresses ..} (e1 : nsIn K mainGlobals "law" = some (some (.ref f))) (e2 : K.lookup f = some ⟨oc, od, .func (fnOf "law" "law" params body scope dV kV doc pm an M5 ct), sl⟩) (e3 : codeIn K M5 "law" = true) .. : ∃t, My.Txt K t
set_option maxRecDepth 100000 in
set_option maxHeartbeats 0 in
theorem PySem.Challenge.cw_LID_holds : PySem.Challenge.rw_LID.Holds := by
 w_on;o_law;k_head;(case hw=>w_witness2)
 k_fill
 refine L2.walk_of (l:=PySem.Challenge.rw_LID) (n:=63) (k:=40) (x:="script") (CX:=λw=>..) (sp:=λ_=>My.sp_law) S 'b' S ⟨S,'b','b'⟩ (λw h U=>kIn_of U) ?F ?Q ?C
 case F=>
  intro w mg fa h KX G Rb
  have T:∃t,My.Txt (L2.KOf KX) t:=by
   dsimp only[L2.KOf]                          -- K must stand as «<heap const> w.params» for k_is;refine' My.txt_mk ?e1 ?e2 ?e3 ..
   (case e1=>PySem.W.k_is)                    -- in To order: a name-> MZ address-> MZ object-> MZ parts
   (case e2=>PySem.W.k_is)
   ..
  let⟨t,T⟩:=T;have e0:=Rb.symm.trans (mg_of KX G T.law);cases e0                                       -- fa is To law's own address
  show⟨_,λs u=>.of_eq S,λbase kb nb=>My.law_fn T kb nb⟩     -- if «.of_eq S» comes too early: refine' ⟨_,?b,λbase kb nb=>My.law_fn T kb nb⟩;show λs u=>.of_eq S
 case Q=>show λw H a ns hl hO hS=>..
 case C=>show ..
(To tactic k_is has no namespace: write k_is) -/
namespace L2
open PySem PySem.Spec PyProof.Rows
noncomputable def fV(s:Ç)(j:Nat):Ç:=match s with
 |.ClassDef _ _ _ a _ _ _ _ _ _ _=>a.getD j (.Pass ⟨0,0,0,0⟩)
 |_=>.Pass ⟨0,0,0,0⟩
noncomputable def iT(s:Ç):Arguments:=match s with
 |.FunctionDef _ a _ _ _ _ _ _ _ _=>a
 |_=>{ posonlyargs:=[],args:=[],vararg:=ŕ,kwonlyargs:=[],kw_defaults:=[],kwarg:=ŕ,defaults:=[] }
noncomputable def gu(s:Ç):Y Ç:=match s with
 |.FunctionDef _ _ b _ _ _ _ _ _ _=>b
 |_=>[]
noncomputable def av(s:Ç):ß:=match s with
 |.FunctionDef _ _ _ _ _ _ a _ _ _=>a
 |_=>{ kind:=.function,names:=[],isGenerator:=Ř,isCoroutine:=Ř }
noncomputable abbrev aN:eu:=λ_ _ _ _ _ _=>False
noncomputable abbrev E0:XK:=λ_ _ _=>False
theorem jp{X:Cx}:iZ aN X E0:=λ_ _ _ _ _ _ _ h=>h.elim
structure Fun(K:Â)(x qual:Str)(st:Ç)(f:Addr)(fd:Í):Prop where
 ex:∃(oc:Value)(od:Option Addr)(kV doc pm:Value)(an:Option Addr)(M5 ct:Value)(PU:Array (Option Value)),
  fd=ę x qual (iT st) (gu st) (av st) .none kV doc pm an M5 ct/\K.lookup f=Z ⟨oc,od,.func fd,PU⟩/\ă K M5 qual=ŗ
 kp:ã K (.ref f)=ŗ
section
variable{P:Å}{w:È}{K:Â}{mg:Str->Ŗ Value}{base:Heap}
theorem Fun.ok{x qual:Str}{st:Ç}{f:Addr}{c:Í}{N ps:Y Str}{k:Nat}{sp:Sp}(F:Fun K x qual st f c)(U:FnScope N ps (av st))(len:∀vs H Q E,sp vs H Q E->vs.length=ps.length)
  (j:∀(a:Value)(A:Ì)(outer:Y ì)(s:À)(H:Hp)(vs:Y V)(Q:VK)(E:XK),Room k (A.deeper (ê qual (av st) s.heap.objs.size f a))->sp vs H Q E->
   ∃t,PSs (iu aN P w K mg base N qual (av st) f a A outer s H E).nox (gu st) t/\t { nx:=λ_ e=>Q .non e,rt:=Q } (eQ N vs) H):FnOk P w K mg base aN (k+1) f c ps sp:=by
 let⟨v,y,kV,o,z,u,a,ct,r,rfl,lk,g⟩:=F.ex;refine se lk g U len λA outer s H vs Q E p l=>?_;let⟨t,h,q⟩:=j a A outer s H vs Q E p l;show⟨t,h.nox,q⟩
theorem Fun.binds{x qual:Str}{st:Ç}{f:Addr}{j:Í}{ps:Y Str}(F:Fun K x qual st f j)
  (h:∀(kV a g:Value)(e:Ŗ Addr)(c ct:Value)(us:Y Value),us.length=ps.length->bindArgs (ę x qual (iT st) (gu st) (av st) .none kV a g e c ct) ⟨us,[]⟩=pure (ps.zip us)):Binds K j ps []:=by
 let⟨p,r,kV,a,g,e,c,ct,o,rfl,lk,l⟩:=F.ex;show .all (h kV a g e c ct)
theorem wl{x qual:Str}{st:Ç}{f:Addr}{o:Value}{p g:Ŗ Addr}{j:Array (Ŗ Value)}{kV a h e ct:Value}(l:K.lookup f=Z ⟨o,p,.func (ę x qual (iT st) (gu st) (av st) .none kV a h g e ct),j⟩)
  (c:ă K e qual=ŗ) (k:ã K (.ref f)=ŗ):Fun K x qual st f (ę x qual (iT st) (gu st) (av st) .none kV a h g e ct):=⟨⟨o,p,kV,a,h,g,e,ct,j,S,l,c⟩,k⟩
end
theorem br{n:Nat}(h:n<=1000):n<sizeLine:=K0 h 'b'
section
variable{X:Cx}
theorem pv(i:Nat){x:Str}{a:Ö}(e:X.N[i]?=Z x:=by rfl)(f:cR X.env.scope x:=by nofun)(hd:ab x:=by decide)
  (c:fI x:=by decide):PE X (.Name x a) (kq i):=xf e f hd c
end
theorem jA{A B:Prop}(h:B):if Ř=ŗ then A else B:=by rw[Ir Jm];show h
theorem jL{A B:Prop}(h:A):if ŗ=ŗ then A else B:=by rw[Iw S];show h
noncomputable def Same(H a:Hp):Prop:=∀b o,H b=Z o->a b=Z o
theorem Same.refl(H:Hp):Same H H:=λ_ _ h=>h
theorem Same.trans{H e f:Hp}(a:Same H e)(b:Same e f):Same H f:=λc o h=>b c o (a c o h)
theorem Same.free{H a:Hp}(e:Same H a){l:Addr}(h:a l=Ľ):H l=Ľ:=by
 cases q:H l with
 |none=>rfl
 |some o=>
  rw[e l o q]at h;cases h
theorem Same.seq{K:Â}{H c:Hp}{a:Addr}{xs:Y V}(e:Same H c)(h:SqL K H a xs):SqL K c a xs:=by
 rcases h with (h|⟨o,h⟩)|h
 ·show .inl (.inl (e _ _ h))
 ·show .inl (.inr ⟨o,e _ _ h⟩)
 ·show .inr h
section
variable{a:Type}[DecidableEq a]
noncomputable def fw(c:Y (a×V))(k:a):Ŗ V:=(c.find? λe=>decide (e.1=k)).map (·.2)
noncomputable def fQ(e:Y (a×V))(k:a)(v:V):Y (a×V):=
 if (e.any λc=>decide (c.1=k))=ŗ then e.map (λc=>if c.1=k then (c.1,v) else c) else e++[(k,v)]
theorem ny{p:a×V}{r:Y (a×V)}{k:a}(e:p.1=k):fw (p::r) k=Z p.2:=by simp[fw,Kn,e]
theorem l7{p:a×V}{r:Y (a×V)}{k:a}(e:¬ p.1=k):fw (p::r) k=fw r k:=by simp[fw,Kn,e]
theorem sT(k:a):∀c:Y (a×V),(c.any λf=>decide (f.1=k))=(fw c k).isSome
 | []=>rfl
 |p::r=>by
  rw[KJ];by_cases e:p.1=k
  ·simp only[ny e,Jh e,Bool.true_or,ĕ]
  ·rw[l7 e,Jb e,Bool.false_or];show sT k r
theorem ut(c:Y (a×V))(k:a)(v:V):(fQ c k v).length<=c.length+1:=by
 unfold fQ;split
 ·rw[Il];omega
 ·rw[Io,IH,J3];omega
theorem RelO.isSome_eq{o:Ŗ V}{u:Ŗ Value}(r:RelO o u):o.isSome=u.isSome:=by
 cases o with
 |none=>cases u with
  |none=>rfl
  |some _=>show (show False from r).elim
 |some _=>cases u with
  |none=>show (show False from r).elim
  |some _=>rfl
theorem KV.val{g:Y (a×V)}{vs:Y (a×Value)}(r:KV g vs)(k:a):RelO (fw g k) (ü vs k):=by
 unfold KV at r
 induction r with
 |nil=>show Û
 | @cons p q ps f h t o=>
  let⟨j,l⟩:=h;by_cases e:p.1=k
  ·have c:q.1=k:=j.symm.trans e
   have b:ü (q::f) k=Z q.2:=by simp[ü,Kn,c]
   rw[ny e,b];show l
  ·have c:¬ q.1=k:=λz=>e (j.trans z)
   have b:ü (q::f) k=ü f k:=by simp[ü,Kn,c]
   rw[l7 e,b];show o
theorem KV.any{e:Y (a×V)}{vs:Y (a×Value)}(r:KV e vs)(k:a):(e.any λc=>decide (c.1=k))=vs.any λc=>decide (c.1=k):=by
 unfold KV at r
 induction r with
 |nil=>rfl
 |cons h t f=>rw[KJ,KJ,f,h.1]
theorem KV.repl{g:Y (a×V)}{vs:Y (a×Value)}(r:KV g vs)(k:a){y:V}{u:Value}(o:RelV y u) :
  KV (g.map λc=>if c.1=k then (c.1,y) else c) (vs.map λc=>if c.1=k then (c.1,u) else c):=by
 unfold KV at r ⊢
 induction r with
 |nil=>show .nil
 | @cons p q ps v h t l=>
  rw[IQ,IQ];refine .cons ?_ l;let⟨f,j⟩:=h;by_cases e:p.1=k
  ·rw[Iw e,Iw (f.symm.trans e)];show⟨f,o⟩
  ·rw[Ir e,Ir (λz=>e (f.trans z))];show⟨f,j⟩
theorem KV.put{c:Y (a×V)}{vs:Y (a×Value)}(r:KV c vs)(k:a){y:V}{u:Value}(f:RelV y u):KV (fQ c k y) (stored vs k u):=by
 unfold fQ stored;rw[r.any k];by_cases e:(vs.any λg=>decide (g.1=k))=ŗ
 ·rw[Iw e,Iw e];show r.repl k f
 ·rw[Ir e,Ir e];show Ċ r ⟨S,f⟩
theorem KV.length{c:Y (a×V)}{vs:Y (a×Value)}(r:KV c vs):c.length=vs.length:=LF r
end
theorem l8{P:Å}{w:È}{k:aD}{u:Value}(r:RelV (kV k) u):(fA P w).is k u=ŗ:=by
 cases k with
 |inl i=>let⟨t,e⟩:=(show ∃t,u=Value.int i t from r);subst e;show BU P w i t
 |inr x=>let⟨t,e⟩:=(show ∃t,u=Value.str x t from r);subst e;show yz P w x t
theorem su{P:Å}{w:È}:∀{a:Y aD}{us:Y Value},Vals (a.map kV) us->ItemsAre (fA P w) a us
 | [],_,r=>by rw[List.map_nil]at r;cases r;show .nil
 |k::a,_,r=>by
  rw[IQ]at r
  cases r with
  |cons h t=>show .cons (l8 h) (su t)
noncomputable abbrev KT(H:Hp):Y (Y aD×V)->Y (Y aD×Addr×Value)->Prop:=Paired λp q=>p.1=q.1/\H q.2.1=Z (.tup (p.1.map kV))/\RelV p.2 q.2.2
theorem KT.val{H:Hp}{f:Y (Y aD×V)}{xs:Y (Y aD×Addr×Value)}(r:KT H f xs)(k:Y aD):RelO (fw f k) ((đ xs k).map (·.2)):=by
 induction r with
 |nil=>show Û
 | @cons p q ps c h t l=>
  let⟨g,_,j⟩:=h;by_cases e:p.1=k
  ·have a:q.1=k:=g.symm.trans e
   have b:đ (q::c) k=Z q.2:=by simp[đ,Kn,a]
   rw[ny e,b];show j
  ·have a:¬ q.1=k:=λz=>e (g.trans z)
   have b:đ (q::c) k=đ c k:=by simp[đ,Kn,a]
   rw[l7 e,b];show l
theorem KT.repl{H:Hp}{f:Y (Y aD×V)}{xs:Y (Y aD×Addr×Value)}(r:KT H f xs)(k:Y aD){y:V}{u:Value}(o:RelV y u) :
  KT H (f.map λc=>if c.1=k then (c.1,y) else c) (xs.map (putAt k u)):=by
 induction r with
 |nil=>show .nil
 | @cons p q ps v h t l=>
  rw[IQ,IQ];refine .cons ?_ l;let⟨a,g,j⟩:=h;unfold putAt;by_cases e:p.1=k
  ·rw[Iw e,Iw (a.symm.trans e)];show⟨a,g,o⟩
  ·rw[Ir e,Ir (λz=>e (a.trans z))];show⟨a,g,j⟩
theorem KT.put{H:Hp}{a:Y (Y aD×V)}{xs:Y (Y aD×Addr×Value)}(r:KT H a xs)(k:Y aD){b:Addr}{y:V}{u:Value}(f:H b=Z (.tup (k.map kV)))(c:RelV y u) :
  KT H (fQ a k y) (storedH xs k b u):=by
 have e:(a.any λg=>decide (g.1=k))=(đ xs k).isSome:=by rw[sT,(r.val k).isSome_eq,ě]
 unfold fQ storedH;rw[e];by_cases q:(đ xs k).isSome=ŗ
 ·rw[Iw q,Iw q];show r.repl k c
 ·rw[Ir q,Ir q];show Ċ r ⟨S,f,c⟩
theorem KT.keeps{H a:Hp}{c:Y (Y aD×V)}{xs:Y (Y aD×Addr×Value)}(r:KT H c xs)(f:∀b e,H b=Z (.tup e)->a b=Z (.tup e)):KT a c xs:=
 Paired.mapP r λ_ _ z=>⟨z.1,f _ _ z.2.1,z.2.2⟩
section
variable{P:Å}{w:È}{H:Hp}{h:Heap}{a:Addr}
theorem vh{u:HO}(ok:HOk P w H h)(e:Rd H a u):ObjOk P w H h a u:=e.ok ok
theorem nH{c:Y (aD×V)}(ok:HOk P w H h)(e:Rd H a (.dK c)):c.length<=sizeLine/\(a==Ù)=Ř/\∃vs,KV c vs/\h.DictOf (fA P w) a vs:=
 show ObjOk P w H h a (.dK c)from vh ok e
theorem Hq{c:Y (aD×V)}(ok:HOk P w H h)(e:H a=Z (.dK c)):c.length<=sizeLine/\(a==Ù)=Ř/\∃vs,KV c vs/\h.DictOf (fA P w) a vs:=nH ok (.inl e)
theorem oA{c:Y aD}(ok:HOk P w H h)(e:H a=Z (.tup (c.map kV))):(Ā (fA P w)).is h c a:=by let⟨_,f,r,o,g,⟨j,_⟩,n,l⟩:=(show ObjOk P w H h a (.tup (c.map kV))from ok a _ e);show⟨o,f.toArray,n,g,j,l,by simpa using su r⟩
theorem og{f:Y (Y aD×V)}(ok:HOk P w H h)(e:Rd H a (.dT f)):f.length<=sizeLine/\(a==Ù)=Ř /\
  ∃xs,KT H f xs/\h.DictOfH (Ā (fA P w)) a xs:=by
 let⟨z,y,xs,r,o,es,j,u,v,A,B,C⟩:=(show ObjOk P w H h a (.dT f)from vh ok e);refine⟨z,y,xs,r,o,es,j,u,v,A,B,λx c=>?_,C⟩
 have all:∀{l:Y (Y aD×V)}{m:Y (Y aD×Addr×Value)},KT H l m->∀x∈m,(Ā (fA P w)).is h x.1 x.2.1:=by
  intro l m q
  induction q with
  |nil=>intro x c;show nomatch c
  | @cons p q ps F g t E=>
   intro x c;rcases IL.mp c with e|c
   ·subst e;show oA ok (by rw[←g.1];show g.2.1)
   ·show E x c
 show all r x c
theorem zb{c:Y (Y aD×V)}(ok:HOk P w H h)(e:H a=Z (.dT c)):c.length<=sizeLine/\(a==Ù)=Ř /\
  ∃xs,KT H c xs/\h.DictOfH (Ā (fA P w)) a xs:=og ok (.inl e)
end
noncomputable def DGet(H:Hp)(a:Addr)(y:V)(r:Ŗ V):Prop:=
 (∃c k,Rd H a (.dK c)/\y=kV k/\r=fw c k)\/∃c k b,Rd H a (.dT c)/\y=.ref b/\H b=Z (.tup (k.map kV))/\r=fw c k
noncomputable def DPut(H:Hp)(a:Addr)(y v:V)(e:Hp):Prop:=
 (∃c k,H a=Z (.dK c)/\y=kV k/\c.length<sizeLine/\e=aq H a (.dK (fQ c k v))) \/
 ∃c k b,H a=Z (.dT c)/\y=.ref b/\H b=Z (.tup (k.map kV))/\c.length<sizeLine/\e=aq H a (.dT (fQ c k v))
theorem DGet.t{H:Hp}{a b:Addr}{c:Y (Y aD×V)}{k:Y aD}(e:H a=Z (.dT c))(f:H b=Z (.tup (k.map kV))):DGet H a (.ref b) (fw c k):=.inr ⟨c,k,b,.inl e,S,f,S⟩
theorem DPut.t{H:Hp}{a b:Addr}{c:Y (Y aD×V)}{k:Y aD}{v:V}(e:H a=Z (.dT c))(f:H b=Z (.tup (k.map kV)))(g:c.length<sizeLine) :
  DPut H a (.ref b) v (aq H a (.dT (fQ c k v))):=.inr ⟨c,k,b,e,S,f,g,S⟩
section
variable{X:Cx}{f:Y (Addr×Ô)}{j:St}{H:Hp}{s:À}{a:Addr}{y v:V}{u r:Value}{o:Ŗ V}{A:Ì}{E:Value->À->Prop}
theorem Inv.big(I:Inv X f j H s):Ù<s.heap.objs.size:=by have h:Á<s.heap.objs.size:=(I.mod.glob.keeps I.bk).lt;show Mr 'b' h
theorem w8{Q:Value->À->Prop}(O:A.units+1<å)(I:Inv X f j H s)(g:DGet H a y (Z v))(G:RelV y u)(h:∀w J,Inv X f j H J->RelV v w->Q w J) :
  wpAny (Ä X.prog X.w) A (ä (.ref a) u) Q E s:=by
 rcases g with⟨K,k,e,C,l⟩|⟨K,k,b,e,C,M,l⟩
 ·subst C;let⟨z,hd,vs,c,B⟩:=nH I.hok e;let⟨w,F,x⟩:=RelO.some_of (v:=v) (o:=ü vs k) (by rw[l];show c.val k);show wpAny_getItem_of (l8 G) B.mapOf F (h w _ (I.tok _) x)
 ·subst C;cases (show u=Value.ref b from G);let⟨z,hd,xs,c,B⟩:=og I.hok e;let⟨w,F,x⟩:=RelO.some_of (v:=v) (o:=(đ xs k).map (·.2)) (by rw[l];show c.val k);let⟨p,N,L⟩:=LC.mp F;refine wpAny_getItem_heap (L7 O) (oA I.hok M) B N ?_;rw[L];show h w _ (I.tok _) x
theorem FV{Q:Value->À->Prop}(G:A.units+1<å)(I:Inv X f j H s)(g:DGet H a y o)(x:RelV y u)(h:∀B,Inv X f j H B->Q (.bool o.isSome) B) :
  wpAny (Ä X.prog X.w) A (É .In u (.ref a)) Q E s:=by
 rcases g with⟨C,k,e,w,l⟩|⟨C,k,b,e,w,F,l⟩
 ·subst w;let⟨z,hd,vs,c,p⟩:=nH I.hok e;refine wpAny_in_of (l8 x) hd p.mapOf ?_;rw[←(c.val k).isSome_eq,←l];show h _ (I.tok _)
 ·subst w;cases (show u=Value.ref b from x);let⟨z,hd,xs,c,p⟩:=og I.hok e;refine wpAny_in_heap (L7 G) (oA I.hok F) hd p ?_;have q:=(c.val k).isSome_eq;rw[ě]at q;rw[←q,←l];show h _ (I.tok _)
theorem vS{h':Heap}{t':Nat}{c:HO}(I:Inv X f j H s)(mu:k8 (H a))(l:Heap.SameBut a s.heap h')(h:∃q,h'.get? a=Z q)(new:ObjOk X.prog X.w (aq H a c) h' a c) :
  Inv X f j (aq H a c) { s with heap:=h',toks:=t' }:=
 I.write (x:=a) (e:=a) mu (.inl S) (λb q g z=>(l.2 b g).trans z) h new
theorem ze{P:Å}{w:È}{g:Hp}{h':Heap}{c:Y (aD×V)}{vs:Y (aD×Value)}(z:c.length<=sizeLine)(hd:(a==Ù)=Ř)(e:KV c vs)(h:h'.DictOf (fA P w) a vs) :
  ObjOk P w g h' a (.dK c):=⟨z,hd,vs,e,h⟩
theorem Fw{M:Hp}{Q:Unit->À->Prop}(hu:A.units+1<å)(I:Inv X f j H s)(g:DPut H a y v M)(R:RelV y u)(P:RelV v r)(h:∀a_,Inv X f j M a_->Q Unit.unit a_) :
  wpAny (Ä X.prog X.w) A (setItem (.ref a) u r) Q E s:=by
 rcases g with⟨w,k,e,G,l,F⟩|⟨w,k,b,e,G,N,l,F⟩
 ·subst G F;let⟨z,hd,vs,p,C⟩:=Hq I.hok e
  have L:vs.length<=sizeLine:=by rw[←p.length];show z
  have J:(fQ w k v).length<=sizeLine:=by have:=ut w k v;omega
  refine wpAny_setItem_pairs (hsz:=L) (l8 R) C λh' x K=>h _ ?_
  have he:∃q,h'.get? a=Z q:=let ⟨q,_,_,B,_⟩:=x;⟨q,B⟩
  show vS I (by rw[e];show Û) K he (ze J hd (p.put k P) x)
 ·subst G F;cases (show u=Value.ref b from R);let⟨z,hd,xs,p,C⟩:=zb I.hok e
  have L:xs.length<=sizeLine:=by rw[←LF p];show z
  have J:(fQ w k v).length<=sizeLine:=by have:=ut w k v;omega
  refine wpAny_setItem_heap (hsz:=L) (L7 hu) (oA I.hok N) C λh' x K=>h _ ?_;let⟨q,es,T,B,U,be,b_,_,h5⟩:=x;refine vS I (by rw[e];show Û) K ⟨q,B⟩ ⟨J,hd,_,(p.put k N P).keeps λc ys O=>?_,q,es,T,B,U,be,b_,h5⟩;rw[aY (wE O e (λz=>nomatch z))];show O
end
noncomputable def qG(i:Ã):Prop:=∀c a,Ą i Ř c a=operate [c,a] (ä c a)
theorem D1{prog:Å}{w:È}{A:Ì}{E:Value->À->Prop}{s:À}{env:ì}{c a:Ã}{v:Ö}{T id:String}{Q:Value->À->Prop}
  (z:typeLookup (.type T) "__getitem__"=pure (Z (.builtin id))) (B:qG a)
  (h:wpAny (Ä prog w) A (eval c env) (λo g=>wpAny (Ä prog w) A (eval a env) (λi e=>e.TypeIs o T/\wpAny (Ä prog w) A (ä o i) Q E e) E g) E s) :
  wpAny (Ä prog w) A (eval (.Subscript c a v) env) Q E s:=by
 refine Subscript_ (Kc h (λo g p=>Kc p (λi e f=>?_) λ_ _ x=>x) λ_ _ x=>x);let⟨y,f⟩:=f;unfold Ě;refine Iq ?_;rw[getitemInPython_of_ne y.not_modules];refine Iq (Ő y z ?_)
 have l:wpAny (Ä prog w) A (Ą a Ř o i) (λr j=>wpAny (Ä prog w) A (letTemporaryGo c o r >>= λ_=>pure r) Q E j) E e:=by rw[B o i];show wpAny_operating (Kc f (λr j u=>Iq (wpAny_letTemporaryGo (IK u))) λ_ _ x=>x)
 first
  |show IK (Iq l)
  |show Iq (IK (Iq l))
  |show Iq l
theorem Du{X:Cx}{c:Y (Addr×Ô)}{j:St}{H:Hp}{s:À}{a:Addr}{y:V}{o:Ŗ V}(I:Inv X c j H s)(g:DGet H a y o):s.TypeIs (.ref a) "dict":=by
 rcases g with⟨h,k,e,_,_⟩|⟨h,k,b,e,_,_,_⟩
 ·let⟨_,_,vs,_,f⟩:=nH I.hok e;show f.typeIs
 ·let⟨_,_,xs,_,f⟩:=og I.hok e;show f.typeIs
noncomputable def E8(td g:TE):TE:=λe H Q=>td e H λx f=>g e f λy c=>∃a v,x=.ref a/\DGet c a y (Z v)/\Q v c
noncomputable def EC(g td:TE):TE:=λe H Q=>g e H λy f=>td e f λx c=>∃a o,x=.ref a/\DGet c a y o/\Q (.bl o.isSome) c
noncomputable def Bc(td l j:TE):TS:=λD c H=>j c H λv f=>td c f λx g=>l c g λy h=>∃a e,x=.ref a/\DPut h a y v e/\D.nx c e
section
variable{X:Cx}{o i c:Ã}{f e:Ö}{td j l:TE}
theorem BM(K:X.A.units+1<å)(G:PE X o td)(F:PE X i j)(J:qG i):PE X (.Subscript o i f) (E8 td j):=by intro p s w H Q I h;refine D1 PySem.F.slot_dict_getitem.lookup J (aI (G p s w H _ I h) λu P ⟨x,z,B,N,L⟩=>aI (F p P w z _ B L) λR a_ ⟨y,A,r,O,a,v,ex,g,M⟩=>?_);subst ex;obtain rfl:u=Value.ref a:=N;show⟨Du r g,w8 K r g O λU T C E=>⟨v,A,C,E,M⟩⟩
theorem xE(F:X.A.units+1<å)(C:PE X i j)(E:PE X o td):PC X .In i o (EC j td):=by intro p s r H Q I h;refine aI (C p s r H _ I h) λO N ⟨y,v,z,M,J⟩=>aI (E p N r v _ z J) λu P ⟨x,w,A,L,a,G,ex,g,K⟩=>?_;subst ex;obtain rfl:u=Value.ref a:=L;show FV F A g M λR B=>⟨.bl G.isSome,w,B,S,K⟩
theorem Az(M:X.A.units+1<å)(K:PE X o td)(J:PE X i j)(N:PE X c l)(L:Î c (Z (.Subscript o i e)) f.line X.env=pure Ř) :
  PS X (.Assign [.Subscript o i e] c f) (Bc td j l):=by
 intro p s w H D I h;refine wpAny_Assign_Subscript (aI (N p s w H _ I h) λr U ⟨v,z,C,R,O⟩=>aI (K p U w z _ C O) λu be ⟨x,A,E,a_,P⟩=>aI (J p be w A _ E P) λiv s3 ⟨y,b_,F,T,a,B,ex,g,Q⟩=>?_) L;subst ex;obtain rfl:u=Value.ref a:=a_;show Fw M F g T R λs4 G=>⟨w,B,G,Q⟩
end
theorem AW{P:Å}{w:È}{H:Hp}(h:Heap)(a:Ù<h.objs.size):ObjOk P w H (h.push { cls:=.type "dict",data:=.dict #[] }) h.objs.size (.dT []):=
 ⟨Km _,Ku.mpr (JD (Jk a)),[],.nil,_,#[],0,IM _ S,⟨S,S,S⟩,S,S,List.nodup_nil⟩
noncomputable def AT:TE:=λ_ H Q=>∀p,H p=ŕ->Q (.ref p) (aq H p (.dT []))
section
variable{X:Cx}{c:Ö}
theorem pe_dnewT:PE X (.Dict [] [] c) AT:=λe s f H Q I h=>
 wpAny_Dict_empty ⟨.ref s.heap.objs.size,_,I.laid (a:=s.heap.objs.size) (o:=.dT []) (t':=s.toks) (λ_ _ q=>IA _ q) (Iu _) (AW s.heap I.big),S,h _ (I.hok.fresh (Iu _))⟩
end
end L2
set_option maxHeartbeats 4000000
namespace L2
open PySem PySem.Spec PyProof.Rows
theorem xj{env:ì}(names:Y (Str×NameKind))(y:∀x∈names,x.2=.free->∃c,env.cells.lookup x.1=Z c):∀f:Y (Str×Addr),
  ∃cl:Y (Str×Addr),(forIn names f (λ(x:Str×NameKind) v=>if (x.2==.free)=ŗ then do let a ←cellOf env x.1;pure (ForInStep.yield ((x.1,a)::v)) else pure (ForInStep.yield v)):Sem (Y (Str×Addr)))=pure cl /\
   (∀p∈cl,p∈f\/env.cells.lookup p.1=Z p.2)/\(∀p∈f,p∈cl)/\∀x,(x,NameKind.free)∈names->∃c,(x,c)∈cl:=by
 induction names with
 |nil=>intro f;show⟨f,S,λp g=>.inl g,λ_ g=>g,λx h=>by simp at h⟩
 |cons n r B=>
  intro f;let⟨n,k⟩:=n;have A:∀x∈r,x.2=.free->∃c,env.cells.lookup x.1=Z c:=λx h=>y x (IC _ h);by_cases u:k=.free
  ·subst u;let⟨c,w⟩:=y (n,.free) Iy S;let⟨cl,e,l,j,o⟩:=B A ((n,c)::f);refine⟨cl,?_,λp g=>?_,λp g=>j p (IC _ g),λx h=>?_⟩
   ·rw[LU,←e]
    have q:cellOf env n=pure c:=by unfold cellOf;rw[w]
    simp[q]
   ·rcases l p g with z|z
    ·rcases IL.mp z with rfl|z
     ·show .inr w
     ·show .inl z
    ·show .inr z
   ·rcases IL.mp h with z|z
    ·cases z;show⟨c,j _ Iy⟩
    ·show o x z
  ·let⟨cl,e,l,j,o⟩:=B A f;refine⟨cl,?_,l,j,λx h=>?_⟩
   ·rw[LU,←e]
    have q:(k==NameKind.free)=Ř:=by simpa using u
    simp[q]
   ·rcases IL.mp h with z|z
    ·cases z;show absurd S u
    ·show o x z
theorem G1{cl:Y (Str×Addr)}{cells:Y (Str×Addr)}(h:∀p∈cl,cells.lookup p.1=Z p.2):∀x c,cl.lookup x=Z c->cells.lookup x=Z c:=λx c e=>h (x,c) (JE e)
theorem Ed{cl:Y (Str×Addr)}{x:Str}{c:Addr}:(x,c)∈cl->∃a,cl.lookup x=Z a:=by
 induction cl with
 |nil=>intro h;simp at h
 |cons p r f=>
  intro h;rw[Jc]
  cases e:x==p.1 with
  |true=>show⟨_,S⟩
  |false=>
   rcases IL.mp h with z|z
   ·subst z;simp at e
   ·show f z
theorem rY{scope:ß}{env:ì}(h:∀x∈scope.names,x.2=.free->∃c,env.cells.lookup x.1=Z c) :
  ∃cl,closureFor scope env=pure cl/\(∀x c,cl.lookup x=Z c->env.cells.lookup x=Z c)/\∀x,(x,NameKind.free)∈scope.names->∃c,cl.lookup x=Z c:=by
 let⟨cl,e,a,_,f⟩:=xj (env:=env) scope.names h [];refine⟨cl,?_,G1 λp j=>(a p j).elim (λz=>by simp at z) id,λx l=>?_⟩
 ·unfold closureFor;simp only;rw[←e];simp
 ·let⟨c,g⟩:=f x l;show Ed g
theorem qJ{env:ì}:∀{names:Y (Str×NameKind)}{x:Str}{k:NameKind},
  (names.map λ(n,k)=>if (k==NameKind.free&&env.scope.kind==.function&&env.kindOf n==Z .cell) then (n,NameKind.cell) else (n,k)).lookup x=Z k->(k=.cell\/k=.free)->(x,NameKind.free)∈names\/(x,NameKind.cell)∈names
 | [],_,_,h,_=>by simp at h
 |(n,k)::r,x,j,h,c=>by
  have g:=@qJ env r x j;have h:List.lookup x ((if (k==NameKind.free&&env.scope.kind==.function&&env.kindOf n==Z .cell)=ŗ then (n,NameKind.cell) else (n,k))::_)=_:=h;by_cases a:(k==NameKind.free&&env.scope.kind==.function&&env.kindOf n==Z .cell)=ŗ
  ·rw[Iw a]at h
   have l:k=.free:=by simp only[JJ,Ld]at a;show a.1.1
   rw[Jc]at h
   cases e:x==n with
   |true=>
    have:x=n:=by simpa using e
    subst this;subst l;show .inl Iy
   |false=>
    simp only[e]at h;show (g h c).imp (IC _) (IC _)
  ·rw[Ir a]at h;rw[Jc]at h
   cases e:x==n with
   |true=>
    have f:k=j:=by simpa [e] using h
    have:x=n:=by simpa using e
    subst this;subst f;rcases c with rfl|rfl
    ·show .inr Iy
    ·show .inl Iy
   |false=>
    simp only[e]at h;show (g h c).imp (IC _) (IC _)
noncomputable def bV(X:Cx)(scope:ß)(N':Y Str)(cl:Y (Str×Addr))(C:Addr)(e:À)(a:Hp)(c:Y Addr):Cx where
 prog:=X.prog
 w:=X.w
 K:=X.K
 mg:=X.mg
 base:=X.base
 A:=X.A
 N:=N'
 s₀:=e
 H₀:=a
 env:=Đ scope cl C X.env
 outer:=X.stack
 stack:=X.stack
 ex:=c
 fn:=λx=>scope.names.lookup x==Z .cell
 calm:=X.calm
 pn:=[]
 xe:=λ_ _=>False
noncomputable def eB(cap:Y (Ŗ Nat))(a:St):St:=cap.map λo=>o.bind λi=>(a[i]?).join
structure CompScope(N:List Str)(sc scope:ß)(N':List Str)(cap:List (Option Nat)):Prop where
 kind:scope.kind=.function
 cel:∀x∈scope.names,x.2=.cell->scope.names.lookup x.1=Z .cell
 names:∀x∈scope.names,x.2=.local->scope.names.lookup x.1=Z .local
 free:∀x∈scope.names,x.2=.free->sc.names.lookup x.1=Z .cell
 fst:∀x∈scope.names,x.2=.free->scope.names.lookup x.1=Z .free
 nd:N'.Nodup
 len:cap.length=N'.length
 at_:∀p∈cap.zip N',∀i,p.1=Z i->N[i]?=Z p.2/\(p.2,NameKind.free)∈scope.names
noncomputable def jk(X:Cx)(e:Y Ã)(t:TT):Prop:=
 ∀(a:Y (Addr×Ô))(s:À)(f:St)(H:Hp)(Q:Bool->Hp->Prop),Inv X a f H s->t f H Q->
  wpAny (Ä X.prog X.w) X.A (forIn e ŗ λc r=>if r=ŗ then do let ok ←isTrue c X.env (eval c X.env);pure (ForInStep.yield ok) else pure (ForInStep.yield r)) (TP X a f Q) X.xe s
noncomputable def Gf:TT:=λ_ H Q=>Q ŗ H
theorem v6{X:Cx}:jk X [] Gf:=λ_ _ _ H _ I h=>wpAny_tests_nil ⟨H,I,h⟩
theorem Bs{X:Cx}{c:Ã}{t:TT}(h:PT X c t):jk X [c] t:=λa s f H Q I e=>wpAny_tests_one (h a s f H Q I e)
noncomputable def gC(A:TI)(cap:Y (Ŗ Nat))(g:TG)(w:TT)(z:TE):TE:=λu H Q=>A u H λJ l=>∀D,l D=ŕ->∃W:Nat->Nat->St->Hp->Prop,(∃m,W 0 m (eB cap u) (aq l D (.lst []))) /\
 ∀i m f c,W i m f c->(J.stop i c/\Q (.ref D) c)\/(J.go i c/\∃N:St->Hp->Prop,(∀h e,N h e->∃r,r<m/\W (i+1) r h e) /\
  ∀x e,J.yld i c x e->g x f e λa v=>w a v λb o=>if b=ŗ then z a o λy p=>∃j,p D=Z (.lst j)/\j.length<sizeLine/\N a (aq p D (.lst (j++[y]))) else N a o)
theorem Dq{prog:Å}{w:È}{A:Ì}{R:Result->À->Prop}{s:À}{B a o:Ã}{E:Y Ã}{scope:ß}{J:Ö}{L z:Value}{env:ì}(I:Nat->À->Prop)
  (K:∀n s,I n s->wpAny (Ä prog w) A (ó L) (λr e=>match r with
   |none=>R (.ok .next) e
   |some v=>wpAny (Ä prog w) A (ñ a L v) (λ_ f=>wpAny (Ä prog w) A (assign a env v) (λ_ p=>
     wpAny (Ä prog w) A (forIn E ŗ λc r=>if r=ŗ then do let ok ←isTrue c env (eval c env);pure (ForInStep.yield ok) else pure (ForInStep.yield r)) (λok g=>
      if ok=ŗ then wpAny (Ä prog w) A (eval B env) (λx u=>
       wpAny (Ä prog w) A (call (.builtin "list.append") [z,x]) (λ_ y=>∃m,m<n/\I m y) (λ_ _=>False) u) (λ_ _=>False) g
      else ∃m,m<n/\I m g) (λ_ _=>False) p) (λ_ _=>False) f) (λ_ _=>False) e) (λ_ _=>False) s)
  (n:Nat) (h:I n s):í (Ä prog w) A (.compLoop (.ListComp B [⟨a,o,E,0⟩] scope J) 0 L z env) R s:=by
 refine codeAny_loop S I (λn s M=>?_) n h;change wpAny _ A ((compTurn (.ListComp B [⟨a,o,E,0⟩] scope J) 0 L z env).onRaise (λx=>do noteFrame x env;theTreesLotGoes x)) _ _ s;refine wpAny_noted ?_;rw[compTurn_list];refine Iq (Mc (Iq (Kc (K n s M) (λr e j=>?_) λ_ _ h'=>h'.elim)))
 cases r with
 |none=>show IK j
 |some v=>
  refine Iq (Kc j (λ_ f C=>?_) λ_ _ h'=>h'.elim);refine Iq (Kc C (λ_ p F=>Iq (Kc F (λok g l=>?_) λ_ _ h'=>h'.elim)) λ_ _ h'=>h'.elim)
  cases ok with
  |false=>show IK ⟨S,l⟩
  |true=>
   show Iq (Iq (Kc l (λx u G=>Iq (Kc G (λ_ y H=>IK (IK ⟨S,H⟩)) λ_ _ h'=>h'.elim)) λ_ _ h'=>h'.elim))
section
variable{X:Cx}{B G f:Ã}{l:Y Ã}{scope:ß}{F:Ö}{N':Y Str}{cap:Y (Ŗ Nat)}{O:TI}{g:TG}{L:TT}{K:TE}
theorem lf:∀(names:Y (Str×NameKind))(n:Nat)(a:Y (Str×Addr)),Ø n names a=Ø n names []++a
 | [],_,_=>rfl
 |(x,k)::r,n,a=>by
  unfold Ø;split
  ·rw[lf r (n+1) ((x,n)::a),lf r (n+1) [(x,n)],IJ];rfl
  ·show lf r n a
theorem rz:∀(names:Y (Str×NameKind))(n:Nat){x:Str}{c:Addr},(x,c)∈Ø n names []->(x,NameKind.cell)∈names
 | [],_,_,_,h=>by simp[Ø]at h
 |(y,k)::r,n,x,c,h=>by
  unfold Ø at h;split at h
  ·rename_i a;rw[lf]at h;rcases IZ.mp h with h|h
   ·show IC _ (rz r _ h)
   ·have e:=Iz.mp h;cases e
    have:k=.cell:=by simpa using a
    subst this;show Iy
  ·show IC _ (rz r _ h)
theorem C4{M:Model}{A:Ì}{E:Value->À->Prop}{s:À}{globals:Addr}{cl:Y (Str×Addr)}{qual:Str}{outer:ì}{Q:ì->À->Prop}
  (c:∀h',h'.Ns s.heap.objs.size (λ_=>ŕ)->(∀b o,s.heap.get? b=Z o->h'.get? b=Z o)->CellsOk h' (s.heap.objs.size+1) (Ø (s.heap.objs.size+1) scope.names [])->
   Q { scope:=scope,locals:=s.heap.objs.size,globals:=globals,cells:=Ø (s.heap.objs.size+1) scope.names []++cl,qual:=qual,func:=ŕ,code:=outer.code,frame:=outer.frame,builtins:=outer.builtins } { s with heap:=h' }) :
  wpAny M A (Ď scope globals cl [] qual ŕ .none (Z outer)) Q E s:=by
 simp only[Ď,ĕ,Lx];refine Iq (wpAny_alloc ?_);refine Iq (wpAny_layCells _ (λname kind cells=>by cases a:kind==NameKind.cell<;>simp[a]) _ _ _ _ ?_);have ok:=cellsFrom_ok scope.names (s.heap.push { cls:=.type "dict",data:=.dict #[] }) (s.heap.objs.size+1) [] ⟨λ_ _ h=>(nomatch h),List.Pairwise.nil⟩ (by rw[Jx];show Iu _);rw[Jx]at ok;rw[show ({ s with heap:=s.heap.push { cls:=.type "dict",data:=.dict #[] } }:À).heap.objs.size=s.heap.objs.size+1 from Jx ..,lf];refine Iq ?_;rw[MI];show IK (IK (c _ ((Heap.Ns.new s.heap (.type "dict")).keeps (ő _ _)) (λb o e=>ő _ _ b o (IA _ e)) ok))
theorem Fv{N:Y (Addr×Ô)}{P:St}{H:Hp}{s T:À}{cl A:Y (Str×Addr)}{C:Addr}{fp:Y Addr}{m:Str->Ŗ Value}(a_:CompScope X.N X.env.scope scope N' cap)(I:Inv X N P H s)
  (QF:∀x c,cl.lookup x=Z c->X.env.cells.lookup x=Z c) (Rf:∀x,(x,NameKind.free)∈scope.names->∃c,cl.lookup x=Z c) (E:s.heap.objs.size<=C) (Qp:T.os=s.os) (hg:T.gens=s.gens)
  (hk:∀b o,s.heap.get? b=Z o->T.heap.get? b=Z o) (hn:T.heap.Ns C m) (Tp:∀b∈fp,eI X N H b) (b_:∀b∈fp,b<s.heap.objs.size) (hw:CellsOk T.heap (C+1) A) (hwm:∀x c,(x,c)∈A->(x,NameKind.cell)∈scope.names) (RE:∀x,(x,NameKind.cell)∈scope.names->∃c,A.lookup x=Z c) :
  Inv (bV X scope N' (A++cl) C s H fp) [] (eB cap P) H T:=by
 have R:∀x c,(A++cl).lookup x=Z c->((x,c)∈A/\C<c)\/(A.lookup x=ŕ/\X.env.cells.lookup x=Z c):=λx c h=>by
  rw[L8]at h
  cases e:A.lookup x with
  |none=>rw[e]at h;show .inr ⟨S,QF x c (by simpa using h)⟩
  |some U=>
   rw[e]at h
   have:U=c:=by simpa using h
   subst this;show .inl ⟨JE e,(hw.empty _ _ (JE e)).2⟩
 have M:∀x c,X.env.cells.lookup x=Z c->c<s.heap.objs.size:=λx c h=>by let⟨v,q⟩:=I.cell x c h;show q.lt
 have R4:∀x,(x,NameKind.free)∈scope.names->∃c,(A++cl).lookup x=Z c/\X.env.cells.lookup x=Z c:=λx w=>by
  let⟨c,hc⟩:=Rf x w;refine⟨c,?_,QF x c hc⟩;rw[L8]
  cases e:A.lookup x with
  |none=>simpa using hc
  |some U=>
   have a1:=a_.cel _ (hwm x U (JE e)) S;have a2:=a_.fst _ w S;have a1:scope.names.lookup x=Z .cell:=a1;have a2:scope.names.lookup x=Z .free:=a2;rw[a1]at a2;cases a2
 refine⟨⟨I.ok.mod,a_.kind,I.ok.glob,I.ok.blt,E,λx y c h1 a=>?_,λx w=>?_,λx c w h=>?_,I.ok.hd,I.ok.frames,.inl S,
   λb J=>⟨Jk (Jl (b_ b J) E),λx c e=>?_⟩,I.bs,IU I.ok.bsz I.sz,λb o e J=>?_,λb J hf=>?_,I.stack,I.stkFree⟩,
  Qp,by rw[hg];show I.bare,Un.kept hk,⟨m,hn,λi x v h1 a h3=>?_⟩,λx c e=>?_,I.hok.fresh E,λx c e=>?_,λp hp=>absurd (show p∈([]:Y (Addr×Ô))from hp) (by simp),I.hok.kept hk,?_⟩
 ·rcases R x c h1 with⟨a1,a2⟩|⟨_,a2⟩<;>rcases R y c a with⟨b1,b2⟩|⟨_,b2⟩
  ·show name_of_addr hw.apart a1 b1
  ·show absurd (M y c b2) (Nat.not_lt.mpr (IU E (JW a2)))
  ·show absurd (M x c a2) (Nat.not_lt.mpr (IU E (JW b2)))
  ·show I.ok.inj x y c a2 b2
 ·have q:(x,NameKind.free)∈scope.names\/(x,NameKind.cell)∈scope.names:=by
   rcases w with w|w
   ·show qJ w (.inl S)
   ·show qJ w (.inr S)
  rcases q with q|q
  ·let⟨c,h,_⟩:=R4 x q;show⟨c,h⟩
  ·let⟨c,h⟩:=RE x q;show⟨c,by change (A++cl).lookup x=_;rw[L8,h];rfl⟩
 ·have w:(scope.names.lookup x==Z .cell)=ŗ:=w
  have w:scope.names.lookup x=Z .cell:=by simpa using w
  let⟨U,h'⟩:=RE x (JE w);rcases R x c h with⟨_,a2⟩|⟨a1,_⟩
  ·show IU E (JW a2)
  ·rw[h']at a1;cases a1
 ·rcases R x c e with⟨_,a2⟩|⟨_,a2⟩
  ·show λz=>absurd (b_ b J) (Nat.not_lt.mpr (IU E (by rw[←z];show JW a2)))
  ·show (Tp b J).2.2.2.2.1 x c a2
 ·rcases (Tp b J).2.2.2.1 with z|z
  ·show I.ok.noex b o e z
  ·show absurd (Jl (IT e) (IU I.ok.bsz z)) (J4 _)
 ·rcases IL.mp (I.stkSub b hf)with z|z
  ·show (Tp b J).2.1 z
  ·show (Tp b J).2.2.1 z
 ·have a:(cap.map λo=>o.bind λi=>(P[i]?).join)[i]?=Z (Z v):=a;rw[IE]at a
  cases ec:cap[i]? with
  |none=>rw[ec]at a;cases a
  |some o=>
   rw[ec]at a
   have a:(o.bind λi=>(P[i]?).join)=Z v:=by simpa using a
   cases o with
   |none=>cases a
   |some j=>
    have a:(P[j]?).join=Z v:=a
    have hj:P[j]?=Z (Z v):=by
     cases ej:P[j]? with
     |none=>rw[ej]at a;cases a
     |some y=>rw[ej]at a;show Ju Z a
    have hz:(cap.zip N')[i]?=Z (Z j,x):=by rw[Lk];show⟨ec,h1⟩
    let⟨q1,q2⟩:=a_.at_ _ (ID hz) j S;let⟨mx,hnx,hl⟩:=I.loc;have kc:=a_.free _ q2 S;let⟨u,r,lk⟩:=hl j x v q1 hj (.inr (.inl kc));refine⟨u,r,?_⟩;rcases lk with⟨k1,_⟩|⟨_,c,e,z⟩
    ·have:X.env.scope.names.lookup x=Z .local:=k1;rw[kc]at this;cases this
    ·let⟨U,RT,Qb⟩:=R4 x q2;rw[e]at Qb;cases Qb
     have Q:(Đ scope (A++cl) C X.env).kindOf x=Z .cell\/(Đ scope (A++cl) C X.env).kindOf x=Z .free\/(Đ scope (A++cl) C X.env).kindOf x=Z .local:=by
      rcases h3 with z|z|z
      ·show .inr (.inr z)
      ·show .inl z
      ·show .inr (.inl z)
     rcases Q with Q|Q|Q
     ·show .inr ⟨.inl Q,c,RT,let ⟨o,ho,hd⟩:=z;⟨o,hk c o ho,hd⟩⟩
     ·show .inr ⟨.inr Q,c,RT,let ⟨o,ho,hd⟩:=z;⟨o,hk c o ho,hd⟩⟩
     ·exfalso;have kl:(relabel scope X.env).names.lookup x=Z .local:=Q;have ml:=JE kl;let⟨⟨n,k⟩,hm,be⟩:=I0.mp ml;have be:(if (k==NameKind.free&&X.env.scope.kind==.function&&X.env.kindOf n==Z .cell)=ŗ then (n,NameKind.cell) else (n,k))=(x,NameKind.local):=be;split at be
      ·cases be
      ·cases be;have a1:=a_.names _ hm S;have a3:scope.names.lookup x=Z .free:=a_.fst _ q2 S;have a1:scope.names.lookup x=Z .local:=a1;rw[a3]at a1;cases a1
 ·rcases R x c e with⟨a1,_⟩|⟨_,a2⟩
  ·show⟨ŕ,(hw.empty x c a1).1⟩
  ·let⟨v,o,ho,hd⟩:=I.cell x c a2;show⟨v,o,hk c o ho,hd⟩
 ·rcases R x c e with⟨_,a2⟩|⟨_,a2⟩
  ·show I.hok.fresh (IU E (JW a2))
  ·show I.freeC x c a2
 ·change (eB cap P).length=N'.length;unfold eB;rw[Il,a_.len]
theorem uw{H:Y (Addr×Ô)}{σ:St}{j:Hp}{I:À}{it:Addr}{A:Y Addr}{tn:Nat->Heap->Prop}{J:It}{cl:Y (Str×Addr)}{RR:Value->Addr->Result->À->Prop}{E:Value->À->Prop}(M8:X.calm=ŗ)(a_:CompScope X.N X.env.scope scope N' cap)
  (hg:∀(cl:Y (Str×Addr))(C:Addr)(s0:À)(H0:Hp),PG (bV X scope N' cl C s0 H0 A) G g) (ht:∀(cl:Y (Str×Addr))(C:Addr)(s0:À)(H0:Hp),jk (bV X scope N' cl C s0 H0 A) l L) (he:∀(cl:Y (Str×Addr))(C:Addr)(s0:À)(H0:Hp),PE (bV X scope N' cl C s0 H0 A) B K)
  (I2:Inv X H σ j I) (T:Turn X.prog X.w X.K G J A it tn) (QE:tn 0 I.heap) (f2:∀b∈A,eI X H j b)
  (QF:∀x c,cl.lookup x=Z c->X.env.cells.lookup x=Z c) (Rf:∀x,(x,NameKind.free)∈scope.names->∃c,cl.lookup x=Z c)
  {P:V->Hp->Prop}
  (w:∀D,j D=ŕ->∃W:Nat->Nat->St->Hp->Prop,(∃m,W 0 m (eB cap σ) (aq j D (.lst []))) /\
   ∀i m Q z,W i m Q z->(J.stop i z/\P (.ref D) z)\/(J.go i z/\∃N:St->Hp->Prop,(∀σ2 j,N σ2 j->∃m',m'<m/\W (i+1) m' σ2 j) /\
    ∀x j,J.yld i z x j->g x Q j λU H3=>L U H3 λb H4=>if b=ŗ then K U H4 λy H5=>∃ys,H5 D=Z (.lst ys)/\ys.length<sizeLine/\N U (aq H5 D (.lst (ys++[y]))) else N U H4))
  (hRR:∀D C z s' m',X.env.locals≠C->X.s₀.heap.objs.size<=C->(∀x c,X.env.cells.lookup x=Z c->c≠C)->(∀p∈X.pn++H,p.1≠C)->z C=ŕ->s'.heap.Ns C m'->Inv X H σ z s'->P (.ref D) z->RR (.ref D) C (.ok .next) s') :
  wpAny (Ä X.prog X.w) X.A (newList []) (λacc M=>wpAny (Ä X.prog X.w) X.A (Ď scope X.env.globals cl [] X.env.qual ŕ .none (Z X.env)) (λR5 s₄=>
   í (Ä X.prog X.w) X.A (.compStart (.ListComp B [⟨G,f,l,0⟩] scope F) 0 (.ref it) acc { R5 with scope:=relabel scope X.env }) (RR acc R5.locals) s₄) E M) E I:=by
 refine Ks ?_ (by change 0<=sizeLine;decide);have I3:Inv X H σ (aq j I.heap.objs.size (.lst [])) { I with heap:=I.heap.push { cls:=.type "list",data:=.seq ([]:Y Value).toArray } }:=I2.lnew (t':=I.toks) .nil (by change 0<=sizeLine;decide);have k3:∀b o,I.heap.get? b=Z o->(I.heap.push { cls:=.type "list",data:=.seq ([]:Y Value).toArray }).get? b=Z o:=λb o e=>IA _ e;have z3:(I.heap.push { cls:=.type "list",data:=.seq ([]:Y Value).toArray }).objs.size=I.heap.objs.size+1:=Jx ..;have hD0:j I.heap.objs.size=ŕ:=I2.fresh;generalize hs3:({ I with heap:=I.heap.push { cls:=.type "list",data:=.seq ([]:Y Value).toArray } }:À)=s3 at I3 ⊢
 have eh3:s3.heap=I.heap.push { cls:=.type "list",data:=.seq ([]:Y Value).toArray }:=by rw[←hs3]
 have eo3:s3.os=I.os:=by rw[←hs3]
 generalize hDD:I.heap.objs.size=D at I3 hD0 z3 ⊢;rw[←eh3]at k3 z3;have live:∀b∈A,∃o,I.heap.get? b=Z o/\∀v,o.data≠.cell v:=λb a=>T.obj 0 _ QE b a
 have Ui:∀b∈A,b<D:=λb a=>by let⟨o,e,_⟩:=live b a;rw[←hDD];show IT e
 have f3:∀b∈A,eI X H (aq j D (.lst [])) b:=λb a=>⟨by rw[aY (Jk (Ui b a))];show (f2 b a).1,(f2 b a).2⟩;refine C4 λh4 hn4 k4 ok4=>?_;generalize hnw:Ø (s3.heap.objs.size+1) scope.names []=nw at ok4 ⊢;have st4:tn 0 h4:=T.keep 0 _ _ QE λb _ o e=>k4 b o (k3 b o e)
 have I4:Inv (bV X scope N' (nw++cl) s3.heap.objs.size s3 (aq j D (.lst [])) A) [] (eB cap σ) (aq j D (.lst [])) { s3 with heap:=h4 }:=
  Fv a_ I3 QF Rf (Iu _) S S k4 hn4 f3 (λb a=>by rw[z3];show K7 (Ui b a)) ok4 (λx c h=>rz _ _ (hnw▸h)) λx h=>hnw▸qu (a_.cel _ h S)
 let⟨W,⟨m0,w0⟩,turn⟩:=w D hD0
 have Uj:∀{z:Hp},(∀b∈A,z b=ŕ)->∀b∈A,eI (bV X scope N' (nw++cl) s3.heap.objs.size s3 (aq j D (.lst [])) A) [] z b:=λhn b a=>
  ⟨hn b a,Jk (by change b<s3.heap.objs.size;rw[z3];show K7 (Ui b a)),λhf=>I4.ok.exfs b a hf,.inl a,λx c e=>(I4.ok.exf b a).2 x c e,λp hp=>absurd (show p∈([]:Y (Addr×Ô))from hp) (by simp)⟩
 have loop:∀M:À,M={ s3 with heap:=h4 }->
   í (Ä X.prog X.w) X.A (.compLoop (.ListComp B [⟨G,f,l,0⟩] scope F) 0 (.ref it) (.ref D) (Đ scope (nw++cl) s3.heap.objs.size X.env)) (RR (.ref D) s3.heap.objs.size) M:=by
  rintro M rfl
  refine Dq (λn s'=>∃i Q z,Inv (bV X scope N' (nw++cl) s3.heap.objs.size s3 (aq j D (.lst [])) A) [] Q z s'/\tn i s'.heap/\(∀b∈A,z b=ŕ)/\W i n Q z) ?_ m0
   ⟨0,eB cap σ,aq j D (.lst []),I4,st4,λb a=>(f3 b a).1,w0⟩
  rintro n s5 ⟨i,be,H5,I5,RD,Tb,w5⟩;rcases turn i n be H5 w5 with⟨stop,qn⟩|⟨go,N,hN,step⟩
  ·refine aI (T.done (bV X scope N' (nw++cl) s3.heap.objs.size s3 (aq j D (.lst [])) A) S S S M8 i [] s5 be H5 _ I5 (Uj Tb) RD stop) λr s6 MY=>?_;let⟨hr,I6⟩:=MY;subst hr;let⟨m6,hn6,_⟩:=I6.loc;have un:Un (gq X.stack) A (aq j D (.lst [])) H5 s3.heap s6.heap:=I6.base;refine hRR D s3.heap.objs.size H5 s6 m6 (Jk I3.lt) I3.sz (λx c e=>?_) (λp hp=>?_) I6.free hn6 ?_ qn
   ·let⟨v,q⟩:=I3.cell x c e;show Jk q.lt
   ·show Jk (IT (I3.pin p hp).1)
   ·show I3.call' I6.os un I6.hok I6.bare λb a=>⟨(f3 b a).2.2.2.1,(f3 b a).2.1,(f3 b a).2.2.2.2.1,(f3 b a).2.2.2.2.2⟩
  ·refine aI (T.item (bV X scope N' (nw++cl) s3.heap.objs.size s3 (aq j D (.lst [])) A) S S S M8 i [] s5 be H5 (λ_ _=>False) I5 (Uj Tb) RD go) λr s6 NC=>?_;let⟨u,hr,h6⟩:=NC;subst hr;refine aI h6 λ_ s7 Ov=>?_;let⟨x,H7,I7,r7,y7,Uk,fr7⟩:=Ov;have I7':=I7.pinned (Uj fr7) (T.obj _ _ Uk);refine aI (hg _ _ _ _ _ s7 be H7 x u _ I7' r7 (step x H7 y7)) λ_ s8 RU=>?_;let⟨b_,H8,I8,q8⟩:=RU;refine aI (ht _ _ _ _ _ s8 b_ H8 _ I8 q8) λb s9 T3=>?_;let⟨H9,I9,q9⟩:=T3
   have again:∀{R:St}{H9:Hp}{s9:À},Inv (bV X scope N' (nw++cl) s3.heap.objs.size s3 (aq j D (.lst [])) A) ([]++lg A s7.heap) R H9 s9->N R H9->∃m,m<n/\∃i Q z,Inv (bV X scope N' (nw++cl) s3.heap.objs.size s3 (aq j D (.lst [])) A) [] Q z s9/\tn i s9.heap/\(∀b∈A,z b=ŕ)/\W i m Q z:=λ{R H9 s9} I9 n9=>by let⟨m',hm,w9⟩:=hN R H9 n9;refine⟨m',hm,i+1,R,H9,I9.unpinned,T.keep _ _ _ Uk λb a o e=>(I9.pin (b,o) (Jo _ (Jo _ (mh a e)))).1,λb a=>?_,w9⟩;let⟨o,e,d⟩:=T.obj _ _ Uk b a;show (I9.pin (b,o) (Jo _ (Jo _ (mh a e)))).2.1
   cases b with
   |false=>
    rw[Ir 'b']at q9 ⊢;show again I9 q9
   |true=>
    rw[Iw S]at q9 ⊢;refine aI (he _ _ _ _ _ s9 b_ H9 _ I9 q9) λyv s10 T4=>?_;let⟨y,Ul,I10,Um,ys,Uo,Up,q10⟩:=T4;refine aI (mw _ s10 b_ Ul (.ref D) [y] (.ref D) [yv] (λ_ z=>N b_ z) I10 S (.cons Um .nil) ⟨D,ys,y,S,S,Uo,Up,q10⟩) λ_ s11 hq6=>?_;let⟨_,H11,I11,_,q11⟩:=hq6;show again I11 q11
 show codeAny_compStart_list (loop _ S) (T.self _ 0 _ _ _ st4 (loop _ S))
theorem rV(E:X.calm=ŗ)(a_:CompScope X.N X.env.scope scope N' cap)(hi:PI X G f O)
  (hg:∀(cl:Y (Str×Addr))(a:Y Addr)(C:Addr)(p:À)(j:Hp),PG (bV X scope N' cl C p j a) G g) (ht:∀(cl:Y (Str×Addr))(a:Y Addr)(C:Addr)(p:À)(j:Hp),jk (bV X scope N' cl C p j a) l L)
  (he:∀(cl:Y (Str×Addr))(a:Y Addr)(C:Addr)(p:À)(j:Hp),PE (bV X scope N' cl C p j a) B K) (hs:∀x,Ê f X.env x=pure x:=by intro _;rfl) :
  PE X (.ListComp B [⟨G,f,l,0⟩] scope F) (gC O cap g L K):=by
 intro c s u H Q I h;let⟨cl,b_,N,be⟩:=rY (scope:=scope) (env:=X.env) λx hx hf=>I.ok.has x.1 (.inl (a_.free x hx hf));rw[eval_ListComp];refine wpAny_comprehension_free (use:=ŕ) S hs b_ a_.kind a_.names (aI (hi c s u H _ I h) λv s1 h1=>aI h1 λTa s2 h2=>?_);let⟨it,a,tn,J,H2,e,A,T,M,f2,w⟩:=h2;subst e;refine uw (RR:=λr C=>compPost (Ä X.prog X.w) X.A X.xe ŕ (EP X c u Q) r C) E a_ (λcl=>hg cl a) (λcl=>ht cl a) (λcl=>he cl a) A T M f2 N be (P:=Q) w ?_;intro D C y s' m' hL hz R Ur hC hn z q;refine⟨m',hn,λh' U=>⟨.ref D,y,z.turned (t':=s'.toks) (λb o hb e=>(U.2 b hb).trans e) hC (JD hL) (.inr hz) R Ur,S,q⟩⟩
theorem kG{i:Nat}{y:Str}{p Na:Ö}(M8:X.calm=ŗ)(hN:X.N.Nodup)(hy:X.N[i]?=Z y)(be:dO X.env.scope y)(a_:CompScope X.N X.env.scope scope N' cap)(hi:PI X G f O)
  (hg:∀(cl:Y (Str×Addr))(j:Y Addr)(C:Addr)(A:À)(u:Hp),PG (bV X scope N' cl C A u j) G g) (ht:∀(cl:Y (Str×Addr))(j:Y Addr)(C:Addr)(A:À)(u:Hp),jk (bV X scope N' cl C A u j) l L)
  (he:∀(cl:Y (Str×Addr))(j:Y Addr)(C:Addr)(A:À)(u:Hp),PE (bV X scope N' cl C A u j) B K) (OZ:Î (.ListComp B [⟨G,f,l,0⟩] scope F) (Z (.Name y p)) Na.line X.env=pure ŗ:=by rfl)
  (hs:∀x,Ê f X.env x=pure x:=by intro _;rfl) (U:X.fn y=ŗ\/X.env.scope.names.lookup y=Z .local:=by nofun) :
  PS X (.Assign [.Name y p] (.ListComp B [⟨G,f,l,0⟩] scope F) Na) (iR (gC O cap g L K) (ig i)):=by
 intro c s σ H D I h;let⟨cl,Uq,QF,Rf⟩:=rY (scope:=scope) (env:=X.env) λx be U=>I.ok.has x.1 (.inl (a_.free x be U));rw[exec_Assign_Name_used _ _ _ _ OZ];refine Iq (Mc (Iq ?_));change wpAny _ X.A (do let _ ←comprehension (.ListComp B [⟨G,f,l,0⟩] scope F) scope X.env _ (newList []) Ř (eval f X.env) (Z (assign (.Name y p) X.env))) _ _ s
 refine Iq (Kc (wpAny_comprehension_free (use:=Z (assign (.Name y p) X.env)) (Q:=λ_ r=>SP X c D .next r) S hs Uq a_.kind a_.names
  (aI (hi c s σ H _ I h) λv s1 h1=>aI h1 λTa s2 h2=>?_)) (λ_ r hq=>IK (IK hq)) λ_ _ e=>e)
 let⟨it,j,tn,J,H2,e,I2,T,QE,f2,w⟩:=h2;subst e;refine uw (RR:=λN C=>compPost (Ä X.prog X.w) X.A X.xe (Z (assign (.Name y p) X.env)) (λ_ r=>SP X c D .next r) N C) M8 a_ (λcl=>hg cl j) (λcl=>ht cl j) (λcl=>he cl j) I2 T QE f2 QF Rf (P:=λv E=>D.nx (σ.set i (Z v)) E) w ?_;intro b_ C E r m' hL hz QW Ur hC hn I' q;change wpAny _ X.A (assign (.Name y p) X.env (.ref b_)) _ _ r;refine wpAny_assign_Name (wv (v:=.ref b_) I' hN hy be S (λRW M R7=>?_) U);let⟨a,sb,ha⟩:=R7
 have R:C≠a:=by
  rcases ha with z|z
  ·rw[z];show JD hL
  ·show JD (QW y a z)
 refine⟨m',hn.sameBut sb R,λh' R6=>?_⟩;show⟨_,E,M.turned (t':=RW.toks) (λb o hb e=>(R6.2 b hb).trans e) hC (JD hL) (.inr hz) QW Ur,q⟩
end
open AutoSeq1 (wpAny_loadPart')
theorem Inv.turnedL{X:Cx}{a:Y (Addr×Ô)}{l:St}{H:Hp}{s:À}{h':Heap}{ch:Y Addr}{t':Nat}(I:Inv X a l H s)(k:∀b o,b∉ch->s.heap.get? b=Z o->h'.get? b=Z o)(g:∀b∈ch,eI X a H b) :
  Inv X a l H { s with heap:=h',toks:=t' }:=by
 have j:∀b u,H b=Z u->b∉ch:=λb u e z=>by rw[(g b z).1]at e;cases e
 refine I.step (g':=s.gens) (d':=s.drawn) (ch:=ch) (λb h=>⟨(g b h).2.2.2.1,(g b h).2.1,(g b h).2.2.2.2.1,(g b h).2.2.2.2.2⟩) (λb o _ _ f e _=>k b o f e) (λb o _ _ f e _=>⟨o.slots,k b o f e⟩) (λ_ _ _ _ n=>n)
  (λb o f e=>⟨o,k b o f e⟩) (λ_ _ e=>e) (λ_ _ _ e=>e) (λb ps e=>e) (λm w=>?_) (λb u e=>?_) I.bare
 ·let⟨o,es,p,x,r⟩:=w;show⟨o,es,p,k _ o (λz=>(g _ z).2.1 S) x,r⟩
 ·refine (I.hok b u e).stay (λc v f q=>k c v ?_ q) (λ_ q=>q) (λ_ _ q=>q) λ_ _ _ q=>q;rcases f with z|z
  ·rw[z];show j b u e
  ·show j c _ z
noncomputable def SqI(b:Bool)(h:Heap)(c a:Addr)(i:Nat):Prop:=match b with|true=>h.IsListIter c a i|false=>h.IsTupleIter c a i
noncomputable def SqO(b:Bool)(h:Heap)(a:Addr)(c:Array Value):Prop:=match b with|true=>h.IsList a c|false=>h.IsTuple a c
noncomputable def SqB(K:Â)(b:Bool)(H:Hp)(a:Addr)(xs:Y V):Prop:=match b with|true=>SqL K H a xs|false=>SqT K H a xs
noncomputable def db(b:Bool)(a:Addr):Ô:=match b with
 |true=>{ cls:=.type "list_iterator",data:=.fields #[.ref a,.int 0 0] }
 |false=>{ cls:=.type "tuple_iterator",data:=.fields #[.ref a,.int 0 0] }
theorem SqI.at{b:Bool}{h h':Heap}{c a:Addr}{i:Nat}(x:SqI b h c a i)(k:∀o,h.get? c=Z o->h'.get? c=Z o):SqI b h' c a i:=by cases b<;>(let⟨o,e,r⟩:=x;show⟨o,k o e,r⟩)
theorem SqO.at{b:Bool}{h h':Heap}{a:Addr}{c:Array Value}(x:SqO b h a c)(k:∀o,h.get? a=Z o->h'.get? a=Z o):SqO b h' a c:=by cases b<;>(let⟨o,e,r⟩:=x;show⟨o,k o e,r⟩)
theorem SqI.obj{b:Bool}{h:Heap}{c a:Addr}{i:Nat}(x:SqI b h c a i):∃o,h.get? c=Z o/\∀v,o.data≠.cell v:=by cases b<;>(let⟨o,e,_,d⟩:=x;show⟨o,e,λv z=>by rw[d]at z;cases z⟩)
theorem SqI.lt{b:Bool}{h:Heap}{c a:Addr}{i:Nat}(x:SqI b h c a i):c<h.objs.size:=by let⟨o,e,_⟩:=x.obj;show IT e
theorem SqO.lt{b:Bool}{h:Heap}{a:Addr}{c:Array Value}(x:SqO b h a c):a<h.objs.size:=by cases b<;>(let⟨o,e,_⟩:=x;show IT e)
theorem Inv.sqb{X:Cx}{e:Y (Addr×Ô)}{j:St}{H:Hp}{s:À}{b:Bool}{a:Addr}{xs:Y V}(I:Inv X e j H s)(h:SqB X.K b H a xs):∃c:Y Value,Vals xs c/\SqO b s.heap a c.toArray/\xs.length<=sizeLine:=by
 cases b with
 |true=>let⟨c,g,p,f⟩:=I.list h;show⟨c,g,p.isList,f⟩
 |false=>let⟨c,g,p,f⟩:=I.tuple h;show⟨c,g,p,f⟩
theorem Inv.sqb_inj{X:Cx}{c:Y (Addr×Ô)}{f:St}{H:Hp}{s:À}{b:Bool}{a:Addr}{xs e:Y V}(I:Inv X c f H s)(h:SqB X.K b H a xs)(h':SqB X.K b H a e):xs=e:=by
 cases b with
 |true=>show I.list_inj h h'
 |false=>show I.tuple_inj h h'
theorem SqB.same{K:Â}{b:Bool}{H c:Hp}{a:Addr}{xs:Y V}(e:Same H c)(h:SqB K b H a xs):SqB K b c a xs:=by
 cases b with
 |true=>show e.seq h
 |false=>
  rcases h with (h|⟨o,h⟩)|h
  ·show .inl (.inl (e _ _ h))
  ·show .inl (.inr ⟨o,e _ _ h⟩)
  ·show .inr h
section
variable{prog:Å}{w:È}{A:Ì}{E:Value->À->Prop}{s:À}
theorem kD{b:Bool}{a:Addr}{c:Array Value}{Q:Value->À->Prop}(h:SqO b s.heap a c)(q:Q (.ref s.heap.objs.size) { s with heap:=s.heap.push (db b a) }):wpAny (Ä prog w) A (pyIter (.ref a)) Q E s:=by
 cases b with
 |true=>show Me h q
 |false=>show K1 h q
theorem jJ{b:Bool}{h:Heap}{c a:Addr}(e:h.get? c=Z (db b a)):SqI b h c a 0:=by cases b<;>show⟨_,e,S,S⟩
theorem lH{b:Bool}{e a:Addr}{i:Nat}{g:Array Value}{x:Value}{Q:Value->À->Prop}(c:SqI b s.heap e a i)(j:SqO b s.heap a g)(l:g[i]?=Z x)
  (h:∀h',SqI b h' e a (i+1)->Heap.SameBut e s.heap h'->Q x { s with heap:=h' }):wpAny (Ä prog w) A (Builtin.SmallTypes.nextOf (.ref e)) Q E s:=by
 cases b with
 |true=>show wpAny_nextOf_list_item c j l h
 |false=>
  have c:s.heap.IsTupleIter e a i:=c;let⟨o,f,u,hd⟩:=id c;let⟨v,p,_,nl,r⟩:=j;unfold Builtin.SmallTypes.nextOf;refine Iq (JX (name:=Str.ofString "__next__") c.typeIs KL (Kw KL c.typeIs L9 ?_ (L4 _)));change wpAny _ _ (ď (.ref e) 0 >>= _) _ _ s;refine Iq (JQ f hd (x:=.ref a) S ?_);change wpAny _ _ (if (Value.ref a==Value.none)=ŗ then _ else _) _ _ s;rw[Ir (show ¬ ((Value.ref a==Value.none)=ŗ)from Jm)];change wpAny _ _ (ď (.ref e) 1 >>= _) _ _ s;refine Iq (JQ f hd (x:=.int i 0) S ?_);change wpAny _ _ (seqItems? (.ref a) >>= _) _ _ s;refine Iq (Kz p r ?_);simp only[JO,l];refine Iq (wpAny_setField f hd (by simp) (IK ⟨x,S,IK (h _ ?_ (Heap.SameBut.update ..))⟩));show⟨_,Heap.get?_update_self _ f (Ô.isFreed_of_fields (Ĭ hd _)),(Ô.cls_mapFields ..).trans u,by rw[Ĭ hd];simp[ò]⟩
theorem ng{b:Bool}{f a:Addr}{i:Nat}{j:Array Value}{Q:Value->À->Prop}(g:A.handled=ŕ)(c:SqI b s.heap f a i)(p:SqO b s.heap a j)(r:j[i]?=ŕ)
  (l:∀h' e,Heap.ExtBut f s.heap h'->(∃o,h'.get? e=Z o/\o.cls=.type "StopIteration")->E (.ref e) { s with heap:=h' }):wpAny (Ä prog w) A (Builtin.SmallTypes.nextOf (.ref f)) Q E s:=by
 cases b with
 |true=>show wpAny_nextOf_list_end g c p r l
 |false=>
  have c:s.heap.IsTupleIter f a i:=c;let⟨o,h,y,hd⟩:=id c;let⟨z,u,_,nl,v⟩:=p;unfold Builtin.SmallTypes.nextOf;refine Iq (JX (name:=Str.ofString "__next__") c.typeIs KL (Kw KL c.typeIs L9 ?_ (L4 _)));change wpAny _ _ (ď (.ref f) 0 >>= _) _ _ s;refine Iq (JQ h hd (x:=.ref a) S ?_);change wpAny _ _ (if (Value.ref a==Value.none)=ŗ then _ else _) _ _ s;rw[Ir (show ¬ ((Value.ref a==Value.none)=ŗ)from Jm)];change wpAny _ _ (ď (.ref f) 1 >>= _) _ _ s;refine Iq (JQ h hd (x:=.int i 0) S ?_);change wpAny _ _ (seqItems? (.ref a) >>= _) _ _ s;refine Iq (Kz u v ?_);simp only[JO,r];refine Iq (č (Iq (wpAny_setField h hd (by simp) ?_)));change wpAny _ _ (newExc (.type "StopIteration") [] >>= _) _ _ _;refine Iq ?_;simp only[newExc,newTuple];refine Iq (Ks ?_ (by size_fits));refine Iq (m:=firstArgMember _ _) (wpAny_of_eq (a:=Value.none) (by first|rfl|(simp only[firstArgMember];rfl)) ?_);refine Ks ?_ (by size_fits);simp only[raiseNew];refine Iq (wpAny_handled ?_)
  first|rw[show A.in1.handled=ŕ from g]|rw[g]
  refine Iq (IK (wpAny_throw ?_));show l _ _ (((Heap.SameBut.update ..).extBut.push _).push _) ⟨_,IM _ S,S⟩
theorem EJ(r:A.handled=ŕ)(b:Bool)(c a:Addr)(j:a≠c)(f:Array Value):Draws prog w A c [c,a] f.size (λi v=>f[i]?=Z v) (λi h=>SqI b h c a i/\SqO b h a f) where
 live:=λ_ _ st=>let ⟨o,e,_⟩:=st.1.obj;⟨o,e⟩
 frame:=λ_ _ _ st k=>⟨st.1.at λo e=>k c (by simp) o e,st.2.at λo e=>k a (by simp) o e⟩
 item:=λi s Q E g st p=>lH st.1 st.2 (x:=f[i]) (by simp[g]) λh' q sb=>p _ h' s.toks (by simp[g]) ⟨q,st.2.at λo e=>(sb.2 a j).trans e⟩ sb
 done:=λs Q E st l=>ng r st.1 st.2 (by simp) l
theorem CG(l:Addr)(a:Array Value)(n:Nat)(dct:Ŗ Addr)(sl:Array (Ŗ Value)) :
  ň (Builtin.«enumerate.__new__» ⟨[.type "enumerate",.ref l],[]⟩) (λ_ R s=>s.heap.get? l=Z { cls:=.type "tuple",dict:=dct,data:=.seq a n,slots:=sl } /\
   R (.ok (.ret (.ref (s.heap.push (db Ř l)).objs.size)))
    { s with heap:=(s.heap.push (db Ř l)).push { cls:=.type "enumerate",data:=.fields #[.none,.bool Ř,.ref s.heap.objs.size,ò 0,.none,.none] } }):=
 .of_wp λprog w A R s h=>by
  let⟨j,g,d,o,os⟩:=s;let⟨e,h⟩:=h;have p:=sub_enumerate;have f:Heap.IsTuple (ĉ ⟨j,g,d,o,os⟩) l a:=⟨_,e,S,n,S⟩
  wp_walk using JA e
  refine wpAny_stack_any λst=>IK ?_;split
  ·rename_i c _ _ _ _ _;cases (c==Value.type "enumerate")
   ·(wp_walk using JA e,K1 f);show⟨_,S,h⟩
   ·(wp_walk using JA e,K1 f);show⟨_,S,h⟩
  ·(wp_walk using JA e,K1 f);show⟨_,S,h⟩
theorem Db{b:Bool}{l:Addr}{a:Array Value}{Q:Value->À->Prop}(j:SqO b s.heap l a)
  (h:∀h',IsEnum h' (s.heap.objs.size+1) s.heap.objs.size 0 .none->SqI b h' s.heap.objs.size l 0->h'.objs.size=s.heap.objs.size+2->(∀b o,s.heap.get? b=Z o->h'.get? b=Z o)->Q (.ref (s.heap.objs.size+1)) { s with heap:=h' }) :
  wpAny (Ä prog w) A (call (.type "enumerate") [.ref l]) Q E s:=by
 cases b with
 |true=>show call_enumerate_list j h
 |false=>
  let⟨⟨c,dct,p,sl⟩,u,e,n,hd⟩:=j;replace e:c=.type "tuple":=e;replace hd:p=.seq a n:=hd;subst e hd;refine callType_new F.called_enumerate 'b' (F.typeCall_enumerate_1 _) (F.newCall_enumerate_1 _) (λobj=>F.args_object_init_2 obj _) F.entry_enumerate_new (CG l a n dct sl) ⟨u,?_⟩;have g:(s.heap.push (db Ř l)).objs.size=s.heap.objs.size+1:=Jx ..;change _/\_;rw[g];have f:=IM (s.heap.push (db Ř l)) (o:={ cls:=.type "enumerate",data:=.fields #[.none,.bool Ř,.ref s.heap.objs.size,ò 0,.none,.none] }) S;rw[g]at f;have r:(s.heap.push (db Ř l)).get? s.heap.objs.size=Z (db Ř l):=IM _ S;show⟨⟨_,f,S⟩,h _ f (jJ (IA _ r)) (by rw[Jx,g]) λb o x=>IA _ (IA _ x)⟩
theorem An{b:Bool}{e c a:Addr}{i:Nat}{j:Int}{l:Array Value}{h:Value}{Q:Ŗ Value->À->Prop}(z:A.handled=ŕ)(r:IsEnum s.heap e c j h)(g:SqI b s.heap c a i)(B:SqO b s.heap a l)(G:l[i]?=ŕ)
  (v:∀h',Heap.ExtBut c s.heap h'->Q ŕ { s with heap:=h' }):wpAny (Ä prog w) A (ó (.ref e)) Q E s:=by
 have p:s.TypeIs (.ref e) "enumerate":=⟨_,r,S⟩;unfold ó;refine Iq (Ė (JX (name:=Str.ofString "__next__") p F.slot_enumerate_next (Kw F.slot_enumerate_next p F.entry_enumerate_next ?_ (F.args_enumerate_next_1 _))));change wpAny _ _ (ď (.ref e) 2 >>= _) _ _ _;refine Iq (JQ r S (x:=.ref c) S (Iq (ng z g B G λh' x f u=>?_)));let⟨o,C,y⟩:=u;show Iq (ŋ (T:="StopIteration") (b:=ŗ) ⟨o,C,y⟩ isSubtype_stop (IK (v _ f)))
end
noncomputable def mC(K:Â)(b:Bool)(a:Addr):It:=
 ⟨λi H=>∃xs x,SqB K b H a xs/\xs[i]?=Z x,λi H x c=>∃t y,H t=ŕ/\x=.ref t/\c=aq H t (.tup [.int i,y])/\∀xs,SqB K b H a xs->xs[i]?=Z y,λi H=>∃xs,SqB K b H a xs/\xs.length<=i⟩
theorem Hn{P:Å}{w:È}{K:Â}{es:Y Ã}{k:Nat}{pos:Ö}(b:Bool)(a e j:Addr)(M:e≠j):Turn P w K (.Tuple es k pos) (mC K b a) [e,j] e (λi h=>(∃g,IsEnum h e j i g)/\SqI b h j a i) where
 mem:=by simp
 obj:=λi h st c f=>by
  let⟨⟨g,l⟩,A⟩:=st;rcases IL.mp f with rfl|f
  ·show⟨_,l,λv z=>by have z':Ĕ _=û v:=z;cases z'⟩
  ·rw[Iz.mp f];show A.obj
 keep:=λi h h' st k=>by let⟨⟨g,l⟩,A⟩:=st;show⟨⟨g,k e (by simp) _ l⟩,A.at λo q=>k j (by simp) o q⟩
 item:=by
  intro X a_ be R f i r s σ H E I J st U;subst a_ be R;let⟨xs,x,L,b_⟩:=U;let⟨⟨g,l⟩,A⟩:=st;let⟨B,rv,p,hz⟩:=I.sqb L;let⟨u,hu,ru⟩:=rv.get b_
  have Nm:a≠j:=λz=>by
   subst z
   have O:=p;have Q:=A
   cases b<;>(let⟨o1,G,N,_⟩:=O;let⟨o2,e2,c2,_⟩:=Q;rw[G]at e2;cases e2;rw[N]at c2;show absurd c2 (by simp))
  have Uw:a≠e:=λz=>by
   subst z;have O:=p;cases b<;>(let⟨o1,G,N,_⟩:=O;rw[l]at G;cases G;show absurd N (by simp))
  have O8:i<B.toArray.size:=by have:i<B.length:=(Jz.mp hu).1;simpa using this
  have hh:X.A.in1.handled=ŕ:=I.ok.hd f;refine wpAny_pyNext_enum_itemD (EJ hh b j a Nm B.toArray) l ⟨A,p⟩ O8 M (by simp[M,JD Uw]) λy h' F C ho NI hT hsz hk=>?_
  have hy:y=u:=by
   have:B.toArray[i]?=Z u:=by simpa using hu
   rw[this]at C;show (Jf C).symm
  subst hy;refine⟨.ref s.heap.objs.size,S,wpAny_letOwnedTupleGo_enum ho λQ Tq N5=>?_⟩;have zn:H s.heap.objs.size=ŕ:=I.fresh
  have I1:Inv X r σ (aq H s.heap.objs.size (.tup [.int i,x])) { s with heap:=s.heap.push { cls:=.type "tuple",data:=.seq #[.int i F,y] },toks:=F }:=
   I.laid (λc o q=>IA _ q) (Iu _) ⟨by change 2<=sizeLine;decide,[.int i F,y],.cons ⟨F,S⟩ (.cons ru .nil),_,IM _ S,⟨S,S⟩,0,S⟩
  have Ux:∀c∈[e,j],c<s.heap.objs.size:=λc f=>by
   rcases IL.mp f with rfl|f
   ·show IT l
   ·rw[Iz.mp f];show A.lt
  have f1:∀c∈[e,j],eI X r (aq H s.heap.objs.size (.tup [.int i,x])) c:=λc f=>⟨by rw[aY (Jk (Ux c f))];show (J c f).1,(J c f).2⟩;have I2:=I1.turnedL (h':=Q) (ch:=[e,j]) (t':=F+1) (λc o f q=>?_) f1
  ·refine⟨.ref s.heap.objs.size,_,I2,S,⟨s.heap.objs.size,x,zn,S,S,λys hy=>by rw[I.sqb_inj hy L];show b_⟩,⟨⟨_,by simpa using Tq⟩,NI.1.at λo q=>(N5.2 j (JD M)).trans q⟩,λc f=>(f1 c f).1⟩
  ·have QH:c≠e:=λz=>f (by simp[z]);have T:c≠j:=λz=>f (by simp[z]);refine (N5.2 c QH).trans ?_;rcases Heap.get?_push_cases q with⟨z,z'⟩|q'
   ·subst z;subst z';show hT
   ·show hk c o QH T q'
 done:=by
  intro X a_ be R f i r s σ H E I J st U;subst a_ be R;let⟨xs,L,b_⟩:=U;let⟨⟨g,l⟩,A⟩:=st;let⟨B,rv,p,hz⟩:=I.sqb L;have hl:=rv.length;refine An (I.ok.hd f) l A p (by simp;omega) λh' eb=>⟨S,?_⟩;show I.turnedL (ch:=[e,j]) (t':=s.toks) (λc o f q=>eb c o (λz=>f (by simp[z])) q) J
 self:=λ_ _ _ _ _ st h=>by let⟨⟨g,l⟩,_⟩:=st;show Ń l h
end L2
namespace L2
open PySem PySem.Spec PyProof.Rows
open AutoSeq1 (wpAny_loadPart')
structure ZAp(z TI TO i1 i2:Addr):Prop where
 a1:TI≠z
 a2:TO≠z
 a3:i1≠z
 a4:i2≠z
 a5:TI≠TO
 a6:TI≠i1
 a7:TI≠i2
 a8:TO≠i1
 a9:TO≠i2
 a0:i1≠i2
theorem SqI.but{b:Bool}{h h':Heap}{f a c:Addr}{i:Nat}(x:SqI b h f a i)(s:Heap.SameBut c h h')(n:f≠c):SqI b h' f a i:=x.at λo e=>(s.2 f n).trans e
theorem SqO.but{b:Bool}{h h':Heap}{a c:Addr}{f:Array Value}(x:SqO b h a f)(s:Heap.SameBut c h h')(n:a≠c):SqO b h' a f:=x.at λo e=>(s.2 a n).trans e
theorem SqO.ne{b:Bool}{h:Heap}{a c:Addr}{j:Array Value}{o:Ô}(x:SqO b h a j)(e:h.get? c=Z o)(n1:o.cls≠.type "list")(n2:o.cls≠.type "tuple"):a≠c:=λz=>by
 subst z;cases b<;>(let⟨o',g,f,_⟩:=x;rw[e]at g;cases g)
 ·show n2 f
 ·show n1 f
theorem SqO.ne_it{b f:Bool}{h:Heap}{a g l:Addr}{j:Array Value}{i:Nat}(x:SqO b h a j)(y:SqI f h g l i):a≠g:=by cases f<;>(let⟨o,e,c,_⟩:=y;show x.ne e (by rw[c];simp) (by rw[c];simp))
section
variable{prog:Å}{w:È}{A:Ì}{E:Value->À->Prop}{s:À}
theorem lY{c z t a b:Addr}(h:c∉[z,t,a,b]):c≠z/\c≠t/\c≠a/\c≠b:=by simpa using h
theorem lq(z t u a b:Addr):z∈[z,t,u,a,b]/\t∈[z,t,u,a,b]/\u∈[z,t,u,a,b]/\a∈[z,t,u,a,b]/\b∈[z,t,u,a,b]:=by simp
theorem vY{z t u a b x:Addr}(h:x∈[z,u,a,b]):x∈[z,t,u,a,b]:=(List.Sublist.cons₂ z (.cons t (.refl _))).subset h
theorem yA{I J:Bool}{z TI TO g h r l:Addr}{M N:Nat}{xs ys:Array Value}{x y a b:Value}{Q:Value->À->Prop}(D:ZAp z TI TO g h)
  (j:ç s.heap z TI TO .none) (Rg:Ó s.heap TI (.ref g) (.ref h)) (Rh:Ó s.heap TO a b) (n1:r≠TO) (n2:l≠TO)
  (h1:SqI I s.heap g r M) (h2:SqI J s.heap h l N) (Ox:SqO I s.heap r xs) (R:SqO J s.heap l ys) (hx:xs[M]?=Z x) (hy:ys[N]?=Z y)
  (hQ:∀h',ç h' z TI TO (ò s.heap.objs.size)->Ó h' TO x y->SqI I h' g r (M+1)->SqI J h' h l (N+1)->Ó h' s.heap.objs.size x y->h'.objs.size=s.heap.objs.size+1->
   (∀c o,c∉[z,TO,g,h]->s.heap.get? c=Z o->h'.get? c=Z o)->Q (.ref s.heap.objs.size) { s with heap:=h' }) :
  wpAny (Ä prog w) A (Builtin.«zip.__next__» ⟨[.ref z],[]⟩) (λa_ s'=>∃v,a_=.done (.ret v)/\Q v s') E s:=by
 have T:r≠z:=Ox.ne j (by simp) (by simp);have U:l≠z:=R.ne j (by simp) (by simp);have F:l≠g:=R.ne_it h1;change wpAny _ _ (ď (.ref z) 2 >>= _) _ _ _;refine Iq (JQ j S (x:=.bool Ř) S ?_);change wpAny _ _ (ď (.ref z) 3 >>= _) _ _ _;refine Iq (JQ j S (x:=.ref TI) S (Iq (Kz Rg S ?_)));change wpAny _ _ (Builtin.SmallTypes.ownedTupleIsFree (.ref z) >>= _) _ _ _;refine Iq ?_;unfold Builtin.SmallTypes.ownedTupleIsFree;refine Iq (JQ j S (x:=.none) S (IK ?_));simp only[Lx];refine Iq (č (Iq (JQ j S (x:=.ref TO) S (Iq (KC j (by simp) λg1 z1 p=>?_)))));replace z1:ç g1 z TI TO .ellipsis:=z1;refine Iq ?_;simp only[List.zipIdx_cons,List.zipIdx_nil,LU,MI];refine Iq (Iq (Md ?_));change wpAny _ _ (Builtin.SmallTypes.nextOf (.ref g) >>= _) _ _ _;refine Iq (lH (h1.but p D.a3) (Ox.but p T) hx λg2 p2 u=>IK ?_);have t2:Ó g2 TO a b:=u.extBut _ _ D.a8 (p.extBut _ _ D.a2 Rh);refine Iq (Kz t2 S (Iq (LV t2 λg3 b_ B=>Iq (ĵ (IK ?_)))));replace b_:Ó g3 TO x b:=b_;refine Iq (Iq (Md ?_));change wpAny _ _ (Builtin.SmallTypes.nextOf (.ref h) >>= _) _ _ _;refine Iq (lH (((h2.but p D.a4).but u D.a0.symm).but B D.a9.symm) (((R.but p U).but u F).but B n2) hy λg4 p4 G=>IK ?_);have t4:Ó g4 TO x b:=G.extBut _ _ D.a9 b_;refine Iq (Kz t4 S (Iq (LV t4 λf O H=>Iq (ĵ (IK (IK ?_))))));replace O:Ó f TO x y:=O;refine Iq (Kz O S (Iq (wpAny_newTuple ?_)))
 have sz:f.objs.size=s.heap.objs.size:=by rw[H.1,G.1,B.1,u.1,p.1]
 have z5:ç f z TI TO .ellipsis:=H.extBut _ _ D.a2.symm (G.extBut _ _ D.a4.symm (B.extBut _ _ D.a2.symm (u.extBut _ _ D.a3.symm z1)))
 have k5:∀c o,c∉[z,TO,g,h]->s.heap.get? c=Z o->f.get? c=Z o:=λc o L e=>by let⟨K,c2,c3,c4⟩:=lY L;show H.extBut _ _ c2 (G.extBut _ _ c4 (B.extBut _ _ c2 (u.extBut _ _ c3 (p.extBut _ _ K e))))
 have q1:SqI I f g r (M+1):=((p2.but B D.a8.symm).but G D.a0).but H D.a8.symm;have q2:SqI J f h l (N+1):=p4.but H D.a9.symm;change wpAny _ _ (Builtin.SmallTypes.ownedTupleHandOut (.ref z) (.ref f.objs.size) >>= _) _ _ _;refine Iq ?_;unfold Builtin.SmallTypes.ownedTupleHandOut;have z6:ç (f.push { cls:=.type "tuple",data:=.seq #[x,y] }) z TI TO .ellipsis:=IA _ z5;refine Iq (KC z6 (by simp) λg7 z7 X=>?_);replace z7:ç g7 z TI TO (ò f.objs.size):=z7;refine KC z7 (by simp) λC P be=>?_;replace P:ç C z TI TO (ò f.objs.size):=P;have up:∀c o,c≠z->f.get? c=Z o->C.get? c=Z o:=λc o K e=>be.extBut _ _ K (X.extBut _ _ K (IA _ e));have zl:f.objs.size≠z:=MR (IT z5);have t8:Ó C f.objs.size x y:=be.extBut _ _ zl (X.extBut _ _ zl (IM _ S))
 have e8:C.objs.size=f.objs.size+1:=by rw[be.1,X.1,Jx]
 rw[sz]at P t8 e8;refine IK ⟨_,S,?_⟩;change Q (.ref f.objs.size) _;rw[sz];show hQ C P (up _ _ D.a2 O) (q1.at λo e=>up _ o D.a3 e) (q2.at λo e=>up _ o D.a4 e) t8 e8 λc o L e=>up c o (lY L).1 (k5 c o L e)
theorem DA{b_ b2:Bool}{z TI TO r y G C:Addr}{a_ T:Nat}{xs be:Array Value}{a b:Value}{Q:Fin->À->Prop}(hh:A.handled=ŕ)(D:ZAp z TI TO r y)
  (l:ç s.heap z TI TO .none) (Rg:Ó s.heap TI (.ref r) (.ref y)) (Rh:Ó s.heap TO a b) (n1:G≠TO) (n2:C≠TO)
  (N:SqI b_ s.heap r G a_) (h2:SqI b2 s.heap y C T) (J:SqO b_ s.heap G xs) (I:SqO b2 s.heap C be) (Od:xs[a_]?=ŕ\/be[T]?=ŕ)
  (hE:∀h' e,(∀c o,c∉[z,TO,r,y]->s.heap.get? c=Z o->h'.get? c=Z o)->(∃o,h'.get? e=Z o/\o.cls=.type "StopIteration")->E (.ref e) { s with heap:=h' }) :
  wpAny (Ä prog w) A (Builtin.«zip.__next__» ⟨[.ref z],[]⟩) Q E s:=by
 have B:G≠z:=J.ne l (by simp) (by simp);have U:C≠z:=I.ne l (by simp) (by simp);have F:C≠r:=I.ne_it N;change wpAny _ _ (ď (.ref z) 2 >>= _) _ _ _;refine Iq (JQ l S (x:=.bool Ř) S ?_);change wpAny _ _ (ď (.ref z) 3 >>= _) _ _ _;refine Iq (JQ l S (x:=.ref TI) S (Iq (Kz Rg S ?_)));change wpAny _ _ (Builtin.SmallTypes.ownedTupleIsFree (.ref z) >>= _) _ _ _;refine Iq ?_;unfold Builtin.SmallTypes.ownedTupleIsFree;refine Iq (JQ l S (x:=.none) S (IK ?_));simp only[Lx];refine Iq (č (Iq (JQ l S (x:=.ref TO) S (Iq (KC l (by simp) λg1 H f=>?_)))));replace H:ç g1 z TI TO .ellipsis:=H;refine Iq ?_;simp only[List.zipIdx_cons,List.zipIdx_nil,LU,MI];refine Iq (Iq (Md ?_));change wpAny _ _ (Builtin.SmallTypes.nextOf (.ref r) >>= _) _ _ _
 cases R:xs[a_]? with
 |none=>
  refine Iq (ng hh (N.but f D.a3) (J.but f B) R λM e g P=>?_);let⟨X,j,u⟩:=P;have z2:ç M z TI TO .ellipsis:=g _ _ D.a3.symm H
  have L:e≠z:=λq=>by subst q;rw[z2]at j;cases j;simp at u
  refine KC z2 (by simp) λg3 _ p=>hE g3 e (λc o O q=>?_) ⟨X,p.extBut _ _ L j,u⟩;let⟨v,c2,K,c4⟩:=lY O;show p.extBut _ _ v (g _ _ K (f.extBut _ _ v q))
 |some x=>
  have hy:be[T]?=ŕ:=by
   rcases Od with h|h
   ·rw[R]at h;cases h
   ·show h
  refine Iq (lH (N.but f D.a3) (J.but f B) R λM p2 g=>IK ?_);have t2:Ó M TO a b:=g.extBut _ _ D.a8 (f.extBut _ _ D.a2 Rh);refine Iq (Kz t2 S (Iq (LV t2 λg3 t3 p=>Iq (ĵ (IK ?_)))));refine Iq (Iq (Md ?_));change wpAny _ _ (Builtin.SmallTypes.nextOf (.ref y) >>= _) _ _ _;refine Iq (ng hh (((h2.but f D.a4).but g D.a0.symm).but p D.a9.symm) (((I.but f U).but g F).but p n2) hy λg4 e s4 P=>?_);let⟨X,j,u⟩:=P;have z4:ç g4 z TI TO .ellipsis:=s4 _ _ D.a4.symm (p.extBut _ _ D.a2.symm (g.extBut _ _ D.a3.symm H))
  have L:e≠z:=λq=>by subst q;rw[z4]at j;cases j;simp at u
  refine KC z4 (by simp) λg5 _ s5=>hE g5 e (λc o O q=>?_) ⟨X,s5.extBut _ _ L j,u⟩;let⟨v,c2,K,c4⟩:=lY O;show s5.extBut _ _ v (s4 _ _ c4 (p.extBut _ _ c2 (g.extBut _ _ K (f.extBut _ _ v q))))
theorem Dh(c l:Bool)(a j:Addr)(xs v:Array Value) :
  ň (Builtin.«zip.__new__» ⟨[.type "zip",.ref a,.ref j],[]⟩) (λ_ R s=>SqO c s.heap a xs/\SqO l s.heap j v /\
   R (.ok (.ret (.ref (s.heap.objs.size+4)))) { s with heap:=((((s.heap.push (db c a)).push (db l j)).push { cls:=.type "tuple",data:=.seq #[.ref s.heap.objs.size,.ref (s.heap.objs.size+1)] }).push { cls:=.type "tuple",data:=.seq #[.none,.none] }).push { cls:=.type "zip",data:=.fields #[.none,.bool Ř,.bool Ř,.ref (s.heap.objs.size+2),.ref (s.heap.objs.size+3)] } }):=
 .of_wp λprog w A R s h=>by
  let⟨f,g,d,u,os⟩:=s;let⟨y,x,h⟩:=h;have B:=sub_zip;have p:SqO c (ĉ ⟨f,g,d,u,os⟩) a xs:=y;have r:SqO l (ĉ ⟨f.push (db c a),g,d,u,os⟩) j v:=SqO.at x λo e=>IA _ e
  wp_walk using kD p,kD r
  have z:(f.push (db c a)).objs.size=f.objs.size+1:=Jx ..
  have C:((f.push (db c a)).push (db l j)).objs.size=f.objs.size+2:=by rw[Jx,z]
  refine⟨_,S,?_⟩;simp only[Jx];show h
theorem yp{a f:Bool}{e g:Addr}{xs I:Array Value}{Q:Value->À->Prop}(M:SqO a s.heap e xs)(L:SqO f s.heap g I)
  (h:∀h',ç h' (s.heap.objs.size+4) (s.heap.objs.size+2) (s.heap.objs.size+3) .none->Ó h' (s.heap.objs.size+2) (.ref s.heap.objs.size) (.ref (s.heap.objs.size+1))->Ó h' (s.heap.objs.size+3) .none .none->
   SqI a h' s.heap.objs.size e 0->SqI f h' (s.heap.objs.size+1) g 0->(∀c o,s.heap.get? c=Z o->h'.get? c=Z o)->Q (.ref (s.heap.objs.size+4)) { s with heap:=h' }) :
  wpAny (Ä prog w) A (call (.type "zip") [.ref e,.ref g]) Q E s:=by
 refine callType_new F.called_zip 'b' (F.typeCall_zip_2 _ _) (F.newCall_zip_2 _ _) (λobj=>F.args_object_init_3 obj _ _) F.entry_zip_new (Dh a f e g xs I) ⟨M,L,?_⟩
 have a_:(db a e).isFreed=Ř:=by cases a<;>rfl
 have T:(db f g).isFreed=Ř:=by cases f<;>rfl
 have J:(s.heap.push (db a e)).objs.size=s.heap.objs.size+1:=Jx ..
 have C:((s.heap.push (db a e)).push (db f g)).objs.size=s.heap.objs.size+2:=by rw[Jx,J]
 generalize x:(s.heap.push (db a e)).push (db f g)=j at C ⊢
 have N:j.get? s.heap.objs.size=Z (db a e):=by rw[←x];show IA _ (IM _ a_)
 have O:j.get? (s.heap.objs.size+1)=Z (db f g):=by rw[←x,←J];show IM _ T
 have U:∀c o,s.heap.get? c=Z o->j.get? c=Z o:=λc o q=>by rw[←x];show IA _ (IA _ q)
 generalize y:j.push { cls:=.type "tuple",data:=.seq #[.ref s.heap.objs.size,.ref (s.heap.objs.size+1)] }=l
 have K:l.objs.size=s.heap.objs.size+3:=by rw[←y,Jx,C]
 have P:Ó l (s.heap.objs.size+2) (.ref s.heap.objs.size) (.ref (s.heap.objs.size+1)):=by rw[←y,←C];show IM _ S
 have B:∀c o,j.get? c=Z o->l.get? c=Z o:=λc o q=>by rw[←y];show IA _ q
 generalize z:l.push { cls:=.type "tuple",data:=.seq #[.none,.none] }=p
 have X:p.objs.size=s.heap.objs.size+4:=by rw[←z,Jx,K]
 have R:Ó p (s.heap.objs.size+3) .none .none:=by rw[←z,←K];show IM _ S
 have v:∀c o,l.get? c=Z o->p.get? c=Z o:=λc o q=>by rw[←z];show IA _ q
 generalize r:p.push { cls:=.type "zip",data:=.fields #[.none,.bool Ř,.bool Ř,.ref (s.heap.objs.size+2),.ref (s.heap.objs.size+3)] }=H
 have G:ç H (s.heap.objs.size+4) (s.heap.objs.size+2) (s.heap.objs.size+3) .none:=by rw[←r,←X];show IM _ S
 have u:∀c o,p.get? c=Z o->H.get? c=Z o:=λc o q=>by rw[←r];show IA _ q
 change _/\_;show⟨⟨_,G,S⟩,h _ G (u _ _ (v _ _ P)) (u _ _ R) (jJ (u _ _ (v _ _ (B _ _ N)))) (jJ (u _ _ (v _ _ (B _ _ O)))) λc o q=>u _ _ (v _ _ (B _ _ (U _ _ q)))⟩
theorem BN{j l:Bool}{z TI TO e f g h:Addr}{p r:Nat}{xs B:Array Value}{x y a b:Value}{Q:Ŗ Value->À->Prop}(D:ZAp z TI TO e f)
  (v:ç s.heap z TI TO .none) (H:Ó s.heap TI (.ref e) (.ref f)) (I:Ó s.heap TO a b) (n1:g≠TO) (n2:h≠TO)
  (R:SqI j s.heap e g p) (a_:SqI l s.heap f h r) (G:SqO j s.heap g xs) (C:SqO l s.heap h B) (U:xs[p]?=Z x) (X:B[r]?=Z y)
  (T:∀h',ç h' z TI TO (ò s.heap.objs.size)->Ó h' TO x y->SqI j h' e g (p+1)->SqI l h' f h (r+1)->Ó h' s.heap.objs.size x y->h'.objs.size=s.heap.objs.size+1->
   (∀c o,c∉[z,TO,e,f]->s.heap.get? c=Z o->h'.get? c=Z o)->Q (Z (.ref s.heap.objs.size)) { s with heap:=h' }):wpAny (Ä prog w) A (ó (.ref z)) Q E s:=by
 have u:s.TypeIs (.ref z) "zip":=⟨_,v,S⟩;unfold ó
 show Iq (Ė (JX (name:=Str.ofString "__next__") u LX (Kw LX u F.entry_zip_next
  (yA D v H I n1 n2 R a_ G C U X λh' J K L M N O P=>IK (T h' J K L M N O P)) (F.args_zip_next_1 _))))
theorem yI{l p:Bool}{z TI TO f g h j:Addr}{v x:Nat}{xs y:Array Value}{a b:Value}{Q:Ŗ Value->À->Prop}(O:A.handled=ŕ)(D:ZAp z TI TO f g)
  (u:ç s.heap z TI TO .none) (H:Ó s.heap TI (.ref f) (.ref g)) (I:Ó s.heap TO a b) (n1:h≠TO) (n2:j≠TO)
  (J:SqI l s.heap f h v) (K:SqI p s.heap g j x) (G:SqO l s.heap h xs) (B:SqO p s.heap j y) (C:xs[v]?=ŕ\/y[x]?=ŕ)
  (L:∀h',(∀c o,c∉[z,TO,f,g]->s.heap.get? c=Z o->h'.get? c=Z o)->Q ŕ { s with heap:=h' }):wpAny (Ä prog w) A (ó (.ref z)) Q E s:=by
 have r:s.TypeIs (.ref z) "zip":=⟨_,u,S⟩;unfold ó;refine Iq (Ė (JX (name:=Str.ofString "__next__") r LX (Kw LX r F.entry_zip_next (DA O D u H I n1 n2 J K G B C λh' e P N=>?_) (F.args_zip_next_1 _))));let⟨o,R,M⟩:=N;show Iq (ŋ (T:="StopIteration") (b:=ŗ) ⟨o,R,M⟩ isSubtype_stop (IK (L _ P)))
end
theorem Inv.sqb_ne{X:Cx}{g:Y (Addr×Ô)}{p:St}{H:Hp}{s:À}{b:Bool}{a c:Addr}{xs:Y V}(I:Inv X g p H s)(h:SqB X.K b H a xs)(f:eI X g H c):a≠c:=λz=>by
 subst z
 have l:∀o,X.K.lookup a=Z o->False:=λo e=>by
  have j:=I.mod.kin a o e;rcases f.2.2.2.1 with q|q
  ·show I.ok.noex a o j q
  ·show absurd (Jl (IT j) (IU I.ok.bsz q)) (J4 _)
 cases b with
 |true=>
  rcases h with (h|⟨o,h⟩)|⟨o,_,_,h,_⟩
  ·rw[f.1]at h;cases h
  ·rw[f.1]at h;cases h
  ·show l o h
 |false=>
  rcases h with (h|⟨o,h⟩)|⟨o,_,_,h,_⟩
  ·rw[f.1]at h;cases h
  ·rw[f.1]at h;cases h
  ·show l o h
noncomputable def pc(K:Â)(c:Bool)(a1:Addr)(e:Bool)(a2:Addr):It:=
 ⟨λi H=> ∃xs a x y, SqB K c H a1 xs /\ SqB K e H a2 a /\ xs[i]? = Z x /\ a[i]? = Z y,
  λi H v f=> ∃t x y, H t = ŕ /\ v = .ref t /\ f = aq H t (.tup [x, y]) /\ (∀xs, SqB K c H a1 xs-> xs[i]? = Z x) /\ ∀a, SqB K e H a2 a-> a[i]? = Z y,
  λi H=> ∃xs a, SqB K c H a1 xs /\ SqB K e H a2 a /\ (xs.length <= i \/ a.length <= i)⟩
theorem Bu{P:Å}{w:È}{K:Â}{es:Y Ã}{k:Nat}{pos:Ö}(b1 b2:Bool)(a1 a2 z TI TO g j:Addr)(D:ZAp z TI TO g j) :
  Turn P w K (.Tuple es k pos) (pc K b1 a1 b2 a2) [z,TI,TO,g,j] z (λi h=>ç h z TI TO .none/\Ó h TI (.ref g) (.ref j)/\(∃a b,Ó h TO a b)/\SqI b1 h g a1 i/\SqI b2 h j a2 i) where
 mem:=Iy
 obj:=λi h st c f=>by
  let⟨r,p,⟨a,b,A⟩,B,C⟩:=st;simp only[IL,KA,or_false]at f;rcases f with rfl|rfl|rfl|rfl|rfl
  ·show⟨_,r,λv q=>by have G:Ĕ _=û v:=q;cases G⟩
  ·show⟨_,p,λv q=>by have G:ù _ _=û v:=q;cases G⟩
  ·show⟨_,A,λv q=>by have G:ù _ _=û v:=q;cases G⟩
  ·show B.obj
  ·show C.obj
 keep:=λi h h' st k=>by
  let⟨r,p,⟨a,b,A⟩,B,C⟩:=st;have M:=lq z TI TO g j;show⟨k z M.1 _ r,k TI M.2.1 _ p,⟨a,b,k TO M.2.2.1 _ A⟩,B.at λo q=>k g M.2.2.2.1 o q,C.at λo q=>k j M.2.2.2.2 o q⟩
 item:=by
  intro X U hw T f i l s σ H E I F st b_;subst U hw T;let⟨xs,ys,x,y,J,L,hx,hy⟩:=b_;let⟨r,p,⟨a,b,A⟩,B,C⟩:=st;let⟨Rk,R,p1,_⟩:=I.sqb J;let⟨OS,a_,p2,_⟩:=I.sqb L;let⟨u,hu,ru⟩:=R.get hx;let⟨v,hv,rv⟩:=a_.get hy;refine BN D r p A (I.sqb_ne J (F TO (lq z TI TO g j).2.2.1)) (I.sqb_ne L (F TO (lq z TI TO g j).2.2.1)) B C p1 p2 (x:=u) (y:=v) (by simpa using hu) (by simpa using hv) λh' z1 z2 z3 z4 z5 z6 O=>?_;refine⟨.ref s.heap.objs.size,S,wpAny_letOwnedTupleGo_zip z1 λg2 zz N=>?_⟩;have zn:H s.heap.objs.size=ŕ:=I.fresh
  have I1:Inv X l σ (aq H s.heap.objs.size (.tup [x,y])) { s with heap:=s.heap.push { cls:=.type "tuple",data:=.seq #[u,v] },toks:=s.toks }:=
   I.laid (λc o q=>IA _ q) (Iu _) ⟨by change 2<=sizeLine;decide,[u,v],.cons ru (.cons rv .nil),_,IM _ S,⟨S,S⟩,0,S⟩
  have Ux:∀c∈[z,TI,TO,g,j],c<s.heap.objs.size:=λc f=>by
   simp only[IL,KA,or_false]at f;rcases f with rfl|rfl|rfl|rfl|rfl
   ·show IT r
   ·show IT p
   ·show IT A
   ·show B.lt
   ·show C.lt
  have f1:∀c∈[z,TI,TO,g,j],eI X l (aq H s.heap.objs.size (.tup [x,y])) c:=λc f=>⟨by rw[aY (Jk (Ux c f))];show (F c f).1,(F c f).2⟩;have I2:=I1.turnedL (h':=g2) (ch:=[z,TI,TO,g,j]) (t':=s.toks) (λc o f q=>?_) f1
  ·refine⟨.ref s.heap.objs.size,_,I2,S,⟨s.heap.objs.size,x,y,zn,S,S,λxs' Q=>by rw[I.sqb_inj Q J];show hx,λys' Q=>by rw[I.sqb_inj Q L];show hy⟩,
    ⟨zz,N.extBut _ _ D.a1 (O TI _ (by simp[D.a1,D.a5,D.a6,D.a7]) p),⟨_,_,N.extBut _ _ D.a2 z2⟩,z3.but N D.a3,z4.but N D.a4⟩,λc f=>(f1 c f).1⟩
  ·have be:c≠z:=λe=>f (e▸Iy);refine (N.2 c be).trans ?_;rcases Heap.get?_push_cases q with⟨e,e'⟩|G
   ·subst e;subst e';show z5
   ·show O c o (λe=>f (vY e)) G
 done:=by
  intro X U hw T f i l s σ H E I F st b_;subst U hw T;let⟨xs,ys,J,L,Od⟩:=b_;let⟨r,p,⟨a,b,A⟩,B,C⟩:=st;let⟨Rk,R,p1,_⟩:=I.sqb J;let⟨OS,a_,p2,_⟩:=I.sqb L;have l1:=R.length;have l2:=a_.length
  have he:Rk.toArray[i]?=ŕ\/OS.toArray[i]?=ŕ:=by
   rcases Od with q|q
   ·show .inl (by simp;omega)
   ·show .inr (by simp;omega)
  refine yI (I.ok.hd f) D r p A (I.sqb_ne J (F TO (lq z TI TO g j).2.2.1)) (I.sqb_ne L (F TO (lq z TI TO g j).2.2.1)) B C p1 p2 he λh' O=>⟨S,?_⟩;refine I.turnedL (ch:=[z,TI,TO,g,j]) (t':=s.toks) (λc o f q=>O c o (λe=>f (vY e)) q) F
 self:=λ_ _ _ _ _ st h=>Ŋ st.1 h
theorem Et(n:Nat):ZAp (n+4) (n+2) (n+3) n (n+1):=
 ⟨(by omega:n+2≠n+4),(by omega:n+3≠n+4),(by omega:n≠n+4),(by omega:n+1≠n+4),(by omega:n+2≠n+3),(by omega:n+2≠n),(by omega:n+2≠n+1),(by omega:n+3≠n),(by omega:n+3≠n+1),(by omega:n≠n+1)⟩
end L2
namespace L2
open PySem PySem.Spec PyProof.Rows
section
variable{X:Cx}
theorem B3:cb X (Ï .Mult) (rI þ λi j=>.int (i*j)):=nN λ_ _ _ _ _ _ _ a q=>mul_int q a
noncomputable def CDivB(i j:Int):Prop:=0<j/\j.natAbs.log2<9000
theorem BT:cb X (Ï .FloorDiv) (rI CDivB λi j=>.int (i/j)):=nN λi j _ _ _ _ _ a q=>by have c:(0:Int)<j:=a.1;show floordiv_int () (by rw[Int.fdiv_eq_ediv_of_nonneg i ()];show q) (.inl (PyProof.noPylong_of_log2 a.2))
end
theorem wt{n k:Nat}(a:0<k)(h:n<2^k):n.log2<k:=by
 rcases Nat.eq_zero_or_pos n with z|z
 ·subst z;simpa using a
 ·show (Nat.log2_lt (MR z)).mpr h
theorem CDivB.of{i j:Int}(a:0<j)(h:j<2^9000):CDivB i j:=⟨a,wt 'b' (by
 have e:(j.natAbs:Int)=j:=Int.natAbs_of_nonneg (Int.le_of_lt a)
 have:(j.natAbs:Int)<((2^9000:Nat):Int):=by rw[e];exact_mod_cast h
 exact_mod_cast this)⟩
theorem vP{a:Int}{k:Nat}(c:0<k)(h:a.natAbs<2^k):Builtin.Int.intBits a<=k:=by
 unfold Builtin.Int.intBits;split
 ·show Km _
 ·show wt c h
theorem xQ{a b:Int}{m n:Nat}(f:0<m)(g:0<n)(c:a.natAbs<2^m)(e:b.natAbs<2^n)(h:m+n<=134217728):þ a b:=PyProof.Rows.mulOk_of_bits (vP f c) (vP g e) h
theorem eM{a b:Int}(c:-(2^64)<a)(e:a<2^64):þ a b:=.of_left (intBits_le_64 c e)
theorem mU{a b:Int}(c:-(2^64)<b)(e:b<2^64):þ a b:=.of_right (intBits_le_64 c e)
section
variable{prog:Å}{w:È}{A:Ì}{E:Value->À->Prop}{s:À}
theorem sG{e t:Addr}{a:Array Value}(h:t≠e):∀(n i:Nat)(s:À)(Q:Y Value->À->Prop),s.heap.IsListIter e t i->s.heap.IsList t a->i+n<=a.size->
  (∀h',h'.IsListIter e t (i+n)->Heap.SameBut e s.heap h'->Q ((a.toList.drop i).take n) { s with heap:=h' })->wpAny (Ä prog w) A (draw (.ref e) n) Q E s
 |0,i,s,Q,c,_,_,f=>by change wpAny _ _ (pure []) Q E s;show IK (by simpa using f s.heap c (Heap.SameBut.refl ..))
 |n+1,i,s,Q,c,j,u,f=>by
  have g:i<a.size:=by omega
  change wpAny _ _ (ó (.ref e) >>= _) Q E s;refine Iq (Lz c j (x:=a[i]) (by simp[g]) λy o l=>?_);refine Iq (Kd (sG h n (i+1) _ _ o (j.extBut l.extBut h) () λr p v=>IK ?_))
  have hd:a.toList.drop i=a[i]::a.toList.drop (i+1):=by simp[Mj,g]
  have:=f r (by rw[show i+(n+1)=i+1+n by omega];show p) (l.trans v);rw[hd,List.take_succ_cons]at this;show this
theorem GT{t:Addr}{a:Array Value}{Q:Y Value->À->Prop}(y:A.handled=ŕ)(c:s.heap.IsList t a)
  (x:∀h',Heap.ExtBut s.heap.objs.size s.heap h'->Q a.toList { s with heap:=h' }):wpAny (Ä prog w) A (unpackItems (.ref t) a.size ŕ) Q E s:=by
 have g:t≠s.heap.objs.size:=by let⟨o,z,_⟩:=c;show Jk (IT z)
 unfold unpackItems;refine Iq ?_;unfold notIterableAtAll;refine Iq (Ő c.typeIs slot_list_iter.lookup (IK ?_));simp only[Ĥ,MO];refine Iq (Kd (Me c (Iq (Kd (sG g a.size 0 _ _ ⟨_,IM _ S,S,S⟩ (c.push _) () λu p j=>?_)))))
 have l:List.take a.size (List.drop 0 a.toList)=a.toList:=by rw[L5];show J1 (by simp)
 rw[l,Ir (by simp)];have f:u.IsList t a:=(c.push _).extBut j.extBut g;refine Iq (Kd (LL y p f (by simp) λv r=>?_));simp only[Option.isSome_none,Ĥ,MO];show IK (x v λb o h e=>r b o h (j.extBut b o h (IA _ e)))
end
section
variable{X:Cx}{c:Ö}
noncomputable def oV(K:Â)(n:Nat)(t:fB):TG:=λv e H Q=>∃a xs,v=.ref a/\SqL K H a xs/\xs.length=n/\t xs e H Q
theorem E9{es:Y Ã}{k:Nat}{t:fB}{n:Nat}(A:X.calm=ŗ)(h:PGs X es t)
  (C:(Æ es X.env).length=n:=by rfl) (x:(Æ es X.env).findIdx? (·.1)=ŕ:=by rfl):PG X (.Tuple es k c) (oV X.K n t):=by
 intro f s l H v u Q I r g;let⟨a,xs,z,E,B,g⟩:=g;subst z;cases r;let⟨w,j,F,J⟩:=I.list E;rw[assign_Tuple];refine Iq (Mc ?_);unfold unpack
 have y:(Æ es X.env).length=w.toArray.size:=by simp[C,←B,j.length]
 rw[y,x];refine Iq (Kd (GT (I.ok.hd A) F.isList λh' G=>?_));have p:Inv X f l H { s with heap:=h' }:=I.kept (t':=s.toks) λb o e=>G b o (Jk (IT e)) e;show h f _ l H xs _ Q p (by simpa using j) g
end
inductive IsiV(K:Â)(H:Hp):V->String->Bool->Prop where
 |int_int (i):IsiV K H (.int i) "int" ŗ
 |int_bool (i):IsiV K H (.int i) "bool" Ř
 |int_tuple (i):IsiV K H (.int i) "tuple" Ř
 |int_str (i):IsiV K H (.int i) "str" Ř
 |bl_int (b):IsiV K H (.bl b) "int" ŗ
 |bl_bool (b):IsiV K H (.bl b) "bool" ŗ
 |bl_tuple (b):IsiV K H (.bl b) "tuple" Ř
 |str_str (x):IsiV K H (.str x) "str" ŗ
 |str_tuple (x):IsiV K H (.str x) "tuple" Ř
 |tup_tuple {a xs}:SqT K H a xs->IsiV K H (.ref a) "tuple" ŗ
 |tup_int {a xs}:SqT K H a xs->IsiV K H (.ref a) "int" Ř
 |lst_tuple {a xs}:SqL K H a xs->IsiV K H (.ref a) "tuple" Ř
 |lst_list {a xs}:SqL K H a xs->IsiV K H (.ref a) "list" ŗ
noncomputable def vv(K:Â):Y V->Hp->VK->Prop:=λvs H Q=>∃x T b,vs=[x,.ty T]/\IsiV K H x T b/\Q (.bl b) H
theorem BV{x y:V}{us:Y Value}(r:Vals [x,y] us):∃u v,us=[u,v]/\RelV x u/\RelV y v:=by
 cases r with
 |cons r rr=>
  cases rr with
  |cons a rr=>cases rr;show⟨_,_,S,r,a⟩
theorem GE{X:Cx}:eg X (.builtin "isinstance") (vv X.K):=by
 intro g s y H xs us Q I r h;let⟨x,T,b,rfl,w,q⟩:=h;let⟨u,v,rfl,f,l⟩:=BV r;have l:v=.type T:=l;subst l;have a:∀(c:Bool)(t:Nat),Q (.bl c) H->EP X g y Q (.bool c) { s with toks:=t }:=λc t q=>⟨.bl c,H,I.tok t,S,q⟩
 cases w with
 |int_int i=>let⟨t,rfl⟩:=f;show IsiPair.int_int (a _ s.toks q)
 |int_bool i=>let⟨t,rfl⟩:=f;show IsiPair.int_bool (a _ _ q)
 |int_tuple i=>let⟨t,rfl⟩:=f;show IsiPair.int_tuple (a _ _ q)
 |int_str i=>let⟨t,rfl⟩:=f;show IsiPair.int_str (a _ _ q)
 |bl_int b=>cases f;show IsiPair.bool_int (a _ s.toks q)
 |bl_bool b=>cases f;show IsiPair.bool_bool (a _ s.toks q)
 |bl_tuple b=>cases f;show IsiPair.bool_tuple (a _ _ q)
 |str_str x=>let⟨t,rfl⟩:=f;show IsiPair.str_str (a _ s.toks q)
 |str_tuple x=>let⟨t,rfl⟩:=f;show IsiPair.str_tuple (a _ _ q)
 |tup_tuple h=>
  cases f;let⟨j,_,p,_⟩:=I.tuple h;show LY (Œ (Tx:="tuple") F.isi_meta_tuple F.sub_tuple_tuple) ⟨p.typeIs,a _ s.toks q⟩
 |tup_int h=>
  cases f;let⟨j,_,⟨o,e,c,_⟩,_⟩:=I.tuple h;show LY (isinstance_false_tuple 'a' F.isi_meta_int F.sub_tuple_int) ⟨⟨o,e,c⟩,a _ _ q⟩
 |lst_tuple h=>
  cases f;let⟨j,_,p,_⟩:=I.list h;let⟨o,e,c,_⟩:=p.isList;show LY (isinstance_false_list 'a' F.isi_meta_tuple F.sub_list_tuple) ⟨⟨o,e,c⟩,a _ _ q⟩
 |lst_list h=>
  cases f;let⟨j,_,p,_⟩:=I.list h;show LY (Œ (Tx:="list") F.isi_meta_list F.sub_list_list) ⟨p.isList.typeIs,a _ s.toks q⟩
theorem qb{prog:Å}{w:È}{A:Ì}(y:A.handled=ŕ)(b:Bool)(j a:Addr)(u:a≠j)(l:Array Value):Walks prog w A j [j,a] [j] l.size (λi v=>l[i]?=Z v) (λi h=>SqI b h j a i/\SqO b h a l) where
 sub:=λc f=>by rw[Iz.mp f];simp
 frame:=λ_ _ _ st k=>⟨st.1.at λo e=>k j (by simp) o e,st.2.at λo e=>k a (by simp) o e⟩
 item:=λi s Q E p st g=>by
  cases b with
  |true=>show Lz st.1 st.2 (x:=l[i]) (by simp[p]) λh' q sb=>g _ h' s.toks (by simp[p]) ⟨q,SqO.at (b:=ŗ) st.2 λo e=>(sb.2 a u).trans e⟩ λc o f e=>(sb.2 c λz=>f (by simp[z])).trans e
  |false=>show Ĝ st.1 st.2 (x:=l[i]) (by simp[p]) λh' q sb=>g _ h' s.toks (by simp[p]) ⟨q,SqO.at (b:=Ř) st.2 λo e=>(sb.2 a u).trans e⟩ λc o f e=>(sb.2 c λz=>f (by simp[z])).trans e
 done:=λs Q E st g=>by
  cases b with
  |true=>show LL y st.1 st.2 (by simp) λh' r=>g h' s.toks λc o f e=>r c o (λz=>f (by simp[z])) e
  |false=>show Ħ y st.1 st.2 (by simp) λh' r=>g h' s.toks λc o f e=>r c o (λz=>f (by simp[z])) e
 self:=λi s Q E st g=>by
  cases b with
  |true=>show į st.1 g
  |false=>show ħ st.1 g
theorem qE{x:V}{us:Y Value}(r:Vals [x] us):∃u,us=[u]/\RelV x u:=by
 cases r with
 |cons r rr=>cases rr;show⟨_,S,r⟩
theorem rS(val:Nat->Int)(ns:Y Int)(h:∀i n,ns[i]?=Z n->val i=n):∀k,k<=ns.length->preSum val k=(ns.take k).sum
 |0,_=>by simp[preSum]
 |k+1,c=>by
  have a:k<ns.length:=c;have e:=h k ns[k] (by simp[a]);rw[preSum,rS val ns h k (JW a),e,LI a,K2];simp
noncomputable def xt(K:Â)(b:Bool):Y V->Hp->VK->Prop:=λvs H Q=>∃(a:Addr)(ns:Y Int),vs=[.ref a]/\SqB K b H a (ns.map V.int)/\Q (.int ns.sum) H
theorem zH(b:Bool){X:Cx}(M:X.calm=ŗ):eg X (.builtin "sum") (xt X.K b):=by
 intro C s σ H xs us Q I r h;let⟨a,ns,rfl,T,q⟩:=h;let⟨u,rfl,be⟩:=qE r;cases be;let⟨f,j,p,hz⟩:=I.sqb T;refine call_sum_walkAnyS (kD p ?_);have E:a≠s.heap.objs.size:=Jk p.lt;have W:=qb (prog:=X.prog) (w:=X.w) (A:=X.A.in1) (I.ok.hd M) b s.heap.objs.size a E f.toArray
 have U:∀(i:Nat)(v:Value),f.toArray[i]?=Z v->∃t,v=.int (ns.getD i 0) t:=λi v e=>by
  have y:f[i]?=Z v:=by simpa using e
  have P:i<ns.length:=by
   have:=(Jz.mp y).1;have:=j.length;rw[Il]at this;omega
  let⟨v',B,L⟩:=j.get (i:=i) (x:=V.int (ns.getD i 0)) (by simp[P]);rw[y]at B;cases B;show L
 have ln:f.toArray.size=ns.length:=by have:=j.length;rw[Il]at this;simp[this]
 refine⟨s.heap.objs.size,[s.heap.objs.size,a],[s.heap.objs.size],_,f.toArray.size,_,_,λi=>ns.getD i 0,S,W.toS,⟨jJ (IM _ (by cases b<;>rfl)),p.at λo e=>IA _ e⟩,λc g=>?_,U,λb_ t' R=>?_⟩
 ·rw[Jx];rcases IL.mp g with rfl|g
  ·show Le _
  ·rw[Iz.mp g];show K7 p.lt
 ·let⟨O,N,hd,a_,_⟩:=R;let⟨h',g',d',l,F⟩:=b_;have G:g'=s.gens:=N;have J:d'=s.drawn:=hd;have K:F=s.os:=a_;subst G J K;refine⟨.int ns.sum,H,I.kept (h':=h') (t':=l) λc o e=>O c o (λz=>?_) (IA _ e),⟨t',?_⟩,q⟩
  ·rw[Iz.mp z]at e;show absurd (IT e) (J4 _)
  ·rw[ln,rS (λi=>ns.getD i 0) ns (λi n e=>by
    change ns.getD i 0=n
    rw[II,e];rfl) ns.length (Iu _),JR]
noncomputable def wm(K:Â)(b:Bool)(f:Y Bool->Bool):Y V->Hp->VK->Prop:=λvs H Q=>∃(a:Addr)(bs:Y Bool),vs=[.ref a]/\SqB K b H a (bs.map V.bl)/\Q (.bl (f bs)) H
theorem uR{prog:Å}{w:È}{A:Ì}{a:Array Value}{bs:Y Bool}(h:Vals (bs.map V.bl) a.toList):TruthOf prog w A (λi v=>a[i]?=Z v) (λi=>bs.getD i Ř):=by
 intro i v s Q E e q
 have f:a.toList[i]?=Z v:=by simpa using e
 have j:i<bs.length:=by
  have:=(Jz.mp f).1;have:=h.length;rw[Il]at this;omega
 let⟨l,g,c⟩:=h.get (i:=i) (x:=V.bl (bs.getD i Ř)) (by simp[j]);rw[f]at g;cases g;have c:v=.bool (bs.getD i Ř):=c;subst c;show KN q
theorem Gj(bs:Y Bool):(List.range bs.length).all (λi=>bs.getD i Ř)=bs.all id:=by
 rw[MB];simp only[Kf,IY,id];constructor
 ·intro h x c;let⟨i,a,rfl⟩:=List.mem_iff_getElem.mp c;have:=h i a;simpa [a] using this
 ·intro h i a;have:=h bs[i] (KS a);simpa [a] using this
theorem Eh(bs:Y Bool):(List.range bs.length).any (λi=>bs.getD i Ř)=bs.any id:=by
 rw[MB];simp only[Lf,IY,id];constructor
 ·rintro⟨i,a,h⟩;show⟨bs[i],KS a,by simpa [a] using h⟩
 ·rintro⟨x,c,h⟩;let⟨i,a,rfl⟩:=List.mem_iff_getElem.mp c;show⟨i,a,by simpa [a] using h⟩
theorem BO(b:Bool){X:Cx}(v:X.calm=ŗ):eg X (.builtin "all") (wm X.K b λbs=>bs.all id):=by
 intro g s F H xs us Q I r h;let⟨a,bs,rfl,y,q⟩:=h;let⟨u,rfl,B⟩:=qE r;cases B;let⟨f,j,p,E⟩:=I.sqb y;have l:a≠s.heap.objs.size:=Jk p.lt
 have ln:f.toArray.size=bs.length:=by have:=j.length;rw[Il]at this;simp[this]
 have W:=qb (prog:=X.prog) (w:=X.w) (A:=X.A.in1) (I.ok.hd v) b s.heap.objs.size a l f.toArray;refine call_all_walk (kD p ⟨s.heap.objs.size,[s.heap.objs.size,a],[s.heap.objs.size],f.toArray.size,_,_,λi=>bs.getD i Ř,S,W,⟨jJ (IM _ (by cases b<;>rfl)),p.at λo e=>IA _ e⟩,uR (by simpa using j),λh' C x=>?_⟩);rw[ln,Gj];refine⟨.bl (bs.all id),H,I.kept (h':=h') (t':=C) λc o e=>x c o (λz=>?_) (IA _ e),S,q⟩;rw[Iz.mp z]at e;show absurd (IT e) (J4 _)
theorem EH(b:Bool){X:Cx}(v:X.calm=ŗ):eg X (.builtin "any") (wm X.K b λbs=>bs.any id):=by
 intro g s F H xs us Q I r h;let⟨a,bs,rfl,y,q⟩:=h;let⟨u,rfl,B⟩:=qE r;cases B;let⟨f,j,p,E⟩:=I.sqb y;have l:a≠s.heap.objs.size:=Jk p.lt
 have ln:f.toArray.size=bs.length:=by have:=j.length;rw[Il]at this;simp[this]
 have W:=qb (prog:=X.prog) (w:=X.w) (A:=X.A.in1) (I.ok.hd v) b s.heap.objs.size a l f.toArray;refine call_any_walk (kD p ⟨s.heap.objs.size,[s.heap.objs.size,a],[s.heap.objs.size],f.toArray.size,_,_,λi=>bs.getD i Ř,S,W,⟨jJ (IM _ (by cases b<;>rfl)),p.at λo e=>IA _ e⟩,uR (by simpa using j),λh' C x=>?_⟩);rw[ln,Eh];refine⟨.bl (bs.any id),H,I.kept (h':=h') (t':=C) λc o e=>x c o (λz=>?_) (IA _ e),S,q⟩;rw[Iz.mp z]at e;show absurd (IT e) (J4 _)
noncomputable def bX(N:Y Str)(a scope:ß)(N':Y Str)(cap:Y (Ŗ Nat)):Bool:=
 decide (scope.kind=.function)&&scope.names.all (λx=>decide (x.2=.cell->scope.names.lookup x.1=Z .cell))&&scope.names.all (λx=>decide (x.2=.local->scope.names.lookup x.1=Z .local)) &&
  scope.names.all (λx=>decide (x.2=.free->a.names.lookup x.1=Z .cell/\scope.names.lookup x.1=Z .free))&&decide N'.Nodup&&decide (cap.length=N'.length) &&
  (cap.zip N').all λp=>match p.1 with|none=>ŗ|some i=>decide (N[i]?=Z p.2/\(p.2,NameKind.free)∈scope.names)
theorem CompScope.ok{N:Y Str}{f scope:ß}{N':Y Str}{cap:Y (Ŗ Nat)}(h:bX N f scope N' cap=ŗ):CompScope N f scope N' cap:=by
 unfold bX at h;simp only[JJ,KO,Kf]at h;let⟨⟨⟨⟨⟨⟨g,j⟩,l⟩,e⟩,o⟩,r⟩,u⟩:=h;refine⟨g,j,l,λx c a=>(e x c a).1,λx c a=>(e x c a).2,o,r,λp w i v=>?_⟩;have:=u p w;rw[v]at this;simpa using this
theorem du{H:Hp}{p:Addr}(h:H p=ŕ)(o:HO):Same H (aq H p o):=λb u q=>by rw[aY (de q h)];show q
theorem uO{H a:Hp}{p:Addr}(s:Same H a)(h:H p=ŕ)(o:HO):Same H (aq a p o):=λb u q=>by rw[aY (de q h)];show s b u q
theorem Same.sqt{K:Â}{H c:Hp}{a:Addr}{xs:Y V}(e:Same H c)(h:SqT K H a xs):SqT K c a xs:=SqB.same (b:=Ř) e h
theorem gj{n:Nat}(h:n<=1000):n<=sizeLine:=JW (br h)
theorem dP{p:Prop}[Decidable p](h:decide p=ŗ):p:=Jd h
theorem gG{a:Type}{xs:Y a}{i:Nat}{x:a}(h:xs[i]?=Z x):xs.take (i+1)=xs.take i++[x]:=by let⟨c,e⟩:=Jz.mp h;rw[LI c,e]
theorem az{a:Type}{xs:Y a}{i:Nat}{x:a}(h:xs[i]?=Z x):i<xs.length:=(Jz.mp h).1
theorem gJ{a:Type}{xs:Y a}{i:Nat}{x:a}{k:Int}(h:xs[i]?=Z x)(e:k=(i:Int)):cF xs k=Z x:=by subst e;show Fa h
noncomputable def bp(ns:Y Int):Int:=ns.foldl (λd x=>(Int.gcd x d:Int)) 0
theorem CM(xs:Y Int)(x:Int):bp (xs++[x])=(Int.gcd x (bp xs):Int):=by unfold bp;rw[Mf];rfl
theorem yV{g l:Int}(a:0<=g)(c:0<l):Int.gcd l (g % l)=Int.gcd g l:=by
 rw[Int.gcd_comm g l]
 have e:g % l=g-l*(g/l):=by have:=Int.emod_add_mul_ediv g l;omega
 rw[e];simpa using Int.gcd_sub_mul_right_right
theorem qB(ns:Y Int):0<=bp ns:=by
 have h:∀(ns:Y Int)(d:Int),0<=d->0<=ns.foldl (λd x=>(Int.gcd x d:Int)) d:=by
  intro ns
  induction ns with
  |nil=>intro d hd;show hd
  |cons x r a=>intro d _;show a _ (Int.natCast_nonneg _)
 show h ns 0 'b'
theorem nq(ns:Y Int):∀x∈ns,bp ns∣x:=by
 have h:∀(ns:Y Int)(d:Int),ns.foldl (λd x=>(Int.gcd x d:Int)) d∣d/\∀x∈ns,ns.foldl (λd x=>(Int.gcd x d:Int)) d∣x:=by
  intro ns
  induction ns with
  |nil=>intro d;show⟨Int.dvd_refl _,λx a=>absurd a KA⟩
  |cons y r f=>
   intro d;let⟨c,e⟩:=f (Int.gcd y d:Int);refine⟨Int.dvd_trans c (Int.gcd_dvd_right ..),λx a=>?_⟩;rcases IL.mp a with rfl|a
   ·show Int.dvd_trans c (Int.gcd_dvd_left ..)
   ·show e x a
 show (h ns 0).2
noncomputable def cC(es ns:Y Int):Int:=(List.zipWith (·*·) es ns).sum
noncomputable def cN{a:Type}(xs:Y a)(lo c:Ŗ Int):Y a:=(xs.drop (HT.sIx xs.length 0 lo)).take (HT.sIx xs.length xs.length c-HT.sIx xs.length 0 lo)
theorem Aa{n:Nat}(h:0<n):fv n (-1)=Z (n-1):=by unfold fv;rw[Ir 'b',Iw ()];congr 1;omega
theorem Vals.get'{xs:Y V}{us:Y Value}(r:Vals xs us){j:Nat}(h:j<us.length):∃x,xs[j]?=Z x/\RelV x us[j]:=by
 have f:=Vals.length r
 have a:j<xs.length:=by omega
 let⟨u,c,e⟩:=Vals.get (i:=j) (x:=xs[j]) r (by simp[a]);refine⟨xs[j],by simp[a],?_⟩;rw[JK h]at c;cases c;show e
section
variable{prog:Å}{w:È}{A:Ì}{E:Value->À->Prop}{s:À}
theorem BC{t b:Addr}{vs j:Y Value}{Q:Value->À->Prop}(u:ġ s.heap t vs.toArray)(r:ġ s.heap b j.toArray)(v:vs=[])(h:Q (.ref b) s):wpAny (Ä prog w) A (Ï .Add (.ref t) (.ref b)) Q E s:=by let⟨⟨cls,p,data,sl⟩,g,f,n,hd⟩:=id u;let⟨⟨x,l,data2,o⟩,c,e,n2,a⟩:=id r;simp only at f hd e a;subst f hd e a;show ĩ ⟨_,g,S⟩ ⟨_,c,S⟩ Mp ė LB Ly (Lq _ _) (tuple_addW0 t b vs.toArray j.toArray n n2 p l sl o (by simp[v])) ⟨g,c,h⟩
end
theorem mq{A B:Nat}:∀{es ns:Y Int},(∀x∈es,x.natAbs<=A)->(∀y∈ns,y.natAbs<=B)->(cC es ns).natAbs<=es.length*(A*B)
 | [],_,_,_=>by simp[cC]
 |_::_,[],_,_=>by simp[cC]
 |x::es,y::ns,c,f=>by
  have j:=mq (es:=es) (ns:=ns) (λz a=>c z (IC _ a)) (λz a=>f z (IC _ a))
  have e:cC (x::es) (y::ns)=x*y+cC es ns:=by simp[cC]
  have g:(x*y).natAbs<=A*B:=by rw[J6];show Kg (c x Iy) (f y Iy)
  have h:=Int.natAbs_add_le (x*y) (cC es ns);rw[e,IH,Nat.add_mul];omega
theorem uN{ns:Y Int}{m:Nat}(h:∀x∈ns,x.natAbs<m)(w:0<m):bp ns<m:=by
 by_cases c:bp ns=0
 ·omega
 ·have a:∃x∈ns,x≠0:=by
   refine JH λn=>c ?_;have j:∀x∈ns,x=0:=λx a=>JH λz=>n ⟨x,a,z⟩
   have:∀(l:Y Int) ,(∀x∈l,x=0)->l.foldl (λd x=>(Int.gcd x d:Int)) 0=0:=by
    intro l
    induction l with
    |nil=>intro _;rfl
    |cons y r o=>
     intro e;have:=e y Iy;subst this;show o λx a=>e x (IC _ a)
   show this ns j
  let⟨x,a,A⟩:=a;have f:=nq ns x a;have g:=Int.natAbs_dvd_natAbs.mpr f;have p:=Nat.le_of_dvd () g;have u:=h x a;have v:=qB ns;omega
noncomputable abbrev ag:=Y Int×Int
theorem xb{e:Type}(xs:Y e)(n:Nat):cN xs ŕ (Z (n:Int))=xs.take n:=by
 unfold cN;have a:HT.sIx xs.length 0 ŕ=0:=rfl;have c:HT.sIx xs.length xs.length (Z (n:Int))=min n xs.length:=HT.sIx_nat _ _ _;rw[a,c,L5,Nat.sub_zero];rcases Nat.le_total n xs.length with h|h
 ·rw[Nat.min_eq_left h]
 ·rw[Nat.min_eq_right h,JR,J1 h]
theorem Cp{e:Type}(xs:Y e)(n:Nat):cN xs (Z (n:Int)) ŕ=xs.drop n:=by
 unfold cN;have a:HT.sIx xs.length xs.length ŕ=xs.length:=rfl;have c:HT.sIx xs.length 0 (Z (n:Int))=min n xs.length:=HT.sIx_nat _ _ _;rw[a,c];rcases Nat.le_total n xs.length with h|h
 ·rw[Nat.min_eq_left h,J1 (by rw[Ke];omega)]
 ·rw[Nat.min_eq_right h,List.drop_length,List.drop_of_length_le h];simp
noncomputable def sL(K:Â):V->V->Hp->VK->Prop:=λx y H Q=>∃p xs i j v,x=.ref p/\y=.int i/\SqL K H p xs/\i=((j:Nat):Int)/\xs[j]?=Z v/\Q v H
theorem Bk{X:Cx}:oJ X (sL X.K):=by
 intro c s F H o i E C Q I u l h;let⟨p,xs,i,j,v,rfl,rfl,g,rfl,a,q⟩:=h;cases u;let⟨t,rfl⟩:=l;let⟨x,r,pl,B⟩:=I.list g;let⟨w,f,e⟩:=r.get a;have z:=r.length;have A:=iQ;have y:=az a;show wpAny_getItem_list pl.isList () () (by rw[JO];simpa using f) ⟨v,H,I,e,q⟩
theorem zq(xs:Y V)(lo a:Ŗ Int):iF xs lo a=cN xs lo a:=rfl
theorem eZ{n j:Nat}(h:j<n):fv n (j:Int)=Z j:=by unfold fv;rw[Iw (),Iw (),JO]
theorem rO{a0 a1 a2}{a:Y Ã}{env:ì}:starEach (.BoolOp a0 a1 a2::a) env=(Ř,eval (.BoolOp a0 a1 a2) env)::starEach a env:=rfl
theorem bO{a0 a1 a2 a3}{a:Y Ã}{env:ì}:starEach (.BinOp a0 a1 a2 a3::a) env=(Ř,eval (.BinOp a0 a1 a2 a3) env)::starEach a env:=rfl
theorem gD{a0 a1 a2}{a:Y Ã}{env:ì}:starEach (.UnaryOp a0 a1 a2::a) env=(Ř,eval (.UnaryOp a0 a1 a2) env)::starEach a env:=rfl
theorem bD{a0 a1 a2 a3}{a:Y Ã}{env:ì}:starEach (.ListComp a0 a1 a2 a3::a) env=(Ř,eval (.ListComp a0 a1 a2 a3) env)::starEach a env:=rfl
theorem gU{a0 a1 a2 a3}{a:Y Ã}{env:ì}:starEach (.Compare a0 a1 a2 a3::a) env=(Ř,eval (.Compare a0 a1 a2 a3) env)::starEach a env:=rfl
theorem bj{a0 a1 a2 a3}{a:Y Ã}{env:ì}:starEach (.Call a0 a1 a2 a3::a) env=(Ř,eval (.Call a0 a1 a2 a3) env)::starEach a env:=rfl
theorem aL{a0 a1 a2}{a:Y Ã}{env:ì}:starEach (.Constant a0 a1 a2::a) env=(Ř,eval (.Constant a0 a1 a2) env)::starEach a env:=rfl
theorem aW{a0 a1 a2}{a:Y Ã}{env:ì}:starEach (.Attribute a0 a1 a2::a) env=(Ř,eval (.Attribute a0 a1 a2) env)::starEach a env:=rfl
theorem aC{a0 a1 a2}{a:Y Ã}{env:ì}:starEach (.Subscript a0 a1 a2::a) env=(Ř,eval (.Subscript a0 a1 a2) env)::starEach a env:=rfl
theorem aa{a0 a1}{a:Y Ã}{env:ì}:starEach (.Name a0 a1::a) env=(Ř,eval (.Name a0 a1) env)::starEach a env:=rfl
theorem vX{a0 a1}{a:Y Ã}{env:ì}:starEach (.List a0 a1::a) env=(Ř,eval (.List a0 a1) env)::starEach a env:=rfl
theorem bC{a0 a1 a2}{a:Y Ã}{env:ì}:starEach (.Tuple a0 a1 a2::a) env=(Ř,eval (.Tuple a0 a1 a2) env)::starEach a env:=rfl
theorem ae{a:Ö}{env:ì}:(backTo a (starEach [] env)).any (·.1)=Ř:=rfl
theorem ar{a:Ö}{e:Ã}{es:Y Ã}{env:ì}(h:starEach (e::es) env=(Ř,eval e env)::starEach es env)(c:(backTo a (starEach es env)).any (·.1)=Ř):(backTo a (starEach (e::es) env)).any (·.1)=Ř:=by rw[h];show c
theorem dA{a : Ö}{e : Ã}{env : ì}(h : starEach [e] env = (Ř, eval e env) :: starEach [] env) : ((backTo a (starEach [e] env)).all (λx=> !x.1)&&(â a (Õ [] env)).all (λx=>x.1.isSome)
      && decide ([e].length + ([] : Y Ü).length + (if ([] : Y Ü).isEmpty then 0 else 1) < 30)) = ŗ:= by
 rw[h];rfl
section
variable{X:Cx}{K:Â}
theorem BD(h:X.K=K):js X (tq K):=h▸qR
theorem EU(h:X.K=K):eg X (.builtin "isinstance") (vv K):=h▸GE
end
end L2
namespace L2
open PySem PySem.Spec PyProof.Rows
section
variable{X:Cx}
theorem xk:cb X (É .Is) (λx y H Q=>∃a b:Bool,x=.bl a/\y=.bl b/\Q (.bl (a==b)) H):=by intro c s g H x y v u Q I e f h;let⟨a,b,rfl,rfl,q⟩:=h;cases e;cases f;show wpAny_is_plain S (n6 I q (by cases a<;>cases b<;>rfl))
theorem Cs:cb X (É .IsNot) (λx y H Q=>∃a b:Bool,x=.bl a/\y=.bl b/\Q (.bl (!(a==b))) H):=by intro c s g H x y v u Q I e f h;let⟨a,b,rfl,rfl,q⟩:=h;cases e;cases f;show wpAny_isNot_plain S (n6 I q (by cases a<;>cases b<;>rfl))
end
end L2
namespace PySem
open Sem (wp)
open Builtin
open AutoSeq1 (wpAny_loadPart')
theorem EN:fillsNumberSlot (.type "tuple") "mul"=pure Ř:=
 fillsNumberSlot_seq (id:="tuple.__mul__") (r:=Z (.builtin "tuple.__rmul__")) Lg.lookup 'a' F.slot_tuple_rmul.lookup 'a'
theorem w6:seqRepeat? (.type "tuple")=pure (Z (.builtin "tuple.__mul__")):=by unfold seqRepeat?;rw[seqSlot_of (T:="tuple") (name:="__mul__") (id:="tuple.__mul__") Lg.lookup 'a',seqSlot_of (T:="tuple") (name:="__rmul__") (id:="tuple.__rmul__") F.slot_tuple_rmul.lookup 'a'];rfl
theorem yC(a:Int)(t:Ň)(l:Addr)(c:Array Value)(n:Nat)(e:Ŗ Addr)(sl:Array (Ŗ Value)) :
  ň (Builtin.«int.__rmul__» ⟨[.int a t,.ref l],[]⟩) (λ_ R s=>s.heap.get? l=Z { cls:=.type "tuple",dict:=e,data:=.seq c n,slots:=sl }/\R (.ok (.ret Value.notImplemented)) s):=
 .of_wp λprog w A R s h=>by let⟨j,g,d,o,os⟩:=s;let⟨f,h⟩:=h;wp_walk;show⟨_,S,h⟩
theorem zu(l:Addr)(a:Array Value)(n:Nat)(c:Ŗ Addr)(sl:Array (Ŗ Value))(u:Ň) :
  ň (Builtin.«tuple.__mul__» ⟨[.ref l,.int 1 u],[]⟩) (λ_ R s=>s.heap.get? l=Z { cls:=.type "tuple",dict:=c,data:=.seq a n,slots:=sl }/\R (.ok (.ret (Value.ref l))) s):=
 .of_wp λprog w A R s h=>by let⟨o,g,d,p,os⟩:=s;let⟨e,h⟩:=h;have f:=Ms;have j:=Lr;wp_walk using JA e;show⟨_,S,h⟩
theorem DS(l:Addr)(a:Array Value)(n:Nat)(f:Ŗ Addr)(sl:Array (Ŗ Value))(k:Int)(u:Ň)(e:¬ (decide (k < -(2^63)) ||decide (k≥2^63))=ŗ)(o:¬ (a.isEmpty ||k==1)=ŗ)(j:(decide (k<=0) ||a.isEmpty)=ŗ) :
  ň (Builtin.«tuple.__mul__» ⟨[.ref l,.int k u],[]⟩) (λ_ R s=>s.heap.get? l=Z { cls:=.type "tuple",dict:=f,data:=.seq a n,slots:=sl }/\R (.ok (.ret (Value.ref s.heap.objs.size))) { s with heap:=s.heap.push { cls:=Value.type "tuple",data:=ù #[] },toks:=s.toks }):=
 .of_wp λprog w A R s h=>by let⟨v,g,d,x,os⟩:=s;let⟨c,h⟩:=h;have p:=Ms;have r:=Lr;wp_walk using JA c;refine MC (Jb e) ?_;wp_walk using JA c;show⟨_,S,h⟩
theorem zm(l:Addr)(a:Array Value)(n:Nat)(p:Ŗ Addr)(sl:Array (Ŗ Value))(k:Int)(u:Ň)(o:¬ (decide (k < -(2^63)) ||decide (k≥2^63))=ŗ)(x:¬ (a.isEmpty ||k==1)=ŗ)(v:¬ (decide (k<=0) ||a.isEmpty)=ŗ)(c:¬ (a.size*k>(2^63-1)/8))(r:¬ Builtin.Tuple.tupleTooMany (a.size*k)=ŗ)(hsz:(List.foldl (λf j=>f++j) #[] (List.replicate k.toNat a)).size<=sizeLine) :
  ň (Builtin.«tuple.__mul__» ⟨[.ref l,.int k u],[]⟩) (λ_ R s=>s.heap.get? l=Z { cls:=.type "tuple",dict:=p,data:=.seq a n,slots:=sl }/\R (.ok (.ret (Value.ref s.heap.objs.size))) { s with heap:=s.heap.push { cls:=Value.type "tuple",data:=ù (List.foldl (λf j=>f++j) #[] (List.replicate k.toNat a)) },toks:=s.toks }):=
 .of_wp λprog w A R s h=>by let⟨B,g,d,C,os⟩:=s;let⟨e,h⟩:=h;have y:=Ms;have z:=Lr;wp_walk using JA e;refine MC (Jb o) ?_;wp_walk using JA e;refine MC (Jb c) ?_;wp_walk using JA e;show⟨_,S,h⟩
end PySem
namespace L2
open PySem PySem.Spec PyProof.Rows
inductive D where
 |int (i:Int)|bl (b:Bool)|str (x:Str)|non|tup (xs:List D)|lst (xs:List D)|fzl (xs:List D)|obj (nm:Str) (fs:List (Str×D))|map (M0:List (aD×D))|exc (nm:Str) (ats:List D)
noncomputable def tO(a C:Addr)(c:Ŗ Addr):Heap->Prop:=λh=>∃o vs,h.get? a=Z o/\o.cls=.ref C/\o.dict=c/\o.data=.fields vs
inductive Rp(K:Â)(H:Hp):D->V->Prop where
 |int (i:Int):Rp K H (.int i) (.int i)
 |bl (b:Bool):Rp K H (.bl b) (.bl b)
 |str (x:Str):Rp K H (.str x) (.str x)
 |non:Rp K H .non .non
 |tup {a:Addr} {vs:List V} {ds:List D}:H a=Z (.tup vs)->vs.length=ds.length->(∀(i:Nat)(v:V)(d:D),vs[i]?=Z v->ds[i]?=Z d->Rp K H d v)->Rp K H (.tup ds) (.ref a)
 |lst {a:Addr} {vs:List V} {ds:List D}:H a=Z (.lst vs)->vs.length=ds.length->(∀(i:Nat)(v:V)(d:D),vs[i]?=Z v->ds[i]?=Z d->Rp K H d v)->Rp K H (.lst ds) (.ref a)
 |fzl {a:Addr} {vs:List V} {ds:List D}:SqL K H a vs->vs.length=ds.length->(∀(i:Nat)(v:V)(d:D),vs[i]?=Z v->ds[i]?=Z d->Rp K H d v)->Rp K H (.fzl ds) (.ref a)
 |obj {a C dx:Addr} {nm:Str} {vs:List (Str×V)} {fs:List (Str×D)}:Ò K Á nm=Z (Z (.ref C))->H a=Z (.ins C dx vs)->vs.map (·.1)=fs.map (·.1)->(∀(i:Nat)(v:Str×V)(d:Str×D),vs[i]?=Z v->fs[i]?=Z d->Rp K H d.2 v.2)->Rp K H (.obj nm fs) (.ref a)
 |map {a:Addr} {ws:List (aD×V)} {M0:List (aD×D)}:H a=Z (.dK ws)->ws.map (·.1)=M0.map (·.1)->(∀(i:Nat)(w:aD×V)(d:aD×D),ws[i]?=Z w->M0[i]?=Z d->Rp K H d.2 w.2)->Rp K H (.map M0) (.ref a)
 |exc0 {a C:Addr} {nm:Str}:Ò K Á nm=Z (Z (.ref C))->H a=Z (.ext (tO a C ŕ))->Rp K H (.exc nm []) (.ref a)
 |exc1 {a C p:Addr} {nm:Str} {v:V} {d:D}:Ò K Á nm=Z (Z (.ref C))->H a=Z (.ext (tO a C (Z p)))->H p=Z (.xd [("at",v)])->Rp K H d v->Rp K H (.exc nm [d]) (.ref a)
noncomputable def RpL(K:Â)(H:Hp)(ds:Y D)(vs:Y V):Prop:=vs.length=ds.length/\∀(i:Nat)(v:V)(d:D),vs[i]?=Z v->ds[i]?=Z d->Rp K H d v
section
variable{K:Â}{H l Φ j y A w z:Hp}{d:D}{v:V}{ds es:Y D}{vs B:Y V}
theorem Rp.i{n:Int}(h:Rp K H (.int n) v):v=.int n:=by cases h;rfl
theorem Rp.b{b:Bool}(h:Rp K H (.bl b) v):v=.bl b:=by cases h;rfl
theorem Rp.s{x:Str}(h:Rp K H (.str x) v):v=.str x:=by cases h;rfl
theorem Rp.n(h:Rp K H .non v):v=.non:=by cases h;rfl
theorem iJ{P:Int->Prop}(h:match d with|.int n=>P n|_=>False):∃n,d=.int n/\P n:=by
 cases d with
 |int n=>show⟨n,S,h⟩
 |_=>show h.elim
theorem i6{P:Bool->Prop}(h:match d with|.bl n=>P n|_=>False):∃n,d=.bl n/\P n:=by
 cases d with
 |bl n=>show⟨n,S,h⟩
 |_=>show h.elim
theorem Rp.same(s:Same H l)(h:Rp K H d v):Rp K l d v:=by
 induction h with
 |int i=>show .int i
 |bl b=>show .bl b
 |str x=>show .str x
 |non=>show .non
 |tup a c _ e=>show .tup (s _ _ a) c e
 |lst a c _ e=>show .lst (s _ _ a) c e
 |fzl a c _ e=>show .fzl (s.seq a) c e
 |obj f a c _ e=>show .obj f (s _ _ a) c e
 |map a c _ e=>show .map (s _ _ a) c e
 |exc0 f a=>show .exc0 f (s _ _ a)
 |exc1 f a c _ e=>show .exc1 f (s _ _ a) (s _ _ c) e
theorem RpL.same(s:Same H l)(h:RpL K H ds vs):RpL K l ds vs:=⟨h.1,λi v d a hd=>(h.2 i v d a hd).same s⟩
theorem RpL.nil:RpL K H [] []:=⟨S,λi v d a _=>by simp at a⟩
theorem RpL.cons(r:Rp K H d v)(h:RpL K H ds vs):RpL K H (d::ds) (v::vs):=⟨by simp[h.1],λi u e c a=>by
 cases i with
 |zero=>cases c;cases a;show r
 |succ i=>show h.2 i u e c a⟩
theorem RpL.append(h:RpL K H ds vs)(h':RpL K H es B):RpL K H (ds++es) (vs++B):=by
 refine⟨by rw[Io,Io,h.1,h'.1],λi u e f a=>?_⟩;rcases Js i vs.length with c|c
 ·rw[Ip c]at f;rw[Ip (by rw[←h.1];show c)]at a;show h.2 i u e f a
 ·rw[Im c]at f;rw[Im (by rw[←h.1];show c),←h.1]at a;show h'.2 _ u e f a
theorem RpL.one(r:Rp K H d v):RpL K H [d] [v]:=.cons r .nil
theorem RpL.take(h:RpL K H ds vs)(k:Nat):RpL K H (ds.take k) (vs.take k):=⟨by rw[Jv,Jv,h.1],λi u e a f=>by
 rcases Js i k with c|c
 ·rw[Lo c]at a f;show h.2 i u e a f
 ·rw[List.getElem?_take_eq_none c]at a
  cases a⟩
theorem RpL.drop(h:RpL K H ds vs)(k:Nat):RpL K H (ds.drop k) (vs.drop k):=⟨by rw[Ke,Ke,h.1],λi u e c a=>by
 rw[Ls]at c a
 show h.2 _ u e c a⟩
theorem RpL.set(h:RpL K H ds vs)(r:Rp K H d v)(k:Nat):RpL K H (ds.set k d) (vs.set k v):=⟨by rw[Iv,Iv,h.1],λi u e a f=>by
 by_cases c:k=i
 ·subst c
  have g:k<vs.length:=by have:=az a;rwa [Iv]at this
  rw[IS g]at a;rw[IS (by rw[←h.1];show g)]at f;cases a;cases f;show r
 ·rw[IP c]at a f
  show h.2 i u e a f⟩
theorem RpL.dropLast(h:RpL K H ds vs):RpL K H ds.dropLast vs.dropLast:=by rw[LM,LM,h.1];show h.take _
theorem RpL.rep(h:RpL K H ds vs):∀k:Nat,RpL K H (List.replicate k ds).flatten (List.replicate k vs).flatten
 |0=>.nil
 |k+1=>by rw[JL,JL,Jn,Jn];show h.append (RpL.rep h k)
theorem RpL.at(h:RpL K H ds vs){i:Nat}(e:ds[i]?=Z d):∃v,vs[i]?=Z v/\Rp K H d v:=by
 have a:i<vs.length:=by rw[h.1];show az e
 show⟨vs[i],by simp[a],h.2 i _ d (by simp[a]) e⟩
theorem RpL.cut(h:RpL K H ds vs)(lo a:Ŗ Int):RpL K H (cN ds lo a) (iF vs lo a):=by rw[zq];unfold cN;rw[h.1];show (h.drop _).take _
theorem RpL.tup{a:Addr}(h:RpL K H ds vs)(s:H a=Z (.tup vs)):Rp K H (.tup ds) (.ref a):=.tup s h.1 h.2
theorem RpL.lst{a:Addr}(h:RpL K H ds vs)(s:H a=Z (.lst vs)):Rp K H (.lst ds) (.ref a):=.lst s h.1 h.2
theorem RpL.fzl{a:Addr}(h:RpL K H ds vs)(s:SqL K H a vs):Rp K H (.fzl ds) (.ref a):=.fzl s h.1 h.2
theorem RpL.ints(ns:Y Int):RpL K H (ns.map D.int) (ns.map V.int):=⟨by simp,λi v d a hd=>by
 rw[IE]at a hd
 cases e:ns[i]? with
 |none=>rw[e]at a;cases a
 |some k=>rw[e]at a hd;cases a;cases hd;show .int k⟩
noncomputable def nr:HO->Prop|.lst _=>True|.dK _=>True|.dT _=>True|.ins _ _ _=>True|_=>False
structure Gr(Φ H j l:Hp):Prop where
 f:Same Φ j
 h:Same H l
 s:Same j l
 o:∀p (u:HO),H p=Z u->Φ p=ŕ->(k:nr u:=by trivial)->j p=ŕ
theorem Gr.refl(s:Same Φ H):Gr Φ H Φ H:=⟨Same.refl _,Same.refl _,s,λ_ _ _ h _=>h⟩
theorem Gr.trans(a:Gr Φ H y A)(b:Gr y A w z):Gr Φ H w z:=⟨a.f.trans b.f,a.h.trans b.h,b.s,λp u c e k=>b.o p u (a.h p _ c) (a.o p u c e k) k⟩
theorem Gr.join(a:Gr Φ H y A)(b:Gr y H w z):Gr Φ H w z:=⟨a.f.trans b.f,b.h,b.s,λp u c e k=>b.o p u c (a.o p u c e k) k⟩
theorem ET(s:Same Φ H){p:Addr}(o:HO):Same (aq Φ p o) (aq H p o):=λb u e=>by
 by_cases c:b=p
 ·subst c;rw[bh]at e ⊢;show e
 ·rw[aY c]at e ⊢;show s b u e
theorem Gr.new(s:Same Φ H){p:Addr}(a:H p=ŕ)(o:HO):Gr Φ H (aq Φ p o) (aq H p o):=
 ⟨du (s.free a) o,du a o,ET s o,λq u e c _=>by rw[aY (de e a)];show c⟩
theorem Gr.fresh(s:Same Φ H){p:Addr}(a:H p=ŕ)(o:HO):Gr Φ H Φ (aq H p o):=
 ⟨Same.refl _,du a o,λb u e=>du a o b u (s b u e),λ_ _ _ h _=>h⟩
theorem Gr.freeze(g:Gr Φ H j l){p:Addr}{o:HO}(h:H p=ŕ)(r:j p=ŕ)(x:l p=Z o):Gr Φ H (aq j p o) l:=
 ⟨g.f.trans (du r o),g.h,λb u e=>by
  by_cases c:b=p
  ·subst c;rw[bh]at e;cases e;show x
  ·rw[aY c]at e;show g.s b u e,λq u a f k=>by rw[aY (de a h)];show g.o q u a f k⟩
theorem Gr.adoptT{p:Addr}{xs:Y V}(s:Same Φ H)(h:Same H l)(a:l p=Z (.tup xs)):∃j,Gr Φ H j l/\j p=Z (.tup xs):=by
 have f:∀u,Φ p=Z u->u=.tup xs:=λu e=>by have:=h _ _ (s _ _ e);rw[a]at this;cases this;rfl
 refine⟨aq Φ p (.tup xs),⟨λb u e=>?_,h,λb u e=>?_,λb u e n k=>?_⟩,bh⟩
 ·by_cases c:b=p
  ·subst c;rw[bh,f u e]
  ·rw[aY c];show e
 ·by_cases c:b=p
  ·subst c;rw[bh]at e;cases e;show a
  ·rw[aY c]at e;show h _ _ (s _ _ e)
 ·by_cases c:b=p
  ·subst c;have:=h _ _ e;rw[a]at this;cases this;show k.elim
  ·rw[aY c];show n
noncomputable def RpQ(K:Â)(Φ H:Hp)(d:D)(v:V):Prop:=Rp K Φ d v\/∃a vs ds,d=.lst ds/\v=.ref a/\H a=Z (.lst vs)/\RpL K Φ ds vs
theorem RpQ.gr(g:Gr Φ H j l)(h:RpQ K Φ H d v):RpQ K j l d v:=by
 rcases h with h|⟨a,vs,ds,e,c,f,o⟩
 ·show .inl (h.same g.f)
 ·show .inr ⟨a,vs,ds,e,c,g.h _ _ f,o.same g.f⟩
theorem RpQ.lst(s:Same Φ H)(h:RpQ K Φ H (.lst ds) v):∃a vs,v=.ref a/\H a=Z (.lst vs)/\RpL K Φ ds vs:=by
 rcases h with h|⟨a,vs,ds,e,g,c,f⟩
 ·cases h with|lst c f h3=>show⟨_,_,S,s _ _ c,f,h3⟩
 ·cases e;show⟨a,vs,g,c,f⟩
theorem RpQ.fzl(s:Same Φ H)(h:RpQ K Φ H (.fzl ds) v):∃a vs,v=.ref a/\SqL K H a vs/\RpL K Φ ds vs:=by
 rcases h with h|⟨a,vs,ds,e,g,c,f⟩
 ·cases h with|fzl c f h3=>show⟨_,_,S,s.seq c,f,h3⟩
 ·cases e
theorem RpQ.tup(s:Same Φ H)(h:RpQ K Φ H (.tup ds) v):∃a vs,v=.ref a/\SqT K H a vs/\Φ a=Z (.tup vs)/\RpL K Φ ds vs:=by
 rcases h with h|⟨a,vs,ds,e,g,c,f⟩
 ·cases h with|tup c f h3=>show⟨_,_,S,.of (s _ _ c),c,f,h3⟩
 ·cases e
theorem RpQ.int{i:Int}(h:RpQ K Φ H (.int i) v):v=.int i:=by
 rcases h with h|⟨a,vs,ds,e,_⟩
 ·obtain rfl:=h.i;rfl
 ·cases e
theorem RpQ.bl{i:Bool}(h:RpQ K Φ H (.bl i) v):v=.bl i:=by
 rcases h with h|⟨a,vs,ds,e,_⟩
 ·obtain rfl:=h.b;rfl
 ·cases e
theorem RpQ.str{i:Str}(h:RpQ K Φ H (.str i) v):v=.str i:=by
 rcases h with h|⟨a,vs,ds,e,_⟩
 ·obtain rfl:=h.s;rfl
 ·cases e
theorem RpQ.non(h:RpQ K Φ H .non v):v=.non:=by
 rcases h with h|⟨a,vs,ds,e,_⟩
 ·obtain rfl:=h.n;rfl
 ·cases e
noncomputable def fh:D->Ŗ (Y D)
 |.lst ds=>Z ds
 |.tup ds=>Z ds
 |.fzl ds=>Z ds
 |_=>ŕ
theorem RpQ.seq(s:Same Φ H)(h:RpQ K Φ H d v)(e:fh d=Z ds):∃a vs,v=.ref a/\(SqL K H a vs\/SqT K H a vs)/\RpL K Φ ds vs:=by
 cases d with
 |lst ds=>cases e;let⟨a,vs,e,c,f⟩:=h.lst s;show⟨a,vs,e,.inl (.of c),f⟩
 |tup ds=>cases e;let⟨a,vs,e,c,_,f⟩:=h.tup s;show⟨a,vs,e,.inr c,f⟩
 |fzl ds=>cases e;let⟨a,vs,e,c,f⟩:=h.fzl s;show⟨a,vs,e,.inl c,f⟩
 |_=>cases e
theorem Rp.seq(h:Rp K Φ d v)(e:fh d=Z ds):∃(b:Bool)(a:Addr)(vs:Y V),v=.ref a/\SqB K b Φ a vs/\RpL K Φ ds vs:=by
 cases d with
 |lst ds=>cases e;cases h with|lst h1 h2 h3=>show⟨ŗ,_,_,S,SqL.of h1,h2,h3⟩
 |tup ds=>cases e;cases h with|tup h1 h2 h3=>show⟨Ř,_,_,S,SqT.of h1,h2,h3⟩
 |fzl ds=>cases e;cases h with|fzl h1 h2 h3=>show⟨ŗ,_,_,S,h1,h2,h3⟩
 |_=>cases e
end
inductive Ow where|lst (xs:List D)|dct (ks:List aD)|dcT (ks:List (List aD))
inductive Sl where|v (d:D)|ob (o:Ow)
noncomputable abbrev Sl.own(xs:Y D):Sl:=.ob (.lst xs)
noncomputable abbrev Sl.dct(a:Y aD):Sl:=.ob (.dct a)
noncomputable abbrev Sl.dcT(a:Y (Y aD)):Sl:=.ob (.dcT a)
noncomputable def OwR(K:Â)(Φ:Hp):Ow->HO->Prop
 |.lst ds,.lst vs=>RpL K Φ ds vs
 |.dct c,.dK a=>a.map (·.1)=c
 |.dcT c,.dT a=>a.map (·.1)=c
 |_,_=>False
theorem OwR.k{K:Â}{Φ:Hp}{o:Ow}{u:HO}(r:OwR K Φ o u):nr u:=by
 cases o with
 |lst ds=>
  cases u with
  |lst vs=>show Û
  |_=>show r.elim
 |dct c=>
  cases u with
  |dK a=>show Û
  |_=>show r.elim
 |dcT c=>
  cases u with
  |dT a=>show Û
  |_=>show r.elim
theorem OwR.same{K:Â}{Φ a:Hp}{o:Ow}{u:HO}(r:OwR K Φ o u)(s:Same Φ a):OwR K a o u:=by
 cases o with
 |lst ds=>
  cases u with
  |lst vs=>show (show RpL K Φ ds vs from r).same s
  |_=>show r.elim
 |dct e=>
  cases u with
  |dK c=>show r
  |_=>show r.elim
 |dcT e=>
  cases u with
  |dT c=>show r
  |_=>show r.elim
noncomputable abbrev bz:=Y (Ŗ Sl)
noncomputable def wI:FuncBody->Ŗ Ö
 |.stmts b=>(match b.getLast? with
  |some (.Return (Z (.Call _ _ a _)) _)=>a.findSome? λk=>(match k.value with|.Lambda _ _ _ pos=>Z pos|_=>ŕ)
  |_=>ŕ)
 |_=>ŕ
noncomputable def pR(K:Â)(x:Str):Ŗ (Addr×Array Value):=match Ò K Á x with
 |some (Z (.ref f))=>(match K.lookup f with
  |some ⟨_,_,.func e,_⟩=>(match e.code with
   |.ref c=>(match K.lookup c with
    |some ⟨_,_,.fields vs,_⟩=>(match (vs[11]?:Ŗ Value),wI e.body with
     |some (.ref P),Z a=>Z (P,#[ò a.line,ò a.col,.str (e.qualname++".<locals>."++"<lambda>") 0])
     |_,_=>ŕ)
    |_=>ŕ)
   |_=>ŕ)
  |_=>ŕ)
 |_=>ŕ
noncomputable def qH(K:Â):Y (Addr×Array Value):=(["least_grown","greatest_first"]:Y Str).filterMap (pR K)
noncomputable def TabF(K:Â)(Φ:Hp):Prop:=∀t∈qH K,Φ t.1=Z (.tbl t.2)
theorem TabF.same{K:Â}{Φ a:Hp}(h:TabF K Φ)(s:Same Φ a):TabF K a:=λt c=>s _ _ (h t c)
structure EnvD(K:Â)(H0 Φ H:Hp)(σ:St)(ρ:bz):Prop where
 fz:Same Φ H
 len:σ.length=ρ.length
 sl:∀(i:Nat)(d:D),ρ[i]?=Z (Z (.v d))->∃v,σ[i]?=Z (Z v)/\Rp K Φ d v
 ow:∀(i:Nat)(o:Ow),ρ[i]?=Z (Z (.ob o))->∃p u,σ[i]?=Z (Z (.ref p))/\H0 p=ŕ/\Φ p=ŕ/\H p=Z u/\OwR K Φ o u
 ne:∀(i j:Nat)(o w:Ow)(p:Addr),ρ[i]?=Z (Z (.ob o))->ρ[j]?=Z (Z (.ob w))->σ[i]?=Z (Z (.ref p))->σ[j]?=Z (Z (.ref p))->i=j
 tb:TabF K Φ
section
variable{K:Â}{f H C Φ A:Hp}{a:St}{ρ:bz}{d:D}{v:V}{ds es:Y D}{vs B:Y V}
theorem EnvD.owl(E:EnvD K f Φ H a ρ)(i:Nat)(ds:Y D)(h:ρ[i]?=Z (Z (.own ds))):∃p vs,a[i]?=Z (Z (.ref p))/\f p=ŕ/\Φ p=ŕ/\H p=Z (.lst vs)/\RpL K Φ ds vs:=by
 let⟨p,u,e,c,g,j,r⟩:=E.ow i _ h
 cases u with
 |lst vs=>show⟨p,vs,e,c,g,j,r⟩
 |_=>show (show False from r).elim
theorem EnvD.gr(E:EnvD K f Φ H a ρ)(g:Gr Φ H A C):EnvD K f A C a ρ:=
 ⟨g.s,E.len,λi d h=>let ⟨v,e,r⟩:=E.sl i d h;⟨v,e,r.same g.f⟩,
  λi ds h=>let ⟨p,vs,e,h0,hn,hp,r⟩:=E.ow i ds h;⟨p,vs,e,h0,g.o p _ hp hn r.k,g.h _ _ hp,r.same g.f⟩,E.ne,E.tb.same g.f⟩
theorem cX{o:Type}{l:Y o}{i j:Nat}{x y:o}(h:(l.set i x)[j]?=Z y):(j=i/\i<l.length/\y=x)\/(j≠i/\l[j]?=Z y):=by
 by_cases c:i=j
 ·subst c
  have g:i<l.length:=by have:=az h;rwa [Iv]at this
  rw[IS g]at h;cases h;show .inl ⟨S,g,S⟩
 ·rw[IP c]at h;show .inr ⟨λe=>c e.symm,h⟩
theorem EnvD.set(E:EnvD K f Φ H a ρ)(r:Rp K Φ d v)(i:Nat):EnvD K f Φ H (a.set i (Z v)) (ρ.set i (Z (.v d))):=by
 have y:∀{j:Nat}{x:Ŗ V},j≠i->a[j]?=Z x->(a.set i (Z v))[j]?=Z x:=λc h=>by rw[IP (JD c)];show h
 refine⟨E.fz,by rw[Iv,Iv,E.len],λj e h=>?_,λj ds h=>?_,λj k ds es p l o z F=>?_,E.tb⟩
 ·rcases cX h with⟨rfl,w,g⟩|⟨c,h⟩
  ·cases g;show⟨v,by rw[IS (by rw[E.len];show w)],r⟩
  ·let⟨u,J,L⟩:=E.sl j e h;show⟨u,y c J,L⟩
 ·rcases cX h with⟨rfl,w,g⟩|⟨c,h⟩
  ·cases g
  ·let⟨p,vs,e,q⟩:=E.ow j ds h;show⟨p,vs,y c e,q⟩
 ·rcases cX l with⟨rfl,_,g⟩|⟨G,l⟩
  ·cases g
  rcases cX o with⟨rfl,_,g⟩|⟨I,o⟩
  ·cases g
  rw[IP (JD G)]at z;rw[IP (JD I)]at F;show E.ne j k ds es p l o z F
theorem EnvD.setOb(E:EnvD K f Φ H a ρ){p:Addr}{o:Ow}{u:HO}(r:OwR K Φ o u)(Q:f p=ŕ)(a_:Φ p=ŕ)(T:H p=Z u)(J:∀(j:Nat)(w:Ow),ρ[j]?=Z (Z (.ob w))->a[j]?≠Z (Z (.ref p)))(i:Nat):EnvD K f Φ H (a.set i (Z (.ref p))) (ρ.set i (Z (.ob o))):=by
 have O:∀{j:Nat}{x:Ŗ V},j≠i->a[j]?=Z x->(a.set i (Z (.ref p)))[j]?=Z x:=λc h=>by rw[IP (JD c)];show h
 refine⟨E.fz,by rw[Iv,Iv,E.len],λj e h=>?_,λj ds h=>?_,λj k ds es q R N y l=>?_,E.tb⟩
 ·rcases cX h with⟨rfl,M,g⟩|⟨c,h⟩
  ·cases g
  ·let⟨u,U,X⟩:=E.sl j e h;show⟨u,O c U,X⟩
 ·rcases cX h with⟨rfl,M,g⟩|⟨c,h⟩
  ·cases g;show⟨p,u,by rw[IS (by rw[E.len];show M)],Q,a_,T,r⟩
  ·let⟨p,vs,e,q⟩:=E.ow j ds h;show⟨p,vs,O c e,q⟩
 ·rcases cX R with⟨g,I,_⟩|⟨P,L⟩
  ·rcases cX N with⟨G,_,_⟩|⟨F,z⟩
   ·rw[g,G]
   ·rw[g,IS (by rw[E.len];show I)]at y;cases y;rw[IP (JD F)]at l;show absurd l (J k _ z)
  ·rw[IP (JD P)]at y;rcases cX N with⟨G,I,_⟩|⟨F,z⟩
   ·rw[G,IS (by rw[E.len];show I)]at l;cases l;show absurd y (J j _ L)
   ·rw[IP (JD F)]at l;show E.ne j k _ _ q L z y l
theorem EnvD.putOb(E:EnvD K f Φ H a ρ){i:Nat}{p:Addr}{o o':Ow}{u:HO}(l:ρ[i]?=Z (Z (.ob o)))(F:a[i]?=Z (Z (.ref p)))(r:OwR K Φ o' u):EnvD K f Φ (aq H p u) a (ρ.set i (Z (.ob o'))):=by
 let⟨U,vs,e,L,G,T,_⟩:=E.ow i _ l;rw[F]at e;cases e;have a_:=az l;refine⟨λb u e=>?_,by rw[Iv,E.len],λj e h=>?_,λj fs h=>?_,λj k fs gs q x y Q R=>?_,E.tb⟩
 ·rw[aY (de e G)];show E.fz b u e
 ·rcases cX h with⟨rfl,_,w⟩|⟨c,h⟩
  ·cases w
  ·show E.sl j e h
 ·rcases cX h with⟨rfl,_,w⟩|⟨c,h⟩
  ·cases w;show⟨p,u,F,L,G,bh,r⟩
  ·let⟨q,us,e,M,N,O,P⟩:=E.ow j fs h;refine⟨q,us,e,M,N,?_,P⟩;rw[aY λz=>c (E.ne j i fs o p h l (by rw[e,z]) F)];show O
 ·have g:∀{j:Nat}{fs:Ow},(ρ.set i (Z (.ob o')))[j]?=Z (Z (.ob fs))->∃gs,ρ[j]?=Z (Z (.ob gs)):=λ{j fs} h=>by
   rcases cX h with⟨rfl,_,_⟩|⟨_,h⟩
   ·show⟨o,l⟩
   ·show⟨fs,h⟩
  let⟨I,x⟩:=g x;let⟨J,y⟩:=g y;show E.ne j k I J q x y Q R
theorem EnvD.setOwn(E:EnvD K f Φ H a ρ){p:Addr}(r:RpL K Φ ds vs)(e:f p=ŕ)(g:Φ p=ŕ)(h:H p=Z (.lst vs))(c:∀(j:Nat)(w:Ow),ρ[j]?=Z (Z (.ob w))->a[j]?≠Z (Z (.ref p)))(i:Nat):EnvD K f Φ H (a.set i (Z (.ref p))) (ρ.set i (Z (.own ds))):=E.setOb (o:=.lst ds) (u:=.lst vs) r e g h c i
theorem EnvD.put(E:EnvD K f Φ H a ρ){i:Nat}{p:Addr}(c:ρ[i]?=Z (Z (.own ds)))(e:a[i]?=Z (Z (.ref p)))(r:RpL K Φ es B):EnvD K f Φ (aq H p (.lst B)) a (ρ.set i (Z (.own es))):=E.putOb (o':=.lst es) (u:=.lst B) c e r
theorem EnvD.weak{c:bz}(E:EnvD K f Φ H a ρ)(o:c.length=ρ.length)(e:∀(i:Nat) x,c[i]?=Z (Z x)->ρ[i]?=Z (Z x)):EnvD K f Φ H a c:=
 ⟨E.fz,by rw[E.len,o],λi d h=>E.sl i d (e i _ h),λi ds h=>E.ow i ds (e i _ h),λi j ds es p g l=>E.ne i j ds es p (e i _ g) (e j _ l),E.tb⟩
end
inductive NF{α:Type}(x:α)(R:α->Prop):Prop|mk (y:α) (_:x=y) (_:R y)
theorem NF.get{a:Type}{x:a}{R:a->Prop}(h:NF x R):R x:=by let⟨_,rfl,h⟩:=h;show h
noncomputable abbrev TD:=bz->(D->Prop)->Prop
noncomputable abbrev aX:=bz->(Y D->Prop)->Prop
noncomputable abbrev cw:=bz->(Bool->Prop)->Prop
inductive lE(K:Â)(t:TD)(σ:St)(H:Hp)(Q:VK):Prop|mk (H0:Hp) (Φ:Hp) (ρ:bz) (R:D->Prop) (_:EnvD K H0 Φ H σ ρ) (_:t ρ R) (_:∀d Φ' H' v,R d->Gr Φ H Φ' H'->Rp K Φ' d v->Q v H')
inductive lQ(K:Â)(t:TD)(σ:St)(H:Hp)(Q:VK):Prop|mk (H0:Hp) (Φ:Hp) (ρ:bz) (R:D->Prop) (_:EnvD K H0 Φ H σ ρ) (_:t ρ R) (_:∀d Φ' H' v,R d->Gr Φ H Φ' H'->RpQ K Φ' H' d v->Q v H')
inductive lF(K:Â)(t:aX)(σ:St)(H:Hp)(Q:VK):Prop|mk (H0:Hp) (Φ:Hp) (ρ:bz) (R:List D->Prop) (_:EnvD K H0 Φ H σ ρ) (_:t ρ R) (_:∀ds Φ' H' p vs,R ds->Gr Φ H Φ' H'->H p=ŕ->Φ' p=ŕ->H' p=Z (.lst vs)->RpL K Φ' ds vs->Q (.ref p) H')
inductive lA(K:Â)(n:Nat)(t:aX)(σ:St)(H:Hp)(Q:List V->Hp->Prop):Prop|mk (H0:Hp) (Φ:Hp) (ρ:bz) (R:List D->Prop) (_:EnvD K H0 Φ H σ ρ) (_:t ρ R) (_:∀ds Φ' H' vs,R ds->Gr Φ H Φ' H'->RpL K Φ' ds vs->ds.length=n->Q vs H')
inductive lT(K:Â)(t:cw)(σ:St)(H:Hp)(Q:Bool->Hp->Prop):Prop|mk (H0:Hp) (Φ:Hp) (ρ:bz) (R:Bool->Prop) (_:EnvD K H0 Φ H σ ρ) (_:t ρ R) (_:∀b Φ' H',R b->Gr Φ H Φ' H'->Q b H')
structure PD(K:Â)(X:Cx)(e:Ã)(t:TD):Prop where pe:X.K=K->PE X e (lE K t)
structure PQ(K:Â)(X:Cx)(e:Ã)(t:TD):Prop where pe:X.K=K->PE X e (lQ K t)
structure PF(K:Â)(X:Cx)(e:Ã)(t:aX):Prop where pe:X.K=K->PE X e (lF K t)
structure PAD(K:Â)(X:Cx)(es:List Ã)(t:aX):Prop where pa:X.K=K->PA X es (lA K es.length t)
structure PTD(K:Â)(X:Cx)(e:Ã)(t:cw):Prop where pt:X.K=K->PT X e (lT K t)
structure PWD(K:Â)(X:Cx)(e:Ã)(t:cw):Prop where pw:X.K=K->PW X e (lT K t)
theorem PE.imp{X:Cx}{e:Ã}{t t':TE}(h:PE X e t)(k:∀c H Q,t' c H Q->t c H Q):PE X e t':=λa s c H Q I f=>h a s c H Q I (k c H Q f)
theorem PT.imp{X:Cx}{e:Ã}{t t':TT}(h:PT X e t)(k:∀c H Q,t' c H Q->t c H Q):PT X e t':=λa s c H Q I f=>h a s c H Q I (k c H Q f)
theorem PW.imp{X:Cx}{e:Ã}{t t':TT}(h:PW X e t)(k:∀c H Q,t' c H Q->t c H Q):PW X e t':=λg a s c H Q I f=>h g a s c H Q I (k c H Q f)
theorem PA.imp{X:Cx}{e:Y Ã}{t t':TA}(h:PA X e t)(k:∀c H Q,t' c H Q->t c H Q):PA X e t':=λf a s c H Q I g=>h f a s c H Q I (k c H Q g)
theorem PS.imp{X:Cx}{e:Ç}{t t':TS}(h:PS X e t)(k:∀D c H,t' D c H->t D c H):PS X e t':=λa s c H D I f=>h a s c H D I (k D c H f)
theorem PSs.imp{X:Cx}{e:Y Ç}{t t':TS}(h:PSs X e t)(k:∀D c H,t' D c H->t D c H):PSs X e t':=λa s c H D I f=>h a s c H D I (k D c H f)
section
variable{K:Â}{X:Cx}{e a b c:Ã}{es:Y Ã}{l:Ö}{t w tb:TD}{tf:aX}{A:aX}{z B:cw}
theorem PD.q(h:PD K X e t):PQ K X e t:=⟨λu=>(h.pe u).imp λx H Q p=>by let⟨o,Φ,ρ,R,E,t,k⟩:=p;show⟨o,Φ,ρ,R,E,t,λd f j v r g rr=>k d f j v r g (.inl rr)⟩⟩
noncomputable def nF(t:aX):TD:=λρ R=>t ρ λds=>R (.lst ds)
theorem PF.d(h:PF K X e tf):PD K X e (nF tf):=⟨λx=>(h.pe x).imp λF H Q u=>by let⟨o,Φ,ρ,R,E,t,k⟩:=u;show⟨o,Φ,ρ,_,E,t,λds C j p vs r g v f y rr=>
 k (.lst ds) _ j _ r (g.freeze v f y) ((rr.same (du f _)).lst bh)⟩⟩
noncomputable def uK(i:Nat):TD:=λρ R=>match ρ[i]? with|some (Z (.v d))=>R d|_=>False
noncomputable def uM(i:Nat):TD:=λρ R=>match ρ[i]? with|some (Z (.v d))=>R d|some (Z (.ob (.lst ds)))=>R (.lst ds)|_=>False
theorem dv(i:Nat){x:Str}(j:X.N[i]?=Z x:=by rfl)(o:cR X.env.scope x:=by nofun)(hd:ab x:=by decide)
  (f:fI x:=by decide):PD K X (.Name x l) (uK i):=⟨λ_=>(pv i j o hd f).imp λu H Q g=>by
 let⟨p,Φ,ρ,R,E,t,k⟩:=g;unfold uK at t;split at t
 ·next d h=>
  let⟨v,e,r⟩:=E.sl i d h;show⟨v,e,k d Φ H v t (.refl E.fz) r⟩
 ·show t.elim⟩
theorem ac(i:Nat){x:Str}(j:X.N[i]?=Z x:=by rfl)(u:cR X.env.scope x:=by nofun)(hd:ab x:=by decide)
  (f:fI x:=by decide):PQ K X (.Name x l) (uM i):=⟨λ_=>(pv i j u hd f).imp λC H Q g=>by
 let⟨y,Φ,ρ,R,E,t,k⟩:=g;unfold uM at t;split at t
 ·next d h=>
  let⟨v,e,r⟩:=E.sl i d h;show⟨v,e,k d Φ H v t (.refl E.fz) (.inl r)⟩
 ·next ds h=>
  let⟨p,vs,e,_,_,o,r⟩:=E.owl i ds h;show⟨_,e,k _ Φ H _ t (.refl E.fz) (.inr ⟨p,vs,ds,S,S,o,r⟩)⟩
 ·show t.elim⟩
noncomputable def dC(d:D):TD:=λ_ R=>R d
theorem me{v:V}{d:D}(h:PE X e (tC v))(r:∀Φ,Rp K Φ d v):PD K X e (dC d):=⟨λ_=>h.imp λj H Q f=>by let⟨g,Φ,ρ,R,E,t,k⟩:=f;show k d Φ H v t (.refl E.fz) (r Φ)⟩
theorem ah{i j}:PD K X (.Constant (.int i) j l) (dC (.int i)):=me xO λ_=>.int i
theorem cU{i j}:PD K X (.Constant (.bool i) j l) (dC (.bl i)):=me yD λ_=>.bl i
theorem gT{i j}:PD K X (.Constant (.str i) j l) (dC (.str i)):=me Fe λ_=>.str i
theorem bt{j}:PD K X (.Constant .none j l) (dC .non):=me D7 λ_=>.non
noncomputable abbrev da:=D->D->(D->Prop)->Prop
inductive lR2(K:Â)(r:da)(x:V)(y:V)(H:Hp)(Q:VK):Prop|mk (Φ:Hp) (dx:D) (dy:D) (R:D->Prop) (_:Same Φ H) (_:RpQ K Φ H dx x) (_:RpQ K Φ H dy y) (_:r dx dy R) (_:∀d Φ' H' v,R d->Gr Φ H Φ' H'->Rp K Φ' d v->Q v H')
structure OpD(K:Â)(X:Cx)(f:Value->Value->Sem Value)(r:da):Prop where o:X.K=K->cb X f (lR2 K r)
noncomputable def je(r:da)(w tb:TD):TD:=λρ R=>w ρ λx=>tb ρ λy=>r x y R
theorem mF{r:da}{F:St}{H:Hp}{Q:VK}(h:lE K (je r w tb) F H Q):iI (lR2 K r) (lQ K w) (lQ K tb) F H Q:=by let⟨u,Φ,ρ,R,E,t,k⟩:=h;show⟨u,Φ,ρ,_,E,t,λI o P x N C L=>⟨u,o,ρ,_,E.gr C,N,λJ p U y O f M=>⟨p,I,J,R,f.s,L.gr f,M,O,λd j G v r g rr=>k d j G v r ((C.trans f).trans g) rr⟩⟩⟩
theorem aO{g:ë}{r:da}(o:OpD K X (Ï g) r)(h:PQ K X a w)(j:PQ K X b tb):PD K X (.BinOp a g b l) (je r w tb):=
 ⟨λf=>(wz (o.o f) (h.pe f) (j.pe f)).imp λ_ _ _=>mF⟩
theorem dQ{g:Ē}{r:da}(p:OpD K X (É g) r)(h:PQ K X a w)(j:PQ K X b tb)(o:behindInMarks g b=Ř):PD K X (.Compare a [g] [b] l) (je r w tb):=
 ⟨λf=>(vq (p.o f) (h.pe f) (j.pe f) o).imp λ_ _ _=>mF⟩
noncomputable def rZ(t:TD):cw:=λρ R=>t ρ λd=>match d with|.bl b=>R b|_=>False
theorem wS{r:da}{j:St}{H:Hp}{Q:Bool->Hp->Prop}(h:lT K (rZ (je r w tb)) j H Q):qA (iI (lR2 K r) (lQ K w) (lQ K tb)) j H Q:=by let⟨p,Φ,ρ,R,E,t,k⟩:=h;refine mF ⟨p,Φ,ρ,_,E,t,λd f o v r g rr=>?_⟩;let⟨b,rfl,r⟩:=i6 r;obtain rfl:=rr.b;show⟨b,S,k b f o r g⟩
theorem aG{g:Ē}{r:da}(p:OpD K X (É g) r)(h:PQ K X a w)(j:PQ K X b tb)(o:behindInMarks g b=Ř):PTD K X (.Compare a [g] [b] l) (rZ (je r w tb)):=
 ⟨λf=>(vd (p.o f) (h.pe f) (j.pe f) o).imp λ_ _ _=>wS⟩
noncomputable abbrev pK:=D->(D->Prop)->Prop
noncomputable def vK(r:pK)(w:TD):TD:=λρ R=>w ρ λx=>r x R
noncomputable def xx:pK:=λx R=>match x with|.int i=>R (.int (-i))|_=>False
theorem cQ(u:PQ K X a w):PD K X (.UnaryOp .USub a l) (vK xx w):=⟨λr=>(Ae yL (u.pe r)).imp λC H Q o=>by let⟨h,Φ,ρ,R,E,t,k⟩:=o;show⟨h,Φ,ρ,_,E,t,λy g j x f p v=>by
 let⟨i,rfl,f⟩:=iJ f
 show⟨i,v.int,k _ g j _ f p (.int _)⟩⟩⟩
noncomputable def En:pK:=λx R=>match x with|.bl i=>R (.bl (!i))|_=>False
theorem zN(u:PQ K X a w):PD K X (.UnaryOp .Not a l) (vK En w):=⟨λr=>(zd (u.pe r)).imp λC H Q o=>by let⟨h,Φ,ρ,R,E,t,k⟩:=o;show⟨h,Φ,ρ,_,E,t,λy g j x f p v=>by
 let⟨i,rfl,f⟩:=i6 f
 show⟨i,v.bl,k _ g j _ f p (.bl _)⟩⟩⟩
noncomputable def qZ:D->(Bool->Prop)->Prop:=λd R=>match d with
 |.int i=>R (i != 0)|.bl b=>R b|.non=>R Ř|.str x=>x.length<=sizeLine/\R ((x.length:Int) != 0)|.lst ds=>R (!ds.isEmpty)|.tup ds=>R (!ds.isEmpty)|.fzl ds=>R (!ds.isEmpty)|.obj _ _=>False|.map _=>False|.exc _ _=>False
theorem pP{Φ:Hp}{ds:Y D}{vs:Y V}(h:RpL K Φ ds vs):(!ds.isEmpty)=!vs.isEmpty:=by have:=h.1;cases ds<;>cases vs<;>simp_all
theorem vC{Φ H:Hp}{d:D}{v:V}{R:Bool->Prop}(s:Same Φ H)(h:RpQ K Φ H d v)(t:qZ d R):∃k,qV K v H k/\R k:=by
 cases d with
 |int i=>rw[h.int];show⟨_,S,t⟩
 |bl i=>rw[h.bl];show⟨_,S,t⟩
 |non=>rw[h.non];show⟨_,S,t⟩
 |str i=>rw[h.str];show⟨_,⟨t.1,S⟩,t.2⟩
 |lst ds=>let⟨a,vs,rfl,f,g⟩:=h.lst s;show⟨_,.inl ⟨vs,.of f,S⟩,by rw[←pP g];show t⟩
 |tup ds=>let⟨a,vs,rfl,f,_,g⟩:=h.tup s;show⟨_,.inr (.inl ⟨vs,f,S⟩),by rw[←pP g];show t⟩
 |fzl ds=>let⟨a,vs,rfl,f,g⟩:=h.fzl s;show⟨_,.inl ⟨vs,f,S⟩,by rw[←pP g];show t⟩
 |obj C fs=>show t.elim
 |map j=>show t.elim
 |exc _ _=>show t.elim
noncomputable def zy(t:TD):cw:=λρ R=>t ρ λd=>qZ d R
theorem bY(y:PQ K X a w)(C:∀f,isTrue a X.env f=(do let v ←f;standAt a.pos;holding [v] (truthy v))):PTD K X a (zy w):=
 ⟨λj=>(we (y.pe j) C).imp λI H Q r=>by let⟨o,Φ,ρ,R,E,t,k⟩:=r;show⟨o,Φ,ρ,_,E,t,λd g p v G h F=>by
  let⟨b,u,x⟩:=vC h.s F G;rw[j]
  show⟨b,u,k b g p x h⟩⟩⟩
noncomputable def BR(t u:cw):cw:=λρ R=>t ρ λc=>(c=ŗ->u ρ R)/\(c=Ř->R Ř)
noncomputable def yr(t u:cw):cw:=λρ R=>t ρ λc=>(c=ŗ->R ŗ)/\(c=Ř->u ρ R)
noncomputable def Fr(t:cw):cw:=λρ R=>t ρ λc=>R (!c)
theorem PWD.td(h:PWD K X e z):PTD K X e z:=⟨λf=>(h.pw f).pt⟩
theorem ft(g:PTD K X a z):PWD K X (.BoolOp .And [a] l) z:=⟨λf=>uX (g.pt f)⟩
theorem gh(g:PTD K X a z):PWD K X (.BoolOp .Or [a] l) z:=⟨λf=>sW (g.pt f)⟩
theorem ee(x:PTD K X a z)(y:PWD K X (.BoolOp .And (b::es) l) B):PWD K X (.BoolOp .And (a::b::es) l) (BR z B):=
 ⟨λo=>(uv (x.pt o) (y.pw o)).imp λF H Q v=>by let⟨j,Φ,ρ,R,E,t,k⟩:=v;show⟨j,Φ,ρ,_,E,t,λc f u r g=>by
  cases c with
  |true=>rw[Iw S];show⟨j,f,ρ,R,E.gr g,r.1 S,λb h p C g'=>k b h p C (g.trans g')⟩
  |false=>rw[Ir 'b'];show k _ f u (r.2 S) g⟩⟩
theorem dc(x:PTD K X a z)(y:PWD K X (.BoolOp .Or (b::es) l) B):PWD K X (.BoolOp .Or (a::b::es) l) (yr z B):=
 ⟨λo=>(tI (x.pt o) (y.pw o)).imp λF H Q v=>by let⟨j,Φ,ρ,R,E,t,k⟩:=v;show⟨j,Φ,ρ,_,E,t,λc f u r g=>by
  cases c with
  |true=>rw[Iw S];show k _ f u (r.1 S) g
  |false=>rw[Ir 'b'];show⟨j,f,ρ,R,E.gr g,r.2 S,λb h p C g'=>k b h p C (g.trans g')⟩⟩⟩
theorem cK(u:PTD K X a z):PTD K X (.UnaryOp .Not a l) (Fr z):=
 ⟨λp=>(zJ (u.pt p)).imp λv H Q o=>by let⟨h,Φ,ρ,R,E,t,k⟩:=o;show⟨h,Φ,ρ,_,E,t,λc f j r g=>k _ f j r g⟩⟩
noncomputable def BF(t u:TD):TD:=λρ R=>t ρ λc=>match c with|.bl c=>(c=ŗ->u ρ R)/\(c=Ř->R (.bl Ř))|_=>False
theorem jN{op}(h:PD K X a w):PD K X (.BoolOp op [a] l) w:=⟨λf=>wx (h.pe f)⟩
theorem il(y:PD K X a w)(C:PD K X (.BoolOp .And (b::es) l) tb):PD K X (.BoolOp .And (a::b::es) l) (BF w tb):=
 ⟨λo=>(wg (y.pe o) (C.pe o)).imp λI H Q x=>by let⟨j,Φ,ρ,R,E,t,k⟩:=x;show⟨j,Φ,ρ,_,E,t,λc f u v r g G=>by
  let⟨c,rfl,r⟩:=i6 r;obtain rfl:=G.b;refine⟨c,S,?_⟩
  cases c with
  |true=>rw[Iw S];show⟨j,f,ρ,R,E.gr g,r.1 S,λb h p v F g' rr=>k b h p v F (g.trans g') rr⟩
  |false=>rw[Ir 'b'];show k _ f u _ (r.2 S) g (.bl _)⟩⟩
noncomputable def E7(t:cw)(u v:TD):TD:=λρ R=>t ρ λc=>(c=ŗ->u ρ R)/\(c=Ř->v ρ R)
theorem nz(F:PTD K X c z)(y:PD K X a w)(C:PD K X b tb):PD K X (.IfExp c a b l) (E7 z w tb):=
 ⟨λp=>(xH (F.pt p) (y.pe p) (C.pe p)).imp λI H Q x=>by let⟨o,Φ,ρ,R,E,t,k⟩:=x;show⟨o,Φ,ρ,_,E,t,λc h G r g=>by
  cases c with
  |true=>rw[Iw S];show⟨o,h,ρ,R,E.gr g,r.1 S,λb f j v u g' rr=>k b f j v u (g.trans g') rr⟩
  |false=>rw[Ir 'b'];show⟨o,h,ρ,R,E.gr g,r.2 S,λb f j v u g' rr=>k b f j v u (g.trans g') rr⟩⟩⟩
noncomputable def vD:aX:=λ_ R=>R []
noncomputable def tD(t:TD)(u:aX):aX:=λρ R=>t ρ λd=>u ρ λds=>R (d::ds)
theorem am:PAD K X [] vD:=⟨λ_=>pa_nil.imp λh H Q f=>by let⟨g,Φ,ρ,R,E,t,k⟩:=f;show k [] Φ H [] t (.refl E.fz) .nil S⟩
theorem ad(y:PD K X e t)(F:PAD K X es A)(G:starEach (e::es) X.env=(Ř,eval e X.env)::starEach es X.env):PAD K X (e::es) (tD t A):=
 ⟨λp=>(eY (y.pe p) (F.pa p) G).imp λM H Q x=>by let⟨j,Φ,ρ,R,E,t,k⟩:=x;show⟨j,Φ,ρ,_,E,t,λd f L v r g J=>⟨j,f,ρ,_,E.gr g,r,λds h u vs I o rl C=>
  k _ h u _ I (g.trans o) (.cons (J.same o.f) rl) (by rw[IH,IH,C])⟩⟩⟩
noncomputable def As(t:aX):TD:=λρ R=>t ρ λds=>R (.tup ds)
noncomputable def y6(t:aX):aX:=t
theorem nt{n:Nat}(h:Nat.ble n 1000=ŗ):n<=sizeLine:=IU (Nat.le_of_ble_eq_true h) 'b'
theorem bw{x1}(h:PAD K X es A)(u:Nat.ble es.length 1000=ŗ:=by rfl):PD K X (.Tuple es x1 l) (As A):=
 ⟨λv=>(pz (h.pa v)).imp λF H Q o=>by let⟨j,Φ,ρ,R,E,t,k⟩:=o;show⟨j,Φ,ρ,_,E,t,λds y C vs r g rl x=>⟨by rw[rl.1,x];show nt u,λp f=>
  k _ _ _ _ r (g.trans (.new g.s f _)) ((rl.same (du (g.s.free f) _)).tup bh)⟩⟩⟩
theorem dk(h:PAD K X es A)(u:Nat.ble es.length 1000=ŗ:=by rfl):PF K X (.List es l) (y6 A):=
 ⟨λv=>(uL (h.pa v)).imp λF H Q o=>by let⟨j,Φ,ρ,R,E,t,k⟩:=o;show⟨j,Φ,ρ,_,E,t,λds y C vs r g rl x=>⟨by rw[rl.1,x];show nt u,λp f=>
  k _ _ _ p vs r (g.trans (.fresh g.s f _)) (g.h.free f) (g.s.free f) bh rl⟩⟩⟩
end
end L2
namespace L2
open PySem PySem.Spec PyProof.Rows PySem.Builtin PySem.Builtin.Str
section
variable{X:Cx}
noncomputable def kF(z:Str)(lo a:Ŗ Int):Str:=⟨(cN z.cps.toList lo a).toArray⟩
theorem G4(z:Str)(lo c:Ŗ Int):Txt.slice z lo c=kF z lo c:=by
 have f:strSliceIndices lo c 1 z.length=(List.range (HT.sIx z.length z.length c-HT.sIx z.length 0 lo)).map λk=>HT.sIx z.length 0 lo+k:=by
  have l:∀(i:Int)(d:Nat),max 0 (min (if i<0 then i+(z.length:Int) else i) (z.length:Int))=(HT.sIx z.length d (Z i):Int):=λi d=>by change max 0 (min (if i<0 then i+(z.length:Int) else i) (z.length:Int))=((if i<0 then (i+(z.length:Int)).toNat else min i.toNat z.length:Nat):Int);split<;>omega
  have u:strSliceIndices lo c 1 z.length=sliceRange (HT.sIx z.length 0 lo:Int) (HT.sIx z.length z.length c:Int) 1:=by cases lo<;>cases c<;>simp only[strSliceIndices,show (1:Int)>0 by decide,Lx,l _ 0,l _ z.length]<;>rfl
  rw[u];unfold sliceRange;simp only[show (1:Int)>0 by decide,Lx]
  have v:(if (HT.sIx z.length 0 lo:Int)<(HT.sIx z.length z.length c:Int) then ((HT.sIx z.length z.length c:Int)-(HT.sIx z.length 0 lo:Int)+1-1)/1 else 0).toNat=HT.sIx z.length z.length c-HT.sIx z.length 0 lo:=by
   split
   ·rw[MS];omega
   ·omega
  rw[v];refine KW λk _=>?_;omega
 have o:HT.sIx z.length z.length c<=z.length:=by
  cases c with
  |none=>show Iu _
  |some i=>
   change (if i<0 then (i+(z.length:Int)).toNat else min i.toNat z.length)<=z.length;split<;>omega
 have y:HT.sIx z.length 0 lo<=z.length:=by
  cases lo with
  |none=>show Km _
  |some i=>
   change (if i<0 then (i+(z.length:Int)).toNat else min i.toNat z.length)<=z.length;split<;>omega
 have g:(strSliceIndices lo c 1 z.length).filterMap (z.cps[·]?)=cN z.cps.toList lo c:=by
  rw[f];unfold cN
  have e:z.cps.toList.length=z.length:=by rw[J2];rfl
  rw[e];generalize HT.sIx z.length 0 lo=a;generalize A:HT.sIx z.length z.length c=b at o;refine JU λj=>?_;rw[L6]
  have:∀m,m<=b-a->((List.range m).filterMap ((λx=>z.cps[x]?) ∘ λk=>a+k))=(z.cps.toList.drop a).take m:=by
   intro m
   induction m with
   |zero=>intro _;simp
   |succ m w=>
    intro C;rw[Ko,List.filterMap_append,w ()]
    have r:a+m<z.cps.size:=by unfold Str.length at o;omega
    have B:z.cps.toList.drop a=z.cps.toList.drop a:=rfl
    have p:m<(z.cps.toList.drop a).length:=by rw[Ke,e];unfold Str.length;omega
    rw[List.take_add_one,Ls];congr 1;simp[r]
  rw[this _ (Iu _)]
 unfold Txt.slice kF;split
 ·next h=>
  have p:(strSliceIndices lo c 1 z.length).length=z.length:=by simpa using h
  have e:z.cps.toList.length=z.length:=by rw[J2];rfl
  have:cN z.cps.toList lo c=z.cps.toList:=by
   rw[f,Il,IF]at p;unfold cN;rw[e]
   have:HT.sIx z.length 0 lo=0:=by omega
   rw[this,L5,J1 (by rw[e];omega)]
  rw[this]
 ·rw[g]
noncomputable def rX:V->Ŗ Int->Ŗ Int->Hp->VK->Prop:=λx lo a H Q=>∃z,x=.str z/\z.length<=sizeLine/\Q (.str (kF z lo a)) H
theorem vf{v:Value}{o:Ŗ Int}(h:ï v o):∃p:Ŗ (Int×Ň),v=partValue p/\p.map (·.1)=o:=by
 cases h with
 |none=>show⟨ŕ,S,S⟩
 |int i t=>show⟨Z (i,t),S,S⟩
theorem Cb:SlR X rX:=by
 intro e s G H x v C E lo B sl Q I A r pl y h;let⟨z,rfl,w,q⟩:=h;let⟨t,rfl⟩:=A;let⟨a,rfl,rfl⟩:=vf pl;let⟨c,rfl,rfl⟩:=vf y;refine⟨"str",_,F.slot_str_getitem.lookup,ĺ _ _ _,?_⟩
 have f:s.heap.IsSlice sl a c ŕ:=by let⟨o,p,g,j⟩:=r;show⟨o,p,g,j⟩
 refine wpAny_getItem_str_slice (l:=a) (u:=c) (st:=ŕ) f S (post_val_or_str ⟨?_,λt' k=>?_⟩)
 ·show IU (Txt.slice_le z _ _) w
 ·refine⟨.str (kF z (a.map (·.1)) (c.map (·.1))),H,?_,⟨t',?_⟩,q⟩
  ·show I.tok _
  ·rw[←G4];rfl
noncomputable def gI(z:Str)(n:Nat):Str:=⟨((List.replicate n z.cps.toList).flatten).toArray⟩
theorem G8(z:Str):gI z 1=z:=by unfold gI;simp
theorem wn:∀(n:Nat)(x a:Array Nat),(List.replicate n x).foldl (·++·) a=a++((List.replicate n x.toList).flatten).toArray
 |0,x,a=>by simp
 |n+1,x,a=>by rw[JL,List.foldl_cons,wn n x (a++x),JL,Jn];apply ŏ;simp
theorem G5(z:Str)(n:Nat):(gI z n).length=z.length*n:=by unfold gI Str.length;simp[Mq]
noncomputable def xw:R2:=λx y H Q=>∃z k,x=.str z/\y=.int k/\-(2^62)<=k/\k<2^62/\z.length*k.toNat<=sizeLine/\z.length<=sizeLine/\Q (.str (gI z k.toNat)) H
theorem DH:cb X (Ï .Mult) xw:=by
 intro l s J H x y v u Q I w A h;let⟨z,k,rfl,rfl,B,C,g,E,q⟩:=h;let⟨t,rfl⟩:=w;let⟨t',rfl⟩:=A;refine P.mul_str (by rw[Jb (),Jb ()];rfl) (λo a=>?_) (λo a=>?_) ?_
 ·intro G
  have r:0<k:=by omega
  have p:((z.length:Int))*k<=2^24:=by have:((z.length*k.toNat:Nat):Int)<=(sizeLine:Int):=Int.ofNat_le.mpr g;rw[Int.natCast_mul,Int.toNat_of_nonneg ()]at this;show this
  have F:(z.length:Int)<=(2^63-1)/k:=(Int.le_ediv_iff_mul_le r).mpr (Int.le_trans p 'b');omega
 ·unfold tooLong;show Jb ()
 ·by_cases c:k<1
  ·rw[Iw c]
   have e:k.toNat=0:=by omega
   rw[e]at q;show⟨'b',.str Str.empty,H,I.tok _,⟨_,S⟩,q⟩
  ·rw[Ir c];by_cases a:(k==1 ||z.length==0)=ŗ
   ·rw[Iw a]
    have e:gI z k.toNat=z:=by
     rw[Bool.or_eq_true]at a;rcases a with a|a
     ·have:=eq_of_beq a;subst this;show G8 z
     ·have j:z.cps.toList=[]:=by have:=eq_of_beq a;unfold Str.length at this;show JY.mp (by rw[J2];show this)
      unfold gI;rw[j]
      have f:z.cps=#[]:=by apply ŏ;rw[j]
      apply Str.ext';rw[f];simp
    rw[e]at q;show⟨.str z,H,I,⟨t,S⟩,q⟩
   ·rw[Ir a]
    have e:(⟨(List.replicate k.toNat z.cps).foldl (·++·) #[]⟩:Str)=gI z k.toNat:=by rw[wn];unfold gI;simp
    rw[e];refine⟨by rw[G5];show g,.str (gI z k.toNat),H,I.tok _,⟨_,S⟩,q⟩
end
noncomputable def DD:R2:=λx y H Q=>∃a b xs e,x=.ref a/\y=.ref b/\H a=Z (.tup xs)/\H b=Z (.tup e)/\xs.length+e.length<=sizeLine/\∀p c,Same H c->c p=Z (.tup (xs++e))->Q (.ref p) c
theorem AI{X:Cx}:cb X (Ï .Add) DD:=by
 intro c s E H x y v u Q I l o h;let⟨a,b,xs,C,rfl,rfl,f,g,w,q⟩:=h;by_cases j:xs=[]
 ·subst j;cases l;cases o;let⟨F,B,z,_⟩:=I.tuple (SqT.of f);let⟨G,J,A,_⟩:=I.tuple (SqT.of g);show BC z A (B.nil_iff.mpr S) ⟨.ref b,H,I,S,q b H (Same.refl H) g⟩
 ·refine wJ c s E H _ _ v u Q I l o ⟨a,b,xs,C,S,S,SqT.of f,SqT.of g,j,w,λe=>?_,λ_ p r=>q p _ (du r _) bh⟩;subst e;show q a H (Same.refl H) (by rw[Ji];show f)
noncomputable def xA:R2:=λx y H Q=>∃(a:Addr)(k:Int)(xs:Y V),x=.ref a/\y=.int k/\H a=Z (.tup xs)/\xs≠[]/\0<=k/\k<=1000/\k.toNat*xs.length<=1000/\∀p c,Same H c->c p=Z (.tup (List.replicate k.toNat xs).flatten)->Q (.ref p) c
theorem DG{X:Cx}:cb X (Ï .Mult) xA:=by
 intro B s σ H x y v u Q I rx ry h;let⟨a,k,xs,rfl,rfl,N,hx,h0,h1,P,q⟩:=h;cases rx;let⟨t,rfl⟩:=ry;let⟨c,r,p1,_⟩:=I.tuple (SqT.of N);have a_:c≠[]:=λz=>hx (r.nil_iff.mp z);have hl:=r.length
 have g:c.toArray.isEmpty=Ř:=by cases c with|nil=>show absurd S a_|cons _ _=>rfl
 let⟨⟨cls,C,data,sl⟩,f,O,n,hd⟩:=id p1;simp only at O hd;subst O hd
 refine ē (T:="tuple") (U:="int") 'b' ⟨_,f,S⟩ (λs'=>Mi s' k t) EN F.fills_int_mul LS w6 F.slot_int_index.lookup
  (KP LS (Mi s k t) F.entry_int_rmul (F.args_int_rmul_2 _ _) (yC k t a c.toArray n C sl)
   ⟨f,S,⟨_,f,S⟩,?_⟩)
 have J:List.foldl (λx1 x2=>x1++x2) #[] (List.replicate k.toNat c.toArray)=(List.replicate k.toNat c).flatten.toArray:=by have:=pO c k.toNat [];rw[Lj]at this;show this
 have K:¬ (decide (k < -(2^63)) ||decide (k≥2^63))=ŗ:=by rw[Jb (),Jb ()];show Jm
 by_cases M:k=1
 ·subst M;refine KP Lg ⟨_,f,S⟩ Mg (Ma _ _) (zu a c.toArray n C sl t) ⟨f,?_⟩;refine⟨.ref a,H,I,S,q a H (Same.refl H) ?_⟩;change H a=Z (.tup (List.replicate 1 xs).flatten);rw[List.replicate_one,Jn,List.flatten_nil,Ji];show N
 ·have L:¬ (c.toArray.isEmpty ||k==1)=ŗ:=by rw[g,Ku.mpr M];show Jm
  have A:∀w:Y V,∀us:Y Value,w.length<=sizeLine->Vals w us->EP X B σ Q (.ref s.heap.objs.size) { s with heap:=s.heap.push { cls:=Value.type "tuple",data:=ù us.toArray },toks:=s.toks }\/¬ (∀p l,Same H l->l p=Z (.tup w)->Q (.ref p) l):=λw us G rr=>by
   by_cases R:∀p l,Same H l->l p=Z (.tup w)->Q (.ref p) l
   ·refine .inl ⟨.ref s.heap.objs.size,_,I.laid (t':=s.toks) (o:=.tup w) (λb ob z=>IA _ z) (Iu _) ?_,S,R _ _ (du (I.hok.fresh (Iu _)) _) bh⟩;show⟨G,_,rr,IsTupD.new _ _⟩
   ·show .inr R
  by_cases c0:k=0
  ·subst c0;refine KP Lg ⟨_,f,S⟩ Mg (Ma _ _) (DS a c.toArray n C sl 0 t K L S) ⟨f,?_⟩;rcases A [] [] (Km _) .nil with z|z
   ·show z
   ·show absurd q z
  ·have be:¬ (decide (k<=0) ||c.toArray.isEmpty)=ŗ:=by rw[g,Jb ()];show Jm
   have j:c.length*k.toNat<=1000:=by rw[←hl,Mq];show P
   have E:(c.toArray.size:Int)*k<=1000:=by
    rw[IG]
    have e:k=((k.toNat:Nat):Int):=by omega
    rw[e]
    exact_mod_cast j
   have hs:(1000:Int)<=((sizeLine:Nat):Int):=by exact_mod_cast gj (Iu 1000)
   have b_:(List.replicate k.toNat c).flatten.length<=1000:=by rw[pE,Mq];show j
   refine KP Lg ⟨_,f,S⟩ Mg (Ma _ _) (zm a c.toArray n C sl k t K L be () (by unfold Builtin.Tuple.tupleTooMany;rw[Jb ()];show Jm) (by rw[J,IG];show gj b_)) ⟨f,?_⟩;rw[J];rcases A (List.replicate k.toNat xs).flatten (List.replicate k.toNat c).flatten (by rw[pE];show gj P) (r.rep k.toNat)with z|z
   ·show z
   ·show absurd q z
end L2
namespace L2
open PySem PySem.Spec PyProof.Rows
section
variable{K:Â}{X:Cx}{e a b:Ã}
noncomputable def zr:da:=λx y R=>match x,y with
 |.int i,.int j=>R (.int (i+j))
 |.str i,.str j=>i.length+j.length<=sizeLine/\R (.str (i++j))
 |.lst xs,.lst c=>xs.length+c.length<=sizeLine/\NF (xs++c) λf=>R (.lst f)
 |.tup xs,.tup c=>xs.length+c.length<=sizeLine/\NF (xs++c) λf=>R (.tup f)
 |_,_=>False
theorem bI:OpD K X (Ï .Add) zr:=⟨λbe c s B H x y v u Q I z A M=>by
 let⟨Φ,P,o,R,sm,r,w,h,k⟩:=M
 cases P with
 |int i=>
  cases o with
  |int j=>cases r.int;cases w.int;show DK c s B H _ _ v u Q I z A ⟨i,j,S,S,k _ Φ H _ h (.refl sm) (.int _)⟩
  |_=>show h.elim
 |str i=>
  cases o with
  |str j=>cases r.str;cases w.str;show yB c s B H _ _ v u Q I z A ⟨i,j,S,S,h.1,k _ Φ H _ h.2 (.refl sm) (.str _)⟩
  |_=>show h.elim
 |lst xs=>
  cases o with
  |lst U=>
   let⟨a,vs,rfl,F,f⟩:=r.lst sm;let⟨b,C,rfl,G,l⟩:=w.lst sm;show Bh c s B H _ _ v u Q I z A ⟨a,b,vs,C,S,S,F,G,by rw[f.1,l.1];show h.1,λp J=>k _ _ _ _ h.2.get (.new sm J _) (((f.append l).same (du (sm.free J) _)).lst bh)⟩
  |_=>show h.elim
 |tup xs=>
  cases o with
  |tup U=>
   let⟨a,vs,rfl,F,N,f⟩:=r.tup sm;let⟨b,C,rfl,G,O,l⟩:=w.tup sm
   show AI c s B H _ _ v u Q I z A ⟨a,b,vs,C,S,S,sm _ _ N,sm _ _ O,by rw[f.1,l.1];show h.1,λp L T q=>by
    let⟨E,g,a_⟩:=Gr.adoptT sm T q
    show k _ E L _ h.2.get g (((f.append l).same g.f).tup a_)⟩
  |_=>show h.elim
 |_=>show h.elim⟩
noncomputable def zI(C:Int->Int->Prop)(g:Int->Int->D):da:=λx y R=>match x,y with|.int i,.int j=>C i j/\R (g i j)|_,_=>False
noncomputable def jd(g:Int->Int->D):da:=λx y R=>match x,y with|.int i,.int j=>R (g i j)|_,_=>False
theorem qX{f:Value->Value->Sem Value}{C:Int->Int->Prop}{g:Int->Int->Int}(h:cb X f (rI C λi j=>.int (g i j))):OpD K X f (zI C λi j=>.int (g i j)):=
 ⟨λE c s B H x y v u Q I z A l=>by
  let⟨Φ,o,p,R,sm,r,w,q,k⟩:=l
  cases o with
  |int i=>
   cases p with
   |int j=>cases r.int;cases w.int;show h c s B H _ _ v u Q I z A ⟨i,j,S,S,q.1,k _ Φ H _ q.2 (.refl sm) (.int _)⟩
   |_=>show q.elim
  |_=>show q.elim⟩
theorem Ak{f:Value->Value->Sem Value}{g:Int->Int->Int}(h:cb X f (hV λi j=>.int (g i j))):OpD K X f (jd λi j=>.int (g i j)):=
 ⟨λC c s B H x y v u Q I z A l=>by
  let⟨Φ,o,p,R,sm,r,w,q,k⟩:=l
  cases o with
  |int i=>
   cases p with
   |int j=>cases r.int;cases w.int;show h c s B H _ _ v u Q I z A ⟨i,j,S,S,k _ Φ H _ q (.refl sm) (.int _)⟩
   |_=>show q.elim
  |_=>show q.elim⟩
theorem nK{f:Value->Value->Sem Value}{g:Int->Int->Bool}(h:cb X f (hV λi j=>.bl (g i j))):OpD K X f (jd λi j=>.bl (g i j)):=
 ⟨λC c s B H x y v u Q I z A l=>by
  let⟨Φ,o,p,R,sm,r,w,q,k⟩:=l
  cases o with
  |int i=>
   cases p with
   |int j=>cases r.int;cases w.int;show h c s B H _ _ v u Q I z A ⟨i,j,S,S,k _ Φ H _ q (.refl sm) (.bl _)⟩
   |_=>show q.elim
  |_=>show q.elim⟩
theorem cV:OpD K X (Ï .Sub) (jd λi j=>.int (i-j)):=Ak wH
theorem kK:OpD K X (Ï .FloorDiv) (zI CDivB λi j=>.int (i/j)):=qX BT
theorem iw:OpD K X (Ï .Mod) (zI (λ_ j=>0<j) λi j=>.int (i % j)):=qX ya
theorem lD:OpD K X (Ï .Pow) (zI vH λi j=>.int (i^j.toNat)):=qX B4
theorem fm:OpD K X (É .Lt) (jd λi j=>.bl (decide (i<j))):=nK CU
theorem yG:OpD K X (É .LtE) (jd λi j=>.bl (decide (i<=j))):=nK DI
theorem ei:OpD K X (É .Gt) (jd λi j=>.bl (decide (j<i))):=nK Am
theorem j7:OpD K X (É .GtE) (jd λi j=>.bl (decide (j<=i))):=nK xm
noncomputable def zV:da:=λx y R=>match x,y with
 |.int i,.int j=>þ i j/\R (.int (i*j))
 |.lst xs,.int k=>(-(2^63)<=k/\k<2^63/\xs.length*k.toNat<=sizeLine)/\NF (List.replicate k.toNat xs).flatten λc=>R (.lst c)
 |.tup xs,.int k=>(xs≠[]/\0<=k/\k<=1000/\k.toNat*xs.length<=1000)/\NF (List.replicate k.toNat xs).flatten λc=>R (.tup c)
 |.str z,.int k=>(-(2^62)<=k/\k<2^62/\z.length*k.toNat<=sizeLine/\z.length<=sizeLine)/\NF (gI z k.toNat) λy=>R (.str y)
 |_,_=>False
theorem cr:OpD K X (Ï .Mult) zV:=⟨λU c s B H x y v u Q I w A J=>by
 let⟨Φ,N,l,R,sm,o,r,h,k⟩:=J
 cases N with
 |int i=>
  cases l with
  |int j=>cases o.int;cases r.int;show B3 c s B H _ _ v u Q I w A ⟨i,j,S,S,h.1,k _ Φ H _ h.2 (.refl sm) (.int _)⟩
  |_=>show h.elim
 |lst xs=>
  cases l with
  |int j=>
   let⟨a,vs,rfl,E,f⟩:=o.lst sm;cases r.int;show At c s B H _ _ v u Q I w A ⟨a,j,vs,S,S,E,h.1.1,h.1.2.1,by rw[f.1];show h.1.2.2,λp F=>k _ _ _ _ h.2.get (.new sm F _) (((f.rep _).same (du (sm.free F) _)).lst bh)⟩
  |_=>show h.elim
 |tup xs=>
  cases l with
  |int j=>
   let⟨a,vs,rfl,E,M,f⟩:=o.tup sm;cases r.int;have L:vs≠[]:=λe=>h.1.1 (JY.mp (by rw[←f.1,e];rfl))
   show DG c s B H _ _ v u Q I w A ⟨a,j,vs,S,S,sm _ _ M,L,h.1.2.1,h.1.2.2.1,by rw[f.1];show h.1.2.2.2,λp G P q=>by
    let⟨C,g,O⟩:=Gr.adoptT sm P q
    show k _ C G _ h.2.get g (((f.rep _).same g.f).tup O)⟩
  |_=>show h.elim
 |str z=>
  cases l with
  |int j=>
   cases o.str;cases r.int;show DH c s B H _ _ v u Q I w A ⟨z,j,S,S,h.1.1,h.1.2.1,h.1.2.2.1,h.1.2.2.2,k _ Φ H _ h.2.get (.refl sm) (.str _)⟩
  |_=>show h.elim
 |_=>show h.elim⟩
end
noncomputable def gf(f:D->D->Ŗ Bool):Y D->Y D->Ŗ Bool
 | [],[]=>Z ŗ
 |x::xs,y::a=>(f x y).bind λb=>(gf f xs a).map (b&&·)
 |_,_=>Z Ř
noncomputable def dY:Nat->D->D->Ŗ Bool
 |_,.int i,.int j=>Z (i==j)
 |_,.bl i,.bl j=>Z (i==j)
 |_,.str i,.str j=>Z (i==j)
 |_,.non,.non=>Z ŗ
 |n+1,.tup xs,.tup a=>gf (dY n) xs a
 |n+1,.lst xs,.lst a=>if xs.length=a.length then gf (dY n) xs a else Z Ř
 |_,_,_=>ŕ
theorem mv{f:D->D->Ŗ Bool}:∀{xs a:Y D}{b:Bool},gf f xs a=Z b->∃g:Nat->Bool,(∀(j:Nat)(x y:D),xs[j]?=Z x->a[j]?=Z y->f x y=Z (g j))/\b=((List.range (min xs.length a.length)).all g&&xs.length==a.length)
 | [],[],b,h=>by cases h;show⟨λ_=>ŗ,λj x y o=>by simp at o,by simp⟩
 | [],_::_,b,h=>by cases h;show⟨λ_=>ŗ,λj x y o=>by simp at o,by simp⟩
 |_::_,[],b,h=>by cases h;show⟨λ_=>ŗ,λj x y _ C=>by simp at C,by simp⟩
 |x::xs,y::a,b,h=>by
  unfold gf at h
  cases e:f x y with
  |none=>rw[e]at h;cases h
  |some c=>
   cases l:gf f xs a with
   |none=>rw[e,l]at h;cases h
   |some E=>
    rw[e,l]at h;cases h;let⟨g,A,B⟩:=mv l;refine⟨λj=>match j with|0=>c|j+1=>g j,λj u v p r=>?_,?_⟩
    ·cases j with
     |zero=>cases p;cases r;show e
     |succ j=>show A j u v p r
    ·have z:min (x::xs).length (y::a).length=min xs.length a.length+1:=by simp only[IH];omega
     have w:((x::xs).length==(y::a).length)=(xs.length==a.length):=by simp
     rw[z,w,List.range_succ_eq_map,MP,List.all_map,B,Bool.and_assoc];rfl
section
variable{K:Â}{X:Cx}{f:Y (Addr×Ô)}{l:St}{Φ H:Hp}{s:À}
theorem Br{n:Nat}{g:Nat->Bool}(h:∀j,j<n->g j=ŗ):(List.range n).all g=ŗ:=by rw[Kf];intro j a;show h j (IY.mp a)
theorem bL{a:Type}{xs:Y a}{j:Nat}(h:j<xs.length):xs[j]?=Z xs[j]:=by simp[h]
inductive CmV:Nat->D->D->Bool->Prop
 |int {n:Nat} (i j:Int):CmV n (.int i) (.int j) (i==j)
 |bl {n:Nat} (i j:Bool):CmV n (.bl i) (.bl j) (i==j)
 |str {n:Nat} (i j:Str):CmV n (.str i) (.str j) (i==j)
 |non {n:Nat}:CmV n .non .non ŗ
 |tup {n:Nat} {xs ys:List D} {b:Bool} (h:gf (dY n) xs ys=Z b):CmV (n+1) (.tup xs) (.tup ys) b
 |lst {n:Nat} {xs ys:List D} {b:Bool} (h:(if xs.length=ys.length then gf (dY n) xs ys else Z Ř)=Z b):CmV (n+1) (.lst xs) (.lst ys) b
theorem ua{n:Nat}{d e:D}{b:Bool}(h:dY n d e=Z b):CmV n d e b:=by
 unfold dY at h;split at h
 ·cases h;show .int _ _
 ·cases h;show .bl _ _
 ·cases h;show .str _ _
 ·cases h;show .non
 ·show .tup h
 ·show .lst h
 ·cases h
theorem vz(F:X.K=K)(I:Inv X f l H s)(sm:Same Φ H):∀(n:Nat){d e:D}{b:Bool}{v:V},dY n d e=Z b->Rp K Φ d v->Rp K Φ e v->b=ŗ:=by
 intro n
 induction n using Nat.strongRecOn with
 |ind n E=>
  intro d e b v h r u
  have all:∀{m:Nat}{xs p:Y D}{vs:Y V}{b:Bool},m<n->gf (dY m) xs p=Z b->RpL K Φ xs vs->RpL K Φ p vs->b=ŗ:=λ{m xs p vs b} C h c o=>by
   let⟨g,B,A⟩:=mv h;have J:=c.1;have L:=o.1;rw[A,Br λj G=>?_]
   ·simp;omega
   ·have x:j<vs.length:=by omega
    have y:j<xs.length:=by omega
    have z:j<p.length:=by omega
    show E m C (B j _ _ (bL y) (bL z)) (c.2 j _ _ (bL x) (bL y)) (o.2 j _ _ (bL x) (bL z))
  cases ua h with
  |int i j=>obtain rfl:=r.i;cases u;show Jj i
  |bl i j=>obtain rfl:=r.b;cases u;show Jj i
  |str i j=>obtain rfl:=r.s;cases u;show Jj i
  |non=>rfl
  |tup h=>
   cases r with| @tup a vs xs h1 c h3=>cases u with| @tup _ ws p k1 o k3=>
   have w:vs=ws:=I.tuple_inj (.of (sm _ _ h1)) (.of (sm _ _ k1));subst w;show all (Le _) h ⟨c,h3⟩ ⟨o,k3⟩
  |lst h=>
   cases r with| @lst a vs xs h1 c h3=>cases u with| @lst _ ws p k1 o k3=>
   have w:vs=ws:=by rw[h1]at k1;cases k1;rfl
   subst w;rw[Iw (c.symm.trans o)]at h;show all (Le _) h ⟨c,h3⟩ ⟨o,k3⟩
open PySem.SeqAt in
theorem sX(hK:X.K=K)(I:Inv X f l H s)(sm:Same Φ H):∀(n:Nat){d e:D}{b:Bool}{x y:V},dY n d e=Z b->Rp K Φ d x->Rp K Φ e y->
  ∀(A:Ì)(u v:Value),A.units+n<å->RelV x u->RelV y v->EqAt A s u v b/\RcAt A s u v b/\RcNeAt A s u v (!b):=by
 intro n
 induction n using Nat.strongRecOn with
 |ind n ih=>
  intro d e b x y h p r A u v hu O P
  have z:∀{m:Nat}{xs w:Y D}{vs M:Y V}{o Ng:Y Value}{g:Nat->Bool},m+1=n->(∀(j:Nat)(x y:D),xs[j]?=Z x->w[j]?=Z y->dY m x y=Z (g j))->RpL K Φ xs vs->RpL K Φ w M->Vals vs o->Vals M Ng->∀j (j1:j<o.toArray.size) (j2:j<Ng.toArray.size),EqAt A.in1 s o.toArray[j] Ng.toArray[j] (g j):=λ{m xs w vs M o Ng g} hm U F G B C j j1 j2=>by
   have l1:=Vals.length B;have l2:=Vals.length C;have m1:=F.1;have m2:=G.1;simp only[IG]at j1 j2;let⟨x,hx,p⟩:=Vals.get' B j1;let⟨y,hy,r⟩:=Vals.get' C j2
   have i1:j<xs.length:=by omega
   have i2:j<w.length:=by omega
   show (ih m () (U j _ _ (bL i1) (bL i2)) (F.2 j x _ hx (bL i1)) (G.2 j y _ hy (bL i2)) A.in1 _ _ (by change A.units+1+m<å;omega) p r).1
  have N:A.units<å:=by omega
  cases ua h with
  |int i j=>obtain rfl:=p.i;obtain rfl:=r.i;let⟨t,rfl⟩:=O;let⟨t',rfl⟩:=P;show⟨EqAt.int_int i t j t',RcAt.int_int i t j t',RcNeAt.int_int i t j t'⟩
  |bl i j=>obtain rfl:=p.b;obtain rfl:=r.b;cases O;cases P;show⟨EqAt.bool_bool i j,RcAt.bool_bool i j,RcNeAt.bool_bool i j⟩
  |str i j=>obtain rfl:=p.s;obtain rfl:=r.s;let⟨t,rfl⟩:=O;let⟨t',rfl⟩:=P;show⟨EqAt.str_str i t j t',RcAt.str_str i t j t',RcNeAt.str_str i t j t'⟩
  |non=>obtain rfl:=p.n;obtain rfl:=r.n;cases O;cases P;show⟨EqAt.same _,RcAt.none_none,RcNeAt.none_none⟩
  | @tup n xs w b q=>
   have be:=p;have b_:=r
   cases p with| @tup a vs _ h1 F h3=>cases r with| @tup c M _ k1 G k3=>
   cases O;cases P;let⟨g,U,hb⟩:=mv q;let⟨o,B,J,_⟩:=I.sqb (b:=Ř) (show SqT X.K H a vs from .of (sm _ _ h1));let⟨Ng,C,L,_⟩:=I.sqb (b:=Ř) (show SqT X.K H c M from .of (sm _ _ k1));have l1:=Vals.length B;have l2:=Vals.length C;have T:=z S U ⟨F,h3⟩ ⟨G,k3⟩ B C;have R:=RcAt.tuples (e:=g) J L N T;have a_:=RcNeAt.tuples (e:=g) J L N T
   have et:((List.range (min o.toArray.size Ng.toArray.size)).all g&&o.toArray.size==Ng.toArray.size)=b:=by rw[hb];simp only[IG];rw[←l1,←l2,F,G]
   rw[et]at R a_;refine⟨?_,R,a_⟩;by_cases Q:a=c
   ·subst Q;rw[vz hK I sm (n+1) h be b_];show EqAt.same _
   ·show EqAt.of_refs Q R
  | @lst n xs w b q=>
   have be:=p;have b_:=r
   cases p with| @lst a vs _ h1 F h3=>cases r with| @lst c M _ k1 G k3=>
   cases O;cases P;let⟨o,B,J,_⟩:=I.sqb (b:=ŗ) (show SqL X.K H a vs from SqL.of (sm _ _ h1));let⟨Ng,C,L,_⟩:=I.sqb (b:=ŗ) (show SqL X.K H c M from SqL.of (sm _ _ k1));have l1:=Vals.length B;have l2:=Vals.length C
   have E:RcAt A s (.ref a) (.ref c) b/\RcNeAt A s (.ref a) (.ref c) (!b):=by
    by_cases hl:xs.length=w.length
    ·rw[Iw hl]at q;let⟨g,U,hb⟩:=mv q;have T:=z S U ⟨F,h3⟩ ⟨G,k3⟩ B C
     have hsz:o.toArray.size=Ng.toArray.size:=by simp;omega
     have R:=RcAt.lists (e:=g) J L hsz N T;have a_:=RcNeAt.lists (e:=g) J L hsz N T
     have et:(List.range o.toArray.size).all g=b:=by
      have e1:min xs.length w.length=o.length:=by omega
      have e2:(xs.length==w.length)=ŗ:=by simp[hl]
      rw[hb,e1,e2,Bool.and_true,IG]
     rw[et]at R a_;show⟨R,a_⟩
    ·rw[Ir hl]at q;cases q
     have hsz:(o.toArray.size != Ng.toArray.size)=ŗ:=by simp;omega
     show⟨RcAt.lists_lengths J L hsz N,RcNeAt.lists_lengths J L hsz N⟩
   refine⟨?_,E.1,E.2⟩;by_cases Q:a=c
   ·subst Q;rw[vz hK I sm (n+1) h be b_];show EqAt.same _
   ·show EqAt.of_refs Q E.1
end
noncomputable def mP:da:=λx y R=>match dY 40 x y with|some b=>R (.bl b)|none=>False
noncomputable def tT:da:=λx y R=>match dY 40 x y with|some b=>R (.bl (!b))|none=>False
section
variable{K:Â}{X:Cx}
theorem RpQ.any{Φ H:Hp}{d:D}{v:V}(h:RpQ K Φ H d v)(s:Same Φ H):Rp K H d v:=by
 rcases h with h|⟨a,vs,ds,e,c,f,g⟩
 ·show h.same s
 ·subst e c;show (g.same s).lst f
theorem cp(r:X.A.units+64<å):OpD K X (É .Eq) mP:=⟨λe a s w H x y u v Q I j l c=>by
 let⟨Φ,o,p,R,sm,f,g,h,k⟩:=c;unfold mP at h;split at h
 ·next b hb=>show (sX e I (Same.refl H) 40 hb (f.any sm) (g.any sm) X.A u v () j l).2.1 X.prog X.w _ _ ⟨.bl b,H,I,S,k _ Φ H _ h (.refl sm) (.bl b)⟩
 ·show h.elim⟩
theorem e5(r:X.A.units+64<å):OpD K X (É .NotEq) tT:=⟨λe a s w H x y u v Q I j l c=>by
 let⟨Φ,o,p,R,sm,f,g,h,k⟩:=c;unfold tT at h;split at h
 ·next b hb=>show (sX e I (Same.refl H) 40 hb (f.any sm) (g.any sm) X.A u v () j l).2.2 X.prog X.w _ _ ⟨.bl (!b),H,I,S,k _ Φ H _ h (.refl sm) (.bl _)⟩
 ·show h.elim⟩
noncomputable def e6:D->Bool
 |.non=>ŗ
 |_=>Ř
noncomputable def vb(c:Bool):da:=λx y R=>match y with|.non=>R (.bl (e6 x != c))|.bl b=>(match x with|.bl a=>R (.bl ((a==b) != c))|_=>False)|_=>False
theorem ur{Φ H:Hp}{d:D}{v:V}(h:RpQ K Φ H d v):decide (v=V.non)=e6 d:=by
 cases d with
 |int i=>rw[h.int];rfl
 |bl i=>rw[h.bl];rfl
 |str i=>rw[h.str];rfl
 |non=>rw[h.non];rfl
 |tup ds=>rcases h with h|⟨a, vs, ds, e, _⟩
          · cases h; rfl
          · cases e
 |lst ds=>rcases h with h|⟨a, vs, ds, e, c, _⟩
          · cases h; rfl
          · rw [c]; rfl
 |fzl ds=>rcases h with h|⟨a, vs, ds, e, _⟩
          · cases h; rfl
          · cases e
 |obj C fs=>rcases h with h|⟨a, vs, ds, e, _⟩
            · cases h; rfl
            · cases e
 |map f=>rcases h with h|⟨a, vs, ds, e, _⟩
         · cases h; rfl
         · cases e
 |exc _ _=>rcases h with h|⟨a, vs, ds, e, _⟩
           · cases h<;>rfl
           · cases e
theorem gy:OpD K X (É .Is) (vb Ř):=⟨λw c s l H x y u v Q I g j o=>by
 let⟨Φ,p,r,R,sm,e,f,h,k⟩:=o
 cases r with
 |non=>
  cases f.non;refine Av c s l H _ _ u v Q I g j ⟨S,?_⟩;rw[ur e];have h':R (.bl (e6 p != Ř)):=h;rw[Ĺ]at h';show k _ Φ H _ h' (.refl sm) (.bl _)
 |bl b=>
  cases f.bl;let⟨a,rfl,h⟩:=i6 h;cases e.bl;have h':R (.bl ((a==b) != Ř)):=h;rw[Ĺ]at h';show xk c s l H _ _ u v Q I g j ⟨a,b,S,S,k _ Φ H _ h' (.refl sm) (.bl _)⟩
 |_=>show h.elim⟩
theorem ef:OpD K X (É .IsNot) (vb ŗ):=⟨λw c s l H x y u v Q I g j o=>by
 let⟨Φ,p,r,R,sm,e,f,h,k⟩:=o
 cases r with
 |non=>
  cases f.non;refine zg c s l H _ _ u v Q I g j ⟨S,?_⟩;rw[ur e];have h':R (.bl (e6 p != ŗ)):=h;rw[ľ]at h';show k _ Φ H _ h' (.refl sm) (.bl _)
 |bl b=>
  cases f.bl;let⟨a,rfl,h⟩:=i6 h;cases e.bl;have h':R (.bl ((a==b) != ŗ)):=h;rw[ľ]at h';show Cs c s l H _ _ u v Q I g j ⟨a,b,S,S,k _ Φ H _ h' (.refl sm) (.bl _)⟩
 |_=>show h.elim⟩
end
end L2
namespace HT
open PySem PySem.Spec PyProof.Rows
theorem getItem_tuple_all{prog:Å}{w:È}{A:Ì}{E:Value->À->Prop}{s:À}{t sl:Addr}{a:Array Value}{l o:Value}{lo f:Ŗ Int}{Q:Value->À->Prop}(e:ġ s.heap t a)(g:s.heap.IsSliceOf sl l o .none)(pl:ï l lo)(x:ï o f)
  (j:sIx a.size 0 lo=0/\sIx a.size a.size f=a.size) (h:Q (.ref t) s):wpAny (Ä prog w) A (ä (.ref t) (.ref sl)) Q E s:=by
 let⟨os,p,r,y⟩:=id g;have u:s.TypeIs (.ref sl) "slice":=⟨os,p,r⟩;unfold ä
 try with_reducible refine Kd ?_
 first|refine Iq (IK ?_)|skip
 refine Iq (ł e.typeIs 'b' ?_)
 refine Iq (JX (name:=Str.ofString "__getitem__") e.typeIs JP
  (Kw JP e.typeIs ĸ ?_ (ļ _ _)))
 change wpAny _ _ (Builtin.Tuple.tupleItemsOf (.ref t) >>= _) _ _ s;refine Iq (tupleItemsOf_ e ?_);refine Iq (ĥ u ?_);rw[Iw 'b'];refine Iq (uq g pl x ?_)
 have v:(((sIx a.size 0 lo:Nat):Int)==0&&(1:Int)==1&&(sIx a.size a.size f-sIx a.size 0 lo)==a.size)=ŗ:=by rw[j.1,j.2];simp
 change wpAny _ _ (if (((sIx a.size 0 lo:Nat):Int)==0&&(1:Int)==1&&(sIx a.size a.size f-sIx a.size 0 lo)==a.size)=ŗ then _ else _) _ _ s;rw[Iw v];refine Iq (show wpAny _ _ (typeOf (.ref t) >>= λc=>pure (c==.type "tuple")) _ _ s from Iq (ĥ e.typeIs (IK ?_)));rw[Iw 'b'];show Iq (č (IK ⟨_,S,IK h⟩))
end HT
namespace L2
open PySem PySem.Spec PyProof.Rows
section
variable{K:Â}{X:Cx}{e a b c:Ã}{es:Y Ã}{A M:Ö}{t G tb:TD}{C:aX}
noncomputable def mI:da:=λx y R=>match y with
 |.int i=>(match x with
  |.lst ds=>∃d,cF ds i=Z d/\R d
  |.tup ds=>∃d,cF ds i=Z d/\R d
  |.fzl ds=>∃d,cF ds i=Z d/\R d
  |.str z=>z.length<=sizeLine/\∃c,cF z.cps.toList i=Z c/\R (.str ⟨#[c]⟩)
  |_=>False)
 |_=>False
theorem ot{Φ:Hp}{ds:Y D}{vs:Y V}{d:D}{i:Int}(h:RpL K Φ ds vs)(e:cF ds i=Z d):∃v,cF vs i=Z v/\Rp K Φ d v:=by
 unfold cF at e ⊢;rw[h.1]
 cases f:fv ds.length i with
 |none=>rw[f]at e;cases e
 |some j=>
  rw[f,ģ]at e;rw[ģ];show h.at e
theorem v5(P:X.K=K):js X (lR2 K mI):=by
 intro g f j s O H x y v u Q I L N ⟨Φ,a_,be,R,sm,J,U,h,k⟩ F;let⟨i,rfl,h⟩:=iJ h;cases U.int
 cases a_ with
 |lst ds=>
  let⟨d,l,o⟩:=h;let⟨a,vs,rfl,B,E⟩:=J.lst sm;let⟨w,r,p⟩:=ot E l;show qR g f j s O H _ _ v u Q I L N ⟨a,vs,i,w,S,S,.of B,r,k _ Φ H _ o (.refl sm) p⟩ F
 |tup ds=>
  let⟨d,l,o⟩:=h;let⟨a,vs,rfl,B,_,E⟩:=J.tup sm;let⟨w,r,p⟩:=ot E l;show DZ g f j s O H _ _ v u Q I L N ⟨a,vs,i,w,S,S,P▸B,r,k _ Φ H _ o (.refl sm) p⟩ F
 |fzl ds=>
  let⟨d,l,o⟩:=h;let⟨a,vs,rfl,B,E⟩:=J.fzl sm;let⟨w,r,p⟩:=ot E l;show qR g f j s O H _ _ v u Q I L N ⟨a,vs,i,w,S,S,P▸B,r,k _ Φ H _ o (.refl sm) p⟩ F
 |str z=>
  let⟨T,c,l,o⟩:=h;cases J.str;show zc g f j s O H _ _ v u Q I L N ⟨z,i,c,S,S,T,l,k _ Φ H _ o (.refl sm) (.str _)⟩ F
 |_=>show h.elim
theorem bv(g:PQ K X a G)(h:PQ K X b tb)(j:nj b):PD K X (.Subscript a b A) (je mI G tb):=
 ⟨λf=>(qL (v5 f) (g.pe f) (h.pe f) j).imp λ_ _ _=>mF⟩
noncomputable abbrev jh:=bz->(Ŗ Int->Prop)->Prop
theorem au{i:Int}{j:Ň}{p:Ö}(f:PQ K X a G):PD K X (.Subscript a (.Constant (.int i) j p) A) (je mI G (dC (.int i))):=bv f (PD.q ah) λ_ _=>rfl
inductive lO(K:Â)(t:jh)(σ:St)(H:Hp)(Q:Option Int->Hp->Prop):Prop|mk (H0:Hp) (Φ:Hp) (ρ:bz) (R:Option Int->Prop) (_:EnvD K H0 Φ H σ ρ) (_:t ρ R) (_:∀o Φ' H',R o->Gr Φ H Φ' H'->Q o H')
structure POD(K:Â)(X:Cx)(e:Option Ã)(t:jh):Prop where po:X.K=K->PO X e (lO K t)
noncomputable def Cd:jh:=λ_ R=>R ŕ
noncomputable def Bz(t:TD):jh:=λρ R=>t ρ λd=>match d with|.int i=>R (Z i)|_=>False
theorem PO.imp{o:Ŗ Ã}{t t':TO}(h:PO X o t)(k:∀g H Q,t' g H Q->t g H Q):PO X o t':=λf s g H Q I j=>h f s g H Q I (k g H Q j)
theorem kB:POD K X ŕ Cd:=⟨λ_=>po_none.imp λh H Q f=>by let⟨g,Φ,ρ,R,E,t,k⟩:=f;show k ŕ Φ H t (.refl E.fz)⟩
theorem jV(h:PQ K X e t):POD K X (Z e) (Bz t):=⟨λp=>(zD (h.pe p)).imp λw H Q o=>by let⟨j,Φ,ρ,R,E,t,k⟩:=o;show⟨j,Φ,ρ,_,E,t,λd f l v r g u=>by
 let⟨i,rfl,r⟩:=iJ r
 show⟨i,u.int,k _ f l r g⟩⟩⟩
variable{lo B:Ŗ Ã}{to J:jh}
noncomputable def tG(K:Â):V->Ŗ Int->Ŗ Int->Hp->VK->Prop:=λx lo B H Q=>∃a xs,x=.ref a/\SqT K H a xs/\(HT.sIx xs.length 0 lo=0/\HT.sIx xs.length xs.length B=xs.length)/\Q (.ref a) H
theorem sl_all:SlR X (tG X.K):=by
 intro j s L H x v E F lo B sl Q I y o pl w h;let⟨a,xs,rfl,u,p,q⟩:=h;cases y;let⟨l,r,g,z⟩:=I.tuple u
 have f:l.toArray.size=xs.length:=by rw[IG];show r.length.symm
 refine⟨"tuple",_,JP.lookup,g.typeIs,?_⟩;show HT.getItem_tuple_all g o pl w (by rw[f];show p) ⟨.ref a,H,I,S,q⟩
theorem AR{g:Type}{xs:Y g}{l h:Ŗ Int}(f:HT.sIx xs.length 0 l=0/\HT.sIx xs.length xs.length h=xs.length):cN xs l h=xs:=by unfold cN;rw[f.1,f.2,L5,Nat.sub_zero,JR]
noncomputable def Ef(x:D)(l h:Ŗ Int)(R:D->Prop):Prop:=match x with
 |.lst ds=>NF (cN ds l h) λf=>R (.lst f)
 |.fzl ds=>NF (cN ds l h) λf=>R (.lst f)
 |.tup ds=>NF (cN ds l h) λf=>R (.tup f)
 |.str z=>z.length<=sizeLine/\NF (kF z l h) λy=>R (.str y)
 |_=>False
noncomputable def Bv(t:TD)(to J:jh):TD:=λρ R=>t ρ λx=>to ρ λl=>J ρ λh=>Ef x l h R
theorem kT(U:PQ K X a G)(b_:POD K X lo to)(be:POD K X B J):PD K X (.Subscript a (.Slice lo B ŕ M) A) (Bv G to J):=
 ⟨λv=>(Cw (v▸sl_list.or (sl_tup.or (sl_all.or Cb)):SlR X (λx lo B H Q=>ue K x lo B H Q\/tz K x lo B H Q\/tG K x lo B H Q\/rX x lo B H Q)) (U.pe v) (b_.po v) (be.po v)).imp λσ H Q a_=>by let⟨w,Φ,ρ,R,E,t,k⟩:=a_;exact
  ⟨w,Φ,ρ,_,E,t,λT L H1 x t1 y rx=>⟨w,L,ρ,_,E.gr y,t1,λl N H2 t2 F=>⟨w,N,ρ,_,(E.gr y).gr F,t2,λh Φ3 H3 o O=>by
   have g:=(y.trans F).trans O;have u:=rx.gr (F.trans O)
   cases T with
   |lst ds=>
    let⟨a,vs,rfl,r,j⟩:=u.lst g.s;show .inl ⟨a,vs,S,.of r,λp f=>k _ _ _ _ o.get (g.trans (.new g.s f _)) (((j.cut l h).same (du (g.s.free f) _)).lst bh)⟩
   |fzl ds=>
    let⟨a,vs,rfl,r,j⟩:=u.fzl g.s;show .inl ⟨a,vs,S,r,λp f=>k _ _ _ _ o.get (g.trans (.new g.s f _)) (((j.cut l h).same (du (g.s.free f) _)).lst bh)⟩
   |tup ds=>
    let⟨a,vs,rfl,r,q0,j⟩:=u.tup g.s;by_cases I:HT.sIx vs.length 0 l=0/\HT.sIx vs.length vs.length h=vs.length
    ·refine .inr (.inr (.inl ⟨a,vs,S,r,I,?_⟩));have e:cN ds l h=ds:=AR (by rw[←j.1];show I);have P:=o.get;rw[e]at P;show k _ _ _ _ P g (j.tup q0)
    ·show .inr (.inl ⟨a,vs,S,r,I,λp f=>k _ _ _ _ o.get (g.trans (.new g.s f _)) (((j.cut l h).same (du (g.s.free f) _)).tup bh)⟩)
   |str z=>
    cases u.str;show .inr (.inr (.inr ⟨z,S,o.1,k _ _ _ _ o.2.get g (.str _)⟩))
   |_=>show o.elim⟩⟩⟩⟩
noncomputable abbrev cB:=Y D->(D->Prop)->Prop
inductive lSp(K:Â)(sp:cB)(vs:List V)(H:Hp)(Q:VK)(E_:XK):Prop|mk (Φ:Hp) (ds:List D) (R:D->Prop) (_:Same Φ H) (_:TabF K Φ) (_:RpL K Φ ds vs) (_:sp ds R) (_:∀d Φ' H' v,R d->Gr Φ H Φ' H'->Rp K Φ' d v->Q v H')
noncomputable def nG(sp:cB)(t:aX):TD:=λρ R=>t ρ λds=>sp ds R
variable{CX:eu}{k:Nat}{f:Addr}{L:Í}{ps:Y Str}{sp:cB}{x:Str}{p:Ö}{E:XK}
theorem Hf(F:FnOk X.prog X.w X.K X.mg X.base CX k f L ps (lSp K sp))(U:Room k X.A)(P:Gl X x)(T:X.mg x=Z (.ref f))(a_:ã X.K (.ref f)=ŗ)(N:Binds X.K L ps [])(be:iZ CX X E)
  (I:PAD K X (e::es) C) (O:starEach (e::es) X.env=(Ř,eval e X.env)::starEach es X.env) (w:(backTo A (starEach es X.env)).any (·.1)=Ř) (y:ab x:=by decide) :
  PD K X (.Call (.Name x p) (e::es) [] A) (nG sp C):=
 ⟨λz=>(qv F U P T a_ N .nil be (I.pa z) y O w).imp λσ H Q u=>by let⟨o,Φ,ρ,R,E,t,k⟩:=u;show⟨o,Φ,ρ,_,E,t,λds j H1 vs r g rl _=>⟨j,ds,R,g.s,E.tb.same g.f,by rw[Ji];show rl,r,λd h l v b_ g' rv=>k d h l v b_ (g.trans g') rv⟩⟩⟩
noncomputable def nS(K:Â)(Φ H:Hp)(ds:Y D)(vs:Y V):Prop:=vs.length=ds.length/\∀(i:Nat)(v:V)(d:D),vs[i]?=Z v->ds[i]?=Z d->RpQ K Φ H d v
inductive lAQ(K:Â)(t:aX)(σ:St)(H:Hp)(Q:List V->Hp->Prop):Prop|mk (H0:Hp) (Φ:Hp) (ρ:bz) (R:List D->Prop) (_:EnvD K H0 Φ H σ ρ) (_:t ρ R) (_:∀ds Φ' H' vs,R ds->Gr Φ H Φ' H'->nS K Φ' H' ds vs->Q vs H')
structure PAQ(K:Â)(X:Cx)(es:List Ã)(t:aX):Prop where pa:X.K=K->PA X es (lAQ K t)
theorem aM:PAQ K X [] vD:=⟨λ_=>pa_nil.imp λl H Q g=>by let⟨j,Φ,ρ,R,E,t,k⟩:=g;show k [] Φ H [] t (.refl E.fz) ⟨S,λi v d h _=>by simp at h⟩⟩
theorem aH(I:PQ K X e t)(N:PAQ K X es C)(O:starEach (e::es) X.env=(Ř,eval e X.env)::starEach es X.env):PAQ K X (e::es) (tD t C):=
 ⟨λw=>(eY (I.pe w) (N.pa w) O).imp λU H Q F=>by let⟨l,Φ,ρ,R,E,t,k⟩:=F;show⟨l,Φ,ρ,_,E,t,λd h T v r g a_=>⟨l,h,ρ,_,E.gr g,r,λds j z vs P o rl=>
  k _ j z _ P (g.trans o) ⟨by simp[rl.1],λi u d y hd=>by
   cases i with
   |zero=>cases y;cases hd;show a_.gr o
   |succ i=>show rl.2 i u d y hd⟩⟩⟩⟩
inductive lC(K:Â)(r:cB)(vs:List V)(H:Hp)(Q:VK):Prop|mk (Φ:Hp) (ds:List D) (R:D->Prop) (_:Same Φ H) (_:nS K Φ H ds vs) (_:r ds R) (_:∀d Φ' H' v,R d->Gr Φ H Φ' H'->Rp K Φ' d v->Q v H')
structure CallD(K:Â)(X:Cx)(f:Value)(r:cB):Prop where c:X.K=K->eg X f (lC K r)
theorem bu{id:String}{r:cB}(I:CallD K X (.builtin id) r)(O:Gl X x)(P:X.mg x=ŕ)(T:Ú x=Z (.builtin id))(F:PAQ K X (e::es) C)
  (N:starEach (e::es) X.env=(Ř,eval e X.env)::starEach es X.env) (y:(backTo A (starEach es X.env)).any (·.1)=Ř) (a_:x≠"__name__":=by decide) (z:ab x:=by decide):PD K X (.Call (.Name x p) (e::es) [] A) (nG r C):=
 ⟨λl=>(v7 (I.c l) O P T (F.pa l) a_ z N y).imp λσ H Q w=>by let⟨u,Φ,ρ,R,E,t,k⟩:=w;show⟨u,Φ,ρ,_,E,t,λds j b_ vs r g rl=>⟨j,ds,R,g.s,rl,r,λd h o v U g' be=>k d h o v U (g.trans g') be⟩⟩⟩
theorem bT{T:String}{r:cB}(I:CallD K X (.type T) r)(O:Gl X x)(P:X.mg x=ŕ)(U:Ú x=Z (.type T))(F:PAQ K X (e::es) C)
  (N:starEach (e::es) X.env=(Ř,eval e X.env)::starEach es X.env) (y:(backTo A (starEach es X.env)).any (·.1)=Ř) (a_:x≠"__name__":=by decide) (z:ab x:=by decide):PD K X (.Call (.Name x p) (e::es) [] A) (nG r C):=
 ⟨λl=>(le (I.c l) O P U (F.pa l) a_ z N y).imp λσ H Q w=>by let⟨u,Φ,ρ,R,E,t,k⟩:=w;show⟨u,Φ,ρ,_,E,t,λds j H1 vs r g rl=>⟨j,ds,R,g.s,rl,r,λd h o v be g' b_=>k d h o v be (g.trans g') b_⟩⟩⟩
theorem fY{Φ H:Hp}{d:D}{vs:Y V}(h:nS K Φ H [d] vs):∃v,vs=[v]/\RpQ K Φ H d v:=by
 let⟨j,g⟩:=h
 match vs,j,g with
 | [v],_,g=>show⟨v,S,g 0 v d S S⟩
theorem ux{Φ H:Hp}{d e:D}{vs:Y V}(h:nS K Φ H [d,e] vs):∃v w,vs=[v,w]/\RpQ K Φ H d v/\RpQ K Φ H e w:=by
 let⟨j,g⟩:=h
 match vs,j,g with
 | [v,w],_,g=>show⟨v,w,S,g 0 v d S S,g 1 w e S S⟩
noncomputable def D3:cB:=λds R=>match ds with| [.lst xs]=>R (.int xs.length)| [.tup xs]=>R (.int xs.length)| [.fzl xs]=>R (.int xs.length)| [.str z]=>z.length<=sizeLine/\R (.int z.length)|_=>False
theorem bU:CallD K X (.builtin "len") D3:=⟨λw g s u H xs us Q I rr y=>by
 let⟨Φ,ds,R,sm,o,h,k⟩:=y
 match ds,h with
 | [.lst xs],h=>
  let⟨v,rfl,r⟩:=fY o;let⟨a,vs,rfl,j,l⟩:=r.lst sm;show pF g s u H _ us Q I rr ⟨a,vs,S,.inl (.of j),by rw[l.1];show k _ Φ H _ h (.refl sm) (.int _)⟩
 | [.tup xs],h=>
  let⟨v,rfl,r⟩:=fY o;let⟨a,vs,rfl,j,_,l⟩:=r.tup sm;show pF g s u H _ us Q I rr ⟨a,vs,S,.inr (w▸j),by rw[l.1];show k _ Φ H _ h (.refl sm) (.int _)⟩
 | [.fzl xs],h=>
  let⟨v,rfl,r⟩:=fY o;let⟨a,vs,rfl,j,l⟩:=r.fzl sm;show pF g s u H _ us Q I rr ⟨a,vs,S,.inl (w▸j),by rw[l.1];show k _ Φ H _ h (.refl sm) (.int _)⟩
 | [.str z],h=>
  let⟨v,rfl,r⟩:=fY o;cases r.str
  show Er g s u H _ us Q I rr ⟨z,S,h.1,k _ Φ H _ h.2 (.refl sm) (.int _)⟩⟩
noncomputable def DQ:cB:=λds R=>match ds with| [.int i]=>R (.int (if i<0 then -i else i))|_=>False
theorem kP:CallD K X (.builtin "abs") DQ:=⟨λu g s o H xs us Q I rr j=>by
 let⟨Φ,ds,R,sm,l,h,k⟩:=j
 match ds,h with
 | [.int i],h=>
  let⟨v,rfl,r⟩:=fY l;cases r.int
  show xG g s o H _ us Q I rr ⟨i,S,k _ Φ H _ h (.refl sm) (.int _)⟩⟩
noncomputable def HA:cB:=λds R=>match ds with| [.int i,.int j]=>R (.int (if j>i then j else i))|_=>False
noncomputable def FO:cB:=λds R=>match ds with| [.int i,.int j]=>R (.int (if j<i then j else i))|_=>False
theorem pM(o:X.calm=ŗ):CallD K X (.builtin "max") HA:=⟨λF g s z H xs us Q I rr l=>by
 let⟨Φ,ds,R,sm,r,h,k⟩:=l
 match ds,h with
 | [.int i,.int j],h=>
  let⟨v,w,rfl,u,y⟩:=ux r;cases u.int;cases y.int
  show Hd o g s z H _ us Q I rr ⟨i,j,S,k _ Φ H _ h (.refl sm) (.int _)⟩⟩
theorem CY(o:X.calm=ŗ):CallD K X (.builtin "min") FO:=⟨λF g s z H xs us Q I rr l=>by
 let⟨Φ,ds,R,sm,r,h,k⟩:=l
 match ds,h with
 | [.int i,.int j],h=>
  let⟨v,w,rfl,u,y⟩:=ux r;cases u.int;cases y.int
  show Hv o g s z H _ us Q I rr ⟨i,j,S,k _ Φ H _ h (.refl sm) (.int _)⟩⟩
theorem Fp{Φ:Hp}{ns:Y Int}{vs:Y V}(h:RpL K Φ (ns.map D.int) vs):vs=ns.map V.int:=by
 refine JU λi=>?_;rw[IE]
 cases e:ns[i]? with
 |none=>
  have:=Ll.mp e;rw[Jp (by rw[h.1,Il];show this)];rfl
 |some n=>
  let⟨v,g,r⟩:=h.at (i:=i) (d:=.int n) (by rw[IE,e];rfl);obtain rfl:=r.i;rw[g];rfl
theorem wc{Φ:Hp}{bs:Y Bool}{vs:Y V}(h:RpL K Φ (bs.map D.bl) vs):vs=bs.map V.bl:=by
 refine JU λi=>?_;rw[IE]
 cases e:bs[i]? with
 |none=>
  have:=Ll.mp e;rw[Jp (by rw[h.1,Il];show this)];rfl
 |some n=>
  let⟨v,g,r⟩:=h.at (i:=i) (d:=.bl n) (by rw[IE,e];rfl);obtain rfl:=r.b;rw[g];rfl
theorem RpQ.sqb{Φ H:Hp}{d:D}{v:V}{ds:Y D}(s:Same Φ H)(h:RpQ K Φ H d v)(e:fh d=Z ds):∃(q:Bool)(a:Addr)(vs:Y V),v=.ref a/\SqB K q H a vs/\RpL K Φ ds vs:=by
 let⟨a,vs,j,g,l⟩:=h.seq s e;rcases g with g|g
 ·show⟨ŗ,a,vs,j,g,l⟩
 ·show⟨Ř,a,vs,j,g,l⟩
noncomputable def DU:cB:=λds R=>match ds with| [d]=>∃ns:Y Int,fh d=Z (ns.map D.int)/\R (.int ns.sum)|_=>False
theorem Ho(u:X.calm=ŗ):CallD K X (.builtin "sum") DU:=⟨λo g s z H xs us Q I rr l=>by
 let⟨Φ,ds,R,sm,w,h,k⟩:=l
 match ds,h with
 | [d],⟨ns,e,h⟩=>
  let⟨v,rfl,r⟩:=fY w;let⟨q,a,vs,rfl,j,y⟩:=r.sqb sm e;rw[Fp y]at j
  show zH q u g s z H _ us Q I rr ⟨a,ns,S,o▸j,k _ Φ H _ h (.refl sm) (.int _)⟩⟩
noncomputable def vi(f:Y Bool->Bool):cB:=λds R=>match ds with| [d]=>∃bs:Y Bool,fh d=Z (bs.map D.bl)/\R (.bl (f bs))|_=>False
theorem vx(u:X.calm=ŗ):CallD K X (.builtin "all") (vi λbs=>bs.all id):=⟨λo g s z H xs us Q I rr l=>by
 let⟨Φ,ds,R,sm,w,h,k⟩:=l
 match ds,h with
 | [d],⟨ns,e,h⟩=>
  let⟨v,rfl,r⟩:=fY w;let⟨q,a,vs,rfl,j,y⟩:=r.sqb sm e;rw[wc y]at j
  show BO q u g s z H _ us Q I rr ⟨a,ns,S,o▸j,k _ Φ H _ h (.refl sm) (.bl _)⟩⟩
theorem oS(u:X.calm=ŗ):CallD K X (.builtin "any") (vi λbs=>bs.any id):=⟨λo g s z H xs us Q I rr l=>by
 let⟨Φ,ds,R,sm,w,h,k⟩:=l
 match ds,h with
 | [d],⟨ns,e,h⟩=>
  let⟨v,rfl,r⟩:=fY w;let⟨q,a,vs,rfl,j,y⟩:=r.sqb sm e;rw[wc y]at j
  show EH q u g s z H _ us Q I rr ⟨a,ns,S,o▸j,k _ Φ H _ h (.refl sm) (.bl _)⟩⟩
noncomputable def Ez:cB:=λds R=>match ds with| [.lst xs]=>R (.tup xs)| [.tup xs]=>R (.tup xs)| [.fzl xs]=>R (.tup xs)|_=>False
theorem cu:CallD K X (.type "tuple") Ez:=⟨λy g s w H xs us Q I rr z=>by
 let⟨Φ,ds,R,sm,u,h,k⟩:=z
 match ds,h with
 | [.lst xs],h=>
  let⟨v,rfl,r⟩:=fY u;let⟨a,vs,rfl,l,o⟩:=r.lst sm;show oR g s w H _ us Q I rr ⟨a,vs,S,.inl ⟨.of l,λp j=>k _ _ _ _ h (.new sm j _) ((o.same (du (sm.free j) _)).tup bh)⟩⟩
 | [.fzl xs],h=>
  let⟨v,rfl,r⟩:=fY u;let⟨a,vs,rfl,l,o⟩:=r.fzl sm;show oR g s w H _ us Q I rr ⟨a,vs,S,.inl ⟨y▸l,λp j=>k _ _ _ _ h (.new sm j _) ((o.same (du (sm.free j) _)).tup bh)⟩⟩
 | [.tup xs],h=>
  let⟨v,rfl,r⟩:=fY u;let⟨a,vs,rfl,l,F,o⟩:=r.tup sm
  show oR g s w H _ us Q I rr ⟨a,vs,S,.inr ⟨y▸l,k _ Φ H _ h (.refl sm) (o.tup F)⟩⟩⟩
noncomputable def Hh(t:TD):aX:=λρ R=>t ρ λd=>∃ds,fh d=Z ds/\R ds
theorem jB(F:Gl X "list")(I:X.mg "list"=ŕ)(z:PQ K X e t)(o:starEach [e] X.env=(Ř,eval e X.env)::starEach [] X.env):PF K X (.Call (.Name "list" p) [e] [] A) (Hh t):=
 ⟨λj=>(le vZ F I Ġ (eY (z.pe j) pa_nil o) 'b' 'b' o ae).imp λU H Q w=>by let⟨u,Φ,ρ,R,E,t,k⟩:=w;show⟨u,Φ,ρ,_,E,t,λd a_ T v r g P=>by
  let⟨ds,y,r⟩:=r;let⟨a,vs,rfl,N,O⟩:=P.seq g.s y
  show⟨a,vs,S,j▸N,λl h=>k _ _ _ l _ r (g.trans (.fresh g.s h _)) (g.h.free h) (g.s.free h) bh O⟩⟩⟩
noncomputable def DP:cB:=λds R=>match ds with| [.int i]=>R (.int i)| [.bl b]=>R (.int (if b then 1 else 0))|_=>False
theorem kQ:CallD K X (.type "int") DP:=⟨λu g s l H xs us Q I rr o=>by
 let⟨Φ,ds,R,sm,j,h,k⟩:=o
 match ds,h with
 | [.int i],h=>
  let⟨v,rfl,r⟩:=fY j;cases r.int;show uJ g s l H _ us Q I rr (.inl ⟨i,S,k _ Φ H _ h (.refl sm) (.int _)⟩)
 | [.bl b],h=>
  let⟨v,rfl,r⟩:=fY j;cases r.bl
  show uJ g s l H _ us Q I rr (.inr ⟨b,S,k _ Φ H _ h (.refl sm) (.int _)⟩)⟩
noncomputable def kO(d:D)(T:String):Ŗ Bool:=match d with
 |.int _=>if T="int" then Z ŗ else if T="bool" then Z Ř else if T="tuple" then Z Ř else if T="str" then Z Ř else ŕ
 |.bl _=>if T="int" then Z ŗ else if T="bool" then Z ŗ else if T="tuple" then Z Ř else ŕ
 |.str _=>if T="str" then Z ŗ else if T="tuple" then Z Ř else ŕ
 |.tup _=>if T="tuple" then Z ŗ else if T="int" then Z Ř else ŕ
 |.lst _=>if T="tuple" then Z Ř else if T="list" then Z ŗ else ŕ
 |_=>ŕ
end
structure SteadyD(K:Â)(J:It)(Φ:Hp)(ds:List D):Prop where
 go:∀i H,Same Φ H->i<ds.length->J.go i H
 yl:∀i Φ2 H x H2 d,Same Φ Φ2->Same Φ2 H->ds[i]?=Z d->J.yld i H x H2->∃Φ3,Gr Φ2 H Φ3 H2/\Rp K Φ3 d x
 stop:∀H,Same Φ H->J.stop ds.length H
section
variable{K:Â}{Φ:Hp}{ds es:Y D}{vs c:Y V}{a:Addr}
theorem xZ(h:SqL K Φ a vs)(r:RpL K Φ ds vs):SteadyD K (ra K a) Φ ds:=
 ⟨λi H s j=>⟨vs,vs[i]'(by rw[r.1];show j),s.seq h,bL _⟩,λi f H x l d g s hd y=>by
  let⟨e,y⟩:=y;subst e
  show⟨f,.refl s,(r.2 i x d (y vs ((g.trans s).seq h)) hd).same g⟩,λH s=>⟨vs,s.seq h,by rw[r.1];show Iu _⟩⟩
theorem Cm(h:SqT K Φ a vs)(r:RpL K Φ ds vs):SteadyD K (pB K a) Φ ds:=
 ⟨λi H s j=>⟨vs,vs[i]'(by rw[r.1];show j),s.sqt h,bL _⟩,λi f H x l d g s hd y=>by
  let⟨e,y⟩:=y;subst e
  show⟨f,.refl s,(r.2 i x d (y vs ((g.trans s).sqt h)) hd).same g⟩,λH s=>⟨vs,s.sqt h,by rw[r.1];show Iu _⟩⟩
noncomputable def cY(lo:Int)(n:Nat):Y D:=(List.range n).map λi=>D.int (lo+(i:Nat))
theorem gA(lo:Int)(n:Nat):(cY lo n).length=n:=by unfold cY;simp
theorem ia{lo:Int}{n i:Nat}{d:D}(h:(cY lo n)[i]?=Z d):i<n/\d=.int (lo+(i:Nat)):=by
 have e:i<n:=by have:=az h;rwa [gA]at this
 unfold cY at h;rw[IE,Jr e]at h;cases h;show⟨e,S⟩
theorem sS{lo:Int}{n:Nat}:SteadyD K (na lo n) Φ (cY lo n):=
 ⟨λi H s g=>by rw[gA]at g;show g,λi f H x h d j s hd y=>by
  let⟨e,y⟩:=y;subst e y;rw[(ia hd).2]
  show⟨f,.refl s,.int _⟩,λH s=>by rw[gA];show Iu n⟩
noncomputable def gQ(ds:Y D):Y D:=ds.zipIdx.map λp=>.tup [.int (p.2:Nat),p.1]
theorem eG(ds:Y D):(gQ ds).length=ds.length:=by unfold gQ;simp
theorem fZ{i:Nat}{d:D}(h:(gQ ds)[i]?=Z d):∃e,ds[i]?=Z e/\d=.tup [.int (i:Nat),e]:=by
 unfold gQ at h;rw[IE,List.getElem?_zipIdx]at h
 cases e:ds[i]? with
 |none=>rw[e]at h;cases h
 |some x=>rw[e]at h;cases h;show⟨x,S,by simp⟩
theorem Rp.pair{H:Hp}{t:Addr}{d e:D}{x y:V}(h:H t=Z (.tup [x,y]))(f:Rp K H d x)(g:Rp K H e y):Rp K H (.tup [d,e]) (.ref t):=(RpL.cons f (.one g)).tup h
theorem wM{b:Bool}(h:SqB K b Φ a vs)(r:RpL K Φ ds vs):SteadyD K (mC K b a) Φ (gQ ds):=
 ⟨λi H s f=>by rw[eG]at f;show⟨vs,vs[i]'(by rw[r.1];show f),SqB.same s h,bL _⟩,λi u H x w d j s hd y=>by
  let⟨t,v,g,e,l,y⟩:=y;subst e l;let⟨e,o,rfl⟩:=fZ hd;have p:=(r.2 i v e (y vs (SqB.same (j.trans s) h)) o).same (j.trans (du (s.free g) (.tup [.int i,v])))
  show⟨_,.new s g _,.pair bh (.int _) p⟩,λH s=>by rw[eG];show⟨vs,SqB.same s h,by rw[r.1];show Iu _⟩⟩
noncomputable def gk(ds es:Y D):Y D:=List.zipWith (λx y=>.tup [x,y]) ds es
theorem tV(ds es:Y D):(gk ds es).length=min ds.length es.length:=by unfold gk;simp
theorem FY{i:Nat}{d:D}(h:(gk ds es)[i]?=Z d):∃x y,ds[i]?=Z x/\es[i]?=Z y/\d=.tup [x,y]:=by
 unfold gk at h;rw[KH]at h
 cases e:ds[i]? with
 |none=>rw[e]at h;cases h
 |some x=>
  cases f:es[i]? with
  |none=>rw[e,f]at h;cases h
  |some y=>rw[e,f]at h;cases h;show⟨x,y,S,S,S⟩
theorem GQ{o r:Bool}{a1 a2:Addr}(f:SqB K o Φ a1 vs)(g:SqB K r Φ a2 c)(h:RpL K Φ ds vs)(j:RpL K Φ es c):SteadyD K (pc K o a1 r a2) Φ (gk ds es):=
 ⟨λi H s A=>by
  rw[tV]at A
  have E:i<vs.length:=by rw[h.1];omega
  have F:i<c.length:=by rw[j.1];omega
  show⟨vs,c,vs[i],c[i],SqB.same s f,SqB.same s g,bL E,bL F⟩,λi J H x L d l s hd y=>by
  let⟨t,u,v,w,e,z,G,I⟩:=y;subst e z;let⟨p,q,B,C,rfl⟩:=FY hd;have sn:=l.trans (du (s.free w) (.tup [u,v]))
  show⟨_,.new s w _,.pair bh ((h.2 i u p (G vs (SqB.same (l.trans s) f)) B).same sn) ((j.2 i v q (I c (SqB.same (l.trans s) g)) C).same sn)⟩,λH s=>by
  rw[tV]
  show⟨vs,c,SqB.same s f,SqB.same s g,by rw[h.1,j.1];omega⟩⟩
end
inductive lI(K:Â)(t:aX)(σ:St)(H:Hp)(R':It->Hp->Prop):Prop|mk (H0:Hp) (Φ:Hp) (ρ:bz) (R:List D->Prop) (_:EnvD K H0 Φ H σ ρ) (_:t ρ R) (_:∀ds Φ' H' J,R ds->Gr Φ H Φ' H'->SteadyD K J Φ' ds->R' J H')
structure PID(K:Â)(X:Cx)(tg e:Ã)(t:aX):Prop where pi:X.K=K->PI X tg e (lI K t)
theorem PI.imp{X:Cx}{f e:Ã}{t t':TI}(h:PI X f e t)(k:∀c H R,t' c H R->t c H R):PI X f e t':=λa s c H R I g=>h a s c H R I (k c H R g)
section
variable{K:Â}{X:Cx}{l e a:Ã}{es:Y Ã}{c p:Ö}{t:TD}{f:aX}
theorem sI{es:Y Ã}{k:Nat}{t:fB}{n:Nat}(j:X.K=K)(o:X.calm=ŗ)(h:PGs X es t)(r:(Æ es X.env).length=n)(g:(Æ es X.env).findIdx? (·.1)=ŕ):PG X (.Tuple es k c) (pJ K n t):=j▸vo o h r g
theorem tQ{es:Y Ã}{k:Nat}{t:fB}{n:Nat}(j:X.K=K)(o:X.calm=ŗ)(h:PGs X es t)(r:(Æ es X.env).length=n)(g:(Æ es X.env).findIdx? (·.1)=ŕ):PG X (.Tuple es k c) (oV K n t):=j▸E9 o h r g
noncomputable def CQ(t:aX):aX:=λρ R=>t ρ λds=>match ds with| [.int j]=>(-(2^62)<=j/\j<2^62)/\R (cY 0 j.toNat)|_=>False
theorem RpL.one_inv{Φ:Hp}{d:D}{vs:Y V}(h:RpL K Φ [d] vs):∃v,vs=[v]/\Rp K Φ d v:=by
 let⟨j,g⟩:=h
 match vs,j,g with
 | [v],_,g=>show⟨v,S,g 0 v d S S⟩
theorem RpL.two_inv{Φ:Hp}{d e:D}{vs:Y V}(h:RpL K Φ [d,e] vs):∃v w,vs=[v,w]/\Rp K Φ d v/\Rp K Φ e w:=by
 let⟨j,g⟩:=h
 match vs,j,g with
 | [v,w],_,g=>show⟨v,w,S,g 0 v d S S,g 1 w e S S⟩
theorem ix(z:Gl X "range")(A:X.mg "range"=ŕ)(y:PAD K X [a] f)(B:starEach [a] X.env=[(Ř,eval a X.env)]:=by rfl):PID K X l (.Call (.Name "range" p) [a] [] c) (CQ f):=
 ⟨λx=>(vN z A (y.pa x) B).imp λI H G w=>by let⟨o,Φ,ρ,R,E,t,k⟩:=w;show⟨o,Φ,ρ,_,E,t,λds h u vs r g F _=>by
  match ds,r with
  | [.int j],r=>
   let⟨v,rfl,C⟩:=F.one_inv;obtain rfl:=C.i
   show⟨j,S,r.1.1,r.1.2,k _ h u _ r.2 g sS⟩⟩⟩
end
noncomputable abbrev dH:=D->bz->(bz->Prop)->Prop
noncomputable abbrev fL:=Y D->bz->(bz->Prop)->Prop
inductive lG(K:Â)(g:dH)(v:V)(σ:St)(H:Hp)(Q:St->Hp->Prop):Prop|mk (H0:Hp) (Φ:Hp) (ρ:bz) (d:D) (R:bz->Prop) (_:EnvD K H0 Φ H σ ρ) (_:Rp K Φ d v) (_:g d ρ R) (_:∀ρ' σ',R ρ'->EnvD K H0 Φ H σ' ρ'->Q σ' H)
inductive lGs(K:Â)(g:fL)(vs:List V)(σ:St)(H:Hp)(Q:St->Hp->Prop):Prop|mk (H0:Hp) (Φ:Hp) (ρ:bz) (ds:List D) (R:bz->Prop) (_:EnvD K H0 Φ H σ ρ) (_:RpL K Φ ds vs) (_:g ds ρ R) (_:∀ρ' σ',R ρ'->EnvD K H0 Φ H σ' ρ'->Q σ' H)
structure PGD(K:Â)(X:Cx)(e:Ã)(g:dH):Prop where pg:X.K=K->PG X e (lG K g)
structure PGDs(K:Â)(X:Cx)(es:List Ã)(g:fL):Prop where pg:X.K=K->PGs X es (lGs K g)
theorem PG.imp{X:Cx}{e:Ã}{t t':TG}(h:PG X e t)(k:∀v c H Q,t' v c H Q->t v c H Q):PG X e t':=λa s c H v u Q I r f=>h a s c H v u Q I r (k v c H Q f)
theorem PGs.imp{X:Cx}{e:Y Ã}{t t':fB}(h:PGs X e t)(k:∀v c H Q,t' v c H Q->t v c H Q):PGs X e t':=λa s c H v u Q I r f=>h a s c H v u Q I r (k v c H Q f)
section
variable{K:Â}{X:Cx}{e:Ã}{es:Y Ã}{a:Ö}{g:dH}{gs:fL}
noncomputable def oU(i:Nat):dH:=λd ρ R=>R (ρ.set i (Z (.v d)))
theorem bc{i:Nat}{x:Str}(f:X.N.Nodup)(j:X.N[i]?=Z x)(l:dO X.env.scope x)(h:X.fn x=ŗ\/X.env.scope.names.lookup x=Z .local:=by nofun):PGD K X (.Name x a) (oU i):=
 ⟨λ_=>(kE f j l h).imp λv p H Q c=>by let⟨o,Φ,ρ,d,R,E,r,g,k⟩:=c;show k _ _ g (E.set r i)⟩
noncomputable def pT:fL:=λds ρ R=>match ds with| []=>R ρ|_=>False
noncomputable def mZ(t:dH)(u:fL):fL:=λds ρ R=>match ds with|d::r=>t d ρ λc=>u r c R| []=>False
theorem eN:PGDs K X [] pT:=⟨λ_=>pgs_nil.imp λv h H Q c=>by
 let⟨f,Φ,ρ,ds,R,E,r,g,k⟩:=c
 cases ds with
 |nil=>show⟨JY.mp r.1,k _ _ g E⟩
 |cons=>show g.elim⟩
theorem cf(p:PGD K X e g)(w:PGDs K X es gs)(y:(Æ (e::es) X.env).map (·.2)=assign e X.env::(Æ es X.env).map (·.2):=by rfl):PGDs K X (e::es) (mZ g gs):=
 ⟨λj=>(kC (p.pg j) (w.pg j) y).imp λvs B H Q o=>by
  let⟨h,Φ,ρ,ds,R,E,r,g,k⟩:=o
  cases ds with
  |nil=>show g.elim
  |cons d ds=>
   cases vs with
   |nil=>show absurd r.1 (by simp)
   |cons v vs=>
    refine⟨v,vs,S,h,Φ,ρ,d,_,E,r.2 0 v d S S,g,λc A g' l=>⟨h,Φ,c,ds,R,l,⟨by have:=r.1;simpa using this,λi u f z x=>r.2 (i+1) u f z x⟩,g',k⟩⟩⟩
end
noncomputable def fC(cap:Y (Ŗ Nat))(ρ:bz):bz:=cap.map λo=>o.bind λi=>(ρ[i]?).join
theorem qf{a:Type}{o:Ŗ (Ŗ a)}{x:a}(h:o.join=Z x):o=Z (Z x):=by
 cases o with
 |none=>cases h
 |some o=>cases o with
  |none=>cases h
  |some y=>cases h;rfl
theorem jz{a:Type}{cap:Y (Ŗ Nat)}{l:Y (Ŗ a)}{i:Nat}{x:a}(h:(cap.map λo=>o.bind λi=>(l[i]?).join)[i]?=Z (Z x)):∃j,cap[i]?=Z (Z j)/\l[j]?=Z (Z x):=by
 rw[IE]at h
 cases e:cap[i]? with
 |none=>rw[e]at h;cases h
 |some o=>
  rw[e]at h
  cases o with
  |none=>cases h
  |some j=>show⟨j,S,qf (by simpa using h)⟩
theorem EnvD.cap{K:Â}{o Φ H:Hp}{f:St}{ρ:bz}{cap:Y (Ŗ Nat)}(E:EnvD K o Φ H f ρ)(inj:∀i j k:Nat,cap[i]?=Z (Z k)->cap[j]?=Z (Z k)->i=j):EnvD K o Φ H (eB cap f) (fC cap ρ):=by
 have st:∀{i j:Nat}{v:V},cap[i]?=Z (Z j)->f[j]?=Z (Z v)->(eB cap f)[i]?=Z (Z v):=λg l=>by unfold eB;rw[IE,g];simp[l]
 have y:∀{i j:Nat}{v:V},cap[i]?=Z (Z j)->(eB cap f)[i]?=Z (Z v)->f[j]?=Z (Z v):=λg l=>by let⟨x,a,c⟩:=jz l;rw[g]at a;cases a;show c
 refine⟨E.fz,by unfold eB fC;simp,λi d h=>?_,λi ds h=>?_,λi j ds es p A B C F=>?_,E.tb⟩
 ·let⟨j,a,c⟩:=jz h;let⟨v,e,r⟩:=E.sl j d c;show⟨v,st a e,r⟩
 ·let⟨j,a,c⟩:=jz h;let⟨p,vs,e,q⟩:=E.ow j ds c;show⟨p,vs,st a e,q⟩
 ·let⟨w,a,c⟩:=jz A;let⟨x,u,z⟩:=jz B;have:=E.ne w x ds es p c z (y a C) (y u F);subst this;show inj i j w a u
structure GK(k:Nat)(g:dH):Prop where p:∀d ρ R,g d ρ R->g d ρ λρ1=>ρ1.length=ρ.length/\ρ1.drop k=ρ.drop k/\R ρ1
structure GKs(k:Nat)(g:fL):Prop where p:∀ds ρ R,g ds ρ R->g ds ρ λρ1=>ρ1.length=ρ.length/\ρ1.drop k=ρ.drop k/\R ρ1
theorem CV{k i:Nat}(h:i<k):GK k (oU i):=⟨λd ρ R r=>⟨by simp,by rw[List.drop_set_of_lt h],r⟩⟩
theorem xK{k:Nat}:GKs k pT:=⟨λds ρ R r=>by
 cases ds with
 |nil=>show⟨S,S,r⟩
 |cons=>show r⟩
theorem Cv{t:dH}{u:fL}(c:∀d ρ R a,(∀x,R x->a x)->t d ρ R->t d ρ a)(e:∀d ρ R a,(∀x,R x->a x)->u d ρ R->u d ρ a):∀d ρ R a,(∀x,R x->a x)->mZ t u d ρ R->mZ t u d ρ a:=by
 intro ds ρ R a h r
 cases ds with
 |nil=>show r
 |cons d ds=>show c d ρ _ _ (λx f=>e ds x _ _ h f) r
structure GM(k:Nat)(g:dH):Prop where
 k:GK k g
 m:∀d ρ R R',(∀x,R x->R' x)->g d ρ R->g d ρ R'
structure GMs(k:Nat)(g:fL):Prop where
 k:GKs k g
 m:∀d ρ R R',(∀x,R x->R' x)->g d ρ R->g d ρ R'
theorem bM{k i:Nat}(h:i<k):GM k (oU i):=⟨CV h,λd ρ R a h r=>h _ r⟩
theorem jb{k:Nat}:GMs k pT:=⟨xK,λds ρ R a h r=>by
 cases ds with
 |nil=>show h _ r
 |cons=>show r⟩
theorem fE{k:Nat}{t:dH}{u:fL}(a:GM k t)(c:GMs k u):GMs k (mZ t u):=⟨⟨λds ρ R r=>by
 cases ds with
 |nil=>show r
 |cons d ds=>
  have h:t d ρ λf=>u ds f R:=r;refine a.m _ _ _ _ (λg q=>?_) (a.k.p d ρ _ h)
  show c.m _ _ _ _ (λj e=>⟨e.1.trans q.1,e.2.1.trans q.2.1,e.2.2⟩) (c.k.p ds g R q.2.2)⟩,Cv a.m c.m⟩
noncomputable def pS:cw:=λ_ R=>R ŗ
structure PIfD(K:Â)(X:Cx)(ifs:List Ã)(t:cw):Prop where p:X.K=K->jk X ifs (lT K t)
theorem px{K:Â}{X:Cx}:PIfD K X [] pS:=⟨λ_ a s e H Q I c=>by let⟨f,Φ,ρ,R,E,t,k⟩:=c;show v6 a s e H Q I (k ŗ Φ H t (.refl E.fz))⟩
theorem jr{K:Â}{X:Cx}{c:Ã}{t:cw}(h:PTD K X c t):PIfD K X [c] t:=⟨λa=>Bs (h.pt a)⟩
theorem EnvD.side{K:Â}{a Φ H:Hp}{f:St}{ρ:bz}{p:Addr}{o u:HO}(E:EnvD K a Φ H f ρ)(g:a p=Z u)(j:Φ p=ŕ):EnvD K a Φ (aq H p o) f ρ:=
 ⟨λb w e=>by rw[aY (de e j)];show E.fz b w e,E.len,E.sl,λi ds h=>by
  let⟨q,vs,e,c,l,r,v⟩:=E.ow i ds h
  show⟨q,vs,e,c,l,by rw[aY λz=>by rw[z,g]at c;cases c];show r,v⟩,E.ne,E.tb⟩
theorem EnvD.base{K:Â}{a Φ H:Hp}{f:St}{ρ:bz}{p:Addr}{u:HO}(E:EnvD K a Φ H f ρ)(g:H p=ŕ):EnvD K (aq a p u) Φ H f ρ:=
 ⟨E.fz,E.len,E.sl,λi ds h=>by
  let⟨q,vs,e,j,l,c,o⟩:=E.ow i ds h
  show⟨q,vs,e,by rw[aY (de c g)];show j,l,c,o⟩,E.ne,E.tb⟩
noncomputable def lP(h:aX)(cap:Y (Ŗ Nat))(g:dH)(e:cw)(f:TD):aX:=λρ R=>h ρ λds=>ds.length<sizeLine/\∃P:Nat->Ŗ D->Prop,
 (∀i d,ds[i]?=Z d->g d (fC cap ρ) λa=>e a λb=>(b=ŗ->f a λy=>P i (Z y))/\(b=Ř->P i ŕ))/\∀c:Y (Ŗ D),c.length=ds.length->(∀i y,c[i]?=Z y->P i y)->R (c.filterMap id)
theorem xY(a:Y (Ŗ D))(y:D):(a++[Z y]).filterMap id=a.filterMap id++[y]:=by simp
theorem G7(a:Y (Ŗ D)):(a++[ŕ]).filterMap id=a.filterMap id:=by simp
theorem HB(a:Y (Ŗ D)):(a.filterMap id).length<=a.length:=List.length_filterMap_le _ _
theorem fu{g:Type}{f:Y g}{y:g}{P:Nat->g->Prop}{n:Nat}(o:f.length=n)(h:∀i z,f[i]?=Z z->P i z)(l:P n y):∀i z,(f++[y])[i]?=Z z->P i z:=by
 intro i z a;rcases Js i f.length with c|c
 ·rw[Ip c]at a;show h i z a
 ·rw[Im c]at a
  have j:i-f.length=0:=by
   rcases Nat.eq_zero_or_pos (i-f.length)with e|e
   ·show e
   ·rw[Jp (by simp only[IH,J3];omega)]at a;cases a
  rw[j]at a;cases a
  have:i=n:=by omega
  subst this;show l
noncomputable def fP(k:Nat)(cap:Y (Ŗ Nat)):Bool:=(cap.take k).all (·.isNone)&&decide ((cap.filterMap id).Nodup)
theorem za{k:Nat}{cap:Y (Ŗ Nat)}(h:fP k cap=ŗ){i:Nat}(a:i<k){o:Ŗ Nat}(e:cap[i]?=Z o):o=ŕ:=by
 unfold fP at h;rw[JJ]at h;have:=Kf.mp h.1 o (ID (i:=i) (by rw[Lo a];show e))
 cases o with
 |none=>rfl
 |some _=>cases this
theorem G3{k:Nat}{cap:Y (Ŗ Nat)}(h:fP k cap=ŗ):∀i j n:Nat,cap[i]?=Z (Z n)->cap[j]?=Z (Z n)->i=j:=by
 unfold fP at h;rw[JJ]at h;have nd:=Jd h.2;clear h
 induction cap with
 |nil=>intro i j n a;simp at a
 |cons o cap p=>
  intro i j n a c
  have g:(cap.filterMap id).Nodup:=by
   cases o with
   |none=>simpa using nd
   |some m=>have e : (Z m :: cap).filterMap id = m :: cap.filterMap id:= rfl
            rw [e]at nd; show (Jg.mp nd).2
  have one:∀{i:Nat},o=Z n->cap[i]?=Z (Z n)->False:=λ{i} l f=>by
   subst l;have e:(Z n::cap).filterMap id=n::cap.filterMap id:=rfl;rw[e]at nd;show (Jg.mp nd).1 (KZ.mpr ⟨Z n,ID f,S⟩)
  cases i with
  |zero=>cases j with
   |zero=>rfl
   |succ j=>show (one (by simpa using a) (by simpa using c)).elim
  |succ i=>cases j with
   |zero=>show (one (by simpa using c) (by simpa using a)).elim
   |succ j=>show Ju Nat.succ (p g i j n (by simpa using a) (by simpa using c))
section
variable{K:Â}{X:Cx}{w a r:Ã}{F:Y Ã}{scope:ß}{B:Ö}{N':Y Str}{cap:Y (Ŗ Nat)}{l:aX}{g:dH}{A:cw}{f:TD}
theorem uA{k:Nat}(Nj:fP k cap=ŗ)(hk:GM k g){σ:St}{H:Hp}{Q:VK}{b_ Φ:Hp}{ρ:bz}{R W:Y D->Prop}(E:EnvD K b_ Φ H σ ρ)(t:l ρ W)
  (conv:∀ds,W ds->ds.length<sizeLine/\∃P:Nat->Ŗ D->Prop,(∀i d,ds[i]?=Z d->g d (fC cap ρ) λz=>A z λb=>(b=ŗ->f z λy=>P i (Z y))/\(b=Ř->P i ŕ))/\∀C:Y (Ŗ D),C.length=ds.length->(∀i y,C[i]?=Z y->P i y)->R (C.filterMap id))
  (kk:∀ds h I p vs,R ds->Gr Φ H h I->H p=ŕ->h p=ŕ->I p=Z (.lst vs)->RpL K h ds vs->Q (.ref p) I):gC (lI K l) cap (lG K g) (lT K A) (lE K f) σ H Q:=by
 refine⟨b_,Φ,ρ,W,E,t,λds L H1 J hW g1 a_ G hD=>?_⟩
 let⟨hlen,P,hp,hr⟩:=conv ds hW
 have E1:=E.gr g1;have RI:L G=ŕ:=g1.s.free hD;have C0:EnvD K (aq b_ G (.lst [])) L (aq H1 G (.lst [])) (eB cap σ) (fC cap ρ):=((E1.base (u:=.lst []) hD).side (o:=.lst []) bh RI).cap (G3 Nj);refine⟨λi m σ' I=>m=ds.length-i/\i<=ds.length/\∃(h:Hp)(vs:Y V)(C:Y (Ŗ D)),EnvD K (aq b_ G (.lst [])) h I σ' (fC cap ρ)/\Gr L H1 h I/\h G=ŕ/\I G=Z (.lst vs)/\RpL K h (C.filterMap id) vs/\C.length=i/\∀j y,C[j]?=Z y->P j y,⟨ds.length,by simp,Km _,L,[],[],C0,.fresh g1.s hD _,RI,bh,.nil,S,λj y hj=>by simp at hj⟩,?_⟩;rintro i m σ' I ⟨rfl,hi,h,vs,C,Ei,M,R9,QJ,Nq,NW,hy⟩;by_cases Nb:i<ds.length
 ·refine .inr ⟨a_.go i I (M.f.trans M.s) Nb,λσ2 be=>∃(h:Hp)(vs:Y V)(C:Y (Ŗ D)),EnvD K (aq b_ G (.lst [])) h be σ2 (fC cap ρ)/\Gr L H1 h be/\h G=ŕ/\be G=Z (.lst vs)/\RpL K h (C.filterMap id) vs/\C.length=i+1/\∀j y,C[j]?=Z y->P j y,λσ2 be h2=>⟨ds.length-(i+1),(),S,Nb,h2⟩,λx be y=>?_⟩;let⟨T,N,rx⟩:=a_.yl i h I x be _ M.f M.s (bL Nb) y;have E3:=Ei.gr N;refine⟨_,T,fC cap ρ,_,_,E3,rx,hk.k.p _ _ _ (hp i _ (bL Nb)),λz σ3 MY E4=>?_⟩;let⟨Ox,hd1,t1⟩:=MY
  have wk:∀(j:Nat) x,(fC cap ρ)[j]?=Z (Z x)->z[j]?=Z (Z x):=λj x hj=>by
   rcases Js j k with c|c
   ·let⟨n,h1,_⟩:=jz hj;cases za Nj c h1
   ·have e1:(fC cap ρ)[j]?=((fC cap ρ).drop k)[j-k]?:=by rw[Ls];congr 1;omega
    have e2:z[j]?=(z.drop k)[j-k]?:=by rw[Ls];congr 1;omega
    rw[e2,hd1,←e1];show hj
  have UI:T G=ŕ:=N.o _ _ QJ R9;refine⟨_,T,z,_,E4,t1,λb U H4 rb O=>?_⟩;have E5:=(E4.gr O);have Rm:=O.h _ _ (N.h _ _ QJ);have hD4:U G=ŕ:=O.o _ _ (N.h _ _ QJ) UI
  cases b with
  |false=>
   refine jA ?_;refine⟨U,vs,C++[ŕ],E5.weak Ox.symm wk,(M.trans N).trans O,hD4,Rm,?_,by rw[Io,NW];rfl,fu NW hy (rb.2 S)⟩;rw[G7];show (Nq.same N.f).same O.f
  |true=>
   refine jL ?_;refine⟨_,U,z,_,E5,rb.1 S,λd Φ5 H5 v rd g5 rv=>?_⟩;have E6:=E5.gr g5;have UJ:=g5.h _ _ Rm;have UK:Φ5 G=ŕ:=g5.o _ _ Rm hD4;have gg:=((M.trans N).trans O).trans g5;refine⟨vs,UJ,?_,Φ5,vs++[v],C++[Z d],(E6.weak Ox.symm wk).side bh UK,?_,UK,bh,?_,by rw[Io,NW];rfl,fu NW hy rd⟩
   ·have:=HB C;rw[Nq.1];omega
   ·show⟨gg.f,uO gg.h hD _,λb u e=>by rw[aY (de e UK)];show gg.s b u e,λp u hp hn k=>gg.o p u hp hn k⟩
   ·rw[xY];show (((Nq.same N.f).same O.f).same g5.f).append (.one rv)
 ·have e:i=ds.length:=by omega
  subst e;show .inl ⟨a_.stop I (M.f.trans M.s),kk _ h I G vs (hr C NW hy) (g1.trans M) (g1.h.free hD) R9 QJ Nq⟩
theorem qe{k:Nat}(e:fP k cap=ŗ)(j:GM k g){c:St}{H:Hp}{Q:VK}(h:lF K (lP l cap g A f) c H Q):gC (lI K l) cap (lG K g) (lT K A) (lE K f) c H Q:=by let⟨p,Φ,ρ,R,E,t,o⟩:=h;show uA e j E t (λds h=>h) o
theorem oZ{k:Nat}(o:X.calm=ŗ)(Q:CompScope X.N X.env.scope scope N' cap)(p:fP k cap=ŗ)(z:GM k g)(y:PID K X w a l)
  (v:∀(cl:Y (Str×Addr))(e:Y Addr)(C:Addr)(h:À)(c:Hp),PGD K (bV X scope N' cl C h c e) w g) (G:∀(cl:Y (Str×Addr))(e:Y Addr)(C:Addr)(h:À)(c:Hp),PIfD K (bV X scope N' cl C h c e) F A)
  (u:∀(cl:Y (Str×Addr))(e:Y Addr)(C:Addr)(h:À)(c:Hp),PD K (bV X scope N' cl C h c e) r f) (E:∀x,Ê a X.env x=pure x:=by intro _;rfl):PF K X (.ListComp r [⟨w,a,F,0⟩] scope B) (lP l cap g A f):=
 ⟨λj=>(rV o Q (y.pi j) (λcl e C h c=>(v cl e C h c).pg j) (λcl e C h c=>(G cl e C h c).p j) (λcl e C h c=>(u cl e C h c).pe j) E).imp λ_ _ _=>qe p z⟩
noncomputable def lR(l:aX)(cap:Y (Ŗ Nat))(g:dH)(f:TD):aX:=λρ R=>l ρ λds=>ds.length<sizeLine/\∃P:Nat->D->Prop,
 (∀i d,ds[i]?=Z d->g d (fC cap ρ) λe=>f e (P i))/\∀c:Y D,c.length=ds.length->(∀i y,c[i]?=Z y->P i y)->R c
noncomputable def Ew(P:Nat->D->Prop):Nat->Ŗ D->Prop:=λi o=>match o with|some y=>P i y|none=>False
theorem sK{P:Nat->D->Prop}:∀(c:Y (Ŗ D)),(∀(i:Nat) y,c[i]?=Z y->∃z,y=Z z)->∃e:Y D,c=e.map Z
 | [],_=>⟨[],S⟩
 |y::c,h=>by let⟨z,rfl⟩:=h 0 y S;let⟨e,rfl⟩:=sK (P:=P) c λi y j=>h (i+1) y j;show⟨z::e,S⟩
theorem yF{ds:Y D}{ρ:bz}{R:Y D->Prop}(h:ds.length<sizeLine/\∃P:Nat->D->Prop,(∀i d,ds[i]?=Z d->g d (fC cap ρ) λc=>f c (P i))/\∀j:Y D,j.length=ds.length->(∀i y,j[i]?=Z y->P i y)->R j){k:Nat}(C:GM k g) :
  ds.length<sizeLine/\∃P:Nat->Ŗ D->Prop,(∀i d,ds[i]?=Z d->g d (fC cap ρ) λc=>pS c λb=>(b=ŗ->f c λy=>P i (Z y))/\(b=Ř->P i ŕ))/\∀j:Y (Ŗ D),j.length=ds.length->(∀i y,j[i]?=Z y->P i y)->R (j.filterMap id):=by
 let⟨u,P,v,x⟩:=h;refine⟨u,Ew P,λi d hd=>C.m _ _ _ _ (λc q=>⟨λ_=>q,λe=>by cases e⟩) (v i d hd),λj E p=>?_⟩
 let⟨o,rfl⟩:=sK (P:=P) j λi y e=>by
  have:=p i y e
  cases y with
  |none=>show this.elim
  |some z=>show⟨z,S⟩
 rw[L6]
 have e:o.filterMap (id ∘ Z)=o:=by simp
 rw[e];refine x o (by simpa using E) λi y e=>?_;show p i (Z y) (by rw[IE,e];rfl)
theorem oX{k:Nat}(j:fP k cap=ŗ)(c:GM k g){e:St}{H:Hp}{Q:VK}(h:lF K (lR l cap g f) e H Q):gC (lI K l) cap (lG K g) (lT K pS) (lE K f) e H Q:=by let⟨p,Φ,ρ,R,E,t,o⟩:=h;show uA j c E t (λds h=>yF h c) o
theorem dG{k:Nat}(o:X.calm=ŗ)(Q:CompScope X.N X.env.scope scope N' cap)(p:fP k cap=ŗ)(z:GM k g)(y:PID K X w a l)
  (v:∀(cl:Y (Str×Addr))(e:Y Addr)(C:Addr)(h:À)(c:Hp),PGD K (bV X scope N' cl C h c e) w g)
  (u:∀(cl:Y (Str×Addr))(e:Y Addr)(C:Addr)(h:À)(c:Hp),PD K (bV X scope N' cl C h c e) r f) (E:∀x,Ê a X.env x=pure x:=by intro _;rfl):PF K X (.ListComp r [⟨w,a,[],0⟩] scope B) (lR l cap g f):=
 ⟨λj=>(rV o Q (y.pi j) (λcl e C h c=>(v cl e C h c).pg j) (λcl e C h c=>(px (K:=K)).p j) (λcl e C h c=>(u cl e C h c).pe j) E).imp λ_ _ _=>oX p z⟩
end
structure EndsD where
 nx:bz->Prop
 rt:D->Prop
 bk:bz->Prop:=λ_=>False
 ct:bz->Prop:=λ_=>False
noncomputable abbrev dh:=EndsD->bz->Prop
noncomputable def pY(K:Â)(g h:Hp)(P:bz->Prop)(Q:St->Hp->Prop):Prop:=∀c a f e,P c->Gr g h a f->EnvD K h a f e c->Q e f
structure EndOk(K:Â)(Φ0 H0:Hp)(De:EndsD)(E:Ends):Prop where
 nx:pY K Φ0 H0 De.nx E.nx
 rt:∀d Φ' H' v,De.rt d->Gr Φ0 H0 Φ' H'->Rp K Φ' d v->E.rt v H'
 bk:pY K Φ0 H0 De.bk E.bk
 ct:pY K Φ0 H0 De.ct E.ct
inductive lS(K:Â)(t:dh)(E:Ends)(σ:St)(H:Hp):Prop|mk (Φ0:Hp) (H0:Hp) (Φ:Hp) (ρ:bz) (De:EndsD) (_:Gr Φ0 H0 Φ H) (_:EnvD K H0 Φ H σ ρ) (_:t De ρ) (_:EndOk K Φ0 H0 De E)
structure PSD(K:Â)(X:Cx)(st:Ç)(t:dh):Prop where ps:X.K=K->PS X st (lS K t)
structure PSsD(K:Â)(X:Cx)(st:List Ç)(t:dh):Prop where ps:X.K=K->PSs X st (lS K t)
section
variable{K:Â}{X:Cx}{st:Ç}{l:Y Ç}{t u:dh}{e a:Ã}{o:TD}{tf:aX}{f:Ö}{w:cw}
noncomputable def AJ:dh:=λc ρ=>c.nx ρ
noncomputable def FP(t u:dh):dh:=λc ρ=>t { c with nx:=u c } ρ
noncomputable def BL(t u:dh):dh:=λg ρ=>∃I:bz->Prop,t { g with nx:=I } ρ/\∀c,I c->u g c
theorem cI:PSsD K X [] AJ:=⟨λ_=>pss_nil.imp λE j H c=>by let⟨h,r,Φ,ρ,p,g,V,t,k⟩:=c;show k.nx ρ Φ H j t g V⟩
theorem bK(z:PSD K X st t)(A:PSsD K X l u):PSsD K X (st::l) (FP t u):=⟨λr=>(mH (z.ps r) (A.ps r)).imp λE F H x=>by let⟨c,p,Φ,ρ,v,g,V,t,k⟩:=x;exact
 ⟨c,p,Φ,ρ,_,g,V,t,⟨λj h C B t' g' y=>⟨c,p,h,j,v,g',y,t',k⟩,k.rt,k.bk,k.ct⟩⟩⟩
theorem e9(A:PSD K X st t)(B:PSsD K X l u):PSsD K X (st::l) (BL t u):=⟨λv=>(mH (A.ps v) (B.ps v)).imp λE G H y=>by let⟨h,r,Φ,ρ,x,g,V,⟨I,t,c⟩,k⟩:=y;exact
 ⟨h,r,Φ,ρ,_,g,V,t,⟨λj p F C t' g' z=>⟨h,r,p,j,x,g',z,c j t',k⟩,k.rt,k.bk,k.ct⟩⟩⟩
theorem aU(c:PSD K X st t):PSsD K X [st] t:=⟨λg=>t6 (c.ps g)⟩
noncomputable def FU:dh:=λ_ _=>False
theorem Co:PSD K X st FU:=⟨λ_=>ps_never.imp λE r H c=>by let⟨h,p,Φ,ρ,j,g,V,t,k⟩:=c;show t⟩
noncomputable def kN(i:Nat)(o:TD):dh:=λc ρ=>o ρ λd=>c.nx (ρ.set i (Z (.v d)))
theorem yP{i:Nat}{E:Ends}{p:St}{H:Hp}(h:lS K (kN i o) E p H):iR (lE K o) (ig i) E p H:=by let⟨A,x,Φ,ρ,B,g,V,t,k⟩:=h;show⟨x,Φ,ρ,_,V,t,λd c y v r j z=>k.nx _ c y _ r (g.trans j) ((V.gr j).set z i)⟩
theorem dz{i:Nat}{x:Str}{c:Ö}(h:X.N.Nodup)(r:X.N[i]?=Z x)(y:dO X.env.scope x)(j:PD K X e o)(v:Î e (Z (.Name x c)) f.line X.env=pure Ř:=by rfl)(p:X.fn x=ŗ\/X.env.scope.names.lookup x=Z .local:=by nofun) :
  PSD K X (.Assign [.Name x c] e f) (kN i o):=⟨λg=>(qo h r y (j.pe g) v p).imp λ_ _ _=>yP⟩
noncomputable def rQ(i:Nat)(tf:aX):dh:=λc ρ=>tf ρ λds=>c.nx (ρ.set i (Z (.own ds)))
theorem Bi{i:Nat}{E:Ends}{x:St}{H:Hp}(h:lS K (rQ i tf) E x H):lF K tf x H λv C=>ig i v x C E.nx:=by let⟨M,F,Φ,ρ,N,g,V,t,k⟩:=h;refine⟨F,Φ,ρ,_,V,t,λds c G p vs r y A L J rl=>k.nx _ c G _ r (g.trans y) ((V.gr y).setOwn rl (g.h.free A) L J (λj es I z=>?_) i)⟩;let⟨q,O,e,_,_,B,_⟩:=V.ow j _ I;rw[e]at z;cases z;rw[A]at B;cases B
theorem wZ{i:Nat}{x:Str}{c:Ö}(j:X.N.Nodup)(v:X.N[i]?=Z x)(z:dO X.env.scope x)(p:PF K X e tf)(y:Î e (Z (.Name x c)) f.line X.env=pure Ř:=by rfl)(r:X.fn x=ŗ\/X.env.scope.names.lookup x=Z .local:=by nofun) :
  PSD K X (.Assign [.Name x c] e f) (rQ i tf):=⟨λg=>(qo j v z (p.pe g) y r).imp λ_ _ _ h=>Bi h⟩
noncomputable def zU(o:TD):dh:=λc ρ=>o ρ c.rt
theorem bf(z:PD K X e o):PSD K X (.Return (Z e) f) (zU o):=
 ⟨λy=>(vO (z.pe y)).imp λE F H p=>by let⟨B,h,Φ,ρ,C,g,V,t,k⟩:=p;show⟨h,Φ,ρ,_,V,t,λd c j v r x A=>k.rt d c j v r (g.trans x) A⟩⟩
noncomputable def wQ(c:cw)(t u:dh):dh:=λg ρ=>c ρ λb=>(b=ŗ->t g ρ)/\(b=Ř->u g ρ)
theorem cA{c:Ã}{a b:Y Ç}(C:PTD K X c w)(A:PSsD K X a t)(B:PSsD K X b u):PSD K X (.If c a b f) (wQ w t u):=
 ⟨λx=>(sY (C.pt x) (A.ps x) (B.ps x)).imp λE G H z=>by let⟨h,v,Φ,ρ,y,g,V,t,k⟩:=z;show⟨v,Φ,ρ,_,V,t,λc j F r p=>by
  cases c with
  |true=>refine jL ?_;show⟨h,v,j,ρ,y,g.trans p,V.gr p,r.1 S,k⟩
  |false=>refine jA ?_;show⟨h,v,j,ρ,y,g.trans p,V.gr p,r.2 S,k⟩⟩⟩
noncomputable def yx(c:cw)(tb:dh):dh:=λp ρ=>∃I:Nat->bz->Prop,(∃m,I m ρ)/\∀m g,I m g->c g λb=>(b=ŗ->tb { p with nx:=λh=>∃j,j<m/\I j h,ct:=λh=>∃j,j<m/\I j h,bk:=p.nx } g)/\(b=Ř->p.nx g)
theorem D9{c:Ã}{x:Y Ç}{tb:dh}(hp:ø (Ä X.prog X.w) X.A X.env X.xe)(hc:PTD K X c w)(b_:PSsD K X x tb):PSD K X (.While c x [] f) (yx w tb):=
 ⟨λR=>(tE hp (hc.pt R) (b_.ps R)).imp λE a_ H U=>by
  let⟨y,B,Φ,ρ,De,g,V,⟨I,⟨m,be⟩,hw⟩,k⟩:=U;refine⟨λm a_ H=>∃p j,Gr y B p H/\EnvD K B p H a_ j/\I m j,⟨m,Φ,ρ,g,V,be⟩,?_⟩;rintro m Q H' ⟨p,j,g',M,hi⟩;refine⟨B,p,j,_,M,hw m j hi,λb G T r J=>?_⟩
  cases b with
  |false=>refine jA ?_;show k.nx j G T Q (r.2 S) (g'.trans J) (M.gr J)
  |true=>
   refine jL ?_;refine⟨λv F=>∃C,C<m/\∃p j,Gr y B p F/\EnvD K B p F v j/\I C j,λv F h=>h,y,B,G,j,_,g'.trans J,M.gr J,r.1 S,⟨?_,k.rt,k.nx,?_⟩⟩
   ·rintro A z F v ⟨C,P,L⟩ O N;show⟨C,P,z,A,O,N,L⟩
   ·rintro A z F v ⟨C,P,L⟩ O N
    show⟨C,P,z,A,O,N,L⟩⟩
noncomputable def Bl(p:aX)(j:dH)(tb:dh):dh:=λg ρ=>p ρ λds=>∃I:Nat->bz->Prop,I 0 ρ/\(∀i d c,ds[i]?=Z d->I i c->j d c λh=>tb { g with nx:=I (i+1),ct:=I (i+1),bk:=g.nx } h)/\∀c,I ds.length c->g.nx c
theorem fe{tg z:Ã}{F:Y Ç}{ti:aX}{gd:dH}{tb:dh}(hp:ø (Ä X.prog X.w) X.A X.env X.xe)(hc:X.calm=ŗ)(hi:PID K X tg z ti)(hg:PGD K X tg gd)(hb:PSsD K X F tb)
  (hs:∀x,Ê z X.env x=pure x:=by intro _;rfl):PSD K X (.For tg z F [] f) (Bl ti gd tb):=
 ⟨λhK=>(sw hp hc (hi.pi hK) (hg.pg hK) (hb.ps hK) hs).imp λE σ H MY=>by
  let⟨b_,L,Φ,ρ,De,g,V,t,k⟩:=MY;refine⟨L,Φ,ρ,_,V,t,λds M H1 J NC g1 a_=>?_⟩;let⟨I,h0,NI,Od⟩:=NC;refine⟨λi m σ G=>m=ds.length-i/\i<=ds.length/\∃c h,Gr b_ L c G/\Same M c/\EnvD K L c G σ h/\I i h,⟨ds.length,by simp,Km _,M,ρ,g.trans g1,Same.refl _,V.gr g1,h0⟩,?_⟩;rintro i m σ' G ⟨rfl,hi,c,h,g',U,R,hI⟩;by_cases Nb:i<ds.length
  ·refine .inr ⟨a_.go i G (U.trans R.fz) Nb,λσ2 P=>∃c h,Gr b_ L c P/\Same M c/\EnvD K L c P σ2 h/\I (i+1) h,λσ2 P h2=>⟨ds.length-(i+1),(),S,Nb,h2⟩,λx P y=>?_⟩;let⟨N,B,rx⟩:=a_.yl i c G x P _ U R.fz (bL Nb) y;refine⟨L,N,h,_,_,R.gr B,rx,NI i _ h (bL Nb) hI,λρ2 σ3 t2 V3=>?_⟩;refine⟨N,L,N,ρ2,_,?_,V3,t2,⟨?_,?_,?_,?_⟩⟩
   ·show⟨Same.refl _,(g'.trans B).h,B.s,λp u hp hn _=>hn⟩
   ·intro A j Q O be C T;show⟨j,A,(g'.trans B).join C,(U.trans B.f).trans C.f,T,be⟩
   ·intro d j Q v r C rv;show k.rt d j Q v r ((g'.trans B).join C) rv
   ·intro A j Q O be C T;show k.nx A j Q O be ((g'.trans B).join C) T
   ·intro A j Q O be C T;show⟨j,A,(g'.trans B).join C,(U.trans B.f).trans C.f,T,be⟩
  ·have e:i=ds.length:=by omega
   subst e
   show .inl ⟨a_.stop G (U.trans R.fz),k.nx h c G σ' (Od h hI) g' R⟩⟩
end
section
variable{K:Â}{X:Cx}{l a f e:Ã}{w:Y Ã}{scope:ß}{c B F:Ö}{N':Y Str}{cap:Y (Ŗ Nat)}{z:aX}{g:dH}{A:cw}{j:TD}{i:Nat}{y:Str}
theorem vc{tf:aX}{E:Ends}{u:St}{H:Hp}(o:∀{u:St}{H:Hp}{Q:VK},lF K tf u H Q->gC (lI K z) cap (lG K g) (lT K A) (lE K j) u H Q)(h:lS K (kN i (nF tf)) E u H):iR (gC (lI K z) cap (lG K g) (lT K A) (lE K j)) (ig i) E u H:=by let⟨N,J,Φ,ρ,O,gg,V,t,L⟩:=h;show o ⟨J,Φ,ρ,_,V,t,λds M I p vs r x C v G rr=>L.nx _ _ I _ r (gg.trans (x.freeze C v G)) ((V.gr (x.freeze C v G)).set ((rr.same (du v _)).lst bh) i)⟩
theorem wo{k:Nat}(v:X.calm=ŗ)(H:X.N.Nodup)(Q:X.N[i]?=Z y)(P:dO X.env.scope y)(U:CompScope X.N X.env.scope scope N' cap)(E:fP k cap=ŗ)(N:GM k g)(M:PID K X l a z)
  (L:∀(cl:Y (Str×Addr))(p:Y Addr)(C:Addr)(r:À)(o:Hp),PGD K (bV X scope N' cl C r o p) l g)
  (I:∀(cl:Y (Str×Addr))(p:Y Addr)(C:Addr)(r:À)(o:Hp),PD K (bV X scope N' cl C r o p) f j) (G:Î (.ListComp f [⟨l,a,[],0⟩] scope c) (Z (.Name y B)) F.line X.env=pure ŗ:=by rfl)
  (O:∀x,Ê a X.env x=pure x:=by intro _;rfl) (J:X.fn y=ŗ\/X.env.scope.names.lookup y=Z .local:=by nofun) :
  PSD K X (.Assign [.Name y B] (.ListComp f [⟨l,a,[],0⟩] scope c) F) (kN i (nF (lR z cap g j))):=
 ⟨λu=>(kG v H Q P U (M.pi u) (λcl p C r o=>(L cl p C r o).pg u) (λcl p C r o=>(px (K:=K)).p u) (λcl p C r o=>(I cl p C r o).pe u) G O J).imp λ_ _ _ h=>vc (λq=>oX E N q) h⟩
theorem vR{k:Nat}(v:X.calm=ŗ)(H:X.N.Nodup)(R:X.N[i]?=Z y)(Q:dO X.env.scope y)(U:CompScope X.N X.env.scope scope N' cap)(E:fP k cap=ŗ)(N:GM k g)(M:PID K X l a z)
  (L:∀(cl:Y (Str×Addr))(p:Y Addr)(C:Addr)(r:À)(o:Hp),PGD K (bV X scope N' cl C r o p) l g) (P:∀(cl:Y (Str×Addr))(p:Y Addr)(C:Addr)(r:À)(o:Hp),PIfD K (bV X scope N' cl C r o p) w A)
  (I:∀(cl:Y (Str×Addr))(p:Y Addr)(C:Addr)(r:À)(o:Hp),PD K (bV X scope N' cl C r o p) f j) (G:Î (.ListComp f [⟨l,a,w,0⟩] scope c) (Z (.Name y B)) F.line X.env=pure ŗ:=by rfl)
  (O:∀x,Ê a X.env x=pure x:=by intro _;rfl) (J:X.fn y=ŗ\/X.env.scope.names.lookup y=Z .local:=by nofun) :
  PSD K X (.Assign [.Name y B] (.ListComp f [⟨l,a,w,0⟩] scope c) F) (kN i (nF (lP z cap g A j))):=
 ⟨λu=>(kG v H R Q U (M.pi u) (λcl p C r o=>(L cl p C r o).pg u) (λcl p C r o=>(P cl p C r o).p u) (λcl p C r o=>(I cl p C r o).pe u) G O J).imp λ_ _ _ h=>vc (λq=>qe E N q) h⟩
theorem yQ{h r Φ H:Hp}{p:Addr}{o:HO}(g:Gr h r Φ H)(x:r p=ŕ)(v:Φ p=ŕ):Gr h r Φ (aq H p o):=
 ⟨g.f,uO g.h x _,λb u e=>by rw[aY (de e v)];show g.s b u e,λp u C v k=>g.o p u C v k⟩
noncomputable def sB(i:Nat)(j:TD):dh:=λh ρ=>match ρ[i]? with|some (Z (.ob (.lst ds)))=>j ρ λd=>ds.length<sizeLine/\NF (ds++[d]) λes=>h.nx (ρ.set i (Z (.own es)))|_=>False
theorem tK{h u o:Ö}{x:Str}(i:Nat)(he:PD K X e j)(T:((backTo u (starEach [e] X.env)).all (λx=>!x.1)&&(â u (Õ [] X.env)).all (λx=>x.1.isSome)&&decide (([e]:Y Ã).length+([]:Y Ü).length+(if ([]:Y Ü).isEmpty then 0 else 1)<30))=ŗ)
  (L:starEach [e] X.env=(Ř,eval e X.env)::starEach [] X.env) (b_:X.N[i]?=Z x:=by rfl) (hv:cR X.env.scope x:=by nofun) (hd:ab x:=by decide) (O:fI x:=by decide)
  (Q:Ë (.Name x o) "append" X.env (eval (.Name x o) X.env)=eval (.Name x o) X.env:=by rfl) (R:(h.endLine==u.line)=ŗ:=by rfl) (hs:Î (.Call (.Attribute (.Name x o) "append" h) [e] [] u) ŕ c.line X.env=pure Ř:=by rfl) :
  PSD K X (.Expr (.Call (.Attribute (.Name x o) "append" h) [e] [] u) c) (sB i j):=
 ⟨λbe=>(kM (kt J8 Lu Lv mw (pv i b_ hv hd O) (eY (he.pe be) pa_nil L) Q T R L ae) hs).imp λE σ H P=>by
  let⟨Φ0,N,Φ,ρ,De,g,V,t,k⟩:=P;unfold sB at t;split at t
  ·next ds ho=>
   let⟨p,vs,M,U,hn,I,rl⟩:=V.owl i ds ho;refine⟨_,M,.inl ⟨S,vs,SqL.of I⟩,N,Φ,ρ,_,V,t,λd J H1 v r C rv=>?_⟩;have a_:=C.h _ _ I;have G:=C.o _ _ I hn;refine⟨p,vs,v,S,S,a_,by rw[rl.1];show r.1,k.nx _ J _ σ r.2.get (yQ (g.trans C) U G) ((V.gr C).put ho M ((rl.same C.f).append (.one rv)))⟩
  ·show t.elim⟩
end
noncomputable def jR(N:Y Str)(ds:Y D):bz:=ds.map (λd=>Z (.v d))++List.replicate (N.length-ds.length) ŕ
theorem Ab{K:Â}{Φ H:Hp}{N:Y Str}{ds:Y D}{vs:Y V}(sm:Same Φ H)(tb:TabF K Φ)(r:RpL K Φ ds vs):EnvD K H Φ H (eQ N vs) (jR N ds):=by
 have own:∀{i:Nat}{x:Sl},(jR N ds)[i]?=Z (Z x)->∃d,ds[i]?=Z d/\x=.v d:=λ{i x} h=>by
  unfold jR at h;rcases Js i (ds.map λd=>Z (Sl.v d)).length with c|c
  ·rw[Ip c,IE]at h
   cases e:ds[i]? with
   |none=>rw[e]at h;cases h
   |some d=>rw[e]at h;cases h;show⟨d,S,S⟩
  ·rw[Im c,J7]at h;split at h
   ·cases h
   ·cases h
 refine⟨sm,by unfold eQ jR;simp[r.1],λi d h=>?_,λi es h=>?_,λi j es fs p h=>?_,tb⟩
 ·let⟨d',f,a⟩:=own h;cases a;let⟨v,g,l⟩:=r.at f;refine⟨v,?_,l⟩;unfold eQ;rw[Ip (by rw[Il];show az g),IE,g];rfl
 ·let⟨d',f,a⟩:=own h;cases a
 ·let⟨d',f,a⟩:=own h;cases a
section
variable{P:Å}{w:È}{K:Â}{mg:Str->Ŗ Value}{base:Heap}
theorem Fun.okD{x qual:Str}{st:Ç}{f:Addr}{e:Í}{N ps:Y Str}{k:Nat}{sp:cB}(F:Fun K x qual st f e)(U:FnScope N ps (av st))(len:∀ds R,sp ds R->ds.length=ps.length)
  (o:∀(a:Value)(A:Ì)(outer:Y ì)(s:À)(H:Hp)(E:XK)(ds:Y D)(R:D->Prop),Room k (A.deeper (ê qual (av st) s.heap.objs.size f a))->sp ds R->
   ∃t,PSsD K (iu aN P w K mg base N qual (av st) f a A outer s H E).nox (gu st) t/\t { nx:=λ_=>R .non,rt:=R } (jR N ds)):FnOk P w K mg base aN (k+1) f e ps (lSp K sp):=by
 refine F.ok U (λvs H Q E ⟨Φ,ds,R,sm,tb,rl,h,_⟩=>by rw[rl.1];show len ds R h) (λa A outer s H vs Q E u ⟨Φ,ds,R,sm,tb,rl,h,j⟩=>?_);let⟨t,v,p⟩:=o a A outer s H E ds R u h;show⟨lS K t,v.ps S,Φ,H,Φ,jR N ds,_,.refl sm,Ab sm tb rl,p,⟨λy c l z r g V=>j .non c l .non r g .non,j,λ_ _ _ _ h=>h.elim,λ_ _ _ _ h=>h.elim⟩⟩
end
noncomputable def tX(K:Â)(b:Bool)(a:Addr):It:=match b with|true=>ra K a|false=>pB K a
section
variable{K:Â}{X:Cx}{z e a b:Ã}{es:Y Ã}{f p B:Ö}{t A:TD}{j:aX}
theorem BE{l:Ã}{j:TE}(G:X.K=K)(L:PE X l j):PI X z l (λw H R=>j w H λx r=>∃q a,x=.ref a/\(∃xs,SqB K q r a xs)/\R (tX K q a) r):=by
 subst G;intro g s w H R I h;refine aI (L g s w H _ I h) λv c F=>?_;let⟨x,r,u,O,N⟩:=F;let⟨bb,a,e,⟨xs,E⟩,q⟩:=N;subst e;cases O
 have C:∀b∈[c.heap.objs.size],eI X g r b:=λb J=>by
  have e:b=c.heap.objs.size:=by simpa using J
  subst e;show u.fpOk (Iu _) (u.hok.fresh (Iu _))
 cases bb with
 |true=>
  let⟨y,P,p,M⟩:=u.list E;refine Me p.isList ?_;show⟨c.heap.objs.size,[c.heap.objs.size],_,_,r,S,u.kept (t':=c.toks) λb o e=>IA _ e,Fh a _,⟨_,IM _ S,S,S⟩,C,q⟩
 |false=>
  let⟨y,P,p,M⟩:=u.tuple E;refine K1 (show c.heap.IsTuple a y.toArray from p) ?_;show⟨c.heap.objs.size,[c.heap.objs.size],_,_,r,S,u.kept (t':=c.toks) λb o e=>IA _ e,yJ a _,⟨_,IM _ S,S,S⟩,C,q⟩
theorem Bt{Φ:Hp}{ds:Y D}{vs:Y V}{a:Addr}{q:Bool}(h:SqB K q Φ a vs)(r:RpL K Φ ds vs):SteadyD K (tX K q a) Φ ds:=by
 cases q with
 |true=>show xZ h r
 |false=>show Cm h r
noncomputable def BX(t:TD):aX:=λρ R=>t ρ λd=>match d with|.lst ds=>R ds|.tup ds=>R ds|.fzl ds=>R ds|_=>False
theorem Ap{d:D}{R:Y D->Prop}(h:match d with|.lst ds=>R ds|.tup ds=>R ds|.fzl ds=>R ds|_=>False):∃ds,fh d=Z ds/\R ds:=by
 cases d with
 |lst ds=>show⟨ds,S,h⟩
 |tup ds=>show⟨ds,S,h⟩
 |fzl ds=>show⟨ds,S,h⟩
 |_=>show h.elim
theorem ca(h:PD K X e t):PID K X z e (BX t):=⟨λo=>(BE o (h.pe o)).imp λI H G x=>by let⟨u,Φ,ρ,R,E,t,k⟩:=x;show⟨u,Φ,ρ,_,E,t,λd c w v r g F=>by
 let⟨ds,y,r⟩:=Ap r;let⟨q,a,vs,rfl,l,C⟩:=F.seq y
 show⟨q,a,S,⟨vs,SqB.same g.s l⟩,k _ c w _ r g (Bt l C)⟩⟩⟩
theorem AX{a:Ã}{A:TA}{es:Y Ã}{k:Nat}(G:X.K=K)(L:Gl X "enumerate")(O:X.mg "enumerate"=ŕ)(J:PA X [a] A)(Q:starEach [a] X.env=[(Ř,eval a X.env)]) :
  PI X (.Tuple es k B) (.Call (.Name "enumerate" p) [a] [] f) (λx H R=>A x H λvs o=>∃b a xs,vs=[.ref a]/\SqB K b o a xs/\R (mC K b a) o):=by
 subst G;intro g s x H R I h;refine Call_ (ir I L O boot_enumerate (JM (aI (J f g s x H _ I h) λus v F=>?_) Q S));let⟨vs,o,w,T,a_⟩:=F;let⟨b,l,xs,e,P,q⟩:=a_;subst e
 cases T with
 |cons r rr=>
  cases rr;cases r;let⟨U,b_,p,be⟩:=w.sqb P;refine Db p λh' C M hsz N=>Ń C ?_;have E:Inv X g x o { v with heap:=h' }:=w.kept (t':=v.toks) N;have y:∀c,v.heap.objs.size<=c->eI X g o c:=λc u=>w.fpOk u (w.hok.fresh u)
  show⟨v.heap.objs.size+1,[v.heap.objs.size+1,v.heap.objs.size],_,_,o,S,E,Hn b l _ _ (Nat.succ_ne_self _),⟨⟨_,C⟩,M⟩,λc u=>by
   rcases IL.mp u with rfl|u
   ·show y _ (Nat.le_succ _)
   ·rw[Iz.mp u];show y _ (Iu _),q⟩
theorem yK{a b:Ã}{A:TA}{es:Y Ã}{k:Nat}(N:X.K=K)(P:Gl X "zip")(a_:X.mg "zip"=ŕ)(O:PA X [a,b] A)(T:starEach [a,b] X.env=[(Ř,eval a X.env),(Ř,eval b X.env)])(C:starEach [b] X.env=[(Ř,eval b X.env)]) :
  PI X (.Tuple es k B) (.Call (.Name "zip" p) [a,b] [] f) (λy H R=>A y H λvs l=>∃v w a1 a2 xs E,vs=[.ref a1,.ref a2]/\SqB K v l a1 xs/\SqB K w l a2 E/\R (pc K v a1 w a2) l):=by
 subst N;intro g s y H R I h;refine Call_ (ir I P a_ boot_zip (JM (aI (O f g s y H _ I h) λus x ⟨vs,l,o,r1,q1⟩=>?_) (by rw[T,C]) (by rw[C];rfl)));let⟨v,w,U,be,xs,E,e,J,L,q⟩:=q1;subst e
 cases r1 with
 |cons r rr=>
  cases rr with
  |cons r' rr=>
   cases rr;cases r;cases r';let⟨Rk,Tr,b_,_⟩:=o.sqb J;let⟨OS,Ts,p2,_⟩:=o.sqb L;refine yp b_ p2 λh' F z2 z3 z4 z5 Q=>Ŋ F ?_;have G:Inv X g y l { x with heap:=h' }:=o.kept (t':=x.toks) Q;have M:∀c,x.heap.objs.size<=c->eI X g l c:=λc u=>o.fpOk u (o.hok.fresh u);generalize x.heap.objs.size=n at *;refine⟨n+4,[n+4,n+2,n+3,n,n+1],_,_,l,S,G,Bu v w U be (n+4) (n+2) (n+3) n (n+1) (Et n),⟨F,z2,⟨_,_,z3⟩,z4,z5⟩,λc u=>M c ?_,q⟩;simp only[IL,KA,or_false]at u;rcases u with rfl|rfl|rfl|rfl|rfl
   ·show LJ _ _
   ·show LJ _ _
   ·show LJ _ _
   ·show Iu _
   ·show LJ _ _
noncomputable def EX(t:aX):aX:=λρ R=>t ρ λds=>match ds with| [.lst xs]=>R (gQ xs)| [.tup xs]=>R (gQ xs)| [.fzl xs]=>R (gQ xs)|_=>False
theorem ge{F:Y Ã}{G:Nat}(L:Gl X "enumerate")(M:X.mg "enumerate"=ŕ)(J:PAD K X [a] j)(N:starEach [a] X.env=[(Ř,eval a X.env)]:=by rfl):PID K X (.Tuple F G B) (.Call (.Name "enumerate" p) [a] [] f) (EX j):=
 ⟨λw=>(AX w L M (J.pa w) N).imp λU H C y=>by let⟨x,Φ,ρ,R,E,t,k⟩:=y;show⟨x,Φ,ρ,_,E,t,λds l o vs r g h _=>by
  have c:∀{d:D}{xs:Y D},RpL K l [d] vs->fh d=Z xs->R (gQ xs)->∃b a xs,vs=[.ref a]/\SqB K b o a xs/\C (mC K b a) o:=λ{d xs} h O r=>by let⟨v,rfl,P⟩:=h.one_inv;let⟨q,a,Q,rfl,u,I⟩:=P.seq O;show⟨q,a,Q,S,SqB.same g.s u,k _ l o _ r g (wM u I)⟩
  match ds,r with
  | [.lst xs],r=>show c h S r
  | [.tup xs],r=>show c h S r
  | [.fzl xs],r=>show c h S r⟩⟩
noncomputable def DW(t:aX):aX:=λρ R=>t ρ λds=>match ds with| [d,e]=>∃xs c,fh d=Z xs/\fh e=Z c/\R (gk xs c)|_=>False
theorem kz{F:Y Ã}{G:Nat}(M:Gl X "zip")(N:X.mg "zip"=ŕ)(L:PAD K X [a,b] j)(O:starEach [a,b] X.env=[(Ř,eval a X.env),(Ř,eval b X.env)]:=by rfl)(C:starEach [b] X.env=[(Ř,eval b X.env)]:=by rfl):PID K X (.Tuple F G B) (.Call (.Name "zip" p) [a,b] [] f) (DW j):=
 ⟨λo=>(yK o M N (L.pa o) O C).imp λσ H R' y=>by let⟨u,Φ,ρ,R,E,t,k⟩:=y;show⟨u,Φ,ρ,_,E,t,λds c x vs r g b_ _=>by
  match ds,r with
  | [d,e],⟨xs,ys,P,Q,r⟩=>
   let⟨v,w,rfl,U,be⟩:=b_.two_inv;let⟨a_,a1,ws,rfl,h,I⟩:=U.seq P;let⟨T,a2,us,rfl,l,J⟩:=be.seq Q
   show⟨a_,T,a1,a2,ws,us,S,SqB.same g.s h,SqB.same g.s l,k _ c x _ r g (GQ h l I J)⟩⟩⟩
variable{gs:fL}
noncomputable def uc(n:Nat)(t:fL):dH:=λd ρ R=>match d with|.tup ds=>ds.length=n/\t ds ρ R|.lst ds=>ds.length=n/\t ds ρ R|_=>False
theorem PG.or{z:Ã}{t t':TG}(h:PG X z t)(h':PG X z t'):PG X z (λv l H Q=>t v l H Q\/t' v l H Q):=by
 intro c s l H v u Q I r g;rcases g with g|g
 ·show h c s l H v u Q I r g
 ·show h' c s l H v u Q I r g
theorem eO{k n:Nat}(u:X.calm=ŗ)(h:PGDs K X es gs)(w:(Æ es X.env).length=n:=by rfl)(o:(Æ es X.env).findIdx? (·.1)=ŕ:=by rfl):PGD K X (.Tuple es k f) (uc n gs):=
 ⟨λc=>((sI c u (h.pg c) w o).or (tQ c u (h.pg c) w o)).imp λv y H Q x=>by
  let⟨l,Φ,ρ,d,R,E,r,g,k⟩:=x
  cases d with
  |tup ds=>cases r with|tup h1 h2 h3=>show .inl ⟨_,_,S,.of (E.fz _ _ h1),by rw[h2];show g.1,l,Φ,ρ,ds,R,E,⟨h2,h3⟩,g.2,k⟩
  |lst ds=>cases r with|lst h1 h2 h3=>show .inr ⟨_,_,S,.of (E.fz _ _ h1),by rw[h2];show g.1,l,Φ,ρ,ds,R,E,⟨h2,h3⟩,g.2,k⟩
  |_=>show g.elim⟩
theorem iW{k n:Nat}{t:fL}(h:GMs k t):GM k (uc n t):=⟨⟨λd ρ R r=>by
 cases d with
 |tup ds=>show⟨r.1,h.k.p ds ρ R r.2⟩
 |lst ds=>show⟨r.1,h.k.p ds ρ R r.2⟩
 |_=>show r⟩,λd ρ R c g r=>by
 cases d with
 |tup ds=>show⟨r.1,h.m ds ρ R c g r.2⟩
 |lst ds=>show⟨r.1,h.m ds ρ R c g r.2⟩
 |_=>show r⟩
theorem Ca{Φ H:Hp}{d:D}{v:V}{T:String}{r:Bool}(s:Same Φ H)(h:RpQ K Φ H d v)(e:kO d T=Z r):IsiV K H v T r:=by
 have sp:∀{c:Prop}[Decidable c]{x:Bool}{y:Ŗ Bool},(if c then Z x else y)=Z r->(c/\x=r)\/y=Z r:=λ{c _ x y} h=>by
  by_cases l:c
  ·rw[Iw l]at h;cases h;show .inl ⟨l,S⟩
  ·rw[Ir l]at h;show .inr h
 cases d with
 |int i=>
  cases h.int;rcases sp e with⟨rfl,rfl⟩|e
  ·show .int_int _
  rcases sp e with⟨rfl,rfl⟩|e
  ·show .int_bool _
  rcases sp e with⟨rfl,rfl⟩|e
  ·show .int_tuple _
  rcases sp e with⟨rfl,rfl⟩|e
  ·show .int_str _
  cases e
 |bl i=>
  cases h.bl;rcases sp e with⟨rfl,rfl⟩|e
  ·show .bl_int _
  rcases sp e with⟨rfl,rfl⟩|e
  ·show .bl_bool _
  rcases sp e with⟨rfl,rfl⟩|e
  ·show .bl_tuple _
  cases e
 |str i=>
  cases h.str;rcases sp e with⟨rfl,rfl⟩|e
  ·show .str_str _
  rcases sp e with⟨rfl,rfl⟩|e
  ·show .str_tuple _
  cases e
 |non=>cases e
 |tup ds=>
  let⟨a,vs,rfl,g,_,o⟩:=h.tup s;rcases sp e with⟨rfl,rfl⟩|e
  ·show .tup_tuple g
  rcases sp e with⟨rfl,rfl⟩|e
  ·show .tup_int g
  cases e
 |lst ds=>
  let⟨a,vs,rfl,g,o⟩:=h.lst s;rcases sp e with⟨rfl,rfl⟩|e
  ·show .lst_tuple (.of g)
  rcases sp e with⟨rfl,rfl⟩|e
  ·show .lst_list (.of g)
  cases e
 |fzl ds=>cases e
 |obj C fs=>cases e
 |map u=>cases e
 |exc _ _=>cases e
noncomputable def Gv(T:String)(t:TD):TD:=λρ R=>t ρ λd=>∃r,kO d T=Z r/\R (.bl r)
theorem fX{T:String}{h:Str}{c:Ö}(I:Gl X "isinstance")(J:X.mg "isinstance"=ŕ)(G:PQ K X a t)(F:PE X (.Name h c) (tC (.ty T)))
  (w:starEach [a,.Name h c] X.env=(Ř,eval a X.env)::starEach [.Name h c] X.env) (o:starEach [.Name h c] X.env=(Ř,eval (.Name h c) X.env)::starEach [] X.env):PD K X (.Call (.Name "isinstance" p) [a,.Name h c] [] f) (Gv T t):=
 ⟨λu=>(v7 (EU u) I J boot_isinstance (eY (G.pe u) (eY F pa_nil o) w) 'b' 'b' w (ar o ae)).imp λN H Q C=>by let⟨x,Φ,ρ,R,E,t,k⟩:=C;show⟨x,Φ,ρ,_,E,t,λd l y v r g M=>by
  let⟨rr,L,r⟩:=r
  show⟨v,T,rr,S,Ca g.s M L,k _ l y _ r g (.bl _)⟩⟩⟩
theorem wD(i:Int):kO (.int i) "int"=Z ŗ:=rfl
theorem yS(i:Int):kO (.int i) "bool"=Z Ř:=rfl
theorem fT(xs:Y D):kO (.tup xs) "tuple"=Z ŗ:=rfl
end
theorem cg{a:Type}{f:a->D}{ns:Y a}{i:Nat}{x:D}(h:(ns.map f)[i]?=Z x):∃k,x=f k/\ns[i]?=Z k:=by
 rw[IE]at h
 cases e:ns[i]? with
 |none=>rw[e]at h;cases h
 |some k=>rw[e]at h;cases h;show⟨k,S,S⟩
theorem cP{a:Type}{f:a->D}{ns:Y a}{i:Nat}{n:a}{k:Int}(h:ns[i]?=Z n)(e:k=(i:Int)):cF (ns.map f) k=Z (f n):=gJ (by rw[IE,h];rfl) e
theorem zt{ns:Y Int}{k:Int}(c:0<=k)(h:k<(ns.length:Int)):∃v:Int,cF (ns.map D.int) k=Z (.int v):=by
 have a:k.toNat<ns.length:=by omega
 show⟨_,cP (bL a) ()⟩
noncomputable def vg:cB:=λds R=>∃ns:Y Int,ds=[.fzl (ns.map D.int)]/\ns.length<=63/\R (.bl ŗ)
noncomputable def v4(K:Â):Sp:=λvs H Q _=>∃(a:Addr)(ns:Y Int),vs=[.ref a]/\SqL K H a (ns.map V.int)/\ns.length<=63/\TabF K H/\∀c,Q (.bl ŗ) c
theorem Bq{K:Â}:∀vs H Q E,v4 K vs H Q E->lSp K vg vs H Q E:=by rintro vs H Q E ⟨a,ns,rfl,c,e,tb,q⟩;refine⟨H,[.fzl (ns.map D.int)],λd=>d=.bl ŗ,Same.refl _,tb,.one ((RpL.ints ns).fzl c),⟨ns,S,e,S⟩,λd h j v r g f=>?_⟩;subst r;obtain rfl:=f.b;show q _
noncomputable def ax(r:ag):D:=.tup [.tup (r.1.map D.int),.int r.2]
theorem pA{c e:Type}(f:c->e)(xs:Y c)(lo a:Ŗ Int):cN (xs.map f) lo a=(cN xs lo a).map f:=by unfold cN;rw[Il,List.map_take,List.map_drop]
theorem wU(k:Nat)(z:Int):(List.replicate k [D.int z]).flatten=(List.replicate k z).map D.int:=by
 induction k with
 |zero=>rfl
 |succ k a=>rw[JL,Jn,a];rfl
section
variable{g:dH}{a:TD}{ρ:bz}{R:Y D->Prop}
theorem rP{ds:Y D}(j:Y D)(u:j.length=ds.length)(h:ds.length<sizeLine)(Q:Nat->D->Prop)(l:∀i y,Q i y->j[i]?=Z y)(o:∀i d,ds[i]?=Z d->g d ρ λe=>a e (Q i))(k:R j) :
  ds.length<sizeLine/\∃P:Nat->D->Prop,(∀i d,ds[i]?=Z d->g d ρ λe=>a e (P i))/\∀f:Y D,f.length=ds.length->(∀i y,f[i]?=Z y->P i y)->R f:=by
 refine⟨h,Q,o,λf r p=>?_⟩
 have:f=j:=by
  refine JU λi=>?_;rcases Js i f.length with c|c
  ·rw[bL c,l i _ (p i _ (bL c))]
  ·rw[Jp c,Jp ()]
 rw[this];show k
theorem gz{o:Type}{f:o->D}{xs:Y o}(h:o->D)(j:xs.length<sizeLine)(r:∀x∈xs,g (f x) ρ λc=>a c λy=>y=h x)(k:R (xs.map h)) :
  (xs.map f).length<sizeLine/\∃P:Nat->D->Prop,(∀i d,(xs.map f)[i]?=Z d->g d ρ λc=>a c (P i))/\∀l:Y D,l.length=(xs.map f).length->(∀i y,l[i]?=Z y->P i y)->R l:=by
 refine rP (xs.map h) (by simp) (by rw[Il];show j) (λi=>match xs[i]? with|some x=>λy=>y=h x|none=>λ_=>False) (λi y q=>?_) (λi d hd=>?_) k
 ·rw[IE]
  cases e:xs[i]? with
  |none=>rw[e]at q;show q.elim
  |some x=>rw[e]at q;rw[q];rfl
 ·let⟨x,rfl,p⟩:=cg hd
  have e:(match xs[i]? with|some x=>λy=>y=h x|none=>λ_=>False:D->Prop)=λy=>y=h x:=by rw[p]
  rw[e];show r x (ID p)
theorem jS{lo:Int}{n:Nat}(h:Nat->D)(e:n<sizeLine)(l:∀i,i<n->g (.int (lo+(i:Nat))) ρ λc=>a c λy=>y=h i)(k:R ((List.range n).map h)) :
  (cY lo n).length<sizeLine/\∃P:Nat->D->Prop,(∀i d,(cY lo n)[i]?=Z d->g d ρ λc=>a c (P i))/\∀j:Y D,j.length=(cY lo n).length->(∀i y,j[i]?=Z y->P i y)->R j:=
 gz (f:=λi:Nat=>D.int (lo+(i:Nat))) (xs:=List.range n) h (by rw[IF];show e) (λx o=>l x (IY.mp o)) k
theorem lV{e j:Type}(f:e->D)(h:j->D)(xs:Y e)(c:Y j):gk (xs.map f) (c.map h)=(List.zip xs c).map λp=>.tup [f p.1,h p.2]:=by unfold gk;rw[List.zipWith_map,Mz];rfl
theorem qP{j l:Type}{f:j->D}{h:l->D}{xs:Y j}{e:Y l}(w:j->l->D)(r:xs.length<sizeLine)(v:∀x∈xs,∀y∈e,g (.tup [f x,h y]) ρ λc=>a c λz=>z=w x y)(k:R (List.zipWith w xs e)) :
  (gk (xs.map f) (e.map h)).length<sizeLine/\∃P:Nat->D->Prop,(∀i d,(gk (xs.map f) (e.map h))[i]?=Z d->g d ρ λc=>a c (P i))/\∀o:Y D,o.length=(gk (xs.map f) (e.map h)).length->(∀i y,o[i]?=Z y->P i y)->R o:=by
 rw[lV];refine gz (λp:j×l=>w p.1 p.2) ?_ (λp u=>v p.1 (Li u).1 p.2 (Li u).2) ?_
 ·rw[MD];omega
 ·rw[Mz];show k
end
end L2
namespace L2
theorem ff{p:Prop}(h:Ř=ŗ):p:=by cases h
theorem tf{p:Prop}(h:ŗ=Ř):p:=by cases h
end L2
namespace L2
end L2
namespace L2
theorem gp{a:Type}(f:a->D)(es:Y a)(d:a):es.map f++[f d]=(es++[d]).map f:=by simp
theorem pU{a:Type}(f:a->D)(es fs:Y a):es.map f++fs.map f=(es++fs).map f:=by simp
end L2
namespace L2
open PySem PySem.Spec PyProof.Rows
section
variable{g:dH}{a:TD}{ρ:bz}{R:Y D->Prop}
theorem jQ{l:Type}{f:l->D}{xs:Y l}(h:l->Int)(e:xs.length<sizeLine)(o:∀x∈xs,g (f x) ρ λc=>a c λy=>y=.int (h x))(k:R ((xs.map h).map D.int)) :
  (xs.map f).length<sizeLine/\∃P:Nat->D->Prop,(∀i d,(xs.map f)[i]?=Z d->g d ρ λc=>a c (P i))/\∀j:Y D,j.length=(xs.map f).length->(∀i y,j[i]?=Z y->P i y)->R j:=
 gz (λx=>D.int (h x)) e o (by rw[Jw]at k;show k)
end
section
variable{K:Â}{X:Cx}
theorem yo(h:X.K=K):oJ X (sL K):=h▸Bk
end
section
variable{K:Â}{X:Cx}{Φ H:Hp}{a e:Ã}{o:TD}{C:Addr}{j:Str}{l:Ö}
theorem uB{g:Str}{d:D}:∀{vs:Y (Str×V)}{fs:Y (Str×D)},vs.map (·.1)=fs.map (·.1)->(∀(i:Nat)(v:Str×V)(e:Str×D),vs[i]?=Z v->fs[i]?=Z e->Rp K Φ e.2 v.2)->fs.lookup g=Z d->∃v,vs.lookup g=Z v/\Rp K Φ d v
 | [],[],_,_,h=>by cases h
 | [],_::_,h,_,_=>by cases h
 |_::_,[],h,_,_=>by cases h
 |(x,v)::vs,(y,f)::fs,h,w,p=>by
  rw[IQ,IQ]at h;let⟨r,z⟩:=LG h;have r:x=y:=r;subst r;rw[Jc]at p ⊢
  cases c:g==x with
  |true=>
   rw[c]at p;cases p;show⟨v,S,w 0 _ _ S S⟩
  |false=>
   rw[c]at p;show uB z (λi u e B A=>w (i+1) u e B A) p
noncomputable def Gk(nm:Str)(f:Str)(t:TD):TD:=λρ R=>t ρ λx=>match x with|.obj Sa fs=>Sa=nm/\∃d,fs.lookup f=Z d/\R d|_=>False
theorem kg{c:TE}(f:X.K=K)(h:PE X a c)(g:Ë a j X.env (eval a X.env)=eval a X.env):PE X (.Attribute a j l) (vM K c j):=f▸wO h g
theorem aZ{nm:Str}(c:Cls K C)(M:NoAttr K C j)(F:Ò K Á nm=Z (Z (.ref C)))(G:PQ K X a o)(I:Ë a j X.env (eval a X.env)=eval a X.env:=by rfl):PD K X (.Attribute a j l) (Gk nm j o):=
 ⟨λu=>(kg u (G.pe u) I).imp λP H Q y=>by let⟨w,Φ,ρ,R,E,t,k⟩:=y;show⟨w,Φ,ρ,_,E,t,λd h x v r g f=>by
  cases d with
  |obj O fs=>
   let⟨rfl,d,J,r⟩:=r;rcases f with f|⟨_,_,_,e,_⟩
   ·cases f with
    |obj p z A B=>
     rw[F]at p;cases p;let⟨v,L,N⟩:=uB A B J;show⟨_,_,_,_,v,S,g.s _ _ z,c,M,L,k d h x v r g N⟩
   ·cases e
  |_=>show r.elim⟩⟩
end
section
variable{K:Â}{X:Cx}{a:Ã}{c p:Ö}
noncomputable def yN(t:TA):TE:=λf H Q=>t f H λvs e=>∃j:Int,vs=[.int j]/\∀r,e r=ŕ->Q (.ref r) (aq e r (.rng 0 j))
theorem Ek{u:TA}(x:Gl X "range")(y:X.mg "range"=ŕ)(w:PA X [a] u)(z:starEach [a] X.env=[(Ř,eval a X.env)]:=by rfl):PE X (.Call (.Name "range" p) [a] [] c) (yN u):=by
 intro f s C H R I h;refine Call_ (ir I x y boot_range (JM (aI (w c f s C H _ I h) λus g v=>?_) z S));let⟨vs,E,l,B,A⟩:=v;let⟨j,e,q⟩:=A;subst e
 cases B with
 |cons r rr=>
  cases rr;let⟨t,rfl⟩:=r;refine call_range_1 ⟨.ref g.heap.objs.size,_,l.laid (a:=g.heap.objs.size) (o:=.rng 0 j) (t':=g.toks+1+1) (λb o e=>IA _ e) (Iu _) ⟨_,_,_,IM _ S⟩,S,q _ (l.hok.fresh (Iu _))⟩
noncomputable def gX(n:Nat):Y V:=(List.range n).map λi=>V.int (i:Nat)
theorem lN(n:Nat):(gX n).length=n:=by unfold gX;simp
theorem qC{f g:Type}{F:f->g->Prop}:∀{xs:Y f}{e:Y g},xs.length=e.length->(∀(i:Nat) x y,xs[i]?=Z x->e[i]?=Z y->F x y)->Paired F xs e
 | [],[],_,_=>.nil
 |x::xs,y::e,j,h=>.cons (h 0 x y S S) (qC (by simpa using j) λi u v l o=>h (i+1) u v l o)
theorem vp{n i:Nat}{v:V}(h:(gX n)[i]?=Z v):v=.int (i:Nat):=by
 have e:i<n:=by have:=az h;rwa [lN]at this
 unfold gX at h;rw[IE,Jr e]at h;cases h;rfl
theorem AZ{Φ:Hp}(n:Nat):RpL K Φ (cY 0 n) (gX n):=⟨by rw[lN,gA],λi v d e hd=>by
 rw[vp e,(ia hd).2,Jt]
 show .int _⟩
end
section
variable{P:Å}{w:È}{K:Â}{mg:Str->Ŗ Value}{base:Heap}
theorem Fun.okL{x qual:Str}{st:Ç}{f:Addr}{c:Í}{N ps:Y Str}{k:Nat}{sp:Sp}(F:Fun K x qual st f c)(U:FnScope N ps (av st))(len:∀vs H Q E,sp vs H Q E->vs.length=ps.length)
  (j:∀(a:Value)(A:Ì)(outer:Y ì)(s:À)(H:Hp)(vs:Y V)(Q:VK)(E:XK),c.code=a->Room k (A.deeper (ê qual (av st) s.heap.objs.size f a))->sp vs H Q E->
   ∃t,PSs (iu aN P w K mg base N qual (av st) f a A outer s H E).nox (gu st) t/\t { nx:=λ_ e=>Q .non e,rt:=Q } (eQ N vs) H):FnOk P w K mg base aN (k+1) f c ps sp:=by
 let⟨v,y,kV,o,z,u,a,ct,r,rfl,lk,g⟩:=F.ex;refine se lk g U len λA outer s H vs Q E p l=>?_;let⟨t,h,q⟩:=j a A outer s H vs Q E S p l;show⟨t,h.nox,q⟩
end
theorem uu{K:Â}{x:Str}(a:Ò K Á x=Z ŕ):pR K x=ŕ:=by unfold pR;simp only[a]
end L2
namespace L2
open PySem PySem.W PyProof.Rows
section
variable{a:Nat->Int}{N:Nat}
variable(c:∀i j,i<N->j<N->a i=a j->i=j)
include c
end
end L2
namespace L2
open PySem PySem.Spec PySem.W PyProof.Rows PySem.Calls
end L2
namespace L2
open PySem PySem.Spec PySem.W PyProof.Rows PySem.Calls
end L2
namespace L2
open PySem PySem.Spec PyProof.Rows
noncomputable def gF:aD->D
 |.inl i=>.int i
 |.inr s=>.str s
theorem zS{K:Â}{Φ:Hp}{k:aD}{v:V}(r:Rp K Φ (gF k) v):v=kV k:=by
 cases k with
 |inl i=>obtain rfl:=r.i;rfl
 |inr s=>obtain rfl:=r.s;rfl
theorem FK{K:Â}{Φ H:Hp}{k:aD}{v:V}(r:RpQ K Φ H (gF k) v):v=kV k:=by
 cases k with
 |inl i=>show RpQ.int r
 |inr s=>show RpQ.str r
theorem tF{K:Â}{Φ:Hp}{a:Y aD}{vs:Y V}(r:RpL K Φ (a.map gF) vs):vs=a.map kV:=by
 refine JU λi=>?_;rw[IE]
 cases h:a[i]? with
 |none=>
  have c:=Ll.mp h;show Jp (by rw[r.1,Il];show c)
 |some k=>
  let⟨v,e,f⟩:=r.at (i:=i) (d:=gF k) (by rw[IE,h];rfl);rw[e,zS f];rfl
noncomputable def iX(k:aD)(a:Y aD):Bool:=a.any λj=>decide (j=k)
theorem C5(k:aD)(a:Y aD):iX k a=ŗ↔k∈a:=by unfold iX;rw[Lf];show⟨λ⟨j,c,e⟩=>Jd e▸c,λh=>⟨k,h,Jh S⟩⟩
theorem wA(k:aD):ii (kV k)=ŗ:=by cases k<;>rfl
theorem AL(j k:aD):ie (kV j) (kV k)=decide (j=k):=by
 cases j with
 |inl a=>
  cases k with
  |inl b=>change (a==b)=_;by_cases h:a=b<;>simp[h]
  |inr b=>change Ř=_;simp
 |inr a=>
  cases k with
  |inl b=>change Ř=_;simp
  |inr b=>change (a==b)=_;by_cases h:a=b<;>simp[h]
theorem FJ(k:aD)(a:Y aD):jE (kV k) (a.map kV)=iX k a:=by unfold jE iX;rw[MT];show List.any_congr S λj=>AL j k
noncomputable def Fo(a:Bool):da:=λe f R=>∃(k:aD)(c:Y aD),e=gF k/\fh f=Z (c.map gF)/\R (.bl (a != iX k c))
section
variable{K:Â}{X:Cx}
theorem yY:OpD K X (É .In) (Fo Ř):=⟨λo c s E H x y u v Q I B C g=>by
 let⟨Φ,F,G,R,sm,p,r,⟨k,f,rfl,e,h⟩,A⟩:=g;cases FK p;let⟨a,vs,rfl,q,rl⟩:=r.seq sm e;cases tF rl;refine EB c s E H _ _ u v Q I B C ⟨a,_,S,by rw[o];show q,wA k,?_,?_⟩
 ·rw[Kf];intro z w;let⟨j,_,rfl⟩:=I0.mp w;show wA j
 ·have l:(if Ř=ŗ then !jE (kV k) (f.map kV) else jE (kV k) (f.map kV))=(Ř != iX k f):=by rw[FJ];simp
  rw[l]
  show A _ Φ H _ h (.refl sm) (.bl _)⟩
end
end L2
namespace L2
open PySem PySem.Spec PySem.W PyProof.Rows PySem.Calls
end L2
namespace L2
open PySem PySem.Spec PyProof.Rows
section
variable{K:Â}{X:Cx}{a:Ã}{f p z A:Ö}{w:aX}
theorem Cc(G:X.calm=ŗ):eg X (.type "list") (λxs H Q=>∃p j,xs=[.ref p]/\H p=Z (.rng 0 j)/\-(2^62)<=j/\j<=1000/\∀l,H l=ŕ->Q (.ref l) (aq H l (.lst (gX j.toNat)))):=by
 intro B s U H xs us Q I r h;let⟨p,j,rfl,N,a_,be,q⟩:=h;let⟨u,rfl,T⟩:=hZ r;cases T;let⟨t,u,v,M⟩:=(show ObjOk X.prog X.w H s.heap p (.rng 0 j)from I.hok p _ N)
 have L:Builtin.Range.rangeSize 0 j 1=(j.toNat:Int):=by rw[Ę];split<;>omega
 refine œ (I.ok.hd G) M (ō 'b' 'b' a_ ()) L () λh' E g c kp J C=>?_
 have O:Vals (gX j.toNat) g.toList:=qC (by rw[lN,J2,C.1]) λi x y P R=>by rw[vp P];let⟨t,rfl⟩:=C.2 i y (by simpa using R);show⟨t,by simp⟩
 have F:Inv X B U (aq H s.heap.objs.size (.lst (gX j.toNat))) { s with heap:=h',toks:=E }:=
  I.laid (t':=E) (λb o e=>kp b o e) (Iu _) (show ObjOk X.prog X.w _ _ _ (.lst (gX j.toNat))from ⟨by rw[lN,LA];omega,g.toList,c,O,by simpa using J⟩)
 show⟨.ref s.heap.objs.size,_,F,S,q _ (I.hok.fresh (Iu _))⟩
noncomputable def yW(t:aX):aX:=λρ R=>t ρ λds=>match ds with| [.int j]=>(-(2^62)<=j/\j<=1000)/\R (cY 0 j.toNat)|_=>False
theorem ww(u:X.calm=ŗ)(I:Gl X "list")(G:X.mg "list"=ŕ)(F:Gl X "range")(B:X.mg "range"=ŕ)(M:PAD K X [a] w)(N:starEach [a] X.env=[(Ř,eval a X.env)]:=by rfl) :
  PF K X (.Call (.Name "list" p) [.Call (.Name "range" z) [a] [] A] [] f) (yW w):=
 ⟨λL=>(le (Cc u) I G Ġ (eY (Ek F B (M.pa L) N) pa_nil bj) 'b' 'b' bj ae).imp λT H Q x=>by
  let⟨h,Φ,ρ,R,E,t,k⟩:=x
  show⟨h,Φ,ρ,_,E,t,λds U o vs r g rl _=>by
   match ds,r with
   | [.int j],r=>
    let⟨v,rfl,P⟩:=rl.one_inv;obtain rfl:=P.i;refine⟨j,S,λO C=>⟨O,j,S,bh,r.1.1,r.1.2,λl e=>?_⟩⟩;have c:=Gr.fresh g.s C (.rng 0 j);have J:=Gr.fresh c.s e (.lst (gX j.toNat));have y:o l=ŕ:=c.h.free e
    show k _ _ _ l _ r.2 ((g.trans c).trans J) (g.h.free y) (c.s.free e) bh (AZ _)⟩⟩
end
section
variable{K:Â}{x:Str}
noncomputable def uD:D->Prop
 |.int _=>True
 |.bl _=>True
 |.str _=>True
 |.non=>True
 |_=>False
theorem Rp.flat{Φ a:Hp}{d:D}{v:V}(h:Rp K Φ d v)(c:uD d):Rp K a d v:=by
 cases h with
 |int i=>show .int i
 |bl b=>show .bl b
 |str x=>show .str x
 |non=>show .non
 |_=>show c.elim
end
theorem ED{K:Â}(h:Ò K Á "least_grown"=Z ŕ/\Ò K Á "greatest_first"=Z ŕ):qH K=[]:=by unfold qH;rw[KU,uu h.1,KU,uu h.2];rfl
structure Cl(P:Å)(w:È)(K:Â)(mg:Str->Option Value)(base:Heap)(n:Nat)(x:Str)(ps:List Str)(z:cB):Prop where
 ex:∃(f:Addr)(fd:Í),FnOk P w K mg base aN n f fd ps (lSp K z)/\Binds K fd ps []/\ã K (.ref f)=ŗ/\mg x=Z (.ref f)
section
variable{P:Å}{w:È}{K:Â}{mg:Str->Ŗ Value}{base:Heap}{n m:Nat}{x:Str}{ps:Y Str}{z:cB}{X:Cx}{e:Ã}{es:Y Ã}{o p:Ö}{u:aX}{st:Ç}{f:Addr}{j:Í}{h:Heap}
theorem Cl.mono(C:Cl P w K mg base n x ps z)(k:n<=m:=by decide):Cl P w K mg base m x ps z:=by let⟨f,j,F,r⟩:=C.ex;show⟨f,j,F.mono k,r⟩
theorem Cl.of(F:Fun K x x st f j)(b:Binds K j ps [])(m:mg x=Z (.ref f))(H:FnOk P w K mg base aN n f j ps (lSp K z)):Cl P w K mg base n x ps z:=⟨f,j,H,b,F.kp,m⟩
theorem bg(C:Cl X.prog X.w K X.mg X.base n x ps z)(y:Room n X.A)(v:Gl X x)
  (l:PAD K X (e::es) u) (r:starEach (e::es) X.env=(Ř,eval e X.env)::starEach es X.env) (a:(backTo o (starEach es X.env)).any (·.1)=Ř) (c:ab x:=by decide) :
  PD K X (.Call (.Name x p) (e::es) [] o) (nG z u):=⟨λg=>by
 subst g;let⟨f,j,F,b,k,m⟩:=C.ex
 show (Hf F y v m k b jp l r a c).pe S⟩
noncomputable def dE(P:ī)(x:Str)(n:Nat)(v:Value):DictEntry:=⟨PyData.keyHash P x,.str x n,v⟩
noncomputable def cO(n:Str)(a:Nat)(q:Str)(b c:Nat)(l m:Int)(k:Int)(r:Nat)(g:Int)(t:Nat)(x y:Value)(z:Nat)(i:Int)(d:Nat):Ô:=⟨.type "code",ŕ,.fields #[.str n a,.str q b,.str "/claim/cut.py" c,.int l 0,.int m 0,.int 0 0,.int 0 0,.int k 0,.ref r,.bool ŗ,.int g 0,.ref t,.none,x,y,.ref z,.int i 0,.int l 0,.str "/claim/cut.py" d],#[]⟩
noncomputable def fO(s:Ç)(n q m:Str)(i c:Nat):Ô:=⟨.type "function",ŕ,.func (ę n q (iT s) (gu s) (av s) .none .none .none (.str m i) ŕ (.ref c) .none),#[]⟩
noncomputable def Has(K:Â)(s:Ç)(x:Str):Prop:=∃f m i c,Ò K Á x=Z (Z (.ref f))/\K.lookup f=Z (fO s x x m i c)/\ă K (.ref c) x=ŗ
theorem Has.of{s:Ç}{m:Str}{i c:Nat}(a:Ò K Á x=Z (Z (.ref f)))(l:K.lookup f=Z (fO s x x m i c))(k:ă K (.ref c) x=ŗ):Has K s x:=⟨f,m,i,c,a,l,k⟩
theorem Has.fn(a:Has K st x)(X:K.In h)(G:h.Ns Á mg):∃f j,Fun K x x st f j/\mg x=Z (.ref f)/\∃m i c,j=ę x x (iT st) (gu st) (av st) .none .none .none (.str m i) ŕ (.ref c) .none:=by let⟨f,m,i,c,a,l,k⟩:=a;show⟨f,_,wl l k (by unfold ã;simp only[l];rfl),mg_of X G a,m,i,c,S⟩
theorem p7{A:Type}{p:Y A->Prop}(h:∀a0,p [a0]):∀us:Y A,us.length=1->p us
 | [a0],_=>h a0
theorem qD{A:Type}{p:Y A->Prop}(h:∀a0 a1,p [a0,a1]):∀us:Y A,us.length=2->p us
 | [a0,a1],_=>h a0 a1
theorem qT{A:Type}{p:Y A->Prop}(h:∀a0 a1 a2,p [a0,a1,a2]):∀us:Y A,us.length=3->p us
 | [a0,a1,a2],_=>h a0 a1 a2
theorem qj{A:Type}{p:Y A->Prop}(h:∀a0 a1 a2 a3,p [a0,a1,a2,a3]):∀us:Y A,us.length=4->p us
 | [a0,a1,a2,a3],_=>h a0 a1 a2 a3
inductive HasM(K:Â)(st:Ç)(C:Addr)(m q:Str):Prop|mk (f:Addr) (j:Í) (_:Ð K (.ref C) m=Z (Z (.ref f))) (_:isFn K (.ref f)=ŗ) (_:ã K (.ref f)=ŗ) (_:Fun K m q st f j)
theorem HasM.of{C:Addr}{m q:Str}{A:Value}{B y:Ŗ Addr}{v:Array (Ŗ Value)}{kV g E r ct:Value}(a:Ð K (.ref C) m=Z (Z (.ref f)))(i:isFn K (.ref f)=ŗ)(l:K.lookup f=Z ⟨A,B,.func (ę m q (iT st) (gu st) (av st) .none kV g E y r ct),v⟩)(c:ă K r q=ŗ)(k:ã K (.ref f)=ŗ):HasM K st C m q:=⟨f,_,a,i,k,wl l c k⟩
noncomputable abbrev qO(st:Ç)(x q:Str)(ps:Y Str):Prop:=∀(kV a l:Value)(g:Ŗ Addr)(c ct:Value)(us:Y Value),us.length=ps.length->bindArgs (ę x q (iT st) (gu st) (av st) .none kV a l g c ct) ⟨us,[]⟩=pure (ps.zip us)
theorem Fun.bd{q:Str}(F:Fun K x q st f j)(b:qO st x q ps:=by intro _ _ _ _ _ _;first|show p7 λ_=>rfl|show qD λ_ _=>rfl|show qT λ_ _ _=>rfl|show qj λ_ _ _ _=>rfl|show us_0 S|show us_5 λ_ _ _ _ _=>rfl|show us_6 λ_ _ _ _ _ _=>rfl|show us_7 λ_ _ _ _ _ _ _=>rfl|show us_8 λ_ _ _ _ _ _ _ _=>rfl):Binds K j ps []:=F.binds b
theorem Fun.cl(F:Fun K x x st f j)(m:mg x=Z (.ref f))(H:FnOk P w K mg base aN n f j ps (lSp K z))
  (b:qO st x x ps:=by intro _ _ _ _ _ _;first|show p7 λ_=>rfl|show qD λ_ _=>rfl|show qT λ_ _ _=>rfl|show qj λ_ _ _ _=>rfl|show us_0 S|show us_5 λ_ _ _ _ _=>rfl|show us_6 λ_ _ _ _ _ _=>rfl|show us_7 λ_ _ _ _ _ _ _=>rfl|show us_8 λ_ _ _ _ _ _ _ _=>rfl):Cl P w K mg base n x ps z:=.of F (F.binds b) m H
end
section
variable{K:Â}{X:Cx}{n:Nat}{x:Str}{ps:Y Str}{z:cB}{e:Ã}{es:Y Ã}{c p:Ö}{j:aX}
theorem RpQ.up{Φ f:Hp}{d:D}{v:V}(h:RpQ K Φ f d v)(g:Same Φ f):Rp K f d v:=by
 rcases h with h|⟨a,vs,ds,rfl,rfl,l,rl⟩
 ·show h.same g
 ·show .lst l rl.1 (rl.same g).2
noncomputable def A5(sp:cB)(t:aX):TD:=λρ R=>t ρ λds=>sp ds λd=>uD d/\R d
theorem wu(C:Cl X.prog X.w K X.mg X.base n x ps z)(P:Room n X.A)(M:Gl X x)
  (J:PAQ K X (e::es) j) (L:starEach (e::es) X.env=(Ř,eval e X.env)::starEach es X.env) (B:(backTo c (starEach es X.env)).any (·.1)=Ř) (G:ab x:=by decide) :
  PD K X (.Call (.Name x p) (e::es) [] c) (A5 z j):=⟨λI=>by
 subst I;let⟨f,b_,F,b,k,m⟩:=C.ex;refine (qv F P M m k b .nil jp (J.pa S) G L B).imp λσ H Q A=>?_;let⟨w,Φ,ρ,R,E,t,k⟩:=A;refine⟨w,Φ,ρ,_,E,t,λds a y vs r g rl=>?_⟩;refine⟨y,ds,_,λ_ _ h=>h,(E.tb.same g.f).same g.s,?_,r,λd be o v l g' U=>?_⟩
 ·rw[Ji];show⟨rl.1,λi v d a_ hd=>RpQ.up (rl.2 i v d a_ hd) g.s⟩
 ·show k d a o v l.2 ⟨g.f,g.h.trans g'.h,λb u h=>g'.h b u (g.s b u h),λq u O N T=>g.o q u O N T⟩ (U.flat l.1)⟩
end
end L2
namespace L2
open PySem PySem.Spec PySem.W PyProof.Rows PySem.Calls
end L2
namespace L2
open PySem PySem.Spec PyProof.Rows
inductive Fl where|v (d:D)|l (xs:List D)|al (p:Addr)
inductive Om where|lst (xs:List D)|map (M0:List (aD×D))|mpT (M0:List (List aD×D))|obj (nm:Str) (fs:List (Str×Fl))|ptr|tl (ps:List (Addr×Option (List D)))|pr (xs:List D) (d:D)
noncomputable def Om.solid:Om->Bool
 |.ptr=>Ř
 |.tl _=>Ř
 |.pr _ _=>Ř
 |_=>ŗ
inductive Sm where|v (d:D)|ob (a:Option Addr) (o:Om)
noncomputable abbrev Sm.own(xs:Y D):Sm:=.ob ŕ (.lst xs)
noncomputable abbrev ak:=Y (Ŗ Sm)
noncomputable def gw{c:Type}(K:Â)(Φ:Hp)(a:c×D)(b:c×V):Prop:=a.1=b.1/\Rp K Φ a.2 b.2
inductive FlsR(K:Â)(Φ H:Hp):List (Str×Fl)->List (Str×V)->List Addr->Prop where
 |nil:FlsR K Φ H [] [] []
 |v {f:Str} {d:D} {v:V} {fs:List (Str×Fl)} {vs:List (Str×V)} {qs:List Addr}:Rp K Φ d v->FlsR K Φ H fs vs qs->FlsR K Φ H ((f,.v d)::fs) ((f,v)::vs) qs
 |l {f:Str} {ds:List D} {ws:List V} {q:Addr} {fs:List (Str×Fl)} {vs:List (Str×V)} {qs:List Addr}:H q=Z (.lst ws)->RpL K Φ ds ws->FlsR K Φ H fs vs qs->FlsR K Φ H ((f,.l ds)::fs) ((f,.ref q)::vs) (q::qs)
 |al {f:Str} {p:Addr} {fs:List (Str×Fl)} {vs:List (Str×V)} {qs:List Addr}:FlsR K Φ H fs vs qs->FlsR K Φ H ((f,.al p)::fs) ((f,.ref p)::vs) qs
inductive TlS(K:Â)(Φ H:Hp):List (Addr×Option (List D))->List Addr->Prop where
 |nil:TlS K Φ H [] []
 |ptr {q:Addr} {ps:List (Addr×Option (List D))} {F:List Addr}:TlS K Φ H ps F->TlS K Φ H ((q,ŕ)::ps) F
 |own {q:Addr} {ds:List D} {ws:List V} {ps:List (Addr×Option (List D))} {F:List Addr}:H q=Z (.lst ws)->RpL K Φ ds ws->TlS K Φ H ps F->TlS K Φ H ((q,Z ds)::ps) (q::F)
inductive OmS(K:Â)(Φ H:Hp):Om->Addr->List Addr->Prop where
 |lst {ds:List D} {vs:List V} {p:Addr}:H p=Z (.lst vs)->RpL K Φ ds vs->OmS K Φ H (.lst ds) p [p]
 |map {M0:List (aD×D)} {ws:List (aD×V)} {p:Addr}:H p=Z (.dK ws)->Paired (gw K Φ) M0 ws->OmS K Φ H (.map M0) p [p]
 |mpT {M0:List (List aD×D)} {ws:List (List aD×V)} {p:Addr}:H p=Z (.dT ws)->Paired (gw K Φ) M0 ws->OmS K Φ H (.mpT M0) p [p]
 |obj {nm:Str} {fs:List (Str×Fl)} {C dx:Addr} {vs:List (Str×V)} {p:Addr} {qs:List Addr}:Ò K Á nm=Z (Z (.ref C))->H p=Z (.ins C dx vs)->FlsR K Φ H fs vs qs->(p::qs).Nodup->OmS K Φ H (.obj nm fs) p (p::qs)
 |ptr {p:Addr}:OmS K Φ H .ptr p []
 |tl {ps:List (Addr×Option (List D))} {p:Addr} {F:List Addr}:Φ p=Z (.tup (ps.map λq=>V.ref q.1))->TlS K Φ H ps F->F.Nodup->OmS K Φ H (.tl ps) p F
 |pr {ds:List D} {d:D} {p q:Addr} {v:V} {ws:List V}:Φ p=Z (.tup [.ref q,v])->H q=Z (.lst ws)->RpL K Φ ds ws->Rp K Φ d v->OmS K Φ H (.pr ds d) p [q]
section
variable{K:Â}{H f Φ a:Hp}{fs:Y (Str×Fl)}{vs:Y (Str×V)}{c F F':Y Addr}{o:Om}{p:Addr}
theorem oE{e g:Type}{F G:e->g->Prop}(h:∀x y,F x y->G x y):∀{l:Y e}{m:Y g},Paired F l m->Paired G l m
 |_,_,.nil=>.nil
 |_,_,.cons r t=>.cons (h _ _ r) (oE h t)
theorem FlsR.keep(s:Same Φ a)(h:FlsR K Φ H fs vs c)(k:∀b∈c,∀u,H b=Z u->f b=Z u):FlsR K a f fs vs c:=by
 induction h with
 |nil=>show .nil
 |v r _ e=>show .v (r.same s) (e k)
 |l g j _ e=>show .l (k _ Iy _ g) (j.same s) (e λb w=>k b (IC _ w))
 |al _ e=>show .al (e k)
theorem FlsR.at(h:FlsR K Φ H fs vs c):∀b∈c,∃u,H b=Z (.lst u):=by
 induction h with
 |nil=>intro b e;cases e
 |v r _ g=>show g
 |l j w _ g=>
  intro b e;rcases IL.mp e with rfl|e
  ·show⟨_,j⟩
  ·show g b e
 |al _ g=>show g
theorem FlsR.names(h:FlsR K Φ H fs vs c):vs.map (·.1)=fs.map (·.1):=by
 induction h with
 |nil=>rfl
 |v r _ e=>rw[IQ,IQ,e]
 |l g j _ e=>rw[IQ,IQ,e]
 |al _ e=>rw[IQ,IQ,e]
theorem TlS.keep{ps:Y (Addr×Ŗ (Y D))}(s:Same Φ a)(h:TlS K Φ H ps F)(k:∀b∈F,∀u,H b=Z u->f b=Z u):TlS K a f ps F:=by
 induction h with
 |nil=>show .nil
 |ptr _ e=>show .ptr (e k)
 |own g j _ e=>show .own (k _ Iy _ g) (j.same s) (e λb l=>k b (IC _ l))
theorem TlS.at{ps:Y (Addr×Ŗ (Y D))}(h:TlS K Φ H ps F):∀b∈F,∃l,H b=Z (.lst l):=by
 induction h with
 |nil=>intro b e;cases e
 |ptr _ g=>show g
 |own j r _ g=>
  intro b e;rcases IL.mp e with rfl|e
  ·show⟨_,j⟩
  ·show g b e
theorem TlS.out{q:Addr}{ds:Y D}:∀{ps:Y (Addr×Ŗ (Y D))}{F:Y Addr}{k:Nat},TlS K Φ H ps F->ps[k]?=Z (q,Z ds)->∃e F',H q=Z (.lst e)/\RpL K Φ ds e/\TlS K Φ H (ps.set k (q,ŕ)) F'/\F.Perm (q::F')
 |_,_,k,.nil,h=>by simp at h
 |_,_,0,.ptr _,h=>by simp at h
 |_,_,k+1,.ptr t,h=>by let⟨e,F',g,j,r,u⟩:=TlS.out t h;show⟨e,F',g,j,.ptr r,u⟩
 |_,_,0,.own g j t,h=>by cases h;show⟨_,_,g,j,.ptr t,.refl _⟩
 |_,_,k+1,.own (q:=l) g j t,h=>by let⟨e,F',v,w,x,y⟩:=TlS.out t h;show⟨e,l::F',v,w,.own g j x,(y.cons l).trans (List.Perm.swap q l F')⟩
theorem OmS.keep(s:Same Φ a)(h:OmS K Φ H o p F)(k:∀b∈F,∀u,H b=Z u->f b=Z u):OmS K a f o p F:=by
 cases h with
 |lst e g=>show .lst (k _ Iy _ e) (g.same s)
 |map e g=>show .map (k _ Iy _ e) (oE (λ_ _ r=>⟨r.1,r.2.same s⟩) g)
 |mpT e g=>show .mpT (k _ Iy _ e) (oE (λ_ _ r=>⟨r.1,r.2.same s⟩) g)
 |obj l e g j=>show .obj l (k _ Iy _ e) (g.keep s λb w=>k b (IC _ w)) j
 |ptr=>show .ptr
 |tl e g j=>show .tl (s _ _ e) (g.keep s k) j
 |pr e g j v=>show .pr (s _ _ e) (k _ Iy _ g) (j.same s) (v.same s)
theorem OmS.mem(h:OmS K Φ H o p F)(e:o.solid=ŗ:=by rfl):p∈F:=by cases h<;>first|show Iy|cases e
theorem OmS.at(h:OmS K Φ H o p F):∀b∈F,∃u,H b=Z u/\nr u:=by
 intro b g
 cases h with
 |lst e j=>rw[Iz.mp g];show⟨_,e,trivial⟩
 |map e j=>rw[Iz.mp g];show⟨_,e,trivial⟩
 |mpT e j=>rw[Iz.mp g];show⟨_,e,trivial⟩
 |obj w e j r=>
  rcases IL.mp g with rfl|g
  ·show⟨_,e,trivial⟩
  ·let⟨v,l⟩:=j.at b g;show⟨_,l,trivial⟩
 |ptr=>cases g
 |tl e j r=>
  let⟨v,l⟩:=j.at b g;show⟨_,l,trivial⟩
 |pr e j r x=>rw[Iz.mp g];show⟨_,j,trivial⟩
theorem OmS.tl_inv{ps:Y (Addr×Ŗ (Y D))}(h:OmS K Φ H (.tl ps) p F):Φ p=Z (.tup (ps.map λq=>V.ref q.1))/\TlS K Φ H ps F/\F.Nodup:=by
 cases h with
 |tl e g j=>show⟨e,g,j⟩
theorem OmS.lst_inv{ds:Y D}(h:OmS K Φ H (.lst ds) p F):F=[p]/\∃vs,H p=Z (.lst vs)/\RpL K Φ ds vs:=by
 cases h with
 |lst e g=>show⟨S,_,e,g⟩
theorem OmS.map_inv{e:Y (aD×D)}(h:OmS K Φ H (.map e) p F):F=[p]/\∃g,H p=Z (.dK g)/\Paired (gw K Φ) e g:=by
 cases h with
 |map j l=>show⟨S,_,j,l⟩
theorem OmS.mpT_inv{e:Y (Y aD×D)}(h:OmS K Φ H (.mpT e) p F):F=[p]/\∃g,H p=Z (.dT g)/\Paired (gw K Φ) e g:=by
 cases h with
 |mpT j l=>show⟨S,_,j,l⟩
theorem OmS.obj_inv{nm:Str}(h:OmS K Φ H (.obj nm fs) p F):∃C e vs c,F=p::c/\Ò K Á nm=Z (Z (.ref C))/\H p=Z (.ins C e vs)/\FlsR K Φ H fs vs c/\(p::c).Nodup:=by
 cases h with
 |obj g j l r=>show⟨_,_,_,_,S,g,j,l,r⟩
theorem OmS.gr(g:Gr Φ H a f)(h:OmS K Φ H o p F):OmS K a f o p F:=h.keep g.f λb _ u e=>g.h b u e
end
structure EnvM'(K:Â)(H0 Φ H:Hp)(σ:St)(ρ:ak)(fp:Nat->List Addr):Prop where
 fz:Same Φ H
 len:σ.length=ρ.length
 sl:∀(i:Nat)(d:D),ρ[i]?=Z (Z (.v d))->∃v,σ[i]?=Z (Z v)/\Rp K Φ d v
 ow:∀(i:Nat)(a:Option Addr)(o:Om),ρ[i]?=Z (Z (.ob a o))->∃p,σ[i]?=Z (Z (.ref p))/\(∀q,a=Z q->q=p)/\OmS K Φ H o p (fp i)
 no:∀(i:Nat)(a:Option Addr)(o:Om),ρ[i]?=Z (Z (.ob a o))->∀b∈fp i,H0 b=ŕ/\Φ b=ŕ
 dj:∀(i j:Nat)(a a':Option Addr)(o o':Om),ρ[i]?=Z (Z (.ob a o))->ρ[j]?=Z (Z (.ob a' o'))->i≠j->∀b∈fp i,b∉fp j
 tb:TabF K Φ
noncomputable def EnvM(K:Â)(a Φ H:Hp)(e:St)(ρ:ak):Prop:=∃c,EnvM' K a Φ H e ρ c
section
variable{K:Â}{l H B Φ A G:Hp}{f I:St}{ρ C:ak}{w:Nat->Y Addr}{F F':Y Addr}{o o':Om}{p:Addr}{d:D}{v:V}{i:Nat}{a:Ŗ Addr}
theorem EnvM.fz(E:EnvM K l Φ H f ρ):Same Φ H:=let ⟨_,E⟩:=E;E.fz
theorem EnvM.tb(E:EnvM K l Φ H f ρ):TabF K Φ:=let ⟨_,E⟩:=E;E.tb
theorem EnvM.len(E:EnvM K l Φ H f ρ):f.length=ρ.length:=let ⟨_,E⟩:=E;E.len
theorem EnvM.sl(E:EnvM K l Φ H f ρ)(h:ρ[i]?=Z (Z (.v d))):∃v,f[i]?=Z (Z v)/\Rp K Φ d v:=let ⟨_,E⟩:=E;E.sl i d h
theorem EnvM'.gr(E:EnvM' K l Φ H f ρ w)(g:Gr Φ H A B):EnvM' K l A B f ρ w:=
 ⟨g.s,E.len,λi d h=>let ⟨v,e,r⟩:=E.sl i d h;⟨v,e,r.same g.f⟩,λi a o h=>let ⟨p,e,ha,r⟩:=E.ow i a o h;⟨p,e,ha,r.gr g⟩,
  λi a o h b c=>by
   let⟨p,_,_,r⟩:=E.ow i a o h;let⟨u,j,k⟩:=r.at b c
   show⟨(E.no i a o h b c).1,g.o b u j (E.no i a o h b c).2 k⟩,E.dj,E.tb.same g.f⟩
theorem EnvM.gr(E:EnvM K l Φ H f ρ)(g:Gr Φ H A B):EnvM K l A B f ρ:=let ⟨w,E⟩:=E;⟨w,E.gr g⟩
theorem EnvM.re(m:Nat->Nat)(E:EnvM K l Φ H f ρ)(z:I.length=C.length)(h:∀(i:Nat)(x:Sm),C[i]?=Z (Z x)->ρ[m i]?=Z (Z x)/\I[i]?=f[m i]?)
  (inj:∀(i j:Nat)(a a':Ŗ Addr)(o o':Om),C[i]?=Z (Z (.ob a o))->C[j]?=Z (Z (.ob a' o'))->m i=m j->i=j):EnvM K l Φ H I C:=by
 let⟨w,E⟩:=E;refine⟨λi=>w (m i),E.fz,z,λi d hd=>?_,λi a o g=>?_,λi a o g=>E.no _ a o (h i _ g).1,λi j a a' o o' u y c=>E.dj _ _ a a' o o' (h i _ u).1 (h j _ y).1 λe=>c (inj i j a a' o o' u y e),E.tb⟩
 ·let⟨v,e,r⟩:=E.sl _ d (h i _ hd).1;show⟨v,by rw[(h i _ hd).2];show e,r⟩
 ·let⟨p,e,r⟩:=E.ow _ a o (h i _ g).1;show⟨p,by rw[(h i _ g).2];show e,r⟩
theorem EnvM.take{u:St}{r:ak}(E:EnvM K l Φ H (f++u) (ρ++r))(h:ρ.length=f.length):EnvM K l Φ H f ρ:=
 E.re id h.symm (λi x c=>by
  have g:=az c
  show⟨by rw[id,Ip g];show c,by rw[id,Ip ()]⟩) λi j _ _ _ _ _ _ e=>e
theorem EnvM'.take{z:St}{u:ak}(E:EnvM' K l Φ H (f++z) (ρ++u) w)(g:ρ.length=f.length):EnvM' K l Φ H f ρ w:=by
 have up:∀{i:Nat}{x:Sm},ρ[i]?=Z (Z x)->(ρ++u)[i]?=Z (Z x):=λh=>by rw[Ip (az h)];show h
 have c:∀{i:Nat}{x:Sm}{y:Ŗ V},ρ[i]?=Z (Z x)->(f++z)[i]?=Z y->f[i]?=Z y:=λh e=>by rwa [Ip (by rw[←g];show az h)]at e
 show⟨E.fz,g.symm,λi d h=>let ⟨v,e,r⟩:=E.sl i d (up h);⟨v,c h e,r⟩,λi a o h=>let ⟨p,e,r⟩:=E.ow i a o (up h);⟨p,c h e,r⟩,λi a o h=>E.no i a o (up h),λi j a a' o o' J L=>E.dj i j a a' o o' (up J) (up L),E.tb⟩
theorem EnvM.store{v:V}{x:Sm}(E:EnvM K l Φ H (f++[Z v]) (ρ++[Z x]))(i:Nat):EnvM K l Φ H (f.set i (Z v)) (ρ.set i (Z x)):=by
 have r:f.length=ρ.length:=by have:=E.len;simpa using this
 refine E.re (λj=>if j=i then ρ.length else j) (by rw[Iv,Iv,r]) (λj y g=>?_) λj k a a' o o' g u e=>?_
 ·by_cases c:j=i
  ·subst c
   have h:j<ρ.length:=by have:=az g;rwa [Iv]at this
   rw[IS h]at g;cases g;rw[Iw S,IS (),Im (Iu _),Im (),Je,r,Je];show⟨S,S⟩
  ·rw[IP (JD c)]at g;have h:=az g;rw[Ir c,IP (JD c),Ip h,Ip ()];show⟨g,S⟩
 ·have J:j<ρ.length:=by have:=az g;rwa [Iv]at this
  have z:k<ρ.length:=by have:=az u;rwa [Iv]at this
  have e:(if j=i then ρ.length else j)=(if k=i then ρ.length else k):=e;split at e<;>split at e<;>omega
theorem EnvM.snocV(E:EnvM K l Φ H f ρ)(r:Rp K Φ d v):EnvM K l Φ H (f++[Z v]) (ρ++[Z (.v d)]):=by
 let⟨w,E⟩:=E
 have g:∀{i:Nat}{a:Ŗ Addr}{o:Om},(ρ++[Z (Sm.v d)])[i]?=Z (Z (.ob a o))->ρ[i]?=Z (Z (.ob a o)):=λ{i a o} h=>by
  rcases Js i ρ.length with c|c
  ·rwa [Ip c]at h
  ·rw[Im c]at h
   cases e:i-ρ.length with
   |zero=>rw[e]at h;cases h
   |succ n=>rw[e]at h;cases h
 refine⟨w,E.fz,by rw[Io,Io,E.len];rfl,λi d' h=>?_,λi a o h=>?_,λi a o h=>E.no i a o (g h),λi j a a' o o' x y=>E.dj i j a a' o o' (g x) (g y),E.tb⟩
 ·rcases Js i ρ.length with c|c
  ·rw[Ip c]at h;let⟨u,e,r⟩:=E.sl i d' h;show⟨u,by rw[Ip (by rw[E.len];show c)];show e,r⟩
  ·rw[Im c]at h
   cases e:i-ρ.length with
   |zero=>
    rw[e]at h;cases h;show⟨v,by rw[Im (by rw[E.len];show c),E.len,e];rfl,r⟩
   |succ n=>rw[e]at h;cases h
 ·let⟨p,e,r⟩:=E.ow i a o (g h);have x:=az (g h);show⟨p,by rw[Ip (by rw[E.len];show x)];show e,r⟩
theorem EnvM.snocO(E:EnvM K l Φ H f ρ)(b_:Same l H)(g:Gr Φ H A B)(be:OmS K A B o p F)(R:∀b∈F,H b=ŕ/\A b=ŕ):EnvM K l A B (f++[Z (.ref p)]) (ρ++[Z (.ob ŕ o)]):=by
 let⟨w,E⟩:=E
 have P:∀b∈F,∀(i:Nat)(a:Ŗ Addr)(o:Om),ρ[i]?=Z (Z (.ob a o))->b∉w i:=λb y i a o h z=>by let⟨q,_,_,r⟩:=E.ow i a o h;let⟨u,T,_⟩:=r.at b z;rw[(R b y).1]at T;cases T
 have N:=E.gr g
 have M:∀{i:Nat}{x:Sm},(ρ++[Z (Sm.ob ŕ o)])[i]?=Z (Z x)->(i<ρ.length/\ρ[i]?=Z (Z x))\/(i=ρ.length/\x=.ob ŕ o):=λ{i x} h=>by
  rcases Js i ρ.length with c|c
  ·rw[Ip c]at h;show .inl ⟨c,h⟩
  ·rw[Im c]at h
   cases e:i-ρ.length with
   |zero=>rw[e]at h;cases h;show .inr ⟨(),S⟩
   |succ n=>rw[e]at h;cases h
 refine⟨λi=>if i=ρ.length then F else w i,N.fz,by rw[Io,Io,E.len];rfl,λi d h=>?_,λi a o' h=>?_,λi a o' h b y=>?_,λi j a a' U X O J c b y L=>?_,N.tb⟩
 ·rcases M h with⟨c,h⟩|⟨_,h⟩
  ·let⟨v,e,r⟩:=N.sl i d h;show⟨v,by rw[Ip (by rw[E.len];show c)];show e,r⟩
  ·cases h
 ·rcases M h with⟨c,h⟩|⟨c,h⟩
  ·let⟨q,e,r⟩:=N.ow i a o' h;show⟨q,by rw[Ip (by rw[E.len];show c)];show e,by rw[Ir ()];show r⟩
  ·cases h;subst c;refine⟨p,by rw[Im (by rw[E.len];show Iu _),E.len,Je];rfl,(λq e=>by cases e),by rw[Iw S];show be⟩
 ·rcases M h with⟨c,h⟩|⟨c,h⟩
  ·rw[Ir ()]at y;show N.no i a o' h b y
  ·rw[Iw c]at y;show⟨b_.free (R b y).1,(R b y).2⟩
 ·rcases M O with⟨a_,O⟩|⟨a_,O⟩
  ·rw[Ir ()]at y;rcases M J with⟨Q,J⟩|⟨Q,J⟩
   ·rw[Ir ()]at L;show E.dj i j a a' U X O J c b y L
   ·rw[Iw Q]at L;show P b L i a U O y
  ·rw[Iw a_]at y;rcases M J with⟨Q,J⟩|⟨Q,J⟩
   ·rw[Ir ()]at L;show P b y j a' X J L
   ·omega
theorem EnvM'.put(E:EnvM' K l Φ H f ρ w)(P:ρ[i]?=Z (Z (.ob a o)))(b_:f[i]?=Z (Z (.ref p)))(U:∀b u,H b=Z u->b∉w i->B b=Z u)(hO:OmS K Φ B o' p F')(T:∀b∈F',b∈w i\/(H b=ŕ/\l b=ŕ/\Φ b=ŕ)) :
  EnvM' K l Φ B f (ρ.set i (Z (.ob a o'))) (λj=>if j=i then F' else w j):=by
 have Nb:=az P
 have O:∀{j:Nat}{x:Sm},(ρ.set i (Z (Sm.ob a o')))[j]?=Z (Z x)->(j=i/\x=.ob a o')\/(j≠i/\ρ[j]?=Z (Z x)):=λ{j x} h=>by
  rcases cX h with⟨e,_,e1⟩|⟨e,h⟩
  ·cases e1;show .inl ⟨e,S⟩
  ·show .inr ⟨e,h⟩
 have X:∀b∈F',∀(j:Nat)(a':Ŗ Addr)(y:Om),ρ[j]?=Z (Z (.ob a' y))->j≠i->b∉w j:=λb g j a' y J c z=>by
  rcases T b g with h|⟨h,_⟩
  ·show E.dj j i a' a y o J P c b z h
  ·let⟨q,_,_,r⟩:=E.ow j a' y J;let⟨u,R,_⟩:=r.at b z;rw[h]at R;cases R
 refine⟨λb u e=>U b u (E.fz b u e) λz=>?_,by rw[Iv,E.len],λj d h=>?_,λj a' y h=>?_,λj a' y h b g=>?_,λj k a1 a2 be y J L c b g N=>?_,E.tb⟩
 ·rw[(E.no i a o P b z).2]at e;cases e
 ·rcases O h with⟨_,h⟩|⟨_,h⟩
  ·cases h
  ·show E.sl j d h
 ·rcases O h with⟨c,h⟩|⟨c,h⟩
  ·cases h;subst c;let⟨q,e,a_,_⟩:=E.ow j a o P;rw[b_]at e;cases e;show⟨p,b_,a_,by rw[Iw S];show hO⟩
  ·let⟨q,e,a_,r⟩:=E.ow j a' y h;refine⟨q,e,a_,?_⟩;rw[Ir c];show r.keep (Same.refl _) λb g u R=>U b u R λz=>E.dj j i a' a y o h P c b g z
 ·rcases O h with⟨c,h⟩|⟨c,h⟩
  ·rw[Iw c]at g;rcases T b g with z|⟨_,z⟩
   ·show E.no i a o P b z
   ·show z
  ·rw[Ir c]at g;show E.no j a' y h b g
 ·rcases O J with⟨Q,J⟩|⟨Q,J⟩
  ·rw[Iw Q]at g;rcases O L with⟨M,L⟩|⟨M,L⟩
   ·omega
   ·rw[Ir M]at N;show X b g k a2 y L M N
  ·rw[Ir Q]at g;rcases O L with⟨M,L⟩|⟨M,L⟩
   ·rw[Iw M]at N;show X b N j a1 be J Q g
   ·rw[Ir M]at N;show E.dj j k a1 a2 be y J L c b g N
theorem EnvM'.grput(E:EnvM' K l Φ H f ρ w)(g:Gr G l Φ H)(h:ρ[i]?=Z (Z (.ob a o)))(c:∀b u,H b=Z u->b∉w i->B b=Z u):Gr G l Φ B:=
 ⟨g.f,λb u e=>c b u (g.h b u e) (λz=>by rw[(E.no i a o h b z).1]at e;cases e),λb u e=>c b u (g.s b u e) (λz=>by rw[(E.no i a o h b z).2]at e;cases e),λp u j r k=>g.o p u j r k⟩
theorem EnvM.list{ds:Y D}(E:EnvM K l Φ H f ρ)(g:Gr G l Φ H)(h:ρ[i]?=Z (Z (.ob a (.lst ds)))):∃q vs,f[i]?=Z (Z (.ref q))/\H q=Z (.lst vs)/\l q=ŕ/\Φ q=ŕ/\RpL K Φ ds vs /\
  ∀(es:Y D)(c:Y V),RpL K Φ es c->EnvM K l Φ (aq H q (.lst c)) f (ρ.set i (Z (.ob a (.lst es))))/\Gr G l Φ (aq H q (.lst c)):=by
 let⟨w,E⟩:=E;let⟨q,e,_,r⟩:=E.ow i a _ h;have j:=r.mem;have x:=E.no i a _ h q j;let⟨_,vs,L,M⟩:=r.lst_inv;refine⟨q,vs,e,L,x.1,x.2,M,λes c J=>?_⟩
 have y:∀b u,H b=Z u->b∉w i->aq H q (.lst c) b=Z u:=λb u e O=>by
  rw[aY λz=>O (by rw[z];show j)];show e
 show⟨⟨_,E.put h e y (F':=[q]) (.lst bh J) λb N=>.inl (by rw[Iz.mp N];show j)⟩,E.grput g h y⟩
end
noncomputable def oQ:Ŗ Sm->Ŗ Sl
 |some (.v d)=>Z (.v d)
 |some (.ob _ (.lst xs))=>Z (.own xs)
 |some (.ob _ (.map a))=>Z (.dct (a.map (·.1)))
 |some (.ob _ (.mpT a))=>Z (.dcT (a.map (·.1)))
 |_=>ŕ
noncomputable abbrev dR(ρ:ak):bz:=ρ.map oQ
theorem kW{c:Type}{K:Â}{Φ:Hp}:∀{a:Y (c×D)}{b:Y (c×V)},Paired (gw K Φ) a b->b.map (·.1)=a.map (·.1)
 |_,_,.nil=>rfl
 |_,_,.cons r t=>by rw[IQ,IQ,kW t,r.1]
theorem EnvM.toD{K:Â}{F Φ H:Hp}{C:St}{ρ:ak}(E:EnvM K F Φ H C ρ):EnvD K F Φ H C (dR ρ):=by
 let⟨L,E⟩:=E
 have at_:∀{i:Nat}{x:Sl},(dR ρ)[i]?=Z (Z x)->∃y,ρ[i]?=Z (Z y)/\oQ (Z y)=Z x:=λ{i x} h=>by
  rw[IE]at h
  cases e:ρ[i]? with
  |none=>rw[e]at h;cases h
  |some y=>
   rw[e]at h
   cases y with
   |none=>cases h
   |some y=>show⟨y,S,Jf h⟩
 have ow:∀{i:Nat}{o:Ow},(dR ρ)[i]?=Z (Z (.ob o))->∃a f p u,ρ[i]?=Z (Z (.ob a f))/\C[i]?=Z (Z (.ref p))/\p∈L i/\H p=Z u/\OwR K Φ o u:=λ{i o} h=>by
  let⟨y,z,e⟩:=at_ h
  cases y with
  |v d=>cases e
  |ob a f=>
   let⟨p,B,_,r⟩:=E.ow i a f z;refine⟨a,f,p,?_⟩
   cases f with
   |lst ds=>let⟨_,vs,g,l⟩:=r.lst_inv;cases e;show⟨_,z,B,r.mem,g,l⟩
   |map I=>let⟨_,vs,g,l⟩:=r.map_inv;cases e;show⟨_,z,B,r.mem,g,kW l⟩
   |mpT I=>let⟨_,vs,g,l⟩:=r.mpT_inv;cases e;show⟨_,z,B,r.mem,g,kW l⟩
   |obj nm fs=>cases e
   |ptr=>cases e
   |tl ps=>cases e
   |pr ds d=>cases e
 refine⟨E.fz,by rw[Il,E.len],λi d h=>?_,λi o h=>?_,λi j o w p O P a_ T=>?_,E.tb⟩
 ·let⟨y,z,e⟩:=at_ h
  cases y with
  |v d'=>cases e;show E.sl i d z
  |ob a f=>cases f<;>cases e
 ·let⟨a,f,p,u,g,l,A,M,N⟩:=ow h;show⟨p,u,l,(E.no i a f g p A).1,(E.no i a f g p A).2,M,N⟩
 ·let⟨a,f,U,u,g,l,A,_,_⟩:=ow O;let⟨a',J,X,u',Q,G,R,_,_⟩:=ow P;rw[a_]at l;cases l;rw[T]at G;cases G;rcases K8 (i=j)with c|c
  ·show c
  ·show absurd R (E.dj i j a a' f J g Q c p A)
noncomputable def Cg(h:Heap)(e:Addr)(vs:Array Value)(T:Ŗ Addr)(f:Value):Prop:=match T with
 |none=>vs[1]?=Z .none
 |some T=>vs[1]?=Z (.ref T)/\T≠e/\∃a c,h.get? T=Z a/\a.data=.fields c/\c[3]?=Z f
structure Fly(h:Heap)(e:Addr)(T:Option Addr)(fl cls:Value)(dx:Option Addr):Prop where
 ex:∃oe vs,h.get? e=Z oe/\oe.data=.fields vs/\oe.cls=cls/\oe.dict=dx/\Cg h e vs T fl
structure XD where
 nm:Str
 at_:Option D
noncomputable def x9(K:Â)(H:Hp)(at_:Ŗ D)(a:Ŗ Addr):Prop:=match at_ with
 |none=>a=ŕ
 |some d=>∃p v,a=Z p/\H p=Z (.xd [("at",v)])/\Rp K (λ_=>ŕ) d v
structure XSt(X:Cx)(pins:List (Addr×Ô))(σ:St)(H:Hp)(xd:XD)(e:Value)(s:À):Prop where
 inv:Inv X pins σ H s
 ex:∃(ea C:Addr)(T dx:Option Addr),e=.ref ea/\Fly s.heap ea T .none (.ref C) dx/\X.mg xd.nm=Z (.ref C)/\x9 X.K H xd.at_ dx/\(X.s₀.heap.get? ea=ŕ/\H ea=ŕ/\∀p∈X.pn++pins,p.1≠ea)/\∀T',T=Z T'->X.s₀.heap.get? T'=ŕ/\H T'=ŕ/\∀p∈X.pn++pins,p.1≠T'
noncomputable def XeOk(K:Â)(X:Cx)(j l:Hp)(r:XD->ak->Prop):Prop:=∀p f c h g e o a,r p f->Gr j l c h->EnvM K l c h g f->XSt X a g h p e o->X.xe e o
structure StM(K:Â)(X:Cx)(Φ0 H0 Φ H:Hp)(σ τ:St)(ρ κ:ak)(Rx:XD->ak->Prop):Prop where
 g:Gr Φ0 H0 Φ H
 l:ρ.length=σ.length
 E:EnvM K H0 Φ H (σ++τ) (ρ++κ)
 x:XeOk K X Φ0 H0 Rx
inductive Ar where|t (s:Sm)|s (i:Nat)
noncomputable abbrev TX:=ak->(Sm->ak->Prop)->(XD->ak->Prop)->Prop
noncomputable abbrev dr:=ak->(Bool->ak->Prop)->(XD->ak->Prop)->Prop
noncomputable abbrev di:=ak->(Y Ar->ak->Prop)->(XD->ak->Prop)->Prop
noncomputable def eh(as:Y Ar):ak:=as.filterMap λa=>match a with|.t s=>Z (Z s)|.s _=>ŕ
inductive ArV(σ:St):List Ar->List V->St->Prop where
 |nil:ArV σ [] [] []
 |t {s:Sm} {v:V} {as:List Ar} {vs:List V} {ts:St}:ArV σ as vs ts->ArV σ (.t s::as) (v::vs) (Z v::ts)
 |s {i:Nat} {v:V} {as:List Ar} {vs:List V} {ts:St}:σ[i]?=Z (Z v)->ArV σ as vs ts->ArV σ (.s i::as) (v::vs) ts
inductive lXm(K:Â)(X:Cx)(t:TX)(σ:St)(H:Hp)(Q:VK):Prop|mk (Φ0:Hp) (H0:Hp) (Φ:Hp) (τ:St) (ρ:ak) (κ:ak) (R:Sm->ak->Prop) (Rx:XD->ak->Prop) (_:StM K X Φ0 H0 Φ H σ τ ρ κ Rx) (_:t ρ R Rx) (_:∀sm ρ' Φ' H' v,R sm ρ'->StM K X Φ0 H0 Φ' H' σ (τ++[Z v]) ρ' (κ++[Z sm]) Rx->Same Φ Φ'->Q v H')
inductive lXb(K:Â)(X:Cx)(t:dr)(σ:St)(H:Hp)(Q:Bool->Hp->Prop):Prop|mk (Φ0:Hp) (H0:Hp) (Φ:Hp) (τ:St) (ρ:ak) (κ:ak) (R:Bool->ak->Prop) (Rx:XD->ak->Prop) (_:StM K X Φ0 H0 Φ H σ τ ρ κ Rx) (_:t ρ R Rx) (_:∀b ρ' Φ' H',R b ρ'->StM K X Φ0 H0 Φ' H' σ τ ρ' κ Rx->Same Φ Φ'->Q b H')
inductive lXa(K:Â)(X:Cx)(n:Nat)(t:di)(σ:St)(H:Hp)(Q:List V->Hp->Prop):Prop|mk (Φ0:Hp) (H0:Hp) (Φ:Hp) (τ:St) (ρ:ak) (κ:ak) (R:List Ar->ak->Prop) (Rx:XD->ak->Prop) (_:StM K X Φ0 H0 Φ H σ τ ρ κ Rx) (_:t ρ R Rx) (_:∀as ρ' Φ' H' vs ts,R as ρ'->as.length=n->ArV σ as vs ts->StM K X Φ0 H0 Φ' H' σ (τ++ts) ρ' (κ++eh as) Rx->Same Φ Φ'->Q vs H')
structure PX(K:Â)(X:Cx)(e:Ã)(t:TX):Prop where pe:X.K=K->PE X e (lXm K X t)
structure PXB(K:Â)(X:Cx)(e:Ã)(t:dr):Prop where pt:X.K=K->PT X e (lXb K X t)
structure PXW(K:Â)(X:Cx)(e:Ã)(t:dr):Prop where pw:X.K=K->PW X e (lXb K X t)
structure PXA(K:Â)(X:Cx)(es:List Ã)(t:di):Prop where pa:X.K=K->PA X es (lXa K X es.length t)
section
variable{K:Â}{X:Cx}{a l Φ x H z:Hp}{j f A:St}{ρ c B:ak}{y:XD->ak->Prop}{d:D}{v:V}
theorem StM.gr(Q:StM K X a l Φ H j f ρ c y)(g:Gr Φ H x z):StM K X a l x z j f ρ c y:=⟨Q.g.trans g,Q.l,Q.E.gr g,Q.x⟩
theorem StM.env(Q:StM K X a l Φ H j f ρ c y):EnvM K l Φ H j ρ:=Q.E.take Q.l
theorem StM.lk(Q:StM K X a l Φ H j f ρ c y):c.length=f.length:=by have:=Q.E.len;rw[Io,Io]at this;have:=Q.l;omega
theorem StM.pop(Q:StM K X a l Φ H j (f++A) ρ (c++B) y)(e:c.length=f.length):StM K X a l Φ H j f ρ c y:=⟨Q.g,Q.l,by
 have E:=Q.E;rw[←IJ,←IJ]at E
 show E.take (by rw[Io,Io,Q.l,e]),Q.x⟩
theorem StM.pushV(Q:StM K X a l Φ H j f ρ c y)(r:Rp K Φ d v):StM K X a l Φ H j (f++[Z v]) ρ (c++[Z (.v d)]) y:=⟨Q.g,Q.l,by
 rw[←IJ,←IJ]
 show Q.E.snocV r,Q.x⟩
theorem StM.pushO{o:Om}{p:Addr}{F:Y Addr}(Q:StM K X a l Φ H j f ρ c y)(g:Gr Φ H x z)(h:OmS K x z o p F)(e:∀b∈F,H b=ŕ/\x b=ŕ):StM K X a l x z j (f++[Z (.ref p)]) ρ (c++[Z (.ob ŕ o)]) y:=⟨Q.g.trans g,Q.l,by
 rw[←IJ,←IJ]
 show Q.E.snocO Q.g.h g h e,Q.x⟩
theorem StM.at(Q:StM K X a l Φ H j f ρ c y){i:Nat}(h:c[i]?=Z (Z (.v d))):∃v,f[i]?=Z (Z v)/\Rp K Φ d v:=by have g:=az h;let⟨v,e,r⟩:=Q.E.sl (i:=ρ.length+i) (d:=d) (by rw[Im (),JG];show h);rw[Q.l,Im (),JG]at e;show⟨v,e,r⟩
theorem StM.last(Q:StM K X a l Φ H j (f++[Z v]) ρ (c++[Z (.v d)]) y):Rp K Φ d v:=by
 have g:=Q.lk;rw[Io,Io]at g
 have g:c.length=f.length:=by simpa using g
 let⟨u,e,r⟩:=Q.at (i:=c.length) (d:=d) (by rw[Im (Iu _),Je];rfl);rw[g,Im (Iu _),Je]at e;cases e;show r
theorem StM.last2{e:D}{w:V}(Q:StM K X a l Φ H j ((f++[Z v])++[Z w]) ρ ((c++[Z (.v d)])++[Z (.v e)]) y):Rp K Φ d v/\Rp K Φ e w:=by
 refine⟨?_,Q.last⟩;have g:=Q.lk;simp only[Io,IH,J3]at g
 have g:c.length=f.length:=by omega
 show (Q.pop (by simp only[Io,IH,J3];omega)).last
end
section
variable{K:Â}{X:Cx}{e a b c:Ã}{es:Y Ã}{f p:Ö}{t l tb:TX}{B:di}{A C:dr}
noncomputable def xD(t:TD):TX:=λρ R _=>t (dR ρ) λd=>R (.v d) ρ
theorem af{t:TD}(h:PD K X e t):PX K X e (xD t):=⟨λx=>(h.pe x).imp λG H Q w=>by
 let⟨z,u,Φ,I,ρ,F,R,E,U,t,k⟩:=w
 show⟨u,Φ,dR ρ,_,U.env.toD,t,λd j o v r g y=>k _ ρ j o v r ((U.gr g).pushV y) g.f⟩⟩
noncomputable def xF(t:aX):TX:=λρ R _=>t (dR ρ) λds=>R (.own ds) ρ
theorem dS{t:aX}(h:PF K X e t):PX K X e (xF t):=⟨λx=>(h.pe x).imp λJ H Q v=>by
 let⟨F,u,Φ,L,ρ,I,R,G,U,t,k⟩:=v
 show⟨u,Φ,dR ρ,_,U.env.toD,t,λds j o p vs r g w z E rr=>k _ ρ j o _ r (U.pushO g (.lst E rr) λb y=>by rw[Iz.mp y];show⟨w,z⟩) g.f⟩⟩
noncomputable def xB(t:cw):dr:=λρ R _=>t (dR ρ) λb=>R b ρ
theorem bx{t:cw}(h:PTD K X e t):PXB K X e (xB t):=⟨λw=>(h.pt w).imp λE H Q v=>by
 let⟨x,u,Φ,F,ρ,z,R,y,U,t,k⟩:=v
 show⟨u,Φ,dR ρ,_,U.env.toD,t,λb j o r g=>k b ρ j o r (U.gr g) g.f⟩⟩
noncomputable def xV(k:D->ak->Prop):Sm->ak->Prop:=λs ρ=>match s with|.v d=>k d ρ|_=>False
theorem xV.get{k:D->ak->Prop}{s:Sm}{ρ:ak}(h:xV k s ρ):∃d,s=.v d/\k d ρ:=by
 cases s with
 |v d=>show⟨d,S,h⟩
 |ob _ _=>show h.elim
noncomputable def jx(r:da)(l tb:TX):TX:=λρ R j=>l ρ (xV λx g=>tb g (xV λy h=>r x y λd=>R (.v d) h) j) j
theorem nP{r:da}{O:St}{H:Hp}{Q:VK}(h:lXm K X (jx r l tb) O H Q):iI (lR2 K r) (lXm K X l) (lXm K X tb) O H Q:=by let⟨j,M,Φ,τ,ρ,κ,R,N,a_,t,k⟩:=h;refine⟨j,M,Φ,τ,ρ,κ,_,N,a_,t,λs1 J G H1 v z T U=>?_⟩;let⟨x,rfl,z⟩:=z.get;refine⟨j,M,G,_,J,_,_,N,T,z,λs2 L I H2 w E o be=>?_⟩;let⟨y,rfl,E⟩:=E.get;let⟨rx,ry⟩:=o.last2;refine⟨I,x,y,_,o.g.s,.inl rx,.inl ry,E,λd F P u b_ g ru=>?_⟩;rw[IJ,IJ]at o;show k _ L F P u b_ (((o.pop a_.lk).gr g).pushV ru) ((U.trans be).trans g.f)
theorem cz{h:ë}{r:da}(u:OpD K X (Ï h) r)(j:PX K X a l)(o:PX K X b tb):PX K X (.BinOp a h b f) (jx r l tb):=
 ⟨λg=>(wz (u.o g) (j.pe g) (o.pe g)).imp λ_ _ _=>nP⟩
theorem GV{h:Ē}{r:da}(v:OpD K X (É h) r)(j:PX K X a l)(o:PX K X b tb)(u:behindInMarks h b=Ř):PX K X (.Compare a [h] [b] f) (jx r l tb):=
 ⟨λg=>(vq (v.o g) (j.pe g) (o.pe g) u).imp λ_ _ _=>nP⟩
noncomputable def sM(t:TX):dr:=λρ R h=>t ρ (xV λd g=>match d with|.bl b=>R b g|_=>False) h
theorem B2{r:da}{y:St}{H:Hp}{Q:Bool->Hp->Prop}(h:lXb K X (sM (jx r l tb)) y H Q):qA (iI (lR2 K r) (lXm K X l) (lXm K X tb)) y H Q:=by
 let⟨j,z,Φ,L,ρ,J,R,F,U,t,k⟩:=h;refine nP ⟨j,z,Φ,L,ρ,J,_,F,U,t,λM u o E v g w G=>?_⟩;let⟨x,rfl,g⟩:=g.get;have I:=w.last;let⟨b,rfl,g⟩:=i6 g;obtain rfl:=I.b;show⟨b,S,k b u o E g (w.pop U.lk) G⟩
theorem CJ{h:Ē}{r:da}(v:OpD K X (É h) r)(j:PX K X a l)(o:PX K X b tb)(u:behindInMarks h b=Ř):PXB K X (.Compare a [h] [b] f) (sM (jx r l tb)):=
 ⟨λg=>(vd (v.o g) (j.pe g) (o.pe g) u).imp λ_ _ _=>B2⟩
noncomputable def BY(t u:dr):dr:=λρ R h=>t ρ (λc g=>(c=ŗ->u g R h)/\(c=Ř->R Ř g)) h
noncomputable def xi(t u:dr):dr:=λρ R h=>t ρ (λc g=>(c=ŗ->R ŗ g)/\(c=Ř->u g R h)) h
theorem PXW.toB(h:PXW K X e A):PXB K X e A:=⟨λg=>(h.pw g).pt⟩
theorem uj(h:PXB K X a A):PXW K X (.BoolOp .And [a] f) A:=⟨λg=>uX (h.pt g)⟩
theorem Dg(h:PXB K X a A):PXW K X (.BoolOp .Or [a] f) A:=⟨λg=>sW (h.pt g)⟩
theorem lU(N:PXB K X a A)(O:PXW K X (.BoolOp .And (b::es) f) C):PXW K X (.BoolOp .And (a::b::es) f) (BY A C):=
 ⟨λy=>(uv (N.pt y) (O.pw y)).imp λT H Q J=>by
  let⟨g,u,Φ,F,ρ,E,R,v,U,t,k⟩:=J;refine⟨g,u,Φ,F,ρ,E,_,v,U,t,λc j h I z w x=>?_⟩
  cases c with
  |true=>rw[Iw S];show⟨g,u,h,F,j,E,R,v,w,z.1 S,λb r o G P L M=>k b r o G P L (x.trans M)⟩
  |false=>rw[Ir 'b'];show k _ j h I (z.2 S) w x⟩
theorem Em(N:PXB K X a A)(O:PXW K X (.BoolOp .Or (b::es) f) C):PXW K X (.BoolOp .Or (a::b::es) f) (xi A C):=
 ⟨λy=>(tI (N.pt y) (O.pw y)).imp λT H Q J=>by
  let⟨g,u,Φ,F,ρ,E,R,v,U,t,k⟩:=J;refine⟨g,u,Φ,F,ρ,E,_,v,U,t,λc j h I z w x=>?_⟩
  cases c with
  |true=>rw[Iw S];show k _ j h I (z.1 S) w x
  |false=>rw[Ir 'b'];show⟨g,u,h,F,j,E,R,v,w,z.2 S,λb r o G P L M=>k b r o G P L (x.trans M)⟩⟩
noncomputable def BH(t:TX):dr:=λρ R h=>t ρ (xV λd g=>qZ d λb=>R b g) h
theorem sV(L:PX K X a l)(M:∀g,isTrue a X.env g=(do let v ←g;standAt a.pos;holding [v] (truthy v))):PXB K X a (BH l):=
 ⟨λw=>(we (L.pe w) M).imp λT H Q E=>by
  let⟨r,y,Φ,O,ρ,N,R,F,U,t,k⟩:=E;refine⟨r,y,Φ,O,ρ,N,_,F,U,t,λP h u z v o j G=>?_⟩;let⟨x,rfl,o⟩:=o.get;let⟨b,I,J⟩:=vC (R:=λb=>R b h) j.g.s (.inl j.last) o;rw[w]
  show⟨b,I,k b h u z J (j.pop U.lk) G⟩⟩
noncomputable def Bm:di:=λρ R _=>R [] ρ
noncomputable def GJ(t:TX)(u:di):di:=λρ R j=>t ρ (λs g=>u g (λas h=>R (.t s::as) h) j) j
noncomputable def GD(i:Nat)(u:di):di:=λρ R h=>u ρ (λas g=>R (.s i::as) g) h
theorem aS:PXA K X [] Bm:=⟨λ_=>pa_nil.imp λu H Q g=>by
 let⟨h,j,Φ,v,ρ,r,R,o,U,t,k⟩:=g
 show k [] ρ Φ H [] [] t S .nil (by rw[Ji,show eh []=[]from rfl,Ji];show U) (Same.refl _)⟩
theorem ay(J:PX K X e t)(M:PXA K X es B)(N:starEach (e::es) X.env=(Ř,eval e X.env)::starEach es X.env):PXA K X (e::es) (GJ t B):=
 ⟨λy=>(eY (J.pe y) (M.pa y) N).imp λσ H Q E=>by
  let⟨g,u,Φ,b_,ρ,be,R,w,a_,t,k⟩:=E;refine⟨g,u,Φ,b_,ρ,be,_,w,a_,t,λs1 o h H1 v P F G=>?_⟩;refine⟨g,u,h,_,o,_,_,w,F,P,λas r j z vs U T L O x I=>?_⟩;refine k _ r j z (v::vs) (Z v::U) T (by rw[IH,IH,L]) (.t O) ?_ (G.trans I);rw[IJ,IJ]at x
  show x⟩
theorem bo(i:Nat){x:Str}(N:PXA K X es B)(O:starEach (.Name x f::es) X.env=(Ř,eval (.Name x f) X.env)::starEach es X.env)(J:X.N[i]?=Z x:=by rfl)(h:cR X.env.scope x:=by nofun)(hd:ab x:=by decide)
  (y:fI x:=by decide):PXA K X (.Name x f::es) (λρ R g=>(∃a o,ρ[i]?=Z (Z (.ob a o)))/\GD i B ρ R g):=
 ⟨λI=>(eY (pv i J h hd y) (N.pa I) O).imp λσ H Q z=>by
  let⟨j,v,Φ,be,ρ,U,R,g,a_,⟨⟨a,o,M⟩,t⟩,k⟩:=z;let⟨b_,E⟩:=a_.env;let⟨q,e,_⟩:=E.ow i a o M;refine⟨_,e,j,v,Φ,be,ρ,U,_,g,a_,t,λas u r w vs T P L h F G=>?_⟩
  show k _ u r w (.ref q::vs) T P (by rw[IH,IH,L]) (.s e h) F G⟩
noncomputable def gW:Y Ar->Ŗ (Y D)
 | []=>Z []
 |.t (.v d)::as=>(gW as).map (d::·)
 |_=>ŕ
noncomputable def xaD(k:Y D->ak->Prop):Y Ar->ak->Prop:=λas ρ=>match gW as with|some ds=>k ds ρ|none=>False
theorem xaD.get{k:Y D->ak->Prop}{as:Y Ar}{ρ:ak}(h:xaD k as ρ):∃ds,gW as=Z ds/\k ds ρ:=by
 unfold xaD at h;split at h
 ·next ds e=>show⟨ds,e,h⟩
 ·show h.elim
theorem l9:∀{as:Y Ar}{ds:Y D},gW as=Z ds->eh as=ds.map (λd=>Z (.v d))/\as.length=ds.length
 | [],ds,h=>by cases h;show⟨S,S⟩
 |.t (.v d)::as,ds,h=>by
  have h':(gW as).map (d::·)=Z ds:=h
  cases e:gW as with
  |none=>rw[e]at h';cases h'
  |some es=>
   rw[e]at h';cases h';let⟨g,j⟩:=l9 e;show⟨by change Z (Sm.v d)::eh as=_;rw[g];rfl,by rw[IH,IH,j]⟩
 |.t (.ob _ _)::_,_,h=>by cases h
 |.s _::_,_,h=>by cases h
theorem FT{w:St}:∀{as:Y Ar}{ds:Y D}{vs:Y V}{g:St},gW as=Z ds->ArV w as vs g->g=vs.map Z:=by
 intro as ds vs g h j
 induction j generalizing ds with
 |nil=>rfl
 | @t u v as vs g j r=>
  cases u with
  |v d=>
   have h':(gW as).map (d::·)=Z ds:=h
   cases e:gW as with
   |none=>rw[e]at h';cases h'
   |some es=>rw[r e];rfl
  |ob a o=>cases h
 |s=>cases h
theorem StM.vals{h F Φ H:Hp}{z E y:St}{ρ j:ak}{I:XD->ak->Prop}{as:Y Ar}{ds:Y D}{vs:Y V}(Q:StM K X h F Φ H z (E++y) ρ (j++eh as) I)(L:j.length=E.length)(hd:gW as=Z ds)(M:ArV z as vs y):RpL K Φ ds vs:=by
 have o:=FT hd M;let⟨u,N⟩:=l9 hd
 have g:vs.length=ds.length:=by have:=Q.lk;rw[Io,Io,o,u,Il,Il]at this;omega
 refine⟨g,λi v d J G=>?_⟩;let⟨w,x,r⟩:=Q.at (i:=j.length+i) (d:=d) (by rw[Im (),JG,u,IE,G];rfl);rw[L,Im (),JG,o,IE,J]at x;cases x;show r
noncomputable def Fx(t:di):TX:=λρ R h=>t ρ (xaD λds g=>R (.v (.tup ds)) g) h
theorem kA{x1}(h:PXA K X es B)(y:Nat.ble es.length 1000=ŗ:=by rfl):PX K X (.Tuple es x1 f) (Fx B):=
 ⟨λF=>(pz (h.pa F)).imp λP H Q x=>by
  let⟨r,w,Φ,M,ρ,L,R,z,U,t,k⟩:=x;refine⟨r,w,Φ,M,ρ,L,_,z,U,t,λas u J N vs O o G I j E=>?_⟩;let⟨ds,hd,o⟩:=o.get;have rl:=j.vals U.lk hd I;refine⟨by rw[rl.1,←(l9 hd).2,G];show nt y,λp v=>?_⟩;have g:=Gr.new j.g.s v (.tup vs)
  show k _ u _ _ _ o (((j.pop U.lk).gr g).pushV ((rl.same (du (j.g.s.free v) _)).tup bh)) (E.trans g.f)⟩
noncomputable def GS(t:di):TX:=λρ R h=>t ρ (xaD λds g=>R (.own ds) g) h
theorem Cf(h:PXA K X es B)(y:Nat.ble es.length 1000=ŗ:=by rfl):PX K X (.List es f) (GS B):=
 ⟨λF=>(uL (h.pa F)).imp λT H Q x=>by
  let⟨u,w,Φ,N,ρ,M,R,z,U,t,k⟩:=x;refine⟨u,w,Φ,N,ρ,M,_,z,U,t,λas v L O vs P r I J j E=>?_⟩;let⟨ds,hd,r⟩:=r.get;have rl:=j.vals U.lk hd J;refine⟨by rw[rl.1,←(l9 hd).2,I];show nt y,λp o=>?_⟩;have g:=Gr.fresh j.g.s o (.lst vs)
  show k _ v _ _ _ r ((j.pop U.lk).pushO g (.lst bh rl) λb G=>by rw[Iz.mp G];show⟨o,j.g.s.free o⟩) E⟩
noncomputable def GY(t:TX):TX:=λρ R h=>t ρ (λs g=>match s with|.ob ŕ (.lst ds)=>R (.v (.lst ds)) g|_=>False) h
theorem StM.fzl{J N Φ H:Hp}{T M:St}{ρ x:ak}{b_:XD->ak->Prop}{v:V}{ds:Y D}(a_:StM K X J N Φ H T (M++[Z v]) ρ (x++[Z (.ob ŕ (.lst ds))]) b_):∃I,StM K X J N I H T (M++[Z v]) ρ (x++[Z (.v (.lst ds))]) b_/\Same Φ I:=by
 have hk:x.length=M.length:=by have:=a_.lk;rw[Io,Io]at this;simpa using this
 let⟨fp,E⟩:=a_.E
 have P:(ρ++(x++[Z (Sm.ob ŕ (.lst ds))]))[ρ.length+x.length]?=Z (Z (.ob ŕ (.lst ds))):=by rw[←IJ,Im (by rw[Io];omega),Io,Je];rfl
 let⟨p,e,_,r⟩:=E.ow _ _ _ P;have R:=r.mem;have no:=E.no _ _ _ P
 have ev:v=.ref p:=by
  rw[←IJ,Im (by rw[Io,a_.l];omega),Io,a_.l,hk,Je]at e;cases e;rfl
 subst ev;let⟨_,vs,h1,h2⟩:=r.lst_inv
 next=>
  have hn:=(no p R).2;have h0:=(no p R).1;have G:=du hn (.lst vs);refine⟨aq Φ p (.lst vs),⟨a_.g.freeze h0 hn h1,a_.l,?_,a_.x⟩,G⟩
  have E0:EnvM K N (aq Φ p (.lst vs)) H (T++M) (ρ++x):=by
   refine⟨fp,λb u L=>?_,by rw[Io,Io,a_.l,hk],λj d hd=>?_,λj a o y=>?_,λj a o y b hb=>?_,λj k a a' o o' g be c=>?_,E.tb.same G⟩
   ·by_cases c:b=p
    ·subst c;rw[bh]at L;cases L;show h1
    ·rw[aY c]at L;show E.fz b u L
   ·have g:=az hd;let⟨w,F,O⟩:=E.sl j d (by rw[←IJ,Ip g];show hd);rw[←IJ,Ip (by rw[Io]at g ⊢;have:=a_.l;omega)]at F;show⟨w,F,O.same G⟩
   ·have g:=az y;let⟨w,F,ha,O⟩:=E.ow j a o (by rw[←IJ,Ip g];show y);rw[←IJ,Ip (by rw[Io]at g ⊢;have:=a_.l;omega)]at F;show⟨w,F,ha,O.keep G λ_ _ _ h=>h⟩
   ·have g:=az y
    have U:(ρ++(x++[Z (Sm.ob ŕ (.lst ds))]))[j]?=Z (Z (.ob a o)):=by rw[←IJ,Ip g];show y
    have c:b≠p:=λz=>E.dj j _ a _ o _ U P (by rw[Io]at g;omega) b hb (by rw[z];show R);rw[aY c];show E.no j a o U b hb
   ·have Tv:=az g;have Q:=az be;show E.dj j k a a' o o' (by rw[←IJ,Ip Tv];show g) (by rw[←IJ,Ip Q];show be) c
  rw[←IJ,←IJ];show E0.snocV ((h2.same G).lst bh)
theorem uf(h:PX K X e t):PX K X e (GY t):=⟨λI=>(h.pe I).imp λO H Q x=>by
 let⟨j,u,Φ,M,ρ,L,R,y,U,t,k⟩:=x;refine⟨j,u,Φ,M,ρ,L,_,y,U,t,λN r J w v g z F=>?_⟩;split at g
 ·next ds=>
  let⟨o,E,G⟩:=z.fzl;show k _ r o w v g E (F.trans G)
 ·show g.elim⟩
end
noncomputable def cn(H:Hp)(B:Y Addr):Hp:=λb=>if b∈B then ŕ else H b
theorem vA{H:Hp}{B:Y Addr}{b:Addr}(h:b∈B):cn H B b=ŕ:=Iw h
theorem gO{H:Hp}{B:Y Addr}{b:Addr}(h:b∉B):cn H B b=H b:=Ir h
theorem sN{H:Hp}{B:Y Addr}{b:Addr}{u:HO}(h:cn H B b=Z u):b∉B/\H b=Z u:=by
 unfold cn at h;split at h
 ·cases h
 ·next c=>show⟨c,h⟩
theorem FG{H:Hp}{B:Y Addr}:Same (cn H B) H:=λb u e=>(sN e).2
noncomputable abbrev eo:=Y Sm->(Sm->Y Om->Prop)->(XD->Y Om->Prop)->Prop
inductive ArgM(K:Â)(Φ H:Hp):List Sm->List V->List (List Addr)->Prop where
 |nil:ArgM K Φ H [] [] []
 |v {d:D} {v:V} {as:List Sm} {vs:List V} {Fs:List (List Addr)}:Rp K Φ d v->ArgM K Φ H as vs Fs->ArgM K Φ H (.v d::as) (v::vs) ([]::Fs)
 |o {a:Option Addr} {o:Om} {p:Addr} {F:List Addr} {as:List Sm} {vs:List V} {Fs:List (List Addr)}:OmS K Φ H o p F->ArgM K Φ H as vs Fs->ArgM K Φ H (.ob a o::as) (.ref p::vs) (F::Fs)
inductive OutM(K:Â)(Φ H:Hp):List Sm->List V->List Om->List (List Addr)->Prop where
 |nil:OutM K Φ H [] [] [] []
 |v {d:D} {v:V} {as:List Sm} {vs:List V} {os:List Om} {Fs:List (List Addr)}:OutM K Φ H as vs os Fs->OutM K Φ H (.v d::as) (v::vs) os ([]::Fs)
 |o {a:Option Addr} {o o':Om} {p:Addr} {F:List Addr} {as:List Sm} {vs:List V} {os:List Om} {Fs:List (List Addr)}:OmS K Φ H o' p F->OutM K Φ H as vs os Fs->OutM K Φ H (.ob a o::as) (.ref p::vs) (o'::os) (F::Fs)
inductive ResM(K:Â)(Φ H:Hp):Sm->V->List Addr->Prop where
 |v {d:D} {v:V}:Rp K Φ d v->ResM K Φ H (.v d) v []
 |o {a:Option Addr} {o:Om} {p:Addr} {F:List Addr}:(∀q,a=Z q->q=p)->OmS K Φ H o p F->ResM K Φ H (.ob a o) (.ref p) F
inductive lSpM(K:Â)(sp:eo)(vs:List V)(H:Hp)(Q:VK)(E_:XK):Prop|mk (Φ:Hp) (as:List Sm) (Fs:List (List Addr)) (R:Sm->List Om->Prop) (Rx:XD->List Om->Prop) (_:Same Φ H) (_:TabF K Φ) (_:ArgM K Φ H as vs Fs) (_:Fs.flatten.Nodup) (_:(∀b∈Fs.flatten,Φ b=ŕ)) (_:sp as R Rx) (_:∀sm os Φ' H' v F ND,R sm os->Gr Φ (cn H Fs.flatten) Φ' H'->ResM K Φ' H' sm v F->OutM K Φ' H' as vs os ND->(F++ND.flatten).Nodup->(∀b∈F++ND.flatten,cn H Fs.flatten b=ŕ/\Φ' b=ŕ)->Q v H')
theorem OmS.nodup{K:Â}{Φ H:Hp}{o:Om}{p:Addr}{F:Y Addr}(h:OmS K Φ H o p F):F.Nodup:=by
 cases h with
 |lst _ _=>simp
 |map _ _=>simp
 |mpT _ _=>simp
 |obj _ _ _ h=>show h
 |ptr=>show .nil
 |tl _ _ h=>show h
 |pr _ _ _ _=>simp
theorem ArgM.len{K:Â}{Φ H:Hp}{as:Y Sm}{vs:Y V}{c:Y (Y Addr)}(h:ArgM K Φ H as vs c):vs.length=as.length/\c.length=as.length:=by
 induction h with
 |nil=>show⟨S,S⟩
 |v _ _ a=>show⟨by simp[a.1],by simp[a.2]⟩
 |o _ _ a=>show⟨by simp[a.1],by simp[a.2]⟩
section
variable{K:Â}{w H G Φ l C:Hp}{A:St}{ρ y:ak}{f:Nat->Y Addr}{F F' B:Y Addr}{o o':Om}{p:Addr}{d:D}{v:V}{i:Nat}{a:Ŗ Addr}
noncomputable def gP(new:Nat->Ŗ (Om×Y Addr))(f:Nat->Y Addr):Nat->Y Addr:=λi=>match new i with|some q=>q.2|none=>f i
theorem EnvM'.lend{new:Nat->Ŗ (Om×Y Addr)}(E:EnvM' K w Φ H A ρ f)(s0:Same w H)(hB:∀b,b∈B->∃i a o q,new i=Z q/\ρ[i]?=Z (Z (.ob a o))/\b∈f i)(hB2:∀i q,new i=Z q->∀b∈f i,b∈B)(g:Gr Φ (cn H B) l G)
  (hl:y.length=ρ.length) (hv:∀(i:Nat)(d:D),y[i]?=Z (Z (.v d))->ρ[i]?=Z (Z (.v d)))
  (P:∀(i:Nat)(a:Ŗ Addr)(o:Om),y[i]?=Z (Z (.ob a o))->(new i=ŕ/\ρ[i]?=Z (Z (.ob a o)))\/∃a_ F',new i=Z (o,F')/\ρ[i]?=Z (Z (.ob a a_)))
  (hn:∀(i:Nat)(q:Om×Y Addr),new i=Z q->∃p,A[i]?=Z (Z (.ref p))/\OmS K l G q.1 p q.2) (hF:∀(i:Nat)(q:Om×Y Addr),new i=Z q->∀b∈q.2,cn H B b=ŕ/\l b=ŕ)
  (hd:∀(i j:Nat)(q r:Om×Y Addr),new i=Z q->new j=Z r->i≠j->∀b∈q.2,b∉r.2):EnvM' K w l G A y (gP new f):=by
 have B0:∀b∈B,w b=ŕ:=λb I=>let ⟨i,a,o,_,_,h,be⟩:=hB b I;(E.no i a o h b be).1
 have out:∀{i:Nat}{a:Ŗ Addr}{o:Om},new i=ŕ->ρ[i]?=Z (Z (.ob a o))->∀b∈f i,b∉B:=λ{i a o} T h b I z=>by
  let⟨j,a',o2,q,U,J,be⟩:=hB b z
  have c:i≠j:=λe=>by rw[e,U]at T;cases T
  show E.dj i j a a' o o2 h J c b I be
 have N:∀{i:Nat},new i=ŕ->gP new f i=f i:=λh=>by unfold gP;rw[h]
 have O:∀{i:Nat}{q:Om×Y Addr},new i=Z q->gP new f i=q.2:=λh=>by unfold gP;rw[h]
 refine⟨g.s,by rw[hl];show E.len,λi d h=>?_,λi a o h=>?_,λi a o h b I=>?_,λi j a a' o o' T U c b I M=>?_,E.tb.same g.f⟩
 ·let⟨v,e,r⟩:=E.sl i d (hv i d h);show⟨v,e,r.same g.f⟩
 ·rcases P i a o h with⟨x,J⟩|⟨a_,F',x,J⟩
  ·let⟨p,e,X,r⟩:=E.ow i a o J;refine⟨p,e,X,?_⟩;rw[N x];show r.keep g.f λb I u Q=>g.h b u (by rw[gO (out x J b I)];show Q)
  ·let⟨p,e,X,_⟩:=E.ow i a a_ J;let⟨p',e',r⟩:=hn i _ x;rw[e]at e';cases e';show⟨p,e,X,by rw[O x];show r⟩
 ·rcases P i a o h with⟨x,J⟩|⟨a_,F',x,J⟩
  ·rw[N x]at I;let⟨p,_,_,r⟩:=E.ow i a o J;let⟨u,Q,k⟩:=r.at b I;show⟨(E.no i a o J b I).1,g.o b u (by rw[gO (out x J b I)];show Q) (E.no i a o J b I).2 k⟩
  ·rw[O x]at I;let⟨b_,z2⟩:=hF i _ x b I;refine⟨?_,z2⟩;rcases K8 (b∈B)with c|c
   ·show B0 b c
   ·rw[gO c]at b_
    cases e:w b with
    |none=>rfl
    |some u=>rw[s0 b u e]at b_;cases b_
 ·have no:∀{i j:Nat}{q:Om×Y Addr}{a:Ŗ Addr}{o:Om},new i=Z q->new j=ŕ->ρ[j]?=Z (Z (.ob a o))->b∈q.2->b∈f j->False:=λ{i j q a o} x J h3 h4 h5=>by
   let⟨p,_,_,r⟩:=E.ow j a o h3;let⟨u,Q,_⟩:=r.at b h5;have:=(hF i q x b h4).1;rw[gO (out J h3 b h5),Q]at this;cases this
  rcases P i a o T with⟨x,J⟩|⟨a_,F',x,J⟩
  ·rw[N x]at I;rcases P j a' o' U with⟨L,R⟩|⟨o1,F1,L,R⟩
   ·rw[N L]at M;show E.dj i j a a' o o' J R c b I M
   ·rw[O L]at M;show no L x J M I
  ·rw[O x]at I;rcases P j a' o' U with⟨L,R⟩|⟨o1,F1,L,R⟩
   ·rw[N L]at M;show no x L R I M
   ·rw[O L]at M;show hd i j _ _ x L c b I M
theorem Gr.lend(c:Gr C w Φ H)(g:Gr Φ (cn H B) l G)(j:∀b∈B,w b=ŕ):Gr C w l G:=by
 have up:∀{b:Addr}{u:HO},w b=Z u->cn H B b=Z u:=λ{b u} e=>by
  rw[gO λz=>by rw[j b z]at e;cases e];show c.h b u e
 show⟨c.f.trans g.f,λb u e=>g.h b u (up e),g.s,λb u h r k=>g.o b u (up h) (c.o b u h r k) k⟩
theorem EnvM'.snocG(E:EnvM' K w Φ H A ρ f){sm:Sm}(U:ResM K Φ H sm v F)(Q:∀b∈F,w b=ŕ/\Φ b=ŕ)(hd:∀b∈F,∀(i:Nat)(a:Ŗ Addr)(o:Om),ρ[i]?=Z (Z (.ob a o))->b∉f i):EnvM K w Φ H (A++[Z v]) (ρ++[Z sm]):=by
 cases U with
 |v r=>show EnvM.snocV ⟨f,E⟩ r
 | @o a0 o p F M R=>
  have I:∀{i:Nat}{x:Sm},(ρ++[Z (Sm.ob a0 o)])[i]?=Z (Z x)->(i<ρ.length/\ρ[i]?=Z (Z x))\/(i=ρ.length/\x=.ob a0 o):=λ{i x} h=>by
   rcases Js i ρ.length with c|c
   ·rw[Ip c]at h;show .inl ⟨c,h⟩
   ·rw[Im c]at h
    cases e:i-ρ.length with
    |zero=>rw[e]at h;cases h;show .inr ⟨(),S⟩
    |succ n=>rw[e]at h;cases h
  refine⟨λi=>if i=ρ.length then F else f i,E.fz,by rw[Io,Io,E.len];rfl,λi d h=>?_,λi a o' h=>?_,λi a o' h b g=>?_,λi j a a' O P J u c b g z=>?_,E.tb⟩
  ·rcases I h with⟨c,h⟩|⟨_,h⟩
   ·let⟨v,e,r⟩:=E.sl i d h;show⟨v,by rw[Ip (by rw[E.len];show c)];show e,r⟩
   ·cases h
  ·rcases I h with⟨c,h⟩|⟨c,h⟩
   ·let⟨q,e,r⟩:=E.ow i a o' h;show⟨q,by rw[Ip (by rw[E.len];show c)];show e,by rw[Ir ()];show r⟩
   ·cases h;subst c;refine⟨p,by rw[Im (by rw[E.len];show Iu _),E.len,Je];rfl,M,by rw[Iw S];show R⟩
  ·rcases I h with⟨c,h⟩|⟨c,h⟩
   ·rw[Ir ()]at g;show E.no i a o' h b g
   ·rw[Iw c]at g;show Q b g
  ·rcases I J with⟨N,J⟩|⟨N,J⟩
   ·rw[Ir ()]at g;rcases I u with⟨L,u⟩|⟨L,u⟩
    ·rw[Ir ()]at z;show E.dj i j a a' O P J u c b g z
    ·rw[Iw L]at z;show hd b z i a O J g
   ·rw[Iw N]at g;rcases I u with⟨L,u⟩|⟨L,u⟩
    ·rw[Ir ()]at z;show hd b g j a' P u z
    ·omega
end
noncomputable def fG(ρ:ak):Y Ar->Ŗ (Y Sm)
 | []=>Z []
 |.t s::as=>(fG ρ as).map (s::·)
 |.s i::as=>match ρ[i]? with
  |some (Z (.ob _ o))=>(fG ρ as).map (.ob ŕ o::·)
  |_=>ŕ
noncomputable def aR(o:Om):Ŗ Sm->Ŗ Sm
 |some (.ob a _)=>Z (.ob a o)
 |x=>x
noncomputable def setA:ak->Nat->Om->ak
 | [],_,_=>[]
 |x::ρ,0,o=>aR o x::ρ
 |x::ρ,i+1,o=>x::setA ρ i o
theorem jH:∀(ρ:ak)(i:Nat)(o:Om),setA ρ i o=(match ρ[i]? with
  |some (Z (.ob a _))=>ρ.set i (Z (.ob a o))
  |_=>ρ)
 | [],_,_=>rfl
 |some (.ob _ _)::_,0,_=>rfl
 |some (.v _)::_,0,_=>rfl
 |none::_,0,_=>rfl
 |x::ρ,i+1,o=>by
  change x::setA ρ i o=_;rw[jH ρ i o,MA]
  match ρ[i]? with
  |some (Z (.ob _ _))=>rfl
  |some (Z (.v _))=>rfl
  |some ŕ=>rfl
  |none=>rfl
noncomputable def aA(ρ:ak):Y Ar->Y Om->ak
 | [],_=>ρ
 |.t (.v _)::as,os=>aA ρ as os
 |.t (.ob _ _)::as,_::os=>aA ρ as os
 |.t (.ob _ _)::as,[]=>aA ρ as []
 |.s i::as,o::os=>aA (setA ρ i o) as os
 |.s _::as,[]=>aA ρ as []
noncomputable def eJ:Y Ar->Y Nat
 | []=>[]
 |.t _::as=>eJ as
 |.s i::as=>i::eJ as
noncomputable def tJ(as:Y Ar):Bool:=decide (eJ as).Nodup
noncomputable def newA:Nat->Y Ar->Y Om->Y (Y Addr)->Nat->Ŗ (Om×Y Addr)
 |n,.t (.v _)::as,os,_::a,i=>newA (n+1) as os a i
 |n,.t (.ob _ _)::as,o::os,F::a,i=>if i=n then Z (o,F) else newA (n+1) as os a i
 |n,.s j::as,o::os,F::a,i=>if i=j then Z (o,F) else newA n as os a i
 |_,_,_,_,_=>ŕ
section
variable{K:Â}{A H Φ:Hp}{g:St}{ρ:ak}{f:Nat->Y Addr}
noncomputable def dX(f:Nat->Y Addr):Nat->Y Ar->Y (Y Addr)
 |_,[]=>[]
 |n,.t (.v _)::as=>[]::dX f (n+1) as
 |n,.t (.ob _ _)::as=>f n::dX f (n+1) as
 |n,.s j::as=>f j::dX f n as
noncomputable def dW:Nat->Y Ar->Y Nat
 |_,[]=>[]
 |n,.t (.v _)::as=>dW (n+1) as
 |n,.t (.ob _ _)::as=>n::dW (n+1) as
 |n,.s j::as=>j::dW n as
theorem fpA_mem:∀{n:Nat}{as:Y Ar}{b:Addr},b∈(dX f n as).flatten↔∃i∈dW n as,b∈f i
 |n,[],b=>by simp[dX,dW]
 |n,.t (.v _)::as,b=>by simp only[dX,dW,Jn,Lj];show fpA_mem
 |n,.t (.ob _ _)::as,b=>by simp only[dX,dW,Jn,IZ,IL,fpA_mem (n:=n+1) (as:=as),exists_eq_or_imp]
 |n,.s j::as,b=>by simp only[dX,dW,Jn,IZ,IL,fpA_mem (n:=n) (as:=as),exists_eq_or_imp]
theorem jG:∀{n:Nat}{as:Y Ar}{i:Nat},i∈dW n as->i∈eJ as\/(n<=i/\i<n+(eh as).length)
 |n,[],i,h=>by cases h
 |n,.t (.v d)::as,i,h=>by
  have h:i∈dW (n+1) as:=h;rcases jG h with z|z
  ·show .inl z
  ·refine .inr ⟨(),?_⟩;change i<n+((eh as).length+1);omega
 |n,.t (.ob a o)::as,i,h=>by
  rcases IL.mp h with rfl|h
  ·refine .inr ⟨Iu _,?_⟩;change i<i+((eh as).length+1);omega
  ·rcases jG h with z|z
   ·show .inl z
   ·refine .inr ⟨(),?_⟩;change i<n+((eh as).length+1);omega
 |n,.s j::as,i,h=>by
  rcases IL.mp h with rfl|h
  ·show .inl Iy
  ·rcases jG h with z|z
   ·show .inl (IC _ z)
   ·show .inr z
theorem oa:∀{n:Nat}{as:Y Ar},(eJ as).Nodup->(∀i∈eJ as,i<n)->(dW n as).Nodup
 |n,[],_,_=>by simp[dW]
 |n,.t (.v d)::as,h,c=>oa (n:=n+1) h λi e=>K7 (c i e)
 |n,.t (.ob a o)::as,h,c=>by
  refine Jg.mpr ⟨λz=>?_,oa (n:=n+1) h λi e=>K7 (c i e)⟩;rcases jG z with z|z
  ·show J4 _ (c n z)
  ·omega
 |n,.s j::as,h,c=>by
  let⟨l,p⟩:=Jg.mp h;refine Jg.mpr ⟨λz=>?_,oa p λi e=>c i (IC _ e)⟩;rcases jG z with z|z
  ·show l z
  ·have:=c j Iy;omega
theorem jO{s:Sm}{as:Y Ar}{a:Y Sm}(h:fG ρ (.t s::as)=Z a):∃q,fG ρ as=Z q/\a=s::q:=by let⟨q,e,h⟩:=LC.mp h;show⟨q,e,h.symm⟩
theorem j5{i:Nat}{as:Y Ar}{c:Y Sm}(h:fG ρ (.s i::as)=Z c):∃a o q,ρ[i]?=Z (Z (.ob a o))/\fG ρ as=Z q/\c=.ob ŕ o::q:=by
 unfold fG at h;split at h
 ·next a o ho=>
  let⟨q,e,h⟩:=LC.mp h;show⟨a,o,q,ho,e,h.symm⟩
 ·cases h
theorem OutM.cv{d:D}{as:Y Sm}{v:V}{vs:Y V}{os:Y Om}{a:Y (Y Addr)}(h:OutM K Φ H (.v d::as) (v::vs) os a):∃c,a=[]::c/\OutM K Φ H as vs os c:=by
 cases h with
 |v h=>show⟨_,S,h⟩
theorem OutM.co{a:Ŗ Addr}{o:Om}{as:Y Sm}{v:V}{vs:Y V}{os:Y Om}{c:Y (Y Addr)}(h:OutM K Φ H (.ob a o::as) (v::vs) os c):∃p o' j F e,v=.ref p/\os=o'::j/\c=F::e/\OmS K Φ H o' p F/\OutM K Φ H as vs j e:=by
 cases h with
 |o l h=>show⟨_,_,_,_,_,S,S,S,l,h⟩
theorem iU{a:Type}{l m:Y a}{n:Nat}{y:a}(h:∀(j:Nat) x,(y::l)[j]?=Z x->m[n+j]?=Z x)(j:Nat)(x:a)(c:l[j]?=Z x):m[n+1+j]?=Z x:=by rw[show n+1+j=n+(j+1)by omega];show h (j+1) x c
theorem EO{σx:St}{c:ak}(E:EnvM' K A Φ H σx c f)(J:∀(i:Nat)(x:Sm),ρ[i]?=Z (Z x)->c[i]?=Z (Z x))(F:∀(i:Nat)(v:V),g[i]?=Z (Z v)->σx[i]?=Z (Z v)) :
  ∀{n:Nat}{as:Y Ar}{y:Y Sm}{vs:Y V}{u:St},(∀(j:Nat) x,(eh as)[j]?=Z x->c[n+j]?=Z x)->(∀(j:Nat) x,u[j]?=Z x->σx[n+j]?=Z x)->fG ρ as=Z y->ArV g as vs u->ArgM K Φ H y vs (dX f n as):=by
 intro n as y vs u h l B C
 induction C generalizing n y with
 |nil=>cases B;show .nil
 | @t L v as vs u C z=>
  let⟨q,e,rfl⟩:=jO B
  cases L with
  |v d=>
   let⟨w,p,r⟩:=E.sl n d (h 0 _ S);obtain rfl:=Jf (Jf ((l 0 _ S).symm.trans p));show .v r (z (n:=n+1) (iU h) (iU l) e)
  |ob a o=>
   let⟨w,p,_,r⟩:=E.ow n a o (h 0 _ S);obtain rfl:=Jf (Jf ((l 0 _ S).symm.trans p));show .o r (z (n:=n+1) (iU h) (iU l) e)
 | @s i v as vs u G C z=>
  let⟨a,o,q,I,e,rfl⟩:=j5 B;let⟨w,p,_,r⟩:=E.ow i a o (J i _ I);obtain rfl:=Jf (Jf ((F i _ G).symm.trans p));show .o r (z h l e)
theorem ly{σx:St}{c:ak}(u:∀(i:Nat)(x:Sm),ρ[i]?=Z (Z x)->c[i]?=Z (Z x)) :
  ∀{n:Nat}{as:Y Ar}{r:Y Sm},(∀(j:Nat) x,(eh as)[j]?=Z x->c[n+j]?=Z x)->fG ρ as=Z r->∀i∈dW n as,∃a o,c[i]?=Z (Z (.ob a o))
 |n,[],r,_,p,i,h=>by cases h
 |n,.t (.v d)::as,r,l,p,i,h=>by let⟨q,e,rfl⟩:=jO p;show ly (σx:=σx) u (n:=n+1) (iU l) e i h
 |n,.t (.ob a o)::as,r,l,p,i,h=>by
  let⟨q,e,rfl⟩:=jO p;rcases IL.mp h with rfl|h
  ·show⟨a,o,l 0 _ S⟩
  ·show ly (σx:=σx) u (n:=n+1) (iU l) e i h
 |n,.s j::as,r,l,p,i,h=>by
  let⟨a,o,q,v,e,rfl⟩:=j5 p;rcases IL.mp h with rfl|h
  ·show⟨a,o,u _ _ v⟩
  ·show ly (σx:=σx) u (n:=n) (as:=as) l e i h
theorem mi{σx:St}{v:ak}(E:EnvM' K A Φ H σx v f):∀{n:Nat}{as:Y Ar},(dW n as).Nodup->(∀i∈dW n as,∃a o,v[i]?=Z (Z (.ob a o)))->(dX f n as).flatten.Nodup
 |n,[],_,_=>by simp[dX]
 |n,.t (.v d)::as,h,p=>by change ([]++(dX f (n+1) as).flatten).Nodup;rw[Lj];show mi E (n:=n+1) h p
 |n,.t (.ob a o)::as,h,p=>by change (f n++(dX f (n+1) as).flatten).Nodup;let⟨y,z⟩:=Jg.mp h;let⟨a',o',u⟩:=p n Iy;let⟨_,_,_,r⟩:=E.ow n a' o' u;refine JV.mpr ⟨r.nodup,mi E (n:=n+1) z λi l=>p i (IC _ l),λb B c C e=>?_⟩;subst e;let⟨i,l,w⟩:=fpA_mem.mp C;let⟨a2,F,x⟩:=p i (IC _ l);show E.dj n i a' a2 o' F u x (λe=>y (e▸l)) b B w
 |n,.s j::as,h,p=>by change (f j++(dX f n as).flatten).Nodup;let⟨y,z⟩:=Jg.mp h;let⟨a',o',u⟩:=p j Iy;let⟨_,_,_,r⟩:=E.ow j a' o' u;refine JV.mpr ⟨r.nodup,mi E z λi l=>p i (IC _ l),λb B c C e=>?_⟩;subst e;let⟨i,l,w⟩:=fpA_mem.mp C;let⟨a2,F,x⟩:=p i (IC _ l);show E.dj j i a' a2 o' F u x (λe=>y (e▸l)) b B w
theorem kL:∀{n:Nat}{as:Y Ar}{os:Y Om}{e:Y (Y Addr)}{i:Nat}{q:Om×Y Addr},newA n as os e i=Z q->i∈dW n as
 |n,[],_,_,_,_,h=>by cases h
 |n,.t (.v d)::as,os,[],i,q,h=>by cases h
 |n,.t (.v d)::as,os,F::e,i,q,h=>kL (n:=n+1) h
 |n,.t (.ob a o)::as,[],e,i,q,h=>by cases e<;>cases h
 |n,.t (.ob a o)::as,_::_,[],i,q,h=>by cases h
 |n,.t (.ob a o)::as,o'::os,F::e,i,q,h=>by
  have h:(if i=n then Z (o',F) else newA (n+1) as os e i)=Z q:=h;split at h
  ·next c=>rw[c];show Iy
  ·show IC _ (kL h)
 |n,.s j::as,[],e,i,q,h=>by cases e<;>cases h
 |n,.s j::as,_::_,[],i,q,h=>by cases h
 |n,.s j::as,o'::os,F::e,i,q,h=>by
  have h:(if i=j then Z (o',F) else newA n as os e i)=Z q:=h;split at h
  ·next c=>rw[c];show Iy
  ·show IC _ (kL h)
noncomputable def OutS(K:Â)(Φ H:Hp)(σx:St)(ps:Y Nat)(a:Nat->Ŗ (Om×Y Addr))(G:Y Addr):Prop:=
 (∀i∈ps,∃q,a i=Z q)/\∀(i:Nat)(q:Om×Y Addr),a i=Z q->(∃p,σx[i]?=Z (Z (.ref p))/\OmS K Φ H q.1 p q.2)/\(∀b∈q.2,b∈G)/\∀(j:Nat)(r:Om×Y Addr),a j=Z r->i≠j->∀b∈q.2,b∉r.2
theorem OutS.cons{σx:St}{ps:Y Nat}{y v:Nat->Ŗ (Om×Y Addr)}{F G:Y Addr}{m:Nat}{o:Om}{p:Addr}(x:OutS K Φ H σx ps y G)(u:∀i,v i=if i=m then Z (o,F) else y i)(I:σx[m]?=Z (Z (.ref p)))(C:OmS K Φ H o p F)(J:(F++G).Nodup):OutS K Φ H σx (m::ps) v (F++G):=by
 have l:=(JV.mp J).2.2;refine⟨λi E=>?_,λi q h=>?_⟩
 ·rw[u];split
  ·show⟨_,S⟩
  ·next c=>show x.1 i ((IL.mp E).resolve_left c)
 ·rw[u]at h;split at h
  ·next c=>
   subst c;cases h;refine⟨⟨p,I,C⟩,λb a=>IZ.mpr (.inl a),λj r e c b a w=>?_⟩;rw[u,Ir (JD c)]at e;show l b a b ((x.2 j r e).2.1 b w) S
  ·next c=>
   let⟨L,z,M⟩:=x.2 i q h;refine⟨L,λb a=>IZ.mpr (.inr (z b a)),λj r e B b a w=>?_⟩;rw[u]at e;split at e
   ·next c3=>
    cases e;show l b w b (z b a) S
   ·show M j r e B b a w
theorem wR{σx:St}(L:∀(i:Nat)(v:V),g[i]?=Z (Z v)->σx[i]?=Z (Z v)) :
  ∀{n:Nat}{as:Y Ar}{y:Y Sm}{vs:Y V}{w:St}{os:Y Om}{l:Y (Y Addr)},(∀(j:Nat) x,w[j]?=Z x->σx[n+j]?=Z x)->fG ρ as=Z y->ArV g as vs w->OutM K Φ H y vs os l->(dW n as).Nodup->l.flatten.Nodup->OutS K Φ H σx (dW n as) (newA n as os l) l.flatten:=by
 intro n as y vs w os l z J G
 induction G generalizing n y os l with
 |nil=>
  intro c _ _;show⟨λi E=>(by cases E),λi q h=>(by cases h)⟩
 | @t N v as vs w G B=>
  intro c C r;let⟨q,e,rfl⟩:=jO J
  cases N with
  |v d=>
   let⟨I,rfl,u⟩:=c.cv;show B (n:=n+1) (iU z) e u C r
  |ob a o=>
   let⟨p,o',M,F,I,rfl,rfl,rfl,u,c⟩:=c.co;show (B (n:=n+1) (iU z) e c (Jg.mp C).2 (JV.mp r).2.1).cons (λ_=>rfl) (z 0 _ S) u r
 | @s O v as vs w E G B=>
  intro c C r;let⟨a,o,q,_,e,rfl⟩:=j5 J;let⟨p,o',M,F,I,rfl,rfl,rfl,u,c⟩:=c.co;show (B z e c (Jg.mp C).2 (JV.mp r).2.1).cons (λ_=>rfl) (L _ _ E) u r
theorem Dj{ρ:ak}{i j:Nat}{o:Om}{x:Ŗ Sm}(h:(setA ρ i o)[j]?=Z x)(c:j≠i):ρ[j]?=Z x:=by
 rw[jH]at h;split at h
 ·rwa [IP (JD c)]at h
 ·show h
theorem sQ{ρ:ak}{i:Nat}{o:Om}:(setA ρ i o).length=ρ.length:=by
 rw[jH];split
 ·rw[Iv]
 ·rfl
theorem cy:∀{as:Y Ar}{ρ:ak}{os:Y Om},(aA ρ as os).length=ρ.length
 | [],_,_=>rfl
 |.t (.v _)::as,ρ,os=>cy (as:=as)
 |.t (.ob _ _)::as,ρ,_::os=>cy (as:=as)
 |.t (.ob _ _)::as,ρ,[]=>cy (as:=as)
 |.s i::as,ρ,o::os=>by change (aA (setA ρ i o) as os).length=_;rw[cy,sQ]
 |.s _::as,ρ,[]=>cy (as:=as)
theorem iy:∀{as:Y Ar}{ρ:ak}{os:Y Om}{i:Nat}{x:Ŗ Sm},i∉eJ as->(aA ρ as os)[i]?=Z x->ρ[i]?=Z x
 | [],_,_,_,_,_,h=>h
 |.t (.v _)::as,ρ,os,i,x,a,h=>iy (as:=as) (os:=os) a h
 |.t (.ob _ _)::as,ρ,_::os,i,x,a,h=>iy (as:=as) (os:=os) a h
 |.t (.ob _ _)::as,ρ,[],i,x,a,h=>iy (as:=as) (os:=[]) a h
 |.s j::as,ρ,o::os,i,x,a,h=>by have h':=iy (as:=as) (λz=>a (IC _ z)) (show (aA (setA ρ j o) as os)[i]?=Z x from h);show Dj h' λe=>a (by rw[e];show Iy)
 |.s j::as,ρ,[],i,x,a,h=>iy (as:=as) (os:=[]) (λz=>a (IC _ z)) h
theorem j6{ρ:ak}{i j:Nat}{o:Om}(c:j≠i):(setA ρ i o)[j]?=ρ[j]?:=by
 rw[jH];split
 ·rw[IP (JD c)]
 ·rfl
theorem qy{P:ak}:∀{as:Y Ar}{ρ:ak}{y:Y Sm}{vs:Y V}{G:St}{os:Y Om}{w:Y (Y Addr)}{n i:Nat}{x:Sm},fG P as=Z y->ArV g as vs G->OutM K Φ H y vs os w->i∈eJ as->i<n->(eJ as).Nodup->(aA ρ as os)[i]?=Z (Z x)->(∀j∈eJ as,∃a o,ρ[j]?=Z (Z (.ob a o)))->
  ∃a r q,x=.ob a q.1/\newA n as os w i=Z q/\ρ[i]?=Z (Z (.ob a r)):=by
 intro as ρ y vs G os w n i x X O
 induction O generalizing ρ y os w n i x with
 |nil=>intro _ h;cases h
 | @t s0 v as vs G O E=>
  intro l h M nd C u;let⟨q,e,rfl⟩:=jO X
  cases s0 with
  |v d=>
   let⟨Q,rfl,L⟩:=l.cv;show E (n:=n+1) e L h () nd C u
  |ob a1 o1=>
   let⟨p,o',R,F,Q,rfl,rfl,rfl,L,l⟩:=l.co;let⟨a,r,q,I,J,B⟩:=E (n:=n+1) (ρ:=ρ) e l h () nd C u;show⟨a,r,q,I,(Ir (Jk M)).trans J,B⟩
 | @s j v as vs G _ O E=>
  intro l h M nd C u;let⟨_,o,q,_,e,rfl⟩:=j5 X;let⟨p,o',R,F,Q,rfl,rfl,rfl,L,l⟩:=l.co;let⟨a_,b_⟩:=Jg.mp nd;have T:(aA (setA ρ j o') as R)[i]?=Z (Z x):=C;by_cases c:i=j
  ·subst c;let⟨a,r,N⟩:=u i Iy;have:=iy a_ T;rw[jH]at this;rw[N]at this;simp only at this;rw[IS (az N)]at this;cases this;show⟨a,r,(o',F),S,Iw S,N⟩
  ·have be:=(IL.mp h).resolve_left c
   let⟨a,r,q,I,J,B⟩:=E (ρ:=setA ρ j o') (n:=n) e l be M b_ T λk U=>by
    rw[j6 λz=>a_ (by rw[←z];show U)];show u k (IC _ U)
   show⟨a,r,q,I,(Ir c).trans J,by rw[j6 c]at B;show B⟩
theorem p8:∀{as:Y Ar}{c:Y Sm},fG ρ as=Z c->∀j∈eJ as,∃a o,ρ[j]?=Z (Z (.ob a o))
 | [],_,_,j,h=>by cases h
 |.t s::as,c,l,j,h=>by let⟨q,e,rfl⟩:=jO l;show p8 e j h
 |.s i::as,c,l,j,h=>by
  let⟨a,o,q,p,e,rfl⟩:=j5 l;rcases IL.mp h with rfl|h
  ·show⟨a,o,p⟩
  ·show p8 e j h
end
section
variable{K:Â}{X:Cx}{e:Ã}{es:Y Ã}{l p:Ö}{y:di}
inductive CallM(sp:eo)(R:Sm->ak->Prop)(Rx:XD->ak->Prop)(as:List Ar)(ρ:ak):Prop|mk (Nr:List Sm) (_:fG ρ as=Z Nr) (_:tJ as=ŗ) (_:sp Nr (λsm os=>R sm (aA ρ as os)) (λxd os=>Rx xd (aA ρ as os)))
noncomputable def AK(sp:eo)(y:di):TX:=λρ R a=>y ρ (CallM sp R a) a
theorem StM.lend{Φ0 H0 Φ H:Hp}{M P G:St}{ρ f:ak}{Rx:XD->ak->Prop}{as:Y Ar}{Nr:Y Sm}{vs:Y V}(a_:StM K X Φ0 H0 Φ H M (P++G) ρ (f++eh as) Rx)(hl:f.length=P.length)(Q:fG ρ as=Z Nr)(hv:ArV M as vs G)(hs:tJ as=ŗ) :
  ∃be,ArgM K Φ H Nr vs be/\be.flatten.Nodup/\(∀b∈be.flatten,Φ b=ŕ)/\∀sm os I T v F O,Gr Φ (cn H be.flatten) I T->ResM K I T sm v F->OutM K I T Nr vs os O->(F++O.flatten).Nodup->(∀b∈F++O.flatten,cn H be.flatten b=ŕ/\I b=ŕ)->
   StM K X Φ0 H0 I T M (P++[Z v]) (aA ρ as os) (f++[Z sm]) Rx:=by
 have nd:(eJ as).Nodup:=Jd hs;let⟨U,E⟩:=a_.E;have lS0:=a_.l
 have Nb:(eh as).length=G.length:=by have:=a_.lk;rw[Io,Io]at this;omega
 have a1:∀(i:Nat)(x:Sm),ρ[i]?=Z (Z x)->(ρ++(f++eh as))[i]?=Z (Z x):=λi x h=>by rw[Ip (az h)];show h
 have a2:∀(i:Nat)(v:V),M[i]?=Z (Z v)->(M++(P++G))[i]?=Z (Z v):=λi x h=>by rw[Ip (az h)];show h
 have a3:∀(j:Nat) x,(eh as)[j]?=Z x->(ρ++(f++eh as))[ρ.length+f.length+j]?=Z x:=λj x h=>by rw[Im (),Im (),show ρ.length+f.length+j-ρ.length-f.length=j by omega];show h
 have a4:∀(j:Nat) x,G[j]?=Z x->(M++(P++G))[ρ.length+f.length+j]?=Z x:=λj x h=>by rw[Im (),Im (),show ρ.length+f.length+j-M.length-P.length=j by omega];show h
 have sl:=p8 Q
 have slt:∀i∈eJ as,i<ρ.length:=λi w=>let ⟨_,_,h⟩:=sl i w;az h
 have pn:(dW (ρ.length+f.length) as).Nodup:=oa nd λi w=>by have:=slt i w;omega
 have po:=ly (σx:=M) a1 a3 Q;refine⟨dX U (ρ.length+f.length) as,EO E a1 a2 a3 a4 Q hv,mi E pn po,λb C=>?_,λsm os I T v F O g P1 Qv hnd N6=>?_⟩
 ·let⟨i,w,L⟩:=fpA_mem.mp C;let⟨a,o,b_⟩:=po i w;show (E.no i a o b_ b L).2
 let⟨Sf,Qf,nd3⟩:=JV.mp hnd;let⟨n1,n2⟩:=wR (n:=ρ.length+f.length) a2 a4 Q hv Qv pn Qf
 have B0:∀b∈(dX U (ρ.length+f.length) as).flatten,H0 b=ŕ:=λb C=>by let⟨i,w,L⟩:=fpA_mem.mp C;let⟨a,o,b_⟩:=po i w;show (E.no i a o b_ b L).1
 have pl:∀{i:Nat},i<ρ.length+f.length->i∉eJ as->newA (ρ.length+f.length) as os O i=ŕ:=λ{i} w hn=>by
  cases e:newA (ρ.length+f.length) as os O i with
  |none=>rfl
  |some q=>
   rcases jG (kL e)with z|z
   ·show absurd z hn
   ·omega
 have E2:EnvM' K H0 I T (M++(P++G)) (aA ρ as os++(f++List.replicate G.length ŕ)) (gP (newA (ρ.length+f.length) as os O) U):=by
  have cs:∀{i:Nat}{x:Sm},(aA ρ as os++(f++List.replicate G.length ŕ))[i]?=Z (Z x)->(i<ρ.length/\(aA ρ as os)[i]?=Z (Z x))\/(ρ.length<=i/\i<ρ.length+f.length/\f[i-ρ.length]?=Z (Z x)):=λ{i x} h=>by
   rcases Js i ρ.length with c|c
   ·rw[Ip (by rw[cy];show c)]at h;show .inl ⟨c,h⟩
   ·rw[Im (by rw[cy];show c),cy]at h;rcases Js (i-ρ.length) f.length with J|J
    ·rw[Ip J]at h;show .inr ⟨c,(),h⟩
    ·rw[Im J,J7]at h;split at h
     ·cases h
     ·cases h
  have kx:∀{i:Nat}{x:Sm},ρ.length<=i->i<ρ.length+f.length->f[i-ρ.length]?=Z (Z x)->(ρ++(f++eh as))[i]?=Z (Z x):=λ{i x} A J h=>by rw[Im A,Ip ()];show h
  refine E.lend a_.g.h (B:=(dX U (ρ.length+f.length) as).flatten) (new:=newA (ρ.length+f.length) as os O) (λb C=>?_) (λi q N b C=>fpA_mem.mpr ⟨i,kL N,C⟩) g (by rw[Io,Io,Io,Io,Jy,cy,Nb]) (λi d h=>?_) (λi a o h=>?_) (λi q N=>(n2 i q N).1) (λi q N b C=>N6 b (IZ.mpr (.inr ((n2 i q N).2.1 b C)))) λi j q r N Nn c b C=>(n2 i q N).2.2 j r Nn c b C
  ·let⟨i,w,L⟩:=fpA_mem.mp C;let⟨a,o,b_⟩:=po i w;let⟨q,N⟩:=n1 i w;show⟨i,a,o,q,N,b_,L⟩
  ·rcases cs h with⟨c,h⟩|⟨A,J,h⟩
   ·rcases K8 (i∈eJ as)with z|z
    ·let⟨a,o0,q,e1,_⟩:=qy (n:=ρ.length+f.length) Q hv Qv z () nd h sl;cases e1
    ·show a1 _ _ (iy z h)
   ·show kx A J h
  ·rcases cs h with⟨c,h⟩|⟨A,J,h⟩
   ·rcases K8 (i∈eJ as)with z|z
    ·let⟨a',o0,q,e1,e2,e3⟩:=qy (n:=ρ.length+f.length) Q hv Qv z () nd h sl;cases e1;show .inr ⟨o0,q.2,e2,a1 _ _ e3⟩
    ·show .inl ⟨pl () z,a1 _ _ (iy z h)⟩
   ·show .inl ⟨pl J λz=>by have:=slt i z;omega,kx A J h⟩
 have g0:=a_.g.lend g B0
 have E3:=E2.snocG P1 (λb C=>by
   let⟨z1,z2⟩:=N6 b (IZ.mpr (.inl C));refine⟨?_,z2⟩;rcases K8 (b∈(dX U (ρ.length+f.length) as).flatten)with c|c
   ·show B0 b c
   ·rw[gO c]at z1
    show a_.g.h.free z1) λb C i a o w L=>by
  unfold gP at L
  cases e:newA (ρ.length+f.length) as os O i with
  |some q=>
   rw[e]at L;show nd3 b C b ((n2 i q e).2.1 b L) S
  |none=>
   rw[e]at L;let⟨p,_,_,r⟩:=E2.ow i a o w;unfold gP at r;rw[e]at r;let⟨z1,z2⟩:=N6 b (IZ.mpr (.inl C))
   have own:∃o',(ρ++(f++eh as))[i]?=Z (Z (.ob a o')):=by
    rcases Js i ρ.length with c|c
    ·rw[Ip (by rw[cy];show c)]at w;rcases K8 (i∈eJ as)with z|z
     ·let⟨a',o0,q,_,e2,_⟩:=qy (n:=ρ.length+f.length) Q hv Qv z () nd w sl;rw[e]at e2;cases e2
     ·show⟨o,a1 _ _ (iy z w)⟩
    ·rw[Im (by rw[cy];show c),cy]at w;rcases Js (i-ρ.length) f.length with J|J
     ·rw[Ip J]at w;show⟨o,by rw[Im c,Ip J];show w⟩
     ·rw[Im J,J7]at w;split at w
      ·cases w
      ·cases w
   let⟨o',Pb⟩:=own;let⟨p',_,_,r'⟩:=E.ow i a o' Pb;let⟨u,hu,_⟩:=r'.at b L
   have c:b∉(dX U (ρ.length+f.length) as).flatten:=λz=>by
    let⟨j,hj,hbj⟩:=fpA_mem.mp z;let⟨q,N⟩:=n1 j hj
    have cj:i≠j:=λz=>by rw[z,N]at e;cases e
    let⟨a2',o2,UO⟩:=po j hj;show E.dj i j a a2' o' o2 Pb UO cj b L hbj
   rw[gO c,hu]at z1;cases z1
 refine⟨g0,by rw[cy];show lS0,?_,a_.x⟩;refine E3.re (λi=>if i<ρ.length+f.length then i else ρ.length+f.length+G.length) (by simp only[Io,IH,J3,cy];omega) (λi x R=>?_) λi j a a' o o' w hj e=>?_
 ·rcases Js i (ρ.length+f.length)with c|c
  ·rw[Iw c];constructor
   ·rcases Js i ρ.length with A|A
    ·rw[Ip (by rw[cy];show A)]at R;rw[Ip (by simp only[Io,cy];omega),Ip (by rw[cy];show A)];show R
    ·rw[Im (by rw[cy];show A),cy,Ip ()]at R;rw[Ip (by simp only[Io,cy];omega),Im (by rw[cy];show A),cy,Ip ()];show R
   ·rcases Js i M.length with A|A
    ·rw[Ip A,Ip (by simp only[Io];omega),Ip A]
    ·rw[Im A,Ip (),Ip (by simp only[Io];omega),Im A,Ip ()]
  ·have w:i=ρ.length+f.length:=by have:=az R;simp only[Io,IH,J3,cy]at this;omega
   subst w;rw[Ir ()];rw[Im (by rw[cy];omega),Im (by rw[cy];omega),cy,show ρ.length+f.length-ρ.length-f.length=0 by omega]at R;cases R;constructor
   ·rw[Im (by simp only[Io,Jy,cy];omega)];simp only[Io,Jy,cy];rw[show ρ.length+f.length+G.length-(ρ.length+(f.length+G.length))=0 by omega];rfl
   ·rw[Im (),Im (),Im (by simp only[Io];omega)];simp only[Io];rw[show ρ.length+f.length-M.length-P.length=0 by omega,show ρ.length+f.length+G.length-(M.length+(P.length+G.length))=0 by omega]
 ·have hi1:=az w;have Tv:=az hj;simp only[Io,IH,J3,cy]at hi1 Tv;have e:(if i<ρ.length+f.length then i else ρ.length+f.length+G.length)=(if j<ρ.length+f.length then j else ρ.length+f.length+G.length):=e;split at e<;>split at e<;>omega
structure ClM(P:Å)(w:È)(K:Â)(mg:Str->Option Value)(base:Heap)(n:Nat)(x:Str)(ps:List Str)(z:eo):Prop where
 ex:∃(f:Addr)(fd:Í),FnOk P w K mg base aN n f fd ps (lSpM K z)/\Binds K fd ps []/\ã K (.ref f)=ŗ/\mg x=Z (.ref f)
theorem bi{n:Nat}{x:Str}{ps:Y Str}{z:eo}(C:ClM X.prog X.w K X.mg X.base n x ps z)(hr:Room n X.A)(hg:Gl X x)
  (ha:PXA K X (e::es) y) (he:starEach (e::es) X.env=(Ř,eval e X.env)::starEach es X.env) (M:(backTo l (starEach es X.env)).any (·.1)=Ř) (O:ab x:=by decide) :
  PX K X (.Call (.Name x p) (e::es) [] l) (AK z y):=⟨λc=>by
 let⟨f,be,F,b,k,m⟩:=C.ex;refine (qv (dvs:=[]) (ds:=[]) (E:=E0) (c▸F:FnOk X.prog X.w X.K X.mg X.base aN n f be ps (lSpM K z)) hr hg m (c▸k) (c▸b) .nil jp (ha.pa c) O he M).imp λσ H Q B=>?_;let⟨j,A,Φ,τ,ρ,κ,R,T,a_,t,k⟩:=B;refine⟨j,A,Φ,τ,ρ,κ,_,T,a_,t,λas ρ1 o H1 vs ts h hl hv g U=>?_⟩;let⟨L,P,N,h⟩:=h;let⟨w,b_,g2,g3,g4⟩:=g.lend a_.lk P hv N;rw[Ji]
 show⟨o,L,w,_,_,g.g.s,g.E.tb,b_,g2,g3,h,λsm os a u v F I r gr J ho hn G=>k sm _ a u v r (g4 sm os a u v F I gr J ho hn G) (U.trans gr.f)⟩⟩
end
structure EndsM where
 nx:ak->Prop
 rt:Sm->ak->Prop
 bk:ak->Prop:=λ_=>False
 ct:ak->Prop:=λ_=>False
 ex:XD->ak->Prop:=λ_ _=>False
noncomputable abbrev bG:=EndsM->ak->Prop
noncomputable def pb(K:Â)(g h:Hp)(P:ak->Prop)(Q:St->Hp->Prop):Prop:=∀c a f e,P c->Gr g h a f->EnvM K h a f e c->Q e f
structure EndOkM(K:Â)(X:Cx)(Φ0 H0:Hp)(De:EndsM)(E:Ends):Prop where
 nx:pb K Φ0 H0 De.nx E.nx
 rt:∀sm ρ' Φ' H' v σ',De.rt sm ρ'->Gr Φ0 H0 Φ' H'->EnvM K H0 Φ' H' (σ'++[Z v]) (ρ'++[Z sm])->E.rt v H'
 bk:pb K Φ0 H0 De.bk E.bk
 ct:pb K Φ0 H0 De.ct E.ct
 ex:XeOk K X Φ0 H0 De.ex
inductive lM(K:Â)(X:Cx)(t:bG)(E:Ends)(σ:St)(H:Hp):Prop|mk (Φ0:Hp) (H0:Hp) (Φ:Hp) (ρ:ak) (De:EndsM) (_:Gr Φ0 H0 Φ H) (_:EnvM K H0 Φ H σ ρ) (_:t De ρ) (_:EndOkM K X Φ0 H0 De E)
structure PSM(K:Â)(X:Cx)(st:Ç)(t:bG):Prop where ps:X.K=K->PS X st (lM K X t)
structure PSsM(K:Â)(X:Cx)(st:List Ç)(t:bG):Prop where ps:X.K=K->PSs X st (lM K X t)
section
variable{K:Â}{X:Cx}{a c Φ H:Hp}{e:St}{ρ:ak}{f:XD->ak->Prop}{v:V}{sm:Sm}
theorem dI(g:Gr a c Φ H)(V:EnvM K c Φ H e ρ)(x:XeOk K X a c f):StM K X a c Φ H e [] ρ [] f:=⟨g,V.len.symm,by rw[Ji,Ji];show V,x⟩
theorem StM.env1(Q:StM K X a c Φ H e ([]++[Z v]) ρ ([]++[Z sm]) f):EnvM K c Φ H (e++[Z v]) (ρ++[Z sm]):=Q.E
end
section
variable{K:Â}{X:Cx}{st:Ç}{p:Y Ç}{t u:bG}{e a:Ã}{l:TX}{f:Ö}{w:dr}
noncomputable def Bp:bG:=λc ρ=>c.nx ρ
noncomputable def xW(t u:bG):bG:=λc ρ=>t { c with nx:=u c } ρ
inductive mCut(t u:bG)(De:EndsM)(ρ:ak):Prop|mk (I:ak->Prop) (_:t { De with nx:=I } ρ) (_:∀ρ',I ρ'->u De ρ')
theorem bP:PSsM K X [] Bp:=⟨λ_=>pss_nil.imp λE j H c=>by let⟨h,r,Φ,ρ,o,g,V,t,k⟩:=c;show k.nx ρ Φ H j t g V⟩
theorem ao(z:PSM K X st t)(A:PSsM K X p u):PSsM K X (st::p) (xW t u):=⟨λr=>(mH (z.ps r) (A.ps r)).imp λE F H x=>by let⟨c,o,Φ,ρ,v,g,V,t,k⟩:=x;exact
 ⟨c,o,Φ,ρ,_,g,V,t,⟨λj h C B t' g' y=>⟨c,o,h,j,v,g',y,t',k⟩,k.rt,k.bk,k.ct,k.ex⟩⟩⟩
theorem bR(A:PSM K X st t)(B:PSsM K X p u):PSsM K X (st::p) (mCut t u):=⟨λv=>(mH (A.ps v) (B.ps v)).imp λE G H y=>by let⟨h,r,Φ,ρ,x,g,V,⟨I,t,c⟩,k⟩:=y;exact
 ⟨h,r,Φ,ρ,_,g,V,t,⟨λj o F C t' g' z=>⟨h,r,o,j,x,g',z,c j t',k⟩,k.rt,k.bk,k.ct,k.ex⟩⟩⟩
theorem aF(c:PSM K X st t):PSsM K X [st] t:=⟨λg=>t6 (c.ps g)⟩
noncomputable def jl(i:Nat)(l:TX):bG:=λg ρ=>l ρ (λs c=>g.nx (c.set i (Z s))) g.ex
theorem Gb{i:Nat}{E:Ends}{x:St}{H:Hp}(h:lM K X (jl i l) E x H):iR (lXm K X l) (ig i) E x H:=by let⟨c,z,Φ,ρ,y,g,V,t,k⟩:=h;show⟨c,z,Φ,[],ρ,[],_,y.ex,dI g V k.ex,t,λs B j A v r o _=>k.nx _ j A _ r o.g (o.env1.store i)⟩
theorem aB{i:Nat}{x:Str}{c:Ö}(h:X.N.Nodup)(r:X.N[i]?=Z x)(y:dO X.env.scope x)(j:PX K X e l)(v:Î e (Z (.Name x c)) f.line X.env=pure Ř:=by rfl)(o:X.fn x=ŗ\/X.env.scope.names.lookup x=Z .local:=by nofun) :
  PSM K X (.Assign [.Name x c] e f) (jl i l):=⟨λg=>(qo h r y (j.pe g) v o).imp λ_ _ _=>Gb⟩
noncomputable def GX(l:TX):bG:=λg ρ=>l ρ (λ_ c=>g.nx c) g.ex
theorem fU(B:PX K X e l)(C:Î e ŕ f.line X.env=pure Ř:=by rfl):PSM K X (.Expr e f) (GX l):=
 ⟨λA=>(kM (B.pe A) C).imp λE G H z=>by
  let⟨c,x,Φ,ρ,o,g,V,t,k⟩:=z
  show⟨c,x,Φ,[],ρ,[],_,o.ex,dI g V k.ex,t,λs F h y v r j _=>k.nx _ h y G r j.g j.env⟩⟩
noncomputable def Bg(l:TX):bG:=λc ρ=>l ρ c.rt c.ex
theorem bJ(C:PX K X e l):PSM K X (.Return (Z e) f) (Bg l):=
 ⟨λB=>(vO (C.pe B)).imp λE F H A=>by
  let⟨c,y,Φ,ρ,x,g,V,t,k⟩:=A
  show⟨c,y,Φ,[],ρ,[],_,x.ex,dI g V k.ex,t,λs j h z v r o _=>k.rt s j h z v F r o.g o.env1⟩⟩
noncomputable def tU(i:Nat):TX:=λρ R _=>match ρ[i]? with|some (Z (.ob ŕ o))=>R (.ob ŕ o) (ρ.set i ŕ)|_=>False
theorem jY(i:Nat){x:Str}(N:X.N[i]?=Z x:=by rfl)(T:cR X.env.scope x:=by nofun)(hd:ab x:=by decide)
  (G:fI x:=by decide):PX K X (.Name x f) (tU i):=⟨λ_=>(pv i N T hd G).imp λbe H Q I=>by
 let⟨U,H0,Φ,b_,ρ,r,R,Rx,a_,t,k⟩:=I;unfold tU at t;split at t
 ·next o h=>
  have A:=az h;have P:=a_.l;let⟨fp,E⟩:=a_.env;let⟨q,e,_⟩:=E.ow i ŕ o h;refine⟨_,e,k _ _ Φ H _ t ⟨a_.g,by rw[Iv];show P,?_,a_.x⟩ (Same.refl _)⟩;have hk:=a_.lk;refine a_.E.re (λj=>if j=ρ.length+r.length then i else j) (by simp only[Io,Iv,IH,J3];omega) (λj x g=>?_) λB C a a' o1 o2 L M v=>?_
  ·have O:=az g;simp only[Io,Iv,IH,J3]at O;rcases Js j ρ.length with c|c
   ·rw[Ip (by rw[Iv];show c)]at g;rw[Ir (),Ip c,Ip (),Ip ()];rcases cX g with⟨_,_,z⟩|⟨_,z⟩
    ·cases z
    ·show⟨z,S⟩
   ·rw[Im (by rw[Iv];show c),Iv]at g;rcases Js j (ρ.length+r.length)with J|J
    ·rw[Ip ()]at g;rw[Ir ()];constructor
     ·rw[Im c];show g
     ·rw[Im (),Ip (),Im ()]
    ·have y:j=ρ.length+r.length:=by omega
     subst y;rw[Im (),show ρ.length+r.length-ρ.length-r.length=0 by omega]at g;cases g;rw[Iw S,Ip A,Im (),Im (),show ρ.length+r.length-be.length-b_.length=0 by omega,Ip (),e];show⟨h,S⟩
  ·have no:∀{j:Nat}{a:Ŗ Addr}{o:Om},(ρ.set i ŕ++(r++[Z (Sm.ob ŕ o)]))[j]?=Z (Z (.ob a o))->True:=λ_=>trivial
   have F:∀{j:Nat}{x:Sm},(ρ.set i ŕ++(r++[Z (Sm.ob ŕ o)]))[j]?=Z (Z x)->j≠i:=λ{j x} g y=>by subst y;rw[Ip (by rw[Iv];show A),IS A]at g;cases g
   have n1:=F L;have n2:=F M;have v:(if B=ρ.length+r.length then i else B)=(if C=ρ.length+r.length then i else C):=v;split at v<;>split at v<;>omega
 ·show t.elim⟩
noncomputable def Ct(c:dr)(t u:bG):bG:=λh ρ=>c ρ (λb g=>(b=ŗ->t h g)/\(b=Ř->u h g)) h.ex
theorem bB{c:Ã}{a b:Y Ç}(F:PXB K X c w)(B:PSsM K X a t)(C:PSsM K X b u):PSM K X (.If c a b f) (Ct w t u):=
 ⟨λz=>(sY (F.pt z) (B.ps z) (C.ps z)).imp λE I H A=>by
  let⟨h,y,Φ,ρ,x,g,V,t,k⟩:=A;refine⟨h,y,Φ,[],ρ,[],_,x.ex,dI g V k.ex,t,λc o j G r v _=>?_⟩
  cases c with
  |true=>refine jL ?_;show⟨h,y,j,o,x,v.g,v.env,r.1 S,k⟩
  |false=>refine jA ?_;show⟨h,y,j,o,x,v.g,v.env,r.2 S,k⟩⟩
noncomputable abbrev fN:=D->ak->(ak->Prop)->Prop
noncomputable abbrev i4:=Y D->ak->(ak->Prop)->Prop
inductive lGM(K:Â)(g:fN)(v:V)(σ:St)(H:Hp)(Q:St->Hp->Prop):Prop|mk (H0:Hp) (Φ:Hp) (ρ:ak) (d:D) (R:ak->Prop) (_:EnvM K H0 Φ H σ ρ) (_:Rp K Φ d v) (_:g d ρ R) (_:∀ρ' σ',R ρ'->EnvM K H0 Φ H σ' ρ'->Q σ' H)
inductive lGMs(K:Â)(g:i4)(vs:List V)(σ:St)(H:Hp)(Q:St->Hp->Prop):Prop|mk (H0:Hp) (Φ:Hp) (ρ:ak) (ds:List D) (R:ak->Prop) (_:EnvM K H0 Φ H σ ρ) (_:RpL K Φ ds vs) (_:g ds ρ R) (_:∀ρ' σ',R ρ'->EnvM K H0 Φ H σ' ρ'->Q σ' H)
structure PGM(K:Â)(X:Cx)(e:Ã)(g:fN):Prop where pg:X.K=K->PG X e (lGM K g)
structure PGMs(K:Â)(X:Cx)(es:List Ã)(g:i4):Prop where pg:X.K=K->PGs X es (lGMs K g)
end
section
variable{K:Â}{X:Cx}{e:Ã}{es:Y Ã}{a:Ö}{g:fN}{gs:i4}
noncomputable def xq(i:Nat):fN:=λd ρ R=>R (ρ.set i (Z (.v d)))
theorem cE{i:Nat}{x:Str}(f:X.N.Nodup)(j:X.N[i]?=Z x)(l:dO X.env.scope x)(h:X.fn x=ŗ\/X.env.scope.names.lookup x=Z .local:=by nofun):PGM K X (.Name x a) (xq i):=
 ⟨λ_=>(kE f j l h).imp λv p H Q c=>by let⟨o,Φ,ρ,d,R,E,r,g,k⟩:=c;show k _ _ g ((E.snocV r).store i)⟩
noncomputable def Ej:i4:=λds ρ R=>match ds with| []=>R ρ|_=>False
noncomputable def Fq(t:fN)(u:i4):i4:=λds ρ R=>match ds with|d::r=>t d ρ λc=>u r c R| []=>False
theorem gR:PGMs K X [] Ej:=⟨λ_=>pgs_nil.imp λv h H Q c=>by
 let⟨f,Φ,ρ,ds,R,E,r,g,k⟩:=c
 cases ds with
 |nil=>show⟨JY.mp r.1,k _ _ g E⟩
 |cons=>show g.elim⟩
theorem dN(p:PGM K X e g)(w:PGMs K X es gs)(y:(Æ (e::es) X.env).map (·.2)=assign e X.env::(Æ es X.env).map (·.2):=by rfl):PGMs K X (e::es) (Fq g gs):=
 ⟨λj=>(kC (p.pg j) (w.pg j) y).imp λvs B H Q o=>by
  let⟨h,Φ,ρ,ds,R,E,r,g,k⟩:=o
  cases ds with
  |nil=>show g.elim
  |cons d ds=>
   cases vs with
   |nil=>show absurd r.1 (by simp)
   |cons v vs=>
    refine⟨v,vs,S,h,Φ,ρ,d,_,E,r.2 0 v d S S,g,λc A g' l=>⟨h,Φ,c,ds,R,l,⟨by have:=r.1;simpa using this,λi u f z x=>r.2 (i+1) u f z x⟩,g',k⟩⟩⟩
noncomputable def xy(n:Nat)(t:i4):fN:=λd ρ R=>match d with|.tup ds=>ds.length=n/\t ds ρ R|.lst ds=>ds.length=n/\t ds ρ R|_=>False
noncomputable def uZ(K:Â)(n:Nat)(t:fB):TG:=λv c H Q=>pJ K n t v c H Q\/oV K n t v c H Q
theorem xT{k n:Nat}{t:fB}(l:X.K=K)(o:X.calm=ŗ)(h:PGs X es t)(p:(Æ es X.env).length=n)(j:(Æ es X.env).findIdx? (·.1)=ŕ):PG X (.Tuple es k a) (uZ K n t):=λc s w H v u Q I r f=>by
 rcases f with f|f
 ·show sI l o h p j c s w H v u Q I r f
 ·show tQ l o h p j c s w H v u Q I r f
theorem hX{k n:Nat}(o:X.calm=ŗ)(h:PGMs K X es gs)(p:(Æ es X.env).length=n:=by rfl)(l:(Æ es X.env).findIdx? (·.1)=ŕ:=by rfl):PGM K X (.Tuple es k a) (xy n gs):=
 ⟨λf=>(xT f o (h.pg f) p l:PG X (.Tuple es k a) (uZ K n (lGMs K gs))).imp λv u H Q j=>by
  let⟨c,Φ,ρ,d,R,E,r,g,k⟩:=j
  cases d with
  |tup ds=>cases r with|tup h1 h2 h3=>show .inl ⟨_,_,S,.of (E.fz _ _ h1),by rw[h2];show g.1,c,Φ,ρ,ds,R,E,⟨h2,h3⟩,g.2,k⟩
  |lst ds=>cases r with|lst h1 h2 h3=>show .inr ⟨_,_,S,.of (E.fz _ _ h1),by rw[h2];show g.1,c,Φ,ρ,ds,R,E,⟨h2,h3⟩,g.2,k⟩
  |_=>show g.elim⟩
end
section
variable{K:Â}{X:Cx}{t u:bG}{e a:Ã}{l:TX}{f:Ö}{o:dr}
noncomputable def BA(l:TX)(g:fN):bG:=λh ρ=>l ρ (xV λd c=>g d c h.nx) h.ex
theorem pV{c:Ã}{A:fN}(L:PX K X e l)(M:PGM K X c A)(N:è [c] e f.line X.env=pure Ř:=by rfl)(O:é [c] e X.env=pure ŕ:=by rfl)
  (J:(Æ [c] X.env).map (·.2)=[assign c X.env]:=by rfl):PSM K X (.Assign [c] e f) (BA l A):=
 ⟨λB=>(mT (L.pe B) (M.pg B) N O J).imp λE Q H G=>by
  let⟨p,z,Φ,ρ,C,g,V,t,k⟩:=G;refine⟨p,z,Φ,[],ρ,[],_,C.ex,dI g V k.ex,t,λs x h F v r j _=>?_⟩;let⟨d,rfl,r⟩:=r.get
  show⟨z,h,x,d,_,j.env,j.last,r,λw y P I=>k.nx w h F y P j.g I⟩⟩
noncomputable def Dn(c:dr)(tb:bG):bG:=λr ρ=>∃I:Nat->ak->Prop,(∃m,I m ρ)/\∀m j,I m j->c j (λb p=>(b=ŗ->tb { r with nx:=λg=>∃h,h<m/\I h g,ct:=λg=>∃h,h<m/\I h g,bk:=r.nx } p)/\(b=Ř->r.nx p)) r.ex
theorem Hg{c:Ã}{x:Y Ç}{tb:bG}(hp:ø (Ä X.prog X.w) X.A X.env X.xe)(hc:PXB K X c o)(hb:PSsM K X x tb):PSM K X (.While c x [] f) (Dn o tb):=
 ⟨λQ=>(tE hp (hc.pt Q) (hb.ps Q)).imp λE R H U=>by
  let⟨v,A,Φ,ρ,a_,g,V,⟨I,⟨m,b_⟩,hw⟩,k⟩:=U;refine⟨λm R H=>∃p j,Gr v A p H/\EnvM K A p H R j/\I m j,⟨m,Φ,ρ,g,V,b_⟩,?_⟩;rintro m P H' ⟨p,j,g',be,hi⟩;refine⟨v,A,p,[],j,[],_,a_.ex,dI g' be k.ex,hw m j hi,λb G F T r J _=>?_⟩
  cases b with
  |false=>refine jA ?_;show k.nx G F T P (r.2 S) J.g J.env
  |true=>
   refine jL ?_;refine⟨λw C=>∃B,B<m/\∃p j,Gr v A p C/\EnvM K A p C w j/\I B j,λw C h=>h,v,A,F,G,_,J.g,J.env,r.1 S,⟨?_,k.rt,k.nx,?_,k.ex⟩⟩
   ·rintro z y C w ⟨B,O,L⟩ N M;show⟨B,O,y,z,N,M,L⟩
   ·rintro z y C w ⟨B,O,L⟩ N M
    show⟨B,O,y,z,N,M,L⟩⟩
noncomputable abbrev iM:=ak->(Y D->ak->Prop)->(XD->ak->Prop)->Prop
inductive lIM(K:Â)(X:Cx)(t:iM)(σ:St)(H:Hp)(R':It->Hp->Prop):Prop|mk (Φ0:Hp) (H0:Hp) (Φ:Hp) (τ:St) (ρ:ak) (κ:ak) (R:List D->ak->Prop) (Rx:XD->ak->Prop) (_:StM K X Φ0 H0 Φ H σ τ ρ κ Rx) (_:t ρ R Rx) (_:∀ds ρ' Φ' H' J,R ds ρ'->StM K X Φ0 H0 Φ' H' σ τ ρ' κ Rx->Same Φ Φ'->SteadyD K J Φ' ds->R' J H')
structure PIM(K:Â)(X:Cx)(tg e:Ã)(t:iM):Prop where pi:X.K=K->PI X tg e (lIM K X t)
noncomputable def iD(t:aX):iM:=λρ R _=>t (dR ρ) λds=>R ds ρ
theorem fM{j:Ã}{t:aX}(h:PID K X j e t):PIM K X j e (iD t):=⟨λy=>(h.pi y).imp λE H A w=>by
 let⟨z,v,Φ,F,ρ,C,R,B,Q,t,k⟩:=w
 show⟨v,Φ,dR ρ,_,Q.env.toD,t,λds c p J r g x=>k ds ρ c p J r (Q.gr g) g.f x⟩⟩
noncomputable def Hr(t:di):iM:=λρ R g=>t ρ (xaD λds c=>match ds with| [.int j]=>(-(2^62)<=j/\j<2^62)/\R (cY 0 j.toNat) c|_=>False) g
theorem ui{N:Ã}{y:di}{p:Ö}(I:Gl X "range")(J:X.mg "range"=ŕ)(G:PXA K X [a] y)(L:starEach [a] X.env=[(Ř,eval a X.env)]:=by rfl):PIM K X N (.Call (.Name "range" p) [a] [] f) (Hr y):=
 ⟨λF=>(vN I J (G.pa F) L).imp λbe H Q B=>by
  let⟨g,z,Φ,P,ρ,O,R,C,a_,t,k⟩:=B;refine⟨g,z,Φ,P,ρ,O,_,C,a_,t,λas w h A vs U c T M x E=>?_⟩;let⟨ds,hd,c⟩:=c.get;have rl:=x.vals a_.lk hd M
  match ds,c,rl with
  | [.int j],r,rl=>
   let⟨v,rfl,c⟩:=rl.one_inv;obtain rfl:=c.i
   show⟨j,S,r.1.1,r.1.2,k _ w h A _ r.2 (x.pop a_.lk) E sS⟩⟩
theorem XeOk.join{j v H p:Hp}{A:XD->ak->Prop}(x:XeOk K X j v A)(g:Gr j v p H):XeOk K X p v A:=λE y w B z e C c r g' V h=>x E y w B z e C c r (g.join g') V h
inductive ForM(gd:fN)(tb:bG)(De:EndsM)(ds:List D)(ρ0:ak):Prop|mk (I:Nat->ak->Prop) (_:I 0 ρ0) (_:∀(i:Nat)(d:D)(ρ':ak),ds[i]?=Z d->I i ρ'->gd d ρ' λρ2=>tb { De with nx:=I (i+1),ct:=I (i+1),bk:=De.nx } ρ2) (_:∀ρ',I ds.length ρ'->De.nx ρ')
noncomputable def x6(j:iM)(h:fN)(tb:bG):bG:=λg ρ=>j ρ (λds c=>ForM h tb g ds c) g.ex
theorem fq{tg z:Ã}{F:Y Ç}{ti:iM}{gd:fN}{tb:bG}(hp:ø (Ä X.prog X.w) X.A X.env X.xe)(hc:X.calm=ŗ)(hi:PIM K X tg z ti)(hg:PGM K X tg gd)(hb:PSsM K X F tb)
  (hs:∀x,Ê z X.env x=pure x:=by intro _;rfl):PSM K X (.For tg z F [] f) (x6 ti gd tb):=
 ⟨λhK=>(sw hp hc (hi.pi hK) (hg.pg hK) (hb.ps hK) hs).imp λE σ H MY=>by
  let⟨N,L,Φ,ρ,De,g,V,t,k⟩:=MY;refine⟨N,L,Φ,[],ρ,[],_,De.ex,dI g V k.ex,t,λds ρ0 O H1 J NC S1 _ Sd=>?_⟩;let⟨I,h0,NI,Od⟩:=NC;refine⟨λi m σ G=>m=ds.length-i/\i<=ds.length/\∃c h,Gr N L c G/\Same O c/\EnvM K L c G σ h/\I i h,⟨ds.length,by simp,Km _,O,ρ0,S1.g,Same.refl _,S1.env,h0⟩,?_⟩;rintro i m σ' G ⟨rfl,hi,c,h,g',T,a_,hI⟩;by_cases b_:i<ds.length
  ·refine .inr ⟨Sd.go i G (T.trans a_.fz) b_,λbe Q=>∃c h,Gr N L c Q/\Same O c/\EnvM K L c Q be h/\I (i+1) h,λbe Q h2=>⟨ds.length-(i+1),(),S,b_,h2⟩,λx Q y=>?_⟩;let⟨P,B,rx⟩:=Sd.yl i c G x Q _ T a_.fz (bL b_) y;refine⟨L,P,h,_,_,a_.gr B,rx,NI i _ h (bL b_) hI,λρ2 σ3 t2 V3=>?_⟩;refine⟨P,L,P,ρ2,_,?_,V3,t2,⟨?_,?_,?_,?_,k.ex.join (g'.trans B)⟩⟩
   ·show⟨Same.refl _,(g'.trans B).h,B.s,λp u hp hn _=>hn⟩
   ·intro w j R A U C M;show⟨j,w,(g'.trans B).join C,(T.trans B.f).trans C.f,M,U⟩
   ·intro sm w j R v A r C M;show k.rt sm w j R v A r ((g'.trans B).join C) M
   ·intro w j R A U C M;show k.nx w j R A U ((g'.trans B).join C) M
   ·intro w j R A U C M;show⟨j,w,(g'.trans B).join C,(T.trans B.f).trans C.f,M,U⟩
  ·have e:i=ds.length:=by omega
   subst e
   show .inl ⟨Sd.stop G (T.trans a_.fz),k.nx h c G σ' (Od h hI) g' a_⟩⟩
end
noncomputable def aE:Y Sm->Y Addr->ak
 | [],_=>[]
 |.v d::as,ps=>Z (.v d)::aE as ps
 |.ob _ o::as,p::ps=>Z (.ob (Z p) o)::aE as ps
 |.ob _ _::as,[]=>ŕ::aE as []
noncomputable def gN(N:Y Str)(as:Y Sm)(ps:Y Addr):ak:=aE as ps++List.replicate (N.length-as.length) ŕ
noncomputable def aJ:Y Str->Y Sm->Y Addr->ak
 | [],as,ps=>aE as ps
 |_::N,[],ps=>ŕ::aJ N [] ps
 |_::N,.v d::as,ps=>Z (.v d)::aJ N as ps
 |_::N,.ob _ o::as,p::ps=>Z (.ob (Z p) o)::aJ N as ps
 |_::N,.ob _ _::as,[]=>ŕ::aJ N as []
theorem li:∀(N:Y Str)(as:Y Sm)(ps:Y Addr),gN N as ps=aJ N as ps
 | [],as,ps=>by unfold gN;rw[J3,Nat.zero_sub,List.replicate_zero,Ji];rfl
 |n::N,[],ps=>by
  have:=li N [] ps;unfold gN at this ⊢;change List.replicate (N.length+1-0) ŕ=ŕ::aJ N [] ps;rw[←this];rfl
 |n::N,.v d::as,ps=>by have:=li N as ps;unfold gN at this ⊢;rw[IH,IH,LN];show Ju (Z (Sm.v d)::·) this
 |n::N,.ob a o::as,p::ps=>by have:=li N as ps;unfold gN at this ⊢;rw[IH,IH,LN];show Ju (Z (Sm.ob (Z p) o)::·) this
 |n::N,.ob _ _::as,[]=>by have:=li N as [];unfold gN at this ⊢;rw[IH,IH,LN];show Ju (ŕ::·) this
noncomputable def jc(k:Y Om->Prop):Y Sm->Y Addr->Nat->ak->Prop
 | [],_,_,_=>k []
 |.v _::as,ps,i,ρ=>jc k as ps (i+1) ρ
 |.ob _ _::as,p::ps,i,ρ=>∃o,ρ[i]?=Z (Z (.ob (Z p) o))/\jc (λos=>k (o::os)) as ps (i+1) ρ
 |.ob _ _::_,[],_,_=>False
noncomputable def mS:Y Sm->Nat
 | []=>0
 |.v _::as=>mS as
 |.ob _ _::as=>mS as+1
noncomputable def gx:Y Sm->Y V->Y Addr
 |.v _::as,_::vs=>gx as vs
 |.ob _ _::as,.ref p::vs=>p::gx as vs
 |_,_=>[]
section
variable{K:Â}{Φ H f l g:Hp}
theorem AN:∀{as:Y Sm}{vs:Y V}{c:Y (Y Addr)},ArgM K Φ H as vs c->(gx as vs).length=mS as:=by
 intro as vs c h
 induction h with
 |nil=>rfl
 |v _ _ a=>show a
 |o _ _ a=>show Ju (·+1) a
theorem nD:∀{as:Y Sm}{ps:Y Addr},(aE as ps).length=as.length
 | [],_=>rfl
 |.v d::as,ps=>by change (aE as ps).length+1=_;rw[nD];rfl
 |.ob _ o::as,p::ps=>by change (aE as ps).length+1=_;rw[nD];rfl
 |.ob _ _::as,[]=>by change (aE as []).length+1=_;rw[nD];rfl
theorem kh:∀{as:Y Sm}{vs:Y V}{a:Y (Y Addr)},ArgM K Φ H as vs a->∀{i:Nat}{x:Sm},(aE as (gx as vs))[i]?=Z (Z x)->
  (∃d v,x=.v d/\vs[i]?=Z v/\Rp K Φ d v)\/∃o p F,x=.ob (Z p) o/\vs[i]?=Z (.ref p)/\a[i]?=Z F/\OmS K Φ H o p F:=by
 intro as vs a h
 induction h with
 |nil=>intro i x h;simp[aE]at h
 | @v d _ _ _ _ r t c=>
  intro i x h
  cases i with
  |zero=>cases h;show .inl ⟨d,_,S,S,r⟩
  |succ i=>show c (i:=i) h
 | @o _ o p F _ _ _ r t c=>
  intro i x h
  cases i with
  |zero=>cases h;show .inr ⟨o,p,F,S,S,S,r⟩
  |succ i=>show c (i:=i) h
theorem vy:∀{a:Y (Y Addr)},a.flatten.Nodup->∀{i j:Nat}{F G:Y Addr},a[i]?=Z F->a[j]?=Z G->i≠j->∀b∈F,b∉G
 | [],_,i,j,F,G,h,_,_,_,_=>by simp at h
 |L::a,nd,i,j,F,G,r,u,c,b,p=>by
  let⟨n1,n2,n3⟩:=JV.mp (show (L++a.flatten).Nodup from nd);intro o
  cases i with
  |zero=>
   cases r
   cases j with
   |zero=>show c S
   |succ j=>show n3 b p b (Mt.mpr ⟨G,ID (i:=j) (by simpa using u),o⟩) S
  |succ i=>
   cases j with
   |zero=>
    cases u;show n3 b o b (Mt.mpr ⟨F,ID (i:=i) (by simpa using r),p⟩) S
   |succ j=>show vy n2 (by simpa using r) (by simpa using u) (λe=>c (by rw[e])) b p o
theorem C7{N:Y Str}{as:Y Sm}{vs:Y V}{u:Y (Y Addr)}(sm:Same Φ H)(tb:TabF K Φ)(w:ArgM K Φ H as vs u)(nd:u.flatten.Nodup)(M:∀b∈u.flatten,Φ b=ŕ):EnvM K (cn H u.flatten) Φ H (eQ N vs) (gN N as (gx as vs)):=by
 have y:∀{i:Nat}{x:Sm},(gN N as (gx as vs))[i]?=Z (Z x)->(aE as (gx as vs))[i]?=Z (Z x):=λ{i x} h=>by
  unfold gN at h;rcases Js i (aE as (gx as vs)).length with c|c
  ·rwa [Ip c]at h
  ·rw[Im c,J7]at h;split at h<;>cases h
 have I:∀{i:Nat}{v:V},vs[i]?=Z v->(eQ N vs)[i]?=Z (Z v):=λ{i v} h=>by unfold eQ;rw[Ip (by rw[Il];show az h),IE,h];rfl
 let⟨O,R⟩:=w.len;refine⟨λi=>u.getD i [],sm,by unfold eQ gN;rw[Io,Io,Il,Jy,Jy,nD,O],λi d h=>?_,λi a o h=>?_,λi a o h b B=>?_,λi j a a' o o' J L c b B=>?_,tb⟩
 ·rcases kh w (y h)with⟨d',v,e,C,r⟩|⟨o,p,F,e,_⟩
  ·cases e;show⟨v,I C,r⟩
  ·cases e
 ·rcases kh w (y h)with⟨d',v,e,C,r⟩|⟨o',p,F,e,C,E,r⟩
  ·cases e
  ·cases e;refine⟨p,I C,(λq e=>by cases e;rfl),?_⟩;rw[II,E];show r
 ·rcases kh w (y h)with⟨d',v,e,_⟩|⟨o',p,F,e,C,E,r⟩
  ·cases e
  ·rw[II,E]at B;have G:b∈u.flatten:=Mt.mpr ⟨F,ID E,B⟩;show⟨vA G,M b G⟩
 ·rcases kh w (y J)with⟨d',v,e,_⟩|⟨a_,U,P,e,_,z,_⟩
  ·cases e
  ·rcases kh w (y L)with⟨d',v,e,_⟩|⟨T,X,Q,e,_,A,_⟩
   ·cases e
   ·rw[II,z]at B;rw[II,A];show vy nd z A c b B
theorem zf{x:Nat->Y Addr}{U:St}{ρ:ak}{k:Y Om->Prop}(E:EnvM' K g f l U ρ x):∀{as:Y Sm}{vs:Y V}{C:Y (Y Addr)}{i:Nat}{k:Y Om->Prop},ArgM K Φ H as vs C->jc k as (gx as vs) i ρ->
  ∃os w,OutM K f l as vs os w/\k os/\w.flatten.Nodup/\(∀b∈w.flatten,g b=ŕ/\f b=ŕ)/\∀b∈w.flatten,∃j a o,i<=j/\j<i+as.length/\ρ[j]?=Z (Z (.ob a o))/\b∈x j:=by
 intro as vs C i k h
 induction h generalizing i k with
 |nil=>show λh=>⟨[],[],.nil,h,by simp,λb u=>(by cases u),λb u=>(by cases u)⟩
 |v r t M=>
  intro h;let⟨os,w,G,I,J,L,A⟩:=M (k:=k) (i:=i+1) h;refine⟨os,[]::w,.v G,I,by simpa using J,λb u=>L b (by simpa using u),λb u=>?_⟩;let⟨j,a,o,N,O,y⟩:=A b (by simpa using u);show⟨j,a,o,(),by rw[IH];omega,y⟩
 | @o _ T p F as vs C r t M=>
  intro h;let⟨o',B,h⟩:=(show ∃o,ρ[i]?=Z (Z (.ob (Z p) o))/\jc (λos=>k (o::os)) as (gx as vs) (i+1) ρ from h);let⟨os,w,G,I,J,L,A⟩:=M (k:=λos=>k (o'::os)) (i:=i+1) h;let⟨q,e,P,rr⟩:=E.ow i _ o' B;cases P p S;refine⟨o'::os,x i::w,.o rr G,I,?_,λb u=>?_,λb u=>?_⟩
  ·refine JV.mpr ⟨rr.nodup,J,λb u c Q e=>?_⟩;subst e;let⟨j,a,o,N,O,y,R⟩:=A b Q;show E.dj i j _ a o' o B y () b u R
  ·rcases IZ.mp (show b∈x i++w.flatten from u)with z|z
   ·show E.no i _ o' B b z
   ·show L b z
  ·rcases IZ.mp (show b∈x i++w.flatten from u)with z|z
   ·show⟨i,_,o',Iu _,by rw[IH];omega,B,z⟩
   ·let⟨j,a,o,N,O,y⟩:=A b z;show⟨j,a,o,(),by rw[IH];omega,y⟩
end
section
variable{P:Å}{w:È}{K:Â}{mg:Str->Ŗ Value}{base:Heap}
theorem Fun.okM{x qual:Str}{st:Ç}{f:Addr}{b_:Í}{N ps:Y Str}{k:Nat}{sp:eo}(F:Fun K x qual st f b_)(a_:FnScope N ps (av st))(len:∀as R C,sp as R C->as.length=ps.length)
  (NU:∀(L:Value)(A:Ì)(outer:Y ì)(s:À)(H:Hp)(E:XK)(as:Y Sm)(R:Sm->Y Om->Prop)(C:XD->Y Om->Prop)(be:Y Addr),b_.code=L->Room k (A.deeper (ê qual (av st) s.heap.objs.size f L))->sp as R C->be.length=mS as->
   ∃t,PSsM K (iu aN P w K mg base N qual (av st) f L A outer s H E).nox (gu st) t/\let ke:EndsM:={ nx:=λρ=>jc (R (.v .non)) as be 0 ρ,rt:=λsm ρ=>jc (R sm) as be 0 ρ };t ke (aJ N as be)):FnOk P w K mg base aN (k+1) f b_ ps (lSpM K sp):=by
 refine F.okL a_ (λvs H Q E ⟨Φ,as,J,R,C,sm,tb,O,nd,hn,h,_⟩=>by rw[O.len.1];show len as R C h) (λL A outer s H vs Q E M9 hr ⟨Φ,as,J,R,C,sm,tb,O,nd,hn,h,kk⟩=>?_);let⟨t,ht,hq⟩:=NU L A outer s H E as R C (gx as vs) M9 hr h (AN O);dsimp only at hq;rw[←li]at hq;have al:=len as R C h
 have nl:ps.length<=N.length:=by have:=Ju List.length a_.pre;rw[Jv]at this;omega
 have M:∀sm l p B v y,jc (R sm) as (gx as vs) 0 l->Gr Φ (cn H J.flatten) p B->EnvM K (cn H J.flatten) p B (y++[Z v]) (l++[Z sm])->Q v B:=λI l p B v y hk g V=>by
  let⟨fp,G⟩:=V
  have hl:y.length=l.length:=by have:=G.len;simpa using this
  let⟨os,ND,h1,h2,h3,h4,h5⟩:=zf (k:=R I) (G.take hl.symm) O hk
  have X:(l++[Z I])[l.length]?=Z (Z I):=by rw[Im (Iu _),Je];rfl
  cases I with
  |v d=>
   let⟨u,U,r⟩:=G.sl _ d X;rw[←hl,Im (Iu _),Je]at U;cases U;show kk (.v d) os p B v [] ND h2 g (.v r) h1 (by simpa using h3) (λb T=>h4 b (by simpa using T))
  |ob a o=>
   let⟨u,U,hau,r⟩:=G.ow _ a o X;rw[←hl,Im (Iu _),Je]at U;cases U;refine kk (.ob a o) os p B _ (fp l.length) ND h2 g (.o hau r) h1 ?_ λb T=>?_
   ·refine JV.mpr ⟨r.nodup,h3,λb T c hc e=>?_⟩;subst e;let⟨j,a2,o2,_,_,j3,j4⟩:=h5 b hc;have hj:=az j3;show G.dj _ j a a2 o o2 X (by rw[Ip hj];show j3) () b T j4
   ·rcases IZ.mp T with z|z
    ·show G.no _ a o X b z
    ·show h4 b z
 have g0:Gr Φ (cn H J.flatten) Φ H:=⟨Same.refl _,FG,sm,λ_ _ _ h _=>h⟩;refine⟨lM K _ t,ht.ps S,Φ,cn H J.flatten,Φ,_,_,g0,C7 sm tb O nd hn,hq,⟨λl p B y r g V=>?_,λI l p B v y r g V=>M I l p B v y r g V,λ_ _ _ _ h=>h.elim,λ_ _ _ _ h=>h.elim,λ_ _ _ _ _ _ _ _ h=>h.elim⟩⟩;show M (.v .non) l p B .non y r g (V.snocV .non)
theorem Fun.clM{x:Str}{st:Ç}{f:Addr}{a:Í}{ps:Y Str}{n:Nat}{z:eo}(F:Fun K x x st f a)(m:mg x=Z (.ref f))(H:FnOk P w K mg base aN n f a ps (lSpM K z))
  (b:qO st x x ps:=by intro _ _ _ _ _ _;first|show p7 λ_=>rfl|show qD λ_ _=>rfl|show qT λ_ _ _=>rfl|show qj λ_ _ _ _=>rfl|show us_0 S|show us_5 λ_ _ _ _ _=>rfl|show us_6 λ_ _ _ _ _ _=>rfl|show us_7 λ_ _ _ _ _ _ _=>rfl|show us_8 λ_ _ _ _ _ _ _ _=>rfl):ClM P w K mg base n x ps z:=⟨f,a,H,F.binds b,F.kp,m⟩
theorem ClM.mono{n m:Nat}{x:Str}{ps:Y Str}{z:eo}(C:ClM P w K mg base n x ps z)(k:n<=m:=by decide):ClM P w K mg base m x ps z:=by let⟨f,a,F,r⟩:=C.ex;show⟨f,a,F.mono k,r⟩
end
section
variable{K:Â}{X:Cx}{e a b:Ã}{A C:TX}{B l I y G:Ö}{x:Str}{i:Nat}
noncomputable def ownL(ρ:ak)(i:Nat)(k:Ŗ Addr->Y D->Prop):Prop:=match ρ[i]? with|some (Z (.ob a (.lst ds)))=>k a ds|_=>False
theorem ownL.get{ρ:ak}{i:Nat}{k:Ŗ Addr->Y D->Prop}(h:ownL ρ i k):∃a ds,ρ[i]?=Z (Z (.ob a (.lst ds)))/\k a ds:=by
 unfold ownL at h;split at h
 ·next a ds e=>show⟨a,ds,e,h⟩
 ·show h.elim
theorem StM.list{c j Φ H:Hp}{h w:St}{ρ v:ak}{o:XD->ak->Prop}{a:Ŗ Addr}{ds:Y D}(Q:StM K X c j Φ H h w ρ v o)(p:ρ[i]?=Z (Z (.ob a (.lst ds)))):∃q vs,h[i]?=Z (Z (.ref q))/\H q=Z (.lst vs)/\RpL K Φ ds vs /\
  ∀(es:Y D)(f:Y V),RpL K Φ es f->StM K X c j Φ (aq H q (.lst f)) h w (ρ.set i (Z (.ob a (.lst es)))) v o:=by
 have g:=az p;let⟨q,vs,e,z,L,M,E,F⟩:=Q.E.list (i:=i) (a:=a) (ds:=ds) Q.g (by rw[Ip g];show p);rw[Ip (by rw[←Q.l];show g)]at e;refine⟨q,vs,e,z,E,λes f r=>?_⟩;let⟨u,J⟩:=F es f r;refine⟨J,by rw[Iv];show Q.l,?_,Q.x⟩;rw[Kp _ _ g]at u;show u
noncomputable def CT(i:Nat)(A:TX):bG:=λf ρ=>ownL ρ i λ_ _=>A ρ (xV λd c=>ownL c i λa ds=>ds.length<sizeLine/\NF (ds++[d]) λes=>f.nx (c.set i (Z (.ob a (.lst es))))) f.ex
theorem fk(i:Nat)(be:PX K X e A)(P:((backTo I (starEach [e] X.env)).all (λx=>!x.1)&&(â I (Õ [] X.env)).all (λx=>x.1.isSome)&&decide (([e]:Y Ã).length+([]:Y Ü).length+(if ([]:Y Ü).isEmpty then 0 else 1)<30))=ŗ)
  (h:starEach [e] X.env=(Ř,eval e X.env)::starEach [] X.env) (U:X.N[i]?=Z x:=by rfl) (hv:cR X.env.scope x:=by nofun) (hd:ab x:=by decide) (J:fI x:=by decide)
  (M:Ë (.Name x y) "append" X.env (eval (.Name x y) X.env)=eval (.Name x y) X.env:=by rfl) (N:(l.endLine==I.line)=ŗ:=by rfl) (hs:Î (.Call (.Attribute (.Name x y) "append" l) [e] [] I) ŕ B.line X.env=pure Ř:=by rfl) :
  PSM K X (.Expr (.Call (.Attribute (.Name x y) "append" l) [e] [] I) B) (CT i A):=
 ⟨λT=>(kM (kt J8 Lu Lv mw (pv i U hv hd J) (eY (be.pe T) pa_nil h) M P N h ae) hs).imp λE σ H L=>by
  let⟨c,F,Φ,ρ,z,g,V,t,k⟩:=L;let⟨a,ds,ho,t⟩:=ownL.get t;have a_:=dI g V k.ex;let⟨q,vs,u,hp,rl,_⟩:=a_.list ho;refine⟨_,u,.inl ⟨S,vs,SqL.of hp⟩,c,F,Φ,[],ρ,[],_,z.ex,a_,t,λs ρ1 f H1 v r j _=>?_⟩;let⟨d,rfl,r⟩:=r.get;let⟨a1,UP,Q,b_,r⟩:=ownL.get r;let⟨q1,R,w,O,p,k1⟩:=j.list Q;rw[u]at w;cases w;have o:=k1 _ _ (p.append (.one j.last))
  show⟨q,R,v,S,S,O,by rw[p.1];show b_,k.nx _ f _ σ r.get o.g o.env⟩⟩
noncomputable def Gc(i:Nat):TX:=λρ R _=>ownL ρ i λa ds=>∃d,ds[ds.length-1]?=Z d/\NF ds.dropLast λes=>R (.v d) (ρ.set i (Z (.ob a (.lst es))))
theorem Be(i:Nat)(w:X.N[i]?=Z x:=by rfl)(c:cR X.env.scope x:=by nofun)(hd:ab x:=by decide)(g:fI x:=by decide)
  (j:Ë (.Name x y) "pop" X.env (eval (.Name x y) X.env)=eval (.Name x y) X.env:=by rfl) (o:(l.endLine==I.line)=ŗ:=by rfl):PX K X (.Call (.Attribute (.Name x y) "pop" l) [] [] I) (Gc i):=
 ⟨λN=>(xX J8 MJ MK D8 (pv i w c hd g) j o).imp λP H Q h=>by
  let⟨J,L,Φ,T,ρ,O,R,M,U,t,k⟩:=h;let⟨a,ds,z,d,r,t⟩:=ownL.get t;let⟨q,vs,u,f,rl,E⟩:=U.list z;let⟨v,c,F⟩:=rl.at r;rw[←rl.1]at c;have p:=E _ _ rl.dropLast
  show⟨_,u,.inl ⟨S,vs,SqL.of f⟩,q,vs,v,S,S,f,c,k _ _ Φ _ v t.get (p.pushV F) (Same.refl _)⟩⟩
theorem RpL.eraseIdx{Φ:Hp}{ds:Y D}{vs:Y V}(h:RpL K Φ ds vs)(j:Nat):RpL K Φ (ds.eraseIdx j) (vs.eraseIdx j):=by rw[LQ,LQ];show (h.take j).append (h.drop (j+1))
theorem Ch{j n:Nat}(h:j<n):ā (j:Int) n=Z j:=by unfold ā;simp;omega
noncomputable def Aw(i:Nat)(A C:TX):bG:=λg ρ=>A ρ (xV λd c=>ownL c i λ_ _=>C c (xV λh f=>match h with|.int n=>ownL f i λa ds=>∃j,fv ds.length n=Z j/\NF (ds.set j d) λes=>g.nx (f.set i (Z (.ob a (.lst es))))|_=>False) g.ex) g.ex
theorem lr(i:Nat)(he:PX K X e A)(hk:PX K X b C)(hN:X.N[i]?=Z x:=by rfl)(hv:cR X.env.scope x:=by nofun)(hd:ab x:=by decide)(Q:fI x:=by decide)
  (ha:∀v,assign (.Subscript (.Name x y) b G) X.env v=(do
   let ov ←holding [v] (eval (.Name x y) X.env)
   let iv ←holding [v,ov] (eval b X.env)
   standAt G
   holding [v,ov,iv] (setItem ov iv v)
   release [v,ov,iv] []):=by intro _;rfl)
  (hs:è [.Subscript (.Name x y) b G] e B.line X.env=pure Ř:=by rfl) (hw:é [.Subscript (.Name x y) b G] e X.env=pure ŕ:=by rfl)
  (b_:(Æ [.Subscript (.Name x y) b G] X.env).map (·.2)=[assign (.Subscript (.Name x y) b G) X.env]:=by rfl) :
  PSM K X (.Assign [.Subscript (.Name x y) b G] e B) (Aw i A C):=
 ⟨λP=>(mT (he.pe P) (rN (pv i hN hv hd Q) (hk.pe P) oP ha) hs hw b_).imp λE σ H R=>by
  let⟨f,z,Φ,ρ,u,g,V,t,k⟩:=R;refine⟨f,z,Φ,[],ρ,[],_,u.ex,dI g V k.ex,t,λs p h H1 v r F _=>?_⟩;let⟨d,rfl,r⟩:=r.get;let⟨a1,UP,U,r⟩:=ownL.get r;let⟨q,vs,N,_⟩:=F.list U;refine⟨_,N,f,z,h,_,p,_,_,u.ex,F,r,λs2 ρ2 o H2 w c J _=>?_⟩;let⟨kk,rfl,c⟩:=c.get;let⟨rd,rk⟩:=J.last2;let⟨n,rfl,c⟩:=iJ c;obtain rfl:=rk.i;let⟨a2,TB,T,j,hj,c⟩:=ownL.get c;let⟨q2,be,O,a_,M,k2⟩:=J.list T;rw[N]at O;cases O;have L:=k2 _ _ (M.set rd j)
  show⟨q,be,n,j,S,S,a_,by rw[M.1];show hj,k.nx _ o _ σ c.get L.g L.env⟩⟩
noncomputable def Hx(i:Nat)(f:Int->Int->Int)(C A:TX):bG:=λh ρ=>(ownL ρ i λ_ _=>True)/\C ρ (xV λp c=>match p with|.int n=>ownL c i λa ds=>∃(j:Nat)(v:Int),n=(j:Int)/\ds[j]?=Z (.int v)/\A c (xV λd g=>match d with|.int m=>ownL g i λa2 o=>j<o.length/\NF (o.set j (.int (f v m))) λes=>h.nx (g.set i (Z (.ob a2 (.lst es))))|_=>False) h.ex|_=>False) h.ex
theorem Dm{op:ë}{f:Int->Int->Int}(i:Nat)(UT:kZ X op (qz f))(hk:PX K X b C)(he:PX K X e A)(hN:X.N[i]?=Z x:=by rfl)(hv:cR X.env.scope x:=by nofun)(hd:ab x:=by decide)(M9:fI x:=by decide)
  (ha:∀r p new,augStore b r p new=(do holding [new,r,p] (setItem r p new);release [new,r,p] [];pure .next):=by intros;rfl) :
  PSM K X (.AugAssign (.Subscript (.Name x y) b G) op e B) (Hx i f C A):=
 ⟨λL=>(Ey (pv i hN hv hd M9) (hk.pe L) (yo L) (he.pe L) UT oP ha).imp λE σ H MY=>by
  let⟨o,T,Φ,ρ,R,g,V,⟨N,t⟩,k⟩:=MY;let⟨a,ds,N,_⟩:=ownL.get N;have a_:=dI g V k.ex;let⟨q,vs,J,hp,rl,_⟩:=a_.list N;refine⟨_,J,o,T,Φ,[],ρ,[],_,R.ex,a_,t,λs1 Q O H1 w c F _=>?_⟩;let⟨kk,rfl,c⟩:=c.get;have rk:=F.last;let⟨n,rfl,c⟩:=iJ c;obtain rfl:=rk.i;let⟨a1,UP,Qw,j,v,rfl,hj,c⟩:=ownL.get c;let⟨q1,UQ,e2,Nv,Tz,_⟩:=F.list Qw;rw[J]at e2;cases e2;let⟨u,hu,ru⟩:=Tz.at hj;obtain rfl:=ru.i;refine⟨q,UQ,_,j,_,S,S,.of Nv,S,hu,o,T,O,_,Q,_,_,R.ex,F,c,λs2 ρ2 P H2 z h U _=>?_⟩;let⟨d,rfl,h⟩:=h.get;have rd:=U.last;let⟨m,rfl,h⟩:=iJ h;obtain rfl:=rd.i;let⟨a2,TB,Oa,M,h⟩:=ownL.get h;let⟨q2,US,e3,Nz,b_,k2⟩:=U.list Oa;rw[J]at e3;cases e3;have be:=k2 _ _ (b_.set (.int (f v m)) j)
  show⟨v,m,S,S,q,US,_,j,S,S,Nz,eZ (by rw[b_.1];show M),k.nx _ P _ σ h.get be.g be.env⟩⟩
noncomputable def aQ:Ŗ Sm->Ŗ Sm
 |some (.ob ŕ (.lst ds))=>Z (.v (.lst ds))
 |some (.ob ŕ (.map c))=>Z (.v (.map c))
 |x=>x
noncomputable def aK:Nat->ak->ak
 |_,[]=>[]
 |0,x::ρ=>aQ x::ρ
 |i+1,x::ρ=>x::aK i ρ
theorem vU:∀(i:Nat)(ρ:ak),aK i ρ=(match ρ[i]? with
  |some (Z (.ob ŕ (.lst ds)))=>ρ.set i (Z (.v (.lst ds)))
  |some (Z (.ob ŕ (.map c)))=>ρ.set i (Z (.v (.map c)))
  |_=>ρ)
 |0,[]=>rfl
 |_+1,[]=>rfl
 |0,Z (.ob ŕ (.lst _))::_=>rfl
 |0,Z (.ob ŕ (.map _))::_=>rfl
 |0,Z (.ob ŕ (.mpT _))::_=>rfl
 |0,Z (.ob ŕ (.obj _ _))::_=>rfl
 |0,Z (.ob ŕ .ptr)::_=>rfl
 |0,Z (.ob ŕ (.tl _))::_=>rfl
 |0,Z (.ob ŕ (.pr _ _))::_=>rfl
 |0,Z (.ob (Z _) _)::_=>rfl
 |0,Z (.v _)::_=>rfl
 |0,ŕ::_=>rfl
 |i+1,x::ρ=>by
  change x::aK i ρ=_;rw[vU i ρ,MA]
  match ρ[i]? with
  |some (Z (.ob ŕ (.lst _)))=>rfl
  |some (Z (.ob ŕ (.map _)))=>rfl
  |some (Z (.ob ŕ (.mpT _)))=>rfl
  |some (Z (.ob ŕ (.obj _ _)))=>rfl
  |some (Z (.ob ŕ .ptr))=>rfl
  |some (Z (.ob ŕ (.tl _)))=>rfl
  |some (Z (.ob ŕ (.pr _ _)))=>rfl
  |some (Z (.ob (Z _) _))=>rfl
  |some (Z (.v _))=>rfl
  |some ŕ=>rfl
  |none=>rfl
theorem Rp.map_of{Φ:Hp}{g:Y (aD×D)}{j:Y (aD×V)}{p:Addr}(h:Φ p=Z (.dK j))(r:Paired (gw K Φ) g j):Rp K Φ (.map g) (.ref p):=by
 refine .map h ?_ ?_
 ·clear h
  induction r with
  |nil=>rfl
  |cons q _ f=>rw[IQ,IQ,f,q.1]
 ·clear h
  induction r with
  |nil=>intro i w d c;simp at c
  |cons q _ f=>
   intro i w d c hd
   cases i with
   |zero=>cases c;cases hd;show q.2
   |succ i=>show f i w d c hd
theorem EnvM.frz1f{N O Φ H:Hp}{be:St}{ρ:ak}{o:Om}{P:D}(E:EnvM K O Φ H be ρ)(g:Gr N O Φ H){i:Nat}(R:ρ[i]?=Z (Z (.ob ŕ o)))
  (hr:∀p F,OmS K Φ H o p F->∃u,H p=Z u/\∀f,Same Φ f->f p=Z u->Rp K f P (.ref p)) (hs:o.solid=ŗ:=by rfl):∃f,Gr N O f H/\EnvM K O f H be (ρ.set i (Z (.v P)))/\Same Φ f:=by
 let⟨fp,E⟩:=E;let⟨p,e,_,r⟩:=E.ow i ŕ _ R;have U:=r.mem hs;have no:=E.no i ŕ _ R p U;let⟨u,a_,h2⟩:=hr p _ r;have M:=du no.2 u
 have w:∀{j:Nat}{x:Sm},(ρ.set i (Z (Sm.v P)))[j]?=Z (Z x)->(j=i/\x=.v P)\/(j≠i/\ρ[j]?=Z (Z x)):=λ{j x} h=>by
  rcases cX h with⟨e,_,b_⟩|⟨e,h⟩
  ·cases b_;show .inl ⟨e,S⟩
  ·show .inr ⟨e,h⟩
 refine⟨aq Φ p u,g.freeze no.1 no.2 a_,⟨fp,λb u' Q=>?_,by rw[Iv,E.len],λj d h=>?_,λj a o h=>?_,λj a o h b T=>?_,λj k a a' o o' J L c=>?_,E.tb.same M⟩,M⟩
 ·by_cases c:b=p
  ·subst c;rw[bh]at Q;cases Q;show a_
  ·rw[aY c]at Q;show E.fz b u' Q
 ·rcases w h with⟨c,h⟩|⟨_,h⟩
  ·cases h;subst c;show⟨_,e,h2 _ M bh⟩
  ·let⟨v,hv,rv⟩:=E.sl j d h;show⟨v,hv,rv.same M⟩
 ·rcases w h with⟨_,h⟩|⟨_,h⟩
  ·cases h
  ·let⟨q,hq,ha,rq⟩:=E.ow j a o h;show⟨q,hq,ha,rq.keep M λ_ _ _ h=>h⟩
 ·rcases w h with⟨_,h⟩|⟨c,h⟩
  ·cases h
  ·have:b≠p:=λz=>E.dj j i a ŕ o _ h R c b T (by rw[z];show U);rw[aY this];show E.no j a o h b T
 ·rcases w J with⟨_,J⟩|⟨_,J⟩
  ·cases J
  rcases w L with⟨_,L⟩|⟨_,L⟩
  ·cases L
  show E.dj j k a a' o o' J L c
theorem EnvM.frz1{f h Φ H:Hp}{r:St}{ρ:ak}{o:Om}{j:D}(E:EnvM K h Φ H r ρ)(g:Gr f h Φ H){i:Nat}(v:ρ[i]?=Z (Z (.ob ŕ o)))
  (w:∀p F,OmS K Φ H o p F->∃u,H p=Z u/\∀c,Same Φ c->c p=Z u->Rp K c j (.ref p)) (z:o.solid=ŗ:=by rfl):∃c,Gr f h c H/\EnvM K h c H r (ρ.set i (Z (.v j))):=
 let ⟨c,g',E',_⟩:=E.frz1f g v w z
 ⟨c,g',E'⟩
theorem EnvM.frz{f j Φ H:Hp}{v:St}{ρ:ak}(E:EnvM K j Φ H v ρ)(g:Gr f j Φ H)(i:Nat):∃c,Gr f j c H/\EnvM K j c H v (aK i ρ):=by
 rw[vU];split
 ·next ds ho=>
  refine E.frz1 g ho λp F r=>?_;let⟨_,vs,o,u⟩:=r.lst_inv;show⟨_,o,λc s h=>(u.same s).lst h⟩
 ·next M0 ho=>
  refine E.frz1 g ho λp F r=>?_;let⟨_,w,o,u⟩:=r.map_inv;show⟨_,o,λc s h=>Rp.map_of h (oE (λ_ _ r=>⟨r.1,r.2.same s⟩) u)⟩
 ·show⟨Φ,g,E⟩
noncomputable def EE(i:Nat)(t:bG):bG:=λc ρ=>t c (aK i ρ)
theorem iE{c:Y Ç}{t:bG}(i:Nat)(h:PSsM K X c t):PSsM K X c (EE i t):=⟨λv=>(h.ps v).imp λE w H r=>by
 let⟨j,p,Φ,ρ,o,g,V,t,k⟩:=r;let⟨f,g',u⟩:=V.frz g i
 show⟨j,p,f,aK i ρ,o,g',u,t,k⟩⟩
noncomputable def va(i:Nat)(f:Int->Int->Int)(A:TX):bG:=λg ρ=>match ρ[i]? with|some (Z (.v (.int n)))=>A ρ (xV λd c=>match d with|.int m=>g.nx (c.set i (Z (.v (.int (f n m)))))|_=>False) g.ex|_=>False
theorem AA{u:ë}{f:Int->Int->Int}{c:Ö}(i:Nat)(M:kZ X u (qz f))(P:X.N.Nodup)(a_:X.N[i]?=Z x)(T:dO X.env.scope x)(Q:PX K X e A)
  (R:X.fn x=ŗ\/X.env.scope.names.lookup x=Z .local:=by nofun):PSM K X (.AugAssign (.Name x c) u e B) (va i f A):=
 ⟨λO=>(HE P a_ T (Q.pe O) M R).imp λE b_ H L=>by
  let⟨o,F,Φ,ρ,z,g,V,t,k⟩:=L;unfold va at t;split at t
  ·next n ho=>
   let⟨v,N,r⟩:=V.sl ho;obtain rfl:=r.i;refine⟨_,N,o,F,Φ,[],ρ,[],_,z.ex,dI g V k.ex,t,λs be p J w h j _=>?_⟩;let⟨d,rfl,h⟩:=h.get;have U:=j.last;let⟨m,rfl,h⟩:=iJ h;obtain rfl:=U.i;show⟨n,m,S,S,k.nx _ p J _ h j.g ((j.env.snocV (.int _)).store i)⟩
  ·show t.elim⟩
end
section
variable{K:Â}{X:Cx}{j a c:Ã}{scope:ß}{e u v:Ö}{N':Y Str}{cap:Y (Ŗ Nat)}{f:aX}{g:dH}{o:cw}{l:TD}{i:Nat}{y:Str}
theorem EA{tf:aX}{E:Ends}{x:St}{H:Hp}(w:∀{x:St}{H:Hp}{Q:VK},lF K tf x H Q->gC (lI K f) cap (lG K g) (lT K o) (lE K l) x H Q)(h:lM K X (jl i (xF tf)) E x H):iR (gC (lI K f) cap (lG K g) (lT K o) (lE K l)) (ig i) E x H:=by let⟨M,B,Φ,ρ,N,gg,V,t,J⟩:=h;show w ⟨B,Φ,dR ρ,_,V.toD,t,λds L A p vs r z C G I rr=>J.nx _ _ A _ r (gg.trans z) ((V.snocO gg.h z (.lst I rr) λb F=>by rw[Iz.mp F];show⟨C,G⟩).store i)⟩
theorem t7{k:Nat}(A:X.calm=ŗ)(F:X.N.Nodup)(O:X.N[i]?=Z y)(N:dO X.env.scope y)(Q:CompScope X.N X.env.scope scope N' cap)(B:fP k cap=ŗ)(L:GM k g)(J:PID K X j a f)
  (I:∀(cl:Y (Str×Addr))(r:Y Addr)(C:Addr)(w:À)(p:Hp),PGD K (bV X scope N' cl C w p r) j g)
  (G:∀(cl:Y (Str×Addr))(r:Y Addr)(C:Addr)(w:À)(p:Hp),PD K (bV X scope N' cl C w p r) c l) (E:Î (.ListComp c [⟨j,a,[],0⟩] scope e) (Z (.Name y u)) v.line X.env=pure ŗ:=by rfl)
  (M:∀x,Ê a X.env x=pure x:=by intro _;rfl) (H:X.fn y=ŗ\/X.env.scope.names.lookup y=Z .local:=by nofun) :
  PSM K X (.Assign [.Name y u] (.ListComp c [⟨j,a,[],0⟩] scope e) v) (jl i (xF (lR f cap g l))):=
 ⟨λz=>(kG A F O N Q (J.pi z) (λcl r C w p=>(I cl r C w p).pg z) (λcl r C w p=>(px (K:=K)).p z) (λcl r C w p=>(G cl r C w p).pe z) E M H).imp λ_ _ _ h=>EA (λq=>oX B L q) h⟩
end
noncomputable def zM(z:cB):eo:=λas R _=>∃ds,as=ds.map Sm.v/\z ds λd=>R (.v d) []
theorem Ff{H:Hp}:cn H []=H:=funext λb=>Ir (by simp)
theorem uV{K:Â}{Φ H:Hp}:∀{ds:Y D}{vs:Y V},RpL K Φ ds vs->ArgM K Φ H (ds.map Sm.v) vs (ds.map λ_=>[])
 | [],[],_=>.nil
 | [],_::_,h=>by cases h.1
 |_::_,[],h=>by cases h.1
 |d::ds,v::vs,h=>.v (h.2 0 v d S S) (uV ⟨by have:=h.1;simpa using this,λi u e c a=>h.2 (i+1) u e c a⟩)
theorem qh{a:Type}:∀(ds:Y a),(ds.map λ_=>([]:Y Addr)).flatten=[]
 | []=>rfl
 |_::ds=>by simp
theorem mB{K:Â}{z:cB}:∀vs H Q E,lSp K z vs H Q E->lSpM K (zM z) vs H Q E:=λvs H Q E h=>by
 let⟨Φ,ds,R,sm,tb,rl,l,k⟩:=h;refine⟨Φ,ds.map Sm.v,ds.map λ_=>[],λs os=>∃d,s=.v d/\R d,λ_ _=>False,sm,tb,uV rl,by rw[qh];show List.nodup_nil,λb c=>(by rw[qh]at c;cases c),⟨ds,S,?_⟩,λs os a f v F u r g j x w p=>?_⟩
 ·have e:R=λd=>∃d',(Sm.v d:Sm)=.v d'/\R d':=funext λd=>propext ⟨λh=>⟨d,S,h⟩,λ⟨d',e,h⟩=>by cases e;show h⟩;rw[←e];show l
 ·let⟨d,rfl,r⟩:=r
  cases j with
  |v o=>
   rw[qh,Ff]at g;show k d a f v r g o
noncomputable def pinned:Ŗ Sm->Ŗ Sm
 |some (.v d)=>Z (.v d)
 |some (.ob (Z p) o)=>Z (.ob (Z p) o)
 |_=>ŕ
noncomputable def jq(cap:Y (Ŗ Nat))(ρ:ak):ak:=cap.map λo=>o.bind λi=>pinned (ρ[i]?).join
noncomputable def iP:Y (Ŗ Nat)->ak->ak->(ak->Prop)->Prop
 | [],_,ρ,k=>k ρ
 |none::cap,_::ρc,ρ,k=>iP cap ρc ρ k
 |some i::cap,x::ρc,ρ,k=>match ρ[i]? with
  |some (Z (.ob (Z p) _))=>∃o,x=Z (.ob (Z p) o)/\iP cap ρc (setA ρ i o) k
  |_=>iP cap ρc ρ k
 |_::_,[],_,_=>False
noncomputable def gZ(cap:Y (Ŗ Nat)):Y Nat:=cap.filterMap id
theorem pC{cap:Y (Ŗ Nat)}{j i:Nat}(h:cap[j]?=Z (Z i)):i∈gZ cap:=KZ.mpr ⟨Z i,ID h,S⟩
theorem mG:∀{cap:Y (Ŗ Nat)}{ρc ρ:ak}{k:ak->Prop},(gZ cap).Nodup->iP cap ρc ρ k->∃g,k g/\g.length=ρ.length/\(∀(i:Nat)(x:Sm),g[i]?=Z (Z x)->(∃(j:Nat)(p:Addr)(a o:Om),cap[j]?=Z (Z i)/\ρ[i]?=Z (Z (.ob (Z p) a))/\ρc[j]?=Z (Z (.ob (Z p) o))/\x=.ob (Z p) o)\/(ρ[i]?=Z (Z x)/\∀(j:Nat)(p:Addr)(a:Om),cap[j]?=Z (Z i)->ρ[i]?≠Z (Z (.ob (Z p) a)))) /\
  ∀(j i:Nat)(p:Addr)(a:Om),cap[j]?=Z (Z i)->ρ[i]?=Z (Z (.ob (Z p) a))->∃o:Om,ρc[j]?=Z (Z (.ob (Z p) o))
 | [],ρc,ρ,k,_,h=>⟨ρ,h,S,λi x M=>.inr ⟨M,λj p a f=>(by simp at f)⟩,λj i p a f=>(by simp at f)⟩
 |none::cap,x::ρc,ρ,k,nd,h=>by
  let⟨g,z,A,B,C⟩:=mG (cap:=cap) (ρc:=ρc) (ρ:=ρ) (k:=k) nd h;refine⟨g,z,A,λi y E=>?_,λj i p a f v=>?_⟩
  ·rcases B i y E with⟨j,p,a,o,l,r,H,I⟩|⟨l,r⟩
   ·show .inl ⟨j+1,p,a,o,l,r,H,I⟩
   ·refine .inr ⟨l,λj p a f=>?_⟩
    cases j with
    |zero=>cases f
    |succ j=>show r j p a f
  ·cases j with
   |zero=>cases f
   |succ j=>show C j i p a f v
 |some w::cap,x::ρc,ρ,k,nd,h=>by
  let⟨L,J⟩:=Jg.mp (show (w::gZ cap).Nodup from nd);have h':(match ρ[w]? with|some (Z (.ob (Z p) _))=>∃o,x=Z (.ob (Z p) o)/\iP cap ρc (setA ρ w o) k|_=>iP cap ρc ρ k):=h;by_cases u:∃p a,ρ[w]?=Z (Z (.ob (Z p) a))
  ·let⟨p,a,u⟩:=u;rw[u]at h';let⟨o,rfl,h'⟩:=h';let⟨g,z,A,B,C⟩:=mG J h';have ne:∀{j i:Nat},cap[j]?=Z (Z i)->i≠w:=λf e=>L (e▸pC f);refine⟨g,z,by rw[A,sQ],λi y E=>?_,λj i G F f v=>?_⟩
   ·rcases B i y E with⟨j,G,F,o',l,r,H,I⟩|⟨l,r⟩
    ·rw[j6 (ne l)]at r;show .inl ⟨j+1,G,F,o',l,r,H,I⟩
    ·by_cases c:i=w
     ·subst c;rw[jH]at l;rw[u]at l;simp only at l;rw[IS (az u)]at l;cases l;show .inl ⟨0,p,a,o,S,u,S,S⟩
     ·rw[j6 c]at l r;refine .inr ⟨l,λj G F f=>?_⟩
      cases j with
      |zero=>cases f;show absurd S c
      |succ j=>show r j G F f
   ·cases j with
    |zero=>cases f;rw[u]at v;cases v;show⟨o,S⟩
    |succ j=>show C j i G F f (by rw[j6 (ne f)];show v)
  ·have K:iP cap ρc ρ k:=by
    split at h'
    ·next p a e=>show absurd ⟨p,a,e⟩ u
    ·show h'
   let⟨g,z,A,B,C⟩:=mG J K;refine⟨g,z,A,λi y E=>?_,λj i p a f v=>?_⟩
   ·rcases B i y E with⟨j,p,a,o,l,r,H,I⟩|⟨l,r⟩
    ·show .inl ⟨j+1,p,a,o,l,r,H,I⟩
    ·refine .inr ⟨l,λj p a f=>?_⟩
     cases j with
     |zero=>cases f;show λe=>u ⟨p,a,e⟩
     |succ j=>show r j p a f
   ·cases j with
    |zero=>cases f;show absurd ⟨p,a,v⟩ u
    |succ j=>show C j i p a f v
 |none::_,[],_,_,_,h=>h.elim
 |some _::_,[],_,_,_,h=>h.elim
section
variable{K:Â}{X:Cx}{z H B Φ A:Hp}{c:St}{ρ:ak}{cap:Y (Ŗ Nat)}
theorem rR{i:Nat}{x:Sm}(h:(jq cap ρ)[i]?=Z (Z x)):∃j,cap[i]?=Z (Z j)/\ρ[j]?=Z (Z x)/\pinned (Z x)=Z x:=by
 unfold jq at h;rw[IE]at h
 cases e:cap[i]? with
 |none=>rw[e]at h;cases h
 |some o=>
  rw[e]at h
  cases o with
  |none=>cases h
  |some j=>
   have h':pinned (ρ[j]?).join=Z x:=Jf h
   cases f:(ρ[j]?).join with
   |none=>rw[f]at h';cases h'
   |some y=>
    rw[f]at h'
    cases y with
    |v d=>cases h';show⟨j,S,qf f,S⟩
    |ob a o=>
     cases a with
     |none=>cases h'
     |some p=>cases h';show⟨j,S,qf f,S⟩
theorem uG{i j:Nat}{v:V}(a:cap[i]?=Z (Z j))(e:c[j]?=Z (Z v)):(eB cap c)[i]?=Z (Z v):=by unfold eB;rw[IE,a];simp[e]
theorem EnvM.side{p:Addr}{u u':HO}(E:EnvM K z Φ H c ρ)(j:z p=Z u)(l:Φ p=ŕ):EnvM K (aq z p u') Φ (aq H p u') c ρ:=by
 let⟨g,E⟩:=E
 have ne:∀{i:Nat}{a:Ŗ Addr}{o:Om},ρ[i]?=Z (Z (.ob a o))->∀b∈g i,b≠p:=λh b f e=>by have:=(E.no _ _ _ h b f).1;rw[e,j]at this;cases this
 show⟨g,λb w e=>by rw[aY (de e l)];show E.fz b w e,E.len,E.sl,λi a o h=>let ⟨q,e,ha,r⟩:=E.ow i a o h;⟨q,e,ha,r.keep (Same.refl _) λb f w v=>by rw[aY (ne h b f)];show v⟩,
  λi a o h b f=>by rw[aY (ne h b f)];show E.no i a o h b f,E.dj,E.tb⟩
structure StN(K:Â)(Φ0 z Φ H:Hp)(c τ:St)(ρ κ:ak):Prop where
 g:Gr Φ0 z Φ H
 l:ρ.length=c.length
 E:EnvM K z Φ H (c++τ) (ρ++κ)
noncomputable def nox:XD->ak->Prop:=λ_ _=>False
theorem StM.n{a z:Hp}{f:St}{e:ak}{g:XD->ak->Prop}(Q:StM K X a z Φ H c f ρ e g):StN K a z Φ H c f ρ e:=⟨Q.g,Q.l,Q.E⟩
theorem StN.m{a z:Hp}{f:St}{e:ak}(Q:StN K a z Φ H c f ρ e):StM K X a z Φ H c f ρ e nox:=⟨Q.g,Q.l,Q.E,λ_ _ _ _ _ _ _ _ h=>h.elim⟩
inductive lNm(K:Â)(t:TX)(c:St)(H:Hp)(Q:VK):Prop|mk (Φ0:Hp) (z:Hp) (Φ:Hp) (τ:St) (ρ:ak) (κ:ak) (R:Sm->ak->Prop) (_:StN K Φ0 z Φ H c τ ρ κ) (_:t ρ R nox) (_:∀sm ρ' A B v,R sm ρ'->StN K Φ0 z A B c (τ++[Z v]) ρ' (κ++[Z sm])->Same Φ A->Q v B)
inductive lNb(K:Â)(t:dr)(c:St)(H:Hp)(Q:Bool->Hp->Prop):Prop|mk (Φ0:Hp) (z:Hp) (Φ:Hp) (τ:St) (ρ:ak) (κ:ak) (R:Bool->ak->Prop) (_:StN K Φ0 z Φ H c τ ρ κ) (_:t ρ R nox) (_:∀b ρ' A B,R b ρ'->StN K Φ0 z A B c τ ρ' κ->Same Φ A->Q b B)
theorem lNm.m{t:TX}{Q:VK}(h:lNm K t c H Q):lXm K X t c H Q:=by let⟨a,z,Φ,l,ρ,j,R,U,t,k⟩:=h;show⟨a,z,Φ,l,ρ,j,R,nox,U.m,t,λsm e A B v r g f=>k sm e A B v r g.n f⟩
theorem lNb.m{t:dr}{Q:Bool->Hp->Prop}(h:lNb K t c H Q):lXb K X t c H Q:=by let⟨a,z,Φ,l,ρ,j,R,U,t,k⟩:=h;show⟨a,z,Φ,l,ρ,j,R,nox,U.m,t,λb e A B r g f=>k b e A B r g.n f⟩
noncomputable def rW(r:iM)(cap:Y (Ŗ Nat))(l:fN)(o:dr)(p:TX):TX:=λρ R j=>r ρ (λds f=>ds.length<sizeLine/\∃I:Nat->Y D->ak->Prop,I 0 [] (jq cap f) /\
 (∀i d e ρc,ds[i]?=Z d->I i e ρc->l d ρc λg=>o g (λb a=>(b=ŗ->p a (xV λy h=>I (i+1) (e++[y]) h) nox)/\(b=Ř->I (i+1) e a)) nox) /\
 ∀e ρc,I ds.length e ρc->iP cap ρc f λa=>R (.own e) a) j
noncomputable def FR:dr:=λρ R _=>R ŗ ρ
structure PIfM(K:Â)(X:Cx)(ifs:List Ã)(t:dr):Prop where p:X.K=K->jk X ifs (lXb K X t)
theorem Eu:PIfM K X [] FR:=⟨λ_ a s c H Q I e=>by let⟨f,z,Φ,j,ρ,h,R,g,U,t,k⟩:=e;show v6 a s c H Q I (k ŗ ρ Φ H t U (Same.refl _))⟩
end
section
variable{K:Â}{X:Cx}{L f w:Ã}{l:Y Ã}{scope:ß}{A:Ö}{N':Y Str}{cap:Y (Ŗ Nat)}{G:iM}{O:fN}{N:dr}{M:TX}
theorem tS{n:Nat}:∀{cap:Y (Ŗ Nat)},(gZ cap).Nodup->∀{i j:Nat},cap[i]?=Z (Z n)->cap[j]?=Z (Z n)->i=j:=by
 intro cap
 induction cap with
 |nil=>intro _ i j h;simp at h
 |cons o cap r=>
  intro nd i j a c
  have e:(gZ cap).Nodup:=by
   cases o with
   |none=>show nd
   |some m=>show (Jg.mp (show (m::gZ cap).Nodup from nd)).2
  have one:∀{i:Nat},o=Z n->cap[i]?=Z (Z n)->False:=λ{i} p g=>by subst p;show (Jg.mp (show (n::gZ cap).Nodup from nd)).1 (pC g)
  cases i with
  |zero=>cases j with
   |zero=>rfl
   |succ j=>show (one (by simpa using a) (by simpa using c)).elim
  |succ i=>cases j with
   |zero=>show (one (by simpa using c) (by simpa using a)).elim
   |succ j=>show Ju Nat.succ (r e (by simpa using a) (by simpa using c))
theorem yR(Nj:(gZ cap).Nodup){σ:St}{H:Hp}{Q:VK}{Φ0 H0 Φ:Hp}{ρ:ak}{R:Sm->ak->Prop}{Rx:XD->ak->Prop}{τ:St}{κ:ak}(a_:StM K X Φ0 H0 Φ H σ τ ρ κ Rx)(t:rW G cap O N M ρ R Rx)
  (k:∀sm ρ' g H' v,R sm ρ'->StM K X Φ0 H0 g H' σ (τ++[Z v]) ρ' (κ++[Z sm]) Rx->Same Φ g->Q v H'):gC (lIM K X G) cap (lGM K O) (lNb K N) (lNm K M) σ H Q:=by
 refine⟨Φ0,H0,Φ,τ,ρ,κ,_,Rx,a_,t,λds P Φ1 H1 J NC S1 f1 Sd T hD=>?_⟩;let⟨hlen,I,h0,NI,Od⟩:=NC;let⟨fp,Ex⟩:=S1.E;have E:=Ex.take S1.l
 have up:∀{i:Nat}{x:Sm},P[i]?=Z (Z x)->(P++κ)[i]?=Z (Z x):=λh=>by rw[Ip (az h)];show h
 have ups:∀{i:Nat}{x:V},σ[i]?=Z (Z x)->(σ++τ)[i]?=Z (Z x):=λh=>by rw[Ip (az h)];show h
 let Pf:Nat->Prop:=λi=>(∃j:Nat,cap[j]?=Z (Z i))/\∃p o,P[i]?=Z (Z (.ob (Z p) o))
 obtain⟨B,hB⟩:∃B:Y Addr,∀b,b∈B↔∃i,Pf i/\b∈fp i:=by
  refine⟨((gZ cap).filter λi=>match P[i]? with|some (Z (.ob (Z _) _))=>ŗ|_=>Ř).flatMap fp,λb=>?_⟩;rw[Mu];constructor
  ·rintro⟨i,hi,C⟩;let⟨hi,hp⟩:=Jq.mp hi;refine⟨i,⟨?_,?_⟩,C⟩
   ·let⟨o,ho,e⟩:=KZ.mp hi
    cases o with
    |none=>cases e
    |some i'=>cases e;show J0 ho
   ·split at hp
    ·next p o e=>show⟨p,o,e⟩
    ·cases hp
  ·rintro⟨i,⟨⟨j,hj⟩,p,o,hp⟩,C⟩;show⟨i,Jq.mpr ⟨pC hj,by rw[hp]⟩,C⟩
 have hDB:T∉B:=λh=>by let⟨i,⟨_,p,o,ho⟩,C⟩:=(hB T).mp h;let⟨_,_,_,r⟩:=E.ow i _ o ho;let⟨u,hu,_⟩:=r.at T C;rw[hD]at hu;cases hu
 have RI:Φ1 T=ŕ:=S1.g.s.free hD
 have hDm:cn H1 B T=ŕ:=by rw[gO hDB];show hD
 have m2:∀{b:Addr}{u:HO},cn H1 B b=Z u->b≠T:=λh=>de h hDm
 have C0:EnvM K (aq (cn H1 B) T (.lst [])) Φ1 (aq H1 T (.lst [])) (eB cap σ) (jq cap P):=by
  have no:∀{i:Nat}{a:Ŗ Addr}{o:Om},(jq cap P)[i]?=Z (Z (.ob a o))->∃j:Nat,cap[i]?=Z (Z j)/\P[j]?=Z (Z (.ob a o))/\Pf j:=λ{i a o} h=>by
   let⟨j,U,b_,h3⟩:=rR h
   cases a with
   |none=>cases h3
   |some p=>show⟨j,U,b_,⟨i,U⟩,p,o,b_⟩
  have inB:∀{i j:Nat}{a:Ŗ Addr}{o:Om},P[j]?=Z (Z (.ob a o))->Pf j->∀b∈fp j,b∈B/\b≠T:=λ{i j a o} h hl b C=>⟨(hB b).mpr ⟨j,hl,C⟩,λe=>hDB (e▸(hB b).mpr ⟨j,hl,C⟩)⟩;have cj:∀{i j n:Nat},cap[i]?=Z (Z n)->cap[j]?=Z (Z n)->i=j:=λU b_=>tS Nj U b_;refine⟨λi=>match cap[i]? with|some (Z j)=>fp j|_=>[],λb u e=>?_,by unfold eB jq;rw[Il,Il],λi d h=>?_,λi a o h=>?_,λi a o h b C=>?_,λi j a a' o o' hi hj c b C Nd=>?_,S1.E.tb⟩
  ·rw[aY (de e RI)];show S1.g.s b u e
  ·let⟨j,U,b_,_⟩:=rR h;let⟨v,hv,r⟩:=E.sl j d b_;show⟨v,uG U hv,r⟩
  ·let⟨j,U,b_,hl⟩:=no h;let⟨p,hp,ha,r⟩:=E.ow j a o b_;refine⟨p,uG U hp,ha,?_⟩;rw[U]
   show r.keep (Same.refl _) λb C u hu=>by rw[aY (inB (i:=i) b_ hl b C).2];show hu
  ·let⟨j,U,b_,hl⟩:=no h;rw[U]at C;let⟨be,z2⟩:=inB (i:=i) b_ hl b C;show⟨by rw[aY z2];show vA be,(E.no j a o b_ b C).2⟩
  ·let⟨i',U,b_,_⟩:=no hi;let⟨j',h3,h4,_⟩:=no hj;rw[U]at C;rw[h3]at Nd;show E.dj i' j' a a' o o' b_ h4 (λe=>c (by subst e;show cj U h3)) b C Nd
 refine⟨λi m σ' H'=>m=ds.length-i/\i<=ds.length/\∃(g:Hp)(ρc:ak)(vs:Y V)(ys:Y D),EnvM K (aq (cn H1 B) T (.lst vs)) g H' σ' ρc/\Gr Φ1 (cn H1 B) g H'/\g T=ŕ/\H' T=Z (.lst vs)/\RpL K g ys vs/\ys.length<=i/\I i ys ρc,⟨ds.length,by simp,Km _,Φ1,_,[],[],C0,⟨Same.refl _,λb u e=>by rw[aY (m2 e)];show (sN e).2,λb u e=>by rw[aY (de e RI)];show S1.g.s b u e,λ_ _ _ h _=>h⟩,RI,bh,.nil,Km _,h0⟩,?_⟩;rintro i m σ' H' ⟨rfl,hi,g,ρc,vs,ys,Ei,gi,R9,QJ,Nq,NW,hI⟩;by_cases Nb:i<ds.length
 ·refine .inr ⟨Sd.go i H' (gi.f.trans gi.s) Nb,λσ2 H2=>∃(g:Hp)(ρc:ak)(vs:Y V)(ys:Y D),EnvM K (aq (cn H1 B) T (.lst vs)) g H2 σ2 ρc/\Gr Φ1 (cn H1 B) g H2/\g T=ŕ/\H2 T=Z (.lst vs)/\RpL K g ys vs/\ys.length<=i+1/\I (i+1) ys ρc,λσ2 H2 b_=>⟨ds.length-(i+1),(),S,Nb,b_⟩,λx H2 y=>?_⟩;let⟨Φ3,g3,rx⟩:=Sd.yl i g H' x H2 _ gi.f gi.s (bL Nb) y;have E3:=Ei.gr g3;refine⟨_,Φ3,ρc,_,_,E3,rx,NI i _ ys ρc (bL Nb) hI,λρ1 σ3 t1 E4=>?_⟩;have UI:Φ3 T=ŕ:=g3.o _ _ QJ R9;have UU:=g3.h _ _ QJ
  have gt:Gr Φ3 (aq (cn H1 B) T (.lst vs)) Φ3 H2:=⟨Same.refl _,λb u e=>by
   by_cases c:b=T
   ·subst c;rw[bh]at e;cases e;show UU
   ·rw[aY c]at e;show g3.h b u (gi.h b u e),g3.s,λ_ _ _ h _=>h⟩
  have join:∀{Φ5 H5:Hp},Gr Φ3 (aq (cn H1 B) T (.lst vs)) Φ5 H5->Gr Φ1 (cn H1 B) Φ5 H5/\Φ5 T=ŕ/\H5 T=Z (.lst vs):=λ{Φ5 H5} g5=>by
   refine⟨⟨(gi.f.trans g3.f).trans g5.f,λb u e=>g5.h b u (by rw[aY (m2 e)];show e),g5.s,λb u U b_ kk=>?_⟩,g5.o _ _ bh UI trivial,g5.h _ _ bh⟩;have be:=gi.o b u U b_ kk;have z2:=g3.o b u (gi.h b u U) be kk;show g5.o b u (by rw[aY (m2 U)];show U) z2 kk
  refine⟨Φ3,_,Φ3,[],ρ1,[],_,⟨gt,E4.len.symm,by rw[Ji,Ji];show E4⟩,t1,λb ρ2 Φ4 H4 rb S4 f4=>?_⟩
  cases b with
  |false=>
   refine jA ?_;let⟨j1,j2,j3⟩:=join S4.g;show⟨Φ4,ρ2,vs,ys,(S4.m (X:=X)).env,j1,j2,j3,(Nq.same g3.f).same f4,(),rb.2 S⟩
  |true=>
   refine jL ?_;refine⟨Φ3,_,Φ4,[],ρ2,[],_,S4,rb.1 S,λs ρ3 Φ5 H5 v rs S5' f5=>?_⟩;have S5:=S5'.m (X:=X);let⟨d,rfl,rs⟩:=rs.get;let⟨j1,j2,j3⟩:=join S5.g;have rl5:=(Nq.same g3.f).same (f4.trans f5);refine⟨vs,j3,by rw[Nq.1];omega,Φ5,ρ3,vs++[v],ys++[d],?_,?_,j2,bh,rl5.append (.one S5.last),by rw[Io];show Nat.succ_le_succ NW,rs⟩
   ·have:=S5.env.side (p:=T) (u:=.lst vs) (u':=.lst (vs++[v])) bh j2;rw[D6]at this;show this
   ·show⟨j1.f,λb u e=>by rw[aY (m2 e)];show j1.h b u e,λb u e=>by rw[aY (de e j2)];show j1.s b u e,λb u U b_ kk=>j1.o b u U b_ kk⟩
 ·have e:i=ds.length:=by omega
  subst e;refine .inl ⟨Sd.stop H' (gi.f.trans gi.s),?_⟩;let⟨ρ2,hR,OJ,h3,h4⟩:=mG Nj (Od ys ρc hI);let⟨fc,Ec⟩:=Ei;have inj:∀{i j n:Nat},cap[i]?=Z (Z n)->cap[j]?=Z (Z n)->i=j:=λU b_=>tS Nj U b_
  have ex:∀i,Pf i->∃(j:Nat)(p:Addr)(o0 o:Om),cap[j]?=Z (Z i)/\P[i]?=Z (Z (.ob (Z p) o0))/\ρc[j]?=Z (Z (.ob (Z p) o)):=λi hl=>by let⟨⟨j,hj⟩,p,o0,ho⟩:=hl;let⟨o,h⟩:=h4 j i p o0 hj ho;show⟨j,p,o0,o,hj,ho,h⟩
  have cho:∀i,∃y:Ŗ (Om×Y Addr),(∀q,y=Z q->∃(j:Nat)(p:Addr)(o0:Om),cap[j]?=Z (Z i)/\P[i]?=Z (Z (.ob (Z p) o0))/\ρc[j]?=Z (Z (.ob (Z p) q.1))/\q.2=fc j)/\(y=ŕ↔¬ Pf i):=λi=>by
   by_cases h:Pf i
   ·let⟨j,p,o0,o,be,z2,z3⟩:=ex i h;show⟨Z (o,fc j),λq hq=>by cases hq;show⟨j,p,o0,be,z2,z3,S⟩,λe=>(by cases e),λn=>absurd h n⟩
   ·show⟨ŕ,λq hq=>(by cases hq),λ_=>h,λ_=>rfl⟩
  let⟨new,Si⟩:=Classical.axiomOfChoice cho;have NJ:=λi=>(Si i).1;have N3:=λi=>(Si i).2
  have Dfc:∀{j:Nat}{a:Ŗ Addr}{o:Om},ρc[j]?=Z (Z (.ob a o))->∀b∈fc j,b≠T/\cn H1 B b=ŕ/\g b=ŕ:=λ{j a o} h b C=>by
   let⟨be,z2⟩:=Ec.no j a o h b C
   have c:b≠T:=λe=>by rw[e,bh]at be;cases be
   rw[aY c]at be;show⟨c,be,z2⟩
  have adr:∀{j i:Nat}{p:Addr}{o0 o:Om},P[i]?=Z (Z (.ob (Z p) o0))->ρc[j]?=Z (Z (.ob (Z p) o))->σ[i]?=Z (Z (.ref p))/\OmS K g H' o p (fc j):=λ{j i p o0 o} U b_=>by let⟨q1,e1,a1,_⟩:=E.ow i _ o0 U;let⟨q2,e2,a2,r⟩:=Ec.ow j _ o b_;cases a1 p S;cases a2 p S;show⟨e1,r⟩
  have lnt:∀{i:Nat},P.length<=i->new i=ŕ:=λ{i} c=>(N3 i).mpr λhl=>by
   let⟨_,p,o,ho⟩:=hl;have:=az ho;omega
  have cs:∀{i:Nat}{x:Sm},(ρ2++κ)[i]?=Z (Z x)->(i<P.length/\ρ2[i]?=Z (Z x))\/(P.length<=i/\(P++κ)[i]?=Z (Z x)):=λ{i x} h=>by
   rcases Js i P.length with c|c
   ·rw[Ip ()]at h;show .inl ⟨c,h⟩
   ·rw[Im (),OJ]at h;show .inr ⟨c,by rw[Im c];show h⟩
  have E2:EnvM' K H0 g H' (σ++τ) (ρ2++κ) (gP new fp):=by
   refine Ex.lend S1.g.h (B:=B) (λb C=>?_) (λi q hq b C=>(hB b).mpr ⟨i,(JH λz=>by rw[(N3 i).mpr z]at hq;cases hq),C⟩) gi (by rw[Io,Io,OJ]) (λi d h=>?_) (λi a o h=>?_) (λi q hq=>?_) (λi q hq b C=>?_) λi j q r hq hr c b C Nd=>?_
   ·let⟨i,hl,NK⟩:=(hB b).mp C;let⟨_,p,o,ho⟩:=id hl
    cases e:new i with
    |none=>show absurd hl ((N3 i).mp e)
    |some q=>show⟨i,_,o,q,e,up ho,NK⟩
   ·rcases cs h with⟨_,h⟩|⟨_,h⟩
    ·rcases h3 i _ h with⟨_,_,_,_,_,_,_,z⟩|⟨z,_⟩
     ·cases z
     ·show up z
    ·show h
   ·rcases cs h with⟨_,h⟩|⟨c,h⟩
    ·rcases h3 i _ h with⟨j,p,o0,o',be,z2,z3,z4⟩|⟨be,z2⟩
     ·cases z4
      cases e:new i with
      |none=>show absurd ⟨⟨j,be⟩,p,o0,z2⟩ ((N3 i).mp e)
      |some q=>
       let⟨j',p',o1,y1,y2,y3,y4⟩:=NJ i q e;cases inj be y1;rw[z3]at y3;cases y3;show .inr ⟨o0,q.2,S,up z2⟩
     ·refine .inl ⟨(N3 i).mpr λhl=>?_,up be⟩;let⟨⟨j,hj⟩,p,o0,ho⟩:=hl;show z2 j p o0 hj ho
    ·show .inl ⟨lnt c,h⟩
   ·let⟨j,p,o0,be,z2,z3,z4⟩:=NJ i q hq;let⟨y1,y2⟩:=adr z2 z3;show⟨p,ups y1,by rw[z4];show y2⟩
   ·let⟨j,p,o0,be,z2,z3,z4⟩:=NJ i q hq;rw[z4]at C;show (Dfc z3 b C).2
   ·let⟨j1,p1,o1,be,z2,z3,z4⟩:=NJ i q hq;let⟨j2,p2,o2,y1,y2,y3,y4⟩:=NJ j r hr;rw[z4]at C;rw[y4]at Nd;show Ec.dj j1 j2 _ _ _ _ z3 y3 (λe=>c (by rw[e,y1]at be;cases be;rfl)) b C Nd
  have B0:∀b∈B,H0 b=ŕ:=λb C=>by let⟨i,⟨_,p,o,ho⟩,NK⟩:=(hB b).mp C;show (E.no i _ o ho b NK).1
  have g0:=S1.g.lend gi B0
  have E3:=E2.snocG (sm:=.own ys) (F:=[T]) (.o (λq e=>by cases e) (.lst QJ Nq)) (λb C=>by rw[Iz.mp C];show⟨S1.g.h.free hD,R9⟩) λb C i a o ho NK=>by
   rw[Iz.mp C]at NK;unfold gP at NK
   cases e:new i with
   |some q=>
    rw[e]at NK;let⟨j,p,o0,be,z2,z3,z4⟩:=NJ i q e;have NK:T∈q.2:=NK;rw[z4]at NK;show (Dfc z3 T NK).1 S
   |none=>
    rw[e]at NK
    have old:(P++κ)[i]?=Z (Z (.ob a o)):=by
     rcases cs ho with⟨_,ho⟩|⟨_,ho⟩
     ·rcases h3 i _ ho with⟨j,p,o0,o',be,z2,_⟩|⟨be,_⟩
      ·show absurd ⟨⟨j,be⟩,p,o0,z2⟩ ((N3 i).mp e)
      ·show up be
     ·show ho
    let⟨_,_,_,r⟩:=Ex.ow i a o old;let⟨u,hu,_⟩:=r.at T NK;rw[hD]at hu;cases hu
  rw[IJ,IJ]at E3;show k _ ρ2 g H' _ hR ⟨g0,by rw[OJ];show S1.l,E3,S1.x⟩ (f1.trans gi.f)
theorem y8{i:Nat}{y:Str}{B u:Ö}(P:X.calm=ŗ)(be:X.N.Nodup)(hy:X.N[i]?=Z y)(hx:dO X.env.scope y)(U:CompScope X.N X.env.scope scope N' cap)(a_:(gZ cap).Nodup)(hi:PIM K X L f G)
  (hg:∀(cl:Y (Str×Addr))(c:Y Addr)(C:Addr)(e:À)(a:Hp),PGM K (bV X scope N' cl C e a c) L O) (ht:∀(cl:Y (Str×Addr))(c:Y Addr)(C:Addr)(e:À)(a:Hp),PIfM K (bV X scope N' cl C e a c) l N)
  (b_:∀(cl:Y (Str×Addr))(c:Y Addr)(C:Addr)(e:À)(a:Hp),PX K (bV X scope N' cl C e a c) w M) (T:Î (.ListComp w [⟨L,f,l,0⟩] scope A) (Z (.Name y B)) u.line X.env=pure ŗ:=by rfl)
  (hs:∀x,Ê f X.env x=pure x:=by intro _;rfl) (hf:X.fn y=ŗ\/X.env.scope.names.lookup y=Z .local:=by nofun) :
  PSM K X (.Assign [.Name y B] (.ListComp w [⟨L,f,l,0⟩] scope A) u) (jl i (rW G cap O N M)):=
 ⟨λo=>(kG P be hy hx U (hi.pi o) (λcl c C e a=>(hg cl c C e a).pg o) (λcl c C e a j s F H Q I h=>(ht cl c C e a).p o j s F H Q I (lNb.m h)) (λcl c C e a=>((b_ cl c C e a).pe o).imp λ_ _ _ h=>lNm.m h) T hs hf).imp λE F H R=>by
  let⟨Φ0,a,Φ,ρ,De,g,V,t,k⟩:=R
  show yR a_ (dI g V k.ex) t λsm ρ1 p J v r z _=>k.nx _ p J _ r z.g (z.env1.store i)⟩
end
theorem jt{a:Y Addr}(h:a.length=0):a=[]:=JY.mp h
theorem dq{c:Y Addr}(h:c.length=1):∃a,c=[a]:=by
 match c,h with
 | [a],_=>show⟨a,S⟩
section
variable{K:Â}{X:Cx}{a b:Ã}{c:Ö}{e tb:TX}
theorem tN(g:PX K X a e)(h:PX K X b tb)(j:nj b):PX K X (.Subscript a b c) (jx mI e tb):=
 ⟨λf=>(qL (v5 f) (g.pe f) (h.pe f) j).imp λ_ _ _=>nP⟩
end
section
variable{o:Type}[DecidableEq o]{K:Â}{Φ:Hp}
noncomputable def bH(a:Y (o×D))(k:o):Ŗ D:=(a.find? λc=>decide (c.1=k)).map (·.2)
noncomputable def iB(c:Y (o×D))(k:o)(d:D):Y (o×D):=if c.any (λa=>decide (a.1=k)) then c.map (λa=>if a.1=k then (a.1,d) else a) else c++[(k,d)]
theorem pd:∀{e:Y (o×D)}{f:Y (o×V)},Paired (gw K Φ) e f->∀k,(bH e k=ŕ/\fw f k=ŕ)\/∃d v,bH e k=Z d/\fw f k=Z v/\Rp K Φ d v
 |_,_,.nil,k=>.inl ⟨S,S⟩
 |_,_,.cons (a:=x) (b:=y) (l₁:=l) r t,k=>by
  by_cases c:x.1=k
  ·refine .inr ⟨x.2,y.2,?_,?_,r.2⟩
   ·unfold bH;rw[Kb (by simpa using c)];rfl
   ·show ny (by rw[←r.1];show c)
  ·have g:bH (x::l) k=bH l k:=by unfold bH;rw[JS (by simpa using c)]
   rw[g,l7 (by rw[←r.1];show c)];show pd t k
theorem sy:∀{c:Y (o×D)}{e:Y (o×V)},Paired (gw K Φ) c e->∀k,(e.any λa=>decide (a.1=k))=c.any λa=>decide (a.1=k)
 |_,_,.nil,k=>rfl
 |_,_,.cons r t,k=>by rw[KJ,KJ,sy t k,r.1]
theorem sO{a c:Type}{F:a->c->Prop}{f:a->a}{g:c->c}(h:∀x y,F x y->F (f x) (g y)):∀{l:Y a}{m:Y c},Paired F l m->Paired F (l.map f) (m.map g)
 |_,_,.nil=>.nil
 |_,_,.cons r t=>.cons (h _ _ r) (sO h t)
theorem FA{a:Y (o×D)}{c:Y (o×V)}(h:Paired (gw K Φ) a c)(k:o){d:D}{v:V}(r:Rp K Φ d v):Paired (gw K Φ) (iB a k d) (fQ c k v):=by
 unfold iB fQ;rw[sy h k];split
 ·refine sO (λx y q=>?_) h;rw[←q.1];split
  ·show⟨S,r⟩
  ·show q
 ·show Ċ h ⟨S,r⟩
theorem qN(a:Y (o×D))(k:o):(bH a k).isSome=a.any λf=>decide (f.1=k):=by
 unfold bH
 induction a with
 |nil=>rfl
 |cons x r e=>
  rw[KJ];by_cases c:x.1=k
  ·rw[Kb (by simpa using c),Jh c];rfl
  ·rw[JS (by simpa using c),Jb c,e];rfl
theorem CF{a:Y (o×D)}{k:o}{d:D}(h:bH a k=ŕ):iB a k d=a++[(k,d)]:=by have:=qN a k;rw[h]at this;unfold iB;rw[←this];rfl
theorem Ht(f:Y (o×D))(k j:o)(d:D):bH (iB f k d) j=if j=k then Z d else bH f j:=by
 unfold iB;split
 ·next h=>
  have:∀l:Y (o×D),bH (l.map λa=>if a.1=k then (a.1,d) else a) j=if j=k then (bH l k).map (λ_=>d) else bH l j:=by
   intro l
   induction l with
   |nil=>unfold bH;simp
   |cons x r u=>
    rw[IQ];by_cases c:x.1=k
    ·rw[Iw c];by_cases p:j=k
     ·rw[Iw p];subst p;unfold bH;rw[Kb (by simpa using c),Kb (by simpa using c)];rfl
     ·rw[Ir p]at u ⊢;have g:¬ x.1=j:=λe=>p (e▸c▸rfl);unfold bH at u ⊢;rw[JS (by simpa using g),JS (by simpa using g)];show u
    ·rw[Ir c];by_cases g:x.1=j
     ·have p:¬ j=k:=λe=>c (g.trans e);rw[Ir p];unfold bH;rw[Kb (by simpa using g),Kb (by simpa using g)]
     ·have w:bH (x::List.map (λa=>if a.1=k then (a.1,d) else a) r) j=bH (List.map (λa=>if a.1=k then (a.1,d) else a) r) j:=by unfold bH;rw[JS (by simpa using g)]
      have z:bH (x::r) j=bH r j:=by unfold bH;rw[JS (by simpa using g)]
      have A:bH (x::r) k=bH r k:=by unfold bH;rw[JS (by simpa using c)]
      rw[w,u,z,A]
  rw[this];split
  ·have:=qN f k;rw[h]at this
   cases e:bH f k with
   |none=>rw[e]at this;cases this
   |some y=>rfl
  ·rfl
 ·next h=>
  have v:bH f k=ŕ:=by
   cases e:bH f k with
   |none=>rfl
   |some y=>have:=qN f k;rw[e]at this;show absurd this.symm h
  unfold bH at v ⊢;rw[List.find?_append];by_cases c:j=k
  ·subst c;rw[Iw S]
   cases e:f.find? λa=>decide (a.1=j)with
   |none=>simp
   |some y=>rw[e]at v;cases v
  ·rw[Ir c]
   cases e:f.find? λa=>decide (a.1=j)with
   |none=>rw[JS (by simpa using λe=>c e.symm)];rfl
   |some y=>rfl
theorem Au{a c:Type}{F:a->c->Prop}:∀{l:Y a}{m:Y c},Paired F l m->l.length=m.length:=LF
end
section
variable{K:Â}{X:Cx}{e a b ev:Ã}{c l:TD}{f A B:Ö}{x:Str}{i:Nat}
noncomputable def FD(o:Om):TX:=λρ R _=>R (.ob ŕ o) ρ
theorem CO:PX K X (.Dict [] [] f) (FD (.mpT [])):=⟨λv=>pe_dnewT.imp λy H Q h=>by
 let⟨o,r,Φ,z,ρ,w,R,u,U,t,k⟩:=h;intro p g
 show k _ ρ Φ _ _ t (U.pushO (Gr.fresh U.g.s g _) (.mpT bh .nil) λb j=>by rw[Iz.mp j];show⟨g,U.g.s.free g⟩) (Same.refl _)⟩
theorem EnvM.dictT{j o Φ H:Hp}{y:St}{ρ:ak}{a:Ŗ Addr}{C:Y (Y aD×D)}(E:EnvM K o Φ H y ρ)(g:Gr j o Φ H)(w:ρ[i]?=Z (Z (.ob a (.mpT C)))):∃q p,y[i]?=Z (Z (.ref q))/\H q=Z (.dT p)/\Paired (gw K Φ) C p /\
  ∀(v:Y (Y aD×D))(h:Y (Y aD×V)),Paired (gw K Φ) v h->EnvM K o Φ (aq H q (.dT h)) y (ρ.set i (Z (.ob a (.mpT v))))/\Gr j o Φ (aq H q (.dT h)):=by
 let⟨I,E⟩:=E;let⟨q,e,_,r⟩:=E.ow i a _ w;have G:=r.mem;let⟨_,p,J,L⟩:=r.mpT_inv;refine⟨q,p,e,J,L,λv h O=>?_⟩
 have F:∀b u,H b=Z u->b∉I i->aq H q (.dT h) b=Z u:=λb u e N=>by
  rw[aY λz=>N (by rw[z];show G)];show e
 show⟨⟨_,E.put w e F (F':=[q]) (.mpT bh O) λb M=>.inl (by rw[Iz.mp M];show G)⟩,E.grput g w F⟩
noncomputable def ownT(ρ:ak)(i:Nat)(k:Ŗ Addr->Y (Y aD×D)->Prop):Prop:=match ρ[i]? with|some (Z (.ob a (.mpT M0)))=>k a M0|_=>False
theorem ownT.get{ρ:ak}{i:Nat}{k:Ŗ Addr->Y (Y aD×D)->Prop}(h:ownT ρ i k):∃a g,ρ[i]?=Z (Z (.ob a (.mpT g)))/\k a g:=by
 unfold ownT at h;split at h
 ·next a ds e=>show⟨a,ds,e,h⟩
 ·show h.elim
theorem oM{Φ:Hp}{g:Y aD}{v:V}(r:Rp K Φ (.tup (g.map gF)) v):∃q,v=.ref q/\Φ q=Z (.tup (g.map kV)):=by
 cases r with
 |tup h j o=>
  cases tF ⟨j,o⟩;show⟨_,S,h⟩
noncomputable def uQ(g:Bool)(i:Nat)(c:TD):dr:=λρ R _=>c (dR ρ) λd=>∃h:Y aD,d=.tup (h.map gF)/\ownT ρ i λ_ j=>R (g != (bH j h).isSome) ρ
theorem BW{j:Bool}{F:St}{H:Hp}{Q:Bool->Hp->Prop}(h:lXb K X (uQ j i c) F H Q):lE K c F H λy u=>kq i F u λx G=>∃a o,x=.ref a/\DGet G a y o/\Q (j != o.isSome) G:=by
 let⟨b_,L,Φ,τ,ρ,κ,R,Rx,a_,t,k⟩:=h;refine⟨L,Φ,dR ρ,_,a_.env.toD,t,λd E u v r g U=>?_⟩;let⟨z,rfl,r⟩:=r;let⟨a,M,O,r⟩:=ownT.get r;let⟨p,rfl,P⟩:=oM U;have w:=a_.gr g;let⟨q,be,N,T,C,_⟩:=w.env.dictT w.g O;refine⟨_,N,q,_,S,DGet.t T (g.s _ _ P),?_⟩
 have e:(fw be z).isSome=(bH M z).isSome:=by rcases pd C z with⟨I,J⟩|⟨d,v,I,J,_⟩<;>rw[I,J]<;>rfl
 rw[e];show k _ ρ E u r w g.f
theorem Gu(b:Bool):(Ř != b)=b:=by cases b<;>rfl
theorem AM{t:TD}{u:St}{H:Hp}{Q p:VK}(h:lE K t u H Q)(y:∀v j,Q v j->p v j):lE K t u H p:=by let⟨w,Φ,ρ,R,E,t,k⟩:=h;show⟨w,Φ,ρ,R,E,t,λd o j v r g z=>y _ _ (k d o j v r g z)⟩
theorem F0{j:Nat}{p:St}{H:Hp}{Q o:VK}(h:kq j p H Q)(r:∀v g,Q v g->o v g):kq j p H o:=let ⟨v,e,q⟩:=h;⟨v,e,r _ _ q⟩
theorem Hz(i:Nat)(J:X.A.units+64<å)(C:PD K X e c)(y:X.N[i]?=Z x:=by rfl)(F:cR X.env.scope x:=by nofun)(hd:ab x:=by decide)(h:fI x:=by decide)
  (E:behindInMarks .In (.Name x A)=Ř:=by rfl):PXB K X (.Compare e [.In] [.Name x A] f) (uQ Ř i c):=
 ⟨λu=>(HG (xE () (C.pe u) (pv i y F hd h)) E).imp λL H Q j=>AM (BW j) λv G q=>F0 q λw I z=>by
  let⟨a,o,p,r,g⟩:=z;rw[Gu]at g
  show⟨a,o,p,r,_,S,g⟩⟩
noncomputable def D0(i:Nat)(c:TD)(l:TD):bG:=λj ρ=>l (dR ρ) λd=>c (dR ρ) λp=>∃h:Y aD,p=.tup (h.map gF)/\ownT ρ i λa g=>g.length<sizeLine/\NF (iB g h d) λo=>j.nx (ρ.set i (Z (.ob a (.mpT o))))
theorem Fk(i:Nat)(hu:X.A.units+64<å)(a_:PD K X e c)(R:PD K X ev l)(Q:X.N[i]?=Z x:=by rfl)(be:cR X.env.scope x:=by nofun)(hd:ab x:=by decide)(N:fI x:=by decide)
  (U:Î ev (Z (.Subscript (.Name x A) e B)) f.line X.env=pure Ř:=by rfl):PSM K X (.Assign [.Subscript (.Name x A) e B] ev f) (λC ρ=>(ownT ρ i λ_ _=>True)/\D0 i c l C ρ):=
 ⟨λM=>(Az () (pv i Q be hd N) (a_.pe M) (R.pe M) U).imp λE σ H O=>by
  let⟨Φ0,F,Φ,ρ,C,g,V,⟨h,t⟩,k⟩:=O;let⟨a,M0,h,_⟩:=ownT.get h;refine⟨F,Φ,dR ρ,_,V.toD,t,λd y H1 v r1 r rv=>?_⟩;have p:=V.gr r;let⟨q,ws,J,hq,rel,_⟩:=p.dictT (g.trans r) h;refine⟨_,J,F,y,dR ρ,_,p.toD,r1,λkd z H2 w j o rw=>?_⟩;let⟨kk,rfl,j⟩:=j;let⟨a2,UW,G,T,j⟩:=ownT.get j;rw[h]at G;cases G;let⟨pk,rfl,u⟩:=oM rw;let⟨q2,ws2,L,P,I,b_⟩:=(p.gr o).dictT ((g.trans r).trans o) h;rw[J]at L;cases L;let⟨z1,z2⟩:=b_ _ _ (FA I kk (rv.same o.f))
  show⟨q,_,S,DPut.t P (o.s _ _ u) (by rw[←Au I];show T),k.nx _ z _ σ j.get z2 z1⟩⟩
end
end L2
namespace PySem.SeqAt
open AutoSeq1 (wpAny_loadPart')
open MeetsSeq MeetsSeq2 MeetsSeq3 SeqRoads2
end PySem.SeqAt
namespace L2
open PySem PySem.Spec PyProof.Rows
open Builtin Builtin.ObjectAttr
end L2
namespace L2
open PySem PySem.Spec PyProof.Rows
end L2
namespace L2
open PySem PySem.Spec PyProof.Rows
section
variable{K:Â}{l H Φ:Hp}{g:St}{ρ:ak}{f:Nat->Y Addr}{o o' w u:Om}{p q:Addr}{i j:Nat}{a a' b A:Ŗ Addr}
theorem EnvM'.two(E:EnvM' K l Φ H g ρ f)(TC:i≠j)(hi:ρ[i]?=Z (Z (.ob a o)))(hj:ρ[j]?=Z (Z (.ob a' o'))){U X:Addr}{N O:Y Addr}(si:g[i]?=Z (Z (.ref U)))(sj:g[j]?=Z (Z (.ref X)))
  (ai:∀q,b=Z q->q=U) (aj:∀q,A=Z q->q=X) (Oi:OmS K Φ H w U N) (Oj:OmS K Φ H u X O) (sub:∀x,x∈N\/x∈O->x∈f i\/x∈f j) (R:∀x∈N,x∉O) :
  EnvM K l Φ H g ((ρ.set i (Z (.ob b w))).set j (Z (.ob A u))):=by
 have P:∀{m:Nat}{x:Sm},((ρ.set i (Z (Sm.ob b w))).set j (Z (Sm.ob A u)))[m]?=Z (Z x)->(m=j/\x=.ob A u)\/(m≠j/\m=i/\x=.ob b w)\/(m≠j/\m≠i/\ρ[m]?=Z (Z x)):=λ{m x} h=>by
  rcases cX h with⟨e,_,e1⟩|⟨e,h⟩
  ·cases e1;show .inl ⟨e,S⟩
  ·rcases cX h with⟨e',_,e1⟩|⟨e',h⟩
   ·cases e1;show .inr (.inl ⟨e,e',S⟩)
   ·show .inr (.inr ⟨e,e',h⟩)
 have T:∀x,x∈N\/x∈O->∀(m:Nat)(c:Ŗ Addr)(J:Om),ρ[m]?=Z (Z (.ob c J))->m≠i->m≠j->x∉f m:=λx I m c J a_ v B z=>by
  rcases sub x I with h|h
  ·show E.dj m i c a J o a_ hi v x z h
  ·show E.dj m j c a' J o' a_ hj B x z h
 have no:∀x,x∈N\/x∈O->l x=ŕ/\Φ x=ŕ:=λx I=>by
  rcases sub x I with h|h
  ·show E.no i a o hi x h
  ·show E.no j a' o' hj x h
 refine⟨λm=>if m=j then O else if m=i then N else f m,E.fz,by rw[Iv,Iv,E.len],λm d h=>?_,λm c J h=>?_,λm c J h x I=>?_,λm k c b_ J be a_ hk cc x I Sn=>?_,E.tb⟩
 ·rcases P h with⟨_,C⟩|⟨_,_,C⟩|⟨_,_,C⟩
  ·cases C
  ·cases C
  ·show E.sl m d C
 ·rcases P h with⟨v,C⟩|⟨v,B,C⟩|⟨v,B,C⟩
  ·cases C;show⟨X,by rw[v];show sj,aj,by rw[Iw v];show Oj⟩
  ·cases C;show⟨U,by rw[B];show si,ai,by rw[Ir v,Iw B];show Oi⟩
  ·let⟨p,e,ha,r⟩:=E.ow m c J C;show⟨p,e,ha,by rw[Ir v,Ir B];show r⟩
 ·rcases P h with⟨v,C⟩|⟨v,B,C⟩|⟨v,B,C⟩
  ·rw[Iw v]at I;show no x (.inr I)
  ·rw[Ir v,Iw B]at I;show no x (.inl I)
  ·rw[Ir v,Ir B]at I;show E.no m c J C x I
 ·have M:x∈(if m=j then O else if m=i then N else f m):=I;have F:x∈(if k=j then O else if k=i then N else f k):=Sn;rcases P a_ with⟨v,Q⟩|⟨v,B,Q⟩|⟨v,B,Q⟩
  ·rw[Iw v]at M;rcases P hk with⟨y,L⟩|⟨y,G,L⟩|⟨y,G,L⟩
   ·show cc (v.trans y.symm)
   ·rw[Ir y,Iw G]at F;show R x F M
   ·rw[Ir y,Ir G]at F;show T x (.inr M) k b_ be L G y F
  ·rw[Ir v,Iw B]at M;rcases P hk with⟨y,L⟩|⟨y,G,L⟩|⟨y,G,L⟩
   ·rw[Iw y]at F;show R x M F
   ·show cc (B.trans G.symm)
   ·rw[Ir y,Ir G]at F;show T x (.inl M) k b_ be L G y F
  ·rw[Ir v,Ir B]at M;rcases P hk with⟨y,L⟩|⟨y,G,L⟩|⟨y,G,L⟩
   ·rw[Iw y]at F;show T x (.inr F) m c J Q B v M
   ·rw[Ir y,Iw G]at F;show T x (.inl F) m c J Q B v M
   ·rw[Ir y,Ir G]at F;show E.dj m k c b_ J be Q L cc x M F
theorem ER{ps:Y (Addr×Ŗ (Y D))}{k:Nat}{x y:Ŗ (Y D)}(h:ps[k]?=Z (q,x)):((ps.set k (q,y)).map λq=>V.ref q.1)=ps.map λq=>V.ref q.1:=by
 refine JU λm=>?_;rw[IE,IE];by_cases c:k=m
 ·subst c;rw[IS (az h),h];rfl
 ·rw[IP c]
theorem EnvM.opn{ps:Y (Addr×Ŗ (Y D))}{k:Nat}{ds:Y D}(E:EnvM K l Φ H g ρ)(C:i≠j)(r:ρ[i]?=Z (Z (.ob (Z q) .ptr)))(v:ρ[j]?=Z (Z (.ob a' (.tl ps))))(y:ps[k]?=Z (q,Z ds)) :
  EnvM K l Φ H g ((ρ.set i (Z (.ob (Z q) (.lst ds)))).set j (Z (.ob a' (.tl (ps.set k (q,ŕ)))))):=by
 let⟨f,E⟩:=E;let⟨p,P,e,R⟩:=E.ow i _ _ r;have F:=e q S;subst F;let⟨t,Q,B,O⟩:=E.ow j _ _ v;let⟨G,I,J⟩:=O.tl_inv;let⟨U,F',L,M,N,z⟩:=I.out y;have nd:=z.nodup_iff.mp J;rw[Jg]at nd;refine E.two C r v P Q e B (.lst L M) (.tl (by rw[ER y];show G) N nd.2) (λx c=>.inr (z.mem_iff.mpr ?_)) λx c=>?_
 ·rcases c with h|h
  ·rw[Iz.mp h];show Iy
  ·show IC _ h
 ·rw[Iz.mp c];show nd.1
theorem EnvM.pnt(E:EnvM K l Φ H g ρ)(i:Nat)(p:Addr):EnvM K l Φ H (g.set i (Z (.ref p))) (ρ.set i (Z (.ob (Z p) .ptr))):=by
 let⟨f,E⟩:=E
 have F:∀{m:Nat}{x:Sm},(ρ.set i (Z (Sm.ob (Z p) .ptr)))[m]?=Z (Z x)->(m=i/\i<ρ.length/\x=.ob (Z p) .ptr)\/(m≠i/\ρ[m]?=Z (Z x)):=λ{m x} h=>by
  rcases cX h with⟨e,M,a_⟩|⟨e,h⟩
  ·cases a_;show .inl ⟨e,M,S⟩
  ·show .inr ⟨e,h⟩
 refine⟨λm=>if m=i then [] else f m,E.fz,by rw[Iv,Iv,E.len],λm d h=>?_,λm c G h=>?_,λm c G h x C=>?_,λm k c z G P U T R x C Q=>?_,E.tb⟩
 ·rcases F h with⟨_,_,h⟩|⟨c,h⟩
  ·cases h
  ·let⟨v,e,r⟩:=E.sl m d h;show⟨v,by rw[IP (JD c)];show e,r⟩
 ·rcases F h with⟨y,M,B⟩|⟨z,B⟩
  ·cases B;show⟨p,by rw[y];show IS (by rw[E.len];show M),λq e=>by cases e;rfl,by rw[Iw y];show .ptr⟩
  ·let⟨q,e,r⟩:=E.ow m c G B;show⟨q,by rw[IP (JD z)];show e,by rw[Ir z];show r⟩
 ·rcases F h with⟨y,_,B⟩|⟨z,B⟩
  ·rw[Iw y]at C;cases C
  ·rw[Ir z]at C;show E.no m c G B x C
 ·have I:x∈(if m=i then [] else f m):=C;have J:x∈(if k=i then [] else f k):=Q;rcases F U with⟨y,_,O⟩|⟨y,O⟩
  ·rw[Iw y]at I;cases I
  rcases F T with⟨L,_,N⟩|⟨L,N⟩
  ·rw[Iw L]at J;cases J
  rw[Ir y]at I;rw[Ir L]at J;show E.dj m k c z G P O N R x I J
end
section
variable{K:Â}{X:Cx}{t:bG}{c e:Ö}
noncomputable def BK(i:Nat)(tb:TX):TX:=λρ R g=>(∃a ds,ρ[i]?=Z (Z (.ob a (.lst ds))))/\tb ρ (xV λk f=>∃a ds n d,f[i]?=Z (Z (.ob a (.lst ds)))/\k=.int n/\cF ds n=Z d/\R (.v d) f) g
theorem xu{y:Str}{b:Ã}{tb:TX}(i:Nat)(T:X.N[i]?=Z y)(L:PX K X b tb)(N:nj b)
  (P:cR X.env.scope y:=by nofun) (hd:ab y:=by decide) (z:fI y:=by decide) :
  PX K X (.Subscript (.Name y e) b c) (BK i tb):=
 ⟨λl=>(qL (BD l) (pv i T P hd z) (L.pe l) N).imp λσ H Q A=>by
  let⟨g,w,Φ,τ,ρ,κ,R,B,a_,⟨⟨a,ds,J⟩,t⟩,k⟩:=A;let⟨fp,E⟩:=a_.env;let⟨q,s,_,_⟩:=E.ow i _ _ J;refine⟨.ref q,s,g,w,Φ,τ,ρ,κ,_,B,a_,t,λsm j h x v r f G=>?_⟩;let⟨kd,rfl,a1,UP,n,d,C,rfl,F,r⟩:=r.get;have M:=f.last;obtain rfl:=M.i;let⟨I,p⟩:=f.env;let⟨q1,o,_,U⟩:=p.ow i _ _ C;rw[s]at o;cases o;let⟨_,ws,b_,w2⟩:=U.lst_inv;let⟨u,O,be⟩:=ot w2 F
  show⟨q,ws,n,u,S,S,SqL.of b_,O,k _ j h x u r ((f.pop a_.lk).pushV be) G⟩⟩
end
noncomputable def Aq:Fl->Ŗ D
 |.v d=>Z d
 |.l xs=>Z (.lst xs)
 |.al _=>ŕ
noncomputable def eV:Y (Str×Fl)->Ŗ (Y (Str×D))
 | []=>Z []
 |(f,x)::r=>match Aq x,eV r with
  |some d,Z ds=>Z ((f,d)::ds)
  |_,_=>ŕ
noncomputable def sH:Ŗ Sm->Ŗ Sl
 |some (.ob _ (.obj nm fs))=>(eV fs).map λds=>.v (.obj nm ds)
 |x=>oQ x
noncomputable abbrev eU(ρ:ak):bz:=ρ.map sH
noncomputable def sZ:HO->Bool
 |.lst _=>ŗ
 |.dK _=>ŗ
 |.dT _=>ŗ
 |.ins _ _ _=>ŗ
 |_=>Ř
theorem EF{u:HO}(h:nr u):sZ u=ŗ:=by cases u<;>first|rfl|show h.elim
inductive NoL:D->Prop where
 |int (i:Int):NoL (.int i)
 |bl (b:Bool):NoL (.bl b)
 |str (x:Str):NoL (.str x)
 |non:NoL .non
 |tup {ds:List D}:(∀d∈ds,NoL d)->NoL (.tup ds)
noncomputable def en(Φ H:Hp)(A:Y Addr):Hp:=λb=>match Φ b with
 |some u=>Z u
 |none=>if b∈A then H b else ŕ
noncomputable def fW(Φ a:Hp):Hp:=λb=>match Φ b with
 |some u=>Z u
 |none=>match a b with
  |some u=>if sZ u then ŕ else Z u
  |none=>ŕ
section
variable{K:Â}{J H I Φ B:Hp}{G:St}{ρ:ak}{F:Nat->Y Addr}{A:Y Addr}{d:D}{v:V}{b:Addr}{u:HO}
theorem AG(h:Φ b=Z u):en Φ H A b=Z u:=by unfold en;rw[h]
theorem vT(a:b∈A)(h:H b=Z u)(s:Same Φ H):en Φ H A b=Z u:=by
 unfold en
 cases e:Φ b with
 |some w=>have:=s _ _ e;rw[h]at this;cases this;rfl
 |none=>simp only;rw[Iw a];show h
theorem qx(h:en Φ H A b=Z u):Φ b=Z u\/(b∈A/\H b=Z u):=by
 unfold en at h
 cases e:Φ b with
 |some w=>rw[e]at h;show .inl h
 |none=>
  rw[e]at h;simp only at h;split at h
  ·next c=>show .inr ⟨c,h⟩
  ·cases h
theorem view_same:Same Φ (en Φ H A):=λ_ _ h=>AG h
theorem qd(s:Same Φ H):Same (en Φ H A) H:=λb u h=>(qx h).elim (s b u) (·.2)
theorem GL(h:Φ b=Z u):fW Φ B b=Z u:=by unfold fW;rw[h]
theorem Fy{vs:Y V}(s:Same Φ B)(h:B b=Z (.tup vs)):fW Φ B b=Z (.tup vs):=by
 unfold fW
 cases e:Φ b with
 |some w=>have:=s _ _ e;rw[h]at this;cases this;rfl
 |none=>simp only;rw[h];rfl
theorem i9(s:Same Φ H)(g:Gr (en Φ H A) H B I):Gr Φ H (fW Φ B) I:=by
 refine⟨λb u e=>GL e,g.h,λb u e=>?_,λp u j h k=>?_⟩
 ·unfold fW at e
  cases c:Φ b with
  |some w=>rw[c]at e;cases e;show g.h _ _ (s _ _ c)
  |none=>
   rw[c]at e;simp only at e
   cases a:B b with
   |none=>rw[a]at e;cases e
   |some w=>
    rw[a]at e;simp only at e;split at e
    ·cases e
    ·cases e;show g.s _ _ a
 ·unfold fW;rw[h];simp only
  cases a:B p with
  |none=>rfl
  |some w=>
   have f:=g.s _ _ a;rw[g.h _ _ j]at f;cases f;simp only;rw[Iw (EF k)]
theorem Rp.thawN(s:Same Φ B)(f:NoL d)(r:Rp K B d v):Rp K (fW Φ B) d v:=by
 induction f generalizing v with
 |int i=>obtain rfl:=r.i;show .int i
 |bl b=>obtain rfl:=r.b;show .bl b
 |str x=>obtain rfl:=r.s;show .str x
 |non=>obtain rfl:=r.n;show .non
 |tup _ h=>
  cases r with
  |tup a c e=>show .tup (Fy s a) c λi v d g hd=>h d (ID hd) (e i v d g hd)
noncomputable def nZ:Ŗ (Ŗ Sm)->Bool
 |some (Z (.ob _ (.obj _ _)))=>ŗ
 |_=>Ř
noncomputable def iH(F:Nat->Y Addr)(ρ:ak):Y Addr:=(List.range ρ.length).flatMap λi=>if nZ (ρ[i]?) then F i else []
theorem GZ{i:Nat}{a:Ŗ Addr}{nm:Str}{fs:Y (Str×Fl)}(h:ρ[i]?=Z (Z (.ob a (.obj nm fs))))(c:b∈F i):b∈iH F ρ:=by unfold iH;refine Mu.mpr ⟨i,IY.mpr (az h),?_⟩;rw[h,Iw (show nZ (Z (Z (Sm.ob a (Om.obj nm fs))))=ŗ from rfl)];show c
theorem Cj(h:b∈iH F ρ):∃i a nm fs,ρ[i]?=Z (Z (.ob a (.obj nm fs)))/\b∈F i:=by
 unfold iH at h;let⟨i,_,h⟩:=Mu.mp h;by_cases c:nZ (ρ[i]?)=ŗ
 ·rw[Iw c]at h;unfold nZ at c;split at c
  ·next a nm fs e=>show⟨i,a,nm,fs,e,h⟩
  ·cases c
 ·rw[Ir c]at h;cases h
theorem ud{fs:Y (Str×Fl)}{ds:Y (Str×D)}{vs:Y (Str×V)}{E:Y Addr}(a:eV fs=Z ds)(h:FlsR K Φ H fs vs E)(C:Same Φ B)(x:∀b∈E,∀u,H b=Z u->B b=Z u) :
  vs.map (·.1)=ds.map (·.1)/\∀(i:Nat)(v:Str×V)(d:Str×D),vs[i]?=Z v->ds[i]?=Z d->Rp K B d.2 v.2:=by
 induction h generalizing ds with
 |nil=>cases a;show⟨S,λi v d g=>by simp at g⟩
 |v r _ j=>
  rename_i f o Q c y z _;have a:(match Z o,eV c with|some d,Z ds=>Z ((f,d)::ds)|_,_=>ŕ)=Z ds:=a
  cases e:eV c with
  |none=>rw[e]at a;cases a
  |some es=>
   rw[e]at a;cases a;let⟨p,w⟩:=j e x;refine⟨by rw[IQ,IQ,p],λi v d g hd=>?_⟩
   cases i with
   |zero=>cases g;cases hd;show r.same C
   |succ i=>show w i v d g hd
 |l p w _ j=>
  rename_i f o R P c y z _;have a:(match Z (D.lst o),eV c with|some d,Z ds=>Z ((f,d)::ds)|_,_=>ŕ)=Z ds:=a
  cases e:eV c with
  |none=>rw[e]at a;cases a
  |some es=>
   rw[e]at a;cases a;let⟨M,N⟩:=j e λb L=>x b (IC _ L);refine⟨by rw[IQ,IQ,M],λi v d g hd=>?_⟩
   cases i with
   |zero=>
    cases g;cases hd;have r:=w.same C;show .lst (x _ Iy _ p) r.1 r.2
   |succ i=>show N i v d g hd
 |al _ j=>
  rename_i f O c y z _;have a:(match (ŕ:Ŗ D),eV c with|some d,Z ds=>Z ((f,d)::ds)|_,_=>ŕ)=Z ds:=a;cases a
theorem EnvM'.view(E:EnvM' K J Φ H G ρ F):EnvD K J (en Φ H (iH F ρ)) H G (eU ρ):=by
 have R:Same Φ (en Φ H (iH F ρ)):=view_same
 have at_:∀{i:Nat}{x:Sl},(eU ρ)[i]?=Z (Z x)->∃y,ρ[i]?=Z (Z y)/\sH (Z y)=Z x:=λ{i x} h=>by
  rw[IE]at h
  cases e:ρ[i]? with
  |none=>rw[e]at h;cases h
  |some y=>
   rw[e]at h
   cases y with
   |none=>cases h
   |some y=>show⟨y,S,Jf h⟩
 have ow:∀{i:Nat}{o:Ow},(eU ρ)[i]?=Z (Z (.ob o))->∃a f p u,ρ[i]?=Z (Z (.ob a f))/\(∀nm fs,f≠.obj nm fs)/\G[i]?=Z (Z (.ref p))/\p∈F i/\H p=Z u/\OwR K Φ o u:=λ{i o} h=>by
  let⟨y,L,e⟩:=at_ h
  cases y with
  |v d=>cases e
  |ob a f=>
   let⟨p,M,_,r⟩:=E.ow i a f L;refine⟨a,f,p,?_⟩
   cases f with
   |lst ds=>let⟨_,vs,g,l⟩:=r.lst_inv;cases e;show⟨_,L,(λ_ _ z=>by cases z),M,r.mem,g,l⟩
   |map be=>let⟨_,vs,g,l⟩:=r.map_inv;cases e;show⟨_,L,(λ_ _ z=>by cases z),M,r.mem,g,kW l⟩
   |mpT be=>let⟨_,vs,g,l⟩:=r.mpT_inv;cases e;show⟨_,L,(λ_ _ z=>by cases z),M,r.mem,g,kW l⟩
   |obj nm fs=>
    have e:(eV fs).map (λds=>Sl.v (.obj nm ds))=Z (.ob o):=e
    cases O:eV fs with
    |none=>rw[O]at e;cases e
    |some ds=>rw[O]at e;cases e
   |ptr=>cases e
   |tl ps=>cases e
   |pr _ _=>cases e
 refine⟨qd E.fz,by rw[Il,E.len],λi d h=>?_,λi o h=>?_,λi j o w p hi hj si sj=>?_,E.tb.same R⟩
 ·let⟨y,L,e⟩:=at_ h
  cases y with
  |v d'=>cases e;let⟨v,M,r⟩:=E.sl i d L;show⟨v,M,r.same R⟩
  |ob a f=>
   cases f with
   |obj nm fs=>
    have e:(eV fs).map (λds=>Sl.v (.obj nm ds))=Z (.v d):=e
    cases O:eV fs with
    |none=>rw[O]at e;cases e
    |some ds=>
     rw[O]at e;cases e;let⟨p,M,_,r⟩:=E.ow i a _ L;let⟨C,dx,vs,qs,X,c1,c2,c3,_⟩:=r.obj_inv;have U:∀b∈F i,∀u,H b=Z u->en Φ H (iH F ρ) b=Z u:=λb T u hu=>vT (GZ L T) hu E.fz;let⟨N,P⟩:=ud O c3 R λb T=>U b (by rw[X];show IC _ T);show⟨.ref p,M,.obj c1 (U p (by rw[X];show Iy) _ c2) N P⟩
   |_=>cases e
 ·let⟨a,f,p,u,g,b_,l,Q,h4,a_⟩:=ow h;have n1:=E.no i a f g p Q;refine⟨p,u,l,n1.1,?_,h4,?_⟩
  ·cases e:en Φ H (iH F ρ) p with
   |none=>rfl
   |some w=>
    rcases qx e with z|⟨z,_⟩
    ·rw[n1.2]at z;cases z
    ·let⟨j,a',nm,fs,N,P⟩:=Cj z
     have TC:i≠j:=λc=>by subst c;rw[g]at N;cases N;show b_ _ _ S
     show absurd P (E.dj i j a a' f _ g N TC p Q)
  ·cases o with
   |lst ds=>cases u with
    |lst vs=>show RpL.same R a_
    |_=>show a_.elim
   |_=>cases u<;>show a_
 ·let⟨a,f,p1,u,g,_,l,Q,_,_⟩:=ow hi;let⟨a',O9,p2,u',N,_,P,k3,_,_⟩:=ow hj;rw[si]at l;cases l;rw[sj]at P;cases P;rcases K8 (i=j)with c|c
  ·show c
  ·show absurd k3 (E.dj i j a a' f O9 g N c p Q)
end
section
variable{K:Â}{X:Cx}{e:Ã}
noncomputable def z9(t:TD):TX:=λρ R _=>t (eU ρ) λd=>NoL d/\R (.v d) ρ
theorem cG{t:TD}(h:PD K X e t):PX K X e (z9 t):=⟨λj=>(h.pe j).imp λy H Q f=>by
 let⟨o,a,Φ,z,ρ,x,R,u,U,t,k⟩:=f;let⟨w,E⟩:=U.env;refine⟨a,_,eU ρ,_,E.view,t,λd p c v r g l=>?_⟩;have g':=i9 E.fz g
 show k _ ρ _ c v r.2 ((U.gr g').pushV (l.thawN (view_same.trans g.f) r.1)) g'.f⟩
noncomputable def qY(t:aX):TX:=λρ R _=>t (eU ρ) λds=>(∀d∈ds,NoL d)/\R (.own ds) ρ
theorem rM{t:aX}(h:PF K X e t):PX K X e (qY t):=⟨λy=>(h.pe y).imp λL H Q o=>by
 let⟨F,j,Φ,M,ρ,J,R,G,U,t,k⟩:=o;let⟨I,E⟩:=U.env;refine⟨j,_,eU ρ,_,E.view,t,λds c l p vs r g B a A rl=>?_⟩;have g':=i9 E.fz g;have f:=view_same.trans g.f
 have u:fW Φ c p=ŕ:=by
  unfold fW
  cases x:Φ p with
  |some w=>rw[f _ _ x]at a;cases a
  |none=>simp only;rw[a]
 refine k _ ρ _ l _ r.2 (U.pushO g' (.lst A ⟨rl.1,λi v d C hd=>(rl.2 i v d C hd).thawN f (r.1 d (ID hd))⟩) λb z=>by rw[Iz.mp z];show⟨B,u⟩) g'.f⟩
end
noncomputable def df(f:Str)(x:Fl):Y (Str×Fl)->Y (Str×Fl)
 | []=>[(f,x)]
 |(g,y)::r=>if g=f then (g,x)::r else (g,y)::df f x r
section
variable{K:Â}{Φ H a:Hp}{fs:Y (Str×Fl)}{vs:Y (Str×V)}{o:Y Addr}{f:Str}{ds es:Y D}{j:Y V}{d:D}{v:V}
theorem FlsR.look(h:FlsR K Φ H fs vs o)(nd:o.Nodup)(p:fs.lookup f=Z (.l ds)):∃q j,vs.lookup f=Z (.ref q)/\q∈o/\H q=Z (.lst j)/\RpL K Φ ds j /\
  ∀(a:Hp)(es:Y D)(w:Y V),(∀b∈o,b≠q->∀u,H b=Z u->a b=Z u)->a q=Z (.lst w)->RpL K Φ es w->FlsR K Φ a (df f (.l es) fs) vs o:=by
 induction h with
 |nil=>cases p
 |v r t I=>
  rename_i g P T L M N;rw[Jc]at p
  cases c:f==g with
  |true=>rw[c]at p;cases p
  |false=>
   rw[c]at p;let⟨q,j,C,B,E,F,G⟩:=I nd p;refine⟨q,j,by rw[Jc,c];show C,B,E,F,λa es w x y A=>?_⟩;change FlsR K Φ a (if g=f then _ else _) _ _;rw[Ir λe=>by rw[e,Jj]at c;cases c];show .v r (G a es w x y A)
 |l a1 a2 t I=>
  rename_i g P R O L M N;rw[Jg]at nd;rw[Jc]at p
  cases c:f==g with
  |true=>
   rw[c]at p;cases p;refine⟨O,R,by rw[Jc,c],Iy,a1,a2,λa es w x y A=>?_⟩;change FlsR K Φ a (if g=f then _ else _) _ _;rw[Iw (eq_of_beq c).symm];show .l y A (t.keep (Same.refl _) λb J u Q=>x b (IC _ J) (λz=>nd.1 (z▸J)) u Q)
  |false=>
   rw[c]at p;let⟨q,j,C,B,E,F,G⟩:=I nd.2 p;refine⟨q,j,by rw[Jc,c];show C,IC _ B,E,F,λa es w x y A=>?_⟩;change FlsR K Φ a (if g=f then _ else _) _ _;rw[Ir λe=>by rw[e,Jj]at c;cases c];show .l (x O Iy (λz=>nd.1 (z▸B)) _ a1) a2 (G a es w (λb J=>x b (IC _ J)) y A)
 |al t I=>
  rename_i g U L M N;rw[Jc]at p
  cases c:f==g with
  |true=>rw[c]at p;cases p
  |false=>
   rw[c]at p;let⟨q,j,C,B,E,F,G⟩:=I nd p;refine⟨q,j,by rw[Jc,c];show C,B,E,F,λa es w x y A=>?_⟩;change FlsR K Φ a (if g=f then _ else _) _ _;rw[Ir λe=>by rw[e,Jj]at c;cases c];show .al (G a es w x y A)
noncomputable def iC(f:Str)(fs:Y (Str×Fl)):Bool:=match fs.lookup f with
 |none=>ŗ
 |some (.v _)=>ŗ
 |_=>Ř
theorem FlsR.setV(h:FlsR K Φ H fs vs o)(e:iC f fs=ŗ)(r:Rp K Φ d v):FlsR K Φ H (df f (.v d) fs) (cS f v vs) o:=by
 induction h with
 |nil=>show .v r .nil
 |v A t p=>
  rename_i g y E u w x;change FlsR K Φ H (if g=f then _ else _) (if g=f then _ else _) _;by_cases c:g=f
  ·rw[Iw c,Iw c];show .v r t
  ·rw[Ir c,Ir c];refine .v A (p ?_);unfold iC at e ⊢;rw[Jc,show (f==g)=Ř from LZ λz=>c z.symm]at e;show e
 |l a1 a2 t p=>
  rename_i g y F C u w x;change FlsR K Φ H (if g=f then _ else _) (if g=f then _ else _) _;by_cases c:g=f
  ·subst c;unfold iC at e;rw[Jc,Jj]at e;cases e
  ·rw[Ir c,Ir c];refine .l a1 a2 (p ?_);unfold iC at e ⊢;rw[Jc,show (f==g)=Ř from LZ λz=>c z.symm]at e;show e
 |al t p=>
  rename_i g B u w x;change FlsR K Φ H (if g=f then _ else _) (if g=f then _ else _) _;by_cases c:g=f
  ·subst c;unfold iC at e;rw[Jc,Jj]at e;cases e
  ·rw[Ir c,Ir c];refine .al (p ?_);unfold iC at e ⊢;rw[Jc,show (f==g)=Ř from LZ λz=>c z.symm]at e;show e
theorem FlsR.setL{q:Addr}(h:FlsR K Φ H fs vs o)(u:fs.lookup f=ŕ)(E:H q=Z (.lst j))(r:RpL K Φ ds j):FlsR K Φ H (df f (.l ds) fs) (cS f (.ref q) vs) (o++[q]):=by
 have p:∀{g:Str}{y:Fl}{r:Y (Str×Fl)},List.lookup f ((g,y)::r)=ŕ->g≠f/\r.lookup f=ŕ:=λ{g y r} e=>by
  rw[Jc]at e
  cases c:f==g with
  |true=>rw[c]at e;cases e
  |false=>rw[c]at e;show⟨(λz=>by rw[z,Jj]at c;cases c),e⟩
 induction h with
 |nil=>show .l E r .nil
 |v F t w=>
  rename_i g C J x A B;let⟨c,u⟩:=p u;change FlsR K Φ H (if g=f then _ else _) (if g=f then _ else _) _;rw[Ir c,Ir c];show .v F (w u)
 |l a1 a2 t w=>
  rename_i g C L I x A B;let⟨c,u⟩:=p u;change FlsR K Φ H (if g=f then _ else _) (if g=f then _ else _) _;rw[Ir c,Ir c];show .l a1 a2 (w u)
 |al t w=>
  rename_i g G x A B;let⟨c,u⟩:=p u;change FlsR K Φ H (if g=f then _ else _) (if g=f then _ else _) _;rw[Ir c,Ir c];show .al (w u)
theorem FlsR.len(h:FlsR K Φ H fs vs o):vs.length=fs.length:=by have:=Ju List.length h.names;rwa [Il,Il]at this
end
section
variable{K:Â}{X:Cx}{c h Φ H:Hp}{j l:St}{ρ o:ak}{w:XD->ak->Prop}{a:Ŗ Addr}{nm f:Str}{fs:Y (Str×Fl)}{ds:Y D}{i:Nat}{C:Addr}
theorem EnvM.flist(E:EnvM K h Φ H j ρ)(g:Gr c h Φ H)(M:Ò K Á nm=Z (Z (.ref C)))(A:ρ[i]?=Z (Z (.ob a (.obj nm fs))))(T:fs.lookup f=Z (.l ds)):∃p y vs q x,j[i]?=Z (Z (.ref p))/\H p=Z (.ins C y vs)/\vs.lookup f=Z (.ref q)/\H q=Z (.lst x)/\RpL K Φ ds x /\
  ∀(es:Y D)(v:Y V),RpL K Φ es v->EnvM K h Φ (aq H q (.lst v)) j (ρ.set i (Z (.ob a (.obj nm (df f (.l es) fs)))))/\Gr c h Φ (aq H q (.lst v)):=by
 let⟨L,E⟩:=E;let⟨p,e,_,r⟩:=E.ow i a _ A;let⟨C',y,vs,qs,J,G,I,a_,nd⟩:=r.obj_inv;rw[M]at G;cases G;rw[Jg]at nd;let⟨q,x,b_,P,l3,l4,l5⟩:=a_.look nd.2 T
 have F:q∈L i:=by rw[J];show IC _ P
 have B:p≠q:=λz=>nd.1 (z▸P);refine⟨p,y,vs,q,x,e,I,b_,l3,l4,λes v Q=>?_⟩
 have N:∀b u,H b=Z u->b∉L i->aq H q (.lst v) b=Z u:=λb u e U=>by
  rw[aY λz=>U (by rw[z];show F)];show e
 refine⟨⟨_,E.put A e N (F':=p::qs) (.obj M ((aY B).trans I) (l5 _ es v (λb O R u be=>by rw[aY R];show be) bh Q) (Jg.mpr nd)) λb O=>.inl (by rw[J];show O)⟩,E.grput g A N⟩
theorem StM.flist(Q:StM K X c h Φ H j l ρ o w)(I:Ò K Á nm=Z (Z (.ref C)))(y:ρ[i]?=Z (Z (.ob a (.obj nm fs))))(J:fs.lookup f=Z (.l ds)):∃p x vs q u,j[i]?=Z (Z (.ref p))/\H p=Z (.ins C x vs)/\vs.lookup f=Z (.ref q)/\H q=Z (.lst u)/\RpL K Φ ds u /\
  ∀(es:Y D)(g:Y V),RpL K Φ es g->StM K X c h Φ (aq H q (.lst g)) j l (ρ.set i (Z (.ob a (.obj nm (df f (.l es) fs))))) o w:=by
 have v:=az y;let⟨p,x,vs,q,u,e,A,B,E,F,G⟩:=Q.E.flist (i:=i) Q.g I (by rw[Ip v];show y) J;rw[Ip (by rw[←Q.l];show v)]at e;refine⟨p,x,vs,q,u,e,A,B,E,F,λes g r=>?_⟩;let⟨z,L⟩:=G es g r;refine⟨L,by rw[Iv];show Q.l,?_,Q.x⟩;rw[Kp _ _ v]at z;show z
theorem EnvM.fsetV{d:D}{v:V}(E:EnvM K h Φ H j ρ)(g:Gr c h Φ H)(L:Ò K Á nm=Z (Z (.ref C)))(A:ρ[i]?=Z (Z (.ob a (.obj nm fs))))(P:iC f fs=ŗ)(r:Rp K Φ d v):∃p x vs,j[i]?=Z (Z (.ref p))/\H p=Z (.ins C x vs)/\vs.length=fs.length /\
  EnvM K h Φ (aq H p (.ins C x (cS f v vs))) j (ρ.set i (Z (.ob a (.obj nm (df f (.v d) fs)))))/\Gr c h Φ (aq H p (.ins C x (cS f v vs))):=by
 let⟨J,E⟩:=E;let⟨p,e,_,T⟩:=E.ow i a _ A;let⟨U,x,vs,a_,I,F,O,G,nd⟩:=T.obj_inv;rw[L]at F;cases F
 have N:p∈J i:=by rw[I];show Iy
 have M:∀b u,H b=Z u->b∉J i->aq H p (.ins C x (cS f v vs)) b=Z u:=λb u e Q=>by
  rw[aY λz=>Q (by rw[z];show N)];show e
 have B:=nd;rw[Jg]at B;refine⟨p,x,vs,e,O,G.len,⟨_,E.put A e M (F':=p::a_) (.obj L bh ((G.setV P r).keep (Same.refl _) λb y u R=>by rw[aY (show b≠p from λz=>B.1 (by rw[←z];show y))];show R) nd) λb y=>.inl (by rw[I];show y)⟩,E.grput g A M⟩
end
noncomputable def mz(ρ:ak)(i:Nat)(nm f:Str)(k:Ŗ Addr->Y (Str×Fl)->Y D->Prop):Prop:=∃a fs ds,ρ[i]?=Z (Z (.ob a (.obj nm fs)))/\fs.lookup f=Z (.l ds)/\k a fs ds
section
variable{K:Â}{X:Cx}{e a b:Ã}{z:TX}{t tb:TD}{u h o y l A:Ö}{x nm f:Str}{C:Addr}
noncomputable def zE(i:Nat)(nm f:Str)(t:TD):bG:=λc ρ=>mz ρ i nm f λa fs ds=>t (eU ρ) λd=>NoL d/\ds.length<sizeLine/\NF (df f (.l (ds++[d])) fs) λg=>c.nx (ρ.set i (Z (.ob a (.obj nm g))))
theorem qU(i:Nat)(c:Cls K C)(nA:NoAttr K C f)(O:Ò K Á nm=Z (Z (.ref C)))(he:PD K X e t)(Oc:((backTo y (starEach [e] X.env)).all (λx=>!x.1)&&(â y (Õ [] X.env)).all (λx=>x.1.isSome)&&decide (([e]:Y Ã).length+([]:Y Ü).length+(if ([]:Y Ü).isEmpty then 0 else 1)<30))=ŗ)
  (B:starEach [e] X.env=(Ř,eval e X.env)::starEach [] X.env) (hN:X.N[i]?=Z x:=by rfl) (hv:cR X.env.scope x:=by nofun) (hd:ab x:=by decide) (U:fI x:=by decide)
  (Qd:Ë (.Name x h) f X.env (eval (.Name x h) X.env)=eval (.Name x h) X.env:=by rfl)
  (b_:Ë (.Attribute (.Name x h) f l) "append" X.env (eval (.Attribute (.Name x h) f l) X.env)=eval (.Attribute (.Name x h) f l) X.env:=by rfl) (Nl:(o.endLine==y.line)=ŗ:=by rfl) (hs:Î (.Call (.Attribute (.Attribute (.Name x h) f l) "append" o) [e] [] y) ŕ u.line X.env=pure Ř:=by rfl) :
  PSM K X (.Expr (.Call (.Attribute (.Attribute (.Name x h) f l) "append" o) [e] [] y) u) (zE i nm f t):=
 ⟨λP=>(kM (kt J8 Lu Lv mw (kg P (pv i hN hv hd U) Qd) (eY (he.pe P) pa_nil B) b_ Oc Nl B ae) hs).imp λE σ H be=>by
  let⟨Φ0,T,Φ,ρ,De,g,V,⟨a0,NX,UX,R,Q,t⟩,k⟩:=be;have a_:=dI g V k.ex;let⟨p,dx,vs,q,ws,L,M,N,h3,rl,_⟩:=a_.flist O R Q;let⟨fp,E0⟩:=id V;refine⟨_,L,p,C,dx,vs,.ref q,S,M,c,nA,N,.inl ⟨S,ws,SqL.of h3⟩,T,_,eU ρ,_,E0.view,t,λd Φ1 H1 v r j rv=>?_⟩;have S1:=a_.gr (i9 E0.fz j);let⟨p',UY,UZ,q',Nx,F,w,G,Qt,I,k1⟩:=S1.flist O R Q;rw[L]at F;cases F;rw[j.h _ _ M]at w;cases w;rw[N]at G;cases G;have J:=k1 _ _ (I.append (.one (rv.thawN (view_same.trans j.f) r.1)))
  show⟨q,Nx,v,S,S,Qt,by rw[I.1];show r.2.1,k.nx _ _ _ σ r.2.2.get J.g J.env⟩⟩
noncomputable def Dc(i:Nat)(nm f:Str)(t:TD):TX:=λρ R _=>mz ρ i nm f λa fs ds=>t (eU ρ) λn=>∃(j:Nat)(d:D),n=.int (j:Int)/\j<2^62/\ds[j]?=Z d/\NF (df f (.l (ds.eraseIdx j)) fs) λc=>R (.v d) (ρ.set i (Z (.ob a (.obj nm c))))
theorem uo(i:Nat)(c:Cls K C)(nA:NoAttr K C f)(O:Ò K Á nm=Z (Z (.ref C)))(he:PD K X e t)(Oc:((backTo y (starEach [e] X.env)).all (λx=>!x.1)&&(â y (Õ [] X.env)).all (λx=>x.1.isSome)&&decide (([e]:Y Ã).length+([]:Y Ü).length+(if ([]:Y Ü).isEmpty then 0 else 1)<30))=ŗ)
  (E:starEach [e] X.env=(Ř,eval e X.env)::starEach [] X.env) (hN:X.N[i]?=Z x:=by rfl) (g:cR X.env.scope x:=by nofun) (hd:ab x:=by decide) (b_:fI x:=by decide)
  (Qd:Ë (.Name x h) f X.env (eval (.Name x h) X.env)=eval (.Name x h) X.env:=by rfl)
  (Nk:Ë (.Attribute (.Name x h) f l) "pop" X.env (eval (.Attribute (.Name x h) f l) X.env)=eval (.Attribute (.Name x h) f l) X.env:=by rfl) (Nl:(o.endLine==y.line)=ŗ:=by rfl):PX K X (.Call (.Attribute (.Attribute (.Name x h) f l) "pop" o) [e] [] y) (Dc i nm f t):=
 ⟨λP=>(kt J8 MJ MK Hy (kg P (pv i hN g hd b_) Qd) (eY (he.pe P) pa_nil E) Nk Oc Nl E ae).imp λσ H Q MY=>by
  let⟨Φ0,be,Φ,τ,ρ,κ,R,Rx,a_,⟨a0,NX,UX,U,T,t⟩,k⟩:=MY;let⟨p,dx,vs,q,ws,J,M,N,h3,rl,_⟩:=a_.flist O U T;let⟨fp,E0⟩:=a_.env;refine⟨_,J,p,C,dx,vs,.ref q,S,M,c,nA,N,.inl ⟨S,ws,SqL.of h3⟩,be,_,eU ρ,_,E0.view,t,λn Φ1 H1 v r L w=>?_⟩;let⟨j,d,rfl,h62,hj,r⟩:=r;obtain rfl:=w.i;have g':=i9 E0.fz L;have S1:=a_.gr g';let⟨p',UY,UZ,q',Nx,F,B,G,Qt,I,k1⟩:=S1.flist O U T;rw[J]at F;cases F;rw[L.h _ _ M]at B;cases B;rw[N]at G;cases G;let⟨v,g,w⟩:=I.at hj;have S2:=k1 _ _ (I.eraseIdx j)
  show⟨q,Nx,_,j,v,S,S,Qt,(),(),Ch (az g),g,k _ _ _ _ v r.get (S2.pushV w) g'.f⟩⟩
noncomputable def zp(i:Nat)(nm f:Str)(z:TX)(tb:TD):bG:=λg ρ=>z ρ (xV λd c=>mz c i nm f λa fs ds=>tb (eU c) λr=>∃n j,r=.int n/\fv ds.length n=Z j/\NF (df f (.l (ds.set j d)) fs) λp=>g.nx (c.set i (Z (.ob a (.obj nm p))))) g.ex
theorem iG(i:Nat)(c:Cls K C)(nA:NoAttr K C f)(b_:Ò K Á nm=Z (Z (.ref C)))(he:PX K X e z)(hk:PD K X b tb)(hN:X.N[i]?=Z x:=by rfl)(hv:cR X.env.scope x:=by nofun)(hd:ab x:=by decide)(M9:fI x:=by decide)
  (Qd:Ë (.Name x h) f X.env (eval (.Name x h) X.env)=eval (.Name x h) X.env:=by rfl)
  (ha:∀v,assign (.Subscript (.Attribute (.Name x h) f l) b A) X.env v=(do
   let ov ←holding [v] (eval (.Attribute (.Name x h) f l) X.env)
   let iv ←holding [v,ov] (eval b X.env)
   standAt A
   holding [v,ov,iv] (setItem ov iv v)
   release [v,ov,iv] []):=by intro _;rfl)
  (hs:è [.Subscript (.Attribute (.Name x h) f l) b A] e u.line X.env=pure Ř:=by rfl) (hw:é [.Subscript (.Attribute (.Name x h) f l) b A] e X.env=pure ŕ:=by rfl)
  (F:(Æ [.Subscript (.Attribute (.Name x h) f l) b A] X.env).map (·.2)=[assign (.Subscript (.Attribute (.Name x h) f l) b A) X.env]:=by rfl) :
  PSM K X (.Assign [.Subscript (.Attribute (.Name x h) f l) b A] e u) (zp i nm f z tb):=
 ⟨λG=>(mT (he.pe G) (rN (kg G (pv i hN hv hd M9) Qd) (hk.pe G) oP ha) hs hw F).imp λE σ H MY=>by
  let⟨L,N,Φ,ρ,De,g,V,t,k⟩:=MY;refine⟨L,N,Φ,[],ρ,[],_,De.ex,dI g V k.ex,t,λs M Φ1 H1 v r B _=>?_⟩;let⟨d,rfl,a0,NX,UX,ho,hf,r⟩:=r.get;have rv:=B.last;let⟨p,dx,vs,q,ws,T,F,be,h3,rl,_⟩:=B.flist b_ ho hf;let⟨fp,E0⟩:=B.env;refine⟨_,T,p,C,dx,vs,.ref q,S,F,c,nA,be,N,_,eU M,_,E0.view,r,λn Φ2 H2 w I U J=>?_⟩;let⟨n,j,rfl,hj,I⟩:=I;obtain rfl:=J.i;have g':=i9 E0.fz U;have S2:=B.gr g';let⟨p',UY,UZ,q',Nx,P,O,Q,Qt,R,k1⟩:=S2.flist b_ ho hf;rw[T]at P;cases P;rw[U.h _ _ F]at O;cases O;rw[be]at Q;cases Q;have a_:=k1 _ _ (R.set (rv.same g'.f) j)
  show⟨q,Nx,n,j,S,S,Qt,by rw[R.1];show hj,k.nx _ _ _ σ I.get a_.g a_.env⟩⟩
noncomputable def GR(i:Nat)(nm f:Str)(z:TX):bG:=λg ρ=>z ρ (xV λd c=>∃a fs,c[i]?=Z (Z (.ob a (.obj nm fs)))/\iC f fs=ŗ/\fs.length<1000/\NF (df f (.v d) fs) λj=>g.nx (c.set i (Z (.ob a (.obj nm j))))) g.ex
theorem fb(i:Nat)(c:Cls K C)(nA:NoAttr K C f)(R:Ò K Á nm=Z (Z (.ref C)))(U:PX K X e z)(a_:X.N[i]?=Z x:=by rfl)(hv:cR X.env.scope x:=by nofun)(hd:ab x:=by decide)(L:fI x:=by decide)
  (hs:Î e (Z (.Attribute (.Name x h) f l)) u.line X.env=pure Ř:=by rfl):PSM K X (.Assign [.Attribute (.Name x h) f l] e u) (GR i nm f z):=
 ⟨λw=>(qQ (f:=f) (pv i a_ hv hd L) (U.pe w) hs).imp λE σ H M=>by
  let⟨B,J,Φ,ρ,G,g,V,t,k⟩:=M;refine⟨B,J,Φ,[],ρ,[],_,G.ex,dI g V k.ex,t,λs ρ1 F H1 v r j _=>?_⟩;let⟨d,rfl,a0,NX,b_,T,be,r⟩:=r.get;let⟨p,N,vs,O,P,Q,I,g'⟩:=j.env.fsetV (f:=f) j.g R b_ T j.last
  show⟨_,O,p,C,N,vs,S,P,w▸c,w▸nA,by rw[Q];show be,k.nx _ F _ σ r.get g' I⟩⟩
end
theorem FlsR.lookN{K:Â}{Φ H:Hp}{fs:Y (Str×Fl)}{vs:Y (Str×V)}{u:Y Addr}{f:Str}(h:FlsR K Φ H fs vs u)(j:fs.lookup f=ŕ):vs.lookup f=ŕ:=by
 have a:∀{p:Type}{g:Str}{y:p}{r:Y (Str×p)},List.lookup f ((g,y)::r)=ŕ->(f==g)=Ř/\r.lookup f=ŕ:=λ{p g y r} e=>by
  rw[Jc]at e
  cases c:f==g with
  |true=>rw[c]at e;cases e
  |false=>rw[c]at e;show⟨S,e⟩
 induction h with
 |nil=>rfl
 |v r t o=>let⟨c,j⟩:=a j;rw[Jc,c];show o j
 |l a1 a2 t o=>let⟨c,j⟩:=a j;rw[Jc,c];show o j
 |al t o=>let⟨c,j⟩:=a j;rw[Jc,c];show o j
structure MthM(P:Å)(w:È)(K:Â)(mg:Str->Option Value)(base:Heap)(n:Nat)(C:Addr)(m:Str)(ps:List Str)(z:eo):Prop where
 ex:∃(f:Addr)(fd:Í),FnOk P w K mg base aN n f fd ps (lSpM K z)/\Binds K fd ps []/\Meth K C m f
structure MkM(P:Å)(w:È)(K:Â)(mg:Str->Option Value)(base:Heap)(n:Nat)(C:Addr)(ps:List Str)(z:eo):Prop where
 ex:∃(f:Addr)(fd:Í),FnOk P w K mg base aN n f fd ps (lSpM K z)/\Binds K fd ps []/\Mk K C f
section
variable{K:Â}{X:Cx}{e:Ã}{es:Y Ã}{g p j w:Ö}{l:di}{C:Addr}{nm m x:Str}
noncomputable def xv(i:Nat)(nm m:Str)(z:eo)(l:di):TX:=λρ R f=>(∃a fs,ρ[i]?=Z (Z (.ob a (.obj nm fs)))/\fs.lookup m=ŕ)/\l ρ (λas c=>CallM z R f (.s i::as) c) f
theorem eS(i:Nat){n:Nat}{ps:Y Str}{z:eo}{pl:Sem Bool}(M:MthM X.prog X.w K X.mg X.base n C m ps z)(hr:Room n X.A)(c:Cls K C)(hC:Ò K Á nm=Z (Z (.ref C)))
  (ha:PXA K X (e::es) l) (he:starEach (e::es) X.env=(Ř,eval e X.env)::starEach es X.env) (Nw:(backTo g (starEach es X.env)).any (·.1)=Ř)
  (ht:eval (.Call (.Attribute (.Name x w) m j) (e::es) [] g) X.env=(do
   let ov ←eval (.Name x w) X.env
   standAt j.atName
   let (f,first) ←holding [ov] (getMethod ov m pl)
   callWith g f first (backTo g (starEach (e::es) X.env)) (â g (Õ [] X.env))):=by rfl)
  (hN:X.N[i]?=Z x:=by rfl) (A:cR X.env.scope x:=by nofun) (hd:ab x:=by decide) (U:fI x:=by decide) :
  PX K X (.Call (.Attribute (.Name x w) m j) (e::es) [] g) (xv i nm m z l):=⟨λh=>by
 let⟨f,fd,F,b,hm⟩:=M.ex;refine (tH (dvs:=[]) (ds:=[]) (E:=E0) (pl:=pl) (pv i hN A hd U) (h▸c) (h▸hm) (h▸F:FnOk X.prog X.w X.K X.mg X.base aN n f fd ps (lSpM K z)) hr (h▸b) .nil jp (ha.pa h) he Nw ht).imp λσ H Q be=>?_;let⟨G,T,Φ,τ,ρ,κ,R,Rx,a_,⟨⟨a,fs,y,O⟩,t⟩,k⟩:=be;let⟨fp,E⟩:=a_.env;let⟨q,N,_,ro⟩:=E.ow i a _ y;let⟨C',dx,vs,qs,eF,L,c2,c3,nd⟩:=ro.obj_inv;rw[hC]at L;cases L;refine⟨_,N,q,dx,vs,S,c2,c3.lookN O,G,T,Φ,τ,ρ,κ,_,Rx,a_,t,λas ρ1 I H1 us ts B O A u f1=>?_⟩;let⟨Nr,P1,O2,B⟩:=B;let⟨P,g1,g2,g3,g4⟩:=u.lend (as:=.s i::as) a_.lk P1 (.s N A) O2;rw[Ji]
 show⟨I,Nr,P,_,_,u.g.s,u.E.tb,g1,g2,g3,B,λsm os o J v F ND r gr Nn y hn b_=>k sm _ o J v r (g4 sm os o J v F ND gr Nn y hn b_) (f1.trans gr.f)⟩⟩
noncomputable def xr(nm:Str)(z:eo)(l:di):TX:=λρ R c=>l ρ (xaD λds a=>z (.ob ŕ (.obj nm [])::ds.map Sm.v) (λsm os=>match sm,os with|.v .non,[o]=>R (.ob ŕ o) a|_,_=>False) (λ_ _=>False)) c
theorem uS{Φ H:Hp}:∀{ds:Y D}{vs:Y V},RpL K Φ ds vs->ArgM K Φ H (ds.map Sm.v) vs (ds.map λ_=>[])
 | [],[],_=>.nil
 | [],_::_,h=>by cases h.1
 |_::_,[],h=>by cases h.1
 |d::ds,v::vs,h=>.v (h.2 0 v d S S) (uS ⟨by have:=h.1;simpa using this,λi c d' a hd=>h.2 (i+1) c d' a hd⟩)
theorem uW{Φ H:Hp}:∀{ds:Y D}{vs:Y V}{os:Y Om}{a:Y (Y Addr)},OutM K Φ H (ds.map Sm.v) vs os a->os=[]/\a.flatten=[]
 | [],_,_,_,.nil=>⟨S,S⟩
 |_::ds,_,_,_,.v h=>by let⟨c,f⟩:=uW (ds:=ds) h;show⟨c,by rw[Jn,f];rfl⟩
theorem nv{a c:Type}:∀(ds:Y a),(ds.map λ_=>([]:Y c)).flatten=[]
 | []=>rfl
 |_::ds=>by rw[IQ,Jn,nv ds];rfl
theorem r6{n:Nat}{ps:Y Str}{z:eo}(M:MkM X.prog X.w K X.mg X.base n C ps z)(hr:Room (n+1) X.A)(hg:Gl X x)(hm:X.mg x=Z (.ref C))(hC:Ò K Á x=Z (Z (.ref C)))
  (ha:PXA K X (e::es) l) (he:starEach (e::es) X.env=(Ř,eval e X.env)::starEach es X.env) (Nw:(backTo g (starEach es X.env)).any (·.1)=Ř) (Oy:ab x:=by decide) :
  PX K X (.Call (.Name x p) (e::es) [] g) (xr x z l):=⟨λL=>by
 let⟨f,fd,F,b,mk⟩:=M.ex;refine (G6 (dvs:=[]) (ds:=[]) (E:=E0) (L▸mk) (L▸F:FnOk X.prog X.w X.K X.mg X.base aN n f fd ps (lSpM K z)) hr hg hm (L▸b) .nil jp (ha.pa L) Oy he Nw).imp λσ H Q MY=>?_;let⟨U,H0,Φ,τ,ρ,κ,R,Rx,a_,t,k⟩:=MY;refine⟨U,H0,Φ,τ,ρ,κ,_,Rx,a_,t,λas be J a vs ts T hl hv h f1=>?_⟩;let⟨ds,hd,T⟩:=T.get;have rl:=h.vals a_.lk hd hv;intro y A O B Nm;rw[Ji]
 have G:∀b u,a b=Z u->aq (aq a A (.own y)) y (.ins C A []) b=Z u:=λb u e=>by rw[aY (de e O),aY (de e B)];show e
 refine⟨J,_,_,_,_,λb u e=>G b u (h.g.s b u e),h.E.tb,.o (.obj hC bh .nil (by simp)) (uS rl),?_,λb N=>?_,T,λsm os I b_ v F ND r gr Nn ho hn N6=>?_⟩
 ·rw[Jn,nv];simp
 ·rw[Jn,nv,Ji,Iz]at N;rw[N];show h.g.s.free O
 ·split at r
  ·next o=>
   cases Nn with
   |v rv=>
    obtain rfl:=rv.n
    cases ho with
    |o Qw Oa=>
     rename_i F' ND;let⟨_,eF⟩:=uW Oa
     have P:(([y]:Y Addr)::ds.map λ_=>([]:Y Addr)).flatten=[y]:=by rw[Jn,nv];rfl
     rw[P]at gr N6
     have up:∀b u,a b=Z u->cn (aq (aq a A (.own y)) y (.ins C A [])) [y] b=Z u:=λb u e=>by rw[gO λz=>de e O (Iz.mp z)];show G b u e
     have g':Gr J a I b_:=⟨gr.f,λb u e=>gr.h b u (up b u e),gr.s,λb u h1 h2 k=>gr.o b u (up b u h1) h2 k⟩;refine⟨S,k _ be I b_ _ r ((h.pop a_.lk).pushO g' Qw λb N=>?_) (f1.trans gr.f)⟩;let⟨z1,z2⟩:=N6 b (by rw[Lj,Jn];show IZ.mpr (.inl N));refine⟨?_,z2⟩;by_cases c:b=y
     ·rw[c];show O
     ·rw[gO (by simpa using c),aY c]at z1;by_cases c2:b=A
      ·rw[c2];show B
      ·rwa [aY c2]at z1
  ·show r.elim⟩
end
section
variable{K:Â}{y H B Φ A:Hp}{w:St}{ρ:ak}{l:Nat->Y Addr}{F':Y Addr}{o o':Om}{p:Addr}{d:D}{v:V}{i:Nat}{a:Ŗ Addr}
theorem EnvM'.put2(E:EnvM' K y Φ H w ρ l)(L:ρ[i]?=Z (Z (.ob a o)))(a_:w[i]?=Z (Z (.ref p)))(P:∀b u,H b=Z u->b∉l i->B b=Z u)(U:OmS K Φ B o' p F')(O:∀b∈F',b∈l i\/(y b=ŕ/\Φ b=ŕ/\∀(j:Nat)(a':Ŗ Addr)(g:Om),ρ[j]?=Z (Z (.ob a' g))->b∉l j)) :
  EnvM' K y Φ B w (ρ.set i (Z (.ob a o'))) (λj=>if j=i then F' else l j):=by
 have Nb:=az L
 have J:∀{j:Nat}{x:Sm},(ρ.set i (Z (Sm.ob a o')))[j]?=Z (Z x)->(j=i/\x=.ob a o')\/(j≠i/\ρ[j]?=Z (Z x)):=λ{j x} h=>by
  rcases cX h with⟨e,_,T⟩|⟨e,h⟩
  ·cases T;show .inl ⟨e,S⟩
  ·show .inr ⟨e,h⟩
 have Q:∀b∈F',∀(j:Nat)(a':Ŗ Addr)(g:Om),ρ[j]?=Z (Z (.ob a' g))->j≠i->b∉l j:=λb f j a' g C c z=>by
  rcases O b f with h|⟨_,_,h⟩
  ·show E.dj j i a' a g o C L c b z h
  ·show h j a' g C z
 refine⟨λb u e=>P b u (E.fz b u e) λz=>?_,by rw[Iv,E.len],λj d h=>?_,λj a' g h=>?_,λj a' g h b f=>?_,λj k a1 a2 R g C F c b f I=>?_,E.tb⟩
 ·rw[(E.no i a o L b z).2]at e;cases e
 ·rcases J h with⟨_,h⟩|⟨_,h⟩
  ·cases h
  ·show E.sl j d h
 ·rcases J h with⟨c,h⟩|⟨c,h⟩
  ·cases h;subst c;let⟨q,e,N,_⟩:=E.ow j a o L;rw[a_]at e;cases e;show⟨p,a_,N,by rw[Iw S];show U⟩
  ·let⟨q,e,N,r⟩:=E.ow j a' g h;refine⟨q,e,N,?_⟩;rw[Ir c];show r.keep (Same.refl _) λb f u X=>P b u X λz=>E.dj j i a' a g o h L c b f z
 ·rcases J h with⟨c,h⟩|⟨c,h⟩
  ·rw[Iw c]at f;rcases O b f with z|⟨be,b_,_⟩
   ·show E.no i a o L b z
   ·show⟨be,b_⟩
  ·rw[Ir c]at f;show E.no j a' g h b f
 ·rcases J C with⟨M,C⟩|⟨M,C⟩
  ·rw[Iw M]at f;rcases J F with⟨G,F⟩|⟨G,F⟩
   ·omega
   ·rw[Ir G]at I;show Q b f k a2 g F G I
  ·rw[Ir M]at f;rcases J F with⟨G,F⟩|⟨G,F⟩
   ·rw[Iw G]at I;show Q b I j a1 R C M f
   ·rw[Ir G]at I;show E.dj j k a1 a2 R g C F c b f I
theorem EnvM.fsetL{nm f:Str}{fs:Y (Str×Fl)}{ds:Y D}{C:Addr}{a':Ŗ Addr}(E:EnvM K y Φ H (w++[Z v]) (ρ++[Z (.ob a' (.lst ds))]))(hl:ρ.length=w.length)(g:Gr A y Φ H)(X:Ò K Á nm=Z (Z (.ref C)))(J:ρ[i]?=Z (Z (.ob a (.obj nm fs))))(Q:fs.lookup f=ŕ):∃p F vs,w[i]?=Z (Z (.ref p))/\H p=Z (.ins C F vs)/\vs.length=fs.length /\
  EnvM K y Φ (aq H p (.ins C F (cS f v vs))) w (ρ.set i (Z (.ob a (.obj nm (df f (.l ds) fs)))))/\Gr A y Φ (aq H p (.ins C F (cS f v vs))):=by
 let⟨l,E⟩:=E
 have M:(ρ++[Z (Sm.ob a' (.lst ds))])[ρ.length]?=Z (Z (.ob a' (.lst ds))):=by rw[Im (Iu _),Je];rfl
 let⟨q,eq,_,rq⟩:=E.ow _ _ _ M
 have ev:v=.ref q:=by rw[hl,Im (Iu _),Je]at eq;cases eq;rfl
 subst ev;let⟨P,ws,q1,q2⟩:=rq.lst_inv
 have hq:q∈l ρ.length:=by rw[P];show Iz.mpr S
 have I:=E.no _ _ _ M q hq
 have up:∀{j:Nat}{x:Sm},ρ[j]?=Z (Z x)->(ρ++[Z (Sm.ob a' (.lst ds))])[j]?=Z (Z x):=λh=>by rw[Ip (az h)];show h
 have G:∀(j:Nat)(a2:Ŗ Addr)(R:Om),ρ[j]?=Z (Z (.ob a2 R))->q∉l j:=λj a2 R b_ z=>E.dj j ρ.length a2 a' R _ (up b_) M (by have:=az b_;omega) q z hq;have L:EnvM' K y Φ H w ρ l:=E.take hl;let⟨p,e,_,ro⟩:=L.ow i a _ J;let⟨C',F,vs,a_,O,T,c2,U,nd⟩:=ro.obj_inv;rw[X]at T;cases T
 have Sr:p∈l i:=by rw[O];show Iy
 have be:∀b u,H b=Z u->b∉l i->aq H p (.ins C F (cS f (.ref q) vs)) b=Z u:=λb u e hn=>by
  rw[aY λz=>hn (by rw[z];show Sr)];show e
 have PZ:=nd;rw[Jg]at PZ
 have UC:q∉p::a_:=by rw[←O];show G i a _ J
 have N:(p::(a_++[q])).Nodup:=by rw[←List.cons_append,JV];show⟨nd,by simp,λb r c Q z=>by rw[Iz.mp Q]at z;show UC (z▸r)⟩
 refine⟨p,F,vs,e,c2,U.len,⟨_,L.put2 J e be (F':=p::(a_++[q])) (.obj X bh ((U.setL Q q1 q2).keep (Same.refl _) λb r u hu=>?_) N) λb r=>?_⟩,L.grput g J be⟩
 ·rw[aY (show b≠p from λz=>?_)]
  ·show hu
  ·rw[Jg]at N;show N.1 (by rw[←z];show r)
 ·rw[←List.cons_append]at r;rcases IZ.mp r with r|r
  ·show .inl (by rw[O];show r)
  ·rw[Iz.mp r];show .inr ⟨I.1,I.2,G⟩
end
section
variable{K:Â}{X:Cx}{e a:Ã}{L:TX}{t:TD}{B A o J G:Ö}{x nm f:Str}{C:Addr}
noncomputable def xN(i:Nat)(nm f:Str)(L:TX):bG:=λg ρ=>L ρ (λs c=>match s with|.ob _ (.lst ds)=>(∃a fs,c[i]?=Z (Z (.ob a (.obj nm fs)))/\fs.lookup f=ŕ/\fs.length<1000/\NF (df f (.l ds) fs) λh=>g.nx (c.set i (Z (.ob a (.obj nm h)))))|_=>False) g.ex
theorem ij(i:Nat)(c:Cls K C)(nA:NoAttr K C f)(Q:Ò K Á nm=Z (Z (.ref C)))(T:PX K X e L)(R:X.N[i]?=Z x:=by rfl)(hv:cR X.env.scope x:=by nofun)(hd:ab x:=by decide)(F:fI x:=by decide)
  (b_:Î e (Z (.Attribute (.Name x A) f G)) B.line X.env=pure Ř:=by rfl):PSM K X (.Assign [.Attribute (.Name x A) f G] e B) (xN i nm f L):=
 ⟨λj=>(qQ (f:=f) (pv i R hv hd F) (T.pe j) b_).imp λE σ H I=>by
  let⟨l,z,Φ,ρ,w,g,V,t,k⟩:=I;refine⟨l,z,Φ,[],ρ,[],_,w.ex,dI g V k.ex,t,λs ρ1 u H1 v r h _=>?_⟩;split at r
  ·next a1 ds=>
   let⟨a0,NX,be,a_,U,r⟩:=r;let⟨p,M,vs,N,O,P,y,g'⟩:=EnvM.fsetL (f:=f) h.E h.l h.g Q be a_;show⟨_,N,p,C,M,vs,S,O,j▸c,j▸nA,by rw[P];show U,k.nx _ u _ σ r.get g' y⟩
  ·show r.elim⟩
noncomputable def yH:V->Y V->Hp->VK->Prop:=λx vs H Q=>∃(l:Addr)(xs:Y V)(ns:Y Int)(i:Int)(k:Nat),x=.ref l/\vs=[.int i]/\H l=Z (.lst xs)/\xs=ns.map V.int/\ns[k]?=Z i/\(∀m<k,ns[m]?≠Z i)/\Q .non (aq H l (.lst (xs.eraseIdx k)))
theorem Ga:ox X "list.remove" yH:=by
 intro be s σ H x vs v us Q I rx rv h;let⟨l,xs,ns,i,k,rfl,rfl,R,ex,a_,b_,q⟩:=h;cases rx;let⟨u,rfl,ru⟩:=rv.one;let⟨t,rfl⟩:=ru;let⟨z,c,n,r,T,e⟩:=I.lstM R;have Ss:k<ns.length:=az a_
 have p:∀(m:Nat)(y:Value),c[m]?=Z y->∃j t',ns[m]?=Z j/\y=.int j t':=λm y E=>by
  have g:m<xs.length:=by rw[T];show az E
  let⟨w,U,P⟩:=r.get (JK g);rw[E]at U;cases U
  have Qe:m<ns.length:=by rw[ex,Il]at g;show g
  have:xs[m]=V.int ns[m]:=by subst ex;simp
  rw[this]at P;let⟨t',rfl⟩:=P;show⟨_,t',JK Qe,S⟩
 have hsz:c.toArray.size=xs.length:=by rw[IG,T]
 have N:k<c.toArray.size:=by rw[hsz,ex,Il];show Ss
 refine KP F.slot_list_remove ⟨_,e,S⟩ F.entry_list_remove (F.args_list_remove_2 _ _)
  (MeetsSeq.list_remove l c.toArray n (.int i t) (λy=>match y with|.int j _=>j==i|_=>Ř) (λy E=>?_) k N ?_ (λm g Nb=>?_) (by rw[hsz];show z)) ⟨e,?_⟩
 ·rw[List.mem_toArray]at E;let⟨m,g⟩:=J0 E;let⟨j,t',_,rfl⟩:=p m y g;show ķ j i t' t
 ·let⟨j,t',M,O⟩:=p k _ (JK (by rw[IG]at N;show N));rw[a_]at M;cases M;change (match c.toArray[k]with|.int j _=>j==i|_=>Ř)=ŗ;rw[List.getElem_toArray,O];show Jj i
 ·let⟨j,t',M,O⟩:=p m _ (JK (by rw[IG]at g;show g));change (match c.toArray[m]with|.int j _=>j==i|_=>Ř)=Ř;rw[List.getElem_toArray,O];show LZ λz=>b_ m Nb (by rw[M,z])
 ·refine⟨.non,_,I.lset (Ng:=c.eraseIdx k) R e ?_ (r.eraseIdx k) ?_,S,q⟩
  ·change c.toArray.eraseIdxIfInBounds k=(c.eraseIdx k).toArray;rw[KY]
  ·have:=pI xs k;omega
theorem mQ{c g:Type}(f:c->g):∀(ns:Y c)(m:Nat),(ns.map f).eraseIdx m=(ns.eraseIdx m).map f
 | [],_=>rfl
 |_::_,0=>rfl
 |n::ns,m+1=>by change f n::(ns.map f).eraseIdx m=f n::(ns.eraseIdx m).map f;rw[mQ f ns m]
theorem tM{Φ:Hp}:∀{ns:Y Int}{vs:Y V},RpL K Φ (ns.map D.int) vs->vs=ns.map V.int
 | [],[],_=>rfl
 | [],_::_,h=>by cases h.1
 |_::_,[],h=>by cases h.1
 |n::ns,v::vs,h=>by have c:=h.2 0 v (.int n) S S;obtain rfl:=c.i;rw[tM (ns:=ns) (vs:=vs) ⟨by have:=h.1;simpa using this,λi j d' g hd=>h.2 (i+1) j d' g hd⟩];rfl
noncomputable def Ag(i:Nat)(nm f:Str)(t:TD):bG:=λc ρ=>mz ρ i nm f λa fs ds=>t (eU ρ) λd=>∃(ns:Y Int)(j:Int)(k:Nat),d=.int j/\ds=ns.map D.int/\ns[k]?=Z j/\(∀m<k,ns[m]?≠Z j)/\NF (df f (.l ((ns.eraseIdx k).map D.int)) fs) λg=>c.nx (ρ.set i (Z (.ob a (.obj nm g))))
theorem G9(i:Nat)(c:Cls K C)(nA:NoAttr K C f)(T:Ò K Á nm=Z (Z (.ref C)))(he:PD K X e t)(Oc:((backTo J (starEach [e] X.env)).all (λx=>!x.1)&&(â J (Õ [] X.env)).all (λx=>x.1.isSome)&&decide (([e]:Y Ã).length+([]:Y Ü).length+(if ([]:Y Ü).isEmpty then 0 else 1)<30))=ŗ)
  (y:starEach [e] X.env=(Ř,eval e X.env)::starEach [] X.env) (hN:X.N[i]?=Z x:=by rfl) (h:cR X.env.scope x:=by nofun) (hd:ab x:=by decide) (M9:fI x:=by decide)
  (Qd:Ë (.Name x A) f X.env (eval (.Name x A) X.env)=eval (.Name x A) X.env:=by rfl)
  (Nk:Ë (.Attribute (.Name x A) f G) "remove" X.env (eval (.Attribute (.Name x A) f G) X.env)=eval (.Attribute (.Name x A) f G) X.env:=by rfl) (Nl:(o.endLine==J.line)=ŗ:=by rfl) (hs:Î (.Call (.Attribute (.Attribute (.Name x A) f G) "remove" o) [e] [] J) ŕ B.line X.env=pure Ř:=by rfl) :
  PSM K X (.Expr (.Call (.Attribute (.Attribute (.Name x A) f G) "remove" o) [e] [] J) B) (Ag i nm f t):=
 ⟨λU=>(kM (kt J8 PySem.F.slot_list_remove PySem.F.type_list_remove Ga (kg U (pv i hN h hd M9) Qd) (eY (he.pe U) pa_nil y) Nk Oc Nl y ae) hs).imp λE σ H MY=>by
  let⟨Φ0,H0,Φ,ρ,De,g,V,⟨a0,NX,UX,b_,be,t⟩,k⟩:=MY;have a_:=dI g V k.ex;let⟨p,dx,vs,q,ws,N,Q,R,h3,rl,_⟩:=a_.flist T b_ be;let⟨fp,E0⟩:=id V;refine⟨_,N,p,C,dx,vs,.ref q,S,Q,c,nA,R,.inl ⟨S,ws,SqL.of h3⟩,H0,_,eU ρ,_,E0.view,t,λd l H1 v r P rv=>?_⟩;let⟨ns,j,m,rfl,rfl,hm,N6,r⟩:=r;obtain rfl:=rv.i;have S1:=a_.gr (i9 E0.fz P);let⟨p',UY,UZ,q',u,z,w,F,Qt,Qg,k1⟩:=S1.flist T b_ be;rw[N]at z;cases z;rw[P.h _ _ Q]at w;cases w;rw[R]at F;cases F;have O:=tM Qg
  have rE:RpL K (fW Φ l) ((ns.eraseIdx m).map D.int) (u.eraseIdx m):=by
   rw[O];have:(ns.map L2.V.int).eraseIdx m=(ns.eraseIdx m).map L2.V.int:=mQ _ ns m;rw[this];refine⟨by simp,λi v d h hd=>?_⟩;rw[IE]at h hd
   cases M:(ns.eraseIdx m)[i]? with
   |none=>rw[M]at h;cases h
   |some n=>rw[M]at h hd;cases h;cases hd;show .int n
  have I:=k1 _ _ rE
  show⟨q,u,ns,j,m,S,S,Qt,O,hm,N6,k.nx _ _ _ σ r.get I.g I.env⟩⟩
end
section
variable{K:Â}{B H Φ A:Hp}{F:St}{ρ:ak}{w:Nat->Y Addr}{a:Ŗ Addr}{nm:Str}{fs:Y (Str×Fl)}{ds:Y (Str×D)}{k:Nat}
theorem EnvM'.fzO(E:EnvM' K B Φ H F ρ w)(g:Gr A B Φ H)(M:ρ[k]?=Z (Z (.ob a (.obj nm fs))))(b_:eV fs=Z ds):∃p f,F[k]?=Z (Z (.ref p))/\(∀q,a=Z q->q=p)/\Rp K f (.obj nm ds) (.ref p)/\Gr A B f H/\Same Φ f/\EnvM' K B f H F (ρ.set k (Z (.v (.obj nm ds)))) w:=by
 let⟨p,J,be,r⟩:=E.ow k a _ M;let⟨C,dx,vs,qs,P,T,U,X,_⟩:=r.obj_inv;have G:Same Φ (en Φ H (w k)):=view_same;have N:∀b∈w k,∀u,H b=Z u->en Φ H (w k) b=Z u:=λb y u hu=>vT y hu E.fz;let⟨k1,k2⟩:=ud b_ X G λb y=>N b (by rw[P];show IC _ y);have Q:Rp K (en Φ H (w k)) (.obj nm ds) (.ref p):=.obj T (N p (by rw[P];show Iy) _ U) k1 k2
 have R:∀{b:Addr},Φ b=ŕ->b∉w k->en Φ H (w k) b=ŕ:=λ{b} l I=>by
  cases e:en Φ H (w k) b with
  |none=>rfl
  |some u=>
   rcases qx e with z|⟨z,_⟩
   ·rw[l]at z;cases z
   ·show absurd z I
 have O:∀{j:Nat}{x:Sm},(ρ.set k (Z (Sm.v (.obj nm ds))))[j]?=Z (Z x)->(j=k/\x=.v (.obj nm ds))\/(j≠k/\ρ[j]?=Z (Z x)):=λ{j x} h=>by
  rcases cX h with⟨e,_,J⟩|⟨e,h⟩
  ·cases J;show .inl ⟨e,S⟩
  ·show .inr ⟨e,h⟩
 have L:∀{j:Nat}{a':Ŗ Addr}{o:Om},(ρ.set k (Z (Sm.v (.obj nm ds))))[j]?=Z (Z (.ob a' o))->j≠k/\ρ[j]?=Z (Z (.ob a' o)):=λ{j a' o} h=>by
  rcases O h with⟨_,z⟩|z
  ·cases z
  ·show z
 refine⟨p,_,J,be,Q,⟨g.f.trans G,g.h,qd E.fz,λb u l I kk=>R (g.o b u l I kk) λz=>by rw[(E.no k a _ M b z).1]at l;cases l⟩,G,?_⟩;refine⟨qd E.fz,by rw[Iv,E.len],λj d h=>?_,λj a' o h=>?_,λj a' o h b y=>?_,λj j2 a1 a2 o1 o2 l I c=>E.dj j j2 a1 a2 o1 o2 (L l).2 (L I).2 c,E.tb.same G⟩
 ·rcases O h with⟨c,z⟩|⟨c,z⟩
  ·cases z;subst c;show⟨_,J,Q⟩
  ·let⟨v,e,r⟩:=E.sl j d z;show⟨v,e,r.same G⟩
 ·let⟨c,z⟩:=L h;let⟨q,e,a_,r'⟩:=E.ow j a' o z;show⟨q,e,a_,r'.keep G λ_ _ _ h=>h⟩
 ·let⟨c,z⟩:=L h;show⟨(E.no j a' o z b y).1,R (E.no j a' o z b y).2 (E.dj j k a' a o _ z M c b y)⟩
theorem FlsR.setA{vs:Y (Str×V)}{z:Y Addr}{f:Str}{p:Addr}{d:D}(h:FlsR K Φ H fs vs z)(j:fs.lookup f=Z (.al p))(r:Rp K Φ d (.ref p)):FlsR K Φ H (df f (.v d) fs) vs z:=by
 induction h with
 |nil=>cases j
 |v E t o=>
  rename_i g C J u x y;rw[Jc]at j
  cases c:f==g with
  |true=>rw[c]at j;cases j
  |false=>
   rw[c]at j;change FlsR K Φ H (if g=f then _ else _) _ _;rw[Ir λe=>by rw[e,Jj]at c;cases c];show .v E (o j)
 |l a1 a2 t o=>
  rename_i g C L I u x y;rw[Jc]at j
  cases c:f==g with
  |true=>rw[c]at j;cases j
  |false=>
   rw[c]at j;change FlsR K Φ H (if g=f then _ else _) _ _;rw[Ir λe=>by rw[e,Jj]at c;cases c];show .l a1 a2 (o j)
 |al t o=>
  rename_i g G u x y;rw[Jc]at j
  cases c:f==g with
  |true=>
   rw[c]at j;cases j;change FlsR K Φ H (if g=f then _ else _) _ _;rw[Iw (eq_of_beq c).symm];show .v r t
  |false=>
   rw[c]at j;change FlsR K Φ H (if g=f then _ else _) _ _;rw[Ir λe=>by rw[e,Jj]at c;cases c];show .al (o j)
theorem FlsR.newA{vs:Y (Str×V)}{G:Y Addr}{f:Str}{p:Addr}(h:FlsR K Φ H fs vs G)(o:fs.lookup f=ŕ):FlsR K Φ H (df f (.al p) fs) (cS f (.ref p) vs) G:=by
 have j:∀{g:Str}{y:Fl}{r:Y (Str×Fl)},List.lookup f ((g,y)::r)=ŕ->g≠f/\r.lookup f=ŕ:=λ{g y r} e=>by
  rw[Jc]at e
  cases c:f==g with
  |true=>rw[c]at e;cases e
  |false=>rw[c]at e;show⟨(λz=>by rw[z,Jj]at c;cases c),e⟩
 induction h with
 |nil=>show .al .nil
 |v J t u=>
  rename_i g I N x C E;let⟨c,o⟩:=j o;change FlsR K Φ H (if g=f then _ else _) (if g=f then _ else _) _;rw[Ir c,Ir c];show .v J (u o)
 |l a1 a2 t u=>
  rename_i g I O M x C E;let⟨c,o⟩:=j o;change FlsR K Φ H (if g=f then _ else _) (if g=f then _ else _) _;rw[Ir c,Ir c];show .l a1 a2 (u o)
 |al t u=>
  rename_i g L x C E;let⟨c,o⟩:=j o;change FlsR K Φ H (if g=f then _ else _) (if g=f then _ else _) _;rw[Ir c,Ir c];show .al (u o)
theorem EnvM.seal{j:Nat}{p:Addr}{l f:Str}{h:Y (Str×Fl)}(E:EnvM K B Φ H F ρ)(g:Gr A B Φ H)(v:j≠k)(O:ρ[k]?=Z (Z (.ob (Z p) (.obj nm fs))))(M:eV fs=Z ds)(N:ρ[j]?=Z (Z (.ob a (.obj l h))))(P:h.lookup f=Z (.al p)) :
  ∃c,Gr A B c H/\EnvM K B c H F ((ρ.set k (Z (.v (.obj nm ds)))).set j (Z (.ob a (.obj l (df f (.v (.obj nm ds)) h))))):=by
 let⟨w,E⟩:=E;let⟨X,c,U,J,a_,g',be,o⟩:=E.fzO g O M;cases J p S
 have r:(ρ.set k (Z (Sm.v (.obj nm ds))))[j]?=Z (Z (.ob a (.obj l h))):=by rw[IP (JD v)];show N
 let⟨q,G,_,R⟩:=o.ow j a _ r;let⟨C,T,vs,Q,I,x,y,z,nd⟩:=R.obj_inv;show⟨c,g',_,o.put r G (λb u e _=>e) (F':=q::Q) (.obj x y (z.setA P a_) nd) λb L=>.inl (by rw[I];show L)⟩
end
section
variable{K:Â}{X:Cx}{e a:Ã}{es:Y Ã}{J:TX}{I:TD}{G:aX}{l O A L N p:Ö}{x y nm f m:Str}{C:Addr}{B:Y Ç}{t:bG}
noncomputable def DO(j k:Nat)(f:Str)(t:bG):bG:=λh ρ=>∃a p nm fs ds g c,ρ[k]?=Z (Z (.ob (Z p) (.obj nm fs)))/\eV fs=Z ds/\ρ[j]?=Z (Z (.ob a (.obj g c)))/\c.lookup f=Z (.al p)/\t h ((ρ.set k (Z (.v (.obj nm ds)))).set j (Z (.ob a (.obj g (df f (.v (.obj nm ds)) c)))))
theorem Dp(j k:Nat)(f:Str)(h:PSsM K X B t)(w:j≠k:=by decide):PSsM K X B (DO j k f t):=⟨λR=>(h.ps R).imp λE U H v=>by
 let⟨o,u,Φ,ρ,r,g,V,⟨a,p,nm,fs,ds,T,a_,F,M,P,Q,t⟩,k⟩:=v;let⟨c,g',z⟩:=V.seal g w F M P Q
 show⟨o,u,c,_,r,g',z,t,k⟩⟩
noncomputable def HC(i k:Nat)(nm f:Str):bG:=λc ρ=>∃a fs a' o,ρ[i]?=Z (Z (.ob a (.obj nm fs)))/\ρ[k]?=Z (Z (.ob a' o))/\fs.lookup f=ŕ/\fs.length<1000/\∀p,(∀q,a'=Z q->q=p)->NF (df f (.al p) fs) λg=>c.nx ((ρ.set k (Z (.ob (Z p) o))).set i (Z (.ob a (.obj nm g))))
theorem AF(i v:Nat)(c:Cls K C)(nA:NoAttr K C f)(hC:Ò K Á nm=Z (Z (.ref C)))(hN:X.N[i]?=Z x:=by rfl)(hv:cR X.env.scope x:=by nofun)(hd:ab x:=by decide)(M9:fI x:=by decide)
  (R:X.N[v]?=Z y:=by rfl) (be:cR X.env.scope y:=by nofun) (T:ab y:=by decide) (U2:fI y:=by decide) (F:i≠v:=by decide)
  (hs:Î (.Name y N) (Z (.Attribute (.Name x O) f L)) l.line X.env=pure Ř:=by rfl):PSM K X (.Assign [.Attribute (.Name x O) f L] (.Name y N) l) (HC i v nm f):=
 ⟨λhK=>(qQ (f:=f) (pv i hN hv hd M9) (pv v R be T U2) hs).imp λE σ H MY=>by
  let⟨Φ0,H0,Φ,ρ,De,g,⟨P,V⟩,⟨a,fs,a',o,U,b_,hc,hl,t⟩,k⟩:=MY;let⟨p,e,_,ro⟩:=V.ow i a _ U;let⟨q,M,So,ro2⟩:=V.ow _ a' _ b_;let⟨C',dx,vs,qs,eF,c1,c2,c3,nd⟩:=ro.obj_inv;rw[hC]at c1;cases c1
  have Sr:p∈P i:=by rw[eF];show Iy
  have hH:∀b u,H b=Z u->b∉P i->aq H p (.ins C dx (cS f (.ref q) vs)) b=Z u:=λb u e hn=>by
   rw[aY λz=>hn (by rw[z];show Sr)];show e
  have PZ:=nd;rw[Jg]at PZ;refine⟨_,M,_,e,p,C,dx,vs,S,c2,hK▸c,hK▸nA,by rw[c3.len];show hl,?_⟩;refine k.nx _ Φ _ σ (t q So).get (V.grput g U hH) ?_;have V2:=V.put U e hH (F':=p::qs) (o':=.obj nm (df f (.al q) fs)) (.obj hC bh ((c3.newA hc).keep (Same.refl _) λb a_ u hu=>by rw[aY (show b≠p from λz=>PZ.1 (by rw[←z];show a_))];show hu) nd) λb a_=>.inl (by rw[eF];show a_)
  have Q:(ρ.set i (Z (Sm.ob a (.obj nm (df f (.al q) fs)))))[v]?=Z (Z (Sm.ob a' o)):=by rw[IP F];show b_
  rw[List.set_comm _ _ (JD F)];let⟨fz,len,sl,ow,no,dj,tb⟩:=V2;refine⟨λj=>if j=i then p::qs else P j,fz,by rw[Iv,len],λj d h=>?_,λj a1 r h=>?_,λj a1 r h=>?_,λj j2 a1 a2 r o2 hj UO=>?_,tb⟩
  ·rcases cX h with⟨_,_,z⟩|⟨_,z⟩
   ·cases z
   ·show sl j d z
  ·rcases cX h with⟨w,_,z⟩|⟨_,z⟩
   ·cases z;subst w;let⟨q',e',_,r'⟩:=ow _ a' _ Q;rw[M]at e';cases e';show⟨q,M,(λ_ z=>by cases z;rfl),r'⟩
   ·show ow j a1 r z
  ·rcases cX h with⟨w,_,z⟩|⟨_,z⟩
   ·cases z;subst w;show no _ a' _ Q
   ·show no j a1 r z
  ·have up:∀{j:Nat}{a1:Ŗ Addr}{r:Om},((ρ.set i (Z (Sm.ob a (.obj nm (df f (.al q) fs))))).set v (Z (Sm.ob (Z q) o)))[j]?=Z (Z (.ob a1 r))->∃a3,(ρ.set i (Z (Sm.ob a (.obj nm (df f (.al q) fs)))))[j]?=Z (Z (.ob a3 r)):=λ{j a1 r} h=>by
    rcases cX h with⟨w,_,z⟩|⟨_,z⟩
    ·cases z;subst w;show⟨a',Q⟩
    ·show⟨a1,z⟩
   let⟨_,z1⟩:=up hj;let⟨_,z2⟩:=up UO
   show dj j j2 _ _ r o2 z1 z2⟩
noncomputable def BP(t:TX):TX:=λρ R g=>t ρ (λs c=>match s with|.ob _ (.obj nm fs)=>(∃ds,eV fs=Z ds/\R (.v (.obj nm ds)) c)|_=>False) g
theorem yw(h:PX K X e J):PX K X e (BP J):=⟨λb_=>(h.pe b_).imp λσ H Q M=>by
 let⟨u,z,Φ,τ,ρ,g,R,T,a_,t,k⟩:=M;refine⟨u,z,Φ,τ,ρ,g,_,T,a_,t,λs1 c Φ1 F v j o be=>?_⟩;split at j
 ·next a nm fs=>
  let⟨ds,hf,j⟩:=j;let⟨fp,E⟩:=o.E
  have P:(c++(g++[Z (Sm.ob a (.obj nm fs))]))[c.length+g.length]?=Z (Z (.ob a (.obj nm fs))):=by rw[←IJ,Im (by rw[Io];omega),Io,Je];rfl
  let⟨p,r,_,_,_,g',sf,w⟩:=E.fzO o.g P hf
  have U:(c++(g++[Z (Sm.ob a (.obj nm fs))])).set (c.length+g.length) (Z (.v (.obj nm ds)))=c++(g++[Z (.v (.obj nm ds))]):=by rw[K9 _ _ (),K9 _ _ (),show c.length+g.length-c.length-g.length=0 by omega];rfl
  rw[U]at w;show k _ c r F v j ⟨g',o.l,⟨_,w⟩,o.x⟩ (be.trans sf)
 ·show j.elim⟩
structure MthD(P:Å)(w:È)(K:Â)(mg:Str->Option Value)(base:Heap)(n:Nat)(C:Addr)(m:Str)(ps:List Str)(z:cB):Prop where
 ex:∃(f:Addr)(fd:Í),FnOk P w K mg base aN n f fd ps (lSp K z)/\Binds K fd ps []/\Meth K C m f
theorem sJ{Φ:Hp}{g:Str}:∀{vs:Y (Str×V)}{fs:Y (Str×D)},vs.map (·.1)=fs.map (·.1)->fs.lookup g=ŕ->vs.lookup g=ŕ
 | [],_,_,_=>rfl
 |_::_,[],h,_=>by cases h
 |(x,v)::vs,(y,f)::fs,h,j=>by
  rw[IQ,IQ]at h;let⟨o,r⟩:=LG h;have o:x=y:=o;subst o;rw[Jc]at j ⊢
  cases c:g==x with
  |true=>rw[c]at j;cases j
  |false=>rw[c]at j;show sJ (Φ:=Φ) r j
noncomputable def CL(nm m:Str)(z:cB)(I:TD)(G:aX):TD:=λρ R=>I ρ λx=>match x with|.obj Sa fs=>Sa=nm/\fs.lookup m=ŕ/\G ρ λds=>z (.obj Sa fs::ds) R|_=>False
theorem rc{n:Nat}{ps:Y Str}{z:cB}{pl:Sem Bool}(M:MthD X.prog X.w K X.mg X.base n C m ps z)(hr:Room n X.A)(c:Cls K C)(hC:Ò K Á nm=Z (Z (.ref C)))
  (hx:PD K X a I) (ha:PAD K X (e::es) G) (he:starEach (e::es) X.env=(Ř,eval e X.env)::starEach es X.env) (Nw:(backTo l (starEach es X.env)).any (·.1)=Ř)
  (ht:eval (.Call (.Attribute a m A) (e::es) [] l) X.env=(do
   let ov ←eval a X.env
   standAt A.atName
   let (f,first) ←holding [ov] (getMethod ov m pl)
   callWith l f first (backTo l (starEach (e::es) X.env)) (â l (Õ [] X.env))):=by rfl) :
  PD K X (.Call (.Attribute a m A) (e::es) [] l) (CL nm m z I G):=⟨λh=>by
 let⟨f,fd,F,b,hm⟩:=M.ex;refine (tH (dvs:=[]) (ds:=[]) (E:=E0) (pl:=pl) (hx.pe h) (h▸c) (h▸hm) (h▸F:FnOk X.prog X.w X.K X.mg X.base aN n f fd ps (lSp K z)) hr (h▸b) .nil jp (ha.pa h) he Nw ht).imp λσ H Q MY=>?_;let⟨U,Φ,ρ,R,E,t,k⟩:=MY;refine⟨U,Φ,ρ,_,E,t,λd j H1 v r g w=>?_⟩
 cases d with
 |obj Sa fs=>
  let⟨rfl,hl,r⟩:=r;have P:=w
  cases w with
  |obj be h1 h2 h3=>
   rw[hC]at be;cases be;refine⟨_,_,_,S,g.s _ _ h1,sJ (Φ:=j) h2 hl,U,j,ρ,_,E.gr g,r,λds T H2 vs r2 o rl _=>?_⟩;refine⟨T,_::ds,R,o.s,(E.tb.same g.f).same o.f,?_,r2,λd a_ H' v rd g' w=>k d a_ H' v rd ((g.trans o).trans g') w⟩;rw[Ji];refine⟨by rw[IH,IH,rl.1],λi u d b_ hd=>?_⟩
   cases i with
   |zero=>cases b_;cases hd;show P.same o.f
   |succ i=>show rl.2 i u d b_ hd
 |_=>show r.elim⟩
end
noncomputable def qM(K:Â)(a:Addr)(n:Nat):It:=
 ⟨λi H=>i<n/\∃xs,SqL K H a xs/\xs.length=n,λi H x c=>c=H/\∀xs,SqL K H a xs->xs[n-1-i]?=Z x,λi H=>i=n⟩
theorem GB{P:Å}{w:È}{K:Â}{tg:Ã}(a j:Addr)(n:Nat):Turn P w K tg (qM K a n) [j] j (λi h=>h.IsRevIter j a ((n:Int)-1-(i:Int))) where
 mem:=by simp
 obj:=λi h st b g=>by
  have e:b=j:=by simpa using g
  subst e;let⟨o,e,c,d⟩:=st;show⟨o,e,λv z=>by rw[d]at z;cases z⟩
 keep:=λi h h' st k=>st.at λo e=>k j (by simp) o e
 item:=by
  intro X M N L O i f s a_ H E I r st l;subst M N L;let⟨hi,xs,Q,hn⟩:=l;let⟨MZ,rv,p,hz⟩:=I.list Q;have R:xs[n-1-i]?=Z (xs[n-1-i]'()):=JK ();let⟨u,hu,ru⟩:=rv.get R;let⟨B,C,b_,F,G,J⟩:=r j (by simp)
  have A:(n:Int)-1-(i:Int)=((n-1-i:Nat):Int):=by omega
  have U:((n-1-i:Nat):Int)-1=(n:Int)-1-((i+1:Nat):Int):=by omega
  have dI:=st;rw[A]at dI;refine wpAny_pyNext_rev_item dI p.isList (x:=u) (by simpa using hu) λh' y sb=>?_;rw[U]at y;have T:Inv X f a_ H { s with heap:=h' }:=I.turned (t':=s.toks) (λb o g e=>(sb.2 b g).trans e) B C F G J;let⟨o,e,c,d⟩:=id y;show⟨u,S,mK (s:={ s with heap:=h' }) e c d 'b' ⟨_,H,T,ru,⟨S,λys hy=>by rw[I.list_inj hy Q];show R⟩,y,λb g=>(r b g).1⟩⟩
 done:=by
  intro X M N L O i f s a_ H E I r st l;subst M N L;have l:i=n:=l;subst l;let⟨B,C,b_,F,G,J⟩:=r j (by simp)
  have A:(i:Int)-1-(i:Int) = -1:=by omega
  rw[A]at st;show wpAny_pyNext_rev_end (I.ok.hd O) st λh' be=>⟨S,I.turned (t':=s.toks) (λb o g e=>be b o g e) B C F G J⟩
 self:=λ_ _ _ _ _ st h=>Ĵ st h
section
variable{K:Â}{X:Cx}{f a:Ã}{c p:Ö}
noncomputable def uT(K:Â)(g:TA):TI:=λh H R=>g h H λvs e=>∃l xs,vs=[.ref l]/\SqL K e l xs/\R (qM K l xs.length) e
theorem C8{x:TA}(C:Gl X "reversed")(E:X.mg "reversed"=ŕ)(A:PA X [a] x)(G:starEach [a] X.env=[(Ř,eval a X.env)]):PI X f (.Call (.Name "reversed" p) [a] [] c) (uT X.K x):=by
 intro j s N H R I h;refine Call_ (ir I C E boot_reversed (JM (aI (A c j s N H _ I h) λus g z=>?_) G S));let⟨vs,y,u,L,J⟩:=z;let⟨l,xs,e,F,q⟩:=J;subst e
 cases L with
 |cons r rr=>
  cases rr;cases r;let⟨v,M,p,O⟩:=u.list F;refine call_reversed_list p.isList ?_;have w:(g.heap.push (revObj l ((v.toArray.size:Int)-1))).IsRevIter g.heap.objs.size l ((v.toArray.size:Int)-1):=⟨_,IM _ S,S,S⟩;refine Ĵ (s:={ g with heap:=g.heap.push (revObj l ((v.toArray.size:Int)-1)) }) w ?_;refine⟨g.heap.objs.size,[g.heap.objs.size],_,_,y,S,u.kept (t':=g.toks) λb o e=>IA _ e,GB l _ xs.length,?_,λb B=>?_,q⟩
  ·have e:((v.toArray.size:Nat):Int)-1=(xs.length:Int)-1-((0:Nat):Int):=by rw[IG,←M.length];omega
   rw[e]at w;rw[e];show w
  ·have e:b=g.heap.objs.size:=by simpa using B
   subst e;show u.fpOk (Iu _) (u.hok.fresh (Iu _))
theorem C1{e:TA}(h:X.K=K)(j:Gl X "reversed")(l:X.mg "reversed"=ŕ)(g:PA X [a] e)(o:starEach [a] X.env=[(Ř,eval a X.env)]):PI X f (.Call (.Name "reversed" p) [a] [] c) (uT K e):=h▸C8 j l g o
theorem Fu{Φ:Hp}{ds:Y D}{vs:Y V}{l:Addr}(h:SqL K Φ l vs)(r:RpL K Φ ds vs):SteadyD K (qM K l vs.length) Φ ds.reverse:=
 ⟨λi H s g=>⟨by rw[r.1];simpa using g,vs,s.seq h,S⟩,λi j H x u d o s hd y=>by
  let⟨e,y⟩:=y;subst e
  have g:i<ds.length:=by have:=az hd;simpa using this
  rw[List.getElem?_reverse g]at hd;have:=y vs ((o.trans s).seq h);rw[r.1]at this
  show⟨j,.refl s,(r.2 _ x d this hd).same o⟩,λH s=>by
  change ds.reverse.length=vs.length
  rw[L3,r.1]⟩
noncomputable def GF(t:aX):aX:=λρ R=>t ρ λds=>match ds with| [d]=>(match d with|.lst xs=>R xs.reverse|_=>False)|_=>False
theorem xP{t:aX}(z:Gl X "reversed")(A:X.mg "reversed"=ŕ)(h:PAD K X [a] t)(B:starEach [a] X.env=[(Ř,eval a X.env)]:=by rfl):PID K X f (.Call (.Name "reversed" p) [a] [] c) (GF t):=⟨λl=>(C1 l z A (h.pa l) B).imp λI H F w=>by
 let⟨o,Φ,ρ,R,E,t,k⟩:=w
 show⟨o,Φ,ρ,_,E,t,λds e u vs r g rl G=>by
  match ds,r with
  | [],r=>show r.elim
  |_::_::_,r=>show r.elim
  | [d],r=>
   let⟨v,rfl,C⟩:=rl.one_inv
   cases d with
   |lst xs=>
    cases C with
    |lst j x y=>show⟨_,_,S,.of (g.s _ _ j),k _ e u _ r g (Fu (.of j) ⟨x,y⟩)⟩
   |_=>show r.elim⟩⟩
end
section
variable{P:Å}{w:È}{K:Â}{mg:Str->Ŗ Value}{base:Heap}{n m:Nat}{C:Addr}{x:Str}{ps:Y Str}
theorem MthM.mono{z:eo}(M:MthM P w K mg base n C x ps z)(k:n<=m:=by decide):MthM P w K mg base m C x ps z:=by let⟨f,a,F,r⟩:=M.ex;show⟨f,a,F.mono k,r⟩
theorem MkM.mono{z:eo}(M:MkM P w K mg base n C ps z)(k:n<=m:=by decide):MkM P w K mg base m C ps z:=by let⟨f,a,F,r⟩:=M.ex;show⟨f,a,F.mono k,r⟩
theorem MthD.mono{z:cB}(M:MthD P w K mg base n C x ps z)(k:n<=m:=by decide):MthD P w K mg base m C x ps z:=by let⟨f,a,F,r⟩:=M.ex;show⟨f,a,F.mono k,r⟩
end
section
variable{K:Â}{X:Cx}{l a e:Ã}{c:Y Ã}{scope:ß}{f z A:Ö}{N':Y Str}{cap:Y (Ŗ Nat)}{j:aX}{g:dH}{u:cw}{o:TD}{i:Nat}{y:Str}{C:Addr}
theorem Fm{tf:aX}{E:Ends}{B:St}{H:Hp}(x:∀{B:St}{H:Hp}{Q:VK},lF K tf B H Q->gC (lI K j) cap (lG K g) (lT K u) (lE K o) B H Q)(h:lM K X (jl i (qY tf)) E B H):iR (gC (lI K j) cap (lG K g) (lT K u) (lE K o)) (ig i) E B H:=by
 let⟨b_,M,Φ,ρ,De,gg,V,t,be⟩:=h;let⟨fp,I⟩:=id V;refine x ⟨M,_,eU ρ,_,I.view,t,λds G N p vs r J T F a_ rl=>?_⟩;have g':=i9 I.fz J;have L:=view_same.trans J.f
 have O:fW Φ G p=ŕ:=by
  unfold fW
  cases P:Φ p with
  |some w=>rw[L _ _ P]at F;cases F
  |none=>simp only;rw[F]
 show be.nx _ _ N _ r.2 (gg.trans g') ((V.snocO gg.h g' (.lst a_ ⟨rl.1,λi v d U hd=>(rl.2 i v d U hd).thawN L (r.1 d (ID hd))⟩) λb R=>by rw[Iz.mp R];show⟨T,O⟩).store i)
theorem CC{k:Nat}(B:X.calm=ŗ)(G:X.N.Nodup)(Q:X.N[i]?=Z y)(P:dO X.env.scope y)(U:CompScope X.N X.env.scope scope N' cap)(E:fP k cap=ŗ)(M:GM k g)(L:PID K X l a j)
  (J:∀(cl:Y (Str×Addr))(r:Y Addr)(C:Addr)(v:À)(p:Hp),PGD K (bV X scope N' cl C v p r) l g) (O:∀(cl:Y (Str×Addr))(r:Y Addr)(C:Addr)(v:À)(p:Hp),PIfD K (bV X scope N' cl C v p r) c u)
  (H:∀(cl:Y (Str×Addr))(r:Y Addr)(C:Addr)(v:À)(p:Hp),PD K (bV X scope N' cl C v p r) e o) (F:Î (.ListComp e [⟨l,a,c,0⟩] scope f) (Z (.Name y z)) A.line X.env=pure ŗ:=by rfl)
  (N:∀x,Ê a X.env x=pure x:=by intro _;rfl) (I:X.fn y=ŗ\/X.env.scope.names.lookup y=Z .local:=by nofun) :
  PSM K X (.Assign [.Name y z] (.ListComp e [⟨l,a,c,0⟩] scope f) A) (jl i (qY (lP j cap g u o))):=
 ⟨λw=>(kG B G Q P U (L.pi w) (λcl r C v p=>(J cl r C v p).pg w) (λcl r C v p=>(O cl r C v p).p w) (λcl r C v p=>(H cl r C v p).pe w) F N I).imp λ_ _ _ h=>Fm (λq=>qe E M q) h⟩
end
section
variable{K:Â}{X:Cx}{a b:Ã}{f p A B:Ö}{z:aX}
noncomputable def Dk(e:TA):TE:=λg H Q=>e g H λvs c=>∃i j:Int,vs=[.int i,.int j]/\∀r,c r=ŕ->Q (.ref r) (aq c r (.rng i j))
theorem C2{v:TA}(y:Gl X "range")(C:X.mg "range"=ŕ)(x:PA X [a,b] v)(E:starEach [a,b] X.env=[(Ř,eval a X.env),(Ř,eval b X.env)]:=by rfl)(u:starEach [b] X.env=[(Ř,eval b X.env)]:=by rfl):PE X (.Call (.Name "range" p) [a,b] [] f) (Dk v):=by
 intro c s L H R I h;refine Call_ (ir I y C boot_range (JM (aI (x f c s L H _ I h) λus g w=>?_) (by rw[E,u]) (by rw[u];rfl)));let⟨vs,M,l,G,F⟩:=w;let⟨i,j,e,q⟩:=F;subst e
 cases G with
 |cons r rr=>
  cases rr with
  |cons J rr=>
   cases rr;let⟨t,rfl⟩:=r;let⟨N,rfl⟩:=J;refine call_range_2 ⟨.ref g.heap.objs.size,_,l.laid (a:=g.heap.objs.size) (o:=.rng i j) (t':=g.toks+1) (λb o e=>IA _ e) (Iu _) ⟨_,_,_,IM _ S⟩,S,q _ (l.hok.fresh (Iu _))⟩
noncomputable def hJ(lo:Int)(n:Nat):Y V:=(List.range n).map λi=>V.int (lo+(i:Nat))
theorem lJ(lo:Int)(n:Nat):(hJ lo n).length=n:=by unfold hJ;simp
theorem sq{lo:Int}{n i:Nat}{v:V}(h:(hJ lo n)[i]?=Z v):v=.int (lo+(i:Nat)):=by
 have c:i<n:=by have:=az h;rwa [lJ]at this
 unfold hJ at h;rw[IE,Jr c]at h;cases h;rfl
theorem AU{Φ:Hp}(lo:Int)(n:Nat):RpL K Φ (cY lo n) (hJ lo n):=⟨by rw[lJ,gA],λi v d c hd=>by
 rw[sq c,(ia hd).2]
 show .int _⟩
theorem yc(G:X.calm=ŗ):eg X (.type "list") (λxs H Q=>∃p i j,xs=[.ref p]/\H p=Z (.rng i j)/\(-(2^62)<=i/\i<2^62/\-(2^62)<=j/\j<2^62)/\j-i<=1000/\∀l,H l=ŕ->Q (.ref l) (aq H l (.lst (hJ i (j-i).toNat)))):=by
 intro w s σ H xs us Q I r h;let⟨p,i,j,rfl,N,⟨a_,T,U,be⟩,jj,q⟩:=h;let⟨u,rfl,b_⟩:=hZ r;cases b_;let⟨t,u,v,M⟩:=(show ObjOk X.prog X.w H s.heap p (.rng i j)from I.hok p _ N)
 have L:Builtin.Range.rangeSize i j 1=((j-i).toNat:Int):=by rw[Ę];split<;>omega
 refine œ (I.ok.hd G) M (ō a_ T U be) L () λh' E g c kp J C=>?_
 have O:Vals (hJ i (j-i).toNat) g.toList:=qC (by rw[lJ,J2,C.1]) λk x y P R=>by rw[sq P];let⟨t,rfl⟩:=C.2 k y (by simpa using R);show⟨t,by simp⟩
 have F:Inv X w σ (aq H s.heap.objs.size (.lst (hJ i (j-i).toNat))) { s with heap:=h',toks:=E }:=
  I.laid (t':=E) (λb o e=>kp b o e) (Iu _) (show ObjOk X.prog X.w _ _ _ (.lst (hJ i (j-i).toNat))from ⟨by rw[lJ,LA];omega,g.toList,c,O,by simpa using J⟩)
 show⟨.ref s.heap.objs.size,_,F,S,q _ (I.hok.fresh (Iu _))⟩
noncomputable def Ck(t:aX):aX:=λρ R=>t ρ λds=>match ds with| [.int i,.int j]=>((-(2^62)<=i/\i<2^62/\-(2^62)<=j/\j<2^62)/\j-i<=1000)/\R (cY i (j-i).toNat)|_=>False
theorem Ge(u:X.calm=ŗ)(L:Gl X "list")(J:X.mg "list"=ŕ)(I:Gl X "range")(F:X.mg "range"=ŕ)(O:PAD K X [a,b] z)(P:starEach [a,b] X.env=[(Ř,eval a X.env),(Ř,eval b X.env)]:=by rfl)(y:starEach [b] X.env=[(Ř,eval b X.env)]:=by rfl) :
  PF K X (.Call (.Name "list" p) [.Call (.Name "range" A) [a,b] [] B] [] f) (Ck z):=
 ⟨λN=>(le (yc u) L J Ġ (eY (C2 I F (O.pa N) P y) pa_nil bj) 'b' 'b' bj ae).imp λb_ H Q x=>by
  let⟨h,Φ,ρ,R,E,t,k⟩:=x
  show⟨h,Φ,ρ,_,E,t,λds be o vs r g rl _=>by
   match ds,r with
   | [.int i,.int j],r=>
    let⟨v,w,rfl,T,U⟩:=rl.two_inv;obtain rfl:=T.i;obtain rfl:=U.i;refine⟨i,j,S,λa_ G=>⟨a_,i,j,S,bh,r.1.1,r.1.2,λl e=>?_⟩⟩;have c:=Gr.fresh g.s G (.rng i j);have M:=Gr.fresh c.s e (.lst (hJ i (j-i).toNat));have C:o l=ŕ:=c.h.free e
    show k _ _ _ l _ r.2 ((g.trans c).trans M) (g.h.free C) (c.s.free e) bh (AU _ _)⟩⟩
end
section
variable{K:Â}{X:Cx}
noncomputable def Es:da:=λx y R=>match x with
 |.int i=>(match y with|.int j=>R (.bl (i==j))|.non=>R (.bl Ř)|_=>False)
 |_=>False
theorem zh(z:X.A.units+64<å):OpD K X (É .Eq) Es:=⟨λw c s A H x y u v Q I o e f=>by
 let⟨Φ,r,g,R,sm,l,a,h,k⟩:=f;let⟨i,rfl,h⟩:=iJ h;cases l.int;let⟨t,rfl⟩:=o
 cases g with
 |int j=>
  cases a.int;let⟨p,rfl⟩:=e;show (PySem.SeqAt.RcAt.int_int i t j p) X.prog X.w _ _ ⟨.bl (i==j),H,I,S,k _ Φ H _ h (.refl sm) (.bl _)⟩
 |non=>
  cases a.non;cases e;show (PySem.SeqAt.RcAt.int_none i t) X.prog X.w _ _ ⟨.bl Ř,H,I,S,k _ Φ H _ h (.refl sm) (.bl _)⟩
 |_=>show h.elim⟩
end
section
variable{K:Â}{X:Cx}{e:Ã}{c:TD}{f h:Ö}{x:Str}
noncomputable def Hk(i:Nat)(c:TD):TX:=λρ R _=>ownT ρ i λ_ _=>c (dR ρ) λd=>∃a:Y aD,d=.tup (a.map gF)/\ownT ρ i λ_ g=>∃y,bH g a=Z y/\R (.v y) ρ
theorem zA(i:Nat)(hu:X.A.units+64<å)(M:PD K X e c)(P:qG e)(L:X.N[i]?=Z x:=by rfl)(T:cR X.env.scope x:=by nofun)(hd:ab x:=by decide)(E:fI x:=by decide) :
  PX K X (.Subscript (.Name x h) e f) (Hk i c):=
 ⟨λJ=>(BM () (pv i L T hd E) (M.pe J) P).imp λσ H Q F=>by
  let⟨Φ0,B,Φ,τ,ρ,κ,R,Rx,a_,t,k⟩:=F;let⟨a,M0,z,t⟩:=ownT.get t;let⟨q,ws,G,O,l,_⟩:=a_.env.dictT a_.g z;refine⟨_,G,B,Φ,dR ρ,_,a_.env.toD,t,λd o C v r g b_=>?_⟩;let⟨U,rfl,r⟩:=r;let⟨a2,UW,u,y,A,r⟩:=ownT.get r;rw[z]at u;cases u;let⟨p,rfl,N⟩:=oM b_;rcases pd l U with⟨j,_⟩|⟨d,w,j,I,be⟩
  ·rw[A]at j;cases j
  ·rw[A]at j;cases j
   refine⟨q,w,S,by rw[←I];show DGet.t (g.h _ _ O) (g.s _ _ N),k _ ρ o C w r ((a_.gr g).pushV (be.same g.f)) g.f⟩⟩
end
section
variable{K:Â}{w H A Φ u:Hp}{f:St}{ρ:ak}{l:Nat->Y Addr}{p q:Addr}{i k:Nat}
theorem EnvM.noadr{a:Ŗ Addr}{o:Om}(E:EnvM K w Φ H f ρ)(F:ρ[i]?=Z (Z (.ob a o))):EnvM K w Φ H f (ρ.set i (Z (.ob ŕ o))):=by
 let⟨l,E⟩:=E
 have B:∀{m:Nat}{x:Sm},(ρ.set i (Z (Sm.ob ŕ o)))[m]?=Z (Z x)->(m=i/\x=.ob ŕ o)\/(m≠i/\ρ[m]?=Z (Z x)):=λ{m x} h=>by
  rcases cX h with⟨e,_,C⟩|⟨e,h⟩
  ·cases C;show .inl ⟨e,S⟩
  ·show .inr ⟨e,h⟩
 have g:∀{m:Nat}{c:Ŗ Addr}{j:Om},(ρ.set i (Z (Sm.ob ŕ o)))[m]?=Z (Z (.ob c j))->∃y,ρ[m]?=Z (Z (.ob y j)):=λ{m c j} h=>by
  rcases B h with⟨z,v⟩|⟨_,v⟩
  ·cases v;show⟨_,by rw[z];show F⟩
  ·show⟨_,v⟩
 refine⟨l,E.fz,by rw[Iv,E.len],λm d h=>?_,λm c j h=>?_,λm c j h=>?_,λm k c y j G N M=>?_,E.tb⟩
 ·rcases B h with⟨_,h⟩|⟨_,h⟩
  ·cases h
  ·show E.sl m d h
 ·rcases B h with⟨z,v⟩|⟨_,v⟩
  ·cases v;let⟨p,e,_,r⟩:=E.ow i a o F;show⟨p,by rw[z];show e,(λq e=>by cases e),by rw[z];show r⟩
  ·show E.ow m c j v
 ·let⟨y,h'⟩:=g h;show E.no m y j h'
 ·let⟨C,J⟩:=g N;let⟨I,L⟩:=g M;show E.dj m k C I j G J L
theorem EnvM.outT{ps:Y (Addr×Ŗ (Y D))}{ds:Y D}{v:V}(E:EnvM K w Φ H (f++[Z v]) (ρ++[Z (.ob ŕ (.tl ps))]))(i:Nat)(c:i<ρ.length)(h:ps[k]?=Z (q,Z ds)) :
  EnvM K w Φ H (f.set i (Z (.ref q))++[Z v]) (ρ.set i (Z (.own ds))++[Z (.ob ŕ (.tl (ps.set k (q,ŕ))))]):=by
 have r:f.length=ρ.length:=by have:=E.len;simpa using this
 have e:=(E.pnt i q).opn (i:=i) (j:=ρ.length) (k:=k) (a':=ŕ) (ps:=ps) (q:=q) (ds:=ds) ()
  (by rw[IS (by rw[Io];omega)]) (by rw[IP (),Im (Iu _),Je];rfl) h
 rw[Kp _ _ (),Kp _ _ c,Kp _ _ (by rw[Iv];show c),K9 _ _ (by rw[Iv,Iv];show Iu _),List.set_set,Iv,Je]at e;have g:=e.noadr (i:=i) (a:=Z q) (o:=.lst ds) (by rw[Ip (by rw[Iv];show c),IS c]);rw[Kp _ _ (by rw[Iv];show c),List.set_set]at g;show g
theorem EnvM.gath{v1 v2 v3:V}{G I J:Y D}(E:EnvM K w Φ H (f++[Z v1,Z v2,Z v3]) (ρ++[Z (.own G),Z (.own I),Z (.own J)]))(X:ρ.length=f.length)(g:Gr Φ H u A)(hp:u p=Z (.tup [v1,v2,v3])) :
  ∃a o B,EnvM K w u A (f++[Z (.ref p)]) (ρ++[Z (.ob ŕ (.tl [(a,Z G),(o,Z I),(B,Z J)]))]):=by
 let⟨l,E⟩:=E.gr g
 have P:(ρ++[Z (Sm.own G),Z (.own I),Z (.own J)])[ρ.length]?=Z (Z (.ob ŕ (.lst G))):=by rw[Im (Iu _),Je];rfl
 have Q:(ρ++[Z (Sm.own G),Z (.own I),Z (.own J)])[ρ.length+1]?=Z (Z (.ob ŕ (.lst I))):=by rw[Im (),JG];rfl
 have R:(ρ++[Z (Sm.own G),Z (.own I),Z (.own J)])[ρ.length+2]?=Z (Z (.ob ŕ (.lst J))):=by rw[Im (),JG];rfl
 let⟨a,e1,_,r1⟩:=E.ow _ _ _ P;let⟨o,e2,_,r2⟩:=E.ow _ _ _ Q;let⟨B,e3,_,r3⟩:=E.ow _ _ _ R;rw[X,Im (Iu _),Je]at e1;rw[X,Im (),JG]at e2 e3;cases e1;cases e2;cases e3;let⟨f1,w1,a1,b1⟩:=r1.lst_inv;let⟨f2,w2,a2,b2⟩:=r2.lst_inv;let⟨f3,w3,a3,b3⟩:=r3.lst_inv;have n12:a≠o:=λe=>E.dj _ _ _ _ _ _ P Q () a (by rw[f1];show Iz.mpr S) (by rw[f2,e];show Iz.mpr S);have n13:a≠B:=λe=>E.dj _ _ _ _ _ _ P R () a (by rw[f1];show Iz.mpr S) (by rw[f3,e];show Iz.mpr S);have n23:o≠B:=λe=>E.dj _ _ _ _ _ _ Q R () o (by rw[f2];show Iz.mpr S) (by rw[f3,e];show Iz.mpr S)
 have Su:∀b∈[a,o,B],b∈l ρ.length\/b∈l (ρ.length+1)\/b∈l (ρ.length+2):=λb L=>by rw[f1,f2,f3];simpa using L
 have M:∀{m:Nat}{x:Sm},(ρ++[Z (Sm.ob ŕ (.tl [(a,Z G),(o,Z I),(B,Z J)]))])[m]?=Z (Z x)->(m<ρ.length/\ρ[m]?=Z (Z x))\/(m=ρ.length/\x=.ob ŕ (.tl [(a,Z G),(o,Z I),(B,Z J)])):=λ{m x} h=>by
  rcases Js m ρ.length with c|c
  ·rw[Ip c]at h;show .inl ⟨c,h⟩
  ·rw[Im c]at h
   cases e:m-ρ.length with
   |zero=>rw[e]at h;cases h;show .inr ⟨(),S⟩
   |succ n=>rw[e]at h;cases h
 have up:∀{m:Nat}{x:Sm},ρ[m]?=Z (Z x)->(ρ++[Z (Sm.own G),Z (.own I),Z (.own J)])[m]?=Z (Z x):=λ{m x} h=>by rw[Ip (az h)];show h
 have dn:∀{m:Nat}{y:Ŗ V},m<ρ.length->(f++[Z (V.ref a),Z (.ref o),Z (.ref B)])[m]?=Z y->(f++[Z (V.ref p)])[m]?=Z y:=λ{m y} c e=>by rw[Ip ()]at e ⊢;show e
 refine⟨a,o,B,λm=>if m=ρ.length then [a,o,B] else l m,E.fz,by rw[Io,Io,X];rfl,λm d h=>?_,λm c F h=>?_,λm c F h b L=>?_,λm n c c' F O9 hm hn hc b L Nd=>?_,E.tb⟩
 ·rcases M h with⟨c,j⟩|⟨_,j⟩
  ·let⟨v,e,r⟩:=E.sl m d (up j);show⟨v,dn c e,r⟩
  ·cases j
 ·rcases M h with⟨C,j⟩|⟨C,j⟩
  ·let⟨v,e,ha,r⟩:=E.ow m c F (up j);show⟨v,dn C e,ha,by rw[Ir ()];show r⟩
  ·cases j;refine⟨p,by rw[C,X,Im (Iu _),Je];rfl,(λ_ z=>by cases z),?_⟩;rw[Iw C];show .tl hp (.own a1 b1 (.own a2 b2 (.own a3 b3 .nil))) (by simp[n12,n13,n23])
 ·rcases M h with⟨C,j⟩|⟨C,j⟩
  ·rw[Ir ()]at L;show E.no m c F (up j) b L
  ·rw[Iw C]at L;rcases Su b L with h|h|h
   ·show E.no _ _ _ P b h
   ·show E.no _ _ _ Q b h
   ·show E.no _ _ _ R b h
 ·have U:b∈(if m=ρ.length then [a,o,B] else l m):=L;have N:b∈(if n=ρ.length then [a,o,B] else l n):=Nd
  have T:∀(be:Nat)(c:Ŗ Addr)(F:Om),be<ρ.length->ρ[be]?=Z (Z (.ob c F))->b∈l be->b∈[a,o,B]->False:=λbe c F TF b_ hx hy=>by
   rcases Su b hy with h|h|h
   ·show E.dj _ _ _ _ _ _ (up b_) P () b hx h
   ·show E.dj _ _ _ _ _ _ (up b_) Q () b hx h
   ·show E.dj _ _ _ _ _ _ (up b_) R () b hx h
  rcases M hm with⟨C,j⟩|⟨C,j⟩
  ·rw[Ir ()]at U;rcases M hn with⟨O,a_⟩|⟨O,a_⟩
   ·rw[Ir ()]at N;show E.dj m n c c' F O9 (up j) (up a_) hc b U N
   ·rw[Iw O]at N;show T m c F C j U N
  ·rw[Iw C]at U;rcases M hn with⟨O,a_⟩|⟨O,a_⟩
   ·rw[Ir ()]at N;show T n c' O9 O a_ N U
   ·omega
end
section
variable{K:Â}{X:Cx}{e a b:Ã}{es:Y Ã}{w y tb:TX}{A:di}{f u o j z:Ö}
noncomputable def Ft(A:di):TX:=λρ R p=>A ρ (λas c=>∃g h l,as=[.t (.own g),.t (.own h),.t (.own l)]/\∀r v x,R (.ob ŕ (.tl [(r,Z g),(v,Z h),(x,Z l)])) c) p
theorem FN{k:Nat}(h:PXA K X es A)(OL:Nat.ble es.length 1000=ŗ:=by rfl):PX K X (.Tuple es k f) (Ft A):=
 ⟨λbe=>(pz (h.pa be)).imp λσ H Q P=>by
  let⟨x,I,Φ,F,ρ,C,R,T,a_,t,k⟩:=P;refine⟨x,I,Φ,F,ρ,C,_,T,a_,t,λas v B O vs ts r1 hl c l U=>?_⟩;let⟨z1,z2,z3,rfl,r⟩:=r1
  cases c with|t c=>cases c with|t c=>cases c with|t c=>
  cases c;rename_i J L M;refine⟨by rw[LA];change 3<=16777216;decide,λp b_=>?_⟩;have g:=Gr.new l.g.s b_ (.tup [J,L,M]);have lk:C.length=F.length:=a_.lk;have l2:=l.l;have E:=l.E
  have N:EnvM K I B O ((σ++F)++[Z J,Z L,Z M]) ((v++C)++[Z (.own z1),Z (.own z2),Z (.own z3)]):=by rw[IJ,IJ];show E
  let⟨q1,q2,q3,G⟩:=N.gath (p:=p) (by rw[Io,Io];omega) g bh;rw[IJ,IJ]at G
  show k _ v _ _ _ (r q1 q2 q3) ⟨l.g.trans g,l2,G,l.x⟩ (U.trans g.f)⟩
noncomputable def GU(h l p:Nat)(w:TX):bG:=λg ρ=>w ρ (λs c=>∃B C E r v x,s=.ob ŕ (.tl [(B,Z r),(C,Z v),(E,Z x)])/\(h<c.length/\l<c.length/\p<c.length)/\g.nx (((c.set h (Z (.own r))).set l (Z (.own v))).set p (Z (.own x)))) g.ex
theorem yb{k:Nat}{n1 n2 n3:Str}(B C F:Nat)(hc:X.calm=ŗ)(x:X.N.Nodup)(h1:X.N[B]?=Z n1)(h2:X.N[C]?=Z n2)(h3:X.N[F]?=Z n3)(l1:dO X.env.scope n1)(l2:dO X.env.scope n2)(l3:dO X.env.scope n3)(he:PX K X e w)
  (f1:X.fn n1=ŗ\/X.env.scope.names.lookup n1=Z .local:=by nofun) (f2:X.fn n2=ŗ\/X.env.scope.names.lookup n2=Z .local:=by nofun) (f3:X.fn n3=ŗ\/X.env.scope.names.lookup n3=Z .local:=by nofun)
  (hs:è [.Tuple [.Name n1 u,.Name n2 o,.Name n3 j] k z] e f.line X.env=pure Ř:=by rfl) (hw:é [.Tuple [.Name n1 u,.Name n2 o,.Name n3 j] k z] e X.env=pure ŕ:=by rfl)
  (ha:(Æ [.Tuple [.Name n1 u,.Name n2 o,.Name n3 j] k z] X.env).map (·.2)=[assign (.Tuple [.Name n1 u,.Name n2 o,.Name n3 j] k z) X.env]:=by rfl)
  (c1:(Æ [.Name n1 u,.Name n2 o,.Name n3 j] X.env).map (·.2)=assign (.Name n1 u) X.env::(Æ [.Name n2 o,.Name n3 j] X.env).map (·.2):=by rfl) (c2:(Æ [.Name n2 o,.Name n3 j] X.env).map (·.2)=assign (.Name n2 o) X.env::(Æ [.Name n3 j] X.env).map (·.2):=by rfl) (c3:(Æ [.Name n3 j] X.env).map (·.2)=assign (.Name n3 j) X.env::(Æ [] X.env).map (·.2):=by rfl)
  (hn:(Æ [.Name n1 u,.Name n2 o,.Name n3 j] X.env).length=3:=by rfl) (NI:(Æ [.Name n1 u,.Name n2 o,.Name n3 j] X.env).findIdx? (·.1)=ŕ:=by rfl) :
  PSM K X (.Assign [.Tuple [.Name n1 u,.Name n2 o,.Name n3 j] k z] e f) (GU B C F w):=
 ⟨λhK=>(mT (he.pe hK) (vo hc (kC (kE x h1 l1 f1) (kC (kE x h2 l2 f2) (kC (kE x h3 l3 f3) pgs_nil c3) c2) c1) hn NI) hs hw ha).imp λE σ H MY=>by
  let⟨G,J,Φ,ρ,T,g,V,t,k⟩:=MY;refine⟨G,J,Φ,[],ρ,[],_,T.ex,dI g V k.ex,t,λs l h L v r p _=>?_⟩;let⟨N,O,P,Q,R,a_,rfl,⟨y1,y2,y3⟩,r⟩:=r;have I:EnvM K J h L (σ++[Z v]) (l++[Z (.ob ŕ (.tl [(N,Z Q),(O,Z R),(P,Z a_)]))]):=p.E;have M:=p.l;let⟨fp,c⟩:=id I;let⟨tp,s,_,rr⟩:=c.ow l.length ŕ _ (by rw[Im (Iu _),Je];rfl);rw[M,Im (Iu _),Je]at s;cases s;let⟨hp,_,_⟩:=rr.tl_inv;have U:=I.outT B y1 (k:=0) (q:=N) (ds:=Q) S;have be:=U.outT C (by rw[Iv];show y2) (k:=1) (q:=O) (ds:=R) S;have b_:=be.outT F (by rw[Iv,Iv];show y3) (k:=2) (q:=P) (ds:=a_) S;refine⟨tp,_,S,SqT.of (c.fz _ _ hp),S,_,_,S,_,_,S,_,_,S,S,?_⟩
  show k.nx _ h L _ r p.g (b_.take (by rw[Iv,Iv,Iv,Iv,Iv,Iv];show M))⟩
noncomputable def Bj(t:TX):TX:=λρ R g=>t ρ (xV λd c=>∃ds,fh d=Z ds/\R (.own ds) c) g
theorem zC{p:Ö}(T:Gl X "list")(U:X.mg "list"=ŕ)(O:PX K X e w)(F:starEach [e] X.env=(Ř,eval e X.env)::starEach [] X.env):PX K X (.Call (.Name "list" p) [e] [] f) (Bj w):=
 ⟨λE=>(le vZ T U Ġ (eY (O.pe E) pa_nil F) 'b' 'b' F ae).imp λσ H Q J=>by
  let⟨h,G,Φ,τ,ρ,κ,R,L,a_,t,k⟩:=J;refine⟨h,G,Φ,τ,ρ,κ,_,L,a_,t,λs1 B x I v r1 c N=>?_⟩;let⟨d,rfl,ds,M,r⟩:=r1.get;have rv:RpQ K x I d v:=.inl c.last;let⟨a,vs,rfl,be,b_⟩:=rv.seq c.g.s M;refine⟨a,vs,S,E▸be,λl g=>?_⟩;have C:=Gr.fresh c.g.s g (.lst vs)
  show k _ B _ _ _ r ((c.pop a_.lk).pushO C (.lst bh b_) λb P=>by rw[Iz.mp P];show⟨g,c.g.s.free g⟩) (N.trans C.f)⟩
noncomputable def A8(y tb:TX):TX:=λρ R h=>y ρ (xV λd g=>match d with|.bl c=>(c=ŗ->tb g R h)/\(c=Ř->R (.v (.bl Ř)) g)|_=>False) h
theorem FQ{op}(h:PX K X a y):PX K X (.BoolOp op [a] f) y:=⟨λc=>wx (h.pe c)⟩
theorem zO(U:PX K X a y)(be:PX K X (.BoolOp .And (b::es) f) tb):PX K X (.BoolOp .And (a::b::es) f) (A8 y tb):=
 ⟨λI=>(wg (U.pe I) (be.pe I)).imp λσ H Q O=>by
  let⟨h,E,Φ,L,ρ,J,R,F,a_,t,k⟩:=O;refine⟨h,E,Φ,L,ρ,J,_,F,a_,t,λs1 p l N v g r G=>?_⟩;let⟨x,rfl,g⟩:=g.get;have rx:=r.last;let⟨c,rfl,g⟩:=i6 g;obtain rfl:=rx.b;refine⟨c,S,?_⟩
  cases c with
  |true=>rw[Iw S];show⟨h,E,l,L,p,J,R,F,r.pop a_.lk,g.1 S,λsm C B M v' b_ P T=>k sm C B M v' b_ P (G.trans T)⟩
  |false=>rw[Ir 'b'];show k _ p l N _ (g.2 S) ((r.pop a_.lk).pushV (.bl _)) G⟩
end
end L2
namespace Kx
open PySem L2
section
local macro_rules|`(tactic|rfl')=>`(tactic|dsimp only[aJ,aE,aA,setA,aR,aK,aQ,List.set])
variable{P:Å}{w:È}{K:Â}{mg:Str->Ŗ Value}{base:Heap}{n:Nat}{f:Addr}{G:Í}
noncomputable def top(i:Nat):Ç:=PySem.Challenge.pw_cutyard_k32_none_with_paper.main.body.getD i (.Pass ⟨0,0,0,0⟩)
noncomputable abbrev Hs:Ç:=top 0
noncomputable abbrev oz:Ç:=top 5
theorem qav:FnScope ["one","other","greater","lesser","rest"] ["one","other"] (av oz):=by ac_rfl
noncomputable abbrev nh:Ç:=top 6
theorem qau:FnScope ["numbers","divisor","number"] ["numbers"] (av nh):=by ac_rfl
noncomputable abbrev mL:Ç:=top 7
theorem HD:FnScope ["top","bottom"] ["top","bottom"] (av mL):=by ac_rfl
noncomputable abbrev kH:Ç:=top 9
theorem GN:FnScope ["n","place"] ["n","place"] (av kH):=by ac_rfl
noncomputable abbrev lj:Ç:=top 10
theorem wW:FnScope ["row"] ["row"] (av lj):=by ac_rfl
noncomputable abbrev kr:Ç:=top 11
theorem qay:FnScope ["row","divisor"] ["row"] (av kr):=by ac_rfl
noncomputable abbrev ju:Ç:=top 13
theorem qaB:FnScope ["plan","bounds","n","least_rows","most_rows"] ["plan"] (av ju):=by ac_rfl
noncomputable abbrev k7:Ç:=top 15
theorem DM:FnScope ["entries","unknown"] ["entries","unknown"] (av k7):=by ac_rfl
noncomputable abbrev j8:Ç:=top 16
theorem yZ:FnScope ["entries"] ["entries"] (av j8):=by ac_rfl
noncomputable abbrev oo:Ç:=top 17
theorem qaz:FnScope ["bounds","marks","number","pair"] ["bounds"] (av oo):=by ac_rfl
noncomputable abbrev l6:Ç:=top 20
theorem FF:FnScope ["pair"] ["pair"] (av l6):=by ac_rfl
noncomputable abbrev mf:Ç:=top 21
theorem qaC:FnScope ["bounds","entries","total","pair","entry"] ["bounds","entries"] (av mf):=by ac_rfl
noncomputable abbrev kS:Ç:=top 22
theorem qaI:FnScope ["bounds","entries","total"] ["bounds","entries"] (av kS):=by ac_rfl
noncomputable abbrev nu:Ç:=top 23
theorem qaw:FnScope ["bounds","staying","unknown"] ["bounds","staying"] (av nu):=by ac_rfl
noncomputable abbrev ma:Ç:=top 24
theorem qaE:FnScope ["bounds","rows","place","row","total"] ["bounds","rows"] (av ma):=by ac_rfl
noncomputable abbrev nX:Ç:=top 25
theorem qaG:FnScope ["bounds","rows","place","row","total"] ["bounds","rows"] (av nX):=by ac_rfl
noncomputable abbrev ka:Ç:=top 26
theorem qaL:FnScope ["rows","place","row"] ["rows"] (av ka):=by ac_rfl
noncomputable abbrev nJ:Ç:=top 27
theorem qaP:FnScope ["rows","place","row"] ["rows"] (av nJ):=by ac_rfl
noncomputable abbrev lZ:Ç:=top 28
theorem qax:FnScope ["rows","came","place","row","earlier"] ["rows"] (av lZ):=by ac_rfl
noncomputable abbrev md:Ç:=top 29
theorem qaA:FnScope ["bounds","staying","unknown"] ["bounds","staying"] (av md):=by ac_rfl
noncomputable abbrev ky:Ç:=top 30
theorem Ai:FnScope ["rows","unknown"] ["rows","unknown"] (av ky):=by ac_rfl
noncomputable abbrev k6:Ç:=top 31
theorem yn:FnScope ["rows","unknown"] ["rows","unknown"] (av k6):=by ac_rfl
noncomputable abbrev oB:Ç:=top 32
theorem qaM:FnScope ["bounds","rows","goal","staying","unknown"] ["bounds","rows","goal","staying"] (av oB):=by ac_rfl
noncomputable abbrev ou:Ç:=top 33
theorem qaJ:FnScope ["bounds","rows","goal","staying","unknown","pair"] ["bounds","rows","goal","staying"] (av ou):=by ac_rfl
noncomputable abbrev mJ:Ç:=top 34
theorem qaD:FnScope ["bounds","rows","goal","staying","unknown"] ["bounds","rows","goal","staying"] (av mJ):=by ac_rfl
noncomputable abbrev nc:Ç:=top 36
theorem qaK:FnScope ["ledger","place"] ["ledger"] (av nc):=by ac_rfl
noncomputable abbrev lX:Ç:=top 37
theorem qaQ:FnScope ["ledger","unknown"] ["ledger"] (av lX):=by ac_rfl
noncomputable abbrev kj:Ç:=top 38
theorem qaF:FnScope ["ledger","unknown","place","entries","shares"] ["ledger"] (av kj):=by ac_rfl
noncomputable abbrev ms:Ç:=top 39
theorem qaO:FnScope ["ledger","shares"] ["ledger"] (av ms):=by ac_rfl
noncomputable abbrev la:Ç:=top 40
theorem Da:FnScope ["numbers","places"] ["numbers","places"] (av la):=by ac_rfl
noncomputable abbrev ld:Ç:=top 41
theorem qaN:FnScope ["ledger","rows"] ["ledger"] (av ld):=by ac_rfl
noncomputable abbrev nU:Ç:=top 44
theorem Cr:FnScope ["_law_told"] ["_law_told"] (av nU):=by ac_rfl
noncomputable abbrev jW:Ç:=top 45
theorem GI:FnScope ["_law_told","_law_size"] ["_law_told","_law_size"] (av jW):=by ac_rfl
noncomputable abbrev nE:Ç:=top 46
theorem qap:FnScope ["_law_script","_law_seed","_law_cell","_law_rest"] ["_law_script"] (av nE):=by ac_rfl
noncomputable abbrev nT:Ç:=top 47
theorem qaj:FnScope ["_law_pool_here","_law_many","_law_digit","_law_step","_law_mixed"] ["_law_pool_here","_law_many"] (av nT):=by ac_rfl
noncomputable abbrev ki:Ç:=top 48
theorem Gm:FnScope ["_law_entries","_law_spot"] ["_law_entries","_law_spot"] (av ki):=by ac_rfl
noncomputable abbrev mR:Ç:=top 49
theorem qag:FnScope ["_law_pool_here","_law_count","_law_opens","_law_rate","_law_bounds_here","_law_goal","_law_hung","_law_k","_law_least","_law_pick","_law_most"] ["_law_pool_here","_law_count","_law_opens"] (av mR):=by ac_rfl
noncomputable abbrev mj:Ç:=top 50
theorem qar:FnScope ["_law_pool_here","_law_many","_law_spot","_law_hung","_law_rows_here","_law_i","_law_entries","_law_one","_law_number","_law_manner","_law_bound"] ["_law_pool_here","_law_many","_law_spot","_law_hung"] (av mj):=by ac_rfl
noncomputable abbrev nR:Ç:=top 51
theorem qas:FnScope ["_law_pool_here","_law_count","_law_many","_law_opens","_law_bounds_here","_law_goal","_law_hung","_law_spot","_law_least","_law_most","_law_wide","_law_rows_here","_law_entries"] ["_law_pool_here","_law_count","_law_many","_law_opens"] (av nR):=by ac_rfl
noncomputable abbrev i7:Ç:=top 52
theorem qak:FnScope ["_law_pool_here","_law_plan","_law_spot","_law_far_here","_law_many","_law_shifts","_law_bounds_here","_law_shift","_law_least","_law_most","_law_rows_here","_law_entries","_law_bound","_law_factor","_law_moved"] ["_law_pool_here","_law_plan","_law_spot"] (av i7):=by ac_rfl
noncomputable abbrev nI:Ç:=top 53
theorem qao:FnScope ["_law_plan","_law_count","_law_pair","_law_row"] ["_law_plan","_law_count"] (av nI):=by ac_rfl
noncomputable abbrev lb:Ç:=top 54
theorem qal:FnScope ["_law_struck","_law_count","_law_kept"] ["_law_struck","_law_count"] (av lb):=by ac_rfl
noncomputable abbrev jF:Ç:=top 55
theorem qam:FnScope ["_law_plan","_law_count","_law_rows_here","_law_k","_law_least","_law_most"] ["_law_plan"] (av jF):=by ac_rfl
noncomputable abbrev iK:Ç:=top 56
theorem qai:FnScope ["_law_rows_here","_law_shares","_law_divisor","_law_total","_law_share","_law_at","_law_weight","_law_row","_law_entries"] ["_law_rows_here","_law_shares","_law_divisor"] (av iK):=by ac_rfl
noncomputable abbrev kn:Ç:=top 57
theorem zP:FnScope ["_law_rows_here","_law_number"] ["_law_rows_here","_law_number"] (av kn):=by ac_rfl
noncomputable abbrev oq:Ç:=top 58
theorem yj:FnScope ["_law_line","_law_count"] ["_law_line","_law_count"] (av oq):=by ac_rfl
noncomputable abbrev jU:Ç:=top 59
theorem qaf:FnScope ["_law_rows_here","_law_paper","_law_count","_law_standing","_law_kept","_law_k","_law_line","_law_entries","_law_row"] ["_law_rows_here","_law_paper","_law_count"] (av jU):=by ac_rfl
noncomputable abbrev lB:Ç:=top 60
theorem C9:FnScope ["_law_pool_here"] ["_law_pool_here"] (av lB):=by ac_rfl
noncomputable abbrev nV:Ç:=top 61
theorem qah:FnScope ["_law_pool_here","_law_plan","_law_bounds_here","_law_at"] ["_law_pool_here","_law_plan"] (av nV):=by ac_rfl
noncomputable abbrev nB:Ç:=top 62
theorem qaq:FnScope ["_law_pool_here","_law_plan","_law_row","_law_at"] ["_law_pool_here","_law_plan","_law_row"] (av nB):=by ac_rfl
noncomputable abbrev mD:Ç:=top 63
theorem qan:FnScope ["_law_pool_here","_law_plan","_law_entries","_law_most_sum","_law_least","_law_most","_law_number"] ["_law_pool_here","_law_plan"] (av mD):=by ac_rfl
noncomputable abbrev jK:Ç:=top 64
theorem qat:FnScope ["_law_pool_here","_law_plan","_law_count","_law_at","_law_number","_law_one","_law_other","_law_entries"] ["_law_pool_here","_law_plan"] (av jK):=by ac_rfl
noncomputable abbrev nC:Ç:=top 65
theorem qaH:FnScope ["_law_script","_law_pool_here","_law_count","_law_manner","_law_plan","_law_spot","_law_struck"] ["_law_script"] (av nC):=by ac_rfl
noncomputable abbrev mt:Ç:=fV (top 18) 0
theorem CH:FnScope ["self","plan"] ["self","plan"] (av mt):=by ac_rfl
noncomputable abbrev lL:Ç:=fV (top 18) 1
theorem yi:FnScope ["self","shares","divisor"] ["self","shares","divisor"] (av lL):=by ac_rfl
noncomputable abbrev nL:Ç:=fV (top 18) 2
theorem yg:FnScope ["self","place"] ["self","place"] (av nL):=by ac_rfl
noncomputable abbrev lW:Ç:=fV (top 18) 3
theorem qad:FnScope ["self","place","row","mark","unknown","entry","pair","bound"] ["self","place"] (av lW):=by ac_rfl
noncomputable abbrev n5:Ç:=fV (top 18) 4
theorem qaa:FnScope ["self","place","row"] ["self","place"] (av n5):=by ac_rfl
noncomputable abbrev oG:Ç:=fV (top 18) 5
theorem yU:FnScope ["self","unknown","entry"] ["self","unknown","entry"] (av oG):=by ac_rfl
noncomputable abbrev nW:Ç:=fV (top 18) 6
theorem qab:FnScope ["self","unknown","number","place","row","entry","shares","worth"] ["self","unknown","number"] (av nW):=by ac_rfl
noncomputable abbrev jI:Ç:=fV (top 18) 7
theorem qac:FnScope ["self","unknown","places","place"] ["self","unknown"] (av jI):=by ac_rfl
noncomputable abbrev oF:Ç:=fV (top 18) 8
theorem yh:FnScope ["self","unknown","least","rows"] ["self","unknown","least","rows"] (av oF):=by ac_rfl
noncomputable abbrev lK:Ç:=fV (top 42) 0
theorem qae:FnScope ["self","plan","ledger","shares","mark"] ["self","plan"] (av lK):=by ac_rfl
noncomputable abbrev xz:Ç:=fV (top 42) 1
noncomputable abbrev CZ:Ç:=fV (top 42) 2
noncomputable abbrev xa:Ç:=fV (top 42) 3
structure TxtLedger(K:Â)(mg:Str->Option Value)(C:Addr):Prop where
 cl:Cls K C
 n_bounds:NoAttr K C "bounds"
 n_rows:NoAttr K C "rows"
 n_goal:NoAttr K C "goal"
 n_staying:NoAttr K C "staying"
 n_told:NoAttr K C "told"
 n_lines:NoAttr K C "lines"
 n_least_marks:NoAttr K C "least_marks"
 n_most_marks:NoAttr K C "most_marks"
 n_row_marks:NoAttr K C "row_marks"
 n_goal_shares:NoAttr K C "goal_shares"
 n_extra:NoAttr K C "extra"
 n_gone:NoAttr K C "gone"
 mgC:mg "Ledger"=Z (.ref C)
 ns:Ò K Á "Ledger"=Z (Z (.ref C))
structure TxtStruck(K:Â)(mg:Str->Option Value)(C:Addr):Prop where
 cl:Cls K C
 n_ledger:NoAttr K C "ledger"
 n_breadth:NoAttr K C "breadth"
 n_kind:NoAttr K C "kind"
 n_paper:NoAttr K C "paper"
 n_slim:NoAttr K C "slim"
 n_kept:NoAttr K C "kept"
 n_extra:NoAttr K C "extra"
 mgC:mg "Struck"=Z (.ref C)
 ns:Ò K Á "Struck"=Z (Z (.ref C))
noncomputable abbrev cM(x:Int):Prop:=x.natAbs<2^60000
theorem io{a b:Int}(c:cM a)(e:cM b):þ a b:=xQ (m:=60000) (n:=60000) 'b' 'b' c e 'b'
theorem toB{R:D->Prop}{a b:Bool}(q:R (.bl a))(e:b=a):R (.bl b):=e▸q
theorem gB{x:Int}{m:Nat}(h:x.natAbs<=2^m)(a:m<60000):cM x:=K0 h (KQ 'b' a)
theorem cD{a:Type}{xs:Y a}{i:Nat}{d:a}(h:i<xs.length):xs.getD i d∈xs:=by rw[II,bL h];show KS h
theorem ce{a:Type}{xs:Y a}{i:Nat}{d:a}(h:i<xs.length):xs[i]?=Z (xs.getD i d):=by rw[II,bL h];rfl
theorem cq{a:Type}{xs:Y a}{i:Nat}{x d:a}(h:xs[i]?=Z x):xs.getD i d=x:=by rw[II,h];rfl
noncomputable def b7(n k:Nat):Y Int:=(List.range n).map λo=>if o=k then 1 else 0
inductive z_unit(ds:List D)(R:D->Prop):Prop|mk (n k:Nat) (_:ds=[.int (n:Int),.int (k:Int)]) (_:n<=1000) (_:R (.tup ((b7 n k).map D.int)))
theorem FC(F:Fun K "unit" "unit" kH f G)(a:mg "tuple"=ŕ)(g:mg "range"=ŕ):FnOk P w K mg base aN (n+1) f G ["n","place"] (lSp K z_unit):=by
 refine F.okD GN (λds R h=>?_) (λl A outer s H E ds R j h=>?_)
 ·let⟨m,k,rfl,_⟩:=h;rfl
 let⟨m,k,rfl,r,q⟩:=h;refine⟨_,(aU (bf (bT cu S a IB (aH (PD.q (PF.d (dG (k:=1) (N':=["other","place"]) (cap:=[ŕ,Z 1]) S (.ok (show bX ["n","place"] (av kH) _ ["other","place"] [ŕ,Z 1]=ŗ by lia)) 'a' (bM 'b') (ix S g (ad (dv 0) am aa)) (λ_ _ _ _ _=>(bc (i:=0) (show List.Nodup (["other","place"]:Y Str)by lia) S VF)) (λ_ _ _ _ _=>(nz (aG (cp j.units) (ac 0) (ac 1) (aw _)) ah ah))))) aM bD) bD ae))),?_⟩;refine⟨⟨(),()⟩,?_⟩;refine jS (λo=>D.int (if o=k then 1 else 0)) (br ()) (λi p=>?_) ?_
 ·by_cases c:i=k
  ·subst c;refine⟨λ_=>by rw[Iw S];rfl,λh=>?_⟩;have:((0+(i:Int))==(i:Int))=Ř:=h;rw[Jt]at this;simp at this
  ·refine⟨λh=>?_,λ_=>by rw[Ir c];rfl⟩;have:((0+(i:Int))==(k:Int))=ŗ:=h;have:=eq_of_beq this;omega
 have e:(List.range ((m:Int)).toNat).map (λo=>D.int (if o=k then 1 else 0))=(b7 m k).map D.int:=by unfold b7;rw[Jw,JO];rfl
 rw[e];show q
noncomputable def iN(r:ag):ag:=(r.1.map (- ·),-r.2)
inductive z_turned(ds:List D)(R:D->Prop):Prop|mk (r:ag) (_:ds=[ax r]) (_:r.1.length<=1000) (_:R (ax (iN r)))
theorem BJ(F:Fun K "turned" "turned" lj f G)(a:mg "tuple"=ŕ):FnOk P w K mg base aN (n+1) f G ["row"] (lSp K z_turned):=by
 refine F.okD wW (λds R h=>?_) (λe A outer s H E ds R g h=>?_)
 ·let⟨r,rfl,_⟩:=h;rfl
 let⟨r,rfl,c,q⟩:=h;refine⟨_,(aU (bf (bw (ad (bT cu S a IB (aH (PD.q (PF.d (dG (k:=1) (N':=["entry"]) (cap:=[ŕ]) S (.ok (show bX ["row"] (av lj) _ ["entry"] [ŕ]=ŗ by lia)) 'a' (bM 'b') (ca (au (ac 0))) (λ_ _ _ _ _=>(bc (i:=0) (show List.Nodup (["entry"]:Y Str)by lia) S VF)) (λ_ _ _ _ _=>(cQ (ac 0)))))) aM bD) bD ae) (ad (cQ (PD.q (au (ac 0)))) am gD) bj)))),?_⟩;refine⟨_,S,?_⟩;refine jQ (f:=D.int) (λx=>-x) (br c) (λx _=>rfl) ?_;show⟨_,S,q⟩
noncomputable abbrev Bd:=Int×Ŗ Int
noncomputable def oI:Ŗ Int->D
 |none=>.non
 |some m=>.int m
noncomputable def aT(b:Bd):D:=.tup [.int b.1,oI b.2]
noncomputable def ap(bs:Y Bd)(k:Nat):Bd:=bs.getD k (0,ŕ)
noncomputable def eW(bs:Y Bd)(k:Nat):ag:=(b7 bs.length k,(ap bs k).1)
noncomputable def c8(bs:Y Bd)(k:Nat):ag:=iN (b7 bs.length k,((ap bs k).2.getD 0))
noncomputable def cH(bs:Y Bd)(k:Nat):Bool:=(ap bs k).2.isSome
noncomputable def dw(bs:Y Bd)(rs:Y ag):Y ag:=(List.range bs.length).map (eW bs)++((List.range bs.length).filter (cH bs)).map (c8 bs)++rs
noncomputable def b8(bs:Y Bd)(rs:Y ag)(gs:Y Int):D:=.tup [.tup (bs.map aT),.tup (rs.map ax),.tup (gs.map D.int)]
noncomputable def iL(c:Nat->Bool)(h:Nat->D)(i:Nat):Ŗ D->Prop
 |some y=>y=h i/\c i=ŗ
 |none=>c i=Ř
theorem jC{c:Nat->Bool}{h:Nat->D}{n:Nat}{g:Y (Ŗ D)}(v:g.length=n)(u:∀i y,g[i]?=Z y->iL c h i y):g.filterMap id=((List.range n).filter c).map h:=by
 have e:g=(List.range n).map λi=>if c i then Z (h i) else ŕ:=by
  refine JU λi=>?_;rw[IE];by_cases r:i<n
  ·rw[Jr r,bL (show i<g.length by omega)];have q:=u i _ (bL (show i<g.length by omega))
   cases e:g[i]'()with
   |none=>
    rw[e]at q;have j:c i=Ř:=q;change Z ŕ=Z (if c i=ŗ then _ else _);rw[j];rfl
   |some y=>
    rw[e]at q;have j:y=h i/\c i=ŗ:=q;change Z (Z y)=Z (if c i=ŗ then _ else _);rw[j.2,j.1];rfl
  ·rw[Jp (),Jp (by rw[IF];omega)];rfl
 have o:∀l:Y Nat,(l.map λi=>if c i then Z (h i) else ŕ).filterMap id=(l.filter c).map h:=by
  intro l
  induction l with
  |nil=>rfl
  |cons x l p=>
   rw[IQ]
   cases e:c x with
   |true=>rw[Iw S,List.filterMap_cons_some (f:=id) (a:=Z (h x)) (b:=h x) S,JZ e,IQ,p]
   |false=>rw[Ir 'b',List.filterMap_cons_none (f:=id) (a:=ŕ) S,J9 (by rw[e];decide),p]
 rw[e,o]
theorem eP{bs:Y Bd}{k:Nat}{i:Int}(h:k<bs.length)(e:i=(k:Int)):cF (bs.map aT) i=Z (aT (ap bs k)):=cP (i:=k) (ce h) e
theorem w4(n k:Nat):(b7 n k).length=n:=by unfold b7;rw[Il,IF]
inductive z_givens(ds:List D)(R:D->Prop):Prop|mk (bs:List Bd) (rs:List ag) (g:D) (_:ds=[.tup [.tup (bs.map aT),.tup (rs.map ax),g]]) (_:bs.length<=8) (_:rs.length<=30) (_:R (.tup ((dw bs rs).map ax)))
theorem DC(F:Fun K "givens" "givens" ju f G)(v:Cl P w K mg base n "turned" ["row"] z_turned)(u:Cl P w K mg base n "unit" ["n","place"] z_unit)(x:mg "len"=ŕ)(p:mg "range"=ŕ)(o:mg "tuple"=ŕ):FnOk P w K mg base aN (n+1) f G ["plan"] (lSp K z_givens):=by
 refine F.okD qaB (λds R h=>?_) (λL A outer s H E ds R c h=>?_)
 ·let⟨bs,rs,g,rfl,_⟩:=h;rfl
 let⟨bs,rs,g,rfl,O,M,q⟩:=h
 refine⟨_,(bK (dz (i:=1) qaB.nd S (Þ S) (au (ac 0)))
   (bK (dz (i:=2) qaB.nd S (Þ S) (bu bU S x IV (aH (ac 1) aM aa) aa ae))
   (bK (wo (i:=3) (k:=1) (N':=["place","n","bounds"]) (cap:=[ŕ,Z 2,Z 1]) S qaB.nd S VF (.ok (show bX ["plan","bounds","n","least_rows","most_rows"] (av ju) _ ["place","n","bounds"] [ŕ,Z 2,Z 1]=ŗ by lia)) 'a' (bM 'b') (ix S p (ad (dv 2) am aa)) (λ_ _ _ _ _=>(bc (i:=0) (show List.Nodup (["place","n","bounds"]:Y Str)by lia) S VF)) (λ_ _ _ _ _=>(bw (ad (bg u c S (ad (dv 1) (ad (dv 0) am aa) aa) aa (ar aa ae)) (ad (au (PD.q (bv (ac 2) (ac 0) (λ_ _=>rfl)))) am aC) bj))))
   (bK (vR (i:=4) (k:=1) (N':=["place","n","bounds"]) (cap:=[ŕ,Z 2,Z 1]) S qaB.nd S VF (.ok (show bX ["plan","bounds","n","least_rows","most_rows"] (av ju) _ ["place","n","bounds"] [ŕ,Z 2,Z 1]=ŗ by lia)) 'a' (bM 'b') (ix S p (ad (dv 2) am aa)) (λ_ _ _ _ _=>(bc (i:=0) (show List.Nodup (["place","n","bounds"]:Y Str)by lia) S VF)) (λ_ _ _ _ _=>(jr (aG ef (PD.q (au (PD.q (bv (ac 2) (ac 0) (λ_ _=>rfl))))) (PD.q bt) (aw _)))) (λ_ _ _ _ _=>(bg v c S (ad (bw (ad (bg u c S (ad (dv 1) (ad (dv 0) am aa) aa) aa (ar aa ae)) (ad (au (PD.q (bv (ac 2) (ac 0) (λ_ _=>rfl)))) am aC) bj)) am bC) bC ae)))
   (aU (bf (aO bI (PD.q (aO bI (PD.q (bT cu S o IB (aH (ac 3) aM aa) aa ae)) (PD.q (bT cu S o IB (aH (ac 4) aM aa) aa ae)))) (PD.q (au (ac 0)))))))))),?_⟩
 have r:((bs.map aT).length:Int)=(bs.length:Int):=by rw[Il]
 have C:(((bs.map aT).length:Nat):Int).toNat=bs.length:=by omega
 refine⟨_,S,⟨(),()⟩,?_⟩;refine jS (λk=>ax (eW bs k)) (br ()) (λk I=>⟨bs.length,k,by rw[r,Jt],(),_,eP () (Jt _),_,S,S⟩) ?_;refine⟨⟨(),()⟩,by rw[gA];show br (),iL (cH bs) (λk=>ax (c8 bs k)),λk d hd=>?_,λQ j J=>?_⟩
 ·let⟨I,rfl⟩:=ia hd
  have l:k<bs.length:=by omega
  refine⟨_,eP l (Jt _),_,S,?_⟩
  cases a:(ap bs k).2 with
  |none=>
   refine⟨λh=>(by cases h),λ_=>?_⟩;change cH bs k=Ř;unfold cH;rw[a];rfl
  |some m=>
   have e:c8 bs k=iN (b7 bs.length k,m):=by unfold c8;rw[a];rfl
   refine⟨λ_=>?_,λh=>(by cases h)⟩;refine⟨bs.length,k,by rw[r,Jt],(),_,eP l (Jt _),_,(Ju (λz=>cF [D.int (ap bs k).1,oI z] 1) a).trans S,(b7 bs.length k,m),S,by rw[w4];omega,?_⟩;refine⟨Ju ax e.symm,?_⟩;unfold cH;rw[a];rfl
 rw[gA]at j;rw[jC j J,C]
 have y:(List.range bs.length).map (λk=>ax (eW bs k))=((List.range bs.length).map (eW bs)).map ax:=by rw[Jw];rfl
 have B:((List.range bs.length).filter (cH bs)).map (λk=>ax (c8 bs k))=(((List.range bs.length).filter (cH bs)).map (c8 bs)).map ax:=by rw[Jw];rfl
 have N:((List.range bs.length).filter (cH bs)).length<=bs.length:=by
  have:=JN (cH bs) (List.range bs.length)
  rwa [IF]at this
 rw[y,B];refine⟨?_,_,pU ax _ _,_,S,?_,_,pU ax _ _,q⟩
 ·rw[Il,Il,Il,Il,IF];show gj ()
 ·rw[Il,Il,Io,Il,Il,IF];show gj ()
noncomputable abbrev Gn:=Nat×Int×Y ag
noncomputable def km(g:Gn):D:=.tup [.int (g.1:Nat),.int g.2.1,.tup (g.2.2.map ax)]
structure Led where
 bs:List Bd
 rs:List ag
 gl:List Int
 st:List Nat
 td:Int
 ln:List D
 lm:List D
 mm:List D
 rm:List D
 gs:List D
 ex:Int
 gn:List Gn
noncomputable def ba(n:Nat):D:=.int (n:Nat)
noncomputable def dZ(s:Led):Y (Str×Fl):=[("bounds",.l (s.bs.map aT)),("rows",.l (s.rs.map ax)),("goal",.v (.tup (s.gl.map D.int))),("staying",.l (s.st.map ba)),("told",.v (.int s.td)),("lines",.l s.ln),("least_marks",.l s.lm),("most_marks",.l s.mm),("row_marks",.l s.rm),("goal_shares",.l s.gs),("extra",.v (.int s.ex)),("gone",.l (s.gn.map km))]
noncomputable abbrev bQ(s:Led):Om:=.obj "Ledger" (dZ s)
noncomputable def im(s:Led):D:=.obj "Ledger" [("bounds",.lst (s.bs.map aT)),("rows",.lst (s.rs.map ax)),("goal",.tup (s.gl.map D.int)),("staying",.lst (s.st.map ba)),("told",.int s.td),("lines",.lst s.ln),("least_marks",.lst s.lm),("most_marks",.lst s.mm),("row_marks",.lst s.rm),("goal_shares",.lst s.gs),("extra",.int s.ex),("gone",.lst (s.gn.map km))]
noncomputable def cL(sh:D)(d:Int):D:=.tup [.str "cut",sh,.int d]
noncomputable def fS(s:Led)(sh:D)(d:Int):Led:={ s with ln:=s.ln++[cL sh d] }
theorem dl:∀d∈([]:Y D),NoL d:=λd h=>by cases h
theorem bA{d:D}{ds:Y D}(h:NoL d)(t:∀e∈ds,NoL e):∀e∈d::ds,NoL e:=λe a=>by
 rcases IL.mp a with rfl|a
 ·show h
 ·show t e a
theorem nY{sh:D}{d:Int}(h:NoL sh):NoL (cL sh d):=.tup (bA (.str _) (bA h (bA (.int _) dl)))
inductive y_Ledger__put_line(as:List Sm)(R:Sm->List Om->Prop)(Rx:XD->List Om->Prop):Prop|mk (a:Option Addr) (s:Led) (sh:D) (d:Int) (_:as=[.ob a (bQ s),.v sh,.v (.int d)]) (_:NoL sh) (_:s.ln.length<1000) (_:R (.v (.int (s.td+(s.ln.length:Nat)))) [bQ (fS s sh d)])
theorem Gd(F:Fun K "put_line" "Ledger.put_line" lL f G){g:Addr}(c:TxtLedger K mg g)(o:mg "len"=ŕ):FnOk P w K mg base aN (n+1) f G ["self","shares","divisor"] (lSpM K y_Ledger__put_line):=by
 refine F.okM yi (λas R l h=>?_) (λr A outer s H E as R l C u x h j=>?_)
 ·let⟨a,s,sh,d,rfl,_⟩:=h;rfl
 let⟨a,s,sh,d,rfl,p,v,q⟩:=h;let⟨B,rfl⟩:=dq j
 refine⟨_,(ao (qU 0 c.cl c.n_lines c.ns (bw (ad gT (ad (dv 1) (ad (dv 2) am aa) aa) aL)) (dA bC) bC)
   (aF (bJ (cG (aO cV (PD.q (aO bI (PD.q (aZ c.cl c.n_told c.ns (ac 0))) (PD.q (bu bU S o IV (aH (PD.q (aZ c.cl c.n_lines c.ns (ac 0))) aM aW) aW ae)))) (PD.q ah)))))),?_⟩
 intro y;refine⟨_,_,s.ln,S,S,nY p,br (),dZ (fS s sh d),S,?_⟩;refine⟨S,_,S,S,_,S,?_⟩;refine⟨.int _,_,S,?_⟩
 have e:s.td+(((fS s sh d).ln.length:Nat):Int)-1=s.td+(s.ln.length:Nat):=by change s.td+(((s.ln++[cL sh d]).length:Nat):Int)-1=_;rw[Io,IX];omega
 show (Ju (λz=>R (Sm.v (D.int z)) [bQ (fS s sh d)]) e).mpr q
inductive y_Ledger__drop_row(as:List Sm)(R:Sm->List Om->Prop)(Rx:XD->List Om->Prop):Prop|mk (a:Option Addr) (s:Led) (p:Nat) (_:as=[.ob a (bQ s),.v (.int (p:Nat))]) (_:p<s.rs.length) (_:p<s.rm.length) (_:p<1000) (_:R (.v .non) [bQ { s with rs:=s.rs.eraseIdx p,rm:=s.rm.eraseIdx p }])
theorem FE(F:Fun K "drop_row" "Ledger.drop_row" nL f G){e:Addr}(c:TxtLedger K mg e):FnOk P w K mg base aN (n+1) f G ["self","place"] (lSpM K y_Ledger__drop_row):=by
 refine F.okM yg (λas R j h=>?_) (λr A outer s H E as R j B u x h g=>?_)
 ·let⟨a,s,p,rfl,_⟩:=h;rfl
 let⟨a,s,p,rfl,l,o,v,q⟩:=h;let⟨z,rfl⟩:=dq g
 refine⟨_,(ao (fU (uo 0 c.cl c.n_rows c.ns (dv 1) (dA aa) aa))
   (aF (fU (uo 0 c.cl c.n_row_marks c.ns (dv 1) (dA aa) aa)))),?_⟩
 intro y;refine⟨_,_,s.rs.map ax,S,S,p,_,S,(),bL (by rw[Il];show l),dZ { s with rs:=s.rs.eraseIdx p },by rw[mQ];rfl,?_⟩;refine⟨_,_,s.rm,S,S,p,_,S,(),bL o,dZ { s with rs:=s.rs.eraseIdx p,rm:=s.rm.eraseIdx p },S,?_⟩;show⟨_,S,q⟩
inductive z_common_of_two(ds:List D)(R:D->Prop):Prop|mk (a b:Int) (_:ds=[.int a,.int b]) (_:R (.int (Int.gcd a b)))
theorem Gw(F:Fun K "common_of_two" "common_of_two" oz f G)(o:mg "abs"=ŕ):FnOk P w K mg base aN (n+1) f G ["one","other"] (lSp K z_common_of_two):=by
 refine F.okD qav (λds R h=>?_) (λI A outer s H E ds R C h=>?_)
 ·let⟨a,b,rfl,_⟩:=h;rfl
 let⟨a,b,rfl,q⟩:=h
 refine⟨_,(bK (dz (i:=2) qav.nd S VF (bu kP S o KI (aH (ac 0) aM aa) aa ae))
   (bK (dz (i:=3) qav.nd S VF (bu kP S o KI (aH (ac 1) aM aa) aa ae))
   (bK (D9 IW (aG (e5 C.units) (ac 3) (PD.q ah) (aw _)) (bK (dz (i:=4) qav.nd S VF (aO iw (ac 2) (ac 3)))
   (bK (dz (i:=2) qav.nd S VF (dv 3))
   (aU (dz (i:=3) qav.nd S VF (dv 4))))))
   (aU (bf (dv 2)))))),?_⟩
 refine⟨λm ρ=>∃(g l:Int)(p:Ŗ Sl),ρ=[Z (.v (.int a)),Z (.v (.int b)),Z (.v (.int g)),Z (.v (.int l)),p]/\m=l.toNat/\0<=g/\0<=l/\Int.gcd g l=Int.gcd a b,⟨_,_,_,_,S,S,by split<;>omega,by split<;>omega,?_⟩,?_⟩
 ·have j:∀x:Int,(if x<0 then -x else x)=(x.natAbs:Int):=λx=>by split<;>omega
  rw[j,j];unfold Int.gcd;simp
 rintro m ρ ⟨g,l,p,rfl,rfl,z,B,e⟩;refine⟨λh=>?_,λh=>?_⟩
 ·have J:l≠0:=λr=>by rw[r]at h;cases h
  have c:0<l:=by omega
  have j:=Mb g c;have y:=ME g (b:=l) ();show⟨c,(g % l).toNat,(),l,g % l,_,S,S,B,y,(yV z c).trans e⟩
 ·have v:l=0:=by have:(!(l==0))=Ř:=h;simp at this;show this
  subst v
  have u:g=(Int.gcd a b:Int):=by rw[←e];simp;omega
  rw[u];show q
inductive z_common(ds:List D)(R:D->Prop):Prop|mk (ns:List Int) (_:ds=[.tup (ns.map D.int)]) (_:R (.int (bp ns)))
theorem Ee(F:Fun K "common" "common" nh f G)(c:Cl P w K mg base n "common_of_two" ["one","other"] z_common_of_two):FnOk P w K mg base aN (n+1) f G ["numbers"] (lSp K z_common):=by
 refine F.okD qau (λds R h=>?_) (λj A outer s H E ds R g h=>?_)
 ·let⟨ns,rfl,_⟩:=h;rfl
 let⟨ns,rfl,q⟩:=h
 refine⟨_,(bK (dz (i:=1) qau.nd S VF ah)
   (bK (fe IW S (ca (dv 0)) (bc (i:=2) qau.nd S VF) (aU (dz (i:=1) qau.nd S VF (bg c g S (ad (dv 2) (ad (dv 1) am aa) aa) aa (ar aa ae)))))
   (aU (bf (dv 1))))),?_⟩
 refine⟨λi ρ=>∃a:Ŗ Sl,ρ=[Z (.v (.tup (ns.map D.int))),Z (.v (.int (bp (ns.take i)))),a],⟨_,S⟩,?_,?_⟩
 ·rintro i d ρ hd ⟨a,rfl⟩;let⟨k,rfl,e⟩:=cg hd;refine⟨_,_,S,Z (.v (.int k)),?_⟩;rw[gG e,CM];rfl
 ·rintro ρ ⟨a,rfl⟩;rw[Il,JR];show q
inductive z_up(ds:List D)(R:D->Prop):Prop|mk (a d:Int) (_:ds=[.int a,.int d]) (_:1<=d) (_:d<2^9000) (_:R (.int (-(-a/d))))
theorem A1(F:Fun K "up" "up" mL f G) :FnOk P w K mg base aN (n+1) f G ["top","bottom"] (lSp K z_up):=by
 refine F.okD HD (λds R h=>?_) (λe A outer s H E ds R j h=>?_)
 ·let⟨a,d,rfl,_⟩:=h;rfl
 let⟨a,d,rfl,g,c,q⟩:=h
 refine⟨_,(e9 (cA (aG fm (ac 1) (PD.q ah) (aw _)) (aU Co) cI)
   (aU (bf (cQ (PD.q (aO kK (PD.q (cQ (ac 0))) (ac 1))))))),?_⟩
 refine⟨λρ=>ρ=[Z (.v (.int a)),Z (.v (.int d))],⟨λh=>absurd (dP h) (),λ_=>rfl⟩,?_⟩;rintro ρ rfl;show⟨CDivB.of () c,q⟩
noncomputable def fH(r:ag):ag:=if bp r.1=0 then r else (r.1.map (·/bp r.1),-(-r.2/bp r.1))
inductive z_evened(ds:List D)(R:D->Prop):Prop|mk (r:ag) (_:ds=[ax r]) (_:r.1.length<=1000) (_:0<=bp r.1) (_:bp r.1<2^9000) (_:R (ax (fH r)))
theorem AO(F:Fun K "evened" "evened" kr f G)(p:Cl P w K mg base n "common" ["numbers"] z_common)(u:Cl P w K mg base n "up" ["top","bottom"] z_up)(j:mg "tuple"=ŕ):FnOk P w K mg base aN (n+1) f G ["row"] (lSp K z_evened):=by
 refine F.okD qay (λds R h=>?_) (λv A outer s H E ds R a h=>?_)
 ·let⟨r,rfl,_⟩:=h;rfl
 let⟨r,rfl,l,y,c,q⟩:=h
 refine⟨_,(bK (dz (i:=1) qay.nd S (Þ S) (bg p a S (ad (au (ac 0)) am aC) aC ae))
   (e9 (cA (aG (cp a.units) (ac 1) (PD.q ah) (aw _)) (aU (bf (dv 0))) cI)
   (aU (bf (bw (ad (bT cu S j IB (aH (PD.q (PF.d (dG (k:=1) (N':=["entry","divisor"]) (cap:=[ŕ,Z 1]) S (.ok (show bX ["row","divisor"] (av kr) _ ["entry","divisor"] [ŕ,Z 1]=ŗ by lia)) 'a' (bM 'b') (ca (au (ac 0))) (λ_ _ _ _ _=>(bc (i:=0) (show List.Nodup (["entry","divisor"]:Y Str)by lia) S VF)) (λ_ _ _ _ _=>(aO kK (ac 0) (ac 1)))))) aM bD) bD ae) (ad (bg u a S (ad (au (ac 0)) (ad (dv 1) am aa) aC) aC (ar aa ae)) am bj) bj)))))),?_⟩
 refine⟨_,S,r.1,S,?_⟩;refine⟨λρ=>bp r.1≠0/\ρ=[Z (.v (ax r)),Z (.v (.int (bp r.1)))],⟨λh=>?_,λh=>⟨?_,S⟩⟩,?_⟩
 ·have e:bp r.1=0:=eq_of_beq h
  have:fH r=r:=by unfold fH;rw[Iw e]
  rw[this]at q;show q
 ·intro e;have h':(bp r.1==0)=Ř:=h;rw[e]at h';cases h'
 rintro ρ ⟨g,rfl⟩
 have o:0<bp r.1:=by omega
 refine⟨_,S,?_⟩;refine jQ (f:=D.int) (λx=>x/bp r.1) (br l) (λx _=>⟨CDivB.of o c,S⟩) ?_;refine⟨_,S,r.2,bp r.1,S,(),c,?_⟩
 have:fH r=(r.1.map (·/bp r.1),-(-r.2/bp r.1)):=by unfold fH;rw[Ir g]
 rw[this]at q;show q
inductive z_without(ds:List D)(R:D->Prop):Prop|mk (es:List Int) (u:Nat) (_:ds=[.tup (es.map D.int),.int (u:Nat)]) (_:es.length<=1000) (_:R (.tup ((es.set u 0).map D.int)))
theorem Al(F:Fun K "without" "without" k7 f G)(g:mg "tuple"=ŕ)(j:mg "enumerate"=ŕ):FnOk P w K mg base aN (n+1) f G ["entries","unknown"] (lSp K z_without):=by
 refine F.okD DM (λds R h=>?_) (λr A outer s H E ds R p h=>?_)
 ·let⟨es,u,rfl,_⟩:=h;rfl
 let⟨es,u,rfl,o,q⟩:=h;refine⟨_,(aU (bf (bT cu S g IB (aH (PD.q (PF.d (dG (k:=2) (N':=["place","entry","unknown"]) (cap:=[ŕ,ŕ,Z 1]) S (.ok (show bX ["entries","unknown"] (av k7) _ ["place","entry","unknown"] [ŕ,ŕ,Z 1]=ŗ by lia)) 'a' (iW (n:=2) (fE (bM 'b') (fE (bM 'b') jb))) (ge S j (ad (dv 0) am aa)) (λ_ _ _ _ _=>(eO (n:=2) S (cf (bc (i:=0) (show List.Nodup (["place","entry","unknown"]:Y Str)by lia) S VF) (cf (bc (i:=1) (show List.Nodup (["place","entry","unknown"]:Y Str)by lia) S VF) eN)))) (λ_ _ _ _ _=>(nz (aG (cp p.units) (ac 0) (ac 2) (aw _)) ah (dv 1)))))) aM bD) bD ae))),?_⟩;refine rP ((es.set u 0).map D.int) (by rw[eG,Il,Il,Iv]) (by rw[eG,Il];show br o) (λi y=>((es.set u 0).map D.int)[i]?=Z y) (λi y h=>h) (λi d hd=>?_) q;let⟨e,l,rfl⟩:=fZ hd;let⟨x,rfl,a⟩:=cg l;by_cases c:i=u
 ·subst c;refine⟨S,λ_=>?_,λh=>?_⟩
  ·change ((es.set i 0).map D.int)[i]?=Z (D.int 0);rw[IE,IS (az a)];rfl
  ·have h':((i:Int)==(i:Int))=Ř:=h;rw[Jj]at h';cases h'
 ·refine⟨S,λh=>?_,λ_=>?_⟩
  ·have h':((i:Int)==(u:Int))=ŗ:=h;have:=eq_of_beq h';omega
  ·change ((es.set u 0).map D.int)[i]?=Z (D.int x);rw[IE,IP (λe=>c e.symm),a];rfl
noncomputable def cJ(es:Y Int):Y Nat:=(List.range es.length).filter λi=>decide (es.getD i 0≠0)
theorem Bw{es:Y Int}{a:Y (Ŗ D)}(c:a.length=es.length)(e:∀i y,a[i]?=Z y->iL (λi=>decide (es.getD i 0≠0)) (λi=>ba i) i y):a.filterMap id=(cJ es).map ba:=jC c e
inductive z_only_unknown(ds:List D)(R:D->Prop):Prop|mk (es:List Int) (u:Nat) (_:ds=[.tup (es.map D.int)]) (_:es.length<=1000) (_:(cJ es)[0]?=Z u) (_:R (ba u))
theorem Ea(F:Fun K "only_unknown" "only_unknown" j8 f G)(c:mg "enumerate"=ŕ):FnOk P w K mg base aN (n+1) f G ["entries"] (lSp K z_only_unknown):=by
 refine F.okD yZ (λds R h=>?_) (λr A outer s H E ds R j h=>?_)
 ·let⟨es,u,rfl,_⟩:=h;rfl
 let⟨es,u,rfl,v,l,q⟩:=h;refine⟨_,(aU (bf (au (PD.q (PF.d (oZ (k:=2) (N':=["place","entry"]) (cap:=[ŕ,ŕ]) S (.ok (show bX ["entries"] (av j8) _ ["place","entry"] [ŕ,ŕ]=ŗ by lia)) 'a' (iW (n:=2) (fE (bM 'b') (fE (bM 'b') jb))) (ge S c (ad (dv 0) am aa)) (λ_ _ _ _ _=>(eO (n:=2) S (cf (bc (i:=0) (show List.Nodup (["place","entry"]:Y Str)by lia) S VF) (cf (bc (i:=1) (show List.Nodup (["place","entry"]:Y Str)by lia) S VF) eN)))) (λ_ _ _ _ _=>(jr (aG (e5 j.units) (ac 1) (PD.q ah) (aw _)))) (λ_ _ _ _ _=>(dv 0)))))))),?_⟩;refine⟨by rw[eG,Il];show br (),iL (λi=>decide (es.getD i 0≠0)) (λi=>ba i),λi d hd=>?_,λy a p=>?_⟩
 ·let⟨e,g,rfl⟩:=fZ hd;let⟨x,rfl,o⟩:=cg g;have ex:es.getD i 0=x:=cq o;refine⟨S,λh=>⟨S,?_⟩,λh=>?_⟩
  ·change decide (es.getD i 0≠0)=ŗ;rw[ex]
   show Jh λe=>by rw[e]at h;cases h
  ·change decide (es.getD i 0≠0)=Ř;rw[ex];refine Jb λe=>?_;have h':(!(x==0))=Ř:=h
   have:(x==0)=ŗ:=by simpa using h'
   show e (eq_of_beq this)
 rw[eG,Il]at a;rw[Bw a p];show⟨_,cP (i:=0) l S,q⟩
noncomputable def gH(bs:Y Bd):Nat:=(bs.filter λb=>b.2.isSome).length
noncomputable def fo(bs:Y Bd)(i:Nat):D:=if (ap bs i).2.isSome then .int (bs.length+gH (bs.take i):Nat) else .non
noncomputable def jw(bs:Y Bd):Y D:=(List.range bs.length).map (fo bs)
theorem uF{bs:Y Bd}{i:Nat}{b:Bd}(h:bs[i]?=Z b):gH (bs.take (i+1))=gH (bs.take i)+if b.2.isSome then 1 else 0:=by unfold gH;rw[gG h,Kh,Io];congr 1;cases e:b.2.isSome<;>simp[e]
inductive y_first_most_marks(as:List Sm)(R:Sm->List Om->Prop)(Rx:XD->List Om->Prop):Prop|mk (bs:List Bd) (_:as=[.v (.tup (bs.map aT))]) (_:bs.length<=1000) (_:R (.ob ŕ (.lst (jw bs))) [])
theorem G0(F:Fun K "first_most_marks" "first_most_marks" oo f G)(p:mg "len"=ŕ):FnOk P w K mg base aN (n+1) f G ["bounds"] (lSpM K y_first_most_marks):=by
 refine F.okM qaz (λas R o h=>?_) (λr A outer s H E as R o z u x h l=>?_)
 ·let⟨bs,rfl,_⟩:=h;rfl
 let⟨bs,rfl,v,q⟩:=h;obtain rfl:=jt l
 refine⟨_,(ao (aB (i:=1) qaz.nd S VF (dS (dk am)))
   (ao (aB (i:=2) qaz.nd S VF (af (bu bU S p IV (aH (ac 0) aM aa) aa ae)))
   (ao (fq IW S (fM (ca (dv 0))) (cE (i:=3) qaz.nd S VF) (aF (bB (bx (aG gy (PD.q (au (ac 3))) (PD.q bt) (aw _))) (aF (fk 1 (af bt) (dA aL) aL)) (ao (fk 1 (af (dv 2)) (dA aa) aa)
   (aF (aB (i:=2) qaz.nd S VF (af (aO bI (ac 2) (PD.q ah)))))))))
   (aF (bJ (jY 1)))))),?_⟩
 intro y;refine⟨λi ρ=>∃e:Ŗ Sm,ρ=[Z (.v (.tup (bs.map aT))),Z (.own ((List.range i).map (fo bs))),Z (.v (.int (bs.length+gH (bs.take i):Nat))),e],⟨ŕ,?_⟩,?_,?_⟩
 ·change [_,_,_,_]=_
  have:(((bs.map aT).length:Nat):Int)=((bs.length+gH (bs.take 0):Nat):Int):=by rw[Il];rfl
  rw[←this];rfl
 ·rintro i d ρ hd ⟨e,rfl⟩;let⟨b,rfl,a⟩:=cg hd;have g:ap bs i=b:=cq a
  have j:(List.range (i+1)).map (fo bs)=(List.range i).map (fo bs)++[fo bs i]:=by rw[Ko,JB];rfl
  have hsz:((List.range i).map (fo bs)).length<sizeLine:=by have:=az a;rw[Il,IF];show br ()
  refine⟨oI b.2,S,?_⟩
  cases c:b.2 with
  |none=>
   refine⟨λ_=>?_,λh=>(by cases h)⟩;refine⟨hsz,_,S,Z (.v (aT b)),?_⟩;rw[j,uF a,c]
   have:fo bs i=.non:=by unfold fo;rw[g,c];rfl
   rw[this];rfl
  |some m=>
   refine⟨λh=>(by cases h),λ_=>?_⟩;refine⟨hsz,_,S,Z (.v (aT b)),?_⟩;rw[j,uF a,c]
   have:fo bs i=.int (bs.length+gH (bs.take i):Nat):=by unfold fo;rw[g,c];rfl
   rw[this];rfl
 ·rintro ρ ⟨e,rfl⟩;rw[Il];show q
noncomputable def dJ(s:Led)(u:Nat)(e:Int):D:=if 0<e then .tup [s.mm.getD u .non,.int e] else .tup [s.lm.getD u .non,.int (-e)]
inductive z_Ledger__bound_share(ds:List D)(R:D->Prop):Prop|mk (s:Led) (u:Nat) (e:Int) (_:ds=[im s,ba u,.int e]) (_:u<s.mm.length) (_:u<s.lm.length) (_:R (dJ s u e))
theorem yu(F:Fun K "bound_share" "Ledger.bound_share" oG f G){c:Addr}(a:TxtLedger K mg c):FnOk P w K mg base aN (n+1) f G ["self","unknown","entry"] (lSp K z_Ledger__bound_share):=by
 refine F.okD yU (λds R h=>?_) (λo A outer s H E ds R p h=>?_)
 ·let⟨s,u,e,rfl,_⟩:=h;rfl
 let⟨s,u,e,rfl,g,j,q⟩:=h
 refine⟨_,(e9 (cA (aG ei (ac 2) (PD.q ah) (aw _)) (aU (bf (bw (ad (bv (PD.q (aZ a.cl a.n_most_marks a.ns (ac 0))) (ac 1) (λ_ _=>rfl)) (ad (dv 2) am aa) aC)))) cI)
   (aU (bf (bw (ad (bv (PD.q (aZ a.cl a.n_least_marks a.ns (ac 0))) (ac 1) (λ_ _=>rfl)) (ad (cQ (ac 2)) am gD) aC))))),?_⟩
 refine⟨λρ=>¬ 0<e/\ρ=[Z (.v (im s)),Z (.v (ba u)),Z (.v (.int e))],⟨λh=>?_,λh=>⟨?_,S⟩⟩,?_⟩
 ·have h:=dP h;unfold dJ at q;rw[Iw h]at q;show⟨S,_,S,s.mm.getD u .non,gJ (ce g) S,q⟩
 ·show JC h
 rintro ρ ⟨l,rfl⟩;unfold dJ at q;rw[Ir l]at q;show⟨S,_,S,s.lm.getD u .non,gJ (ce j) S,q⟩
noncomputable def fF(s:Led)(u:Nat)(l:Int)(rs:Y ag):Led:={ s with st:=s.st.erase u,gn:=s.gn++[(u,l,rs)] }
theorem B5{st:Y Nat}{u:Nat}(h:u∈st):∃k,st[k]?=Z u/\(∀m<k,st[m]?≠Z u)/\st.eraseIdx k=st.erase u:=by
 induction st with
 |nil=>cases h
 |cons x st o=>
  by_cases c:x=u
  ·subst c;show⟨0,S,λm a=>absurd a (JI _),by rw[List.erase_cons_head];rfl⟩
  ·let⟨k,g,j,l⟩:=o ((IL.mp h).resolve_left λe=>c e.symm);refine⟨k+1,g,λm a=>?_,?_⟩
   ·cases m with
    |zero=>intro e;show c (Jf e)
    |succ m=>show j m ()
   ·rw[List.erase_cons_tail (by simpa using c),←l];rfl
theorem p9(rs:Y ag):∀d∈rs.map ax,NoL d:=λd hd=>by let⟨r,_,rfl⟩:=I0.mp hd;show .tup (bA (.tup λe a=>by let⟨x,_,rfl⟩:=I0.mp a;show .int x) (bA (.int _) dl))
theorem mX(r:ag):NoL (ax r):=p9 [r] _ (by simp)
theorem mO(st:Y Nat):st.map ba=(st.map λn:Nat=>(n:Int)).map D.int:=by rw[Jw];rfl
inductive y_Ledger__let_go(as:List Sm)(R:Sm->List Om->Prop)(Rx:XD->List Om->Prop):Prop|mk (a:Option Addr) (s:Led) (u:Nat) (l:Int) (rs:List ag) (_:as=[.ob a (bQ s),.v (ba u),.v (.int l),.v (.lst (rs.map ax))]) (_:u∈s.st) (_:s.gn.length<1000) (_:R (.v .non) [bQ (fF s u l rs)])
theorem Hi(F:Fun K "let_go" "Ledger.let_go" oF f G){j:Addr}(c:TxtLedger K mg j)(r:mg "tuple"=ŕ):FnOk P w K mg base aN (n+1) f G ["self","unknown","least","rows"] (lSpM K y_Ledger__let_go):=by
 refine F.okM yh (λas R p h=>?_) (λI A outer s H E as R p Q J M h o=>?_)
 ·let⟨a,s,u,l,rs,rfl,_⟩:=h;rfl
 let⟨a,s,u,l,rs,rfl,C,L,q⟩:=h;let⟨O,rfl⟩:=dq o
 refine⟨_,(ao (qU 0 c.cl c.n_gone c.ns (bw (ad (dv 1) (ad (dv 2) (ad (bT cu S r IB (aH (ac 3) aM aa) aa ae) am bj) aa) aa)) (dA bC) bC)
   (aF (G9 0 c.cl c.n_staying c.ns (dv 1) (dA aa) aa))),?_⟩
 intro N;refine⟨_,_,s.gn.map km,S,S,.tup (bA (.int _) (bA (.int _) (bA (.tup (p9 rs)) dl))),by rw[Il];show br (),dZ { s with gn:=s.gn++[(u,l,rs)] },by rw[show s.gn.map km++[D.tup [ba u,D.int l,D.tup (rs.map ax)]]=(s.gn++[(u,l,rs)]).map km from by rw[JB];rfl];rfl,?_⟩;let⟨k,v,y,z⟩:=B5 C;refine⟨_,_,s.st.map ba,S,S,s.st.map (λn:Nat=>(n:Int)),u,k,S,mO s.st,by rw[IE,v];rfl,λm B e=>?_,dZ (fF s u l rs),?_,?_⟩
 ·rw[IE]at e
  cases g:s.st[m]? with
  |none=>rw[g]at e;cases e
  |some x=>
   rw[g]at e;have:(x:Int)=(u:Int):=Jf e;show y m B (by rw[g];congr 1;omega)
 ·rw[mQ,z,←mO];rfl
 ·show⟨_,S,q⟩
noncomputable def fJ(d:D):D:=.tup [.tup [d,.int 1]]
theorem jP{d:D}(h:NoL d):NoL (fJ d):=.tup (bA (.tup (bA h (bA (.int _) dl))) dl)
noncomputable def dL(s:Led):D:=.int (s.td+(s.ln.length:Nat))
noncomputable def iO(s:Led)(p:Nat)(r:ag):Led:={ s with ln:=s.ln++[cL (fJ (s.rm.getD p .non)) (bp r.1)],rm:=s.rm.set p (dL s),rs:=s.rs.set p (fH r) }
inductive y_Ledger__even_row(as:List Sm)(R:Sm->List Om->Prop)(Rx:XD->List Om->Prop):Prop|mk (a:Option Addr) (s:Led) (p:Nat) (r:ag) (_:as=[.ob a (bQ s),.v (ba p)]) (_:s.rs[p]?=Z r) (_:p<s.rm.length) (_:(∀d∈s.rm,NoL d)) (_:s.ln.length<1000) (_:r.1.length<=1000) (_:0<=bp r.1) (_:bp r.1<2^9000) (_:R (.v .non) [bQ (iO s p r)])
theorem DL(F:Fun K "even_row" "Ledger.even_row" n5 f G){j:Addr}(c:TxtLedger K mg j)(v:Cl P w K mg base n "evened" ["row"] z_evened)(L:Cl P w K mg base n "common" ["numbers"] z_common)(x:MthM P w K mg base n j "put_line" ["self","shares","divisor"] y_Ledger__put_line):FnOk P w K mg base aN (n+1) f G ["self","place"] (lSpM K y_Ledger__even_row):=by
 refine F.okM qaa (λas R B h=>?_) (λM A outer s H E as R B U N g h y=>?_)
 ·let⟨a,s,p,r,rfl,_⟩:=h;rfl
 let⟨a,s,p,r,rfl,l,e,u,J,z,C,I,q⟩:=h;let⟨Q,rfl⟩:=dq y
 refine⟨_,(ao (aB (i:=2) qaa.nd S VF (cG (bv (PD.q (aZ c.cl c.n_rows c.ns (ac 0))) (ac 1) (λ_ _=>rfl))))
   (ao (iG 0 c.cl c.n_row_marks c.ns (eS 0 x g c.cl c.ns (ay (cG (bw (ad (bw (ad (bv (PD.q (aZ c.cl c.n_row_marks c.ns (ac 0))) (ac 1) (λ_ _=>rfl)) (ad ah am aL) aC)) am bC))) (ay (af (bg L g S (ad (au (ac 2)) am aC) aC ae)) aS bj) bC) bC (ar bj ae)) (dv 1))
   (aF (iG 0 c.cl c.n_rows c.ns (af (bg v g S (ad (dv 2) am aa) aa ae)) (dv 1))))),?_⟩
 intro O;have o:s.rm.getD p .non∈s.rm:=cD e;refine⟨S,_,S,ax r,cP l S,mX r,?_⟩;refine⟨⟨_,_,S,S⟩,S,_,S,s.rm.getD p .non,gJ (ce e) S,jP (u _ o),_,S,r.1,S,_,S,S,_,s,_,_,S,jP (u _ o),J,?_⟩;rfl';refine⟨_,_,s.rm,S,S,_,p,S,eZ e,dZ { s with ln:=s.ln++[cL (fJ (s.rm.getD p .non)) (bp r.1)],rm:=s.rm.set p (dL s) },S,?_⟩;refine⟨r,S,z,C,I,_,_,s.rs.map ax,S,S,_,p,S,eZ (by rw[Il];show az l),dZ (iO s p r),by rw[←KD];rfl,?_⟩;show⟨_,S,q⟩
noncomputable def cW(a d:Int):Int:=-(-a/d)
noncomputable def dm(s:Led)(p u:Nat)(r:ag):Led:=
 if 0<r.1.getD u 0/\(ap s.bs u).1<cW r.2 ((r.1.getD u 0).natAbs:Int) then { s with bs:=s.bs.set u (cW r.2 ((r.1.getD u 0).natAbs:Int),(ap s.bs u).2),ln:=s.ln++[cL (fJ (s.rm.getD p .non)) (r.1.getD u 0)],lm:=s.lm.set u (dL s) }
 else if r.1.getD u 0<0/\(∀m,(ap s.bs u).2=Z m->-cW r.2 ((r.1.getD u 0).natAbs:Int)<m) then { s with bs:=s.bs.set u ((ap s.bs u).1,Z (-cW r.2 ((r.1.getD u 0).natAbs:Int))),ln:=s.ln++[cL (fJ (s.rm.getD p .non)) (-r.1.getD u 0)],mm:=s.mm.set u (dL s) }
 else s
noncomputable def bW(s:Led)(p:Nat):Led:={ s with rs:=s.rs.eraseIdx p,rm:=s.rm.eraseIdx p }
noncomputable def jf(s:Led)(p u:Nat)(r:ag):Led:=bW (dm s p u r) p
theorem sF(s:Led)(p u:Nat)(r:ag):(dm s p u r).rs=s.rs/\(dm s p u r).rm=s.rm:=by
 unfold dm;split
 ·show⟨S,S⟩
 ·split<;>show⟨S,S⟩
inductive y_Ledger__turn_to_bound(as:List Sm)(R:Sm->List Om->Prop)(Rx:XD->List Om->Prop):Prop|mk (a:Option Addr) (s:Led) (p u:Nat) (r:ag) (_:as=[.ob a (bQ s),.v (ba p)]) (_:s.rs[p]?=Z r) (_:p<s.rm.length) (_:p<1000) (_:(∀d∈s.rm,NoL d)) (_:s.ln.length<1000) (_:r.1.length<=1000) (_:(cJ r.1)[0]?=Z u) (_:u<s.bs.length) (_:u<s.lm.length) (_:u<s.mm.length) (_:(∀x∈r.1,x.natAbs<2^9000)) (_:R (.v .non) [bQ (jf s p u r)])
theorem HF(F:Fun K "turn_to_bound" "Ledger.turn_to_bound" lW f G){M:Addr}(c:TxtLedger K mg M)(Ia:Cl P w K mg base n "only_unknown" ["entries"] z_only_unknown)(rD:Cl P w K mg base n "up" ["top","bottom"] z_up)(M6:MthM P w K mg base n M "drop_row" ["self","place"] y_Ledger__drop_row)(U:MthM P w K mg base n M "put_line" ["self","shares","divisor"] y_Ledger__put_line)(ga:mg "abs"=ŕ):FnOk P w K mg base aN (n+1) f G ["self","place"] (lSpM K y_Ledger__turn_to_bound):=by
 refine F.okM qad (λas R Rx h=>?_) (λM5 A outer s H E as R Rx qs M9 v h Nh=>?_)
 ·let⟨a,s,p,u,r,rfl,_⟩:=h;rfl
 let⟨a,s,p,u,r,rfl,X,Q,Nv,hm,L,Nq,b_,x,Qh,be,h9,q⟩:=h;let⟨pa,rfl⟩:=dq Nh
 refine⟨_,(ao (aB (i:=2) qad.nd S VF (cG (bv (PD.q (aZ c.cl c.n_rows c.ns (ac 0))) (ac 1) (λ_ _=>rfl))))
   (ao (aB (i:=3) qad.nd S VF (cG (bv (PD.q (aZ c.cl c.n_row_marks c.ns (ac 0))) (ac 1) (λ_ _=>rfl))))
   (ao (aB (i:=4) qad.nd S VF (af (bg Ia v S (ad (au (ac 2)) am aC) aC ae)))
   (ao (aB (i:=5) qad.nd S VF (af (bv (PD.q (au (ac 2))) (ac 4) (λ_ _=>rfl))))
   (ao (aB (i:=6) qad.nd S VF (cG (bv (PD.q (aZ c.cl c.n_bounds c.ns (ac 0))) (ac 4) (λ_ _=>rfl))))
   (ao (aB (i:=7) qad.nd S VF (af (bg rD v S (ad (au (ac 2)) (ad (bu kP S ga KI (aH (ac 5) aM aa) aa ae) am bj) aC) aC (ar bj ae))))
   (bR (bB (bx (PWD.td (ee (aG ei (ac 5) (PD.q ah) (aw _)) (ft (aG ei (ac 7) (PD.q (au (ac 6))) (aw _)))))) (ao (iG 0 c.cl c.n_bounds c.ns (af (bw (ad (dv 7) (ad (au (ac 6)) am aC) aa))) (dv 4))
   (aF (iG 0 c.cl c.n_least_marks c.ns (eS 0 U v c.cl c.ns (ay (af (bw (ad (bw (ad (dv 3) (ad ah am aL) aa)) am bC))) (ay (af (dv 5)) aS aa) bC) bC (ar aa ae)) (dv 4)))) (aF (bB (bx (PWD.td (ee (aG fm (ac 5) (PD.q ah) (aw _)) (ft (PWD.td (dc (aG gy (PD.q (au (ac 6))) (PD.q bt) (aw _)) (gh (aG fm (PD.q (cQ (ac 7))) (PD.q (au (ac 6))) (aw _))))))))) (ao (iG 0 c.cl c.n_bounds c.ns (af (bw (ad (au (ac 6)) (ad (cQ (ac 7)) am gD) aC))) (dv 4))
   (aF (iG 0 c.cl c.n_most_marks c.ns (eS 0 U v c.cl c.ns (ay (af (bw (ad (bw (ad (dv 3) (ad ah am aL) aa)) am bC))) (ay (af (cQ (ac 5))) aS gD) bC) bC (ar gD ae)) (dv 4)))) bP)))
   (aF (fU (eS 0 M6 v c.cl c.ns (ay (af (dv 1)) aS aa) aa ae)))))))))),?_⟩
 intro ke;have B:NoL (s.rm.getD p .non):=hm _ (cD Q);have RL:u∈cJ r.1:=ID b_;let⟨C,a_⟩:=Jq.mp RL;have C:u<r.1.length:=IY.mp C;have Nm:r.1.getD u 0≠0:=Jd a_;refine⟨S,_,S,ax r,cP X S,mX r,?_⟩;refine⟨S,_,S,s.rm.getD p .non,gJ (ce Q) S,B,?_⟩;refine⟨_,S,r.1,u,S,Nq,b_,?_⟩;refine⟨_,S,_,cP (i:=u) (ce (d:=0) C) S,?_⟩;refine⟨S,_,S,aT (ap s.bs u),eP x S,.tup (bA (.int _) (bA (by cases (ap s.bs u).2<;>constructor) dl)),?_⟩
 have U4:(if r.1.getD u 0<0 then -r.1.getD u 0 else r.1.getD u 0)=((r.1.getD u 0).natAbs:Int):=by split<;>omega
 have O:(((r.1.getD u 0).natAbs:Nat):Int)<2^9000:=by exact_mod_cast h9 _ (cD C)
 refine⟨_,S,r.2,((r.1.getD u 0).natAbs:Int),Ju (λz=>[D.int r.2,D.int z]) U4,(),O,?_⟩;generalize o:r.1.getD u 0=e at *;generalize hb:(-(-r.2/((e.natAbs:Nat):Int)))=b at *;have l:cW r.2 ((e.natAbs:Nat):Int)=b:=hb;refine⟨λρ=>ρ=[Z (.ob (Z pa) (bQ (dm s p u r))),Z (.v (ba p)),Z (.v (ax r)),Z (.v (s.rm.getD p .non)),Z (.v (ba u)),Z (.v (.int e)),Z (.v (aT (ap s.bs u))),Z (.v (.int b))],?_,?_⟩
 ·have hs1:s.ln.length<1000:=L;by_cases j:0<e
  ·refine⟨λ_=>⟨_,S,?_⟩,λh=>absurd j (JC h)⟩;by_cases I:(ap s.bs u).1<b
   ·refine⟨λ_=>?_,λh=>absurd I (JC h)⟩
    have g:dm s p u r={ s with bs:=s.bs.set u (b,(ap s.bs u).2),ln:=s.ln++[cL (fJ (s.rm.getD p .non)) e],lm:=s.lm.set u (dL s) }:=by unfold dm;rw[o,l,Iw ⟨j,I⟩]
    refine⟨_,S,_,_,s.bs.map aT,S,S,_,u,S,eZ (by rw[Il];show x),dZ { s with bs:=s.bs.set u (b,(ap s.bs u).2) },by rw[show D.tup [D.int b,oI (ap s.bs u).2]=aT (b,(ap s.bs u).2)from rfl,←KD];rfl,?_⟩;refine⟨⟨_,_,S,S⟩,_,S,S,_,{ s with bs:=s.bs.set u (b,(ap s.bs u).2) },_,_,S,jP B,L,?_⟩;rfl';refine⟨_,_,s.lm,S,S,_,u,S,eZ Qh,dZ (dm s p u r),by rw[g];rfl,S⟩
   ·refine⟨λh=>absurd (dP h) I,λ_=>?_⟩;refine⟨λh=>absurd (dP h) (),λ_=>⟨ff,λ_=>?_⟩⟩
    have g:dm s p u r=s:=by unfold dm;rw[o,l,Ir (λh=>I h.2),Ir (λh=>by omega)]
    rw[g];rfl
  ·refine⟨λh=>absurd (dP h) j,λ_=>⟨ff,λ_=>?_⟩⟩;refine⟨λ_=>⟨oI (ap s.bs u).2,S,?_⟩,λh=>absurd (JC h) ()⟩
   cases y:(ap s.bs u).2 with
   |none=>
    refine⟨λ_=>⟨λ_=>?_,tf⟩,tf⟩
    have N:∀m,(ap s.bs u).2=Z m->-b<m:=λm h=>by rw[y]at h;cases h
    have g:dm s p u r={ s with bs:=s.bs.set u ((ap s.bs u).1,Z (-b)),ln:=s.ln++[cL (fJ (s.rm.getD p .non)) (-e)],mm:=s.mm.set u (dL s) }:=by unfold dm;rw[o,l,Ir (λh=>j h.1),Iw ⟨(),N⟩]
    refine⟨_,S,_,_,s.bs.map aT,S,S,_,u,S,eZ (by rw[Il];show x),dZ { s with bs:=s.bs.set u ((ap s.bs u).1,Z (-b)) },by rw[show D.tup [D.int (ap s.bs u).1,D.int (-b)]=aT ((ap s.bs u).1,Z (-b))from rfl,←KD];rfl,?_⟩;refine⟨⟨_,_,S,S⟩,_,S,S,_,{ s with bs:=s.bs.set u ((ap s.bs u).1,Z (-b)) },_,_,S,jP B,L,?_⟩;rfl';refine⟨_,_,s.mm,S,S,_,u,S,eZ be,dZ (dm s p u r),by rw[g];rfl,S⟩
   |some m=>
    refine⟨ff,λ_=>⟨D.int m,(Ju (λz=>cF [D.int (ap s.bs u).1,oI z] 1) y).trans S,?_⟩⟩;by_cases J:-b<m
    ·refine⟨λ_=>?_,λh=>absurd J (JC h)⟩
     have N:∀T,(ap s.bs u).2=Z T->-b<T:=λT h=>by rw[y]at h;cases h;show J
     have g:dm s p u r={ s with bs:=s.bs.set u ((ap s.bs u).1,Z (-b)),ln:=s.ln++[cL (fJ (s.rm.getD p .non)) (-e)],mm:=s.mm.set u (dL s) }:=by unfold dm;rw[o,l,Ir (λh=>j h.1),Iw ⟨(),N⟩]
     refine⟨_,S,_,_,s.bs.map aT,S,S,_,u,S,eZ (by rw[Il];show x),dZ { s with bs:=s.bs.set u ((ap s.bs u).1,Z (-b)) },by rw[show D.tup [D.int (ap s.bs u).1,D.int (-b)]=aT ((ap s.bs u).1,Z (-b))from rfl,←KD];rfl,?_⟩;refine⟨⟨_,_,S,S⟩,_,S,S,_,{ s with bs:=s.bs.set u ((ap s.bs u).1,Z (-b)) },_,_,S,jP B,L,?_⟩;rfl';refine⟨_,_,s.mm,S,S,_,u,S,eZ be,dZ (dm s p u r),by rw[g];rfl,S⟩
    ·refine⟨λh=>absurd (dP h) J,λ_=>?_⟩
     have g:dm s p u r=s:=by unfold dm;rw[o,l,Ir (λh=>j h.1),Ir (λh=>J (h.2 m y))]
     rw[g];rfl
 rintro ρ rfl;let⟨t1,t2⟩:=sF s p u r;show⟨⟨_,_,S,S⟩,_,S,S,_,dm s p u r,p,S,by rw[t1];show az X,by rw[t2];show Q,Nv,_,S,q⟩
noncomputable abbrev bS(rs:Y ag)(p:Nat):ag:=rs.getD p ([],0)
noncomputable def gL(u:Nat)(n:Int)(s:Led)(p:Nat):Led:=
 if (bS s.rs p).1.getD u 0=0 then s else { s with ln:=s.ln++[cL (.tup [.tup [s.rm.getD p .non,.int 1],dJ s u ((bS s.rs p).1.getD u 0)]) 1],rm:=s.rm.set p (dL s),rs:=s.rs.set p ((bS s.rs p).1.set u 0,(bS s.rs p).2-(bS s.rs p).1.getD u 0*n) }
noncomputable def dF(s:Led)(u:Nat)(n:Int)(i:Nat):Led:=(List.range i).foldl (gL u n) s
theorem jX(s:Led)(u:Nat)(n:Int)(i:Nat):dF s u n (i+1)=gL u n (dF s u n i) i:=by unfold dF;rw[Ko,Mf];rfl
noncomputable def bE(u:Nat)(n:Int)(s:Led):Led:=if s.gl.getD u 0=0 then s else { s with gs:=s.gs++[dJ s u (s.gl.getD u 0)],ex:=s.ex+s.gl.getD u 0*n }
noncomputable def fj(s:Led)(u:Nat)(n:Int):Led:=fF (bE u n (dF s u n s.rs.length)) u n []
structure FixI(s:Led)(i:Nat)(t:Led):Prop where
 rl:t.rs.length=s.rs.length
 ml:t.rm.length=s.rm.length
 ll:t.ln.length<=s.ln.length+i
 at_:∀j,i<=j->t.rs[j]?=s.rs[j]?
 nl:(∀d∈s.rm,NoL d)->∀d∈t.rm,NoL d
 eq:t.bs=s.bs/\t.gl=s.gl/\t.st=s.st/\t.td=s.td/\t.lm=s.lm/\t.mm=s.mm/\t.gs=s.gs/\t.ex=s.ex/\t.gn=s.gn
theorem jg(s:Led)(u:Nat)(n:Int):∀i,FixI s i (dF s u n i)
 |0=>⟨S,S,Iu _,λ_ _=>rfl,λh=>h,S,S,S,S,S,S,S,S,S⟩
 |i+1=>by
  have h:=jg s u n i;rw[jX];generalize dF s u n i=t at h;unfold gL;split
  ·show⟨h.rl,h.ml,by have:=h.ll;omega,λj a=>h.at_ j (),h.nl,h.eq⟩
  ·refine⟨by rw[Iv];show h.rl,by rw[Iv];show h.ml,by rw[Io,IX];have:=h.ll;omega,λj a=>?_,λc d hd=>?_,h.eq⟩
   ·change (t.rs.set i _)[j]?=_;rw[IP ()];show h.at_ j ()
   ·rcases KR hd with hd|rfl
    ·show h.nl c d hd
    ·show .int _
theorem mM{s:Led}{u:Nat}{e:Int}(a:∀d∈s.mm,NoL d)(c:∀d∈s.lm,NoL d)(g:u<s.mm.length)(h:u<s.lm.length):NoL (dJ s u e):=by
 unfold dJ;split
 ·show .tup (bA (a _ (cD g)) (bA (.int _) dl))
 ·show .tup (bA (c _ (cD h)) (bA (.int _) dl))
structure FixP(s:Led)(u:Nat)(n:Int):Prop where
 us:u∈s.st
 um:u<s.mm.length
 ul:u<s.lm.length
 ug:u<s.gl.length
 ml:s.rm.length=s.rs.length
 rl:s.rs.length<=100
 ll:s.ln.length<800
 gl:s.gs.length<1000
 nl:s.gn.length<1000
 bn:cM n
 rr:∀r∈s.rs,u<r.1.length/\r.1.length<=1000/\∀x∈r.1,cM x
 gg:∀x∈s.gl,cM x
 n1:∀d∈s.rm,NoL d
 n2:∀d∈s.mm,NoL d
 n3:∀d∈s.lm,NoL d
inductive y_Ledger__fix(as:List Sm)(R:Sm->List Om->Prop)(Rx:XD->List Om->Prop):Prop|mk (a:Option Addr) (s:Led) (u:Nat) (n:Int) (_:as=[.ob a (bQ s),.v (ba u),.v (.int n)]) (_:FixP s u n) (_:R (.v .non) [bQ (fj s u n)])
theorem FX(F:Fun K "fix" "Ledger.fix" nW f G){C:Addr}(g:TxtLedger K mg C)(HV:Cl P w K mg base n "without" ["entries","unknown"] z_without)(Ni:MthM P w K mg base n C "let_go" ["self","unknown","least","rows"] y_Ledger__let_go)(M3:MthM P w K mg base n C "put_line" ["self","shares","divisor"] y_Ledger__put_line)(oH:MthD P w K mg base n C "bound_share" ["self","unknown","entry"] z_Ledger__bound_share)(cm:mg "range"=ŕ)(aV:mg "len"=ŕ):FnOk P w K mg base aN (n+1) f G ["self","unknown","number"] (lSpM K y_Ledger__fix):=by
 refine F.okM qab (λas R Rx h=>?_) (λM5 A outer s H E as R Rx qs M9 l h Nh=>?_)
 ·let⟨a,s,u,m,rfl,_⟩:=h;rfl
 let⟨a,s,u,m,rfl,j,q⟩:=h;let⟨pa,rfl⟩:=dq Nh
 refine⟨_,(ao (fq IW S (ui S cm (ay (cG (bu bU S aV IV (aH (PD.q (aZ g.cl g.n_rows g.ns (ac 0))) aM aW) aW ae)) aS bj)) (cE (i:=3) qab.nd S VF) (ao (aB (i:=4) qab.nd S VF (cG (bv (PD.q (aZ g.cl g.n_rows g.ns (ac 0))) (ac 3) (λ_ _=>rfl))))
   (ao (aB (i:=5) qab.nd S VF (af (bv (PD.q (au (ac 4))) (ac 1) (λ_ _=>rfl))))
   (aF (bB (bx (aG (e5 l.units) (ac 5) (PD.q ah) (aw _))) (ao (aB (i:=6) qab.nd S VF (cG (bw (ad (bw (ad (bv (PD.q (aZ g.cl g.n_row_marks g.ns (ac 0))) (ac 3) (λ_ _=>rfl)) (ad ah am aL) aC)) (ad (rc oH l g.cl g.ns (dv 0) (ad (dv 1) (ad (dv 5) am aa) aa) aa (ar aa ae)) am bj) bC))))
   (ao (iG 0 g.cl g.n_row_marks g.ns (eS 0 M3 l g.cl g.ns (ay (af (dv 6)) (ay (af ah) aS aL) aa) aa (ar aL ae)) (dv 3))
   (aF (iG 0 g.cl g.n_rows g.ns (af (bw (ad (bg HV l S (ad (au (ac 4)) (ad (dv 1) am aa) aC) aC (ar aa ae)) (ad (aO cV (PD.q (au (ac 4))) (PD.q (aO cr (ac 5) (ac 2)))) am bO) bj))) (dv 3))))) bP)))))
   (ao (aB (i:=7) qab.nd S VF (cG (bv (PD.q (aZ g.cl g.n_goal g.ns (ac 0))) (ac 1) (λ_ _=>rfl))))
   (bR (bB (bx (aG (e5 l.units) (ac 7) (PD.q ah) (aw _))) (ao (qU 0 g.cl g.n_goal_shares g.ns (rc oH l g.cl g.ns (dv 0) (ad (dv 1) (ad (dv 7) am aa) aa) aa (ar aa ae)) (dA bj) bj)
   (aF (fb 0 g.cl g.n_extra g.ns (cG (aO bI (PD.q (aZ g.cl g.n_extra g.ns (ac 0))) (PD.q (aO cr (ac 7) (ac 2)))))))) bP)
   (aF (fU (eS 0 Ni l g.cl g.ns (ay (af (dv 1)) (ay (af (dv 2)) (ay (af (PF.d (dk am))) aS vX) aa) aa) aa (ar aa (ar vX ae)))))))),?_⟩
 intro ke;have Nq:=j.rl;refine⟨S,_,S,.int _,⟨by rw[Il];omega,by rw[Il];omega⟩,λi ρ=>∃L M N B:Ŗ Sm,ρ=[Z (.ob (Z pa) (bQ (dF s u m i))),Z (.v (ba u)),Z (.v (.int m)),L,M,N,B,ŕ],⟨_,_,_,_,S⟩,?_,?_⟩
 ·rintro i d ρ hd ⟨L,M,N,B,rfl⟩;let⟨hi,rfl⟩:=ia hd
  have O:i<s.rs.length:=by rw[Il]at hi;omega
  have I:=jg s u m i;have e1:=jX s u m i;generalize dF s u m i=t at *
  have Q:t.rs[i]?=Z s.rs[i]:=by rw[I.at_ i (Iu _)];show bL O
  have be:bS t.rs i=s.rs[i]:=cq Q;let⟨b_,U5,P6⟩:=j.rr s.rs[i] (KS O)
  have a_:i<t.rm.length:=by rw[I.ml,j.ml];show O
  let⟨q1,X,q3,q4,y,z,q7,q8,q9⟩:=I.eq
  have p:u<t.mm.length:=by rw[z];show j.um
  have o:u<t.lm.length:=by rw[y];show j.ul
  have x:NoL (t.rm.getD i .non):=I.nl j.n1 _ (cD a_);have J:∀e,NoL (dJ t u e):=λe=>mM (by rw[z];show j.n2) (by rw[y];show j.n3) p o;have hll:=I.ll;have hlr:=j.ll;refine⟨S,_,S,ax s.rs[i],cP Q (Jt _),mX _,?_⟩;refine⟨_,S,_,cP (i:=u) (ce (d:=0) b_) S,?_⟩;have Qm:cM (s.rs[i].1.getD u 0):=P6 _ (cD b_);generalize l:s.rs[i]=r at *;generalize v:r.1.getD u 0=e at *;by_cases c:e=0
  ·have e2:dF s u m (i+1)=t:=by rw[e1];unfold gL;rw[be,v,Iw c]
   refine⟨λh=>?_,λ_=>⟨Z (.v (.int (0+(i:Nat)))),Z (.v (ax r)),Z (.v (.int e)),B,by rw[e2];rfl⟩⟩;rw[c]at h;cases h
  ·refine⟨λ_=>?_,λh=>?_⟩
   ·refine⟨S,_,S,t.rm.getD i .non,gJ (ce a_) (Jt _),S,S,t,u,e,S,p,o,.tup (bA (.tup (bA x (bA (.int _) dl))) (bA (J e) dl)),?_⟩;refine⟨⟨_,_,S,S⟩,_,S,S,_,t,_,_,S,.tup (bA (.tup (bA x (bA (.int _) dl))) (bA (J e) dl)),(),?_⟩;rfl';refine⟨_,_,t.rm,S,S,_,i,S,by rw[Jt];show eZ a_,dZ { t with ln:=t.ln++[cL (.tup [.tup [t.rm.getD i .non,.int 1],dJ t u e]) 1],rm:=t.rm.set i (dL t) },S,?_⟩;refine⟨_,S,r.1,u,S,U5,_,S,io Qm j.bn,_,_,t.rs.map ax,S,S,_,i,S,by rw[Jt,Il];show eZ (az Q),dZ (gL u m t i),?_,?_⟩
    ·unfold gL;rw[be,v,Ir c];rw[show D.tup [D.tup ((r.1.set u 0).map D.int),D.int (r.2-e*m)]=ax (r.1.set u 0,r.2-e*m)from rfl,←KD];rfl
    ·show⟨Z (.v (.int (0+(i:Nat)))),Z (.v (ax r)),Z (.v (.int e)),Z (.v (.tup [.tup [t.rm.getD i .non,.int 1],dJ t u e])),by rw[e1];rfl⟩
   ·have h':(!(e==0))=Ř:=h
    have:(e==0)=ŗ:=by simpa using h'
    show absurd (eq_of_beq this) c
 ·rintro ρ ⟨L,M,N,B,rfl⟩
  have eL:(cY 0 (((s.rs.map ax).length:Nat):Int).toNat).length=s.rs.length:=by rw[gA,Il];omega
  rw[eL];have I:=jg s u m s.rs.length;have e0:fj s u m=fF (bE u m (dF s u m s.rs.length)) u m []:=rfl;generalize dF s u m s.rs.length=t at *;let⟨q1,X,q3,q4,y,z,q7,q8,q9⟩:=I.eq
  have p:u<t.mm.length:=by rw[z];show j.um
  have o:u<t.lm.length:=by rw[y];show j.ul
  have hg:u<t.gl.length:=by rw[X];show j.ug
  have J:∀e,NoL (dJ t u e):=λe=>mM (by rw[z];show j.n2) (by rw[y];show j.n3) p o;have T:cM (t.gl.getD u 0):=j.gg _ (by rw[←X];show cD hg);refine⟨S,_,S,_,cP (i:=u) (ce (d:=0) hg) S,.int _,?_⟩;refine⟨λρ=>ρ=[Z (.ob (Z pa) (bQ (bE u m t))),Z (.v (ba u)),Z (.v (.int m)),L,M,N,B,Z (.v (.int (t.gl.getD u 0)))],?_,?_⟩
  ·generalize v:t.gl.getD u 0=e at *;by_cases c:e=0
   ·refine⟨λh=>?_,λ_=>?_⟩
    ·rw[c]at h;cases h
    ·have:bE u m t=t:=by unfold bE;rw[v,Iw c]
     rw[this];rfl
   ·refine⟨λ_=>?_,λh=>?_⟩
    ·refine⟨_,_,t.gs,S,S,S,S,t,u,e,S,p,o,J e,by rw[q7];show br (by have:=j.gl;omega),dZ { t with gs:=t.gs++[dJ t u e] },S,?_⟩;refine⟨S,_,S,io T j.bn,.int _,_,_,S,S,(by change 12<1000;decide),dZ (bE u m t),?_,S⟩;unfold bE;rw[v,Ir c];rfl
    ·have h':(!(e==0))=Ř:=h
     have:(e==0)=ŗ:=by simpa using h'
     show absurd (eq_of_beq this) c
  rintro ρ rfl
  have NI:(bE u m t).st=t.st:=by unfold bE;split<;>rfl
  have U:(bE u m t).gn=t.gn:=by unfold bE;split<;>rfl
  rw[e0]at q;show⟨⟨_,_,S,S⟩,_,S,S,_,bE u m t,u,m,[],S,by rw[NI,q3];show j.us,by rw[U,q9];show j.nl,_,S,q⟩
noncomputable def b9(s:Led)(u:Nat):Y Nat:=(List.range s.rs.length).filter λi=>decide ((bS s.rs i).1.getD u 0≠0)
noncomputable def gS(s:Led)(u:Nat):Led:=(b9 s u).reverse.foldl bW (fF s u (ap s.bs u).1 ((b9 s u).map (bS s.rs)))
theorem tZ:∀{e:Y Nat}{n i p:Nat},e.Pairwise (λx y=>y<x)->(∀x∈e,x<n)->e[i]?=Z p->p+i<n
 | [],n,i,p,_,_,h=>by cases h
 |q::t,n,0,p,_,a,h=>by cases h;show a _ Iy
 |q::t,n,i+1,p,c,a,h=>by
  rw[K3]at c;have:=tZ (n:=q) c.2 (λx g=>c.1 x g) (show t[i]?=Z p from h);have:=a q Iy;omega
theorem qa(s:Led)(u:Nat):(b9 s u).reverse.Pairwise (λx y=>y<x):=by rw[ML];show K5.filter _
theorem oC{s:Led}{u x:Nat}(h:x∈b9 s u):x<s.rs.length:=IY.mp (Jq.mp h).1
theorem qk(s:Led):∀(ps:Y Nat),ps.Pairwise (λx y=>y<x)->(∀x∈ps,x<s.rs.length)->s.rm.length=s.rs.length->(ps.foldl bW s).rs.length=s.rs.length-ps.length/\(ps.foldl bW s).rm.length=s.rs.length-ps.length
 | [],_,_,a=>⟨S,a⟩
 |p::ps,c,h,a=>by
  rw[K3]at c;have g:=h p Iy;have e:(bW s p).rs.length=s.rs.length-1:=JF g
  have l:(bW s p).rm.length=s.rs.length-1:=by rw[←a];show JF (by rw[a];show g)
  have:=qk (bW s p) ps c.2 (λx j=>by rw[e];have:=c.1 x j;omega) (by rw[e,l]);rw[e]at this;change (ps.foldl bW (bW s p)).rs.length=_/\(ps.foldl bW (bW s p)).rm.length=_;rw[this.1,this.2,IH];omega
structure HangP(s:Led)(u:Nat):Prop where
 us:u∈s.st
 ub:u<s.bs.length
 ml:s.rm.length=s.rs.length
 rl:s.rs.length<=100
 nl:s.gn.length<1000
 rr:∀r∈s.rs,u<r.1.length
inductive y_Ledger__hang(as:List Sm)(R:Sm->List Om->Prop)(Rx:XD->List Om->Prop):Prop|mk (a:Option Addr) (s:Led) (u:Nat) (_:as=[.ob a (bQ s),.v (ba u)]) (_:HangP s u) (_:R (.v .non) [bQ (gS s u)])
theorem Hb(F:Fun K "hang" "Ledger.hang" jI f G){o:Addr}(c:TxtLedger K mg o)(N:MthM P w K mg base n o "let_go" ["self","unknown","least","rows"] y_Ledger__let_go)(J:MthM P w K mg base n o "drop_row" ["self","place"] y_Ledger__drop_row)(rA:mg "reversed"=ŕ)(U:mg "enumerate"=ŕ):FnOk P w K mg base aN (n+1) f G ["self","unknown"] (lSpM K y_Ledger__hang):=by
 refine F.okM qac (λas R a_ h=>?_) (λM5 A outer s H E as R a_ qs M9 y h M=>?_)
 ·let⟨a,s,u,rfl,_⟩:=h;rfl
 let⟨a,s,u,rfl,g,q⟩:=h;let⟨pa,rfl⟩:=dq M
 refine⟨_,(ao (CC (i:=2) (k:=2) (N':=["place","row","unknown"]) (cap:=[ŕ,ŕ,Z 1]) S qac.nd S VF (.ok (show bX ["self","unknown","places","place"] (av jI) _ ["place","row","unknown"] [ŕ,ŕ,Z 1]=ŗ by lia)) 'a' (iW (n:=2) (fE (bM 'b') (fE (bM 'b') jb))) (ge S U (ad (aZ c.cl c.n_rows c.ns (ac 0)) am aW)) (λ_ _ _ _ _=>(eO (n:=2) S (cf (bc (i:=0) (show List.Nodup (["place","row","unknown"]:Y Str)by lia) S VF) (cf (bc (i:=1) (show List.Nodup (["place","row","unknown"]:Y Str)by lia) S VF) eN)))) (λ_ _ _ _ _=>(jr (aG (e5 y.units) (PD.q (bv (PD.q (au (ac 1))) (ac 2) (λ_ _=>rfl))) (PD.q ah) (aw _)))) (λ_ _ _ _ _=>(dv 0)))
   (iE 2 (ao (fU (eS 0 N y c.cl c.ns (ay (af (dv 1)) (ay (cG (au (PD.q (bv (PD.q (aZ c.cl c.n_bounds c.ns (ac 0))) (ac 1) (λ_ _=>rfl))))) (ay (uf (rM (dG (k:=1) (N':=["place","self"]) (cap:=[ŕ,Z 0]) S (.ok (show bX ["self","unknown","places","place"] (av jI) _ ["place","self"] [ŕ,Z 0]=ŗ by lia)) 'a' (bM 'b') (ca (dv 2)) (λ_ _ _ _ _=>(bc (i:=0) (show List.Nodup (["place","self"]:Y Str)by lia) S VF)) (λ_ _ _ _ _=>(bv (PD.q (aZ c.cl c.n_rows c.ns (ac 1))) (ac 0) (λ_ _=>rfl)))))) aS bD) aC) aa) aa (ar aC (ar bD ae))))
   (aF (fq IW S (fM (xP S rA (ad (dv 2) am aa))) (cE (i:=3) qac.nd S VF) (aF (fU (eS 0 J y c.cl c.ns (ay (af (dv 3)) aS aa) aa ae)))))))),?_⟩
 intro ke;have Nq:=g.rl
 have hps:(b9 s u).length<=s.rs.length:=by
  have:=JN (λi=>decide ((bS s.rs i).1.getD u 0≠0)) (List.range s.rs.length)
  rwa [IF]at this
 refine⟨S,_,S,by rw[eG,Il];show br (),iL (λi=>decide ((bS s.rs i).1.getD u 0≠0)) (λi=>ba i),λi d hd=>?_,λys B hy=>?_⟩
 ·let⟨e,b_,rfl⟩:=fZ hd;let⟨r,rfl,j⟩:=cg b_;have ex:bS s.rs i=r:=cq j;have T:=g.rr r (ID j);refine⟨S,_,S,_,cP (i:=u) (ce (d:=0) T) S,λh=>⟨S,?_⟩,λh=>?_⟩
  ·change decide ((bS s.rs i).1.getD u 0≠0)=ŗ;rw[ex]
   show Jh λe=>by rw[e]at h;cases h
  ·change decide ((bS s.rs i).1.getD u 0≠0)=Ř;rw[ex];refine Jb λe=>?_;have h':(!(r.1.getD u 0==0))=Ř:=h
   have:(r.1.getD u 0==0)=ŗ:=by simpa using h'
   show e (eq_of_beq this)
 rw[eG,Il]at B;rw[show ys.filterMap id=(b9 s u).map ba from jC B hy];refine⟨λd hd=>by let⟨x,_,rfl⟩:=I0.mp hd;show .int _,?_⟩;rfl';refine⟨⟨_,_,S,S⟩,S,_,S,_,eP g.ub S,_,S,.int _,gz (f:=ba) (λp=>ax (bS s.rs p)) (br ()) (λp l=>⟨S,_,S,_,cP (ce (oC l)) S,S⟩) ?_⟩;refine⟨λd hd=>?_,_,S,S,_,s,u,(ap s.bs u).1,(b9 s u).map (bS s.rs),by rw[Jw];rfl,g.us,g.nl,?_⟩
 ·let⟨x,_,rfl⟩:=I0.mp hd;show mX _
 rfl';have X:gS s u=(b9 s u).reverse.foldl bW (fF s u (ap s.bs u).1 ((b9 s u).map (bS s.rs))):=rfl;have v:(fF s u (ap s.bs u).1 ((b9 s u).map (bS s.rs))).rs=s.rs:=rfl;have O:(fF s u (ap s.bs u).1 ((b9 s u).map (bS s.rs))).rm=s.rm:=rfl;generalize fF s u (ap s.bs u).1 ((b9 s u).map (bS s.rs))=t at *;have I:=qa s u;have C:∀x∈(b9 s u).reverse,x<s.rs.length:=λx j=>oC (LK.mp j);refine⟨λi ρ=>∃z:Ŗ Sm,ρ=[Z (.ob (Z pa) (bQ (((b9 s u).reverse.take i).foldl bW t))),Z (.v (ba u)),Z (.v (.lst ((b9 s u).map ba))),z],⟨_,S⟩,?_,?_⟩
 ·rintro i d ρ hd ⟨z,rfl⟩;rw[←List.map_reverse]at hd;let⟨p,rfl,l⟩:=cg hd;have hpi:=tZ I C l;have L:=qk t ((b9 s u).reverse.take i) (I.sublist (List.take_sublist _ _)) (λx j=>by rw[v];show C x (L0 j)) (by rw[v,O];show g.ml)
  have Q:((b9 s u).reverse.take i).length=i:=by rw[Jv];have:=az l;omega
  rw[v,Q]at L
  have be:((b9 s u).reverse.take (i+1)).foldl bW t=bW (((b9 s u).reverse.take i).foldl bW t) p:=by rw[gG l,Mf];rfl
  generalize ((b9 s u).reverse.take i).foldl bW t=t2 at *;refine⟨⟨_,_,S,S⟩,_,S,S,_,t2,p,S,(),(),(),?_⟩;rfl';show⟨Z (.v (ba p)),by rw[be];rfl⟩
 ·rintro ρ ⟨z,rfl⟩;rw[L3,Il,←L3,JR,←X];show⟨_,S,q⟩
noncomputable def gm(bs:Y Bd)(rs:Y ag)(gs:Y Int):Led:=⟨bs,rs,gs,List.range bs.length,((dw bs rs).length:Nat),[],(List.range bs.length).map ba,jw bs,cY ((dw bs rs).length-(rs.length:Nat)) rs.length,[],0,[]⟩
theorem qm(bs:Y Bd)(rs:Y ag):rs.length<=(dw bs rs).length/\(dw bs rs).length<=2*bs.length+rs.length:=by
 unfold dw;have:=JN (cH bs) (List.range bs.length);rw[IF]at this;simp only[Io,Il,IF];omega
theorem x8(n:Nat):cY 0 n=(List.range n).map ba:=by unfold cY;refine KW λi _=>?_;rw[Jt];rfl
inductive y_Ledger____init__(as:List Sm)(R:Sm->List Om->Prop)(Rx:XD->List Om->Prop):Prop|mk (a:Option Addr) (bs:List Bd) (rs:List ag) (gs:List Int) (_:as=[.ob a (.obj "Ledger" []),.v (b8 bs rs gs)]) (_:bs.length<=8) (_:rs.length<=30) (_:R (.v .non) [bQ (gm bs rs gs)])
theorem GO(F:Fun K "__init__" "Ledger.__init__" mt f G){v:Addr}(c:TxtLedger K mg v)(x:ClM P w K mg base n "first_most_marks" ["bounds"] y_first_most_marks)(u:Cl P w K mg base n "givens" ["plan"] z_givens)(e:mg "list"=ŕ)(j:mg "len"=ŕ)(l:mg "range"=ŕ):FnOk P w K mg base aN (n+1) f G ["self","plan"] (lSpM K y_Ledger____init__):=by
 refine F.okM CH (λas R B h=>?_) (λM A outer s H E as R B U N r h y=>?_)
 ·let⟨a,bs,rs,gs,rfl,_⟩:=h;rfl
 let⟨a,bs,rs,gs,rfl,J,z,q⟩:=h;let⟨T,rfl⟩:=dq y
 refine⟨_,(ao (ij 0 c.cl c.n_bounds c.ns (dS (jB S e (PD.q (au (ac 1))) aC)))
   (ao (ij 0 c.cl c.n_rows c.ns (dS (jB S e (PD.q (au (ac 1))) aC)))
   (ao (fb 0 c.cl c.n_goal c.ns (af (au (ac 1))))
   (ao (ij 0 c.cl c.n_staying c.ns (dS (ww S S e S l (ad (bu bU S j IV (aH (PD.q (au (ac 1))) aM aC) aC ae) am bj))))
   (ao (fb 0 c.cl c.n_told c.ns (af (bu bU S j IV (aH (PD.q (bg u r S (ad (dv 1) am aa) aa ae)) aM bj) bj ae)))
   (ao (ij 0 c.cl c.n_lines c.ns (dS (dk am)))
   (ao (ij 0 c.cl c.n_least_marks c.ns (dS (ww S S e S l (ad (bu bU S j IV (aH (PD.q (au (ac 1))) aM aC) aC ae) am bj))))
   (ao (ij 0 c.cl c.n_most_marks c.ns (bi x r S (ay (af (au (ac 1))) aS aC) aC ae))
   (ao (ij 0 c.cl c.n_row_marks c.ns (rM (Ge S S e S l (ad (aO cV (PD.q (aZ c.cl c.n_told c.ns (ac 0))) (PD.q (bu bU S j IV (aH (PD.q (au (ac 1))) aM aC) aC ae))) (ad (aZ c.cl c.n_told c.ns (ac 0)) am aW) bO))))
   (ao (ij 0 c.cl c.n_goal_shares c.ns (dS (dk am)))
   (ao (fb 0 c.cl c.n_extra c.ns (af ah))
   (aF (ij 0 c.cl c.n_gone c.ns (dS (dk am))))))))))))))),?_⟩
 intro a_;have Q:=qm bs rs
 have O:((bs.map aT).length:Int)=(bs.length:Int):=by rw[Il]
 have p:(((bs.map aT).length:Nat):Int).toNat=bs.length:=by rw[Il];omega
 refine⟨_,S,_,S,_,_,S,S,'b',_,S,?_⟩;refine⟨_,S,_,S,_,_,S,S,(by change 1<1000;decide),_,S,?_⟩;refine⟨_,S,_,_,S,S,(by change 2<1000;decide),_,S,?_⟩;refine⟨_,S,⟨(),()⟩,_,_,S,S,(by change 3<1000;decide),_,S,?_⟩;refine⟨bs,rs,_,S,J,z,_,_,S,S,(by change 4<1000;decide),_,S,?_⟩;refine⟨_,_,S,S,(by change 5<1000;decide),_,S,?_⟩;refine⟨_,S,⟨(),()⟩,_,_,S,S,(by change 6<1000;decide),_,S,?_⟩;refine⟨_,S,_,S,S,bs,S,(),_,_,S,S,(by change 7<1000;decide),_,S,?_⟩;rfl'
 have g:((((dw bs rs).map ax).length:Nat):Int)=((dw bs rs).length:Nat):=by rw[Il]
 have o:(((rs.map ax).length:Nat):Int)=(rs.length:Nat):=by rw[Il]
 refine⟨S,_,S,_,S,S,_,S,⟨⟨(),(),(),()⟩,()⟩,λd hd=>?_,_,_,S,S,(by change 8<1000;decide),_,S,?_⟩
 ·let⟨i,L⟩:=J0 hd;rw[(ia L).2];show .int _
 refine⟨_,_,S,S,(by change 9<1000;decide),_,S,?_⟩;refine⟨_,_,S,S,(by change 10<1000;decide),_,S,?_⟩;refine⟨_,_,S,S,(by change 11<1000;decide),dZ (gm bs rs gs),?_,?_⟩
 ·have C:cY 0 (((bs.map aT).length:Nat):Int).toNat=(List.range bs.length).map ba:=by rw[p,x8]
  have I:cY (((((dw bs rs).map ax).length:Nat):Int)-(((rs.map ax).length:Nat):Int)) ((((((dw bs rs).map ax).length:Nat):Int)-(((((dw bs rs).map ax).length:Nat):Int)-(((rs.map ax).length:Nat):Int))).toNat)=cY ((dw bs rs).length-(rs.length:Nat)) rs.length:=by rw[g,o];congr 1;omega
  rw[C,I,g];rfl
 ·show⟨_,S,q⟩
noncomputable def i8(b:Bd):Bool:=match b.2 with|some m=>decide (m<b.1)|none=>Ř
inductive z_is_crossed(ds:List D)(R:D->Prop):Prop|mk (b:Bd) (_:ds=[aT b]) (_:R (.bl (i8 b)))
theorem FW(F:Fun K "is_crossed" "is_crossed" l6 f G) :FnOk P w K mg base aN (n+1) f G ["pair"] (lSp K z_is_crossed):=by
 refine F.okD FF (λds R h=>?_) (λa A outer s H E ds R c h=>?_)
 ·let⟨b,rfl,_⟩:=h;rfl
 let⟨b,rfl,q⟩:=h;refine⟨_,(aU (bf (il (dQ ef (PD.q (au (ac 0))) (PD.q bt) (aw _)) (jN (dQ ei (PD.q (au (ac 0))) (PD.q (au (ac 0))) (aw _)))))),?_⟩;let⟨l,m⟩:=b
 cases m with
 |none=>show⟨_,S,ff,λ_=>q⟩
 |some m=>show⟨_,S,λ_=>⟨_,S,_,S,q⟩,tf⟩
noncomputable def bF(b:Bd)(e:Int):Int:=if 0<e then e*b.2.getD 0 else if e<0 then e*b.1 else 0
noncomputable def c9(b:Bd)(e:Int):Bool:=!(decide (0<e)&&b.2.isNone)
noncomputable def dD(bs:Y Bd)(es:Y Int):Bool:=(List.zipWith c9 bs es).all id
noncomputable def eX(bs:Y Bd)(es:Y Int):Ŗ Int:=if dD bs es then Z (List.zipWith bF bs es).sum else ŕ
noncomputable abbrev ku(b:Bd):Prop:=cM b.1/\∀m,b.2=Z m->cM m
theorem pN{c e j:Type}{f:c->e->j}{as:Y c}{bs:Y e}{i:Nat}{a:c}{b:e}(g:as[i]?=Z a)(h:bs[i]?=Z b):List.zipWith f (as.take (i+1)) (bs.take (i+1))=List.zipWith f (as.take i) (bs.take i)++[f a b]:=by
 rw[gG g,gG h,Lh (by rw[Jv,Jv];have:=az g;have:=az h;omega)];rfl
theorem vE{a c e:Type}{f:a->c->e}{as:Y a}{bs:Y c}{n:Nat}(h:n=min as.length bs.length):List.zipWith f (as.take n) (bs.take n)=List.zipWith f as bs:=by
 rw[←List.take_zipWith,J1 (by rw[List.length_zipWith];omega)]
theorem qS{bs:Y Bd}{es:Y Int}{i:Nat}{b:Bd}{e:Int}(a:bs[i]?=Z b)(c:es[i]?=Z e)(h:dD (bs.take i) (es.take i)=ŗ)(g:c9 b e=ŗ):dD (bs.take (i+1)) (es.take (i+1))=ŗ:=by unfold dD at h ⊢;rw[pN a c,List.all_append,h];simp[g]
theorem EI{bs:Y Bd}{es:Y Int}{i:Nat}{b:Bd}{e:Int}(a:bs[i]?=Z b)(c:es[i]?=Z e)(g:c9 b e=Ř):dD bs es=Ř:=by unfold dD;rw[List.all_eq_false];refine⟨c9 b e,ID (i:=i) (by rw[KH,a,c]),?_⟩;rw[g];decide
theorem pq{bs:Y Bd}{es:Y Int}{i:Nat}{b:Bd}{e x:Int}(a:bs[i]?=Z b)(c:es[i]?=Z e)(g:bF b e=x):(List.zipWith bF (bs.take i) (es.take i)).sum+x=(List.zipWith bF (bs.take (i+1)) (es.take (i+1))).sum:=by rw[pN a c,K2,g];simp
inductive z_greatest_sum(ds:List D)(R:D->Prop):Prop|mk (d1 d2:D) (bs:List Bd) (es:List Int) (_:ds=[d1,d2]) (_:fh d1=Z (bs.map aT)) (_:fh d2=Z (es.map D.int)) (_:(∀b∈bs,ku b)) (_:(∀x∈es,cM x)) (_:R (oI (eX bs es)))
theorem FI(F:Fun K "greatest_sum" "greatest_sum" mf f G)(I:mg "zip"=ŕ):FnOk P w K mg base aN (n+1) f G ["bounds","entries"] (lSp K z_greatest_sum):=by
 refine F.okD qaC (λds R h=>?_) (λU A outer s H E ds R T h=>?_)
 ·let⟨p,r,bs,es,rfl,_⟩:=h;rfl
 let⟨p,r,bs,es,rfl,J,L,M,N,q⟩:=h
 refine⟨_,(bK (dz (i:=2) qaC.nd S VF ah)
   (bK (fe IW S (kz S I (ad (dv 0) (ad (dv 1) am aa) aa)) (eO (n:=2) S (cf (bc (i:=3) qaC.nd S VF) (cf (bc (i:=4) qaC.nd S VF) eN))) (aU (cA (aG ei (ac 4) (PD.q ah) (aw _)) (e9 (cA (aG gy (PD.q (au (ac 3))) (PD.q bt) (aw _)) (aU (bf bt)) cI)
   (aU (dz (i:=2) qaC.nd S VF (aO bI (ac 2) (PD.q (aO cr (ac 4) (PD.q (au (ac 3))))))))) (aU (cA (aG fm (ac 4) (PD.q ah) (aw _)) (aU (dz (i:=2) qaC.nd S VF (aO bI (ac 2) (PD.q (aO cr (ac 4) (PD.q (au (ac 3)))))))) cI)))))
   (aU (bf (dv 2))))),?_⟩
 refine⟨_,_,J,L,λi ρ=>∃u v:Ŗ Sl,ρ=[Z (.v p),Z (.v r),Z (.v (.int (List.zipWith bF (bs.take i) (es.take i)).sum)),u,v]/\dD (bs.take i) (es.take i)=ŗ,⟨_,_,S,S⟩,?_,?_⟩
 ·rintro i d ρ hd ⟨u,v,rfl,j⟩;rw[lV]at hd;let⟨⟨b,e⟩,rfl,Q⟩:=cg hd;let⟨a,c⟩:=Lk.mp Q;have bb:=M b (ID a);have y:=N e (ID c);refine⟨S,?_⟩;by_cases g:0<e
  ·refine⟨λ_=>?_,λh=>absurd g (JC h)⟩;let⟨l,m⟩:=b
   cases m with
   |none=>
    have z:eX bs es=ŕ:=by unfold eX;rw[EI a c (by unfold c9;simp[g])];rfl
    rw[z]at q;show⟨λ_=>False,⟨_,S,λ_=>q,tf⟩,λρ h=>h.elim⟩
   |some m=>
    refine⟨λρ=>ρ=[Z (.v p),Z (.v r),Z (.v (.int (List.zipWith bF (bs.take i) (es.take i)).sum)),Z (.v (aT (l,Z m))),Z (.v (.int e))],⟨_,S,ff,λ_=>rfl⟩,?_⟩;rintro ρ rfl;refine⟨_,S,io y (bb.2 m S),Z (.v (aT (l,Z m))),Z (.v (.int e)),?_,qS a c j (by unfold c9;simp)⟩;rw[←pq a c (x:=e*m) (by unfold bF;rw[Iw g];rfl)];rfl
  ·refine⟨λh=>absurd (dP h) g,λ_=>?_⟩;by_cases o:e<0
   ·refine⟨λ_=>?_,λh=>absurd o (JC h)⟩;refine⟨_,S,io y bb.1,Z (.v (aT b)),Z (.v (.int e)),?_,qS a c j (by unfold c9;simp[g])⟩;rw[←pq a c (x:=e*b.1) (by unfold bF;rw[Ir g,Iw o])];rfl
   ·refine⟨λh=>absurd (dP h) o,λ_=>⟨Z (.v (aT b)),Z (.v (.int e)),?_,qS a c j (by unfold c9;simp[g])⟩⟩;rw[←pq a c (x:=0) (by unfold bF;rw[Ir g,Ir o]),La];rfl
 ·rintro ρ ⟨u,v,rfl,j⟩
  have O:(gk (bs.map aT) (es.map D.int)).length=min bs.length es.length:=by rw[lV,Il,MD]
  rw[O]at j ⊢
  have B:dD bs es=ŗ:=by unfold dD at j ⊢;rw[vE S]at j;show j
  have C:eX bs es=Z (List.zipWith bF bs es).sum:=by unfold eX;rw[Iw B]
  rw[C]at q;rw[vE S];show q
noncomputable def mV(bs:Y Bd)(es:Y Int):Ŗ Int:=(eX bs (es.map (- ·))).map (- ·)
inductive z_least_sum(ds:List D)(R:D->Prop):Prop|mk (d1:D) (bs:List Bd) (es:List Int) (_:ds=[d1,.tup (es.map D.int)]) (_:fh d1=Z (bs.map aT)) (_:es.length<=1000) (_:(∀b∈bs,ku b)) (_:(∀x∈es,cM x)) (_:R (oI (mV bs es)))
theorem GC(F:Fun K "least_sum" "least_sum" kS f G)(u:Cl P w K mg base n "greatest_sum" ["bounds","entries"] z_greatest_sum):FnOk P w K mg base aN (n+1) f G ["bounds","entries"] (lSp K z_least_sum):=by
 refine F.okD qaI (λds R h=>?_) (λv A outer s H E ds R o h=>?_)
 ·let⟨a,bs,es,rfl,_⟩:=h;rfl
 let⟨a,bs,es,rfl,c,l,g,j,q⟩:=h
 refine⟨_,(bK (dz (i:=2) qaI.nd S VF (bg u o S (ad (dv 0) (ad (PF.d (dG (k:=1) (N':=["entry"]) (cap:=[ŕ]) S (.ok (show bX ["bounds","entries","total"] (av kS) _ ["entry"] [ŕ]=ŗ by lia)) 'a' (bM 'b') (ca (dv 1)) (λ_ _ _ _ _=>(bc (i:=0) (show List.Nodup (["entry"]:Y Str)by lia) S VF)) (λ_ _ _ _ _=>(cQ (ac 0))))) am bD) aa) aa (ar bD ae)))
   (aU (bf (nz (aG gy (ac 2) (PD.q bt) (aw _)) bt (cQ (ac 2)))))),?_⟩
 refine jQ (f:=D.int) (λx=>-x) (br l) (λx _=>rfl) ?_;refine⟨_,_,bs,es.map (- ·),S,c,S,g,λx p=>?_,?_⟩
 ·let⟨y,r,rfl⟩:=I0.mp p;change (-y).natAbs<_;rw[Lb];show j y r
 unfold mV at q
 cases e:eX bs (es.map (- ·))with
 |none=>rw[e]at q;show⟨λ_=>q,tf⟩
 |some t=>rw[e]at q;show⟨ff,λ_=>q⟩
noncomputable def oN:Ŗ Nat->D
 |none=>.non
 |some p=>ba p
theorem lc{g:Type}{c:g->Bool}:∀{rs:Y g}{i:Nat}{r:g},rs[i]?=Z r->c r=ŗ->(∀j a,j<i->rs[j]?=Z a->c a=Ř)->rs.findIdx? c=Z i
 | [],i,r,h,_,_=>by cases h
 |x::rs,0,r,h,e,_=>by cases h;rw[List.findIdx?_cons,e];rfl
 |x::rs,i+1,r,h,e,l=>by rw[List.findIdx?_cons,l 0 x () S,lc (rs:=rs) (i:=i) h e (λj a p o=>l (j+1) a () o)];rfl
theorem nQ{g:Type}{c:g->Bool}{rs:Y g}(h:∀j e,j<rs.length->rs[j]?=Z e->c e=Ř):rs.findIdx? c=ŕ:=by rw[Ml];intro x l;let⟨j,a⟩:=J0 l;show h j x (az a) a
noncomputable def dg(bs:Y Bd)(r:ag):Bool:=match eX bs r.1 with|some t=>decide (t<r.2)|none=>Ř
noncomputable def fi(bs:Y Bd)(r:ag):Bool:=match mV bs r.1 with|some t=>decide (r.2<=t)|none=>Ř
theorem ed{h:Type}{c:h->Bool}{rs:Y h}{i:Nat}{r:h}(o:∀j a,j<i->rs[j]?=Z a->c a=Ř)(p:rs[i]?=Z r)(l:c r=Ř):∀j a,j<i+1->rs[j]?=Z a->c a=Ř:=λj a u g=>by
 by_cases e:j=i
 ·rw[e,p]at g;cases g;show l
 ·show o j a () g
structure RowsP(bs:List Bd)(rs:List ag):Prop where
 bb:∀b∈bs,ku b
 rr:∀r∈rs,r.1.length<=1000/\∀x∈r.1,cM x
inductive z_hopeless_row(ds:List D)(R:D->Prop):Prop|mk (bs:List Bd) (rs:List ag) (_:ds=[.lst (bs.map aT),.lst (rs.map ax)]) (_:RowsP bs rs) (_:R (oN (rs.findIdx? (dg bs))))
theorem Aj(F:Fun K "hopeless_row" "hopeless_row" ma f G)(J:Cl P w K mg base n "greatest_sum" ["bounds","entries"] z_greatest_sum)(z:mg "enumerate"=ŕ):FnOk P w K mg base aN (n+1) f G ["bounds","rows"] (lSp K z_hopeless_row):=by
 refine F.okD qaE (λds R h=>?_) (λL A outer s H E ds R C h=>?_)
 ·let⟨bs,rs,rfl,_⟩:=h;rfl
 let⟨bs,rs,rfl,u,q⟩:=h
 refine⟨_,(bK (fe IW S (ge S z (ad (dv 1) am aa)) (eO (n:=2) S (cf (bc (i:=2) qaE.nd S VF) (cf (bc (i:=3) qaE.nd S VF) eN))) (bK (dz (i:=4) qaE.nd S VF (bg J C S (ad (dv 0) (ad (au (ac 3)) am aC) aa) aa (ar aC ae)))
   (aU (cA (PWD.td (ee (aG ef (ac 4) (PD.q bt) (aw _)) (ft (aG fm (ac 4) (PD.q (au (ac 3))) (aw _))))) (aU (bf (dv 2))) cI))))
   (aU (bf bt))),?_⟩
 refine⟨λi ρ=>∃l o p:Ŗ Sl,ρ=[Z (.v (.lst (bs.map aT))),Z (.v (.lst (rs.map ax))),l,o,p]/\∀j v,j<i->rs[j]?=Z v->dg bs v=Ř,⟨_,_,_,S,λj _ B=>absurd B (JI _)⟩,?_,?_⟩
 ·rintro i d ρ hd ⟨l,o,p,rfl,a⟩;let⟨x,I,rfl⟩:=fZ hd;let⟨r,rfl,g⟩:=cg I;let⟨M,y⟩:=u.rr r (ID g);refine⟨S,_,S,_,_,bs,r.1,S,S,S,u.bb,y,?_⟩
  cases e:eX bs r.1 with
  |none=>
   have c:dg bs r=Ř:=by unfold dg;rw[e]
   show⟨ff,λ_=>⟨ff,λ_=>⟨_,_,_,S,ed a g c⟩⟩⟩
  |some t=>
   refine⟨λ_=>⟨_,S,λh=>?_,λh=>?_⟩,tf⟩
   ·have c:dg bs r=ŗ:=by unfold dg;rw[e];show h
    rw[lc g c a]at q;show q
   ·have c:dg bs r=Ř:=by unfold dg;rw[e];show h
    show⟨_,_,_,S,ed a g c⟩
 ·rintro ρ ⟨l,o,p,rfl,a⟩;rw[eG,Il]at a;rw[nQ a]at q;show q
inductive z_idle_row(ds:List D)(R:D->Prop):Prop|mk (bs:List Bd) (rs:List ag) (_:ds=[.lst (bs.map aT),.lst (rs.map ax)]) (_:RowsP bs rs) (_:R (oN (rs.findIdx? (fi bs))))
theorem Ba(F:Fun K "idle_row" "idle_row" nX f G)(y:Cl P w K mg base n "least_sum" ["bounds","entries"] z_least_sum)(C:mg "enumerate"=ŕ):FnOk P w K mg base aN (n+1) f G ["bounds","rows"] (lSp K z_idle_row):=by
 refine F.okD qaG (λds R h=>?_) (λM A outer s H E ds R J h=>?_)
 ·let⟨bs,rs,rfl,_⟩:=h;rfl
 let⟨bs,rs,rfl,u,q⟩:=h
 refine⟨_,(bK (fe IW S (ge S C (ad (dv 1) am aa)) (eO (n:=2) S (cf (bc (i:=2) qaG.nd S VF) (cf (bc (i:=3) qaG.nd S VF) eN))) (bK (dz (i:=4) qaG.nd S VF (bg y J S (ad (dv 0) (ad (au (ac 3)) am aC) aa) aa (ar aC ae)))
   (aU (cA (PWD.td (ee (aG ef (ac 4) (PD.q bt) (aw _)) (ft (aG j7 (ac 4) (PD.q (au (ac 3))) (aw _))))) (aU (bf (dv 2))) cI))))
   (aU (bf bt))),?_⟩
 refine⟨λi ρ=>∃l o p:Ŗ Sl,ρ=[Z (.v (.lst (bs.map aT))),Z (.v (.lst (rs.map ax))),l,o,p]/\∀j v,j<i->rs[j]?=Z v->fi bs v=Ř,⟨_,_,_,S,λj _ I=>absurd I (JI _)⟩,?_,?_⟩
 ·rintro i d ρ hd ⟨l,o,p,rfl,a⟩;let⟨x,L,rfl⟩:=fZ hd;let⟨r,rfl,g⟩:=cg L;let⟨z,B⟩:=u.rr r (ID g);refine⟨S,_,S,_,bs,r.1,S,S,z,u.bb,B,?_⟩
  cases e:mV bs r.1 with
  |none=>
   have c:fi bs r=Ř:=by unfold fi;rw[e]
   show⟨ff,λ_=>⟨ff,λ_=>⟨_,_,_,S,ed a g c⟩⟩⟩
  |some t=>
   refine⟨λ_=>⟨_,S,λh=>?_,λh=>?_⟩,tf⟩
   ·have c:fi bs r=ŗ:=by unfold fi;rw[e];show h
    rw[lc g c a]at q;show q
   ·have c:fi bs r=Ř:=by unfold fi;rw[e];show h
    show⟨_,_,_,S,ed a g c⟩
 ·rintro ρ ⟨l,o,p,rfl,a⟩;rw[eG,Il]at a;rw[nQ a]at q;show q
theorem jM{c:Nat->Bool}:∀{st:Y Nat}{i u:Nat},st[i]?=Z u->c u=ŗ->(∀j u',j<i->st[j]?=Z u'->c u'=Ř)->st.find? c=Z u
 | [],i,u,h,_,_=>by cases h
 |x::st,0,u,h,a,_=>by cases h;rw[Kn,a]
 |x::st,i+1,u,h,a,e=>by rw[Kn,e 0 x () S];show jM (st:=st) (i:=i) h a (λj u' l g=>e (j+1) u' () g)
theorem lh{c:Nat->Bool}{st:Y Nat}(e:∀j u',j<st.length->st[j]?=Z u'->c u'=Ř):st.find? c=ŕ:=by rw[List.find?_eq_none];intro x g h;let⟨j,a⟩:=J0 g;rw[e j x (az a) a]at h;cases h
noncomputable def eR(bs:Y Bd)(u:Nat):Bool:=i8 (ap bs u)
inductive z_crossed_unknown(ds:List D)(R:D->Prop):Prop|mk (bs:List Bd) (st:List Nat) (_:ds=[.lst (bs.map aT),.lst (st.map ba)]) (_:(∀u∈st,u<bs.length)) (_:R (oN (st.find? (eR bs))))
theorem yO(F:Fun K "crossed_unknown" "crossed_unknown" nu f G)(p:Cl P w K mg base n "is_crossed" ["pair"] z_is_crossed):FnOk P w K mg base aN (n+1) f G ["bounds","staying"] (lSp K z_crossed_unknown):=by
 refine F.okD qaw (λds R h=>?_) (λr A outer s H E ds R l h=>?_)
 ·let⟨bs,st,rfl,_⟩:=h;rfl
 let⟨bs,st,rfl,o,q⟩:=h
 refine⟨_,(bK (fe IW S (ca (dv 1)) (bc (i:=2) qaw.nd S VF) (aU (cA (bY (PD.q (bg p l S (ad (bv (ac 0) (ac 2) (λ_ _=>rfl)) am aC) aC ae)) (λ_=>rfl)) (aU (bf (dv 2))) cI)))
   (aU (bf bt))),?_⟩
 refine⟨λi ρ=>∃e:Ŗ Sl,ρ=[Z (.v (.lst (bs.map aT))),Z (.v (.lst (st.map ba))),e]/\∀j u',j<i->st[j]?=Z u'->eR bs u'=Ř,⟨_,S,λj _ g=>absurd g (JI _)⟩,?_,?_⟩
 ·rintro i d ρ hd ⟨e,rfl,a⟩;let⟨u,rfl,c⟩:=cg hd;refine⟨_,eP (o u (ID c)) S,ap bs u,S,λh=>?_,λh=>?_⟩
  ·rw[jM c h a]at q;show q
  ·show⟨_,S,ed a c h⟩
 ·rintro ρ ⟨e,rfl,a⟩;rw[Il]at a;rw[lh a]at q;show q
noncomputable def eA(bs:Y Bd)(u:Nat):Bool:=match (ap bs u).2 with|some m=>decide ((ap bs u).1=m)|none=>Ř
inductive z_fixed_unknown(ds:List D)(R:D->Prop):Prop|mk (bs:List Bd) (st:List Nat) (_:ds=[.lst (bs.map aT),.lst (st.map ba)]) (_:(∀u∈st,u<bs.length)) (_:R (oN (st.find? (eA bs))))
theorem FL(F:Fun K "fixed_unknown" "fixed_unknown" md f G) :FnOk P w K mg base aN (n+1) f G ["bounds","staying"] (lSp K z_fixed_unknown):=by
 refine F.okD qaA (λds R h=>?_) (λy A outer s H E ds R v h=>?_)
 ·let⟨bs,st,rfl,_⟩:=h;rfl
 let⟨bs,st,rfl,x,q⟩:=h
 refine⟨_,(bK (fe IW S (ca (dv 1)) (bc (i:=2) qaA.nd S VF) (aU (cA (aG (zh v.units) (PD.q (au (PD.q (bv (ac 0) (ac 2) (λ_ _=>rfl))))) (PD.q (au (PD.q (bv (ac 0) (ac 2) (λ_ _=>rfl))))) (aw _)) (aU (bf (dv 2))) cI)))
   (aU (bf bt))),?_⟩
 refine⟨λi ρ=>∃o:Ŗ Sl,ρ=[Z (.v (.lst (bs.map aT))),Z (.v (.lst (st.map ba))),o]/\∀j u',j<i->st[j]?=Z u'->eA bs u'=Ř,⟨_,S,λj _ r=>absurd r (JI _)⟩,?_,?_⟩
 ·rintro i d ρ hd ⟨o,rfl,a⟩;let⟨u,rfl,g⟩:=cg hd;have p:=x u (ID g);refine⟨_,eP p S,_,S,_,eP p S,oI (ap bs u).2,S,?_⟩
  cases l:(ap bs u).2 with
  |none=>
   have c:eA bs u=Ř:=by unfold eA;rw[l]
   show⟨ff,λ_=>⟨_,S,ed a g c⟩⟩
  |some m=>
   refine⟨λh=>?_,λh=>?_⟩
   ·have c:eA bs u=ŗ:=by unfold eA;rw[l];show Jh (eq_of_beq h)
    rw[jM g c a]at q;show q
   ·have c:eA bs u=Ř:=by
     unfold eA;rw[l];refine Jb λe=>?_;have h':((ap bs u).1==m)=Ř:=h;rw[e,Jj]at h';cases h'
    show⟨_,S,ed a g c⟩
 ·rintro ρ ⟨o,rfl,a⟩;rw[Il]at a;rw[lh a]at q;show q
noncomputable def kY(rs:Y ag)(u:Nat):Bool:=rs.any λr=>decide (0<r.1.getD u 0)
noncomputable def hG(rs:Y ag)(u:Nat):Bool:=rs.any λr=>decide (r.1.getD u 0<0)
inductive z_has_above(ds:List D)(R:D->Prop):Prop|mk (rs:List ag) (u:Nat) (_:ds=[.lst (rs.map ax),ba u]) (_:rs.length<=1000) (_:(∀r∈rs,u<r.1.length)) (_:R (.bl (kY rs u)))
theorem FZ(F:Fun K "has_above" "has_above" ky f G)(j:mg "any"=ŕ):FnOk P w K mg base aN (n+1) f G ["rows","unknown"] (lSp K z_has_above):=by
 refine F.okD Ai (λds R h=>?_) (λl A outer s H E ds R o h=>?_)
 ·let⟨rs,u,rfl,_⟩:=h;rfl
 let⟨rs,u,rfl,e,g,q⟩:=h;refine⟨_,(aU (bf (bu (oS S) S j LO (aH (PD.q (PF.d (dG (k:=1) (N':=["row","unknown"]) (cap:=[ŕ,Z 1]) S (.ok (show bX ["rows","unknown"] (av ky) _ ["row","unknown"] [ŕ,Z 1]=ŗ by lia)) 'a' (bM 'b') (ca (dv 0)) (λ_ _ _ _ _=>(bc (i:=0) (show List.Nodup (["row","unknown"]:Y Str)by lia) S VF)) (λ_ _ _ _ _=>(dQ ei (PD.q (bv (PD.q (au (ac 0))) (ac 1) (λ_ _=>rfl))) (PD.q ah) (aw _)))))) aM bD) bD ae))),?_⟩;refine gz (f:=ax) (λr=>D.bl (decide (0<r.1.getD u 0))) (br e) (λr a=>⟨_,S,_,cP (i:=u) (ce (d:=0) (g r a)) S,S⟩) ?_
 have c:((rs.map λr=>decide (0<r.1.getD u 0)).any id)=kY rs u:=by unfold kY;rw[MT];rfl
 refine⟨rs.map λr=>decide (0<r.1.getD u 0),by rw[Jw];rfl,?_⟩;show (Ju (λz=>R (.bl z)) c).mpr q
inductive z_has_below(ds:List D)(R:D->Prop):Prop|mk (rs:List ag) (u:Nat) (_:ds=[.lst (rs.map ax),ba u]) (_:rs.length<=1000) (_:(∀r∈rs,u<r.1.length)) (_:R (.bl (hG rs u)))
theorem FB(F:Fun K "has_below" "has_below" k6 f G)(j:mg "any"=ŕ):FnOk P w K mg base aN (n+1) f G ["rows","unknown"] (lSp K z_has_below):=by
 refine F.okD yn (λds R h=>?_) (λl A outer s H E ds R o h=>?_)
 ·let⟨rs,u,rfl,_⟩:=h;rfl
 let⟨rs,u,rfl,e,g,q⟩:=h;refine⟨_,(aU (bf (bu (oS S) S j LO (aH (PD.q (PF.d (dG (k:=1) (N':=["row","unknown"]) (cap:=[ŕ,Z 1]) S (.ok (show bX ["rows","unknown"] (av k6) _ ["row","unknown"] [ŕ,Z 1]=ŗ by lia)) 'a' (bM 'b') (ca (dv 0)) (λ_ _ _ _ _=>(bc (i:=0) (show List.Nodup (["row","unknown"]:Y Str)by lia) S VF)) (λ_ _ _ _ _=>(dQ fm (PD.q (bv (PD.q (au (ac 0))) (ac 1) (λ_ _=>rfl))) (PD.q ah) (aw _)))))) aM bD) bD ae))),?_⟩;refine gz (f:=ax) (λr=>D.bl (decide (r.1.getD u 0<0))) (br e) (λr a=>⟨_,S,_,cP (i:=u) (ce (d:=0) (g r a)) S,S⟩) ?_
 have c:((rs.map λr=>decide (r.1.getD u 0<0)).any id)=hG rs u:=by unfold hG;rw[MT];rfl
 refine⟨rs.map λr=>decide (r.1.getD u 0<0),by rw[Jw];rfl,?_⟩;show (Ju (λz=>R (.bl z)) c).mpr q
noncomputable def fg(bs:Y Bd)(rs:Y ag)(gl:Y Int)(u:Nat):Bool:=!i8 (ap bs u)&&decide (gl.getD u 0<=0)&&!kY rs u
structure StayP(bs:List Bd)(rs:List ag)(gl:List Int)(st:List Nat):Prop where
 sb:∀u∈st,u<bs.length
 sg:∀u∈st,u<gl.length
 rl:rs.length<=1000
 sr:∀u∈st,∀r∈rs,u<r.1.length
inductive z_sinking_unknown(ds:List D)(R:D->Prop):Prop|mk (bs:List Bd) (rs:List ag) (gl:List Int) (st:List Nat) (_:ds=[.lst (bs.map aT),.lst (rs.map ax),.tup (gl.map D.int),.lst (st.map ba)]) (_:StayP bs rs gl st) (_:R (oN (st.find? (fg bs rs gl))))
theorem wP(F:Fun K "sinking_unknown" "sinking_unknown" oB f G)(z:Cl P w K mg base n "is_crossed" ["pair"] z_is_crossed)(v:Cl P w K mg base n "has_above" ["rows","unknown"] z_has_above):FnOk P w K mg base aN (n+1) f G ["bounds","rows","goal","staying"] (lSp K z_sinking_unknown):=by
 refine F.okD qaM (λds R h=>?_) (λB A outer s H E ds R r h=>?_)
 ·let⟨bs,rs,gl,st,rfl,_⟩:=h;rfl
 let⟨bs,rs,gl,st,rfl,e,q⟩:=h
 refine⟨_,(bK (fe IW S (ca (dv 3)) (bc (i:=4) qaM.nd S VF) (aU (cA (PWD.td (ee (cK (bY (PD.q (bg z r S (ad (bv (ac 0) (ac 4) (λ_ _=>rfl)) am aC) aC ae)) (λ_=>rfl))) (ee (aG yG (PD.q (bv (ac 2) (ac 4) (λ_ _=>rfl))) (PD.q ah) (aw _)) (ft (cK (bY (PD.q (bg v r S (ad (dv 1) (ad (dv 4) am aa) aa) aa (ar aa ae))) (λ_=>rfl))))))) (aU (bf (dv 4))) cI)))
   (aU (bf bt))),?_⟩
 refine⟨λi ρ=>∃p:Ŗ Sl,ρ=[Z (.v (.lst (bs.map aT))),Z (.v (.lst (rs.map ax))),Z (.v (.tup (gl.map D.int))),Z (.v (.lst (st.map ba))),p]/\∀j u',j<i->st[j]?=Z u'->fg bs rs gl u'=Ř,⟨_,S,λj _ y=>absurd y (JI _)⟩,?_,?_⟩
 ·rintro i d ρ hd ⟨p,rfl,a⟩;let⟨u,rfl,c⟩:=cg hd;have o:=ID c;refine⟨_,eP (e.sb u o) S,ap bs u,S,λh=>⟨_,cP (i:=u) (ce (d:=0) (e.sg u o)) S,λg=>⟨rs,u,S,e.rl,e.sr u o,λl=>?_,λl=>?_⟩,λg=>⟨ff,λ_=>?_⟩⟩,λh=>⟨ff,λ_=>?_⟩⟩
  ·have x:fg bs rs gl u=ŗ:=by unfold fg;rw[h,g,l];rfl
   rw[jM c x a]at q;show q
  ·show⟨_,S,ed a c (by unfold fg;rw[l,Ki])⟩
  ·show⟨_,S,ed a c (by unfold fg;rw[g,Ki,Kv])⟩
  ·show⟨_,S,ed a c (by unfold fg;rw[h,Kv,Kv])⟩
 ·rintro ρ ⟨p,rfl,a⟩;rw[Il]at a;rw[lh a]at q;show q
noncomputable def e7(bs:Y Bd)(rs:Y ag)(gl:Y Int)(u:Nat):Bool:=(ap bs u).2.isSome&&!i8 (ap bs u)&&decide (0<=gl.getD u 0)&&!hG rs u
inductive z_rising_unknown(ds:List D)(R:D->Prop):Prop|mk (bs:List Bd) (rs:List ag) (gl:List Int) (st:List Nat) (_:ds=[.lst (bs.map aT),.lst (rs.map ax),.tup (gl.map D.int),.lst (st.map ba)]) (_:StayP bs rs gl st) (_:R (oN (st.find? (e7 bs rs gl))))
theorem Dt(F:Fun K "rising_unknown" "rising_unknown" ou f G)(B:Cl P w K mg base n "is_crossed" ["pair"] z_is_crossed)(C:Cl P w K mg base n "has_below" ["rows","unknown"] z_has_below):FnOk P w K mg base aN (n+1) f G ["bounds","rows","goal","staying"] (lSp K z_rising_unknown):=by
 refine F.okD qaJ (λds R h=>?_) (λI A outer s H E ds R x h=>?_)
 ·let⟨bs,rs,gl,st,rfl,_⟩:=h;rfl
 let⟨bs,rs,gl,st,rfl,e,q⟩:=h
 refine⟨_,(bK (fe IW S (ca (dv 3)) (bc (i:=4) qaJ.nd S VF) (bK (dz (i:=5) qaJ.nd S VF (bv (ac 0) (ac 4) (λ_ _=>rfl)))
   (aU (cA (PWD.td (ee (aG ef (PD.q (au (ac 5))) (PD.q bt) (aw _)) (ee (cK (bY (PD.q (bg B x S (ad (dv 5) am aa) aa ae)) (λ_=>rfl))) (ee (aG j7 (PD.q (bv (ac 2) (ac 4) (λ_ _=>rfl))) (PD.q ah) (aw _)) (ft (cK (bY (PD.q (bg C x S (ad (dv 1) (ad (dv 4) am aa) aa) aa (ar aa ae))) (λ_=>rfl)))))))) (aU (bf (dv 4))) cI))))
   (aU (bf bt))),?_⟩
 refine⟨λi ρ=>∃p r:Ŗ Sl,ρ=[Z (.v (.lst (bs.map aT))),Z (.v (.lst (rs.map ax))),Z (.v (.tup (gl.map D.int))),Z (.v (.lst (st.map ba))),p,r]/\∀j u',j<i->st[j]?=Z u'->e7 bs rs gl u'=Ř,⟨_,_,S,λj _ z=>absurd z (JI _)⟩,?_,?_⟩
 ·rintro i d ρ hd ⟨p,r,rfl,a⟩;let⟨u,rfl,c⟩:=cg hd;have o:=ID c;refine⟨_,eP (e.sb u o) S,oI (ap bs u).2,S,?_⟩
  cases v:(ap bs u).2 with
  |none=>show⟨ff,λ_=>⟨ff,λ_=>⟨_,_,S,ed a c (by unfold e7;rw[v];rfl)⟩⟩⟩
  |some mm=>
   refine⟨λ_=>⟨ap bs u,S,λh=>⟨_,cP (i:=u) (ce (d:=0) (e.sg u o)) S,λg=>⟨rs,u,S,e.rl,e.sr u o,λl=>?_,λl=>?_⟩,λg=>⟨ff,λ_=>?_⟩⟩,λh=>⟨ff,λ_=>?_⟩⟩,tf⟩
   ·have y:e7 bs rs gl u=ŗ:=by unfold e7;rw[v,h,g,l];rfl
    rw[jM c y a]at q;show q
   ·show⟨_,_,S,ed a c (by unfold e7;rw[l,Ki])⟩
   ·show⟨_,_,S,ed a c (by unfold e7;rw[g,Ki,Kv])⟩
   ·show⟨_,_,S,ed a c (by unfold e7;rw[h,Ki,Kv,Kv])⟩
 ·rintro ρ ⟨p,r,rfl,a⟩;rw[Il]at a;rw[lh a]at q;show q
noncomputable def gv(bs:Y Bd)(rs:Y ag)(gl:Y Int)(u:Nat):Bool:=(ap bs u).2.isNone&&(gl.getD u 0==0)&&!hG rs u
inductive z_hanging_unknown(ds:List D)(R:D->Prop):Prop|mk (bs:List Bd) (rs:List ag) (gl:List Int) (st:List Nat) (_:ds=[.lst (bs.map aT),.lst (rs.map ax),.tup (gl.map D.int),.lst (st.map ba)]) (_:StayP bs rs gl st) (_:R (oN (st.find? (gv bs rs gl))))
theorem wN(F:Fun K "hanging_unknown" "hanging_unknown" mJ f G)(z:Cl P w K mg base n "has_below" ["rows","unknown"] z_has_below):FnOk P w K mg base aN (n+1) f G ["bounds","rows","goal","staying"] (lSp K z_hanging_unknown):=by
 refine F.okD qaD (λds R h=>?_) (λB A outer s H E ds R v h=>?_)
 ·let⟨bs,rs,gl,st,rfl,_⟩:=h;rfl
 let⟨bs,rs,gl,st,rfl,e,q⟩:=h
 refine⟨_,(bK (fe IW S (ca (dv 3)) (bc (i:=4) qaD.nd S VF) (aU (cA (PWD.td (ee (aG gy (PD.q (au (PD.q (bv (ac 0) (ac 4) (λ_ _=>rfl))))) (PD.q bt) (aw _)) (ee (aG (cp v.units) (PD.q (bv (ac 2) (ac 4) (λ_ _=>rfl))) (PD.q ah) (aw _)) (ft (cK (bY (PD.q (bg z v S (ad (dv 1) (ad (dv 4) am aa) aa) aa (ar aa ae))) (λ_=>rfl))))))) (aU (bf (dv 4))) cI)))
   (aU (bf bt))),?_⟩
 refine⟨λi ρ=>∃p:Ŗ Sl,ρ=[Z (.v (.lst (bs.map aT))),Z (.v (.lst (rs.map ax))),Z (.v (.tup (gl.map D.int))),Z (.v (.lst (st.map ba))),p]/\∀j u',j<i->st[j]?=Z u'->gv bs rs gl u'=Ř,⟨_,S,λj _ y=>absurd y (JI _)⟩,?_,?_⟩
 ·rintro i d ρ hd ⟨p,rfl,a⟩;let⟨u,rfl,c⟩:=cg hd;have o:=ID c;refine⟨_,eP (e.sb u o) S,oI (ap bs u).2,S,?_⟩
  cases r:(ap bs u).2 with
  |some mm=>show⟨ff,λ_=>⟨ff,λ_=>⟨_,S,ed a c (by unfold gv;rw[r];rfl)⟩⟩⟩
  |none=>
   refine⟨λ_=>⟨_,cP (i:=u) (ce (d:=0) (e.sg u o)) S,λg=>⟨rs,u,S,e.rl,e.sr u o,λl=>?_,λl=>?_⟩,λg=>⟨ff,λ_=>?_⟩⟩,tf⟩
   ·have x:gv bs rs gl u=ŗ:=by unfold gv;rw[r,g,l];rfl
    rw[jM c x a]at q;show q
   ·show⟨_,S,ed a c (by unfold gv;rw[l,Ki])⟩
   ·show⟨_,S,ed a c (by unfold gv;rw[g,Ki,Kv])⟩
 ·rintro ρ ⟨p,rfl,a⟩;rw[Il]at a;rw[lh a]at q;show q
noncomputable def dM(r:ag):Bool:=decide (1<bp r.1)
inductive z_uneven_row(ds:List D)(R:D->Prop):Prop|mk (rs:List ag) (_:ds=[.lst (rs.map ax)]) (_:R (oN (rs.findIdx? dM)))
theorem DT(F:Fun K "uneven_row" "uneven_row" nJ f G)(y:Cl P w K mg base n "common" ["numbers"] z_common)(o:mg "enumerate"=ŕ):FnOk P w K mg base aN (n+1) f G ["rows"] (lSp K z_uneven_row):=by
 refine F.okD qaP (λds R h=>?_) (λz A outer s H E ds R u h=>?_)
 ·let⟨rs,rfl,_⟩:=h;rfl
 let⟨rs,rfl,q⟩:=h
 refine⟨_,(bK (fe IW S (ge S o (ad (dv 0) am aa)) (eO (n:=2) S (cf (bc (i:=1) qaP.nd S VF) (cf (bc (i:=2) qaP.nd S VF) eN))) (aU (cA (aG ei (PD.q (bg y u S (ad (au (ac 2)) am aC) aC ae)) (PD.q ah) (aw _)) (aU (bf (dv 1))) cI)))
   (aU (bf bt))),?_⟩
 refine⟨λi ρ=>∃c e:Ŗ Sl,ρ=[Z (.v (.lst (rs.map ax))),c,e]/\∀j l,j<i->rs[j]?=Z l->dM l=Ř,⟨_,_,S,λj _ p=>absurd p (JI _)⟩,?_,?_⟩
 ·rintro i d ρ hd ⟨c,e,rfl,a⟩;let⟨x,v,rfl⟩:=fZ hd;let⟨r,rfl,g⟩:=cg v;refine⟨S,_,S,r.1,S,λh=>?_,λh=>?_⟩
  ·rw[lc g h a]at q;show q
  ·show⟨_,_,S,ed a g h⟩
 ·rintro ρ ⟨c,e,rfl,a⟩;rw[eG,Il]at a;rw[nQ a]at q;show q
noncomputable def gE(r:ag):Bool:=decide ((cJ r.1).length=1)
inductive z_single_row(ds:List D)(R:D->Prop):Prop|mk (rs:List ag) (_:ds=[.lst (rs.map ax)]) (_:(∀r∈rs,r.1.length<=1000)) (_:R (oN (rs.findIdx? gE)))
theorem Gp(F:Fun K "single_row" "single_row" ka f G)(I:mg "enumerate"=ŕ)(C:mg "len"=ŕ):FnOk P w K mg base aN (n+1) f G ["rows"] (lSp K z_single_row):=by
 refine F.okD qaL (λds R h=>?_) (λQ A outer s H E ds R y h=>?_)
 ·let⟨rs,rfl,_⟩:=h;rfl
 let⟨rs,rfl,N,q⟩:=h
 refine⟨_,(bK (fe IW S (ge S I (ad (dv 0) am aa)) (eO (n:=2) S (cf (bc (i:=1) qaL.nd S VF) (cf (bc (i:=2) qaL.nd S VF) eN))) (aU (cA (aG (cp y.units) (PD.q (bu bU S C IV (aH (PD.q (PF.d (oZ (k:=1) (N':=["entry"]) (cap:=[ŕ]) S (.ok (show bX ["rows","place","row"] (av ka) _ ["entry"] [ŕ]=ŗ by lia)) 'a' (bM 'b') (ca (au (ac 2))) (λ_ _ _ _ _=>(bc (i:=0) (show List.Nodup (["entry"]:Y Str)by lia) S VF)) (λ_ _ _ _ _=>(jr (aG (e5 y.units) (ac 0) (PD.q ah) (aw _)))) (λ_ _ _ _ _=>(dv 0))))) aM bD) bD ae)) (PD.q ah) (aw _)) (aU (bf (dv 1))) cI)))
   (aU (bf bt))),?_⟩
 refine⟨λi ρ=>∃p u:Ŗ Sl,ρ=[Z (.v (.lst (rs.map ax))),p,u]/\∀j z,j<i->rs[j]?=Z z->gE z=Ř,⟨_,_,S,λj _ M=>absurd M (JI _)⟩,?_,?_⟩
 ·rintro i d ρ hd ⟨p,u,rfl,a⟩;let⟨x,o,rfl⟩:=fZ hd;let⟨r,rfl,g⟩:=cg o;have B:=N r (ID g);refine⟨S,_,S,by rw[Il];show br B,iL (λi=>decide (r.1.getD i 0≠0)) (λi=>D.int (r.1.getD i 0)),λk d hd=>?_,λc v O=>?_⟩
  ·let⟨x,rfl,o⟩:=cg hd;have ex:r.1.getD k 0=x:=cq o;refine⟨λh=>⟨?_,?_⟩,λh=>?_⟩
   ·change D.int x=D.int (r.1.getD k 0);rw[ex]
   ·change decide (r.1.getD k 0≠0)=ŗ;rw[ex]
    show Jh λe=>by rw[e]at h;cases h
   ·change decide (r.1.getD k 0≠0)=Ř;rw[ex];refine Jb λe=>?_;have h':(!(x==0))=Ř:=h
    have:(x==0)=ŗ:=by simpa using h'
    show e (eq_of_beq this)
  rw[Il]at v;have L:c.filterMap id=(cJ r.1).map (λi=>D.int (r.1.getD i 0)):=jC v O
  have J:(c.filterMap id).length=(cJ r.1).length:=by rw[L,Il]
  refine⟨λh=>?_,λh=>?_⟩
  ·have h':((((c.filterMap id).length:Nat):Int)==1)=ŗ:=h
   have l:gE r=ŗ:=by
    unfold gE;have:=eq_of_beq h';show Jh ()
   rw[lc g l a]at q;show q
  ·have h':((((c.filterMap id).length:Nat):Int)==1)=Ř:=h
   have l:gE r=Ř:=by unfold gE;refine Jb λe=>?_;rw[J,e]at h';cases h'
   show⟨_,_,S,ed a g l⟩
 ·rintro ρ ⟨p,u,rfl,a⟩;rw[eG,Il]at a;rw[nQ a]at q;show q
structure Dbl(rs:List ag)(j i:Nat)(a b:ag):Prop where
 ji:j<i
 ja:rs[j]?=Z a
 ib:rs[i]?=Z b
 eq:a.1=b.1
 no:∀k l x y,k<l->l<i->rs[k]?=Z x->rs[l]?=Z y->x.1≠y.1
noncomputable def kI(es:Y Int):Y aD:=es.map à
theorem xU{a b:Y Int}(h:kI a=kI b):a=b:=List.map_inj_right (f:=(à:Int->aD)) (λ_ _ e=>ć e)|>.mp h
theorem on(es:Y Int):es.map D.int=(kI es).map gF:=by unfold kI;rw[Jw];rfl
structure Came(rs:List ag)(i:Nat)(M0:List (List aD×D)):Prop where
 ln:M0.length<=i
 at_:∀es,(bH M0 (kI es)=ŕ/\∀j r,j<i->rs[j]?=Z r->r.1≠es)\/∃j r,j<i/\rs[j]?=Z r/\r.1=es/\bH M0 (kI es)=Z (ba j)
 no:∀k l x y,k<l->l<i->rs[k]?=Z x->rs[l]?=Z y->x.1≠y.1
theorem Came.next{rs:Y ag}{i:Nat}{g:Y (Y aD×D)}{r:ag}(h:Came rs i g)(p:rs[i]?=Z r)(C:bH g (kI r.1)=ŕ)(v:∀j x,j<i->rs[j]?=Z x->x.1≠r.1):Came rs (i+1) (iB g (kI r.1) (ba i)):=by
 refine⟨?_,λes=>?_,λk l x y z E a u=>?_⟩
 ·rw[CF C,Io,IX];have:=h.ln;omega
 ·rw[Ht];by_cases c:r.1=es
  ·subst c;show .inr ⟨i,r,(),p,S,by rw[Iw S]⟩
  ·rw[Ir λe=>c (xU e).symm];rcases h.at_ es with⟨o,A⟩|⟨j,x,B,a,e,o⟩
   ·refine .inl ⟨o,λj x B a=>?_⟩;by_cases e:j=i
    ·rw[e,p]at a;cases a;show c
    ·show A j x () a
   ·show .inr ⟨j,x,(),a,e,o⟩
 ·by_cases e:l=i
  ·rw[e,p]at u;cases u;show v k x () a
  ·show h.no k l x y z () a u
inductive z_doubled_row(ds:List D)(R:D->Prop):Prop|mk (rs:List ag) (_:ds=[.lst (rs.map ax)]) (_:rs.length<=1000) (_:(∀r∈rs,r.1.length<=30)) (_:((∀(k l:Nat)(x y:ag),k<l->rs[k]?=Z x->rs[l]?=Z y->x.1≠y.1)->R .non)) (_:∀j i a b,Dbl rs j i a b->R (ba (if a.2<b.2 then j else i)))
theorem ye(F:Fun K "doubled_row" "doubled_row" lZ f G)(a_:mg "enumerate"=ŕ):FnOk P w K mg base aN (n+1) f G ["rows"] (lSpM K (zM z_doubled_row)):=by
 refine F.okM qax (λas R O h=>?_) (λb_ A outer s H E as R O qs M9 z h N=>?_)
 ·let⟨_,rfl,rs,rfl,_⟩:=h;rfl
 let⟨_,rfl,rs,rfl,L,Nq,X,be⟩:=h;obtain rfl:=jt N
 refine⟨_,(ao (aB (i:=1) qax.nd S VF CO)
   (ao (fq IW S (fM (ge S a_ (ad (dv 0) am aa))) (hX (n:=2) S (dN (cE (i:=2) qax.nd S VF) (dN (cE (i:=3) qax.nd S VF) gR))) (bR (bB (Hz 1 z.units (au (ac 3))) (ao (aB (i:=4) qax.nd S VF (zA 1 z.units (au (ac 3)) (λ_ _=>rfl)))
   (aF (bJ (af (nz (aG fm (PD.q (au (PD.q (bv (ac 0) (ac 4) (λ_ _=>rfl))))) (PD.q (au (ac 3))) (aw _)) (dv 4) (dv 2)))))) bP)
   (aF (Fk 1 z.units (au (ac 3)) (dv 2)))))
   (aF (bJ (af bt))))),?_⟩
 intro ke;refine⟨λi ρ=>∃(a:Y (Y aD×D))(C I o:Ŗ Sm),ρ=[Z (.v (.lst (rs.map ax))),Z (.ob ŕ (.mpT a)),C,I,o]/\Came rs i a,⟨[],_,_,_,S,Iu _,λes=>.inl ⟨S,λj _ v=>absurd v (JI _)⟩,λ_ _ _ _ _ L=>absurd L (JI _)⟩,?_,?_⟩
 ·rintro i d ρ hd ⟨a,C,I,o,rfl,c⟩;let⟨x,B,rfl⟩:=fZ hd;let⟨r,rfl,u⟩:=cg B;have O8:=az u;refine⟨S,?_⟩;rcases c.at_ r.1 with⟨g,T⟩|⟨j,x,v,J,e,g⟩
  ·refine⟨λρ=>ρ=[Z (.v (.lst (rs.map ax))),Z (.ob ŕ (.mpT a)),Z (.v (ba i)),Z (.v (ax r)),o],⟨_,S,kI r.1,Ju D.tup (on r.1),?_⟩,?_⟩
   ·change ((Ř != (bH a (kI r.1)).isSome)=ŗ->_)/\((Ř != (bH a (kI r.1)).isSome)=Ř->_);rw[g];show⟨ff,λ_=>rfl⟩
   rintro ρ rfl;refine⟨trivial,_,S,kI r.1,Ju D.tup (on r.1),?_⟩;refine⟨br (by have:=c.ln;omega),_,S,_,Z (.v (ba i)),Z (.v (ax r)),o,S,c.next u g T⟩
  ·refine⟨λ_=>False,⟨_,S,kI r.1,Ju D.tup (on r.1),?_⟩,λρ h=>h.elim⟩;change ((Ř != (bH a (kI r.1)).isSome)=ŗ->_)/\((Ř != (bH a (kI r.1)).isSome)=Ř->_);rw[g];refine⟨λ_=>⟨_,S,kI r.1,Ju D.tup (on r.1),ba j,g,?_⟩,tf⟩;have U:Dbl rs j i x r:=⟨v,J,u,e,c.no⟩;have p:=be j i x r U;refine⟨_,cP (i:=j) J S,_,S,_,S,λh=>?_,λh=>?_⟩
   ·rw[Iw (dP h)]at p;show p
   ·rw[Ir (JC h)]at p;show p
 ·rintro ρ ⟨a,C,I,o,rfl,c⟩;rw[eG,Il]at c;show X λk l x y Q B M=>c.no k l x y Q (az M) B M
structure LedP(n:Nat)(s:Led):Prop where
 n8:n<=8
 bl:s.bs.length=n
 gl:s.gl.length=n
 ll:s.lm.length=n
 ml:s.mm.length=n
 sl:∀u∈s.st,u<n
 nd:s.st.Nodup
 rl:s.rs.length<=30
 rm:s.rm.length=s.rs.length
 rr:∀r∈s.rs,r.1.length=n/\(∀x∈r.1,x.natAbs<2^9000)/\0<=bp r.1/\bp r.1<2^9000
 bb:∀b∈s.bs,ku b
 gg:∀x∈s.gl,cM x
 ln:s.ln.length<700
 gs:s.gs.length<=8
 gn:s.gn.length<=8
 n1:∀d∈s.rm,NoL d
 n2:∀d∈s.mm,NoL d
 n3:∀d∈s.lm,NoL d
 n4:∀d∈s.ln,NoL d
theorem wa{x:Int}(h:x.natAbs<2^9000):cM x:=Mr h (KQ 'b' 'b')
theorem LedP.rows{n:Nat}{s:Led}(h:LedP n s):RowsP s.bs s.rs:=⟨h.bb,λr a=>⟨by rw[(h.rr r a).1];have:=h.n8;omega,λx c=>wa ((h.rr r a).2.1 x c)⟩⟩
noncomputable def DB(rs:Y ag):Prop:=∀(k l:Nat)(x y:ag),k<l->rs[k]?=Z x->rs[l]?=Z y->x.1≠y.1
inductive RowSt(s:Led):Bool->Led->Prop where
 |idle {p:Nat}:s.rs.findIdx? (fi s.bs)=Z p->RowSt s ŗ (bW s p)
 |single {p u:Nat} {r:ag}:s.rs.findIdx? (fi s.bs)=ŕ->s.rs.findIdx? gE=Z p->s.rs[p]?=Z r->(cJ r.1)[0]?=Z u->RowSt s ŗ (jf s p u r)
 |uneven {p:Nat} {r:ag}:s.rs.findIdx? (fi s.bs)=ŕ->s.rs.findIdx? gE=ŕ->s.rs.findIdx? dM=Z p->s.rs[p]?=Z r->RowSt s ŗ (iO s p r)
 |doubled {j i:Nat} {a b:ag}:s.rs.findIdx? (fi s.bs)=ŕ->s.rs.findIdx? gE=ŕ->s.rs.findIdx? dM=ŕ->Dbl s.rs j i a b->RowSt s ŗ (bW s (if a.2<b.2 then j else i))
 |no:s.rs.findIdx? (fi s.bs)=ŕ->s.rs.findIdx? gE=ŕ->s.rs.findIdx? dM=ŕ->DB s.rs->RowSt s Ř s
theorem gY{a:Type}{c:a->Bool}{rs:Y a}{p:Nat}(h:rs.findIdx? c=Z p):∃r,rs[p]?=Z r/\c r=ŗ:=by let⟨g,e,_⟩:=List.findIdx?_eq_some_iff_getElem.mp h;show⟨rs[p],JK g,e⟩
theorem i5(o:Ŗ Nat):NoL (oN o):=by cases o<;>constructor
inductive y_row_struck(as:List Sm)(R:Sm->List Om->Prop)(Rx:XD->List Om->Prop):Prop|mk (a:Option Addr) (n:Nat) (s:Led) (_:as=[.ob a (bQ s)]) (_:LedP n s) (_:∀b s',RowSt s b s'->R (.v (.bl b)) [bQ s'])
theorem A2(F:Fun K "row_struck" "row_struck" nc f G){C:Addr}(c:TxtLedger K mg C)(U:Cl P w K mg base n "idle_row" ["bounds","rows"] z_idle_row)(be:Cl P w K mg base n "single_row" ["rows"] z_single_row)(T:Cl P w K mg base n "uneven_row" ["rows"] z_uneven_row)(X:Cl P w K mg base n "doubled_row" ["rows"] z_doubled_row)(O:MthM P w K mg base n C "drop_row" ["self","place"] y_Ledger__drop_row)(Nt:MthM P w K mg base n C "turn_to_bound" ["self","place"] y_Ledger__turn_to_bound)(NO:MthM P w K mg base n C "even_row" ["self","place"] y_Ledger__even_row):FnOk P w K mg base aN (n+1) f G ["ledger"] (lSpM K y_row_struck):=by
 refine F.okM qaK (λas R Rx h=>?_) (λM5 A outer s H E as R Rx qs M9 l h Nh=>?_)
 ·let⟨a,k,s,rfl,_⟩:=h;rfl
 let⟨a,k,s,rfl,e,q⟩:=h;let⟨J,rfl⟩:=dq Nh
 refine⟨_,(ao (aB (i:=1) qaK.nd S VF (cG (bg U l S (ad (aZ c.cl c.n_bounds c.ns (ac 0)) (ad (aZ c.cl c.n_rows c.ns (ac 0)) am aW) aW) aW (ar aW ae))))
   (bR (bB (bx (aG ef (ac 1) (PD.q bt) (aw _))) (ao (fU (eS 0 O l c.cl c.ns (ay (af (dv 1)) aS aa) aa ae))
   (aF (bJ (af cU)))) bP)
   (ao (aB (i:=1) qaK.nd S VF (cG (bg be l S (ad (aZ c.cl c.n_rows c.ns (ac 0)) am aW) aW ae)))
   (bR (bB (bx (aG ef (ac 1) (PD.q bt) (aw _))) (ao (fU (eS 0 Nt l c.cl c.ns (ay (af (dv 1)) aS aa) aa ae))
   (aF (bJ (af cU)))) bP)
   (ao (aB (i:=1) qaK.nd S VF (cG (bg T l S (ad (aZ c.cl c.n_rows c.ns (ac 0)) am aW) aW ae)))
   (bR (bB (bx (aG ef (ac 1) (PD.q bt) (aw _))) (ao (fU (eS 0 NO l c.cl c.ns (ay (af (dv 1)) aS aa) aa ae))
   (aF (bJ (af cU)))) bP)
   (ao (aB (i:=1) qaK.nd S VF (cG (bg X l S (ad (aZ c.cl c.n_rows c.ns (ac 0)) am aW) aW ae)))
   (bR (bB (bx (aG ef (ac 1) (PD.q bt) (aw _))) (ao (fU (eS 0 O l c.cl c.ns (ay (af (dv 1)) aS aa) aa ae))
   (aF (bJ (af cU)))) bP)
   (aF (bJ (af cU))))))))))),?_⟩
 intro ke;have h8:=e.n8;have Nq:=e.rl
 have Um:∀r∈s.rs,r.1.length<=1000:=λr l=>by rw[(e.rr r l).1];omega
 refine⟨S,_,S,S,_,S,s.bs,s.rs,S,e.rows,i5 _,?_⟩
 cases u:s.rs.findIdx? (fi s.bs)with
 |some p=>
  let⟨r,g,_⟩:=gY u;refine⟨λ_=>False,⟨λ_=>?_,tf⟩,λρ h=>h.elim⟩;refine⟨⟨_,_,S,S⟩,_,S,S,_,s,p,S,az g,by rw[e.rm];show az g,by have:=az g;omega,?_⟩;rfl';show⟨_,S,q _ _ (.idle u)⟩
 |none=>
  refine⟨λρ=>ρ=[Z (.ob (Z J) (bQ s)),Z (.v .non)],⟨ff,λ_=>rfl⟩,?_⟩;rintro ρ rfl;refine⟨S,_,S,s.rs,S,Um,i5 _,?_⟩
  cases v:s.rs.findIdx? gE with
  |some p=>
   let⟨r,g,Q⟩:=gY v;have o:=az g;have Ox:(cJ r.1).length=1:=Jd Q;have N:(cJ r.1)[0]?=Z ((cJ r.1)[0]'()):=JK ();let⟨rn,a_,z,B⟩:=e.rr r (ID g)
   have L:(cJ r.1)[0]'()<k:=by have:=IY.mp (Jq.mp (ID N)).1;omega
   refine⟨λ_=>False,⟨λ_=>?_,tf⟩,λρ h=>h.elim⟩;refine⟨⟨_,_,S,S⟩,_,S,S,_,s,p,_,r,S,g,by rw[e.rm];show o,(),e.n1,by have:=e.ln;omega,(),N,by rw[e.bl];show L,by rw[e.ll];show L,by rw[e.ml];show L,a_,?_⟩;rfl';show⟨_,S,q _ _ (.single u v g N)⟩
  |none=>
   refine⟨λρ=>ρ=[Z (.ob (Z J) (bQ s)),Z (.v .non)],⟨ff,λ_=>rfl⟩,?_⟩;rintro ρ rfl;refine⟨S,_,S,s.rs,S,i5 _,?_⟩
   cases I:s.rs.findIdx? dM with
   |some p=>
    let⟨r,g,Q⟩:=gY I;have o:=az g;let⟨rn,a_,z,B⟩:=e.rr r (ID g);refine⟨λ_=>False,⟨λ_=>?_,tf⟩,λρ h=>h.elim⟩;refine⟨⟨_,_,S,S⟩,_,S,S,_,s,p,r,S,g,by rw[e.rm];show o,e.n1,by have:=e.ln;omega,(),z,B,?_⟩;rfl';show⟨_,S,q _ _ (.uneven u v I g)⟩
   |none=>
    refine⟨λρ=>ρ=[Z (.ob (Z J) (bQ s)),Z (.v .non)],⟨ff,λ_=>rfl⟩,?_⟩;rintro ρ rfl;refine⟨S,_,S,s.rs,S,(),λr l=>by rw[(e.rr r l).1];omega,λb_=>⟨.non,?_⟩,λj i x y M=>⟨.int _,?_⟩⟩
    ·refine⟨λρ=>ρ=[Z (.ob (Z J) (bQ s)),Z (.v .non)],⟨ff,λ_=>rfl⟩,?_⟩;rintro ρ rfl;show⟨_,S,q _ _ (.no u v I b_)⟩
    ·have o:(if x.2<y.2 then j else i)<s.rs.length:=by
      have:=az M.ib;have:=M.ji;split<;>omega
     have hR:=RowSt.doubled (s:=s) u v I M;generalize (if x.2<y.2 then j else i)=p at *;refine⟨λ_=>False,⟨λ_=>?_,tf⟩,λρ h=>h.elim⟩;refine⟨⟨_,_,S,S⟩,_,S,S,_,s,p,S,o,by rw[e.rm];show o,(),?_⟩;rfl';show⟨_,S,q _ _ hR⟩
inductive UnkSt(s:Led):Bool->Led->Prop where
 |fixed {u:Nat}:s.st.find? (eA s.bs)=Z u->UnkSt s ŗ (fj s u (ap s.bs u).1)
 |sink {u:Nat}:s.st.find? (eA s.bs)=ŕ->s.st.find? (fg s.bs s.rs s.gl)=Z u->UnkSt s ŗ (fj s u (ap s.bs u).1)
 |rise {u:Nat} {m:Int}:s.st.find? (eA s.bs)=ŕ->s.st.find? (fg s.bs s.rs s.gl)=ŕ->s.st.find? (e7 s.bs s.rs s.gl)=Z u->(ap s.bs u).2=Z m->UnkSt s ŗ (fj s u m)
 |hang {u:Nat}:s.st.find? (eA s.bs)=ŕ->s.st.find? (fg s.bs s.rs s.gl)=ŕ->s.st.find? (e7 s.bs s.rs s.gl)=ŕ->s.st.find? (gv s.bs s.rs s.gl)=Z u->UnkSt s ŗ (gS s u)
 |no:s.st.find? (eA s.bs)=ŕ->s.st.find? (fg s.bs s.rs s.gl)=ŕ->s.st.find? (e7 s.bs s.rs s.gl)=ŕ->s.st.find? (gv s.bs s.rs s.gl)=ŕ->UnkSt s Ř s
theorem LedP.stay{n:Nat}{s:Led}(h:LedP n s):StayP s.bs s.rs s.gl s.st:=⟨λu a=>by rw[h.bl];show h.sl u a,λu a=>by rw[h.gl];show h.sl u a,by have:=h.rl;omega,λu a r c=>by rw[(h.rr r c).1];show h.sl u a⟩
theorem LedP.fix{n:Nat}{s:Led}(h:LedP n s){u:Nat}{m:Int}(e:u∈s.st)(g:cM m):FixP s u m:=by
 have a:=h.sl u e;have:=h.n8;have:=h.rl;have:=h.ln;have:=h.gs;have:=h.gn;show⟨e,by rw[h.ml];show a,by rw[h.ll];show a,by rw[h.gl];show a,h.rm,(),(),(),(),g,λr c=>⟨by rw[(h.rr r c).1];show a,by rw[(h.rr r c).1];omega,λx j=>wa ((h.rr r c).2.1 x j)⟩,h.gg,h.n1,h.n2,h.n3⟩
theorem LedP.hang{n:Nat}{s:Led}(h:LedP n s){u:Nat}(a:u∈s.st):HangP s u:=
 ⟨a,by rw[h.bl];show h.sl u a,h.rm,by have:=h.rl;omega,by have:=h.gn;omega,λr c=>by rw[(h.rr r c).1];show h.sl u a⟩
theorem LedP.low{n:Nat}{s:Led}(h:LedP n s){u:Nat}(a:u∈s.st):ku (ap s.bs u):=h.bb _ (cD (by rw[h.bl];show h.sl u a))
inductive y_unknown_struck(as:List Sm)(R:Sm->List Om->Prop)(Rx:XD->List Om->Prop):Prop|mk (a:Option Addr) (n:Nat) (s:Led) (_:as=[.ob a (bQ s)]) (_:LedP n s) (_:∀b s',UnkSt s b s'->R (.v (.bl b)) [bQ s'])
theorem y9(F:Fun K "unknown_struck" "unknown_struck" lX f G){B:Addr}(c:TxtLedger K mg B)(a_:Cl P w K mg base n "fixed_unknown" ["bounds","staying"] z_fixed_unknown)(O:Cl P w K mg base n "rising_unknown" ["bounds","rows","goal","staying"] z_rising_unknown)(Q:Cl P w K mg base n "hanging_unknown" ["bounds","rows","goal","staying"] z_hanging_unknown)(Id:Cl P w K mg base n "sinking_unknown" ["bounds","rows","goal","staying"] z_sinking_unknown)(N:MthM P w K mg base n B "fix" ["self","unknown","number"] y_Ledger__fix)(X:MthM P w K mg base n B "hang" ["self","unknown"] y_Ledger__hang):FnOk P w K mg base aN (n+1) f G ["ledger"] (lSpM K y_unknown_struck):=by
 refine F.okM qaQ (λas R b_ h=>?_) (λM5 A outer s H E as R b_ qs M9 p h T=>?_)
 ·let⟨a,k,s,rfl,_⟩:=h;rfl
 let⟨a,k,s,rfl,g,q⟩:=h;let⟨y,rfl⟩:=dq T
 refine⟨_,(ao (aB (i:=1) qaQ.nd S VF (cG (bg a_ p S (ad (aZ c.cl c.n_bounds c.ns (ac 0)) (ad (aZ c.cl c.n_staying c.ns (ac 0)) am aW) aW) aW (ar aW ae))))
   (bR (bB (bx (aG gy (ac 1) (PD.q bt) (aw _))) (aF (aB (i:=1) qaQ.nd S VF (cG (bg Id p S (ad (aZ c.cl c.n_bounds c.ns (ac 0)) (ad (aZ c.cl c.n_rows c.ns (ac 0)) (ad (aZ c.cl c.n_goal c.ns (ac 0)) (ad (aZ c.cl c.n_staying c.ns (ac 0)) am aW) aW) aW) aW) aW (ar aW (ar aW (ar aW ae))))))) bP)
   (bR (bB (bx (aG ef (ac 1) (PD.q bt) (aw _))) (ao (fU (eS 0 N p c.cl c.ns (ay (af (dv 1)) (ay (cG (au (PD.q (bv (PD.q (aZ c.cl c.n_bounds c.ns (ac 0))) (ac 1) (λ_ _=>rfl))))) aS aC) aa) aa (ar aC ae)))
   (aF (bJ (af cU)))) bP)
   (ao (aB (i:=1) qaQ.nd S VF (cG (bg O p S (ad (aZ c.cl c.n_bounds c.ns (ac 0)) (ad (aZ c.cl c.n_rows c.ns (ac 0)) (ad (aZ c.cl c.n_goal c.ns (ac 0)) (ad (aZ c.cl c.n_staying c.ns (ac 0)) am aW) aW) aW) aW) aW (ar aW (ar aW (ar aW ae))))))
   (bR (bB (bx (aG ef (ac 1) (PD.q bt) (aw _))) (ao (fU (eS 0 N p c.cl c.ns (ay (af (dv 1)) (ay (cG (au (PD.q (bv (PD.q (aZ c.cl c.n_bounds c.ns (ac 0))) (ac 1) (λ_ _=>rfl))))) aS aC) aa) aa (ar aC ae)))
   (aF (bJ (af cU)))) bP)
   (ao (aB (i:=1) qaQ.nd S VF (cG (bg Q p S (ad (aZ c.cl c.n_bounds c.ns (ac 0)) (ad (aZ c.cl c.n_rows c.ns (ac 0)) (ad (aZ c.cl c.n_goal c.ns (ac 0)) (ad (aZ c.cl c.n_staying c.ns (ac 0)) am aW) aW) aW) aW) aW (ar aW (ar aW (ar aW ae))))))
   (bR (bB (bx (aG ef (ac 1) (PD.q bt) (aw _))) (ao (fU (eS 0 X p c.cl c.ns (ay (af (dv 1)) aS aa) aa ae))
   (aF (bJ (af cU)))) bP)
   (aF (bJ (af cU)))))))))),?_⟩
 intro ke;have C:∀u∈s.st,u<s.bs.length:=g.stay.sb;refine⟨S,_,S,S,_,S,s.bs,s.st,S,C,i5 _,?_⟩;refine⟨λρ=>∃o:Ŗ Nat,ρ=[Z (.ob (Z y) (bQ s)),Z (.v (oN o))]/\(∀u,o=Z u->u∈s.st/\UnkSt s ŗ (fj s u (ap s.bs u).1))/\(o=ŕ->s.st.find? (eA s.bs)=ŕ/\s.st.find? (fg s.bs s.rs s.gl)=ŕ),?_,?_⟩
 ·cases l:s.st.find? (eA s.bs)with
  |some u=>show⟨ff,λ_=>⟨Z u,S,λv x=>by cases x;show⟨Ja l,.fixed l⟩,λh=>by cases h⟩⟩
  |none=>
   refine⟨λ_=>⟨S,_,S,S,_,S,S,_,S,S,_,S,s.bs,s.rs,s.gl,s.st,S,g.stay,i5 _,s.st.find? (fg s.bs s.rs s.gl),S,λv x=>⟨Ja x,.sink l x⟩,λh=>⟨S,h⟩⟩,tf⟩
 rintro ρ ⟨o,rfl,be,U⟩
 cases o with
 |some u=>
  let⟨j,hU⟩:=be u S;refine⟨λ_=>False,⟨λ_=>?_,tf⟩,λρ h=>h.elim⟩;refine⟨⟨_,_,S,S⟩,S,_,S,_,eP (C u j) S,_,S,.int _,_,S,S,_,s,u,_,S,g.fix j (g.low j).1,?_⟩;rfl';show⟨_,S,q _ _ hU⟩
 |none=>
  let⟨l,I⟩:=U S;refine⟨λρ=>ρ=[Z (.ob (Z y) (bQ s)),Z (.v .non)],⟨ff,λ_=>rfl⟩,?_⟩;rintro ρ rfl;refine⟨S,_,S,S,_,S,S,_,S,S,_,S,s.bs,s.rs,s.gl,s.st,S,g.stay,i5 _,?_⟩
  cases r:s.st.find? (e7 s.bs s.rs s.gl)with
  |some u=>
   have j:=Ja r;have L:=K4 r
   obtain⟨m,M⟩:∃m,(ap s.bs u).2=Z m:=by
    cases e:(ap s.bs u).2 with
    |some m=>show⟨m,S⟩
    |none=>unfold e7 at L;rw[e]at L;cases L
   refine⟨λ_=>False,⟨λ_=>?_,tf⟩,λρ h=>h.elim⟩;refine⟨⟨_,_,S,S⟩,S,_,S,_,eP (C u j) S,D.int m,(Ju (λz=>cF [D.int (ap s.bs u).1,oI z] 1) M).trans S,.int _,_,S,S,_,s,u,m,S,g.fix j ((g.low j).2 m M),?_⟩;rfl';show⟨_,S,q _ _ (.rise l I r M)⟩
  |none=>
   refine⟨λρ=>ρ=[Z (.ob (Z y) (bQ s)),Z (.v .non)],⟨ff,λ_=>rfl⟩,?_⟩;rintro ρ rfl;refine⟨S,_,S,S,_,S,S,_,S,S,_,S,s.bs,s.rs,s.gl,s.st,S,g.stay,i5 _,?_⟩
   cases J:s.st.find? (gv s.bs s.rs s.gl)with
   |some u=>
    have j:=Ja J;refine⟨λ_=>False,⟨λ_=>?_,tf⟩,λρ h=>h.elim⟩;refine⟨⟨_,_,S,S⟩,_,S,S,_,s,u,S,g.hang j,?_⟩;rfl';show⟨_,S,q _ _ (.hang l I r J)⟩
   |none=>
    refine⟨λρ=>ρ=[Z (.ob (Z y) (bQ s)),Z (.v .non)],⟨ff,λ_=>rfl⟩,?_⟩;rintro ρ rfl;show⟨_,S,q _ _ (.no l I r J)⟩
noncomputable def j9(s:Led)(p:Nat):D:=.tup (.tup [s.rm.getD p .non,.int 1]::(cJ (bS s.rs p).1).map λu=>dJ s u ((bS s.rs p).1.getD u 0))
noncomputable def bq(s:Led):D:=match s.st.find? (eR s.bs)with
 |some u=>.tup [.tup [s.lm.getD u .non,.int 1],.tup [s.mm.getD u .non,.int 1]]
 |none=>match s.rs.findIdx? (dg s.bs)with
  |none=>.non
  |some p=>j9 s p
inductive z_hopeless_shares(ds:List D)(R:D->Prop):Prop|mk (n:Nat) (s:Led) (_:ds=[im s]) (_:LedP n s) (_:R (bq s))
theorem Hu(F:Fun K "hopeless_shares" "hopeless_shares" kj f G){v:Addr}(a:TxtLedger K mg v)(I:Cl P w K mg base n "crossed_unknown" ["bounds","staying"] z_crossed_unknown)(J:Cl P w K mg base n "hopeless_row" ["bounds","rows"] z_hopeless_row)(be:MthD P w K mg base n v "bound_share" ["self","unknown","entry"] z_Ledger__bound_share)(N:mg "tuple"=ŕ)(O:mg "enumerate"=ŕ):FnOk P w K mg base aN (n+1) f G ["ledger"] (lSp K z_hopeless_shares):=by
 refine F.okD qaF (λds R h=>?_) (λM5 A outer s H E ds R l h=>?_)
 ·let⟨k,s,rfl,_⟩:=h;rfl
 let⟨k,s,rfl,c,q⟩:=h
 refine⟨_,(bK (dz (i:=1) qaF.nd S VF (bg I l S (ad (aZ a.cl a.n_bounds a.ns (ac 0)) (ad (aZ a.cl a.n_staying a.ns (ac 0)) am aW) aW) aW (ar aW ae)))
   (e9 (cA (aG ef (ac 1) (PD.q bt) (aw _)) (aU (bf (bw (ad (bw (ad (bv (PD.q (aZ a.cl a.n_least_marks a.ns (ac 0))) (ac 1) (λ_ _=>rfl)) (ad ah am aL) aC)) (ad (bw (ad (bv (PD.q (aZ a.cl a.n_most_marks a.ns (ac 0))) (ac 1) (λ_ _=>rfl)) (ad ah am aL) aC)) am bC) bC)))) cI)
   (bK (dz (i:=2) qaF.nd S VF (bg J l S (ad (aZ a.cl a.n_bounds a.ns (ac 0)) (ad (aZ a.cl a.n_rows a.ns (ac 0)) am aW) aW) aW (ar aW ae)))
   (e9 (cA (aG gy (ac 2) (PD.q bt) (aw _)) (aU (bf bt)) cI)
   (bK (dz (i:=3) qaF.nd S VF (au (PD.q (bv (PD.q (aZ a.cl a.n_rows a.ns (ac 0))) (ac 2) (λ_ _=>rfl)))))
   (bK (vR (i:=4) (k:=2) (N':=["other","entry","ledger"]) (cap:=[ŕ,ŕ,Z 0]) S qaF.nd S VF (.ok (show bX ["ledger","unknown","place","entries","shares"] (av kj) _ ["other","entry","ledger"] [ŕ,ŕ,Z 0]=ŗ by lia)) 'a' (iW (n:=2) (fE (bM 'b') (fE (bM 'b') jb))) (ge S O (ad (dv 3) am aa)) (λ_ _ _ _ _=>(eO (n:=2) S (cf (bc (i:=0) (show List.Nodup (["other","entry","ledger"]:Y Str)by lia) S VF) (cf (bc (i:=1) (show List.Nodup (["other","entry","ledger"]:Y Str)by lia) S VF) eN)))) (λ_ _ _ _ _=>(jr (aG (e5 l.units) (ac 1) (PD.q ah) (aw _)))) (λ_ _ _ _ _=>(rc be l a.cl a.ns (dv 2) (ad (dv 0) (ad (dv 1) am aa) aa) aa (ar aa ae))))
   (aU (bf (aO bI (PD.q (bw (ad (bw (ad (bv (PD.q (aZ a.cl a.n_row_marks a.ns (ac 0))) (ac 2) (λ_ _=>rfl)) (ad ah am aL) aC)) am bC))) (PD.q (bT cu S N IB (aH (ac 4) aM aa) aa ae))))))))))),?_⟩
 have h8:=c.n8;refine⟨S,_,S,S,_,S,s.bs,s.st,S,c.stay.sb,?_⟩
 cases j:s.st.find? (eR s.bs)with
 |some u=>
  have U:=Ja j;have B:=c.sl u U
  have:bq s=.tup [.tup [s.lm.getD u .non,.int 1],.tup [s.mm.getD u .non,.int 1]]:=by unfold bq;rw[j]
  rw[this]at q;show⟨λ_=>False,⟨λ_=>⟨S,_,S,s.lm.getD u .non,gJ (ce (by rw[c.ll];show B)) S,S,_,S,s.mm.getD u .non,gJ (ce (by rw[c.ml];show B)) S,q⟩,tf⟩,λρ h=>h.elim⟩
 |none=>
  refine⟨λρ=>ρ=[Z (.v (im s)),Z (.v .non),ŕ,ŕ,ŕ],⟨ff,λ_=>rfl⟩,?_⟩;rintro ρ rfl;refine⟨S,_,S,S,_,S,s.bs,s.rs,S,c.rows,?_⟩
  cases o:s.rs.findIdx? (dg s.bs)with
  |none=>
   have:bq s=.non:=by unfold bq;rw[j,o]
   rw[this]at q;show⟨λ_=>False,⟨λ_=>q,tf⟩,λρ h=>h.elim⟩
  |some p=>
   let⟨r,g,_⟩:=gY o;have L:bS s.rs p=r:=cq g;have M:=az g;let⟨rn,r9,_,_⟩:=c.rr r (ID g)
   have:bq s=j9 s p:=by unfold bq;rw[j,o]
   rw[this]at q;unfold j9 at q;rw[L]at q;refine⟨λρ=>ρ=[Z (.v (im s)),Z (.v .non),Z (.v (ba p)),ŕ,ŕ],⟨ff,λ_=>rfl⟩,?_⟩;rintro ρ rfl;refine⟨S,_,S,_,cP g S,_,S,?_⟩;refine⟨by rw[eG,Il];show br (),iL (λi=>decide (r.1.getD i 0≠0)) (λu=>dJ s u (r.1.getD u 0)),λi d hd=>?_,λb_ y X=>?_⟩
   ·let⟨e,a_,rfl⟩:=fZ hd;let⟨x,rfl,C⟩:=cg a_;have ex:r.1.getD i 0=x:=cq C
    have z:i<k:=by have:=az C;omega
    refine⟨S,λh=>?_,λh=>?_⟩
    ·refine⟨S,S,s,i,x,S,by rw[c.ml];show z,by rw[c.ll];show z,?_,?_⟩
     ·change dJ s i x=dJ s i (r.1.getD i 0);rw[ex]
     ·change decide (r.1.getD i 0≠0)=ŗ;rw[ex]
      show Jh λe=>by rw[e]at h;cases h
    ·change decide (r.1.getD i 0≠0)=Ř;rw[ex];refine Jb λe=>?_;have h':(!(x==0))=Ř:=h
     have:(x==0)=ŗ:=by simpa using h'
     show e (eq_of_beq this)
   rw[eG,Il]at y;have Q:b_.filterMap id=(cJ r.1).map (λu=>dJ s u (r.1.getD u 0)):=jC y X;rw[Q]
   have T:(cJ r.1).length<=8:=by
    have:=JN (λi=>decide (r.1.getD i 0≠0)) (List.range r.1.length);rw[IF]at this;have:(cJ r.1).length<=r.1.length:=this;omega
   refine⟨S,_,S,s.rm.getD p .non,gJ (ce (by rw[c.rm];show M)) S,by rw[Il];change 1+_<=_;have:=br (n:=9) 'b';omega,_,S,q⟩
noncomputable def jv(xs:Y D)(st:Y Nat):Y D:=st.map λu=>xs.getD u .non
inductive z_picked(ds:List D)(R:D->Prop):Prop|mk (d1:D) (xs:List D) (st:List Nat) (_:ds=[d1,.lst (st.map ba)]) (_:(d1=.tup xs\/d1=.lst xs)) (_:st.length<=1000) (_:(∀u∈st,u<xs.length)) (_:R (.tup (jv xs st)))
theorem BQ(F:Fun K "picked" "picked" la f G)(g:mg "tuple"=ŕ):FnOk P w K mg base aN (n+1) f G ["numbers","places"] (lSp K z_picked):=by
 refine F.okD Da (λds R h=>?_) (λo A outer s H E ds R p h=>?_)
 ·let⟨j,xs,st,rfl,_⟩:=h;rfl
 let⟨j,xs,st,rfl,l,c,e,q⟩:=h;refine⟨_,(aU (bf (bT cu S g IB (aH (PD.q (PF.d (dG (k:=1) (N':=["place","numbers"]) (cap:=[ŕ,Z 0]) S (.ok (show bX ["numbers","places"] (av la) _ ["place","numbers"] [ŕ,Z 0]=ŗ by lia)) 'a' (bM 'b') (ca (dv 1)) (λ_ _ _ _ _=>(bc (i:=0) (show List.Nodup (["place","numbers"]:Y Str)by lia) S VF)) (λ_ _ _ _ _=>(bv (ac 1) (ac 0) (λ_ _=>rfl)))))) aM bD) bD ae))),?_⟩;rcases l with rfl|rfl
 ·show gz (f:=ba) (λu=>xs.getD u .non) (br c) (λu a=>⟨_,gJ (ce (d:=D.non) (e u a)) S,S⟩) q
 ·show gz (f:=ba) (λu=>xs.getD u .non) (br c) (λu a=>⟨_,gJ (ce (d:=D.non) (e u a)) S,S⟩) q
noncomputable def pk{a:Type}(d:a)(xs:Y a)(st:Y Nat):Y a:=st.map λu=>xs.getD u d
theorem pL{a:Type}{f:a->D}{d:a}{xs:Y a}{st:Y Nat}(h:∀u∈st,u<xs.length):jv (xs.map f) st=(pk d xs st).map f:=by
 unfold jv pk;rw[Jw];refine KW λu c=>?_;change (xs.map f).getD u .non=f (xs.getD u d);have:=h u c;rw[II,II,IE,bL this];rfl
noncomputable def jZ(st:Y Nat)(r:ag):ag:=(pk 0 r.1 st,r.2)
noncomputable def kR(s:Led):D:=b8 (pk (0,ŕ) s.bs s.st) (s.rs.map (jZ s.st)) (pk 0 s.gl s.st)
theorem tP{n:Nat}{s:Led}(h:LedP n s):s.st.length<=n:=by
 have a:s.st ⊆ List.range n:=λu c=>IY.mpr (h.sl u c);have:=h.nd.length_le_of_subset a
 rwa [IF]at this
inductive z_slim_plan(ds:List D)(R:D->Prop):Prop|mk (n:Nat) (s:Led) (_:ds=[im s]) (_:LedP n s) (_:R (kR s))
theorem Bo(F:Fun K "slim_plan" "slim_plan" ld f G){p:Addr}(a:TxtLedger K mg p)(o:Cl P w K mg base n "picked" ["numbers","places"] z_picked)(x:mg "tuple"=ŕ):FnOk P w K mg base aN (n+1) f G ["ledger"] (lSp K z_slim_plan):=by
 refine F.okD qaN (λds R h=>?_) (λB A outer s H E ds R l h=>?_)
 ·let⟨k,s,rfl,_⟩:=h;rfl
 let⟨k,s,rfl,c,q⟩:=h
 refine⟨_,(bK (wo (i:=1) (k:=1) (N':=["row","ledger"]) (cap:=[ŕ,Z 0]) S qaN.nd S VF (.ok (show bX ["ledger","rows"] (av ld) _ ["row","ledger"] [ŕ,Z 0]=ŗ by lia)) 'a' (bM 'b') (ca (aZ a.cl a.n_rows a.ns (ac 0))) (λ_ _ _ _ _=>(bc (i:=0) (show List.Nodup (["row","ledger"]:Y Str)by lia) S VF)) (λ_ _ _ _ _=>(bw (ad (bg o l S (ad (au (ac 0)) (ad (aZ a.cl a.n_staying a.ns (ac 1)) am aW) aC) aC (ar aW ae)) (ad (au (ac 0)) am aC) bj))))
   (aU (bf (bw (ad (bg o l S (ad (aZ a.cl a.n_bounds a.ns (ac 0)) (ad (aZ a.cl a.n_staying a.ns (ac 0)) am aW) aW) aW (ar aW ae)) (ad (bT cu S x IB (aH (ac 1) aM aa) aa ae) (ad (bg o l S (ad (aZ a.cl a.n_goal a.ns (ac 0)) (ad (aZ a.cl a.n_staying a.ns (ac 0)) am aW) aW) aW (ar aW ae)) am bj) bj) bj))))),?_⟩
 have I:=c.n8;have C:=tP c
 have y:∀u∈s.st,u<(s.bs.map aT).length:=λu g=>by rw[Il];show c.stay.sb u g
 have z:∀u∈s.st,u<(s.gl.map D.int).length:=λu g=>by rw[Il];show c.stay.sg u g
 refine⟨S,_,S,?_⟩;refine gz (f:=ax) (λr=>ax (jZ s.st r)) (br (by have:=c.rl;omega)) (λr v=>?_) ?_
 ·have j:∀u∈s.st,u<r.1.length:=λu g=>c.stay.sr u g r v;refine⟨_,S,S,_,S,_,r.1.map D.int,s.st,S,.inl S,(),λu g=>by rw[Il];show j u g,_,S,?_⟩;change D.tup [D.tup (jv (r.1.map D.int) s.st),D.int r.2]=ax (jZ s.st r);rw[pL (d:=0) j];rfl
 refine⟨S,_,S,S,_,S,_,s.bs.map aT,s.st,S,.inr S,(),y,?_⟩;refine⟨S,_,S,S,_,S,_,s.gl.map D.int,s.st,S,.inl S,(),z,?_⟩
 have e:D.tup [D.tup (jv (s.bs.map aT) s.st),D.tup (s.rs.map λr=>ax (jZ s.st r)),D.tup (jv (s.gl.map D.int) s.st)]=kR s:=by unfold kR b8;rw[pL (d:=(0,ŕ)) c.stay.sb,pL (d:=0) c.stay.sg,Jw];rfl
 show (Ju R e).mpr q
noncomputable def jD(n:Nat)(s:Led):D:=.obj "Struck" [("ledger",im s),("breadth",.int (n:Nat)),("kind",.str "slim"),("paper",.non),("slim",kR s),("kept",.tup (s.st.map ba)),("extra",.int s.ex)]
structure Way(P:Led->Prop)(μ:Led->Nat):Prop where
 ok:∀t,P t->∃n,LedP n t
 row:∀t t',P t->bq t=.non->RowSt t ŗ t'->P t'/\μ t'<μ t
 unk:∀t t',P t->bq t=.non->RowSt t Ř t->UnkSt t ŗ t'->P t'/\μ t'<μ t
theorem lu{n:Nat}{s:Led}(a:LedP n s):NoL (bq s):=by
 unfold bq
 cases j:s.st.find? (eR s.bs)with
 |some u=>
  have c:=a.sl u (Ja j);show .tup (bA (.tup (bA (a.n3 _ (cD (by rw[a.ll];show c))) (bA (.int _) dl))) (bA (.tup (bA (a.n2 _ (cD (by rw[a.ml];show c))) (bA (.int _) dl))) dl))
 |none=>
  cases l:s.rs.findIdx? (dg s.bs)with
  |none=>show .non
  |some p=>
   let⟨r,e,_⟩:=gY l;have h:bS s.rs p=r:=cq e;let⟨o,_⟩:=a.rr r (ID e);refine .tup (bA (.tup (bA (a.n1 _ (cD (by rw[a.rm];show az e))) (bA (.int _) dl))) λd hd=>?_);let⟨u,c,rfl⟩:=I0.mp hd
   have g:u<n:=by have:=IY.mp (Jq.mp c).1;rw[h]at this;omega
   show mM a.n2 a.n3 (by rw[a.ml];show g) (by rw[a.ll];show g)
theorem Gq{s t:Led}(h:RowSt s Ř t):t=s:=by cases h;rfl
theorem zX{s t:Led}(h:UnkSt s Ř t):t=s:=by cases h;rfl
inductive y_strike(as:List Sm)(R:Sm->List Om->Prop)(Rx:XD->List Om->Prop):Prop|mk (a:Option Addr) (s:Led) (P:Led->Prop) (μ:Led->Nat) (_:as=[.ob a (bQ s)]) (_:P s) (_:Way P μ) (_:∀t,P t->(e6 (bq t)=Ř\/(RowSt t Ř t/\UnkSt t Ř t))->R (.v (bq t)) [bQ t])
theorem Ha(F:Fun K "strike" "strike" ms f G)(L:Cl P w K mg base n "hopeless_shares" ["ledger"] z_hopeless_shares)(O:ClM P w K mg base n "row_struck" ["ledger"] y_row_struck)(M:ClM P w K mg base n "unknown_struck" ["ledger"] y_unknown_struck):FnOk P w K mg base aN (n+1) f G ["ledger"] (lSpM K y_strike):=by
 refine F.okM qaO (λas R Q h=>?_) (λU A outer s H E as R Q b_ X u h N=>?_)
 ·let⟨a,s,B,y,rfl,_⟩:=h;rfl
 let⟨a,s,B,y,rfl,I,g,q⟩:=h;let⟨T,rfl⟩:=dq N
 refine⟨_,(ao (aB (i:=1) qaO.nd S VF (cG (bg L u S (ad (dv 0) am aa) aa ae)))
   (ao (Hg IW (PXW.toB (lU (bx (aG gy (ac 1) (PD.q bt) (aw _))) (uj (PXW.toB (Em (sV (bi O u S (bo 0 aS aa) aa ae) (λ_=>rfl)) (Dg (sV (bi M u S (bo 0 aS aa) aa ae) (λ_=>rfl)))))))) (aF (aB (i:=1) qaO.nd S VF (cG (bg L u S (ad (dv 0) am aa) aa ae)))))
   (aF (bJ (af (dv 1)))))),?_⟩
 intro be;let⟨a_,C⟩:=g.ok s I;refine⟨a_,s,S,C,lu C,?_⟩;rfl';refine⟨λm ρ=>∃t,ρ=[Z (.ob (Z T) (bQ t)),Z (.v (bq t))]/\B t/\m=y t,⟨y s,s,S,I,S⟩,?_⟩;rintro m ρ ⟨t,rfl,p,rfl⟩;let⟨n,J⟩:=g.ok t p
 cases l:e6 (bq t)with
 |false=>
  refine⟨λh=>?_,λ_=>⟨ff,λ_=>⟨_,S,q t p (.inl l)⟩⟩⟩;have h':(e6 (bq t) != Ř)=ŗ:=h;rw[l]at h';cases h'
 |true=>
  have z:bq t=.non:=by
   cases e:bq t with
   |non=>rfl
   |_=>rw[e]at l;cases l
  refine⟨λ_=>?_,λh=>?_⟩
  ·refine⟨⟨_,_,S⟩,_,S,S,_,n,t,S,J,λb c r=>?_⟩;rfl'
   cases b with
   |true=>
    let⟨o,v⟩:=g.row t c p z r;let⟨n1,j⟩:=g.ok c o;show⟨λ_=>⟨λ_=>⟨n1,c,S,j,lu j,_,v,c,S,o,S⟩,tf⟩,tf⟩
   |false=>
    cases Gq r;refine⟨ff,λ_=>⟨⟨_,_,S⟩,_,S,S,_,n,t,S,J,λb c x=>?_⟩⟩;rfl'
    cases b with
    |true=>
     let⟨o,v⟩:=g.unk t c p z r x;let⟨n1,j⟩:=g.ok c o;show⟨λ_=>⟨n1,c,S,j,lu j,_,v,c,S,o,S⟩,tf⟩
    |false=>
     cases zX x;show⟨ff,λ_=>⟨_,S,q t p (.inr ⟨r,x⟩)⟩⟩
  ·have h':(e6 (bq t) != Ř)=Ř:=h;rw[l]at h';cases h'
noncomputable def pH(s:Led)(n:Nat)(k a sl kp:D)(ex:Int):Y (Str×Fl):=[("ledger",.v (im s)),("breadth",.v (.int (n:Nat))),("kind",.v k),("paper",.v a),("slim",.v sl),("kept",.v kp),("extra",.v (.int ex))]
noncomputable def vG:eo:=λas R _=>∃(a:Ŗ Addr)(bs:Y Bd)(rs:Y ag)(gs:Y Int)(P:Led->Prop)(c:Led->Nat),as=[.ob a (.obj "Struck" []),.v (b8 bs rs gs)]/\bs.length<=8/\rs.length<=30/\P (gm bs rs gs)/\Way P c /\
 (∀t,P t->RowSt t Ř t->UnkSt t Ř t->bq t=.non->R (.v .non) [.obj "Struck" (pH t bs.length (.str "slim") .non (kR t) (.tup (t.st.map ba)) t.ex)]) /\
 (∀t,P t->e6 (bq t)=Ř->R (.v .non) [.obj "Struck" (pH (fS t (bq t) 1) bs.length (.str "none") (.tup ((fS t (bq t) 1).ln++[.tup [.str "shut",dL t]])) .non (.tup []) 0)])
theorem xL(xs:Y Int):NoL (.tup (xs.map D.int)):=.tup λd hd=>by let⟨x,_,rfl⟩:=I0.mp hd;show .int x
theorem Bx(b:Bd):NoL (aT b):=.tup (bA (.int _) (bA (by cases b.2<;>constructor) dl))
theorem EW(bs:Y Bd)(rs:Y ag)(gs:Y Int):NoL (b8 bs rs gs):=.tup (bA (.tup λd hd=>by
 let⟨b,_,rfl⟩:=I0.mp hd
 show Bx b) (bA (.tup (p9 rs)) (bA (xL gs) dl)))
theorem Gy(st:Y Nat):NoL (.tup (st.map ba)):=.tup λd hd=>by let⟨x,_,rfl⟩:=I0.mp hd;show .int _
theorem Eo(F:Fun K "__init__" "Struck.__init__" lK f G){N:Addr}(c:TxtStruck K mg N){r:Addr}(g:TxtLedger K mg r)(a_:ClM P w K mg base (n+1) "strike" ["ledger"] y_strike)(L:Cl P w K mg base (n+1) "slim_plan" ["ledger"] z_slim_plan)(O:MkM P w K mg base n r ["self","plan"] y_Ledger____init__)(M:MthM P w K mg base (n+1) r "put_line" ["self","shares","divisor"] y_Ledger__put_line)(X:mg "len"=ŕ)(B:mg "tuple"=ŕ):FnOk P w K mg base aN (n+2) f G ["self","plan"] (lSpM K vG):=by
 refine F.okM qae (λas R U h=>?_) (λM5 A outer s H E as R U qs M9 o h Q=>?_)
 ·let⟨a,bs,rs,gs,z,J,rfl,_⟩:=h;rfl
 let⟨a,bs,rs,gs,z,J,rfl,hb,hl,be,C,q1,q2⟩:=h;let⟨pa,rfl⟩:=dq Q
 refine⟨_,(ao (aB (i:=2) qae.nd S VF (r6 O o S g.mgC g.ns (ay (af (dv 1)) aS aa) aa ae))
   (ao (aB (i:=3) qae.nd S VF (bi a_ o S (bo 2 aS aa) aa ae))
   (ao (AF 0 2 c.cl c.n_ledger c.ns)
   (ao (fb 0 c.cl c.n_breadth c.ns (af (bu bU S X IV (aH (PD.q (au (ac 1))) aM aC) aC ae)))
   (bR (bB (bx (aG gy (ac 3) (PD.q bt) (aw _))) (ao (fb 0 c.cl c.n_kind c.ns (af gT))
   (ao (fb 0 c.cl c.n_paper c.ns (af bt))
   (ao (fb 0 c.cl c.n_slim c.ns (cG (bg L o S (ad (dv 2) am aa) aa ae)))
   (ao (fb 0 c.cl c.n_kept c.ns (cG (bT cu S B IB (aH (PD.q (aZ g.cl g.n_staying g.ns (ac 2))) aM aW) aW ae)))
   (aF (fb 0 c.cl c.n_extra c.ns (cG (aZ g.cl g.n_extra g.ns (ac 2))))))))) (ao (aB (i:=4) qae.nd S VF (eS 2 M o g.cl g.ns (ay (af (dv 3)) (ay (af ah) aS aL) aa) aa (ar aL ae)))
   (ao (fb 0 c.cl c.n_kind c.ns (af gT))
   (ao (fb 0 c.cl c.n_paper c.ns (cG (aO bI (PD.q (bT cu S B IB (aH (PD.q (aZ g.cl g.n_lines g.ns (ac 2))) aM aW) aW ae)) (PD.q (bw (ad (bw (ad gT (ad (dv 4) am aa) aL)) am bC))))))
   (ao (fb 0 c.cl c.n_slim c.ns (af bt))
   (ao (fb 0 c.cl c.n_kept c.ns (af (bw am)))
   (aF (fb 0 c.cl c.n_extra c.ns (af ah)))))))))
   (Dp 0 2 "ledger" bP)))))),?_⟩
 intro ke;refine⟨_,bs,rs,gs,S,hb,hl,?_⟩;refine⟨⟨_,_,S⟩,_,S,S,_,gm bs rs gs,z,J,S,be,C,λt x hc=>?_⟩;rfl';let⟨n0,j⟩:=C.ok t x;have h8:=j.n8;have NI:=tP j;refine⟨_,_,_,_,S,S,S,'b',λp _=>⟨_,S,?_⟩⟩;rfl';refine⟨_,S,_,_,S,S,(by change 1<1000;decide),[("ledger",.al p),("breadth",.v (.int (bs.length:Nat)))],by rw[Il];rfl,?_⟩;rfl';refine⟨λρ=>∃(t':Led)(k y sl kp:D)(ex:Int)(I:Ŗ Sm),ρ=[Z (.ob (Z pa) (.obj "Struck" [("ledger",.al p),("breadth",.v (.int (bs.length:Nat))),("kind",.v k),("paper",.v y),("slim",.v sl),("kept",.v kp),("extra",.v (.int ex))])),Z (.v (b8 bs rs gs)),Z (.ob (Z p) (bQ t')),Z (.v (bq t)),I]/\R (.v .non) [.obj "Struck" (pH t' bs.length k y sl kp ex)],⟨λh=>?_,λh=>?_⟩,?_⟩
 ·have l:e6 (bq t)=ŗ:=by
   have h':(e6 (bq t) != Ř)=ŗ:=h
   cases e:e6 (bq t)with
   |true=>rfl
   |false=>rw[e]at h';cases h'
  have T:bq t=.non:=by
   cases e:bq t with
   |non=>rfl
   |_=>rw[e]at l;cases l
  let⟨u,b_⟩:=hc.resolve_left (by rw[l];decide);refine⟨_,_,S,S,(by change 2<1000;decide),_,S,?_⟩;refine⟨_,_,S,S,(by change 3<1000;decide),_,S,?_⟩;refine⟨n0,t,S,j,EW _ _ _,_,_,S,S,(by change 4<1000;decide),_,S,?_⟩;refine⟨S,_,S,Gy _,_,_,S,S,(by change 5<1000;decide),_,S,?_⟩;refine⟨S,_,S,.int _,_,_,S,S,(by change 6<1000;decide),_,S,?_⟩;show⟨t,_,_,_,_,_,_,S,q1 t x u b_ T⟩
 ·have l:e6 (bq t)=Ř:=by
   have h':(e6 (bq t) != Ř)=Ř:=h
   cases e:e6 (bq t)with
   |false=>rfl
   |true=>rw[e]at h';cases h'
  refine⟨⟨_,_,S,S⟩,_,S,S,_,t,bq t,1,S,lu j,by have:=j.ln;omega,?_⟩;rfl';refine⟨_,_,S,S,(by change 2<1000;decide),_,S,?_⟩
  have hll:(fS t (bq t) 1).ln.length<800:=by
   change (t.ln++[_]).length<800;rw[Io,IX];have:=j.ln;omega
  have v:∀d∈(fS t (bq t) 1).ln,NoL d:=λd hd=>by
   rcases IZ.mp (show d∈t.ln++[cL (bq t) 1]from hd)with hd|hd
   ·show j.n4 d hd
   ·rw[Iz.mp hd];show nY (lu j)
  refine⟨S,_,S,gj (by change (fS t (bq t) 1).ln.length+1<=1000;omega),_,S,.tup (λd hd=>?_),_,_,S,S,(by change 3<1000;decide),_,S,?_⟩
  ·rcases IZ.mp hd with hd|hd
   ·show v d hd
   ·rw[Iz.mp hd];show .tup (bA (.str _) (bA (.int _) dl))
  refine⟨_,_,S,S,(by change 4<1000;decide),_,S,?_⟩;refine⟨_,_,S,S,(by change 5<1000;decide),_,S,?_⟩;refine⟨_,_,S,S,(by change 6<1000;decide),_,S,?_⟩;show⟨fS t (bq t) 1,_,_,_,_,_,_,S,q2 t x l⟩
 rintro ρ ⟨t',k,y,sl,kp,ex,I,rfl,u⟩;show⟨_,p,_,_,_,_,_,S,S,S,S,_,S,u⟩
noncomputable def Pl(n:Nat)(o:Om):Prop:=∃(r a c:Int),o=.lst [.int r,.int a,.int c]/\0<=c/\c<=n
theorem Pl.mono{n m:Nat}{o:Om}(h:Pl n o)(j:n<=m):Pl m o:=by let⟨r,st,c,e,a,g⟩:=h;show⟨r,st,c,e,a,()⟩
theorem bN{z:Int}(h:z<2^64):z<2^9000:=by
 have a:(2:Nat)^64<=2^9000:=Kq 'b' ()
 have c:(2:Int)^64<=2^9000:=by exact_mod_cast a
 omega
inductive y__law_pool(as:List Sm)(R:Sm->List Om->Prop)(Rx:XD->List Om->Prop):Prop|mk (ns:List Int) (_:as=[.v (.fzl (ns.map D.int))]) (_:ns.length<=63) (_:∀o,Pl 0 o->R (.ob ŕ o) [])
theorem Ds(F:Fun K "_law_pool" "_law_pool" nE f G)(p:mg "len"=ŕ):FnOk P w K mg base aN (n+1) f G ["_law_script"] (lSpM K y__law_pool):=by
 refine F.okM qap (λas R o h=>?_) (λu A outer s H E as R o L z C h l=>?_)
 ·let⟨ns,rfl,_⟩:=h;rfl
 let⟨ns,rfl,B,q⟩:=h;obtain rfl:=jt l
 refine⟨_,(ao (aB (i:=1) qap.nd S VF (af ah))
   (ao (fq IW S (fM (ca (kT (ac 0) kB (jV (PD.q ah))))) (cE (i:=2) qap.nd S VF) (aF (aB (i:=1) qap.nd S VF (af (aO iw (PD.q (aO bI (PD.q (aO bI (PD.q (aO cr (ac 1) (PD.q ah))) (PD.q (aO iw (ac 2) (PD.q ah))))) (PD.q ah))) (PD.q ah))))))
   (ao (aB (i:=3) qap.nd S VF (af ah))
   (bR (bB (bx (PWD.td (ee (aG ei (PD.q (bu bU S p IV (aH (ac 0) aM aa) aa ae)) (PD.q ah) (aw _)) (ft (aG j7 (PD.q (au (ac 0))) (PD.q (aO lD (PD.q ah) (PD.q ah))) (aw _)))))) (aF (aB (i:=3) qap.nd S VF (af (au (ac 0))))) bP)
   (aF (bJ (dS (dk (ad (dv 3) (ad (dv 1) (ad ah am aL) aa) aa))))))))),?_⟩
 intro J;have e:∀r g:Int,Pl 0 (.lst [.int r,.int g,.int 0]):=λr g=>⟨r,g,0,S,(),()⟩;refine⟨(cN ns ŕ (Z 63)).map D.int,pA D.int ns ŕ (Z 63),?_⟩;refine⟨λi ρ=>∃(v:Int)(a:Ŗ Sm),ρ=[Z (.v (.fzl (ns.map D.int))),Z (.v (.int v)),a,ŕ],⟨_,_,S⟩,?_,?_⟩
 ·rintro i d ρ hd ⟨v,a,rfl⟩;let⟨x,rfl,I⟩:=cg hd;show⟨mU 'b' 'b',(by decide:(0:Int)<1000000007),(by decide:(0:Int)<2147483647),_,Z (.v (.int x)),S⟩
 rintro ρ ⟨v,a,rfl⟩;refine⟨λρ=>∃r:Int,ρ=[Z (.v (.fzl (ns.map D.int))),Z (.v (.int v)),a,Z (.v (.int r))],⟨λh=>?_,λh=>?_⟩,?_⟩
 ·have h:=dP h;let⟨y,j⟩:=zt (ns:=ns) (k:=0) 'b' (by rw[Il]at h;show h);show⟨_,j,⟨'b','b','b'⟩,λ_=>⟨_,j,_,S⟩,λ_=>⟨_,S⟩⟩
 ·show⟨λc=>(by cases c),λ_=>⟨_,S⟩⟩
 rintro ρ ⟨r,rfl⟩;show q _ (e r v)
inductive y__law_draw(as:List Sm)(R:Sm->List Om->Prop)(Rx:XD->List Om->Prop):Prop|mk (a:Option Addr) (o:Om) (z:Int) (n:Nat) (_:as=[.ob a o,.v (.int z)]) (_:Pl n o) (_:n<2^20) (_:0<z) (_:z<2^9000) (_:∀(x:Int)(o':Om),0<=x->x<z->Pl (n+1) o'->R (.v (.int x)) [o'])
theorem yM(F:Fun K "_law_draw" "_law_draw" nT f G) :FnOk P w K mg base aN (n+1) f G ["_law_pool_here","_law_many"] (lSpM K y__law_draw):=by
 refine F.okM qaj (λas R l h=>?_) (λC A outer s H E as R l N I L h g=>?_)
 ·let⟨a,o,z,n,rfl,_⟩:=h;rfl
 let⟨a,o,z,n,rfl,x,J,e,y,q⟩:=h;let⟨B,rfl⟩:=dq g
 refine⟨_,(bR (bB (bx (aG ei (PD.q (au (ac 0))) (PD.q ah) (aw _))) (ao (aB (i:=2) qaj.nd S VF (af (aO iw (PD.q (au (ac 0))) (ac 1))))
   (ao (lr 0 (af (aO kK (PD.q (au (ac 0))) (ac 1))) (af ah))
   (aF (bJ (af (dv 2)))))) bP)
   (ao (Dm 0 tj (af ah) (af ah))
   (ao (aB (i:=3) qaj.nd S VF (af (au (ac 0))))
   (ao (aB (i:=4) qaj.nd S VF (af (aO cr (PD.q (aO bI (PD.q (aO bI (PD.q (aO bI (PD.q (au (ac 0))) (PD.q (aO cr (PD.q (aO cr (PD.q ah) (ac 3))) (ac 3))))) (PD.q (aO cr (PD.q ah) (ac 3))))) (PD.q ah))) (PD.q ah))))
   (aF (bJ (af (aO iw (PD.q (aO iw (PD.q (aO cr (PD.q (aO iw (ac 4) (PD.q ah))) (PD.q ah))) (PD.q ah))) (ac 1))))))))),?_⟩
 intro M;let⟨r,st,c,rfl,j,v⟩:=x;refine⟨λρ=>ρ=[Z (.ob (Z B) (.lst [.int r,.int st,.int c])),Z (.v (.int z)),ŕ,ŕ,ŕ],⟨_,S,λh=>?_,λ_=>rfl⟩,?_⟩
 ·show⟨_,S,e,_,S,CDivB.of e y,_,S,_,S,_,S,q _ _ (ME _ ()) (Mb _ e) ⟨_,st,c,S,j,()⟩⟩
 rintro ρ rfl;refine⟨trivial,2,c,S,S,(by change 2<3;decide),_,S,_,S,?_⟩
 have p:-(2^64)<c+1:=by omega
 have u:c+1<2^64:=by omega
 refine⟨_,S,eM 'b' 'b',mU p u,eM 'b' 'b',mU 'b' 'b',(by decide:(0:Int)<2147483647),mU 'b' 'b',(by decide:(0:Int)<1000000007),e,?_⟩;show⟨_,S,q _ _ (ME _ ()) (Mb _ e) ⟨r,st,c+1,S,(),()⟩⟩
noncomputable def BdS(n:Nat)(bs:Y Bd):Prop:=bs.length=n/\∀b∈bs,b.1.natAbs<=5/\∀m,b.2=Z m->m.natAbs<=8
inductive y__law_bounds(as:List Sm)(R:Sm->List Om->Prop)(Rx:XD->List Om->Prop):Prop|mk (a:Option Addr) (o:Om) (n m:Nat) (op:Int) (_:as=[.ob a o,.v (.int (n:Nat)),.v (.int op)]) (_:Pl m o) (_:m+100<2^20) (_:n<=8) (_:0<=op) (_:op<=4) (_:∀(bs:List Bd)(gs:List Int)(hs:List Bool)(o':Om)(q1 q2 q3:Addr),BdS n bs->gs.length=n->(∀g∈gs,g.natAbs<=2)->hs.length=n->Pl (m+100) o'->R (.ob ŕ (.tl [(q1,Z (bs.map aT)),(q2,Z (gs.map D.int)),(q3,Z (hs.map D.bl))])) [o'])
theorem fu{c:Type}{P:c->Prop}{xs:Y c}{x:c}(h:∀y∈xs,P y)(e:P x):∀y∈xs++[x],P y:=λy a=>by
 rcases IZ.mp a with a|a
 ·show h y a
 ·rw[Iz.mp a];show e
theorem BdS.snoc{n:Nat}{bs:Y Bd}{b:Bd}(h:BdS n bs)(a:b.1.natAbs<=5)(c:∀m,b.2=Z m->m.natAbs<=8):BdS (n+1) (bs++[b]):=⟨by rw[Io,h.1];rfl,fu h.2 ⟨a,c⟩⟩
theorem qK{xs:Y Int}{i:Nat}{v:Int}{P:Int->Prop}(h:∀x∈xs,P x)(c:P v):∀x∈xs.set i v,P x:=λx a=>by
 rcases KR a with a|rfl
 ·show h x a
 ·show c
noncomputable abbrev BS(g:Addr)(k:Nat)(e rt:Int)(o:Om)(bs:Y Bd)(gs:Y Int)(c:Y Bool)(h j l a:Ŗ Sm):ak:=[Z (.ob (Z g) o),Z (.v (.int (k:Nat))),Z (.v (.int e)),Z (.v (.int rt)),Z (.own (bs.map aT)),Z (.own (gs.map D.int)),Z (.own (c.map D.bl)),h,j,l,a]
theorem Cy(F:Fun K "_law_bounds" "_law_bounds" mR f G)(v:ClM P w K mg base n "_law_draw" ["_law_pool_here","_law_many"] y__law_draw)(cm:mg "range"=ŕ)(fK:mg "int"=ŕ)(iA:mg "max"=ŕ):FnOk P w K mg base aN (n+1) f G ["_law_pool_here","_law_count","_law_opens"] (lSpM K y__law_bounds):=by
 refine F.okM qag (λas R Rx h=>?_) (λM5 A outer s H E as R Rx qs M9 p h Nh=>?_)
 ·let⟨a,o,k,m,u,rfl,_⟩:=h;rfl
 let⟨a,o,k,m,u,rfl,hp,hm,hk,h0,h4,q⟩:=h;let⟨N,rfl⟩:=dq Nh
 refine⟨_,(ao (aB (i:=3) qag.nd S VF (cz cr (bi v p S (bo 0 (ay (af ah) aS aL) aa) aa (ar aL ae)) (af (bT kQ S fK Kj (aH (PD.q (dQ ei (ac 2) (PD.q ah) (aw _))) aM gU) gU ae))))
   (ao (aB (i:=4) qag.nd S VF (dS (dk am)))
   (ao (aB (i:=5) qag.nd S VF (dS (dk am)))
   (ao (aB (i:=6) qag.nd S VF (dS (dk am)))
   (ao (fq IW S (fM (ix S cm (ad (dv 1) am aa))) (cE (i:=7) qag.nd S VF) (ao (aB (i:=8) qag.nd S VF (cz cV (bi v p S (bo 0 (ay (af ah) aS aL) aa) aa (ar aL ae)) (af ah)))
   (ao (aB (i:=9) qag.nd S VF (bi v p S (bo 0 (ay (af ah) aS aL) aa) aa (ar aL ae)))
   (bR (fk 6 (zO (af (dQ ei (ac 3) (PD.q ah) (aw _))) (FQ (GV (cp p.units) (bi v p S (bo 0 (ay (af (aO cr (PD.q ah) (PD.q (bu (pM S) S iA LP (aH (PD.q ah) (aH (ac 3) aM aa) aL) aL (ar aa ae))))) aS bO) aa) aa (ar bO ae)) (af ah) (aw _)))) (dA rO) rO)
   (ao (aB (i:=10) qag.nd S VF (af (aO bI (ac 8) (PD.q (aO iw (ac 9) (PD.q ah))))))
   (ao (fk 5 (cz cV (bi v p S (bo 0 (ay (af ah) aS aL) aa) aa (ar aL ae)) (af ah)) (dA bO) bO)
   (bR (bB (bx (bY (PD.q (bv (ac 6) (ac 7) (λ_ _=>rfl))) (λ_=>rfl))) (ao (lr 5 (af ah) (af (dv 7)))
   (aF (aB (i:=9) qag.nd S VF (af ah)))) bP)
   (bR (bB (bx (aG fm (ac 9) (PD.q (aO cr (PD.q ah) (ac 2))) (aw _))) (aF (aB (i:=10) qag.nd S VF (af bt))) (aF (bB (bx (aG (cp p.units) (ac 9) (PD.q ah) (aw _))) (aF (aB (i:=10) qag.nd S VF (af (aO cV (ac 8) (PD.q ah))))) bP)))
   (aF (fk 4 (af (bw (ad (dv 8) (ad (dv 10) am aa) aa))) (dA bC) bC))))))))))
   (aF (bJ (FN (ay (jY 4) (ay (jY 5) (ay (jY 6) aS aa) aa) aa))))))))),?_⟩
 intro ke;refine⟨⟨_,_,S⟩,_,S,S,_,_,3,m,S,hp,(),'b',bN 'b',λx o1 hx0 Sz Nv=>?_⟩;rfl';obtain⟨rt,be,r0,r2⟩:∃rt:Int,x*(if decide (0<u) then 1 else 0)=rt/\0<=rt/\rt<=2:=⟨_,S,by split<;>omega,by split<;>omega⟩;refine⟨eM () (),?_⟩;simp only[be];refine⟨⟨(),()⟩,λi ρ=>∃bs gs e o' u7 u8 u9 J,ρ=BS N k u rt o' bs gs e u7 u8 u9 J/\BdS i bs/\gs.length=i/\(∀g∈gs,g.natAbs<=2)/\e.length=i/\Pl (m+1+5*i) o',⟨[],[],[],o1,_,_,_,_,S,⟨S,λb j=>by cases j⟩,S,λg r=>(by cases r),S,Nv⟩,?_,?_⟩
 ·rintro i d ρ hd ⟨bs,gs,e,o2,u7,u8,u9,J,rfl,C,B,r,z,L⟩;let⟨hi,rfl⟩:=ia hd
  have NT:i<k:=by omega
  refine⟨⟨_,_,S⟩,_,S,S,_,_,5,_,S,L,(),'b',bN 'b',λl o3 a0 a1 OA=>?_⟩;rfl';refine⟨⟨_,_,S⟩,_,S,S,_,_,32,_,S,OA,(),'b',bN 'b',λO o4 b0 b1 NV=>?_⟩;rfl'
  have hz:(e.map D.bl).length<sizeLine:=by rw[Il];show br ()
  refine⟨λρ=>∃(j:Bool)(I:Om),ρ=BS N k u rt I bs gs (e++[j]) (Z (.v (.int (0+(i:Nat))))) (Z (.v (.int (l-2)))) (Z (.v (.int O))) J/\Pl (m+1+5*i+3) I,⟨λc=>?_,λc=>⟨hz,_,gp D.bl e Ř,Ř,o4,S,NV.mono ()⟩⟩,?_⟩
  ·refine⟨⟨_,_,S⟩,eM 'b' 'b',_,S,S,_,_,_,_,S,NV,(),?_,bN ?_,λx3 I c0 c1 Q=>?_⟩
   ·change (0:Int)<2*(if rt>1 then rt else 1);split<;>omega
   ·change 2*(if rt>1 then rt else 1)<2^64;split<;>omega
   rfl';show⟨hz,_,gp D.bl e _,_,I,S,Q.mono ()⟩
  rintro ρ ⟨j,I,rfl,Q⟩
  have X:(gs.map D.int).length<sizeLine:=by rw[Il];show br ()
  refine⟨(by decide:(0:Int)<4),?_⟩;refine⟨⟨_,_,S⟩,_,S,S,_,_,5,_,S,Q,(),'b',bN 'b',λx4 b_ d0 d1 P8=>?_⟩;rfl';refine⟨X,_,gp D.int gs _,?_⟩;rfl';have OM:cF ((e++[j]).map D.bl) (0+(i:Int))=Z (.bl j):=cP (i:=i) (by rw[Im (),z,Je];rfl) (Jt _)
  have T:(bs.map aT).length<sizeLine:=by rw[Il,C.1];show br ()
  refine⟨λρ=>∃(y:Y Int)(a_:Int),ρ=BS N k u rt b_ bs y (e++[j]) (Z (.v (.int (0+(i:Nat))))) (Z (.v (.int (l-2)))) (Z (.v (.int a_))) (Z (.v (.int (l-2+O % 4))))/\y.length=i+1/\(∀g∈y,g.natAbs<=2),⟨_,OM,λc=>?_,λc=>⟨gs++[x4-2],O,S,by rw[Io,B];rfl,fu r ()⟩⟩,?_⟩
  ·refine⟨i,by rw[Jt];show eZ (by rw[Il,Io];change i<gs.length+1;omega),_,(KD ..).symm,?_⟩;show⟨_,0,S,by rw[Iv,Io,B];rfl,qK (fu r ()) 'b'⟩
  rintro ρ ⟨y,a_,rfl,U8,U⟩;refine⟨λρ=>∃M:Ŗ Int,ρ=BS N k u rt b_ bs y (e++[j]) (Z (.v (.int (0+(i:Nat))))) (Z (.v (.int (l-2)))) (Z (.v (.int a_))) (Z (.v (oI M)))/\∀mm,M=Z mm->mm.natAbs<=8,⟨eM 'b' 'b',λc=>⟨ŕ,S,λmm h=>by cases h⟩,λc=>⟨λc2=>⟨Z (l-2-1),S,λmm h=>by cases h;omega⟩,λc2=>⟨Z (l-2+O % 4),S,λmm h=>by cases h;omega⟩⟩⟩,?_⟩;rintro ρ ⟨M,rfl,SA⟩;show⟨T,_,gp aT bs (l-2,M),_,_,_,b_,_,_,_,_,S,C.snoc (by change (l-2).natAbs<=5;omega) SA,U8,U,by rw[Io,z];rfl,P8.mono ()⟩
 ·rintro ρ ⟨bs,gs,e,o2,u7,u8,u9,J,rfl,C,B,r,z,L⟩;rw[gA,JO]at C B z L;show⟨_,_,_,S,λq1 q2 q3=>⟨_,S,q bs gs e o2 q1 q2 q3 C B r z (L.mono ())⟩⟩
noncomputable def mW:D->D
 |.lst l=>.tup l
 |d=>d
theorem tw{d:D}{l:Y D}(h:mW d=.tup l):d=.tup l\/d=.lst l:=by
 cases d with
 |tup m=>show .inl h
 |lst m=>refine .inr ?_;cases h;rfl
 |_=>cases h
inductive z__law_times(ds:List D)(R:D->Prop):Prop|mk (xs ys:List Int) (_:ds.map mW=[.tup (xs.map D.int),.tup (ys.map D.int)]) (_:xs.length<=1000) (_:(∀x∈xs,cM x)) (_:(∀y∈ys,cM y)) (_:R (.int (cC xs ys)))
theorem C6(F:Fun K "_law_times" "_law_times" ki f G)(B:mg "sum"=ŕ)(r:mg "zip"=ŕ):FnOk P w K mg base aN (n+1) f G ["_law_entries","_law_spot"] (lSp K z__law_times):=by
 refine F.okD Gm (λds R h=>?_) (λC A outer s H E ds R I h=>?_)
 ·let⟨xs,g,e,_⟩:=h;have:=Ju List.length e;rw[Il]at this;show this
 let⟨xs,g,e,u,v,z,q⟩:=h
 obtain⟨a,c,rfl⟩:∃a c,ds=[a,c]:=by
  have:=Ju List.length e;rw[Il]at this
  match ds,this with
  | [a,c],_=>show⟨a,c,S⟩
 have o:mW a=.tup (xs.map D.int):=(LG e).1;have p:mW c=.tup (g.map D.int):=(LG (LG e).2).1;refine⟨_,(aU (bf (bu (Ho S) S B PyProof.Rows.boot_sum (aH (PD.q (PF.d (dG (k:=2) (N':=["_law_number","_law_one"]) (cap:=[ŕ,ŕ]) S (.ok (show bX ["_law_entries","_law_spot"] (av ki) _ ["_law_number","_law_one"] [ŕ,ŕ]=ŗ by lia)) 'a' (iW (n:=2) (fE (bM 'b') (fE (bM 'b') jb))) (kz S r (ad (dv 0) (ad (dv 1) am aa) aa)) (λ_ _ _ _ _=>(eO (n:=2) S (cf (bc (i:=0) (show List.Nodup (["_law_number","_law_one"]:Y Str)by lia) S VF) (cf (bc (i:=1) (show List.Nodup (["_law_number","_law_one"]:Y Str)by lia) S VF) eN)))) (λ_ _ _ _ _=>(aO cr (ac 0) (ac 1)))))) aM bD) bD ae))),?_⟩;rcases tw o with rfl|rfl<;>rcases tw p with rfl|rfl
 all_goals
  refine⟨_,_,S,S,?_⟩;refine qP (λx y=>D.int (x*y)) (br u) (λx l y j=>⟨S,io (v x l) (z y j),S⟩) ?_;show⟨List.zipWith (λx y=>x*y) xs g,by rw[Mv];rfl,q⟩
noncomputable def jm(n:Nat)(rs:Y ag):Prop:=∀r∈rs,r.1.length=n/\(∀x∈r.1,x.natAbs<=3)/\r.2.natAbs<=400
inductive y__law_rows(as:List Sm)(R:Sm->List Om->Prop)(Rx:XD->List Om->Prop):Prop|mk (a:Option Addr) (o:Om) (n m:Nat) (mn:Int) (sp:List Int) (hs:List Bool) (_:as=[.ob a o,.v (.int mn),.v (.lst (sp.map D.int)),.v (.lst (hs.map D.bl))]) (_:Pl m o) (_:m+200<2^20) (_:n<=8) (_:0<=mn) (_:mn<=12) (_:sp.length=n) (_:hs.length=n) (_:(∀x∈sp,x.natAbs<=10)) (_:∀(rs:List ag)(o':Om),jm n rs->(rs.length:Int)<=mn->Pl (m+200) o'->R (.own (rs.map ax)) [o'])
noncomputable abbrev RS(g:Addr)(e:Int)(sp:Y Int)(c:Y Bool)(o:Om)(rs:Y ag)(h j l p r a:Ŗ Sm):ak:=[Z (.ob (Z g) o),Z (.v (.int e)),Z (.v (.lst (sp.map D.int))),Z (.v (.lst (c.map D.bl))),Z (.own (rs.map ax)),h,j,l,p,r,a]
noncomputable def nums12:Y Int:=[0,0,0,0,0,0,-3,-2,-1,1,2,3]
theorem zi{x:Int}(c:0<=x)(e:x<12):∃v:Int,cF (nums12.map D.int) x=Z (.int v)/\v.natAbs<=3:=by
 let⟨k,rfl⟩:=Ka c
 have a:k<12:=by omega
 refine⟨nums12.getD k 0,cP (i:=k) (ce (show k<nums12.length from a)) S,?_⟩
 have:∀j<12,(nums12.getD j 0).natAbs<=3:=by decide
 show this k a
theorem Ac(F:Fun K "_law_rows" "_law_rows" mj f G)(u:ClM P w K mg base n "_law_draw" ["_law_pool_here","_law_many"] y__law_draw)(lv:Cl P w K mg base n "_law_times" ["_law_entries","_law_spot"] z__law_times)(cm:mg "range"=ŕ)(dB:mg "list"=ŕ)(ga:mg "abs"=ŕ)(aV:mg "len"=ŕ)(aP:mg "tuple"=ŕ):FnOk P w K mg base aN (n+1) f G ["_law_pool_here","_law_many","_law_spot","_law_hung"] (lSpM K y__law_rows):=by
 refine F.okM qar (λas R Rx h=>?_) (λM5 A outer s H E as R Rx qs M9 e h Nh=>?_)
 ·let⟨a,o,k,m,J,sp,I,rfl,_⟩:=h;rfl
 let⟨a,o,k,m,J,sp,I,rfl,hp,hm,hk,h0,h12,O2,QQ,hsz,q⟩:=h;let⟨Q,rfl⟩:=dq Nh
 refine⟨_,(ao (aB (i:=4) qar.nd S VF (dS (dk am)))
   (ao (fq IW S (ui S cm (ay (bi u e S (bo 0 (ay (af (aO bI (ac 1) (PD.q ah))) aS bO) aa) aa (ar bO ae)) aS bj)) (cE (i:=5) qar.nd S VF) (ao (aB (i:=6) qar.nd S VF (dS (dk am)))
   (ao (fq IW S (fM (ca (dv 3))) (cE (i:=7) qar.nd S VF) (ao (aB (i:=8) qar.nd S VF (tN (af (bw (ad ah (ad ah (ad ah (ad ah (ad ah (ad ah (ad (cQ (PD.q ah)) (ad (cQ (PD.q ah)) (ad (cQ (PD.q ah)) (ad ah (ad ah (ad ah am aL) aL) aL) gD) gD) gD) aL) aL) aL) aL) aL) aL))) (bi u e S (bo 0 (ay (af ah) aS aL) aa) aa (ar aL ae)) (λ_ _=>rfl)))
   (bR (bB (bx (bY (ac 7) (λ_=>rfl))) (aF (aB (i:=8) qar.nd S VF (af (bu kP S ga KI (aH (ac 8) aM aa) aa ae)))) bP)
   (aF (fk 6 (af (dv 8)) (dA aa) aa)))))
   (ao (aB (i:=9) qar.nd S VF (bi u e S (bo 0 (ay (af ah) aS aL) aa) aa (ar aL ae)))
   (bR (bB (bx (PWD.td (ee (aG (cp e.units) (ac 9) (PD.q ah) (aw _)) (ft (aG ei (PD.q (bu bU S aV IV (aH (ac 4) aM aa) aa ae)) (PD.q ah) (aw _)))))) (aF (aB (i:=6) qar.nd S VF (zC S dB (tN (xu 4 S (bi u e S (bo 0 (ay (af (bu bU S aV IV (aH (ac 4) aM aa) aa ae)) aS bj) aa) aa (ar bj ae)) (λ_ _=>rfl)) (af ah) (λ_ _=>rfl)) aC))) bP)
   (ao (aB (i:=10) qar.nd S VF (cz cV (af (wu lv e S (aH (ac 6) (aH (ac 2) aM aa) aa) aa (ar aa ae))) (bi u e S (bo 0 (ay (af ah) aS aL) aa) aa (ar aL ae))))
   (bR (bB (bx (aG (cp e.units) (ac 9) (PD.q ah) (aw _))) (aF (aB (i:=10) qar.nd S VF (cz cV (bi u e S (bo 0 (ay (af ah) aS aL) aa) aa (ar aL ae)) (af ah)))) bP)
   (aF (fk 4 (af (bw (ad (bT cu S aP IB (aH (ac 6) aM aa) aa ae) (ad (dv 10) am aa) bj))) (dA bC) bC)))))))))
   (aF (bJ (jY 4))))),?_⟩
 intro ke;refine⟨⟨_,_,S⟩,_,S,S,_,_,_,_,S,hp,(),(),bN (),λc o1 c0 c1 Nv=>?_⟩;rfl';refine⟨⟨(),()⟩,λi ρ=>∃rs o' u5 u6 g l a_ B,ρ=RS Q J sp I o' rs u5 u6 g l a_ B/\jm k rs/\rs.length=i/\Pl (m+1+14*i) o',⟨[],o1,_,_,_,_,_,_,S,λr e=>(by cases e),S,Nv⟩,?_,?_⟩
 ·rintro i d ρ hd ⟨rs,o2,u5,u6,g,l,a_,B,rfl,X,be,T⟩;let⟨hi,rfl⟩:=ia hd
  have NT:i<12:=by omega
  refine⟨λj ρ=>∃es o' g l,ρ=RS Q J sp I o' rs (Z (.v (.int (0+(i:Nat))))) (Z (.own (es.map D.int))) g l a_ B/\es.length=j/\(∀x∈es,x.natAbs<=3)/\Pl (m+1+14*i+j) o',⟨[],o2,_,_,S,S,λx N=>(by cases N),T⟩,?_,?_⟩
  ·rintro j d ρ hd ⟨es,o3,g,l,rfl,M,p,U⟩;let⟨hb,rfl,hhb⟩:=cg hd;have hj:=az hhb;refine⟨⟨_,_,S⟩,_,S,S,_,_,12,_,S,U,(),'b',bN 'b',λx O x0 x1 L=>?_⟩;rfl';let⟨v,hv,hv3⟩:=zi x0 x1;refine⟨_,hv,?_⟩;refine⟨λρ=>∃y:Int,ρ=RS Q J sp I O rs (Z (.v (.int (0+(i:Nat))))) (Z (.own (es.map D.int))) (Z (.v (.bl hb))) (Z (.v (.int y))) a_ B/\y.natAbs<=3,⟨λc=>⟨_,S,?_⟩,λc=>⟨v,S,hv3⟩⟩,?_⟩
   ·split<;>omega
   rintro ρ ⟨y,rfl,hy⟩;show⟨by rw[Il];show br (),_,gp D.int es y,_,O,_,_,S,by rw[Io,M];rfl,fu p hy,L.mono ()⟩
  ·rintro ρ ⟨es,o3,g,l,rfl,M,p,U⟩;rw[Il]at M U;refine⟨⟨_,_,S⟩,_,S,S,_,_,5,_,S,U,(),'b',bN 'b',λmr O x0 x1 L=>?_⟩;rfl';refine⟨λρ=>∃(es:Y Int)(o':Om),ρ=RS Q J sp I o' rs (Z (.v (.int (0+(i:Nat))))) (Z (.own (es.map D.int))) g l (Z (.v (.int mr))) B/\es.length=k/\(∀x∈es,x.natAbs<=3)/\Pl (m+1+14*i+10) o',⟨λc=>⟨λC=>?_,λC=>⟨es,O,S,(),p,L.mono ()⟩⟩,λc=>⟨λC=>ff C,λC=>⟨es,O,S,(),p,L.mono ()⟩⟩⟩,?_⟩
   ·have C:0<rs.length:=by have:=dP C;rw[Il]at this;omega
    refine⟨⟨_,_,S⟩,⟨_,_,S⟩,_,S,S,_,_,_,_,S,L,(),by rw[Il];omega,bN (by rw[Il];omega),λy o5 y0 y1 b_=>?_⟩;rfl';rw[Il]at y1;let⟨z,rfl⟩:=Ka y0
    have hz:z<rs.length:=by omega
    let⟨r1,r2,r3⟩:=X rs[z] (KS hz);show⟨_,_,_,_,S,S,cP (i:=z) (bL hz) S,_,S,_,S,rs[z].1,o5,S,r1,r2,b_.mono ()⟩
   rintro ρ ⟨es,o5,rfl,M,p,b_⟩;have P6:∀x∈es,cM x:=λx N=>gB (m:=10) (by have:=p x N;omega) 'b';have U9:∀x∈sp,cM x:=λx N=>gB (m:=10) (by have:=hsz x N;omega) 'b';have Rt:=mq p hsz
   have SD:(cC es sp).natAbs<=300:=by have:es.length*(3*10)<=8*(3*10):=Kr _ ();omega
   refine⟨es,sp,S,(),P6,U9,trivial,?_⟩;refine⟨⟨_,_,S⟩,_,S,S,_,_,4,_,S,b_,(),'b',bN 'b',λy o6 y0 y1 P8=>?_⟩;rfl';refine⟨λρ=>∃(b:Int)(o':Om),ρ=RS Q J sp I o' rs (Z (.v (.int (0+(i:Nat))))) (Z (.own (es.map D.int))) g l (Z (.v (.int mr))) (Z (.v (.int b)))/\b.natAbs<=400/\Pl (m+1+14*i+12) o',⟨λc=>?_,λc=>⟨_,o6,S,(),P8.mono ()⟩⟩,?_⟩
   ·refine⟨⟨_,_,S⟩,_,S,S,_,_,13,_,S,P8,(),'b',bN 'b',λz o7 z0 z1 Ru=>?_⟩;rfl';show⟨_,o7,S,(),Ru.mono ()⟩
   rintro ρ ⟨b,o7,rfl,hb,Ru⟩;show⟨by rw[Il];show br (),_,gp ax rs (es,b),_,o7,_,_,_,_,_,_,S,fu X ⟨M,p,hb⟩,by rw[Io,be];rfl,Ru.mono ()⟩
 ·rintro ρ ⟨rs,o2,u5,u6,g,l,a_,B,rfl,X,be,T⟩;rw[gA]at be T;show⟨_,S,q rs o2 X () (T.mono ())⟩
structure PlS(n:Nat)(mn:Int)(bs:List Bd)(rs:List ag)(gs sp:List Int):Prop where
 b:BdS n bs
 r:jm n rs
 rl:(rs.length:Int)<=mn
 gl:gs.length=n
 g:∀g∈gs,g.natAbs<=2
 sl:sp.length=n
 s:∀x∈sp,x.natAbs<=10
inductive y__law_small(as:List Sm)(R:Sm->List Om->Prop)(Rx:XD->List Om->Prop):Prop|mk (a:Option Addr) (o:Om) (n m:Nat) (mn op:Int) (_:as=[.ob a o,.v (.int (n:Nat)),.v (.int mn),.v (.int op)]) (_:Pl m o) (_:m+500<2^20) (_:n<=8) (_:1<=mn) (_:mn<=12) (_:0<=op) (_:op<=4) (_:∀(bs:List Bd)(rs:List ag)(gs sp:List Int)(o':Om),PlS n mn bs rs gs sp->Pl (m+500) o'->R (.v (.tup [b8 bs rs gs,.tup (sp.map D.int)])) [o'])
noncomputable abbrev SS(j:Addr)(k:Nat)(g h:Int)(o:Om)(bs:Y Bd)(gs:Y Int)(l p r u a e c:Ŗ Sm):ak:=[Z (.ob (Z j) o),Z (.v (.int (k:Nat))),Z (.v (.int g)),Z (.v (.int h)),Z (.v (.lst (bs.map aT))),Z (.own (gs.map D.int)),l,p,r,u,a,e,c]
theorem wF(F:Fun K "_law_small" "_law_small" nR f G)(OB:ClM P w K mg base n "_law_bounds" ["_law_pool_here","_law_count","_law_opens"] y__law_bounds)(OV:ClM P w K mg base n "_law_rows" ["_law_pool_here","_law_many","_law_spot","_law_hung"] y__law_rows)(J:ClM P w K mg base n "_law_draw" ["_law_pool_here","_law_many"] y__law_draw)(lv:Cl P w K mg base n "_law_times" ["_law_entries","_law_spot"] z__law_times)(X:mg "tuple"=ŕ)(iA:mg "max"=ŕ):FnOk P w K mg base aN (n+1) f G ["_law_pool_here","_law_count","_law_many","_law_opens"] (lSpM K y__law_small):=by
 refine F.okM qas (λas R Rx h=>?_) (λM5 A outer s H E as R Rx qs M9 B h Nh=>?_)
 ·let⟨a,o,k,m,C,L,rfl,_⟩:=h;rfl
 let⟨a,o,k,m,C,L,rfl,hp,hm,hk,h1,h12,h0,h4,q⟩:=h;let⟨b_,rfl⟩:=dq Nh
 refine⟨_,(ao (yb 4 5 6 S qas.nd S S S VF VF VF (bi OB B S (bo 0 (ay (af (dv 1)) (ay (af (dv 3)) aS aa) aa) aa) aa (ar aa (ar aa ae))))
   (ao (aB (i:=7) qas.nd S VF (dS (dk am)))
   (iE 4 (ao (fq IW S (fM (ca (dv 4))) (hX (n:=2) S (dN (cE (i:=8) qas.nd S VF) (dN (cE (i:=9) qas.nd S VF) gR))) (ao (aB (i:=10) qas.nd S VF (af ah))
   (bR (bB (bx (aG ef (ac 9) (PD.q bt) (aw _))) (aF (aB (i:=10) qas.nd S VF (af (bu (pM S) S iA LP (aH (PD.q ah) (aH (PD.q (aO bI (PD.q (aO cV (ac 9) (ac 8))) (PD.q ah))) aM bO) aL) aL (ar bO ae))))) bP)
   (aF (fk 7 (cz bI (af (dv 8)) (bi J B S (bo 0 (ay (af (dv 10)) aS aa) aa) aa (ar aa ae))) (dA bO) bO)))))
   (iE 7 (iE 6 (ao (aB (i:=11) qas.nd S VF (bi OV B S (bo 0 (ay (af (aO cV (ac 2) (PD.q ah))) (ay (af (dv 7)) (ay (af (dv 6)) aS aa) aa) bO) aa) aa (ar bO (ar aa (ar aa ae)))))
   (bR (bB (PXW.toB (lU (CJ (cp B.units) (bi J B S (bo 0 (ay (af ah) aS aL) aa) aa (ar aL ae)) (af ah) (aw _)) (lU (bx (aG ei (ac 1) (PD.q ah) (aw _))) (lU (bx (cK (bY (PD.q (bv (ac 6) (PD.q (aO cV (ac 1) (PD.q ah))) (λ_ _=>rfl))) (λ_=>rfl)))) (uj (bx (cK (bY (PD.q (bv (ac 6) (PD.q (aO cV (ac 1) (PD.q ah))) (λ_ _=>rfl))) (λ_=>rfl))))))))) (ao (aB (i:=12) qas.nd S VF (cz bI (af (aO cr (PD.q (PF.d (dk (ad ah am aL)))) (PD.q (aO cV (ac 1) (PD.q ah))))) (uf (Cf (ay (cz cV (af (cQ (PD.q ah))) (bi J B S (bo 0 (ay (af ah) aS aL) aa) aa (ar aL ae))) (ay (cz cV (af (cQ (PD.q ah))) (bi J B S (bo 0 (ay (af ah) aS aL) aa) aa (ar aL ae))) aS bO) bO)))))
   (ao (fk 11 (kA (ay (af (bT cu S X IB (aH (ac 12) aM aa) aa ae)) (ay (cz cV (af (wu lv B S (aH (ac 12) (aH (ac 7) aM aa) aa) aa (ar aa ae))) (bi J B S (bo 0 (ay (af ah) aS aL) aa) aa (ar aL ae))) aS bO) bj)) (dA bC) bC)
   (ao (lr 5 (cz bI (af ah) (bi J B S (bo 0 (ay (af ah) aS aL) aa) aa (ar aL ae))) (af (aO cV (ac 1) (PD.q ah))))
   (aF (lr 5 (cz bI (af ah) (bi J B S (bo 0 (ay (af ah) aS aL) aa) aa (ar aL ae))) (af (aO cV (ac 1) (PD.q ah)))))))) bP)
   (aF (bJ (af (bw (ad (bw (ad (bT cu S X IB (aH (ac 4) aM aa) aa ae) (ad (bT cu S X IB (aH (ac 11) aM aa) aa ae) (ad (bT cu S X IB (aH (ac 5) aM aa) aa ae) am bj) bj) bj)) (ad (bT cu S X IB (aH (ac 7) aM aa) aa ae) am bj) bC))))))))))))),?_⟩
 intro ke;refine⟨⟨_,_,S⟩,_,S,S,_,_,k,m,L,S,hp,(),hk,h0,h4,λbs gs I o1 q1 q2 q3 hB Qi hg QQ Nv=>?_⟩;refine⟨_,_,_,_,_,_,S,⟨(by change 4<13;decide),(by change 5<13;decide),(by change 6<13;decide)⟩,?_⟩;rfl';refine⟨λi ρ=>∃sp o' Q a_ N,ρ=SS b_ k C L o' bs gs (Z (.own (I.map D.bl))) (Z (.own (sp.map D.int))) Q a_ N ŕ ŕ/\sp.length=i/\(∀x∈sp,x.natAbs<=10)/\Pl (m+100+i) o',⟨[],o1,_,_,_,S,S,λx u=>(by cases u),Nv⟩,?_,?_⟩
 ·rintro i d ρ hd ⟨sp,be,Q,a_,N,rfl,U,O,Nz⟩;let⟨b,rfl,hb⟩:=cg hd;let⟨b1,b2⟩:=hB.2 b (ID hb);have hi:=az hb;have hBl:=hB.1;refine⟨S,?_⟩;refine⟨λρ=>∃M:Int,ρ=SS b_ k C L be bs gs (Z (.own (I.map D.bl))) (Z (.own (sp.map D.int))) (Z (.v (.int b.1))) (Z (.v (oI b.2))) (Z (.v (.int M))) ŕ ŕ/\0<M/\M<=14/\(M<=5\/b.1+M<=10),?_,?_⟩
  ·let⟨l,mo⟩:=b
   cases mo with
   |none=>show⟨ff,λ_=>⟨4,S,'b','b',.inl 'b'⟩⟩
   |some mm=>
    have b2:=b2 mm S;have b1:l.natAbs<=5:=b1;refine⟨λ_=>⟨if mm-l+1>1 then mm-l+1 else 1,S,?_,?_,?_⟩,tf⟩
    ·split<;>omega
    ·split<;>omega
    ·change _\/l+_<=10;split
     ·show .inr ()
     ·show .inl ()
  rintro ρ ⟨M,rfl,w0,w14,w5⟩;refine⟨⟨_,_,S⟩,_,S,S,_,_,M,_,S,Nz,(),w0,bN (),λx o3 x0 x1 OA=>?_⟩;rfl';show⟨by rw[Il];show br (),_,gp D.int sp _,_,o3,_,_,_,S,by rw[Io,U];rfl,fu O (),OA.mono ()⟩
 rintro ρ ⟨sp,be,Q,a_,N,rfl,U,O,Nz⟩;rw[Il,hB.1]at U Nz;refine⟨⟨_,_,S⟩,_,S,S,_,_,k,_,_,sp,I,S,Nz,(),hk,(),(),U,QQ,O,λrs o3 hR Nq OA=>?_⟩;rfl';have fin:∀(p:Y ag)(r:Y Int)(o':Om),jm k p->(p.length:Int)<=C->r.length=k->(∀g∈r,g.natAbs<=2)->Pl (m+400) o'->R (.v (.tup [b8 bs p r,.tup (sp.map D.int)])) [o']:=λp r o' r1 r2 r3 r4 r5=>q bs p r sp o' ⟨hB,r1,r2,r3,r4,U,O⟩ (r5.mono ());refine⟨λρ=>∃(p:Y ag)(r:Y Int)(o':Om)(PM:Ŗ Sm),ρ=[Z (.ob (Z b_) o'),Z (.v (.int (k:Nat))),Z (.v (.int C)),Z (.v (.int L)),Z (.v (.lst (bs.map aT))),Z (.own (r.map D.int)),Z (.v (.lst (I.map D.bl))),Z (.v (.lst (sp.map D.int))),Q,a_,N,Z (.own (p.map ax)),PM]/\jm k p/\(p.length:Int)<=C/\r.length=k/\(∀g∈r,g.natAbs<=2)/\Pl (m+400) o',?_,?_⟩
 ·have stay:∀o',Pl (m+400) o'->∃(p:Y ag)(r:Y Int)(be:Om)(PM:Ŗ Sm),[Z (Sm.ob (Z b_) o'),Z (.v (.int (k:Nat))),Z (.v (.int C)),Z (.v (.int L)),Z (.v (.lst (bs.map aT))),Z (.own (gs.map D.int)),Z (.v (.lst (I.map D.bl))),Z (.v (.lst (sp.map D.int))),Q,a_,N,Z (.own (rs.map ax)),ŕ]=[Z (.ob (Z b_) be),Z (.v (.int (k:Nat))),Z (.v (.int C)),Z (.v (.int L)),Z (.v (.lst (bs.map aT))),Z (.own (r.map D.int)),Z (.v (.lst (I.map D.bl))),Z (.v (.lst (sp.map D.int))),Q,a_,N,Z (.own (p.map ax)),PM]/\jm k p/\(p.length:Int)<=C/\r.length=k/\(∀g∈r,g.natAbs<=2)/\Pl (m+400) be:=λo' h=>⟨rs,gs,o',ŕ,S,hR,(),Qi,hg,h⟩;refine⟨⟨_,_,S⟩,_,S,S,_,_,2,_,S,OA,(),'b',bN 'b',λx o4 x0 x1 T=>?_⟩;rfl';refine⟨λc=>⟨λc2=>?_,λc2=>⟨ff,λ_=>stay o4 (T.mono ())⟩⟩,λc=>⟨ff,λ_=>stay o4 (T.mono ())⟩⟩
  have c2:1<k:=by have:=dP c2;omega
  have OM:∀j:Nat,j<k->∀z:Int,z=(j:Int)->cF (I.map D.bl) z=Z (.bl (I.getD j Ř)):=λj hj z e=>cP (i:=j) (ce ()) e;refine⟨_,OM (k-1) () _ (),λc3=>⟨_,OM (k-2) () _ (),λc4=>?_,λc4=>stay o4 (T.mono ())⟩,λc3=>⟨ff,λ_=>stay o4 (T.mono ())⟩⟩;refine⟨⟨(),(),gj (by change 1*((k:Int)-2).toNat<=1000;omega)⟩,(List.replicate (k-2) 0).map D.int,by rw[show ((k:Int)-2).toNat=k-2 by omega];show wU (k-2) 0,?_⟩;refine⟨⟨_,_,S⟩,_,S,S,_,_,3,_,S,T,(),'b',bN 'b',λy o5 y0 y1 Og=>?_⟩;rfl';refine⟨⟨_,_,S⟩,_,S,S,_,_,3,_,S,Og,(),'b',bN 'b',λz o6 z0 z1 P8=>?_⟩;rfl'
  have OL:((List.replicate (k-2) 0++[-1-y,-1-z]):Y Int).length=k:=by rw[Io,Jy];change k-2+2=k;omega
  have Va:∀x∈(List.replicate (k-2) 0++[-1-y,-1-z]:Y Int),x.natAbs<=3:=λx u=>by
   rcases IZ.mp u with u|u
   ·rw[Mw u];decide
   ·simp only[IL,KA,or_false]at u;rcases u with rfl|rfl<;>omega
  refine⟨gj (by rw[Il,Jy];change _+2<=1000;omega),((List.replicate (k-2) 0++[-1-y,-1-z]):Y Int).map D.int,by rw[JB];rfl,?_⟩;generalize (List.replicate (k-2) 0++[-1-y,-1-z]:Y Int)=es at *;have P6:∀x∈es,cM x:=λx u=>gB (m:=10) (by have:=Va x u;omega) 'b';have U9:∀x∈sp,cM x:=λx u=>gB (m:=10) (by have:=O x u;omega) 'b';have Rt:=mq Va O
  have SD:(cC es sp).natAbs<=300:=by have:es.length*(3*10)<=8*(3*10):=Kr _ ();omega
  refine⟨es,sp,S,(),P6,U9,trivial,?_⟩;refine⟨⟨_,_,S⟩,_,S,S,_,_,2,_,S,P8,(),'b',bN 'b',λv o7 v0 v1 Ru=>?_⟩;rfl';refine⟨by rw[Il];show br (),_,gp ax rs (es,cC es sp-v),?_⟩;rfl';refine⟨⟨_,_,S⟩,_,S,S,_,_,2,_,S,Ru,(),'b',bN 'b',λg1 o8 g0 g2 Vb=>?_⟩;rfl';refine⟨k-1,by rw[show (k:Int)-1=((k-1:Nat):Int)by omega];show eZ (by rw[Il,Qi];omega),_,(KD ..).symm,?_⟩;rfl';refine⟨⟨_,_,S⟩,_,S,S,_,_,2,_,S,Vb,(),'b',bN 'b',λg3 o9 g4 g5 hp9=>?_⟩;rfl';refine⟨k-2,by rw[show (k:Int)-2=((k-2:Nat):Int)by omega];show eZ (by rw[Il,Iv,Qi];omega),_,(KD ..).symm,?_⟩;rfl';show⟨rs++[(es,cC es sp-v)],_,o9,_,S,fu hR ⟨OL,Va,by change (cC es sp-v).natAbs<=400;omega⟩,by rw[Io,IX];omega,by rw[Iv,Iv,Qi],qK (qK hg ()) (),hp9.mono ()⟩
 rintro ρ ⟨p,r,o',PM,rfl,r1,r2,r3,r4,r5⟩;show⟨_,S,fin p r o' r1 r2 r3 r4 r5⟩
theorem xo{m:Int}:∀{ns:Y Int},(∀x∈ns,m∣x)->m∣bp ns:=by
 have a:∀(ns:Y Int)(d:Int),m∣d->(∀x∈ns,m∣x)->m∣ns.foldl (λd x=>(Int.gcd x d:Int)) d:=by
  intro ns
  induction ns with
  |nil=>intro d hd _;show hd
  |cons x r g=>
   intro d hd c;show g _ (Int.dvd_coe_gcd (c x Iy) hd) λy e=>c y (IC _ e)
 intro ns h;show a ns 0 (Int.dvd_zero m) h
theorem xn{l:Y Int}(h:0<bp l):bp (l.map (·/bp l))=1:=by
 generalize hd:bp l=d at h
 have j:d*bp (l.map (·/d))∣d:=by
  conv=>rhs;rw[←hd]
  refine xo λx a=>?_
  have g:d∣x:=by rw[←hd];show nq l x a
  have c:=nq (l.map (·/d)) (x/d) (I0.mpr ⟨x,a,S⟩);have:=Int.mul_dvd_mul_left d c;rw[Int.mul_ediv_cancel' g]at this;show this
 have u:=qB (l.map (·/d));generalize bp (l.map (·/d))=e at *;let⟨k,r⟩:=j
 have o:d*(e*k)=d*1:=by rw[←LH,←r,Int.mul_one]
 have p:e*k=1:=Int.eq_of_mul_eq_mul_left () o;show Int.eq_one_of_dvd_one u ⟨k,p.symm⟩
noncomputable def mu(s:Led):Nat:=64*s.st.length+2*s.rs.length+s.rs.countP dM
structure Wy(n:Nat)(s:Led):Prop where
 n8:n<=8
 bl:s.bs.length=n
 gl:s.gl.length=n
 ll:s.lm.length=n
 ml:s.mm.length=n
 sl:∀u∈s.st,u<n
 so:s.st.Pairwise (·<·)
 rl:s.rs.length<=30
 rm:s.rm.length=s.rs.length
 rr:∀r∈s.rs,r.1.length=n/\(∀x∈r.1,x.natAbs<2^64)/\r.2.natAbs<=2^(200+65*(n-s.st.length))
 bb:∀b∈s.bs,b.1.natAbs<=2^(200+65*(n-s.st.length))/\∀m,b.2=Z m->m.natAbs<=2^(200+65*(n-s.st.length))
 gg:∀x∈s.gl,x.natAbs<2^64
 ln:s.ln.length+mu s<=602
 gs:s.gs.length+s.st.length<=n
 gn:s.gn.length+s.st.length=n
 n1:∀d∈s.rm,NoL d
 n2:∀d∈s.mm,NoL d
 n3:∀d∈s.lm,NoL d
 n4:∀d∈s.ln,NoL d
 z:∀r∈s.rs,∀u,u<n->u∉s.st->r.1.getD u 0=0
 gr:∀g∈s.gn,g.1<n/\g.1∉s.st/\g.2.1.natAbs<=2^720/\g.2.2.length<=30/\∀r∈g.2.2,r.1.length=n/\0<r.1.getD g.1 0/\(∀x∈r.1,x.natAbs<2^64)/\r.2.natAbs<=2^720
theorem Wy.nd{n:Nat}{s:Led}(h:Wy n s):s.st.Nodup:=h.so.imp λh e=>by omega
theorem Wy.sn{n:Nat}{s:Led}(h:Wy n s):s.st.length<=n:=by have:=h.gn;omega
theorem kJ{n k x:Nat}(a:n<=8)(h:x<=2^(200+65*(n-k))):x<=2^720:=IU h (Kq 'b' ())
theorem uY{x:Int}(h:x.natAbs<=2^720):cM x:=K0 h (KQ 'b' 'b')
theorem Wy.led{n:Nat}{s:Led}(h:Wy n s):LedP n s:=by
 have j:=h.n8;have v:=h.ln;have y:=h.sn;refine⟨h.n8,h.bl,h.gl,h.ll,h.ml,h.sl,h.nd,h.rl,h.rm,λr p=>?_,λb l=>?_,λx g=>?_,(),by have:=h.gs;omega,by have:=h.gn;omega,h.n1,h.n2,h.n3,h.n4⟩
 ·let⟨c,a,u⟩:=h.rr r p;refine⟨c,λx g=>Mr (a x g) (KQ 'b' 'b'),qB _,?_⟩;have:=uN a 'b'
  have e:((2^64:Nat):Int)<2^9000:=by lia
  omega
 ·let⟨c,a⟩:=h.bb b l;show⟨uY (kJ j c),λm o=>uY (kJ j (a m o))⟩
 ·show Mr (h.gg x g) (KQ 'b' 'b')
theorem kU{a:Type}{xs:Y a}{i:Nat}{y x:a}(h:x∈xs.set i y):x∈xs\/x=y:=KR h
theorem sx{a:Type}(c:a->Bool)(xs:Y a)(p:Nat):(xs.eraseIdx p).countP c<=xs.countP c:=(List.eraseIdx_sublist xs p).countP_le
theorem Wy.drop{n:Nat}{s:Led}(h:Wy n s){p:Nat}(e:p<s.rs.length):Wy n (bW s p)/\mu (bW s p)<mu s:=by
 have c:∀x∈s.rs.eraseIdx p,x∈s.rs:=λx j=>Lw j;have l:(s.rs.eraseIdx p).length=s.rs.length-1:=JF e;have o:(s.rm.eraseIdx p).length=s.rm.length-1:=JF (by rw[h.rm];show e)
 have g:mu (bW s p)<mu s:=by have:=sx dM s.rs p;unfold mu bW;simp only;omega
 have:=h.ln;have:=h.rm;have:=h.rl;show⟨⟨h.n8,h.bl,h.gl,h.ll,h.ml,h.sl,h.so,by change (s.rs.eraseIdx p).length<=_;omega,by change (s.rm.eraseIdx p).length=(s.rs.eraseIdx p).length;omega,λr a=>h.rr r (c r a),h.bb,h.gg,by change s.ln.length+_<=_;omega,h.gs,h.gn,λd hd=>h.n1 d (Lw hd),h.n2,h.n3,h.n4,λr a=>h.z r (c r a),h.gr⟩,g⟩
theorem vw{a d:Int}(hd:0<d):(cW a d).natAbs<=a.natAbs:=by
 unfold cW;have c:=Lm (-a) d;omega
theorem Wy.bnd{n:Nat}{s:Led}(h:Wy n s)(p:s.ln.length+mu s<=601){u:Nat}{b:Bd}{d:D}{lm mm:Y D}(e:b.1.natAbs<=2^(200+65*(n-s.st.length))/\∀m,b.2=Z m->m.natAbs<=2^(200+65*(n-s.st.length)))(hd:NoL d)(g:lm.length=n)(j:mm.length=n)(l:∀d∈lm,NoL d)(o:∀d∈mm,NoL d):Wy n { s with bs:=s.bs.set u b,ln:=s.ln++[d],lm:=lm,mm:=mm }/\mu { s with bs:=s.bs.set u b,ln:=s.ln++[d],lm:=lm,mm:=mm }=mu s:=by
 have c:mu { s with bs:=s.bs.set u b,ln:=s.ln++[d],lm:=lm,mm:=mm }=mu s:=rfl;refine⟨⟨h.n8,by change (s.bs.set u b).length=n;rw[Iv];show h.bl,h.gl,g,j,h.sl,h.so,h.rl,h.rm,h.rr,λx a=>?_,h.gg,?_,h.gs,h.gn,h.n1,o,l,λx a=>?_,h.z,h.gr⟩,c⟩
 ·rcases kU a with a|rfl
  ·show h.bb x a
  ·show e
 ·rw[c];change (s.ln++[d]).length+_<=_;rw[Io,IX];omega
 ·rcases IZ.mp a with a|a
  ·show h.n4 x a
  ·rw[Iz.mp a];show hd
theorem Wy.lowU{n:Nat}{s:Led}(h:Wy n s){u:Nat}(a:u<n):(ap s.bs u).1.natAbs<=2^(200+65*(n-s.st.length))/\∀m,(ap s.bs u).2=Z m->m.natAbs<=2^(200+65*(n-s.st.length)):=h.bb _ (cD (by rw[h.bl];show a))
theorem ql{sh:D}{d:Int}(h:NoL sh):NoL (cL (fJ sh) d):=nY (jP h)
theorem qt{ds:Y D}{i:Nat}{d:D}(h:∀d∈ds,NoL d)(hd:NoL d):∀x∈ds.set i d,NoL x:=λx a=>by
 rcases kU a with a|rfl
 ·show h x a
 ·show hd
theorem Wy.tb{n:Nat}{s:Led}(h:Wy n s){p u:Nat}{r:ag}(A:s.rs[p]?=Z r)(E:u<n)(F:r.1.getD u 0≠0):Wy n (jf s p u r)/\mu (jf s p u r)<mu s:=by
 have o:=az A;let⟨l,j⟩:=h.drop o
 have z:mu (bW s p)+2<=mu s:=by
  have:=sx dM s.rs p;have H:(s.rs.eraseIdx p).length=s.rs.length-1:=JF o;unfold mu bW;simp only;omega
 have y:(bW s p).ln.length+mu (bW s p)<=601:=by have:=h.ln;change s.ln.length+_<=_;omega
 have B:(0:Int)<((r.1.getD u 0).natAbs:Int):=by omega
 have g:=vw (a:=r.2) B;have x:=(h.rr r (ID A)).2.2;have c:=h.lowU E;have v:NoL (s.rm.getD p .non):=h.n1 _ (cD (by rw[h.rm];show o));unfold jf dm;split
 ·let⟨w,e⟩:=l.bnd (u:=u) (b:=(cW r.2 ((r.1.getD u 0).natAbs:Int),(ap s.bs u).2)) (d:=cL (fJ (s.rm.getD p .non)) (r.1.getD u 0)) (lm:=s.lm.set u (dL s)) (mm:=s.mm) y ⟨IU g x,c.2⟩ (ql v) (by rw[Iv];show h.ll) h.ml (qt h.n3 (.int _)) h.n2;show⟨w,K0 (Mm e) j⟩
 ·split
  ·let⟨w,e⟩:=l.bnd (u:=u) (b:=((ap s.bs u).1,Z (-cW r.2 ((r.1.getD u 0).natAbs:Int)))) (d:=cL (fJ (s.rm.getD p .non)) (-r.1.getD u 0)) (lm:=s.lm) (mm:=s.mm.set u (dL s)) y ⟨c.1,λm C=>by cases C;rw[Lb];show IU g x⟩ (ql v) h.ll (by rw[Iv];show h.ml) h.n3 (qt h.n2 (.int _));show⟨w,K0 (Mm e) j⟩
  ·show⟨l,j⟩
theorem uE{r:ag}(h:dM r=ŗ):fH r=(r.1.map (·/bp r.1),cW r.2 (bp r.1))/\dM (fH r)=Ř/\1<bp r.1:=by
 have a:1<bp r.1:=Jd h
 have e:fH r=(r.1.map (·/bp r.1),cW r.2 (bp r.1)):=by unfold fH;rw[Ir ()];rfl
 refine⟨e,?_,a⟩;rw[e];unfold dM;rw[show (r.1.map (·/bp r.1),cW r.2 (bp r.1)).1=r.1.map (·/bp r.1)from rfl,xn ()];rfl
theorem xR{e:Type}{c:e->Bool}{xs:Y e}{i:Nat}{x y:e}(h:xs[i]?=Z x)(g:c x=ŗ)(j:c y=Ř):(xs.set i y).countP c+1=xs.countP c:=by
 induction xs generalizing i with
 |nil=>cases h
 |cons a xs l=>
  cases i with
  |zero=>
   cases h;rw[List.set_cons_zero,List.countP_cons_of_neg (by rw[j];decide),List.countP_cons_of_pos g]
  |succ i=>
   have:=l (i:=i) h;rw[List.set_cons_succ,List.countP_cons,List.countP_cons];omega
theorem pX(f:Int->Int)(a:f 0=0)(xs:Y Int)(u:Nat):(xs.map f).getD u 0=f (xs.getD u 0):=by
 rw[II,II,IE]
 cases xs[u]? with
 |none=>show a.symm
 |some x=>rfl
theorem Wy.ev{n:Nat}{s:Led}(h:Wy n s){p:Nat}{r:ag}(g:s.rs[p]?=Z r)(o:dM r=ŗ):Wy n (iO s p r)/\mu (iO s p r)<mu s:=by
 have C:=az g;let⟨l,B,M⟩:=uE o;have j:=ID g;let⟨H,I,J⟩:=h.rr r j;have A:NoL (s.rm.getD p .non):=h.n1 _ (cD (by rw[h.rm];show C))
 have L:mu (iO s p r)+1=mu s:=by have:=xR (c:=dM) (y:=fH r) g o B;unfold mu iO;simp only[Iv];omega
 have:=h.ln;refine⟨⟨h.n8,h.bl,h.gl,h.ll,h.ml,h.sl,h.so,by change (s.rs.set p _).length<=_;rw[Iv];show h.rl,by change (s.rm.set p _).length=(s.rs.set p _).length;rw[Iv,Iv];show h.rm,λx a=>?_,h.bb,h.gg,by change (s.ln++[_]).length+_<=_;rw[Io,IX];omega,h.gs,h.gn,qt h.n1 (.int _),h.n2,h.n3,λx a=>?_,λx a v u e=>?_,h.gr⟩,()⟩
 ·rcases kU a with a|rfl
  ·show h.rr x a
  ·rw[l];refine⟨by change (r.1.map _).length=n;rw[Il];show H,λy E=>?_,IU (vw ()) J⟩;let⟨z,F,rfl⟩:=I0.mp E;have:=Lm z (bp r.1);have:=I z F;omega
 ·rcases IZ.mp a with a|a
  ·show h.n4 x a
  ·rw[Iz.mp a];show ql A
 ·rcases kU a with a|rfl
  ·show h.z x a v u e
  ·rw[l];change (r.1.map (·/bp r.1)).getD v 0=0;rw[pX (·/bp r.1) (MQ _),h.z r j v u e,MQ]
theorem v9{xs:Y Int}{k j:Nat}{v:Int}:(xs.set k v).getD j 0=if j=k/\k<xs.length then v else xs.getD j 0:=by
 rw[II,II,List.getElem?_set];by_cases c:k=j
 ·subst c;by_cases a:k<xs.length
  ·simp[a]
  ·simp[a]
 ·rw[Ir c,Ir (λh=>c h.1.symm)]
noncomputable def fD(u:Nat)(v:Int)(r:ag):ag:=if r.1.getD u 0=0 then r else (r.1.set u 0,r.2-r.1.getD u 0*v)
theorem tR(s:Led)(u:Nat)(v:Int):∀i,i<=s.rs.length->(dF s u v i).rs=(s.rs.take i).map (fD u v)++s.rs.drop i
 |0,_=>rfl
 |i+1,j=>by
  have a:=tR s u v i ();have I:=jg s u v i
  have g:(dF s u v i).rs[i]?=Z s.rs[i]:=by rw[I.at_ i (Iu _)];show bL ()
  have e:bS (dF s u v i).rs i=s.rs[i]:=cq g;rw[jX];generalize dF s u v i=t at *
  have h:((s.rs.take i).map (fD u v)).length=i:=by rw[Il,Jv];omega
  have hd:s.rs.drop i=s.rs[i]::s.rs.drop (i+1):=Mj ();rw[gG (bL (show i<s.rs.length by omega)),JB];unfold gL;rw[e];split
  ·rename_i c;rw[a,hd,IJ];congr 1;change _=[fD u v s.rs[i]]++_;unfold fD;rw[Iw c];rfl
  ·rename_i c;change t.rs.set i _=_;rw[a,hd,K9 _ _ (),h,Je,List.set_cons_zero,IJ];congr 1;change _=[fD u v s.rs[i]]++_;unfold fD;rw[Ir c];rfl
theorem oO(u:Nat)(v:Int)(t:Led):(bE u v t).bs=t.bs/\(bE u v t).rs=t.rs/\(bE u v t).gl=t.gl/\(bE u v t).st=t.st/\(bE u v t).td=t.td/\(bE u v t).ln=t.ln/\(bE u v t).lm=t.lm/\(bE u v t).mm=t.mm/\(bE u v t).rm=t.rm/\(bE u v t).gs.length<=t.gs.length+1/\(bE u v t).ex=t.ex+t.gl.getD u 0*v/\(bE u v t).gn=t.gn:=by
 unfold bE;split
 ·rename_i c;rw[c];show⟨S,S,S,S,S,S,S,S,S,(),(),S⟩
 ·show⟨S,S,S,S,S,S,S,S,S,by simp,S,S⟩
structure FixE(s:Led)(u:Nat)(v:Int)(t:Led):Prop where
 bs:t.bs=s.bs
 rs:t.rs=s.rs.map (fD u v)
 gl:t.gl=s.gl
 st:t.st=s.st.erase u
 td:t.td=s.td
 lm:t.lm=s.lm
 mm:t.mm=s.mm
 ml:t.rm.length=s.rm.length
 ll:t.ln.length<=s.ln.length+s.rs.length
 gs:t.gs.length<=s.gs.length+1
 ex:t.ex=s.ex+s.gl.getD u 0*v
 gn:t.gn=s.gn++[(u,v,[])]
 n1:(∀d∈s.rm,NoL d)->∀d∈t.rm,NoL d
theorem EZ(s:Led)(u:Nat)(v:Int):FixE s u v (fj s u v):=by
 have I:=jg s u v s.rs.length;have j:=tR s u v s.rs.length (Iu _);rw[JR,List.drop_length,Ji]at j;unfold fj;generalize dF s u v s.rs.length=t at *;let⟨C,l,E,F,H,J,L,M,N⟩:=I.eq;let⟨o,p,r,x,y,z,A,B,g,a,c,e⟩:=oO u v t;show⟨o.trans C,p.trans j,r.trans l,Ju (List.erase · u) (x.trans E),y.trans F,A.trans H,B.trans J,by change (bE u v t).rm.length=_;rw[g];show I.ml,by change (bE u v t).ln.length<=_;rw[z];show I.ll,by change (bE u v t).gs.length<=_;rw[←L];show a,by change (bE u v t).ex=_;rw[c,M,l],by change (bE u v t).gn++_=_;rw[e,N],λh=>by change ∀d∈(bE u v t).rm,NoL d;rw[g];show I.nl h⟩
theorem Ev{u:Nat}{v:Int}{r:ag}(w:Nat)(a:u<r.1.length):(fD u v r).1.getD w 0=if w=u then 0 else r.1.getD w 0:=by
 unfold fD;split
 ·rename_i c;split
  ·rename_i e;rw[e];show c
  ·rfl
 ·change (r.1.set u 0).getD w 0=_;rw[v9];by_cases e:w=u
  ·rw[Iw ⟨e,a⟩,Iw e]
  ·rw[Ir (λh=>e h.1),Ir e]
theorem wY(u:Nat)(v:Int)(r:ag):(fD u v r).1.length=r.1.length:=by
 unfold fD;split
 ·rfl
 ·show Iv
theorem Hj{u:Nat}{v:Int}{r:ag}{x:Int}(h:x∈(fD u v r).1):x∈r.1\/x=0:=by
 unfold fD at h;split at h
 ·show .inl h
 ·show kU h
theorem iS{st:Y Nat}{u v:Nat}(h:v∈st.erase u):v∈st:=List.mem_of_mem_erase h
theorem Wy.er{n:Nat}{s:Led}(h:Wy n s){u v:Nat}:v∈s.st.erase u↔v≠u/\v∈s.st:=by rw[List.Nodup.mem_erase_iff h.nd]
theorem vL{s:Led}{u:Nat}{v:Int}(n1:∀d∈s.rm,NoL d)(n2:∀d∈s.mm,NoL d)(n3:∀d∈s.lm,NoL d)(n4:∀d∈s.ln,NoL d)(a:s.rm.length=s.rs.length)(h:u<s.mm.length)(j:u<s.lm.length):∀i,i<=s.rs.length->∀d∈(dF s u v i).ln,NoL d
 |0,_=>n4
 |i+1,l=>by
  have c:=vL (v:=v) n1 n2 n3 n4 a h j i ();have I:=jg s u v i;rw[jX];generalize dF s u v i=t at *;let⟨o,p,r,x,e,g,y,z,A⟩:=I.eq;unfold gL;split
  ·show c
  ·intro d hd;rcases IZ.mp hd with hd|hd
   ·show c d hd
   ·rw[Iz.mp hd];show nY (.tup (bA (.tup (bA (I.nl n1 _ (cD (by rw[I.ml,a];omega))) (bA (.int _) dl))) (bA (mM (by rw[g];show n2) (by rw[e];show n3) (by rw[g];show h) (by rw[e];show j)) dl)))
theorem Cn{n:Nat}{s:Led}(h:Wy n s){u:Nat}(a:u<n)(v:Int):∀d∈(fj s u v).ln,NoL d:=by
 have:=vL (v:=v) h.n1 h.n2 h.n3 h.n4 h.rm (by rw[h.ml];show a) (by rw[h.ll];show a) s.rs.length (Iu _);unfold fj;change ∀d∈(bE u v (dF s u v s.rs.length)).ln,NoL d;rw[(oO u v _).2.2.2.2.2.1];show this
theorem Wy.fix{n:Nat}{s:Led}(h:Wy n s){u:Nat}{v:Int}(o:u∈s.st)(I:v.natAbs<=2^(200+65*(n-s.st.length))):Wy n (fj s u v)/\mu (fj s u v)<mu s:=by
 have E:=EZ s u v;have X:=Cn h (h.sl u o) v;generalize fj s u v=t at *;have B:=h.sl u o
 have NI:t.st.length=s.st.length-1:=by rw[E.st];show Mx o
 have Vd:0<s.st.length:=MF o
 have L:t.rs.length=s.rs.length:=by rw[E.rs,Il]
 have QL:=h.sn;have C:=h.n8;have Nq:=h.rl;have H:t.rs.countP dM<=t.rs.length:=MM
 have M:200+65*(n-t.st.length)=65+(200+65*(n-s.st.length)):=by omega
 have z:∀{x:Nat},x<=2^(200+65*(n-s.st.length))->x<=2^(200+65*(n-t.st.length)):=λl=>IU l (Kq 'b' ());have Vc:=h.ln
 have QR:mu t+s.rs.length<mu s:=by unfold mu;omega
 have he:t.ln.length<=s.ln.length+s.rs.length:=E.ll;refine⟨⟨C,by rw[E.bs];show h.bl,by rw[E.gl];show h.gl,by rw[E.lm];show h.ll,by rw[E.mm];show h.ml,λw p=>h.sl w (by rw[E.st]at p;show iS p),by rw[E.st];show h.so.sublist List.erase_sublist,(),by rw[E.ml,L];show h.rm,λr c=>?_,λb F=>?_,by rw[E.gl];show h.gg,(),by have:=h.gs;have:=E.gs;omega,?_,E.n1 h.n1,by rw[E.mm];show h.n2,by rw[E.lm];show h.n3,X,λr c w p N=>?_,λg j=>?_⟩,()⟩
 ·rw[E.rs]at c;let⟨x,l,rfl⟩:=I0.mp c;let⟨b_,J,x3⟩:=h.rr x l;refine⟨by rw[wY];show b_,λy A=>?_,?_⟩
  ·rcases Hj A with A|rfl
   ·show J y A
   ·decide
  ·have be:(x.1.getD u 0).natAbs<2^64:=J _ (cD ());unfold fD;split
   ·show z x3
   ·change (x.2-x.1.getD u 0*v).natAbs<=_;rw[M,Nat.pow_add]
    have h1:(x.1.getD u 0*v).natAbs<=2^64*2^(200+65*(n-s.st.length)):=by rw[J6];show Kg () I
    have h2:(x.2-x.1.getD u 0*v).natAbs<=x.2.natAbs+(x.1.getD u 0*v).natAbs:=by omega
    have U:2^65=2^64+2^64:=by decide
    rw[U,Nat.add_mul];have h5:2^(200+65*(n-s.st.length))<=2^64*2^(200+65*(n-s.st.length)):=LD _ 'b';omega
 ·rw[E.bs]at F;let⟨O,Q⟩:=h.bb b F;show⟨z O,λm a=>z (Q m a)⟩
 ·rw[E.gn,Io,IX];have:=h.gn;omega
 ·rw[E.rs]at c;let⟨x,l,rfl⟩:=I0.mp c;rw[Ev w (by rw[(h.rr x l).1];show B)];by_cases e:w=u
  ·rw[Iw e]
  ·rw[Ir e];show h.z x l w p λa=>N (by rw[E.st];show h.er.mpr ⟨e,a⟩)
 ·rw[E.gn]at j;rcases IZ.mp j with j|j
  ·let⟨R,a_,T⟩:=h.gr g j;show⟨R,λa=>a_ (by rw[E.st]at a;show iS a),T⟩
  ·rw[Iz.mp j];refine⟨B,λa=>?_,kJ C I,by change 0<=30;decide,λr c=>by cases c⟩;rw[E.st]at a;show (h.er.mp a).1 S
theorem vW{g:Type}{a:Y g}:∀{ps:Y Nat}{xs:Y g},ps.Pairwise (λx y=>y<x)->(∀x∈ps,x<xs.length)->ps.foldl List.eraseIdx (xs++a)=ps.foldl List.eraseIdx xs++a
 | [],xs,_,_=>rfl
 |p::ps,xs,c,h=>by
  rw[K3]at c;have e:=h p Iy;change ps.foldl List.eraseIdx ((xs++a).eraseIdx p)=ps.foldl List.eraseIdx (xs.eraseIdx p)++a;rw[List.eraseIdx_append_of_lt_length e];refine vW c.2 λx j=>?_;rw[JF e];have:=c.1 x j;omega
theorem Fc{g:Type}{P:Y g->Prop}(j:P [])(l:∀xs x,P xs->P (xs++[x])):∀xs,P xs:=λxs=>by
 have c:∀n (xs:Y g),xs.length=n->P xs:=by
  intro n
  induction n with
  |zero=>intro xs a;rw[JY.mp a];show j
  |succ n o=>
   intro xs a
   have h:xs≠[]:=λe=>by rw[e]at a;cases a
   rw[←List.dropLast_concat_getLast h];show l _ _ (o _ (by rw[List.length_dropLast];omega))
 show c _ xs S
theorem zQ{a:Type}(c:a->Bool)(d:a):∀xs:Y a,((List.range xs.length).filter λi=>c (xs.getD i d)).reverse.foldl List.eraseIdx xs=xs.filter λx=>!c x:=by
 refine Fc S λxs x h=>?_
 have j:(List.range (xs++[x]).length).filter (λi=>c ((xs++[x]).getD i d))=(List.range xs.length).filter (λi=>c (xs.getD i d))++if c x then [xs.length] else []:=by
  rw[Io,IX,Ko,Kh];congr 1
  ·refine List.filter_congr λi l=>?_;rw[II,II,Ip (IY.mp l)]
  ·have:(xs++[x]).getD xs.length d=x:=by rw[II,Im (Iu _),Je];rfl
   cases g:c x with
   |true=>rw[JZ (by rw[this];show g)];rfl
   |false=>rw[J9 (by rw[this,g];decide)];rfl
 rw[j,Kh]
 have hd:((List.range xs.length).filter λi=>c (xs.getD i d)).reverse.Pairwise (λx y=>y<x):=by rw[ML];show K5.filter _
 have o:∀y∈((List.range xs.length).filter λi=>c (xs.getD i d)).reverse,y<xs.length:=λy p=>IY.mp (Jq.mp (LK.mp p)).1
 cases e:c x with
 |true=>
  rw[Iw S,List.reverse_append];change List.foldl List.eraseIdx ((xs++[x]).eraseIdx xs.length) ((List.range xs.length).filter λi=>c (xs.getD i d)).reverse=_;rw[List.eraseIdx_append_of_length_le (Iu _),Je,show [x].eraseIdx 0=[]from rfl,Ji,h];simp[e]
 |false=>
  rw[Ir 'b',Ji,vW hd o,h];simp[e]
theorem uk:∀(ps:Y Nat)(t:Led),ps.foldl bW t={ t with rs:=ps.foldl List.eraseIdx t.rs,rm:=ps.foldl List.eraseIdx t.rm }
 | [],t=>rfl
 |p::ps,t=>by change ps.foldl bW (bW t p)=_;rw[uk ps];rfl
theorem sP{a:Type}:∀(ps:Y Nat){xs:Y a}{x:a},x∈ps.foldl List.eraseIdx xs->x∈xs
 | [],_,_,h=>h
 |p::ps,xs,x,h=>Lw (sP ps (xs:=xs.eraseIdx p) h)
noncomputable def z0(u:Nat)(r:ag):Bool:=r.1.getD u 0==0
theorem xp(s:Led)(u:Nat):gS s u={ s with st:=s.st.erase u,gn:=s.gn++[(u,(ap s.bs u).1,(b9 s u).map (bS s.rs))],rs:=s.rs.filter (z0 u),rm:=(b9 s u).reverse.foldl List.eraseIdx s.rm }:=by
 unfold gS;rw[uk];have e:=zQ (λr:ag=>decide (r.1.getD u 0≠0)) ([],0) s.rs
 have a:s.rs.filter (λr=>!decide (r.1.getD u 0≠0))=s.rs.filter (z0 u):=by
  refine List.filter_congr λr _=>?_;unfold z0;generalize r.1.getD u 0=e;by_cases c:e=0
  ·simp[c]
  ·simp[c]
 rw[a]at e;have g:(b9 s u).reverse.foldl List.eraseIdx (fF s u (ap s.bs u).1 ((b9 s u).map (bS s.rs))).rs=s.rs.filter (z0 u):=e;rw[g];rfl
theorem hgP_rows{s:Led}{u:Nat}{r:ag}:r∈(b9 s u).map (bS s.rs)↔r∈s.rs/\r.1.getD u 0≠0:=by
 constructor
 ·intro h;let⟨i,a,rfl⟩:=I0.mp h;let⟨c,e⟩:=Jq.mp a;show⟨cD (IY.mp c),Jd e⟩
 ·rintro⟨c,e⟩;let⟨i,a⟩:=J0 c;have g:bS s.rs i=r:=cq a;show I0.mpr ⟨i,Jq.mpr ⟨IY.mpr (az a),Jh (by rw[g];show e)⟩,g⟩
theorem Wy.hang{n:Nat}{s:Led}(h:Wy n s){u:Nat}(z:u∈s.st)(o:hG s.rs u=Ř):Wy n (gS s u)/\mu (gS s u)<mu s:=by
 have C:=h.sl u z;have a:=qk (fF s u (ap s.bs u).1 ((b9 s u).map (bS s.rs))) _ (qa s u) (λx B=>oC (LK.mp B)) h.rm;rw[←show gS s u=(b9 s u).reverse.foldl bW (fF s u (ap s.bs u).1 ((b9 s u).map (bS s.rs)))from rfl]at a;have E:=xp s u;generalize gS s u=t at *
 have O:t.rm.length=t.rs.length:=by rw[a.1,a.2]
 subst E;have NI:(s.st.erase u).length=s.st.length-1:=Mx z;have Vd:0<s.st.length:=MF z;have QL:=h.sn;have y:=h.n8;have J:=h.rl;have Vc:=h.ln;have X:=h.gn;have be:=h.gs;have l1:(s.rs.filter (z0 u)).length<=s.rs.length:=JN _ _;have l2:(s.rs.filter (z0 u)).countP dM<=s.rs.countP dM:=List.filter_sublist.countP_le;have v:∀{x:Nat},x<=2^(200+65*(n-s.st.length))->x<=2^(200+65*(n-(s.st.erase u).length)):=λB=>IU B (Kq 'b' ())
 have L:mu { s with st:=s.st.erase u,gn:=s.gn++[(u,(ap s.bs u).1,(b9 s u).map (bS s.rs))],rs:=s.rs.filter (z0 u),rm:=(b9 s u).reverse.foldl List.eraseIdx s.rm }<mu s:=by unfold mu;simp only;omega
 have hps:(b9 s u).length<=s.rs.length:=by
  have:=JN (λi=>decide ((bS s.rs i).1.getD u 0≠0)) (List.range s.rs.length)
  rwa [IF]at this
 refine⟨⟨y,h.bl,h.gl,h.ll,h.ml,λw A=>h.sl w (iS A),h.so.sublist List.erase_sublist,IU l1 J,O,λr l=>?_,λb o=>?_,h.gg,by change s.ln.length+_<=_;omega,by change s.gs.length+(s.st.erase u).length<=n;omega,?_,λd hd=>h.n1 d (sP _ hd),h.n2,h.n3,h.n4,λr l w A N=>?_,λg j=>?_⟩,L⟩
 ·let⟨p,F,r3⟩:=h.rr r (Jq.mp l).1;show⟨p,F,v r3⟩
 ·let⟨Q,R⟩:=h.bb b o;show⟨v Q,λm c=>v (R m c)⟩
 ·change (s.gn++[_]).length+(s.st.erase u).length=n;rw[Io,IX];omega
 ·let⟨I,M⟩:=Jq.mp l;by_cases e:w=u
  ·rw[e];show eq_of_beq M
  ·show h.z r I w A λc=>N (h.er.mpr ⟨e,c⟩)
 ·rcases IZ.mp j with j|j
  ·let⟨a_,T,U⟩:=h.gr g j;show⟨a_,λc=>T (iS c),U⟩
  ·rw[Iz.mp j];refine⟨C,λc=>(h.er.mp c).1 S,kJ y (h.lowU C).1,by change ((b9 s u).map _).length<=30;rw[Il];omega,λr l=>?_⟩;let⟨p,F⟩:=hgP_rows.mp l;let⟨q1,q2,q3⟩:=h.rr r p;refine⟨q1,?_,q2,kJ y q3⟩
   have b_:¬ r.1.getD u 0<0:=λH=>by have:hG s.rs u=ŗ:=Lf.mpr ⟨r,p,Jh H⟩;rw[this]at o;cases o
   change 0<r.1.getD u 0;omega
theorem DR{bs:Y Bd}{rs:Y ag}{gl:Y Int}{u:Nat}(h:gv bs rs gl u=ŗ):(ap bs u).2=ŕ/\gl.getD u 0=0/\hG rs u=Ř:=by unfold gv at h;simp only[JJ,Option.isNone_iff_eq_none,Ld,Mh]at h;show⟨h.1.1,h.1.2,h.2⟩
theorem wq{r:ag}{u:Nat}(h:(cJ r.1)[0]?=Z u):u<r.1.length/\r.1.getD u 0≠0:=by let⟨a,c⟩:=Jq.mp (ID h);show⟨IY.mp a,Jd c⟩
theorem Wy.row{n:Nat}{s t:Led}(h:Wy n s)(o:RowSt s ŗ t):Wy n t/\mu t<mu s:=by
 cases o with
 |idle j=>
  let⟨r,a,_⟩:=gY j;show h.drop (az a)
 |single _ v a u=>
  let⟨c,l⟩:=wq u;show h.tb a (by rw[(h.rr _ (ID a)).1]at c;show c) l
 |uneven _ _ c a=>
  let⟨x,e,p⟩:=gY c;rw[a]at e;cases e;show h.ev a p
 |doubled _ _ _ g=>
  have:=az g.ib;have:=g.ji;show h.drop (by split<;>omega)
theorem Wy.unk{n:Nat}{s t:Led}(h:Wy n s)(c:UnkSt s ŗ t):Wy n t/\mu t<mu s:=by
 cases c with
 |fixed a=>show h.fix (Ja a) (h.lowU (h.sl _ (Ja a))).1
 |sink _ a=>show h.fix (Ja a) (h.lowU (h.sl _ (Ja a))).1
 |rise _ _ a e=>show h.fix (Ja a) ((h.lowU (h.sl _ (Ja a))).2 _ e)
 |hang _ _ _ a=>show h.hang (Ja a) (DR (K4 a)).2.2
theorem wV(x y:Int)(xs a:Y Int):cC (x::xs) (y::a)=x*y+cC xs a:=by simp[cC]
theorem EK{bs:Y Bd}{es:Y Int}{t:Int}(h:eX bs es=Z t):∀(i:Nat)(b:Bd)(e:Int),bs[i]?=Z b->es[i]?=Z e->0<e->b.2.isSome=ŗ:=λi b e g j l=>by
 unfold eX at h;split at h
 ·rename_i a;unfold dD at a;rw[Kf]at a;have c:id (c9 b e)=ŗ:=a (c9 b e) (ID (i:=i) (by rw[KH,g,j]));unfold c9 id at c
  cases o:b.2 with
  |some m=>rfl
  |none=>rw[o]at c;simp[l]at c
 ·cases h
theorem nM{bs:Y Bd}{u v:Nat}{b:Bd}(a:u<bs.length):ap (bs.set u b) v=if v=u then b else ap bs v:=by
 unfold ap;rw[II,II];by_cases c:v=u
 ·subst c;rw[IS a,Iw S];rfl
 ·rw[IP (λe=>c e.symm),Ir c]
theorem xl{n:Nat}{s:Led}(h:Wy n s){r:ag}(e:r∈s.rs){u:Nat}(g:u<n)(a:r.1.getD u 0≠0):u∈s.st:=JH λc=>a (h.z r e u g c)
theorem A7{xs:Y Int}{k j:Nat}{v:Int}(a:k<xs.length):(xs.set k v).getD j 0=if j=k then v else xs.getD j 0:=by
 rw[v9];by_cases c:j=k
 ·rw[Iw ⟨c,a⟩,Iw c]
 ·rw[Ir (λh=>c h.1),Ir c]
theorem giv_all{P:ag->Prop}{bs:Y Bd}{rs:Y ag}:(∀r∈dw bs rs,P r)↔(∀k,k<bs.length->P (eW bs k))/\(∀k,k<bs.length->(ap bs k).2.isSome=ŗ->P (c8 bs k))/\∀r∈rs,P r:=by
 unfold dw;constructor
 ·intro h;refine⟨λk e=>h _ ?_,λk e o=>h _ ?_,λr c=>h _ ?_⟩
  ·show J5 _ (J5 _ (I0.mpr ⟨k,IY.mpr e,S⟩))
  ·show J5 _ (Jo _ (I0.mpr ⟨k,Jq.mpr ⟨IY.mpr e,o⟩,S⟩))
  ·show Jo _ c
 ·rintro⟨g,j,l⟩ r c;rcases IZ.mp c with c|c
  ·rcases IZ.mp c with c|c
   ·let⟨k,e,rfl⟩:=I0.mp c;show g k (IY.mp e)
   ·let⟨k,e,rfl⟩:=I0.mp c;let⟨a,b⟩:=Jq.mp e;show j k (IY.mp a) b
  ·show l r c
structure PlOk(n:Nat)(bs:List Bd)(rs:List ag)(gs:List Int):Prop where
 n8:n<=8
 bl:bs.length=n
 gl:gs.length=n
 rl:rs.length<=15
 rr:∀r∈rs,r.1.length=n/\(∀x∈r.1,x.natAbs<2^64)/\r.2.natAbs<=2^200
 bb:∀b∈bs,b.1.natAbs<=2^200/\∀m,b.2=Z m->m.natAbs<=2^200
 gg:∀x∈gs,x.natAbs<2^64
theorem Fz(n:Nat):∀d∈(List.range n).map ba,NoL d:=λd hd=>by let⟨i,_,rfl⟩:=I0.mp hd;show .int _
theorem PlOk.wy{n:Nat}{bs:Y Bd}{rs:Y ag}{gs:Y Int}(h:PlOk n bs rs gs):Wy n (gm bs rs gs):=by
 have x:=h.n8;have a:=h.bl
 have j:(gm bs rs gs).st.length=n:=by change (List.range bs.length).length=n;rw[IF];show a
 have v:=h.rl
 have c:200+65*(n-(gm bs rs gs).st.length)=200:=by rw[j];omega
 refine⟨h.n8,h.bl,h.gl,by change ((List.range bs.length).map ba).length=n;rw[Il,IF];show a,by change (jw bs).length=n;unfold jw;rw[Il,IF];show a,λu e=>by rw[←a];show IY.mp e,K5,by change rs.length<=30;omega,by change (cY _ rs.length).length=rs.length;unfold cY;rw[Il,IF],λr l=>by rw[c];show h.rr r l,λb a=>by rw[c];show h.bb b a,h.gg,?_,by change 0+(List.range bs.length).length<=n;rw[IF];omega,by change 0+(List.range bs.length).length=n;rw[IF];omega,λd hd=>?_,λd hd=>?_,Fz _,dl,λr l u e o=>absurd (IY.mpr (by rw[a];show e)) o,λg p=>by cases p⟩
 ·have:rs.countP dM<=rs.length:=MM;unfold mu;rw[j];change 0+(64*n+2*rs.length+rs.countP dM)<=602;omega
 ·let⟨i,_,rfl⟩:=I0.mp (show d∈(List.range rs.length).map _ from hd);show .int _
 ·let⟨i,_,rfl⟩:=I0.mp (show d∈(List.range bs.length).map (fo bs)from hd);unfold fo;split
  ·show .int _
  ·show .non
theorem wG{bs:Y Bd}{u:Nat}(h:eA bs u=ŗ):(ap bs u).2=Z (ap bs u).1:=by
 unfold eA at h
 cases a:(ap bs u).2 with
 |none=>rw[a]at h;cases h
 |some m=>rw[a]at h;rw[Jd h]
theorem zK{bs:Y Bd}{rs:Y ag}{gl:Y Int}{u:Nat}(h:fg bs rs gl u=ŗ):i8 (ap bs u)=Ř/\gl.getD u 0<=0/\∀r∈rs,r.1.getD u 0<=0:=by
 unfold fg at h;simp only[JJ,Mh,KO]at h;refine⟨h.1.1,h.1.2,λr a=>JH λc=>?_⟩;have:kY rs u=ŗ:=Lf.mpr ⟨r,a,Jh ()⟩;rw[this]at h;cases h.2
theorem D5{rs:Y ag}{u:Nat}(h:hG rs u=Ř):∀r∈rs,0<=r.1.getD u 0:=λr a=>JH λc=>by have:hG rs u=ŗ:=Lf.mpr ⟨r,a,Jh ()⟩;rw[this]at h;cases h
theorem EM{bs:Y Bd}{rs:Y ag}{gl:Y Int}{u:Nat}(h:e7 bs rs gl u=ŗ):i8 (ap bs u)=Ř/\0<=gl.getD u 0/\∀r∈rs,0<=r.1.getD u 0:=by unfold e7 at h;simp only[JJ,Mh,KO]at h;show⟨h.1.1.2,h.1.2,D5 h.2⟩
theorem vj:∀{a b:Y Nat},a.Pairwise (·<·)->b.Pairwise (·<·)->(∀x,x∈a↔x∈b)->a=b
 | [],[],_,_,_=>rfl
 | [],y::b,_,_,h=>absurd ((h y).mpr Iy) KA
 |x::a,[],_,_,h=>absurd ((h x).mp Iy) KA
 |x::a,y::b,g,j,h=>by
  rw[K3]at g j
  have o:x=y:=by
   rcases IL.mp ((h x).mp Iy)with e|p
   ·show e
   ·rcases IL.mp ((h y).mpr Iy)with e|r
    ·show e.symm
    ·have:=g.1 y r;have:=j.1 x p;omega
  subst o;congr 1;refine vj g.2 j.2 λz=>⟨λc=>?_,λc=>?_⟩
  ·rcases IL.mp ((h z).mp (IC _ c))with e|l
   ·have:=g.1 z c;omega
   ·show l
  ·rcases IL.mp ((h z).mpr (IC _ c))with e|l
   ·have:=j.1 z c;omega
   ·show l
theorem Ao{n:Nat}{st:Y Nat}(so:st.Pairwise (·<·))(sl:∀u∈st,u<n):(List.range n).filter (λu=>decide (u∈st))=st:=by refine vj (K5.filter _) so λx=>?_;rw[Jq,IY,KO];show⟨λh=>h.2,λh=>⟨sl x h,h⟩⟩
noncomputable def gK(sh:Y (Nat×Int)):D:=.tup (sh.map λp=>.tup [.int (p.1:Nat),.int p.2])
noncomputable def cT(T:Y ag)(sh:Y (Nat×Int))(k:Nat):Int:=(sh.map λp=>p.2*(T.getD p.1 ([],0)).1.getD k 0).sum
noncomputable def eK(T:Y ag)(sh:Y (Nat×Int)):Int:=(sh.map λp=>p.2*(T.getD p.1 ([],0)).2).sum
structure CutOf(n:Nat)(T:List ag)(sh:List (Nat×Int))(dv:Int)(r:ag):Prop where
 ne:sh≠[]
 d:1<=dv
 at_:∀p∈sh,p.1<T.length/\0<=p.2
 l:r.1.length=n
 e:∀k,k<n->cT T sh k=dv*r.1.getD k 0
 b:r.2=cW (eK T sh) dv
inductive Lines(n:Nat)(T0:List ag):List D->List ag->Prop where
 |nil:Lines n T0 [] T0
 |snoc {ds:List D} {T:List ag} {sh:List (Nat×Int)} {dv:Int} {r:ag}:Lines n T0 ds T->CutOf n T sh dv r->sh.length<=9->dv.natAbs<2^64->(∀p∈sh,p.2.natAbs<2^64)->Lines n T0 (ds++[cL (gK sh) dv]) (T++[r])
theorem Lines.len{n:Nat}{a:Y ag}{ds:Y D}{T:Y ag}(h:Lines n a ds T):T.length=a.length+ds.length:=by
 induction h with
 |nil=>rfl
 |snoc _ _ _ _ _ c=>rw[Io,Io,c,IX,IX];omega
noncomputable def Mk(T:Y ag)(d:D)(r:ag):Prop:=∃a:Nat,d=.int (a:Nat)/\T[a]?=Z r
theorem Mk.more{T:Y ag}{d:D}{r x:ag}(h:Mk T d r):Mk (T++[x]) d r:=by let⟨a,e,c⟩:=h;show⟨a,e,by rw[Ip (az c)];show c⟩
theorem Mk.new{T:Y ag}{r:ag}{k:Int}(h:k=(T.length:Nat)):Mk (T++[r]) (.int k) r:=⟨T.length,by rw[h],by rw[Im (Iu _),Je];rfl⟩
structure Mks(n:Nat)(T0:List ag)(s:Led)(T:List ag):Prop where
 ln:Lines n T0 s.ln T
 td:s.td=(T0.length:Nat)
 lm:∀u∈s.st,Mk T (s.lm.getD u .non) (b7 n u,(ap s.bs u).1)
 mm:∀u∈s.st,∀m,(ap s.bs u).2=Z m->Mk T (s.mm.getD u .non) (iN (b7 n u,m))
 rm:∀p r,s.rs[p]?=Z r->Mk T (s.rm.getD p .non) r
theorem Mks.mkn{n:Nat}{a:Y ag}{s:Led}{T:Y ag}(h:Mks n a s T):s.td+(s.ln.length:Nat)=(T.length:Nat):=by rw[h.td,h.ln.len];omega
theorem pQ{T:Y ag}{a:Nat}{w:Int}{r:ag}(h:T[a]?=Z r)(k:Nat):cT T [(a,w)] k=w*r.1.getD k 0:=by unfold cT;rw[Kk,Kl,cq h]
theorem qw{T:Y ag}{a:Nat}{w:Int}{r:ag}(h:T[a]?=Z r):eK T [(a,w)]=w*r.2:=by unfold eK;rw[Kk,Kl,cq h]
theorem oK(T:Y ag)(p:Nat×Int)(sh:Y (Nat×Int))(k:Nat):cT T (p::sh) k=p.2*(T.getD p.1 ([],0)).1.getD k 0+cT T sh k:=by unfold cT;rw[IQ,Kt]
theorem pD(T:Y ag)(p:Nat×Int)(sh:Y (Nat×Int)):eK T (p::sh)=p.2*(T.getD p.1 ([],0)).2+eK T sh:=by unfold eK;rw[IQ,Kt]
theorem mE{n u k:Nat}(a:k<n):(b7 n u).getD k 0=if k=u then 1 else 0:=cq (by unfold b7;rw[IE,Jr a];rfl)
theorem mY(n u:Nat):(b7 n u).length=n:=by unfold b7;rw[Il,IF]
theorem qg{n u k:Nat}{m:Int}(a:k<n):(iN (b7 n u,m)).1.getD k 0=if k=u then -1 else 0:=by change ((b7 n u).map (- ·)).getD k 0=_;rw[pX (- ·) S,mE a];split<;>rfl
theorem pW{n:Nat}{T:Y ag}{a:Nat}{r q:ag}{dv:Int}(h:T[a]?=Z r)(hd:1<=dv)(l:q.1.length=n)(e:∀k,k<n->r.1.getD k 0=dv*q.1.getD k 0)(c:q.2=cW r.2 dv):CutOf n T [(a,1)] dv q:=
 ⟨by simp,hd,λp j=>by rw[Iz.mp j];show⟨az h,by change (0:Int)<=1;decide⟩,l,λk g=>by rw[pQ h,Int.one_mul];show e k g,by rw[qw h,Int.one_mul];show c⟩
theorem ve(a:Int):cW a 1=a:=by unfold cW;rw[MS];omega
theorem rL{n:Nat}{T:Y ag}{a b:Nat}{r q x:ag}{w:Int}(h:T[a]?=Z r)(c:T[b]?=Z q)(o:0<=w)(u:x.1.length=n)(j:∀k,k<n->x.1.getD k 0=r.1.getD k 0+w*q.1.getD k 0)(g:x.2=r.2+w*q.2):CutOf n T [(a,1),(b,w)] 1 x:=
 ⟨by simp,'b',λp e=>by
  rcases IL.mp e with rfl|e
  ·show⟨az h,by change (0:Int)<=1;decide⟩
  ·rw[Iz.mp e];show⟨az c,o⟩,u,λk l=>by
  rw[oK,pQ c,cq h,j k l];change 1*_+_=_
  omega,by
  rw[pD,qw c,cq h,ve,g];change _=1*_+_
  omega⟩
theorem Mks.drop{n:Nat}{e:Y ag}{s:Led}{T:Y ag}(h:Mks n e s T)(j:s.rm.length=s.rs.length)(p:Nat):Mks n e (bW s p) T:=by
 refine⟨h.ln,h.td,h.lm,h.mm,λi r g=>?_⟩;have a:(s.rs.eraseIdx p)[i]?=Z r:=g;change Mk T ((s.rm.eraseIdx p).getD i .non) r;rw[MG]at a;rw[II,MG];split at a
 ·rename_i c;rw[Iw c,←II];show h.rm i r a
 ·rename_i c;rw[Ir c,←II];show h.rm (i+1) r a
theorem oy{ds:Y D}{k j:Nat}{d:D}(a:k<ds.length):(ds.set k d).getD j .non=if j=k then d else ds.getD j .non:=by
 rw[II,II];by_cases c:j=k
 ·subst c;rw[IS a,Iw S];rfl
 ·rw[IP (λe=>c e.symm),Ir c]
theorem oh{n:Nat}{a:Y ag}{s:Led}{T:Y ag}(h:Mks n a s T)(r:ag):Mk (T++[r]) (dL s) r:=Mk.new h.mkn
theorem Mks.tb{n:Nat}{z:Y ag}{s:Led}{T:Y ag}(h:Mks n z s T)(C:Wy n s){p u:Nat}{r:ag}(a_:s.rs[p]?=Z r)(F:(cJ r.1).length=1)(M:(cJ r.1)[0]?=Z u):∃y,Mks n z (jf s p u r) y:=by
 have b_:=C.rm;have Rw:=ID a_;let⟨r1,r2,r3⟩:=C.rr r Rw;let⟨h3,h4⟩:=wq M
 have J:u<n:=by omega
 let⟨a,ea,R⟩:=h.rm p r a_
 have N:∀i,i<n->i≠u->r.1.getD i 0=0:=λi H X=>by
  refine JH λA=>X ?_;have o:i∈cJ r.1:=Jq.mpr ⟨IY.mpr (),Jh A⟩
  cases U:cJ r.1 with
  |nil=>rw[U]at F;cases F
  |cons a l=>
   rw[U]at F M o;have hl:l=[]:=JY.mp (by simpa using F);subst hl;have be:a=u:=Jf M;rw[←be];show Iz.mp o
 have E:u<s.bs.length:=by rw[C.bl];show J
 have O:(r.1.getD u 0).natAbs<2^64:=r2 _ (cD h3);unfold jf
 suffices hs:∃y,Mks n z (dm s p u r) y by let⟨y,hT⟩:=hs;refine⟨y,hT.drop ?_ p⟩;let⟨e1,e2⟩:=sF s p u r;rw[e1,e2];show b_
 have Q:s.rm.getD p .non=.int (a:Nat):=ea;unfold dm;split
 ·rename_i c
  have I:(((r.1.getD u 0).natAbs:Nat):Int)=r.1.getD u 0:=by omega
  rw[I]at c ⊢
  have A:CutOf n T [(a,1)] (r.1.getD u 0) (b7 n u,cW r.2 (r.1.getD u 0)):=pW R () (mY _ _) (λk B=>by
   change _=_*(b7 n u).getD k 0;rw[mE B];by_cases e:k=u
   ·rw[Iw e,e,Int.mul_one]
   ·rw[Ir e,N k B e,L1]) S
  refine⟨T++[(b7 n u,cW r.2 (r.1.getD u 0))],⟨?_,h.td,λv j=>?_,λv j m o=>?_,λi x H=>(h.rm i x H).more⟩⟩
  ·change Lines n z (s.ln++[cL (fJ (s.rm.getD p .non)) _]) _;rw[Q];show .snoc h.ln A (by change 1<=9;decide) O (λq L=>by rw[Iz.mp L];change (1:Int).natAbs<2^64;decide)
  ·change Mk _ ((s.lm.set u (dL s)).getD v .non) (b7 n v,(ap (s.bs.set u _) v).1);rw[oy (by rw[C.ll];show J),nM E];by_cases e:v=u
   ·subst e;rw[Iw S,Iw S];show oh h _
   ·rw[Ir e,Ir e];show (h.lm v j).more
  ·have g:(ap (s.bs.set u (cW r.2 (r.1.getD u 0),(ap s.bs u).2)) v).2=Z m:=o;rw[nM E]at g;refine (h.mm v j m ?_).more;by_cases e:v=u
   ·subst e
    rwa [Iw S]at g
   ·rwa [Ir e]at g
 ·split
  ·rename_i c
   have I:(((r.1.getD u 0).natAbs:Nat):Int) = -r.1.getD u 0:=by omega
   rw[I]at c ⊢
   have A:CutOf n T [(a,1)] (-r.1.getD u 0) (iN (b7 n u,-cW r.2 (-r.1.getD u 0))):=pW R () (by change ((b7 n u).map _).length=n;rw[Il,mY]) (λk B=>by
    rw[qg B];by_cases e:k=u
    ·rw[Iw e,e];omega
    ·rw[Ir e,N k B e,L1]) (by change-(-cW _ _)=_;omega)
   refine⟨T++[iN (b7 n u,-cW r.2 (-r.1.getD u 0))],⟨?_,h.td,λv j=>?_,λv j m o=>?_,λi x H=>(h.rm i x H).more⟩⟩
   ·change Lines n z (s.ln++[cL (fJ (s.rm.getD p .non)) _]) _;rw[Q];show .snoc h.ln A (by change 1<=9;decide) (by rw[Lb];show O) (λq L=>by rw[Iz.mp L];change (1:Int).natAbs<2^64;decide)
   ·change Mk _ (s.lm.getD v .non) (b7 n v,(ap (s.bs.set u _) v).1);rw[nM E];by_cases e:v=u
    ·subst e;rw[Iw S];show (h.lm v j).more
    ·rw[Ir e];show (h.lm v j).more
   ·have g:(ap (s.bs.set u ((ap s.bs u).1,Z (-cW r.2 (-r.1.getD u 0)))) v).2=Z m:=o;change Mk _ ((s.mm.set u (dL s)).getD v .non) _;rw[nM E]at g;rw[oy (by rw[C.ml];show J)];by_cases e:v=u
    ·subst e;rw[Iw S]at g;cases g;rw[Iw S];show oh h _
    ·rw[Ir e]at g;rw[Ir e];show (h.mm v j m g).more
  ·show⟨T,h⟩
theorem Mks.ev{n:Nat}{j:Y ag}{s:Led}{T:Y ag}(h:Mks n j s T)(z:Wy n s){p:Nat}{r:ag}(o:s.rs[p]?=Z r)(F:dM r=ŗ):∃B,Mks n j (iO s p r) B:=by
 let⟨l,N,O⟩:=uE F;have y:=az o;let⟨L,M,U⟩:=z.rr r (ID o);let⟨a,C,E⟩:=h.rm p r o
 have A:CutOf n T [(a,1)] (bp r.1) (fH r):=pW E () (by rw[l];change (r.1.map _).length=n;rw[Il];show L) (λk R=>by
  rw[l];change _=_*(r.1.map (·/bp r.1)).getD k 0
  rw[pX (·/bp r.1) (MQ _),Int.mul_ediv_cancel' (nq r.1 _ (cD ()))]) (by rw[l])
 have Q:=uN M 'b';refine⟨T++[fH r],⟨?_,h.td,λv u=>(h.lm v u).more,λv u m I=>(h.mm v u m I).more,λi x H=>?_⟩⟩
 ·change Lines n j (s.ln++[cL (fJ (s.rm.getD p .non)) _]) _;rw[show s.rm.getD p .non=.int (a:Nat)from C];show .snoc h.ln A (by change 1<=9;decide) () (λq J=>by rw[Iz.mp J];change (1:Int).natAbs<2^64;decide)
 ·have g:(s.rs.set p (fH r))[i]?=Z x:=H;change Mk _ ((s.rm.set p (dL s)).getD i .non) x;rw[oy (by rw[z.rm];show y)];by_cases c:i=p
  ·subst c;rw[IS y]at g;cases g;rw[Iw S];show oh h _
  ·rw[IP (λe=>c e.symm)]at g;rw[Ir c];show (h.rm i x g).more
noncomputable def l0(s:Led)(u:Nat)(v:Int)(r:ag):Prop:=(0<r.1.getD u 0->(ap s.bs u).2=Z v)/\(r.1.getD u 0<0->(ap s.bs u).1=v)
theorem wb{n:Nat}{o:Y ag}{s:Led}{T:Y ag}(h:Mks n o s T){u:Nat}(l:u∈s.st){e v:Int}(p:0<e->(ap s.bs u).2=Z v)(r:e<0->(ap s.bs u).1=v)(x:e≠0):∃b w q,dJ s u e=.tup [.int (b:Nat),.int w]/\0<=w/\w.natAbs=e.natAbs/\T[b]?=Z q/\(∀k,k<n->w*q.1.getD k 0=if k=u then -e else 0)/\w*q.2 = -(e*v):=by
 unfold dJ;by_cases c:0<e
 ·rw[Iw c];let⟨b,a,g⟩:=h.mm u l v (p c);refine⟨b,e,_,by rw[a],(),S,g,λk j=>?_,?_⟩
  ·rw[qg j];split
   ·omega
   ·rw[L1]
  ·change e * -v=_;rw[Int.mul_neg]
 ·rw[Ir c];let⟨b,a,g⟩:=h.lm u l;refine⟨b,-e,_,by rw[a],(),by rw[Lb],g,λk j=>?_,?_⟩
  ·change -e*(b7 n u).getD k 0=_;rw[mE j];split
   ·omega
   ·rw[L1]
  ·change -e*(ap s.bs u).1=_;rw[r (),Int.neg_mul]
theorem Mks.fxAt{n:Nat}{l:Y ag}{t:Led}{T:Y ag}(h:Mks n l t T){u:Nat}{v:Int}{i:Nat}{r:ag}(hu:u∈t.st)(RL:u<n)(M:t.rm.length=t.rs.length)(z:t.rs[i]?=Z r)(F:r.1.length=n)(o:∀x∈r.1,x.natAbs<2^64)(C:l0 t u v r):∃L,Mks n l (gL u v t i) L:=by
 have H:bS t.rs i=r:=cq z;have B:=az z;unfold gL;rw[H];split
 ·show⟨T,h⟩
 ·rename_i X;let⟨a,Q,a_⟩:=h.rm i r z;let⟨b,w,q,R,N,hwn,U,E,I⟩:=wb h hu C.1 C.2 X;have O:(r.1.getD u 0).natAbs<2^64:=o _ (cD ())
  have J:CutOf n T [(a,1),(b,w)] 1 (r.1.set u 0,r.2-r.1.getD u 0*v):=rL a_ U N (by change (r.1.set u 0).length=n;rw[Iv];show F) (λk b_=>by
   change (r.1.set u 0).getD k 0=_;rw[E k b_,A7 ()];by_cases c:k=u
   ·rw[Iw c,Iw c,c];omega
   ·rw[Ir c,Ir c,La]) (by change r.2-_=_;rw[I];omega)
  refine⟨T++[(r.1.set u 0,r.2-r.1.getD u 0*v)],⟨?_,h.td,λx A=>(h.lm x A).more,λx A m hm=>(h.mm x A m hm).more,λj x be=>?_⟩⟩
  ·change Lines n l (t.ln++[cL (.tup [.tup [t.rm.getD i .non,.int 1],dJ t u (r.1.getD u 0)]) 1]) _;rw[show t.rm.getD i .non=.int (a:Nat)from Q,R]
   show .snoc h.ln J (by change 2<=9;decide) 'b' (λp y=>by
    rcases IL.mp y with rfl|y
    ·change (1:Int).natAbs<2^64;decide
    ·rw[Iz.mp y];change w.natAbs<2^64;omega)
  ·have g:(t.rs.set i (r.1.set u 0,r.2-r.1.getD u 0*v))[j]?=Z x:=be;change Mk _ ((t.rm.set i (dL t)).getD j .non) x;rw[oy (by rw[M];show B)];by_cases c:j=i
   ·subst c;rw[IS B]at g;cases g;rw[Iw S];show oh h _
   ·rw[IP (λe=>c e.symm)]at g;rw[Ir c];show (h.rm j x g).more
theorem Mks.fxN{n:Nat}{j:Y ag}{s:Led}{T:Y ag}(h:Mks n j s T)(a:Wy n s){u:Nat}{v:Int}(e:u∈s.st)(o:∀r∈s.rs,l0 s u v r):∀i,i<=s.rs.length->∃g,Mks n j (dF s u v i) g
 |0,_=>⟨T,h⟩
 |i+1,B=>by
  let⟨g,p⟩:=Mks.fxN h a e o i ();have I:=jg s u v i;let⟨x,C,y,E,F,H,J,L,M⟩:=I.eq;rw[jX]
  have c:(dF s u v i).rs[i]?=Z s.rs[i]:=by rw[I.at_ i (Iu _)];show bL ()
  have l:s.rs[i]∈s.rs:=KS _;let⟨z,A,N⟩:=a.rr _ l;show p.fxAt (by rw[y];show e) (a.sl u e) (by rw[I.ml,I.rl];show a.rm) c z A (by unfold l0;rw[x];show o _ l)
theorem Mks.let{n:Nat}{a:Y ag}{s:Led}{T:Y ag}(h:Mks n a s T){u:Nat}{v:Int}{t:Led}(e:t=bE u v s)(rs:Y ag):Mks n a (fF t u v rs) T:=by
 let⟨l,A,L,o,B,C,E,F,H,p,y,z⟩:=oO u v s;subst e;refine⟨by change Lines n a (bE u v s).ln T;rw[C];show h.ln,by change (bE u v s).td=_;rw[B];show h.td,λx c=>?_,λx c m J=>?_,λi r I=>?_⟩
 ·change Mk T ((bE u v s).lm.getD x .non) (b7 n x,(ap (bE u v s).bs x).1);rw[E,l];have:x∈(bE u v s).st.erase u:=c;rw[o]at this;show h.lm x (iS this)
 ·change Mk T ((bE u v s).mm.getD x .non) _;rw[F];have:x∈(bE u v s).st.erase u:=c;rw[o]at this;have j:(ap (bE u v s).bs x).2=Z m:=J;rw[l]at j;show h.mm x (iS this) m j
 ·change Mk T ((bE u v s).rm.getD i .non) r;have g:(bE u v s).rs[i]?=Z r:=I;rw[H];rw[A]at g;show h.rm i r g
theorem Mks.fix{n:Nat}{c:Y ag}{s:Led}{T:Y ag}(h:Mks n c s T)(l:Wy n s){u:Nat}{v:Int}(j:u∈s.st)(g:∀r∈s.rs,l0 s u v r):∃a,Mks n c (fj s u v) a:=by let⟨a,e⟩:=Mks.fxN h l j g s.rs.length (Iu _);show⟨a,e.let S []⟩
theorem Mks.drops{n:Nat}{g:Y ag}{T:Y ag}:∀{ps:Y Nat}{s:Led},Mks n g s T->s.rm.length=s.rs.length->ps.Pairwise (λx y=>y<x)->(∀x∈ps,x<s.rs.length)->Mks n g (ps.foldl bW s) T
 | [],s,h,_,_,_=>h
 |p::ps,s,h,a,c,o=>by
  rw[K3]at c;have e:=o p Iy;have j:(bW s p).rs.length=s.rs.length-1:=JF e;have r:(bW s p).rm.length=s.rm.length-1:=JF (by rw[a];show e)
  show Mks.drops (ps:=ps) (h.drop a p) (by rw[j,r,a]) c.2 λx l=>by rw[j];have:=c.1 x l;omega
theorem Mks.hang{n:Nat}{c:Y ag}{s:Led}{T:Y ag}(h:Mks n c s T)(g:Wy n s)(u:Nat):Mks n c (gS s u) T:=by refine Mks.drops (s:=fF s u (ap s.bs u).1 ((b9 s u).map (bS s.rs))) ⟨h.ln,h.td,λx a=>h.lm x (iS a),λx a m e=>h.mm x (iS a) m e,h.rm⟩ g.rm (qa s u) λx a=>oC (LK.mp a)
noncomputable def MksE(n:Nat)(a:Y ag)(s:Led):Prop:=∃T,Mks n a s T
theorem MksE.row{n:Nat}{j:Y ag}{s t:Led}(h:MksE n j s)(e:Wy n s)(p:RowSt s ŗ t):MksE n j t:=by
 let⟨T,h⟩:=h
 cases p with
 |idle v=>show⟨T,h.drop e.rm _⟩
 |single _ l c r=>
  let⟨u,a,g⟩:=gY l;rw[c]at a;cases a;show h.tb e c (Jd g) r
 |uneven _ _ o c=>
  let⟨u,a,g⟩:=gY o;rw[c]at a;cases a;show h.ev e c g
 |doubled _ _ _ x=>show⟨T,h.drop e.rm _⟩
theorem MksE.unk{n:Nat}{o:Y ag}{s t:Led}(h:MksE n o s)(l:Wy n s)(p:UnkSt s ŗ t):MksE n o t:=by
 let⟨T,h⟩:=h
 cases p with
 | @fixed u g=>
  have e:=wG (K4 g);show h.fix l (Ja g) λr j=>⟨λ_=>e,λ_=>rfl⟩
 |sink _ g=>
  let⟨a,b,c⟩:=zK (K4 g);show h.fix l (Ja g) λr j=>⟨λx=>by have:=c r j;omega,λ_=>rfl⟩
 |rise _ _ g v=>
  let⟨a,b,c⟩:=EM (K4 g);show h.fix l (Ja g) λr j=>⟨λ_=>v,λx=>by have:=c r j;omega⟩
 |hang _ _ _ g=>show⟨T,h.hang l _⟩
theorem qc(f:Nat->Int)(c:Nat->Bool):∀l:Y Nat,((l.filter c).map f).sum=(l.map λi=>if c i then f i else 0).sum
 | []=>rfl
 |x::l=>by
  have a:=qc f c l
  cases h:c x with
  |true=>rw[JZ h,IQ,IQ,Kt,Kt,a,Iw h]
  |false=>rw[J9 (by rw[h];decide),IQ,Kt,a,Ir (by rw[h];decide),Jt]
theorem DX{f g:Nat->Int}{l:Y Nat}(h:∀i∈l,f i=g i):(l.map f).sum=(l.map g).sum:=by rw[KW h]
theorem Ah{l:Y Nat}{f:Nat->Int}(h:∀i∈l,f i=0):(l.map f).sum=0:=by
 induction l with
 |nil=>rfl
 |cons x l c=>rw[IQ,Kt,h x Iy,c λi a=>h i (IC _ a)];rfl
theorem CW{n k:Nat}{f:Nat->Int}(l:k<n)(h:∀i,i<n->i≠k->f i=0):((List.range n).map f).sum=f k:=by
 induction n with
 |zero=>omega
 |succ n j=>
  rw[Ko,JB,K2,Kk,Kl];by_cases c:k=n
  ·subst c;rw[Ah λi a=>h i (by have:=IY.mp a;omega) (by have:=IY.mp a;omega),Jt]
  ·rw[j () λi a g=>h i () g,h n () (λe=>c e.symm),La]
theorem Hw{n:Nat}:∀{bs:Y Bd}{es:Y Int},bs.length=n->es.length=n->List.zipWith bF bs es=(List.range n).map λi=>bF (ap bs i) (es.getD i 0):=by
 intro bs es a e;refine JU λi=>?_;rw[KH,IE];by_cases c:i<n
 ·rw[Jr c,ce (d:=((0:Int),(ŕ:Ŗ Int))) (show i<bs.length by omega),ce (d:=(0:Int)) (show i<es.length by omega)];rfl
 ·rw[Jp (show bs.length<=i by omega),Jp (show (List.range n).length<=i by rw[IF];omega)];rfl
theorem r8{n:Nat}{o:Y ag}{s:Led}{T:Y ag}(h:Mks n o s T){es:Y Int}{vs:Nat->Int}:∀{us:Y Nat},(∀u∈us,u∈s.st/\es.getD u 0≠0/\(es.getD u 0).natAbs<2^64/\(0<es.getD u 0->(ap s.bs u).2=Z (vs u))/\(es.getD u 0<0->(ap s.bs u).1=vs u))->∃sh:Y (Nat×Int),(us.map λu=>dJ s u (es.getD u 0))=sh.map (λp=>D.tup [.int (p.1:Nat),.int p.2])/\sh.length=us.length/\(∀p∈sh,p.1<T.length/\0<=p.2/\p.2.natAbs<2^64)/\(∀k,k<n->cT T sh k=(us.map λu=>if k=u then -es.getD u 0 else 0).sum)/\eK T sh = -(us.map λu=>es.getD u 0*vs u).sum
 | [],_=>⟨[],S,S,λp a=>(by cases a),λk e=>rfl,S⟩
 |u::us,g=>by
  let⟨sh,A,B,C,E,F⟩:=r8 (us:=us) h λx z=>g x (IC _ z);let⟨H,I,M,J,L⟩:=g u Iy;let⟨b,w,q,v,r,y,c,j,l⟩:=wb h H J L I;refine⟨(b,w)::sh,by rw[IQ,IQ,A,v],by rw[IH,IH,B],λp a=>?_,λk e=>?_,?_⟩
  ·rcases IL.mp a with rfl|a
   ·show⟨az c,r,by change w.natAbs<_;omega⟩
   ·show C p a
  ·rw[oK,E k e,IQ,Kt,←j k e];change w*(T.getD b ([],0)).1.getD k 0+_=_;rw[cq c]
  ·rw[pD,F,IQ,Kt];change w*(T.getD b ([],0)).2+_=_;rw[cq c,l];omega
theorem tm{n k:Nat}:(List.replicate n (0:Int)).getD k 0=0:=by rw[II,J7];split<;>rfl
theorem Fb{n:Nat}{T0:Y ag}{s:Led}{T:Y ag}(h:Mks n T0 s T)(B:Wy n s)(A:bq s≠.non):∃(sh:Y (Nat×Int))(b:Int),bq s=gK sh/\CutOf n T sh 1 (List.replicate n 0,b)/\0<b/\sh.length<=9/\∀p∈sh,p.2.natAbs<2^64:=by
 have h8:=B.n8;unfold bq at A ⊢
 cases H:s.st.find? (eR s.bs)with
 |some u=>
  have v:=Ja H;have g:=K4 H;unfold eR i8 at g
  cases z:(ap s.bs u).2 with
  |none=>rw[z]at g;cases g
  |some m=>
   rw[z]at g;have be:m<(ap s.bs u).1:=Jd g;let⟨a,I,x⟩:=h.lm u v;let⟨b,eb,hb⟩:=h.mm u v m z;refine⟨[(a,1),(b,1)],(ap s.bs u).1-m,?_,rL x hb 'b' (by change (List.replicate n 0).length=n;rw[Jy]) (λk y=>?_) (by change (ap s.bs u).1-m=(ap s.bs u).1+1 * -m;omega),(),by change 2<=9;decide,λp o=>?_⟩
   ·change D.tup [.tup [s.lm.getD u .non,.int 1],.tup [s.mm.getD u .non,.int 1]]=_;rw[I,eb];rfl
   ·change (List.replicate n 0).getD k 0=(b7 n u).getD k 0+_;rw[tm,mE y,qg y];split<;>omega
   ·rcases IL.mp o with rfl|o
    ·change (1:Int).natAbs<2^64;decide
    ·rw[Iz.mp o];change (1:Int).natAbs<2^64;decide
 |none=>
  rw[H]at A;dsimp only at A ⊢
  cases U:s.rs.findIdx? (dg s.bs)with
  |none=>rw[U]at A;show absurd S A
  |some p=>
   dsimp only;let⟨r,M,g⟩:=gY U;have R:=ID M;let⟨O,r2,r3⟩:=B.rr r R;have O3:bS s.rs p=r:=cq M;unfold dg at g
   cases l:eX s.bs r.1 with
   |none=>rw[l]at g;cases g
   |some t=>
    rw[l]at g;have be:t<r.2:=Jd g;have X:=EK l;let⟨a,I,x⟩:=h.rm p r M
    have L:∀u∈cJ r.1,u<n/\r.1.getD u 0≠0:=λu v=>by
     let⟨E,F⟩:=Jq.mp v;have:=IY.mp E;show⟨(),Jd F⟩
    let⟨sh,s1,s2,Q,s4,s5⟩:=r8 h (es:=r.1) (vs:=λu=>if 0<r.1.getD u 0 then (ap s.bs u).2.getD 0 else (ap s.bs u).1) (us:=cJ r.1) λu v=>by
     let⟨E,F⟩:=L u v;refine⟨xl B R E F,F,r2 _ (cD ()),λo=>?_,λo=>?_⟩
     ·rw[Iw o];have N:=X u (ap s.bs u) (r.1.getD u 0) (ce (by rw[B.bl];show E)) (ce ()) o;let⟨m,z⟩:=Mo.mp N;rw[z];rfl
     ·rw[Ir ()]
    have J:t=((cJ r.1).map λu=>r.1.getD u 0*(if 0<r.1.getD u 0 then (ap s.bs u).2.getD 0 else (ap s.bs u).1)).sum:=by
     unfold eX at l;split at l
     ·rw[←Jf l,Hw B.bl O];unfold cJ;rw[qc,O];refine DX λi hi=>?_;unfold bF;by_cases C:0<r.1.getD i 0
      ·rw[Iw C,Iw C,Iw (Jh ())]
      ·rw[Ir C,Ir C];by_cases a_:r.1.getD i 0<0
       ·rw[Iw a_,Iw (Jh ())]
       ·rw[Ir a_,Ir (by rw[KO];omega)]
     ·cases l
    have hnl:(cJ r.1).length<=8:=by
     have:=JN (λi=>decide (r.1.getD i 0≠0)) (List.range r.1.length);rw[IF]at this;have:(cJ r.1).length<=r.1.length:=this;omega
    refine⟨(a,1)::sh,r.2-t,?_,⟨by simp,'b',λq j=>?_,by change (List.replicate n 0).length=n;rw[Jy],λk y=>?_,?_⟩,(),by rw[IH,s2];omega,λq j=>?_⟩
    ·unfold j9;rw[O3,I,s1];rfl
    ·rcases IL.mp j with rfl|j
     ·show⟨az x,by change (0:Int)<=1;decide⟩
     ·show⟨(Q q j).1,(Q q j).2.1⟩
    ·rw[oK,s4 k y,tm,L1];change 1*(T.getD a ([],0)).1.getD k 0+_=0;rw[cq x];unfold cJ;rw[qc,O,CW y λi hi b_=>by rw[show (if k=i then -r.1.getD i 0 else 0)=0 from Ir (λe=>b_ e.symm)];split<;>rfl];rw[Iw S];by_cases c:r.1.getD k 0=0
     ·rw[c];simp
     ·rw[Iw (Jh c)];omega
    ·change r.2-t=_;rw[pD,s5,ve,J];change _=1*(T.getD a ([],0)).2+_;rw[cq x];omega
    ·rcases IL.mp j with rfl|j
     ·change (1:Int).natAbs<2^64;decide
     ·show (Q q j).2.2
theorem p6{bs:Y Bd}:∀{u:Nat},u<=bs.length->((List.range u).filter (cH bs)).length=gH (bs.take u)
 |0,_=>rfl
 |u+1,h=>by
  have g:=p6 (bs:=bs) (u:=u) ();have c:=ce (d:=((0:Int),(ŕ:Ŗ Int))) (show u<bs.length by omega);rw[Ko,Kh,Io,g];unfold gH;rw[gG c,Kh,Io];congr 1;have e:cH bs u=(bs.getD u (0,ŕ)).2.isSome:=rfl
  cases a:(bs.getD u (0,ŕ)).2.isSome with
  |true=>rw[JZ (by rw[e];show a),JZ (by show a)];rfl
  |false=>rw[J9 (by rw[e,a];decide),J9 (by rw[a];decide)];rfl
theorem zk{bs:Y Bd}{u:Nat}(h:u<bs.length)(g:cH bs u=ŗ):((List.range bs.length).filter (cH bs))[gH (bs.take u)]?=Z u:=by
 have e:List.range bs.length=List.range u++u::(List.range (bs.length-u-1)).map (λi=>u+1+i):=by
  refine JU λi=>?_;by_cases c:i<bs.length
  ·rw[Jr c];by_cases a:i<u
   ·rw[Ip (by rw[IF];show a),Jr a]
   ·rw[Im (by rw[IF];omega),IF]
    cases l:i-u with
    |zero=>change Z i=Z u;congr 1;omega
    |succ j=>
     change Z i=((List.range (bs.length-u-1)).map (λi=>u+1+i))[j]?;rw[IE,Jr ()];change Z i=Z (u+1+j);congr 1;omega
  ·rw[Jp (by rw[IF];omega),Jp (by rw[Io,IF,IH,Il,IF];omega)]
 rw[e,Kh,Im (by rw[p6 ()];show Iu _),p6 (),Je,JZ g];rfl
theorem yk{n:Nat}{bs:Y Bd}{rs:Y ag}{gs:Y Int}(l:bs.length=n):Mks n (dw bs rs) (gm bs rs gs) (dw bs rs):=by
 have z:=qm bs rs;refine⟨.nil,S,λu g=>?_,λu g m x=>?_,λp r y=>?_⟩
 ·have a:u<bs.length:=IY.mp g;refine⟨u,cq (by change ((List.range bs.length).map ba)[u]?=_;rw[IE,Jr a];rfl),?_⟩;unfold dw;rw[IJ,Ip (by rw[Il,IF];show a),IE,Jr a];change Z (eW bs u)=_;unfold eW;rw[l];rfl
 ·have a:u<bs.length:=IY.mp g;have h:(ap bs u).2=Z m:=x
  have v:(ap bs u).2.isSome=ŗ:=by rw[h];rfl
  refine⟨bs.length+gH (bs.take u),cq (by
   change (jw bs)[u]?=_;unfold jw;rw[IE,Jr a];change Z (fo bs u)=_;unfold fo
   rw[Iw v]),?_⟩
  have o:=zk a v;have c:=az o;unfold dw;rw[IJ,Im (by rw[Il,IF];omega),Il,IF,JG,Ip (by rw[Il];show c),IE,o];change Z (c8 bs u)=_;unfold c8;rw[h,l];rfl
 ·have j:rs[p]?=Z r:=y;have c:=az j
  refine⟨(dw bs rs).length-rs.length+p,cq (by
   change (cY _ rs.length)[p]?=_;unfold cY;rw[IE,Jr c];change Z (D.int _)=_;congr 2
   omega),?_⟩
  have e:∀A:Y ag,(A++rs)[(A++rs).length-rs.length+p]?=Z r:=λA=>by rw[Io,Nat.add_sub_cancel,Im (),JG];show j
  show e _
noncomputable def Dx(s t:Led):Prop:=bq s=.non/\(RowSt s ŗ t\/(RowSt s Ř s/\UnkSt s ŗ t))
inductive Rch(s0:Led):Led->Prop where
 |nil:Rch s0 s0
 |snoc {s t:Led}:Rch s0 s->Dx s t->Rch s0 t
inductive z__law_whole(ds:List D)(R:D->Prop):Prop|mk (i:Int) (_:ds=[.int i]) (_:R (.bl ŗ))
theorem FM(F:Fun K "_law_whole" "_law_whole" nU f G)(a:mg "isinstance"=ŕ)(c:mg "int"=ŕ)(e:mg "bool"=ŕ):FnOk P w K mg base aN (n+1) f G ["_law_told"] (lSp K z__law_whole):=by
 refine F.okD Cr (λds R h=>?_) (λg A outer s H E ds R j h=>?_)
 ·let⟨i,rfl,_⟩:=h;rfl
 let⟨i,rfl,q⟩:=h;refine⟨_,(aU (bf (il (fX S a (ac 0) (fR (v:=.ty "int") S c Kj S) aa aa) (jN (zN (PD.q (fX S a (ac 0) (fR (v:=.ty "bool") S e PyProof.Rows.boot_bool S) aa aa))))))),?_⟩;show⟨ŗ,wD i,λ_=>⟨Ř,yS i,q⟩,λh=>tf h⟩
inductive z__law_wholes(ds:List D)(R:D->Prop):Prop|mk (xs:List Int) (n:Int) (_:ds=[.tup (xs.map D.int),.int n]) (_:n=(xs.length:Int)) (_:xs.length<=500) (_:R (.bl ŗ))
theorem B1(F:Fun K "_law_wholes" "_law_wholes" jW f G)(l:Cl P w K mg base n "_law_whole" ["_law_told"] z__law_whole)(j:mg "isinstance"=ŕ)(e:mg "tuple"=ŕ)(r:mg "all"=ŕ)(g:mg "len"=ŕ):FnOk P w K mg base aN (n+1) f G ["_law_told","_law_size"] (lSp K z__law_wholes):=by
 refine F.okD GI (λds R h=>?_) (λu A outer s H E ds R c h=>?_)
 ·let⟨xs,n,rfl,_⟩:=h;rfl
 let⟨xs,n,rfl,p,y,q⟩:=h;refine⟨_,(aU (bf (il (fX S j (ac 0) (fR (v:=.ty "tuple") S e IB S) aa aa) (il (dQ (cp c.units) (PD.q (bu bU S g IV (aH (ac 0) aM aa) aa ae)) (ac 1) (aw _)) (jN (bu (vx S) S r MN (aH (PD.q (PF.d (dG (k:=1) (N':=["_law_one"]) (cap:=[ŕ]) S (.ok (show bX ["_law_told","_law_size"] (av jW) _ ["_law_one"] [ŕ]=ŗ by lia)) 'a' (bM 'b') (ca (dv 0)) (λ_ _ _ _ _=>(bc (i:=0) (show List.Nodup (["_law_one"]:Y Str)by lia) S VF)) (λ_ _ _ _ _=>(bg l c S (ad (dv 0) am aa) aa ae))))) aM bD) bD ae)))))),?_⟩
 have o:((xs.map D.int).length:Int)=n:=by rw[Il,p]
 have a:(((xs.map D.int).length:Int)==n)=ŗ:=by rw[o];show Jj _
 refine⟨ŗ,fT _,λ_=>⟨λ_=>?_,λh=>?_⟩,λh=>tf h⟩
 ·refine gz (f:=D.int) (λ_=>D.bl ŗ) (br ()) (λx _=>⟨x,S,S⟩) ?_;refine⟨xs.map λ_=>ŗ,by rw[Jw];rfl,?_⟩;refine toB q ?_;change (xs.map λ_=>ŗ).all id=ŗ;rw[Kf];intro b a;let⟨_,_,rfl⟩:=I0.mp a;rfl
 ·have h':(((xs.map D.int).length:Int)==n)=Ř:=h;rw[a]at h';cases h'
inductive z__law_plan_is(ds:List D)(R:D->Prop):Prop|mk (n:Nat) (bs:List Bd) (rs:List ag) (gs:List Int) (_:ds=[b8 bs rs gs,.int (n:Nat)]) (_:n<=8) (_:bs.length=n) (_:gs.length=n) (_:rs.length<=100) (_:(∀r∈rs,r.1.length=n)) (_:R (.bl ŗ))
theorem DF(F:Fun K "_law_plan_is" "_law_plan_is" nI f G)(x:Cl P w K mg base n "_law_wholes" ["_law_told","_law_size"] z__law_wholes)(o:Cl P w K mg base n "_law_whole" ["_law_told"] z__law_whole)(e:mg "isinstance"=ŕ)(c:mg "tuple"=ŕ)(g:mg "len"=ŕ):FnOk P w K mg base aN (n+1) f G ["_law_plan","_law_count"] (lSp K z__law_plan_is):=by
 refine F.okD qao (λds R h=>?_) (λL A outer s H E ds R a h=>?_)
 ·let⟨k,bs,rs,gs,rfl,_⟩:=h;rfl
 let⟨k,bs,rs,gs,rfl,O,C,I,M,p,q⟩:=h
 refine⟨_,(e9 (cA (PWD.td (dc (cK (bY (PD.q (fX S e (ac 0) (fR (v:=.ty "tuple") S c IB S) aa aa)) (λ_=>rfl))) (dc (aG (e5 a.units) (PD.q (bu bU S g IV (aH (ac 0) aM aa) aa ae)) (PD.q ah) (aw _)) (gh (cK (bY (PD.q (bg x a S (ad (au (ac 0)) (ad (dv 1) am aa) aC) aC (ar aa ae))) (λ_=>rfl))))))) (aU (bf cU)) cI)
   (e9 (cA (PWD.td (dc (cK (bY (PD.q (fX S e (PD.q (au (ac 0))) (fR (v:=.ty "tuple") S c IB S) aC aa)) (λ_=>rfl))) (dc (cK (bY (PD.q (fX S e (PD.q (au (ac 0))) (fR (v:=.ty "tuple") S c IB S) aC aa)) (λ_=>rfl))) (gh (aG (e5 a.units) (PD.q (bu bU S g IV (aH (PD.q (au (ac 0))) aM aC) aC ae)) (ac 1) (aw _)))))) (aU (bf cU)) cI)
   (bK (fe IW S (ca (au (ac 0))) (bc (i:=2) qao.nd S VF) (e9 (cA (PWD.td (dc (cK (bY (PD.q (fX S e (ac 2) (fR (v:=.ty "tuple") S c IB S) aa aa)) (λ_=>rfl))) (dc (aG (e5 a.units) (PD.q (bu bU S g IV (aH (ac 2) aM aa) aa ae)) (PD.q ah) (aw _)) (gh (cK (bY (PD.q (bg o a S (ad (au (ac 2)) am aC) aC ae)) (λ_=>rfl))))))) (aU (bf cU)) cI)
   (aU (cA (PWD.td (ee (aG ef (PD.q (au (ac 2))) (PD.q bt) (aw _)) (ft (cK (bY (PD.q (bg o a S (ad (au (ac 2)) am aC) aC ae)) (λ_=>rfl)))))) (aU (bf cU)) cI))))
   (bK (fe IW S (ca (au (ac 0))) (bc (i:=3) qao.nd S VF) (aU (cA (PWD.td (dc (cK (bY (PD.q (fX S e (ac 3) (fR (v:=.ty "tuple") S c IB S) aa aa)) (λ_=>rfl))) (dc (aG (e5 a.units) (PD.q (bu bU S g IV (aH (ac 3) aM aa) aa ae)) (PD.q ah) (aw _)) (dc (cK (bY (PD.q (bg x a S (ad (au (ac 3)) (ad (dv 1) am aa) aC) aC (ar aa ae))) (λ_=>rfl))) (gh (cK (bY (PD.q (bg o a S (ad (au (ac 3)) am aC) aC ae)) (λ_=>rfl)))))))) (aU (bf cU)) cI)))
   (aU (bf cU)))))),?_⟩
 refine⟨λρ=>ρ=[Z (.v (b8 bs rs gs)),Z (.v (.int (k:Nat))),ŕ,ŕ],⟨ŗ,fT _,ff,λ_=>⟨ff,λ_=>⟨_,S,gs,k,S,by rw[I],(),ff,λ_=>rfl⟩⟩⟩,?_⟩;rintro ρ rfl
 have B:((bs.map aT).length:Int)=(k:Nat):=by rw[Il,C]
 refine⟨λρ=>ρ=[Z (.v (b8 bs rs gs)),Z (.v (.int (k:Nat))),ŕ,ŕ],⟨_,S,ŗ,fT _,ff,λ_=>⟨_,S,ŗ,fT _,ff,λ_=>⟨_,S,λh=>?_,λ_=>rfl⟩⟩⟩,?_⟩
 ·have h':(!((((bs.map aT).length:Nat):Int)==((k:Nat):Int)))=ŗ:=h;rw[B,Jj]at h';cases h'
 rintro ρ rfl;refine⟨_,S,λi ρ=>∃j:Ŗ Sl,ρ=[Z (.v (b8 bs rs gs)),Z (.v (.int (k:Nat))),j,ŕ],⟨_,S⟩,?_,?_⟩
 ·rintro i d ρ hd ⟨j,rfl⟩;let⟨b,rfl,N⟩:=cg hd;refine⟨λρ=>ρ=[Z (.v (b8 bs rs gs)),Z (.v (.int (k:Nat))),Z (.v (aT b)),ŕ],⟨ŗ,fT _,ff,λ_=>⟨ff,λ_=>⟨_,S,b.1,S,ff,λ_=>rfl⟩⟩⟩,?_⟩;rintro ρ rfl;refine⟨oI b.2,S,?_⟩;let⟨l,J⟩:=b
  cases J with
  |none=>show⟨ff,λ_=>⟨ff,λ_=>⟨_,S⟩⟩⟩
  |some mm=>show⟨λ_=>⟨_,S,mm,S,ff,λ_=>⟨_,S⟩⟩,tf⟩
 rintro ρ ⟨j,rfl⟩;refine⟨_,S,λi ρ=>∃u:Ŗ Sl,ρ=[Z (.v (b8 bs rs gs)),Z (.v (.int (k:Nat))),j,u],⟨_,S⟩,?_,?_⟩
 ·rintro i d ρ hd ⟨u,rfl⟩;let⟨r,rfl,y⟩:=cg hd;have z:=p r (ID y);show⟨ŗ,fT _,ff,λ_=>⟨ff,λ_=>⟨_,S,r.1,k,S,by rw[z],(),ff,λ_=>⟨_,S,r.2,S,ff,λ_=>⟨_,S⟩⟩⟩⟩⟩
 rintro ρ ⟨u,rfl⟩;show q
inductive z__law_givens(ds:List D)(R:D->Prop):Prop|mk (bs:List Bd) (rs:List ag) (g:D) (_:ds=[.tup [.tup (bs.map aT),.tup (rs.map ax),g]]) (_:bs.length<=8) (_:rs.length<=30) (_:R (.lst ((dw bs rs).map ax)))
theorem v8{i j:Nat}:(if ((0+(i:Int))==(j:Int)) then (1:Int) else 0)=if i=j then 1 else 0:=by
 by_cases c:i=j
 ·subst c;rw[Iw (by rw[Jt,Jj]),Iw S]
 ·rw[Ir c,Ir];intro h;have:=eq_of_beq h;omega
theorem DY{bs:Y Bd}{i:Nat}{b:Bd}(h:bs[i]?=Z b):((List.range (i+1)).filter (cH bs)).map (c8 bs)=((List.range i).filter (cH bs)).map (c8 bs)++if b.2.isSome then [c8 bs i] else []:=by
 rw[Ko,Kh,JB];congr 1
 have e:cH bs i=b.2.isSome:=by unfold cH;rw[show ap bs i=b from cq h]
 cases a:b.2.isSome with
 |true=>rw[JZ (by rw[e];show a)];rfl
 |false=>rw[J9 (by rw[e,a];decide)];rfl
theorem DV(F:Fun K "_law_givens" "_law_givens" jF f G)(N:mg "len"=ŕ)(C:mg "enumerate"=ŕ)(O:mg "list"=ŕ)(B:mg "tuple"=ŕ)(J:mg "int"=ŕ)(I:mg "range"=ŕ):FnOk P w K mg base aN (n+1) f G ["_law_plan"] (lSp K z__law_givens):=by
 refine F.okD qam (λds R h=>?_) (λT A outer s H E ds R L h=>?_)
 ·let⟨bs,rs,g,rfl,_⟩:=h;rfl
 let⟨bs,rs,g,rfl,b_,U,q⟩:=h
 refine⟨_,(bK (dz (i:=1) qam.nd S VF (bu bU S N IV (aH (PD.q (au (ac 0))) aM aC) aC ae))
   (bK (wZ (i:=2) qam.nd S VF (dk am))
   (bK (fe IW S (ge S C (ad (au (ac 0)) am aC)) (eO (n:=2) S (cf (bc (i:=3) qam.nd S (Þ S)) (cf (eO (n:=2) S (cf (bc (i:=4) qam.nd S VF) (cf (bc (i:=5) qam.nd S VF) eN))) eN))) (aU (tK 2 (bw (ad (bT cu S B IB (aH (PD.q (PF.d (dG (k:=1) (N':=["_law_i","_law_k"]) (cap:=[ŕ,Z 3]) S (.ok (show bX ["_law_plan","_law_count","_law_rows_here","_law_k","_law_least","_law_most"] (av jF) _ ["_law_i","_law_k"] [ŕ,Z 3]=ŗ by lia)) 'a' (bM 'b') (ix S I (ad (dv 1) am aa)) (λ_ _ _ _ _=>(bc (i:=0) (show List.Nodup (["_law_i","_law_k"]:Y Str)by lia) S VF)) (λ_ _ _ _ _=>(bT kQ S J Kj (aH (PD.q (dQ (cp L.units) (ac 0) (ac 1) (aw _))) aM gU) gU ae))))) aM bD) bD ae) (ad (dv 4) am aa) bj)) (dA bC) bC)))
   (bK (fe IW S (ge S C (ad (au (ac 0)) am aC)) (eO (n:=2) S (cf (bc (i:=3) qam.nd S (Þ S)) (cf (eO (n:=2) S (cf (bc (i:=4) qam.nd S VF) (cf (bc (i:=5) qam.nd S VF) eN))) eN))) (aU (cA (aG ef (ac 5) (PD.q bt) (aw _)) (aU (tK 2 (bw (ad (bT cu S B IB (aH (PD.q (PF.d (dG (k:=1) (N':=["_law_i","_law_k"]) (cap:=[ŕ,Z 3]) S (.ok (show bX ["_law_plan","_law_count","_law_rows_here","_law_k","_law_least","_law_most"] (av jF) _ ["_law_i","_law_k"] [ŕ,Z 3]=ŗ by lia)) 'a' (bM 'b') (ix S I (ad (dv 1) am aa)) (λ_ _ _ _ _=>(bc (i:=0) (show List.Nodup (["_law_i","_law_k"]:Y Str)by lia) S VF)) (λ_ _ _ _ _=>(cQ (PD.q (bT kQ S J Kj (aH (PD.q (dQ (cp L.units) (ac 0) (ac 1) (aw _))) aM gU) gU ae))))))) aM bD) bD ae) (ad (cQ (ac 5)) am gD) bj)) (dA bC) bC)) cI)))
   (aU (bf (aO bI (ac 2) (PD.q (PF.d (jB S O (PD.q (au (ac 0))) aC)))))))))),?_⟩
 have Q:((bs.map aT).length:Int)=(bs.length:Int):=by rw[Il]
 have be:(((bs.map aT).length:Nat):Int).toNat=bs.length:=by omega
 refine⟨_,S,?_⟩;refine⟨_,S,λi ρ=>∃a c e:Ŗ Sl,ρ=[Z (.v (.tup [.tup (bs.map aT),.tup (rs.map ax),g])),Z (.v (.int (bs.length:Nat))),Z (.own (((List.range i).map (eW bs)).map ax)),a,c,e],⟨_,_,_,by rw[Q];rfl⟩,?_,?_⟩
 ·rintro i d ρ hd ⟨a,c,e,rfl⟩;let⟨x,u,rfl⟩:=fZ hd;let⟨b,rfl,j⟩:=cg u;have M:=az j;refine⟨S,S,?_⟩;refine⟨⟨(),()⟩,?_⟩;refine jS (λo=>D.int (if o=i then 1 else 0)) (br ()) (λo _=>Ju D.int v8) ?_;have r:ap bs i=b:=cq j;refine⟨by rw[Il,Il,IF];show br (),((List.range (i+1)).map (eW bs)).map ax,?_,_,_,_,S⟩;rw[Ko,JB,JB];congr 1;change [D.tup [D.tup ((List.range ((bs.length:Nat):Int).toNat).map λo=>D.int (if o=i then 1 else 0)),D.int b.1]]=[ax (eW bs i)];unfold eW ax b7;rw[r,JO,Jw];rfl
 rintro ρ ⟨a,c,e,rfl⟩
 have y:(gQ (bs.map aT)).length=bs.length:=by rw[eG,Il]
 rw[y];refine⟨_,S,λi ρ=>∃a c e:Ŗ Sl,ρ=[Z (.v (.tup [.tup (bs.map aT),.tup (rs.map ax),g])),Z (.v (.int (bs.length:Nat))),Z (.own (((List.range bs.length).map (eW bs)++((List.range i).filter (cH bs)).map (c8 bs)).map ax)),a,c,e],⟨_,_,_,by rw[show (List.range bs.length).map (eW bs)++((List.range 0).filter (cH bs)).map (c8 bs)=(List.range bs.length).map (eW bs)from Ji _]⟩,?_,?_⟩
 ·rintro i d ρ hd ⟨a,c,e,rfl⟩;let⟨x,u,rfl⟩:=fZ hd;let⟨b,rfl,j⟩:=cg u;have M:=az j;have r:ap bs i=b:=cq j
  have X:(((List.range i).filter (cH bs)).map (c8 bs)).length<=i:=by
   rw[Il];have:=JN (cH bs) (List.range i)
   rwa [IF]at this
  refine⟨S,S,?_⟩;have v:=DY j;let⟨l,a_⟩:=b
  cases a_ with
  |none=>
   have p:((List.range (i+1)).filter (cH bs)).map (c8 bs)=((List.range i).filter (cH bs)).map (c8 bs):=by rw[v];show Ji _
   show⟨ff,λ_=>⟨Z (.v (.int (i:Nat))),Z (.v (.int l)),Z (.v .non),by rw[p];rfl⟩⟩
  |some mm=>
   refine⟨λ_=>?_,tf⟩;refine⟨⟨(),()⟩,?_⟩;refine jS (λo=>D.int (-(if o=i then 1 else 0))) (br ()) (λo _=>Ju (λz:Int=>D.int (-z)) v8) ?_;refine⟨by rw[Il,Io,Il,IF];show br (),((List.range bs.length).map (eW bs)++((List.range (i+1)).filter (cH bs)).map (c8 bs)).map ax,?_,_,_,_,S⟩;have p:((List.range (i+1)).filter (cH bs)).map (c8 bs)=((List.range i).filter (cH bs)).map (c8 bs)++[c8 bs i]:=v;rw[p,←IJ,JB (l₂:=[c8 bs i])];congr 1;change [D.tup [D.tup ((List.range ((bs.length:Nat):Int).toNat).map λo=>D.int (-(if o=i then 1 else 0))),D.int (-mm)]]=[ax (c8 bs i)];unfold c8 ax iN b7;rw[r,JO,Jw,Jw];rfl
 rintro ρ ⟨a,c,e,rfl⟩;rw[y];refine⟨_,S,_,S,gj ?_,_,pU ax _ _,?_⟩
 ·rw[Il,Il,Io,Il,IF,Il];have:=JN (cH bs) (List.range bs.length);rw[IF]at this;omega
 ·show q
noncomputable def qi(n:Nat)(s:Led)(a:Y D):D:=.obj "Struck" [("ledger",im s),("breadth",.int (n:Nat)),("kind",.str "none"),("paper",.tup a),("slim",.non),("kept",.tup []),("extra",.int 0)]
theorem sD:∀(n:Nat)(xs:Y Int),gf (dY n) (xs.map D.int) (xs.map D.int)=Z ŗ
 |_,[]=>rfl
 |n,x::xs=>by
  have e:dY n (D.int x) (D.int x)=Z ŗ:=by
   have:dY n (D.int x) (D.int x)=Z (x==x):=by cases n<;>rfl
   rw[this,Jj]
  change ((dY n (D.int x) (D.int x)).bind λb=>(gf (dY n) (xs.map D.int) (xs.map D.int)).map (b&&·))=_;rw[e,sD n xs];rfl
theorem zj{R:D->Prop}(xs:Y Int)(q:R (.bl ŗ)):mP (.lst (xs.map D.int)) (.lst (xs.map D.int)) R:=by
 have e:dY 40 (.lst (xs.map D.int)) (.lst (xs.map D.int))=Z ŗ:=by change (if (xs.map D.int).length=(xs.map D.int).length then gf (dY 39) (xs.map D.int) (xs.map D.int) else Z Ř)=_;rw[Iw S,sD]
 unfold mP;rw[e];show q
theorem tW{x:Nat}{st:Y Nat}:iX (.inl (x:Int)) (st.map λn:Nat=>(à (n:Int):aD))=decide (x∈st):=by
 rw[MB,C5,KO,I0];constructor
 ·rintro⟨y,a,e⟩;have:(y:Int)=(x:Int):=ć e
  have:y=x:=by omega
  show this▸a
 ·intro h;show⟨x,h,S⟩
theorem uz(b:Bool):(Ř != b)=b:=by cases b<;>rfl
inductive z__law_fields(ds:List D)(R:D->Prop):Prop|mk (d:D) (n:Nat) (s:Led) (_:ds=[d,.int (n:Nat)]) (_:((d=jD n s/\Wy n s)\/∃pp,d=qi n s pp)) (_:R (.bl ŗ))
theorem CN(F:Fun K "_law_fields" "_law_fields" lb f G){z:Addr}(a:TxtStruck K mg z)(M:Cl P w K mg base n "_law_wholes" ["_law_told","_law_size"] z__law_wholes)(J:Cl P w K mg base n "_law_whole" ["_law_told"] z__law_whole)(y:Cl P w K mg base n "_law_plan_is" ["_law_plan","_law_count"] z__law_plan_is)(I:mg "list"=ŕ)(p:mg "isinstance"=ŕ)(l:mg "tuple"=ŕ)(o:mg "len"=ŕ)(C:mg "range"=ŕ):FnOk P w K mg base aN (n+1) f G ["_law_struck","_law_count"] (lSp K z__law_fields):=by
 refine F.okD qal (λds R h=>?_) (λO A outer s H E ds R e h=>?_)
 ·let⟨d,k,s,rfl,_⟩:=h;rfl
 let⟨d,k,s,rfl,hd,q⟩:=h
 refine⟨_,(bK (dz (i:=2) qal.nd S (Þ S) (aZ a.cl a.n_kept a.ns (ac 0)))
   (e9 (cA (PWD.td (dc (cK (bY (PD.q (fX S p (ac 2) (fR (v:=.ty "tuple") S l IB S) aa aa)) (λ_=>rfl))) (dc (cK (bY (PD.q (bg M e S (ad (dv 2) (ad (bu bU S o IV (aH (ac 2) aM aa) aa ae) am bj) aa) aa (ar bj ae))) (λ_=>rfl))) (gh (cK (bY (PD.q (bg J e S (ad (aZ a.cl a.n_extra a.ns (ac 0)) am aW) aW ae)) (λ_=>rfl))))))) (aU (bf cU)) cI)
   (e9 (cA (aG (cp e.units) (PD.q (aZ a.cl a.n_kind a.ns (ac 0))) (PD.q gT) (aw _)) (aU (bf (il (dQ (cp e.units) (ac 2) (PD.q (bw am)) (aw _)) (il (dQ (cp e.units) (PD.q (aZ a.cl a.n_extra a.ns (ac 0))) (PD.q ah) (aw _)) (il (dQ gy (PD.q (aZ a.cl a.n_slim a.ns (ac 0))) (PD.q bt) (aw _)) (jN (fX S p (PD.q (aZ a.cl a.n_paper a.ns (ac 0))) (fR (v:=.ty "tuple") S l IB S) aW aa))))))) cI)
   (e9 (cA (PWD.td (dc (aG (e5 e.units) (PD.q (aZ a.cl a.n_kind a.ns (ac 0))) (PD.q gT) (aw _)) (dc (aG ef (PD.q (aZ a.cl a.n_paper a.ns (ac 0))) (PD.q bt) (aw _)) (gh (cK (bY (PD.q (bg y e S (ad (aZ a.cl a.n_slim a.ns (ac 0)) (ad (bu bU S o IV (aH (ac 2) aM aa) aa ae) am bj) aW) aW (ar bj ae))) (λ_=>rfl))))))) (aU (bf cU)) cI)
   (aU (bf (dQ (cp e.units) (PD.q (PF.d (jB S I (ac 2) aa))) (PD.q (PF.d (oZ (k:=1) (N':=["_law_k","_law_kept"]) (cap:=[ŕ,Z 2]) S (.ok (show bX ["_law_struck","_law_count","_law_kept"] (av lb) _ ["_law_k","_law_kept"] [ŕ,Z 2]=ŗ by lia)) 'a' (bM 'b') (ix S C (ad (dv 1) am aa)) (λ_ _ _ _ _=>(bc (i:=0) (show List.Nodup (["_law_k","_law_kept"]:Y Str)by lia) S VF)) (λ_ _ _ _ _=>(jr (aG yY (ac 0) (ac 1) (by with_unfolding_all rfl)))) (λ_ _ _ _ _=>(dv 0))))) (aw _)))))))),?_⟩
 rcases hd with⟨rfl,g⟩|⟨N,rfl⟩
 ·have a_:=g.n8;have Q:=g.sn;refine⟨S,_,S,?_⟩;refine⟨λρ=>ρ=[Z (.v (jD k s)),Z (.v (.int (k:Nat))),Z (.v (.tup (s.st.map ba)))],⟨ŗ,fT _,ff,λ_=>⟨s.st.map λn:Nat=>(n:Int),_,by rw[mO],by rw[Il,Il],by rw[Il];omega,ff,λ_=>⟨S,_,S,s.ex,S,ff,λ_=>rfl⟩⟩⟩,?_⟩;rintro ρ rfl;refine⟨λρ=>ρ=[Z (.v (jD k s)),Z (.v (.int (k:Nat))),Z (.v (.tup (s.st.map ba)))],⟨S,_,S,λh=>absurd h 'a',λ_=>rfl⟩,?_⟩;rintro ρ rfl;refine⟨λρ=>ρ=[Z (.v (jD k s)),Z (.v (.int (k:Nat))),Z (.v (.tup (s.st.map ba)))],⟨S,_,S,λh=>absurd h 'a',λ_=>⟨S,_,S,ff,λ_=>⟨S,_,S,s.st.length,pk (0,ŕ) s.bs s.st,s.rs.map (jZ s.st),pk 0 s.gl s.st,?_,(),by unfold pk;rw[Il],by unfold pk;rw[Il],by rw[Il];have:=g.rl;omega,λr B=>?_,ff,λ_=>rfl⟩⟩⟩,?_⟩
  ·rw[Il];rfl
  ·let⟨x,U,rfl⟩:=I0.mp B;change (pk 0 x.1 s.st).length=_;unfold pk;rw[Il]
  rintro ρ rfl;refine⟨_,S,⟨(),()⟩,by rw[gA];show br (),iL (λu=>decide (u∈s.st)) (λu=>ba u),λi d hd=>?_,λX j L=>?_⟩
  ·let⟨T,rfl⟩:=ia hd;refine⟨.inl (0+(i:Int)),s.st.map λn:Nat=>(à (n:Int):aD),S,?_,λc=>?_,λc=>?_⟩
   ·change Z (s.st.map ba)=_;rw[Jw];rfl
   ·rw[uz,Jt,tW]at c;show⟨by change D.int _=D.int _;rw[Jt],c⟩
   ·rw[uz,Jt,tW]at c;show c
  rw[gA]at j;rw[jC j L,JO,Ao g.so g.sl,mO];show zj _ q
 ·refine⟨S,_,S,?_⟩;refine⟨λρ=>ρ=[Z (.v (qi k s N)),Z (.v (.int (k:Nat))),Z (.v (.tup []))],⟨ŗ,fT _,ff,λ_=>⟨[],_,S,S,'b',ff,λ_=>⟨S,_,S,0,S,ff,λ_=>rfl⟩⟩⟩,?_⟩;rintro ρ rfl;refine⟨λ_=>False,⟨S,_,S,λ_=>⟨λ_=>⟨S,_,S,λ_=>⟨S,_,S,λ_=>⟨S,_,S,ŗ,fT _,q⟩,tf⟩,tf⟩,tf⟩,λh=>absurd h 'a'⟩,λρ h=>h.elim⟩
noncomputable def dU(n:Nat)(T:Y ag)(sh:Y (Nat×Int)):Y Int:=(List.range n).map (cT T sh)++[eK T sh]
theorem Hc{a c:Type}(xs:Y a)(f:a->c):cN (xs.map f) ŕ (Z (-1))=xs.dropLast.map f:=by
 rw[LM,List.map_take];unfold cN;rw[Il]
 have e:HT.sIx xs.length xs.length (Z (-1))=xs.length-1:=by unfold HT.sIx;simp;omega
 rw[e];rfl
theorem AQ{a:Type}{f:a->D}(xs:Y a)(x:a):cF ((xs++[x]).map f) (-1)=Z (f x):=by
 have c:((xs++[x]).map f).length=xs.length+1:=by rw[Il,Io,IX]
 unfold cF;rw[Aa (),c];change ((xs++[x]).map f)[xs.length+1-1]?=_;rw[Nat.add_sub_cancel,IE,Im (Iu _),Je];rfl
theorem yt(T:Y ag)(sh:Y (Nat×Int))(p:Nat×Int)(k:Nat):cT T (sh++[p]) k=cT T sh k+p.2*(T.getD p.1 ([],0)).1.getD k 0:=by unfold cT;rw[JB,K2,Kk,Kl]
theorem yX(T:Y ag)(sh:Y (Nat×Int))(p:Nat×Int):eK T (sh++[p])=eK T sh+p.2*(T.getD p.1 ([],0)).2:=by unfold eK;rw[JB,K2,Kk,Kl]
theorem vJ{xs:Y Int}{n:Nat}(h:xs.length=n)(f:Int->Int):xs.map f=(List.range n).map λk=>f (xs.getD k 0):=by
 refine JU λi=>?_;rw[IE,IE];by_cases c:i<n
 ·rw[Jr c,ce (d:=0) (show i<xs.length by omega)];rfl
 ·rw[Jp (),Jp (by rw[IF];omega)];rfl
noncomputable def gM(p:Nat×Int)(r:ag):Y Int:=r.1.map (p.2*·)++[p.2*r.2]
theorem uH{n:Nat}{T:Y ag}{p:Nat×Int}{r:ag}(c:T[p.1]?=Z r)(h:r.1.length=n):dU n T [p]=gM p r:=by
 unfold dU gM;rw[vJ h];have e:cT T [p]=λk=>p.2*r.1.getD k 0:=funext λk=>pQ (a:=p.1) (w:=p.2) c k;have g:eK T [p]=p.2*r.2:=qw (a:=p.1) (w:=p.2) c;rw[e,g]
theorem Go{n:Nat}{T:Y ag}{sh:Y (Nat×Int)}{p:Nat×Int}{r:ag}(g:T[p.1]?=Z r)(c:r.1.length=n):dU n T (sh++[p])=List.zipWith (·+·) (dU n T sh) (gM p r):=by
 rw[←uH g c];unfold dU;rw[Lh (by simp),List.zipWith_map]
 have e:∀l:Y Nat,List.zipWith (λa b=>cT T sh a+cT T [p] b) l l=l.map (cT T (sh++[p])):=λl=>by
  induction l with
  |nil=>rfl
  |cons k l h=>
   rw[List.zipWith_cons_cons,h,IQ,yt];congr 1;unfold cT;rw[Kk,Kl]
 rw[e,yX];congr 1;unfold eK;rw[Kk,Kl];rfl
theorem vV(n:Nat)(T:Y ag)(sh:Y (Nat×Int)):(dU n T sh).length=n+1:=by unfold dU;rw[Io,Il,IF,IX]
noncomputable def jo(p:Nat×Int):D:=.tup [.int (p.1:Nat),.int p.2]
noncomputable abbrev CS(T:Y ag)(sh:Y (Nat×Int))(a:Int)(c:Y Int)(e g h j l:Ŗ Sm):ak:=[Z (.v (.lst (T.map ax))),Z (.v (gK sh)),Z (.v (.int a)),Z (.v (.lst (c.map D.int))),e,g,h,j,l]
noncomputable def iq(n:Nat)(T:Y ag)(sh:Y (Nat×Int))(i:Nat):Y Int:=if i=0 then [] else dU n T (sh.take i)
theorem ES{xs:Y Bool}(h:∀x∈xs,x=Ř):xs.any id=Ř:=by
 induction xs with
 |nil=>rfl
 |cons x xs c=>
  change (x ||xs.any id)=Ř;rw[h x Iy,c λy a=>h y (IC _ a)];rfl
inductive z__law_cut(ds:List D)(R:D->Prop):Prop|mk (n:Nat) (T:List ag) (sh:List (Nat×Int)) (dv:Int) (r:ag) (_:ds=[.lst (T.map ax),gK sh,.int dv]) (_:CutOf n T sh dv r) (_:sh.length<=9) (_:n<=8) (_:dv.natAbs<2^64) (_:(∀p∈sh,p.2.natAbs<2^64)) (_:(∀r∈T,r.1.length=n/\(∀x∈r.1,x.natAbs<=2^50000)/\r.2.natAbs<=2^50000)) (_:R (ax r))
theorem B9(F:Fun K "_law_cut" "_law_cut" iK f G)(gc:Cl P w K mg base n "_law_whole" ["_law_told"] z__law_whole)(iV:Cl P w K mg base n "_law_wholes" ["_law_told","_law_size"] z__law_wholes)(iz:mg "any"=ŕ)(aP:mg "tuple"=ŕ)(cZ:mg "isinstance"=ŕ)(O:mg "len"=ŕ)(gb:mg "zip"=ŕ):FnOk P w K mg base aN (n+1) f G ["_law_rows_here","_law_shares","_law_divisor"] (lSpM K (zM z__law_cut)):=by
 refine F.okM qai (λas R Rx h=>?_) (λM5 A outer s H E as R Rx qs M9 I h Nh=>?_)
 ·let⟨_,rfl,m,T,sh,a,r,rfl,_⟩:=h;rfl
 let⟨_,rfl,m,T,sh,a,r,rfl,j,O2,h8,hdv,OZ,hT,q⟩:=h;obtain rfl:=jt Nh
 refine⟨_,(bR (bB (bx (PWD.td (dc (cK (bY (PD.q (fX S cZ (ac 1) (fR (v:=.ty "tuple") S aP IB S) aa aa)) (λ_=>rfl))) (dc (aG (cp I.units) (PD.q (bu bU S O IV (aH (ac 1) aM aa) aa ae)) (PD.q ah) (aw _)) (dc (cK (bY (PD.q (bg gc I S (ad (dv 2) am aa) aa ae)) (λ_=>rfl))) (gh (aG fm (ac 2) (PD.q ah) (aw _)))))))) (aF (bJ (af bt))) bP)
   (ao (aB (i:=3) qai.nd S VF (af (PF.d (dk am))))
   (ao (fq IW S (fM (ca (dv 1))) (cE (i:=4) qai.nd S VF) (bR (bB (bx (cK (bY (PD.q (bg iV I S (ad (dv 4) (ad ah am aL) aa) aa (ar aL ae))) (λ_=>rfl)))) (aF (bJ (af bt))) bP)
   (ao (pV (af (dv 4)) (hX (n:=2) S (dN (cE (i:=5) qai.nd S VF) (dN (cE (i:=6) qai.nd S (Þ S)) gR))))
   (bR (bB (bx (PWD.td (dc (aG fm (ac 5) (PD.q ah) (aw _)) (dc (aG j7 (ac 5) (PD.q (bu bU S O IV (aH (ac 0) aM aa) aa ae)) (aw _)) (gh (aG fm (ac 6) (PD.q ah) (aw _))))))) (aF (bJ (af bt))) bP)
   (ao (t7 (i:=7) (k:=1) (N':=["_law_number","_law_weight"]) (cap:=[ŕ,Z 6]) S qai.nd S VF (.ok (show bX ["_law_rows_here","_law_shares","_law_divisor","_law_total","_law_share","_law_at","_law_weight","_law_row","_law_entries"] (av iK) _ ["_law_number","_law_weight"] [ŕ,Z 6]=ŗ by lia)) 'a' (bM 'b') (ca (au (PD.q (bv (ac 0) (ac 5) (λ_ _=>rfl))))) (λ_ _ _ _ _=>(bc (i:=0) (show List.Nodup (["_law_number","_law_weight"]:Y Str)by lia) S VF)) (λ_ _ _ _ _=>(aO cr (ac 1) (ac 0))))
   (ao (fk 7 (af (aO cr (ac 6) (PD.q (au (PD.q (bv (ac 0) (ac 5) (λ_ _=>rfl))))))) (dA bO) bO)
   (aF (bB (bx (aG (cp I.units) (PD.q (bu bU S O IV (aH (ac 3) aM aa) aa ae)) (PD.q ah) (aw _))) (iE 7 (aF (aB (i:=3) qai.nd S VF (af (dv 7))))) (iE 7 (ao (t7 (i:=3) (k:=2) (N':=["_law_one","_law_more"]) (cap:=[ŕ,ŕ]) S qai.nd S VF (.ok (show bX ["_law_rows_here","_law_shares","_law_divisor","_law_total","_law_share","_law_at","_law_weight","_law_row","_law_entries"] (av iK) _ ["_law_one","_law_more"] [ŕ,ŕ]=ŗ by lia)) 'a' (iW (n:=2) (fE (bM 'b') (fE (bM 'b') jb))) (kz S gb (ad (dv 3) (ad (dv 7) am aa) aa)) (λ_ _ _ _ _=>(eO (n:=2) S (cf (bc (i:=0) (show List.Nodup (["_law_one","_law_more"]:Y Str)by lia) S VF) (cf (bc (i:=1) (show List.Nodup (["_law_one","_law_more"]:Y Str)by lia) S VF) eN)))) (λ_ _ _ _ _=>(aO bI (ac 0) (ac 1))))
   (iE 3 bP)))))))))))
   (bR (bB (bx (bY (PD.q (bu (oS S) S iz LO (aH (PD.q (PF.d (dG (k:=1) (N':=["_law_one","_law_divisor"]) (cap:=[ŕ,Z 2]) S (.ok (show bX ["_law_rows_here","_law_shares","_law_divisor","_law_total","_law_share","_law_at","_law_weight","_law_row","_law_entries"] (av iK) _ ["_law_one","_law_divisor"] [ŕ,Z 2]=ŗ by lia)) 'a' (bM 'b') (ca (kT (ac 3) kB (jV (PD.q (cQ (PD.q ah)))))) (λ_ _ _ _ _=>(bc (i:=0) (show List.Nodup (["_law_one","_law_divisor"]:Y Str)by lia) S VF)) (λ_ _ _ _ _=>(dQ (e5 I.units) (PD.q (aO iw (ac 0) (ac 1))) (PD.q ah) (aw _)))))) aM bD) bD ae)) (λ_=>rfl))) (aF (bJ (af bt))) bP)
   (ao (aB (i:=8) qai.nd S VF (af (bT cu S aP IB (aH (PD.q (PF.d (dG (k:=1) (N':=["_law_one","_law_divisor"]) (cap:=[ŕ,Z 2]) S (.ok (show bX ["_law_rows_here","_law_shares","_law_divisor","_law_total","_law_share","_law_at","_law_weight","_law_row","_law_entries"] (av iK) _ ["_law_one","_law_divisor"] [ŕ,Z 2]=ŗ by lia)) 'a' (bM 'b') (ca (kT (ac 3) kB (jV (PD.q (cQ (PD.q ah)))))) (λ_ _ _ _ _=>(bc (i:=0) (show List.Nodup (["_law_one","_law_divisor"]:Y Str)by lia) S VF)) (λ_ _ _ _ _=>(aO kK (ac 0) (ac 1)))))) aM bD) bD ae)))
   (aF (bJ (af (bw (ad (dv 8) (ad (cQ (PD.q (aO kK (PD.q (cQ (PD.q (bv (ac 3) (PD.q (cQ (PD.q ah))) (λ_ _=>rfl))))) (ac 2)))) am gD) aa)))))))))),?_⟩
 intro ke;have hd:=j.d;have Nm:0<sh.length:=List.length_pos_iff.mpr j.ne;have SD:a<2^9000:=bN ();refine⟨λρ=>ρ=[Z (.v (.lst (T.map ax))),Z (.v (gK sh)),Z (.v (.int a)),ŕ,ŕ,ŕ,ŕ,ŕ,ŕ],?_,?_⟩
 ·refine⟨ŗ,fT _,ff,λ_=>⟨λh=>?_,λ_=>⟨a,S,ff,λ_=>⟨λh=>absurd (Jd h) (),λ_=>rfl⟩⟩⟩⟩;have h':((((sh.map jo).length:Nat):Int)==0)=ŗ:=h;rw[Il]at h';have:=eq_of_beq h';omega
 rintro ρ rfl;refine⟨λi ρ=>∃N J L l:Ŗ Sm,ρ=CS T sh a (iq m T sh i) N J L l ŕ,⟨_,_,_,_,S⟩,?_,?_⟩
 ·rintro i d ρ Qb ⟨N,J,L,l,rfl⟩;let⟨p,rfl,M⟩:=cg (f:=jo) Qb;have C:=ID M;have O8:=az M;let⟨Nv,Nz⟩:=j.at_ p C;obtain⟨c,o⟩:∃c,T[p.1]?=Z c:=⟨_,ce (d:=([],0)) Nv⟩;let⟨b_,t2,t3⟩:=hT c (ID o);have a_:=OZ p C;refine⟨λρ=>ρ=CS T sh a (iq m T sh i) (Z (.v (jo p))) J L l ŕ,⟨[(p.1:Int),p.2],2,S,S,(by change 2<=500;decide),ff,λ_=>rfl⟩,?_⟩;rintro ρ rfl;refine⟨S,?_⟩;refine⟨λρ=>ρ=CS T sh a (iq m T sh i) (Z (.v (jo p))) (Z (.v (.int (p.1:Nat)))) (Z (.v (.int p.2))) l ŕ,⟨λh=>absurd (Jd h) (),λ_=>⟨λh=>absurd (Jd h) (by rw[Il];omega),λ_=>⟨λh=>absurd (Jd h) (),λ_=>rfl⟩⟩⟩,?_⟩;rintro ρ rfl;refine⟨_,cP o S,_,S,?_⟩;have B:cM p.2:=gB (m:=64) (JW a_) 'b';have U:∀x∈c.1,cM x:=λx g=>gB (t2 x g) 'b';refine jQ (f:=D.int) (λx=>p.2*x) (br ()) (λx g=>⟨io B (U x g),S⟩) ?_;refine⟨_,cP o S,_,S,io B (gB t3 'b'),?_⟩;refine⟨by rw[Il,Il];show br (),(gM p c).map D.int,by unfold gM;rw[JB];rfl,?_⟩;rfl'
  have Nq:(gM p c).length=m+1:=by unfold gM;rw[Io,Il,b_];rfl
  by_cases u:i=0
  ·subst u
   have e:iq m T sh (0+1)=gM p c:=by
    change dU m T (sh.take 1)=_
    have Q:sh.take 1=[p]:=by have:=gG M;show this
    rw[Q,uH o b_]
   refine⟨λ_=>⟨_,_,_,_,by rw[e];rfl⟩,tf⟩
  ·have e0:iq m T sh i=dU m T (sh.take i):=Ir u
   have e:iq m T sh (i+1)=List.zipWith (·+·) (dU m T (sh.take i)) (gM p c):=by change dU m T (sh.take (i+1))=_;rw[gG M,Go o b_]
   refine⟨λh=>?_,λ_=>?_⟩
   ·have h':(((((iq m T sh i).map D.int).length:Nat):Int)==0)=ŗ:=h;rw[Il,e0,vV]at h';have:=eq_of_beq h';omega
   ·rw[e0,e];have htl:=vV m T (sh.take i);generalize dU m T (sh.take i)=xs at *;generalize gM p c=ys at *;refine⟨_,_,S,S,?_⟩;refine qP (f:=D.int) (h:=D.int) (λx y=>D.int (x+y)) (br ()) (λx _ y _=>⟨S,S⟩) ?_
    have ez:List.zipWith (λx y=>D.int (x+y)) xs ys=(List.zipWith (λx y=>x+y) xs ys).map D.int:=by rw[Mv]
    rw[ez];show⟨_,_,_,_,S⟩
 rintro ρ ⟨N,J,L,l,rfl⟩
 have eT:iq m T sh ((sh.map jo).length)=dU m T sh:=by unfold iq;rw[Il,Ir (),JR]
 have eD:(dU m T sh).dropLast=(List.range m).map (cT T sh):=by unfold dU;rw[List.dropLast_concat]
 have eC:cN ((dU m T sh).map D.int) ŕ (Z (-1))=((List.range m).map (cT T sh)).map D.int:=by rw[Hc,eD]
 have eL:cF ((dU m T sh).map D.int) (-1)=Z (.int (eK T sh)):=AQ (f:=D.int) _ _;rw[show (List.map (λp:Nat×Int=>D.tup [D.int (p.1:Nat),D.int p.2]) sh).length=(sh.map jo).length from rfl,eT]
 have hq:∀k,k<m->cT T sh k % a=0/\cT T sh k/a=r.1.getD k 0:=λk z=>by rw[j.e k z];show⟨Int.mul_emod_right _ _,Int.mul_ediv_cancel_left _ ()⟩
 refine⟨λρ=>ρ=CS T sh a (dU m T sh) N J L l ŕ,⟨_,eC,?_⟩,?_⟩
 ·have be:((List.range m).map (cT T sh)).length<=1000:=by rw[Il,IF];omega
  have X:∀x∈(List.range m).map (cT T sh),x % a=0:=λx g=>by let⟨k,z,rfl⟩:=I0.mp g;show (hq k (IY.mp z)).1
  generalize (List.range m).map (cT T sh)=zs at *;refine gz (f:=D.int) (λx=>D.bl (!(x % a==0))) (br be) (λx _=>⟨(),S⟩) ?_;refine⟨zs.map λx=>!(x % a==0),by rw[Jw];rfl,?_⟩
  have e:(zs.map λx=>!(x % a==0)).any id=Ř:=ES λb Qa=>by let⟨x,g,rfl⟩:=I0.mp Qa;rw[X x g];rfl
  refine toB ?_ e;show⟨ff,λ_=>rfl⟩
 rintro ρ rfl;refine⟨_,eC,?_⟩;refine jQ (f:=D.int) (λx=>x/a) (br (by rw[Il,IF];omega)) (λx _=>⟨CDivB.of () SD,S⟩) ?_
 have Q:((List.range m).map (cT T sh)).map (λx=>x/a)=r.1:=by
  rw[Jw];have e2:=vJ j.l id;rw[List.map_id]at e2;rw[e2];show KW λk z=>(hq k (IY.mp z)).2
 rw[Q];refine⟨_,eL,CDivB.of () SD,?_⟩;have e3:-(-eK T sh/a)=r.2:=j.b.symm;change R (Sm.v (D.tup [D.tup (r.1.map D.int),D.int (-(-eK T sh/a))])) [];rw[e3];show q
inductive z__law_shuts(ds:List D)(R:D->Prop):Prop|mk (n:Nat) (T:List ag) (a:Nat) (b:Int) (_:ds=[.lst (T.map ax),.int (a:Nat)]) (_:T[a]?=Z (List.replicate n 0,b)) (_:n<=8) (_:0<b) (_:R (.bl ŗ))
theorem AS(F:Fun K "_law_shuts" "_law_shuts" kn f G)(o:Cl P w K mg base n "_law_whole" ["_law_told"] z__law_whole)(r:mg "all"=ŕ)(l:mg "len"=ŕ):FnOk P w K mg base aN (n+1) f G ["_law_rows_here","_law_number"] (lSp K z__law_shuts):=by
 refine F.okD zP (λds R h=>?_) (λu A outer s H E ds R g h=>?_)
 ·let⟨m,T,a,b,rfl,_⟩:=h;rfl
 let⟨m,T,a,b,rfl,c,v,y,q⟩:=h
 refine⟨_,(e9 (cA (cK (bY (PD.q (bg o g S (ad (dv 1) am aa) aa ae)) (λ_=>rfl))) (aU (bf cU)) cI)
   (e9 (cA (PWD.td (dc (aG fm (ac 1) (PD.q ah) (aw _)) (gh (aG j7 (ac 1) (PD.q (bu bU S l IV (aH (ac 0) aM aa) aa ae)) (aw _))))) (aU (bf cU)) cI)
   (aU (bf (il (dQ ei (PD.q (au (PD.q (bv (ac 0) (ac 1) (λ_ _=>rfl))))) (PD.q ah) (aw _)) (jN (bu (vx S) S r MN (aH (PD.q (PF.d (dG (k:=1) (N':=["_law_one"]) (cap:=[ŕ]) S (.ok (show bX ["_law_rows_here","_law_number"] (av kn) _ ["_law_one"] [ŕ]=ŗ by lia)) 'a' (bM 'b') (ca (au (PD.q (bv (ac 0) (ac 1) (λ_ _=>rfl))))) (λ_ _ _ _ _=>(bc (i:=0) (show List.Nodup (["_law_one"]:Y Str)by lia) S VF)) (λ_ _ _ _ _=>(dQ (cp g.units) (ac 0) (PD.q ah) (aw _)))))) aM bD) bD ae))))))),?_⟩
 have z:=az c;refine⟨λρ=>ρ=[Z (.v (.lst (T.map ax))),Z (.v (.int (a:Nat)))],⟨_,S,ff,λ_=>rfl⟩,?_⟩;rintro ρ rfl;refine⟨λρ=>ρ=[Z (.v (.lst (T.map ax))),Z (.v (.int (a:Nat)))],⟨λh=>absurd (Jd h) (),λ_=>⟨λh=>absurd (Jd h) (by rw[Il];omega),λ_=>rfl⟩⟩,?_⟩;rintro ρ rfl;refine⟨_,cP c S,_,S,λ_=>?_,λh=>absurd (JC h) ()⟩;refine⟨_,cP c S,_,S,?_⟩;refine gz (f:=D.int) (λx=>D.bl (x==0)) (br (by rw[Jy];omega)) (λx _=>rfl) ?_;refine⟨(List.replicate m (0:Int)).map λx=>x==0,by rw[Jw];rfl,?_⟩
 have e:((List.replicate m (0:Int)).map λx=>x==0).all id=ŗ:=Kf.mpr λb j=>by let⟨x,p,rfl⟩:=I0.mp j;rw[Mw p];rfl
 show toB q e
inductive z__law_is_choice(ds:List D)(R:D->Prop):Prop|mk (d e:D) (n:Nat) (_:ds=[.tup [.str "cut",d,e],.int (n:Nat)]) (_:R (.bl Ř))
theorem Ax(F:Fun K "_law_is_choice" "_law_is_choice" oq f G)(j:Cl P w K mg base n "_law_wholes" ["_law_told","_law_size"] z__law_wholes)(g:Cl P w K mg base n "_law_whole" ["_law_told"] z__law_whole)(c:mg "len"=ŕ):FnOk P w K mg base aN (n+1) f G ["_law_line","_law_count"] (lSp K z__law_is_choice):=by
 refine F.okD yj (λds R h=>?_) (λl A outer s H E ds R a h=>?_)
 ·let⟨d,e,m,rfl,_⟩:=h;rfl
 let⟨d,e,m,rfl,q⟩:=h
 refine⟨_,(e9 (cA (PWD.td (dc (aG (e5 a.units) (PD.q (au (ac 0))) (PD.q gT) (aw _)) (gh (aG (e5 a.units) (PD.q (bu bU S c IV (aH (ac 0) aM aa) aa ae)) (PD.q ah) (aw _))))) (aU (bf cU)) cI)
   (aU (bf (il (bg j a S (ad (au (ac 0)) (ad (dv 1) am aa) aC) aC (ar aa ae)) (jN (bg g a S (ad (au (ac 0)) am aC) aC ae)))))),?_⟩
 show⟨λ_=>False,⟨_,S,λ_=>⟨λ_=>q,tf⟩,λh=>absurd h 'a'⟩,λρ h=>h.elim⟩
theorem Lines.at_{n:Nat}{j:Y ag}{u:Y D}{T:Y ag}(h:Lines n j u T):∀{i:Nat}{d:D},u[i]?=Z d->∃(sh:Y (Nat×Int))(a:Int)(r:ag),d=cL (gK sh) a/\CutOf n (T.take (j.length+i)) sh a r/\T[j.length+i]?=Z r/\sh.length<=9/\a.natAbs<2^64/\∀p∈sh,p.2.natAbs<2^64:=by
 induction h with
 |nil=>intro i d h;cases h
 | @snoc ds T sh a r E F C hd H I=>
  intro i d g;have o:=E.len;by_cases c:i<ds.length
  ·rw[Ip c]at g;let⟨l,x,J,y,z,A,B⟩:=I g;show⟨l,x,J,y,by rw[K6 ()];show z,by rw[Ip ()];show A,B⟩
  ·have v:=az g;rw[Io,IX]at v
   have e:i=ds.length:=by omega
   subst e;rw[Im (Iu _),Je]at g;cases g;refine⟨sh,a,r,S,?_,?_,C,hd,H⟩
   ·rw[←o,K6 (Iu _),JR];show F
   ·rw[←o,Im (Iu _),Je];rfl
theorem Lines.take0{n:Nat}{a:Y ag}{g:Y D}{T:Y ag}(h:Lines n a g T):T.take a.length=a:=by
 induction h with
 |nil=>show JR
 | @snoc ds T sh j r c o l hd p e=>
  have:=c.len;rw[K6 ()];show e
theorem pf{B:Nat}:∀{xs:Y Int},(∀x∈xs,x.natAbs<=B)->xs.sum.natAbs<=xs.length*B
 | [],_=>by change 0<=_;omega
 |x::xs,h=>by
  have c:=h x Iy;have e:=pf (xs:=xs) λy a=>h y (IC _ a);rw[Kt,IH,Nat.succ_mul];omega
theorem Fd{a d:Int}(h:1<=d):(cW a d).natAbs<=a.natAbs:=by
 unfold cW;have:=Lm (-a) d;omega
noncomputable abbrev Szd(n M:Nat)(r:ag):Prop:=r.1.length=n/\(∀x∈r.1,x.natAbs<=M)/\r.2.natAbs<=M
theorem AB{n M:Nat}{T:Y ag}{sh:Y (Nat×Int)}{z:Int}{r:ag}(C:∀r∈T,Szd n M r)(c:CutOf n T sh z r)(v:sh.length<=9)(y:∀p∈sh,p.2.natAbs<2^64):Szd n (2^68*M) r:=by
 have o:∀p∈sh,Szd n M (T.getD p.1 ([],0)):=λp a=>C _ (cD (c.at_ p a).1)
 have g:9*(2^64*M)<=2^68*M:=by rw[←Nat.mul_assoc];show Kr _ 'b'
 have A:∀k,k<n->(cT T sh k).natAbs<=2^68*M:=λk l=>by unfold cT;refine IU (pf (B:=2^64*M) λx j=>?_) (IU (Kr _ (by rw[Il];show v)) g);let⟨p,a,rfl⟩:=I0.mp j;rw[J6];show Kg (JW (y p a)) ((o p a).2.1 _ (cD (by rw[(o p a).1];show l)))
 refine⟨c.l,λx j=>?_,?_⟩
 ·let⟨k,l⟩:=J0 j
  have h:k<n:=by have:=az l;rw[c.l]at this;show this
  have e:=c.e k h;rw[cq l]at e;have u:=A k h;rw[e,J6]at u;have hd:=c.d;show IU (LD _ ()) u
 ·rw[c.b];refine IU (Fd c.d) ?_;unfold eK;refine IU (pf (B:=2^64*M) λx j=>?_) (IU (Kr _ (by rw[Il];show v)) g);let⟨p,a,rfl⟩:=I0.mp j;rw[J6];show Kg (JW (y p a)) (o p a).2.2
theorem Szd.mono{n M N:Nat}{r:ag}(h:Szd n M r)(a:M<=N):Szd n N r:=⟨h.1,λx c=>IU (h.2.1 x c) a,IU h.2.2 a⟩
theorem Lines.size{n:Nat}{c:Y ag}{j:Y D}{T:Y ag}(h:Lines n c j T)(o:∀r∈c,Szd n (2^200) r):∀r∈T,Szd n (2^(200+68*j.length)) r:=by
 induction h with
 |nil=>show o
 | @snoc ds T sh l r y u p hd v g=>
  have e:2^(200+68*(ds++[cL (gK sh) l]).length)=2^68*2^(200+68*ds.length):=by rw[←Nat.pow_add,Io,IX];congr 1;omega
  rw[e];intro x a;rcases IZ.mp a with a|a
  ·show (g x a).mono (LD _ 'b')
  ·rw[Iz.mp a];show AB g u p v
inductive z__law_bars(ds:List D)(R:D->Prop):Prop|mk (n:Nat) (T0 T:List ag) (ls:List D) (a:Nat) (b:Int) (_:ds=[.lst (T0.map ax),.tup (ls++[.tup [.str "shut",.int (a:Nat)]]),.int (n:Nat)]) (_:Lines n T0 ls T) (_:ls.length<=700) (_:T0.length<=100) (_:n<=8) (_:(∀r∈T0,r.1.length=n/\(∀x∈r.1,x.natAbs<=2^200)/\r.2.natAbs<=2^200)) (_:T[a]?=Z (List.replicate n 0,b)) (_:0<b) (_:R (.bl ŗ))
noncomputable abbrev iY(a:Y ag)(c:Y D)(m:Nat)(T:Y ag)(e g h j:Ŗ Sm):ak:=[Z (.v (.lst (a.map ax))),Z (.v (.tup c)),Z (.v (.int (m:Nat))),Z (.v (.lst (T.map ax))),Z (.own []),e,g,h,j]
theorem Cu(F:Fun K "_law_bars" "_law_bars" jU f G)(X:Cl P w K mg base n "_law_shuts" ["_law_rows_here","_law_number"] z__law_shuts)(b_:Cl P w K mg base n "_law_is_choice" ["_law_line","_law_count"] z__law_is_choice)(be:Cl P w K mg base n "_law_cut" ["_law_rows_here","_law_shares","_law_divisor"] z__law_cut)(dB:mg "list"=ŕ)(bZ:mg "enumerate"=ŕ)(N:mg "isinstance"=ŕ)(I:mg "tuple"=ŕ)(o:mg "len"=ŕ):FnOk P w K mg base aN (n+1) f G ["_law_rows_here","_law_paper","_law_count"] (lSpM K (zM z__law_bars)):=by
 refine F.okM qaf (λas R Rx h=>?_) (λM5 A outer s H E as R Rx qs M9 l h Nh=>?_)
 ·let⟨_,rfl,m,g,T,j,a,b,rfl,_⟩:=h;rfl
 let⟨_,rfl,m,g,T,j,a,b,rfl,z,hl,h0,O,hT,ha,hb,q⟩:=h;obtain rfl:=jt Nh
 refine⟨_,(ao (aB (i:=3) qaf.nd S VF (af (PF.d (jB S dB (ac 0) aa))))
   (ao (aB (i:=4) qaf.nd S VF (dS (dk am)))
   (bR (bB (bx (cK (bY (PD.q (fX S N (ac 1) (fR (v:=.ty "tuple") S I IB S) aa aa)) (λ_=>rfl)))) (aF (bJ (af cU))) bP)
   (ao (fq IW S (fM (ge S bZ (ad (dv 1) am aa))) (hX (n:=2) S (dN (cE (i:=5) qaf.nd S VF) (dN (cE (i:=6) qaf.nd S VF) gR))) (bR (bB (bx (PWD.td (dc (cK (bY (PD.q (fX S N (ac 6) (fR (v:=.ty "tuple") S I IB S) aa aa)) (λ_=>rfl))) (dc (aG fm (PD.q (bu bU S o IV (aH (ac 6) aM aa) aa ae)) (PD.q ah) (aw _)) (gh (aG ei (PD.q (bu bU S o IV (aH (ac 6) aM aa) aa ae)) (PD.q ah) (aw _))))))) (aF (bJ (af cU))) bP)
   (aF (bB (bx (PWD.td (ee (aG (cp l.units) (PD.q (au (ac 6))) (PD.q gT) (aw _)) (ee (aG (cp l.units) (PD.q (bu bU S o IV (aH (ac 6) aM aa) aa ae)) (PD.q ah) (aw _)) (ft (bY (PD.q (bg X l S (ad (dv 3) (ad (au (ac 6)) am aC) aa) aa (ar aC ae))) (λ_=>rfl))))))) (bR (bB (bx (aG (cp l.units) (PD.q (bu bU S o IV (aH (ac 4) aM aa) aa ae)) (PD.q ah) (aw _))) (aF (bJ (af (dQ (cp l.units) (ac 5) (PD.q (aO cV (PD.q (bu bU S o IV (aH (ac 1) aM aa) aa ae)) (PD.q ah))) (aw _))))) bP)
   (aF (aB (i:=3) qaf.nd S VF (Be 4)))) (aF (bB (bx (bY (PD.q (bg b_ l S (ad (dv 6) (ad (dv 2) am aa) aa) aa (ar aa ae))) (λ_=>rfl))) (ao (fk 4 (af (aO bI (ac 3) (PD.q (PF.d (dk (ad (bw (ad (au (ac 6)) (ad (aO bI (PD.q (au (ac 6))) (PD.q ah)) am bO) aC)) am bC)))))) (dA bO) bO)
   (ao (aB (i:=7) qaf.nd S VF (af (bT cu S I IB (aH (PD.q (PF.d (dG (k:=1) (N':=["_law_number"]) (cap:=[ŕ]) S (.ok (show bX ["_law_rows_here","_law_paper","_law_count","_law_standing","_law_kept","_law_k","_law_line","_law_entries","_law_row"] (av jU) _ ["_law_number"] [ŕ]=ŗ by lia)) 'a' (bM 'b') (ca (au (ac 6))) (λ_ _ _ _ _=>(bc (i:=0) (show List.Nodup (["_law_number"]:Y Str)by lia) S VF)) (λ_ _ _ _ _=>(cQ (ac 0)))))) aM bD) bD ae)))
   (aF (aB (i:=3) qaf.nd S VF (af (aO bI (ac 3) (PD.q (PF.d (dk (ad (bw (ad (dv 7) (ad (cQ (PD.q (au (ac 6)))) am gD) aa)) am bC)))))))))) (aF (bB (bx (PWD.td (ee (aG (cp l.units) (PD.q (au (ac 6))) (PD.q gT) (aw _)) (ft (aG (cp l.units) (PD.q (bu bU S o IV (aH (ac 6) aM aa) aa ae)) (PD.q ah) (aw _)))))) (ao (aB (i:=8) qaf.nd S VF (af (bg be l S (ad (dv 3) (ad (au (ac 6)) (ad (au (ac 6)) am aC) aC) aa) aa (ar aC (ar aC ae)))))
   (bR (bB (bx (aG gy (ac 8) (PD.q bt) (aw _))) (aF (bJ (af cU))) bP)
   (aF (aB (i:=3) qaf.nd S VF (af (aO bI (ac 3) (PD.q (PF.d (dk (ad (dv 8) am aa)))))))))) (aF (bJ (af cU)))))))))))
   (aF (bJ (af cU))))))),?_⟩
 intro ke;have TL:=z.len;have hz:∀r∈T,Szd m (2^50000) r:=λr p=>(z.size hT r p).mono (Kq 'b' ());refine⟨_,S,?_⟩;rfl';refine⟨λρ=>ρ=iY g (j++[.tup [.str "shut",.int (a:Nat)]]) m g ŕ ŕ ŕ ŕ,⟨ŗ,fT _,ff,λ_=>?_⟩,?_⟩
 ·change _=_;rfl
 rintro ρ rfl;refine⟨λi ρ=>i<=j.length/\∃a_ U u C:Ŗ Sm,ρ=iY g (j++[.tup [.str "shut",.int (a:Nat)]]) m (T.take (g.length+i)) a_ U u C,⟨(),ŕ,ŕ,ŕ,ŕ,?_⟩,?_,?_⟩
 ·change iY _ _ _ _ _ _ _ _=iY _ _ _ (T.take g.length) _ _ _ _;rw[z.take0]
 ·rintro i d ρ hd ⟨Q,a_,U,u,C,rfl⟩;let⟨x,B,rfl⟩:=fZ hd;refine⟨S,?_⟩;by_cases c:i<j.length
  ·rw[Ip c]at B;let⟨sh,J,r,rfl,hc,p,h9,UR,hw⟩:=z.at_ B;have L:T.take (g.length+(i+1))=T.take (g.length+i)++[r]:=gG p;have M:∀r∈T.take (g.length+i),Szd m (2^50000) r:=λr p=>hz r (L0 p)
   have hTi:(T.take (g.length+i)).length<=900:=by rw[Jv];omega
   generalize T.take (g.length+i)=y at *;refine⟨λρ=>ρ=iY g (j++[.tup [.str "shut",.int (a:Nat)]]) m y (Z (.v (.int (i:Nat)))) (Z (.v (cL (gK sh) J))) u C,⟨ŗ,fT _,ff,λ_=>⟨ff,λ_=>⟨ff,λ_=>?_⟩⟩⟩,?_⟩
   ·change _=_;rfl
   rintro ρ rfl;refine⟨_,S,λh=>absurd h 'a',λ_=>⟨ff,λ_=>?_⟩⟩;refine⟨_,_,m,S,ff,λ_=>?_⟩;refine⟨_,S,λ_=>⟨λ_=>?_,tf⟩,λh=>absurd h 'a'⟩;refine⟨_,S,_,S,m,y,sh,J,r,S,hc,h9,O,UR,hw,M,?_⟩;rfl';refine⟨λρ=>ρ=iY g (j++[.tup [.str "shut",.int (a:Nat)]]) m y (Z (.v (.int (i:Nat)))) (Z (.v (cL (gK sh) J))) u (Z (.v (ax r))),⟨ff,λ_=>?_⟩,?_⟩
   ·change _=_;rfl
   rintro ρ rfl;rw[L];refine⟨?_,(y++[r]).map ax,?_,(),_,_,_,_,S⟩
   ·rw[Il];show gj (by change _+1<=1000;omega)
   ·rw[JB];rfl
  ·have e:i=j.length:=by omega
   subst e;rw[Im (Iu _),Je]at B;cases B;rw[←TL,JR];refine⟨λρ=>ρ=iY g (j++[.tup [.str "shut",.int (a:Nat)]]) m T (Z (.v (.int (j.length:Nat)))) (Z (.v (.tup [.str "shut",.int (a:Nat)]))) u C,⟨ŗ,fT _,ff,λ_=>⟨ff,λ_=>⟨ff,λ_=>?_⟩⟩⟩,?_⟩
   ·change _=_;rfl
   rintro ρ rfl;refine⟨_,S,λ_=>⟨λ_=>⟨_,S,m,T,a,b,S,ha,O,hb,λ_=>?_,tf⟩,tf⟩,λh=>absurd h 'a'⟩;refine⟨λ_=>False,⟨λ_=>?_,tf⟩,λρ h=>h.elim⟩;change R (Sm.v (D.bl (((j.length:Nat):Int)==(((j++[D.tup [D.str "shut",D.int (a:Nat)]]).length:Nat):Int)-1))) []
   have e:(((j.length:Nat):Int)==(((j++[D.tup [D.str "shut",D.int (a:Nat)]]).length:Nat):Int)-1)=ŗ:=by rw[Io,IX];show Ld.mpr ()
   rw[e];show q
 ·rintro ρ ⟨Q,_⟩;rw[eG,Io,IX]at Q;omega
inductive y__law_beyond(as:List Sm)(R:Sm->List Om->Prop)(Rx:XD->List Om->Prop):Prop|mk (a:Option Addr) (o:Om) (m:Nat) (_:as=[.ob a o]) (_:Pl m o) (_:m+2<2^20) (_:∀(x:Int)(o':Om),1<=x->x<=10^20->Pl (m+2) o'->R (.v (.int x)) [o'])
theorem tL{z:Int}(h:z<2^200):z<2^9000:=by
 have a:(2:Int)^200<=2^9000:=by lia
 omega
theorem wL(F:Fun K "_law_beyond" "_law_beyond" lB f G)(c:ClM P w K mg base n "_law_draw" ["_law_pool_here","_law_many"] y__law_draw):FnOk P w K mg base aN (n+1) f G ["_law_pool_here"] (lSpM K y__law_beyond):=by
 refine F.okM C9 (λas R u h=>?_) (λB A outer s H E as R u O C e h l=>?_)
 ·let⟨a,o,m,rfl,_⟩:=h;rfl
 let⟨a,o,m,rfl,y,I,q⟩:=h;let⟨N,rfl⟩:=dq l;refine⟨_,(aF (bJ (cz bI (af ah) (cz cr (bi c e S (bo 0 (ay (af ah) aS aL) aa) aa (ar aL ae)) (bi c e S (bo 0 (ay (af (aO lD (PD.q ah) (PD.q ah))) aS bO) aa) aa (ar bO ae)))))),?_⟩;intro L;refine⟨⟨_,_,S⟩,_,S,S,_,_,2,_,S,y,(),'b',bN 'b',λx M U T p=>?_⟩;rfl';refine⟨⟨_,_,S⟩,⟨'b','b','b'⟩,_,S,S,_,_,_,_,S,p,(),(by change (0:Int)<10^20;decide),tL (by change (10:Int)^20<2^200;decide),λv j Q z r=>?_⟩;rfl';have J:v<10^20:=z;refine⟨eM () (),?_⟩
 have g:x=0\/x=1:=by omega
 refine⟨j,S,q (1+x*v) j ?_ ?_ r⟩
 ·rcases g with rfl|rfl<;>omega
 ·rcases g with rfl|rfl<;>omega
structure PlM(n:Nat)(mn:Int)(bs:List Bd)(rs:List ag)(gs sp:List Int):Prop where
 b:bs.length=n/\∀b∈bs,b.1.natAbs<=5/\∀m,b.2=Z m->m.natAbs<=2^70
 r:∀r∈rs,r.1.length=n/\(∀x∈r.1,x.natAbs<=4)/\r.2.natAbs<=2^72
 rl:(rs.length:Int)<=mn
 gl:gs.length=n
 g:∀g∈gs,g.natAbs<=2
 sl:sp.length=n
 s:∀x∈sp,x.natAbs<=10
theorem PlS.mid{n:Nat}{g:Int}{bs:Y Bd}{rs:Y ag}{gs sp:Y Int}(h:PlS n g bs rs gs sp):PlM n g bs rs gs sp:=by
 have e:(8:Nat)<=2^70:=by decide
 have j:(400:Nat)<=2^72:=by decide
 show⟨⟨h.b.1,λb c=>⟨(h.b.2 b c).1,λm l=>IU ((h.b.2 b c).2 m l) e⟩⟩,λr a=>⟨(h.r r a).1,λx o=>IU ((h.r r a).2.1 x o) 'b',IU (h.r r a).2.2 j⟩,h.rl,h.gl,h.g,h.sl,h.s⟩
inductive y__law_crossed(as:List Sm)(R:Sm->List Om->Prop)(Rx:XD->List Om->Prop):Prop|mk (a:Option Addr) (o:Om) (n m:Nat) (mn:Int) (bs:List Bd) (rs:List ag) (gs sp:List Int) (_:as=[.ob a o,.v (b8 bs rs gs)]) (_:Pl m o) (_:m+3<2^20) (_:n<=8) (_:0<n) (_:PlS n mn bs rs gs sp) (_:∀(Qk:List Bd)(o':Om)(u:Nat),PlM n mn Qk rs gs sp->u<n->eR Qk u=ŗ->Pl (m+3) o'->R (.v (b8 Qk rs gs)) [o'])
theorem yq(F:Fun K "_law_crossed" "_law_crossed" nV f G)(y:ClM P w K mg base n "_law_draw" ["_law_pool_here","_law_many"] y__law_draw)(B:ClM P w K mg base n "_law_beyond" ["_law_pool_here"] y__law_beyond)(a_:mg "list"=ŕ)(Q:mg "len"=ŕ)(O:mg "tuple"=ŕ):FnOk P w K mg base aN (n+1) f G ["_law_pool_here","_law_plan"] (lSpM K y__law_crossed):=by
 refine F.okM qah (λas R L h=>?_) (λM5 A outer s H E as R L qs M9 r h z=>?_)
 ·let⟨a,o,k,m,X,bs,rs,gs,sp,rfl,_⟩:=h;rfl
 let⟨a,o,k,m,X,bs,rs,gs,sp,rfl,U,p,hk,h0,c,q⟩:=h;let⟨pa,rfl⟩:=dq z
 refine⟨_,(ao (aB (i:=2) qah.nd S VF (dS (jB S a_ (PD.q (au (ac 1))) aC)))
   (ao (aB (i:=3) qah.nd S VF (bi y r S (bo 0 (ay (af (bu bU S Q IV (aH (ac 2) aM aa) aa ae)) aS bj) aa) aa (ar bj ae)))
   (ao (lr 2 (kA (ay (af (au (PD.q (bv (ac 2) (ac 3) (λ_ _=>rfl))))) (ay (cz cV (af (au (PD.q (bv (ac 2) (ac 3) (λ_ _=>rfl))))) (bi B r S (bo 0 aS aa) aa ae)) aS bO) aC)) (af (dv 3)))
   (aF (bJ (af (bw (ad (bT cu S O IB (aH (ac 2) aM aa) aa ae) (ad (au (ac 1)) (ad (au (ac 1)) am aC) aC) bj)))))))),?_⟩
 intro ke;have J:=c.b.1;refine⟨_,S,_,S,?_⟩;refine⟨⟨_,_,S⟩,_,S,S,_,_,((bs.map aT).length:Nat),_,S,U,(),by rw[Il];omega,bN (by rw[Il];omega),λx o1 be b_ C=>?_⟩;rfl';rw[Il]at b_;let⟨u,rfl⟩:=Ka be
 have g:u<bs.length:=by omega
 refine⟨_,eP g S,_,S,?_⟩;refine⟨_,eP g S,_,S,?_⟩;refine⟨⟨_,_,S⟩,_,S,S,_,_,_,S,C,(),λb v b0 b1 I=>?_⟩;rfl';have M:ap bs u∈bs:=cD g;have N:=(c.b.2 _ M).1;refine⟨u,eZ (by rw[Il];show g),(bs.set u ((ap bs u).1,Z ((ap bs u).1-b))).map aT,(KD (f:=aT) (l:=bs) (i:=u) (a:=((ap bs u).1,Z ((ap bs u).1-b)))).symm,?_⟩;rfl';refine⟨_,S,_,S,?_⟩
 have T:(10:Nat)^20+5<=2^70:=by decide
 refine⟨v,S,q (bs.set u ((ap bs u).1,Z ((ap bs u).1-b))) v u ⟨⟨by rw[Iv];show J,λx j=>?_⟩,c.mid.r,c.rl,c.gl,c.g,c.sl,c.s⟩ () ?_ (I.mono ())⟩
 ·rcases KR j with j|rfl
  ·show c.mid.b.2 x j
  ·refine⟨N,λm p=>?_⟩;have:(ap bs u).1-b=m:=Jf p;omega
 ·unfold eR;have e:ap (bs.set u ((ap bs u).1,Z ((ap bs u).1-b))) u=((ap bs u).1,Z ((ap bs u).1-b)):=cq (IS g);rw[e];show Jh ()
inductive y__law_put(as:List Sm)(R:Sm->List Om->Prop)(Rx:XD->List Om->Prop):Prop|mk (a:Option Addr) (o:Om) (n m:Nat) (mn:Int) (bs:List Bd) (rs:List ag) (gs sp:List Int) (r:ag) (_:as=[.ob a o,.v (b8 bs rs gs),.v (ax r)]) (_:Pl m o) (_:m+1<2^20) (_:n<=8) (_:mn<=14) (_:PlM n mn bs rs gs sp) (_:(r.1.length=n/\(∀x∈r.1,x.natAbs<=4)/\r.2.natAbs<=2^72)) (_:∀(Ny:List ag)(o':Om),PlM n (mn+1) bs Ny gs sp->r∈Ny->Pl (m+1) o'->R (.v (b8 bs Ny gs)) [o'])
theorem A3(F:Fun K "_law_put" "_law_put" nB f G)(p:ClM P w K mg base n "_law_draw" ["_law_pool_here","_law_many"] y__law_draw)(C:mg "len"=ŕ):FnOk P w K mg base aN (n+1) f G ["_law_pool_here","_law_plan","_law_row"] (lSpM K y__law_put):=by
 refine F.okM qaq (λas R B h=>?_) (λO A outer s H E as R B qs Q J h v=>?_)
 ·let⟨a,o,k,m,L,bs,rs,gs,sp,r,rfl,_⟩:=h;rfl
 let⟨a,o,k,m,L,bs,rs,gs,sp,r,rfl,I,X,U,T,e,y,q⟩:=h;let⟨pa,rfl⟩:=dq v
 refine⟨_,(ao (aB (i:=3) qaq.nd S VF (bi p J S (bo 0 (ay (af (aO bI (PD.q (bu bU S C IV (aH (PD.q (au (ac 1))) aM aC) aC ae)) (PD.q ah))) aS bO) aa) aa (ar bO ae)))
   (aF (bJ (af (bw (ad (au (ac 1)) (ad (aO bI (PD.q (aO bI (PD.q (kT (PD.q (au (ac 1))) kB (jV (ac 3)))) (PD.q (bw (ad (dv 2) am aa))))) (PD.q (kT (PD.q (au (ac 1))) (jV (ac 3)) kB))) (ad (au (ac 1)) am aC) bO) aC)))))),?_⟩
 intro b_;have a_:=e.rl;refine⟨⟨_,_,S⟩,_,S,?_⟩;refine⟨_,S,S,_,_,((rs.map ax).length:Nat)+1,_,S,I,(),(),bN (by rw[Il];omega),λx l M N z=>?_⟩;rfl';rw[Il]at N;let⟨u,rfl⟩:=Ka M
 have be:u<=rs.length:=by omega
 have g:cN (rs.map ax) ŕ (Z ((u:Nat):Int))=(rs.take u).map ax:=by rw[pA,xb]
 have j:cN (rs.map ax) (Z ((u:Nat):Int)) ŕ=(rs.drop u).map ax:=by rw[pA,Cp]
 refine⟨_,S,_,S,_,g,?_⟩;refine⟨?_,(rs.take u++[r]).map ax,?_,_,S,_,j,?_,(rs.take u++[r]++rs.drop u).map ax,?_,_,S,?_⟩
 ·rw[Il,Jv];show gj (by change _+1<=1000;omega)
 ·rw[JB];rfl
 ·rw[Il,Il,Io,Jv,Ke,IX];show gj ()
 ·show (JB (l₁:=rs.take u++[r]) (l₂:=rs.drop u)).symm
 refine⟨l,S,q (rs.take u++[r]++rs.drop u) l ⟨e.b,λx c=>?_,?_,e.gl,e.g,e.sl,e.s⟩ (J5 _ (Jo _ Iy)) z⟩
 ·rcases IZ.mp c with c|c
  ·rcases IZ.mp c with c|c
   ·show e.r x (L0 c)
   ·rw[Iz.mp c];show y
  ·show e.r x (List.mem_of_mem_drop c)
 ·rw[Io,Io,Jv,Ke,IX];omega
inductive y__law_lost(as:List Sm)(R:Sm->List Om->Prop)(Rx:XD->List Om->Prop):Prop|mk (a:Option Addr) (o:Om) (n m:Nat) (mn:Int) (bs:List Bd) (rs:List ag) (gs sp:List Int) (_:as=[.ob a o,.v (b8 bs rs gs)]) (_:Pl m o) (_:m+50<2^20) (_:n<=8) (_:mn<=13) (_:PlS n mn bs rs gs sp) (_:∀(Ny:List ag)(o':Om)(r:ag),PlM n (mn+1) bs Ny gs sp->r∈Ny->dg bs r=ŗ->Pl (m+50) o'->R (.v (b8 bs Ny gs)) [o'])
noncomputable abbrev sA(a:Addr)(o:Om)(pl:D)(es:Y Int)(t:Int)(c e g:Ŗ Sm):ak:=[Z (.ob (Z a) o),Z (.v pl),Z (.own (es.map D.int)),Z (.v (.int t)),c,e,g]
theorem CB{bs:Y Bd}{es:Y Int}{i:Nat}{b:Bd}{e:Int}(c:bs[i]?=Z b)(l:es.length=i)(g:dD (bs.take i) es=ŗ)(h:c9 b e=ŗ):dD (bs.take (i+1)) (es++[e])=ŗ/\(List.zipWith bF (bs.take (i+1)) (es++[e])).sum=(List.zipWith bF (bs.take i) es).sum+bF b e:=by
 have j:=az c
 have a:(bs.take i).length=es.length:=by rw[Jv];omega
 unfold dD at *;rw[gG c,Lh a,Lh a,List.all_append,K2,g];refine⟨?_,?_⟩
 ·change (ŗ&&(c9 b e&&ŗ))=ŗ;rw[h];rfl
 ·change _+(bF b e+0)=_;rw[La]
theorem EV(F:Fun K "_law_lost" "_law_lost" mD f G)(Nu:ClM P w K mg base n "_law_put" ["_law_pool_here","_law_plan","_law_row"] y__law_put)(be:ClM P w K mg base n "_law_draw" ["_law_pool_here","_law_many"] y__law_draw)(Np:ClM P w K mg base n "_law_beyond" ["_law_pool_here"] y__law_beyond)(aP:mg "tuple"=ŕ)(ga:mg "abs"=ŕ)(iA:mg "max"=ŕ)(rF:mg "min"=ŕ):FnOk P w K mg base aN (n+1) f G ["_law_pool_here","_law_plan"] (lSpM K y__law_lost):=by
 refine F.okM qan (λas R Rx h=>?_) (λM5 A outer s H E as R Rx qs M9 C h b_=>?_)
 ·let⟨a,o,k,m,T,bs,rs,gs,sp,rfl,_⟩:=h;rfl
 let⟨a,o,k,m,T,bs,rs,gs,sp,rfl,hp,hm,hk,SI,z,q⟩:=h;let⟨X,rfl⟩:=dq b_
 refine⟨_,(ao (aB (i:=2) qan.nd S VF (dS (dk am)))
   (ao (aB (i:=3) qan.nd S VF (af ah))
   (ao (fq IW S (fM (ca (au (ac 1)))) (hX (n:=2) S (dN (cE (i:=4) qan.nd S VF) (dN (cE (i:=5) qan.nd S VF) gR))) (ao (aB (i:=6) qan.nd S VF (cz cV (bi be C S (bo 0 (ay (af ah) aS aL) aa) aa (ar aL ae)) (af ah)))
   (bR (bB (bx (aG gy (ac 5) (PD.q bt) (aw _))) (ao (aB (i:=6) qan.nd S VF (af (cQ (PD.q (bu kP S ga KI (aH (ac 6) aM aa) aa ae)))))
   (aF (aB (i:=5) qan.nd S VF (af (dv 4))))) bP)
   (ao (fk 2 (af (dv 6)) (dA aa) aa)
   (aF (AA 3 tj qan.nd S VF (af (aO bI (PD.q (aO cr (PD.q (bu (pM S) S iA LP (aH (ac 6) (aH (PD.q ah) aM aL) aa) aa (ar aL ae))) (ac 5))) (PD.q (aO cr (PD.q (bu (CY S) S rF PyProof.Rows.boot_min (aH (ac 6) (aH (PD.q ah) aM aL) aa) aa (ar aL ae))) (ac 4)))))))))))
   (aF (bJ (bi Nu C S (bo 0 (ay (af (dv 1)) (ay (kA (ay (af (bT cu S aP IB (aH (ac 2) aM aa) aa ae)) (ay (cz bI (af (dv 3)) (bi Np C S (bo 0 aS aa) aa ae)) aS bO) bj)) aS bC) aa) aa) aa (ar aa (ar bC ae)))))))),?_⟩
 intro ke;have QU:=z.b.1;refine⟨_,S,?_⟩;refine⟨λi ρ=>∃(es:Y Int)(o':Om)(J L M:Ŗ Sm),ρ=sA X o' (b8 bs rs gs) es (List.zipWith bF (bs.take i) es).sum J L M/\es.length=i/\(∀x∈es,x.natAbs<=4)/\dD (bs.take i) es=ŗ/\(List.zipWith bF (bs.take i) es).sum.natAbs<=100*i/\Pl (m+i) o',⟨[],o,_,_,_,S,S,λx hx=>(by cases hx),S,Iu 0,hp⟩,?_,?_⟩
 ·rintro i d ρ hd ⟨es,o1,J,L,M,rfl,p,B,g,hsz,j⟩;let⟨b,rfl,u⟩:=cg hd;have O8:=az u;let⟨c1,c2⟩:=z.b.2 b (ID u);refine⟨S,?_⟩;refine⟨⟨_,_,S⟩,_,S,S,_,_,9,_,S,j,(),'b',bN 'b',λx I x0 x1 r=>?_⟩;rfl';refine⟨λρ=>∃(y e:Int),ρ=sA X I (b8 bs rs gs) es (List.zipWith bF (bs.take i) es).sum (Z (.v (.int b.1))) (Z (.v (.int e))) (Z (.v (.int y)))/\y.natAbs<=4/\e.natAbs<=8/\c9 b y=ŗ/\bF b y=(if y<0 then 0 else y)*e+(if 0<y then 0 else y)*b.1,?_,?_⟩
  ·let⟨l,mm⟩:=b
   cases mm with
   |none=>
    refine⟨λ_=>?_,tf⟩;refine⟨-(if x-4<0 then -(x-4) else x-4),l,S,by split<;>omega,(),?_,?_⟩
    ·unfold c9;rw[Jb (by split<;>omega)];rfl
    ·unfold bF
     have Q:¬ 0 < -(if x-4<0 then -(x-4) else x-4):=by split<;>omega
     generalize -(if x-4<0 then -(x-4) else x-4)=y at *;rw[Ir Q,Ir Q];by_cases c:y<0
     ·rw[Iw c,Iw c];change y*l=0*l+y*l;rw[Lc,Jt]
     ·have:y=0:=by omega
      subst this;simp
   |some mm=>
    refine⟨ff,λ_=>⟨x-4,mm,S,(),c2 mm S,?_,?_⟩⟩
    ·unfold c9;change (!(_&&Ř))=ŗ;rw[Ki];rfl
    ·generalize x-4=y;unfold bF;by_cases c:0<y
     ·rw[Iw c,Iw c,Ir (show ¬ y<0 by omega),Lc,La];rfl
     ·by_cases O:y<0
      ·rw[Ir c,Ir c,Iw O,Iw O,Lc,Jt]
      ·have:y=0:=by omega
       subst this;simp
  rintro ρ ⟨y,e,rfl,hy,SA,hK,a_⟩;refine⟨by rw[Il];show br (),_,gp D.int es y,?_⟩;rfl';let⟨n1,n2⟩:=CB u p g hK
  have Th:(bF b y).natAbs<=100:=by
   rw[a_]
   have a1:((if y<0 then 0 else y)*e).natAbs<=4*8:=by rw[J6];show Kg (by split<;>omega) SA
   have a2:((if 0<y then 0 else y)*b.1).natAbs<=4*5:=by rw[J6];show Kg (by split<;>omega) c1
   omega
  have v:-(2^64)<(if (0:Int)>y then 0 else y)/\(if (0:Int)>y then 0 else y)<2^64:=by split<;>omega
  have N:-(2^64)<(if (0:Int)<y then 0 else y)/\(if (0:Int)<y then 0 else y)<2^64:=by split<;>omega
  refine⟨eM v.1 v.2,eM N.1 N.2,es++[y],I,Z (.v (.int b.1)),Z (.v (.int e)),Z (.v (.int y)),?_,by rw[Io,p];rfl,fu B hy,n1,?_,r.mono ()⟩
  ·rw[n2,a_];rfl
  ·rw[n2];omega
 rintro ρ ⟨es,o1,J,L,M,rfl,p,B,g,hsz,j⟩;rw[Il]at p g hsz j ⊢;rw[JR]at g hsz ⊢;refine⟨⟨_,_,S⟩,⟨_,_,S⟩,_,S,S,_,_,_,S,j,(),λb I b0 v r=>?_⟩;rfl'
 have e72:(10:Nat)^20+1000<=2^72:=by decide
 have hbn:b.natAbs<=10^20:=by omega
 refine⟨_,S,S,_,_,k,_,T,bs,rs,gs,sp,(es,(List.zipWith bF bs es).sum+b),S,r,(),hk,(),z.mid,⟨by change es.length=k;omega,B,by change ((List.zipWith bF bs es).sum+b).natAbs<=_;omega⟩,λNy U hM Oz OA=>?_⟩;refine⟨U,S,q Ny U _ hM Oz ?_ (OA.mono ())⟩;unfold dg eX;change (match (if dD bs es then Z (List.zipWith bF bs es).sum else ŕ)with|some t=>decide (t<(List.zipWith bF bs es).sum+b)|none=>Ř)=ŗ;rw[Iw g];show Jh ()
inductive y__law_two_rows(as:List Sm)(R:Sm->List Om->Prop)(Rx:XD->List Om->Prop):Prop|mk (a:Option Addr) (o:Om) (n m:Nat) (mn:Int) (bs:List Bd) (rs:List ag) (gs sp:List Int) (_:as=[.ob a o,.v (b8 bs rs gs)]) (_:Pl m o) (_:m+50<2^20) (_:n<=8) (_:0<n) (_:mn<=12) (_:PlS n mn bs rs gs sp) (_:∀(Ny:List ag)(o':Om),PlM n (mn+2) bs Ny gs sp->Pl (m+50) o'->R (.v (b8 bs Ny gs)) [o'])
theorem GG(F:Fun K "_law_two_rows" "_law_two_rows" jK f G)(l:ClM P w K mg base n "_law_draw" ["_law_pool_here","_law_many"] y__law_draw)(L:ClM P w K mg base n "_law_put" ["_law_pool_here","_law_plan","_law_row"] y__law_put)(aV:mg "len"=ŕ)(M:mg "tuple"=ŕ)(a_:mg "int"=ŕ)(O:mg "range"=ŕ):FnOk P w K mg base aN (n+1) f G ["_law_pool_here","_law_plan"] (lSpM K y__law_two_rows):=by
 refine F.okM qat (λas R Rx h=>?_) (λM5 A outer s H E as R Rx qs M9 g h Nh=>?_)
 ·let⟨a,o,k,m,I,bs,rs,gs,sp,rfl,_⟩:=h;rfl
 let⟨a,o,k,m,I,bs,rs,gs,sp,rfl,hp,hm,T,h0,SI,C,q⟩:=h;let⟨pa,rfl⟩:=dq Nh
 refine⟨_,(ao (aB (i:=2) qat.nd S VF (af (bu bU S aV IV (aH (PD.q (au (ac 1))) aM aC) aC ae)))
   (ao (aB (i:=3) qat.nd S (Þ S) (bi l g S (bo 0 (ay (af (dv 2)) aS aa) aa) aa (ar aa ae)))
   (ao (aB (i:=4) qat.nd S VF (cz bI (af (au (PD.q (bv (PD.q (au (ac 1))) (ac 3) (λ_ _=>rfl))))) (bi l g S (bo 0 (ay (af ah) aS aL) aa) aa (ar aL ae))))
   (ao (aB (i:=5) qat.nd S (Þ S) (cz bI (af ah) (bi l g S (bo 0 (ay (af ah) aS aL) aa) aa (ar aL ae))))
   (ao (aB (i:=6) qat.nd S (Þ S) (cz bI (af ah) (bi l g S (bo 0 (ay (af ah) aS aL) aa) aa (ar aL ae))))
   (ao (aB (i:=7) qat.nd S VF (af (bT cu S M IB (aH (PD.q (PF.d (dG (k:=1) (N':=["_law_k","_law_one","_law_at"]) (cap:=[ŕ,Z 5,Z 3]) S (.ok (show bX ["_law_pool_here","_law_plan","_law_count","_law_at","_law_number","_law_one","_law_other","_law_entries"] (av jK) _ ["_law_k","_law_one","_law_at"] [ŕ,Z 5,Z 3]=ŗ by lia)) 'a' (bM 'b') (ix S O (ad (dv 2) am aa)) (λ_ _ _ _ _=>(bc (i:=0) (show List.Nodup (["_law_k","_law_one","_law_at"]:Y Str)by lia) S VF)) (λ_ _ _ _ _=>(aO cr (ac 1) (PD.q (bT kQ S a_ Kj (aH (PD.q (dQ (cp g.units) (ac 0) (ac 2) (aw _))) aM gU) gU ae))))))) aM bD) bD ae)))
   (ao (aB (i:=1) qat.nd S VF (bi L g S (bo 0 (ay (af (dv 1)) (ay (kA (ay (af (dv 7)) (ay (cz cV (af (aO cr (ac 5) (ac 4))) (bi l g S (bo 0 (ay (af (dv 5)) aS aa) aa) aa (ar aa ae))) aS bO) aa)) aS bC) aa) aa) aa (ar aa (ar bC ae))))
   (ao (aB (i:=7) qat.nd S VF (af (bT cu S M IB (aH (PD.q (PF.d (dG (k:=1) (N':=["_law_k","_law_other","_law_at"]) (cap:=[ŕ,Z 6,Z 3]) S (.ok (show bX ["_law_pool_here","_law_plan","_law_count","_law_at","_law_number","_law_one","_law_other","_law_entries"] (av jK) _ ["_law_k","_law_other","_law_at"] [ŕ,Z 6,Z 3]=ŗ by lia)) 'a' (bM 'b') (ix S O (ad (dv 2) am aa)) (λ_ _ _ _ _=>(bc (i:=0) (show List.Nodup (["_law_k","_law_other","_law_at"]:Y Str)by lia) S VF)) (λ_ _ _ _ _=>(aO cr (PD.q (cQ (ac 1))) (PD.q (bT kQ S a_ Kj (aH (PD.q (dQ (cp g.units) (ac 0) (ac 2) (aw _))) aM gU) gU ae))))))) aM bD) bD ae)))
   (aF (bJ (bi L g S (bo 0 (ay (af (dv 1)) (ay (kA (ay (af (dv 7)) (ay (cz cV (af (aO cr (ac 6) (PD.q (aO cV (PD.q ah) (ac 4))))) (bi l g S (bo 0 (ay (af (dv 6)) aS aa) aa) aa (ar aa ae))) aS bO) aa)) aS bC) aa) aa) aa (ar aa (ar bC ae))))))))))))),?_⟩
 intro ke;have QU:=C.b.1;refine⟨_,S,?_⟩;refine⟨⟨_,_,S⟩,_,S,S,_,_,((bs.map aT).length:Nat),_,S,hp,(),by rw[Il];omega,bN (by rw[Il];omega),λx o1 x0 x1 Nv=>?_⟩;rfl';rw[Il]at x1;let⟨u,rfl⟩:=Ka x0
 have U:u<bs.length:=by omega
 have Vj:=(C.b.2 _ (cD (d:=((0:Int),(ŕ:Ŗ Int))) U)).1;refine⟨_,S,_,eP U S,_,S,?_⟩;refine⟨⟨_,_,S⟩,_,S,S,_,_,3,_,S,Nv,(),'b',bN 'b',λy o2 y0 y1 Nz=>?_⟩;rfl';refine⟨⟨_,_,S⟩,_,S,S,_,_,4,_,S,Nz,(),'b',bN 'b',λc o3 c0 c1 OA=>?_⟩;rfl';refine⟨⟨_,_,S⟩,_,S,S,_,_,4,_,S,OA,(),'b',bN 'b',λe o4 e0 e1 NV=>?_⟩;rfl'
 have p:∀w:Int,w.natAbs<=4->((List.range ((((bs.map aT).length:Nat):Int)).toNat).map λi=>w*(if ((0+((i:Nat):Int))==((u:Nat):Int)) then 1 else 0)).length=k/\∀x∈(List.range ((((bs.map aT).length:Nat):Int)).toNat).map λi=>w*(if ((0+((i:Nat):Int))==((u:Nat):Int)) then (1:Int) else 0),x.natAbs<=4:=λw hw=>by
  refine⟨by rw[Il,IF,Il,JO];show QU,λx hx=>?_⟩;let⟨i,_,rfl⟩:=I0.mp hx;split<;>omega
 refine⟨⟨(),by rw[Il];omega⟩,?_⟩;refine jS (λi=>D.int ((1+c)*(if ((0+((i:Nat):Int))==((u:Nat):Int)) then 1 else 0))) (br (by rw[Il];omega)) (λi hi=>⟨eM () (),S⟩) ?_
 have Q:∀w:Int,(List.range ((((bs.map aT).length:Nat):Int)).toNat).map (λi=>D.int (w*(if ((0+((i:Nat):Int))==((u:Nat):Int)) then 1 else 0)))=((List.range ((((bs.map aT).length:Nat):Int)).toNat).map λi=>w*(if ((0+((i:Nat):Int))==((u:Nat):Int)) then (1:Int) else 0)).map D.int:=λw=>by rw[Jw];rfl
 have hN:((ap bs u).1+y).natAbs<=7:=by have:(ap bs u).1.natAbs<=5:=Vj;omega
 generalize (ap bs u).1+y=N at *
 have j:∀(w v z:Int),1<=w->w<=4->v.natAbs<=8->0<=z->z<w->(w*v-z).natAbs<=2^72:=λw v z be b_ hv z0 z1=>by
  have h1:(w*v).natAbs<=4*8:=by rw[J6];show Kg () hv
  have h2:(100:Nat)<=2^72:=by decide
  omega
 rw[Q];let⟨l1,m1⟩:=p (1+c) ();generalize ((List.range ((((bs.map aT).length:Nat):Int)).toNat).map λi=>(1+c)*(if ((0+((i:Nat):Int))==((u:Nat):Int)) then (1:Int) else 0))=E1 at *;rfl';refine⟨⟨_,_,S⟩,eM () (),⟨_,_,S⟩,_,S,S,_,_,1+c,_,S,NV,(),(),bN (),λw o5 be b_ Og=>?_⟩;rfl';refine⟨_,S,S,_,_,k,_,I,bs,rs,gs,sp,(E1,(1+c)*N-w),S,Og,(),T,(),C.mid,⟨l1,m1,j _ _ _ () () () be b_⟩,λSJ o6 B _ P8=>?_⟩;rfl';refine⟨⟨(),by rw[Il];omega⟩,?_⟩;refine jS (λi=>D.int (-(1+e)*(if ((0+((i:Nat):Int))==((u:Nat):Int)) then 1 else 0))) (br (by rw[Il];omega)) (λi hi=>⟨eM () (),S⟩) ?_;rw[Q];let⟨l2,m2⟩:=p (-(1+e)) ();generalize ((List.range ((((bs.map aT).length:Nat):Int)).toNat).map λi=>-(1+e)*(if ((0+((i:Nat):Int))==((u:Nat):Int)) then (1:Int) else 0))=E2 at *;rfl';refine⟨⟨_,_,S⟩,eM () (),⟨_,_,S⟩,_,S,S,_,_,1+e,_,S,P8,(),(),bN (),λz o7 z0 z1 Ru=>?_⟩;rfl';refine⟨_,S,S,_,_,k,_,I+1,bs,SJ,gs,sp,(E2,(1+e)*(1-N)-z),S,Ru,(),T,(),B,⟨l2,m2,j _ _ _ () () () z0 z1⟩,λJ X r _ Vb=>?_⟩;show⟨X,S,q J X (by rw[Int.add_assoc]at r;show r) (Vb.mono ())⟩
inductive y__law_far(as:List Sm)(R:Sm->List Om->Prop)(Rx:XD->List Om->Prop):Prop|mk (a:Option Addr) (o:Om) (n m:Nat) (mn:Int) (bs:List Bd) (rs:List ag) (gs sp:List Int) (_:as=[.ob a o,.v (b8 bs rs gs),.v (.tup (sp.map D.int))]) (_:Pl m o) (_:m+100<2^20) (_:n<=8) (_:mn<=14) (_:PlM n mn bs rs gs sp) (_:∀(Qk:List Bd)(Ny:List ag)(Td:List Int)(o':Om),PlOk n Qk Ny gs->(∀u,u<n->eR bs u=ŗ->eR Qk u=ŗ)->(∀r∈rs,dg bs r=ŗ->∃r'∈Ny,dg Qk r'=ŗ)->Pl (m+100) o'->R (.v (.tup [b8 Qk Ny gs,.tup (Td.map D.int)])) [o'])
noncomputable def eE(b:Bd)(x:Int):Bd:=(b.1+x,b.2.map (·+x))
theorem AY{bs:Y Bd}{sh:Y Int}{u:Nat}(a:u<bs.length)(c:sh.length=bs.length):ap (List.zipWith eE bs sh) u=eE (ap bs u) (sh.getD u 0):=by refine cq ?_;rw[KH,ce (d:=((0:Int),(ŕ:Ŗ Int))) a,ce (d:=(0:Int)) (show u<sh.length by omega)];rfl
theorem wT{bs:Y Bd}{sh:Y Int}{u:Nat}(c:u<bs.length)(a:sh.length=bs.length)(h:eR bs u=ŗ):eR (List.zipWith eE bs sh) u=ŗ:=by
 unfold eR at *;rw[AY c a];generalize ap bs u=b at *;let⟨l,e⟩:=b
 cases e with
 |none=>cases h
 |some mm=>
  have g:mm<l:=Jd h;show Jh (show mm+_<l+_ by omega)
theorem Dl{b:Bd}{e x f:Int}(j:1<=f)(g:c9 b e=ŗ):c9 (eE b x) (e*f)=ŗ/\bF (eE b x) (e*f)=(bF b e+e*x)*f:=by
 let⟨l,h⟩:=b;rcases Int.lt_trichotomy e 0 with c|rfl|c
 ·have a:e*f<0:=Int.mul_neg_of_neg_of_pos c ();unfold c9 bF eE;rw[Ir (show ¬ 0<e*f by omega),Iw a,Ir (show ¬ 0<e by omega),Iw c,Jb (show ¬ 0<e*f by omega)];refine⟨S,?_⟩;change e*f*(l+x)=(e*l+e*x)*f;rw[←Int.mul_add,LH,LH,Int.mul_comm f]
 ·rw[Lc,Lc];unfold c9 bF;rw[Ir 'b',Ir 'b',Ir 'b',Ir 'b'];show⟨S,by rw[La,Lc]⟩
 ·have a:0<e*f:=Int.mul_pos c ();unfold c9 at g;rw[Jh c]at g
  cases h with
  |none=>cases g
  |some mm=>
   unfold c9 bF eE;rw[Iw a,Iw c];refine⟨by change (!(_&&Ř))=ŗ;rw[Ki];rfl,?_⟩;change e*f*(mm+x)=(e*mm+e*x)*f;rw[←Int.mul_add,LH,LH,Int.mul_comm f]
theorem uh{f:Int}(c:1<=f):∀{bs:Y Bd}{es sh:Y Int},es.length=bs.length->sh.length=bs.length->dD bs es=ŗ->dD (List.zipWith eE bs sh) (es.map (·*f))=ŗ/\(List.zipWith bF (List.zipWith eE bs sh) (es.map (·*f))).sum=((List.zipWith bF bs es).sum+cC es sh)*f
 | [],[],[],_,_,_=>⟨S,by change (0:Int)=(0+0)*f;rw[La,Lc]⟩
 |b::bs,e::es,x::sh,g,h,j=>by
  have a:(c9 b e&&dD bs es)=ŗ:=j;rw[JJ]at a;let⟨l,o⟩:=uh c (bs:=bs) (es:=es) (sh:=sh) (by simpa using g) (by simpa using h) a.2;let⟨p,r⟩:=Dl (x:=x) c a.1;refine⟨?_,?_⟩
  ·change (c9 (eE b x) (e*f)&&dD (List.zipWith eE bs sh) (es.map (·*f)))=ŗ;rw[p,l];rfl
  ·change bF (eE b x) (e*f)+(List.zipWith bF (List.zipWith eE bs sh) (es.map (·*f))).sum=(bF b e+(List.zipWith bF bs es).sum+cC (e::es) (x::sh))*f;rw[r,o,wV,←Int.add_mul];congr 1;omega
theorem Dy{bs:Y Bd}{sh:Y Int}{r:ag}{f w:Int}(j:1<=f)(p:w<f)(e:r.1.length=bs.length)(g:sh.length=bs.length)(h:dg bs r=ŗ):dg (List.zipWith eE bs sh) (r.1.map (λx=>x*f),(r.2+cC r.1 sh)*f-w)=ŗ:=by
 unfold dg eX at *
 cases a:dD bs r.1 with
 |false=>
  rw[a,Ir 'b']at h;cases h
 |true=>
  rw[a,Iw S]at h;let⟨l,o⟩:=uh j e g a;change (match (if dD (List.zipWith eE bs sh) (r.1.map λx=>x*f) then Z (List.zipWith bF (List.zipWith eE bs sh) (r.1.map λx=>x*f)).sum else ŕ)with|some t=>decide (t<(r.2+cC r.1 sh)*f-w)|none=>Ř)=ŗ;rw[Iw l,o];have h':(List.zipWith bF bs r.1).sum<r.2:=Jd h;generalize (List.zipWith bF bs r.1).sum=Q at *;refine Jh ?_;have c:=Int.mul_le_mul_of_nonneg_right (show Q+cC r.1 sh+1<=r.2+cC r.1 sh by omega) (show 0<=f by omega);rw[Int.add_mul,Int.one_mul]at c;omega
noncomputable abbrev FS(p:Addr)(o:Om)(pl:D)(sp:Y Int)(j l:Int)(sh:Y Int)(r u v x c g e h a:Ŗ Sm):ak:=[Z (.ob (Z p) o),Z (.v pl),Z (.v (.tup (sp.map D.int))),Z (.v (.int j)),Z (.v (.int l)),Z (.v (.lst (sh.map D.int))),r,u,v,x,c,g,e,h,a]
theorem xI(F:Fun K "_law_far" "_law_far" i7 f G)(N:ClM P w K mg base n "_law_draw" ["_law_pool_here","_law_many"] y__law_draw)(lv:Cl P w K mg base n "_law_times" ["_law_entries","_law_spot"] z__law_times)(gb:mg "zip"=ŕ)(aP:mg "tuple"=ŕ):FnOk P w K mg base aN (n+1) f G ["_law_pool_here","_law_plan","_law_spot"] (lSpM K y__law_far):=by
 refine F.okM qak (λas R Rx h=>?_) (λM5 A outer s H E as R Rx qs M9 J h Nh=>?_)
 ·let⟨a,o,k,m,mn,bs,rs,gs,sp,rfl,_⟩:=h;rfl
 let⟨a,o,k,m,mn,bs,rs,gs,sp,rfl,hp,hm,hk,SI,L,q⟩:=h;let⟨pa,rfl⟩:=dq Nh
 refine⟨_,(ao (aB (i:=3) qak.nd S (Þ S) (bi N J S (bo 0 (ay (af ah) aS aL) aa) aa (ar aL ae)))
   (ao (aB (i:=4) qak.nd S VF (bi N J S (bo 0 (ay (af ah) aS aL) aa) aa (ar aL ae)))
   (ao (y8 (i:=5) (N':=["_law_one","_law_far_here","_law_pool_here"]) (cap:=[ŕ,Z 3,Z 0]) S qak.nd S VF (.ok (show bX ["_law_pool_here","_law_plan","_law_spot","_law_far_here","_law_many","_law_shifts","_law_bounds_here","_law_shift","_law_least","_law_most","_law_rows_here","_law_entries","_law_bound","_law_factor","_law_moved"] (av i7) _ ["_law_one","_law_far_here","_law_pool_here"] [ŕ,Z 3,Z 0]=ŗ by lia)) 'a' (fM (ca (dv 2))) (λ_ _ _ _ _=>(cE (i:=0) (show List.Nodup (["_law_one","_law_far_here","_law_pool_here"]:Y Str)by lia) S VF)) (λ_ _ _ _ _=>Eu) (λ_ _ _ _ _=>(cz cr (cz cr (af (dv 1)) (cz cV (af ah) (cz cr (af ah) (bi N J S (bo 2 (ay (af ah) aS aL) aa) aa (ar aL ae))))) (bi N J S (bo 2 (ay (af (aO lD (PD.q ah) (PD.q ah))) aS bO) aa) aa (ar bO ae)))))
   (iE 5 (ao (aB (i:=6) qak.nd S VF (dS (dk am)))
   (ao (fq IW S (fM (kz S gb (ad (au (ac 1)) (ad (dv 5) am aa) aC))) (hX (n:=2) S (dN (hX (n:=2) S (dN (cE (i:=8) qak.nd S VF) (dN (cE (i:=9) qak.nd S VF) gR))) (dN (cE (i:=7) qak.nd S VF) gR))) (bR (bB (bx (aG ef (ac 9) (PD.q bt) (aw _))) (aF (aB (i:=9) qak.nd S VF (af (aO bI (ac 9) (ac 7))))) bP)
   (aF (fk 6 (af (bw (ad (aO bI (ac 8) (ac 7)) (ad (dv 9) am aa) bO))) (dA bC) bC))))
   (ao (aB (i:=10) qak.nd S VF (dS (dk am)))
   (ao (fq IW S (fM (ca (au (ac 1)))) (hX (n:=2) S (dN (cE (i:=11) qak.nd S VF) (dN (cE (i:=12) qak.nd S VF) gR))) (ao (aB (i:=13) qak.nd S (Þ S) (cz bI (af ah) (cz cr (af (dv 4)) (bi N J S (bo 0 (ay (af (aO lD (PD.q ah) (PD.q ah))) aS bO) aa) aa (ar bO ae)))))
   (ao (aB (i:=12) qak.nd S VF (cz cV (af (aO cr (PD.q (aO bI (ac 12) (PD.q (bg lv J S (ad (dv 11) (ad (dv 5) am aa) aa) aa (ar aa ae))))) (ac 13))) (bi N J S (bo 0 (ay (af (dv 13)) aS aa) aa) aa (ar aa ae))))
   (aF (fk 10 (af (bw (ad (bT cu S aP IB (aH (PD.q (PF.d (dG (k:=1) (N':=["_law_number","_law_factor"]) (cap:=[ŕ,Z 13]) S (.ok (show bX ["_law_pool_here","_law_plan","_law_spot","_law_far_here","_law_many","_law_shifts","_law_bounds_here","_law_shift","_law_least","_law_most","_law_rows_here","_law_entries","_law_bound","_law_factor","_law_moved"] (av i7) _ ["_law_number","_law_factor"] [ŕ,Z 13]=ŗ by lia)) 'a' (bM 'b') (ca (dv 11)) (λ_ _ _ _ _=>(bc (i:=0) (show List.Nodup (["_law_number","_law_factor"]:Y Str)by lia) S VF)) (λ_ _ _ _ _=>(aO cr (ac 0) (ac 1)))))) aM bD) bD ae) (ad (dv 12) am aa) bj))) (dA bC) bC)))))
   (ao (aB (i:=14) qak.nd S VF (af (bT cu S aP IB (aH (PD.q (PF.d (dG (k:=2) (N':=["_law_one","_law_shift"]) (cap:=[ŕ,ŕ]) S (.ok (show bX ["_law_pool_here","_law_plan","_law_spot","_law_far_here","_law_many","_law_shifts","_law_bounds_here","_law_shift","_law_least","_law_most","_law_rows_here","_law_entries","_law_bound","_law_factor","_law_moved"] (av i7) _ ["_law_one","_law_shift"] [ŕ,ŕ]=ŗ by lia)) 'a' (iW (n:=2) (fE (bM 'b') (fE (bM 'b') jb))) (kz S gb (ad (dv 2) (ad (dv 5) am aa) aa)) (λ_ _ _ _ _=>(eO (n:=2) S (cf (bc (i:=0) (show List.Nodup (["_law_one","_law_shift"]:Y Str)by lia) S VF) (cf (bc (i:=1) (show List.Nodup (["_law_one","_law_shift"]:Y Str)by lia) S VF) eN)))) (λ_ _ _ _ _=>(aO bI (ac 0) (ac 1)))))) aM bD) bD ae)))
   (aF (bJ (af (bw (ad (bw (ad (bT cu S aP IB (aH (ac 6) aM aa) aa ae) (ad (bT cu S aP IB (aH (ac 10) aM aa) aa ae) (ad (au (ac 1)) am aC) bj) bj)) (ad (dv 14) am aa) bC)))))))))))))),?_⟩
 intro ke;have O2:=L.sl;have Nq:=L.rl;let⟨QU,Tj⟩:=L.b;refine⟨⟨_,_,S⟩,_,S,S,_,_,2,_,S,hp,(),'b',bN 'b',λI o1 x0 x1 Nv=>?_⟩;rfl';refine⟨⟨_,_,S⟩,_,S,S,_,_,2,_,S,Nv,(),'b',bN 'b',λg o2 y0 y1 Nz=>?_⟩;rfl';refine⟨by rw[Il];show br (),λi ys ρc=>∃(xs:Y Int)(o':Om)(u:Ŗ Sm),ys=xs.map D.int/\xs.length=i/\(∀x∈xs,x.natAbs<=10^20)/\ρc=[u,Z (.v (.int I)),Z (.ob (Z pa) o')]/\Pl (m+2+2*i) o',⟨[],o2,_,S,S,λx c=>(by cases c),S,Nz⟩,?_,?_⟩
 ·rintro i d ys ρc hd ⟨xs,o3,u,rfl,Vl,c,rfl,OA⟩;let⟨y,rfl,hy⟩:=cg hd;have hi:=az hy;refine⟨λ_=>?_,tf⟩;refine⟨⟨_,_,S⟩,_,S,S,_,_,2,_,S,OA,(),'b',bN 'b',λz o4 z0 z1 O=>?_⟩;rfl';refine⟨eM 'b' 'b',eM () (),⟨_,_,S⟩,⟨'b','b','b'⟩,_,S,S,_,_,_,_,S,O,(),(by change (0:Int)<10^20;decide),tL (by change (10:Int)^20<2^200;decide),λv o5 v0 v1 Og=>?_⟩;rfl';have hv:v<10^20:=v1
  have hf:I=0\/I=1:=by omega
  have be:z=0\/z=1:=by omega
  refine⟨eM ?_ ?_,xs++[I*(1-2*z)*v],o5,_,gp D.int xs _,by rw[Io,Vl];rfl,fu c ?_,S,Og.mono ()⟩
  ·rcases hf with rfl|rfl<;>rcases be with rfl|rfl<;>decide
  ·rcases hf with rfl|rfl<;>rcases be with rfl|rfl<;>decide
  ·rcases hf with rfl|rfl<;>rcases be with rfl|rfl<;>omega
 rintro ys ρc ⟨sh,o3,u,rfl,Vl,c,rfl,OA⟩;have QG:=c;rw[Il]at Vl OA;refine⟨o3,S,?_⟩;rfl'
 have Vm:sh.length=k:=by omega
 refine⟨_,S,_,_,S,S,?_⟩;rw[lV];refine⟨λi ρ=>∃(B:Y Bd)(u7 u8 u9:Ŗ Sm),ρ=FS pa o3 (b8 bs rs gs) sp I g sh (Z (.own (B.map aT))) u7 u8 u9 ŕ ŕ ŕ ŕ ŕ/\B=List.zipWith eE (bs.take i) (sh.take i)/\B.length=i/\(∀b∈B,b.1.natAbs<=2^200/\∀m,b.2=Z m->m.natAbs<=2^200),⟨[],_,_,_,S,S,S,λb hb=>(by cases hb)⟩,?_,?_⟩
 ·rintro i d ρ hd ⟨B,u7,u8,u9,rfl,a_,Qy,Nd⟩;let⟨⟨b,x⟩,rfl,be⟩:=cg hd;let⟨PL,b_⟩:=Lk.mp be;have O8:=az PL;let⟨c1,T⟩:=Tj b (ID PL);have cx:=c x (ID b_)
  have e20:(10:Nat)^20+2^70<=2^200:=by decide
  refine⟨S,S,?_⟩;refine⟨λρ=>∃M:Ŗ Int,M=b.2.map (·+x)/\ρ=FS pa o3 (b8 bs rs gs) sp I g sh (Z (.own (B.map aT))) (Z (.v (.int x))) (Z (.v (.int b.1))) (Z (.v (oI M))) ŕ ŕ ŕ ŕ ŕ/\∀m,M=Z m->m.natAbs<=2^200,?_,?_⟩
  ·let⟨l,M⟩:=b
   cases M with
   |none=>show⟨ff,λ_=>⟨ŕ,S,S,λm h=>by cases h⟩⟩
   |some mm=>
    have T:=T mm S;show⟨λ_=>⟨Z (mm+x),S,S,λm h=>by cases h;omega⟩,tf⟩
  rintro ρ ⟨M,Vn,rfl,SA⟩;show⟨by rw[Il];show br (),_,gp aT B (b.1+x,M),_,_,_,_,S,by rw[pN PL b_,a_,Vn];rfl,by rw[Io,Qy];rfl,fu Nd ⟨by change (b.1+x).natAbs<=_;omega,SA⟩⟩
 rintro ρ ⟨B,u7,u8,u9,rfl,a_,Qy,Nd⟩;rw[Il,MD,QU,Vm,Nat.min_self]at Qy a_;rw[J1 (),J1 ()]at a_;refine⟨_,S,?_⟩;refine⟨λi ρ=>∃(C:Y ag)(o':Om)(Rv PM SK:Ŗ Sm),ρ=FS pa o' (b8 bs rs gs) sp I g sh (Z (.own (B.map aT))) u7 u8 u9 (Z (.own (C.map ax))) Rv PM SK ŕ/\C.length=i/\(∀j r,j<i->rs[j]?=Z r->∃f w:Int,1<=f/\w<f/\(r.1.map (λx=>x*f),(r.2+cC r.1 sh)*f-w)∈C)/\(∀r∈C,r.1.length=k/\(∀x∈r.1,x.natAbs<2^64)/\r.2.natAbs<=2^200)/\Pl (m+2+2*k+2*i) o',⟨[],o3,_,_,_,S,S,λj _ U=>absurd U (JI _),λb hb=>(by cases hb),OA.mono ()⟩,?_,?_⟩
 ·rintro i d ρ hd ⟨C,o4,Rv,PM,SK,rfl,RA,Qz,QS,O⟩;let⟨r,rfl,Nn⟩:=cg hd;have O8:=az Nn;let⟨c1,T,c3⟩:=L.r r (ID Nn);refine⟨S,?_⟩;refine⟨⟨_,_,S⟩,⟨'b','b','b'⟩,_,S,S,_,_,_,_,S,O,(),(by change (0:Int)<10^12;decide),bN (by change (10:Int)^12<2^64;decide),λp o5 v0 v1 Og=>?_⟩;rfl';have v1:p<10^12:=v1
  have X:g=0\/g=1:=by omega
  refine⟨eM () (),?_⟩
  have f0:0<1+g*p:=by rcases X with rfl|rfl<;>omega
  have f2:1+g*p<=10^12:=by rcases X with rfl|rfl<;>omega
  have PJ:∀x∈r.1,cM x:=λx c=>gB (m:=10) (by have:=T x c;omega) 'b';have Vo:∀x∈sh,cM x:=λx QG=>gB (m:=70) (by have:=c x QG;have e:(10:Nat)^20<=2^70:='b';omega) 'b';refine⟨r.1,sh,S,(),PJ,Vo,?_⟩;have Rt:=mq T c;have SD:(cC r.1 sh).natAbs<=8*(4*10^20):=IU Rt (Kr _ ())
  have SM:(r.2+cC r.1 sh).natAbs<=2^80:=by
   have:8*(4*10^20)+2^72<=2^80:=by decide
   omega
  have QD:(1+g*p).natAbs<=2^40:=by
   have:(10:Nat)^12<=2^40:=by decide
   omega
  have hprod:((r.2+cC r.1 sh)*(1+g*p)).natAbs<=2^80*2^40:=by rw[J6];show Kg SM QD
  refine⟨io (gB SM 'b') (gB QD 'b'),?_⟩;refine⟨⟨_,_,S⟩,_,S,S,_,_,_,_,S,Og,(),f0,bN (by have:(10:Int)^12<2^64:='b';omega),λw o6 w0 w1 P8=>?_⟩;rfl'
  have SN:∀x∈r.1,(x*(1+g*p)).natAbs<2^64:=λx c=>by
   rw[J6];have h1:=Kg (T x c) QD
   have:4*2^40<2^64:=by decide
   omega
  refine jQ (f:=D.int) (λx=>x*(1+g*p)) (br ()) (λx c=>⟨io (PJ x c) (gB QD 'b'),S⟩) ?_;refine⟨by rw[Il];show br (),_,gp ax C (r.1.map λx=>x*(1+g*p),(r.2+cC r.1 sh)*(1+g*p)-w),_,o6,_,_,_,S,by rw[Io,RA];rfl,λj r' U Q=>?_,fu QS ⟨by change (r.1.map _).length=k;rw[Il];show c1,λx c=>?_,?_⟩,P8.mono ()⟩
  ·by_cases cj:j=i
   ·subst cj;rw[Nn]at Q;cases Q;show⟨1+g*p,w,(),w1,Jo _ Iy⟩
   ·let⟨f,w',a1,a2,a3⟩:=Qz j r' () Q;show⟨f,w',a1,a2,J5 _ a3⟩
  ·let⟨y,hy,rfl⟩:=I0.mp c;show SN y hy
  ·change ((r.2+cC r.1 sh)*(1+g*p)-w).natAbs<=2^200
   have:2^80*2^40+10^12<=2^200:=by decide
   omega
 rintro ρ ⟨C,o4,Rv,PM,SK,rfl,RA,Qz,QS,O⟩;rw[Il]at RA O Qz;refine⟨_,_,S,S,?_⟩;refine qP (f:=D.int) (h:=D.int) (λx y=>D.int (x+y)) (br ()) (λx _ y _=>⟨S,S⟩) ?_
 have e1:List.zipWith (λx y=>D.int (x+y)) sp sh=(List.zipWith (λx y=>x+y) sp sh).map D.int:=by rw[Mv]
 rw[e1];refine⟨_,S,_,S,q B C (List.zipWith (λx y=>x+y) sp sh) o4 ⟨hk,Qy,L.gl,(),QS,Nd,λx c=>by have:=L.g x c;have e:(2:Nat)<2^64:='b';omega⟩ (λu hu hc=>by rw[a_];show wT () () hc) (λr Q hc=>?_) (O.mono ())⟩;let⟨j,U⟩:=J0 Q;let⟨f,w,a1,a2,a3⟩:=Qz j r (az U) U;show⟨_,a3,by rw[a_];show Dy a1 a2 (by rw[(L.r r Q).1];omega) () hc⟩
noncomputable abbrev sp_law:=v4
noncomputable abbrev Gh:=vg
theorem GW(n:Nat)(g:Y ag)(j:Led):Way (λs=>(Wy n s/\MksE n g s)/\Rch j s) mu:=
 ⟨λt h=>⟨n,h.1.1.led⟩,λt t' h e a=>⟨⟨⟨(h.1.1.row a).1,h.1.2.row h.1.1 a⟩,h.2.snoc ⟨e,.inl a⟩⟩,(h.1.1.row a).2⟩,λt t' h e a c=>⟨⟨⟨(h.1.1.unk c).1,h.1.2.unk h.1.1 c⟩,h.2.snoc ⟨e,.inr ⟨a,c⟩⟩⟩,(h.1.1.unk c).2⟩⟩
theorem Rch.stuck{a t:Led}(h:Rch a t)(c:bq a≠.non):t=a:=by
 induction h with
 |nil=>rfl
 |snoc _ k e=>
  subst e;show absurd k.1 c
theorem PlM.up{n:Nat}{a mm:Int}{bs:Y Bd}{rs:Y ag}{gs sp:Y Int}(h:PlM n a bs rs gs sp)(c:a<=mm):PlM n mm bs rs gs sp:={ h with rl:=by have:=h.rl;omega }
noncomputable abbrev LW(ns:Y Int)(o:Om)(n:Nat)(a:Int)(pl:D)(sp:D)(c:Ŗ Sm):ak:=[Z (.v (.fzl (ns.map D.int))),Z (.ob ŕ o),Z (.v (.int (n:Nat))),Z (.v (.int a)),Z (.v pl),Z (.v sp),c]
theorem yf{bs:Y Bd}{rs:Y ag}{gs:Y Int}{u:Nat}(c:u<bs.length)(h:eR bs u=ŗ):bq (gm bs rs gs)≠.non:=λe=>by
 unfold bq at e;split at e
 ·cases e
 ·rename_i a;have:=List.find?_eq_none.mp a u (IY.mpr c);show this h
theorem Gi{bs:Y Bd}{rs:Y ag}{gs:Y Int}{r:ag}(c:r∈rs)(h:dg bs r=ŗ):bq (gm bs rs gs)≠.non:=λe=>by
 unfold bq at e;split at e
 ·cases e
 ·split at e
  ·rename_i a;have:=Ml.mp a r c;have h':dg bs r=Ř:=this;rw[h]at h';cases h'
  ·unfold j9 at e;cases e
theorem tY{n k:Nat}:∀y∈b7 n k,y.natAbs<=1:=λy a=>by let⟨o,_,rfl⟩:=I0.mp a;split<;>decide
theorem Gx(F:Fun K "law" "law" nC f G){M4:Addr}(o:TxtStruck K mg M4)(OW:ClM P w K mg base (n+1) "_law_pool" ["_law_script"] y__law_pool)(MX:ClM P w K mg base (n+1) "_law_draw" ["_law_pool_here","_law_many"] y__law_draw)(OO:ClM P w K mg base (n+1) "_law_small" ["_law_pool_here","_law_count","_law_many","_law_opens"] y__law_small)(O4:ClM P w K mg base (n+1) "_law_far" ["_law_pool_here","_law_plan","_law_spot"] y__law_far)(Ol:ClM P w K mg base (n+1) "_law_crossed" ["_law_pool_here","_law_plan"] y__law_crossed)(HM:Cl P w K mg base (n+1) "_law_fields" ["_law_struck","_law_count"] z__law_fields)(HR:Cl P w K mg base (n+1) "_law_bars" ["_law_rows_here","_law_paper","_law_count"] z__law_bars)(OX:ClM P w K mg base (n+1) "_law_lost" ["_law_pool_here","_law_plan"] y__law_lost)(HY:Cl P w K mg base (n+1) "_law_givens" ["_law_plan"] z__law_givens)(N7:ClM P w K mg base (n+1) "_law_two_rows" ["_law_pool_here","_law_plan"] y__law_two_rows)(NQ:MkM P w K mg base n M4 ["self","plan"] vG):FnOk P w K mg base aN (n+2) f G ["_law_script"] (lSpM K (zM Gh)):=by
 refine F.okM qaH (λas R Rx h=>?_) (λM5 A outer s H E as R Rx qs M9 g h Nh=>?_)
 ·let⟨_,rfl,ns,rfl,_⟩:=h;rfl
 let⟨_,rfl,ns,rfl,hz,q⟩:=h;obtain rfl:=jt Nh
 refine⟨_,(ao (aB (i:=1) qaH.nd S VF (bi OW g S (ay (af (dv 0)) aS aa) aa ae))
   (ao (aB (i:=2) qaH.nd S VF (bi MX g S (bo 1 (ay (af ah) aS aL) aa) aa (ar aL ae)))
   (ao (aB (i:=3) qaH.nd S VF (bi MX g S (bo 1 (ay (af ah) aS aL) aa) aa (ar aL ae)))
   (ao (pV (bi OO g S (bo 1 (ay (af (dv 2)) (ay (af ah) (ay (bi MX g S (bo 1 (ay (af ah) aS aL) aa) aa (ar aL ae)) aS bj) aL) aa) aa) aa (ar aa (ar aL (ar bj ae)))) (hX (n:=2) S (dN (cE (i:=4) qaH.nd S VF) (dN (cE (i:=5) qaH.nd S VF) gR))))
   (bR (bB (bx (PWD.td (ee (aG (cp g.units) (ac 3) (PD.q ah) (aw _)) (ft (aG ei (ac 2) (PD.q ah) (aw _)))))) (aF (aB (i:=4) qaH.nd S VF (bi Ol g S (bo 1 (ay (af (dv 4)) aS aa) aa) aa (ar aa ae)))) (aF (bB (bx (aG fm (ac 3) (PD.q ah) (aw _))) (aF (aB (i:=4) qaH.nd S VF (bi OX g S (bo 1 (ay (af (dv 4)) aS aa) aa) aa (ar aa ae)))) (aF (bB (bx (PWD.td (ee (aG (cp g.units) (ac 3) (PD.q ah) (aw _)) (ft (aG ei (ac 2) (PD.q ah) (aw _)))))) (aF (aB (i:=4) qaH.nd S VF (bi N7 g S (bo 1 (ay (af (dv 4)) aS aa) aa) aa (ar aa ae)))) bP)))))
   (ao (pV (bi O4 g S (bo 1 (ay (af (dv 4)) (ay (af (dv 5)) aS aa) aa) aa) aa (ar aa (ar aa ae))) (hX (n:=2) S (dN (cE (i:=4) qaH.nd S VF) (dN (cE (i:=5) qaH.nd S VF) gR))))
   (ao (aB (i:=6) qaH.nd S VF (yw (r6 NQ g S o.mgC o.ns (ay (af (dv 4)) aS aa) aa ae)))
   (bR (bB (bx (cK (bY (PD.q (bg HM g S (ad (dv 6) (ad (dv 2) am aa) aa) aa (ar aa ae))) (λ_=>rfl)))) (aF (bJ (af cU))) bP)
   (bR (bB (bx (aG (cp g.units) (PD.q (aZ o.cl o.n_kind o.ns (ac 6))) (PD.q gT) (aw _))) (aF (bJ (af (bg HR g S (ad (bg HY g S (ad (dv 4) am aa) aa ae) (ad (aZ o.cl o.n_paper o.ns (ac 6)) (ad (dv 2) am aa) aW) bj) bj (ar aW (ar aa ae)))))) bP)
   (aF (bJ (af (dQ ei (ac 3) (PD.q ah) (aw _)))))))))))))),?_⟩
 intro ke;refine⟨_,S,S,ns,S,hz,λo0 TK=>?_⟩;rfl';refine⟨⟨_,_,S⟩,_,S,S,_,_,9,0,S,TK,'b','b',bN 'b',λx o1 x0 x1 Nv=>?_⟩;rfl';let⟨n,rfl⟩:=Ka x0
 have p:n<=8:=by omega
 refine⟨⟨_,_,S⟩,_,S,S,_,_,5,_,S,Nv,'b','b',bN 'b',λI o2 m0 m1 Nz=>?_⟩;rfl';refine⟨⟨_,_,S⟩,⟨_,_,S⟩,_,S,S,_,_,4,_,S,Nz,'b','b',bN 'b',λop o3 p0 p1 OA=>?_⟩;rfl';refine⟨_,S,S,_,_,n,_,10,op,S,OA,'b',p,'b','b',(),(),λbs rs gs sp o4 O N=>?_⟩;rfl';refine⟨S,?_⟩;refine⟨λρ=>∃(U:Y Bd)(SJ:Y ag)(o':Om),ρ=LW ns o' n I (b8 U SJ gs) (.tup (sp.map D.int)) ŕ/\PlM n 12 U SJ gs sp/\(I<=1->(∃u,u<n/\eR U u=ŗ)\/∃r∈SJ,dg U r=ŗ)/\Pl 1000 o',?_,?_⟩
 ·refine⟨λh0=>⟨λL=>?_,λL=>?_⟩,λh0=>⟨ff,λ_=>?_⟩⟩
  ·refine⟨⟨_,_,S⟩,_,S,S,_,_,n,_,10,bs,rs,gs,sp,S,N,'b',p,?_,O,λQk M u C be Vp B=>?_⟩
   ·have:=Jd L;omega
   ·show⟨Qk,rs,M,S,C.up 'b',λ_=>.inl ⟨u,be,Vp⟩,B.mono 'b'⟩
  all_goals
   refine⟨λJ=>?_,λJ=>⟨λh3=>⟨λPV=>?_,λ_=>?_⟩,λ_=>⟨ff,λ_=>?_⟩⟩⟩
   ·refine⟨⟨_,_,S⟩,_,S,S,_,_,n,_,10,bs,rs,gs,sp,S,N,'b',p,'b',O,λNy M r C v hh B=>?_⟩;show⟨bs,Ny,M,S,C.up 'b',λ_=>.inr ⟨r,v,hh⟩,B.mono 'b'⟩
   ·refine⟨⟨_,_,S⟩,_,S,S,_,_,n,_,10,bs,rs,gs,sp,S,N,'b',p,by have:=Jd PV;omega,'b',O,λNy M C B=>?_⟩;show⟨bs,Ny,M,S,C.up 'b',λh=>absurd h (by have:=JC J;omega),B.mono 'b'⟩
   ·show⟨bs,rs,o4,S,O.mid.up 'b',λh=>absurd h (by have:=JC J;omega),N.mono 'b'⟩
   ·show⟨bs,rs,o4,S,O.mid.up 'b',λh=>absurd h (by have:=JC J;omega),N.mono 'b'⟩
 rintro ρ ⟨b1,r1,M,rfl,C,Vq,B⟩;refine⟨⟨_,_,S⟩,_,S,S,_,_,n,_,12,b1,r1,gs,sp,S,B,'b',p,'b',C,λa l s2 o6 j Vp hho P8=>?_⟩;rfl';refine⟨S,?_⟩;have QU:=j.bl;subst QU;refine⟨_,a,l,gs,λs=>(Wy a.length s/\MksE a.length (dw a l) s)/\Rch (gm a l gs) s,mu,S,p,by have:=j.rl;omega,⟨⟨j.wy,_,yk S⟩,.nil⟩,GW _ _ _,λt ht hR hU Pg=>⟨_,S,?_⟩,λt ht hN=>⟨_,S,?_⟩⟩
 ·let⟨⟨b_,X⟩,Pc⟩:=ht;rfl';refine⟨λρ=>ρ=LW ns o6 a.length I (b8 a l gs) (.tup (s2.map D.int)) (Z (.v (jD a.length t))),⟨_,a.length,t,S,.inl ⟨S,b_⟩,ff,λ_=>rfl⟩,?_⟩;rintro ρ rfl;refine⟨λρ=>ρ=LW ns o6 a.length I (b8 a l gs) (.tup (s2.map D.int)) (Z (.v (jD a.length t))),⟨S,_,S,λh=>absurd h 'a',λ_=>rfl⟩,?_⟩;rintro ρ rfl
  have SI:1<I:=JH λc=>by
   have a_:bq (gm a l gs)≠.non:=by
    rcases Vq ()with⟨u,be,L⟩|⟨r,v,L⟩
    ·show yf be (Vp u be L)
    ·let⟨r',h1,J⟩:=hho r v L;show Gi h1 J
   have e:=Pc.stuck a_;subst e;show a_ Pg
  change R (Sm.v (D.bl (decide (1<I)))) [];rw[Jh SI];show q
 ·let⟨⟨b_,T,X⟩,Pc⟩:=ht;rfl'
  have a_:bq t≠.non:=λe=>by rw[e]at hN;cases hN
  let⟨sh,b,Ub,P9,Qd,h9,OZ⟩:=Fb X b_ a_;have Vr:=X.mkn;have Vc:=b_.ln;have SO:(1:Nat)<=2^200:=Nat.one_le_two_pow;refine⟨λρ=>ρ=LW ns o6 a.length I (b8 a l gs) (.tup (s2.map D.int)) (Z (.v (qi a.length (fS t (bq t) 1) ((fS t (bq t) 1).ln++[D.tup [D.str "shut",dL t]])))),⟨_,a.length,_,S,.inr ⟨_,S⟩,ff,λ_=>rfl⟩,?_⟩;rintro ρ rfl;refine⟨λ_=>False,⟨S,_,S,λ_=>?_,λh=>absurd h 'a'⟩,λρ h=>h.elim⟩;refine⟨a,l,_,S,p,by have:=j.rl;omega,S,_,S,a.length,dw a l,T++[(List.replicate a.length 0,b)],t.ln++[cL (gK sh) 1],T.length,b,?_,.snoc X.ln P9 h9 'b' OZ,?_,?_,p,?_,?_,Qd,q⟩
  ·have e1:(fS t (bq t) 1).ln=t.ln++[cL (gK sh) 1]:=by rw[Ub];rfl
   have e2:dL t=.int (T.length:Nat):=by unfold dL;rw[Vr]
   rw[e1,e2]
  ·rw[Io,IX];omega
  ·have:=qm a l;have:=j.rl;omega
  ·refine giv_all.mpr ⟨λk hk=>⟨mY _ _,λy Q=>IU (tY y Q) SO,(j.bb _ (cD hk)).1⟩,λk hk hm=>?_,λr v=>⟨(j.rr r v).1,λy Q=>IU (JW ((j.rr r v).2.1 y Q)) (Kq 'b' 'b'),(j.rr r v).2.2⟩⟩;refine⟨by change ((b7 a.length k).map _).length=_;rw[Il,mY],λy Q=>?_,?_⟩
   ·let⟨z,SE,rfl⟩:=I0.mp (show y∈(b7 a.length k).map (- ·)from Q);rw[Lb];show IU (tY z SE) SO
   ·change (-((ap a k).2.getD 0)).natAbs<=_;rw[Lb]
    cases e:(ap a k).2 with
    |none=>show Km _
    |some mm=>show (j.bb _ (cD hk)).2 mm e
  ·rw[Im (Iu _),Je];rfl
end
theorem all_mk{l:PySem.W.OpenLaw}{w:È}{K:Â}{h:Heap}{mg:Str->Ŗ Value}{fa:Addr}{a:Addr}{g:Addr}(X:K.In h)(G:h.Ns Á mg)(hfa:mg "law"=Z (.ref fa))

  (NG:Ò K Á "Ledger"=Z (Z (.ref a)))
  (NH:Ò K Á "Struck"=Z (Z (.ref g)))
  (a1:Has K oz "common_of_two")
  (a2:Has K nh "common")
  (a3:Has K mL "up")
  (a4:Has K kH "unit")
  (a5:Has K lj "turned")
  (a6:Has K kr "evened")
  (a7:Has K ju "givens")
  (a8:Has K k7 "without")
  (a9:Has K j8 "only_unknown")
  (a10:Has K oo "first_most_marks")
  (a11:Has K l6 "is_crossed")
  (a12:Has K mf "greatest_sum")
  (a13:Has K kS "least_sum")
  (a14:Has K nu "crossed_unknown")
  (a15:Has K ma "hopeless_row")
  (a16:Has K nX "idle_row")
  (a17:Has K ka "single_row")
  (a18:Has K nJ "uneven_row")
  (a19:Has K lZ "doubled_row")
  (a20:Has K md "fixed_unknown")
  (a21:Has K ky "has_above")
  (a22:Has K k6 "has_below")
  (a23:Has K oB "sinking_unknown")
  (a24:Has K ou "rising_unknown")
  (a25:Has K mJ "hanging_unknown")
  (a26:Has K nc "row_struck")
  (a27:Has K lX "unknown_struck")
  (a28:Has K kj "hopeless_shares")
  (a29:Has K ms "strike")
  (a30:Has K la "picked")
  (a31:Has K ld "slim_plan")
  (a32:Has K nU "_law_whole")
  (a33:Has K jW "_law_wholes")
  (a34:Has K nE "_law_pool")
  (a35:Has K nT "_law_draw")
  (a36:Has K ki "_law_times")
  (a37:Has K mR "_law_bounds")
  (a38:Has K mj "_law_rows")
  (a39:Has K nR "_law_small")
  (a40:Has K i7 "_law_far")
  (a41:Has K nI "_law_plan_is")
  (a42:Has K lb "_law_fields")
  (a43:Has K jF "_law_givens")
  (a44:Has K iK "_law_cut")
  (a45:Has K kn "_law_shuts")
  (a46:Has K oq "_law_is_choice")
  (a47:Has K jU "_law_bars")
  (a48:Has K lB "_law_beyond")
  (a49:Has K nV "_law_crossed")
  (a50:Has K nB "_law_put")
  (a51:Has K mD "_law_lost")
  (a52:Has K jK "_law_two_rows")
  (a53:Has K nC "law")
  (Vs:HasM K mt a "__init__" "Ledger.__init__")
  (Vt:HasM K lL a "put_line" "Ledger.put_line")
  (Vu:HasM K nL a "drop_row" "Ledger.drop_row")
  (Vv:HasM K lW a "turn_to_bound" "Ledger.turn_to_bound")
  (Vw:HasM K n5 a "even_row" "Ledger.even_row")
  (Vx:HasM K oG a "bound_share" "Ledger.bound_share")
  (Vy:HasM K nW a "fix" "Ledger.fix")
  (Vz:HasM K jI a "hang" "Ledger.hang")
  (VA:HasM K oF a "let_go" "Ledger.let_go")
  (VB:HasM K lK g "__init__" "Struck.__init__")
  (Pj:ô K a Str.empty=ŗ) (Pk:ö K a=ŗ) (Pn:Ă K a=ŗ) (Po:Ð K (.ref a) "__setattr__"=Z (Z (.builtin "object.__setattr__"))) (Pp:Ī K a=ŗ) (Pq:ã K (.ref a)=ŗ)
  (N8:Ð K (.ref a) "bounds"=Z ŕ)
  (OC:Ð K (.ref a) "rows"=Z ŕ)
  (OD:Ð K (.ref a) "goal"=Z ŕ)
  (NZ:Ð K (.ref a) "staying"=Z ŕ)
  (OE:Ð K (.ref a) "told"=Z ŕ)
  (Oo:Ð K (.ref a) "lines"=Z ŕ)
  (NA:Ð K (.ref a) "least_marks"=Z ŕ)
  (NL:Ð K (.ref a) "most_marks"=Z ŕ)
  (NR:Ð K (.ref a) "row_marks"=Z ŕ)
  (NB:Ð K (.ref a) "goal_shares"=Z ŕ)
  (Oq:Ð K (.ref a) "extra"=Z ŕ)
  (OF:Ð K (.ref a) "gone"=Z ŕ)
  (Pt:ô K g Str.empty=ŗ) (Pu:ö K g=ŗ) (Pw:Ă K g=ŗ) (Px:Ð K (.ref g) "__setattr__"=Z (Z (.builtin "object.__setattr__"))) (Py:Ī K g=ŗ) (Pz:ã K (.ref g)=ŗ)
  (N9:Ð K (.ref g) "ledger"=Z ŕ)
  (N0:Ð K (.ref g) "breadth"=Z ŕ)
  (OG:Ð K (.ref g) "kind"=Z ŕ)
  (Ot:Ð K (.ref g) "paper"=Z ŕ)
  (OH:Ð K (.ref g) "slim"=Z ŕ)
  (OI:Ð K (.ref g) "kept"=Z ŕ)
  (Ou:Ð K (.ref g) "extra"=Z ŕ)
  (SQ:Ò K Á "abs"=Z ŕ)
  (QA:Ò K Á "tuple"=Z ŕ)
  (QB:Ò K Á "range"=Z ŕ)
  (SR:Ò K Á "len"=Z ŕ)
  (OY:Ò K Á "enumerate"=Z ŕ)
  (SU:Ò K Á "zip"=Z ŕ)
  (SV:Ò K Á "any"=Z ŕ)
  (OP:Ò K Á "isinstance"=Z ŕ)
  (SW:Ò K Á "int"=Z ŕ)
  (y_bool:Ò K Á "bool"=Z ŕ)
  (SX:Ò K Á "all"=Z ŕ)
  (SY:Ò K Á "sum"=Z ŕ)
  (S0:Ò K Á "max"=Z ŕ)
  (RB:Ò K Á "list"=Z ŕ)
  (S6:Ò K Á "min"=Z ŕ)
  (O5:Ò K Á "reversed"=Z ŕ) :
  ∃fd:Í,(∀(s:À)(v:Value),Č s fd ⟨[v],[]⟩ [("_law_script",v)])/\∀base:Heap,K.In base->base.Ns Á mg->FnOk l.prog w K mg base aN 9 fa fd ["_law_script"] (sp_law K):=by
 let⟨f1,d1,F1,m1,_⟩:=a1.fn X G;let⟨f2,d2,F2,m2,_⟩:=a2.fn X G;let⟨f3,d3,F3,m3,_⟩:=a3.fn X G;let⟨f4,d4,F4,m4,_⟩:=a4.fn X G;let⟨f5,d5,F5,m5,_⟩:=a5.fn X G;let⟨f6,d6,F6,m6,_⟩:=a6.fn X G;let⟨f7,d7,F7,m7,_⟩:=a7.fn X G;let⟨f8,d8,F8,m8,_⟩:=a8.fn X G;let⟨f9,d9,F9,m9,_⟩:=a9.fn X G;let⟨f10,d10,z,m10,_⟩:=a10.fn X G;let⟨f11,d11,A,m11,_⟩:=a11.fn X G;let⟨f12,d12,B,m12,_⟩:=a12.fn X G;let⟨f13,d13,C,m13,_⟩:=a13.fn X G;let⟨f14,d14,E,m14,_⟩:=a14.fn X G;let⟨f15,d15,F,m15,_⟩:=a15.fn X G;let⟨f16,d16,H,m16,_⟩:=a16.fn X G;let⟨f17,d17,I,m17,_⟩:=a17.fn X G;let⟨f18,d18,J,m18,_⟩:=a18.fn X G;let⟨f19,d19,L,m19,_⟩:=a19.fn X G;let⟨f20,d20,M,m20,_⟩:=a20.fn X G;let⟨f21,d21,N,m21,_⟩:=a21.fn X G;let⟨f22,d22,O,m22,_⟩:=a22.fn X G;let⟨f23,d23,Q,m23,_⟩:=a23.fn X G;let⟨f24,d24,R,m24,_⟩:=a24.fn X G;let⟨f25,d25,a_,m25,_⟩:=a25.fn X G;let⟨f26,d26,T,m26,_⟩:=a26.fn X G;let⟨f27,d27,U,m27,_⟩:=a27.fn X G;let⟨f28,d28,be,m28,_⟩:=a28.fn X G;let⟨f29,d29,b_,m29,_⟩:=a29.fn X G;let⟨f30,d30,F30,m30,_⟩:=a30.fn X G;let⟨f31,d31,F31,m31,_⟩:=a31.fn X G;let⟨f32,d32,F32,m32,_⟩:=a32.fn X G;let⟨f33,d33,F33,m33,_⟩:=a33.fn X G;let⟨f34,d34,F34,m34,_⟩:=a34.fn X G;let⟨f35,d35,F35,m35,_⟩:=a35.fn X G;let⟨f36,d36,F36,m36,_⟩:=a36.fn X G;let⟨f37,d37,F37,m37,_⟩:=a37.fn X G;let⟨f38,d38,F38,m38,_⟩:=a38.fn X G;let⟨f39,d39,F39,m39,_⟩:=a39.fn X G;let⟨f40,d40,F40,m40,_⟩:=a40.fn X G;let⟨f41,d41,F41,m41,_⟩:=a41.fn X G;let⟨f42,d42,F42,m42,_⟩:=a42.fn X G;let⟨f43,d43,F43,m43,_⟩:=a43.fn X G;let⟨f44,d44,F44,m44,_⟩:=a44.fn X G;let⟨f45,d45,F45,m45,_⟩:=a45.fn X G;let⟨f46,d46,F46,m46,_⟩:=a46.fn X G;let⟨f47,d47,F47,m47,_⟩:=a47.fn X G;let⟨f48,d48,F48,m48,_⟩:=a48.fn X G;let⟨f49,d49,F49,m49,_⟩:=a49.fn X G;let⟨f50,d50,F50,m50,_⟩:=a50.fn X G;let⟨f51,d51,F51,m51,_⟩:=a51.fn X G;let⟨f52,d52,F52,m52,_⟩:=a52.fn X G;let⟨f53,d53,F53,m53,_,_,_,e⟩:=a53.fn X G;let⟨f54,d54,Vs,i54,k54,F54⟩:=Vs;have b54:=F54.bd (ps:=["self","plan"]);let⟨f55,d55,Vt,i55,k55,F55⟩:=Vt;have b55:=F55.bd (ps:=["self","shares","divisor"]);let⟨f56,d56,Vu,i56,k56,F56⟩:=Vu;have b56:=F56.bd (ps:=["self","place"]);let⟨f57,d57,Vv,i57,k57,F57⟩:=Vv;have b57:=F57.bd (ps:=["self","place"]);let⟨f58,d58,Vw,i58,k58,F58⟩:=Vw;have b58:=F58.bd (ps:=["self","place"]);let⟨f59,d59,Vx,i59,k59,F59⟩:=Vx;have b59:=F59.bd (ps:=["self","unknown","entry"]);let⟨f60,d60,Vy,i60,k60,F60⟩:=Vy;have b60:=F60.bd (ps:=["self","unknown","number"]);let⟨f61,d61,Vz,i61,k61,F61⟩:=Vz;have b61:=F61.bd (ps:=["self","unknown"]);let⟨f62,d62,VA,i62,k62,F62⟩:=VA;have b62:=F62.bd (ps:=["self","unknown","least","rows"]);let⟨f63,d63,VB,i63,k63,F63⟩:=VB;have b63:=F63.bd (ps:=["self","plan"]);cases hfa.symm.trans m53;refine⟨d53,λs v=>by rw[e];show .of_eq S,λbase _ _=>?_⟩;have ga:=JT X G SQ;have c:=JT X G QA;have r:=JT X G QB;have f:=JT X G SR;have o:=JT X G OY;have gb:=JT X G SU;have iz:=JT X G SV;have x:=JT X G OP;have fK:=JT X G SW;have rC:=JT X G y_bool;have jT:=JT X G SX;have rH:=JT X G SY;have iA:=JT X G S0;have y:=JT X G RB;have rF:=JT X G S6;have rA:=JT X G O5;have j:TxtLedger K mg a:=⟨⟨Pj,Pk,Pn,Po⟩,N8,OC,OD,NZ,OE,Oo,NA,NL,NR,NB,Oq,OF,mg_of X G NG,NG⟩;have MV:TxtStruck K mg g:=⟨⟨Pt,Pu,Pw,Px⟩,N9,N0,OG,Ot,OH,OI,Ou,mg_of X G NH,NH⟩;have H1:=Gw (P:=l.prog) (w:=w) (mg:=mg) (base:=base) (n:=0) F1 ga;have Q1:=F1.cl m1 H1;have H2:=Ee (n:=1) F2 Q1.mono;have Q2:=F2.cl m2 H2;have H3:=A1 (P:=l.prog) (w:=w) (mg:=mg) (base:=base) (n:=0) F3;have Q3:=F3.cl m3 H3;have H4:=FC (P:=l.prog) (w:=w) (mg:=mg) (base:=base) (n:=0) F4 c r;have Q4:=F4.cl m4 H4;have H5:=BJ (P:=l.prog) (w:=w) (mg:=mg) (base:=base) (n:=0) F5 c;have Q5:=F5.cl m5 H5;have H6:=AO (n:=2) F6 Q2.mono Q3.mono c;have Q6:=F6.cl m6 H6;have H7:=DC (n:=1) F7 Q5.mono Q4.mono f r c;have Q7:=F7.cl m7 H7;have H8:=Al (P:=l.prog) (w:=w) (mg:=mg) (base:=base) (n:=0) F8 c o;have Q8:=F8.cl m8 H8;have H9:=Ea (P:=l.prog) (w:=w) (mg:=mg) (base:=base) (n:=0) F9 o;have Q9:=F9.cl m9 H9;have Ul:=G0 (P:=l.prog) (w:=w) (mg:=mg) (base:=base) (n:=0) z f;have R10:=z.clM m10 Ul;have H11:=FW (P:=l.prog) (w:=w) (mg:=mg) (base:=base) (n:=0) A;have VC:=A.cl m11 H11;have H12:=FI (P:=l.prog) (w:=w) (mg:=mg) (base:=base) (n:=0) B gb;have Q12:=B.cl m12 H12;have H13:=GC (n:=1) C Q12.mono;have Q13:=C.cl m13 H13;have H14:=yO (n:=1) E VC.mono;have Q14:=E.cl m14 H14;have H15:=Aj (n:=1) F Q12.mono o;have Q15:=F.cl m15 H15;have H16:=Ba (n:=2) H Q13.mono o;have Q16:=H.cl m16 H16;have H17:=Gp (P:=l.prog) (w:=w) (mg:=mg) (base:=base) (n:=0) I o f;have Q17:=I.cl m17 H17;have H18:=DT (n:=2) J Q2.mono o;have Q18:=J.cl m18 H18;have H19:=ye (P:=l.prog) (w:=w) (mg:=mg) (base:=base) (n:=0) L o;have Q19:=L.cl m19 (H19.imp mB);have H20:=FL (P:=l.prog) (w:=w) (mg:=mg) (base:=base) (n:=0) M;have Q20:=M.cl m20 H20;have H21:=FZ (P:=l.prog) (w:=w) (mg:=mg) (base:=base) (n:=0) N iz;have Q21:=N.cl m21 H21;have H22:=FB (P:=l.prog) (w:=w) (mg:=mg) (base:=base) (n:=0) O iz;have Q22:=O.cl m22 H22;have H23:=wP (n:=1) Q VC.mono Q21.mono;have Q23:=Q.cl m23 H23;have H24:=Dt (n:=1) R VC.mono Q22.mono;have Q24:=R.cl m24 H24;have H25:=wN (n:=1) a_ Q22.mono;have Q25:=a_.cl m25 H25;have H30:=BQ (P:=l.prog) (w:=w) (mg:=mg) (base:=base) (n:=0) F30 c;have Q30:=F30.cl m30 H30;have H31:=Bo (n:=1) F31 j Q30.mono c;have Q31:=F31.cl m31 H31;have H32:=FM (P:=l.prog) (w:=w) (mg:=mg) (base:=base) (n:=0) F32 x fK rC;have u:=F32.cl m32 H32;have H33:=B1 (n:=1) F33 u.mono x c jT f;have TQ:=F33.cl m33 H33;have H34:=Ds (P:=l.prog) (w:=w) (mg:=mg) (base:=base) (n:=0) F34 f;have R34:=F34.clM m34 H34;have H35:=yM (P:=l.prog) (w:=w) (mg:=mg) (base:=base) (n:=0) F35;have p:=F35.clM m35 H35;have H36:=C6 (P:=l.prog) (w:=w) (mg:=mg) (base:=base) (n:=0) F36 rH gb;have VD:=F36.cl m36 H36;have H37:=Cy (n:=1) F37 p.mono r fK iA;have R37:=F37.clM m37 H37;have H38:=Ac (n:=1) F38 p.mono VD.mono r y ga f c;have R38:=F38.clM m38 H38;have H39:=wF (n:=2) F39 R37.mono R38.mono p.mono VD.mono c iA;have R39:=F39.clM m39 H39;have H40:=xI (n:=1) F40 p.mono VD.mono gb c;have R40:=F40.clM m40 H40;have H41:=DF (n:=2) F41 TQ.mono u.mono x c f;have Q41:=F41.cl m41 H41;have H42:=CN (n:=3) F42 MV TQ.mono u.mono Q41.mono y x c f r;have Q42:=F42.cl m42 H42;have H43:=DV (P:=l.prog) (w:=w) (mg:=mg) (base:=base) (n:=0) F43 f o y c fK r;have Q43:=F43.cl m43 H43;have H44:=B9 (n:=2) F44 u.mono TQ.mono iz c x f gb;have Q44:=F44.cl m44 (H44.imp mB);have H45:=AS (n:=1) F45 u.mono jT f;have Q45:=F45.cl m45 H45;have H46:=Ax (n:=2) F46 TQ.mono u.mono f;have Q46:=F46.cl m46 H46;have H47:=Cu (n:=3) F47 Q45.mono Q46.mono Q44.mono y o x c f;have Q47:=F47.cl m47 (H47.imp mB);have H48:=wL (n:=1) F48 p.mono;have R48:=F48.clM m48 H48;have H49:=yq (n:=2) F49 p.mono R48.mono y f c;have R49:=F49.clM m49 H49;have H50:=A3 (n:=1) F50 p.mono f;have R50:=F50.clM m50 H50;have H51:=EV (n:=2) F51 R50.mono p.mono R48.mono c ga iA rF;have R51:=F51.clM m51 H51;have H52:=GG (n:=2) F52 p.mono R50.mono f c fK r;have R52:=F52.clM m52 H52;have H54:=GO (n:=2) F54 j R10.mono Q7.mono y f r;have R54:=MkM.mk ⟨_,_,H54,b54,⟨Pp,Vs,i54,Pq⟩⟩;have H55:=Gd (P:=l.prog) (w:=w) (mg:=mg) (base:=base) (n:=0) F55 j f;have TR:=MthM.mk ⟨_,_,H55,b55,⟨Vt,i55,k55⟩⟩;have H56:=FE (P:=l.prog) (w:=w) (mg:=mg) (base:=base) (n:=0) F56 j;have VE:=MthM.mk ⟨_,_,H56,b56,⟨Vu,i56,k56⟩⟩;have H57:=HF (n:=1) F57 j Q9.mono Q3.mono VE.mono TR.mono ga;have R57:=MthM.mk ⟨_,_,H57,b57,⟨Vv,i57,k57⟩⟩;have H58:=DL (n:=3) F58 j Q6.mono Q2.mono TR.mono;have R58:=MthM.mk ⟨_,_,H58,b58,⟨Vw,i58,k58⟩⟩;have H26:=A2 (n:=4) T j Q16.mono Q17.mono Q18.mono Q19.mono VE.mono R57.mono R58.mono;have R26:=T.clM m26 H26;have H59:=yu (P:=l.prog) (w:=w) (mg:=mg) (base:=base) (n:=0) F59 j;have Q59:=MthD.mk ⟨_,_,H59,b59,⟨Vx,i59,k59⟩⟩;have H28:=Hu (n:=2) be j Q14.mono Q15.mono Q59.mono c o;have Q28:=be.cl m28 H28;have H62:=Hi (P:=l.prog) (w:=w) (mg:=mg) (base:=base) (n:=0) F62 j c;have R62:=MthM.mk ⟨_,_,H62,b62,⟨VA,i62,k62⟩⟩;have H60:=FX (n:=1) F60 j Q8.mono R62.mono TR.mono Q59.mono r f;have R60:=MthM.mk ⟨_,_,H60,b60,⟨Vy,i60,k60⟩⟩;have H61:=Hb (n:=1) F61 j R62.mono VE.mono rA o;have R61:=MthM.mk ⟨_,_,H61,b61,⟨Vz,i61,k61⟩⟩;have H27:=y9 (n:=2) U j Q20.mono Q24.mono Q25.mono Q23.mono R60.mono R61.mono;have R27:=U.clM m27 H27;have H29:=Ha (n:=5) b_ Q28.mono R26.mono R27.mono;have R29:=b_.clM m29 H29;have H63:=Eo (n:=5) F63 MV j R29.mono Q31.mono R54.mono TR.mono f c;have R63:=MkM.mk ⟨_,_,H63,b63,⟨Py,VB,i63,Pz⟩⟩;have H53:=Gx (n:=7) F53 MV R34.mono p.mono R39.mono R40.mono R49.mono Q42.mono Q47.mono R51.mono Q43.mono R52.mono R63.mono;show (H53.imp mB).imp Bq
theorem walk{l:PySem.W.OpenLaw}{q:Å}{c:Y Str}{v:(Str->Ŗ Value)->Heap->Prop}{e:È->Heap->Prop}{d:DefRec}{K:ī->Â}(E:l.most=Z 63)(p:d.params.defaults=[])(r:PyProof.Rows.importsNone q=ŗ)
  (B:∀(w:È)(h:Heap),e w h->(K w.params).In h) (y:∀w:È,Ò (K w.params) Á "least_grown"=Z ŕ/\Ò (K w.params) Á "greatest_first"=Z ŕ)
  (F:∀(w:È)(mg:Str->Ŗ Value)(g:Addr)(h:Heap),(K w.params).In h->h.Ns Á mg->mg d.name=Z (.ref g)->
   ∃j:Í,(∀(s:À)(u:Value),Č s j ⟨[u],[]⟩ [("_law_script",u)])/\∀base:Heap,(K w.params).In base->base.Ns Á mg->FnOk l.prog w (K w.params) mg base aN 9 g j ["_law_script"] (sp_law (K w.params))) :
  PySem.W.WalkO q c v e l.row.toRowW d [] (λf vs=>PySem.call f vs):=
 L2.walk_of (n:=63) (k:=9) (x:="_law_script") (CX:=λ_=>aN) (sp:=λw=>sp_law (K w.params)) E 'b' p r ⟨S,'b','b'⟩ B F (λw H a ns C _ A=>⟨a,ns,S,A,C,(λt o=>by rw[ED (y w)]at o;cases o),λ_=>rfl⟩) λ_ _ _ _ _ z=>z
end Kx
namespace Kx
open PySem PySem.W L2
noncomputable def KK:Params->Frag:=λP=>
 (nat_lit 2,⟨.none,ŕ,(.dict #[] 0),#[]⟩) ::
 (nat_lit 3,⟨(.type "dict"),ŕ,(.dict #[dE P "__name__" 165 ((.str "law_cutyard_k32_none_with_paper" 676)),dE P "__doc__" 166 (.none),dE P "__package__" 167 (.none),dE P "__loader__" 168 ((.builtin "__main__.__loader__#opaque")),dE P "__spec__" 169 (.none),dE P "__annotations__" 170 ((.ref 6)),dE P "__builtins__" 171 ((.ref 4)),dE P "__file__" 173 ((.str "/claim/cut.py" 172)),dE P "__cached__" 174 (.none),dE P "_wall" 193 ((.ref 21)),dE P "YardError" 213 ((.ref 31)),dE P "NoNumber" 229 ((.ref 44)),dE P "common_of_two" 242 ((.ref 53)),dE P "common" 251 ((.ref 60)),dE P "up" 259 ((.ref 67)),dE P "unit" 267 ((.ref 72)),dE P "turned" 273 ((.ref 77)),dE P "evened" 279 ((.ref 82)),dE P "givens" 287 ((.ref 87)),dE P "without" 295 ((.ref 92)),dE P "only_unknown" 301 ((.ref 97)),dE P "first_most_marks" 311 ((.ref 104)),dE P "Ledger" 430 ((.ref 175)),dE P "is_crossed" 439 ((.ref 186)),dE P "greatest_sum" 450 ((.ref 193)),dE P "least_sum" 456 ((.ref 198)),dE P "crossed_unknown" 465 ((.ref 205)),dE P "hopeless_row" 476 ((.ref 212)),dE P "idle_row" 487 ((.ref 219)),dE P "single_row" 493 ((.ref 224)),dE P "uneven_row" 502 ((.ref 231)),dE P "doubled_row" 513 ((.ref 238)),dE P "fixed_unknown" 522 ((.ref 245)),dE P "has_above" 528 ((.ref 250)),dE P "has_below" 534 ((.ref 255)),dE P "sinking_unknown" 545 ((.ref 262)),dE P "rising_unknown" 557 ((.ref 269)),dE P "hanging_unknown" 568 ((.ref 276)),dE P "row_struck" 578 ((.ref 283)),dE P "unknown_struck" 586 ((.ref 290)),dE P "hopeless_shares" 592 ((.ref 295)),dE P "strike" 600 ((.ref 302)),dE P "picked" 606 ((.ref 307)),dE P "slim_plan" 612 ((.ref 312)),dE P "Struck" 675 ((.ref 350)),dE P "_law_whole" 684 ((.ref 361)),dE P "_law_wholes" 690 ((.ref 366)),dE P "_law_pool" 700 ((.ref 373)),dE P "_law_draw" 711 ((.ref 380)),dE P "_law_times" 717 ((.ref 385)),dE P "_law_bounds" 734 ((.ref 392)),dE P "_law_rows" 751 ((.ref 399)),dE P "_law_small" 770 ((.ref 406)),dE P "_law_far" 776 ((.ref 411)),dE P "_law_plan_is" 786 ((.ref 418)),dE P "_law_fields" 792 ((.ref 423)),dE P "_law_givens" 798 ((.ref 428)),dE P "_law_cut" 804 ((.ref 433)),dE P "_law_shuts" 810 ((.ref 438)),dE P "_law_is_choice" 818 ((.ref 445)),dE P "_law_bars" 824 ((.ref 450)),dE P "_law_beyond" 831 ((.ref 457)),dE P "_law_crossed" 841 ((.ref 464)),dE P "_law_put" 851 ((.ref 471)),dE P "_law_lost" 864 ((.ref 478)),dE P "_law_two_rows" 870 ((.ref 483)),dE P "law" 883 ((.ref 490))] 67),#[]⟩) ::
(nat_lit 20,cO "_wall" 187 "_wall" 188 189 1 1 3 15 181 16 (.ref 17) (.ref 18) 19 191 192) ::
 (nat_lit 21,fO Hs "_wall" "_wall" "__main__" 164 20) ::
(nat_lit 52,cO "common_of_two" 232 "common_of_two" 233 234 10 2 3 47 181 48 (.ref 49) (.ref 50) 51 240 241) ::
 (nat_lit 53,fO oz "common_of_two" "common_of_two" "cutyard.wholes" 230 52) ::
(nat_lit 59,cO "common" 243 "common" 244 245 18 1 3 54 181 55 (.ref 56) (.ref 57) 58 249 250) ::
 (nat_lit 60,fO nh "common" "common" "cutyard.wholes" 230 59) ::
(nat_lit 66,cO "up" 252 "up" 253 254 23 2 3 61 181 62 (.ref 63) (.ref 64) 65 257 258) ::
 (nat_lit 67,fO mL "up" "up" "cutyard.wholes" 230 66) ::
(nat_lit 71,cO "unit" 262 "unit" 263 264 28 2 3 68 181 69 .none .none 70 265 266) ::
 (nat_lit 72,fO kH "unit" "unit" "cutyard.rows" 260 71) ::
(nat_lit 76,cO "turned" 268 "turned" 269 270 30 1 3 73 181 74 .none .none 75 271 272) ::
 (nat_lit 77,fO lj "turned" "turned" "cutyard.rows" 260 76) ::
(nat_lit 81,cO "evened" 274 "evened" 275 276 32 1 3 78 181 79 .none .none 80 277 278) ::
 (nat_lit 82,fO kr "evened" "evened" "cutyard.rows" 260 81) ::
(nat_lit 86,cO "givens" 282 "givens" 283 284 38 1 3 83 181 84 .none .none 85 285 286) ::
 (nat_lit 87,fO ju "givens" "givens" "cutyard.plans" 280 86) ::
(nat_lit 91,cO "without" 290 "without" 291 292 45 2 3 88 181 89 .none .none 90 293 294) ::
 (nat_lit 92,fO k7 "without" "without" "cutyard.ledger" 288 91) ::
(nat_lit 96,cO "only_unknown" 296 "only_unknown" 297 298 47 1 3 93 181 94 .none .none 95 299 300) ::
 (nat_lit 97,fO j8 "only_unknown" "only_unknown" "cutyard.ledger" 288 96) ::
(nat_lit 103,cO "first_most_marks" 302 "first_most_marks" 303 304 49 1 3 98 181 99 (.ref 100) (.ref 101) 102 309 310) ::
 (nat_lit 104,fO oo "first_most_marks" "first_most_marks" "cutyard.ledger" 288 103) ::
(nat_lit 117,cO "__init__" 324 "Ledger.__init__" 325 326 61 2 3 112 181 113 (.ref 114) (.ref 115) 116 329 330) ::
 (nat_lit 118,fO mt "__init__" "Ledger.__init__" "cutyard.ledger" 288 117) ::
(nat_lit 124,cO "put_line" 332 "Ledger.put_line" 333 334 75 3 3 119 181 120 (.ref 121) (.ref 122) 123 338 339) ::
 (nat_lit 125,fO lL "put_line" "Ledger.put_line" "cutyard.ledger" 288 124) ::
(nat_lit 131,cO "drop_row" 341 "Ledger.drop_row" 342 343 79 2 3 126 181 127 (.ref 128) (.ref 129) 130 346 347) ::
 (nat_lit 132,fO nL "drop_row" "Ledger.drop_row" "cutyard.ledger" 288 131) ::
(nat_lit 138,cO "turn_to_bound" 349 "Ledger.turn_to_bound" 350 351 83 2 3 133 181 134 (.ref 135) (.ref 136) 137 360 361) ::
 (nat_lit 139,fO lW "turn_to_bound" "Ledger.turn_to_bound" "cutyard.ledger" 288 138) ::
(nat_lit 145,cO "even_row" 363 "Ledger.even_row" 364 365 98 2 3 140 181 141 (.ref 142) (.ref 143) 144 369 370) ::
 (nat_lit 146,fO n5 "even_row" "Ledger.even_row" "cutyard.ledger" 288 145) ::
(nat_lit 152,cO "bound_share" 372 "Ledger.bound_share" 373 374 103 3 3 147 181 148 (.ref 149) (.ref 150) 151 378 379) ::
 (nat_lit 153,fO oG "bound_share" "Ledger.bound_share" "cutyard.ledger" 288 152) ::
(nat_lit 159,cO "fix" 381 "Ledger.fix" 382 383 108 3 3 154 181 155 (.ref 156) (.ref 157) 158 392 393) ::
 (nat_lit 160,fO nW "fix" "Ledger.fix" "cutyard.ledger" 288 159) ::
(nat_lit 164,cO "hang" 395 "Ledger.hang" 396 397 122 2 3 161 181 162 .none .none 163 398 399) ::
 (nat_lit 165,fO jI "hang" "Ledger.hang" "cutyard.ledger" 288 164) ::
(nat_lit 171,cO "let_go" 401 "Ledger.let_go" 402 403 128 4 3 166 181 167 (.ref 168) (.ref 169) 170 408 409) ::
 (nat_lit 172,fO oF "let_go" "Ledger.let_go" "cutyard.ledger" 288 171) ::
 (nat_lit 173,⟨(.type "tuple"),ŕ,(.seq #[(.str "bounds" 411),(.str "extra" 412),(.str "goal" 413),(.str "goal_shares" 414),(.str "gone" 415),(.str "least_marks" 416),(.str "lines" 417),(.str "most_marks" 418),(.str "row_marks" 419),(.str "rows" 420),(.str "staying" 421),(.str "told" 422)] 0),#[]⟩) ::
 (nat_lit 174,⟨(.type "dict"),ŕ,(.dict #[dE P "__module__" 319 ((.str "cutyard.ledger" 288)),dE P "__firstlineno__" 323 ((.int 59 322)),dE P "__init__" 331 ((.ref 118)),dE P "put_line" 340 ((.ref 125)),dE P "drop_row" 348 ((.ref 132)),dE P "turn_to_bound" 362 ((.ref 139)),dE P "even_row" 371 ((.ref 146)),dE P "bound_share" 380 ((.ref 153)),dE P "fix" 394 ((.ref 160)),dE P "hang" 400 ((.ref 165)),dE P "let_go" 410 ((.ref 172)),dE P "__static_attributes__" 423 ((.ref 173)),dE P "__dict__" 425 ((.ref 176)),dE P "__weakref__" 427 ((.ref 177)),dE P "__doc__" 428 (.none)] 4),#[]⟩) ::
 (nat_lit 175,⟨(.type "type"),ŕ,(.cls ⟨"Ledger",[(.type "object")],[(.ref 175),(.type "object")],174,"Ledger",ŗ,[],[],Ř,ŕ,Ř⟩),#[ŕ,ŕ,(Z (.str "Ledger" 312)),(Z (.str "Ledger" 320)),(Z (.builtin "object.__new__")),(Z (.bool ŗ))]⟩) ::
 (nat_lit 176,⟨(.type "getset_descriptor"),ŕ,(.fields #[(.str "__dict__" 424),(.ref 175),(.builtin "function.__dict__"),(.builtin "function.__dict__#set")]),#[]⟩) ::
 (nat_lit 177,⟨(.type "getset_descriptor"),ŕ,(.fields #[(.str "__weakref__" 426),(.ref 175),(.builtin "ExceptionGroup.__weakref__"),.none]),#[]⟩) ::
(nat_lit 185,cO "is_crossed" 433 "is_crossed" 434 435 132 1 3 180 181 181 (.ref 182) (.ref 183) 184 437 438) ::
 (nat_lit 186,fO l6 "is_crossed" "is_crossed" "cutyard.rules" 431 185) ::
(nat_lit 192,cO "greatest_sum" 440 "greatest_sum" 441 442 134 2 3 187 181 188 (.ref 189) (.ref 190) 191 448 449) ::
 (nat_lit 193,fO mf "greatest_sum" "greatest_sum" "cutyard.rules" 431 192) ::
(nat_lit 197,cO "least_sum" 451 "least_sum" 452 453 144 2 3 194 181 195 .none .none 196 454 455) ::
 (nat_lit 198,fO kS "least_sum" "least_sum" "cutyard.rules" 431 197) ::
(nat_lit 204,cO "crossed_unknown" 457 "crossed_unknown" 458 459 147 2 3 199 181 200 (.ref 201) (.ref 202) 203 463 464) ::
 (nat_lit 205,fO nu "crossed_unknown" "crossed_unknown" "cutyard.rules" 431 204) ::
(nat_lit 211,cO "hopeless_row" 466 "hopeless_row" 467 468 152 2 3 206 181 207 (.ref 208) (.ref 209) 210 474 475) ::
 (nat_lit 212,fO ma "hopeless_row" "hopeless_row" "cutyard.rules" 431 211) ::
(nat_lit 218,cO "idle_row" 477 "idle_row" 478 479 158 2 3 213 181 214 (.ref 215) (.ref 216) 217 485 486) ::
 (nat_lit 219,fO nX "idle_row" "idle_row" "cutyard.rules" 431 218) ::
(nat_lit 223,cO "single_row" 488 "single_row" 489 490 164 1 3 220 181 221 .none .none 222 491 492) ::
 (nat_lit 224,fO ka "single_row" "single_row" "cutyard.rules" 431 223) ::
(nat_lit 230,cO "uneven_row" 494 "uneven_row" 495 496 169 1 3 225 181 226 (.ref 227) (.ref 228) 229 500 501) ::
 (nat_lit 231,fO nJ "uneven_row" "uneven_row" "cutyard.rules" 431 230) ::
(nat_lit 237,cO "doubled_row" 503 "doubled_row" 504 505 174 1 3 232 181 233 (.ref 234) (.ref 235) 236 511 512) ::
 (nat_lit 238,fO lZ "doubled_row" "doubled_row" "cutyard.rules" 431 237) ::
(nat_lit 244,cO "fixed_unknown" 514 "fixed_unknown" 515 516 182 2 3 239 181 240 (.ref 241) (.ref 242) 243 520 521) ::
 (nat_lit 245,fO md "fixed_unknown" "fixed_unknown" "cutyard.rules" 431 244) ::
(nat_lit 249,cO "has_above" 523 "has_above" 524 525 187 2 3 246 181 247 .none .none 248 526 527) ::
 (nat_lit 250,fO ky "has_above" "has_above" "cutyard.rules" 431 249) ::
(nat_lit 254,cO "has_below" 529 "has_below" 530 531 189 2 3 251 181 252 .none .none 253 532 533) ::
 (nat_lit 255,fO k6 "has_below" "has_below" "cutyard.rules" 431 254) ::
(nat_lit 261,cO "sinking_unknown" 535 "sinking_unknown" 536 537 191 4 3 256 181 257 (.ref 258) (.ref 259) 260 543 544) ::
 (nat_lit 262,fO oB "sinking_unknown" "sinking_unknown" "cutyard.rules" 431 261) ::
(nat_lit 268,cO "rising_unknown" 546 "rising_unknown" 547 548 196 4 3 263 181 264 (.ref 265) (.ref 266) 267 555 556) ::
 (nat_lit 269,fO ou "rising_unknown" "rising_unknown" "cutyard.rules" 431 268) ::
(nat_lit 275,cO "hanging_unknown" 558 "hanging_unknown" 559 560 202 4 3 270 181 271 (.ref 272) (.ref 273) 274 566 567) ::
 (nat_lit 276,fO mJ "hanging_unknown" "hanging_unknown" "cutyard.rules" 431 275) ::
(nat_lit 282,cO "row_struck" 571 "row_struck" 572 573 208 1 3 277 181 278 (.ref 279) (.ref 280) 281 576 577) ::
 (nat_lit 283,fO nc "row_struck" "row_struck" "cutyard.strikes" 569 282) ::
(nat_lit 289,cO "unknown_struck" 579 "unknown_struck" 580 581 226 1 3 284 181 285 (.ref 286) (.ref 287) 288 584 585) ::
 (nat_lit 290,fO lX "unknown_struck" "unknown_struck" "cutyard.strikes" 569 289) ::
(nat_lit 294,cO "hopeless_shares" 587 "hopeless_shares" 588 589 242 1 3 291 181 292 .none .none 293 590 591) ::
 (nat_lit 295,fO kj "hopeless_shares" "hopeless_shares" "cutyard.strikes" 569 294) ::
(nat_lit 301,cO "strike" 593 "strike" 594 595 252 1 3 296 181 297 (.ref 298) (.ref 299) 300 598 599) ::
 (nat_lit 302,fO ms "strike" "strike" "cutyard.strikes" 569 301) ::
(nat_lit 306,cO "picked" 601 "picked" 602 603 257 2 3 303 181 304 .none .none 305 604 605) ::
 (nat_lit 307,fO la "picked" "picked" "cutyard.strikes" 569 306) ::
(nat_lit 311,cO "slim_plan" 607 "slim_plan" 608 609 259 1 3 308 181 309 .none .none 310 610 611) ::
 (nat_lit 312,fO ld "slim_plan" "slim_plan" "cutyard.strikes" 569 311) ::
(nat_lit 325,cO "__init__" 625 "Struck.__init__" 626 627 264 2 3 320 181 321 (.ref 322) (.ref 323) 324 633 634) ::
 (nat_lit 326,fO lK "__init__" "Struck.__init__" "cutyard.strikes" 569 325) ::
(nat_lit 332,cO "point_back" 636 "Struck.point_back" 637 638 283 2 3 327 181 328 (.ref 329) (.ref 330) 331 641 642) ::
 (nat_lit 333,fO xz "point_back" "Struck.point_back" "cutyard.strikes" 569 332) ::
(nat_lit 339,cO "ray_back" 644 "Struck.ray_back" 645 646 286 2 3 334 181 335 (.ref 336) (.ref 337) 338 649 650) ::
 (nat_lit 340,fO CZ "ray_back" "Struck.ray_back" "cutyard.strikes" 569 339) ::
(nat_lit 346,cO "paper_back" 652 "Struck.paper_back" 653 654 289 3 3 341 181 342 (.ref 343) (.ref 344) 345 658 659) ::
 (nat_lit 347,fO xa "paper_back" "Struck.paper_back" "cutyard.strikes" 569 346) ::
 (nat_lit 348,⟨(.type "tuple"),ŕ,(.seq #[(.str "breadth" 661),(.str "extra" 662),(.str "kept" 663),(.str "kind" 664),(.str "ledger" 665),(.str "paper" 666),(.str "slim" 667)] 0),#[]⟩) ::
 (nat_lit 349,⟨(.type "dict"),ŕ,(.dict #[dE P "__module__" 620 ((.str "cutyard.strikes" 569)),dE P "__firstlineno__" 624 ((.int 262 623)),dE P "__init__" 635 ((.ref 326)),dE P "point_back" 643 ((.ref 333)),dE P "ray_back" 651 ((.ref 340)),dE P "paper_back" 660 ((.ref 347)),dE P "__static_attributes__" 668 ((.ref 348)),dE P "__dict__" 670 ((.ref 351)),dE P "__weakref__" 672 ((.ref 352)),dE P "__doc__" 673 (.none)] 4),#[]⟩) ::
 (nat_lit 350,⟨(.type "type"),ŕ,(.cls ⟨"Struck",[(.type "object")],[(.ref 350),(.type "object")],349,"Struck",ŗ,[],[],Ř,ŕ,Ř⟩),#[ŕ,ŕ,(Z (.str "Struck" 613)),(Z (.str "Struck" 621)),(Z (.builtin "object.__new__")),(Z (.bool ŗ))]⟩) ::
 (nat_lit 351,⟨(.type "getset_descriptor"),ŕ,(.fields #[(.str "__dict__" 669),(.ref 350),(.builtin "function.__dict__"),(.builtin "function.__dict__#set")]),#[]⟩) ::
 (nat_lit 352,⟨(.type "getset_descriptor"),ŕ,(.fields #[(.str "__weakref__" 671),(.ref 350),(.builtin "ExceptionGroup.__weakref__"),.none]),#[]⟩) ::
(nat_lit 360,cO "_law_whole" 678 "_law_whole" 679 680 292 1 3 355 181 356 (.ref 357) (.ref 358) 359 682 683) ::
 (nat_lit 361,fO nU "_law_whole" "_law_whole" "law_cutyard_k32_none_with_paper" 676 360) ::
(nat_lit 365,cO "_law_wholes" 685 "_law_wholes" 686 687 294 2 3 362 181 363 .none .none 364 688 689) ::
 (nat_lit 366,fO jW "_law_wholes" "_law_wholes" "law_cutyard_k32_none_with_paper" 676 365) ::
(nat_lit 372,cO "_law_pool" 691 "_law_pool" 692 693 296 1 3 367 181 368 (.ref 369) (.ref 370) 371 698 699) ::
 (nat_lit 373,fO nE "_law_pool" "_law_pool" "law_cutyard_k32_none_with_paper" 676 372) ::
(nat_lit 379,cO "_law_draw" 701 "_law_draw" 702 703 304 2 3 374 181 375 (.ref 376) (.ref 377) 378 709 710) ::
 (nat_lit 380,fO nT "_law_draw" "_law_draw" "law_cutyard_k32_none_with_paper" 676 379) ::
(nat_lit 384,cO "_law_times" 712 "_law_times" 713 714 313 2 3 381 181 382 .none .none 383 715 716) ::
 (nat_lit 385,fO ki "_law_times" "_law_times" "law_cutyard_k32_none_with_paper" 676 384) ::
(nat_lit 391,cO "_law_bounds" 718 "_law_bounds" 719 720 315 3 3 386 181 387 (.ref 388) (.ref 389) 390 732 733) ::
 (nat_lit 392,fO mR "_law_bounds" "_law_bounds" "law_cutyard_k32_none_with_paper" 676 391) ::
(nat_lit 398,cO "_law_rows" 735 "_law_rows" 736 737 335 4 3 393 181 394 (.ref 395) (.ref 396) 397 749 750) ::
 (nat_lit 399,fO mj "_law_rows" "_law_rows" "law_cutyard_k32_none_with_paper" 676 398) ::
(nat_lit 405,cO "_law_small" 752 "_law_small" 753 754 352 4 3 400 181 401 (.ref 402) (.ref 403) 404 768 769) ::
 (nat_lit 406,fO nR "_law_small" "_law_small" "law_cutyard_k32_none_with_paper" 676 405) ::
(nat_lit 410,cO "_law_far" 771 "_law_far" 772 773 367 3 3 407 181 408 .none .none 409 774 775) ::
 (nat_lit 411,fO i7 "_law_far" "_law_far" "law_cutyard_k32_none_with_paper" 676 410) ::
(nat_lit 417,cO "_law_plan_is" 777 "_law_plan_is" 778 779 383 2 3 412 181 413 (.ref 414) (.ref 415) 416 784 785) ::
 (nat_lit 418,fO nI "_law_plan_is" "_law_plan_is" "law_cutyard_k32_none_with_paper" 676 417) ::
(nat_lit 422,cO "_law_fields" 787 "_law_fields" 788 789 397 2 3 419 181 420 .none .none 421 790 791) ::
 (nat_lit 423,fO lb "_law_fields" "_law_fields" "law_cutyard_k32_none_with_paper" 676 422) ::
(nat_lit 427,cO "_law_givens" 793 "_law_givens" 794 795 406 1 3 424 181 425 .none .none 426 796 797) ::
 (nat_lit 428,fO jF "_law_givens" "_law_givens" "law_cutyard_k32_none_with_paper" 676 427) ::
(nat_lit 432,cO "_law_cut" 799 "_law_cut" 800 801 415 3 3 429 181 430 .none .none 431 802 803) ::
 (nat_lit 433,fO iK "_law_cut" "_law_cut" "law_cutyard_k32_none_with_paper" 676 432) ::
(nat_lit 437,cO "_law_shuts" 805 "_law_shuts" 806 807 435 2 3 434 181 435 .none .none 436 808 809) ::
 (nat_lit 438,fO kn "_law_shuts" "_law_shuts" "law_cutyard_k32_none_with_paper" 676 437) ::
(nat_lit 444,cO "_law_is_choice" 811 "_law_is_choice" 812 813 441 2 3 439 181 440 (.ref 441) (.ref 442) 443 816 817) ::
 (nat_lit 445,fO oq "_law_is_choice" "_law_is_choice" "law_cutyard_k32_none_with_paper" 676 444) ::
(nat_lit 449,cO "_law_bars" 819 "_law_bars" 820 821 445 3 3 446 181 447 .none .none 448 822 823) ::
 (nat_lit 450,fO jU "_law_bars" "_law_bars" "law_cutyard_k32_none_with_paper" 676 449) ::
(nat_lit 456,cO "_law_beyond" 825 "_law_beyond" 826 827 469 1 3 451 181 452 (.ref 453) (.ref 454) 455 829 830) ::
 (nat_lit 457,fO lB "_law_beyond" "_law_beyond" "law_cutyard_k32_none_with_paper" 676 456) ::
(nat_lit 463,cO "_law_crossed" 832 "_law_crossed" 833 834 471 2 3 458 181 459 (.ref 460) (.ref 461) 462 839 840) ::
 (nat_lit 464,fO nV "_law_crossed" "_law_crossed" "law_cutyard_k32_none_with_paper" 676 463) ::
(nat_lit 470,cO "_law_put" 842 "_law_put" 843 844 476 3 3 465 181 466 (.ref 467) (.ref 468) 469 849 850) ::
 (nat_lit 471,fO nB "_law_put" "_law_put" "law_cutyard_k32_none_with_paper" 676 470) ::
(nat_lit 477,cO "_law_lost" 852 "_law_lost" 853 854 479 2 3 472 181 473 (.ref 474) (.ref 475) 476 862 863) ::
 (nat_lit 478,fO mD "_law_lost" "_law_lost" "law_cutyard_k32_none_with_paper" 676 477) ::
(nat_lit 482,cO "_law_two_rows" 865 "_law_two_rows" 866 867 490 2 3 479 181 480 .none .none 481 868 869) ::
 (nat_lit 483,fO jK "_law_two_rows" "_law_two_rows" "law_cutyard_k32_none_with_paper" 676 482) ::
(nat_lit 489,cO "law" 871 "law" 872 873 500 1 3 484 181 485 (.ref 486) (.ref 487) 488 881 882) ::
 (nat_lit 490,fO nC "law" "law" "law_cutyard_k32_none_with_paper" 676 489)::[]
end Kx
noncomputable def PySem.W.Fast.tw12085072424359882344:=PySem.Challenge.pw_cutyard_k32_none_with_paper
theorem PySem.W.Fast.te12085072424359882344:PySem.Challenge.pw_cutyard_k32_none_with_paper=PySem.W.Fast.tw12085072424359882344:=rfl
noncomputable def PySem.W.Fast.tw5385739360559341639:=Kx.KK
theorem PySem.W.Fast.te5385739360559341639:Kx.KK=PySem.W.Fast.tw5385739360559341639:=rfl
structure PySem.W.Fast:Prop where(tw10123141235214425646 tw10517110755724117877 tw10586351399782175757 tw10666556412895471452 tw10877479532861269943 tw10931644212976642202 tw11179944317983042534 tw112146760645714003 tw11488274469011890801 tw11796842274891683597 tw11863194598611094014 tw11915196036610723744 tw11953748479423386910 tw11974193778360706027 tw11974403057608847968 tw11993546808262046290 tw12014511819716558552 tw12051279282543889569 tw1207442304172344491 tw12099170119999021215 tw1247300658812266592 tw12507862368017607979 tw12611881194759853817 tw13067554010472989340 tw13114190808962979821 tw13195041500794048578 tw1322346224442644232 tw13323591271294746064 tw13360421252597035977 tw13407678816193922048 tw13695960588005386951 tw13706491537795318274 tw13748789366470628983 tw13764277128742683636 tw13827761038204326754 tw13849020244704322542 tw14127182453830366674 tw14137825778576998608 tw14331449238963458743 tw14471621483905124619 tw14476816591336190096 tw14645796495004624607 tw14712095396885400666 tw14715888555355770665 tw14790790511949380140 tw1491545946329747666 tw15013467283370610490 tw15020143584728405582 tw15091562371577624844 tw15321612364308917642 tw15443025806341703940 tw15477327177197692838 tw15509870034619025753 tw15568301980675770602 tw15578658304525583951 tw15773398172042713205 tw15897023485939210125 tw16091513211839656215 tw16262845625449746963 tw16524710247913656849 tw16842458874306991280 tw17090727631637295107 tw17116440987090254725 tw17118766402304740317 tw17206108043473467730 tw17448172162360649477 tw17473341771012857675 tw17557672201884235447 tw17855060386938163837 tw18157923247479990440 tw18187700539599235122 tw18280076585621859209 tw1828630609904819564 tw18308732509232990694 tw18379070265100645580 tw1919538833602705416 tw2388628297720850437 tw241902474695769298 tw2641137271899267712 tw2702928474506960882 tw2861588743897316575 tw2887277931341340998 tw2941240984247994726 tw3126815842388155801 tw317668977405160181 tw3205566201044599205 tw3213904793503630483 tw3401138179182788795 tw3489635502620096314 tw357108943683404229 tw3644029683638442379 tw3895921111181725316 tw3898215919752001765 tw3953203889477450322 tw409823504042065909 tw4305427044261807146 tw4342423331911352474 tw4369031447354648942 tw4475876590305484980 tw4487319143611706951 tw4488760829512958256 tw455674735293668112 tw4771552927085431299 tw5015622900530404051 tw5023461104480704390 tw5088404162046705650 tw520382452203151666 tw5211437763796575322 tw529216842276588596 tw5317328190314174738 tw5372449237883379791 tw5402463044658307328 tw5499103949491399314 tw5501645972158012096 tw557497549926432089 tw5589395780690793691 tw5690521243711957553 tw5716816819691489409 tw5900225045931030260 tw5916135607412915492 tw6089269249306836988 tw6158644034349590305 tw6170671613509938445 tw6180976058894691581 tw6184224684821753421 tw6203969201885154402 tw6296386126256077390 tw6489016566054843184 tw6585902754161399937 tw6639639701925144816 tw6665370288232954869 tw6680979069174316167 tw6759635012495708761 tw6862030859019606831 tw7050067265275518059 tw7067328545342540756 tw7166918275083271563 tw7203163963102031170 tw7223281859412362659 tw7403331440232110356 tw7408496958478399260 tw7648274517624240397 tw7753037045591225615 tw7806930036458004986 tw7825748618759404845 tw8080472572872042982 tw8083910551447140355 tw813076142447162362 tw8360788173688728994 tw8530799380958669929 tw8959075065328164606 tw9126267017055588128 tw9305463735602187570 tw9332881889397262935 tw9476054975622485796 tw9546082685090951280 tw9603192595953851477 tw9750648772248219250 tw9980371557045450605:True)
end
open PySem PySem.W PyProof.Rows
set_option maxRecDepth 100000 in
set_option maxHeartbeats 0 in
theorem PySem.Challenge.cw_cutyard_k32_none_with_paper_holds : PySem.Challenge.rw_cutyard_k32_none_with_paper.Holds := by
 w_on;o_law;o_head (kHook Kx.KK (2::3::20::21::52::53::59::60::66::67::71::72::76::77::81::82::86::87::91::92::96::97::103::104::117::118::124::125::131::132::138::139::145::146::152::153::159::160::164::165::171::172::173::174::175::176::177::185::186::192::193::197::198::204::205::211::212::218::219::223::224::230::231::237::238::244::245::249::250::254::255::261::262::268::269::275::276::282::283::289::290::294::295::301::302::306::307::311::312::325::326::332::333::339::340::346::347::348::349::350::351::352::360::361::365::366::372::373::379::380::384::385::391::392::398::399::405::406::410::411::417::418::422::423::427::428::432::433::437::438::444::445::449::450::456::457::463::464::470::471::477::478::482::483::489::490::[]) (λ_=>by kernel_rfl));(case hw=>w_witness2)
 k_fill
 refine Kx.walk (l:=PySem.Challenge.rw_cutyard_k32_none_with_paper) rfl rfl (by decide +kernel) (λw h Y=>kIn_of Y) (λw=>⟨?N1,?N2⟩) ?F
 (case N1=>k_is);(case N2=>k_is)
 case F=>
  intro w mg fa h KX G Rb;refine' Kx.all_mk KX G Rb ?NG ?NH ?_ ?_ ?_ ?_ ?_ ?_ ?_ ?_ ?_ ?_ ?_ ?_ ?_ ?_ ?_ ?_ ?_ ?_ ?_ ?_ ?_ ?_ ?_ ?_ ?_ ?_ ?_ ?_ ?_ ?_ ?_ ?_ ?_ ?_ ?_ ?_ ?_ ?_ ?_ ?_ ?_ ?_ ?_ ?_ ?_ ?_ ?_ ?_ ?_ ?_ ?_ ?_ ?_ ?_ ?_ ?_ ?_ ?_ ?_ ?_ ?_ ?_ ?_ ?_ ?_ ?_ ?_ ?_ ?_ ?_ ?_ ?_ ?_ ?_ ?_ ?_ ?_ ?_ ?_ ?_ ?_ ?_ ?_ ?_ ?_ ?_ ?_ ?_ ?_ ?_ ?_ ?_ ?_ ?_ ?_ ?_ ?_ ?_ ?_ ?_ ?_ ?_ ?_ ?_ ?_ ?_ ?_ ?_ ?_ ?_
  (case NG=>k_is)
  (case NH=>k_is)
  all_goals first|(refine' L2.Has.of ?a ?l ?c;(case a=>k_is);(case l=>k_is);(case c=>k_is))|(refine' L2.HasM.of ?a ?i ?l ?c ?k;(case a=>k_is);(case i=>k_is);(case l=>k_is);(case c=>k_is);(case k=>k_is))|k_is|skip

