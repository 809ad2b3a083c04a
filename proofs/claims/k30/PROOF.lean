import PyProof.Rows.All
import Wide.All
import OpenK.AllK
import Wide.FinOn
import Lean
import PyProof.EqAt
import PyProof.EqKinds
import PyProof.TupleCall
import PyProof.NeKinds
import KE.KLam
import KE.KMinKey
import KE.KSortTup
import PyProof.AutoListH
import PyProof.MeetsStr
import PyProof.StrLawsJoin
import PyProof.FitsReplace
import PyProof.Rows.TupDisplay
import PyProof.ListRange
import PyProof.ZipIter
import PyProof.ListNew
import KE.KSortKey
import PyProof.StationsW
import PyProof.ExcClass2
import PyProof.ExcInit
import PyProof.ExcBaseAll.ValueError
import PyProof.RulesAs
import PyProof.NsDelKeeps
import PyProof.ExcAttrAll.ValueError
import PyProof.IsiBase
import KE.KIsAll
import PyProof.InstStoreFacts
import PyProof.Rows.SetFrom
import PyProof.SetRoads
import KE.KRevIter
import PyProof.LongRange
import PySem.Challenge.RW_cutyard_k30_spots_back
open PySem.W (instObj methodObj Frag lookIn InstAt plainGet hasDictIn findIn handedIn plainGet_of isFn plainOver takerIn makesIn typeIn emptyDict keepIn callWith_K cellsFrom_some fnOf codeIn kIn_of mg_of nsIn mg_none_of)
set_option Elab.async false
set_option linter.all false
set_option maxRecDepth 100000
noncomputable section
open List renaming length_map->Jp,getElem?_append_right->Jq,length_append->Jr,getElem?_append_left->Js,length_set->Ju,mem_of_getElem?->Jw,mem_cons_of_mem->Jy,mem_cons_self->JA,mem_singleton->JB,getD_eq_getElem?_getD->JD,getElem?_map->JF,size_toArray->JG,length_cons->JH,mem_cons->JI,mem_map->JL,append_assoc->JM,getElem?_set_ne->JN,length_range->JQ,getElem?_set_self->JS,mem_append->JT,mem_range->JU,map_cons->JV,mem_of_find?_eq_some->JW,nodup_cons->JZ,lookup_cons->J0,length_replicate->J1,length_singleton->J2,append_nil->J5,mem_filter->J9,flatten_cons->Kb,getElem?_eq_none->Kd,length_take->Ke,map_map->Kh,mem_append_right->Ki,replicate_succ->Kl,getElem?_eq_getElem->Km,getElem?_of_mem->Ko,length_eq_zero_iff->Kq,getElem?_eq_some_iff->Kr,map_append->Ku,take_length->KL,find?_cons_of_neg->KN,nodup_append->KP,length_filter_le->KR,getElem?_replicate->KS,length_eraseIdx_of_lt->KZ,ext_getElem?->K2,length_reverse->K4,length_nil->K5,all_eq_true->K7,mem_of_mem_eraseIdx->K8,take_of_length_le->Lb,find?_cons_of_pos->Lc,length_drop->Lf,find?_cons->Li,set_append_left->Lj,map_set->Lk,not_mem_nil->Lu,getElem_mem->Lv,of_mem_zip->Ly,range_succ->Lz,any_cons->LA,foldl_append->LF,mem_append_left->LG,mem_reverse->LJ,filterMap_cons->LK,getElem?_range->LL,mem_filterMap->LM,find?_some->LO,mem_eraseIdx_iff_getElem?->LP,pairwise_lt_range->LQ,getElem?_replicate_of_lt->LR,getElem?_zipWith->LW,set_append_right->LY,any_eq_true->L4,nil_append->L7,getElem?_zip_eq_some->L8,getElem?_eq_none_iff->L9,mem_or_eq_of_mem_set->Ma,getElem?_take_of_lt->Md,getElem?_drop->Mg,filter_append->Mj,pairwise_cons->Ml,set_cons_zero->Mm,filter_cons_of_pos->Mq,filter_cons_of_neg->Mr,take_succ_eq_append_getElem->Mz,mem_flatMap->MB,eraseIdxIfInBounds_toArray->MG,eraseIdx_eq_take_drop_succ->MH,forIn_cons->MM,mem_of_mem_take->MR,map_congr_left->MS,drop_zero->MU,dropLast_concat_getLast->MW,filterMap_map->MX,lookup_append->MZ,set_cons_succ->M4,drop_eq_getElem_cons->Nb,findIdx?_eq_none_iff->Nc,mem_flatten->Nk,map_zipWith->Nl,map_reverse->Nm,eq_of_mem_replicate->Nn,length_erase_of_mem->Np,map_zip_eq_zipWith->Nr,getElem?_cons_succ->Nt,length_zip->Nw,length_pos_of_mem->NB,forIn_nil->NC,pairwise_reverse->NG,countP_le_length->NJ,all_cons->NL,any_map->NN
open PySem renaming wpAny_bind->Jt,wpAny_pure->JK,boot_len->J4,wpAny_loadPart'->Ks,mem_of_lookup->KA,wpAny_field->KI,wpAny_callSpecial?_slot->KU,wpAny_mono->Ld,wpAny_holding->Le,wpAny_newObj_type->Lm,wpAny_call_entry->Lq,wpAny_seqItems->Ls,wpAny_setField_rec->Lw,wpAny_passesOwn->Lx,wpAny_truthy_bool->LC,call_meets->LH,wpAny_pyIter_tuple->LN,sizeLine_eq->L6,wpAny_Call_Name_kw->Mb,wpAny_pyIter_list->Ms,wpAny_pyNext_list_item->Mt,wpAny_pyNext_list_end->MC,wpAny_execs_nil->MI,wpAny_updateSeq_pair->MN,call_isinstance->MP,tupleKind_room_in1->MY,wpAny_standAt->M5,rangeSize_one->M6,wpAny_onRaise->M7,typeIs_int->Na,codeAny_mono->Ng,noFill_tuple_add->Nh,wpAny_ite_false->Nv,Shared->À,mainGlobals->Á,Expr->Ã,model->Ä,Program->Å,assignEach->Æ,Stmt->Ç,World->È,compareOp->É,Around->Ê,attributeBase->Ë,foldedSetIterable->Ì,FuncData->Í,swapsWith->Î,binaryOp->Ï,IsPair->Ó,keywordEach->Ô,Obj->Õ,Pos->Ö,cellsFrom->Ø,Keyword->Ù,sysModules->Ú,bootBuiltins->Û,backToKw->Þ,sliceBounds->á,Scope->â,getItem->ä,cLine->å,builtinsNs->æ,IsZip->ç,swapsWithSole->è,swappedStores->é,Env->ë,codeAny->ì,IsPart->î,letOwnedTupleGo->ñ,rawInt->ò,pyNext->ó,PassesOwn->ø,valueAt->ü,callerA->ý,argBest->þ,Operator->ÿ,IntMulOk->Ā,tupleKind->Ă,seqIndex?->ă,subscripted->Ć,BindsTo->Ď,wpAny_rule->ď,newFunctionEnv->Đ,field->đ,compEnvC->Ē,atKey->ē,CmpOp->Ĕ,wpAny_binaryOp_repeat_ref->ĕ,wpAny_attempt->ė,seq_tuple_add->Ę,wpAny_pyNext_tuple_item->Ĝ,bindL->ĝ,bindC->Ğ,wpAny_typeOf->ĥ,wpAny_pyNext_tuple_end->Ħ,wpAny_pyIter_tupleiter->ħ,seqIndex_neg->Ĩ,concat_meets->ĩ,Params->ī,wpAny_pyIter_listiter->į,wpAny_pyIter_revIter->Ĵ,wpAny_letGo->ĵ,seqIndex_of->Ķ,IsRangeIter->ķ,wpAny_pyIter_range->Ļ,typeIs_str->ļ,pyIter->Ľ,Tok->Ł,wpAny_sequenceKey->ņ,wpAny_pyIter_enum->Ň,slot_list_getitem->ň,Meets->Ō,wpAny_pyIter_zip->ō,wpAny_isInstance->Ŏ,small_one->ŏ,wpAny_specialOf->Œ,pushCells_keeps->œ,isinstance_true->Ŕ,call_list_range->ŕ
open Nat renaming le_refl->Jx,le_trans->JR,sub_self->J6,ne_of_lt->J7,lt_of_lt_of_le->Ka,lt_or_ge->Kg,pow_le_pow_right->Kp,not_lt_zero->Kv,le_of_lt->KQ,add_sub_cancel_left->KW,pow_lt_pow_right->KY,lt_of_le_of_lt->K6,lt_irrefl->K9,zero_le->Lh,mul_le_mul_right->Ll,lt_succ_of_lt->LD,lt_succ_self->LI,mul_le_mul->Mo,le_add_right->MA,add_sub_add_right->MD,mul_comm->MK,lt_trans->ML,le_of_eq->Nf,add_mul->Ny,ne_of_gt->NM
open PySem.Heap renaming get?_push_of_some->Jz,get?_push_size->JJ,lt_size->JP,size_push->Kj
open PyProof.Rows renaming boot_tuple->JE,callWith_type1->Kw,slot_tuple_getitem->KD,boot_int->Lg,boot_abs->L0,boot_max->ME,boot_all->MF,boot_sum->ND,boot_any->NI,envOfC->ê,AllBare->ð,subscriptTail->Ě,boot_list->Ġ,IsTup->ġ,subscriptTail_builtinR->ĭ,IntsAre->Į,entry_tuple_getitem->Ĺ,args_tuple_getitem->ł
open PySem.PassesOwn renaming never->JO
open Option.some renaming inj->JY
open Bool renaming false_ne_true->J8,and_eq_true->KJ,false_and->Lo,and_false->Lr,not_eq_true'->M9,eq_iff_iff->Nu,false_eq_true->Ĥ,bne_false->ĺ,bne_true->ń,true->ř,false->Ś
open Int renaming zero_add->Kn,toNat_natCast->KC,eq_ofNat_of_zero_le->KG,zero_mul->K0,le_refl->K1,mul_le_mul_of_nonneg_left->LS,mul_le_mul_of_nonpos_left->LU,add_zero->L1,natAbs_mul->MV,emod_lt_of_pos->M3,natAbs_ediv_le_natAbs->Nd,le_trans->Nj,sub_zero->Nq,emod_nonneg->Nx,le_ediv_iff_mul_le->Nz,neg_mul->NA,natAbs_neg->NH,zero_sub->NO,mul_zero->NP
open Classical renaming byContradiction->Kt
open Ne renaming symm->Kz
open PySem.W renaming mg_none_of->KO,Frag->Â,findIn->Ð,nsIn->Ò,emptyDict->Ý,keepIn->ã,instObj->í,plainGet->ô,hasDictIn->ö,plainOver->Ą,codeIn->ą,plainGet_of->ć,fnOf->ę,methodObj->ğ,makesIn->Ī,lookIn->ľ,takerIn->Ŋ
open Array renaming length_toList->K3,toList->Ņ,ext'->ő
open PySem.F renaming plainAttrs_list->La,slot_tuple_iterator_next->LB,slot_tuple_mul->L5,args_tuple_add_2->Me,slot_list_append->Mh,type_list_append->Mi,entry_tuple_add->Mp,slot_tuple_add->Mu,slot_int_rmul->MJ,slot_zip_next->MO,args_tuple_iterator_next_1->MT,entry_tuple_iterator_next->M0,args_tuple_mul_2->M1,entry_tuple_mul->M8
open Decidable renaming em->LX
open Option renaming isSome_iff_exists->Mc,map_eq_some_iff->Mv,isSome_some->Ė,isSome_map->ě,getD_none->Ģ,bind_some->ģ,none->Ń,some->Z,none->ŗ
open PySem.AutoSeq1 renaming sub_tuple_tuple->Mf,idx_int->Ni
open PySem.Paired renaming length->Mw,snoc->Č
open List.cons renaming inj->Mx
open False renaming elim->Ñ
open True renaming intro->Ü
open Or renaming inr->ß
open Sum renaming inl->à,inr->ú
open PySem.Data renaming cell->ï,seq->ù,fields->û
open PySem.Obj renaming mapSeq->õ,data_mapFields->Ĭ
open PySem.Calls renaming Name_function_global->ā
open PySem.Around renaming under->Ĉ
open Sum.inl renaming inj->ĉ
open PySem.IsRange renaming new->Ċ
open PySem.Shared renaming heap->ċ
open PySem.Code renaming isFrame->č,frames->Ő
open PySem.MeetsSeq.EqGives renaming int->ĸ
open PySem.W.WShape renaming has->ŋ
open PySem.W.WData renaming int->Ŗ
abbrev Y:=List
abbrev Ř:=Option
theorem S{α:Sort _}{a:α}:a=a:=rfl
local macro_rules|`(())=>`(by omega)
local macro_rules|`('b')=>`(by decide)
local macro_rules|`('a')=>`(by decide +kernel)
local macro_rules|`(tactic|show $e)=>`(tactic|exact $e)
section
open Lean
def cV9:Nat->Term->MacroM (TSyntax `rcasesPat)
 |0,_=>Macro.throwUnsupported
 |n+1,t=>do match t with
  |`($x:ident)=>`(rcasesPat|$x:ident)
  |`(_)=>`(rcasesPat|_)
  |`(⟨$ps,*⟩)=>do
   let qs←ps.getElems.mapM fun p=>do
    let q←cV9 n p
    `(Lean.Parser.Tactic.rcasesPatLo|$q:rcasesPat)
   `(rcasesPat|⟨$qs,*⟩)
  |_=>Macro.throwUnsupported
end
local macro_rules|`(tactic|let $p:term:=$e)=>do
 let q←cV9 99 p
 `(tactic|obtain $q:rcasesPat:=$e)
abbrev fI(x:PySem.Str):Prop:=(x==("__classdict__":PySem.Str))=false
abbrev ab(x:PySem.Str):Prop:=(x==("__debug__":PySem.Str))=false
abbrev Jv:=@if_neg
abbrev JC:=@if_pos
abbrev JX:=@decide_eq_false
abbrev J3:=@beq_self_eq_true
abbrev Kc:=@of_decide_eq_true
abbrev Kf:=@congrArg
abbrev Kk:=@decide_eq_true
abbrev KH:=@of_decide_eq_false
abbrev Ln:=@beq_eq_false_iff_ne
abbrev LV:=@decide_eq_true_eq
abbrev L3:=@beq_iff_eq
abbrev Mn:=@if_true
abbrev MQ:=@beq_false_of_ne
abbrev NK:=@if_false
local macro_rules|`(tactic|ac_rfl)=>`(tactic|exact⟨rfl,rfl,rfl,by decide +kernel,rfl,by decide +kernel,by decide +kernel⟩)
local macro_rules|`(tactic|lia)=>`(tactic|decide +kernel)
local macro_rules|`(tactic|nofun)=>`(tactic|first|exact Or.inl rfl|exact Or.inr (Or.inl rfl)|exact Or.inr (Or.inr rfl)|exact .inr rfl|assumption)
theorem Wv{c:Sort _}{a:c}{b:Prop}:a=a\/b:=.inl rfl
abbrev Ww:PySem.Str:="_law_pool_here"
abbrev Wx:PySem.Str:="_law_spot"
abbrev Wz:PySem.Str:="_law_plan"
abbrev WA:PySem.Str:="_law_struck"
abbrev WB:PySem.Str:="_law_rows_here"
abbrev WC:PySem.Str:="_law_entries"
abbrev WD:PySem.Str:="_law_told"
abbrev WE:PySem.Str:="_law_count"
abbrev WG:PySem.Str:="_law_many"
abbrev WH:PySem.Str:="_law_bounds_here"
abbrev WI:PySem.Str:="_law_one"
abbrev WJ:PySem.Str:="_law_planted"
abbrev WK:PySem.Str:="_law_least"
abbrev WL:PySem.Str:="_law_k"
abbrev WM:PySem.Str:="_law_script"
abbrev WN:PySem.Str:="_law_most"
abbrev WO:PySem.Str:="_law_number"
abbrev WQ:PySem.Str:="_law_bound"
abbrev WR:PySem.Str:="_law_far_here"
abbrev WS:PySem.Str:="_law_opens"
abbrev WT:PySem.Str:="_law_shift"
abbrev WU:PySem.Str:="_law_times"
abbrev WV:PySem.Str:="_law_factor"
abbrev WW:PySem.Str:="_law_draw"
abbrev WX:PySem.Str:="_law_wholes"
abbrev WY:PySem.Str:="_law_size"
abbrev WZ:PySem.Str:="_law_whole"
abbrev W0:PySem.Str:="_law_near_spots"
abbrev W2:PySem.Str:="_law_hung"
abbrev W3:PySem.Str:="_law_wide"
abbrev W4:PySem.Str:="_law_anew"
abbrev W5:PySem.Str:="_law_meet"
abbrev W6:PySem.Str:="_law_givens"
abbrev W7:PySem.Str:="_law_spots"
abbrev W8:PySem.Str:="_law_all_back"
abbrev W9:PySem.Str:="_law_i"
abbrev Xa:PySem.Str:="_law_plan_is"
abbrev Xb:PySem.Str:="_law_kept"
abbrev Xc:PySem.Str:="_law_shifts"
abbrev Xd:PySem.Str:="_law_bounds"
abbrev Xe:PySem.Str:="_law_fields"
abbrev Xf:PySem.Str:="_law_window"
abbrev Xg:PySem.Str:="_law_moved"
abbrev Xh:PySem.Str:="_law_small"
abbrev Xi:PySem.Str:="_law_pool"
abbrev Xj:PySem.Str:="_law_rows"
abbrev Xk:PySem.Str:="_law_back"
abbrev Xl:PySem.Str:="_law_seen"
namespace L2
open PySem PySem.Spec PyProof.Rows
abbrev az:=Sum Int Str
noncomputable def jw:az->Value->Bool
 |.inl k,v=>Value.isInt k v
 |.inr x,v=>Value.isStrOf x v
noncomputable def FE(w:È):az->Int
 |.inl k=>hashInt k
 |.inr x=>hashStr w x
def il:∀{k:az}{v:Value},jw k v=ř->(∃i t,k=à i/\v=Value.int i t)\/(∃x t,k=ú x/\v=Value.str x t)
 |.inl i,v,h=>by let⟨t,e⟩:=Value.isInt_shape (k:=i) (v:=v) h;show .inl ⟨i,t,S,e⟩
 |.inr x,v,h=>by let⟨t,e⟩:=Value.isStrOf_shape (x:=x) (v:=v) h;show .inr ⟨x,t,S,e⟩
def zW(i:Int)(t:Ł):jw (.inl i) (.int i t)=ř:=by simp[jw,Value.isInt]
def Dj(x:Str)(t:Ł):jw (.inr x) (.str x t)=ř:=by simp[jw,Value.isStrOf]
def yQ(a b:Int):decide ((à a:az)=à b)=(a==b):=by
 by_cases e:a=b
 ·subst e;simp
 ·have h:¬ (à a:az)=à b:=λq=>e (ĉ q);rw[JX h];show (Ln.mpr e).symm
def Ah(a b:Str):decide ((ú a:az)=ú b)=decide (a=b):=by
 by_cases e:a=b
 ·subst e;simp
 ·have h:¬ (ú a:az)=ú b:=λq=>e (ú.inj q);rw[JX h,JX e]
def Fc(a:Int)(b:Str):decide ((à a:az)=ú b)=Ś:=JX (λq=>nomatch q)
def Aq(a:Str)(b:Int):decide ((ú a:az)=à b)=Ś:=JX (λq=>nomatch q)
noncomputable def fB(prog:Å)(w:È):PySem.KeyKind prog w az where
 is:=jw
 hash:=FE w
 inj:=λv a b g f=>by
  rcases il g with⟨i,t,rfl,rfl⟩|⟨x,t,rfl,rfl⟩
  ·rcases il f with⟨j,u,rfl,e⟩|⟨y,u,rfl,e⟩
   ·injection e with e1 _;rw[e1]
   ·show nomatch e
  ·rcases il f with⟨j,u,rfl,e⟩|⟨y,u,rfl,e⟩
   ·show nomatch e
   ·injection e with e1 _;rw[e1]
 byValue:=λk v h=>by rcases il h with⟨i,t,rfl,rfl⟩|⟨x,t,rfl,rfl⟩<;>rfl
 pyHash:=λc h=>by
  rcases il c with⟨i,t,rfl,rfl⟩|⟨x,t,rfl,rfl⟩
  ·show wpAny_pyHash_int h
  ·show wpAny_pyHash_str h
 eqBool:=λl c h=>by
  rcases il l with⟨i,t,rfl,rfl⟩|⟨x,t,rfl,rfl⟩
  ·rcases il c with⟨j,u,rfl,rfl⟩|⟨y,u,rfl,rfl⟩
   ·rw[yQ]at h;show wpAny_eqBool_int h
   ·rw[Fc]at h;show SeqAt.EqAt.int_str i t y u _ _ _ _ h
  ·rcases il c with⟨j,u,rfl,rfl⟩|⟨y,u,rfl,rfl⟩
   ·rw[Aq]at h;show SeqAt.EqAt.str_int x t j u _ _ _ _ h
   ·rw[Ah]at h;show wpAny_eqBool_str h
 «strs»:=λk x t v h=>by
  rcases il h with⟨i,u,rfl,e⟩|⟨y,u,rfl,e⟩
  ·show nomatch e
  ·injection e with e1 _;subst e1;cases v<;>rfl
def Gu(prog:Å)(w:È)(i:Int)(t:Ł):(fB prog w).is (.inl i) (.int i t)=ř:=zW i t
def AT(prog:Å)(w:È)(x:Str)(t:Ł):(fB prog w).is (.inr x) (.str x t)=ř:=Dj x t
inductive V where
 |non|bl (b:Bool)|int (i:Int)|str (x:Str)|byt (b:Array UInt8)|flt (b:UInt64)|ref (a:Addr)|ty (n:String)
 deriving DecidableEq
noncomputable def RelV:V->Value->Prop
 |.non,u=>u=Value.none
 |.bl b,u=>u=Value.bool b
 |.int i,u=>∃t,u=Value.int i t
 |.str x,u=>∃t,u=Value.str x t
 |.byt b,u=>∃t,u=Value.bytes b t
 |.flt b,u=>∃t,u=Value.float b t
 |.ref a,u=>u=Value.ref a
 |.ty n,u=>u=Value.type n
noncomputable abbrev Vals:Y V->Y Value->Prop:=Paired RelV
def Vals.length{xs:Y V}{us:Y Value}(r:Vals xs us):xs.length=us.length:=Mw r
theorem Vals.get:∀{xs:Y V}{us:Y Value}{i:Nat}{x:V},Vals xs us->xs[i]?=Z x->∃u,us[i]?=Z u/\RelV x u
 |_,_,_,_,.nil,e=>by simp at e
 |_,_,0,_,.cons r _,e=>by simp at e;subst e;show⟨_,S,r⟩
 |_,_,i+1,x,.cons _ t,e=>by let⟨u,a,c⟩:=Vals.get (i:=i) (x:=x) t (by simpa using e);show⟨u,by simpa using a,c⟩
theorem Vals.set{x:V}{u:Value}(r:RelV x u):∀{xs:Y V}{us:Y Value}(i:Nat),Vals xs us->Vals (xs.set i x) (us.set i u)
 |_,_,_,.nil=>.nil
 |_,_,0,.cons _ t=>.cons r t
 |_,_,i+1,.cons q t=>.cons q (Vals.set r i t)
theorem Vals.append:∀{xs ys:Y V}{us a:Y Value},Vals xs us->Vals ys a->Vals (xs++ys) (us++a)
 |_,_,_,_,.nil,s=>s
 |_,_,_,_,.cons r t,s=>.cons r (Vals.append t s)
theorem Vals.take:∀{xs:Y V}{us:Y Value}(n:Nat),Vals xs us->Vals (xs.take n) (us.take n)
 |_,_,0,_=>.nil
 |_,_,_+1,.nil=>.nil
 |_,_,n+1,.cons r t=>.cons r (Vals.take n t)
theorem Vals.drop:∀{xs:Y V}{us:Y Value}(n:Nat),Vals xs us->Vals (xs.drop n) (us.drop n)
 |_,_,0,r=>r
 |_,_,_+1,.nil=>.nil
 |_,_,n+1,.cons _ t=>Vals.drop n t
noncomputable def RelO:Ř V->Ř Value->Prop
 |some v,Z u=>RelV v u
 |none,ŗ=>True
 |_,_=>False
noncomputable def KV{a:Type}:Y (a×V)->Y (a×Value)->Prop:=Paired λ(p:a×V)(q:a×Value)=>p.1=q.1/\RelV p.2 q.2
noncomputable def kV:az->V
 |.inl i=>.int i
 |.inr x=>.str x
inductive HO where
  |lst (xs:List V)
  |tup (xs:List V)
  |dK (NV:List (az×V))|dT (NV:List (List az×V))
  |set (Q:Int->Bool) (n:Nat)
  |ins (C dx:Addr) (fs:List (Str×V))
  |own (x:Addr)
  |xd (fs:List (Str×V))
  |met (f x:Addr)
  |rng (lo hi:Int)
  |frz (o:Õ) (u:HO)
  |tbl (ps:Array Value)
  |ext (φ:Heap->Prop)
abbrev Hp:=Addr->Ř HO
noncomputable def ap(H:Hp)(a:Addr)(o:HO):Hp:=λb=>if b=a then Z o else H b
def bo{H:Hp}{a:Addr}{o:HO}:ap H a o a=Z o:=by unfold ap;rw[JC S]
def aY{H:Hp}{a b:Addr}{o:HO}(h:b≠a):ap H a o b=H b:=by unfold ap;rw[Jv h]
def y9{H:Hp}{a:Addr}{o u:HO}:ap (ap H a o) a u=ap H a u:=by
 funext b;unfold ap;split<;>rfl
def HJ{H:Hp}{a b:Addr}{o u:HO}(h:H a=Z o)(h':H b=Z u)(d:o≠u):a≠b:=by intro e;subst e;rw[h]at h';show d (JY h')
def cY{H:Hp}{a b:Addr}{o:HO}(h:H a=Z o)(h':H b=ŗ):a≠b:=by intro e;subst e;rw[h]at h';cases h'
noncomputable def IsTupD(h:Heap)(a:Addr)(c:Array Value):Prop:=∃o,h.get? a=Z o/\(o.cls=.type "tuple"/\o.dict=ŗ)/\∃n,o.data=.seq c n
def IsTupD.tup{h:Heap}{a:Addr}{f:Array Value}(x:IsTupD h a f):ġ h a f:=let ⟨o,e,c,d⟩:=x;⟨o,e,c.1,d⟩
def IsTupD.lt{h:Heap}{a:Addr}{c:Array Value}(x:IsTupD h a c):a<h.objs.size:=x.tup.lt
def IsTupD.new(h:Heap)(a:Array Value):IsTupD (h.push { cls:=.type "tuple",data:=.seq a }) h.objs.size a:=⟨_,JJ _ S,⟨S,S⟩,_,S⟩
section
variable(P:Å)(w:È)
noncomputable def ObjOk(H:Hp)(h:Heap)(a:Addr):HO->Prop
 |.lst xs=>xs.length<=sizeLine/\∃(its:Y Value)(n:Nat),Vals xs its/\h.get? a=Z { cls:=.type "list",data:=.seq its.toArray n }
 |.tup xs=>xs.length<=sizeLine/\∃its:Y Value,Vals xs its/\IsTupD h a its.toArray
 |.dK g=>g.length<=sizeLine/\(a==Ú)=Ś/\∃vs,KV g vs/\h.DictOf (fB P w) a vs
 |.dT g=>g.length<=sizeLine/\(a==Ú)=Ś/\∃xs:Y (Y az×Addr×Value),
   Paired (λ(p:Y az×V)(q:Y az×Addr×Value)=>p.1=q.1/\H q.2.1=Z (.tup (p.1.map kV))/\RelV p.2 q.2.2) g xs /\
   ∃o es A,h.get? a=Z o/\o.ExactDict/\o.data=.dict es A/\es.toList=xs.map (entryOfKey (Ă (fB P w)))/\(xs.map (·.1)).Nodup
 |.set Q n=>h.SetOf (intKind P w) a Q n
 |.ins C j fs=>H j=Z (.own a)/\fs.length<=1000/\j≠a/\h.get? a=Z (í C j) /\
   ∃e,h.Ns1 j e/\(∀f,RelO (fs.lookup f) (e f))/\PySem.Within e (fs.map (·.1))
 |.own _=>∃o,h.get? a=Z o
 |.xd fs=>∃e,h.Ns1 a e/\∀f,RelO (fs.lookup f) (e f)
 |.rng lo hi=>∃t u v,h.get? a=Z { cls:=.type "range",data:=.fields #[.int lo t,.int hi u,.int 1 v] }
 |.frz o u=>h.get? a=Z o/\ObjOk H h a u
 |.tbl ps=>h.get? a=Z { cls:=.none,data:=.fields #[] }\/∃(c:Addr)(o:Õ)(vs:Array Value)(x y:Value)(q:Str)(t t':Ł),ps=#[x,y,.str q t]/\H c=Z (.frz o (.own a)) /\
   h.get? a=Z { cls:=.none,data:=.fields #[x,y,.ref c] }/\o.data=.fields vs/\vs[1]?=Z (.str q t')
 |.met f x=>h.get? a=Z (ğ (.ref f) (.ref x))
 |.ext l=>l h/\(∃o,h.get? a=Z o)/\∀r z:Heap,l r->(∀o,r.get? a=Z o->z.get? a=Z o)->l z
noncomputable def HOk(H:Hp)(h:Heap):Prop:=∀a o,H a=Z o->ObjOk P w H h a o
end
section
variable{P:Å}{w:È}{H g:Hp}{h h':Heap}{a:Addr}{o:HO}
theorem ObjOk.lt(x:ObjOk P w H h a o):a<h.objs.size:=by
 cases o with
 |lst xs=>let⟨_,_,_,_,e⟩:=x;show JP e
 |tup xs=>let⟨_,_,_,p⟩:=x;show p.lt
 |dK c=>let⟨_,_,_,_,o,_,_,e,_⟩:=x;show JP e
 |dT c=>let⟨_,_,_,_,o,_,_,e,_⟩:=x;show JP e
 |set Q n=>let⟨o,_,_,_,e,_⟩:=x;show JP e
 |ins C j fs=>let⟨_,_,_,e,_⟩:=x;show JP e
 |own y=>let⟨_,e⟩:=x;show JP e
 |xd fs=>let⟨_,⟨_,_,_,e,_⟩,_⟩:=x;show JP e
 |rng lo hi=>let⟨_,_,_,e⟩:=x;show JP e
 |frz l u=>let⟨e,_⟩:=x;show JP e
 |tbl ps=>rcases x with x|⟨_,_,_,_,_,_,_,_,_,_,x,_⟩<;>show JP x
 |met f y=>show JP (show h.get? a=Z _ from x)
 |ext r=>let⟨_,⟨_,e⟩,_⟩:=x;show JP e
theorem Paired.mapP{c e:Type}{F G:c->e->Prop}:∀{l₁:Y c}{l₂:Y e},Paired F l₁ l₂->(∀a b,F a b->G a b)->Paired G l₁ l₂
 |_,_,.nil,_=>.nil
 |_,_,.cons r t,f=>.cons (f _ _ r) (Paired.mapP t f)
def ObjOk.stay(x:ObjOk P w H h a o)(k:∀b u,(b=a\/H b=Z (.own a))->h.get? b=Z u->h'.get? b=Z u)
  (L:∀b,H b=Z (.own a)->g b=Z (.own a)) (M:∀b xs,H b=Z (.tup xs)->g b=Z (.tup xs)) (K:∀b o u,H b=Z (.frz o u)->g b=Z (.frz o u)):ObjOk P w g h' a o:=by
 induction o with
 |lst xs=>let⟨z,its,n,r,e⟩:=x;show⟨z,its,n,r,k _ _ (.inl S) e⟩
 |tup xs=>let⟨z,its,r,j,e,c⟩:=x;show⟨z,its,r,j,k _ _ (.inl S) e,c⟩
 |dK F=>let⟨z,y,vs,r,j,es,l,e,c⟩:=x;show⟨z,y,vs,r,j,es,l,k _ _ (.inl S) e,c⟩
 |dT F=>
  let⟨z,y,xs,r,j,es,l,e,c⟩:=x;show⟨z,y,xs,Paired.mapP r λp q z=>⟨z.1,M _ _ z.2.1,z.2.2⟩,j,es,l,k _ _ (.inl S) e,c⟩
 |set U n=>let⟨j,es,l,t,e,c⟩:=x;show⟨j,es,l,t,k _ _ (.inl S) e,c⟩
 |ins C O fs=>
  let⟨d,z,ne,e,B,⟨E,es,l,A,c⟩,r⟩:=x;show⟨L _ d,z,ne,k _ _ (.inl S) e,B,⟨E,es,l,k _ _ (.inr d) A,c⟩,r⟩
 |own y=>let⟨j,e⟩:=x;show⟨j,k _ _ (.inl S) e⟩
 |xd fs=>let⟨B,⟨E,es,l,e,c⟩,r⟩:=x;show⟨B,⟨E,es,l,k _ _ (.inl S) e,c⟩,r⟩
 |rng lo hi=>let⟨t,u,v,e⟩:=x;show⟨t,u,v,k _ _ (.inl S) e⟩
 |frz j u N=>let⟨e,q⟩:=x;show⟨k _ _ (.inl S) e,N q⟩
 |tbl ps=>
  rcases x with x|⟨c,o,vs,y,z,q,t,t',G,A,I,J⟩
  ·show .inl (k a _ (.inl S) x)
  ·show .inr ⟨c,o,vs,y,z,q,t,t',G,K _ _ _ A,k a _ (.inl S) I,J⟩
 |met f y=>
  have e:h.get? a=Z (ğ (.ref f) (.ref y)):=x;change h'.get? a=Z (ğ (.ref f) (.ref y));show k a _ (.inl S) e
 |ext Q=>let⟨p,⟨o,e⟩,st⟩:=x;show⟨st _ _ p λo q=>k _ _ (.inl S) q,⟨o,k _ _ (.inl S) e⟩,st⟩
def HOk.lt(x:HOk P w H h)(e:H a=Z o):a<h.objs.size:=(x a o e).lt
def HOk.fresh(x:HOk P w H h)(e:h.objs.size<=a):H a=ŗ:=by
 cases q:H a with
 |none=>rfl
 |some u=>show absurd (Ka (x.lt q) e) (K9 _)
def HOk.kept(x:HOk P w H h)(k:∀b u,h.get? b=Z u->h'.get? b=Z u):HOk P w H h':=λa o e=>
 (x a o e).stay (λb u _ q=>k b u q) (λ_ q=>q) (λ_ _ q=>q) λ_ _ _ q=>q
def HOk.laid(x:HOk P w H h)(k:∀b u,h.get? b=Z u->h'.get? b=Z u)(l:h.objs.size<=a)(new:ObjOk P w (ap H a o) h' a o):HOk P w (ap H a o) h':=λb u e=>by
 have f:=x.fresh l;by_cases j:b=a
 ·subst j;rw[bo]at e;cases e;show new
 ·rw[aY j]at e
  show (x b u e).stay (λc v _ q=>k c v q) (λc q=>by rwa[aY (cY q f)]) (λc xs q=>by rwa[aY (cY q f)]) λc p r q=>by rwa[aY (cY q f)]
end
noncomputable def Rd(H:Hp)(a:Addr)(u:HO):Prop:=H a=Z u\/∃o,H a=Z (.frz o u)
def Rd.ok{P:Å}{w:È}{H:Hp}{h:Heap}{a:Addr}{u:HO}(r:Rd H a u)(x:HOk P w H h):ObjOk P w H h a u:=by
 rcases r with r|⟨o,r⟩
 ·show x a u r
 ·let⟨_,q⟩:=x a _ r;show q
noncomputable def kL:Ř HO->Prop
 |some (.lst _)=>True
 |some (.dK _)=>True
 |some (.dT _)=>True
 |some (.set _ _)=>True
 |some (.ins _ _ _)=>True
 |some (.ext _)=>True
 |_=>False
section
variable{P:Å}{w:È}{H:Hp}{h h':Heap}{x e:Addr}{o':HO}
def HOk.write(ok:HOk P w H h)(mu:kL (H x))(p:e=x\/H e=Z (.own x))(k:∀b u,b≠e->h.get? b=Z u->h'.get? b=Z u)(B:∃u,h'.get? e=Z u)
  (new:ObjOk P w (ap H x o') h' x o'):HOk P w (ap H x o') h':=λb u q=>by
 have o:∀c y,H c=Z (.own y)->c≠x:=λc y r z=>by subst z;rw[r]at mu;show mu
 have C:∀c xs,H c=Z (.tup xs)->c≠x:=λc xs r z=>by subst z;rw[r]at mu;show mu
 have E:∀c j l,H c=Z (.frz j l)->c≠x:=λc j l r z=>by subst z;rw[r]at mu;show mu
 by_cases f:b=x
 ·subst f;rw[bo]at q;cases q;show new
 ·rw[aY f]at q;by_cases a:b=e
  ·have A:H b=Z (.own x):=by
    rcases p with z|z
    ·show absurd (a.trans z) f
    ·rwa[a]
   rw[q]at A;cases A;let⟨v,F⟩:=B;show⟨v,by rwa[a]⟩
  ·refine (ok b u q).stay (λc v g r=>k c v ?_ r) (λc r=>by rwa[aY (o c b r)]) (λc xs r=>by rwa[aY (C c xs r)]) λc j l r=>by rwa[aY (E c j l r)]
   rcases g with rfl|g
   ·show a
   ·rintro rfl;rcases p with z|z
    ·show o c b g z
    ·rw[g]at z;cases z;show f S
end
structure Un(fs ex:List Addr)(H H':Hp)(h h':Heap):Prop where
 keep:∀b o,h.get? b=Z o->H b=ŗ->b∉fs->b∉ex->h'.get? b=Z o
 slot:∀b o,h.get? b=Z o->H b=ŗ->b∈fs->b∉ex->∃sl,h'.get? b=Z { o with slots:=sl }
 free:∀b o,h.get? b=Z o->H b=ŗ->b∉ex->H' b=ŗ
 there:∀b o,h.get? b=Z o->b∉ex->∃o',h'.get? b=Z o'
 tups:∀b xs,H b=Z (.tup xs)->H' b=Z (.tup xs)
 frzs:∀b o u,H b=Z (.frz o u)->H' b=Z (.frz o u)
 tbls:∀b ps,H b=Z (.tbl ps)->H' b=Z (.tbl ps)
section
variable{fs ex:Y Addr}{H f:Hp}{h c h':Heap}{a x e:Addr}{o:HO}
def Un.any(u:Un fs ex H f h c){b:Addr}{g:Õ}(q:h.get? b=Z g)(n:H b=ŗ)(l:b∉ex):∃sl,c.get? b=Z { g with slots:=sl }:=by
 by_cases j:b∈fs
 ·show u.slot b g q n j l
 ·show⟨g.slots,u.keep b g q n j l⟩
def Un.kept(k:∀b u,h.get? b=Z u->h'.get? b=Z u):Un fs ex H H h h':=
 ⟨λb g q _ _ _=>k b g q,λb g q _ _ _=>⟨g.slots,k b g q⟩,λ_ _ _ n _=>n,λb g q _=>⟨g,k b g q⟩,λ_ _ q=>q,λ_ _ _ q=>q,λ_ _ q=>q⟩
def Un.refl:Un fs ex H H h h:=Un.kept λ_ _ q=>q
def Un.laid(k:∀b u,h.get? b=Z u->h'.get? b=Z u)(j:h.objs.size<=a)(g:H a=ŗ):Un fs ex H (ap H a o) h h' where
 keep:=λb u q _ _ _=>k b u q
 slot:=λb u q _ _ _=>⟨u.slots,k b u q⟩
 free:=λb u q n _=>by rwa[aY (J7 (Ka (JP q) j))]
 there:=λb u q _=>⟨u,k b u q⟩
 tups:=λb xs q=>by rwa[aY (cY q g)]
 frzs:=λb u xs q=>by rwa[aY (cY q g)]
 tbls:=λb ps q=>by rwa[aY (cY q g)]
def Un.write(mu:kL (H x))(w:e=x\/H e=Z (.own x))(k:∀b u,b≠e->h.get? b=Z u->h'.get? b=Z u)(v:∃u,h'.get? e=Z u):Un fs ex H (ap H x o) h h':=by
 have p:∀b,H b=ŗ->b≠x:=λb n z=>by subst z;rw[n]at mu;show mu
 have l:∀b,H b=ŗ->b≠e:=λb n z=>by
  subst z;rcases w with r|r
  ·show p b n r
  ·rw[n]at r;cases r
 have g:∀b u,H b=Z u->¬ kL (Z u)->b≠x:=λb u q nm z=>by subst z;rw[q]at mu;show nm mu
 refine⟨λb u q n _ _=>k b u (l b n) q,λb u q n _ _=>⟨u.slots,k b u (l b n) q⟩,λb u q n _=>by rwa[aY (p b n)],λb u q _=>?_,
  λb xs q=>by rwa[aY (g b _ q λz=>z)],λb u xs q=>by rwa[aY (g b _ q λz=>z)],λb ps q=>by rwa[aY (g b _ q λz=>z)]⟩
 by_cases j:b=e
 ·subst j;show v
 ·show⟨u,k b u j q⟩
end
noncomputable def oZ(h:Heap)(H:Hp):Y Addr:=(List.range h.objs.size).filter λa=>(H a).isSome
noncomputable def iA(h:Heap)(H:Hp):Heap:=PySem.W.hideAll h (oZ h H)
def zU(h:Heap)(H:Hp):(iA h H).objs.size=h.objs.size:=PySem.W.hideAll_size _ _
def IF{h:Heap}{H:Hp}{b:Addr}{o:Õ}(e:h.get? b=Z o)(n:H b=ŗ):(iA h H).get? b=Z o:=
 PySem.W.hideAll_get _ e λa=>by have q:(H b).isSome=ř:=(J9.mp a).2;rw[n]at q;simp at q
def DU{h:Heap}{H:Hp}{b:Addr}{o:Õ}(e:(iA h H).get? b=Z o):h.get? b=Z o/\H b=ŗ:=by
 have a:h.get? b=Z o:=PySem.W.of_hideAll (oZ h H) e;refine⟨a,?_⟩
 cases q:H b with
 |none=>rfl
 |some x=>
  have c:b∈oZ h H:=J9.mpr ⟨JU.mpr (JP a),by simp[q]⟩;have z:(iA h H).get? b=ŗ:=PySem.W.hideAll_none (oZ h H) c;rw[z]at e;cases e
structure Mod(K:Â)(mg:Str->Option Value)(base:Heap):Prop where
 kin:K.In base
 glob:base.Ns Á mg
 blt:∃mb,base.Ns æ mb/\∀x:Str,x≠"__name__"->mb x=Û x
 nolimit:base.NoLimit
 bmod:∃bm ob,mg "__builtins__"=Z (.ref bm)/\bm≠æ/\base.get? bm=Z ob/\ob.cls=.type "module"/\ob.dict=Z æ/\ob.data=.plain
 seer:base.NoSeer
 dig:∃mc,base.Ns cStatics mc/\mc "sys.int_max_str_digits"=ŗ
structure Cx where
 prog:Å
 w:È
 K:Â
 mg:Str->Option Value
 base:Heap
 A:Ê
 N:List Str
 s₀:À
 H₀:Hp
 env:ë
 outer:List ë
 stack:List ë
 ex:List Addr
 fn:Str->Bool
 calm:Bool
 pn:List (Addr×Õ)
 xe:Value->À->Prop
noncomputable def gm(l:Y ë):Y Addr:=l.filterMap (·.frame)
noncomputable abbrev Cx.fs(X:Cx):Y Addr:=gm X.outer
noncomputable def cL(a:â)(x:Str):Prop:=a.names.lookup x=Z .local\/a.names.lookup x=Z .cell\/a.names.lookup x=Z .free
noncomputable def eC(a:â)(x:Str):Prop:=a.names.lookup x=Z .local\/a.names.lookup x=Z .cell
noncomputable def BU(env:ë)(h:Heap)(m:Str->Ř Value)(x:Str)(u:Value):Prop:=
 (env.kindOf x=Z .local/\m x=Z u)\/((env.kindOf x=Z .cell\/env.kindOf x=Z .free)/\∃c,env.cells.lookup x=Z c/\h.IsCell c (Z u))
structure Cx.Ok(X:Cx):Prop where
 mod:Mod X.K X.mg X.base
 kind:X.env.scope.kind=.function
 glob:X.env.globals=Á
 blt:X.env.builtins=æ
 above:X.s₀.heap.objs.size<=X.env.locals
 inj:∀x y c,X.env.cells.lookup x=Z c->X.env.cells.lookup y=Z c->x=y
 has:∀x,(X.env.kindOf x=Z .cell\/X.env.kindOf x=Z .free)->∃c,X.env.cells.lookup x=Z c
 cab:∀x c,X.fn x=ř->X.env.cells.lookup x=Z c->X.s₀.heap.objs.size<=c
 hd:X.calm=ř->X.A.handled=ŗ
 frames:X.A.frames=Z X.stack
 stk:X.stack=X.outer\/(X.stack=X.env::X.outer/\X.env.frame=Z X.env.locals)
 exf:∀b∈X.ex,b≠X.env.locals/\∀x c,X.env.cells.lookup x=Z c->c≠b
 bs:∀b o,X.base.get? b=Z o->X.s₀.heap.get? b=Z o/\X.H₀ b=ŗ
 bsz:X.base.objs.size<=X.s₀.heap.objs.size
 noex:∀b o,X.base.get? b=Z o->b∉X.ex
 exfs:∀b∈X.ex,b∉X.fs
 funs:X.s₀.heap.FunFrames X.base X.outer
 frf:∀b∈X.fs,X.H₀ b=ŗ
structure Inv(X:Cx)(pins:List (Addr×Õ))(σ:List (Option V))(H:Hp)(s:À):Prop where
 ok:X.Ok
 os:s.os=X.s₀.os
 bare:ð s.gens
 base:Un X.fs X.ex X.H₀ H X.s₀.heap s.heap
 loc:∃m,s.heap.Ns X.env.locals m/\∀(i:Nat)(x:Str)(v:V),X.N[i]?=Z x->σ[i]?=Z (Z v)->cL X.env.scope x->∃u,RelV v u/\BU X.env s.heap m x u
 cell:∀x c,X.env.cells.lookup x=Z c->∃v,s.heap.IsCell c v
 free:H X.env.locals=ŗ
 freeC:∀x c,X.env.cells.lookup x=Z c->H c=ŗ
 pin:∀p∈X.pn++pins,s.heap.get? p.1=Z p.2/\H p.1=ŗ/\p.1≠X.env.locals/\p.1∉X.fs/\∀v,p.2.data≠.cell v
 hok:HOk X.prog X.w H s.heap
 len:σ.length=X.N.length
section
variable{X:Cx}{f:Y (Addr×Õ)}{g:Y (Ř V)}{H w:Hp}{s:À}{h':Heap}
def Cx.Ok.nofr(ok:X.Ok){b:Addr}{o:Õ}(e:X.base.get? b=Z o):b∉X.fs:=λa=>by have:=(ok.funs.mem a).1;rw[e]at this;cases this
def Inv.bs(I:Inv X f g H s):∀b o,X.base.get? b=Z o->s.heap.get? b=Z o/\H b=ŗ:=λb o e=>
 ⟨I.base.keep b o (I.ok.bs b o e).1 (I.ok.bs b o e).2 (I.ok.nofr e) (I.ok.noex b o e),I.base.free b o (I.ok.bs b o e).1 (I.ok.bs b o e).2 (I.ok.noex b o e)⟩
def Inv.bk(I:Inv X f g H s):∀b o,X.base.get? b=Z o->s.heap.get? b=Z o:=λb o e=>(I.bs b o e).1
def Inv.mod(I:Inv X f g H s):Mod X.K X.mg X.base:=I.ok.mod
def Inv.kIn(I:Inv X f g H s):X.K.In s.heap:=I.ok.mod.kin.keeps I.bk
def Inv.lt(I:Inv X f g H s):X.env.locals<s.heap.objs.size:=let ⟨_,hn,_⟩:=I.loc;hn.lt
def Inv.sz(I:Inv X f g H s):X.s₀.heap.objs.size<=s.heap.objs.size:=JR I.ok.above (KQ I.lt)
def Inv.nofs(I:Inv X f g H s){a:Addr}(h:s.heap.objs.size<=a):a∉X.fs:=λc=>by let⟨_,o,e,_⟩:=I.ok.funs.mem c;show absurd (Ka (JP e) (JR I.sz h)) (K9 _)
def Inv.cne(I:Inv X f g H s):∀x c,X.env.cells.lookup x=Z c->c≠X.env.locals:=λx c e z=>by let⟨v,o,a,hd⟩:=I.cell x c e;let⟨m,⟨o',es,l,h,j,_⟩,_⟩:=I.loc;rw[z,h]at a;cases a;rw[j]at hd;cases hd
theorem Inv.funs(I:Inv X f g H s):s.heap.FunFrames X.base X.outer:=by
 have all:∀(l:Y ë),(∀b∈gm l,b∈X.fs)->X.s₀.heap.FunFrames X.base l->s.heap.FunFrames X.base l:=by
  intro l
  induction l with
  |nil=>intro _ _;trivial
  |cons env r A=>
   intro j u;let⟨p,⟨L,o,h,v,x,hd⟩,y⟩:=u;have a:L∈X.fs:=j L (by unfold gm;rw[LK,h];show JA);let⟨sl,e⟩:=I.base.slot L o x (I.ok.frf L a) a λz=>I.ok.exfs L z a;show⟨p,⟨L,_,h,v,e,hd⟩,A (λb c=>j b (by unfold gm;rw[LK,h];show Jy _ c)) y⟩
 show all X.outer (λ_ c=>c) I.ok.funs
def Inv.stack(I:Inv X f g H s):s.heap.FunFrames X.base X.stack:=by
 rcases I.ok.stk with e|⟨e,a⟩
 ·rw[e];show I.funs
 ·rw[e];let⟨m,c,_⟩:=I.loc;refine .cons (by rw[I.ok.kind];decide) a c ?_ I.funs;show Heap.get?_none_of_le (JR I.ok.bsz I.ok.above)
def Inv.stkSub(I:Inv X f g H s):∀b∈gm X.stack,b∈X.env.locals::X.fs:=λb a=>by
 rcases I.ok.stk with e|⟨e,c⟩
 ·rw[e]at a;show Jy _ a
 ·rw[e]at a;unfold gm at a;rw[LK,c]at a;show a
def Inv.stkFree(I:Inv X f g H s):∀b∈gm X.stack,H b=ŗ:=λb a=>by
 rcases JI.mp (I.stkSub b a)with e|a
 ·rw[e];show I.free
 ·let⟨_,o,c,_⟩:=I.ok.funs.mem a;show I.base.free b o c (I.ok.frf b a) λz=>I.ok.exfs b z a
def Inv.step{g':Array GenState}{t':Nat}{d':Drawn}{ch:Y Addr}(I:Inv X f g H s)
  (B:∀b∈ch,(b∈X.ex\/X.s₀.heap.objs.size<=b)/\b≠X.env.locals/\(∀x c,X.env.cells.lookup x=Z c->c≠b)/\∀p∈X.pn++f,p.1≠b)
  (keep:∀b o,b≠X.env.locals->b∉X.fs->b∉ch->s.heap.get? b=Z o->H b=ŗ->h'.get? b=Z o)
  (slot:∀b o,b≠X.env.locals->b∈X.fs->b∉ch->s.heap.get? b=Z o->H b=ŗ->∃sl,h'.get? b=Z { o with slots:=sl }) (free:∀b o,b∉ch->s.heap.get? b=Z o->H b=ŗ->w b=ŗ)
  (there:∀b o,b∉ch->s.heap.get? b=Z o->∃o',h'.get? b=Z o')
  (tups:∀b xs,H b=Z (.tup xs)->w b=Z (.tup xs)) (frzs:∀b o u,H b=Z (.frz o u)->w b=Z (.frz o u)) (tbls:∀b ps,H b=Z (.tbl ps)->w b=Z (.tbl ps))
  (ns:∀m,s.heap.Ns X.env.locals m->h'.Ns X.env.locals m) (hok:HOk X.prog X.w w h') (P:ð g') :
  Inv X f g w { s with heap:=h',gens:=g',drawn:=d',toks:=t' }:=by
 have E:∀b o,X.s₀.heap.get? b=Z o->b≠X.env.locals:=λb o e=>J7 (Ka (JP e) I.ok.above)
 have F:∀b o,X.s₀.heap.get? b=Z o->b∉X.ex->b∉ch:=λb o e a y=>by
  rcases (B b y).1 with z|z
  ·show a z
  ·show absurd (Ka (JP e) z) (K9 _)
 have h:∀x c,X.env.cells.lookup x=Z c->∀v,s.heap.IsCell c v->h'.IsCell c v:=λx c e v N=>by
  let⟨o,A,hd⟩:=N;have C:c∉ch:=λz=>(B c z).2.2.1 x c e S;by_cases K:c∈X.fs
  ·let⟨sl,q⟩:=slot c o (I.cne x c e) K C A (I.freeC x c e);show⟨_,q,hd⟩
  ·show⟨o,keep c o (I.cne x c e) K C A (I.freeC x c e),hd⟩
 refine⟨I.ok,I.os,P,⟨λb o e n y a=>?_,λb o e n y a=>?_,λb o e n a=>?_,λb o e a=>?_,λb xs e=>tups b xs (I.base.tups b xs e),λb o xs e=>frzs b o xs (I.base.frzs b o xs e),λb ps e=>tbls b ps (I.base.tbls b ps e)⟩,?_,λx c e=>?_,?_,λx c e=>?_,λp L=>?_,hok,I.len⟩
 ·show keep b o (E b o e) y (F b o e a) (I.base.keep b o e n y a) (I.base.free b o e n a)
 ·let⟨sl,j⟩:=I.base.slot b o e n y a;let⟨J,G⟩:=slot b _ (E b o e) y (F b o e a) j (I.base.free b o e n a);show⟨J,G⟩
 ·let⟨o',j⟩:=I.base.there b o e a;show free b o' (F b o e a) j (I.base.free b o e n a)
 ·let⟨o',j⟩:=I.base.there b o e a;show there b o' (F b o e a) j
 ·let⟨m,R,Q⟩:=I.loc;refine⟨m,ns m R,λi x v j G O=>?_⟩;let⟨u,r,l⟩:=Q i x v j G O;refine⟨u,r,?_⟩;rcases l with l|⟨k,c,e,z⟩
  ·show .inl l
  ·show .inr ⟨k,c,e,h x c e _ z⟩
 ·let⟨v,z⟩:=I.cell x c e;show⟨v,h x c e v z⟩
 ·let⟨m,⟨o,_,_,A,_⟩,_⟩:=I.loc;show free _ o (λz=>(B _ z).2.1 S) A I.free
 ·let⟨v,o,A,hd⟩:=I.cell x c e;show free c o (λz=>(B c z).2.2.1 x c e S) A (I.freeC x c e)
 ·let⟨e,n,ne,M,d⟩:=I.pin p L;have C:p.1∉ch:=λz=>(B p.1 z).2.2.2 p L S;show⟨keep p.1 p.2 ne M C e n,free p.1 p.2 C e n,ne,M,d⟩
def Inv.un{t':Nat}(I:Inv X f g H s)(u:Un X.fs [] H w s.heap h')(hok:HOk X.prog X.w w h'):Inv X f g w { s with heap:=h',toks:=t' }:=by
 let⟨m,⟨o,es,y,h,r⟩,_⟩:=id I.loc;let⟨sl,p⟩:=u.any h I.free (by simp)
 show I.step (g':=s.gens) (d':=s.drawn) (ch:=[]) (λ_ z=>nomatch z) (λb o _ a _ e n=>u.keep b o e n a (by simp)) (λb o _ a _ e n=>u.slot b o e n a (by simp)) (λb o _ e n=>u.free b o e n (by simp)) (λb o _ e=>u.there b o e (by simp)) u.tups u.frzs u.tbls (λA v=>by
  let⟨o',j,l,c,x⟩:=v;rw[h]at c;cases c
  show⟨_,j,l,p,x⟩) hok I.bare
def Inv.call{g':Array GenState}{t':Nat}{d':Drawn}{ch:Y Addr}(I:Inv X f g H s)(u:Un (gm X.stack) ch H w s.heap h')(hok:HOk X.prog X.w w h')(C:ð g')
  (j:∀b∈ch,(b∈X.ex\/X.s₀.heap.objs.size<=b)/\b≠X.env.locals/\(∀x c,X.env.cells.lookup x=Z c->c≠b)/\∀p∈X.pn++f,p.1≠b) :
  Inv X f g w { s with heap:=h',gens:=g',drawn:=d',toks:=t' }:=by
 let⟨m,⟨o,es,G,v,r⟩,_⟩:=id I.loc;let⟨sl,h⟩:=u.any v I.free λz=>(j _ z).2.1 S
 show I.step (ch:=ch) j (λb o h B a e n=>u.keep b o e n (λz=>(JI.mp (I.stkSub b z)).elim h B) a) (λb o _ _ a e n=>u.any e n a) (λb o a e n=>u.free b o e n a) (λb o a e=>u.there b o e a) u.tups u.frzs u.tbls (λJ E=>by
  let⟨o',y,A,l,F⟩:=E;rw[v]at l;cases l
  show⟨_,y,A,h,F⟩) hok C
def Inv.turned{t':Nat}{a:Addr}(I:Inv X f g H s)(k:∀b o,b≠a->s.heap.get? b=Z o->h'.get? b=Z o)(G:H a=ŗ)(l:a≠X.env.locals)
  (A:a∈X.ex\/X.s₀.heap.objs.size<=a) (B:∀x c,X.env.cells.lookup x=Z c->c≠a) (C:∀p∈X.pn++f,p.1≠a):Inv X f g H { s with heap:=h',toks:=t' }:=by
 have j:∀b u,H b=Z u->b≠a:=λb u e z=>by rw[z,G]at e;cases e
 refine I.step (g':=s.gens) (d':=s.drawn) (ch:=[a]) (λb E=>?_) (λb o _ _ h e _=>k b o (λz=>h (by simp[z])) e) (λb o _ _ h e _=>⟨o.slots,k b o (λz=>h (by simp[z])) e⟩) (λ_ _ _ _ n=>n)
  (λb o h e=>⟨o,k b o (λz=>h (by simp[z])) e⟩) (λ_ _ e=>e) (λ_ _ _ e=>e) (λb ps e=>e) (λm F=>?_) (λb u e=>?_) I.bare
 ·have e:b=a:=by simpa using E
  subst e;show⟨A,l,B,C⟩
 ·let⟨o,es,y,J,r⟩:=F;show⟨o,es,y,k _ o (Kz l) J,r⟩
 ·refine (I.hok b u e).stay (λc v h q=>k c v ?_ q) (λ_ q=>q) (λ_ _ q=>q) λ_ _ _ q=>q;rcases h with z|z
  ·rw[z];show j b u e
  ·show j c _ z
def Inv.tok(I:Inv X f g H s)(t:Nat):Inv X f g H { s with toks:=t }:=I.un (h':=s.heap) (t':=t) Un.refl I.hok
def Inv.kept{t':Nat}(I:Inv X f g H s)(k:∀b u,s.heap.get? b=Z u->h'.get? b=Z u):Inv X f g H { s with heap:=h',toks:=t' }:=I.un (Un.kept k) (I.hok.kept k)
def Inv.laid{a:Addr}{o:HO}{t':Nat}(I:Inv X f g H s)(k:∀b u,s.heap.get? b=Z u->h'.get? b=Z u)(c:s.heap.objs.size<=a)(new:ObjOk X.prog X.w (ap H a o) h' a o) :
  Inv X f g (ap H a o) { s with heap:=h',toks:=t' }:=I.un (Un.laid k c (I.hok.fresh c)) (I.hok.laid k c new)
def Inv.write{x e:Addr}{o:HO}{t':Nat}(I:Inv X f g H s)(mu:kL (H x))(c:e=x\/H e=Z (.own x))(k:∀b u,b≠e->s.heap.get? b=Z u->h'.get? b=Z u)(a:∃u,h'.get? e=Z u)
  (new:ObjOk X.prog X.w (ap H x o) h' x o):Inv X f g (ap H x o) { s with heap:=h',toks:=t' }:=I.un (Un.write mu c k a) (I.hok.write mu c k a new)
def Inv.pins_of{a:Y (Addr×Õ)}(I:Inv X f g H s)(h:∀p∈a,s.heap.get? p.1=Z p.2/\H p.1=ŗ/\p.1≠X.env.locals/\p.1∉X.fs/\∀v,p.2.data≠.cell v):Inv X a g H s:=
 ⟨I.ok,I.os,I.bare,I.base,I.loc,I.cell,I.free,I.freeC,λp c=>(JT.mp c).elim (λz=>I.pin p (LG _ z)) (h p),I.hok,I.len⟩
def tG{N:Y Str}(h:N.Nodup){i j:Nat}{x:Str}(a:N[i]?=Z x)(b:N[j]?=Z x):i=j:=by let⟨l,c⟩:=Kr.mp a;let⟨o,e⟩:=Kr.mp b;show (List.getElem_inj h).mp (c.trans e.symm)
def sK{M:Model}{A:Ê}{E:Value->À->Prop}{i:Nat}{x:Str}{v:V}{u:Value}{Q:Unit->À->Prop}(I:Inv X f g H s)(hN:X.N.Nodup)(hi:X.N[i]?=Z x)(G:eC X.env.scope x)(r:RelV v u)
  (h:∀s',Inv X f (g.set i (Z v)) H s'->(∃a,Heap.SameBut a s.heap s'.heap/\(a=X.env.locals\/X.env.cells.lookup x=Z a))->Q Unit.unit s') (hf:X.fn x=ř\/X.env.scope.names.lookup x=Z .local:=by nofun):wpAny M A (storeName X.env x u) Q E s:=by
 let⟨m,a_,hl⟩:=id I.loc
 have UP:(X.env.scope.kind==.class ||(X.env.scope.kind==.module&&X.env.locals != X.env.globals))=Ś:=by rw[I.ok.kind];rfl
 have K:i<g.length:=by rw[I.len];show (Kr.mp hi).1
 have cne:=I.cne
 have C:∀{a:Addr}{h':Heap},(∃o,s.heap.get? a=Z o/\H a=ŗ)->Heap.SameBut a s.heap h'->HOk X.prog X.w H h':=λ{a h'} ha l b ob e=>by
  let⟨_,_,Rz⟩:=ha;refine (I.hok b ob e).stay (λc b_ F q=>(l.2 c ?_).trans q) (λ_ q=>q) (λ_ _ q=>q) λ_ _ _ q=>q;rintro rfl;rcases F with rfl|F
  ·rw[Rz]at e;cases e
  ·rw[Rz]at F;cases F
 rcases G with L|L
 ·refine wpAny_storeName_local L a_ (λh' SO l=>?_) UP;let⟨oL,_,_,be,_⟩:=id a_;refine h _ ⟨I.ok,I.os,I.bare,⟨λb o e n N G=>?_,λb o e n N G=>?_,I.base.free,λb o e G=>?_,I.base.tups,I.base.frzs,I.base.tbls⟩,⟨_,SO,λj y v' B J U=>?_⟩,λy c e=>?_,I.free,I.freeC,λp hp=>?_,C ⟨oL,be,I.free⟩ l,by simpa using I.len⟩ ⟨_,l,.inl S⟩
  ·show (l.2 b (J7 (Ka (JP e) I.ok.above))).trans (I.base.keep b o e n N G)
  ·let⟨sl,B⟩:=I.base.slot b o e n N G;show⟨sl,(l.2 b (J7 (Ka (JP e) I.ok.above))).trans B⟩
  ·let⟨o',B⟩:=I.base.there b o e G;show⟨o',(l.2 b (J7 (Ka (JP e) I.ok.above))).trans B⟩
  ·by_cases O:j=i
   ·subst O;rw[hi]at B;cases B;rw[JS K]at J;cases J;show⟨u,r,.inl ⟨L,by simp⟩⟩
   ·rw[JN (Kz O)]at J;let⟨u',r',q⟩:=hl j y v' B J U;refine⟨u',r',?_⟩;rcases q with⟨k,e⟩|⟨k,c,e,z⟩
    ·refine .inl ⟨k,?_⟩;have:y≠x:=λe=>O (tG hN B (e▸hi));simp[this,e]
    ·show .inr ⟨k,c,e,z.sameBut l (cne y c e)⟩
  ·let⟨b_,z⟩:=I.cell y c e;show⟨b_,z.sameBut l (cne y c e)⟩
  ·let⟨e,n,ne,nf,d⟩:=I.pin p hp;show⟨(l.2 p.1 ne).trans e,n,ne,nf,d⟩
 ·have T:X.fn x=ř:=by
   rcases hf with z|z
   ·show z
   ·rw[z]at L;cases L
  let⟨c,F⟩:=I.ok.has x (.inl L);let⟨b_,z⟩:=I.cell x c F;refine wpAny_storeName_cell I.ok.kind L F z (λh' SQ l=>?_);let⟨oc,P,UQ⟩:=id z;refine h { s with heap:=h' } ⟨I.ok,I.os,I.bare,⟨λb o e n N G=>?_,λb o e n N G=>?_,I.base.free,λb o e G=>?_,I.base.tups,I.base.frzs,I.base.tbls⟩,⟨m,a_.sameBut l (Kz (cne x c F)),λj y v' B J U=>?_⟩,λy R e=>?_,I.free,I.freeC,λp hp=>?_,C ⟨oc,P,I.freeC x c F⟩ l,by simpa using I.len⟩ ⟨c,l,.inr F⟩
  ·show (l.2 b (J7 (Ka (JP e) (I.ok.cab x c T F)))).trans (I.base.keep b o e n N G)
  ·let⟨sl,B⟩:=I.base.slot b o e n N G;show⟨sl,(l.2 b (J7 (Ka (JP e) (I.ok.cab x c T F)))).trans B⟩
  ·let⟨o',B⟩:=I.base.there b o e G;show⟨o',(l.2 b (J7 (Ka (JP e) (I.ok.cab x c T F)))).trans B⟩
  ·by_cases O:j=i
   ·subst O;rw[hi]at B;cases B;rw[JS K]at J;cases J;show⟨u,r,.inr ⟨.inl L,c,F,SQ⟩⟩
   ·rw[JN (Kz O)]at J;let⟨u',r',q⟩:=hl j y v' B J U;refine⟨u',r',?_⟩;rcases q with q|⟨k,R,e,z'⟩
    ·show .inl q
    ·refine .inr ⟨k,R,e,z'.sameBut l ?_⟩;rintro rfl;show O (tG hN B (I.ok.inj _ _ _ e F▸hi))
  ·by_cases RW:R=c
   ·subst RW;show⟨_,SQ⟩
   ·let⟨w2,z2⟩:=I.cell y R e;show⟨w2,z2.sameBut l RW⟩
  ·let⟨e,n,ne,nf,d⟩:=I.pin p hp;refine⟨(l.2 p.1 ?_).trans e,n,ne,nf,d⟩;intro q;rw[q,P]at e;have q':oc=p.2:=JY e;show d b_ (by rwa[←q'])
def u0{M:Model}{A:Ê}{E:Value->À->Prop}{i:Nat}{x:Str}{v:V}{u:Value}{Q:Unit->À->Prop}(I:Inv X f g H s)(e:X.N.Nodup)(hi:X.N[i]?=Z x)(l:eC X.env.scope x)(r:RelV v u)
  (h:∀a,Inv X f (g.set i (Z v)) H a->Q Unit.unit a) (j:X.fn x=ř\/X.env.scope.names.lookup x=Z .local:=by nofun):wpAny M A (storeName X.env x u) Q E s:=
 sK I e hi l r (λa c _=>h a c) j
def Inv.call'{a:À}{ch:Y Addr}(I:Inv X f g H s)(l:a.os=s.os)(u:Un (gm X.stack) ch H w s.heap a.heap)(hok:HOk X.prog X.w w a.heap)(j:ð a.gens)
  (h:∀b∈ch,(b∈X.ex\/X.s₀.heap.objs.size<=b)/\b≠X.env.locals/\(∀x c,X.env.cells.lookup x=Z c->c≠b)/\∀p∈X.pn++f,p.1≠b):Inv X f g w a:=by
 let⟨h',g',d',t',o'⟩:=a;have e:o'=s.os:=l;subst e;show I.call (g':=g') (t':=t') (d':=d') u hok j h
end
noncomputable abbrev XK:=Value->Ř Addr->Hp->Prop
abbrev St:=Y (Ř V)
abbrev VK:=V->Hp->Prop
noncomputable abbrev TE:=St->Hp->VK->Prop
noncomputable abbrev TT:=St->Hp->(Bool->Hp->Prop)->Prop
noncomputable abbrev TA:=St->Hp->(Y V->Hp->Prop)->Prop
structure Ends where
 nx:St->Hp->Prop
 rt:VK
 bk:St->Hp->Prop:=λ_ _=>False
 ct:St->Hp->Prop:=λ_ _=>False
noncomputable abbrev TS:=Ends->St->Hp->Prop
noncomputable def EP(X:Cx)(a:Y (Addr×Õ))(f:St)(Q:VK)(u:Value)(e:À):Prop:=∃v c,Inv X a f c e/\RelV v u/\Q v c
noncomputable def TP(X:Cx)(a:Y (Addr×Õ))(f:St)(Q:Bool->Hp->Prop)(b:Bool)(e:À):Prop:=∃c,Inv X a f c e/\Q b c
noncomputable def AP(X:Cx)(a:Y (Addr×Õ))(f:St)(Q:Y V->Hp->Prop)(us:Y Value)(e:À):Prop:=∃vs c,Inv X a f c e/\Vals vs us/\Q vs c
noncomputable def SP(X:Cx)(c:Y (Addr×Õ))(D:Ends)(f:Flow)(g:À):Prop:=
 match f with
 |.next=>∃a e,Inv X c a e g/\D.nx a e
 |.brk=>∃a e,Inv X c a e g/\D.bk a e
 |.cont=>∃a e,Inv X c a e g/\D.ct a e
 |.ret u=>∃v a e,Inv X c a e g/\RelV v u/\D.rt v e
noncomputable def PE(X:Cx)(e:Ã)(t:TE):Prop:=
 ∀(a:Y (Addr×Õ))(s:À)(c:St)(H:Hp)(Q:VK),Inv X a c H s->t c H Q->wpAny (Ä X.prog X.w) X.A (eval e X.env) (EP X a c Q) X.xe s
noncomputable def PT(X:Cx)(e:Ã)(t:TT):Prop:=
 ∀(a:Y (Addr×Õ))(s:À)(c:St)(H:Hp)(Q:Bool->Hp->Prop),Inv X a c H s->t c H Q->wpAny (Ä X.prog X.w) X.A (isTrue e X.env (eval e X.env)) (TP X a c Q) X.xe s
noncomputable def PW(X:Cx)(e:Ã)(t:TT):Prop:=
 ∀(c:Sem Value)(a:Y (Addr×Õ))(s:À)(f:St)(H:Hp)(Q:Bool->Hp->Prop),Inv X a f H s->t f H Q->wpAny (Ä X.prog X.w) X.A (isTrue e X.env c) (TP X a f Q) X.xe s
def PW.pt{X:Cx}{e:Ã}{t:TT}(h:PW X e t):PT X e t:=h _
noncomputable def PA(X:Cx)(es:Y Ã)(t:TA):Prop:=
 ∀(c:Ö)(a:Y (Addr×Õ))(s:À)(e:St)(H:Hp)(Q:Y V->Hp->Prop),Inv X a e H s->t e H Q->wpAny (Ä X.prog X.w) X.A (spliced (backTo c (starEach es X.env))) (AP X a e Q) X.xe s
noncomputable def PS(X:Cx)(st:Ç)(t:TS):Prop:=
 ∀(a:Y (Addr×Õ))(s:À)(c:St)(H:Hp)(D:Ends),Inv X a c H s->t D c H->wpAny (Ä X.prog X.w) X.A (exec st X.env) (SP X a D) X.xe s
noncomputable def PSs(X:Cx)(st:Y Ç)(t:TS):Prop:=
 ∀(a:Y (Addr×Õ))(s:À)(c:St)(H:Hp)(D:Ends),Inv X a c H s->t D c H->wpAny (Ä X.prog X.w) X.A (execs st X.env) (SP X a D) X.xe s
def aF{e:Type}{t:Sem e}{Q c:e->À->Prop}{M:Model}{A:Ê}{E:Value->À->Prop}{s:À}(h:wpAny M A t Q E s)(f:∀a s,Q a s->c a s):wpAny M A t c E s:=Ld h f λ_ _ x=>x
section
variable{X:Cx}
noncomputable def kt(i:Nat):TE:=λa H Q=>∃v,a[i]?=Z (Z v)/\Q v H
def tC(v:V):TE:=λ_ H Q=>Q v H
def zZ{i:Nat}{x:Str}{f:Ö}(y:X.N[i]?=Z x)(C:cL X.env.scope x)(hd:ab x:=by decide)(w:fI x:=by decide):PE X (.Name x f) (kt i):=by
 intro j s E H Q I h;let⟨v,e,h⟩:=h;let⟨m,B,z⟩:=I.loc;let⟨u,r,l⟩:=z i x v y e C;have a:EP X j E Q u s:=⟨v,H,I,r,h⟩;rcases l with⟨g,A⟩|⟨g,c,p,o⟩
 ·show wpAny_Name (wpAny_loadName_local I.ok.kind g B A a) hd
 ·rcases g with g|g
  ·show wpAny_Name (wpAny_loadName_cell I.ok.kind g p o a) hd
  ·show wpAny_Name (wpAny_loadName_free I.ok.kind g p o a w) hd
def zH{i j f}:PE X (.Constant (.int i) j f) (tC (.int i)):=λ_ _ _ H _ I h=>wpAny_Constant_int ⟨.int i,H,I.tok _,⟨_,S⟩,h⟩
def B5{b j f}:PE X (.Constant (.bool b) j f) (tC (.bl b)):=λ_ _ _ H _ I h=>Constant_bool ⟨.bl b,H,I,S,h⟩
def Ed{j f}:PE X (.Constant .none j f) (tC .non):=λ_ _ _ H _ I h=>Constant_none ⟨.non,H,I,S,h⟩
def Eb{x j f}:PE X (.Constant (.str x) j f) (tC (.str x)):=λ_ _ _ H _ I h=>Calls.Constant_str ⟨.str x,H,I.tok _,⟨_,S⟩,h⟩
noncomputable def Gl(X:Cx)(x:Str):Prop:=X.env.kindOf x=Z .globalImplicit
def t6{E:Value->À->Prop}{a:Y (Addr×Õ)}{s:À}{g:St}{H:Hp}{x:Str}{u:Value}{f:Ö}{Q:Value->À->Prop}(I:Inv X a g H s)(c:Gl X x)(e:X.mg x=Z u)(h:Q u s)
  (hd:ab x:=by decide):wpAny (Ä X.prog X.w) X.A (eval (.Name x f) X.env) Q E s:=
 ā I.ok.kind c (Calls.loadGlobal_global (by rw[I.ok.glob];show I.mod.glob.keeps I.bk) e h) hd
def gY{E:Value->À->Prop}{a:Y (Addr×Õ)}{s:À}{p:St}{H:Hp}{x:Str}{u:Value}{f:Ö}{Q:Value->À->Prop}(I:Inv X a p H s)(g:Gl X x)(j:X.mg x=ŗ)(o:Û x=Z u)(h:Q u s)
  (l:x≠"__name__":=by decide) (hd:ab x:=by decide):wpAny (Ä X.prog X.w) X.A (eval (.Name x f) X.env) Q E s:=by
 let⟨r,c,e⟩:=I.mod.blt;show ā I.ok.kind g (Calls.loadGlobal_builtin (by rw[I.ok.glob];show I.mod.glob.keeps I.bk) j (by rw[I.ok.blt];show c.keeps I.bk) ((e x l).trans o) h) hd
def hZ{x:Str}{v:V}{u:Value}{f:Ö}(a:Gl X x)(c:X.mg x=ŗ)(g:Û x=Z u)(r:RelV v u)(e:x≠"__name__":=by decide)(hd:ab x:=by decide):PE X (.Name x f) (tC v):=
 λ_ _ _ H _ I h=>gY I a c g ⟨v,H,I,r,h⟩ e hd
variable{a b:Ã}{o tb:TE}{f:Ö}
noncomputable def PC(X:Cx)(j:Ĕ)(a b:Ã)(t:TE):Prop:=
 ∀(c:Y (Addr×Õ))(s:À)(h:St)(H:Hp)(Q:VK),Inv X c h H s->t h H Q->
  wpAny (Ä X.prog X.w) X.A (eval a X.env) (λv e=>wpAny (Ä X.prog X.w) X.A (eval b X.env) (λu g=>wpAny (Ä X.prog X.w) X.A (É j v u) (EP X c h Q) X.xe g) X.xe e) X.xe s
noncomputable def tB(t:TE):TT:=λg H Q=>t g H λx e=>∃c,x=.bl c/\Q c e
def xY{j:Ĕ}{t:TE}(h:PC X j a b t)(g:behindInMarks j b=Ś:=by first|show nobehind _ 'b' 'b'|rfl):PT X (.Compare a [j] [b] f) (tB t):=by intro e s B H Q I y;refine wpAny_isTrue_Compare1 (aF (h e s B H _ I y) λv C g=>aF g λu E w=>aF w λc F r=>?_) g;let⟨x,l,p,A,z⟩:=r;let⟨d,rfl,q⟩:=z;cases A;show LC ⟨l,p,q⟩
variable{p w:TT}{g:Y Ã}
noncomputable def AY(t u:TT):TT:=λh H Q=>t h H λc e=>if c=ř then u h e Q else Q Ś e
noncomputable def HR(t u:TT):TT:=λh H Q=>t h H λc e=>if c=ř then Q ř e else u h e Q
noncomputable def Ck(t:TT):TT:=λh H Q=>t h H λc e=>Q (!c) e
def wM(l:PT X a p):PW X (.BoolOp .And [a] f) p:=by
 intro v j s r H Q I h;refine isTrue_and (aF (l j s r H Q I h) λc u e=>?_)
 cases c with
 |true=>show isTrue_and_nil e
 |false=>show e
def xt(l:PT X a p):PW X (.BoolOp .Or [a] f) p:=by
 intro v j s r H Q I h;refine isTrue_or (aF (l j s r H Q I h) λc u e=>?_)
 cases c with
 |false=>show isTrue_or_nil e
 |true=>show e
def vz(x:PT X a p)(y:PW X (.BoolOp .And (b::g) f) w):PW X (.BoolOp .And (a::b::g) f) (AY p w):=by
 intro A e s u H Q I h;refine isTrue_and (aF (x e s u H _ I h) λc z v=>?_);let⟨j,l,r⟩:=v
 cases c with
 |true=>show y A e z u j Q l r
 |false=>show⟨j,l,r⟩
def tq(x:PT X a p)(y:PW X (.BoolOp .Or (b::g) f) w):PW X (.BoolOp .Or (a::b::g) f) (HR p w):=by
 intro A e s u H Q I h;refine isTrue_or (aF (x e s u H _ I h) λc z v=>?_);let⟨j,l,r⟩:=v
 cases c with
 |true=>show⟨j,l,r⟩
 |false=>show y A e z u j Q l r
def v4(l:PT X a p):PT X (.UnaryOp .Not a f) (Ck p):=by intro e s r H Q I h;show isTrue_not (l e s r H (λc j=>Q (!c) j) I h)
noncomputable def CU(o tb:TE):TE:=λh H Q=>o h H λx e=>∃c,x=.bl c/\if c=ř then tb h e Q else Q (.bl Ś) e
noncomputable def GO(o:TE):TE:=λh H Q=>o h H λx e=>∃c,x=.bl c/\Q (.bl (!c)) e
def vw{op}{t:TE}(h:PE X a t):PE X (.BoolOp op [a] f) t:=λc s j H Q I e=>BoolOp_one (h c s j H Q I e)
def vi(z:PE X a o)(A:PE X (.BoolOp .And (b::g) f) tb):PE X (.BoolOp .And (a::b::g) f) (CU o tb):=by
 intro e s u H Q I h;refine BoolOp_and (aF (z e s u H _ I h) λv C y=>?_);let⟨x,l,r,B,j⟩:=y;let⟨c,rfl,j⟩:=j;cases B;refine LC ?_
 cases c with
 |true=>show A e C u l Q r j
 |false=>show⟨.bl Ś,l,r,S,j⟩
def CB(y:PE X a o):PE X (.UnaryOp .Not a f) (GO o):=by intro e s A H Q I h;refine UnaryOp_ (aF (y e s A H _ I h) λv B u=>?_);let⟨x,l,r,z,j⟩:=u;let⟨c,rfl,j⟩:=j;cases z;show not_of (LC ⟨.bl (!c),l,r,S,j⟩)
noncomputable def DB(t:TT)(o tb:TE):TE:=λe H Q=>t e H λc h=>if c=ř then o e h Q else tb e h Q
def zq{c:Ã}(A:PT X c p)(y:PE X a o)(z:PE X b tb):PE X (.IfExp c a b f) (DB p o tb):=by
 intro e s j H Q I h;refine wpAny_IfExp (aF (A e s j H _ I h) λd v x=>?_);let⟨l,r,u⟩:=x
 cases d with
 |true=>show y e v j l Q r u
 |false=>show z e v j l Q r u
end
noncomputable def SqL(K:Â)(H:Hp)(a:Addr)(xs:Y V):Prop:=
 Rd H a (.lst xs) \/
  ∃(o:Õ)(its:Array Value)(n:Nat),K.lookup a=Z o/\o.cls=.type "list"/\o.dict=ŗ/\o.data=.seq its n/\its.size<=sizeLine/\Vals xs its.toList
noncomputable def SqT(K:Â)(H:Hp)(a:Addr)(xs:Y V):Prop:=
 Rd H a (.tup xs) \/
  ∃(o:Õ)(its:Array Value)(n:Nat),K.lookup a=Z o/\o.cls=.type "tuple"/\o.data=.seq its n/\its.size<=sizeLine/\Vals xs its.toList
noncomputable def zE:Value->Ř V
 |.none=>Z .non
 |.bool b=>Z (.bl b)
 |.int i _=>Z (.int i)
 |.str x _=>Z (.str x)
 |.bytes b _=>Z (.byt b)
 |.float b _=>Z (.flt b)
 |.ref a=>Z (.ref a)
 |.type n=>Z (.ty n)
 |_=>ŗ
def RelV.abs{x:V}{u:Value}(r:RelV x u):zE u=Z x:=by
 cases x with
 |non=>cases r;rfl
 |bl _=>cases r;rfl
 |int _=>let⟨t,rfl⟩:=r;rfl
 |str _=>let⟨t,rfl⟩:=r;rfl
 |byt _=>let⟨t,rfl⟩:=r;rfl
 |flt _=>let⟨t,rfl⟩:=r;rfl
 |ref _=>cases r;rfl
 |ty _=>cases r;rfl
def RelV.inj{x y:V}{u:Value}(r:RelV x u)(q:RelV y u):x=y:=JY (r.abs.symm.trans q.abs)
theorem Vals.inj:∀{xs ys:Y V}{us:Y Value},Vals xs us->Vals ys us->xs=ys
 |_,_,_,.nil,.nil=>rfl
 |_,_,_,.cons r t,.cons a t'=>by rw[r.inj a,Vals.inj t t']
section
variable{X:Cx}{c:Y (Addr×Õ)}{f:St}{H:Hp}{s:À}{a:Addr}{xs ys:Y V}
def SqL.of{K:Â}(h:H a=Z (.lst xs)):SqL K H a xs:=.inl (.inl h)
def SqT.of{K:Â}(h:H a=Z (.tup xs)):SqT K H a xs:=.inl (.inl h)
def Inv.list(I:Inv X c f H s)(h:SqL X.K H a xs):∃its:Y Value,Vals xs its/\PlainL s.heap a its.toArray/\xs.length<=sizeLine:=by
 rcases h with h|⟨o,its,n,j,g,hd,l,p,r⟩
 ·let⟨z,its,n,r,e⟩:=h.ok I.hok;show⟨its,r,⟨_,n,e,S,S,S⟩,z⟩
 ·refine⟨its.toList,r,⟨o,n,I.kIn a o j,g,hd,by simpa using l⟩,?_⟩;have e:=r.length;simp only[K3]at e;omega
def Inv.tuple(I:Inv X c f H s)(h:SqT X.K H a xs):∃its:Y Value,Vals xs its/\ġ s.heap a its.toArray/\xs.length<=sizeLine:=by
 rcases h with h|⟨o,its,n,j,g,l,u,r⟩
 ·let⟨z,its,r,p⟩:=h.ok I.hok;show⟨its,r,p.tup,z⟩
 ·refine⟨its.toList,r,⟨o,I.kIn a o j,g,n,by simpa using l⟩,?_⟩;have e:=r.length;simp only[K3]at e;omega
def Inv.list_inj(I:Inv X c f H s)(h:SqL X.K H a xs)(h':SqL X.K H a ys):xs=ys:=by
 let⟨its,r,⟨o,n,e,_,_,d⟩,_⟩:=I.list h;let⟨Oc,j,⟨o',l,g,_,_,d'⟩,_⟩:=I.list h';rw[e]at g;cases g;rw[d]at d';injection d' with d1 _
 have:its=Oc:=by simpa using Kf Ņ d1
 subst this;show r.inj j
def Inv.tuple_inj(I:Inv X c f H s)(h:SqT X.K H a xs)(h':SqT X.K H a ys):xs=ys:=by
 let⟨its,r,⟨o,e,_,n,d⟩,_⟩:=I.tuple h;let⟨Oc,j,⟨o',g,_,l,d'⟩,_⟩:=I.tuple h';rw[e]at g;cases g;rw[d]at d';injection d' with d1 _
 have:its=Oc:=by simpa using Kf Ņ d1
 subst this;show r.inj j
end
noncomputable abbrev Cx.wish(X:Cx)(E:Value->À->Prop):Cx:={ X with xe:=E }
noncomputable abbrev Cx.nox(X:Cx):Cx:=X.wish λ_ _=>False
def Cx.Ok.wish{X:Cx}(ok:X.Ok)(E:Value->À->Prop):(X.wish E).Ok:=
 ⟨ok.mod,ok.kind,ok.glob,ok.blt,ok.above,ok.inj,ok.has,ok.cab,ok.hd,ok.frames,ok.stk,ok.exf,ok.bs,ok.bsz,ok.noex,ok.exfs,ok.funs,ok.frf⟩
def Cx.Ok.unwish{X:Cx}{E:Value->À->Prop}(ok:(X.wish E).Ok):X.Ok:=
 ⟨ok.mod,ok.kind,ok.glob,ok.blt,ok.above,ok.inj,ok.has,ok.cab,ok.hd,ok.frames,ok.stk,ok.exf,ok.bs,ok.bsz,ok.noex,ok.exfs,ok.funs,ok.frf⟩
section
variable{X:Cx}{a:Y (Addr×Õ)}{c:St}{H:Hp}{s:À}{E:Value->À->Prop}
def Inv.wish(I:Inv X a c H s)(E:Value->À->Prop):Inv (X.wish E) a c H s:=⟨I.ok.wish E,I.os,I.bare,I.base,I.loc,I.cell,I.free,I.freeC,I.pin,I.hok,I.len⟩
def Inv.unwish(I:Inv (X.wish E) a c H s):Inv X a c H s:=⟨I.ok.unwish,I.os,I.bare,I.base,I.loc,I.cell,I.free,I.freeC,I.pin,I.hok,I.len⟩
theorem SP.unwish{D:Ends}{f:Flow}{j:À}(h:SP (X.wish E) a D f j):SP X a D f j:=by
 cases f with
 |next=>let⟨e,g,I,q⟩:=h;show⟨e,g,I.unwish,q⟩
 |brk=>let⟨e,g,I,q⟩:=h;show⟨e,g,I.unwish,q⟩
 |cont=>let⟨e,g,I,q⟩:=h;show⟨e,g,I.unwish,q⟩
 |ret u=>let⟨v,e,g,I,r,q⟩:=h;show⟨v,e,g,I.unwish,r,q⟩
def PSs.nox{st:Y Ç}{t:TS}(h:PSs X.nox st t):PSs X st t:=λa s c H D I e=>
 Ld (h a s c H D (I.wish _) e) (λ_ _ q=>q.unwish) λ_ _ z=>Ñ z
end
section
variable{X:Cx}{st:Ç}{l:Y Ç}{t u:TS}{e:Ã}{j:TE}{g:Ö}
def G1:TS:=λD a H=>D.nx a H
noncomputable def zc(t u:TS):TS:=λD a H=>t { D with nx:=u D } a H
def pss_nil:PSs X [] G1:=λ_ _ a H _ I h=>MI ⟨a,H,I,h⟩
def ma(r:PS X st t)(w:PSs X l u):PSs X (st::l) (zc t u):=by
 intro a s y H D I h;refine wpAny_execs_cons (aF (r a s y H { D with nx:=u D } I h) λf x q=>?_)
 cases f with
 |next=>
  let⟨c,o,p,q⟩:=q;show w a x c o D p q
 |ret v=>show q
 |brk=>show q
 |cont=>show q
def t9(c:PS X st t):PSs X [st] t:=by
 intro a s o H D I h;refine wpAny_execs_cons (aF (c a s o H D I h) λf p q=>?_)
 cases f with
 |next=>show MI q
 |ret v=>show q
 |brk=>show q
 |cont=>show q
def Inv.quiet{a:Y (Addr×Õ)}{c:St}{H:Hp}{s:À}(I:Inv X a c H s):interactive X.env=Ś:=by simp[interactive,I.ok.kind]
noncomputable def yj(j:TE):TS:=λD a H=>j a H λ_ c=>D.nx a c
def jL(r:PE X e j)(w:Î e ŗ g.line X.env=pure Ś:=by rfl):PS X (.Expr e g) (yj j):=by intro a s c H D I h;show wpAny_Expr_any (aF (r a s c H _ I h) λv A p=>by let⟨x,f,o,z,y⟩:=p;show⟨c,f,o,y⟩) I.quiet w
def DC(j:TE):TS:=λD a H=>j a H D.rt
def wD(r:PE X e j):PS X (.Return (Z e) g) (DC j):=by intro a s c H D I h;show wpAny_Return_some (aF (r a s c H _ I h) λv z p=>by let⟨x,f,o,y,w⟩:=p;show⟨x,c,f,o,y,w⟩)
noncomputable def Do(c:TT)(t u:TS):TS:=λD a H=>c a H λb f=>if b=ř then t D a f else u D a f
def vO{c:Ã}{a b:Y Ç}{x:TT}(B:PT X c x)(z:PSs X a t)(A:PSs X b u):PS X (.If c a b g) (Do x t u):=by
 intro f s o H D I h;refine wpAny_If (aF (B f s o H _ I h) λd w y=>?_);let⟨p,r,v⟩:=y
 cases d with
 |true=>show z f w o p D r v
 |false=>show A f w o p D r v
def Ej:TS:=λ_ _ _=>False
def ps_never:PS X st Ej:=λ_ _ _ _ _ _ h=>h.elim
end
noncomputable abbrev TG:=V->St->Hp->(St->Hp->Prop)->Prop
noncomputable abbrev fF:=Y V->St->Hp->(St->Hp->Prop)->Prop
noncomputable def PG(X:Cx)(a:Ã)(t:TG):Prop:=
 ∀(c:Y (Addr×Õ))(s:À)(g:St)(H:Hp)(v:V)(u:Value)(Q:St->Hp->Prop),Inv X c g H s->RelV v u->t v g H Q->
  wpAny (Ä X.prog X.w) X.A (assign a X.env u) (λ_ h=>∃e f,Inv X c e f h/\Q e f) X.xe s
noncomputable def PGs(X:Cx)(h:Y Ã)(t:fF):Prop:=
 ∀(a:Y (Addr×Õ))(s:À)(f:St)(H:Hp)(vs:Y V)(us:Y Value)(Q:St->Hp->Prop),Inv X a f H s->Vals vs us->t vs f H Q->
  wpAny (Ä X.prog X.w) X.A (assignInOrder ((Æ h X.env).map (·.2)) us) (λ_ g=>∃c e,Inv X a c e g/\Q c e) X.xe s
noncomputable abbrev k7:=V->V->V->Hp->(Hp->Prop)->Prop
noncomputable def qi(X:Cx)(t:k7):Prop:=
 ∀(a:Y (Addr×Õ))(s:À)(g:St)(H:Hp)(o i v:V)(f e u:Value)(Q:Hp->Prop),Inv X a g H s->RelV o f->RelV i e->RelV v u->t o i v H Q->
  wpAny (Ä X.prog X.w) X.A (setItem f e u) (λ_ h=>∃c,Inv X a g c h/\Q c) X.xe s
noncomputable abbrev md:=V->V->Hp->VK->Prop
noncomputable def pS(X:Cx)(e:ÿ)(t:md):Prop:=
 ∀(a:Y (Addr×Õ))(s:À)(c:St)(H:Hp)(x y:V)(v u:Value)(Q:VK),Inv X a c H s->RelV x v->RelV y u->t x y H Q->
  wpAny (Ä X.prog X.w) X.A (inplaceOp e v u) (EP X a c Q) X.xe s
section
variable{X:Cx}{c:Ö}
noncomputable def iY(i:Nat):TG:=λv a H Q=>Q (a.set i (Z v)) H
def kS{i:Nat}{x:Str}(f:X.N.Nodup)(hi:X.N[i]?=Z x)(j:eC X.env.scope x)(g:X.fn x=ř\/X.env.scope.names.lookup x=Z .local:=by nofun):PG X (.Name x c) (iY i):=by intro a s o H v u Q I r h;show wpAny_assign_Name (u0 I f hi j r (λl e=>⟨_,H,e,h⟩) g)
def IJ:fF:=λvs a H Q=>vs=[]/\Q a H
noncomputable def HZ(t:TG)(u:fF):fF:=λvs f H Q=>∃v r,vs=v::r/\t v f H λa e=>u r a e Q
def pgs_nil:PGs X [] IJ:=by intro a s f H vs us Q I r h;let⟨e,h⟩:=h;subst e;cases r;show assignInOrder_nil ⟨f,H,I,h⟩
def lq{e:Ã}{es:Y Ã}{t:TG}{u:fF}(p:PG X e t)(w:PGs X es u)
  (x:(Æ (e::es) X.env).map (·.2)=assign e X.env::(Æ es X.env).map (·.2):=by rfl):PGs X (e::es) (HZ t u):=by
 intro a s A H vs us Q I r h;let⟨v,B,o,h⟩:=h;subst o
 cases r with
 |cons r rr=>
  rw[x];refine assignInOrder_cons (aF (p a s A H _ _ _ I r h) λ_ z l=>?_);let⟨f,g,j,y⟩:=l;show w a z f g _ _ Q j rr y
noncomputable def qB(K:Â)(n:Nat)(t:fF):TG:=λv e H Q=>∃a xs,v=.ref a/\SqT K H a xs/\xs.length=n/\t xs e H Q
def tN{es:Y Ã}{k:Nat}{t:fF}{n:Nat}(y:X.calm=ř)(h:PGs X es t)
  (A:(Æ es X.env).length=n:=by rfl) (w:(Æ es X.env).findIdx? (·.1)=ŗ:=by rfl):PG X (.Tuple es k c) (qB X.K n t):=by
 intro f s l H v u Q I r g;let⟨a,xs,x,B,z,g⟩:=g;subst x;cases r;let⟨its,j,C,F⟩:=I.tuple B;refine assign_Tuple_tuple (I.ok.hd y) C (by simp[A,←z,j.length]) w λh' E=>?_;have p:Inv X f l H { s with heap:=h' }:=I.kept (t':=s.toks) λb o e=>E b o (J7 (JP e)) e;show h f _ l H xs _ Q p (by simpa using j) g
noncomputable def zu(to h:TE)(t:k7):TG:=λv a H Q=>to a H λo e=>h a e λi f=>t o i v f λg=>Q a g
def wc{o i:Ã}{to j:TE}{t:k7}(J:PE X o to)(hi:PE X i j)(K:qi X t)
  (G:∀v,assign (.Subscript o i c) X.env v=(do
   let e ←holding [v] (eval o X.env)
   let f ←holding [v,e] (eval i X.env)
   standAt c
   holding [v,e,f] (setItem e f v)
   release [v,e,f] []):=by intro _;rfl):PG X (.Subscript o i c) (zu to j t):=by
 intro a s g H v u Q I r h;rw[G];refine Jt (Le (aF (J a s g H _ I h) λe R C=>?_));let⟨x,l,z,O,L⟩:=C;refine Jt (Le (aF (hi a R g l _ z L) λf U E=>?_));let⟨y,p,A,P,M⟩:=E;refine Jt (M5 (Jt (Le (aF (K a U g p x y v e f u _ A O P r M) λ_ T F=>?_))));let⟨w,B,N⟩:=F;show wpAny_release ⟨g,w,B,N⟩
noncomputable def jm(f:TE)(g:TG):TS:=λD a H=>f a H λx e=>g x a e D.nx
def nB{f e:Ã}{j:TE}{g:TG}(w:PE X e j)(y:PG X f g)(z:è [f] e c.line X.env=pure Ś:=by rfl)(A:é [f] e X.env=pure ŗ:=by rfl)
  (u:(Æ [f] X.env).map (·.2)=[assign f X.env]:=by rfl):PS X (.Assign [f] e c) (jm j g):=by
 intro a s l H D I h;refine wpAny_Assign_stores (aF (w a s l H _ I h) λv E r=>?_) z A;let⟨x,o,p,C,B⟩:=r;rw[u];show aF (y a E l o x v _ p C B) λ_ F q=>q
def qH{i:Nat}{x:Str}{e:Ã}{g:TE}{a:Ö}(r:X.N.Nodup)(hi:X.N[i]?=Z x)(A:eC X.env.scope x)(u:PE X e g)(z:Î e (Z (.Name x a)) c.line X.env=pure Ś:=by rfl)(w:X.fn x=ř\/X.env.scope.names.lookup x=Z .local:=by nofun) :
  PS X (.Assign [.Name x a] e c) (jm g (iY i)):=by
 intro f s E H D I h;refine wpAny_Assign_Name (aF (u f s E H _ I h) λv F p=>?_) z;let⟨y,j,l,C,B⟩:=p;show u0 l r hi A C (λG o=>⟨_,j,o,B⟩) w
noncomputable def Dn(to w v:TE)(p:V->V->Hp->VK->Prop)(u:md)(r:k7):TS:=λD a H=>to a H λo e=>w a e λi f=>p o i f λx g=>v a g λy h=>u x y h λz j=>r o i z j λl=>D.nx a l
noncomputable def rf(X:Cx)(t:V->V->Hp->VK->Prop):Prop:=
 ∀(a:Y (Addr×Õ))(s:À)(g:St)(H:Hp)(o i:V)(f e:Value)(Q:VK),Inv X a g H s->RelV o f->RelV i e->t o i H Q->
  wpAny (Ä X.prog X.w) X.A (ä f e) (EP X a g Q) X.xe s
def Gh{o i e:Ã}{to A z:TE}{p:V->V->Hp->VK->Prop}{u:md}{r:k7}{w:ÿ}{a_:Ö}(ho:PE X o to)(hi:PE X i A)(hg:rf X p)(he:PE X e z)(hp:pS X w u)(hs:qi X r)
  (ha:∀g f new,augStore i g f new=(do holding [new,g,f] (setItem g f new);release [new,g,f] [];pure .next):=by intros;rfl):PS X (.AugAssign (.Subscript o i a_) w e c) (Dn to A z p u r):=by
 intro a s j H D I h;refine wpAny_AugAssign_SubscriptAny (aF (ho a s j H _ I h) λg s1 b_=>?_) ha;let⟨B,E,M,x,q1⟩:=b_;refine aF (hi a s1 j E _ M q1) λf s2 T=>?_;let⟨C,F,N,y,q2⟩:=T;refine aF (hg a s2 j F B C g f _ N x y q2) λl s3 U=>?_;let⟨x3,G,O,r3,q3⟩:=U;refine aF (he a s3 j G _ O q3) λv s4 be=>?_;let⟨x4,J,P,r4,q4⟩:=be;refine aF (hp a s4 j J x3 x4 l v _ P r3 r4 q4) λnew s5 UR=>?_;let⟨x5,K,Q,r5,q5⟩:=UR
 show aF (hs a s5 j K B C x5 g f new _ Q x y r5 q5) λ_ s6 US=>by let⟨L,R,q6⟩:=US;show⟨j,L,R,q6⟩
noncomputable def tU(f:Int->Int->Int):md:=λx y H Q=>∃i j,x=.int i/\y=.int j/\Q (.int (f i j)) H
def yO:pS X .Add (tU λi j=>i+j):=by intro a s o H x y v u Q I g l h;let⟨i,j,e,f,q⟩:=h;subst e;subst f;let⟨t,rfl⟩:=g;let⟨t',rfl⟩:=l;show iadd_int ⟨.int _,H,I.tok _,⟨_,S⟩,q⟩
end
section
variable{X:Cx}{a:Ö}
noncomputable def yi(c:TT)(tb:TS):TS:=λD e H=>∃W:Nat->St->Hp->Prop,(∃m,W m e H)/\∀m e H,W m e H->
 c e H λb h=>if b=ř then ∃N:St->Hp->Prop,(∀f g,N f g->∃j,j<m/\W j f g)/\tb { D with nx:=N,ct:=N,bk:=D.nx } e h else D.nx e h
def uw{c:Ã}{l:Y Ç}{K:TT}{tb:TS}(J:ø (Ä X.prog X.w) X.A X.env X.xe)(P:PT X c K)(O:PSs X l tb):PS X (.While c l [] a) (yi K tb):=by
 intro e s be H D I h;let⟨W,⟨Q,U⟩,p⟩:=h;refine wpAny_While (codeAny_whileLoop (λn R=>∃r B,Inv X e r B R/\W n r B) ?_ Q ⟨be,H,I,U⟩);rintro n b_ ⟨j,C,L,a_⟩;refine Lx J (aF (P e b_ j C _ L (p n j C a_)) λb T M=>?_);let⟨E,F,u⟩:=M
 cases b with
 |true=>
  let⟨N,G,u⟩:=u;rw[JC S];refine Lx J (aF (O e T j E _ F u) λf s3 w=>?_)
  cases f with
  |next=>
   let⟨g,o,x,n3⟩:=w;let⟨z,y,A⟩:=G g o n3;show⟨z,y,g,o,x,A⟩
  |cont=>
   let⟨g,o,x,n3⟩:=w;let⟨z,y,A⟩:=G g o n3;show⟨z,y,g,o,x,A⟩
  |brk=>show w
  |ret v=>show w
 |false=>
  rw[Jv J8];show MI ⟨j,E,F,u⟩
end
structure It where
 go:Nat->Hp->Prop
 yld:Nat->Hp->V->Hp->Prop
 stop:Nat->Hp->Prop
noncomputable def eE(X:Cx)(a:Y (Addr×Õ))(H:Hp)(b:Addr):Prop:=
 H b=ŗ/\b≠X.env.locals/\b∉X.fs/\(b∈X.ex\/X.s₀.heap.objs.size<=b)/\(∀x c,X.env.cells.lookup x=Z c->c≠b)/\∀p∈X.pn++a,p.1≠b
def Inv.fpOk{X:Cx}{a:Y (Addr×Õ)}{l:St}{H g:Hp}{s:À}{b:Addr}(I:Inv X a l H s)(f:s.heap.objs.size<=b)(h:g b=ŗ):eE X a g b:=by
 refine⟨h,NM (Ka I.lt f),I.nofs f,.inr (JR I.sz f),λx c e z=>?_,λp j z=>?_⟩
 ·let⟨v,q⟩:=I.cell x c e;show absurd (Ka q.lt (by rwa[z])) (K9 _)
 ·show absurd (Ka (JP (I.pin p j).1) (by rwa[z])) (K9 _)
structure Turn(P:Å)(w:È)(K:Â)(tg:Ã)(J:It)(fp:List Addr)(it:Addr)(tn:Nat->Heap->Prop):Prop where
 mem:it∈fp
 obj:∀i h,tn i h->∀b∈fp,∃o,h.get? b=Z o/\∀v,o.data≠.cell v
 keep:∀i h h',tn i h->(∀b∈fp,∀o,h.get? b=Z o->h'.get? b=Z o)->tn i h'
 item:∀(X:Cx),X.prog=P->X.w=w->X.K=K->X.calm=ř->∀(i:Nat)(pins:List (Addr×Õ))(s:À)(σ:St)(H:Hp)(E:Value->À->Prop),Inv X pins σ H s->(∀b∈fp,eE X pins H b)->tn i s.heap->J.go i H->
  wpAny (Ä P w) X.A (ó (.ref it)) (λr s1=>∃u,r=Z u /\
   wpAny (Ä P w) X.A (ñ tg (.ref it) u) (λ_ s2=>∃x H',Inv X pins σ H' s2/\RelV x u/\J.yld i H x H'/\tn (i+1) s2.heap/\∀b∈fp,H' b=ŗ) E s1) E s
 done:∀(X:Cx),X.prog=P->X.w=w->X.K=K->X.calm=ř->∀(i:Nat)(pins:List (Addr×Õ))(s:À)(σ:St)(H:Hp)(E:Value->À->Prop),Inv X pins σ H s->(∀b∈fp,eE X pins H b)->tn i s.heap->J.stop i H->
  wpAny (Ä P w) X.A (ó (.ref it)) (λr s1=>r=ŗ/\Inv X pins σ H s1) E s
 self:∀(A:Ê)(i:Nat)(s:À)(Q:Value->À->Prop)(E:Value->À->Prop),tn i s.heap->Q (.ref it) s->wpAny (Ä P w) A (Ľ (.ref it)) Q E s
noncomputable abbrev TI:=St->Hp->(It->Hp->Prop)->Prop
noncomputable def rC(X:Cx)(a:Y (Addr×Õ))(o:St)(l:Ã)(R:It->Hp->Prop)(j:Value)(g:À):Prop:=
 ∃(f:Addr)(e:Y Addr)(h:Nat->Heap->Prop)(J:It)(c:Hp),j=.ref f/\Inv X a o c g/\Turn X.prog X.w X.K l J e f h/\h 0 g.heap/\(∀b∈e,eE X a c b)/\R J c
noncomputable def PI(X:Cx)(g c:Ã)(h:TI):Prop:=
 ∀(a:Y (Addr×Õ))(s:À)(e:St)(H:Hp)(R:It->Hp->Prop),Inv X a e H s->h e H R->
  wpAny (Ä X.prog X.w) X.A (eval c X.env) (λv f=>wpAny (Ä X.prog X.w) X.A (Ľ v) (rC X a e g R) X.xe f) X.xe s
def ld{M:Model}{A:Ê}{E:Value->À->Prop}{s:À}{e:Ã}{c:Addr}{u:Value}{o:Õ}{n:String}{vs:Array Value}{Q:Unit->À->Prop}(j:s.heap.get? c=Z o)(f:o.cls=.type n)(hd:o.data=.fields vs)
  (g:["enumerate","zip","dict_itemiterator","dict_reverseitemiterator","odict_iterator","itertools.zip_longest","itertools.pairwise"].contains n=Ś) (a:Q Unit.unit s):wpAny M A (ñ e (.ref c) u) Q E s:=by
 unfold ñ
 cases e<;>first
  |show JK a
  |(cases u<;>first
   |show JK a
   |(refine Jt (wpAny_load j ?_)
     rw [f, hd];change wpAny M A (if (["enumerate", "zip", "dict_itemiterator", "dict_reverseitemiterator", "odict_iterator", "itertools.zip_longest", "itertools.pairwise"].contains n&&vs[0]?==Z (ò _)) = ř then _ else _) Q E s;rw [Jv (by intro h; rw [g, Lo]at h; cases h)]
     show JK a))
noncomputable def pN(K:Â)(a:Addr):It:=
 ⟨λi H=>∃xs x,SqL K H a xs/\xs[i]?=Z x,λi H x c=>c=H/\∀xs,SqL K H a xs->xs[i]?=Z x,λi H=>∃xs,SqL K H a xs/\xs.length<=i⟩
noncomputable def rQ(K:Â)(a:Addr):It:=
 ⟨λi H=>∃xs x,SqT K H a xs/\xs[i]?=Z x,λi H x c=>c=H/\∀xs,SqT K H a xs->xs[i]?=Z x,λi H=>∃xs,SqT K H a xs/\xs.length<=i⟩
noncomputable def jn(lo:Int)(n:Nat):It:=⟨λi _=>i<n,λi H x a=>a=H/\x=.int (lo+i),λi _=>n<=i⟩
def zY{P:Å}{w:È}{K:Â}{tg:Ã}(a j:Addr):Turn P w K tg (pN K a) [j] j (λi h=>h.IsListIter j a i) where
 mem:=by simp
 obj:=λi h st b g=>by
  have e:b=j:=by simpa using g
  subst e;let⟨o,e,c,d⟩:=st;show⟨o,e,λv z=>by rw[d]at z;cases z⟩
 keep:=λi h h' st k=>st.at λo e=>k j (by simp) o e
 item:=by
  intro X J M G Q i f s b_ H E I l st L;subst J M G;let⟨xs,x,r,R⟩:=L;let⟨its,N,p,hz⟩:=I.list r;let⟨u,be,ru⟩:=N.get R;let⟨y,A,a_,B,C,F⟩:=l j (by simp);refine Mt st p.isList (x:=u) (by simpa using be) λh' O sb=>?_;have T:Inv X f b_ H { s with heap:=h' }:=I.turned (t':=s.toks) (λb o g e=>(sb.2 b g).trans e) y A B C F;let⟨o,e,c,d⟩:=id O;show⟨u,S,ld (s:={ s with heap:=h' }) e c d 'b' ⟨x,H,T,ru,⟨S,λys hy=>by rwa[I.list_inj hy r]⟩,O,λb g=>(l b g).1⟩⟩
 done:=by
  intro X J M G Q i f s b_ H E I l st L;subst J M G;let⟨xs,r,R⟩:=L;let⟨its,N,p,hz⟩:=I.list r;let⟨y,A,a_,B,C,F⟩:=l j (by simp);have hl:=N.length;show MC (I.ok.hd Q) st p.isList (by simp;omega) λh' U=>⟨S,I.turned (t':=s.toks) (λb o g e=>U b o g e) y A B C F⟩
 self:=λ_ _ _ _ _ st h=>į st h
def Ht{P:Å}{w:È}{K:Â}{tg:Ã}(a j:Addr):Turn P w K tg (rQ K a) [j] j (λi h=>h.IsTupleIter j a i) where
 mem:=by simp
 obj:=λi h st b g=>by
  have e:b=j:=by simpa using g
  subst e;let⟨o,e,c,d⟩:=st;show⟨o,e,λv z=>by rw[d]at z;cases z⟩
 keep:=λi h h' st k=>st.at λo e=>k j (by simp) o e
 item:=by
  intro X J M G Q i f s b_ H E I l st L;subst J M G;let⟨xs,x,r,R⟩:=L;let⟨its,N,p,hz⟩:=I.tuple r;let⟨u,be,ru⟩:=N.get R;let⟨y,A,a_,B,C,F⟩:=l j (by simp);refine Ĝ st (show s.heap.IsTuple a its.toArray from p) (x:=u) (by simpa using be) λh' O sb=>?_;have T:Inv X f b_ H { s with heap:=h' }:=I.turned (t':=s.toks) (λb o g e=>(sb.2 b g).trans e) y A B C F;let⟨o,e,c,d⟩:=id O;show⟨u,S,ld (s:={ s with heap:=h' }) e c d 'b' ⟨x,H,T,ru,⟨S,λys hy=>by rwa[I.tuple_inj hy r]⟩,O,λb g=>(l b g).1⟩⟩
 done:=by
  intro X J M G Q i f s b_ H E I l st L;subst J M G;let⟨xs,r,R⟩:=L;let⟨its,N,p,hz⟩:=I.tuple r;let⟨y,A,a_,B,C,F⟩:=l j (by simp);have hl:=N.length;show Ħ (I.ok.hd Q) st (show s.heap.IsTuple a its.toArray from p) (by simp;omega) λh' U=>⟨S,I.turned (t':=s.toks) (λb o g e=>U b o g e) y A B C F⟩
 self:=λ_ _ _ _ _ st h=>ħ st h
def wt{P:Å}{w:È}{K:Â}{R:Ã}(a:Addr)(lo:Int)(n:Nat):Turn P w K R (jn lo n) [a] a (λi h=>ķ h a (lo+(i:Nat)*1) ((n:Int)-(i:Nat)) 1) where
 mem:=by simp
 obj:=λi h st b f=>by
  have e:b=a:=by simpa using f
  subst e
  show⟨_,st,λv z=>by
   have U:û _=ï v:=z
   cases U⟩
 keep:=λi h h' st k=>k a (by simp) _ st
 item:=by
  intro X y C x A i c s J H E I g st B;subst y C x;let⟨j,l,N,p,r,u⟩:=g a (by simp);have W:=Walks.range (prog:=X.prog) (w:=X.w) (I.ok.hd A) a lo 1 n;refine W.item i s _ _ B st λv h' G O F Q=>?_;let⟨t,rfl⟩:=O;have L:Inv X c J H { s with heap:=h',toks:=G }:=I.turned (λb o f e=>Q b o (by simpa using f) e) j l p r u;refine⟨_,S,ld (s:={ s with heap:=h',toks:=G }) (n:="range_iterator") F S S 'b' ⟨.int (lo+i),H,L,⟨t,?_⟩,⟨S,S⟩,F,λb f=>(g b f).1⟩⟩;rw[Int.mul_one]
 done:=by intro X y C x A i c s J H E I g st B;subst y C x;let⟨j,l,N,p,r,u⟩:=g a (by simp);show wpAny_pyNext_range_end (I.ok.hd A) st (by have:n<=i:=B;omega) λh' M=>⟨S,I.turned (t':=s.toks) (λb o f e=>M b o f e) j l p r u⟩
 self:=λ_ _ _ _ _ st h=>wpAny_pyIter_rangeiter st h
section
variable{X:Cx}{c:Ã}
def E9{a:Y (Addr×Õ)}{h:St}{H:Hp}{s:À}{R:It->Hp->Prop}{E:Value->À->Prop}{lo hi:Int}{t u v:Ł}{g:Nat}(I:Inv X a h H s)(p:-(2^62)<=lo)(r:lo<2^62)(w:-(2^62)<=hi)(x:hi<2^62)
  (q:R (jn lo (hi-lo).toNat) H):wpAny (Ä X.prog X.w) X.A (Ľ (.ref s.heap.objs.size)) (rC X a h c R) E { s with heap:=s.heap.push { cls:=.type "range",data:=.fields #[.int lo t,.int hi u,.int 1 v] },toks:=g }:=by
 refine Ļ (Ċ ..) (ŏ p r w x) ?_;have f:Inv X a h H { s with heap:=s.heap.push { cls:=.type "range",data:=.fields #[.int lo t,.int hi u,.int 1 v] },toks:=g }:=I.kept λb o e=>Jz _ e
 refine⟨(s.heap.push { cls:=.type "range",data:=.fields #[.int lo t,.int hi u,.int 1 v] }).objs.size,[(s.heap.push { cls:=.type "range",data:=.fields #[.int lo t,.int hi u,.int 1 v] }).objs.size],_,_,H,S,
  f.kept (t':=g) λb o e=>Jz _ e,wt _ lo (hi-lo).toNat,?_,λb y=>?_,q⟩
 ·have j:lo+((0:Nat):Int)*1=lo:=by simp
  have l:(((hi-lo).toNat:Nat):Int)-((0:Nat):Int)=Builtin.Range.rangeSize lo hi 1:=by rw[M6];split<;>omega
  change ķ _ _ (lo+((0:Nat):Int)*1) ((((hi-lo).toNat:Nat):Int)-((0:Nat):Int)) 1;rw[j,l];show JJ _ S
 ·have e:b=(s.heap.push { cls:=.type "range",data:=.fields #[.int lo t,.int hi u,.int 1 v] }).objs.size:=by simpa using y
  subst e;show f.fpOk (Jx _) (f.hok.fresh (Jx _))
noncomputable def zS(e:TA):TI:=λf H R=>e f H λvs a=>∃j:Int,vs=[.int j]/\-(2^62)<=j/\j<2^62/\R (jn 0 j.toNat) a
def vq{a:Ã}{o:TA}{p g:Ö}(x:Gl X "range")(y:X.mg "range"=ŗ)(w:PA X [a] o)(z:starEach [a] X.env=[(Ś,eval a X.env)]:=by rfl):PI X c (.Call (.Name "range" p) [a] [] g) (zS o):=by
 intro f s C H R I h;refine Call_ (gY I x y boot_range (Kw (aF (w g f s C H _ I h) λus F v=>?_) z S));let⟨vs,E,u,B,l⟩:=v;let⟨j,e,l,A,q⟩:=l;subst e
 cases B with
 |cons r rr=>
  cases rr;let⟨t,rfl⟩:=r;show call_range_1 (E9 u () () l A (by simpa using q))
noncomputable def yz(p:TI)(g:TG)(tb:TS):TS:=λD a H=>p a H λJ l=>∃W:Nat->Nat->St->Hp->Prop,(∃m,W 0 m a l)/\∀i m a H,W i m a H->
 (J.stop i H/\D.nx a H)\/(J.go i H/\∃N:St->Hp->Prop,(∀f e,N f e->∃j,j<m/\W (i+1) j f e)/\∀x e,J.yld i H x e->g x a e λh o=>tb { D with nx:=N,ct:=N,bk:=D.nx } h o)
noncomputable def kB(a:Y Addr)(h:Heap):Y (Addr×Õ):=a.filterMap λb=>(h.get? b).map λo=>(b,o)
def mM{a:Y Addr}{h:Heap}{b:Addr}{o:Õ}(f:b∈a)(e:h.get? b=Z o):(b,o)∈kB a h:=LM.mpr ⟨b,f,by rw[e];rfl⟩
def ID{a:Y Addr}{h:Heap}{p:Addr×Õ}(j:p∈kB a h):p.1∈a/\h.get? p.1=Z p.2:=by
 let⟨b,g,e⟩:=LM.mp j
 cases q:h.get? b with
 |none=>rw[q]at e;cases e
 |some o=>
  rw[q]at e;have f:(b,o)=p:=JY e;subst f;show⟨g,q⟩
def Inv.pinned{a:Y (Addr×Õ)}{j:St}{H:Hp}{s:À}{f:Y Addr}(I:Inv X a j H s)(w:∀b∈f,eE X a H b)(x:∀b∈f,∃o,s.heap.get? b=Z o/\∀v,o.data≠.cell v):Inv X (a++kB f s.heap) j H s:=
 I.pins_of λp y=>(JT.mp y).elim (λz=>I.pin p (Ki _ z)) λz=>by let⟨h,e⟩:=ID z;let⟨l,r,u,_⟩:=w p.1 h;let⟨o,g,d⟩:=x p.1 h;rw[e]at g;cases g;show⟨e,l,r,u,d⟩
def Inv.unpinned{a pl:Y (Addr×Õ)}{e:St}{H:Hp}{s:À}(I:Inv X (a++pl) e H s):Inv X a e H s:=I.pins_of λp f=>I.pin p (Ki _ (LG _ f))
def vd{y:Ã}{C:Y Ç}{wi:TI}{g:TG}{tb:TS}{a_:Ö}(K:ø (Ä X.prog X.w) X.A X.env X.xe)(hc:X.calm=ř)(hi:PI X c y wi)(hg:PG X c g)(w:PSs X C tb)
  (hs:∀x,Ì y X.env x=pure x:=by intro _;rfl):PS X (.For c y C [] a_) (yz wi g tb):=by
 intro a s σ H D I h;refine wpAny_For (aF (hi a s σ H _ I h) λv s1 h1=>aF h1 λUb s2 h2=>?_) hs;let⟨it,F,tn,J,H2,e,I2,T,RC,f2,W,⟨m0,w0⟩,O⟩:=h2;subst e;have R:∀{B:Hp},(∀b∈F,B b=ŗ)->∀b∈F,eE X a B b:=λhn b w=>⟨hn b w,(f2 b w).2⟩;refine codeAny_forLoop_any (λn s'=>∃i z B,Inv X a z B s'/\tn i s'.heap/\(∀b∈F,B b=ŗ)/\W i n z B) ?_ m0 ⟨0,σ,H2,I2,RC,λb w=>(f2 b w).1,w0⟩;rintro n s3 ⟨i,A,P,I3,M,G,w3⟩;rcases O i n A P w3 with⟨stop,qn⟩|⟨go,N,hN,step⟩
 ·refine Lx K (aF (T.done X S S S hc i a s3 A P X.xe I3 (R G) M stop) λr s4 NT=>?_);let⟨U,I4⟩:=NT;subst U;show MI ⟨A,P,I4,qn⟩
 ·refine Lx K (aF (T.item X S S S hc i a s3 A P X.xe I3 (R G) M go) λr s4 Oe=>?_);let⟨u,U,h4⟩:=Oe;subst U;refine Lx K (aF h4 λ_ s5 PV=>?_);let⟨x,H5,I5,r5,y5,b_,Uc⟩:=PV;have Q:=I5.pinned (R Uc) (T.obj _ _ b_);refine Lx K (aF (hg _ s5 A H5 x u _ Q r5 (step x H5 y5)) λ_ s6 SR=>?_);let⟨σ6,H6,I6,q6⟩:=SR;refine Lx K (aF (w _ s6 σ6 H6 _ I6 q6) λf be E=>?_)
  have again:∀{j:St}{l:Hp},Inv X (a++kB F s5.heap) j l be->N j l->∃m,m<n/\∃i z B,Inv X a z B be/\tn i be.heap/\(∀b∈F,B b=ŗ)/\W i m z B:=λ{j l} p L=>by let⟨m',hm,w7⟩:=hN j l L;refine⟨m',hm,i+1,j,l,p.unpinned,T.keep _ _ _ b_ λb w o e=>(p.pin (b,o) (Ki _ (Ki _ (mM w e)))).1,λb w=>?_,w7⟩;let⟨o,e,d⟩:=T.obj _ _ b_ b w;show (p.pin (b,o) (Ki _ (Ki _ (mM w e)))).2.1
  cases f with
  |next=>let⟨j,l,p,L⟩:=E;show again p L
  |cont=>let⟨j,l,p,L⟩:=E;show again p L
  |brk=>let⟨j,l,p,E⟩:=E;show⟨j,l,p.unpinned,E⟩
  |ret v=>let⟨x7,j,l,p,r7,E⟩:=E;show⟨x7,j,l,p.unpinned,r7,E⟩
end
noncomputable abbrev R2:=V->V->Hp->VK->Prop
noncomputable def b9(X:Cx)(f:Value->Value->Sem Value)(r:R2):Prop:=
 ∀(a:Y (Addr×Õ))(s:À)(c:St)(H:Hp)(x y:V)(v u:Value)(Q:VK),Inv X a c H s->RelV x v->RelV y u->r x y H Q->
  wpAny (Ä X.prog X.w) X.A (f v u) (EP X a c Q) X.xe s
noncomputable def qb(X:Cx)(f:Value->Sem Value)(r:V->Hp->VK->Prop):Prop:=
 ∀(a:Y (Addr×Õ))(s:À)(c:St)(H:Hp)(x:V)(v:Value)(Q:VK),Inv X a c H s->RelV x v->r x H Q->
  wpAny (Ä X.prog X.w) X.A (f v) (EP X a c Q) X.xe s
noncomputable def dZ(X:Cx)(f:Value)(r:Y V->Hp->VK->Prop):Prop:=
 ∀(a:Y (Addr×Õ))(s:À)(c:St)(H:Hp)(xs:Y V)(us:Y Value)(Q:VK),Inv X a c H s->Vals xs us->r xs H Q->
  wpAny (Ä X.prog X.w) X.A (call f us) (EP X a c Q) X.xe s
noncomputable def zT(X:Cx)(r:V->Hp->(Bool->Hp->Prop)->Prop):Prop:=
 ∀(a:Y (Addr×Õ))(s:À)(c:St)(H:Hp)(x:V)(v:Value)(Q:Bool->Hp->Prop),Inv X a c H s->RelV x v->r x H Q->
  wpAny (Ä X.prog X.w) X.A (truthy v) (TP X a c Q) X.xe s
noncomputable def iS(r:R2)(f tb:TE):TE:=λa H Q=>f a H λx c=>tb a c λy e=>r x y e Q
noncomputable def Eo(r:V->Hp->VK->Prop)(c:TE):TE:=λe H Q=>c e H λx a=>r x a Q
noncomputable def rI(C:Int->Int->Prop)(g:Int->Int->V):R2:=λx y H Q=>∃i j,x=.int i/\y=.int j/\C i j/\Q (g i j) H
noncomputable def gX(g:Int->Int->V):R2:=λx y H Q=>∃i j,x=.int i/\y=.int j/\Q (g i j) H
noncomputable def rU(g:Int->V):V->Hp->VK->Prop:=λx H Q=>∃i,x=.int i/\Q (g i) H
section
variable{X:Cx}{a b:Ã}{c tb:TE}{e:Ö}
def pB(E:PE X a c)(F:PE X b tb){g:Y (Addr×Õ)}{s:À}{l:St}{H:Hp}{R:V->V->Hp->Prop}(I:Inv X g l H s)
  (h:c l H λx w=>tb l w λy j=>R x y j) {Q:Value->À->Prop} {f:Value->Value->Sem Value}
  (G:∀v u r x y j,Inv X g l j r->RelV x v->RelV y u->R x y j->wpAny (Ä X.prog X.w) X.A (f v u) Q X.xe r) :
  wpAny (Ä X.prog X.w) X.A (eval a X.env) (λv o=>wpAny (Ä X.prog X.w) X.A (eval b X.env) (λu p=>wpAny (Ä X.prog X.w) X.A (f v u) Q X.xe p) X.xe o) X.xe s:=by
 refine aF (E g s l H _ I h) λv N B=>?_;let⟨x,w,z,L,J⟩:=B;refine aF (F g N l w _ z J) λu r C=>?_;let⟨y,j,A,M,K⟩:=C;show G v u r x y j A L M K
def rX{g:ÿ}{r:R2}(w:b9 X (Ï g) r)(o:PE X a c)(p:PE X b tb):PE X (.BinOp a g b e) (iS r c tb):=by intro f s C H Q I h;show wpAny_BinOp (pB o p I h λv u B x y j l z A q=>w f B C j x y v u Q l z A q)
def Bz{g:UnaryOp}{r:V->Hp->VK->Prop}(w:qb X (unaryOp g) r)(u:PE X a c):PE X (.UnaryOp g a e) (Eo r c):=by intro f s j H Q I h;show UnaryOp_ (aF (u f s j H _ I h) λv A p=>by let⟨x,l,o,z,y⟩:=p;show w f A j l x v Q o z y)
def mT{f:Value->Value->Sem Value}{C:Int->Int->Prop}{g:Int->Int->Int}
  (rule:∀(i j:Int)(t u:Ł)(s:À)(Q:Value->À->Prop)(E:Value->À->Prop),C i j->Q (.int (g i j) s.toks) { s with toks:=s.toks+1 }->wpAny (Ä X.prog X.w) X.A (f (.int i t) (.int j u)) Q E s) :
  b9 X f (rI C λi j=>.int (g i j)):=by
 intro l s w H x y v u Q I p r h;let⟨i,j,rfl,rfl,o,q⟩:=h;let⟨t,rfl⟩:=p;let⟨t',rfl⟩:=r;show rule i j t t' s _ _ o ⟨.int (g i j),H,I.tok _,⟨_,S⟩,q⟩
def w4{f:Value->Value->Sem Value}{g:Int->Int->Int}
  (rule:∀(i j:Int)(t u:Ł)(s:À)(Q:Value->À->Prop)(E:Value->À->Prop),Q (.int (g i j) s.toks) { s with toks:=s.toks+1 }->wpAny (Ä X.prog X.w) X.A (f (.int i t) (.int j u)) Q E s) :
  b9 X f (gX λi j=>.int (g i j)):=by
 intro l s r H x y v u Q I o p h;let⟨i,j,rfl,rfl,q⟩:=h;let⟨t,rfl⟩:=o;let⟨t',rfl⟩:=p;show rule i j t t' s _ _ ⟨.int (g i j),H,I.tok _,⟨_,S⟩,q⟩
def nS{f:Value->Value->Sem Value}{g:Int->Int->Bool}
  (rule:∀(i j:Int)(t u:Ł)(s:À)(Q:Value->À->Prop)(E:Value->À->Prop),Q (.bool (g i j)) s->wpAny (Ä X.prog X.w) X.A (f (.int i t) (.int j u)) Q E s) :
  b9 X f (gX λi j=>.bl (g i j)):=by
 intro l s r H x y v u Q I o p h;let⟨i,j,rfl,rfl,q⟩:=h;let⟨t,rfl⟩:=o;let⟨t',rfl⟩:=p;show rule i j t t' s _ _ ⟨.bl (g i j),H,I,S,q⟩
noncomputable def uo(i j:Int):Prop:=0<=j/\j<=1000000/\i.natAbs<2^64
def AR:b9 X (Ï .Add) (gX λi j=>.int (i+j)):=w4 λ_ _ _ _ _ _ _ q=>add_int q
def EM:b9 X (Ï .Sub) (gX λi j=>.int (i-j)):=w4 λ_ _ _ _ _ _ _ q=>sub_int q
def Hf:b9 X (Ï .Mod) (rI (λ_ j=>0<j) λi j=>.int (i % j)):=mT λi j _ _ _ _ _ f q=>by have g:(0:Int)<j:=f;show mod_int' () (by rwa[Int.fmod_eq_emod_of_nonneg i ()])
def EA:b9 X (Ï .Pow) (rI uo λi j=>.int (i^j.toNat)):=mT λ_ _ _ _ _ _ _ f q=>pow_int_small f.1 f.2.1 f.2.2 q
def ES{f:Value->Sem Value}{g:Int->Int}
  (rule:∀(i:Int)(t:Ł)(s:À)(Q:Value->À->Prop)(E:Value->À->Prop),Q (.int (g i) s.toks) { s with toks:=s.toks+1 }->wpAny (Ä X.prog X.w) X.A (f (.int i t)) Q E s) :
  qb X f (rU λi=>.int (g i)):=by
 intro j s o H x v Q I l h;let⟨i,rfl,q⟩:=h;let⟨t,rfl⟩:=l;show rule i t s _ _ ⟨.int (g i),H,I.tok _,⟨_,S⟩,q⟩
def Af:qb X (unaryOp .USub) (rU λi=>.int (-i)):=ES λ_ _ _ _ _ q=>neg_int q
end
section
variable{X:Cx}{a b:Ã}{f tb:TE}{g:Ö}
def oB{c:Y (Addr×Õ)}{j:St}{H:Hp}{s:À}{Q:VK}{k h:Bool}(I:Inv X c j H s)(q:Q (.bl k) H)(e:k=h):EP X c j Q (.bool h) s:=by subst e;show⟨.bl k,H,I,S,q⟩
def Io:b9 X (É .Lt) (gX λi j=>.bl (decide (i<j))):=nS λ_ _ _ _ _ _ _ q=>lt_int q
def Cq:b9 X (É .LtE) (gX λi j=>.bl (decide (i<=j))):=nS λ_ _ _ _ _ _ _ q=>le_int q
def x6:b9 X (É .Gt) (gX λi j=>.bl (decide (j<i))):=nS λ_ _ _ _ _ _ _ q=>gt_int q
def CK:b9 X (É .GtE) (gX λi j=>.bl (decide (j<=i))):=nS λ_ _ _ _ _ _ _ q=>ge_int q
def EV:b9 X (É .Is) (λx y H Q=>y=.non/\Q (.bl (decide (x=.non))) H):=by
 intro c s l H x y v u Q I e j h;let⟨rfl,q⟩:=h;cases j;refine is_none_gen (oB I q ?_)
 cases x<;>first
  |(cases e;rfl)
  |(let⟨t,rfl⟩:=e;rfl)
def Dm:b9 X (É .IsNot) (λx y H Q=>y=.non/\Q (.bl (!decide (x=.non))) H):=by
 intro c s l H x y v u Q I e j h;let⟨rfl,q⟩:=h;cases j;refine isnot_none_gen (oB I q ?_)
 cases x<;>first
  |(cases e;rfl)
  |(let⟨t,rfl⟩:=e;rfl)
def ay(b:Ã){c:Ĕ}(h:c≠.In:=by decide)(l:c≠.NotIn:=by decide):behindInMarks c b=Ś:=by
 have e:(c==Ĕ.In)=Ś:=by cases c<;>first|rfl|show absurd S h
 have j:(c==Ĕ.NotIn)=Ś:=by cases c<;>first|rfl|show absurd S l
 cases b<;>simp[behindInMarks,e,j]
def uO{e:Ĕ}{r:R2}(z:b9 X (É e) r)(o:PE X a f)(p:PE X b tb)(w:behindInMarks e b=Ś):PE X (.Compare a [e] [b] g) (iS r f tb):=by intro c s E H Q I h;show wpAny_Compare1 (pB o p I h λv u C x y j l A B q=>z c C E j x y v u Q l A B q) w
noncomputable def pW(t:TE):TT:=λe H Q=>t e H λx c=>∃k,x=.bl k/\Q k c
def uu{l:Ĕ}{r:R2}(K:b9 X (É l) r)(F:PE X a f)(G:PE X b tb)(J:behindInMarks l b=Ś):PT X (.Compare a [l] [b] g) (pW (iS r f tb)):=by
 intro j s o H Q I h
 refine wpAny_isTrue_Compare1 (aF (F j s o H _ I h) λv a_ ⟨x,p,B,O,L⟩=>aF (G j a_ o p _ B L) λu T ⟨y,w,C,P,M⟩=>
  aF (K j T o w x y v u _ C O P M) λc U ⟨z,A,E,R,k,e,N⟩=>?_) J
 subst e;cases R;show LC ⟨A,E,N⟩
noncomputable def qK(K:Â)(x:V)(H:Hp)(k:Bool):Prop:=
 match x with
 |.non=>k=Ś
 |.bl b=>k=b
 |.int i=>k=(i != 0)
 |.str y=>y.length<=sizeLine/\k=((y.length:Int) != 0)
 |.byt y=>y.size<=sizeLine/\k=((y.size:Int) != 0)
 |.ref p=>(∃xs,SqL K H p xs/\k=!xs.isEmpty)\/(∃xs,SqT K H p xs/\k=!xs.isEmpty)\/∃c,H p=Z (.dK c)/\k=!c.isEmpty
 |_=>False
def FX{e:Type}{c:Y (e×V)}{vs:Y (e×Value)}(r:KV c vs):(!vs.isEmpty)=!c.isEmpty:=by cases r<;>rfl
def xy{xs:Y V}{its:Y Value}(r:Vals xs its):(!its.toArray.isEmpty)=!xs.isEmpty:=by cases r<;>simp
def iG:(sizeLine:Nat)<2^63:=by rw[L6];decide
def Gm:zT X (λx H Q=>∃k,qK X.K x H k/\Q k H):=by
 intro z s F H x v Q I o h;let⟨k,e,q⟩:=h;have C:=iG;have E:sizeLine=16777216:=L6
 cases x with
 |non=>
  cases o;have c:k=Ś:=e;subst c;show truthy_none ⟨H,I,q⟩
 |bl b=>
  cases o;have c:k=b:=e;subst c;show LC ⟨H,I,q⟩
 |int i=>
  let⟨t,rfl⟩:=o;have c:k=(i != 0):=e;subst c;show PySem.P.truthy_int ⟨H,I,q⟩
 |str y=>
  let⟨t,rfl⟩:=o;obtain⟨B,c⟩:y.length<=sizeLine/\k=((y.length:Int) != 0):=e;subst c;show PySem.P.truthy_str () ⟨H,I.tok _,q⟩
 |byt y=>
  let⟨t,rfl⟩:=o;obtain⟨B,c⟩:y.size<=sizeLine/\k=((y.size:Int) != 0):=e;subst c;show PySem.W.truthy_bytes () ⟨H,I.tok _,q⟩
 |ref p=>
  cases o;have c:(∃xs,SqL X.K H p xs/\k=!xs.isEmpty)\/(∃xs,SqT X.K H p xs/\k=!xs.isEmpty)\/∃l,H p=Z (.dK l)/\k=!l.isEmpty:=e;rcases c with⟨xs,u,c⟩|⟨xs,u,c⟩|⟨l,u,c⟩
  ·subst c;let⟨its,r,pl,w⟩:=I.list u;have j:=r.length;show wpAny_truthy_list pl.isList (by simp only[JG];omega) ⟨H,I.tok _,by rwa[xy r]⟩
  ·subst c;let⟨its,r,pl,w⟩:=I.tuple u;have j:=r.length;show truthy_tuple pl (by simp only[JG];omega) ⟨H,I.tok _,by rwa[xy r]⟩
  ·subst c;obtain⟨w,A,vs,r,m⟩:l.length<=sizeLine/\(p==Ú)=Ś/\∃vs,KV l vs/\s.heap.DictOf (fB X.prog X.w) p vs:=I.hok p _ u;have j:l.length=vs.length:=Mw r;show wpAny_truthy_dict A m () ⟨H,I.tok _,by rwa[FX r]⟩
 |_=>show (show False from e).elim
def sX(u:PE X a f)(w:∀c,isTrue a X.env c=(do let v ←c;standAt a.pos;holding [v] (truthy v))) :
  PT X a (λj H Q=>f j H λx l=>∃k,qK X.K x l k/\Q k l):=by
 intro e s j H Q I h;show isTrue_plain (aF (u e s j H _ I h) λv A r=>by let⟨x,o,p,z,y⟩:=r;show Gm e A j o x v Q p z y) (w _)
def Hk:b9 X (Ï .Add) (λx y H Q=>∃i j,x=.str i/\y=.str j/\i.length+j.length<=sizeLine/\Q (.str (i++j)) H):=by intro c s r H x y v u Q I l o h;let⟨i,j,rfl,rfl,e,q⟩:=h;let⟨t,rfl⟩:=l;let⟨t',rfl⟩:=o;show add_str (λt' p=>⟨.str (i++j),H,I.tok _,⟨_,S⟩,q⟩) e
def gS{x:V}{us:Y Value}(r:Vals [x] us):∃u,us=[u]/\RelV x u:=by
 cases r with
 |cons c e=>cases e;show⟨_,S,c⟩
def uX{x y:V}{us:Y Value}(r:Vals [x,y] us):∃u c,us=[u,c]/\RelV x u/\RelV y c:=by
 cases r with
 |cons e h=>
  cases h with
  |cons j l=>cases l;show⟨_,_,S,e,j⟩
def Fd:dZ X (.builtin "abs") (λxs H Q=>∃i,xs=[.int i]/\Q (.int (if i<0 then -i else i)) H):=by intro c s j H xs us Q I r h;let⟨i,rfl,q⟩:=h;let⟨u,rfl,t,rfl⟩:=gS r;show call_abs_int λu e=>⟨.int (if i<0 then -i else i),H,I.tok _,⟨_,S⟩,q⟩
def yb(l:X.calm=ř):dZ X (.builtin "max") (λxs H Q=>∃i j,xs=[.int i,.int j]/\Q (.int (if j>i then j else i)) H):=by
 intro e s v H xs us Q I r h;let⟨i,j,rfl,q⟩:=h;let⟨u,p,rfl,⟨t,rfl⟩,⟨t',rfl⟩⟩:=uX r;refine max_two_ints (I.ok.hd l) λh' o k=>⟨_,H,I.kept k,?_,q⟩;by_cases c:j>i
 ·rw[JC c,JC c];show⟨_,S⟩
 ·rw[Jv c,Jv c];show⟨_,S⟩
def GB(l:X.calm=ř):dZ X (.builtin "min") (λxs H Q=>∃i j,xs=[.int i,.int j]/\Q (.int (if j<i then j else i)) H):=by
 intro e s v H xs us Q I r h;let⟨i,j,rfl,q⟩:=h;let⟨u,p,rfl,⟨t,rfl⟩,⟨t',rfl⟩⟩:=uX r;refine min_two_ints (I.ok.hd l) λh' o k=>⟨_,H,I.kept k,?_,q⟩;by_cases c:j<i
 ·rw[JC c,JC c];show⟨_,S⟩
 ·rw[Jv c,Jv c];show⟨_,S⟩
def va:dZ X (.type "int") (λxs H Q=>(∃i,xs=[.int i]/\Q (.int i) H)\/∃k,xs=[.bl k]/\Q (.int (if k then 1 else 0)) H):=by
 intro c s j H xs us Q I r h;rcases h with⟨i,rfl,q⟩|⟨k,rfl,q⟩
 ·let⟨u,rfl,t,rfl⟩:=gS r;show call_int_int ⟨.int i,H,I,⟨_,S⟩,q⟩
 ·let⟨u,rfl,e⟩:=gS r;cases e;show call_int_bool ⟨.int (if k then 1 else 0),H,I.tok _,⟨_,S⟩,q⟩
end
structure ObjM(h:Heap)(x dx C:Addr)(mA:Str->Option Value):Prop where
 obj:h.get? x=Z (í C dx)
 ns:h.Ns1 dx mA
 ne:dx≠x
def yG{h:Heap}{c:Addr}{f:Str->Ř Value}(n:h.Ns1 c f):∃g,h.get? c=Z g/\∀name,ľ name g=Z (f name):=by
 let⟨o,es,v,r,hd,l,_,p⟩:=n;refine⟨o,r,λname=>?_⟩;have e:=p name;unfold nsFind findBy at e;rw[←Array.find?_toList]at e;unfold ľ;rw[hd];dsimp only;split
 ·rename_i y q;rw[q]at e;show Kf Z e
 ·rename_i q;rw[q]at e
  have a:es.toList.any (·.refKey)=Ś:=by rw[List.any_eq_false];intro y u;let⟨z,t,j⟩:=l y (Array.mem_toList_iff.mp u);simp[DictEntry.refKey,j]
  have a':¬ es.toList.any (·.refKey)=ř:=by rw[a];show J8
  rw[Jv a'];show Kf Z e
def ObjM.look{h:Heap}{x c C:Addr}{e:Str->Ř Value}(I:ObjM h x c C e):∃a,InstAt h x (í C c) C (Z a)/\∀name,ľ name a=Z (e name):=
 let ⟨a,ho,hl⟩:=yG I.ns
 ⟨a,⟨I.obj,S,S,ho⟩,hl⟩
section
variable{prog:Å}{w:È}{A:Ê}{E:Value->À->Prop}{s:À}{K:Â}{x e C f:Addr}{c:Str->Ř Value}{name:Str}{v:Value}
def GL{a:Bool}{Q:Value->À->Prop}(X:K.In s.heap)(I:ObjM s.heap x e C c)(l:ô K C name=ř)(o:ö K C=ř)
  (j:Ð K (.ref C) name=Z ŗ) (r:c name=Z v) (g:handedIn v=ř) (h:Q v { s with toks:=s.toks+1 }) :
  wpAny (Ä prog w) A (getAttr (.ref x) name a) Q E s:=by
 let⟨u,J,p⟩:=I.look;show PySem.W.get_value X J (ć l).1 (PySem.W.findObj_own o j S (by rw[p,r])) g h
def zQ{pl:Sem Bool}{Q:Value×Y Value->À->Prop}(X:K.In s.heap)(I:ObjM s.heap x e C c)(a:ô K C name=ř)
  (g:Ð K (.ref C) name=Z (Z (.ref f))) (l:isFn K (.ref f)=ř) (o:c name=ŗ) (h:Q (.ref f,[.ref x]) s) :
  wpAny (Ä prog w) A (getMethod (.ref x) name pl) Q E s:=by
 let⟨p,J,j⟩:=I.look;show PySem.W.method_fn X J (ć a).1 (ć a).2 g (L3.mp l) (by change (ľ name p).map (·.isSome)=Z Ś;rw[j,o];rfl) h
def Cv{ns:Y Str}{Q:Unit->À->Prop}(X:K.In s.heap)(I:ObjM s.heap x e C c)
  (L:Ð K (.ref C) "__setattr__"=Z (Z (.builtin "object.__setattr__"))) (H:Ą K C=ř) (M:Ŋ K C name=Z ŗ) (G:ö K C=ř)
  (N:PySem.Within c ns) (hsz:ns.length<=sizeLine)
  (h:∀h',ObjM h' x e C (λy=>if y=name then Z v else c y)->Heap.SameBut e s.heap h'->Q Unit.unit { s with heap:=h',toks:=s.toks+2 }) :
  wpAny (Ä prog w) A (setAttr (.ref x) name v) Q E s:=by
 let⟨T,J,R⟩:=I.look;refine PySem.W.set_plain X J L (PySem.W.osa_open (s:={ s with toks:=s.toks+1 }) (r:=ŗ) X J H M λb=>?_);let⟨P,F,u⟩:=PySem.W.any_some G;have O:s.heap.get? x=Z ⟨.ref C,Z e,.plain,#[]⟩:=I.obj;refine Jt (JK (Jt (Jt (wpAny_loadPart O (Jt (PySem.W.Looks.here (s:={ s with toks:=s.toks+1 }) (PySem.W.looks_clsIn X F) ?_))))));rw[u];refine JK (a:=Z e) (Jt (JK (Jt ?_)));refine wpAny_nsSet1 (s:={ s with toks:=s.toks+1 }) I.ns λh' p o=>?_;let⟨U,B,z,l,j,g⟩:=p.count (PySem.Within.cons name v N);refine Jt (wpAny_lookBehind l (by rw[j];show pastItsLine_dict (JR g (by rw[JH];omega))) ?_);show JK (h _ ⟨(o.2 _ (Kz I.ne)).trans I.obj,p,I.ne⟩ o)
def EB{R:Result->À->Prop}{vs:Y Value}{a:Y (Str×Value)}(X:K.In s.heap)(l:Ī K C=ř)
  (hi:Ð K (.ref C) "__init__"=Z (Z (.ref f))) (j:typeIn K (.ref f)=Z (.type "function"))
  (h:ì (Ä prog w) (A.under (.builtin "type.__call__" ⟨.ref C::vs,a⟩)) (.call (.ref f) ⟨.ref (s.heap.objs.size+1)::vs,a⟩) (PySem.W.InitBack (s.heap.objs.size+1) R)
   { s with heap:=(s.heap.push Ý).push (í C s.heap.objs.size) }) :
  ì (Ä prog w) A (.call (.ref C) ⟨vs,a⟩) R s:=by
 let⟨o,g,d,t,os⟩:=s;show PySem.W.make_core (PySem.W.makes_of X l) (PySem.W.looks_findIn X hi) (λself=>PySem.W.bind_fn X self j) (.inl S) h
end
noncomputable def cH(f:Str)(v:V):Y (Str×V)->Y (Str×V)
 | []=>[(f,v)]
 |(g,x)::r=>if g=f then (g,v)::r else (g,x)::cH f v r
theorem wA(f g:Str)(v:V):∀fs:Y (Str×V),(cH f v fs).lookup g=if g=f then Z v else fs.lookup g
 | []=>by
  change List.lookup g [(f,v)]=_;by_cases h:g=f
  ·have a:(g==f)=ř:=L3.mpr h;simp only[List.lookup,a,JC h]
  ·have a:(g==f)=Ś:=Ln.mpr h;simp only[List.lookup,a,Jv h]
 |(k,x)::r=>by
  have j:=wA f g v r;rw[show cH f v ((k,x)::r)=(if k=f then (k,v)::r else (k,x)::cH f v r)from rfl];by_cases c:k=f
  ·rw[JC c];by_cases h:g=k
   ·have a:(g==k)=ř:=L3.mpr h;simp only[List.lookup,a,JC (h.trans c)]
   ·have a:(g==k)=Ś:=Ln.mpr h;simp only[List.lookup,a,Jv (λe:g=f=>h (e.trans c.symm))]
  ·rw[Jv c];by_cases h:g=k
   ·have a:(g==k)=ř:=L3.mpr h;simp only[List.lookup,a,Jv (λe:g=f=>c (h.symm.trans e))]
   ·have a:(g==k)=Ś:=Ln.mpr h;simp only[List.lookup,a];show j
theorem qu(f:Str)(v:V):∀fs:Y (Str×V),f∈(cH f v fs).map (·.1)/\∀g,g∈fs.map (·.1)->g∈(cH f v fs).map (·.1)
 | []=>⟨by simp[cH],λg h=>by simp at h⟩
 |(k,x)::r=>by
  let⟨c,j⟩:=qu f v r;rw[show cH f v ((k,x)::r)=(if k=f then (k,v)::r else (k,x)::cH f v r)from rfl];by_cases a:k=f
  ·rw[JC a];subst a;show⟨by simp,λg h=>by simpa using h⟩
  ·rw[Jv a];refine⟨?_,λg h=>?_⟩
   ·rw[JV];show Jy _ c
   ·rw[JV]at h ⊢;rcases JI.mp h with e|e
    ·show JI.mpr (.inl e)
    ·show Jy _ (j g e)
theorem tY(f:Str)(v:V):∀fs:Y (Str×V),(cH f v fs).length<=fs.length+1
 | []=>by simp[cH]
 |(k,x)::r=>by
  have c:=tY f v r;rw[show cH f v ((k,x)::r)=(if k=f then (k,v)::r else (k,x)::cH f v r)from rfl];by_cases a:k=f
  ·rw[JC a,JH,JH];omega
  ·rw[Jv a,JH,JH];omega
def RelO.some_of{v:V}{o:Ř Value}(r:RelO (Z v) o):∃u,o=Z u/\RelV v u:=by
 cases o with
 |none=>show (show False from r).elim
 |some u=>show⟨u,S,r⟩
def RelO.none_of{o:Ř Value}(r:RelO ŗ o):o=ŗ:=by
 cases o with
 |none=>rfl
 |some u=>show (show False from r).elim
def yx{v:V}{u:Value}(r:RelV v u):handedIn u=ř:=by
 cases v with
 |non=>cases (show u=Value.none from r);rfl
 |bl b=>cases (show u=Value.bool b from r);rfl
 |int i=>let⟨t,e⟩:=(show ∃t,u=Value.int i t from r);cases e;rfl
 |str x=>let⟨t,e⟩:=(show ∃t,u=Value.str x t from r);cases e;rfl
 |byt b=>let⟨t,e⟩:=(show ∃t,u=Value.bytes b t from r);cases e;rfl
 |flt b=>let⟨t,e⟩:=(show ∃t,u=Value.float b t from r);cases e;rfl
 |ref a=>cases (show u=Value.ref a from r);rfl
 |ty n=>cases (show u=Value.type n from r);rfl
section
variable{P:Å}{w:È}{H:Hp}{h:Heap}{a C c:Addr}{fs:Y (Str×V)}
def pI(hok:HOk P w H h)(e:H a=Z (.ins C c fs)):∃g,ObjM h a c C g/\(∀f,RelO (fs.lookup f) (g f))/\PySem.Within g (fs.map (·.1))/\fs.length<=1000/\H c=Z (.own a):=by let⟨d,z,ne,j,g,n,r,q⟩:=(show ObjOk P w H h a (.ins C c fs)from hok a _ e);show⟨g,⟨j,n,ne⟩,r,q,z,d⟩
end
structure Cls(K:Â)(C:Addr):Prop where
 pg:ô K C Str.empty=ř
 hd:ö K C=ř
 po:Ą K C=ř
 sa:Ð K (.ref C) "__setattr__"=Z (Z (.builtin "object.__setattr__"))
def Cls.get{K:Â}{C:Addr}(c:Cls K C)(f:Str):ô K C f=ř:=c.pg
noncomputable def NoAttr(K:Â)(C:Addr)(f:Str):Prop:=Ð K (.ref C) f=Z ŗ
def NoAttr.taker{K:Â}{C:Addr}{f:Str}(n:NoAttr K C f):Ŋ K C f=Z ŗ:=by unfold Ŋ;rw[show Ð K (.ref C) f=Z ŗ from n];rfl
structure Meth(K:Â)(C:Addr)(m:Str)(f:Addr):Prop where
 at_:Ð K (.ref C) m=Z (Z (.ref f))
 fn:isFn K (.ref f)=ř
 kp:ã K (.ref f)=ř
section
variable{X:Cx}{j:Y (Addr×Õ)}{p:St}{H:Hp}{s:À}{a C B:Addr}{fs:Y (Str×V)}{f:Str}{v:V}{A:Ê}{E:Value->À->Prop}
def zf{b:Bool}{Q:Value->À->Prop}(I:Inv X j p H s)(e:H a=Z (.ins C B fs))(c:Cls X.K C)(n:NoAttr X.K C f)(l:fs.lookup f=Z v)
  (h:∀u w,Inv X j p H w->RelV v u->Q u w):wpAny (Ä X.prog X.w) A (getAttr (.ref a) f b) Q E s:=by
 let⟨y,O,r,_,_,_⟩:=pI I.hok e;let⟨u,x,g⟩:=RelO.some_of (v:=v) (o:=y f) (by rw[←l];show r f);show GL I.kIn O (c.get f) c.hd n x (yx g) (h u _ (I.tok _) g)
def FV{m:Str}{g:Addr}{pl:Sem Bool}{Q:Value×Y Value->À->Prop}(I:Inv X j p H s)(e:H a=Z (.ins C B fs))(c:Cls X.K C)(k:Meth X.K C m g)(l:fs.lookup m=ŗ)
  (h:Q (.ref g,[.ref a]) s):wpAny (Ä X.prog X.w) A (getMethod (.ref a) m pl) Q E s:=by
 let⟨u,O,r,_,_,_⟩:=pI I.hok e;have o:u m=ŗ:=RelO.none_of (by rw[←l];show r m);show zQ I.kIn O (c.get m) k.at_ k.fn o h
def Ey{y:V}{u:Value}{Q:Unit->À->Prop}(I:Inv X j p H s)(e:H a=Z (.ins C B fs))(c:Cls X.K C)(n:NoAttr X.K C f)(N:fs.length<1000)(P:RelV y u)
  (h:∀F,Inv X j p (ap H a (.ins C B (cH f y fs))) F->Q Unit.unit F):wpAny (Ä X.prog X.w) A (setAttr (.ref a) f u) Q E s:=by
 let⟨w,O,r,G,_,L⟩:=pI I.hok e
 have M:(fs.map (·.1)).length<=sizeLine:=by rw[Jp,L6];omega
 refine Cv I.kIn O c.sa c.po n.taker c.hd G M λh' l sb=>h _ ?_
 have hd:∃o,h'.get? B=Z o:=let ⟨o,_,_,e',_⟩:=l.ns;⟨o,e'⟩
 refine I.write (x:=a) (e:=B) (by rw[e];show Ü) (.inr L) (λb q J z=>(sb.2 b J).trans z) hd ?_;refine⟨by rwa[aY O.ne],?_,O.ne,l.obj,_,l.ns,λg=>?_,λg K=>?_⟩
 ·have:=tY f y fs;omega
 ·change RelO ((cH f y fs).lookup g) (if g=f then Z u else w g);rw[wA];by_cases q:g=f
  ·rwa[JC q,JC q]
  ·rw[Jv q,Jv q];show r g
 ·by_cases q:g=f
  ·rw[q];show (qu f y fs).1
  ·refine (qu f y fs).2 g (G g λz=>K ?_);change (if g=f then Z u else w g)=ŗ;rwa[Jv q]
def Inv.made(I:Inv X j p H s):Inv X j p (ap (ap H s.heap.objs.size (.own (s.heap.objs.size+1))) (s.heap.objs.size+1) (.ins C s.heap.objs.size []))
  { s with heap:=(s.heap.push Ý).push (í C s.heap.objs.size) }:=by
 have c:(s.heap.push Ý).get? s.heap.objs.size=Z Ý:=JJ s.heap S
 have h:((s.heap.push Ý).push (í C s.heap.objs.size)).get? (s.heap.objs.size+1)=Z (í C s.heap.objs.size):=by
  have:=JJ (s.heap.push Ý) (o:=í C s.heap.objs.size) S
  rwa [Kj]at this
 have l:(s.heap.push Ý).Ns s.heap.objs.size (λ_=>ŗ):=⟨Ý,#[],_,c,S,(λe r=>absurd r (by simp)),λ_=>rfl⟩;have g:=I.laid (a:=s.heap.objs.size) (o:=.own (s.heap.objs.size+1)) (h':=s.heap.push Ý) (t':=s.toks) (λb u q=>Jz _ q) (Jx _) ⟨_,c⟩;refine g.laid (a:=s.heap.objs.size+1) (o:=.ins C s.heap.objs.size []) (t':=s.toks) (λb u q=>Jz _ q) (Nf (Kj _ _)) ?_;have ne:s.heap.objs.size≠s.heap.objs.size+1:=J7 (LI _);refine⟨by rw[aY ne,bo],Lh _,ne,h,λ_=>ŗ,(Heap.Ns1.of_empty l).at λo q=>Jz _ q,λ_=>Ü,λy w=>absurd rfl w⟩
def GP{prog:Å}{w:È}{env:ë}{e:Ã}{f:Str}{g:Ö}{s:À}{Q:Value->À->Prop}(l:Ë e f env (eval e env)=eval e env)
  (h:wpAny (Ä prog w) A (eval e env) (λo c=>wpAny (Ä prog w) A (getAttr o f ř) Q E c) E s):wpAny (Ä prog w) A (eval (.Attribute e f g) env) Q E s:=
 Attribute_any_ h (by rw[arm_eval_Attribute,l])
end
noncomputable def wa(K:Â)(g:TE)(f:Str):TE:=λh H Q=>g h H λx c=>∃a C e fs v,x=.ref a/\c a=Z (.ins C e fs)/\Cls K C/\NoAttr K C f/\fs.lookup f=Z v/\Q v c
noncomputable def zt(K:Â)(j l:TE)(f:Str):TS:=λD c H=>l c H λy h=>j c h λx e=>∃a C g fs,x=.ref a/\e a=Z (.ins C g fs)/\Cls K C/\NoAttr K C f/\fs.length<1000 /\
 D.nx c (ap e a (.ins C g (cH f y fs)))
section
variable{X:Cx}{o e g:Ã}{f:Str}{p j:Ö}{r w:TE}
def Ai(J:PE X e r)(G:Ë e f X.env (eval e X.env)=eval e X.env):PE X (.Attribute e f p) (wa X.K r f):=by intro y s M H Q I h;refine GP G (aF (J y s M H _ I h) λu O E=>?_);let⟨x,z,A,L,a,C,N,fs,v,ex,F,c,n,l,q⟩:=E;subst ex;obtain rfl:u=Value.ref a:=L;show zf A F c n l λu' P B K=>⟨v,z,B,K,q⟩
def pT(J:PE X o r)(L:PE X g w)(K:Î g (Z (.Attribute o f j)) p.line X.env=pure Ś):PS X (.Assign [.Attribute o f j] g p) (zt X.K r w f):=by intro v s z H D I h;refine plainObj_wpAny_Assign_Attribute (aF (L v s z H _ I h) λu Q ⟨y,A,B,P,q⟩=>aF (J v Q z A _ B q) λM T ⟨x,R,E,O,a,C,a_,fs,ex,G,c,n,l,N⟩=>?_) K;subst ex;obtain rfl:M=Value.ref a:=O;show Ey E G c n l P λU F=>⟨z,_,F,N⟩
end
structure Room(k:Nat)(A:Ê):Prop where
 hd:A.handled=ŗ
 dp:A.depth+3*k+5<recursionLimit
 un:A.units+16*k+200<å
def Room.mono{j k:Nat}{A:Ê}(r:Room k A)(h:j<=k):Room j A:=⟨r.hd,by have:=r.dp;omega,by have:=r.un;omega⟩
def Room.deeper{k:Nat}{A:Ê}(r:Room (k+1) A)(env:ë):Room k (A.deeper env):=
 ⟨r.hd,by have:=r.dp;change A.depth+1+3*k+5<_;omega,by have:=r.un;change A.units+3+16*k+200<_;omega⟩
def Cr{A:Ê}{C:Addr}{us:Y Value}{a:Y (Str×Value)}:(A.under (.builtin "type.__call__" ⟨.ref C::us,a⟩)).depth=A.depth+1:=by
 first|rfl|simp[Ĉ,Code.weight,Code.isCreation,Code.isGuard,Code.isCaller,Ő,č,guardIds]
def CQ{A:Ê}{C:Addr}{us:Y Value}{a:Y (Str×Value)}:(A.under (.builtin "type.__call__" ⟨.ref C::us,a⟩)).units=A.units+1:=by
 first|rfl|simp[Ĉ,Code.cUnits,Ő,č]
def Room.make{k:Nat}{A:Ê}(r:Room (k+1) A)(C:Addr)(us:Y Value)(a:Y (Str×Value)):Room k (A.under (.builtin "type.__call__" ⟨.ref C::us,a⟩)):=
 ⟨r.hd,by have:=r.dp;rw[Cr];omega,by have:=r.un;rw[CQ];omega⟩
def Room.depth{k:Nat}{A:Ê}(r:Room k A):A.depth<recursionLimit:=by have:=r.dp;omega
def Room.units{k:Nat}{A:Ê}(r:Room k A):A.units+64<å:=by have:=r.un;omega
def Bw:TA:=λ_ H Q=>Q [] H
noncomputable def Eh(f:TE)(g:TA):TA:=λa H Q=>f a H λx c=>g a c λxs e=>Q (x::xs) e
section
variable{X:Cx}{e:Ã}{es:Y Ã}{c:TE}{t:TA}{a:Ö}
def pa_nil:PA X [] Bw:=λ_ _ _ _ H Q I h=>Calls.spliced_nil ⟨[],H,I,.nil,h⟩
def eU(w:PE X e c)(y:PA X es t)(z:starEach (e::es) X.env=(Ś,eval e X.env)::starEach es X.env:=by rfl):PA X (e::es) (Eh c t):=by
 intro a f s g H Q I h;rw[z];change wpAny _ _ (spliced ((Ś,eval e X.env)::backTo a (starEach es X.env))) _ _ s;refine Calls.spliced_cons (aF (w f s g H _ I h) λu F r=>?_);let⟨x,j,o,C,A⟩:=r
 show aF (y a f F g j _ o A) λus G v=>by let⟨xs,l,p,E,B⟩:=v;show⟨x::xs,l,p,.cons C E,B⟩
noncomputable def BE(t:TA):TE:=λg H Q=>t g H λxs f=>xs.length<=sizeLine/\∀p,f p=ŗ->Q (.ref p) (ap f p (.tup xs))
noncomputable def GC(t:TA):TE:=λg H Q=>t g H λxs f=>xs.length<=sizeLine/\∀p,f p=ŗ->Q (.ref p) (ap f p (.lst xs))
def qE{x1}(h:PA X es t):PE X (.Tuple es x1 a) (BE t):=by
 intro f s v H Q I p;refine wpAny_Tuple_spliced (aF (h a f s v H _ I p) λus g ⟨xs,j,l,r,z,q⟩=>⟨by rwa[←r.length],?_⟩);have o:j g.heap.objs.size=ŗ:=l.hok.fresh (Jx _);refine⟨.ref g.heap.objs.size,ap j g.heap.objs.size (.tup xs),l.laid (t':=g.toks) (λb u e=>Jz _ e) (Jx _) ?_,S,q _ o⟩;show⟨z,us,r,⟨_,JJ _ S,⟨S,S⟩,_,S⟩⟩
def vx(h:PA X es t):PE X (.List es a) (GC t):=by
 intro f s v H Q I p;refine wpAny_List_spliced (aF (h a f s v H _ I p) λus g ⟨xs,j,l,r,z,q⟩=>⟨by rwa[←r.length],?_⟩);have o:j g.heap.objs.size=ŗ:=l.hok.fresh (Jx _);refine⟨.ref g.heap.objs.size,ap j g.heap.objs.size (.lst xs),l.laid (t':=g.toks) (λb u e=>Jz _ e) (Jx _) ?_,S,q _ o⟩;show⟨z,us,0,r,JJ _ S⟩
end
noncomputable abbrev Sp:=Y V->Hp->VK->XK->Prop
noncomputable abbrev eg:=Y ë->Hp->À->XK->Value->À->Prop
structure Env0(P:Å)(w:È)(K:Â)(mg:Str->Option Value)(base:Heap)(A:Ê)(outer:List ë)(s:À)(H:Hp):Prop where
 frames:A.frames=Z outer
 mod:Mod K mg base
 bs:∀b o,base.get? b=Z o->s.heap.get? b=Z o/\H b=ŗ
 bsz:base.objs.size<=s.heap.objs.size
 funs:s.heap.FunFrames base outer
 frf:∀b∈gm outer,H b=ŗ
 hok:HOk P w H s.heap
 bare:ð s.gens
noncomputable def CE(outer:Y ë)(P:Å)(w:È)(H:Hp)(s:À)(Q:VK)(u:Value)(a:À):Prop:=
 ∃v c,a.os=s.os/\ð a.gens/\Un (gm outer) [] H c s.heap a.heap/\HOk P w c a.heap/\RelV v u/\Q v c
noncomputable def CR(CX:eg)(outer:Y ë)(P:Å)(w:È)(H:Hp)(s:À)(Q:VK)(E:XK)(r:Result)(a:À):Prop:=
 match r with
 |.ok (.ret u)=>CE outer P w H s Q u a
 |.ok _=>False
 |.error e=>CX outer H s E e a
structure FnOk(P:Å)(w:È)(K:Â)(mg:Str->Option Value)(base:Heap)(CX:eg)(k:Nat)(f:Addr)(fd:Í)(ps:List Str)(sp:Sp):Prop where
 len:∀vs H Q E,sp vs H Q E->vs.length=ps.length
 run:∀(A:Ê)(outer:List ë)(s:À)(H:Hp)(args:Args)(us:List Value)(vs:List V)(Q:VK)(E:XK),Room k A->Env0 P w K mg base A outer s H->Ď s fd args (ps.zip us)->Vals vs us->sp vs H Q E->
  ì (Ä P w) A (.call (.ref f) args) (CR CX outer P w H s Q E) s
def FnOk.mono{P:Å}{w:È}{K:Â}{mg:Str->Ř Value}{base:Heap}{CX:eg}{j k:Nat}{f:Addr}{a:Í}{ps:Y Str}{sp:Sp}(F:FnOk P w K mg base CX j f a ps sp)(h:j<=k) :
  FnOk P w K mg base CX k f a ps sp:=⟨F.len,λA outer s H args us vs Q E c=>F.run A outer s H args us vs Q E (c.mono h)⟩
def FnOk.imp{P:Å}{w:È}{K:Â}{mg:Str->Ř Value}{base:Heap}{CX:eg}{k:Nat}{f:Addr}{c:Í}{ps:Y Str}{sp a:Sp}(F:FnOk P w K mg base CX k f c ps sp)
  (h:∀vs H Q E,a vs H Q E->sp vs H Q E):FnOk P w K mg base CX k f c ps a:=
 ⟨λvs H Q E q=>F.len vs H Q E (h _ _ _ _ q),λA outer s H args us vs Q E j g e o l=>F.run A outer s H args us vs Q E j g e o (h _ _ _ _ l)⟩
def Env0.make{P:Å}{w:È}{K:Â}{mg:Str->Ř Value}{base:Heap}{A:Ê}{outer:Y ë}{s:À}{H:Hp}(e:Env0 P w K mg base A outer s H)(C:Addr)(us:Y Value)(a:Y (Str×Value)) :
  Env0 P w K mg base (A.under (.builtin "type.__call__" ⟨.ref C::us,a⟩)) outer s H:=⟨by first|show e.frames|(simpa [Ĉ,Code.envs,č,pushEnvs] using e.frames),e.mod,e.bs,e.bsz,e.funs,e.frf,e.hok,e.bare⟩
section
variable{X:Cx}{a:Y (Addr×Õ)}{c:St}{H:Hp}{s e:À}
def Inv.env0(I:Inv X a c H s):Env0 X.prog X.w X.K X.mg X.base X.A X.stack s H:=
 ⟨I.ok.frames,I.ok.mod,I.bs,JR I.ok.bsz I.sz,I.stack,I.stkFree,I.hok,I.bare⟩
def Inv.after{Q:VK}{u:Value}(I:Inv X a c H s)(h:CE X.stack X.prog X.w H s Q u e):EP X a c Q u e:=by let⟨v,f,os,bare,un,hok,r,q⟩:=h;let⟨l,g,d,t,j⟩:=e;obtain rfl:j=s.os:=os;show⟨v,f,I.call (h':=l) (g':=g) (d':=d) (t':=t) (ch:=[]) un hok bare (λb z=>absurd z (by simp)),r,q⟩
end
noncomputable def Fk(sp:Sp)(dvs:Y V)(E:XK)(t:TA):TE:=λc H Q=>t c H λvs a=>sp (vs++dvs) a Q E
noncomputable def DD(C:Addr)(m:Str)(sp:Sp)(dvs:Y V)(E:XK)(h:TE)(t:TA):TE:=λe H Q=>h e H λx c=>∃a g fs,x=.ref a/\c a=Z (.ins C g fs)/\fs.lookup m=ŗ /\
 t e c λvs f=>sp (x::(vs++dvs)) f Q E
noncomputable def C5(C:Addr)(sp:Sp)(dvs:Y V)(E:XK)(t:TA):TE:=λf H Q=>t f H λvs c=>∀x a,c x=ŗ->c a=ŗ->a≠x->
 sp (.ref x::(vs++dvs)) (ap (ap c a (.own x)) x (.ins C a [])) (λv e=>v=.non/\Q (.ref x) e) E
noncomputable def Binds(K:Â)(a:Í)(ps:Y Str)(ds:Y Value):Prop:=
 ∀(s:À)(us:Y Value),K.In s.heap->(us++ds).length=ps.length->Ď s a ⟨us,[]⟩ (ps.zip (us++ds))
def Binds.all{K:Â}{a:Í}{ps:Y Str}(h:∀us:Y Value,us.length=ps.length->bindArgs a ⟨us,[]⟩=pure (ps.zip us)):Binds K a ps []:=λs us _ c=>by rw[J5]at c ⊢;show .of_eq (h us c)
noncomputable def jd(CX:eg)(X:Cx)(E:XK):Prop:=∀(a:Y (Addr×Õ))(f:St)(H:Hp)(s:À)(e:Value)(c:À),Inv X a f H s->CX X.stack H s E e c->X.xe e c
section
variable{X:Cx}{CX:eg}{k:Nat}{f C:Addr}{w:Í}{ps:Y Str}{sp:Sp}{dvs:Y V}{ds:Y Value}{E:XK}{x m:Str}{p g j:Ö}{e o:Ã}{es:Y Ã}{y:TE}{t:TA}
def wX{a:Y (Addr×Õ)}{l:St}{H:Hp}{s:À}{Q:VK}{us:Y Value}{vs:Y V}(F:FnOk X.prog X.w X.K X.mg X.base CX k f w ps sp)(G:Room k X.A)(A:Binds X.K w ps ds)(hd:Vals dvs ds)(J:jd CX X E)
  (I:Inv X a l H s) (r:Vals vs us) (h:sp (vs++dvs) H Q E):wpAny (Ä X.prog X.w) X.A (call (.ref f) us) (EP X a l Q) X.xe s:=by
 have v:Vals (vs++dvs) (us++ds):=r.append hd
 have B:(us++ds).length=ps.length:=by rw[←v.length];show F.len _ _ _ _ h
 refine wpAny_call (Ng (F.run X.A X.stack s H ⟨us,[]⟩ (us++ds) (vs++dvs) Q E G I.env0 (A s us I.kIn B) v h) λr K c=>?_)
 cases r with
 |error e=>show J a l H s e K I c
 |ok z=>
  cases z with
  |ret u=>show I.after c
  |next=>show Ñ c
  |brk=>show Ñ c
  |cont=>show Ñ c
def nM(F:FnOk X.prog X.w X.K X.mg X.base CX k f w ps sp)(K:Room k X.A)(B:Gl X x)(J:X.mg x=Z (.ref f))(G:ã X.K (.ref f)=ř)(z:Binds X.K w ps ds)(hd:Vals dvs ds)(L:jd CX X E)
  (v:PA X (e::es) t) (l:ab x:=by decide) (A:starEach (e::es) X.env=(Ś,eval e X.env)::starEach es X.env:=by rfl) (u:(backTo g (starEach es X.env)).any (·.1)=Ś:=by rfl) :
  PE X (.Call (.Name x p) (e::es) [] g) (Fk sp dvs E t):=by
 intro a s M H Q I h;refine Mb (t6 I B J ?_ l);refine callWith_K (h₀:=X.base) I.ok.mod.kin G (aF (v g a s M H _ I h) λus O ⟨vs,N,c,r,q⟩=>⟨c.kIn,?_⟩) A u;show wX F K z hd L c r q
def vD{pl:Sem Bool}(P:PE X o y)(c:Cls X.K C)(B:Meth X.K C m f)(F:FnOk X.prog X.w X.K X.mg X.base CX k f w ps sp)(R:Room k X.A)(O:Binds X.K w ps ds)(hd:Vals dvs ds)(T:jd CX X E)(N:PA X (e::es) t)
  (K:starEach (e::es) X.env=(Ś,eval e X.env)::starEach es X.env:=by rfl) (L:(backTo g (starEach es X.env)).any (·.1)=Ś:=by rfl)
  (b_:eval (.Call (.Attribute o m j) (e::es) [] g) X.env=(do
   let ov ←eval o X.env
   standAt j.atName
   let (f,first) ←holding [ov] (getMethod ov m pl)
   callWith g f first (backTo g (starEach (e::es) X.env)) (Þ g (Ô [] X.env))):=by rfl) :
  PE X (.Call (.Attribute o m j) (e::es) [] g) (DD C m sp dvs E y t):=by
 intro v s G H Q I h;refine PySem.W.methodCall_KW (pl:=pl) (aF (P v s G H _ I h) λu be ⟨x,J,z,a_,a,dx,fs,ex,M,l,q⟩=>?_) b_;subst ex;obtain rfl:u=Value.ref a:=a_;refine FV z M c B l ?_;refine callWith_K (first:=[.ref a]) (h₀:=X.base) I.ok.mod.kin B.kp (aF (N g v be G J _ z q) λus s2 ⟨vs,H2,A,r,U⟩=>⟨A.kIn,?_⟩) K L;show wX (us:=.ref a::us) (vs:=.ref a::vs) F R O hd T A (.cons S r) U
structure Mk(K:Â)(C f:Addr):Prop where
 makes:Ī K C=ř
 init:Ð K (.ref C) "__init__"=Z (Z (.ref f))
 fn:isFn K (.ref f)=ř
 kp:ã K (.ref C)=ř
def FU{a:Y (Addr×Õ)}{A:St}{H:Hp}{s:À}{Q:VK}{us:Y Value}{vs:Y V}(M:Mk X.K C f)(F:FnOk X.prog X.w X.K X.mg X.base CX k f w ps sp)(R:Room (k+1) X.A)(O:Binds X.K w ps ds)(hd:Vals dvs ds)
  (be:jd CX X E) (I:Inv X a A H s) (r:Vals vs us)
  (h:∀x z,H x=ŗ->H z=ŗ->z≠x->sp (.ref x::(vs++dvs)) (ap (ap H z (.own x)) x (.ins C z [])) (λv K=>v=.non/\Q (.ref x) K) E) :
  wpAny (Ä X.prog X.w) X.A (call (.ref C) us) (EP X a A Q) X.xe s:=by
 have B:=h (s.heap.objs.size+1) s.heap.objs.size (I.hok.fresh (Nat.le_succ _)) (I.hok.fresh (Jx _)) (J7 (LI _));have l:=Inv.made (C:=C) I;have G:Vals (V.ref (s.heap.objs.size+1)::(vs++dvs)) (Value.ref (s.heap.objs.size+1)::(us++ds)):=.cons S (r.append hd)
 have P:(Value.ref (s.heap.objs.size+1)::us++ds).length=ps.length:=by have e:=G.length;rw[F.len _ _ _ _ B]at e;show e.symm
 refine wpAny_call (EB (f:=f) I.kIn M.makes M.init (L3.mp M.fn) (Ng (F.run _ X.stack _ _ ⟨Value.ref (s.heap.objs.size+1)::us,[]⟩ (Value.ref (s.heap.objs.size+1)::(us++ds)) _ _ E (R.make C us [])
  (l.env0.make C us []) (O _ (Value.ref (s.heap.objs.size+1)::us) l.kIn P) G B) λr a_ c=>?_))
 cases r with
 |error e=>show be a A _ _ e a_ l c
 |ok N=>
  cases N with
  |ret u=>
   let⟨v,J,L,U,ev,T⟩:=l.after c;subst ev;show⟨U,⟨V.ref (s.heap.objs.size+1),J,L,S,T⟩⟩
  |next=>show Ñ c
  |brk=>show Ñ c
  |cont=>show Ñ c
def Cm(M:Mk X.K C f)(F:FnOk X.prog X.w X.K X.mg X.base CX k f w ps sp)(J:Room (k+1) X.A)(B:Gl X x)(G:X.mg x=Z (.ref C))(z:Binds X.K w ps ds)(hd:Vals dvs ds)(K:jd CX X E)
  (v:PA X (e::es) t) (l:ab x:=by decide) (A:starEach (e::es) X.env=(Ś,eval e X.env)::starEach es X.env:=by rfl) (u:(backTo g (starEach es X.env)).any (·.1)=Ś:=by rfl) :
  PE X (.Call (.Name x p) (e::es) [] g) (C5 C sp dvs E t):=by
 intro a s L H Q I h;refine Mb (t6 I B G ?_ l);refine callWith_K (h₀:=X.base) I.ok.mod.kin M.kp (aF (v g a s L H _ I h) λus O ⟨vs,N,c,r,q⟩=>⟨c.kIn,?_⟩) A u;show FU M F J z hd K c r q
end
structure FnScope(N P:List Str)(sc:â):Prop where
 kind:sc.kind=.function
 co:sc.isCoroutine=Ś
 gen:sc.isGenerator=Ś
 nd:N.Nodup
 pre:N.take P.length=P
 par:∀x∈P,sc.names.lookup x=Z .local\/sc.names.lookup x=Z .cell
 nofree:∀y∈sc.names,y.2≠.free
theorem tO{kindOf:Str->Ř NameKind}{x:Str}:∀{binds:Y (Str×Value)}{m:Str->Ř Value},(∀v,(x,v)∉binds)->ĝ kindOf binds m x=m x
 | [],_,_=>rfl
 |(n,v)::r,m,h=>by
  unfold ĝ;rw[tO λw a=>h w (Jy _ a)];split
  ·have:x≠n:=by rintro rfl;show h v JA
   simp[this]
  ·rfl
theorem wW{kindOf:Str->Ř NameKind}{x:Str}:∀{binds:Y (Str×Value)}{m:Str->Ř Value},(∀v,(x,v)∉binds)->Ğ kindOf binds m x=m x
 | [],_,_=>rfl
 |(n,v)::r,m,h=>by
  unfold Ğ;rw[wW λw a=>h w (Jy _ a)];split
  ·rfl
  ·have:x≠n:=by rintro rfl;show h v JA
   simp[this]
theorem ux{kindOf:Str->Ř NameKind}{x:Str}{v:Value}:∀{P:Y Str}{vs:Y Value}{i:Nat}{m:Str->Ř Value},P.Nodup->P[i]?=Z x->vs[i]?=Z v->kindOf x=Z .local->
  ĝ kindOf (P.zip vs) m x=Z v
 | [],_,_,_,_,h,_,_=>by simp at h
 |_::_,[],_,_,_,_,h,_=>by simp at h
 |p::P,w::vs,0,m,nd,a,c,e=>by
  simp at a c;subst a;subst c;change ĝ kindOf ((p,w)::P.zip vs) m p=_;unfold ĝ;rw[tO λv f=>(JZ.mp nd).1 (Ly f).1,JC e];simp
 |p::P,w::vs,i+1,m,nd,a,c,e=>by change ĝ kindOf ((p,w)::P.zip vs) m x=_;unfold ĝ;show ux (i:=i) (JZ.mp nd).2 (by simpa using a) (by simpa using c) e
theorem tH{kindOf:Str->Ř NameKind}{x:Str}{v:Value}:∀{P:Y Str}{vs:Y Value}{i:Nat}{m:Str->Ř Value},P.Nodup->P[i]?=Z x->vs[i]?=Z v->kindOf x≠Z .local->
  Ğ kindOf (P.zip vs) m x=Z v
 | [],_,_,_,_,h,_,_=>by simp at h
 |_::_,[],_,_,_,_,h,_=>by simp at h
 |p::P,w::vs,0,m,nd,a,c,e=>by
  simp at a c;subst a;subst c;change Ğ kindOf ((p,w)::P.zip vs) m p=_;unfold Ğ;rw[wW λv f=>(JZ.mp nd).1 (Ly f).1,Jv e];simp
 |p::P,w::vs,i+1,m,nd,a,c,e=>by change Ğ kindOf ((p,w)::P.zip vs) m x=_;unfold Ğ;show tH (i:=i) (JZ.mp nd).2 (by simpa using a) (by simpa using c) e
noncomputable def eP(N:Y Str)(vs:Y V):St:=vs.map Z++List.replicate (N.length-vs.length) ŗ
noncomputable def iu(CX:eg)(P:Å)(w:È)(K:Â)(mg:Str->Ř Value)(base:Heap)(N:Y Str)(qual:Str)(scope:â)(f:Addr)(a:Value)(A:Ê)(outer:Y ë)(s:À)(H:Hp)(E:XK):Cx where
 prog:=P
 w:=w
 K:=K
 mg:=mg
 base:=base
 A:=A.deeper (ê qual scope s.heap.objs.size f a)
 N:=N
 s₀:=s
 H₀:=H
 env:=ê qual scope s.heap.objs.size f a
 outer:=outer
 stack:=ê qual scope s.heap.objs.size f a::outer
 ex:=[]
 calm:=ř
 fn:=λ_=>ř
 pn:=[]
 xe:=λe h=>wpAny (Ä P w) (A.deeper (ê qual scope s.heap.objs.size f a)) (leaving (ê qual scope s.heap.objs.size f a) e) (λ_ c=>CX outer H s E e c) (λg c=>CX outer H s E g c) h
def rL{a:â}{n:Nat}{x:Str}(h:a.names.lookup x=Z .cell):∃c,(Ø n a.names []).lookup x=Z c:=by have q:=cellsFrom_some a.names n [] (.inl h);show Mc.mp q
def BC{CX:eg}{P:Å}{w:È}{K:Â}{mg:Str->Ř Value}{base:Heap}{N ps:Y Str}{qual:Str}{scope:â}{f:Addr}{C:Value}{A:Ê}{outer:Y ë}{s L:À}{H:Hp}{E:XK}{us:Y Value}{vs:Y V}
  (a_:FnScope N ps scope) (hd:A.handled=ŗ) (j:Env0 P w K mg base A outer s H) (T:vs.length=ps.length) (r:Vals vs us)
  (x:InCallC s s.heap.objs.size (ĝ (ê qual scope s.heap.objs.size f C).kindOf (ps.zip us) λ_=>ŗ) (Ø (s.heap.objs.size+1) scope.names []) (Ğ (ê qual scope s.heap.objs.size f C).kindOf (ps.zip us) λ_=>ŗ) L) :
  Inv (iu CX P w K mg base N qual scope f C A outer s H E) [] (eP N vs) H L:=by
 have Q:ps.length<=N.length:=by have:=Kf List.length a_.pre;rw[Ke]at this;omega
 let⟨G,U,rfl,I⟩:=x.done;have F:∀b:Addr,b∉(iu CX P w K mg base N qual scope f C A outer s H E).ex:=λb z=>absurd (show b∈([]:Y Addr)from z) (by simp)
 refine⟨⟨j.mod,a_.kind,S,S,Jx _,λy z c G g=>?_,λy l=>?_,λy c _ h=>?_,λ_=>hd,Ê.frames_deeper j.frames,.inr ⟨S,S⟩,λb z=>absurd z (F b),j.bs,j.bsz,λb _ _=>F b,λb z=>absurd z (F b),j.funs,j.frf⟩,
  rfl,j.bare,Un.kept I,⟨_,x.toInCall.ns,λi y v G g R=>?_⟩,λy c h=>⟨_,x.cell y c h⟩,j.hok.fresh (Jx _),λy c h=>?_,λp o=>absurd (show p∈([]:Y (Addr×Õ))from o) (by simp),j.hok.kept I,?_⟩
 ·show name_of_addr x.apart (KA G) (KA g)
 ·have l:scope.names.lookup y=Z .cell\/scope.names.lookup y=Z .free:=l;rcases l with l|l
  ·show rL l
  ·show absurd S (a_.nofree _ (KA l))
 ·show KQ (x.above y c (KA h))
 ·have hi:i<vs.length:=by
   unfold eP at g;by_cases hi:i<vs.length
   ·show hi
   ·rw[Jq (by simpa using hi)]at g;rw[KS]at g;split at g<;>cases g
  have M:vs[i]?=Z v:=by
   unfold eP at g;rw[Js (by simpa using hi),JF]at g
   cases e:vs[i]? with
   |none=>rw[e]at g;cases g
   |some a=>rw[e]at g;cases g;rfl
  let⟨u,J,O⟩:=r.get M
  have o:ps[i]?=Z y:=by rwa[←a_.pre,Md ()]
  have B:ps.Nodup:=by rw[←a_.pre];show a_.nd.sublist (List.take_sublist _ _)
  refine⟨u,O,?_⟩;rcases a_.par y (Jw o)with k|k
  ·show .inl ⟨k,ux B o J k⟩
  ·let⟨c,e⟩:=rL (n:=s.heap.objs.size+1) k;refine .inr ⟨.inl k,c,e,?_⟩;have q:=x.cell y c e;rw[tH B o J (by change scope.names.lookup y≠_;rw[k];decide)]at q;show q
 ·show j.hok.fresh (KQ (x.above y c (KA h)))
 ·unfold eP;change _=N.length;rw[Jr,Jp,J1];omega
def vt{CX:eg}{P:Å}{w:È}{K:Â}{mg:Str->Ř Value}{base:Heap}{k:Nat}{f:Addr}{name qual:Str}{a:Arguments}{c:Y Ç}{scope:â}{T kV p U j ct oc:Value}{R od:Ř Addr}
  {QL:Array (Ř Value)} {N ps:Y Str} {sp:Sp} (lk:K.lookup f=Z ⟨oc,od,.func (ę name qual a c scope T kV p U R j ct),QL⟩) (a_:ą K j qual=ř) (b_:FnScope N ps scope)
  (len:∀vs H Q E,sp vs H Q E->vs.length=ps.length)
  (OQ:∀(A:Ê)(outer:Y ë)(s:À)(H:Hp)(vs:Y V)(Q:VK)(E:XK),Room k (A.deeper (ê qual scope s.heap.objs.size f j))->sp vs H Q E->
   ∃t,PSs (iu CX P w K mg base N qual scope f j A outer s H E) c t/\t { nx:=λ_ h=>Q .non h,rt:=Q } (eP N vs) H) :
  FnOk P w K mg base CX (k+1) f (ę name qual a c scope T kV p U R j ct) ps sp:=by
 refine⟨len,λA outer s H args us vs Q E C z hb r O=>?_⟩;have hl:=len _ _ _ _ O;have M:K.In s.heap:=z.mod.kin.keeps λb o e=>(z.bs b o e).1;have F:s.heap.NoLimit:=z.mod.nolimit.keeps λb o e=>(z.bs b o e).1
 have SX:∀y∈ps.zip us,scope.names.lookup y.1=Z .local\/(scope.names.lookup y.1=Z .cell/\((Ø (s.heap.objs.size+1) scope.names []).lookup y.1).isSome=ř):=λbe hy=>by
  let⟨n,v⟩:=be;rcases b_.par n (Ly hy).1 with q|q
  ·show .inl q
  ·show .inr ⟨q,cellsFrom_some _ _ _ (.inl q)⟩
 refine codeAny_call_function C.depth (M _ _ lk) S b_.co b_.gen S (PySem.W.codeRec_of M a_) (hb _ _ _ _ ?_);refine wpAny_newFunctionEnv_cells b_.kind SX λenv he X x=>?_;subst he;refine⟨F.keeps x.toInCall.keep,codeAny_func ?_⟩;let⟨t,ht,hq⟩:=OQ A outer s H vs Q E (C.deeper _) O;have I:Inv (iu CX P w K mg base N qual scope f j A outer s H E) [] (eP N vs) H X:=BC b_ C.hd z hl r x;refine Ld (ht [] X (eP N vs) H _ I hq) (λfl L l=>?_) λe L l=>l
 have B:∀{g:St}{h:Hp}{v:V}{u:Value},Inv (iu CX P w K mg base N qual scope f j A outer s H E) [] g h L->RelV v u->Q v h->CE outer P w H s Q u L:=
  λ{g h v u} J G q=>⟨v,h,J.os,J.bare,J.base,J.hok,G,q⟩
 cases fl with
 |ret u=>
  let⟨v,g,h,J,G,q⟩:=l;show B J G q
 |next=>
  let⟨g,h,J,q⟩:=l;show B (v:=V.non) (u:=Value.none) J S q
 |brk=>
  let⟨_,_,_,q⟩:=l;show Ñ q
 |cont=>
  let⟨_,_,_,q⟩:=l;show Ñ q
section
variable{X:Cx}{x:Str}{p a:Ö}{e:Ã}{es:Y Ã}{t:TA}{id T:String}{r:Y V->Hp->VK->Prop}
noncomputable def xo(r:Y V->Hp->VK->Prop)(t:TA):TE:=λf H Q=>t f H λvs c=>r vs c Q
def uK(w:dZ X (.builtin id) r)(z:Gl X x)(A:X.mg x=ŗ)(C:Û x=Z (.builtin id))(v:PA X (e::es) t)(B:x≠"__name__":=by decide)(o:ab x:=by decide)
  (y:starEach (e::es) X.env=(Ś,eval e X.env)::starEach es X.env:=by rfl) (u:(backTo a (starEach es X.env)).any (·.1)=Ś:=by rfl):PE X (.Call (.Name x p) (e::es) [] a) (xo r t):=by
 intro c s f H Q I h;refine Mb (gY I z A C ?_ B o);show PyProof.Rows.callWith_builtin1 (aF (v a c s f H _ I h) λus G l=>by let⟨vs,g,j,F,E⟩:=l;show w c G f g vs us Q j F E) y u
def kP(w:dZ X (.type T) r)(z:Gl X x)(A:X.mg x=ŗ)(C:Û x=Z (.type T))(v:PA X (e::es) t)(B:x≠"__name__":=by decide)(o:ab x:=by decide)
  (y:starEach (e::es) X.env=(Ś,eval e X.env)::starEach es X.env:=by rfl) (u:(backTo a (starEach es X.env)).any (·.1)=Ś:=by rfl):PE X (.Call (.Name x p) (e::es) [] a) (xo r t):=by
 intro c s f H Q I h;refine Mb (gY I z A C ?_ B o);show Kw (aF (v a c s f H _ I h) λus G l=>by let⟨vs,g,j,F,E⟩:=l;show w c G f g vs us Q j F E) y u
end
end L2
namespace HT
open PySem PyProof.Rows
section
variable{prog:Å}{w:È}{A:Ê}{E:Value->À->Prop}{s:À}
def cat_tup{t b:Addr}{vs a:Y Value}{Q:Value->À->Prop}(z:ġ s.heap t vs.toArray)(y:ġ s.heap b a.toArray)(u:vs≠[])
  (v:a=[]->Q (.ref t) s) (x:a≠[]->Q (.ref s.heap.objs.size) { s with heap:=s.heap.push { cls:=.type "tuple",data:=.seq (vs++a).toArray } })
  (hsz:vs.length+a.length<=sizeLine):wpAny (Ä prog w) A (Ï .Add (.ref t) (.ref b)) Q E s:=by
 let⟨⟨cls,p,data,sl⟩,g,r,n,hd⟩:=id z;let⟨⟨B,l,data2,o⟩,f,j,n2,c⟩:=id y;simp only at r hd j c;subst r hd j c
 have e:vs.toArray++a.toArray=(vs++a).toArray:=by simp
 by_cases h:a=[]
 ·show ĩ ⟨_,g,S⟩ ⟨_,f,S⟩ Nh Ę Mu Mp (Me _ _)
   (tuple_addW1 t b vs.toArray a.toArray n n2 p l sl o (by simpa using u) (by simp[h])) ⟨g,f,v h⟩
 ·refine ĩ ⟨_,g,S⟩ ⟨_,f,S⟩ Nh Ę Mu Mp (Me _ _)
   (tuple_addW2 t b vs.toArray a.toArray n n2 p l sl o (by simpa using u) (by simpa using h) (by rwa[JG,JG])) ⟨g,f,?_⟩
  rw[e];show x h
noncomputable def sIx(n d:Nat):Ř Int->Nat
 |none=>d
 |some v=>if v<0 then (v+(n:Int)).toNat else min v.toNat n
def sIx_nat(n d k:Nat):sIx n d (Z (k:Int))=min k n:=by change (if (k:Int)<0 then ((k:Int)+(n:Int)).toNat else min (k:Int).toNat n)=min k n;rw[Jv (),KC]
def zy(n d:Nat)(hd:d<=n)(o:Ř Int):sIx n d o<=n:=by
 cases o with
 |none=>show hd
 |some v=>
  change (if v<0 then (v+(n:Int)).toNat else min v.toNat n)<=n;by_cases a:v<0
  ·rw[JC a];omega
  ·rw[Jv a];show Nat.min_le_right _ _
def uM(v:Int)(n d:Nat):(if v<0 then max (v+(n:Int)) 0 else min v (n:Int))=((sIx n d (Z v):Nat):Int):=by
 change (if v<0 then max (v+(n:Int)) 0 else min v (n:Int))=(((if v<0 then (v+(n:Int)).toNat else min v.toNat n):Nat):Int);by_cases a:v<0
 ·simp only[JC a];omega
 ·simp only[Jv a];omega
def Fm(lo hi:Ř Int)(n:Nat):Builtin.Slice.sliceAdjust lo hi 1 (n:Int)=(((sIx n 0 lo:Nat):Int),((sIx n n hi:Nat):Int)):=by
 have a:¬ ((1:Int)<0):=by omega
 unfold Builtin.Slice.sliceAdjust;simp only[a,NK];refine Prod.ext ?_ ?_
 ·cases lo with
  |none=>rfl
  |some v=>show uM v n 0
 ·cases hi with
  |none=>rfl
  |some v=>show uM v n n
def Di(i j:Nat):Builtin.Slice.slicePlaces (i:Int) (j:Int) 1=j-i:=by
 unfold Builtin.Slice.slicePlaces
 have a:(1:Int)>0:=by omega
 simp only[a,Mn,Int.ediv_one];split<;>omega
def sO{v:Value}{o:Ř Int}{Q:Ř Int->À->Prop}(p:î v o)(h:Q o s):wpAny (Ä prog w) A (Builtin.Slice.slicePartIndex v) Q E s:=by
 cases p with
 |none=>show slicePart_none h
 |int i t=>show slicePart_int h
def wq{sl:Addr}{e f:Value}{lo hi:Ř Int}{n:Nat}{Q:Int×Int×Nat->À->Prop}(g:s.heap.IsSliceOf sl e f .none)(pl:î e lo)(j:î f hi)
  (h:Q (((sIx n 0 lo:Nat):Int),1,sIx n n hi-sIx n 0 lo) s):wpAny (Ä prog w) A (Builtin.Slice.sliceApplied (.ref sl) (pure (n:Int))) Q E s:=by
 let⟨os,a,l,c⟩:=id g;unfold Builtin.Slice.sliceApplied Builtin.Slice.sliceFields;refine Jt (Jt (KI a c (x:=e) S (Jt (KI a c (x:=f) S (Jt (KI a c (x:=.none) S (JK ?_)))))));refine Jt (slicePart_none ?_);change wpAny _ _ (if ((1:Int)==0)=ř then _ else _) _ _ s;rw[Jv 'b'];refine Jt (sO pl (Jt (sO j (Jt (JK ?_)))));change wpAny _ _ (match Builtin.Slice.sliceAdjust lo hi 1 (n:Int)with|(lo,hi)=>pure (lo,(1:Int),Builtin.Slice.slicePlaces lo hi 1)) _ _ s;rw[Fm lo hi n];change wpAny _ _ (pure (((sIx n 0 lo:Nat):Int),(1:Int),Builtin.Slice.slicePlaces ((sIx n 0 lo:Nat):Int) ((sIx n n hi:Nat):Int) 1)) _ _ s;rw[Di];show JK h
def yP(xs:Array Value)(i k:Nat):((List.range k).filterMap λ(m:Nat)=>xs[((i:Int)+(m:Int)*1).toNat]?).toArray=((xs.toList.drop i).take k).toArray:=by
 have e:(λ(m:Nat)=>xs[((i:Int)+(m:Int)*1).toNat]?)=λm=>xs[i+m]?:=by
  funext m
  have:((i:Int)+(m:Int)*1).toNat=i+m:=by omega
  rw[this]
 rw[e];have:=pick_run xs i k;rw[MX]at this;have a:((λx=>xs[x]?) ∘ λx=>i+x)=λm=>xs[i+m]?:=rfl;rw[a]at this;rw[this]
def getItem_tuple_cut{t sl:Addr}{a:Array Value}{g j:Value}{lo hi:Ř Int}{Q:Value->À->Prop}(e:ġ s.heap t a)(f:s.heap.IsSliceOf sl g j .none)(pl:î g lo)(v:î j hi)
  (u:¬ (sIx a.size 0 lo=0/\sIx a.size a.size hi=a.size))
  (h:Q (.ref s.heap.objs.size) { s with heap:=s.heap.push { cls:=.type "tuple",data:=.seq ((a.toList.drop (sIx a.size 0 lo)).take (sIx a.size a.size hi-sIx a.size 0 lo)).toArray } })
  (hsz:a.size<=sizeLine):wpAny (Ä prog w) A (ä (.ref t) (.ref sl)) Q E s:=by
 have c:sizeOk (.seq ((a.toList.drop (sIx a.size 0 lo)).take (sIx a.size a.size hi-sIx a.size 0 lo)).toArray):=by change ((a.toList.drop (sIx a.size 0 lo)).take (sIx a.size a.size hi-sIx a.size 0 lo)).toArray.size<=sizeLine;rw[JG,Ke,Lf,K3];omega
 have y:sIx a.size a.size hi<=a.size:=zy _ _ (Jx _) hi;let⟨os,o,r,x⟩:=id f;have p:s.TypeIs (.ref sl) "slice":=⟨os,o,r⟩;unfold ä
 try with_reducible refine Le ?_
 first|refine Jt (JK ?_)|skip
 refine Jt (ņ e.typeIs 'b' ?_)
 refine Jt (KU (name:=Str.ofString "__getitem__") e.typeIs KD
  (Lq KD e.typeIs Ĺ ?_ (ł _ _)))
 change wpAny _ _ (Builtin.Tuple.tupleItemsOf (.ref t) >>= _) _ _ s;refine Jt (tupleItemsOf_ e ?_);refine Jt (ĥ p ?_);rw[JC 'b'];refine Jt (wq f pl v ?_)
 have l:¬ ((((sIx a.size 0 lo:Nat):Int)==0&&(1:Int)==1&&(sIx a.size a.size hi-sIx a.size 0 lo)==a.size)=ř):=by
  intro q;rw[KJ,KJ]at q;have z:((sIx a.size 0 lo:Nat):Int)=0:=eq_of_beq q.1.1;have B:sIx a.size a.size hi-sIx a.size 0 lo=a.size:=eq_of_beq q.2;show u ⟨(),()⟩
 change wpAny _ _ (if (((sIx a.size 0 lo:Nat):Int)==0&&(1:Int)==1&&(sIx a.size a.size hi-sIx a.size 0 lo)==a.size)=ř then _ else _) _ _ s;rw[Jv l,yP]
 first
  |show Jt (m:=Builtin.Tuple.tupleExact _) (Lm (JK ⟨_,S,JK h⟩) c)
  |show Jt (m:=Builtin.Tuple.tupleExact _) (Lm (Jt (JK (JK ⟨_,S,JK h⟩))) c)
  |show Jt (Jt (m:=Builtin.Tuple.tupleExact _) (Lm (JK (JK ⟨_,S,JK h⟩)) c))
  |show Jt (Jt (m:=Builtin.Tuple.tupleExact _) (Lm (JK ⟨_,S,JK h⟩) c))
end
end HT
namespace L2
open PySem PySem.Spec PyProof.Rows
noncomputable abbrev TO:=St->Hp->(Ř Int->Hp->Prop)->Prop
noncomputable def PO(X:Cx)(e:Ř Ã)(t:TO):Prop:=
 ∀(a:Y (Addr×Õ))(s:À)(c:St)(H:Hp)(Q:Ř Int->Hp->Prop),Inv X a c H s->t c H Q->
  wpAny (Ä X.prog X.w) X.A (evalPart e X.env) (λu g=>∃o f,Inv X a c f g/\î u o/\Q o f) X.xe s
def EX:TO:=λ_ H Q=>Q ŗ H
noncomputable def DH(t:TE):TO:=λc H Q=>t c H λx a=>∃i,x=.int i/\Q (Z i) a
section
variable{X:Cx}{e:Ã}{c:TE}{lo hi:Ř Ã}{f g:TO}{A j:Ö}
def po_none:PO X ŗ EX:=by intro a s l H Q I h;rw[evalPart_none];show JK ⟨ŗ,H,I,.none,h⟩
def Cs(h:PE X e c):PO X (Z e) (DH c):=by intro a s y H Q I r;rw[evalPart_some];refine aF (h a s y H _ I r) λu z p=>?_;let⟨x,l,o,w,v⟩:=p;let⟨i,rfl,q⟩:=v;let⟨t,rfl⟩:=w;show⟨Z i,l,o,.int i t,q⟩
noncomputable def SlR(X:Cx)(r:V->Ř Int->Ř Int->Hp->VK->Prop):Prop:=
 ∀(a:Y (Addr×Õ))(s:À)(o:St)(H:Hp)(x:V)(v h l:Value)(lo hi:Ř Int)(sl:Addr)(Q:VK),Inv X a o H s->RelV x v->s.heap.IsSliceOf sl h l .none->î h lo->î l hi->r x lo hi H Q->
  ∃T id,typeLookup (.type T) "__getitem__"=pure (Z (.builtin id))/\s.TypeIs v T/\wpAny (Ä X.prog X.w) X.A (ä v (.ref sl)) (EP X a o Q) X.xe s
def SlR.or{r p:V->Ř Int->Ř Int->Hp->VK->Prop}(h:SlR X r)(h':SlR X p):SlR X (λx lo hi H Q=>r x lo hi H Q\/p x lo hi H Q):=by
 intro a s z H x v w y lo hi sl Q I u l pl o q;rcases q with q|q
 ·show h a s z H x v w y lo hi sl Q I u l pl o q
 ·show h' a s z H x v w y lo hi sl Q I u l pl o q
noncomputable def yM(r:V->Ř Int->Ř Int->Hp->VK->Prop)(c:TE)(f g:TO):TE:=λa H Q=>c a H λx h=>f a h λl o=>g a o λu p=>r x l u p Q
def Fg{r:V->Ř Int->Ř Int->Hp->VK->Prop}(O:SlR X r)(L:PE X e c)(N:PO X lo f)(R:PO X hi g):PE X (.Subscript e (.Slice lo hi ŗ j) A) (yM r c f g):=by
 intro a s p H Q I h;refine Subscript_ (aF (L a s p H _ I h) λv s1 ⟨x,B,E,r1,U⟩=>?_);refine wpAny_Slice (aF (N a s1 p B _ E U) λw s2 ⟨l,C,F,pl,a_⟩=>aF (R a s2 p C _ F a_) λy o ⟨u,z,G,b_,be⟩=>?_);rw[evalPart_none];refine JK ?_;have J:Inv X a p z { o with heap:=o.heap.push { cls:=.type "slice",data:=.fields #[w,y,.none] } }:=G.kept (t':=o.toks) λb ob q=>Jz _ q;let⟨T,id,K,P,M⟩:=O a { o with heap:=o.heap.push { cls:=.type "slice",data:=.fields #[w,y,.none] } } p z x v w y l u o.heap.objs.size Q J r1 (Heap.IsSliceOf.new ..) pl b_ be;change wpAny (Ä X.prog X.w) X.A (Ě e (.Slice lo hi ŗ j) v (.ref o.heap.objs.size)) (EP X a p Q) X.xe { o with heap:=o.heap.push { cls:=.type "slice",data:=.fields #[w,y,.none] } };show tail_any (ops:=[.ref o.heap.objs.size,v]) P K M (by with_unfolding_all rfl)
noncomputable def iN(xs:Y V)(lo hi:Ř Int):Y V:=(xs.drop (HT.sIx xs.length 0 lo)).take (HT.sIx xs.length xs.length hi-HT.sIx xs.length 0 lo)
def wR(xs:Y V)(lo hi:Ř Int):(iN xs lo hi).length<=xs.length:=by unfold iN;rw[Ke,Lf];omega
noncomputable def vF(K:Â):V->Ř Int->Ř Int->Hp->VK->Prop:=λx lo hi H Q=>∃a xs,x=.ref a/\SqT K H a xs /\
 ¬ (HT.sIx xs.length 0 lo=0/\HT.sIx xs.length xs.length hi=xs.length)/\∀p,H p=ŗ->Q (.ref p) (ap H p (.tup (iN xs lo hi)))
def sl_tup:SlR X (vF X.K):=by
 intro u s K H x v G J lo hi sl Q I C w pl B h;let⟨a,xs,rfl,y,E,q⟩:=h;cases C;let⟨its,r,p,z⟩:=I.tuple y
 have l:its.toArray.size=xs.length:=by rw[JG];show r.length.symm
 refine⟨"tuple",_,KD.lookup,p.typeIs,?_⟩;refine HT.getItem_tuple_cut p w pl B (by rwa[l]) ?_ (by rwa[l]);rw[l];refine⟨.ref s.heap.objs.size,_,I.laid (t':=s.toks) (o:=.tup (iN xs lo hi)) (λb F q=>Jz _ q) (Jx _) ?_,S,q _ (I.hok.fresh (Jx _))⟩;show⟨JR (wR xs lo hi) z,_,(r.drop (HT.sIx xs.length 0 lo)).take (HT.sIx xs.length xs.length hi-HT.sIx xs.length 0 lo),IsTupD.new _ _⟩
noncomputable def GI(K:Â):R2:=λx y H Q=>∃a b xs ys,x=.ref a/\y=.ref b/\SqT K H a xs/\SqT K H b ys/\xs≠[]/\xs.length+ys.length<=sizeLine /\
 (ys=[]->Q (.ref a) H)/\(ys≠[]->∀p,H p=ŗ->Q (.ref p) (ap H p (.tup (xs++ys))))
def Vals.nil_iff{xs:Y V}{us:Y Value}(r:Vals xs us):us=[]↔xs=[]:=by
 cases r with
 |nil=>simp
 |cons _ _=>simp
def DV:b9 X (Ï .Add) (GI X.K):=by intro r s P H x y v u Q I K L h;let⟨a,b,xs,ys,rfl,rfl,B,C,E,N,G,J⟩:=h;cases K;cases L;let⟨its,p,F,_⟩:=I.tuple B;let⟨M,l,j,_⟩:=I.tuple C;refine HT.cat_tup F j (λz=>E (p.nil_iff.mp z)) (λz=>⟨.ref a,H,I,S,G (l.nil_iff.mp z)⟩) (λz=>?_) (by rwa[←p.length,←l.length]);refine⟨.ref s.heap.objs.size,_,I.laid (t':=s.toks) (o:=.tup (xs++ys)) (λb O q=>Jz _ q) (Jx _) ?_,S,J (λw=>z (l.nil_iff.mpr w)) _ (I.hok.fresh (Jx _))⟩;show⟨by rwa[Jr],_,p.append l,IsTupD.new _ _⟩
end
noncomputable def fv(n:Nat)(i:Int):Ř Nat:=if 0<=i then (if i<n then Z i.toNat else ŗ) else if -(n:Int)<=i then Z (i+n).toNat else ŗ
noncomputable def cr{a:Type}(xs:Y a)(i:Int):Ř a:=(fv xs.length i).bind λj=>xs[j]?
def vG{n:Nat}{i:Int}{j:Nat}(h:fv n i=Z j):ă i n=Z j/\j<n/\-(n:Int)<=i/\i<n:=by
 unfold fv at h;by_cases c:0<=i
 ·rw[JC c]at h;by_cases a:i<n
  ·rw[JC a]at h;have e:i.toNat=j:=JY h;show⟨by rw[Ķ c a,e],(),(),a⟩
  ·rw[Jv a]at h;cases h
 ·rw[Jv c]at h;by_cases a:-(n:Int)<=i
  ·rw[JC a]at h;have e:(i+n).toNat=j:=JY h;show⟨by rw[Ĩ () a,e],(),a,()⟩
  ·rw[Jv a]at h;cases h
def qo{a:Type}{xs:Y a}{i:Int}{v:a}(h:cr xs i=Z v):∃j,ă i xs.length=Z j/\xs[j]?=Z v/\j<xs.length/\-(xs.length:Int)<=i/\i<xs.length:=by
 unfold cr at h
 cases e:fv xs.length i with
 |none=>rw[e]at h;cases h
 |some j=>
  rw[e]at h;let⟨c,f,g,l⟩:=vG e;show⟨j,c,h,f,g,l⟩
def Ib{a:Type}{xs:Y a}{j:Nat}{v:a}(h:xs[j]?=Z v):cr xs (j:Int)=Z v:=by
 have c:j<xs.length:=(Kr.mp h).1
 have e:fv xs.length (j:Int)=Z j:=by unfold fv;rw[JC (),JC ()];simp
 unfold cr;rwa[e]
noncomputable def oM(b:Ã):Prop:=∀o i,Ć b Ś o i=operate [o,i] (ä o i)
noncomputable def jS(X:Cx)(r:R2):Prop:=
 ∀(e a:Ã)(c:Y (Addr×Õ))(s:À)(f:St)(H:Hp)(x y:V)(v u:Value)(Q:VK),Inv X c f H s->RelV x v->RelV y u->r x y H Q->
  Ć a Ś v u=operate [v,u] (ä v u)->wpAny (Ä X.prog X.w) X.A (Ě e a v u) (EP X c f Q) X.xe s
noncomputable def AB(X:Cx)(id:String)(r:V->Y V->Hp->VK->Prop):Prop:=
 ∀(a:Y (Addr×Õ))(s:À)(c:St)(H:Hp)(x:V)(xs:Y V)(v:Value)(us:Y Value)(Q:VK),Inv X a c H s->RelV x v->Vals xs us->r x xs H Q->
  wpAny (Ä X.prog X.w) X.A (call (.builtin id) (v::us)) (EP X a c Q) X.xe s
section
variable{X:Cx}{a b:Ã}{E tb:TE}{C:Ö}
def p7{r:R2}(l:jS X r)(g:PE X a E)(j:PE X b tb)(o:oM b):PE X (.Subscript a b C) (iS r E tb):=by intro c s A H Q I h;show Subscript_ (pB g j I h λv u z x y e f p w q=>l a b c z A e x y v u Q f p w q (o _ _))
noncomputable def uG(K:Â):R2:=λx y H Q=>∃p xs i v,x=.ref p/\y=.int i/\SqL K H p xs/\cr xs i=Z v/\Q v H
noncomputable def EH(K:Â):R2:=λx y H Q=>∃p xs i v,x=.ref p/\y=.int i/\SqT K H p xs/\cr xs i=Z v/\Q v H
noncomputable def Dx:R2:=λx y H Q=>∃z i c,x=.str z/\y=.int i/\z.length<=sizeLine/\cr z.cps.toList i=Z c/\Q (.str ⟨#[c]⟩) H
def qQ:jS X (uG X.K):=by
 intro o l c s G H x y v u Q I R b_ h F;let⟨p,xs,i,z,rfl,rfl,P,N,q⟩:=h;cases R;let⟨t,rfl⟩:=b_;let⟨its,r,pl,be⟩:=I.list P;let⟨j,f,K,U,L,M⟩:=qo N;let⟨w,A,J⟩:=r.get K;have O:=r.length;have a_:=iG;have e:EP X c G Q w s:=⟨z,H,I,J,q⟩;by_cases B:0<=i
 ·have g:i.toNat=j:=by rw[Ķ B M]at f;show JY f
  show item_listR pl.isList B () (by rw[g];simpa using A) e F
 ·have g:(i+(its.toArray.size:Int)).toNat=j:=by rw[Ĩ () L]at f;rw[JG,←O];show JY f
  show ĭ (x:=w) pl.isList.typeIs ň.lookup
   (wpAny_getItem_list_neg (Q:=λr T=>r=w/\EP X c G Q r T) pl.isList () (by rw[JG]<;>omega) () (by rw[g];simpa using A) ⟨S,e⟩) F
def D3:jS X (EH X.K):=by
 intro g f c s l H x y v u Q I L M h K;let⟨p,xs,i,z,rfl,rfl,J,F,q⟩:=h;cases L;let⟨t,rfl⟩:=M;let⟨its,r,pl,U⟩:=I.tuple J;let⟨j,O,B,P,R,a_⟩:=qo F;let⟨w,A,o⟩:=r.get B;have G:=r.length;have T:=iG;have e:EP X c l Q w s:=⟨z,H,I,o,q⟩
 show ĭ (x:=w) pl.typeIs slot_tuple_getitem.lookup
  (getItem_tuple (j:=j) (Q:=λr N=>r=w/\EP X c l Q r N) pl () () (by rwa[JG,←G]) (by simpa using A) ⟨S,e⟩) K
def AQ:jS X Dx:=by
 intro f e l s O H x y v u Q I J K h G;let⟨z,i,c,rfl,rfl,N,B,q⟩:=h;let⟨t,rfl⟩:=J;let⟨t',rfl⟩:=K;let⟨j,g,r,L,w,A⟩:=qo B
 have F:z.cps.toList.length=z.length:=by simp[Str.length]
 rw[F]at g w A;have M:=iG
 show tail_any (ļ s z t) slot_str_getitem.lookup (getItem_str (c:=c) (by
  have o:decide (i < -(2^63:Int))=Ś:=JX ();have p:decide (i≥2^63)=Ś:=JX ()
  rw[o,p,Bool.or_false]) (by rw[g];simpa using r) ⟨.str ⟨#[c]⟩,H,I.tok _,⟨_,S⟩,q⟩) G
def Aw(its:Y Value)(n j:Nat)(u:Value):õ (·.setIfInBounds j u) { cls:=.type "list",data:=.seq its.toArray n }={ cls:=.type "list",data:=.seq (its.set j u).toArray n }:=by simp[õ]
def Inv.lst{c:Y (Addr×Õ)}{f:St}{H:Hp}{s:À}{p:Addr}{xs:Y V}(I:Inv X c f H s)(h:H p=Z (.lst xs)) :
  ∃(its:Y Value)(n:Nat),Vals xs its/\s.heap.get? p=Z { cls:=.type "list",data:=.seq its.toArray n }/\xs.length<=sizeLine:=by
 let⟨z,its,n,r,e⟩:=I.hok p _ h;show⟨its,n,r,e,z⟩
def Inv.lstUpd{c:Y (Addr×Õ)}{l:St}{H:Hp}{s:À}{p:Addr}{xs ys:Y V}{its Oc:Y Value}{n g:Nat}{f:Õ->Õ}(I:Inv X c l H s)(h:H p=Z (.lst xs))
  (v:s.heap.get? p=Z { cls:=.type "list",data:=.seq its.toArray n }) (j:f { cls:=.type "list",data:=.seq its.toArray n }={ cls:=.type "list",data:=.seq Oc.toArray g }) (r:Vals ys Oc) (w:ys.length<=sizeLine) (t:Nat) :
  Inv X c l (ap H p (.lst ys)) { s with heap:=s.heap.update p f,toks:=t }:=by
 have e:(s.heap.update p f).get? p=Z { cls:=.type "list",data:=.seq Oc.toArray g }:=by
  rw[Heap.get?_update_self f v (by rw[j]<;>rfl),j]
 refine I.write (x:=p) (e:=p) (by rw[h];trivial) (.inl S) (λb u o q=>(Heap.get?_update_other _ _ (Kz o)).trans q) ⟨_,e⟩ ?_;show⟨w,Oc,g,r,e⟩
noncomputable def Bu:V->V->V->Hp->(Hp->Prop)->Prop:=λo i v H Q=>∃p xs k j,o=.ref p/\i=.int k/\H p=Z (.lst xs)/\fv xs.length k=Z j/\Q (ap H p (.lst (xs.set j v)))
def qR:qi X Bu:=by
 intro c s K H o i v P O u Q I G F J h;let⟨p,xs,k,j,rfl,rfl,y,B,q⟩:=h;cases G;let⟨t,rfl⟩:=F;let⟨its,n,r,l,N⟩:=I.lst y;let⟨e,L,z,A⟩:=vG B;have g:=r.length;have M:=iG
 have w:Inv X c K (ap H p (.lst (xs.set j v))) { s with heap:=s.heap.update p (õ (·.setIfInBounds j u)) }:=
  I.lstUpd y l (Aw its n j u) (r.set J j) (by rwa[Ju]) s.toks
 by_cases x:0<=k
 ·have f:k.toNat=j:=by rw[Ķ x A]at e;show JY e
  show PySem.W.ki_setAt l x () (by rwa[JG,←g]) (by rw[f];show⟨_,w,q⟩)
 ·have f:(k+(its.toArray.size:Int)).toNat=j:=by rw[Ĩ () z]at e;rw[JG,←g];show JY e
  show PySem.W.ki_setBack l () (by rwa[JG,←g]) () (by rw[f];show⟨_,w,q⟩)
def Fp(lo hi:Ř Int)(n:Nat):(á lo hi ŗ n).1=((HT.sIx n 0 lo:Nat):Int)/\(á lo hi ŗ n).2.1=((HT.sIx n n hi:Nat):Int)/\(á lo hi ŗ n).2.2=1:=by
 refine⟨?_,?_,S⟩
 ·cases lo with
  |none=>simp[á,HT.sIx]
  |some i=>
   simp only[á,HT.sIx,Ģ,show (1:Int)>0 by decide,Mn];by_cases h:i<0
   ·simp only[h,Mn]<;>omega
   ·simp only[h,NK]<;>omega
 ·cases hi with
  |none=>simp[á,HT.sIx]
  |some i=>
   simp only[á,HT.sIx,Ģ,show (1:Int)>0 by decide,Mn];by_cases h:i<0
   ·simp only[h,Mn]<;>omega
   ·simp only[h,NK]<;>omega
def Cf(its:Y Value)(lo hi:Ř Int):slicePick its.toArray lo hi ŗ=((its.drop (HT.sIx its.length 0 lo)).take (HT.sIx its.length its.length hi-HT.sIx its.length 0 lo)).toArray:=by let⟨c,e,f⟩:=Fp lo hi its.toArray.size;unfold slicePick;rw[c,e,f];simp only[sliceRange_one,pick_run,JG]<;>rfl
noncomputable def sV(K:Â):V->Ř Int->Ř Int->Hp->VK->Prop:=λx lo hi H Q=>∃a xs,x=.ref a/\SqL K H a xs/\∀p,H p=ŗ->Q (.ref p) (ap H p (.lst (iN xs lo hi)))
def sl_list:SlR X (sV X.K):=by
 intro f s A H x v y z lo hi sl Q I u g pl p h;let⟨a,xs,rfl,j,q⟩:=h;cases u;let⟨its,r,e,l⟩:=I.list j;have c:=r.length;refine⟨"list",_,ň.lookup,e.isList.typeIs,?_⟩;refine wpAny_getItem_list_slice e.isList g pl p .none (by simp) ?_ (by rw[JG]<;>omega);rw[Cf,←c];refine⟨.ref s.heap.objs.size,_,I.laid (t':=s.toks) (o:=.lst (iN xs lo hi)) (λb w q=>Jz _ q) (Jx _) ?_,S,q _ (I.hok.fresh (Jx _))⟩;show⟨JR (wR xs lo hi) l,_,0,(r.drop (HT.sIx xs.length 0 lo)).take (HT.sIx xs.length xs.length hi-HT.sIx xs.length 0 lo),JJ _ S⟩
noncomputable def ix:V->Bool
 |.non=>ř
 |.bl _=>ř
 |.int _=>ř
 |.str _=>ř
 |_=>Ś
noncomputable def im:V->V->Bool
 |.non,.non=>ř
 |.bl a,.bl b=>a==b
 |.bl a,.int b=>(if a then 1 else 0)==b
 |.int a,.bl b=>a==(if b then 1 else 0)
 |.int a,.int b=>a==b
 |.str a,.str b=>a==b
 |_,_=>Ś
def HF{A:Ê}{s:À}{y x:V}{u v:Value}(f:RelV y u)(c:RelV x v)(g:ix y=ř)(e:ix x=ř):SeqAt.EqAt A s u v (im y x):=by
 cases y with
 |non=>
  cases f
  cases x with
  |non=>cases c;show SeqAt.EqAt.same _
  |bl b=>cases c;show SeqAt.EqAt.none_bool b
  |int b=>let⟨t,rfl⟩:=c;show SeqAt.EqAt.none_int b t
  |str b=>let⟨t,rfl⟩:=c;show SeqAt.EqAt.none_str b t
  |_=>show absurd (show Ś=ř from e) J8
 |bl a=>
  cases f
  cases x with
  |non=>cases c;show SeqAt.EqAt.bool_none a
  |bl b=>cases c;show SeqAt.EqAt.bool_bool a b
  |int b=>let⟨t,rfl⟩:=c;show SeqAt.EqAt.bool_int a b t
  |str b=>let⟨t,rfl⟩:=c;show SeqAt.EqAt.bool_str a b t
  |_=>show absurd (show Ś=ř from e) J8
 |int a=>
  let⟨t',rfl⟩:=f
  cases x with
  |non=>cases c;show SeqAt.EqAt.int_none a t'
  |bl b=>cases c;show SeqAt.EqAt.int_bool a t' b
  |int b=>let⟨t,rfl⟩:=c;show SeqAt.EqAt.int_int a t' b t
  |str b=>let⟨t,rfl⟩:=c;show SeqAt.EqAt.int_str a t' b t
  |_=>show absurd (show Ś=ř from e) J8
 |str a=>
  let⟨t',rfl⟩:=f
  cases x with
  |non=>cases c;show SeqAt.EqAt.str_none a t'
  |bl b=>cases c;show SeqAt.EqAt.str_bool a t' b
  |int b=>let⟨t,rfl⟩:=c;show SeqAt.EqAt.str_int a t' b t
  |str b=>let⟨t,rfl⟩:=c;show SeqAt.EqAt.str_str a t' b t
  |_=>show absurd (show Ś=ř from e) J8
 |_=>show absurd (show Ś=ř from g) J8
noncomputable def ij(x:V)(u:Value):Bool:=match u with
 |.none=>im .non x
 |.bool b=>im (.bl b) x
 |.int i _=>im (.int i) x
 |.str z _=>im (.str z) x
 |_=>Ś
def uF{x y:V}{u:Value}(r:RelV y u)(f:ix y=ř):ij x u=im y x:=by
 cases y with
 |non=>cases r;rfl
 |bl b=>cases r;rfl
 |int i=>let⟨t,rfl⟩:=r;rfl
 |str z=>let⟨t,rfl⟩:=r;rfl
 |_=>show absurd (show Ś=ř from f) J8
theorem p6{x:V}:∀{xs:Y V}{us:Y Value},Vals xs us->xs.all ix=ř->us.any (ij x)=xs.any λy=>im y x
 |_,_,.nil,_=>rfl
 |y::xs,u::us,.cons r t,f=>by rw[NL,KJ]at f;rw[LA,LA,uF r f.1,p6 t f.2]
theorem rS{A:Ê}{s:À}{x:V}{v:Value}(g:RelV x v)(e:ix x=ř):∀{xs:Y V}{us:Y Value},Vals xs us->xs.all ix=ř->∀u∈us,SeqAt.EqAt A s u v (ij x u)
 |_,_,.nil,_=>λu c=>by cases c
 |y::xs,u::us,.cons r t,f=>λu' c=>by
  rw[NL,KJ]at f;rcases JI.mp c with rfl|c
  ·rw[uF r f.1];show HF r g f.1 e
  ·show rS g e t f.2 u' c
noncomputable def jE(x:V)(xs:Y V):Bool:=xs.any λy=>im y x
noncomputable def Ir(K:Â)(c:Bool):R2:=λx y H Q=>∃p xs,y=.ref p/\(SqL K H p xs\/SqT K H p xs)/\ix x=ř/\xs.all ix=ř/\Q (.bl (if c then !jE x xs else jE x xs)) H
def DY:b9 X (É .In) (Ir X.K Ś):=by
 intro g s z H x y v u Q I j o h;let⟨p,xs,rfl,c,f,fs,q⟩:=h;cases o;rcases c with c|c
 ·let⟨its,r,pl,l⟩:=I.list c;refine SeqAt.in_listAt (ij x) pl.isList (λw e=>rS j f r fs w (by simpa using e)) ⟨.bl _,H,I,S,?_⟩;rwa[show its.toArray.any (ij x)=its.any (ij x)by simp,p6 r fs]
 ·let⟨its,r,pl,l⟩:=I.tuple c;refine SeqAt.in_tupleAt (ij x) pl (λw e=>rS j f r fs w (by simpa using e)) ⟨.bl _,H,I,S,?_⟩;rwa[show its.toArray.any (ij x)=its.any (ij x)by simp,p6 r fs]
def qh:dZ X (.builtin "len") (λxs H Q=>∃p ys,xs=[.ref p]/\(SqL X.K H p ys\/SqT X.K H p ys)/\Q (.int ys.length) H):=by
 intro g s v H xs us Q I r h;let⟨p,ys,rfl,e,q⟩:=h;let⟨u,rfl,l⟩:=gS r;cases l;have o:=iG;rcases e with e|e
 ·let⟨its,f,pl,j⟩:=I.list e;have c:=f.length;show Calls.call_len_list pl.isList (by simp only[JG]<;>omega) ⟨.int ys.length,H,I.tok _,⟨s.toks+1,by rw[JG,c]⟩,q⟩
 ·let⟨its,f,pl,j⟩:=I.tuple e;have c:=f.length;show len_tuple pl (by simp only[JG]<;>omega) ⟨.int ys.length,H,I.tok _,⟨s.toks+1,by rw[JG,c]⟩,q⟩
def HY:dZ X (.builtin "len") (λxs H Q=>∃z,xs=[.str z]/\z.length<=sizeLine/\Q (.int z.length) H):=by
 intro c s g H xs us Q I r h;let⟨z,rfl,f,q⟩:=h;let⟨u,rfl,t,rfl⟩:=gS r;have e:=iG;show len_str () ⟨.int z.length,H,I.tok _,⟨_,S⟩,q⟩
def uB:dZ X (.type "list") (λxs H Q=>∃p ys,xs=[.ref p]/\(SqL X.K H p ys\/SqT X.K H p ys)/\∀l,H l=ŗ->Q (.ref l) (ap H l (.lst ys))):=by
 intro x s B H xs us Q I r h;let⟨p,ys,rfl,v,q⟩:=h;let⟨u,rfl,A⟩:=gS r;cases A
 have g:∀(its:Y Value),Vals ys its->ys.length<=sizeLine->∀(h':Heap)(c:Nat),(∀b o',s.heap.get? b=Z o'->h'.get? b=Z o')->
   h'.get? s.heap.objs.size=Z { cls:=.type "list",dict:=ŗ,data:=.seq its.toArray c,slots:=#[] }->EP X x B Q (.ref s.heap.objs.size) { s with heap:=h' }:=λits f w h' c kp e=>
  ⟨.ref s.heap.objs.size,_,I.laid (t':=s.toks) kp (Jx _) (show ObjOk X.prog X.w _ h' _ (.lst ys)from ⟨w,its,c,f,e⟩),S,q _ (I.hok.fresh (Jx _))⟩
 rcases v with v|v
 ·let⟨its,f,pl,w⟩:=I.list v;have j:=f.length;let⟨o,z,y,n,hd⟩:=pl.isList;show call_list_seq p (.inl S) z y hd (λh' c kp e=>g its f w h' c kp e) (by simp only[JG]<;>omega)
 ·let⟨its,f,pl,w⟩:=I.tuple v;have j:=f.length;let⟨o,z,y,n,hd⟩:=pl;show call_list_seq p (.inr S) z y hd (λh' c kp e=>g its f w h' c kp e) (by simp only[JG]<;>omega)
def rB:dZ X (.type "tuple") (λxs H Q=>∃p ys,xs=[.ref p]/\((SqL X.K H p ys/\∀l,H l=ŗ->Q (.ref l) (ap H l (.tup ys)))\/(SqT X.K H p ys/\Q (.ref p) H))):=by
 intro c s x H xs us Q I r h;let⟨p,ys,rfl,h⟩:=h;let⟨u,rfl,z⟩:=gS r;cases z;rcases h with⟨f,q⟩|⟨f,q⟩
 ·let⟨its,g,pl,w⟩:=I.list f;have v:=g.length;refine call_tuple_list pl.isList (λh' kp=>?_) (by simp only[JG]<;>omega);have j:Inv X c x H { s with heap:=h' }:=I.kept (t':=s.toks) kp
  have y:Inv X c x (ap H h'.objs.size (.tup ys)) { s with heap:=h'.push { cls:=.type "tuple",data:=.seq its.toArray } }:=
   j.laid (t':=s.toks) (λb o e=>Jz _ e) (Jx _) (show ObjOk X.prog X.w _ _ _ (.tup ys)from ⟨w,its,g,IsTupD.new _ _⟩)
  show⟨.ref h'.objs.size,_,y,S,q _ (j.hok.fresh (Jx _))⟩
 ·let⟨its,g,pl,w⟩:=I.tuple f;show call_tuple_same pl ⟨.ref p,H,I,S,q⟩
noncomputable def wI(K:Â)(T:String)(x:V)(H:Hp):Prop:=match x with
 |.str _=>T="str"
 |.int _=>T="int"
 |.ref p=>(T="list"/\∃xs,SqL K H p xs)\/(T="tuple"/\((∃xs,H p=Z (.tup xs))\/∃o,K.lookup p=Z o/\o.cls=.type "tuple"/\o.dict=ŗ)) \/
   (T="dict"/\((∃c,H p=Z (.dK c))\/∃c,H p=Z (.dT c)))\/(T="set"/\∃Q n,H p=Z (.set Q n))
 |_=>False
def yC{h:Y (Addr×Õ)}{A:St}{H:Hp}{s:À}{T:String}{x:V}{v:Value}(I:Inv X h A H s)(r:RelV x v)(j:wI X.K T x H) :
  s.TypeIs v T/\∀a,v=.ref a->∃l,s.heap.get? a=Z l/\l.dict=ŗ:=by
 cases x with
 |str z=>
  let⟨t,rfl⟩:=r;cases (show T="str" from j);show⟨ļ s z t,λ_ e=>nomatch e⟩
 |int i=>
  let⟨t,rfl⟩:=r;cases (show T="int" from j);show⟨Na s i t,λ_ e=>nomatch e⟩
 |ref p=>
  cases r;rcases j with⟨rfl,xs,y⟩|⟨rfl,⟨xs,f⟩|⟨o,f,w,hd⟩⟩|⟨rfl,f⟩|⟨rfl,Q,n,f⟩
  ·let⟨its,_,pl,_⟩:=I.list y;refine⟨pl.isList.typeIs,λa e=>?_⟩;cases e;let⟨o,n,e,c,hd,_⟩:=pl;show⟨o,e,hd⟩
  ·let⟨_,_,_,o,e,⟨c,hd⟩,_⟩:=I.hok p _ f;refine⟨⟨o,e,c⟩,λa g=>?_⟩;cases g;show⟨o,e,hd⟩
  ·refine⟨⟨o,I.kIn p o f,w⟩,λa e=>?_⟩;cases e;show⟨o,I.kIn _ o f,hd⟩
  ·have z:∃o,s.heap.get? p=Z o/\o.ExactDict:=by
    rcases f with⟨u,f⟩|⟨u,f⟩
    ·let⟨_,_,_,_,o,_,_,e,ex,_⟩:=I.hok p _ f;show⟨o,e,ex⟩
    ·let⟨_,_,_,_,o,_,_,e,ex,_⟩:=I.hok p _ f;show⟨o,e,ex⟩
   let⟨o,e,ex⟩:=z;refine⟨⟨o,e,ex.1⟩,λa g=>?_⟩;cases g;show⟨o,e,ex.2.1⟩
  ·let⟨o,_,_,_,e,ex,_⟩:=I.hok p _ f;refine⟨⟨o,e,ex.1⟩,λa g=>?_⟩;cases g;show⟨o,e,ex.2.1⟩
 |_=>show Ñ j
noncomputable def yD(K:Â)(T:String)(r:V->Y V->Hp->VK->Prop)(to:TE)(t:TA):TE:=λe H Q=>to e H λx c=>wI K T x c/\t e c λxs f=>r x xs f Q
variable{o e:Ã}{es:Y Ã}{to:TE}{t:TA}{name:Str}{g B:Ö}{T id:String}{r:V->Y V->Hp->VK->Prop}
def jA(U:PlainAttrs T)(slot:Slot T name id)(f:typeOf (.builtin id)=pure (.type "method_descriptor"))(P:AB X id r)(R:PE X o to)(O:PA X (e::es) t)
  (J:Ë o name X.env (eval o X.env)=eval o X.env:=by rfl)
  (F:((backTo B (starEach (e::es) X.env)).all (λx=>!x.1)&&(Þ B (Ô [] X.env)).all (λx=>x.1.isSome)
   && decide ((e::es).length+([]:Y Ù).length+(if ([]:Y Ù).isEmpty then 0 else 1)<30))=ř:=by rfl)
  (K:(g.endLine==B.line)=ř:=by rfl) (b_:starEach (e::es) X.env=(Ś,eval e X.env)::starEach es X.env:=by rfl) (L:(backTo B (starEach es X.env)).any (·.1)=Ś:=by rfl) :
  PE X (.Call (.Attribute o name g) (e::es) [] B) (yD X.K T r to t):=by
 intro c s j H Q I h;refine wpAny_Call_method_late J F K S (aF (R c s j H _ I h) λv s1 A=>?_);let⟨x,w,l,u,ty,a_⟩:=A;let⟨M,N⟩:=yC l u ty;refine⟨T,id,U,slot,f,M,N,?_⟩;have p:=O B c s1 j w _ l a_;rw[b_]at p ⊢;refine Calls.callWith_builtin (by change (Ś ||(backTo B (starEach es X.env)).any (·.1))=Ś;rw[L]<;>rfl) (Calls.evalArgs_plain ?_)
 show aF p λus s2 G=>by let⟨vs,y,z,r2,be⟩:=G;show P c s2 j y x vs v us Q z u r2 be
end
noncomputable def mU(X:Cx)(id:String)(r:V->Y V->Hp->VK->Prop):Prop:=
 ∀(a:Y (Addr×Õ))(s:À)(c:St)(H:Hp)(x:V)(xs:Y V)(v:Value)(us:Y Value)(Q:VK),Inv X a c H s->RelV x v->Vals xs us->r x xs H Q->
  wpAny (Ä X.prog X.w) X.A (call (.builtin id) (v::us)) (EP X a c Q) X.xe s
def Vals.one:∀{x:V}{us:Y Value},Vals [x] us->∃u,us=[u]/\RelV x u
 |_,_,.cons r .nil=>⟨_,S,r⟩
theorem Vals.eraseIdx:∀{xs:Y V}{us:Y Value}(i:Nat),Vals xs us->Vals (xs.eraseIdx i) (us.eraseIdx i)
 |_,_,_,.nil=>.nil
 |_,_,0,.cons _ t=>t
 |_,_,i+1,.cons r t=>.cons r (Vals.eraseIdx i t)
theorem Vals.rep{xs:Y V}{us:Y Value}(h:Vals xs us):∀k:Nat,Vals (List.replicate k xs).flatten (List.replicate k us).flatten
 |0=>.nil
 |k+1=>by rw[Kl,Kl,Kb,Kb];show Vals.append h (Vals.rep h k)
theorem pF{a:Type}:∀(l:Y a)(i:Nat),(l.eraseIdx i).length<=l.length
 | [],_=>Jx _
 |_::_,0=>Nat.le_succ _
 |_::r,i+1=>Nat.succ_le_succ (pF r i)
theorem qz(its:Y Value):∀(k:Nat)(a:Y Value),
  List.foldl (λf g=>f++g) a.toArray (List.replicate k its.toArray)=(a++(List.replicate k its).flatten).toArray
 |0,a=>by simp
 |k+1,a=>by
  have e:a.toArray++its.toArray=(a++its).toArray:=by simp
  have c:(a++its)++(List.replicate k its).flatten=a++(List.replicate (k+1) its).flatten:=by rw[Kl,Kb,JM]
  rw[←c,←qz its k (a++its),←e,Kl,List.foldl_cons]
section
variable{X:Cx}{a:Y (Addr×Õ)}{c:St}{H:Hp}{s:À}{l:Addr}{xs ys:Y V}
def Inv.lset{its Oc:Y Value}{n:Nat}{f:Array Value->Array Value}{t':Nat}(I:Inv X a c H s)(g:H l=Z (.lst xs))
  (e:s.heap.get? l=Z { cls:=.type "list",data:=.seq its.toArray n }) (j:f its.toArray=Oc.toArray) (p:Vals ys Oc) (r:ys.length<=sizeLine) :
  Inv X a c (ap H l (.lst ys)) { s with heap:=s.heap.update l (õ f),toks:=t' }:=by
 have q:=PySem.IsL.update e f;rw[j]at q;refine I.write (x:=l) (e:=l) (by rw[g];show trivial) (.inl S) (λv u h o=>(Heap.get?_update_other s.heap (õ f) (Kz h)).trans o) ⟨_,q⟩ ?_;show⟨r,Oc,_,p,q⟩
def Inv.lnew{its:Y Value}{t':Nat}(I:Inv X a c H s)(e:Vals ys its)(f:ys.length<=sizeLine) :
  Inv X a c (ap H s.heap.objs.size (.lst ys)) { s with heap:=s.heap.push { cls:=.type "list",data:=.seq its.toArray },toks:=t' }:=
 I.laid (λ_ _ q=>Jz _ q) (Jx _) ⟨f,its,0,e,JJ _ S⟩
def Inv.fresh(I:Inv X a c H s):H s.heap.objs.size=ŗ:=I.hok.fresh (Jx _)
def Inv.lstM(I:Inv X a c H s)(f:H l=Z (.lst xs)):xs.length<=sizeLine/\∃(its:Y Value)(n:Nat),Vals xs its/\xs.length=its.length/\s.heap.get? l=Z { cls:=.type "list",data:=.seq its.toArray n }:=by let⟨z,its,n,r,e⟩:=I.hok l _ f;show⟨z,its,n,r,r.length,e⟩
def v6{n:Nat}(h:n<=sizeLine):Builtin.List.listTooLong n=Ś:=by unfold Builtin.List.listTooLong;show JX ()
end
section
variable{X:Cx}
noncomputable def G4:V->Y V->Hp->VK->Prop:=λx vs H Q=>∃l xs y,x=.ref l/\vs=[y]/\H l=Z (.lst xs)/\xs.length<sizeLine/\Q .non (ap H l (.lst (xs++[y])))
def nF:mU X "list.append" G4:=by intro c s w H x vs v us Q I j g h;let⟨l,xs,y,rfl,rfl,a,p,q⟩:=h;cases j;let⟨u,rfl,f⟩:=g.one;let⟨z,its,n,r,o,e⟩:=I.lstM a;refine LH F.slot_list_append ⟨_,e,S⟩ F.entry_list_append (F.args_list_append_2 _ _) (PySem.list_append l its.toArray n u (by rw[JG];omega)) ⟨e,?_⟩;refine⟨.non,_,I.lset (Oc:=its++[u]) a e (by simp) (r.append (.cons f .nil)) ?_,S,q⟩;rw[Jr,J2];omega
noncomputable def uW:V->Y V->Hp->VK->Prop:=λx vs H Q=>∃l b xs a,x=.ref l/\vs=[.ref b]/\H l=Z (.lst xs)/\H b=Z (.lst a)/\xs.length+a.length<=sizeLine/\Q .non (ap H l (.lst (xs++a)))
def Az:mU X "list.extend" uW:=by
 intro f s K H x vs v us Q I A y h;let⟨l,b,xs,J,rfl,rfl,c,o,E,q⟩:=h;cases A;let⟨u,rfl,w⟩:=y.one;cases w;let⟨z,its,n,r,C,e⟩:=I.lstM c;let⟨G,a,n2,p,B,j⟩:=I.lstM o
 have hsz:its.toArray.size+a.toArray.size<=sizeLine:=by rw[JG,JG];omega
 have g:¬ (!its.toArray.isEmpty&&Builtin.List.listTooLong (its.toArray.size+a.toArray.size))=ř:=by rw[v6 hsz,Lr];show J8
 refine LH F.slot_list_extend ⟨_,e,S⟩ F.entry_list_extend (F.args_list_extend_2 _ _)
  (AutoSeq1.list_extend_list_list_0 l its.toArray n b a.toArray n2 g (by rw[JG];omega) ()) ⟨e,j,?_⟩
 refine⟨.non,_,I.lset (Oc:=its++a) c e (by simp) (r.append p) ?_,S,q⟩;rw[Jr];omega
noncomputable def DL:V->Y V->Hp->VK->Prop:=λx vs H Q=>∃l xs i k y,x=.ref l/\vs=[.int i]/\H l=Z (.lst xs)/\-(2^63)<=i/\i<2^63/\ă i xs.length=Z k/\xs[k]?=Z y/\Q y (ap H l (.lst (xs.eraseIdx k)))
def HV:mU X "list.pop" DL:=by
 intro c s J H x vs v us Q I C B h;let⟨l,xs,i,k,y,rfl,rfl,a,g,j,E,p,q⟩:=h;cases C;let⟨u,rfl,A⟩:=B.one;let⟨t,rfl⟩:=A;let⟨z,its,n,r,o,e⟩:=I.lstM a;let⟨w,G,f⟩:=r.get p
 refine LH F.slot_list_pop ⟨_,e,S⟩ F.entry_list_pop (F.args_list_pop_2 _ _)
  (MeetsSeq.list_pop_at l its.toArray n i t k w (fitsIndex_both g j) (by rwa[JG,←o]) (by rwa[←Array.getElem?_toList]) (by rw[JG];omega)) ⟨e,?_⟩
 refine⟨y,_,I.lset (Oc:=its.eraseIdx k) a e ?_ (r.eraseIdx k) ?_,f,q⟩
 ·change its.toArray.eraseIdxIfInBounds k=(its.eraseIdx k).toArray;rw[MG]
 ·have:=pF xs k;omega
noncomputable def HD:R2:=λx y H Q=>∃l b xs a,x=.ref l/\y=.ref b/\H l=Z (.lst xs)/\H b=Z (.lst a)/\xs.length+a.length<=sizeLine/\∀p,H p=ŗ->Q (.ref p) (ap H p (.lst (xs++a)))
def Bn:b9 X (Ï .Add) HD:=by
 intro c s J H x y v u Q I w A h;let⟨l,b,xs,G,rfl,rfl,o,j,E,q⟩:=h;cases w;cases A;let⟨z,its,n,r,C,e⟩:=I.lstM o;let⟨F,a,n2,p,B,f⟩:=I.lstM j;refine PySem.P.add_list e f ?_ (by rw[JG,JG];omega)
 have g:its.toArray++a.toArray=(its++a).toArray:=by simp
 rw[g];show⟨.ref _,_,I.lnew (t':=s.toks) (r.append p) (by rw[Jr];omega),S,q _ I.fresh⟩
noncomputable def yX:R2:=λx y H Q=>∃l k xs,x=.ref l/\y=.int k/\H l=Z (.lst xs)/\-(2^63)<=k/\k<2^63/\xs.length*k.toNat<=sizeLine /\
 ∀p,H p=ŗ->Q (.ref p) (ap H p (.lst (List.replicate k.toNat xs).flatten))
def qv{c:Type}(xs:Y c)(k:Nat):(List.replicate k xs).flatten.length=k*xs.length:=by
 induction k with
 |zero=>simp
 |succ k a=>rw[Kl,Kb,Jr,a,Nat.succ_mul,Nat.add_comm]
def vc:b9 X (Ï .Mult) yX:=by
 intro j s P H x y v u Q I K L h;let⟨l,k,xs,rfl,rfl,G,C,E,N,q⟩:=h;cases K;let⟨t,rfl⟩:=L;let⟨z,its,n,r,J,e⟩:=I.lstM G
 have c:its.toArray.size*k.toNat<=sizeLine:=by rwa[JG,←J]
 have p:¬ its.toArray.size*k.toNat>(2^63-1)/8:=by
  have:(sizeLine:Nat)<=(2^63-1)/8:=by decide
  omega
 have A:¬ (!Builtin.List.listFitsIndex k)=ř:=by rw[fitsIndex_both C E];show J8
 have w:¬ Builtin.List.listTooLong (its.toArray.size*k.toNat)=ř:=by rw[v6 c];show J8
 have o:List.foldl (λf g=>f++g) #[] (List.replicate (if its.toArray.isEmpty=ř then 0 else k.toNat) its.toArray)=(List.replicate k.toNat its).flatten.toArray:=by
  have B:∀m:Nat,List.foldl (λf g=>f++g) #[] (List.replicate m its.toArray)=(List.replicate m its).flatten.toArray:=λm=>by have:=qz its m [];rw[L7]at this;show this
  rw[B]
  cases its with
  |nil=>simp
  |cons a O=>rw[Jv (by simp)]
 refine ĕ (T:="list") (U:="int") 'b' ⟨_,e,S⟩ (λM=>Na M k t) noFill_list_mul F.fills_int_mul MJ repeat_list F.slot_int_index.lookup
  (LH MJ (Na s k t) F.entry_int_rmul (F.args_int_rmul_2 _ _) (int___rmul___int_list k t l its.toArray n)
   ⟨e,S,⟨_,e,S⟩,LH F.slot_list_mul ⟨_,e,S⟩ F.entry_list_mul (F.args_list_mul_2 _ _) (AutoListH.list___mul___list_int_3 l its.toArray n k t A p w) ⟨e,?_⟩⟩)
 rw[o];show⟨.ref _,_,I.lnew (t':=s.toks) (r.rep k.toNat) (by rwa[qv,MK]),S,q _ I.fresh⟩
end
end L2
namespace Att
open PySem PySem.W PySem.Calls PyProof.Rows
def BI{P:ī}{h:Heap}:∀(ns:Y Int)(vs:Y Value),WellAll P h vs (ns.map Ŗ)->Į vs ns:=by
 intro ns
 induction ns with
 |nil=>
  intro vs w;rw[List.map_nil]at w;cases w;show .nil
 |cons n ns c=>
  intro vs w;rw[JV]at w
  cases w with
  |cons a b=>
   cases a;show .cons _ _ (c _ b)
def HL{l:OpenLaw}{n:Nat}(y:l.most=Z n){P:ī}{h:Heap}{args:Y WData}{vals:Y Value}
  (j:l.row.toRowW.claim.pre args=ř) (u:WellAll P h vals args) :
  ∃a vs ns,vals=[Value.ref a]/\args=[WData.list (ns.map Ŗ)]/\h.get? a=Z { cls:=.type "list",data:=.seq vs.toArray }/\Į vs ns/\ns.length<=n:=by
 have g:WShape.hasAll [] args [.list .int]=ř:=(pre_splitW j).1;have o:l.pre.holds [] { args:=args }=ř:=(pre_splitW j).2;let⟨d,r,rfl,v,w⟩:=hasAllW_cons g;obtain rfl:=hasAllW_nil w;let⟨xs,rfl,x⟩:=hasW_list v;let⟨ns,rfl⟩:=items_int x
 have c:ns.length<=n:=by
  unfold OpenLaw.pre at o
  have e:(WTm.not (.lt (.lit (.int (n:Int))) (.len (.arg 0)))).holds [] { args:=[.list (ns.map .int)] }=ř:=by have e:=(holds_andW o).1;rw[y]at e;show e
  have f:=condW_of e (w_not (w_lt w_lit (w_len_list (w_arg S))));rw[Jp]at f;refine Nat.le_of_not_lt λq=>?_
  have A:(n:Int)<((ns.length:Nat):Int):=by omega
  first
   |(rw[Kk A]at f;show absurd f 'b')
   |(simp at f;omega)
 cases u with
 |cons B C=>
  cases C
  cases B with
  |list z p=>show⟨_,_,ns,S,S,z,BI ns _ p,c⟩
def Hl(l:OpenLaw)(args:Y WData):l.row.toRowW.claim.post args (.bool ř) args=ř:=
 postW_of (r:=l.row.toRowW) (X:=(ř==ř))
  (show ŋ [] (.bool ř) .bool=ř by first|rfl|decide|simp[ŋ,WShape.arms,WShape.armsAll])
  (show (WTm.eq .res (.lit (.bool ř))).value [] { args:=args,res:=Z (.bool ř),after:=args }=Z (.bool (ř==ř))from w_eq_bool (w_res S) w_lit) S
def attach_call{l:OpenLaw}{n:Nat}{q:Å}{e:Y Str}{z:(Str->Ř Value)->Heap->Prop}{A:È->Heap->Prop}{d:DefRec}
  (be:l.most=Z n) (K:d.params.defaults=[])
  (call:∀(w:È)(s₀ c:À)(mg x:Str->Ř Value)(j:Addr)(o:Õ)(y u g:Value)(a:Addr)(vs:Y Value)(ns:Y Int),
   Ground q e [] z w s₀ mg x c.heap->A w c.heap->
   c.heap.get? j=Z o->o.data=.func (docDef d.name d.params d.body d.scope y u g)->c.heap.CodeRec u d.name->mg d.name=Z (.ref j)->
   c.heap.get? a=Z { cls:=.type "list",data:=.seq vs.toArray }->Į vs ns->ns.length<=n->c.gens=#[]->
   ì (Ä l.prog w) ý (.call (.ref j) ⟨[.ref a],[]⟩) (λr v=>r=.ok (.ret (.bool ř))/\OldK c.heap v.heap/\v.os=c.os/\ð v.gens) c) :
  WalkO q e z A l.row.toRowW d [] (λf vs=>PySem.call f vs):=by
 intro w s₀ c mg x G a_ j o y u g L kV T hd E B F P args vals as J C X I Q;obtain rfl:L=.none:=Dflts.none B K;obtain rfl:kV=.none:=Dflts.noKw B;let⟨a,vs,ns,rfl,rfl,H,h,p⟩:=HL be J I;refine enter_call (Ng (call w s₀ c mg x j o y u g a vs ns G a_ T (fd_plain hd) E F H h p P) λr v U=>?_);let⟨rfl,M,N,O⟩:=U;show⟨.inl ⟨.bool ř,.bool ř,[],S,λ_=>rfl,.bool ř,Hl l _,λ_=>⟨List.Pairwise.nil,λ_ R=>(nomatch R)⟩⟩,M,N,O⟩
end Att
namespace L2
open PySem PySem.Spec PyProof.Rows
theorem tm:∀{vs:Y Value}{ns:Y Int},Į vs ns->Vals (ns.map V.int) vs
 |_,_,.nil=>.nil
 |_,_,.cons n t h=>.cons ⟨t,S⟩ (tm h)
noncomputable def ra(H:Hp):Prop:=∀b,H b=ŗ\/∃o xs,H b=Z (.frz o (.lst xs))
def CO{P:Å}{w:È}{K:Â}{mg b_:Str->Ř Value}{CX:eg}{k:Nat}{O a:Addr}{X:Í}{x:Str}{sp:Sp}{c:À}{vs:Y Value}{ns:Y Int}
  (T:K.In c.heap) (I:c.heap.Ns Á mg) (g:c.heap.Ns æ b_) (Ui:∀x:Str,x≠"__name__"->b_ x=Û x) (UX:c.heap.NoLimit)
  (Uj:∃f p,mg "__builtins__"=Z (.ref f)/\f≠æ/\c.heap.get? f=Z p/\p.cls=.type "module"/\p.dict=Z æ/\p.data=.plain) (M:c.heap.NoSeer) (Q:∃j,c.heap.Ns cStatics j/\j "sys.int_max_str_digits"=ŗ) (hg:c.gens=#[])
  (C:c.heap.get? a=Z { cls:=.type "list",data:=.seq vs.toArray }) (hi:Į vs ns) (hl:ns.length<=sizeLine) (hr:Room k ý)
  (F:∀base:Heap,K.In base->base.Ns Á mg->FnOk P w K mg base CX k O X [x] sp) (S6:∀(s:À)(u:Value),Ď s X ⟨[u],[]⟩ [(x,u)])
  (Po:∀H:Hp,ra H->SqL K H a (ns.map V.int)->sp [.ref a] H (λv _=>v=.bl ř) λ_ _ _=>False)
  (UY:∀H e l,CX [] H c (λ_ _ _=>False) e l->False) :
  ì (Ä P w) ý (.call (.ref O) ⟨[.ref a],[]⟩) (λr l=>r=.ok (.ret (.bool ř))/\OldK c.heap l.heap/\l.os=c.os/\ð l.gens) c:=by
 have be:=tm hi;have UZ:=hi.length
 have A:∀H:Hp,ra H->SqL K H a (ns.map V.int)->HOk P w H c.heap->(∀b,H b≠ŗ->b=a)->(H a≠ŗ->K.lookup a=ŗ)->
   ì (Ä P w) ý (.call (.ref O) ⟨[.ref a],[]⟩) (λr l=>r=.ok (.ret (.bool ř))/\OldK c.heap l.heap/\l.os=c.os/\ð l.gens) c:=by
  intro H a_ hS hok N hK;have L:∀{b:Addr}{o:Õ},c.heap.get? b=Z o->H b=ŗ->(iA c.heap H).get? b=Z o:=λe n=>IF e n
  have SW:∀{b:Addr}{o:Õ}{es:Array DictEntry}{E:Nat},c.heap.get? b=Z o->o.data=.dict es E->H b=ŗ:=λ{b o es E} e d=>by
   cases q:H b with
   |none=>rfl
   |some u=>
    have B:b=a:=N b (by rw[q];simp);subst B;rw[C]at e;cases e;have d':ù vs.toArray _=Data.dict es E:=d;cases d'
  have y:∀{b:Addr}{m:Str->Ř Value},c.heap.Ns b m->(iA c.heap H).Ns b m:=λ{b m} NT=>by let⟨o,es,E,e,d,r⟩:=NT;show⟨o,es,E,L e (SW e d),d,r⟩
  have G:K.In (iA c.heap H):=λb o e=>L (T b o e) (by
   cases q:H b with
   |none=>rfl
   |some u=>
    have B:b=a:=N b (by rw[q];simp);subst B
    rw[hK (by rw[q];simp)]at e;cases e)
  have hM:Mod K mg (iA c.heap H):=⟨G,y I,⟨b_,y g,Ui⟩,let ⟨j,h1,h2⟩:=UX;⟨j,y h1,h2⟩,let ⟨f,p,b1,b2,b3,b4,b5,b6⟩:=Uj;⟨f,p,b1,b2,L b3 (by
   cases q:H f with
   |none=>rfl
   |some u=>
    have B:f=a:=N f (by rw[q];simp)
    rw[B,C]at b3;cases b3;injection b4 with z;show absurd z 'b'),b4,b5,b6⟩,
   ⟨let ⟨j,h1,h2⟩:=M.statics;⟨j,y h1,h2⟩,let ⟨j,h1,h2⟩:=M.mods;⟨j,y h1,h2⟩,let ⟨j,h1,h2⟩:=M.imp;⟨j,y h1,h2⟩,let ⟨m1,f,p,n1,b1,b3,b4,b5⟩:=M.main;⟨m1,f,p,y n1,b1,L b3 (by
   cases q:H f with
   |none=>rfl
   |some u=>
    have B:f=a:=N f (by rw[q];simp)
    rw[B,C]at b3;cases b3;injection b4 with z;show absurd z 'b'),b4,b5⟩⟩,let ⟨j,h1,h2⟩:=Q;⟨j,y h1,h2⟩⟩
  have e0:Env0 P w K mg (iA c.heap H) ý [] c H:=⟨S,hM,λb o e=>DU e,Nf (zU _ _),trivial,λb g=>absurd (show b∈([]:Y Addr)from g) (by simp),hok,.of_eq hg⟩;refine Ng ((F _ G (y I)).run ý [] c H ⟨[.ref a],[]⟩ [.ref a] [.ref a] _ _ hr e0 (S6 c (.ref a)) (.cons S .nil) (Po H a_ hS)) λr l h=>?_
  cases r with
  |error e=>show (UY H e l h).elim
  |ok fl=>
   cases fl with
   |next=>show Ñ h
   |brk=>show Ñ h
   |cont=>show Ñ h
   |ret u=>
    let⟨v,H',os,bare,un,U0,r',q⟩:=h;have q':v=.bl ř:=q;subst q';obtain rfl:u=Value.bool ř:=r';refine⟨S,OldK.of_keep λb o e=>?_,os,bare⟩
    cases q:H b with
    |none=>show un.keep b o e q (by intro z;show absurd (show b∈([]:Y Addr)from z) (by simp)) (by simp)
    |some u=>
     rcases a_ b with z|⟨p,xs,z⟩
     ·rw[q]at z;cases z
     ·have z2:=un.frzs b p _ z;let⟨U,_⟩:=hok b _ z;let⟨e2,_⟩:=U0 b _ z2;rw[e]at U;cases U;show e2
 cases R:K.lookup a with
 |some o=>
  have e:=T a o R;rw[C]at e;cases e;refine A (λ_=>ŗ) (λ_=>.inl S) (.inr ⟨_,vs.toArray,_,R,S,S,S,by rwa[JG,UZ],by simpa using be⟩) (λb u z=>by have J:(ŗ:Ř HO)=Z u:=z;cases J) (λb z=>absurd S z) λz=>absurd S z
 |none=>
  refine A (λb=>if b=a then Z (.frz { cls:=.type "list",data:=.seq vs.toArray } (.lst (ns.map V.int))) else ŗ) (λb=>?_) (.inl (.inr ⟨{ cls:=.type "list",data:=.seq vs.toArray },JC S⟩)) (λb u z=>?_) (λb z=>?_) λ_=>R
  ·by_cases g:b=a
   ·show .inr ⟨_,_,JC g⟩
   ·show .inl (Jv g)
  ·by_cases g:b=a
   ·have J:=(JC g).symm.trans z;cases J;subst g;show⟨C,by rwa[Jp],vs,_,be,C⟩
   ·have J:=(Jv g).symm.trans z;cases J
  ·by_cases g:b=a
   ·show g
   ·show absurd (Jv g) z
def walk_of{l:PySem.W.OpenLaw}{n k:Nat}{q:Å}{j:Y Str}{N:(Str->Ř Value)->Heap->Prop}{B:È->Heap->Prop}{d:DefRec}{K:ī->Â}{CX:È->eg}{sp:È->Sp}{x:Str}
  (X:l.most=Z n) (M:n<=sizeLine) (J:d.params.defaults=[]) (hi:importsNone q=ř) (be:Room k ý)
  (b_:∀(w:È)(h:Heap),B w h->(K w.params).In h)
  (F:∀(w:È)(mg:Str->Ř Value)(r:Addr)(h:Heap),(K w.params).In h->h.Ns Á mg->mg d.name=Z (.ref r)->
   ∃y:Í,(∀(s:À)(u:Value),Ď s y ⟨[u],[]⟩ [(x,u)]) /\
    ∀base:Heap,(K w.params).In base->base.Ns Á mg->FnOk l.prog w (K w.params) mg base (CX w) k r y [x] (sp w))
  (C:∀(w:È)(H:Hp)(a:Addr)(ns:Y Int),ns.length<=n->ra H->SqL (K w.params) H a (ns.map V.int)->sp w [.ref a] H (λv _=>v=.bl ř) λ_ _ _=>False)
  (L:∀(w:È)(H:Hp)(s:À)(e:Value)(z:À),CX w [] H s (λ_ _ _=>False) e z->False) :
  PySem.W.WalkO q j N B l.row.toRowW d [] (λf vs=>PySem.call f vs):=by
 refine Att.attach_call X J λw s₀ p mg mb r o pm cd O a vs ns G a_ ho hd N4 E I g c U=>?_;have A:=b_ w _ a_;let⟨y,T,P⟩:=F w mg r _ A G.T.g E;show CO A G.T.g G.T.b G.T.builtins G.T.nolimit G.T.bmain (G.T.seer hi) G.T.nodigits U I g (JR c M) be P T (λH Q R=>C w H a ns c Q R) λH e z=>L w H p e z
end L2
/- THE LAST Uk (shape; LID, My.* are yours):
   My.Adr: a structure of Ul addresses that your layer names (classes, SA); My.Txt K t: a structure (Prop) of Ul equations over K;
   My.txt_mk : {K} {implicit addresses ..} (e1 : nsIn K mainGlobals "law" = some (some (.ref f))) (e2 : K.lookup f = some ⟨oc, od, .func (fnOf "law" "law" params body scope dV kV doc pm an NZ ct), sl⟩) (e3 : codeIn K NZ "law" = true) .. : ∃t, My.Txt K t
set_option maxRecDepth 100000 in
set_option maxHeartbeats 0 in
theorem PySem.Challenge.cw_LID_holds : PySem.Challenge.rw_LID.Holds := by
 w_on;o_law;k_head;(case hw=>w_witness2)
 k_fill
 refine L2.walk_of (l:=PySem.Challenge.rw_LID) (n:=63) (k:=40) (x:="script") (CX:=λw=>..) (sp:=λ_=>My.sp_law) S 'b' S ⟨S,'b','b'⟩ (λw h Q=>kIn_of Q) ?F ?U ?C
 case F=>
  intro w mg fa h KX G R3
  have T:∃t,My.Txt (L2.KOf KX) t:=by
   dsimp only[L2.KOf]                          -- K must stand as «<heap const> w.params» for k_is;refine' My.txt_mk ?e1 ?e2 ?e3 ..
   (case e1=>PySem.W.k_is)                    -- in Ul order: a name-> its address-> its object-> its parts
   (case e2=>PySem.W.k_is)
   ..
  let⟨t,T⟩:=T;have e0:=R3.symm.trans (mg_of KX G T.law);cases e0                                       -- fa is Ul law's own address
  show⟨_,λs u=>.of_eq S,λbase kb nb=>My.law_fn T kb nb⟩     -- if «.of_eq S» comes too early: refine' ⟨_,?b,λbase kb nb=>My.law_fn T kb nb⟩;show λs u=>.of_eq S
 case U=>show λw H a ns hl hO hS=>..
 case C=>show ..
(Ul tactic k_is has no namespace: write k_is) -/
namespace L2
open PySem PySem.Spec PyProof.Rows
noncomputable def fM(s:Ç)(j:Nat):Ç:=match s with
 |.ClassDef _ _ _ a _ _ _ _ _ _ _=>a.getD j (.Pass ⟨0,0,0,0⟩)
 |_=>.Pass ⟨0,0,0,0⟩
noncomputable def iO(s:Ç):Arguments:=match s with
 |.FunctionDef _ a _ _ _ _ _ _ _ _=>a
 |_=>{ posonlyargs:=[],args:=[],vararg:=ŗ,kwonlyargs:=[],kw_defaults:=[],kwarg:=ŗ,defaults:=[] }
noncomputable def gv(s:Ç):Y Ç:=match s with
 |.FunctionDef _ _ b _ _ _ _ _ _ _=>b
 |_=>[]
noncomputable def au(s:Ç):â:=match s with
 |.FunctionDef _ _ _ _ _ _ a _ _ _=>a
 |_=>{ kind:=.function,names:=[],isGenerator:=Ś,isCoroutine:=Ś }
noncomputable abbrev aG:eg:=λ_ _ _ _ _ _=>False
abbrev E0:XK:=λ_ _ _=>False
def js{X:Cx}:jd aG X E0:=λ_ _ _ _ _ _ _ h=>h.elim
structure Fun(K:Â)(x qual:Str)(st:Ç)(f:Addr)(fd:Í):Prop where
 ex:∃(oc:Value)(od:Option Addr)(kV doc pm:Value)(an:Option Addr)(NZ ct:Value)(QL:Array (Option Value)),
  fd=ę x qual (iO st) (gv st) (au st) .none kV doc pm an NZ ct/\K.lookup f=Z ⟨oc,od,.func fd,QL⟩/\ą K NZ qual=ř
 kp:ã K (.ref f)=ř
section
variable{P:Å}{w:È}{K:Â}{mg:Str->Ř Value}{base:Heap}
def Fun.ok{x qual:Str}{st:Ç}{f:Addr}{c:Í}{N ps:Y Str}{k:Nat}{sp:Sp}(F:Fun K x qual st f c)(U:FnScope N ps (au st))(len:∀vs H Q E,sp vs H Q E->vs.length=ps.length)
  (j:∀(a:Value)(A:Ê)(outer:Y ë)(s:À)(H:Hp)(vs:Y V)(Q:VK)(E:XK),Room k (A.deeper (ê qual (au st) s.heap.objs.size f a))->sp vs H Q E->
   ∃t,PSs (iu aG P w K mg base N qual (au st) f a A outer s H E).nox (gv st) t/\t { nx:=λ_ e=>Q .non e,rt:=Q } (eP N vs) H):FnOk P w K mg base aG (k+1) f c ps sp:=by
 let⟨v,y,kV,o,z,u,a,ct,r,rfl,lk,g⟩:=F.ex;refine vt lk g U len λA outer s H vs Q E p l=>?_;let⟨t,h,q⟩:=j a A outer s H vs Q E p l;show⟨t,h.nox,q⟩
def Fun.binds{x qual:Str}{st:Ç}{f:Addr}{j:Í}{ps:Y Str}(F:Fun K x qual st f j)
  (h:∀(kV a g:Value)(e:Ř Addr)(c ct:Value)(us:Y Value),us.length=ps.length->bindArgs (ę x qual (iO st) (gv st) (au st) .none kV a g e c ct) ⟨us,[]⟩=pure (ps.zip us)):Binds K j ps []:=by
 let⟨p,r,kV,a,g,e,c,ct,o,rfl,lk,l⟩:=F.ex;show .all (h kV a g e c ct)
def wH{x qual:Str}{st:Ç}{f:Addr}{o:Value}{p g:Ř Addr}{j:Array (Ř Value)}{kV a h e ct:Value}(l:K.lookup f=Z ⟨o,p,.func (ę x qual (iO st) (gv st) (au st) .none kV a h g e ct),j⟩)
  (c:ą K e qual=ř) (k:ã K (.ref f)=ř):Fun K x qual st f (ę x qual (iO st) (gv st) (au st) .none kV a h g e ct):=⟨⟨o,p,kV,a,h,g,e,ct,j,S,l,c⟩,k⟩
end
def bi{n:Nat}(h:n<=1000):n<sizeLine:=K6 h 'b'
section
variable{X:Cx}
def pv(i:Nat){x:Str}{a:Ö}(e:X.N[i]?=Z x:=by rfl)(f:cL X.env.scope x:=by nofun)(hd:ab x:=by decide)
  (c:fI x:=by decide):PE X (.Name x a) (kt i):=zZ e f hd c
end
def j9{A B:Prop}(h:B):if Ś=ř then A else B:=by rwa[Jv J8]
def jC{A B:Prop}(h:A):if ř=ř then A else B:=by rwa[JC S]
noncomputable def Same(H a:Hp):Prop:=∀b o,H b=Z o->a b=Z o
def Same.refl(H:Hp):Same H H:=λ_ _ h=>h
def Same.trans{H e f:Hp}(a:Same H e)(b:Same e f):Same H f:=λc o h=>b c o (a c o h)
def Same.free{H a:Hp}(e:Same H a){l:Addr}(h:a l=Ń):H l=Ń:=by
 cases q:H l with
 |none=>rfl
 |some o=>
  rw[e l o q]at h;cases h
def Same.seq{K:Â}{H c:Hp}{a:Addr}{xs:Y V}(e:Same H c)(h:SqL K H a xs):SqL K c a xs:=by
 rcases h with (h|⟨o,h⟩)|h
 ·show .inl (.inl (e _ _ h))
 ·show .inl (.inr ⟨o,e _ _ h⟩)
 ·show .inr h
section
variable{a:Type}[DecidableEq a]
noncomputable def fE(c:Y (a×V))(k:a):Ř V:=(c.find? λe=>decide (e.1=k)).map (·.2)
noncomputable def fY(e:Y (a×V))(k:a)(v:V):Y (a×V):=
 if (e.any λc=>decide (c.1=k))=ř then e.map (λc=>if c.1=k then (c.1,v) else c) else e++[(k,v)]
def mt{p:a×V}{r:Y (a×V)}{k:a}(e:p.1=k):fE (p::r) k=Z p.2:=by simp[fE,Li,e]
def oG{p:a×V}{r:Y (a×V)}{k:a}(e:¬ p.1=k):fE (p::r) k=fE r k:=by simp[fE,Li,e]
theorem wv(k:a):∀c:Y (a×V),(c.any λf=>decide (f.1=k))=(fE c k).isSome
 | []=>rfl
 |p::r=>by
  rw[LA];by_cases e:p.1=k
  ·simp only[mt e,Kk e,Bool.true_or,Ė]
  ·rw[oG e,JX e,Bool.false_or];show wv k r
def ui(c:Y (a×V))(k:a)(v:V):(fY c k v).length<=c.length+1:=by
 unfold fY;split
 ·rw[Jp];omega
 ·rw[Jr,JH,K5];omega
def RelO.isSome_eq{o:Ř V}{u:Ř Value}(r:RelO o u):o.isSome=u.isSome:=by
 cases o with
 |none=>cases u with
  |none=>rfl
  |some _=>show (show False from r).elim
 |some _=>cases u with
  |none=>show (show False from r).elim
  |some _=>rfl
def KV.val{g:Y (a×V)}{vs:Y (a×Value)}(r:KV g vs)(k:a):RelO (fE g k) (ü vs k):=by
 unfold KV at r
 induction r with
 |nil=>show Ü
 | @cons p q ps f h t o=>
  let⟨j,l⟩:=h;by_cases e:p.1=k
  ·have c:q.1=k:=j.symm.trans e
   have b:ü (q::f) k=Z q.2:=by simp[ü,Li,c]
   rwa[mt e,b]
  ·have c:¬ q.1=k:=λz=>e (j.trans z)
   have b:ü (q::f) k=ü f k:=by simp[ü,Li,c]
   rwa[oG e,b]
theorem KV.any{e:Y (a×V)}{vs:Y (a×Value)}(r:KV e vs)(k:a):(e.any λc=>decide (c.1=k))=vs.any λc=>decide (c.1=k):=by
 unfold KV at r
 induction r with
 |nil=>rfl
 |cons h t f=>rw[LA,LA,f,h.1]
def KV.repl{g:Y (a×V)}{vs:Y (a×Value)}(r:KV g vs)(k:a){y:V}{u:Value}(o:RelV y u) :
  KV (g.map λc=>if c.1=k then (c.1,y) else c) (vs.map λc=>if c.1=k then (c.1,u) else c):=by
 unfold KV at r ⊢
 induction r with
 |nil=>show .nil
 | @cons p q ps v h t l=>
  rw[JV,JV];refine .cons ?_ l;let⟨f,j⟩:=h;by_cases e:p.1=k
  ·rw[JC e,JC (f.symm.trans e)];show⟨f,o⟩
  ·rw[Jv e,Jv (λz=>e (f.trans z))];show⟨f,j⟩
def KV.put{c:Y (a×V)}{vs:Y (a×Value)}(r:KV c vs)(k:a){y:V}{u:Value}(f:RelV y u):KV (fY c k y) (stored vs k u):=by
 unfold fY stored;rw[r.any k];by_cases e:(vs.any λg=>decide (g.1=k))=ř
 ·rw[JC e,JC e];show r.repl k f
 ·rw[Jv e,Jv e];show Č r ⟨S,f⟩
def KV.length{c:Y (a×V)}{vs:Y (a×Value)}(r:KV c vs):c.length=vs.length:=Mw r
end
def oS{P:Å}{w:È}{k:az}{u:Value}(r:RelV (kV k) u):(fB P w).is k u=ř:=by
 cases k with
 |inl i=>let⟨t,e⟩:=(show ∃t,u=Value.int i t from r);subst e;show Gu P w i t
 |inr x=>let⟨t,e⟩:=(show ∃t,u=Value.str x t from r);subst e;show AT P w x t
theorem tD{P:Å}{w:È}:∀{a:Y az}{us:Y Value},Vals (a.map kV) us->ItemsAre (fB P w) a us
 | [],_,r=>by rw[List.map_nil]at r;cases r;show .nil
 |k::a,_,r=>by
  rw[JV]at r
  cases r with
  |cons h t=>show .cons (oS h) (tD t)
noncomputable abbrev KT(H:Hp):Y (Y az×V)->Y (Y az×Addr×Value)->Prop:=Paired λp q=>p.1=q.1/\H q.2.1=Z (.tup (p.1.map kV))/\RelV p.2 q.2.2
def KT.val{H:Hp}{f:Y (Y az×V)}{xs:Y (Y az×Addr×Value)}(r:KT H f xs)(k:Y az):RelO (fE f k) ((ē xs k).map (·.2)):=by
 induction r with
 |nil=>show Ü
 | @cons p q ps c h t l=>
  let⟨g,_,j⟩:=h;by_cases e:p.1=k
  ·have a:q.1=k:=g.symm.trans e
   have b:ē (q::c) k=Z q.2:=by simp[ē,Li,a]
   rwa[mt e,b]
  ·have a:¬ q.1=k:=λz=>e (g.trans z)
   have b:ē (q::c) k=ē c k:=by simp[ē,Li,a]
   rwa[oG e,b]
def KT.repl{H:Hp}{f:Y (Y az×V)}{xs:Y (Y az×Addr×Value)}(r:KT H f xs)(k:Y az){y:V}{u:Value}(o:RelV y u) :
  KT H (f.map λc=>if c.1=k then (c.1,y) else c) (xs.map (putAt k u)):=by
 induction r with
 |nil=>show .nil
 | @cons p q ps v h t l=>
  rw[JV,JV];refine .cons ?_ l;let⟨a,g,j⟩:=h;unfold putAt;by_cases e:p.1=k
  ·rw[JC e,JC (a.symm.trans e)];show⟨a,g,o⟩
  ·rw[Jv e,Jv (λz=>e (a.trans z))];show⟨a,g,j⟩
def KT.put{H:Hp}{a:Y (Y az×V)}{xs:Y (Y az×Addr×Value)}(r:KT H a xs)(k:Y az){b:Addr}{y:V}{u:Value}(f:H b=Z (.tup (k.map kV)))(c:RelV y u) :
  KT H (fY a k y) (storedH xs k b u):=by
 have e:(a.any λg=>decide (g.1=k))=(ē xs k).isSome:=by rw[wv,(r.val k).isSome_eq,ě]
 unfold fY storedH;rw[e];by_cases q:(ē xs k).isSome=ř
 ·rw[JC q,JC q];show r.repl k c
 ·rw[Jv q,Jv q];show Č r ⟨S,f,c⟩
def KT.keeps{H a:Hp}{c:Y (Y az×V)}{xs:Y (Y az×Addr×Value)}(r:KT H c xs)(e:∀b ys,H b=Z (.tup ys)->a b=Z (.tup ys)):KT a c xs:=
 Paired.mapP r λ_ _ z=>⟨z.1,e _ _ z.2.1,z.2.2⟩
section
variable{P:Å}{w:È}{H:Hp}{h:Heap}{a:Addr}
def wG{u:HO}(ok:HOk P w H h)(e:Rd H a u):ObjOk P w H h a u:=e.ok ok
def mf{c:Y (az×V)}(ok:HOk P w H h)(e:Rd H a (.dK c)):c.length<=sizeLine/\(a==Ú)=Ś/\∃vs,KV c vs/\h.DictOf (fB P w) a vs:=
 show ObjOk P w H h a (.dK c)from wG ok e
def Aj{c:Y (az×V)}(ok:HOk P w H h)(e:H a=Z (.dK c)):c.length<=sizeLine/\(a==Ú)=Ś/\∃vs,KV c vs/\h.DictOf (fB P w) a vs:=mf ok (.inl e)
def mE{c:Y az}(ok:HOk P w H h)(e:H a=Z (.tup (c.map kV))):(Ă (fB P w)).is h c a:=by let⟨_,its,r,o,f,⟨g,_⟩,n,j⟩:=(show ObjOk P w H h a (.tup (c.map kV))from ok a _ e);show⟨o,its.toArray,n,f,g,j,by simpa using tD r⟩
def nD{f:Y (Y az×V)}(ok:HOk P w H h)(e:Rd H a (.dT f)):f.length<=sizeLine/\(a==Ú)=Ś /\
  ∃xs,KT H f xs/\h.DictOfH (Ă (fB P w)) a xs:=by
 let⟨z,y,xs,r,o,es,j,u,v,A,B,C⟩:=(show ObjOk P w H h a (.dT f)from wG ok e);refine⟨z,y,xs,r,o,es,j,u,v,A,B,λx c=>?_,C⟩
 have all:∀{l:Y (Y az×V)}{m:Y (Y az×Addr×Value)},KT H l m->∀x∈m,(Ă (fB P w)).is h x.1 x.2.1:=by
  intro l m q
  induction q with
  |nil=>intro x c;show nomatch c
  | @cons p q ps F g t E=>
   intro x c;rcases JI.mp c with e|c
   ·subst e;show mE ok (by rw[←g.1];show g.2.1)
   ·show E x c
 show all r x c
def BM{c:Y (Y az×V)}(ok:HOk P w H h)(e:H a=Z (.dT c)):c.length<=sizeLine/\(a==Ú)=Ś /\
  ∃xs,KT H c xs/\h.DictOfH (Ă (fB P w)) a xs:=nD ok (.inl e)
end
noncomputable def DGet(H:Hp)(a:Addr)(y:V)(r:Ř V):Prop:=
 (∃c k,Rd H a (.dK c)/\y=kV k/\r=fE c k)\/∃c k b,Rd H a (.dT c)/\y=.ref b/\H b=Z (.tup (k.map kV))/\r=fE c k
noncomputable def DPut(H:Hp)(a:Addr)(y v:V)(e:Hp):Prop:=
 (∃c k,H a=Z (.dK c)/\y=kV k/\c.length<sizeLine/\e=ap H a (.dK (fY c k v))) \/
 ∃c k b,H a=Z (.dT c)/\y=.ref b/\H b=Z (.tup (k.map kV))/\c.length<sizeLine/\e=ap H a (.dT (fY c k v))
def DGet.t{H:Hp}{a b:Addr}{c:Y (Y az×V)}{k:Y az}(e:H a=Z (.dT c))(f:H b=Z (.tup (k.map kV))):DGet H a (.ref b) (fE c k):=.inr ⟨c,k,b,.inl e,S,f,S⟩
def DPut.t{H:Hp}{a b:Addr}{c:Y (Y az×V)}{k:Y az}{v:V}(e:H a=Z (.dT c))(f:H b=Z (.tup (k.map kV)))(g:c.length<sizeLine) :
  DPut H a (.ref b) v (ap H a (.dT (fY c k v))):=.inr ⟨c,k,b,e,S,f,g,S⟩
section
variable{X:Cx}{f:Y (Addr×Õ)}{j:St}{H:Hp}{s:À}{a:Addr}{y v:V}{u r:Value}{o:Ř V}{A:Ê}{E:Value->À->Prop}
def Inv.big(I:Inv X f j H s):Ú<s.heap.objs.size:=by have h:Á<s.heap.objs.size:=(I.mod.glob.keeps I.bk).lt;show ML 'b' h
def yI{Q:Value->À->Prop}(O:A.units+1<å)(I:Inv X f j H s)(g:DGet H a y (Z v))(G:RelV y u)(h:∀w J,Inv X f j H J->RelV v w->Q w J) :
  wpAny (Ä X.prog X.w) A (ä (.ref a) u) Q E s:=by
 rcases g with⟨K,k,e,C,l⟩|⟨K,k,b,e,C,M,l⟩
 ·subst C;let⟨z,hd,vs,c,B⟩:=mf I.hok e;let⟨w,F,x⟩:=RelO.some_of (v:=v) (o:=ü vs k) (by rw[l];show c.val k);show wpAny_getItem_of (oS G) B.mapOf F (h w _ (I.tok _) x)
 ·subst C;cases (show u=Value.ref b from G);let⟨z,hd,xs,c,B⟩:=nD I.hok e;let⟨w,F,x⟩:=RelO.some_of (v:=v) (o:=(ē xs k).map (·.2)) (by rw[l];show c.val k);let⟨p,N,L⟩:=Mv.mp F;refine wpAny_getItem_heap (MY O) (mE I.hok M) B N ?_;rw[L];show h w _ (I.tok _) x
def yy{Q:Value->À->Prop}(G:A.units+1<å)(I:Inv X f j H s)(g:DGet H a y o)(x:RelV y u)(h:∀B,Inv X f j H B->Q (.bool o.isSome) B) :
  wpAny (Ä X.prog X.w) A (É .In u (.ref a)) Q E s:=by
 rcases g with⟨C,k,e,w,l⟩|⟨C,k,b,e,w,F,l⟩
 ·subst w;let⟨z,hd,vs,c,p⟩:=mf I.hok e;refine wpAny_in_of (oS x) hd p.mapOf ?_;rw[←(c.val k).isSome_eq,←l];show h _ (I.tok _)
 ·subst w;cases (show u=Value.ref b from x);let⟨z,hd,xs,c,p⟩:=nD I.hok e;refine wpAny_in_heap (MY G) (mE I.hok F) hd p ?_;have q:=(c.val k).isSome_eq;rw[ě]at q;rw[←q,←l];show h _ (I.tok _)
def xf{h':Heap}{t':Nat}{c:HO}(I:Inv X f j H s)(mu:kL (H a))(l:Heap.SameBut a s.heap h')(h:∃q,h'.get? a=Z q)(new:ObjOk X.prog X.w (ap H a c) h' a c) :
  Inv X f j (ap H a c) { s with heap:=h',toks:=t' }:=
 I.write (x:=a) (e:=a) mu (.inl S) (λb q g z=>(l.2 b g).trans z) h new
def Cb{P:Å}{w:È}{g:Hp}{h':Heap}{c:Y (az×V)}{vs:Y (az×Value)}(z:c.length<=sizeLine)(hd:(a==Ú)=Ś)(e:KV c vs)(h:h'.DictOf (fB P w) a vs) :
  ObjOk P w g h' a (.dK c):=⟨z,hd,vs,e,h⟩
def xS{M:Hp}{Q:Unit->À->Prop}(hu:A.units+1<å)(I:Inv X f j H s)(g:DPut H a y v M)(P:RelV y u)(O:RelV v r)(h:∀R,Inv X f j M R->Q Unit.unit R) :
  wpAny (Ä X.prog X.w) A (setItem (.ref a) u r) Q E s:=by
 rcases g with⟨w,k,e,G,l,F⟩|⟨w,k,b,e,G,N,l,F⟩
 ·subst G F;let⟨z,hd,vs,p,C⟩:=Aj I.hok e
  have L:vs.length<=sizeLine:=by rwa[←p.length]
  have J:(fY w k v).length<=sizeLine:=by have:=ui w k v;omega
  refine wpAny_setItem_pairs (hsz:=L) (oS P) C λh' x K=>h _ ?_
  have he:∃q,h'.get? a=Z q:=let ⟨q,_,_,B,_⟩:=x;⟨q,B⟩
  show xf I (by rw[e];show Ü) K he (Cb J hd (p.put k O) x)
 ·subst G F;cases (show u=Value.ref b from P);let⟨z,hd,xs,p,C⟩:=BM I.hok e
  have L:xs.length<=sizeLine:=by rwa[←Mw p]
  have J:(fY w k v).length<=sizeLine:=by have:=ui w k v;omega
  refine wpAny_setItem_heap (hsz:=L) (MY hu) (mE I.hok N) C λh' x K=>h _ ?_;let⟨q,es,T,B,U,a_,be,_,h5⟩:=x;refine xf I (by rw[e];show Ü) K ⟨q,B⟩ ⟨J,hd,_,(p.put k N O).keeps λc ys b_=>?_,q,es,T,B,U,a_,be,h5⟩;rwa[aY (HJ b_ e (λz=>nomatch z))]
end
noncomputable def qP(i:Ã):Prop:=∀c a,Ć i Ś c a=operate [c,a] (ä c a)
def D1{prog:Å}{w:È}{A:Ê}{E:Value->À->Prop}{s:À}{env:ë}{c a:Ã}{v:Ö}{T id:String}{Q:Value->À->Prop}
  (z:typeLookup (.type T) "__getitem__"=pure (Z (.builtin id))) (B:qP a)
  (h:wpAny (Ä prog w) A (eval c env) (λo g=>wpAny (Ä prog w) A (eval a env) (λi e=>e.TypeIs o T/\wpAny (Ä prog w) A (ä o i) Q E e) E g) E s) :
  wpAny (Ä prog w) A (eval (.Subscript c a v) env) Q E s:=by
 refine Subscript_ (Ld h (λo g p=>Ld p (λi e f=>?_) λ_ _ x=>x) λ_ _ x=>x);let⟨y,f⟩:=f;unfold Ě;refine Jt ?_;rw[getitemInPython_of_ne y.not_modules];refine Jt (Œ y z ?_)
 have l:wpAny (Ä prog w) A (Ć a Ś o i) (λr j=>wpAny (Ä prog w) A (letTemporaryGo c o r >>= λ_=>pure r) Q E j) E e:=by rw[B o i];show wpAny_operating (Ld f (λr j u=>Jt (wpAny_letTemporaryGo (JK u))) λ_ _ x=>x)
 first
  |show JK (Jt l)
  |show Jt (JK (Jt l))
  |show Jt l
def Iv{X:Cx}{c:Y (Addr×Õ)}{j:St}{H:Hp}{s:À}{a:Addr}{y:V}{o:Ř V}(I:Inv X c j H s)(g:DGet H a y o):s.TypeIs (.ref a) "dict":=by
 rcases g with⟨h,k,e,_,_⟩|⟨h,k,b,e,_,_,_⟩
 ·let⟨_,_,vs,_,f⟩:=mf I.hok e;show f.typeIs
 ·let⟨_,_,xs,_,f⟩:=nD I.hok e;show f.typeIs
noncomputable def IE(td g:TE):TE:=λe H Q=>td e H λx f=>g e f λy c=>∃a v,x=.ref a/\DGet c a y (Z v)/\Q v c
noncomputable def GD(g td:TE):TE:=λe H Q=>g e H λy f=>td e f λx c=>∃a o,x=.ref a/\DGet c a y o/\Q (.bl o.isSome) c
noncomputable def Ep(td l j:TE):TS:=λD c H=>j c H λv f=>td c f λx g=>l c g λy h=>∃a e,x=.ref a/\DPut h a y v e/\D.nx c e
section
variable{X:Cx}{o i c:Ã}{f e:Ö}{td j l:TE}
def CT(J:X.A.units+1<å)(F:PE X o td)(hi:PE X i j)(G:qP i):PE X (.Subscript o i f) (IE td j):=by intro p s w H Q I h;refine D1 PySem.F.slot_dict_getitem.lookup G (aF (F p s w H _ I h) λu O ⟨x,z,B,M,K⟩=>aF (hi p O w z _ B K) λP R ⟨y,A,r,N,a,v,ex,g,L⟩=>?_);subst ex;obtain rfl:u=Value.ref a:=M;show⟨Iv r g,yI J r g N λT U C E=>⟨v,A,C,E,L⟩⟩
def Ba(E:X.A.units+1<å)(hi:PE X i j)(C:PE X o td):PC X .In i o (GD j td):=by intro p s r H Q I h;refine aF (hi p s r H _ I h) λN M ⟨y,v,z,L,G⟩=>aF (C p M r v _ z G) λu O ⟨x,w,A,K,a,F,ex,g,J⟩=>?_;subst ex;obtain rfl:u=Value.ref a:=K;show yy E A g L λP B=>⟨.bl F.isSome,w,B,S,J⟩
def A7(L:X.A.units+1<å)(J:PE X o td)(hi:PE X i j)(M:PE X c l)(K:Î c (Z (.Subscript o i e)) f.line X.env=pure Ś) :
  PS X (.Assign [.Subscript o i e] c f) (Ep td j l):=by
 intro p s w H D I h;refine wpAny_Assign_Subscript (aF (M p s w H _ I h) λr T ⟨v,z,C,Q,N⟩=>aF (J p T w z _ C N) λu U ⟨x,A,E,R,O⟩=>aF (hi p U w A _ E O) λbe s3 ⟨y,a_,F,b_,a,B,ex,g,P⟩=>?_) K;subst ex;obtain rfl:u=Value.ref a:=R;show xS L F g b_ Q λs4 G=>⟨w,B,G,P⟩
end
def DS{P:Å}{w:È}{H:Hp}(h:Heap)(a:Ú<h.objs.size):ObjOk P w H (h.push { cls:=.type "dict",data:=.dict #[] }) h.objs.size (.dT []):=
 ⟨Lh _,Ln.mpr (Kz (J7 a)),[],.nil,_,#[],0,JJ _ S,⟨S,S,S⟩,S,S,List.nodup_nil⟩
noncomputable def Hc:TE:=λ_ H Q=>∀p,H p=ŗ->Q (.ref p) (ap H p (.dT []))
section
variable{X:Cx}{c:Ö}
def pe_dnewT:PE X (.Dict [] [] c) Hc:=λe s f H Q I h=>
 wpAny_Dict_empty ⟨.ref s.heap.objs.size,_,I.laid (a:=s.heap.objs.size) (o:=.dT []) (t':=s.toks) (λ_ _ q=>Jz _ q) (Jx _) (DS s.heap I.big),S,h _ (I.hok.fresh (Jx _))⟩
end
end L2
set_option maxHeartbeats 4000000
namespace L2
open PySem PySem.Spec PyProof.Rows
def DI{env:ë}(names:Y (Str×NameKind))(y:∀x∈names,x.2=.free->∃c,env.cells.lookup x.1=Z c):∀f:Y (Str×Addr),
  ∃cl:Y (Str×Addr),(forIn names f (λ(x:Str×NameKind) v=>if (x.2==.free)=ř then do let a ←cellOf env x.1;pure (ForInStep.yield ((x.1,a)::v)) else pure (ForInStep.yield v)):Sem (Y (Str×Addr)))=pure cl /\
   (∀p∈cl,p∈f\/env.cells.lookup p.1=Z p.2)/\(∀p∈f,p∈cl)/\∀x,(x,NameKind.free)∈names->∃c,(x,c)∈cl:=by
 induction names with
 |nil=>intro f;show⟨f,S,λp g=>.inl g,λ_ g=>g,λx h=>by simp at h⟩
 |cons n r B=>
  intro f;let⟨n,k⟩:=n;have A:∀x∈r,x.2=.free->∃c,env.cells.lookup x.1=Z c:=λx h=>y x (Jy _ h);by_cases u:k=.free
  ·subst u;let⟨c,w⟩:=y (n,.free) JA S;let⟨cl,e,l,j,o⟩:=B A ((n,c)::f);refine⟨cl,?_,λp g=>?_,λp g=>j p (Jy _ g),λx h=>?_⟩
   ·rw[MM,←e]
    have q:cellOf env n=pure c:=by unfold cellOf;rw[w]
    simp[q]
   ·rcases l p g with z|z
    ·rcases JI.mp z with rfl|z
     ·show .inr w
     ·show .inl z
    ·show .inr z
   ·rcases JI.mp h with z|z
    ·cases z;show⟨c,j _ JA⟩
    ·show o x z
  ·let⟨cl,e,l,j,o⟩:=B A f;refine⟨cl,?_,l,j,λx h=>?_⟩
   ·rw[MM,←e]
    have q:(k==NameKind.free)=Ś:=by simpa using u
    simp[q]
   ·rcases JI.mp h with z|z
    ·cases z;show absurd S u
    ·show o x z
def yk{cl:Y (Str×Addr)}{cells:Y (Str×Addr)}(h:∀p∈cl,cells.lookup p.1=Z p.2):∀x c,cl.lookup x=Z c->cells.lookup x=Z c:=λx c e=>h (x,c) (KA e)
def A5{cl:Y (Str×Addr)}{x:Str}{c:Addr}:(x,c)∈cl->∃a,cl.lookup x=Z a:=by
 induction cl with
 |nil=>intro h;simp at h
 |cons p r f=>
  intro h;rw[J0]
  cases e:x==p.1 with
  |true=>show⟨_,S⟩
  |false=>
   rcases JI.mp h with z|z
   ·subst z;simp at e
   ·show f z
def vY{scope:â}{env:ë}(h:∀x∈scope.names,x.2=.free->∃c,env.cells.lookup x.1=Z c) :
  ∃cl,closureFor scope env=pure cl/\(∀x c,cl.lookup x=Z c->env.cells.lookup x=Z c)/\∀x,(x,NameKind.free)∈scope.names->∃c,cl.lookup x=Z c:=by
 let⟨cl,e,a,_,f⟩:=DI (env:=env) scope.names h [];refine⟨cl,?_,yk λp j=>(a p j).elim (λz=>by simp at z) id,λx l=>?_⟩
 ·unfold closureFor;simp only;rw[←e];simp
 ·let⟨c,g⟩:=f x l;show A5 g
theorem su{env:ë}:∀{names:Y (Str×NameKind)}{x:Str}{k:NameKind},
  (names.map λ(n,k)=>if (k==NameKind.free&&env.scope.kind==.function&&env.kindOf n==Z .cell) then (n,NameKind.cell) else (n,k)).lookup x=Z k->(k=.cell\/k=.free)->(x,NameKind.free)∈names\/(x,NameKind.cell)∈names
 | [],_,_,h,_=>by simp at h
 |(n,k)::r,x,j,h,c=>by
  have g:=@su env r x j;have h:List.lookup x ((if (k==NameKind.free&&env.scope.kind==.function&&env.kindOf n==Z .cell)=ř then (n,NameKind.cell) else (n,k))::_)=_:=h;by_cases a:(k==NameKind.free&&env.scope.kind==.function&&env.kindOf n==Z .cell)=ř
  ·rw[JC a]at h
   have l:k=.free:=by simp only[KJ,L3]at a;show a.1.1
   rw[J0]at h
   cases e:x==n with
   |true=>
    have:x=n:=by simpa using e
    subst this;subst l;show .inl JA
   |false=>
    simp only[e]at h;show (g h c).imp (Jy _) (Jy _)
  ·rw[Jv a]at h;rw[J0]at h
   cases e:x==n with
   |true=>
    have f:k=j:=by simpa [e] using h
    have:x=n:=by simpa using e
    subst this;subst f;rcases c with rfl|rfl
    ·show .inr JA
    ·show .inl JA
   |false=>
    simp only[e]at h;show (g h c).imp (Jy _) (Jy _)
noncomputable def b8(X:Cx)(scope:â)(N':Y Str)(cl:Y (Str×Addr))(C:Addr)(e:À)(a:Hp)(c:Y Addr):Cx where
 prog:=X.prog
 w:=X.w
 K:=X.K
 mg:=X.mg
 base:=X.base
 A:=X.A
 N:=N'
 s₀:=e
 H₀:=a
 env:=Ē scope cl C X.env
 outer:=X.stack
 stack:=X.stack
 ex:=c
 fn:=λx=>scope.names.lookup x==Z .cell
 calm:=X.calm
 pn:=[]
 xe:=λ_ _=>False
noncomputable def eB(cap:Y (Ř Nat))(a:St):St:=cap.map λo=>o.bind λi=>(a[i]?).join
structure CompScope(N:List Str)(sc scope:â)(N':List Str)(cap:List (Option Nat)):Prop where
 kind:scope.kind=.function
 cel:∀x∈scope.names,x.2=.cell->scope.names.lookup x.1=Z .cell
 names:∀x∈scope.names,x.2=.local->scope.names.lookup x.1=Z .local
 free:∀x∈scope.names,x.2=.free->sc.names.lookup x.1=Z .cell
 fst:∀x∈scope.names,x.2=.free->scope.names.lookup x.1=Z .free
 nd:N'.Nodup
 len:cap.length=N'.length
 at_:∀p∈cap.zip N',∀i,p.1=Z i->N[i]?=Z p.2/\(p.2,NameKind.free)∈scope.names
noncomputable def jq(X:Cx)(e:Y Ã)(t:TT):Prop:=
 ∀(a:Y (Addr×Õ))(s:À)(f:St)(H:Hp)(Q:Bool->Hp->Prop),Inv X a f H s->t f H Q->
  wpAny (Ä X.prog X.w) X.A (forIn e ř λc r=>if r=ř then do let ok ←isTrue c X.env (eval c X.env);pure (ForInStep.yield ok) else pure (ForInStep.yield r)) (TP X a f Q) X.xe s
def Fv:TT:=λ_ H Q=>Q ř H
def uI{X:Cx}:jq X [] Fv:=λ_ _ _ H _ I h=>wpAny_tests_nil ⟨H,I,h⟩
def GV{X:Cx}{c:Ã}{t:TT}(h:PT X c t):jq X [c] t:=λa s f H Q I e=>wpAny_tests_one (h a s f H Q I e)
noncomputable def gO(z:TI)(cap:Y (Ř Nat))(g:TG)(v:TT)(w:TE):TE:=λr H Q=>z r H λJ j=>∀D,j D=ŗ->∃W:Nat->Nat->St->Hp->Prop,(∃m,W 0 m (eB cap r) (ap j D (.lst []))) /\
 ∀i m f c,W i m f c->(J.stop i c/\Q (.ref D) c)\/(J.go i c/\∃N:St->Hp->Prop,(∀h e,N h e->∃p,p<m/\W (i+1) p h e) /\
  ∀x e,J.yld i c x e->g x f e λa u=>v a u λb l=>if b=ř then w a l λy o=>∃ys,o D=Z (.lst ys)/\ys.length<sizeLine/\N a (ap o D (.lst (ys++[y]))) else N a l)
def FC{prog:Å}{w:È}{A:Ê}{R:Result->À->Prop}{s:À}{B a o:Ã}{E:Y Ã}{scope:â}{J:Ö}{L z:Value}{env:ë}(I:Nat->À->Prop)
  (K:∀n s,I n s->wpAny (Ä prog w) A (ó L) (λr e=>match r with
   |none=>R (.ok .next) e
   |some v=>wpAny (Ä prog w) A (ñ a L v) (λ_ f=>wpAny (Ä prog w) A (assign a env v) (λ_ p=>
     wpAny (Ä prog w) A (forIn E ř λc r=>if r=ř then do let ok ←isTrue c env (eval c env);pure (ForInStep.yield ok) else pure (ForInStep.yield r)) (λok g=>
      if ok=ř then wpAny (Ä prog w) A (eval B env) (λx u=>
       wpAny (Ä prog w) A (call (.builtin "list.append") [z,x]) (λ_ y=>∃m,m<n/\I m y) (λ_ _=>False) u) (λ_ _=>False) g
      else ∃m,m<n/\I m g) (λ_ _=>False) p) (λ_ _=>False) f) (λ_ _=>False) e) (λ_ _=>False) s)
  (n:Nat) (h:I n s):ì (Ä prog w) A (.compLoop (.ListComp B [⟨a,o,E,0⟩] scope J) 0 L z env) R s:=by
 refine codeAny_loop S I (λn s M=>?_) n h;change wpAny _ A ((compTurn (.ListComp B [⟨a,o,E,0⟩] scope J) 0 L z env).onRaise (λx=>do noteFrame x env;theTreesLotGoes x)) _ _ s;refine wpAny_noted ?_;rw[compTurn_list];refine Jt (M5 (Jt (Ld (K n s M) (λr e j=>?_) λ_ _ h'=>h'.elim)))
 cases r with
 |none=>show JK j
 |some v=>
  refine Jt (Ld j (λ_ f C=>?_) λ_ _ h'=>h'.elim);refine Jt (Ld C (λ_ p F=>Jt (Ld F (λok g l=>?_) λ_ _ h'=>h'.elim)) λ_ _ h'=>h'.elim)
  cases ok with
  |false=>show JK ⟨S,l⟩
  |true=>
   show Jt (Jt (Ld l (λx u G=>Jt (Ld G (λ_ y H=>JK (JK ⟨S,H⟩)) λ_ _ h'=>h'.elim)) λ_ _ h'=>h'.elim))
section
variable{X:Cx}{B G f:Ã}{l:Y Ã}{scope:â}{F:Ö}{N':Y Str}{cap:Y (Ř Nat)}{O:TI}{g:TG}{L:TT}{K:TE}
theorem kG:∀(names:Y (Str×NameKind))(n:Nat)(a:Y (Str×Addr)),Ø n names a=Ø n names []++a
 | [],_,_=>rfl
 |(x,k)::r,n,a=>by
  unfold Ø;split
  ·rw[kG r (n+1) ((x,n)::a),kG r (n+1) [(x,n)],JM];rfl
  ·show kG r n a
theorem rF:∀(names:Y (Str×NameKind))(n:Nat){x:Str}{c:Addr},(x,c)∈Ø n names []->(x,NameKind.cell)∈names
 | [],_,_,_,h=>by simp[Ø]at h
 |(y,k)::r,n,x,c,h=>by
  unfold Ø at h;split at h
  ·rename_i a;rw[kG]at h;rcases JT.mp h with h|h
   ·show Jy _ (rF r _ h)
   ·have e:=JB.mp h;cases e
    have:k=.cell:=by simpa using a
    subst this;show JA
  ·show Jy _ (rF r _ h)
def Dv{M:Model}{A:Ê}{E:Value->À->Prop}{s:À}{globals:Addr}{cl:Y (Str×Addr)}{qual:Str}{outer:ë}{Q:ë->À->Prop}
  (c:∀h',h'.Ns s.heap.objs.size (λ_=>ŗ)->(∀b o,s.heap.get? b=Z o->h'.get? b=Z o)->CellsOk h' (s.heap.objs.size+1) (Ø (s.heap.objs.size+1) scope.names [])->
   Q { scope:=scope,locals:=s.heap.objs.size,globals:=globals,cells:=Ø (s.heap.objs.size+1) scope.names []++cl,qual:=qual,func:=ŗ,code:=outer.code,frame:=outer.frame,builtins:=outer.builtins } { s with heap:=h' }) :
  wpAny M A (Đ scope globals cl [] qual ŗ .none (Z outer)) Q E s:=by
 simp only[Đ,Ė,Mn];refine Jt (wpAny_alloc ?_);refine Jt (wpAny_layCells _ (λname kind cells=>by cases a:kind==NameKind.cell<;>simp[a]) _ _ _ _ ?_);have ok:=cellsFrom_ok scope.names (s.heap.push { cls:=.type "dict",data:=.dict #[] }) (s.heap.objs.size+1) [] ⟨λ_ _ h=>(nomatch h),List.Pairwise.nil⟩ (by rw[Kj];show Jx _);rw[Kj]at ok;rw[show ({ s with heap:=s.heap.push { cls:=.type "dict",data:=.dict #[] } }:À).heap.objs.size=s.heap.objs.size+1 from Kj ..,kG];refine Jt ?_;rw[NC];show JK (JK (c _ ((Heap.Ns.new s.heap (.type "dict")).keeps (œ _ _)) (λb o e=>œ _ _ b o (Jz _ e)) ok))
def Cw{N:Y (Addr×Õ)}{P:St}{H:Hp}{s T:À}{cl A:Y (Str×Addr)}{C:Addr}{fp:Y Addr}{m:Str->Ř Value}(b_:CompScope X.N X.env.scope scope N' cap)(I:Inv X N P H s)
  (Qg:∀x c,cl.lookup x=Z c->X.env.cells.lookup x=Z c) (R5:∀x,(x,NameKind.free)∈scope.names->∃c,cl.lookup x=Z c) (E:s.heap.objs.size<=C) (Rh:T.os=s.os) (hg:T.gens=s.gens)
  (hk:∀b o,s.heap.get? b=Z o->T.heap.get? b=Z o) (hn:T.heap.Ns C m) (Uo:∀b∈fp,eE X N H b) (be:∀b∈fp,b<s.heap.objs.size) (hw:CellsOk T.heap (C+1) A) (hwm:∀x c,(x,c)∈A->(x,NameKind.cell)∈scope.names) (RD:∀x,(x,NameKind.cell)∈scope.names->∃c,A.lookup x=Z c) :
  Inv (b8 X scope N' (A++cl) C s H fp) [] (eB cap P) H T:=by
 have R:∀x c,(A++cl).lookup x=Z c->((x,c)∈A/\C<c)\/(A.lookup x=ŗ/\X.env.cells.lookup x=Z c):=λx c h=>by
  rw[MZ]at h
  cases e:A.lookup x with
  |none=>rw[e]at h;show .inr ⟨S,Qg x c (by simpa using h)⟩
  |some U=>
   rw[e]at h
   have:U=c:=by simpa using h
   subst this;show .inl ⟨KA e,(hw.empty _ _ (KA e)).2⟩
 have M:∀x c,X.env.cells.lookup x=Z c->c<s.heap.objs.size:=λx c h=>by let⟨v,q⟩:=I.cell x c h;show q.lt
 have S7:∀x,(x,NameKind.free)∈scope.names->∃c,(A++cl).lookup x=Z c/\X.env.cells.lookup x=Z c:=λx w=>by
  let⟨c,hc⟩:=R5 x w;refine⟨c,?_,Qg x c hc⟩;rw[MZ]
  cases e:A.lookup x with
  |none=>simpa using hc
  |some U=>
   have a1:=b_.cel _ (hwm x U (KA e)) S;have a2:=b_.fst _ w S;have a1:scope.names.lookup x=Z .cell:=a1;have a2:scope.names.lookup x=Z .free:=a2;rw[a1]at a2;cases a2
 refine⟨⟨I.ok.mod,b_.kind,I.ok.glob,I.ok.blt,E,λx y c h1 a=>?_,λx w=>?_,λx c w h=>?_,I.ok.hd,I.ok.frames,.inl S,
   λb J=>⟨J7 (Ka (be b J) E),λx c e=>?_⟩,I.bs,JR I.ok.bsz I.sz,λb o e J=>?_,λb J hf=>?_,I.stack,I.stkFree⟩,
  Rh,by rw[hg];show I.bare,Un.kept hk,⟨m,hn,λi x v h1 a h3=>?_⟩,λx c e=>?_,I.hok.fresh E,λx c e=>?_,λp hp=>absurd (show p∈([]:Y (Addr×Õ))from hp) (by simp),I.hok.kept hk,?_⟩
 ·rcases R x c h1 with⟨a1,a2⟩|⟨_,a2⟩<;>rcases R y c a with⟨b1,b2⟩|⟨_,b2⟩
  ·show name_of_addr hw.apart a1 b1
  ·show absurd (M y c b2) (Nat.not_lt.mpr (JR E (KQ a2)))
  ·show absurd (M x c a2) (Nat.not_lt.mpr (JR E (KQ b2)))
  ·show I.ok.inj x y c a2 b2
 ·have q:(x,NameKind.free)∈scope.names\/(x,NameKind.cell)∈scope.names:=by
   rcases w with w|w
   ·show su w (.inl S)
   ·show su w (.inr S)
  rcases q with q|q
  ·let⟨c,h,_⟩:=S7 x q;show⟨c,h⟩
  ·let⟨c,h⟩:=RD x q;show⟨c,by change (A++cl).lookup x=_;rw[MZ,h];rfl⟩
 ·have w:(scope.names.lookup x==Z .cell)=ř:=w
  have w:scope.names.lookup x=Z .cell:=by simpa using w
  let⟨U,h'⟩:=RD x (KA w);rcases R x c h with⟨_,a2⟩|⟨a1,_⟩
  ·show JR E (KQ a2)
  ·rw[h']at a1;cases a1
 ·rcases R x c e with⟨_,a2⟩|⟨_,a2⟩
  ·show λz=>absurd (be b J) (Nat.not_lt.mpr (JR E (by rw[←z];show KQ a2)))
  ·show (Uo b J).2.2.2.2.1 x c a2
 ·rcases (Uo b J).2.2.2.1 with z|z
  ·show I.ok.noex b o e z
  ·show absurd (Ka (JP e) (JR I.ok.bsz z)) (K9 _)
 ·rcases JI.mp (I.stkSub b hf)with z|z
  ·show (Uo b J).2.1 z
  ·show (Uo b J).2.2.1 z
 ·have a:(cap.map λo=>o.bind λi=>(P[i]?).join)[i]?=Z (Z v):=a;rw[JF]at a
  cases ec:cap[i]? with
  |none=>rw[ec]at a;cases a
  |some o=>
   rw[ec]at a
   have a:(o.bind λi=>(P[i]?).join)=Z v:=by simpa using a
   cases o with
   |none=>cases a
   |some j=>
    have a:(P[j]?).join=Z v:=a
    have hj:P[j]?=Z (Z v):=by
     cases ej:P[j]? with
     |none=>rw[ej]at a;cases a
     |some y=>rw[ej]at a;show Kf Z a
    have hz:(cap.zip N')[i]?=Z (Z j,x):=by rw[L8];show⟨ec,h1⟩
    let⟨q1,q2⟩:=b_.at_ _ (Jw hz) j S;let⟨mx,hnx,hl⟩:=I.loc;have kc:=b_.free _ q2 S;let⟨u,r,lk⟩:=hl j x v q1 hj (.inr (.inl kc));refine⟨u,r,?_⟩;rcases lk with⟨k1,_⟩|⟨_,c,e,z⟩
    ·have:X.env.scope.names.lookup x=Z .local:=k1;rw[kc]at this;cases this
    ·let⟨U,SQ,Ry⟩:=S7 x q2;rw[e]at Ry;cases Ry
     have Q:(Ē scope (A++cl) C X.env).kindOf x=Z .cell\/(Ē scope (A++cl) C X.env).kindOf x=Z .free\/(Ē scope (A++cl) C X.env).kindOf x=Z .local:=by
      rcases h3 with z|z|z
      ·show .inr (.inr z)
      ·show .inl z
      ·show .inr (.inl z)
     rcases Q with Q|Q|Q
     ·show .inr ⟨.inl Q,c,SQ,let ⟨o,ho,hd⟩:=z;⟨o,hk c o ho,hd⟩⟩
     ·show .inr ⟨.inr Q,c,SQ,let ⟨o,ho,hd⟩:=z;⟨o,hk c o ho,hd⟩⟩
     ·exfalso;have kl:(relabel scope X.env).names.lookup x=Z .local:=Q;have ml:=KA kl;let⟨⟨n,k⟩,hm,a_⟩:=JL.mp ml;have a_:(if (k==NameKind.free&&X.env.scope.kind==.function&&X.env.kindOf n==Z .cell)=ř then (n,NameKind.cell) else (n,k))=(x,NameKind.local):=a_;split at a_
      ·cases a_
      ·cases a_;have a1:=b_.names _ hm S;have a3:scope.names.lookup x=Z .free:=b_.fst _ q2 S;have a1:scope.names.lookup x=Z .local:=a1;rw[a3]at a1;cases a1
 ·rcases R x c e with⟨a1,_⟩|⟨_,a2⟩
  ·show⟨ŗ,(hw.empty x c a1).1⟩
  ·let⟨v,o,ho,hd⟩:=I.cell x c a2;show⟨v,o,hk c o ho,hd⟩
 ·rcases R x c e with⟨_,a2⟩|⟨_,a2⟩
  ·show I.hok.fresh (JR E (KQ a2))
  ·show I.freeC x c a2
 ·change (eB cap P).length=N'.length;unfold eB;rw[Jp,b_.len]
def sG{H:Y (Addr×Õ)}{σ:St}{j:Hp}{I:À}{it:Addr}{A:Y Addr}{tn:Nat->Heap->Prop}{J:It}{cl:Y (Str×Addr)}{RR:Value->Addr->Result->À->Prop}{E:Value->À->Prop}(N6:X.calm=ř)(b_:CompScope X.N X.env.scope scope N' cap)
  (hg:∀(cl:Y (Str×Addr))(C:Addr)(s0:À)(H0:Hp),PG (b8 X scope N' cl C s0 H0 A) G g) (ht:∀(cl:Y (Str×Addr))(C:Addr)(s0:À)(H0:Hp),jq (b8 X scope N' cl C s0 H0 A) l L) (he:∀(cl:Y (Str×Addr))(C:Addr)(s0:À)(H0:Hp),PE (b8 X scope N' cl C s0 H0 A) B K)
  (I2:Inv X H σ j I) (T:Turn X.prog X.w X.K G J A it tn) (RC:tn 0 I.heap) (f2:∀b∈A,eE X H j b)
  (Qg:∀x c,cl.lookup x=Z c->X.env.cells.lookup x=Z c) (R5:∀x,(x,NameKind.free)∈scope.names->∃c,cl.lookup x=Z c)
  {P:V->Hp->Prop}
  (w:∀D,j D=ŗ->∃W:Nat->Nat->St->Hp->Prop,(∃m,W 0 m (eB cap σ) (ap j D (.lst []))) /\
   ∀i m Q z,W i m Q z->(J.stop i z/\P (.ref D) z)\/(J.go i z/\∃N:St->Hp->Prop,(∀σ2 j,N σ2 j->∃m',m'<m/\W (i+1) m' σ2 j) /\
    ∀x j,J.yld i z x j->g x Q j λU H3=>L U H3 λb H4=>if b=ř then K U H4 λy H5=>∃ys,H5 D=Z (.lst ys)/\ys.length<sizeLine/\N U (ap H5 D (.lst (ys++[y]))) else N U H4))
  (hRR:∀D C z s' m',X.env.locals≠C->X.s₀.heap.objs.size<=C->(∀x c,X.env.cells.lookup x=Z c->c≠C)->(∀p∈X.pn++H,p.1≠C)->z C=ŗ->s'.heap.Ns C m'->Inv X H σ z s'->P (.ref D) z->RR (.ref D) C (.ok .next) s') :
  wpAny (Ä X.prog X.w) X.A (newList []) (λacc M=>wpAny (Ä X.prog X.w) X.A (Đ scope X.env.globals cl [] X.env.qual ŗ .none (Z X.env)) (λS8 s₄=>
   ì (Ä X.prog X.w) X.A (.compStart (.ListComp B [⟨G,f,l,0⟩] scope F) 0 (.ref it) acc { S8 with scope:=relabel scope X.env }) (RR acc S8.locals) s₄) E M) E I:=by
 refine Lm ?_ (by change 0<=sizeLine;decide);have I3:Inv X H σ (ap j I.heap.objs.size (.lst [])) { I with heap:=I.heap.push { cls:=.type "list",data:=.seq ([]:Y Value).toArray } }:=I2.lnew (t':=I.toks) .nil (by change 0<=sizeLine;decide);have k3:∀b o,I.heap.get? b=Z o->(I.heap.push { cls:=.type "list",data:=.seq ([]:Y Value).toArray }).get? b=Z o:=λb o e=>Jz _ e;have z3:(I.heap.push { cls:=.type "list",data:=.seq ([]:Y Value).toArray }).objs.size=I.heap.objs.size+1:=Kj ..;have hD0:j I.heap.objs.size=ŗ:=I2.fresh;generalize hs3:({ I with heap:=I.heap.push { cls:=.type "list",data:=.seq ([]:Y Value).toArray } }:À)=s3 at I3 ⊢
 have eh3:s3.heap=I.heap.push { cls:=.type "list",data:=.seq ([]:Y Value).toArray }:=by rw[←hs3]
 have eo3:s3.os=I.os:=by rw[←hs3]
 generalize hDD:I.heap.objs.size=D at I3 hD0 z3 ⊢;rw[←eh3]at k3 z3;have live:∀b∈A,∃o,I.heap.get? b=Z o/\∀v,o.data≠.cell v:=λb a=>T.obj 0 _ RC b a
 have U1:∀b∈A,b<D:=λb a=>by let⟨o,e,_⟩:=live b a;rw[←hDD];show JP e
 have f3:∀b∈A,eE X H (ap j D (.lst [])) b:=λb a=>⟨by rw[aY (J7 (U1 b a))];show (f2 b a).1,(f2 b a).2⟩;refine Dv λh4 hn4 k4 ok4=>?_;generalize hnw:Ø (s3.heap.objs.size+1) scope.names []=nw at ok4 ⊢;have st4:tn 0 h4:=T.keep 0 _ _ RC λb _ o e=>k4 b o (k3 b o e)
 have I4:Inv (b8 X scope N' (nw++cl) s3.heap.objs.size s3 (ap j D (.lst [])) A) [] (eB cap σ) (ap j D (.lst [])) { s3 with heap:=h4 }:=
  Cw b_ I3 Qg R5 (Jx _) S S k4 hn4 f3 (λb a=>by rw[z3];show LD (U1 b a)) ok4 (λx c h=>rF _ _ (hnw▸h)) λx h=>hnw▸rL (b_.cel _ h S)
 let⟨W,⟨m0,w0⟩,turn⟩:=w D hD0
 have U2:∀{z:Hp},(∀b∈A,z b=ŗ)->∀b∈A,eE (b8 X scope N' (nw++cl) s3.heap.objs.size s3 (ap j D (.lst [])) A) [] z b:=λhn b a=>
  ⟨hn b a,J7 (by change b<s3.heap.objs.size;rw[z3];show LD (U1 b a)),λhf=>I4.ok.exfs b a hf,.inl a,λx c e=>(I4.ok.exf b a).2 x c e,λp hp=>absurd (show p∈([]:Y (Addr×Õ))from hp) (by simp)⟩
 have loop:∀M:À,M={ s3 with heap:=h4 }->
   ì (Ä X.prog X.w) X.A (.compLoop (.ListComp B [⟨G,f,l,0⟩] scope F) 0 (.ref it) (.ref D) (Ē scope (nw++cl) s3.heap.objs.size X.env)) (RR (.ref D) s3.heap.objs.size) M:=by
  rintro M rfl
  refine FC (λn s'=>∃i Q z,Inv (b8 X scope N' (nw++cl) s3.heap.objs.size s3 (ap j D (.lst [])) A) [] Q z s'/\tn i s'.heap/\(∀b∈A,z b=ŗ)/\W i n Q z) ?_ m0
   ⟨0,eB cap σ,ap j D (.lst []),I4,st4,λb a=>(f3 b a).1,w0⟩
  rintro n s5 ⟨i,a_,H5,I5,Sy,Uc,w5⟩;rcases turn i n a_ H5 w5 with⟨stop,qn⟩|⟨go,N,hN,step⟩
  ·refine aF (T.done (b8 X scope N' (nw++cl) s3.heap.objs.size s3 (ap j D (.lst [])) A) S S S N6 i [] s5 a_ H5 _ I5 (U2 Uc) Sy stop) λr s6 NT=>?_;let⟨hr,I6⟩:=NT;subst hr;let⟨m6,hn6,_⟩:=I6.loc;have un:Un (gm X.stack) A (ap j D (.lst [])) H5 s3.heap s6.heap:=I6.base;refine hRR D s3.heap.objs.size H5 s6 m6 (J7 I3.lt) I3.sz (λx c e=>?_) (λp hp=>?_) I6.free hn6 ?_ qn
   ·let⟨v,q⟩:=I3.cell x c e;show J7 q.lt
   ·show J7 (JP (I3.pin p hp).1)
   ·show I3.call' I6.os un I6.hok I6.bare λb a=>⟨(f3 b a).2.2.2.1,(f3 b a).2.1,(f3 b a).2.2.2.2.1,(f3 b a).2.2.2.2.2⟩
  ·refine aF (T.item (b8 X scope N' (nw++cl) s3.heap.objs.size s3 (ap j D (.lst [])) A) S S S N6 i [] s5 a_ H5 (λ_ _=>False) I5 (U2 Uc) Sy go) λr s6 Oe=>?_;let⟨u,hr,h6⟩:=Oe;subst hr;refine aF h6 λ_ s7 PV=>?_;let⟨x,H7,I7,r7,y7,U3,fr7⟩:=PV;have I7':=I7.pinned (U2 fr7) (T.obj _ _ U3);refine aF (hg _ _ _ _ _ s7 a_ H7 x u _ I7' r7 (step x H7 y7)) λ_ s8 SR=>?_;let⟨be,H8,I8,q8⟩:=SR;refine aF (ht _ _ _ _ _ s8 be H8 _ I8 q8) λb s9 UR=>?_;let⟨H9,I9,q9⟩:=UR
   have again:∀{R:St}{H9:Hp}{s9:À},Inv (b8 X scope N' (nw++cl) s3.heap.objs.size s3 (ap j D (.lst [])) A) ([]++kB A s7.heap) R H9 s9->N R H9->∃m,m<n/\∃i Q z,Inv (b8 X scope N' (nw++cl) s3.heap.objs.size s3 (ap j D (.lst [])) A) [] Q z s9/\tn i s9.heap/\(∀b∈A,z b=ŗ)/\W i m Q z:=λ{R H9 s9} I9 n9=>by let⟨m',hm,w9⟩:=hN R H9 n9;refine⟨m',hm,i+1,R,H9,I9.unpinned,T.keep _ _ _ U3 λb a o e=>(I9.pin (b,o) (Ki _ (Ki _ (mM a e)))).1,λb a=>?_,w9⟩;let⟨o,e,d⟩:=T.obj _ _ U3 b a;show (I9.pin (b,o) (Ki _ (Ki _ (mM a e)))).2.1
   cases b with
   |false=>
    rw[Jv 'b']at q9 ⊢;show again I9 q9
   |true=>
    rw[JC S]at q9 ⊢;refine aF (he _ _ _ _ _ s9 be H9 _ I9 q9) λyv s10 US=>?_;let⟨y,U4,I10,U5,ys,U6,U7,q10⟩:=US;refine aF (nF _ s10 be U4 (.ref D) [y] (.ref D) [yv] (λ_ z=>N be z) I10 S (.cons U5 .nil) ⟨D,ys,y,S,S,U6,U7,q10⟩) λ_ s11 hq6=>?_;let⟨_,H11,I11,_,q11⟩:=hq6;show again I11 q11
 show codeAny_compStart_list (loop _ S) (T.self _ 0 _ _ _ st4 (loop _ S))
def v7(E:X.calm=ř)(b_:CompScope X.N X.env.scope scope N' cap)(hi:PI X G f O)
  (hg:∀(cl:Y (Str×Addr))(a:Y Addr)(C:Addr)(p:À)(j:Hp),PG (b8 X scope N' cl C p j a) G g) (ht:∀(cl:Y (Str×Addr))(a:Y Addr)(C:Addr)(p:À)(j:Hp),jq (b8 X scope N' cl C p j a) l L)
  (he:∀(cl:Y (Str×Addr))(a:Y Addr)(C:Addr)(p:À)(j:Hp),PE (b8 X scope N' cl C p j a) B K) (hs:∀x,Ì f X.env x=pure x:=by intro _;rfl) :
  PE X (.ListComp B [⟨G,f,l,0⟩] scope F) (gO O cap g L K):=by
 intro c s u H Q I h;let⟨cl,be,M,N⟩:=vY (scope:=scope) (env:=X.env) λx hx hf=>I.ok.has x.1 (.inl (b_.free x hx hf));rw[eval_ListComp];refine wpAny_comprehension_free (use:=ŗ) S hs be b_.kind b_.names (aF (hi c s u H _ I h) λv s1 h1=>aF h1 λUb s2 h2=>?_);let⟨it,a,tn,J,H2,e,A,T,R,f2,w⟩:=h2;subst e;refine sG (RR:=λr C=>compPost (Ä X.prog X.w) X.A X.xe ŗ (EP X c u Q) r C) E b_ (λcl=>hg cl a) (λcl=>ht cl a) (λcl=>he cl a) A T R f2 M N (P:=Q) w ?_;intro D C y s' m' hL hz U U9 hC hn z q;refine⟨m',hn,λh' a_=>⟨.ref D,y,z.turned (t':=s'.toks) (λb o hb e=>(a_.2 b hb).trans e) hC (Kz hL) (.inr hz) U U9,S,q⟩⟩
def nJ{i:Nat}{y:Str}{p N5:Ö}(N6:X.calm=ř)(hN:X.N.Nodup)(hy:X.N[i]?=Z y)(a_:eC X.env.scope y)(b_:CompScope X.N X.env.scope scope N' cap)(hi:PI X G f O)
  (hg:∀(cl:Y (Str×Addr))(j:Y Addr)(C:Addr)(A:À)(u:Hp),PG (b8 X scope N' cl C A u j) G g) (ht:∀(cl:Y (Str×Addr))(j:Y Addr)(C:Addr)(A:À)(u:Hp),jq (b8 X scope N' cl C A u j) l L)
  (he:∀(cl:Y (Str×Addr))(j:Y Addr)(C:Addr)(A:À)(u:Hp),PE (b8 X scope N' cl C A u j) B K) (Rl:Î (.ListComp B [⟨G,f,l,0⟩] scope F) (Z (.Name y p)) N5.line X.env=pure ř:=by rfl)
  (hs:∀x,Ì f X.env x=pure x:=by intro _;rfl) (U:X.fn y=ř\/X.env.scope.names.lookup y=Z .local:=by nofun) :
  PS X (.Assign [.Name y p] (.ListComp B [⟨G,f,l,0⟩] scope F) N5) (jm (gO O cap g L K) (iY i)):=by
 intro c s σ H D I h;let⟨cl,U8,Qg,R5⟩:=vY (scope:=scope) (env:=X.env) λx a_ U=>I.ok.has x.1 (.inl (b_.free x a_ U));rw[exec_Assign_Name_used _ _ _ _ Rl];refine Jt (M5 (Jt ?_));change wpAny _ X.A (do let _ ←comprehension (.ListComp B [⟨G,f,l,0⟩] scope F) scope X.env _ (newList []) Ś (eval f X.env) (Z (assign (.Name y p) X.env))) _ _ s
 refine Jt (Ld (wpAny_comprehension_free (use:=Z (assign (.Name y p) X.env)) (Q:=λ_ r=>SP X c D .next r) S hs U8 b_.kind b_.names
  (aF (hi c s σ H _ I h) λv s1 h1=>aF h1 λUb s2 h2=>?_)) (λ_ r hq=>JK (JK hq)) λ_ _ e=>e)
 let⟨it,j,tn,J,H2,e,I2,T,RC,f2,w⟩:=h2;subst e;refine sG (RR:=λN C=>compPost (Ä X.prog X.w) X.A X.xe (Z (assign (.Name y p) X.env)) (λ_ r=>SP X c D .next r) N C) N6 b_ (λcl=>hg cl j) (λcl=>ht cl j) (λcl=>he cl j) I2 T RC f2 Qg R5 (P:=λv E=>D.nx (σ.set i (Z v)) E) w ?_;intro be C E r m' hL hz RW U9 hC hn I' q;change wpAny _ X.A (assign (.Name y p) X.env (.ref be)) _ _ r;refine wpAny_assign_Name (sK (v:=.ref be) I' hN hy a_ S (λSV M Ta=>?_) U);let⟨a,sb,ha⟩:=Ta
 have R:C≠a:=by
  rcases ha with z|z
  ·rw[z];show Kz hL
  ·show Kz (RW y a z)
 refine⟨m',hn.sameBut sb R,λh' S9=>?_⟩;show⟨_,E,M.turned (t':=SV.toks) (λb o hb e=>(S9.2 b hb).trans e) hC (Kz hL) (.inr hz) RW U9,q⟩
end
open AutoSeq1 (wpAny_loadPart')
def Inv.turnedL{X:Cx}{a:Y (Addr×Õ)}{l:St}{H:Hp}{s:À}{h':Heap}{ch:Y Addr}{t':Nat}(I:Inv X a l H s)(k:∀b o,b∉ch->s.heap.get? b=Z o->h'.get? b=Z o)(g:∀b∈ch,eE X a H b) :
  Inv X a l H { s with heap:=h',toks:=t' }:=by
 have j:∀b u,H b=Z u->b∉ch:=λb u e z=>by rw[(g b z).1]at e;cases e
 refine I.step (g':=s.gens) (d':=s.drawn) (ch:=ch) (λb h=>⟨(g b h).2.2.2.1,(g b h).2.1,(g b h).2.2.2.2.1,(g b h).2.2.2.2.2⟩) (λb o _ _ f e _=>k b o f e) (λb o _ _ f e _=>⟨o.slots,k b o f e⟩) (λ_ _ _ _ n=>n)
  (λb o f e=>⟨o,k b o f e⟩) (λ_ _ e=>e) (λ_ _ _ e=>e) (λb ps e=>e) (λm w=>?_) (λb u e=>?_) I.bare
 ·let⟨o,es,p,x,r⟩:=w;show⟨o,es,p,k _ o (λz=>(g _ z).2.1 S) x,r⟩
 ·refine (I.hok b u e).stay (λc v f q=>k c v ?_ q) (λ_ q=>q) (λ_ _ q=>q) λ_ _ _ q=>q;rcases f with z|z
  ·rw[z];show j b u e
  ·show j c _ z
noncomputable def SqI(b:Bool)(h:Heap)(c a:Addr)(i:Nat):Prop:=match b with|true=>h.IsListIter c a i|false=>h.IsTupleIter c a i
noncomputable def SqO(b:Bool)(h:Heap)(a:Addr)(its:Array Value):Prop:=match b with|true=>h.IsList a its|false=>h.IsTuple a its
noncomputable def SqB(K:Â)(b:Bool)(H:Hp)(a:Addr)(xs:Y V):Prop:=match b with|true=>SqL K H a xs|false=>SqT K H a xs
noncomputable def cX(b:Bool)(a:Addr):Õ:=match b with
 |true=>{ cls:=.type "list_iterator",data:=.fields #[.ref a,.int 0 0] }
 |false=>{ cls:=.type "tuple_iterator",data:=.fields #[.ref a,.int 0 0] }
def SqI.at{b:Bool}{h h':Heap}{c a:Addr}{i:Nat}(x:SqI b h c a i)(k:∀o,h.get? c=Z o->h'.get? c=Z o):SqI b h' c a i:=by cases b<;>(let⟨o,e,r⟩:=x;show⟨o,k o e,r⟩)
def SqO.at{b:Bool}{h h':Heap}{a:Addr}{its:Array Value}(x:SqO b h a its)(k:∀o,h.get? a=Z o->h'.get? a=Z o):SqO b h' a its:=by cases b<;>(let⟨o,e,r⟩:=x;show⟨o,k o e,r⟩)
def SqI.obj{b:Bool}{h:Heap}{c a:Addr}{i:Nat}(x:SqI b h c a i):∃o,h.get? c=Z o/\∀v,o.data≠.cell v:=by cases b<;>(let⟨o,e,_,d⟩:=x;show⟨o,e,λv z=>by rw[d]at z;cases z⟩)
def SqI.lt{b:Bool}{h:Heap}{c a:Addr}{i:Nat}(x:SqI b h c a i):c<h.objs.size:=by let⟨o,e,_⟩:=x.obj;show JP e
def SqO.lt{b:Bool}{h:Heap}{a:Addr}{its:Array Value}(x:SqO b h a its):a<h.objs.size:=by cases b<;>(let⟨o,e,_⟩:=x;show JP e)
def Inv.sqb{X:Cx}{c:Y (Addr×Õ)}{g:St}{H:Hp}{s:À}{b:Bool}{a:Addr}{xs:Y V}(I:Inv X c g H s)(h:SqB X.K b H a xs):∃its:Y Value,Vals xs its/\SqO b s.heap a its.toArray/\xs.length<=sizeLine:=by
 cases b with
 |true=>let⟨its,f,p,e⟩:=I.list h;show⟨its,f,p.isList,e⟩
 |false=>let⟨its,f,p,e⟩:=I.tuple h;show⟨its,f,p,e⟩
def Inv.sqb_inj{X:Cx}{c:Y (Addr×Õ)}{e:St}{H:Hp}{s:À}{b:Bool}{a:Addr}{xs ys:Y V}(I:Inv X c e H s)(h:SqB X.K b H a xs)(h':SqB X.K b H a ys):xs=ys:=by
 cases b with
 |true=>show I.list_inj h h'
 |false=>show I.tuple_inj h h'
def SqB.same{K:Â}{b:Bool}{H c:Hp}{a:Addr}{xs:Y V}(e:Same H c)(h:SqB K b H a xs):SqB K b c a xs:=by
 cases b with
 |true=>show e.seq h
 |false=>
  rcases h with (h|⟨o,h⟩)|h
  ·show .inl (.inl (e _ _ h))
  ·show .inl (.inr ⟨o,e _ _ h⟩)
  ·show .inr h
section
variable{prog:Å}{w:È}{A:Ê}{E:Value->À->Prop}{s:À}
def kA{b:Bool}{a:Addr}{its:Array Value}{Q:Value->À->Prop}(h:SqO b s.heap a its)(q:Q (.ref s.heap.objs.size) { s with heap:=s.heap.push (cX b a) }):wpAny (Ä prog w) A (Ľ (.ref a)) Q E s:=by
 cases b with
 |true=>show Ms h q
 |false=>show LN h q
def jy{b:Bool}{h:Heap}{c a:Addr}(e:h.get? c=Z (cX b a)):SqI b h c a 0:=by cases b<;>show⟨_,e,S,S⟩
def oz{b:Bool}{e a:Addr}{i:Nat}{its:Array Value}{x:Value}{Q:Value->À->Prop}(c:SqI b s.heap e a i)(h:SqO b s.heap a its)(j:its[i]?=Z x)
  (g:∀h',SqI b h' e a (i+1)->Heap.SameBut e s.heap h'->Q x { s with heap:=h' }):wpAny (Ä prog w) A (Builtin.SmallTypes.nextOf (.ref e)) Q E s:=by
 cases b with
 |true=>show wpAny_nextOf_list_item c h j g
 |false=>
  have c:s.heap.IsTupleIter e a i:=c;let⟨o,f,r,hd⟩:=id c;let⟨u,l,_,nl,p⟩:=h;unfold Builtin.SmallTypes.nextOf;refine Jt (KU (name:=Str.ofString "__next__") c.typeIs LB (Lq LB c.typeIs M0 ?_ (MT _)));change wpAny _ _ (đ (.ref e) 0 >>= _) _ _ s;refine Jt (KI f hd (x:=.ref a) S ?_);change wpAny _ _ (if (Value.ref a==Value.none)=ř then _ else _) _ _ s;rw[Jv (show ¬ ((Value.ref a==Value.none)=ř)from J8)];change wpAny _ _ (đ (.ref e) 1 >>= _) _ _ s;refine Jt (KI f hd (x:=.int i 0) S ?_);change wpAny _ _ (seqItems? (.ref a) >>= _) _ _ s;refine Jt (Ls l p ?_);simp only[KC,j];refine Jt (wpAny_setField f hd (by simp) (JK ⟨x,S,JK (g _ ?_ (Heap.SameBut.update ..))⟩));show⟨_,Heap.get?_update_self _ f (Õ.isFreed_of_fields (Ĭ hd _)),(Õ.cls_mapFields ..).trans r,by rw[Ĭ hd];simp[ò]⟩
def oQ{b:Bool}{f a:Addr}{i:Nat}{its:Array Value}{Q:Value->À->Prop}(g:A.handled=ŗ)(c:SqI b s.heap f a i)(l:SqO b s.heap a its)(p:its[i]?=ŗ)
  (j:∀h' e,Heap.ExtBut f s.heap h'->(∃o,h'.get? e=Z o/\o.cls=.type "StopIteration")->E (.ref e) { s with heap:=h' }):wpAny (Ä prog w) A (Builtin.SmallTypes.nextOf (.ref f)) Q E s:=by
 cases b with
 |true=>show wpAny_nextOf_list_end g c l p j
 |false=>
  have c:s.heap.IsTupleIter f a i:=c;let⟨o,h,v,hd⟩:=id c;let⟨y,r,_,nl,u⟩:=l;unfold Builtin.SmallTypes.nextOf;refine Jt (KU (name:=Str.ofString "__next__") c.typeIs LB (Lq LB c.typeIs M0 ?_ (MT _)));change wpAny _ _ (đ (.ref f) 0 >>= _) _ _ s;refine Jt (KI h hd (x:=.ref a) S ?_);change wpAny _ _ (if (Value.ref a==Value.none)=ř then _ else _) _ _ s;rw[Jv (show ¬ ((Value.ref a==Value.none)=ř)from J8)];change wpAny _ _ (đ (.ref f) 1 >>= _) _ _ s;refine Jt (KI h hd (x:=.int i 0) S ?_);change wpAny _ _ (seqItems? (.ref a) >>= _) _ _ s;refine Jt (Ls r u ?_);simp only[KC,p];refine Jt (ď (Jt (wpAny_setField h hd (by simp) ?_)));change wpAny _ _ (newExc (.type "StopIteration") [] >>= _) _ _ _;refine Jt ?_;simp only[newExc,newTuple];refine Jt (Lm ?_ (by size_fits));refine Jt (m:=firstArgMember _ _) (wpAny_of_eq (a:=Value.none) (by first|rfl|(simp only[firstArgMember];rfl)) ?_);refine Lm ?_ (by size_fits);simp only[raiseNew];refine Jt (wpAny_handled ?_)
  first|rw[show A.in1.handled=ŗ from g]|rw[g]
  refine Jt (JK (wpAny_throw ?_));show j _ _ (((Heap.SameBut.update ..).extBut.push _).push _) ⟨_,JJ _ S,S⟩
def Ek(l:A.handled=ŗ)(b:Bool)(c a:Addr)(f:a≠c)(its:Array Value):Draws prog w A c [c,a] its.size (λi v=>its[i]?=Z v) (λi h=>SqI b h c a i/\SqO b h a its) where
 live:=λ_ _ st=>let ⟨o,e,_⟩:=st.1.obj;⟨o,e⟩
 frame:=λ_ _ _ st k=>⟨st.1.at λo e=>k c (by simp) o e,st.2.at λo e=>k a (by simp) o e⟩
 item:=λi s Q E hi st j=>oz st.1 st.2 (x:=its[i]) (by simp[hi]) λh' q sb=>j _ h' s.toks (by simp[hi]) ⟨q,st.2.at λo e=>(sb.2 a f).trans e⟩ sb
 done:=λs Q E st g=>oQ l st.1 st.2 (by simp) g
def BQ(l:Addr)(a:Array Value)(n:Nat)(dct:Ř Addr)(sl:Array (Ř Value)) :
  Ō (Builtin.«enumerate.__new__» ⟨[.type "enumerate",.ref l],[]⟩) (λ_ R s=>s.heap.get? l=Z { cls:=.type "tuple",dict:=dct,data:=.seq a n,slots:=sl } /\
   R (.ok (.ret (.ref (s.heap.push (cX Ś l)).objs.size)))
    { s with heap:=(s.heap.push (cX Ś l)).push { cls:=.type "enumerate",data:=.fields #[.none,.bool Ś,.ref s.heap.objs.size,ò 0,.none,.none] } }):=
 .of_wp λprog w A R s h=>by
  let⟨j,g,d,o,os⟩:=s;let⟨e,h⟩:=h;have p:=sub_enumerate;have f:Heap.IsTuple (ċ ⟨j,g,d,o,os⟩) l a:=⟨_,e,S,n,S⟩
  wp_walk using Ks e
  refine wpAny_stack_any λst=>JK ?_;split
  ·rename_i c _ _ _ _ _;cases (c==Value.type "enumerate")
   ·(wp_walk using Ks e,LN f);show⟨_,S,h⟩
   ·(wp_walk using Ks e,LN f);show⟨_,S,h⟩
  ·(wp_walk using Ks e,LN f);show⟨_,S,h⟩
def HB{b:Bool}{l:Addr}{a:Array Value}{Q:Value->À->Prop}(j:SqO b s.heap l a)
  (h:∀h',IsEnum h' (s.heap.objs.size+1) s.heap.objs.size 0 .none->SqI b h' s.heap.objs.size l 0->h'.objs.size=s.heap.objs.size+2->(∀b o,s.heap.get? b=Z o->h'.get? b=Z o)->Q (.ref (s.heap.objs.size+1)) { s with heap:=h' }) :
  wpAny (Ä prog w) A (call (.type "enumerate") [.ref l]) Q E s:=by
 cases b with
 |true=>show call_enumerate_list j h
 |false=>
  let⟨⟨c,dct,p,sl⟩,r,e,n,hd⟩:=j;replace e:c=.type "tuple":=e;replace hd:p=.seq a n:=hd;subst e hd;refine callType_new F.called_enumerate 'b' (F.typeCall_enumerate_1 _) (F.newCall_enumerate_1 _) (λobj=>F.args_object_init_2 obj _) F.entry_enumerate_new (BQ l a n dct sl) ⟨r,?_⟩;have g:(s.heap.push (cX Ś l)).objs.size=s.heap.objs.size+1:=Kj ..;change _/\_;rw[g];have f:=JJ (s.heap.push (cX Ś l)) (o:={ cls:=.type "enumerate",data:=.fields #[.none,.bool Ś,.ref s.heap.objs.size,ò 0,.none,.none] }) S;rw[g]at f;have hi:(s.heap.push (cX Ś l)).get? s.heap.objs.size=Z (cX Ś l):=JJ _ S;show⟨⟨_,f,S⟩,h _ f (jy (Jz _ hi)) (by rw[Kj,g]) λb o x=>Jz _ (Jz _ x)⟩
def BR{b:Bool}{e c a:Addr}{i:Nat}{j:Int}{its:Array Value}{h:Value}{Q:Ř Value->À->Prop}(y:A.handled=ŗ)(p:IsEnum s.heap e c j h)(g:SqI b s.heap c a i)(z:SqO b s.heap a its)(C:its[i]?=ŗ)
  (u:∀h',Heap.ExtBut c s.heap h'->Q ŗ { s with heap:=h' }):wpAny (Ä prog w) A (ó (.ref e)) Q E s:=by
 have l:s.TypeIs (.ref e) "enumerate":=⟨_,p,S⟩;unfold ó;refine Jt (ė (KU (name:=Str.ofString "__next__") l F.slot_enumerate_next (Lq F.slot_enumerate_next l F.entry_enumerate_next ?_ (F.args_enumerate_next_1 _))));change wpAny _ _ (đ (.ref e) 2 >>= _) _ _ _;refine Jt (KI p S (x:=.ref c) S (Jt (oQ y g z C λh' x f r=>?_)));let⟨o,B,v⟩:=r;show Jt (Ŏ (T:="StopIteration") (b:=ř) ⟨o,B,v⟩ isSubtype_stop (JK (u _ f)))
end
noncomputable def nV(K:Â)(b:Bool)(a:Addr):It:=
 ⟨λi H=>∃xs x,SqB K b H a xs/\xs[i]?=Z x,λi H x c=>∃t y,H t=ŗ/\x=.ref t/\c=ap H t (.tup [.int i,y])/\∀xs,SqB K b H a xs->xs[i]?=Z y,λi H=>∃xs,SqB K b H a xs/\xs.length<=i⟩
def BD{P:Å}{w:È}{K:Â}{es:Y Ã}{k:Nat}{be:Ö}(b:Bool)(a e j:Addr)(L:e≠j):Turn P w K (.Tuple es k be) (nV K b a) [e,j] e (λi h=>(∃g,IsEnum h e j i g)/\SqI b h j a i) where
 mem:=by simp
 obj:=λi h st c f=>by
  let⟨⟨g,l⟩,A⟩:=st;rcases JI.mp f with rfl|f
  ·show⟨_,l,λv z=>by have z':û _=ï v:=z;cases z'⟩
  ·rw[JB.mp f];show A.obj
 keep:=λi h h' st k=>by let⟨⟨g,l⟩,A⟩:=st;show⟨⟨g,k e (by simp) _ l⟩,A.at λo q=>k j (by simp) o q⟩
 item:=by
  intro X R U Q f i r s σ H E I G st T;subst R U Q;let⟨xs,x,J,hx⟩:=T;let⟨⟨g,l⟩,A⟩:=st;let⟨its,rv,p,hz⟩:=I.sqb J;let⟨u,hu,ru⟩:=rv.get hx
  have Oh:a≠j:=λz=>by
   subst z
   have N:=p;have O:=A
   cases b<;>(let⟨o1,F,M,_⟩:=N;let⟨o2,e2,c2,_⟩:=O;rw[F]at e2;cases e2;rw[M]at c2;show absurd c2 (by simp))
  have Ve:a≠e:=λz=>by
   subst z;have N:=p;cases b<;>(let⟨o1,F,M,_⟩:=N;rw[l]at F;cases F;show absurd M (by simp))
  have Qh:i<its.toArray.size:=by have:i<its.length:=(Kr.mp hu).1;simpa using this
  have hh:X.A.in1.handled=ŗ:=I.ok.hd f;refine wpAny_pyNext_enum_itemD (Ek hh b j a Oh its.toArray) l ⟨A,p⟩ Qh L (by simp[L,Kz Ve]) λy h' C B ho OE hT hsz hk=>?_
  have a_:y=u:=by
   have:its.toArray[i]?=Z u:=by simpa using hu
   rw[this]at B;show (JY B).symm
  subst a_;refine⟨.ref s.heap.objs.size,S,wpAny_letOwnedTupleGo_enum ho λO Up OO=>?_⟩;have zn:H s.heap.objs.size=ŗ:=I.fresh
  have I1:Inv X r σ (ap H s.heap.objs.size (.tup [.int i,x])) { s with heap:=s.heap.push { cls:=.type "tuple",data:=.seq #[.int i C,y] },toks:=C }:=
   I.laid (λc o q=>Jz _ q) (Jx _) ⟨by change 2<=sizeLine;decide,[.int i C,y],.cons ⟨C,S⟩ (.cons ru .nil),_,JJ _ S,⟨S,S⟩,0,S⟩
  have Vf:∀c∈[e,j],c<s.heap.objs.size:=λc f=>by
   rcases JI.mp f with rfl|f
   ·show JP l
   ·rw[JB.mp f];show A.lt
  have f1:∀c∈[e,j],eE X r (ap H s.heap.objs.size (.tup [.int i,x])) c:=λc f=>⟨by rw[aY (J7 (Vf c f))];show (G c f).1,(G c f).2⟩;have I2:=I1.turnedL (h':=O) (ch:=[e,j]) (t':=C+1) (λc o f q=>?_) f1
  ·refine⟨.ref s.heap.objs.size,_,I2,S,⟨s.heap.objs.size,x,zn,S,S,λys a_=>by rwa[I.sqb_inj a_ J]⟩,⟨⟨_,by simpa using Up⟩,OE.1.at λo q=>(OO.2 j (Kz L)).trans q⟩,λc f=>(f1 c f).1⟩
  ·have RE:c≠e:=λz=>f (by simp[z]);have b_:c≠j:=λz=>f (by simp[z]);refine (OO.2 c RE).trans ?_;rcases Heap.get?_push_cases q with⟨z,z'⟩|q'
   ·subst z;subst z';show hT
   ·show hk c o RE b_ q'
 done:=by
  intro X R U Q f i r s σ H E I G st T;subst R U Q;let⟨xs,J,hx⟩:=T;let⟨⟨g,l⟩,A⟩:=st;let⟨its,rv,p,hz⟩:=I.sqb J;have hl:=rv.length;refine BR (I.ok.hd f) l A p (by simp;omega) λh' eb=>⟨S,?_⟩;show I.turnedL (ch:=[e,j]) (t':=s.toks) (λc o f q=>eb c o (λz=>f (by simp[z])) q) G
 self:=λ_ _ _ _ _ st h=>by let⟨⟨g,l⟩,_⟩:=st;show Ň l h
end L2
namespace L2
open PySem PySem.Spec PyProof.Rows
open AutoSeq1 (wpAny_loadPart')
structure ZAp(z TI TO i1 i2:Addr):Prop where
 a1:TI≠z
 a2:TO≠z
 a3:i1≠z
 a4:i2≠z
 a5:TI≠TO
 a6:TI≠i1
 a7:TI≠i2
 a8:TO≠i1
 a9:TO≠i2
 a0:i1≠i2
def SqI.but{b:Bool}{h h':Heap}{f a c:Addr}{i:Nat}(x:SqI b h f a i)(s:Heap.SameBut c h h')(n:f≠c):SqI b h' f a i:=x.at λo e=>(s.2 f n).trans e
def SqO.but{b:Bool}{h h':Heap}{a c:Addr}{its:Array Value}(x:SqO b h a its)(s:Heap.SameBut c h h')(n:a≠c):SqO b h' a its:=x.at λo e=>(s.2 a n).trans e
def SqO.ne{b:Bool}{h:Heap}{a c:Addr}{its:Array Value}{o:Õ}(x:SqO b h a its)(e:h.get? c=Z o)(n1:o.cls≠.type "list")(n2:o.cls≠.type "tuple"):a≠c:=λz=>by
 subst z;cases b<;>(let⟨o',g,f,_⟩:=x;rw[e]at g;cases g)
 ·show n2 f
 ·show n1 f
def SqO.ne_it{b f:Bool}{h:Heap}{a g l:Addr}{its:Array Value}{i:Nat}(x:SqO b h a its)(y:SqI f h g l i):a≠g:=by cases f<;>(let⟨o,e,c,_⟩:=y;show x.ne e (by rw[c];simp) (by rw[c];simp))
section
variable{prog:Å}{w:È}{A:Ê}{E:Value->À->Prop}{s:À}
def oH{c z t a b:Addr}(h:c∉[z,t,a,b]):c≠z/\c≠t/\c≠a/\c≠b:=by simpa using h
def lg(z t u a b:Addr):z∈[z,t,u,a,b]/\t∈[z,t,u,a,b]/\u∈[z,t,u,a,b]/\a∈[z,t,u,a,b]/\b∈[z,t,u,a,b]:=by simp
def vh{z t u a b x:Addr}(h:x∈[z,u,a,b]):x∈[z,t,u,a,b]:=(List.Sublist.cons₂ z (.cons t (.refl _))).subset h
def IO{I J:Bool}{z TI TO g h r l:Addr}{M N:Nat}{xs ys:Array Value}{x y a b:Value}{Q:Value->À->Prop}(D:ZAp z TI TO g h)
  (j:ç s.heap z TI TO .none) (R6:Ó s.heap TI (.ref g) (.ref h)) (R7:Ó s.heap TO a b) (n1:r≠TO) (n2:l≠TO)
  (h1:SqI I s.heap g r M) (h2:SqI J s.heap h l N) (Pk:SqO I s.heap r xs) (R:SqO J s.heap l ys) (hx:xs[M]?=Z x) (hy:ys[N]?=Z y)
  (hQ:∀h',ç h' z TI TO (ò s.heap.objs.size)->Ó h' TO x y->SqI I h' g r (M+1)->SqI J h' h l (N+1)->Ó h' s.heap.objs.size x y->h'.objs.size=s.heap.objs.size+1->
   (∀c o,c∉[z,TO,g,h]->s.heap.get? c=Z o->h'.get? c=Z o)->Q (.ref s.heap.objs.size) { s with heap:=h' }) :
  wpAny (Ä prog w) A (Builtin.«zip.__next__» ⟨[.ref z],[]⟩) (λb_ s'=>∃v,b_=.done (.ret v)/\Q v s') E s:=by
 have T:r≠z:=Pk.ne j (by simp) (by simp);have U:l≠z:=R.ne j (by simp) (by simp);have F:l≠g:=R.ne_it h1;change wpAny _ _ (đ (.ref z) 2 >>= _) _ _ _;refine Jt (KI j S (x:=.bool Ś) S ?_);change wpAny _ _ (đ (.ref z) 3 >>= _) _ _ _;refine Jt (KI j S (x:=.ref TI) S (Jt (Ls R6 S ?_)));change wpAny _ _ (Builtin.SmallTypes.ownedTupleIsFree (.ref z) >>= _) _ _ _;refine Jt ?_;unfold Builtin.SmallTypes.ownedTupleIsFree;refine Jt (KI j S (x:=.none) S (JK ?_));simp only[Mn];refine Jt (ď (Jt (KI j S (x:=.ref TO) S (Jt (Lw j (by simp) λg1 z1 p=>?_)))));replace z1:ç g1 z TI TO .ellipsis:=z1;refine Jt ?_;simp only[List.zipIdx_cons,List.zipIdx_nil,MM,NC];refine Jt (Jt (M7 ?_));change wpAny _ _ (Builtin.SmallTypes.nextOf (.ref g) >>= _) _ _ _;refine Jt (oz (h1.but p D.a3) (Pk.but p T) hx λg2 p2 u=>JK ?_);have t2:Ó g2 TO a b:=u.extBut _ _ D.a8 (p.extBut _ _ D.a2 R7);refine Jt (Ls t2 S (Jt (MN t2 λg3 be B=>Jt (ĵ (JK ?_)))));replace be:Ó g3 TO x b:=be;refine Jt (Jt (M7 ?_));change wpAny _ _ (Builtin.SmallTypes.nextOf (.ref h) >>= _) _ _ _;refine Jt (oz (((h2.but p D.a4).but u D.a0.symm).but B D.a9.symm) (((R.but p U).but u F).but B n2) hy λg4 p4 G=>JK ?_);have t4:Ó g4 TO x b:=G.extBut _ _ D.a9 be;refine Jt (Ls t4 S (Jt (MN t4 λf O H=>Jt (ĵ (JK (JK ?_))))));replace O:Ó f TO x y:=O;refine Jt (Ls O S (Jt (wpAny_newTuple ?_)))
 have sz:f.objs.size=s.heap.objs.size:=by rw[H.1,G.1,B.1,u.1,p.1]
 have z5:ç f z TI TO .ellipsis:=H.extBut _ _ D.a2.symm (G.extBut _ _ D.a4.symm (B.extBut _ _ D.a2.symm (u.extBut _ _ D.a3.symm z1)))
 have k5:∀c o,c∉[z,TO,g,h]->s.heap.get? c=Z o->f.get? c=Z o:=λc o L e=>by let⟨K,c2,c3,c4⟩:=oH L;show H.extBut _ _ c2 (G.extBut _ _ c4 (B.extBut _ _ c2 (u.extBut _ _ c3 (p.extBut _ _ K e))))
 have q1:SqI I f g r (M+1):=((p2.but B D.a8.symm).but G D.a0).but H D.a8.symm;have q2:SqI J f h l (N+1):=p4.but H D.a9.symm;change wpAny _ _ (Builtin.SmallTypes.ownedTupleHandOut (.ref z) (.ref f.objs.size) >>= _) _ _ _;refine Jt ?_;unfold Builtin.SmallTypes.ownedTupleHandOut;have z6:ç (f.push { cls:=.type "tuple",data:=.seq #[x,y] }) z TI TO .ellipsis:=Jz _ z5;refine Jt (Lw z6 (by simp) λg7 z7 X=>?_);replace z7:ç g7 z TI TO (ò f.objs.size):=z7;refine Lw z7 (by simp) λC P a_=>?_;replace P:ç C z TI TO (ò f.objs.size):=P;have up:∀c o,c≠z->f.get? c=Z o->C.get? c=Z o:=λc o K e=>a_.extBut _ _ K (X.extBut _ _ K (Jz _ e));have zl:f.objs.size≠z:=NM (JP z5);have t8:Ó C f.objs.size x y:=a_.extBut _ _ zl (X.extBut _ _ zl (JJ _ S))
 have e8:C.objs.size=f.objs.size+1:=by rw[a_.1,X.1,Kj]
 rw[sz]at P t8 e8;refine JK ⟨_,S,?_⟩;change Q (.ref f.objs.size) _;rw[sz];show hQ C P (up _ _ D.a2 O) (q1.at λo e=>up _ o D.a3 e) (q2.at λo e=>up _ o D.a4 e) t8 e8 λc o L e=>up c o (oH L).1 (k5 c o L e)
def Gy{a_ be:Bool}{z TI TO r y G C:Addr}{b_ T:Nat}{xs ys:Array Value}{a b:Value}{Q:Fin->À->Prop}(hh:A.handled=ŗ)(D:ZAp z TI TO r y)
  (l:ç s.heap z TI TO .none) (R6:Ó s.heap TI (.ref r) (.ref y)) (R7:Ó s.heap TO a b) (n1:G≠TO) (n2:C≠TO)
  (N:SqI a_ s.heap r G b_) (h2:SqI be s.heap y C T) (I:SqO a_ s.heap G xs) (J:SqO be s.heap C ys) (Pa:xs[b_]?=ŗ\/ys[T]?=ŗ)
  (hE:∀h' e,(∀c o,c∉[z,TO,r,y]->s.heap.get? c=Z o->h'.get? c=Z o)->(∃o,h'.get? e=Z o/\o.cls=.type "StopIteration")->E (.ref e) { s with heap:=h' }) :
  wpAny (Ä prog w) A (Builtin.«zip.__next__» ⟨[.ref z],[]⟩) Q E s:=by
 have B:G≠z:=I.ne l (by simp) (by simp);have U:C≠z:=J.ne l (by simp) (by simp);have F:C≠r:=J.ne_it N;change wpAny _ _ (đ (.ref z) 2 >>= _) _ _ _;refine Jt (KI l S (x:=.bool Ś) S ?_);change wpAny _ _ (đ (.ref z) 3 >>= _) _ _ _;refine Jt (KI l S (x:=.ref TI) S (Jt (Ls R6 S ?_)));change wpAny _ _ (Builtin.SmallTypes.ownedTupleIsFree (.ref z) >>= _) _ _ _;refine Jt ?_;unfold Builtin.SmallTypes.ownedTupleIsFree;refine Jt (KI l S (x:=.none) S (JK ?_));simp only[Mn];refine Jt (ď (Jt (KI l S (x:=.ref TO) S (Jt (Lw l (by simp) λg1 H f=>?_)))));replace H:ç g1 z TI TO .ellipsis:=H;refine Jt ?_;simp only[List.zipIdx_cons,List.zipIdx_nil,MM,NC];refine Jt (Jt (M7 ?_));change wpAny _ _ (Builtin.SmallTypes.nextOf (.ref r) >>= _) _ _ _
 cases R:xs[b_]? with
 |none=>
  refine Jt (oQ hh (N.but f D.a3) (I.but f B) R λM e g P=>?_);let⟨X,j,u⟩:=P;have z2:ç M z TI TO .ellipsis:=g _ _ D.a3.symm H
  have L:e≠z:=λq=>by subst q;rw[z2]at j;cases j;simp at u
  refine Lw z2 (by simp) λg3 _ p=>hE g3 e (λc o O q=>?_) ⟨X,p.extBut _ _ L j,u⟩;let⟨v,c2,K,c4⟩:=oH O;show p.extBut _ _ v (g _ _ K (f.extBut _ _ v q))
 |some x=>
  have hy:ys[T]?=ŗ:=by
   rcases Pa with h|h
   ·rw[R]at h;cases h
   ·show h
  refine Jt (oz (N.but f D.a3) (I.but f B) R λM p2 g=>JK ?_);have t2:Ó M TO a b:=g.extBut _ _ D.a8 (f.extBut _ _ D.a2 R7);refine Jt (Ls t2 S (Jt (MN t2 λg3 t3 p=>Jt (ĵ (JK ?_)))));refine Jt (Jt (M7 ?_));change wpAny _ _ (Builtin.SmallTypes.nextOf (.ref y) >>= _) _ _ _;refine Jt (oQ hh (((h2.but f D.a4).but g D.a0.symm).but p D.a9.symm) (((J.but f U).but g F).but p n2) hy λg4 e s4 P=>?_);let⟨X,j,u⟩:=P;have z4:ç g4 z TI TO .ellipsis:=s4 _ _ D.a4.symm (p.extBut _ _ D.a2.symm (g.extBut _ _ D.a3.symm H))
  have L:e≠z:=λq=>by subst q;rw[z4]at j;cases j;simp at u
  refine Lw z4 (by simp) λg5 _ s5=>hE g5 e (λc o O q=>?_) ⟨X,s5.extBut _ _ L j,u⟩;let⟨v,c2,K,c4⟩:=oH O;show s5.extBut _ _ v (s4 _ _ c4 (p.extBut _ _ c2 (g.extBut _ _ K (f.extBut _ _ v q))))
def FF(c l:Bool)(a j:Addr)(xs ys:Array Value) :
  Ō (Builtin.«zip.__new__» ⟨[.type "zip",.ref a,.ref j],[]⟩) (λ_ R s=>SqO c s.heap a xs/\SqO l s.heap j ys /\
   R (.ok (.ret (.ref (s.heap.objs.size+4)))) { s with heap:=((((s.heap.push (cX c a)).push (cX l j)).push { cls:=.type "tuple",data:=.seq #[.ref s.heap.objs.size,.ref (s.heap.objs.size+1)] }).push { cls:=.type "tuple",data:=.seq #[.none,.none] }).push { cls:=.type "zip",data:=.fields #[.none,.bool Ś,.bool Ś,.ref (s.heap.objs.size+2),.ref (s.heap.objs.size+3)] } }):=
 .of_wp λprog w A R s h=>by
  let⟨f,g,d,u,os⟩:=s;let⟨v,x,h⟩:=h;have z:=sub_zip;have p:SqO c (ċ ⟨f,g,d,u,os⟩) a xs:=v;have r:SqO l (ċ ⟨f.push (cX c a),g,d,u,os⟩) j ys:=SqO.at x λo e=>Jz _ e
  wp_walk using kA p,kA r
  have y:(f.push (cX c a)).objs.size=f.objs.size+1:=Kj ..
  have B:((f.push (cX c a)).push (cX l j)).objs.size=f.objs.size+2:=by rw[Kj,y]
  refine⟨_,S,?_⟩;simp only[Kj];show h
def Ig{a f:Bool}{e g:Addr}{xs ys:Array Value}{Q:Value->À->Prop}(K:SqO a s.heap e xs)(L:SqO f s.heap g ys)
  (h:∀h',ç h' (s.heap.objs.size+4) (s.heap.objs.size+2) (s.heap.objs.size+3) .none->Ó h' (s.heap.objs.size+2) (.ref s.heap.objs.size) (.ref (s.heap.objs.size+1))->Ó h' (s.heap.objs.size+3) .none .none->
   SqI a h' s.heap.objs.size e 0->SqI f h' (s.heap.objs.size+1) g 0->(∀c o,s.heap.get? c=Z o->h'.get? c=Z o)->Q (.ref (s.heap.objs.size+4)) { s with heap:=h' }) :
  wpAny (Ä prog w) A (call (.type "zip") [.ref e,.ref g]) Q E s:=by
 refine callType_new F.called_zip 'b' (F.typeCall_zip_2 _ _) (F.newCall_zip_2 _ _) (λobj=>F.args_object_init_3 obj _ _) F.entry_zip_new (FF a f e g xs ys) ⟨K,L,?_⟩
 have R:(cX a e).isFreed=Ś:=by cases a<;>rfl
 have a_:(cX f g).isFreed=Ś:=by cases f<;>rfl
 have I:(s.heap.push (cX a e)).objs.size=s.heap.objs.size+1:=Kj ..
 have C:((s.heap.push (cX a e)).push (cX f g)).objs.size=s.heap.objs.size+2:=by rw[Kj,I]
 generalize x:(s.heap.push (cX a e)).push (cX f g)=j at C ⊢
 have M:j.get? s.heap.objs.size=Z (cX a e):=by rw[←x];show Jz _ (JJ _ R)
 have N:j.get? (s.heap.objs.size+1)=Z (cX f g):=by rw[←x,←I];show JJ _ a_
 have T:∀c o,s.heap.get? c=Z o->j.get? c=Z o:=λc o q=>by rw[←x];show Jz _ (Jz _ q)
 generalize y:j.push { cls:=.type "tuple",data:=.seq #[.ref s.heap.objs.size,.ref (s.heap.objs.size+1)] }=l
 have J:l.objs.size=s.heap.objs.size+3:=by rw[←y,Kj,C]
 have O:Ó l (s.heap.objs.size+2) (.ref s.heap.objs.size) (.ref (s.heap.objs.size+1)):=by rw[←y,←C];show JJ _ S
 have B:∀c o,j.get? c=Z o->l.get? c=Z o:=λc o q=>by rw[←y];show Jz _ q
 generalize z:l.push { cls:=.type "tuple",data:=.seq #[.none,.none] }=p
 have U:p.objs.size=s.heap.objs.size+4:=by rw[←z,Kj,J]
 have P:Ó p (s.heap.objs.size+3) .none .none:=by rw[←z,←J];show JJ _ S
 have v:∀c o,l.get? c=Z o->p.get? c=Z o:=λc o q=>by rw[←z];show Jz _ q
 generalize r:p.push { cls:=.type "zip",data:=.fields #[.none,.bool Ś,.bool Ś,.ref (s.heap.objs.size+2),.ref (s.heap.objs.size+3)] }=H
 have G:ç H (s.heap.objs.size+4) (s.heap.objs.size+2) (s.heap.objs.size+3) .none:=by rw[←r,←U];show JJ _ S
 have u:∀c o,p.get? c=Z o->H.get? c=Z o:=λc o q=>by rw[←r];show Jz _ q
 change _/\_;show⟨⟨_,G,S⟩,h _ G (u _ _ (v _ _ O)) (u _ _ P) (jy (u _ _ (v _ _ (B _ _ M)))) (jy (u _ _ (v _ _ (B _ _ N)))) λc o q=>u _ _ (v _ _ (B _ _ (T _ _ q)))⟩
def zA{j l:Bool}{z TI TO e f g h:Addr}{p r:Nat}{xs ys:Array Value}{x y a b:Value}{Q:Ř Value->À->Prop}(D:ZAp z TI TO e f)
  (v:ç s.heap z TI TO .none) (G:Ó s.heap TI (.ref e) (.ref f)) (H:Ó s.heap TO a b) (n1:g≠TO) (n2:h≠TO)
  (P:SqI j s.heap e g p) (R:SqI l s.heap f h r) (B:SqO j s.heap g xs) (C:SqO l s.heap h ys) (T:xs[p]?=Z x) (U:ys[r]?=Z y)
  (a_:∀h',ç h' z TI TO (ò s.heap.objs.size)->Ó h' TO x y->SqI j h' e g (p+1)->SqI l h' f h (r+1)->Ó h' s.heap.objs.size x y->h'.objs.size=s.heap.objs.size+1->
   (∀c o,c∉[z,TO,e,f]->s.heap.get? c=Z o->h'.get? c=Z o)->Q (Z (.ref s.heap.objs.size)) { s with heap:=h' }):wpAny (Ä prog w) A (ó (.ref z)) Q E s:=by
 have u:s.TypeIs (.ref z) "zip":=⟨_,v,S⟩;unfold ó
 show Jt (ė (KU (name:=Str.ofString "__next__") u MO (Lq MO u F.entry_zip_next
  (IO D v G H n1 n2 P R B C T U λh' I J K L M N O=>JK (a_ h' I J K L M N O)) (F.args_zip_next_1 _))))
def HX{l p:Bool}{z TI TO f g h j:Addr}{v x:Nat}{xs ys:Array Value}{a b:Value}{Q:Ř Value->À->Prop}(N:A.handled=ŗ)(D:ZAp z TI TO f g)
  (u:ç s.heap z TI TO .none) (G:Ó s.heap TI (.ref f) (.ref g)) (H:Ó s.heap TO a b) (n1:h≠TO) (n2:j≠TO)
  (I:SqI l s.heap f h v) (J:SqI p s.heap g j x) (B:SqO l s.heap h xs) (C:SqO p s.heap j ys) (y:xs[v]?=ŗ\/ys[x]?=ŗ)
  (K:∀h',(∀c o,c∉[z,TO,f,g]->s.heap.get? c=Z o->h'.get? c=Z o)->Q ŗ { s with heap:=h' }):wpAny (Ä prog w) A (ó (.ref z)) Q E s:=by
 have r:s.TypeIs (.ref z) "zip":=⟨_,u,S⟩;unfold ó;refine Jt (ė (KU (name:=Str.ofString "__next__") r MO (Lq MO r F.entry_zip_next (Gy N D u G H n1 n2 I J B C y λh' e O M=>?_) (F.args_zip_next_1 _))));let⟨o,P,L⟩:=M;show Jt (Ŏ (T:="StopIteration") (b:=ř) ⟨o,P,L⟩ isSubtype_stop (JK (K _ O)))
end
def Inv.sqb_ne{X:Cx}{g:Y (Addr×Õ)}{p:St}{H:Hp}{s:À}{b:Bool}{a c:Addr}{xs:Y V}(I:Inv X g p H s)(h:SqB X.K b H a xs)(f:eE X g H c):a≠c:=λz=>by
 subst z
 have l:∀o,X.K.lookup a=Z o->False:=λo e=>by
  have j:=I.mod.kin a o e;rcases f.2.2.2.1 with q|q
  ·show I.ok.noex a o j q
  ·show absurd (Ka (JP j) (JR I.ok.bsz q)) (K9 _)
 cases b with
 |true=>
  rcases h with (h|⟨o,h⟩)|⟨o,_,_,h,_⟩
  ·rw[f.1]at h;cases h
  ·rw[f.1]at h;cases h
  ·show l o h
 |false=>
  rcases h with (h|⟨o,h⟩)|⟨o,_,_,h,_⟩
  ·rw[f.1]at h;cases h
  ·rw[f.1]at h;cases h
  ·show l o h
noncomputable def rY(K:Â)(a:Bool)(a1:Addr)(c:Bool)(a2:Addr):It:=
 ⟨λi H=> ∃xs ys x y, SqB K a H a1 xs /\ SqB K c H a2 ys /\ xs[i]? = Z x /\ ys[i]? = Z y,
  λi H v e=> ∃t x y, H t = ŗ /\ v = .ref t /\ e = ap H t (.tup [x, y]) /\ (∀xs, SqB K a H a1 xs-> xs[i]? = Z x) /\ ∀ys, SqB K c H a2 ys-> ys[i]? = Z y,
  λi H=> ∃xs ys, SqB K a H a1 xs /\ SqB K c H a2 ys /\ (xs.length <= i \/ ys.length <= i)⟩
def yd{P:Å}{w:È}{K:Â}{es:Y Ã}{k:Nat}{pos:Ö}(b1 b2:Bool)(a1 a2 z TI TO g j:Addr)(D:ZAp z TI TO g j) :
  Turn P w K (.Tuple es k pos) (rY K b1 a1 b2 a2) [z,TI,TO,g,j] z (λi h=>ç h z TI TO .none/\Ó h TI (.ref g) (.ref j)/\(∃a b,Ó h TO a b)/\SqI b1 h g a1 i/\SqI b2 h j a2 i) where
 mem:=JA
 obj:=λi h st c f=>by
  let⟨r,p,⟨a,b,A⟩,B,C⟩:=st;simp only[JI,Lu,or_false]at f;rcases f with rfl|rfl|rfl|rfl|rfl
  ·show⟨_,r,λv q=>by have G:û _=ï v:=q;cases G⟩
  ·show⟨_,p,λv q=>by have G:ù _ _=ï v:=q;cases G⟩
  ·show⟨_,A,λv q=>by have G:ù _ _=ï v:=q;cases G⟩
  ·show B.obj
  ·show C.obj
 keep:=λi h h' st k=>by
  let⟨r,p,⟨a,b,A⟩,B,C⟩:=st;have M:=lg z TI TO g j;show⟨k z M.1 _ r,k TI M.2.1 _ p,⟨a,b,k TO M.2.2.1 _ A⟩,B.at λo q=>k g M.2.2.2.1 o q,C.at λo q=>k j M.2.2.2.2 o q⟩
 item:=by
  intro X U hw T f i l s σ H E I F st be;subst U hw T;let⟨xs,ys,x,y,J,L,hx,hy⟩:=be;let⟨r,p,⟨a,b,A⟩,B,C⟩:=st;let⟨Sa,R,p1,_⟩:=I.sqb J;let⟨OT,b_,p2,_⟩:=I.sqb L;let⟨u,hu,ru⟩:=R.get hx;let⟨v,hv,rv⟩:=b_.get hy;refine zA D r p A (I.sqb_ne J (F TO (lg z TI TO g j).2.2.1)) (I.sqb_ne L (F TO (lg z TI TO g j).2.2.1)) B C p1 p2 (x:=u) (y:=v) (by simpa using hu) (by simpa using hv) λh' z1 z2 z3 z4 z5 z6 O=>?_;refine⟨.ref s.heap.objs.size,S,wpAny_letOwnedTupleGo_zip z1 λg2 zz N=>?_⟩;have zn:H s.heap.objs.size=ŗ:=I.fresh
  have I1:Inv X l σ (ap H s.heap.objs.size (.tup [x,y])) { s with heap:=s.heap.push { cls:=.type "tuple",data:=.seq #[u,v] },toks:=s.toks }:=
   I.laid (λc o q=>Jz _ q) (Jx _) ⟨by change 2<=sizeLine;decide,[u,v],.cons ru (.cons rv .nil),_,JJ _ S,⟨S,S⟩,0,S⟩
  have Vf:∀c∈[z,TI,TO,g,j],c<s.heap.objs.size:=λc f=>by
   simp only[JI,Lu,or_false]at f;rcases f with rfl|rfl|rfl|rfl|rfl
   ·show JP r
   ·show JP p
   ·show JP A
   ·show B.lt
   ·show C.lt
  have f1:∀c∈[z,TI,TO,g,j],eE X l (ap H s.heap.objs.size (.tup [x,y])) c:=λc f=>⟨by rw[aY (J7 (Vf c f))];show (F c f).1,(F c f).2⟩;have I2:=I1.turnedL (h':=g2) (ch:=[z,TI,TO,g,j]) (t':=s.toks) (λc o f q=>?_) f1
  ·refine⟨.ref s.heap.objs.size,_,I2,S,⟨s.heap.objs.size,x,y,zn,S,S,λxs' Q=>by rwa[I.sqb_inj Q J],λys' Q=>by rwa[I.sqb_inj Q L]⟩,
    ⟨zz,N.extBut _ _ D.a1 (O TI _ (by simp[D.a1,D.a5,D.a6,D.a7]) p),⟨_,_,N.extBut _ _ D.a2 z2⟩,z3.but N D.a3,z4.but N D.a4⟩,λc f=>(f1 c f).1⟩
  ·have a_:c≠z:=λe=>f (e▸JA);refine (N.2 c a_).trans ?_;rcases Heap.get?_push_cases q with⟨e,e'⟩|G
   ·subst e;subst e';show z5
   ·show O c o (λe=>f (vh e)) G
 done:=by
  intro X U hw T f i l s σ H E I F st be;subst U hw T;let⟨xs,ys,J,L,Pa⟩:=be;let⟨r,p,⟨a,b,A⟩,B,C⟩:=st;let⟨Sa,R,p1,_⟩:=I.sqb J;let⟨OT,b_,p2,_⟩:=I.sqb L;have l1:=R.length;have l2:=b_.length
  have he:Sa.toArray[i]?=ŗ\/OT.toArray[i]?=ŗ:=by
   rcases Pa with q|q
   ·show .inl (by simp;omega)
   ·show .inr (by simp;omega)
  refine HX (I.ok.hd f) D r p A (I.sqb_ne J (F TO (lg z TI TO g j).2.2.1)) (I.sqb_ne L (F TO (lg z TI TO g j).2.2.1)) B C p1 p2 he λh' O=>⟨S,?_⟩;refine I.turnedL (ch:=[z,TI,TO,g,j]) (t':=s.toks) (λc o f q=>O c o (λe=>f (vh e)) q) F
 self:=λ_ _ _ _ _ st h=>ō st.1 h
def Gi(n:Nat):ZAp (n+4) (n+2) (n+3) n (n+1):=
 ⟨(by omega:n+2≠n+4),(by omega:n+3≠n+4),(by omega:n≠n+4),(by omega:n+1≠n+4),(by omega:n+2≠n+3),(by omega:n+2≠n),(by omega:n+2≠n+1),(by omega:n+3≠n),(by omega:n+3≠n+1),(by omega:n≠n+1)⟩
end L2
namespace L2
open PySem PySem.Spec PyProof.Rows
section
variable{X:Cx}
def C3:b9 X (Ï .Mult) (rI Ā λi j=>.int (i*j)):=mT λ_ _ _ _ _ _ _ a q=>mul_int q a
noncomputable def CDivB(i j:Int):Prop:=0<j/\j.natAbs.log2<9000
def zP:b9 X (Ï .FloorDiv) (rI CDivB λi j=>.int (i/j)):=mT λi j _ _ _ _ _ a q=>by have c:(0:Int)<j:=a.1;show floordiv_int () (by rwa[Int.fdiv_eq_ediv_of_nonneg i ()]) (.inl (PyProof.noPylong_of_log2 a.2))
end
def vg{n k:Nat}(a:0<k)(h:n<2^k):n.log2<k:=by
 rcases Nat.eq_zero_or_pos n with z|z
 ·subst z;simpa using a
 ·show (Nat.log2_lt (NM z)).mpr h
def CDivB.of{i j:Int}(a:0<j)(h:j<2^9000):CDivB i j:=⟨a,vg 'b' (by
 have e:(j.natAbs:Int)=j:=Int.natAbs_of_nonneg (Int.le_of_lt a)
 have:(j.natAbs:Int)<((2^9000:Nat):Int):=by rw[e];exact_mod_cast h
 exact_mod_cast this)⟩
def vM{a:Int}{k:Nat}(c:0<k)(h:a.natAbs<2^k):Builtin.Int.intBits a<=k:=by
 unfold Builtin.Int.intBits;split
 ·show Lh _
 ·show vg c h
def Dz{a b:Int}{m n:Nat}(f:0<m)(g:0<n)(c:a.natAbs<2^m)(e:b.natAbs<2^n)(h:m+n<=134217728):Ā a b:=PyProof.Rows.mulOk_of_bits (vM f c) (vM g e) h
def gE{a b:Int}(c:-(2^64)<a)(e:a<2^64):Ā a b:=.of_left (intBits_le_64 c e)
def mj{a b:Int}(c:-(2^64)<b)(e:b<2^64):Ā a b:=.of_right (intBits_le_64 c e)
section
variable{prog:Å}{w:È}{A:Ê}{E:Value->À->Prop}{s:À}
theorem wO{e t:Addr}{a:Array Value}(h:t≠e):∀(n i:Nat)(s:À)(Q:Y Value->À->Prop),s.heap.IsListIter e t i->s.heap.IsList t a->i+n<=a.size->
  (∀h',h'.IsListIter e t (i+n)->Heap.SameBut e s.heap h'->Q ((a.toList.drop i).take n) { s with heap:=h' })->wpAny (Ä prog w) A (draw (.ref e) n) Q E s
 |0,i,s,Q,c,_,_,f=>by change wpAny _ _ (pure []) Q E s;show JK (by simpa using f s.heap c (Heap.SameBut.refl ..))
 |n+1,i,s,Q,c,j,r,f=>by
  have g:i<a.size:=by omega
  change wpAny _ _ (ó (.ref e) >>= _) Q E s;refine Jt (Mt c j (x:=a[i]) (by simp[g]) λy o l=>?_);refine Jt (Le (wO h n (i+1) _ _ o (j.extBut l.extBut h) () λp v u=>JK ?_))
  have hd:a.toList.drop i=a[i]::a.toList.drop (i+1):=by simp[Nb,g]
  have:=f p (by rwa[show i+(n+1)=i+1+n by omega]) (l.trans u);rw[hd,List.take_succ_cons]at this;show this
def C7{t:Addr}{a:Array Value}{Q:Y Value->À->Prop}(y:A.handled=ŗ)(c:s.heap.IsList t a)
  (x:∀h',Heap.ExtBut s.heap.objs.size s.heap h'->Q a.toList { s with heap:=h' }):wpAny (Ä prog w) A (unpackItems (.ref t) a.size ŗ) Q E s:=by
 have g:t≠s.heap.objs.size:=by let⟨o,z,_⟩:=c;show J7 (JP z)
 unfold unpackItems;refine Jt ?_;unfold notIterableAtAll;refine Jt (Œ c.typeIs slot_list_iter.lookup (JK ?_));simp only[Ĥ,NK];refine Jt (Le (Ms c (Jt (Le (wO g a.size 0 _ _ ⟨_,JJ _ S,S,S⟩ (c.push _) () λu p j=>?_)))))
 have l:List.take a.size (List.drop 0 a.toList)=a.toList:=by rw[MU];show Lb (by simp)
 rw[l,Jv (by simp)];have f:u.IsList t a:=(c.push _).extBut j.extBut g;refine Jt (Le (MC y p f (by simp) λv r=>?_));simp only[Option.isSome_none,Ĥ,NK];show JK (x v λb o h e=>r b o h (j.extBut b o h (Jz _ e)))
end
section
variable{X:Cx}{c:Ö}
noncomputable def pH(K:Â)(n:Nat)(t:fF):TG:=λv e H Q=>∃a xs,v=.ref a/\SqL K H a xs/\xs.length=n/\t xs e H Q
def Cd{es:Y Ã}{k:Nat}{t:fF}{n:Nat}(z:X.calm=ř)(h:PGs X es t)
  (B:(Æ es X.env).length=n:=by rfl) (w:(Æ es X.env).findIdx? (·.1)=ŗ:=by rfl):PG X (.Tuple es k c) (pH X.K n t):=by
 intro f s l H v u Q I r g;let⟨a,xs,y,C,A,g⟩:=g;subst y;cases r;let⟨its,j,E,G⟩:=I.list C;rw[assign_Tuple];refine Jt (M5 ?_);unfold unpack
 have x:(Æ es X.env).length=its.toArray.size:=by simp[B,←A,j.length]
 rw[x,w];refine Jt (Le (C7 (I.ok.hd z) E.isList λh' F=>?_));have p:Inv X f l H { s with heap:=h' }:=I.kept (t':=s.toks) λb o e=>F b o (J7 (JP e)) e;show h f _ l H xs _ Q p (by simpa using j) g
end
inductive IsiV(K:Â)(H:Hp):V->String->Bool->Prop where
 |int_int (i):IsiV K H (.int i) "int" ř
 |int_bool (i):IsiV K H (.int i) "bool" Ś
 |int_tuple (i):IsiV K H (.int i) "tuple" Ś
 |int_str (i):IsiV K H (.int i) "str" Ś
 |bl_int (b):IsiV K H (.bl b) "int" ř
 |bl_bool (b):IsiV K H (.bl b) "bool" ř
 |bl_tuple (b):IsiV K H (.bl b) "tuple" Ś
 |str_str (x):IsiV K H (.str x) "str" ř
 |str_tuple (x):IsiV K H (.str x) "tuple" Ś
 |tup_tuple {a xs}:SqT K H a xs->IsiV K H (.ref a) "tuple" ř
 |tup_int {a xs}:SqT K H a xs->IsiV K H (.ref a) "int" Ś
 |lst_tuple {a xs}:SqL K H a xs->IsiV K H (.ref a) "tuple" Ś
 |lst_list {a xs}:SqL K H a xs->IsiV K H (.ref a) "list" ř
noncomputable def we(K:Â):Y V->Hp->VK->Prop:=λvs H Q=>∃x T b,vs=[x,.ty T]/\IsiV K H x T b/\Q (.bl b) H
def AC{x y:V}{us:Y Value}(r:Vals [x,y] us):∃u v,us=[u,v]/\RelV x u/\RelV y v:=by
 cases r with
 |cons r rr=>
  cases rr with
  |cons a rr=>cases rr;show⟨_,_,S,r,a⟩
def AV{X:Cx}:dZ X (.builtin "isinstance") (we X.K):=by
 intro g s l H xs us Q I r h;let⟨x,T,b,rfl,hi,q⟩:=h;let⟨u,v,rfl,f,j⟩:=AC r;have j:v=.type T:=j;subst j;have a:∀(c:Bool)(t:Nat),Q (.bl c) H->EP X g l Q (.bool c) { s with toks:=t }:=λc t q=>⟨.bl c,H,I.tok t,S,q⟩
 cases hi with
 |int_int i=>let⟨t,rfl⟩:=f;show IsiPair.int_int (a _ s.toks q)
 |int_bool i=>let⟨t,rfl⟩:=f;show IsiPair.int_bool (a _ _ q)
 |int_tuple i=>let⟨t,rfl⟩:=f;show IsiPair.int_tuple (a _ _ q)
 |int_str i=>let⟨t,rfl⟩:=f;show IsiPair.int_str (a _ _ q)
 |bl_int b=>cases f;show IsiPair.bool_int (a _ s.toks q)
 |bl_bool b=>cases f;show IsiPair.bool_bool (a _ s.toks q)
 |bl_tuple b=>cases f;show IsiPair.bool_tuple (a _ _ q)
 |str_str x=>let⟨t,rfl⟩:=f;show IsiPair.str_str (a _ s.toks q)
 |str_tuple x=>let⟨t,rfl⟩:=f;show IsiPair.str_tuple (a _ _ q)
 |tup_tuple h=>
  cases f;let⟨its,_,p,_⟩:=I.tuple h;show MP (Ŕ (Tx:="tuple") F.isi_meta_tuple F.sub_tuple_tuple) ⟨p.typeIs,a _ s.toks q⟩
 |tup_int h=>
  cases f;let⟨its,_,⟨o,e,c,_⟩,_⟩:=I.tuple h;show MP (isinstance_false_tuple 'a' F.isi_meta_int F.sub_tuple_int) ⟨⟨o,e,c⟩,a _ _ q⟩
 |lst_tuple h=>
  cases f;let⟨its,_,p,_⟩:=I.list h;let⟨o,e,c,_⟩:=p.isList;show MP (isinstance_false_list 'a' F.isi_meta_tuple F.sub_list_tuple) ⟨⟨o,e,c⟩,a _ _ q⟩
 |lst_list h=>
  cases f;let⟨its,_,p,_⟩:=I.list h;show MP (Ŕ (Tx:="list") F.isi_meta_list F.sub_list_list) ⟨p.isList.typeIs,a _ s.toks q⟩
def ph{prog:Å}{w:È}{A:Ê}(r:A.handled=ŗ)(b:Bool)(j a:Addr)(p:a≠j)(its:Array Value):Walks prog w A j [j,a] [j] its.size (λi v=>its[i]?=Z v) (λi h=>SqI b h j a i/\SqO b h a its) where
 sub:=λc f=>by rw[JB.mp f];simp
 frame:=λ_ _ _ st k=>⟨st.1.at λo e=>k j (by simp) o e,st.2.at λo e=>k a (by simp) o e⟩
 item:=λi s Q E hi st g=>by
  cases b with
  |true=>show Mt st.1 st.2 (x:=its[i]) (by simp[hi]) λh' q sb=>g _ h' s.toks (by simp[hi]) ⟨q,SqO.at (b:=ř) st.2 λo e=>(sb.2 a p).trans e⟩ λc o f e=>(sb.2 c λz=>f (by simp[z])).trans e
  |false=>show Ĝ st.1 st.2 (x:=its[i]) (by simp[hi]) λh' q sb=>g _ h' s.toks (by simp[hi]) ⟨q,SqO.at (b:=Ś) st.2 λo e=>(sb.2 a p).trans e⟩ λc o f e=>(sb.2 c λz=>f (by simp[z])).trans e
 done:=λs Q E st g=>by
  cases b with
  |true=>show MC r st.1 st.2 (by simp) λh' l=>g h' s.toks λc o f e=>l c o (λz=>f (by simp[z])) e
  |false=>show Ħ r st.1 st.2 (by simp) λh' l=>g h' s.toks λc o f e=>l c o (λz=>f (by simp[z])) e
 self:=λi s Q E st g=>by
  cases b with
  |true=>show į st.1 g
  |false=>show ħ st.1 g
def p9{x:V}{us:Y Value}(r:Vals [x] us):∃u,us=[u]/\RelV x u:=by
 cases r with
 |cons r rr=>cases rr;show⟨_,S,r⟩
theorem sT(val:Nat->Int)(ns:Y Int)(h:∀i n,ns[i]?=Z n->val i=n):∀k,k<=ns.length->preSum val k=(ns.take k).sum
 |0,_=>by simp[preSum]
 |k+1,c=>by
  have a:k<ns.length:=c;have e:=h k ns[k] (by simp[a]);rw[preSum,sT val ns h k (KQ a),e,Mz a,List.sum_append];simp
noncomputable def Df(K:Â)(b:Bool):Y V->Hp->VK->Prop:=λvs H Q=>∃(a:Addr)(ns:Y Int),vs=[.ref a]/\SqB K b H a (ns.map V.int)/\Q (.int ns.sum) H
def EN(b:Bool){X:Cx}(L:X.calm=ř):dZ X (.builtin "sum") (Df X.K b):=by
 intro B s σ H xs us Q I r h;let⟨a,ns,rfl,R,q⟩:=h;let⟨u,rfl,T⟩:=p9 r;cases T;let⟨its,g,p,a_⟩:=I.sqb R;refine call_sum_walkAnyS (kA p ?_);have C:a≠s.heap.objs.size:=J7 p.lt;have W:=ph (prog:=X.prog) (w:=X.w) (A:=X.A.in1) (I.ok.hd L) b s.heap.objs.size a C its.toArray
 have b_:∀(i:Nat)(v:Value),its.toArray[i]?=Z v->∃t,v=.int (ns.getD i 0) t:=λi v e=>by
  have l:its[i]?=Z v:=by simpa using e
  have hi:i<ns.length:=by
   have:=(Kr.mp l).1;have:=g.length;rw[Jp]at this;omega
  let⟨be,y,K⟩:=g.get (i:=i) (x:=V.int (ns.getD i 0)) (by simp[hi]);rw[l]at y;cases y;show K
 have ln:its.toArray.size=ns.length:=by have:=g.length;rw[Jp]at this;simp[this]
 refine⟨s.heap.objs.size,[s.heap.objs.size,a],[s.heap.objs.size],_,its.toArray.size,_,_,λi=>ns.getD i 0,S,W.toS,⟨jy (JJ _ (by cases b<;>rfl)),p.at λo e=>Jz _ e⟩,λc f=>?_,b_,λU t' O=>?_⟩
 ·rw[Kj];rcases JI.mp f with rfl|f
  ·show LI _
  ·rw[JB.mp f];show LD p.lt
 ·let⟨N,M,hd,P,_⟩:=O;let⟨h',g',d',j,E⟩:=U;have F:g'=s.gens:=M;have G:d'=s.drawn:=hd;have J:E=s.os:=P;subst F G J;refine⟨.int ns.sum,H,I.kept (h':=h') (t':=j) λc o e=>N c o (λz=>?_) (Jz _ e),⟨t',?_⟩,q⟩
  ·rw[JB.mp z]at e;show absurd (JP e) (K9 _)
  ·rw[ln,sT (λi=>ns.getD i 0) ns (λi n e=>by
    change ns.getD i 0=n
    rw[JD,e];rfl) ns.length (Jx _),KL]
noncomputable def wu(K:Â)(b:Bool)(f:Y Bool->Bool):Y V->Hp->VK->Prop:=λvs H Q=>∃(a:Addr)(bs:Y Bool),vs=[.ref a]/\SqB K b H a (bs.map V.bl)/\Q (.bl (f bs)) H
def wj{prog:Å}{w:È}{A:Ê}{its:Array Value}{bs:Y Bool}(g:Vals (bs.map V.bl) its.toList):TruthOf prog w A (λi v=>its[i]?=Z v) (λi=>bs.getD i Ś):=by
 intro i v s Q E e q
 have c:its.toList[i]?=Z v:=by simpa using e
 have hi:i<bs.length:=by
  have:=(Kr.mp c).1;have:=g.length;rw[Jp]at this;omega
 let⟨h,f,a⟩:=g.get (i:=i) (x:=V.bl (bs.getD i Ś)) (by simp[hi]);rw[c]at f;cases f;have a:v=.bool (bs.getD i Ś):=a;subst a;show LC q
def B2(bs:Y Bool):(List.range bs.length).all (λi=>bs.getD i Ś)=bs.all id:=by
 rw[Nu];simp only[K7,JU,id];constructor
 ·intro h x a;let⟨i,hi,rfl⟩:=List.mem_iff_getElem.mp a;have:=h i hi;simpa [hi] using this
 ·intro h i hi;have:=h bs[i] (Lv hi);simpa [hi] using this
def xZ(bs:Y Bool):(List.range bs.length).any (λi=>bs.getD i Ś)=bs.any id:=by
 rw[Nu];simp only[L4,JU,id];constructor
 ·rintro⟨i,hi,h⟩;show⟨bs[i],Lv hi,by simpa [hi] using h⟩
 ·rintro⟨x,a,h⟩;let⟨i,hi,rfl⟩:=List.mem_iff_getElem.mp a;show⟨i,hi,by simpa [hi] using h⟩
def En(b:Bool){X:Cx}(l:X.calm=ř):dZ X (.builtin "all") (wu X.K b λbs=>bs.all id):=by
 intro f s E H xs us Q I r h;let⟨a,bs,rfl,x,q⟩:=h;let⟨u,rfl,y⟩:=p9 r;cases y;let⟨its,g,p,C⟩:=I.sqb x;have j:a≠s.heap.objs.size:=J7 p.lt
 have ln:its.toArray.size=bs.length:=by have:=g.length;rw[Jp]at this;simp[this]
 have W:=ph (prog:=X.prog) (w:=X.w) (A:=X.A.in1) (I.ok.hd l) b s.heap.objs.size a j its.toArray;refine call_all_walk (kA p ⟨s.heap.objs.size,[s.heap.objs.size,a],[s.heap.objs.size],its.toArray.size,_,_,λi=>bs.getD i Ś,S,W,⟨jy (JJ _ (by cases b<;>rfl)),p.at λo e=>Jz _ e⟩,wj (by simpa using g),λh' B v=>?_⟩);rw[ln,B2];refine⟨.bl (bs.all id),H,I.kept (h':=h') (t':=B) λc o e=>v c o (λz=>?_) (Jz _ e),S,q⟩;rw[JB.mp z]at e;show absurd (JP e) (K9 _)
def Hm(b:Bool){X:Cx}(l:X.calm=ř):dZ X (.builtin "any") (wu X.K b λbs=>bs.any id):=by
 intro f s E H xs us Q I r h;let⟨a,bs,rfl,x,q⟩:=h;let⟨u,rfl,y⟩:=p9 r;cases y;let⟨its,g,p,C⟩:=I.sqb x;have j:a≠s.heap.objs.size:=J7 p.lt
 have ln:its.toArray.size=bs.length:=by have:=g.length;rw[Jp]at this;simp[this]
 have W:=ph (prog:=X.prog) (w:=X.w) (A:=X.A.in1) (I.ok.hd l) b s.heap.objs.size a j its.toArray;refine call_any_walk (kA p ⟨s.heap.objs.size,[s.heap.objs.size,a],[s.heap.objs.size],its.toArray.size,_,_,λi=>bs.getD i Ś,S,W,⟨jy (JJ _ (by cases b<;>rfl)),p.at λo e=>Jz _ e⟩,wj (by simpa using g),λh' B v=>?_⟩);rw[ln,xZ];refine⟨.bl (bs.any id),H,I.kept (h':=h') (t':=B) λc o e=>v c o (λz=>?_) (Jz _ e),S,q⟩;rw[JB.mp z]at e;show absurd (JP e) (K9 _)
noncomputable def bV(N:Y Str)(a scope:â)(N':Y Str)(cap:Y (Ř Nat)):Bool:=
 decide (scope.kind=.function)&&scope.names.all (λx=>decide (x.2=.cell->scope.names.lookup x.1=Z .cell))&&scope.names.all (λx=>decide (x.2=.local->scope.names.lookup x.1=Z .local)) &&
  scope.names.all (λx=>decide (x.2=.free->a.names.lookup x.1=Z .cell/\scope.names.lookup x.1=Z .free))&&decide N'.Nodup&&decide (cap.length=N'.length) &&
  (cap.zip N').all λp=>match p.1 with|none=>ř|some i=>decide (N[i]?=Z p.2/\(p.2,NameKind.free)∈scope.names)
def CompScope.ok{N:Y Str}{f scope:â}{N':Y Str}{cap:Y (Ř Nat)}(h:bV N f scope N' cap=ř):CompScope N f scope N' cap:=by
 unfold bV at h;simp only[KJ,LV,K7]at h;let⟨⟨⟨⟨⟨⟨g,j⟩,l⟩,e⟩,o⟩,r⟩,u⟩:=h;refine⟨g,j,l,λx c a=>(e x c a).1,λx c a=>(e x c a).2,o,r,λp v i hi=>?_⟩;have:=u p v;rw[hi]at this;simpa using this
def c8{H:Hp}{p:Addr}(h:H p=ŗ)(o:HO):Same H (ap H p o):=λb u q=>by rwa[aY (cY q h)]
def vU{H a:Hp}{p:Addr}(s:Same H a)(h:H p=ŗ)(o:HO):Same H (ap a p o):=λb u q=>by rw[aY (cY q h)];show s b u q
def Same.sqt{K:Â}{H c:Hp}{a:Addr}{xs:Y V}(e:Same H c)(h:SqT K H a xs):SqT K c a xs:=SqB.same (b:=Ś) e h
def small{n:Nat}(h:n<=1000):n<=sizeLine:=KQ (bi h)
def dP{p:Prop}[Decidable p](h:decide p=ř):p:=Kc h
def gR{a:Type}{xs:Y a}{i:Nat}{x:a}(h:xs[i]?=Z x):xs.take (i+1)=xs.take i++[x]:=by let⟨hi,e⟩:=Kr.mp h;rw[Mz hi,e]
def aC{a:Type}{xs:Y a}{i:Nat}{x:a}(h:xs[i]?=Z x):i<xs.length:=(Kr.mp h).1
def fW{a:Type}{xs:Y a}{i:Nat}{x:a}{k:Int}(h:xs[i]?=Z x)(e:k=(i:Int)):cr xs k=Z x:=by subst e;show Ib h
noncomputable def bp(ns:Y Int):Int:=ns.foldl (λd x=>(Int.gcd x d:Int)) 0
def EO(xs:Y Int)(x:Int):bp (xs++[x])=(Int.gcd x (bp xs):Int):=by unfold bp;rw[LF];rfl
def Cp{g l:Int}(a:0<=g)(c:0<l):Int.gcd l (g % l)=Int.gcd g l:=by
 rw[Int.gcd_comm g l]
 have e:g % l=g-l*(g/l):=by have:=Int.emod_add_mul_ediv g l;omega
 rw[e];simpa using Int.gcd_sub_mul_right_right
def rG(ns:Y Int):0<=bp ns:=by
 have h:∀(ns:Y Int)(d:Int),0<=d->0<=ns.foldl (λd x=>(Int.gcd x d:Int)) d:=by
  intro ns
  induction ns with
  |nil=>intro d hd;show hd
  |cons x r a=>intro d _;show a _ (Int.natCast_nonneg _)
 show h ns 0 'b'
def oE(ns:Y Int):∀x∈ns,bp ns∣x:=by
 have h:∀(ns:Y Int)(d:Int),ns.foldl (λd x=>(Int.gcd x d:Int)) d∣d/\∀x∈ns,ns.foldl (λd x=>(Int.gcd x d:Int)) d∣x:=by
  intro ns
  induction ns with
  |nil=>intro d;show⟨Int.dvd_refl _,λx a=>absurd a Lu⟩
  |cons y r f=>
   intro d;let⟨c,e⟩:=f (Int.gcd y d:Int);refine⟨Int.dvd_trans c (Int.gcd_dvd_right ..),λx a=>?_⟩;rcases JI.mp a with rfl|a
   ·show Int.dvd_trans c (Int.gcd_dvd_left ..)
   ·show e x a
 show (h ns 0).2
noncomputable def av(es ns:Y Int):Int:=(List.zipWith (·*·) es ns).sum
noncomputable def cP{a:Type}(xs:Y a)(lo hi:Ř Int):Y a:=(xs.drop (HT.sIx xs.length 0 lo)).take (HT.sIx xs.length xs.length hi-HT.sIx xs.length 0 lo)
def G2{n:Nat}(h:0<n):fv n (-1)=Z (n-1):=by unfold fv;rw[Jv 'b',JC ()];congr 1;omega
def Vals.get'{xs:Y V}{us:Y Value}(r:Vals xs us){j:Nat}(h:j<us.length):∃x,xs[j]?=Z x/\RelV x us[j]:=by
 have f:=Vals.length r
 have a:j<xs.length:=by omega
 let⟨u,c,e⟩:=Vals.get (i:=j) (x:=xs[j]) r (by simp[a]);refine⟨xs[j],by simp[a],?_⟩;rw[Km h]at c;cases c;show e
section
variable{prog:Å}{w:È}{A:Ê}{E:Value->À->Prop}{s:À}
def DK{t b:Addr}{vs j:Y Value}{Q:Value->À->Prop}(u:ġ s.heap t vs.toArray)(r:ġ s.heap b j.toArray)(v:vs=[])(h:Q (.ref b) s):wpAny (Ä prog w) A (Ï .Add (.ref t) (.ref b)) Q E s:=by let⟨⟨cls,p,data,sl⟩,g,f,n,hd⟩:=id u;let⟨⟨x,l,data2,o⟩,c,e,n2,a⟩:=id r;simp only at f hd e a;subst f hd e a;show ĩ ⟨_,g,S⟩ ⟨_,c,S⟩ Nh Ę Mu Mp (Me _ _) (tuple_addW0 t b vs.toArray j.toArray n n2 p l sl o (by simp[v])) ⟨g,c,h⟩
end
theorem lu{A B:Nat}:∀{es ns:Y Int},(∀x∈es,x.natAbs<=A)->(∀y∈ns,y.natAbs<=B)->(av es ns).natAbs<=es.length*(A*B)
 | [],_,_,_=>by simp[av]
 |_::_,[],_,_=>by simp[av]
 |x::es,y::ns,c,f=>by
  have j:=lu (es:=es) (ns:=ns) (λz a=>c z (Jy _ a)) (λz a=>f z (Jy _ a))
  have e:av (x::es) (y::ns)=x*y+av es ns:=by simp[av]
  have g:(x*y).natAbs<=A*B:=by rw[MV];show Mo (c x JA) (f y JA)
  have h:=Int.natAbs_add_le (x*y) (av es ns);rw[e,JH,Ny];omega
def FZ{ns:Y Int}{m:Nat}(h:∀x∈ns,x.natAbs<m)(w:0<m):bp ns<m:=by
 by_cases c:bp ns=0
 ·omega
 ·have a:∃x∈ns,x≠0:=by
   refine Kt λn=>c ?_;have j:∀x∈ns,x=0:=λx a=>Kt λz=>n ⟨x,a,z⟩
   have:∀(l:Y Int) ,(∀x∈l,x=0)->l.foldl (λd x=>(Int.gcd x d:Int)) 0=0:=by
    intro l
    induction l with
    |nil=>intro _;rfl
    |cons y r o=>
     intro e;have:=e y JA;subst this;show o λx a=>e x (Jy _ a)
   show this ns j
  let⟨x,a,A⟩:=a;have f:=oE ns x a;have g:=Int.natAbs_dvd_natAbs.mpr f;have p:=Nat.le_of_dvd () g;have u:=h x a;have v:=rG ns;omega
theorem sR{g:Int}(a:g≠0):∀{es ns:Y Int},(∀x∈es,g∣x)->av es ns=g*av (es.map (·/g)) ns
 | [],_,_=>by simp[av]
 |_::_,[],_=>by simp[av]
 |x::es,y::ns,h=>by
  have j:=sR a (es:=es) (ns:=ns) λz f=>h z (Jy _ f)
  have e:∀(x y:Int)(es ns:Y Int),av (x::es) (y::ns)=x*y+av es ns:=λx y es ns=>by simp[av]
  let⟨k,c⟩:=h x JA;subst c;rw[JV,e,e,j,Int.mul_ediv_cancel_left _ a,Int.mul_add,Int.mul_assoc]
def nj{b g m:Int}(c:0<g):-(-b/g)<=m↔b<=g*m:=by have:=Nz (a:=-m) (b:=-b) c;rw[NA,Int.mul_comm m g]at this;omega
abbrev aq:=Y Int×Int
def DM{e:Type}(xs:Y e)(n:Nat):cP xs ŗ (Z (n:Int))=xs.take n:=by
 unfold cP;have a:HT.sIx xs.length 0 ŗ=0:=rfl;have c:HT.sIx xs.length xs.length (Z (n:Int))=min n xs.length:=HT.sIx_nat _ _ _;rw[a,c,MU,Nat.sub_zero];rcases Nat.le_total n xs.length with h|h
 ·rw[Nat.min_eq_left h]
 ·rw[Nat.min_eq_right h,KL,Lb h]
def Ft{e:Type}(xs:Y e)(n:Nat):cP xs (Z (n:Int)) ŗ=xs.drop n:=by
 unfold cP;have a:HT.sIx xs.length xs.length ŗ=xs.length:=rfl;have c:HT.sIx xs.length 0 (Z (n:Int))=min n xs.length:=HT.sIx_nat _ _ _;rw[a,c];rcases Nat.le_total n xs.length with h|h
 ·rw[Nat.min_eq_left h,Lb (by rw[Lf];omega)]
 ·rw[Nat.min_eq_right h,List.drop_length,List.drop_of_length_le h];simp
noncomputable def xh(K:Â):V->V->Hp->VK->Prop:=λx y H Q=>∃p xs i j v,x=.ref p/\y=.int i/\SqL K H p xs/\i=((j:Nat):Int)/\xs[j]?=Z v/\Q v H
def zX{X:Cx}:rf X (xh X.K):=by
 intro c s E H o i C B Q I u l h;let⟨p,xs,i,j,v,rfl,rfl,g,rfl,a,q⟩:=h;cases u;let⟨t,rfl⟩:=l;let⟨its,r,pl,A⟩:=I.list g;let⟨w,f,e⟩:=r.get a;have y:=r.length;have z:=iG;have x:=aC a;show wpAny_getItem_list pl.isList () () (by rw[KC];simpa using f) ⟨v,H,I,e,q⟩
def Ie(xs:Y V)(lo hi:Ř Int):iN xs lo hi=cP xs lo hi:=rfl
def eS{n j:Nat}(h:j<n):fv n (j:Int)=Z j:=by unfold fv;rw[JC (),JC (),KC]
def wB{a0 a1 a2}{a:Y Ã}{env:ë}:starEach (.BoolOp a0 a1 a2::a) env=(Ś,eval (.BoolOp a0 a1 a2) env)::starEach a env:=rfl
def bP{a0 a1 a2 a3}{a:Y Ã}{env:ë}:starEach (.BinOp a0 a1 a2 a3::a) env=(Ś,eval (.BinOp a0 a1 a2 a3) env)::starEach a env:=rfl
def iy{a0 a1 a2}{a:Y Ã}{env:ë}:starEach (.UnaryOp a0 a1 a2::a) env=(Ś,eval (.UnaryOp a0 a1 a2) env)::starEach a env:=rfl
def bx{a0 a1 a2 a3}{a:Y Ã}{env:ë}:starEach (.ListComp a0 a1 a2 a3::a) env=(Ś,eval (.ListComp a0 a1 a2 a3) env)::starEach a env:=rfl
def gI{a0 a1 a2 a3}{a:Y Ã}{env:ë}:starEach (.Compare a0 a1 a2 a3::a) env=(Ś,eval (.Compare a0 a1 a2 a3) env)::starEach a env:=rfl
def bg{a0 a1 a2 a3}{a:Y Ã}{env:ë}:starEach (.Call a0 a1 a2 a3::a) env=(Ś,eval (.Call a0 a1 a2 a3) env)::starEach a env:=rfl
def aD{a0 a1 a2}{a:Y Ã}{env:ë}:starEach (.Constant a0 a1 a2::a) env=(Ś,eval (.Constant a0 a1 a2) env)::starEach a env:=rfl
def aQ{a0 a1 a2}{a:Y Ã}{env:ë}:starEach (.Attribute a0 a1 a2::a) env=(Ś,eval (.Attribute a0 a1 a2) env)::starEach a env:=rfl
def aA{a0 a1 a2}{a:Y Ã}{env:ë}:starEach (.Subscript a0 a1 a2::a) env=(Ś,eval (.Subscript a0 a1 a2) env)::starEach a env:=rfl
def aa{a0 a1}{a:Y Ã}{env:ë}:starEach (.Name a0 a1::a) env=(Ś,eval (.Name a0 a1) env)::starEach a env:=rfl
def uV{a0 a1}{a:Y Ã}{env:ë}:starEach (.List a0 a1::a) env=(Ś,eval (.List a0 a1) env)::starEach a env:=rfl
def bI{a0 a1 a2}{a:Y Ã}{env:ë}:starEach (.Tuple a0 a1 a2::a) env=(Ś,eval (.Tuple a0 a1 a2) env)::starEach a env:=rfl
def ae{a:Ö}{env:ë}:(backTo a (starEach [] env)).any (·.1)=Ś:=rfl
def ar{a:Ö}{e:Ã}{es:Y Ã}{env:ë}(h:starEach (e::es) env=(Ś,eval e env)::starEach es env)(c:(backTo a (starEach es env)).any (·.1)=Ś):(backTo a (starEach (e::es) env)).any (·.1)=Ś:=by rwa[h]
def dl{a : Ö}{e : Ã}{env : ë}(h : starEach [e] env = (Ś, eval e env) :: starEach [] env) : ((backTo a (starEach [e] env)).all (λx=> !x.1)&&(Þ a (Ô [] env)).all (λx=>x.1.isSome)
      && decide ([e].length + ([] : Y Ù).length + (if ([] : Y Ù).isEmpty then 0 else 1) < 30)) = ř:= by
 rw[h];rfl
section
variable{X:Cx}{K:Â}
def CI(h:X.K=K):jS X (uG K):=h▸qQ
def DZ(h:X.K=K):dZ X (.builtin "isinstance") (we K):=h▸AV
end
end L2
namespace L2
open PySem PySem.Spec PyProof.Rows
section
variable{X:Cx}
def Hg:b9 X (É .Is) (λx y H Q=>∃a b:Bool,x=.bl a/\y=.bl b/\Q (.bl (a==b)) H):=by intro c s g H x y v u Q I e f h;let⟨a,b,rfl,rfl,q⟩:=h;cases e;cases f;show wpAny_is_plain S (oB I q (by cases a<;>cases b<;>rfl))
def zw:b9 X (É .IsNot) (λx y H Q=>∃a b:Bool,x=.bl a/\y=.bl b/\Q (.bl (!(a==b))) H):=by intro c s g H x y v u Q I e f h;let⟨a,b,rfl,rfl,q⟩:=h;cases e;cases f;show wpAny_isNot_plain S (oB I q (by cases a<;>cases b<;>rfl))
end
end L2
namespace PySem
open Sem (wp)
open Builtin
open AutoSeq1 (wpAny_loadPart')
def Ao:fillsNumberSlot (.type "tuple") "mul"=pure Ś:=
 fillsNumberSlot_seq (id:="tuple.__mul__") (r:=Z (.builtin "tuple.__rmul__")) L5.lookup 'a' F.slot_tuple_rmul.lookup 'a'
def Ff:seqRepeat? (.type "tuple")=pure (Z (.builtin "tuple.__mul__")):=by unfold seqRepeat?;rw[seqSlot_of (T:="tuple") (name:="__mul__") (id:="tuple.__mul__") L5.lookup 'a',seqSlot_of (T:="tuple") (name:="__rmul__") (id:="tuple.__rmul__") F.slot_tuple_rmul.lookup 'a'];rfl
def xK(a:Int)(t:Ł)(l:Addr)(c:Array Value)(n:Nat)(e:Ř Addr)(sl:Array (Ř Value)) :
  Ō (Builtin.«int.__rmul__» ⟨[.int a t,.ref l],[]⟩) (λ_ R s=>s.heap.get? l=Z { cls:=.type "tuple",dict:=e,data:=.seq c n,slots:=sl }/\R (.ok (.ret Value.notImplemented)) s):=
 .of_wp λprog w A R s h=>by let⟨j,g,d,o,os⟩:=s;let⟨f,h⟩:=h;wp_walk;show⟨_,S,h⟩
def DJ(l:Addr)(a:Array Value)(n:Nat)(c:Ř Addr)(sl:Array (Ř Value))(u:Ł) :
  Ō (Builtin.«tuple.__mul__» ⟨[.ref l,.int 1 u],[]⟩) (λ_ R s=>s.heap.get? l=Z { cls:=.type "tuple",dict:=c,data:=.seq a n,slots:=sl }/\R (.ok (.ret (Value.ref l))) s):=
 .of_wp λprog w A R s h=>by let⟨o,g,d,p,os⟩:=s;let⟨e,h⟩:=h;have f:=Ni;have j:=Mf;wp_walk using Ks e;show⟨_,S,h⟩
def Il(l:Addr)(a:Array Value)(n:Nat)(f:Ř Addr)(sl:Array (Ř Value))(k:Int)(u:Ł)(e:¬ (decide (k < -(2^63)) ||decide (k≥2^63))=ř)(o:¬ (a.isEmpty ||k==1)=ř)(j:(decide (k<=0) ||a.isEmpty)=ř) :
  Ō (Builtin.«tuple.__mul__» ⟨[.ref l,.int k u],[]⟩) (λ_ R s=>s.heap.get? l=Z { cls:=.type "tuple",dict:=f,data:=.seq a n,slots:=sl }/\R (.ok (.ret (Value.ref s.heap.objs.size))) { s with heap:=s.heap.push { cls:=Value.type "tuple",data:=ù #[] },toks:=s.toks }):=
 .of_wp λprog w A R s h=>by let⟨v,g,d,x,os⟩:=s;let⟨c,h⟩:=h;have p:=Ni;have r:=Mf;wp_walk using Ks c;refine Nv (JX e) ?_;wp_walk using Ks c;show⟨_,S,h⟩
def FT(l:Addr)(a:Array Value)(n:Nat)(p:Ř Addr)(sl:Array (Ř Value))(k:Int)(u:Ł)(o:¬ (decide (k < -(2^63)) ||decide (k≥2^63))=ř)(x:¬ (a.isEmpty ||k==1)=ř)(v:¬ (decide (k<=0) ||a.isEmpty)=ř)(c:¬ (a.size*k>(2^63-1)/8))(r:¬ Builtin.Tuple.tupleTooMany (a.size*k)=ř)(hsz:(List.foldl (λf j=>f++j) #[] (List.replicate k.toNat a)).size<=sizeLine) :
  Ō (Builtin.«tuple.__mul__» ⟨[.ref l,.int k u],[]⟩) (λ_ R s=>s.heap.get? l=Z { cls:=.type "tuple",dict:=p,data:=.seq a n,slots:=sl }/\R (.ok (.ret (Value.ref s.heap.objs.size))) { s with heap:=s.heap.push { cls:=Value.type "tuple",data:=ù (List.foldl (λf j=>f++j) #[] (List.replicate k.toNat a)) },toks:=s.toks }):=
 .of_wp λprog w A R s h=>by let⟨B,g,d,C,os⟩:=s;let⟨e,h⟩:=h;have y:=Ni;have z:=Mf;wp_walk using Ks e;refine Nv (JX o) ?_;wp_walk using Ks e;refine Nv (JX c) ?_;wp_walk using Ks e;show⟨_,S,h⟩
end PySem
namespace L2
open PySem PySem.Spec PyProof.Rows
inductive D where
 |int (i:Int)|bl (b:Bool)|str (x:Str)|non|tup (xs:List D)|lst (xs:List D)|fzl (xs:List D)|obj (nm:Str) (fs:List (Str×D))|map (NV:List (az×D))|exc (nm:Str) (ats:List D)
noncomputable def wx(a C:Addr)(c:Ř Addr):Heap->Prop:=λh=>∃o vs,h.get? a=Z o/\o.cls=.ref C/\o.dict=c/\o.data=.fields vs
inductive Rp(K:Â)(H:Hp):D->V->Prop where
 |int (i:Int):Rp K H (.int i) (.int i)
 |bl (b:Bool):Rp K H (.bl b) (.bl b)
 |str (x:Str):Rp K H (.str x) (.str x)
 |non:Rp K H .non .non
 |tup {a:Addr} {vs:List V} {ds:List D}:H a=Z (.tup vs)->vs.length=ds.length->(∀(i:Nat)(v:V)(d:D),vs[i]?=Z v->ds[i]?=Z d->Rp K H d v)->Rp K H (.tup ds) (.ref a)
 |lst {a:Addr} {vs:List V} {ds:List D}:H a=Z (.lst vs)->vs.length=ds.length->(∀(i:Nat)(v:V)(d:D),vs[i]?=Z v->ds[i]?=Z d->Rp K H d v)->Rp K H (.lst ds) (.ref a)
 |fzl {a:Addr} {vs:List V} {ds:List D}:SqL K H a vs->vs.length=ds.length->(∀(i:Nat)(v:V)(d:D),vs[i]?=Z v->ds[i]?=Z d->Rp K H d v)->Rp K H (.fzl ds) (.ref a)
 |obj {a C dx:Addr} {nm:Str} {vs:List (Str×V)} {fs:List (Str×D)}:Ò K Á nm=Z (Z (.ref C))->H a=Z (.ins C dx vs)->vs.map (·.1)=fs.map (·.1)->(∀(i:Nat)(v:Str×V)(d:Str×D),vs[i]?=Z v->fs[i]?=Z d->Rp K H d.2 v.2)->Rp K H (.obj nm fs) (.ref a)
 |map {a:Addr} {ws:List (az×V)} {NV:List (az×D)}:H a=Z (.dK ws)->ws.map (·.1)=NV.map (·.1)->(∀(i:Nat)(w:az×V)(d:az×D),ws[i]?=Z w->NV[i]?=Z d->Rp K H d.2 w.2)->Rp K H (.map NV) (.ref a)
 |exc0 {a C:Addr} {nm:Str}:Ò K Á nm=Z (Z (.ref C))->H a=Z (.ext (wx a C ŗ))->Rp K H (.exc nm []) (.ref a)
 |exc1 {a C p:Addr} {nm:Str} {v:V} {d:D}:Ò K Á nm=Z (Z (.ref C))->H a=Z (.ext (wx a C (Z p)))->H p=Z (.xd [("at",v)])->Rp K H d v->Rp K H (.exc nm [d]) (.ref a)
noncomputable def RpL(K:Â)(H:Hp)(ds:Y D)(vs:Y V):Prop:=vs.length=ds.length/\∀(i:Nat)(v:V)(d:D),vs[i]?=Z v->ds[i]?=Z d->Rp K H d v
section
variable{K:Â}{H l Φ j y A w z:Hp}{d:D}{v:V}{ds es:Y D}{vs B:Y V}
def Rp.i{n:Int}(h:Rp K H (.int n) v):v=.int n:=by cases h;rfl
def Rp.b{b:Bool}(h:Rp K H (.bl b) v):v=.bl b:=by cases h;rfl
def Rp.s{x:Str}(h:Rp K H (.str x) v):v=.str x:=by cases h;rfl
def Rp.n(h:Rp K H .non v):v=.non:=by cases h;rfl
def jf{P:Int->Prop}(h:match d with|.int n=>P n|_=>False):∃n,d=.int n/\P n:=by
 cases d with
 |int n=>show⟨n,S,h⟩
 |_=>show h.elim
def jc{P:Bool->Prop}(h:match d with|.bl n=>P n|_=>False):∃n,d=.bl n/\P n:=by
 cases d with
 |bl n=>show⟨n,S,h⟩
 |_=>show h.elim
def Rp.same(s:Same H l)(h:Rp K H d v):Rp K l d v:=by
 induction h with
 |int i=>show .int i
 |bl b=>show .bl b
 |str x=>show .str x
 |non=>show .non
 |tup a c _ e=>show .tup (s _ _ a) c e
 |lst a c _ e=>show .lst (s _ _ a) c e
 |fzl a c _ e=>show .fzl (s.seq a) c e
 |obj f a c _ e=>show .obj f (s _ _ a) c e
 |map a c _ e=>show .map (s _ _ a) c e
 |exc0 f a=>show .exc0 f (s _ _ a)
 |exc1 f a c _ e=>show .exc1 f (s _ _ a) (s _ _ c) e
def RpL.same(s:Same H l)(h:RpL K H ds vs):RpL K l ds vs:=⟨h.1,λi v d a hd=>(h.2 i v d a hd).same s⟩
def RpL.nil:RpL K H [] []:=⟨S,λi v d a _=>by simp at a⟩
def RpL.cons(r:Rp K H d v)(h:RpL K H ds vs):RpL K H (d::ds) (v::vs):=⟨by simp[h.1],λi u e c a=>by
 cases i with
 |zero=>cases c;cases a;show r
 |succ i=>show h.2 i u e c a⟩
def RpL.append(h:RpL K H ds vs)(h':RpL K H es B):RpL K H (ds++es) (vs++B):=by
 refine⟨by rw[Jr,Jr,h.1,h'.1],λi u e f a=>?_⟩;rcases Kg i vs.length with c|c
 ·rw[Js c]at f;rw[Js (by rwa[←h.1])]at a;show h.2 i u e f a
 ·rw[Jq c]at f;rw[Jq (by rwa[←h.1]),←h.1]at a;show h'.2 _ u e f a
def RpL.one(r:Rp K H d v):RpL K H [d] [v]:=.cons r .nil
def RpL.take(h:RpL K H ds vs)(k:Nat):RpL K H (ds.take k) (vs.take k):=⟨by rw[Ke,Ke,h.1],λi u e a f=>by
 rcases Kg i k with c|c
 ·rw[Md c]at a f;show h.2 i u e a f
 ·rw[List.getElem?_take_eq_none c]at a
  cases a⟩
def RpL.drop(h:RpL K H ds vs)(k:Nat):RpL K H (ds.drop k) (vs.drop k):=⟨by rw[Lf,Lf,h.1],λi u e c a=>by
 rw[Mg]at c a
 show h.2 _ u e c a⟩
def RpL.set(h:RpL K H ds vs)(r:Rp K H d v)(k:Nat):RpL K H (ds.set k d) (vs.set k v):=⟨by rw[Ju,Ju,h.1],λi u e a f=>by
 by_cases c:k=i
 ·subst c
  have g:k<vs.length:=by have:=aC a;rwa [Ju]at this
  rw[JS g]at a;rw[JS (by rwa[←h.1])]at f;cases a;cases f;show r
 ·rw[JN c]at a f
  show h.2 i u e a f⟩
theorem RpL.rep(h:RpL K H ds vs):∀k:Nat,RpL K H (List.replicate k ds).flatten (List.replicate k vs).flatten
 |0=>.nil
 |k+1=>by rw[Kl,Kl,Kb,Kb];show h.append (RpL.rep h k)
def RpL.at(h:RpL K H ds vs){i:Nat}(e:ds[i]?=Z d):∃v,vs[i]?=Z v/\Rp K H d v:=by
 have hi:i<vs.length:=by rw[h.1];show aC e
 show⟨vs[i],by simp[hi],h.2 i _ d (by simp[hi]) e⟩
def RpL.cut(h:RpL K H ds vs)(lo hi:Ř Int):RpL K H (cP ds lo hi) (iN vs lo hi):=by rw[Ie];unfold cP;rw[h.1];show (h.drop _).take _
def RpL.tup{a:Addr}(h:RpL K H ds vs)(s:H a=Z (.tup vs)):Rp K H (.tup ds) (.ref a):=.tup s h.1 h.2
def RpL.lst{a:Addr}(h:RpL K H ds vs)(s:H a=Z (.lst vs)):Rp K H (.lst ds) (.ref a):=.lst s h.1 h.2
def RpL.fzl{a:Addr}(h:RpL K H ds vs)(s:SqL K H a vs):Rp K H (.fzl ds) (.ref a):=.fzl s h.1 h.2
def RpL.ints(ns:Y Int):RpL K H (ns.map D.int) (ns.map V.int):=⟨by simp,λi v d a hd=>by
 rw[JF]at a hd
 cases e:ns[i]? with
 |none=>rw[e]at a;cases a
 |some k=>rw[e]at a hd;cases a;cases hd;show .int k⟩
noncomputable def nr:HO->Prop|.lst _=>True|.dK _=>True|.dT _=>True|.ins _ _ _=>True|_=>False
structure Gr(Φ H j l:Hp):Prop where
 f:Same Φ j
 h:Same H l
 s:Same j l
 o:∀p (u:HO),H p=Z u->Φ p=ŗ->(k:nr u:=by trivial)->j p=ŗ
def Gr.refl(s:Same Φ H):Gr Φ H Φ H:=⟨Same.refl _,Same.refl _,s,λ_ _ _ h _=>h⟩
def Gr.trans(a:Gr Φ H y A)(b:Gr y A w z):Gr Φ H w z:=⟨a.f.trans b.f,a.h.trans b.h,b.s,λp u c e k=>b.o p u (a.h p _ c) (a.o p u c e k) k⟩
def Gr.join(a:Gr Φ H y A)(b:Gr y H w z):Gr Φ H w z:=⟨a.f.trans b.f,b.h,b.s,λp u c e k=>b.o p u c (a.o p u c e k) k⟩
def FG(s:Same Φ H){p:Addr}(o:HO):Same (ap Φ p o) (ap H p o):=λb u e=>by
 by_cases c:b=p
 ·subst c;rw[bo]at e ⊢;show e
 ·rw[aY c]at e ⊢;show s b u e
def Gr.new(s:Same Φ H){p:Addr}(a:H p=ŗ)(o:HO):Gr Φ H (ap Φ p o) (ap H p o):=
 ⟨c8 (s.free a) o,c8 a o,FG s o,λq u c e _=>by rwa[aY (cY c a)]⟩
def Gr.fresh(s:Same Φ H){p:Addr}(a:H p=ŗ)(o:HO):Gr Φ H Φ (ap H p o):=
 ⟨Same.refl _,c8 a o,λb u e=>c8 a o b u (s b u e),λ_ _ _ h _=>h⟩
def Gr.freeze(g:Gr Φ H j l){p:Addr}{o:HO}(h:H p=ŗ)(r:j p=ŗ)(x:l p=Z o):Gr Φ H (ap j p o) l:=
 ⟨g.f.trans (c8 r o),g.h,λb u e=>by
  by_cases c:b=p
  ·subst c;rw[bo]at e;cases e;show x
  ·rw[aY c]at e;show g.s b u e,λq u a f k=>by rw[aY (cY a h)];show g.o q u a f k⟩
def Gr.adoptT{p:Addr}{xs:Y V}(s:Same Φ H)(h:Same H l)(a:l p=Z (.tup xs)):∃j,Gr Φ H j l/\j p=Z (.tup xs):=by
 have f:∀u,Φ p=Z u->u=.tup xs:=λu e=>by have:=h _ _ (s _ _ e);rw[a]at this;cases this;rfl
 refine⟨ap Φ p (.tup xs),⟨λb u e=>?_,h,λb u e=>?_,λb u e n k=>?_⟩,bo⟩
 ·by_cases c:b=p
  ·subst c;rw[bo,f u e]
  ·rwa[aY c]
 ·by_cases c:b=p
  ·subst c;rw[bo]at e;cases e;show a
  ·rw[aY c]at e;show h _ _ (s _ _ e)
 ·by_cases c:b=p
  ·subst c;have:=h _ _ e;rw[a]at this;cases this;show k.elim
  ·rwa[aY c]
noncomputable def RpQ(K:Â)(Φ H:Hp)(d:D)(v:V):Prop:=Rp K Φ d v\/∃a vs ds,d=.lst ds/\v=.ref a/\H a=Z (.lst vs)/\RpL K Φ ds vs
def RpQ.gr(g:Gr Φ H j l)(h:RpQ K Φ H d v):RpQ K j l d v:=by
 rcases h with h|⟨a,vs,ds,e,c,f,o⟩
 ·show .inl (h.same g.f)
 ·show .inr ⟨a,vs,ds,e,c,g.h _ _ f,o.same g.f⟩
def RpQ.lst(s:Same Φ H)(h:RpQ K Φ H (.lst ds) v):∃a vs,v=.ref a/\H a=Z (.lst vs)/\RpL K Φ ds vs:=by
 rcases h with h|⟨a,vs,ds,e,g,c,f⟩
 ·cases h with|lst c f h3=>show⟨_,_,S,s _ _ c,f,h3⟩
 ·cases e;show⟨a,vs,g,c,f⟩
def RpQ.fzl(s:Same Φ H)(h:RpQ K Φ H (.fzl ds) v):∃a vs,v=.ref a/\SqL K H a vs/\RpL K Φ ds vs:=by
 rcases h with h|⟨a,vs,ds,e,g,c,f⟩
 ·cases h with|fzl c f h3=>show⟨_,_,S,s.seq c,f,h3⟩
 ·cases e
def RpQ.tup(s:Same Φ H)(h:RpQ K Φ H (.tup ds) v):∃a vs,v=.ref a/\SqT K H a vs/\Φ a=Z (.tup vs)/\RpL K Φ ds vs:=by
 rcases h with h|⟨a,vs,ds,e,g,c,f⟩
 ·cases h with|tup c f h3=>show⟨_,_,S,.of (s _ _ c),c,f,h3⟩
 ·cases e
def RpQ.int{i:Int}(h:RpQ K Φ H (.int i) v):v=.int i:=by
 rcases h with h|⟨a,vs,ds,e,_⟩
 ·obtain rfl:=h.i;rfl
 ·cases e
def RpQ.bl{i:Bool}(h:RpQ K Φ H (.bl i) v):v=.bl i:=by
 rcases h with h|⟨a,vs,ds,e,_⟩
 ·obtain rfl:=h.b;rfl
 ·cases e
def RpQ.str{i:Str}(h:RpQ K Φ H (.str i) v):v=.str i:=by
 rcases h with h|⟨a,vs,ds,e,_⟩
 ·obtain rfl:=h.s;rfl
 ·cases e
def RpQ.non(h:RpQ K Φ H .non v):v=.non:=by
 rcases h with h|⟨a,vs,ds,e,_⟩
 ·obtain rfl:=h.n;rfl
 ·cases e
noncomputable def dh:D->Ř (Y D)
 |.lst ds=>Z ds
 |.tup ds=>Z ds
 |.fzl ds=>Z ds
 |_=>ŗ
def RpQ.seq(s:Same Φ H)(h:RpQ K Φ H d v)(e:dh d=Z ds):∃a vs,v=.ref a/\(SqL K H a vs\/SqT K H a vs)/\RpL K Φ ds vs:=by
 cases d with
 |lst ds=>cases e;let⟨a,vs,e,c,f⟩:=h.lst s;show⟨a,vs,e,.inl (.of c),f⟩
 |tup ds=>cases e;let⟨a,vs,e,c,_,f⟩:=h.tup s;show⟨a,vs,e,.inr c,f⟩
 |fzl ds=>cases e;let⟨a,vs,e,c,f⟩:=h.fzl s;show⟨a,vs,e,.inl c,f⟩
 |_=>cases e
def Rp.seq(h:Rp K Φ d v)(e:dh d=Z ds):∃(b:Bool)(a:Addr)(vs:Y V),v=.ref a/\SqB K b Φ a vs/\RpL K Φ ds vs:=by
 cases d with
 |lst ds=>cases e;cases h with|lst h1 h2 h3=>show⟨ř,_,_,S,SqL.of h1,h2,h3⟩
 |tup ds=>cases e;cases h with|tup h1 h2 h3=>show⟨Ś,_,_,S,SqT.of h1,h2,h3⟩
 |fzl ds=>cases e;cases h with|fzl h1 h2 h3=>show⟨ř,_,_,S,h1,h2,h3⟩
 |_=>cases e
end
inductive Ow where|lst (xs:List D)|dct (ks:List az)|dcT (ks:List (List az))
inductive Sl where|v (d:D)|ob (o:Ow)
noncomputable abbrev Sl.own(xs:Y D):Sl:=.ob (.lst xs)
noncomputable abbrev Sl.dct(a:Y az):Sl:=.ob (.dct a)
noncomputable abbrev Sl.dcT(a:Y (Y az)):Sl:=.ob (.dcT a)
noncomputable def OwR(K:Â)(Φ:Hp):Ow->HO->Prop
 |.lst ds,.lst vs=>RpL K Φ ds vs
 |.dct c,.dK a=>a.map (·.1)=c
 |.dcT c,.dT a=>a.map (·.1)=c
 |_,_=>False
def OwR.k{K:Â}{Φ:Hp}{o:Ow}{u:HO}(r:OwR K Φ o u):nr u:=by
 cases o with
 |lst ds=>
  cases u with
  |lst vs=>show Ü
  |_=>show r.elim
 |dct c=>
  cases u with
  |dK a=>show Ü
  |_=>show r.elim
 |dcT c=>
  cases u with
  |dT a=>show Ü
  |_=>show r.elim
theorem OwR.same{K:Â}{Φ a:Hp}{o:Ow}{u:HO}(r:OwR K Φ o u)(s:Same Φ a):OwR K a o u:=by
 cases o with
 |lst ds=>
  cases u with
  |lst vs=>show (show RpL K Φ ds vs from r).same s
  |_=>show r.elim
 |dct e=>
  cases u with
  |dK c=>show r
  |_=>show r.elim
 |dcT e=>
  cases u with
  |dT c=>show r
  |_=>show r.elim
abbrev br:=Y (Ř Sl)
noncomputable def B6:FuncBody->Ř Ö
 |.stmts b=>(match b.getLast? with
  |some (.Return (Z (.Call _ _ a _)) _)=>a.findSome? λk=>(match k.value with|.Lambda _ _ _ pos=>Z pos|_=>ŗ)
  |_=>ŗ)
 |_=>ŗ
noncomputable def pU(K:Â)(x:Str):Ř (Addr×Array Value):=match Ò K Á x with
 |some (Z (.ref f))=>(match K.lookup f with
  |some ⟨_,_,.func e,_⟩=>(match e.code with
   |.ref c=>(match K.lookup c with
    |some ⟨_,_,.fields vs,_⟩=>(match (vs[11]?:Ř Value),B6 e.body with
     |some (.ref P),Z a=>Z (P,#[ò a.line,ò a.col,.str (e.qualname++".<locals>."++"<lambda>") 0])
     |_,_=>ŗ)
    |_=>ŗ)
   |_=>ŗ)
  |_=>ŗ)
 |_=>ŗ
noncomputable def qF(K:Â):Y (Addr×Array Value):=(["least_grown","greatest_first"]:Y Str).filterMap (pU K)
noncomputable def TabF(K:Â)(Φ:Hp):Prop:=∀t∈qF K,Φ t.1=Z (.tbl t.2)
def TabF.same{K:Â}{Φ a:Hp}(h:TabF K Φ)(s:Same Φ a):TabF K a:=λt c=>s _ _ (h t c)
structure EnvD(K:Â)(H0 Φ H:Hp)(σ:St)(ρ:br):Prop where
 fz:Same Φ H
 len:σ.length=ρ.length
 sl:∀(i:Nat)(d:D),ρ[i]?=Z (Z (.v d))->∃v,σ[i]?=Z (Z v)/\Rp K Φ d v
 ow:∀(i:Nat)(o:Ow),ρ[i]?=Z (Z (.ob o))->∃p u,σ[i]?=Z (Z (.ref p))/\H0 p=ŗ/\Φ p=ŗ/\H p=Z u/\OwR K Φ o u
 ne:∀(i j:Nat)(o w:Ow)(p:Addr),ρ[i]?=Z (Z (.ob o))->ρ[j]?=Z (Z (.ob w))->σ[i]?=Z (Z (.ref p))->σ[j]?=Z (Z (.ref p))->i=j
 tb:TabF K Φ
section
variable{K:Â}{f H C Φ A:Hp}{a:St}{ρ:br}{d:D}{v:V}{ds es:Y D}{vs B:Y V}
def EnvD.owl(E:EnvD K f Φ H a ρ)(i:Nat)(ds:Y D)(h:ρ[i]?=Z (Z (.own ds))):∃p vs,a[i]?=Z (Z (.ref p))/\f p=ŗ/\Φ p=ŗ/\H p=Z (.lst vs)/\RpL K Φ ds vs:=by
 let⟨p,u,e,c,g,j,r⟩:=E.ow i _ h
 cases u with
 |lst vs=>show⟨p,vs,e,c,g,j,r⟩
 |_=>show (show False from r).elim
def EnvD.gr(E:EnvD K f Φ H a ρ)(g:Gr Φ H A C):EnvD K f A C a ρ:=
 ⟨g.s,E.len,λi d h=>let ⟨v,e,r⟩:=E.sl i d h;⟨v,e,r.same g.f⟩,
  λi ds h=>let ⟨p,vs,e,h0,hn,hp,r⟩:=E.ow i ds h;⟨p,vs,e,h0,g.o p _ hp hn r.k,g.h _ _ hp,r.same g.f⟩,E.ne,E.tb.same g.f⟩
def cN{g:Type}{l:Y g}{i j:Nat}{x y:g}(h:(l.set i x)[j]?=Z y):(j=i/\i<l.length/\y=x)\/(j≠i/\l[j]?=Z y):=by
 by_cases c:i=j
 ·subst c
  have hi:i<l.length:=by have:=aC h;rwa [Ju]at this
  rw[JS hi]at h;cases h;show .inl ⟨S,hi,S⟩
 ·rw[JN c]at h;show .inr ⟨λe=>c e.symm,h⟩
def EnvD.set(E:EnvD K f Φ H a ρ)(r:Rp K Φ d v)(i:Nat):EnvD K f Φ H (a.set i (Z v)) (ρ.set i (Z (.v d))):=by
 have w:∀{j:Nat}{x:Ř V},j≠i->a[j]?=Z x->(a.set i (Z v))[j]?=Z x:=λc h=>by rwa[JN (Kz c)]
 refine⟨E.fz,by rw[Ju,Ju,E.len],λj e h=>?_,λj ds h=>?_,λj k ds es p l o y z=>?_,E.tb⟩
 ·rcases cN h with⟨rfl,hi,g⟩|⟨c,h⟩
  ·cases g;show⟨v,by rw[JS (by rwa[E.len])],r⟩
  ·let⟨u,I,J⟩:=E.sl j e h;show⟨u,w c I,J⟩
 ·rcases cN h with⟨rfl,hi,g⟩|⟨c,h⟩
  ·cases g
  ·let⟨p,vs,e,q⟩:=E.ow j ds h;show⟨p,vs,w c e,q⟩
 ·rcases cN l with⟨rfl,_,g⟩|⟨F,l⟩
  ·cases g
  rcases cN o with⟨rfl,_,g⟩|⟨G,o⟩
  ·cases g
  rw[JN (Kz F)]at y;rw[JN (Kz G)]at z;show E.ne j k ds es p l o y z
def EnvD.setOb(E:EnvD K f Φ H a ρ){p:Addr}{o:Ow}{u:HO}(r:OwR K Φ o u)(O:f p=ŗ)(R:Φ p=ŗ)(a_:H p=Z u)(I:∀(j:Nat)(w:Ow),ρ[j]?=Z (Z (.ob w))->a[j]?≠Z (Z (.ref p)))(i:Nat):EnvD K f Φ H (a.set i (Z (.ref p))) (ρ.set i (Z (.ob o))):=by
 have M:∀{j:Nat}{x:Ř V},j≠i->a[j]?=Z x->(a.set i (Z (.ref p)))[j]?=Z x:=λc h=>by rwa[JN (Kz c)]
 refine⟨E.fz,by rw[Ju,Ju,E.len],λj e h=>?_,λj ds h=>?_,λj k ds es q P L y l=>?_,E.tb⟩
 ·rcases cN h with⟨rfl,hi,g⟩|⟨c,h⟩
  ·cases g
  ·let⟨u,T,U⟩:=E.sl j e h;show⟨u,M c T,U⟩
 ·rcases cN h with⟨rfl,hi,g⟩|⟨c,h⟩
  ·cases g;show⟨p,u,by rw[JS (by rwa[E.len])],O,R,a_,r⟩
  ·let⟨p,vs,e,q⟩:=E.ow j ds h;show⟨p,vs,M c e,q⟩
 ·rcases cN P with⟨g,Q,_⟩|⟨N,J⟩
  ·rcases cN L with⟨G,_,_⟩|⟨F,z⟩
   ·rw[g,G]
   ·rw[g,JS (by rwa[E.len])]at y;cases y;rw[JN (Kz F)]at l;show absurd l (I k _ z)
  ·rw[JN (Kz N)]at y;rcases cN L with⟨G,Q,_⟩|⟨F,z⟩
   ·rw[G,JS (by rwa[E.len])]at l;cases l;show absurd y (I j _ J)
   ·rw[JN (Kz F)]at l;show E.ne j k _ _ q J z y l
def EnvD.putOb(E:EnvD K f Φ H a ρ){i:Nat}{p:Addr}{o o':Ow}{u:HO}(l:ρ[i]?=Z (Z (.ob o)))(F:a[i]?=Z (Z (.ref p)))(r:OwR K Φ o' u):EnvD K f Φ (ap H p u) a (ρ.set i (Z (.ob o'))):=by
 let⟨U,vs,e,L,G,R,_⟩:=E.ow i _ l;rw[F]at e;cases e;have hi:=aC l;refine⟨λb u e=>?_,by rw[Ju,E.len],λj e h=>?_,λj fs h=>?_,λj k fs gs q x y P Q=>?_,E.tb⟩
 ·rw[aY (cY e G)];show E.fz b u e
 ·rcases cN h with⟨rfl,_,w⟩|⟨c,h⟩
  ·cases w
  ·show E.sl j e h
 ·rcases cN h with⟨rfl,_,w⟩|⟨c,h⟩
  ·cases w;show⟨p,u,F,L,G,bo,r⟩
  ·let⟨q,us,e,M,N,T,O⟩:=E.ow j fs h;refine⟨q,us,e,M,N,?_,O⟩;rwa[aY λz=>c (E.ne j i fs o p h l (by rw[e,z]) F)]
 ·have g:∀{j:Nat}{fs:Ow},(ρ.set i (Z (.ob o')))[j]?=Z (Z (.ob fs))->∃gs,ρ[j]?=Z (Z (.ob gs)):=λ{j fs} h=>by
   rcases cN h with⟨rfl,_,_⟩|⟨_,h⟩
   ·show⟨o,l⟩
   ·show⟨fs,h⟩
  let⟨I,x⟩:=g x;let⟨J,y⟩:=g y;show E.ne j k I J q x y P Q
def EnvD.setOwn(E:EnvD K f Φ H a ρ){p:Addr}(r:RpL K Φ ds vs)(e:f p=ŗ)(g:Φ p=ŗ)(h:H p=Z (.lst vs))(c:∀(j:Nat)(w:Ow),ρ[j]?=Z (Z (.ob w))->a[j]?≠Z (Z (.ref p)))(i:Nat):EnvD K f Φ H (a.set i (Z (.ref p))) (ρ.set i (Z (.own ds))):=E.setOb (o:=.lst ds) (u:=.lst vs) r e g h c i
def EnvD.put(E:EnvD K f Φ H a ρ){i:Nat}{p:Addr}(c:ρ[i]?=Z (Z (.own ds)))(e:a[i]?=Z (Z (.ref p)))(r:RpL K Φ es B):EnvD K f Φ (ap H p (.lst B)) a (ρ.set i (Z (.own es))):=E.putOb (o':=.lst es) (u:=.lst B) c e r
def EnvD.weak{c:br}(E:EnvD K f Φ H a ρ)(l:c.length=ρ.length)(e:∀(i:Nat) x,c[i]?=Z (Z x)->ρ[i]?=Z (Z x)):EnvD K f Φ H a c:=
 ⟨E.fz,by rw[E.len,l],λi d h=>E.sl i d (e i _ h),λi ds h=>E.ow i ds (e i _ h),λi j ds es p hi g=>E.ne i j ds es p (e i _ hi) (e j _ g),E.tb⟩
end
inductive NF{α:Type}(x:α)(R:α->Prop):Prop|mk (y:α) (_:x=y) (_:R y)
def NF.get{a:Type}{x:a}{R:a->Prop}(h:NF x R):R x:=by let⟨_,rfl,h⟩:=h;show h
noncomputable abbrev TD:=br->(D->Prop)->Prop
noncomputable abbrev aT:=br->(Y D->Prop)->Prop
noncomputable abbrev cw:=br->(Bool->Prop)->Prop
inductive lE(K:Â)(t:TD)(σ:St)(H:Hp)(Q:VK):Prop|mk (H0:Hp) (Φ:Hp) (ρ:br) (R:D->Prop) (_:EnvD K H0 Φ H σ ρ) (_:t ρ R) (_:∀d Φ' H' v,R d->Gr Φ H Φ' H'->Rp K Φ' d v->Q v H')
inductive lQ(K:Â)(t:TD)(σ:St)(H:Hp)(Q:VK):Prop|mk (H0:Hp) (Φ:Hp) (ρ:br) (R:D->Prop) (_:EnvD K H0 Φ H σ ρ) (_:t ρ R) (_:∀d Φ' H' v,R d->Gr Φ H Φ' H'->RpQ K Φ' H' d v->Q v H')
inductive lF(K:Â)(t:aT)(σ:St)(H:Hp)(Q:VK):Prop|mk (H0:Hp) (Φ:Hp) (ρ:br) (R:List D->Prop) (_:EnvD K H0 Φ H σ ρ) (_:t ρ R) (_:∀ds Φ' H' p vs,R ds->Gr Φ H Φ' H'->H p=ŗ->Φ' p=ŗ->H' p=Z (.lst vs)->RpL K Φ' ds vs->Q (.ref p) H')
inductive lA(K:Â)(n:Nat)(t:aT)(σ:St)(H:Hp)(Q:List V->Hp->Prop):Prop|mk (H0:Hp) (Φ:Hp) (ρ:br) (R:List D->Prop) (_:EnvD K H0 Φ H σ ρ) (_:t ρ R) (_:∀ds Φ' H' vs,R ds->Gr Φ H Φ' H'->RpL K Φ' ds vs->ds.length=n->Q vs H')
inductive lT(K:Â)(t:cw)(σ:St)(H:Hp)(Q:Bool->Hp->Prop):Prop|mk (H0:Hp) (Φ:Hp) (ρ:br) (R:Bool->Prop) (_:EnvD K H0 Φ H σ ρ) (_:t ρ R) (_:∀b Φ' H',R b->Gr Φ H Φ' H'->Q b H')
structure PD(K:Â)(X:Cx)(e:Ã)(t:TD):Prop where pe:X.K=K->PE X e (lE K t)
structure PQ(K:Â)(X:Cx)(e:Ã)(t:TD):Prop where pe:X.K=K->PE X e (lQ K t)
structure PF(K:Â)(X:Cx)(e:Ã)(t:aT):Prop where pe:X.K=K->PE X e (lF K t)
structure PAD(K:Â)(X:Cx)(es:List Ã)(t:aT):Prop where pa:X.K=K->PA X es (lA K es.length t)
structure PTD(K:Â)(X:Cx)(e:Ã)(t:cw):Prop where pt:X.K=K->PT X e (lT K t)
structure PWD(K:Â)(X:Cx)(e:Ã)(t:cw):Prop where pw:X.K=K->PW X e (lT K t)
def PE.imp{X:Cx}{e:Ã}{t t':TE}(h:PE X e t)(k:∀c H Q,t' c H Q->t c H Q):PE X e t':=λa s c H Q I f=>h a s c H Q I (k c H Q f)
def PT.imp{X:Cx}{e:Ã}{t t':TT}(h:PT X e t)(k:∀c H Q,t' c H Q->t c H Q):PT X e t':=λa s c H Q I f=>h a s c H Q I (k c H Q f)
def PW.imp{X:Cx}{e:Ã}{t t':TT}(h:PW X e t)(k:∀c H Q,t' c H Q->t c H Q):PW X e t':=λg a s c H Q I f=>h g a s c H Q I (k c H Q f)
def PA.imp{X:Cx}{e:Y Ã}{t t':TA}(h:PA X e t)(k:∀c H Q,t' c H Q->t c H Q):PA X e t':=λf a s c H Q I g=>h f a s c H Q I (k c H Q g)
def PS.imp{X:Cx}{e:Ç}{t t':TS}(h:PS X e t)(k:∀D c H,t' D c H->t D c H):PS X e t':=λa s c H D I f=>h a s c H D I (k D c H f)
def PSs.imp{X:Cx}{e:Y Ç}{t t':TS}(h:PSs X e t)(k:∀D c H,t' D c H->t D c H):PSs X e t':=λa s c H D I f=>h a s c H D I (k D c H f)
section
variable{K:Â}{X:Cx}{e a b c:Ã}{es:Y Ã}{l:Ö}{t w tb:TD}{tf:aT}{A:aT}{z B:cw}
def PD.q(h:PD K X e t):PQ K X e t:=⟨λu=>(h.pe u).imp λx H Q p=>by let⟨o,Φ,ρ,R,E,t,k⟩:=p;show⟨o,Φ,ρ,R,E,t,λd f j v r g rr=>k d f j v r g (.inl rr)⟩⟩
noncomputable def nN(t:aT):TD:=λρ R=>t ρ λds=>R (.lst ds)
def PF.d(h:PF K X e tf):PD K X e (nN tf):=⟨λx=>(h.pe x).imp λF H Q u=>by let⟨o,Φ,ρ,R,E,t,k⟩:=u;show⟨o,Φ,ρ,_,E,t,λds C j p vs r g v f y rr=>
 k (.lst ds) _ j _ r (g.freeze v f y) ((rr.same (c8 f _)).lst bo)⟩⟩
noncomputable def vm(i:Nat):TD:=λρ R=>match ρ[i]? with|some (Z (.v d))=>R d|_=>False
noncomputable def nK(i:Nat):TD:=λρ R=>match ρ[i]? with|some (Z (.v d))=>R d|some (Z (.ob (.lst ds)))=>R (.lst ds)|_=>False
def dv(i:Nat){x:Str}(j:X.N[i]?=Z x:=by rfl)(o:cL X.env.scope x:=by nofun)(hd:ab x:=by decide)
  (f:fI x:=by decide):PD K X (.Name x l) (vm i):=⟨λ_=>(pv i j o hd f).imp λu H Q g=>by
 let⟨p,Φ,ρ,R,E,t,k⟩:=g;unfold vm at t;split at t
 ·next d h=>
  let⟨v,e,r⟩:=E.sl i d h;show⟨v,e,k d Φ H v t (.refl E.fz) r⟩
 ·show t.elim⟩
def ac(i:Nat){x:Str}(j:X.N[i]?=Z x:=by rfl)(u:cL X.env.scope x:=by nofun)(hd:ab x:=by decide)
  (f:fI x:=by decide):PQ K X (.Name x l) (nK i):=⟨λ_=>(pv i j u hd f).imp λC H Q g=>by
 let⟨y,Φ,ρ,R,E,t,k⟩:=g;unfold nK at t;split at t
 ·next d h=>
  let⟨v,e,r⟩:=E.sl i d h;show⟨v,e,k d Φ H v t (.refl E.fz) (.inl r)⟩
 ·next ds h=>
  let⟨p,vs,e,_,_,o,r⟩:=E.owl i ds h;show⟨_,e,k _ Φ H _ t (.refl E.fz) (.inr ⟨p,vs,ds,S,S,o,r⟩)⟩
 ·show t.elim⟩
def dC(d:D):TD:=λ_ R=>R d
def oX{v:V}{d:D}(h:PE X e (tC v))(r:∀Φ,Rp K Φ d v):PD K X e (dC d):=⟨λ_=>h.imp λj H Q f=>by let⟨g,Φ,ρ,R,E,t,k⟩:=f;show k d Φ H v t (.refl E.fz) (r Φ)⟩
def ah{i j}:PD K X (.Constant (.int i) j l) (dC (.int i)):=oX zH λ_=>.int i
def dc{i j}:PD K X (.Constant (.bool i) j l) (dC (.bl i)):=oX B5 λ_=>.bl i
def iM{i j}:PD K X (.Constant (.str i) j l) (dC (.str i)):=oX Eb λ_=>.str i
def bq{j}:PD K X (.Constant .none j l) (dC .non):=oX Ed λ_=>.non
noncomputable abbrev cR:=D->D->(D->Prop)->Prop
inductive lR2(K:Â)(r:cR)(x:V)(y:V)(H:Hp)(Q:VK):Prop|mk (Φ:Hp) (dx:D) (dy:D) (R:D->Prop) (_:Same Φ H) (_:RpQ K Φ H dx x) (_:RpQ K Φ H dy y) (_:r dx dy R) (_:∀d Φ' H' v,R d->Gr Φ H Φ' H'->Rp K Φ' d v->Q v H')
structure OpD(K:Â)(X:Cx)(f:Value->Value->Sem Value)(r:cR):Prop where o:X.K=K->b9 X f (lR2 K r)
noncomputable def jl(r:cR)(w tb:TD):TD:=λρ R=>w ρ λx=>tb ρ λy=>r x y R
def nG{r:cR}{F:St}{H:Hp}{Q:VK}(h:lE K (jl r w tb) F H Q):iS (lR2 K r) (lQ K w) (lQ K tb) F H Q:=by let⟨u,Φ,ρ,R,E,t,k⟩:=h;show⟨u,Φ,ρ,_,E,t,λI o P x N C L=>⟨u,o,ρ,_,E.gr C,N,λJ p U y O f M=>⟨p,I,J,R,f.s,L.gr f,M,O,λd j G v r g rr=>k d j G v r ((C.trans f).trans g) rr⟩⟩⟩
def aP{g:ÿ}{r:cR}(o:OpD K X (Ï g) r)(h:PQ K X a w)(j:PQ K X b tb):PD K X (.BinOp a g b l) (jl r w tb):=
 ⟨λf=>(rX (o.o f) (h.pe f) (j.pe f)).imp λ_ _ _=>nG⟩
def dU{g:Ĕ}{r:cR}(p:OpD K X (É g) r)(h:PQ K X a w)(j:PQ K X b tb)(o:behindInMarks g b=Ś):PD K X (.Compare a [g] [b] l) (jl r w tb):=
 ⟨λf=>(uO (p.o f) (h.pe f) (j.pe f) o).imp λ_ _ _=>nG⟩
noncomputable def tX(t:TD):cw:=λρ R=>t ρ λd=>match d with|.bl b=>R b|_=>False
def Db{r:cR}{j:St}{H:Hp}{Q:Bool->Hp->Prop}(h:lT K (tX (jl r w tb)) j H Q):pW (iS (lR2 K r) (lQ K w) (lQ K tb)) j H Q:=by let⟨p,Φ,ρ,R,E,t,k⟩:=h;refine nG ⟨p,Φ,ρ,_,E,t,λd f o v r g rr=>?_⟩;let⟨b,rfl,r⟩:=jc r;obtain rfl:=rr.b;show⟨b,S,k b f o r g⟩
def aR{g:Ĕ}{r:cR}(p:OpD K X (É g) r)(h:PQ K X a w)(j:PQ K X b tb)(o:behindInMarks g b=Ś):PTD K X (.Compare a [g] [b] l) (tX (jl r w tb)):=
 ⟨λf=>(uu (p.o f) (h.pe f) (j.pe f) o).imp λ_ _ _=>Db⟩
noncomputable abbrev qN:=D->(D->Prop)->Prop
def vW(r:qN)(w:TD):TD:=λρ R=>w ρ λx=>r x R
noncomputable def FO:qN:=λx R=>match x with|.int i=>R (.int (-i))|_=>False
def ef(u:PQ K X a w):PD K X (.UnaryOp .USub a l) (vW FO w):=⟨λr=>(Bz Af (u.pe r)).imp λC H Q o=>by let⟨h,Φ,ρ,R,E,t,k⟩:=o;show⟨h,Φ,ρ,_,E,t,λy g j x f p v=>by
 let⟨i,rfl,f⟩:=jf f
 show⟨i,v.int,k _ g j _ f p (.int _)⟩⟩⟩
noncomputable def AD:qN:=λx R=>match x with|.bl i=>R (.bl (!i))|_=>False
def vP(u:PQ K X a w):PD K X (.UnaryOp .Not a l) (vW AD w):=⟨λr=>(CB (u.pe r)).imp λC H Q o=>by let⟨h,Φ,ρ,R,E,t,k⟩:=o;show⟨h,Φ,ρ,_,E,t,λy g j x f p v=>by
 let⟨i,rfl,f⟩:=jc f
 show⟨i,v.bl,k _ g j _ f p (.bl _)⟩⟩⟩
noncomputable def qS:D->(Bool->Prop)->Prop:=λd R=>match d with
 |.int i=>R (i != 0)|.bl b=>R b|.non=>R Ś|.str x=>x.length<=sizeLine/\R ((x.length:Int) != 0)|.lst ds=>R (!ds.isEmpty)|.tup ds=>R (!ds.isEmpty)|.fzl ds=>R (!ds.isEmpty)|.obj _ _=>False|.map _=>False|.exc _ _=>False
def pz{Φ:Hp}{ds:Y D}{vs:Y V}(h:RpL K Φ ds vs):(!ds.isEmpty)=!vs.isEmpty:=by have:=h.1;cases ds<;>cases vs<;>simp_all
def xv{Φ H:Hp}{d:D}{v:V}{R:Bool->Prop}(s:Same Φ H)(h:RpQ K Φ H d v)(t:qS d R):∃k,qK K v H k/\R k:=by
 cases d with
 |int i=>rw[h.int];show⟨_,S,t⟩
 |bl i=>rw[h.bl];show⟨_,S,t⟩
 |non=>rw[h.non];show⟨_,S,t⟩
 |str i=>rw[h.str];show⟨_,⟨t.1,S⟩,t.2⟩
 |lst ds=>let⟨a,vs,rfl,f,g⟩:=h.lst s;show⟨_,.inl ⟨vs,.of f,S⟩,by rwa[←pz g]⟩
 |tup ds=>let⟨a,vs,rfl,f,_,g⟩:=h.tup s;show⟨_,.inr (.inl ⟨vs,f,S⟩),by rwa[←pz g]⟩
 |fzl ds=>let⟨a,vs,rfl,f,g⟩:=h.fzl s;show⟨_,.inl ⟨vs,f,S⟩,by rwa[←pz g]⟩
 |obj C fs=>show t.elim
 |map j=>show t.elim
 |exc _ _=>show t.elim
def Ev(t:TD):cw:=λρ R=>t ρ λd=>qS d R
def cu(y:PQ K X a w)(C:∀f,isTrue a X.env f=(do let v ←f;standAt a.pos;holding [v] (truthy v))):PTD K X a (Ev w):=
 ⟨λj=>(sX (y.pe j) C).imp λI H Q r=>by let⟨o,Φ,ρ,R,E,t,k⟩:=r;show⟨o,Φ,ρ,_,E,t,λd g p v G h F=>by
  let⟨b,u,x⟩:=xv h.s F G;rw[j]
  show⟨b,u,k b g p x h⟩⟩⟩
noncomputable def Da(t u:cw):cw:=λρ R=>t ρ λc=>(c=ř->u ρ R)/\(c=Ś->R Ś)
noncomputable def Cy(t u:cw):cw:=λρ R=>t ρ λc=>(c=ř->R ř)/\(c=Ś->u ρ R)
def zr(t:cw):cw:=λρ R=>t ρ λc=>R (!c)
def PWD.td(h:PWD K X e z):PTD K X e z:=⟨λf=>(h.pw f).pt⟩
def gZ(g:PTD K X a z):PWD K X (.BoolOp .And [a] l) z:=⟨λf=>wM (g.pt f)⟩
def iq(g:PTD K X a z):PWD K X (.BoolOp .Or [a] l) z:=⟨λf=>xt (g.pt f)⟩
def fq(x:PTD K X a z)(y:PWD K X (.BoolOp .And (b::es) l) B):PWD K X (.BoolOp .And (a::b::es) l) (Da z B):=
 ⟨λo=>(vz (x.pt o) (y.pw o)).imp λF H Q v=>by let⟨j,Φ,ρ,R,E,t,k⟩:=v;show⟨j,Φ,ρ,_,E,t,λc f u r g=>by
  cases c with
  |true=>rw[JC S];show⟨j,f,ρ,R,E.gr g,r.1 S,λb h p C g'=>k b h p C (g.trans g')⟩
  |false=>rw[Jv 'b'];show k _ f u (r.2 S) g⟩⟩
def en(x:PTD K X a z)(y:PWD K X (.BoolOp .Or (b::es) l) B):PWD K X (.BoolOp .Or (a::b::es) l) (Cy z B):=
 ⟨λo=>(tq (x.pt o) (y.pw o)).imp λF H Q v=>by let⟨j,Φ,ρ,R,E,t,k⟩:=v;show⟨j,Φ,ρ,_,E,t,λc f u r g=>by
  cases c with
  |true=>rw[JC S];show k _ f u (r.1 S) g
  |false=>rw[Jv 'b'];show⟨j,f,ρ,R,E.gr g,r.2 S,λb h p C g'=>k b h p C (g.trans g')⟩⟩⟩
def cM(u:PTD K X a z):PTD K X (.UnaryOp .Not a l) (zr z):=
 ⟨λp=>(v4 (u.pt p)).imp λv H Q o=>by let⟨h,Φ,ρ,R,E,t,k⟩:=o;show⟨h,Φ,ρ,_,E,t,λc f j r g=>k _ f j r g⟩⟩
noncomputable def GU(t u:TD):TD:=λρ R=>t ρ λc=>match c with|.bl c=>(c=ř->u ρ R)/\(c=Ś->R (.bl Ś))|_=>False
def lr{op}(h:PD K X a w):PD K X (.BoolOp op [a] l) w:=⟨λf=>vw (h.pe f)⟩
def iH(y:PD K X a w)(C:PD K X (.BoolOp .And (b::es) l) tb):PD K X (.BoolOp .And (a::b::es) l) (GU w tb):=
 ⟨λo=>(vi (y.pe o) (C.pe o)).imp λI H Q x=>by let⟨j,Φ,ρ,R,E,t,k⟩:=x;show⟨j,Φ,ρ,_,E,t,λc f u v r g G=>by
  let⟨c,rfl,r⟩:=jc r;obtain rfl:=G.b;refine⟨c,S,?_⟩
  cases c with
  |true=>rw[JC S];show⟨j,f,ρ,R,E.gr g,r.1 S,λb h p v F g' rr=>k b h p v F (g.trans g') rr⟩
  |false=>rw[Jv 'b'];show k _ f u _ (r.2 S) g (.bl _)⟩⟩
noncomputable def Ea(t:cw)(u v:TD):TD:=λρ R=>t ρ λc=>(c=ř->u ρ R)/\(c=Ś->v ρ R)
def oq(F:PTD K X c z)(y:PD K X a w)(C:PD K X b tb):PD K X (.IfExp c a b l) (Ea z w tb):=
 ⟨λp=>(zq (F.pt p) (y.pe p) (C.pe p)).imp λI H Q x=>by let⟨o,Φ,ρ,R,E,t,k⟩:=x;show⟨o,Φ,ρ,_,E,t,λc h G r g=>by
  cases c with
  |true=>rw[JC S];show⟨o,h,ρ,R,E.gr g,r.1 S,λb f j v u g' rr=>k b f j v u (g.trans g') rr⟩
  |false=>rw[Jv 'b'];show⟨o,h,ρ,R,E.gr g,r.2 S,λb f j v u g' rr=>k b f j v u (g.trans g') rr⟩⟩⟩
def wz:aT:=λ_ R=>R []
noncomputable def uy(t:TD)(u:aT):aT:=λρ R=>t ρ λd=>u ρ λds=>R (d::ds)
def ag:PAD K X [] wz:=⟨λ_=>pa_nil.imp λh H Q f=>by let⟨g,Φ,ρ,R,E,t,k⟩:=f;show k [] Φ H [] t (.refl E.fz) .nil S⟩
def ad(y:PD K X e t)(F:PAD K X es A)(G:starEach (e::es) X.env=(Ś,eval e X.env)::starEach es X.env):PAD K X (e::es) (uy t A):=
 ⟨λp=>(eU (y.pe p) (F.pa p) G).imp λM H Q x=>by let⟨j,Φ,ρ,R,E,t,k⟩:=x;show⟨j,Φ,ρ,_,E,t,λd f L v r g J=>⟨j,f,ρ,_,E.gr g,r,λds h u vs I o rl C=>
  k _ h u _ I (g.trans o) (.cons (J.same o.f) rl) (by rw[JH,JH,C])⟩⟩⟩
noncomputable def BZ(t:aT):TD:=λρ R=>t ρ λds=>R (.tup ds)
def E8(t:aT):aT:=t
def nc{n:Nat}(h:Nat.ble n 1000=ř):n<=sizeLine:=JR (Nat.le_of_ble_eq_true h) 'b'
def bt{x1}(h:PAD K X es A)(u:Nat.ble es.length 1000=ř:=by rfl):PD K X (.Tuple es x1 l) (BZ A):=
 ⟨λv=>(qE (h.pa v)).imp λF H Q o=>by let⟨j,Φ,ρ,R,E,t,k⟩:=o;show⟨j,Φ,ρ,_,E,t,λds y C vs r g rl x=>⟨by rw[rl.1,x];show nc u,λp f=>
  k _ _ _ _ r (g.trans (.new g.s f _)) ((rl.same (c8 (g.s.free f) _)).tup bo)⟩⟩⟩
def da(h:PAD K X es A)(u:Nat.ble es.length 1000=ř:=by rfl):PF K X (.List es l) (E8 A):=
 ⟨λv=>(vx (h.pa v)).imp λF H Q o=>by let⟨j,Φ,ρ,R,E,t,k⟩:=o;show⟨j,Φ,ρ,_,E,t,λds y C vs r g rl x=>⟨by rw[rl.1,x];show nc u,λp f=>
  k _ _ _ p vs r (g.trans (.fresh g.s f _)) (g.h.free f) (g.s.free f) bo rl⟩⟩⟩
end
end L2
namespace L2
open PySem PySem.Spec PyProof.Rows PySem.Builtin PySem.Builtin.Str
section
variable{X:Cx}
noncomputable def lz(z:Str)(lo hi:Ř Int):Str:=⟨(cP z.cps.toList lo hi).toArray⟩
def Bs(z:Str)(lo hi:Ř Int):Txt.slice z lo hi=lz z lo hi:=by
 have e:strSliceIndices lo hi 1 z.length=(List.range (HT.sIx z.length z.length hi-HT.sIx z.length 0 lo)).map λk=>HT.sIx z.length 0 lo+k:=by
  have g:∀(i:Int)(d:Nat),max 0 (min (if i<0 then i+(z.length:Int) else i) (z.length:Int))=(HT.sIx z.length d (Z i):Int):=λi d=>by change max 0 (min (if i<0 then i+(z.length:Int) else i) (z.length:Int))=((if i<0 then (i+(z.length:Int)).toNat else min i.toNat z.length:Nat):Int);split<;>omega
  have r:strSliceIndices lo hi 1 z.length=sliceRange (HT.sIx z.length 0 lo:Int) (HT.sIx z.length z.length hi:Int) 1:=by cases lo<;>cases hi<;>simp only[strSliceIndices,show (1:Int)>0 by decide,Mn,g _ 0,g _ z.length]<;>rfl
  rw[r];unfold sliceRange;simp only[show (1:Int)>0 by decide,Mn]
  have u:(if (HT.sIx z.length 0 lo:Int)<(HT.sIx z.length z.length hi:Int) then ((HT.sIx z.length z.length hi:Int)-(HT.sIx z.length 0 lo:Int)+1-1)/1 else 0).toNat=HT.sIx z.length z.length hi-HT.sIx z.length 0 lo:=by
   split
   ·rw[Int.ediv_one];omega
   ·omega
  rw[u];refine MS λk _=>?_;omega
 have l:HT.sIx z.length z.length hi<=z.length:=by
  cases hi with
  |none=>show Jx _
  |some i=>
   change (if i<0 then (i+(z.length:Int)).toNat else min i.toNat z.length)<=z.length;split<;>omega
 have w:HT.sIx z.length 0 lo<=z.length:=by
  cases lo with
  |none=>show Lh _
  |some i=>
   change (if i<0 then (i+(z.length:Int)).toNat else min i.toNat z.length)<=z.length;split<;>omega
 have f:(strSliceIndices lo hi 1 z.length).filterMap (z.cps[·]?)=cP z.cps.toList lo hi:=by
  rw[e];unfold cP
  have c:z.cps.toList.length=z.length:=by rw[K3];rfl
  rw[c];generalize HT.sIx z.length 0 lo=a;generalize y:HT.sIx z.length z.length hi=b at l;refine K2 λj=>?_;rw[MX]
  have:∀m,m<=b-a->((List.range m).filterMap ((λx=>z.cps[x]?) ∘ λk=>a+k))=(z.cps.toList.drop a).take m:=by
   intro m
   induction m with
   |zero=>intro _;simp
   |succ m v=>
    intro B;rw[Lz,List.filterMap_append,v ()]
    have p:a+m<z.cps.size:=by unfold Str.length at l;omega
    have A:z.cps.toList.drop a=z.cps.toList.drop a:=rfl
    have o:m<(z.cps.toList.drop a).length:=by rw[Lf,c];unfold Str.length;omega
    rw[List.take_add_one,Mg];congr 1;simp[p]
  rw[this _ (Jx _)]
 unfold Txt.slice lz;split
 ·next h=>
  have o:(strSliceIndices lo hi 1 z.length).length=z.length:=by simpa using h
  have c:z.cps.toList.length=z.length:=by rw[K3];rfl
  have:cP z.cps.toList lo hi=z.cps.toList:=by
   rw[e,Jp,JQ]at o;unfold cP;rw[c]
   have:HT.sIx z.length 0 lo=0:=by omega
   rw[this,MU,Lb (by rw[c];omega)]
  rw[this]
 ·rw[f]
noncomputable def sU:V->Ř Int->Ř Int->Hp->VK->Prop:=λx lo hi H Q=>∃z,x=.str z/\z.length<=sizeLine/\Q (.str (lz z lo hi)) H
def wQ{v:Value}{o:Ř Int}(h:î v o):∃p:Ř (Int×Ł),v=partValue p/\p.map (·.1)=o:=by
 cases h with
 |none=>show⟨ŗ,S,S⟩
 |int i t=>show⟨Z (i,t),S,S⟩
def FP:SlR X sU:=by
 intro e s E H x v B C lo hi sl Q I A r pl y h;let⟨z,rfl,w,q⟩:=h;let⟨t,rfl⟩:=A;let⟨a,rfl,rfl⟩:=wQ pl;let⟨c,rfl,rfl⟩:=wQ y;refine⟨"str",_,F.slot_str_getitem.lookup,ļ _ _ _,?_⟩
 have f:s.heap.IsSlice sl a c ŗ:=by let⟨o,p,g,j⟩:=r;show⟨o,p,g,j⟩
 refine wpAny_getItem_str_slice (l:=a) (u:=c) (st:=ŗ) f S (post_val_or_str ⟨?_,λt' k=>?_⟩)
 ·show JR (Txt.slice_le z _ _) w
 ·refine⟨.str (lz z (a.map (·.1)) (c.map (·.1))),H,?_,⟨t',?_⟩,q⟩
  ·show I.tok _
  ·rw[←Bs];rfl
noncomputable def gx(z:Str)(n:Nat):Str:=⟨((List.replicate n z.cps.toList).flatten).toArray⟩
def GX(z:Str):gx z 1=z:=by unfold gx;simp
theorem xk:∀(n:Nat)(x a:Array Nat),(List.replicate n x).foldl (·++·) a=a++((List.replicate n x.toList).flatten).toArray
 |0,x,a=>by simp
 |n+1,x,a=>by rw[Kl,List.foldl_cons,xk n x (a++x),Kl,Kb];apply ő;simp
def Dc(z:Str)(n:Nat):(gx z n).length=z.length*n:=by unfold gx Str.length;simp[MK]
noncomputable def Hr:R2:=λx y H Q=>∃z k,x=.str z/\y=.int k/\-(2^62)<=k/\k<2^62/\z.length*k.toNat<=sizeLine/\z.length<=sizeLine/\Q (.str (gx z k.toNat)) H
def Dp:b9 X (Ï .Mult) Hr:=by
 intro j s J H x y v u Q I w A h;let⟨z,k,rfl,rfl,B,C,o,E,q⟩:=h;let⟨t,rfl⟩:=w;let⟨t',rfl⟩:=A;refine P.mul_str (by rw[JX (),JX ()];rfl) (λl a=>?_) (λl a=>?_) ?_
 ·intro G
  have r:0<k:=by omega
  have p:((z.length:Int))*k<=2^24:=by have:((z.length*k.toNat:Nat):Int)<=(sizeLine:Int):=Int.ofNat_le.mpr o;rw[Int.natCast_mul,Int.toNat_of_nonneg ()]at this;show this
  have F:(z.length:Int)<=(2^63-1)/k:=(Nz r).mpr (Nj p 'b');omega
 ·unfold tooLong;show JX ()
 ·by_cases c:k<1
  ·rw[JC c]
   have e:k.toNat=0:=by omega
   rw[e]at q;show⟨'b',.str Str.empty,H,I.tok _,⟨_,S⟩,q⟩
  ·rw[Jv c];by_cases a:(k==1 ||z.length==0)=ř
   ·rw[JC a]
    have e:gx z k.toNat=z:=by
     rw[Bool.or_eq_true]at a;rcases a with a|a
     ·have:=eq_of_beq a;subst this;show GX z
     ·have g:z.cps.toList=[]:=by have:=eq_of_beq a;unfold Str.length at this;show Kq.mp (by rwa[K3])
      unfold gx;rw[g]
      have f:z.cps=#[]:=by apply ő;rw[g]
      apply Str.ext';rw[f];simp
    rw[e]at q;show⟨.str z,H,I,⟨t,S⟩,q⟩
   ·rw[Jv a]
    have e:(⟨(List.replicate k.toNat z.cps).foldl (·++·) #[]⟩:Str)=gx z k.toNat:=by rw[xk];unfold gx;simp
    rw[e];refine⟨by rwa[Dc],.str (gx z k.toNat),H,I.tok _,⟨_,S⟩,q⟩
end
noncomputable def BV:R2:=λx y H Q=>∃a b xs ys,x=.ref a/\y=.ref b/\H a=Z (.tup xs)/\H b=Z (.tup ys)/\xs.length+ys.length<=sizeLine/\∀p c,Same H c->c p=Z (.tup (xs++ys))->Q (.ref p) c
def yL{X:Cx}:b9 X (Ï .Add) BV:=by
 intro c s C H x y v u Q I l o h;let⟨a,b,xs,ys,rfl,rfl,g,f,w,q⟩:=h;by_cases j:xs=[]
 ·subst j;cases l;cases o;let⟨its,B,z,_⟩:=I.tuple (SqT.of g);let⟨E,F,A,_⟩:=I.tuple (SqT.of f);show DK z A (B.nil_iff.mpr S) ⟨.ref b,H,I,S,q b H (Same.refl H) f⟩
 ·refine DV c s C H _ _ v u Q I l o ⟨a,b,xs,ys,S,S,SqT.of g,SqT.of f,j,w,λe=>?_,λ_ p r=>q p _ (c8 r _) bo⟩;subst e;show q a H (Same.refl H) (by rwa[J5])
noncomputable def Fh:R2:=λx y H Q=>∃(a:Addr)(k:Int)(xs:Y V),x=.ref a/\y=.int k/\H a=Z (.tup xs)/\xs≠[]/\0<=k/\k<=1000/\k.toNat*xs.length<=1000/\∀p c,Same H c->c p=Z (.tup (List.replicate k.toNat xs).flatten)->Q (.ref p) c
def Fa{X:Cx}:b9 X (Ï .Mult) Fh:=by
 intro w s σ H x y v u Q I rx ry h;let⟨a,k,xs,rfl,rfl,b_,be,h0,h1,hz,q⟩:=h;cases rx;let⟨t,rfl⟩:=ry;let⟨its,r,p1,_⟩:=I.tuple (SqT.of b_);have N:its≠[]:=λz=>be (r.nil_iff.mp z);have a_:=r.length
 have f:its.toArray.isEmpty=Ś:=by cases its with|nil=>show absurd S N|cons _ _=>rfl
 let⟨⟨cls,A,data,sl⟩,c,L,n,hd⟩:=id p1;simp only at L hd;subst L hd
 refine ĕ (T:="tuple") (U:="int") 'b' ⟨_,c,S⟩ (λs'=>Na s' k t) Ao F.fills_int_mul MJ Ff F.slot_int_index.lookup
  (LH MJ (Na s k t) F.entry_int_rmul (F.args_int_rmul_2 _ _) (xK k t a its.toArray n A sl)
   ⟨c,S,⟨_,c,S⟩,?_⟩)
 have E:List.foldl (λx1 x2=>x1++x2) #[] (List.replicate k.toNat its.toArray)=(List.replicate k.toNat its).flatten.toArray:=by have:=qz its k.toNat [];rw[L7]at this;show this
 have G:¬ (decide (k < -(2^63)) ||decide (k≥2^63))=ř:=by rw[JX (),JX ()];show J8
 by_cases K:k=1
 ·subst K;refine LH L5 ⟨_,c,S⟩ M8 (M1 _ _) (DJ a its.toArray n A sl t) ⟨c,?_⟩;refine⟨.ref a,H,I,S,q a H (Same.refl H) ?_⟩;change H a=Z (.tup (List.replicate 1 xs).flatten);rwa[List.replicate_one,Kb,List.flatten_nil,J5]
 ·have J:¬ (its.toArray.isEmpty ||k==1)=ř:=by rw[f,Ln.mpr K];show J8
  have l:∀ys:Y V,∀us:Y Value,ys.length<=sizeLine->Vals ys us->EP X w σ Q (.ref s.heap.objs.size) { s with heap:=s.heap.push { cls:=Value.type "tuple",data:=ù us.toArray },toks:=s.toks }\/¬ (∀p g,Same H g->g p=Z (.tup ys)->Q (.ref p) g):=λys us C rr=>by
   by_cases M:∀p g,Same H g->g p=Z (.tup ys)->Q (.ref p) g
   ·refine .inl ⟨.ref s.heap.objs.size,_,I.laid (t':=s.toks) (o:=.tup ys) (λb ob z=>Jz _ z) (Jx _) ?_,S,M _ _ (c8 (I.hok.fresh (Jx _)) _) bo⟩;show⟨C,_,rr,IsTupD.new _ _⟩
   ·show .inr M
  by_cases R:k=0
  ·subst R;refine LH L5 ⟨_,c,S⟩ M8 (M1 _ _) (Il a its.toArray n A sl 0 t G J S) ⟨c,?_⟩;rcases l [] [] (Lh _) .nil with z|z
   ·show z
   ·show absurd q z
  ·have O:¬ (decide (k<=0) ||its.toArray.isEmpty)=ř:=by rw[f,JX ()];show J8
   have j:its.length*k.toNat<=1000:=by rwa[←a_,MK]
   have B:(its.toArray.size:Int)*k<=1000:=by
    rw[JG]
    have e:k=((k.toNat:Nat):Int):=by omega
    rw[e]
    exact_mod_cast j
   have hs:(1000:Int)<=((sizeLine:Nat):Int):=by exact_mod_cast small (Jx 1000)
   have P:(List.replicate k.toNat its).flatten.length<=1000:=by rwa[qv,MK]
   refine LH L5 ⟨_,c,S⟩ M8 (M1 _ _) (FT a its.toArray n A sl k t G J O () (by unfold Builtin.Tuple.tupleTooMany;rw[JX ()];show J8) (by rw[E,JG];show small P)) ⟨c,?_⟩;rw[E];rcases l (List.replicate k.toNat xs).flatten (List.replicate k.toNat its).flatten (by rw[qv];show small hz) (r.rep k.toNat)with z|z
   ·show z
   ·show absurd q z
end L2
namespace L2
open PySem PySem.Spec PyProof.Rows
section
variable{K:Â}{X:Cx}{e a b:Ã}
noncomputable def Ga:cR:=λx y R=>match x,y with
 |.int i,.int j=>R (.int (i+j))
 |.str i,.str j=>i.length+j.length<=sizeLine/\R (.str (i++j))
 |.lst xs,.lst ys=>xs.length+ys.length<=sizeLine/\NF (xs++ys) λc=>R (.lst c)
 |.tup xs,.tup ys=>xs.length+ys.length<=sizeLine/\NF (xs++ys) λc=>R (.tup c)
 |_,_=>False
def bH:OpD K X (Ï .Add) Ga:=⟨λU c s B H x y v u Q I z A M=>by
 let⟨Φ,P,o,R,sm,r,w,h,k⟩:=M
 cases P with
 |int i=>
  cases o with
  |int j=>cases r.int;cases w.int;show AR c s B H _ _ v u Q I z A ⟨i,j,S,S,k _ Φ H _ h (.refl sm) (.int _)⟩
  |_=>show h.elim
 |str i=>
  cases o with
  |str j=>cases r.str;cases w.str;show Hk c s B H _ _ v u Q I z A ⟨i,j,S,S,h.1,k _ Φ H _ h.2 (.refl sm) (.str _)⟩
  |_=>show h.elim
 |lst xs=>
  cases o with
  |lst ys=>
   let⟨a,vs,rfl,F,f⟩:=r.lst sm;let⟨b,C,rfl,G,l⟩:=w.lst sm;show Bn c s B H _ _ v u Q I z A ⟨a,b,vs,C,S,S,F,G,by rw[f.1,l.1];show h.1,λp J=>k _ _ _ _ h.2.get (.new sm J _) (((f.append l).same (c8 (sm.free J) _)).lst bo)⟩
  |_=>show h.elim
 |tup xs=>
  cases o with
  |tup ys=>
   let⟨a,vs,rfl,F,N,f⟩:=r.tup sm;let⟨b,C,rfl,G,O,l⟩:=w.tup sm
   show yL c s B H _ _ v u Q I z A ⟨a,b,vs,C,S,S,sm _ _ N,sm _ _ O,by rw[f.1,l.1];show h.1,λp L T q=>by
    let⟨E,g,a_⟩:=Gr.adoptT sm T q
    show k _ E L _ h.2.get g (((f.append l).same g.f).tup a_)⟩
  |_=>show h.elim
 |_=>show h.elim⟩
noncomputable def zI(C:Int->Int->Prop)(g:Int->Int->D):cR:=λx y R=>match x,y with|.int i,.int j=>C i j/\R (g i j)|_,_=>False
noncomputable def i4(g:Int->Int->D):cR:=λx y R=>match x,y with|.int i,.int j=>R (g i j)|_,_=>False
def rV{f:Value->Value->Sem Value}{C:Int->Int->Prop}{g:Int->Int->Int}(h:b9 X f (rI C λi j=>.int (g i j))):OpD K X f (zI C λi j=>.int (g i j)):=
 ⟨λE c s B H x y v u Q I z A l=>by
  let⟨Φ,o,p,R,sm,r,w,q,k⟩:=l
  cases o with
  |int i=>
   cases p with
   |int j=>cases r.int;cases w.int;show h c s B H _ _ v u Q I z A ⟨i,j,S,S,q.1,k _ Φ H _ q.2 (.refl sm) (.int _)⟩
   |_=>show q.elim
  |_=>show q.elim⟩
def B1{f:Value->Value->Sem Value}{g:Int->Int->Int}(h:b9 X f (gX λi j=>.int (g i j))):OpD K X f (i4 λi j=>.int (g i j)):=
 ⟨λC c s B H x y v u Q I z A l=>by
  let⟨Φ,o,p,R,sm,r,w,q,k⟩:=l
  cases o with
  |int i=>
   cases p with
   |int j=>cases r.int;cases w.int;show h c s B H _ _ v u Q I z A ⟨i,j,S,S,k _ Φ H _ q (.refl sm) (.int _)⟩
   |_=>show q.elim
  |_=>show q.elim⟩
def nI{f:Value->Value->Sem Value}{g:Int->Int->Bool}(h:b9 X f (gX λi j=>.bl (g i j))):OpD K X f (i4 λi j=>.bl (g i j)):=
 ⟨λC c s B H x y v u Q I z A l=>by
  let⟨Φ,o,p,R,sm,r,w,q,k⟩:=l
  cases o with
  |int i=>
   cases p with
   |int j=>cases r.int;cases w.int;show h c s B H _ _ v u Q I z A ⟨i,j,S,S,k _ Φ H _ q (.refl sm) (.bl _)⟩
   |_=>show q.elim
  |_=>show q.elim⟩
def db:OpD K X (Ï .Sub) (i4 λi j=>.int (i-j)):=B1 EM
def qC:OpD K X (Ï .FloorDiv) (zI CDivB λi j=>.int (i/j)):=rV zP
def iQ:OpD K X (Ï .Mod) (zI (λ_ j=>0<j) λi j=>.int (i % j)):=rV Hf
def sw:OpD K X (Ï .Pow) (zI uo λi j=>.int (i^j.toNat)):=rV EA
def ik:OpD K X (É .Lt) (i4 λi j=>.bl (decide (i<j))):=nI Io
def Fb:OpD K X (É .LtE) (i4 λi j=>.bl (decide (i<=j))):=nI Cq
def fi:OpD K X (É .Gt) (i4 λi j=>.bl (decide (j<i))):=nI x6
def na:OpD K X (É .GtE) (i4 λi j=>.bl (decide (j<=i))):=nI CK
noncomputable def BO:cR:=λx y R=>match x,y with
 |.int i,.int j=>Ā i j/\R (.int (i*j))
 |.lst xs,.int k=>(-(2^63)<=k/\k<2^63/\xs.length*k.toNat<=sizeLine)/\NF (List.replicate k.toNat xs).flatten λc=>R (.lst c)
 |.tup xs,.int k=>(xs≠[]/\0<=k/\k<=1000/\k.toNat*xs.length<=1000)/\NF (List.replicate k.toNat xs).flatten λc=>R (.tup c)
 |.str z,.int k=>(-(2^62)<=k/\k<2^62/\z.length*k.toNat<=sizeLine/\z.length<=sizeLine)/\NF (gx z k.toNat) λy=>R (.str y)
 |_,_=>False
def cQ:OpD K X (Ï .Mult) BO:=⟨λU c s B H x y v u Q I w A J=>by
 let⟨Φ,N,l,R,sm,o,r,h,k⟩:=J
 cases N with
 |int i=>
  cases l with
  |int j=>cases o.int;cases r.int;show C3 c s B H _ _ v u Q I w A ⟨i,j,S,S,h.1,k _ Φ H _ h.2 (.refl sm) (.int _)⟩
  |_=>show h.elim
 |lst xs=>
  cases l with
  |int j=>
   let⟨a,vs,rfl,E,f⟩:=o.lst sm;cases r.int;show vc c s B H _ _ v u Q I w A ⟨a,j,vs,S,S,E,h.1.1,h.1.2.1,by rw[f.1];show h.1.2.2,λp F=>k _ _ _ _ h.2.get (.new sm F _) (((f.rep _).same (c8 (sm.free F) _)).lst bo)⟩
  |_=>show h.elim
 |tup xs=>
  cases l with
  |int j=>
   let⟨a,vs,rfl,E,M,f⟩:=o.tup sm;cases r.int;have L:vs≠[]:=λe=>h.1.1 (Kq.mp (by rw[←f.1,e];rfl))
   show Fa c s B H _ _ v u Q I w A ⟨a,j,vs,S,S,sm _ _ M,L,h.1.2.1,h.1.2.2.1,by rw[f.1];show h.1.2.2.2,λp G P q=>by
    let⟨C,g,O⟩:=Gr.adoptT sm P q
    show k _ C G _ h.2.get g (((f.rep _).same g.f).tup O)⟩
  |_=>show h.elim
 |str z=>
  cases l with
  |int j=>
   cases o.str;cases r.int;show Dp c s B H _ _ v u Q I w A ⟨z,j,S,S,h.1.1,h.1.2.1,h.1.2.2.1,h.1.2.2.2,k _ Φ H _ h.2.get (.refl sm) (.str _)⟩
  |_=>show h.elim
 |_=>show h.elim⟩
end
noncomputable def fj(f:D->D->Ř Bool):Y D->Y D->Ř Bool
 | [],[]=>Z ř
 |x::xs,y::ys=>(f x y).bind λb=>(fj f xs ys).map (b&&·)
 |_,_=>Z Ś
noncomputable def cy:Nat->D->D->Ř Bool
 |_,.int i,.int j=>Z (i==j)
 |_,.bl i,.bl j=>Z (i==j)
 |_,.str i,.str j=>Z (i==j)
 |_,.non,.non=>Z ř
 |n+1,.tup xs,.tup ys=>fj (cy n) xs ys
 |n+1,.lst xs,.lst ys=>if xs.length=ys.length then fj (cy n) xs ys else Z Ś
 |_,_,_=>ŗ
theorem oa{f:D->D->Ř Bool}:∀{xs ys:Y D}{b:Bool},fj f xs ys=Z b->∃g:Nat->Bool,(∀(j:Nat)(x y:D),xs[j]?=Z x->ys[j]?=Z y->f x y=Z (g j))/\b=((List.range (min xs.length ys.length)).all g&&xs.length==ys.length)
 | [],[],b,h=>by cases h;show⟨λ_=>ř,λj x y l=>by simp at l,by simp⟩
 | [],_::_,b,h=>by cases h;show⟨λ_=>ř,λj x y l=>by simp at l,by simp⟩
 |_::_,[],b,h=>by cases h;show⟨λ_=>ř,λj x y _ B=>by simp at B,by simp⟩
 |x::xs,y::ys,b,h=>by
  unfold fj at h
  cases e:f x y with
  |none=>rw[e]at h;cases h
  |some c=>
   cases a:fj f xs ys with
   |none=>rw[e,a]at h;cases h
   |some C=>
    rw[e,a]at h;cases h;let⟨g,z,A⟩:=oa a;refine⟨λj=>match j with|0=>c|j+1=>g j,λj u v o p=>?_,?_⟩
    ·cases j with
     |zero=>cases o;cases p;show e
     |succ j=>show z j u v o p
    ·have w:min (x::xs).length (y::ys).length=min xs.length ys.length+1:=by simp only[JH];omega
     have r:((x::xs).length==(y::ys).length)=(xs.length==ys.length):=by simp
     rw[w,r,List.range_succ_eq_map,NL,List.all_map,A,Bool.and_assoc];rfl
section
variable{K:Â}{X:Cx}{f:Y (Addr×Õ)}{l:St}{Φ H:Hp}{s:À}
def Bp{n:Nat}{g:Nat->Bool}(h:∀j,j<n->g j=ř):(List.range n).all g=ř:=by rw[K7];intro j a;show h j (JU.mp a)
def bJ{a:Type}{xs:Y a}{j:Nat}(h:j<xs.length):xs[j]?=Z xs[j]:=by simp[h]
inductive CmV:Nat->D->D->Bool->Prop
 |int {n:Nat} (i j:Int):CmV n (.int i) (.int j) (i==j)
 |bl {n:Nat} (i j:Bool):CmV n (.bl i) (.bl j) (i==j)
 |str {n:Nat} (i j:Str):CmV n (.str i) (.str j) (i==j)
 |non {n:Nat}:CmV n .non .non ř
 |tup {n:Nat} {xs ys:List D} {b:Bool} (h:fj (cy n) xs ys=Z b):CmV (n+1) (.tup xs) (.tup ys) b
 |lst {n:Nat} {xs ys:List D} {b:Bool} (h:(if xs.length=ys.length then fj (cy n) xs ys else Z Ś)=Z b):CmV (n+1) (.lst xs) (.lst ys) b
def tS{n:Nat}{d e:D}{b:Bool}(h:cy n d e=Z b):CmV n d e b:=by
 unfold cy at h;split at h
 ·cases h;show .int _ _
 ·cases h;show .bl _ _
 ·cases h;show .str _ _
 ·cases h;show .non
 ·show .tup h
 ·show .lst h
 ·cases h
def sQ(E:X.K=K)(I:Inv X f l H s)(sm:Same Φ H):∀(n:Nat){d e:D}{b:Bool}{v:V},cy n d e=Z b->Rp K Φ d v->Rp K Φ e v->b=ř:=by
 intro n
 induction n using Nat.strongRecOn with
 |ind n C=>
  intro d e b v h p r
  have all:∀{m:Nat}{xs ys:Y D}{vs:Y V}{b:Bool},m<n->fj (cy m) xs ys=Z b->RpL K Φ xs vs->RpL K Φ ys vs->b=ř:=λ{m xs ys vs b} B h c o=>by
   let⟨g,A,z⟩:=oa h;have G:=c.1;have J:=o.1;rw[z,Bp λj F=>?_]
   ·simp;omega
   ·have w:j<vs.length:=by omega
    have x:j<xs.length:=by omega
    have y:j<ys.length:=by omega
    show C m B (A j _ _ (bJ x) (bJ y)) (c.2 j _ _ (bJ w) (bJ x)) (o.2 j _ _ (bJ w) (bJ y))
  cases tS h with
  |int i j=>obtain rfl:=p.i;cases r;show J3 i
  |bl i j=>obtain rfl:=p.b;cases r;show J3 i
  |str i j=>obtain rfl:=p.s;cases r;show J3 i
  |non=>rfl
  |tup h=>
   cases p with| @tup a vs xs h1 c h3=>cases r with| @tup _ ws ys k1 o k3=>
   have u:vs=ws:=I.tuple_inj (.of (sm _ _ h1)) (.of (sm _ _ k1));subst u;show all (LI _) h ⟨c,h3⟩ ⟨o,k3⟩
  |lst h=>
   cases p with| @lst a vs xs h1 c h3=>cases r with| @lst _ ws ys k1 o k3=>
   have u:vs=ws:=by rw[h1]at k1;cases k1;rfl
   subst u;rw[JC (c.symm.trans o)]at h;show all (LI _) h ⟨c,h3⟩ ⟨o,k3⟩
open PySem.SeqAt in
def uJ(hK:X.K=K)(I:Inv X f l H s)(sm:Same Φ H):∀(n:Nat){d e:D}{b:Bool}{x y:V},cy n d e=Z b->Rp K Φ d x->Rp K Φ e y->
  ∀(A:Ê)(u v:Value),A.units+n<å->RelV x u->RelV y v->EqAt A s u v b/\RcAt A s u v b/\RcNeAt A s u v (!b):=by
 intro n
 induction n using Nat.strongRecOn with
 |ind n ih=>
  intro d e b x y h o p A u v hu M N
  have r:∀{m:Nat}{xs ys:Y D}{vs J:Y V}{its Oc:Y Value}{g:Nat->Bool},m+1=n->(∀(j:Nat)(x y:D),xs[j]?=Z x->ys[j]?=Z y->cy m x y=Z (g j))->RpL K Φ xs vs->RpL K Φ ys J->Vals vs its->Vals J Oc->∀j (j1:j<its.toArray.size) (j2:j<Oc.toArray.size),EqAt A.in1 s its.toArray[j] Oc.toArray[j] (g j):=λ{m xs ys vs J its Oc g} hm b_ C E w z j j1 j2=>by
   have l1:=Vals.length w;have l2:=Vals.length z;have m1:=C.1;have m2:=E.1;simp only[JG]at j1 j2;let⟨x,hx,o⟩:=Vals.get' w j1;let⟨y,hy,p⟩:=Vals.get' z j2
   have i1:j<xs.length:=by omega
   have i2:j<ys.length:=by omega
   show (ih m () (b_ j _ _ (bJ i1) (bJ i2)) (C.2 j x _ hx (bJ i1)) (E.2 j y _ hy (bJ i2)) A.in1 _ _ (by change A.units+1+m<å;omega) o p).1
  have L:A.units<å:=by omega
  cases tS h with
  |int i j=>obtain rfl:=o.i;obtain rfl:=p.i;let⟨t,rfl⟩:=M;let⟨t',rfl⟩:=N;show⟨EqAt.int_int i t j t',RcAt.int_int i t j t',RcNeAt.int_int i t j t'⟩
  |bl i j=>obtain rfl:=o.b;obtain rfl:=p.b;cases M;cases N;show⟨EqAt.bool_bool i j,RcAt.bool_bool i j,RcNeAt.bool_bool i j⟩
  |str i j=>obtain rfl:=o.s;obtain rfl:=p.s;let⟨t,rfl⟩:=M;let⟨t',rfl⟩:=N;show⟨EqAt.str_str i t j t',RcAt.str_str i t j t',RcNeAt.str_str i t j t'⟩
  |non=>obtain rfl:=o.n;obtain rfl:=p.n;cases M;cases N;show⟨EqAt.same _,RcAt.none_none,RcNeAt.none_none⟩
  | @tup n xs ys b q=>
   have T:=o;have U:=p
   cases o with| @tup a vs _ h1 C h3=>cases p with| @tup c J _ k1 E k3=>
   cases M;cases N;let⟨g,b_,be⟩:=oa q;let⟨its,w,F,_⟩:=I.sqb (b:=Ś) (show SqT X.K H a vs from .of (sm _ _ h1));let⟨Oc,z,G,_⟩:=I.sqb (b:=Ś) (show SqT X.K H c J from .of (sm _ _ k1));have l1:=Vals.length w;have l2:=Vals.length z;have Q:=r S b_ ⟨C,h3⟩ ⟨E,k3⟩ w z;have R:=RcAt.tuples (e:=g) F G L Q;have P:=RcNeAt.tuples (e:=g) F G L Q
   have a_:((List.range (min its.toArray.size Oc.toArray.size)).all g&&its.toArray.size==Oc.toArray.size)=b:=by rw[be];simp only[JG];rw[←l1,←l2,C,E]
   rw[a_]at R P;refine⟨?_,R,P⟩;by_cases O:a=c
   ·subst O;rw[sQ hK I sm (n+1) h T U];show EqAt.same _
   ·show EqAt.of_refs O R
  | @lst n xs ys b q=>
   have T:=o;have U:=p
   cases o with| @lst a vs _ h1 C h3=>cases p with| @lst c J _ k1 E k3=>
   cases M;cases N;let⟨its,w,F,_⟩:=I.sqb (b:=ř) (show SqL X.K H a vs from SqL.of (sm _ _ h1));let⟨Oc,z,G,_⟩:=I.sqb (b:=ř) (show SqL X.K H c J from SqL.of (sm _ _ k1));have l1:=Vals.length w;have l2:=Vals.length z
   have B:RcAt A s (.ref a) (.ref c) b/\RcNeAt A s (.ref a) (.ref c) (!b):=by
    by_cases hl:xs.length=ys.length
    ·rw[JC hl]at q;let⟨g,b_,be⟩:=oa q;have Q:=r S b_ ⟨C,h3⟩ ⟨E,k3⟩ w z
     have hsz:its.toArray.size=Oc.toArray.size:=by simp;omega
     have R:=RcAt.lists (e:=g) F G hsz L Q;have P:=RcNeAt.lists (e:=g) F G hsz L Q
     have a_:(List.range its.toArray.size).all g=b:=by
      have e1:min xs.length ys.length=its.length:=by omega
      have e2:(xs.length==ys.length)=ř:=by simp[hl]
      rw[be,e1,e2,Bool.and_true,JG]
     rw[a_]at R P;show⟨R,P⟩
    ·rw[Jv hl]at q;cases q
     have hsz:(its.toArray.size != Oc.toArray.size)=ř:=by simp;omega
     show⟨RcAt.lists_lengths F G hsz L,RcNeAt.lists_lengths F G hsz L⟩
   refine⟨?_,B.1,B.2⟩;by_cases O:a=c
   ·subst O;rw[sQ hK I sm (n+1) h T U];show EqAt.same _
   ·show EqAt.of_refs O B.1
end
noncomputable def jX:cR:=λx y R=>match cy 40 x y with|some b=>R (.bl b)|none=>False
noncomputable def jx:cR:=λx y R=>match cy 40 x y with|some b=>R (.bl (!b))|none=>False
section
variable{K:Â}{X:Cx}
def RpQ.any{Φ H:Hp}{d:D}{v:V}(h:RpQ K Φ H d v)(s:Same Φ H):Rp K H d v:=by
 rcases h with h|⟨a,vs,ds,e,c,f,g⟩
 ·show h.same s
 ·subst e c;show (g.same s).lst f
def df(r:X.A.units+64<å):OpD K X (É .Eq) jX:=⟨λe a s w H x y u v Q I j l c=>by
 let⟨Φ,o,p,R,sm,f,g,h,k⟩:=c;unfold jX at h;split at h
 ·next b hb=>show (uJ e I (Same.refl H) 40 hb (f.any sm) (g.any sm) X.A u v () j l).2.1 X.prog X.w _ _ ⟨.bl b,H,I,S,k _ Φ H _ h (.refl sm) (.bl b)⟩
 ·show h.elim⟩
def eM(r:X.A.units+64<å):OpD K X (É .NotEq) jx:=⟨λe a s w H x y u v Q I j l c=>by
 let⟨Φ,o,p,R,sm,f,g,h,k⟩:=c;unfold jx at h;split at h
 ·next b hb=>show (uJ e I (Same.refl H) 40 hb (f.any sm) (g.any sm) X.A u v () j l).2.2 X.prog X.w _ _ ⟨.bl (!b),H,I,S,k _ Φ H _ h (.refl sm) (.bl _)⟩
 ·show h.elim⟩
def e9:D->Bool
 |.non=>ř
 |_=>Ś
noncomputable def vb(c:Bool):cR:=λx y R=>match y with|.non=>R (.bl (e9 x != c))|.bl b=>(match x with|.bl a=>R (.bl ((a==b) != c))|_=>False)|_=>False
def tj{Φ H:Hp}{d:D}{v:V}(h:RpQ K Φ H d v):decide (v=V.non)=e9 d:=by
 cases d with
 |int i=>rw[h.int];rfl
 |bl i=>rw[h.bl];rfl
 |str i=>rw[h.str];rfl
 |non=>rw[h.non];rfl
 |tup ds=>rcases h with h|⟨a, vs, ds, e, _⟩
          · cases h; rfl
          · cases e
 |lst ds=>rcases h with h|⟨a, vs, ds, e, c, _⟩
          · cases h; rfl
          · rw [c]; rfl
 |fzl ds=>rcases h with h|⟨a, vs, ds, e, _⟩
          · cases h; rfl
          · cases e
 |obj C fs=>rcases h with h|⟨a, vs, ds, e, _⟩
            · cases h; rfl
            · cases e
 |map f=>rcases h with h|⟨a, vs, ds, e, _⟩
         · cases h; rfl
         · cases e
 |exc _ _=>rcases h with h|⟨a, vs, ds, e, _⟩
           · cases h<;>rfl
           · cases e
def gB:OpD K X (É .Is) (vb Ś):=⟨λw c s l H x y u v Q I g j o=>by
 let⟨Φ,p,r,R,sm,e,f,h,k⟩:=o
 cases r with
 |non=>
  cases f.non;refine EV c s l H _ _ u v Q I g j ⟨S,?_⟩;rw[tj e];have h':R (.bl (e9 p != Ś)):=h;rw[ĺ]at h';show k _ Φ H _ h' (.refl sm) (.bl _)
 |bl b=>
  cases f.bl;let⟨a,rfl,h⟩:=jc h;cases e.bl;have h':R (.bl ((a==b) != Ś)):=h;rw[ĺ]at h';show Hg c s l H _ _ u v Q I g j ⟨a,b,S,S,k _ Φ H _ h' (.refl sm) (.bl _)⟩
 |_=>show h.elim⟩
def dI:OpD K X (É .IsNot) (vb ř):=⟨λw c s l H x y u v Q I g j o=>by
 let⟨Φ,p,r,R,sm,e,f,h,k⟩:=o
 cases r with
 |non=>
  cases f.non;refine Dm c s l H _ _ u v Q I g j ⟨S,?_⟩;rw[tj e];have h':R (.bl (e9 p != ř)):=h;rw[ń]at h';show k _ Φ H _ h' (.refl sm) (.bl _)
 |bl b=>
  cases f.bl;let⟨a,rfl,h⟩:=jc h;cases e.bl;have h':R (.bl ((a==b) != ř)):=h;rw[ń]at h';show zw c s l H _ _ u v Q I g j ⟨a,b,S,S,k _ Φ H _ h' (.refl sm) (.bl _)⟩
 |_=>show h.elim⟩
end
end L2
namespace HT
open PySem PySem.Spec PyProof.Rows
def getItem_tuple_all{prog:Å}{w:È}{A:Ê}{E:Value->À->Prop}{s:À}{t sl:Addr}{a:Array Value}{j l:Value}{lo hi:Ř Int}{Q:Value->À->Prop}(e:ġ s.heap t a)(f:s.heap.IsSliceOf sl j l .none)(pl:î j lo)(v:î l hi)
  (g:sIx a.size 0 lo=0/\sIx a.size a.size hi=a.size) (h:Q (.ref t) s):wpAny (Ä prog w) A (ä (.ref t) (.ref sl)) Q E s:=by
 let⟨os,o,r,x⟩:=id f;have p:s.TypeIs (.ref sl) "slice":=⟨os,o,r⟩;unfold ä
 try with_reducible refine Le ?_
 first|refine Jt (JK ?_)|skip
 refine Jt (ņ e.typeIs 'b' ?_)
 refine Jt (KU (name:=Str.ofString "__getitem__") e.typeIs KD
  (Lq KD e.typeIs Ĺ ?_ (ł _ _)))
 change wpAny _ _ (Builtin.Tuple.tupleItemsOf (.ref t) >>= _) _ _ s;refine Jt (tupleItemsOf_ e ?_);refine Jt (ĥ p ?_);rw[JC 'b'];refine Jt (wq f pl v ?_)
 have u:(((sIx a.size 0 lo:Nat):Int)==0&&(1:Int)==1&&(sIx a.size a.size hi-sIx a.size 0 lo)==a.size)=ř:=by rw[g.1,g.2];simp
 change wpAny _ _ (if (((sIx a.size 0 lo:Nat):Int)==0&&(1:Int)==1&&(sIx a.size a.size hi-sIx a.size 0 lo)==a.size)=ř then _ else _) _ _ s;rw[JC u];refine Jt (show wpAny _ _ (typeOf (.ref t) >>= λc=>pure (c==.type "tuple")) _ _ s from Jt (ĥ e.typeIs (JK ?_)));rw[JC 'b'];show Jt (ď (JK ⟨_,S,JK h⟩))
end HT
namespace L2
open PySem PySem.Spec PyProof.Rows
section
variable{K:Â}{X:Cx}{e a b c:Ã}{es:Y Ã}{A L:Ö}{t B tb:TD}{C:aT}
noncomputable def nu:cR:=λx y R=>match y with
 |.int i=>(match x with
  |.lst ds=>∃d,cr ds i=Z d/\R d
  |.tup ds=>∃d,cr ds i=Z d/\R d
  |.fzl ds=>∃d,cr ds i=Z d/\R d
  |.str z=>z.length<=sizeLine/\∃c,cr z.cps.toList i=Z c/\R (.str ⟨#[c]⟩)
  |_=>False)
 |_=>False
def oY{Φ:Hp}{ds:Y D}{vs:Y V}{d:D}{i:Int}(h:RpL K Φ ds vs)(e:cr ds i=Z d):∃v,cr vs i=Z v/\Rp K Φ d v:=by
 unfold cr at e ⊢;rw[h.1]
 cases f:fv ds.length i with
 |none=>rw[f]at e;cases e
 |some j=>
  rw[f,ģ]at e;rw[ģ];show h.at e
def vQ(P:X.K=K):jS X (lR2 K nu):=by
 intro g f j s O H x y v u Q I M N ⟨Φ,be,a_,R,sm,J,U,h,k⟩ G;let⟨i,rfl,h⟩:=jf h;cases U.int
 cases be with
 |lst ds=>
  let⟨d,l,o⟩:=h;let⟨a,vs,rfl,E,F⟩:=J.lst sm;let⟨w,r,p⟩:=oY F l;show qQ g f j s O H _ _ v u Q I M N ⟨a,vs,i,w,S,S,.of E,r,k _ Φ H _ o (.refl sm) p⟩ G
 |tup ds=>
  let⟨d,l,o⟩:=h;let⟨a,vs,rfl,E,_,F⟩:=J.tup sm;let⟨w,r,p⟩:=oY F l;show D3 g f j s O H _ _ v u Q I M N ⟨a,vs,i,w,S,S,P▸E,r,k _ Φ H _ o (.refl sm) p⟩ G
 |fzl ds=>
  let⟨d,l,o⟩:=h;let⟨a,vs,rfl,E,F⟩:=J.fzl sm;let⟨w,r,p⟩:=oY F l;show qQ g f j s O H _ _ v u Q I M N ⟨a,vs,i,w,S,S,P▸E,r,k _ Φ H _ o (.refl sm) p⟩ G
 |str z=>
  let⟨T,c,l,o⟩:=h;cases J.str;show AQ g f j s O H _ _ v u Q I M N ⟨z,i,c,S,S,T,l,k _ Φ H _ o (.refl sm) (.str _)⟩ G
 |_=>show h.elim
def bu(g:PQ K X a B)(h:PQ K X b tb)(j:oM b):PD K X (.Subscript a b A) (jl nu B tb):=
 ⟨λf=>(p7 (vQ f) (g.pe f) (h.pe f) j).imp λ_ _ _=>nG⟩
noncomputable abbrev i8:=br->(Ř Int->Prop)->Prop
def ax{i:Int}{j:Ł}{p:Ö}(f:PQ K X a B):PD K X (.Subscript a (.Constant (.int i) j p) A) (jl nu B (dC (.int i))):=bu f (PD.q ah) λ_ _=>rfl
inductive lO(K:Â)(t:i8)(σ:St)(H:Hp)(Q:Option Int->Hp->Prop):Prop|mk (H0:Hp) (Φ:Hp) (ρ:br) (R:Option Int->Prop) (_:EnvD K H0 Φ H σ ρ) (_:t ρ R) (_:∀o Φ' H',R o->Gr Φ H Φ' H'->Q o H')
structure POD(K:Â)(X:Cx)(e:Option Ã)(t:i8):Prop where po:X.K=K->PO X e (lO K t)
def AW:i8:=λ_ R=>R ŗ
noncomputable def Am(t:TD):i8:=λρ R=>t ρ λd=>match d with|.int i=>R (Z i)|_=>False
def PO.imp{o:Ř Ã}{t t':TO}(h:PO X o t)(k:∀g H Q,t' g H Q->t g H Q):PO X o t':=λf s g H Q I j=>h f s g H Q I (k g H Q j)
def qD:POD K X ŗ AW:=⟨λ_=>po_none.imp λh H Q f=>by let⟨g,Φ,ρ,R,E,t,k⟩:=f;show k ŗ Φ H t (.refl E.fz)⟩
def sq(h:PQ K X e t):POD K X (Z e) (Am t):=⟨λp=>(Cs (h.pe p)).imp λw H Q o=>by let⟨j,Φ,ρ,R,E,t,k⟩:=o;show⟨j,Φ,ρ,_,E,t,λd f l v r g u=>by
 let⟨i,rfl,r⟩:=jf r
 show⟨i,u.int,k _ f l r g⟩⟩⟩
variable{lo hi:Ř Ã}{to G:i8}
noncomputable def tV(K:Â):V->Ř Int->Ř Int->Hp->VK->Prop:=λx lo hi H Q=>∃a xs,x=.ref a/\SqT K H a xs/\(HT.sIx xs.length 0 lo=0/\HT.sIx xs.length xs.length hi=xs.length)/\Q (.ref a) H
def sl_all:SlR X (tV X.K):=by
 intro j s F H x v z E lo hi sl Q I u l pl p h;let⟨a,xs,rfl,o,w,q⟩:=h;cases u;let⟨its,r,g,y⟩:=I.tuple o
 have f:its.toArray.size=xs.length:=by rw[JG];show r.length.symm
 refine⟨"tuple",_,KD.lookup,g.typeIs,?_⟩;show HT.getItem_tuple_all g l pl p (by rwa[f]) ⟨.ref a,H,I,S,q⟩
def yJ{g:Type}{xs:Y g}{l h:Ř Int}(f:HT.sIx xs.length 0 l=0/\HT.sIx xs.length xs.length h=xs.length):cP xs l h=xs:=by unfold cP;rw[f.1,f.2,MU,Nat.sub_zero,KL]
noncomputable def ye(x:D)(l h:Ř Int)(R:D->Prop):Prop:=match x with
 |.lst ds=>NF (cP ds l h) λf=>R (.lst f)
 |.fzl ds=>NF (cP ds l h) λf=>R (.lst f)
 |.tup ds=>NF (cP ds l h) λf=>R (.tup f)
 |.str z=>z.length<=sizeLine/\NF (lz z l h) λy=>R (.str y)
 |_=>False
noncomputable def yW(t:TD)(to G:i8):TD:=λρ R=>t ρ λx=>to ρ λl=>G ρ λh=>ye x l h R
def pE(T:PQ K X a B)(a_:POD K X lo to)(U:POD K X hi G):PD K X (.Subscript a (.Slice lo hi ŗ L) A) (yW B to G):=
 ⟨λv=>(Fg (v▸sl_list.or (sl_tup.or (sl_all.or FP)):SlR X (λx lo hi H Q=>sV K x lo hi H Q\/vF K x lo hi H Q\/tV K x lo hi H Q\/sU x lo hi H Q)) (T.pe v) (a_.po v) (U.po v)).imp λσ H Q P=>by let⟨w,Φ,ρ,R,E,t,k⟩:=P;exact
  ⟨w,Φ,ρ,_,E,t,λb_ I H1 x t1 y rx=>⟨w,I,ρ,_,E.gr y,t1,λl J H2 t2 F=>⟨w,J,ρ,_,(E.gr y).gr F,t2,λh Φ3 H3 o M=>by
   have g:=(y.trans F).trans M;have u:=rx.gr (F.trans M)
   cases b_ with
   |lst ds=>
    let⟨a,vs,rfl,r,j⟩:=u.lst g.s;show .inl ⟨a,vs,S,.of r,λp f=>k _ _ _ _ o.get (g.trans (.new g.s f _)) (((j.cut l h).same (c8 (g.s.free f) _)).lst bo)⟩
   |fzl ds=>
    let⟨a,vs,rfl,r,j⟩:=u.fzl g.s;show .inl ⟨a,vs,S,r,λp f=>k _ _ _ _ o.get (g.trans (.new g.s f _)) (((j.cut l h).same (c8 (g.s.free f) _)).lst bo)⟩
   |tup ds=>
    let⟨a,vs,rfl,r,be,j⟩:=u.tup g.s;by_cases N:HT.sIx vs.length 0 l=0/\HT.sIx vs.length vs.length h=vs.length
    ·refine .inr (.inr (.inl ⟨a,vs,S,r,N,?_⟩));have e:cP ds l h=ds:=yJ (by rwa[←j.1]);have O:=o.get;rw[e]at O;show k _ _ _ _ O g (j.tup be)
    ·show .inr (.inl ⟨a,vs,S,r,N,λp f=>k _ _ _ _ o.get (g.trans (.new g.s f _)) (((j.cut l h).same (c8 (g.s.free f) _)).tup bo)⟩)
   |str z=>
    cases u.str;show .inr (.inr (.inr ⟨z,S,o.1,k _ _ _ _ o.2.get g (.str _)⟩))
   |_=>show o.elim⟩⟩⟩⟩
noncomputable def DP(B tb:TD):aT:=λρ R=>B ρ λx=>tb ρ λy=>match x,y with|.lst xs,.int k=>(-(2^63)<=k/\k<2^63/\xs.length*k.toNat<=sizeLine)/\NF (List.replicate k.toNat xs).flatten R|_,_=>False
def zV(N:PQ K X a B)(O:PQ K X b tb):PF K X (.BinOp a .Mult b A) (DP B tb):=
 ⟨λz=>(rX vc (N.pe z) (O.pe z)).imp λσ H Q F=>by let⟨r,Φ,ρ,R,E,t,k⟩:=F;show⟨r,Φ,ρ,_,E,t,λI o a_ x T u P=>⟨r,o,ρ,_,E.gr u,T,λJ U be y f v b_=>by
  have g:=u.trans v;have l:=P.gr v
  cases I with
  |lst xs=>cases J with
   |int j=>
    let⟨a,vs,rfl,M,w⟩:=l.lst g.s;cases b_.int;show⟨a,j,vs,S,S,M,f.1.1,f.1.2.1,by rw[w.1];show f.1.2.2,λp h=>k _ _ _ p _ f.2.get (g.trans (.fresh g.s h _)) (g.h.free h) (g.s.free h) bo (w.rep _)⟩
   |_=>show f.elim
  |_=>show f.elim⟩⟩⟩
noncomputable abbrev ca:=Y D->(D->Prop)->Prop
inductive lSp(K:Â)(sp:ca)(vs:List V)(H:Hp)(Q:VK)(E_:XK):Prop|mk (Φ:Hp) (ds:List D) (R:D->Prop) (_:Same Φ H) (_:TabF K Φ) (_:RpL K Φ ds vs) (_:sp ds R) (_:∀d Φ' H' v,R d->Gr Φ H Φ' H'->Rp K Φ' d v->Q v H')
noncomputable def nW(sp:ca)(t:aT):TD:=λρ R=>t ρ λds=>sp ds R
variable{CX:eg}{k:Nat}{f:Addr}{J:Í}{ps:Y Str}{sp:ca}{x:Str}{p:Ö}{E:XK}
def AU(F:FnOk X.prog X.w X.K X.mg X.base CX k f J ps (lSp K sp))(T:Room k X.A)(O:Gl X x)(b_:X.mg x=Z (.ref f))(P:ã X.K (.ref f)=ř)(M:Binds X.K J ps [])(U:jd CX X E)
  (I:PAD K X (e::es) C) (N:starEach (e::es) X.env=(Ś,eval e X.env)::starEach es X.env) (y:(backTo A (starEach es X.env)).any (·.1)=Ś) (w:ab x:=by decide) :
  PD K X (.Call (.Name x p) (e::es) [] A) (nW sp C):=
 ⟨λz=>(nM F T O b_ P M .nil U (I.pa z) w N y).imp λσ H Q u=>by let⟨o,Φ,ρ,R,E,t,k⟩:=u;show⟨o,Φ,ρ,_,E,t,λds j H1 vs r g rl _=>⟨j,ds,R,g.s,E.tb.same g.f,by rwa[J5],r,λd h l v a_ g' be=>k d h l v a_ (g.trans g') be⟩⟩⟩
noncomputable def nX(K:Â)(Φ H:Hp)(ds:Y D)(vs:Y V):Prop:=vs.length=ds.length/\∀(i:Nat)(v:V)(d:D),vs[i]?=Z v->ds[i]?=Z d->RpQ K Φ H d v
inductive lAQ(K:Â)(t:aT)(σ:St)(H:Hp)(Q:List V->Hp->Prop):Prop|mk (H0:Hp) (Φ:Hp) (ρ:br) (R:List D->Prop) (_:EnvD K H0 Φ H σ ρ) (_:t ρ R) (_:∀ds Φ' H' vs,R ds->Gr Φ H Φ' H'->nX K Φ' H' ds vs->Q vs H')
structure PAQ(K:Â)(X:Cx)(es:List Ã)(t:aT):Prop where pa:X.K=K->PA X es (lAQ K t)
def aS:PAQ K X [] wz:=⟨λ_=>pa_nil.imp λl H Q g=>by let⟨j,Φ,ρ,R,E,t,k⟩:=g;show k [] Φ H [] t (.refl E.fz) ⟨S,λi v d h _=>by simp at h⟩⟩
def aI(I:PQ K X e t)(M:PAQ K X es C)(N:starEach (e::es) X.env=(Ś,eval e X.env)::starEach es X.env):PAQ K X (e::es) (uy t C):=
 ⟨λw=>(eU (I.pe w) (M.pa w) N).imp λT H Q F=>by let⟨l,Φ,ρ,R,E,t,k⟩:=F;show⟨l,Φ,ρ,_,E,t,λd h U v r g P=>⟨l,h,ρ,_,E.gr g,r,λds j z vs O o rl=>
  k _ j z _ O (g.trans o) ⟨by simp[rl.1],λi u d y hd=>by
   cases i with
   |zero=>cases y;cases hd;show P.gr o
   |succ i=>show rl.2 i u d y hd⟩⟩⟩⟩
inductive lC(K:Â)(r:ca)(vs:List V)(H:Hp)(Q:VK):Prop|mk (Φ:Hp) (ds:List D) (R:D->Prop) (_:Same Φ H) (_:nX K Φ H ds vs) (_:r ds R) (_:∀d Φ' H' v,R d->Gr Φ H Φ' H'->Rp K Φ' d v->Q v H')
structure CallD(K:Â)(X:Cx)(f:Value)(r:ca):Prop where c:X.K=K->dZ X f (lC K r)
def bC{id:String}{r:ca}(I:CallD K X (.builtin id) r)(N:Gl X x)(O:X.mg x=ŗ)(b_:Û x=Z (.builtin id))(F:PAQ K X (e::es) C)
  (M:starEach (e::es) X.env=(Ś,eval e X.env)::starEach es X.env) (z:(backTo A (starEach es X.env)).any (·.1)=Ś) (P:x≠"__name__":=by decide) (y:ab x:=by decide):PD K X (.Call (.Name x p) (e::es) [] A) (nW r C):=
 ⟨λl=>(uK (I.c l) N O b_ (F.pa l) P y M z).imp λbe H Q w=>by let⟨u,Φ,ρ,R,E,t,k⟩:=w;show⟨u,Φ,ρ,_,E,t,λds j a_ vs r g rl=>⟨j,ds,R,g.s,rl,r,λd h o v T g' U=>k d h o v T (g.trans g') U⟩⟩⟩
def cf{T:String}{r:ca}(I:CallD K X (.type T) r)(N:Gl X x)(O:X.mg x=ŗ)(b_:Û x=Z (.type T))(F:PAQ K X (e::es) C)
  (M:starEach (e::es) X.env=(Ś,eval e X.env)::starEach es X.env) (z:(backTo A (starEach es X.env)).any (·.1)=Ś) (P:x≠"__name__":=by decide) (y:ab x:=by decide):PD K X (.Call (.Name x p) (e::es) [] A) (nW r C):=
 ⟨λl=>(kP (I.c l) N O b_ (F.pa l) P y M z).imp λσ H Q w=>by let⟨u,Φ,ρ,R,E,t,k⟩:=w;show⟨u,Φ,ρ,_,E,t,λds j be vs r g rl=>⟨j,ds,R,g.s,rl,r,λd h o v U g' a_=>k d h o v U (g.trans g') a_⟩⟩⟩
def fK{Φ H:Hp}{d:D}{vs:Y V}(h:nX K Φ H [d] vs):∃v,vs=[v]/\RpQ K Φ H d v:=by
 let⟨j,g⟩:=h
 match vs,j,g with
 | [v],_,g=>show⟨v,S,g 0 v d S S⟩
def wm{Φ H:Hp}{d e:D}{vs:Y V}(h:nX K Φ H [d,e] vs):∃v w,vs=[v,w]/\RpQ K Φ H d v/\RpQ K Φ H e w:=by
 let⟨j,g⟩:=h
 match vs,j,g with
 | [v,w],_,g=>show⟨v,w,S,g 0 v d S S,g 1 w e S S⟩
noncomputable def ER:ca:=λds R=>match ds with| [.lst xs]=>R (.int xs.length)| [.tup xs]=>R (.int xs.length)| [.fzl xs]=>R (.int xs.length)| [.str z]=>z.length<=sizeLine/\R (.int z.length)|_=>False
def cI:CallD K X (.builtin "len") ER:=⟨λw g s u H xs us Q I rr y=>by
 let⟨Φ,ds,R,sm,o,h,k⟩:=y
 match ds,h with
 | [.lst xs],h=>
  let⟨v,rfl,r⟩:=fK o;let⟨a,vs,rfl,j,l⟩:=r.lst sm;show qh g s u H _ us Q I rr ⟨a,vs,S,.inl (.of j),by rw[l.1];show k _ Φ H _ h (.refl sm) (.int _)⟩
 | [.tup xs],h=>
  let⟨v,rfl,r⟩:=fK o;let⟨a,vs,rfl,j,_,l⟩:=r.tup sm;show qh g s u H _ us Q I rr ⟨a,vs,S,.inr (w▸j),by rw[l.1];show k _ Φ H _ h (.refl sm) (.int _)⟩
 | [.fzl xs],h=>
  let⟨v,rfl,r⟩:=fK o;let⟨a,vs,rfl,j,l⟩:=r.fzl sm;show qh g s u H _ us Q I rr ⟨a,vs,S,.inl (w▸j),by rw[l.1];show k _ Φ H _ h (.refl sm) (.int _)⟩
 | [.str z],h=>
  let⟨v,rfl,r⟩:=fK o;cases r.str
  show HY g s u H _ us Q I rr ⟨z,S,h.1,k _ Φ H _ h.2 (.refl sm) (.int _)⟩⟩
noncomputable def Co:ca:=λds R=>match ds with| [.int i]=>R (.int (if i<0 then -i else i))|_=>False
def mh:CallD K X (.builtin "abs") Co:=⟨λu g s o H xs us Q I rr j=>by
 let⟨Φ,ds,R,sm,l,h,k⟩:=j
 match ds,h with
 | [.int i],h=>
  let⟨v,rfl,r⟩:=fK l;cases r.int
  show Fd g s o H _ us Q I rr ⟨i,S,k _ Φ H _ h (.refl sm) (.int _)⟩⟩
noncomputable def Hx:ca:=λds R=>match ds with| [.int i,.int j]=>R (.int (if j>i then j else i))|_=>False
noncomputable def CZ:ca:=λds R=>match ds with| [.int i,.int j]=>R (.int (if j<i then j else i))|_=>False
def sM(o:X.calm=ř):CallD K X (.builtin "max") Hx:=⟨λF g s z H xs us Q I rr l=>by
 let⟨Φ,ds,R,sm,r,h,k⟩:=l
 match ds,h with
 | [.int i,.int j],h=>
  let⟨v,w,rfl,u,y⟩:=wm r;cases u.int;cases y.int
  show yb o g s z H _ us Q I rr ⟨i,j,S,k _ Φ H _ h (.refl sm) (.int _)⟩⟩
def Gj(o:X.calm=ř):CallD K X (.builtin "min") CZ:=⟨λF g s z H xs us Q I rr l=>by
 let⟨Φ,ds,R,sm,r,h,k⟩:=l
 match ds,h with
 | [.int i,.int j],h=>
  let⟨v,w,rfl,u,y⟩:=wm r;cases u.int;cases y.int
  show GB o g s z H _ us Q I rr ⟨i,j,S,k _ Φ H _ h (.refl sm) (.int _)⟩⟩
def xa{Φ:Hp}{ns:Y Int}{vs:Y V}(h:RpL K Φ (ns.map D.int) vs):vs=ns.map V.int:=by
 refine K2 λi=>?_;rw[JF]
 cases e:ns[i]? with
 |none=>
  have:=L9.mp e;rw[Kd (by rwa[h.1,Jp])];rfl
 |some n=>
  let⟨v,g,r⟩:=h.at (i:=i) (d:=.int n) (by rw[JF,e];rfl);obtain rfl:=r.i;rw[g];rfl
def sH{Φ:Hp}{bs:Y Bool}{vs:Y V}(h:RpL K Φ (bs.map D.bl) vs):vs=bs.map V.bl:=by
 refine K2 λi=>?_;rw[JF]
 cases e:bs[i]? with
 |none=>
  have:=L9.mp e;rw[Kd (by rwa[h.1,Jp])];rfl
 |some n=>
  let⟨v,g,r⟩:=h.at (i:=i) (d:=.bl n) (by rw[JF,e];rfl);obtain rfl:=r.b;rw[g];rfl
def RpQ.sqb{Φ H:Hp}{d:D}{v:V}{ds:Y D}(s:Same Φ H)(h:RpQ K Φ H d v)(e:dh d=Z ds):∃(q:Bool)(a:Addr)(vs:Y V),v=.ref a/\SqB K q H a vs/\RpL K Φ ds vs:=by
 let⟨a,vs,j,g,l⟩:=h.seq s e;rcases g with g|g
 ·show⟨ř,a,vs,j,g,l⟩
 ·show⟨Ś,a,vs,j,g,l⟩
noncomputable def CP:ca:=λds R=>match ds with| [d]=>∃ns:Y Int,dh d=Z (ns.map D.int)/\R (.int ns.sum)|_=>False
def xA(u:X.calm=ř):CallD K X (.builtin "sum") CP:=⟨λo g s z H xs us Q I rr l=>by
 let⟨Φ,ds,R,sm,w,h,k⟩:=l
 match ds,h with
 | [d],⟨ns,e,h⟩=>
  let⟨v,rfl,r⟩:=fK w;let⟨q,a,vs,rfl,j,y⟩:=r.sqb sm e;rw[xa y]at j
  show EN q u g s z H _ us Q I rr ⟨a,ns,S,o▸j,k _ Φ H _ h (.refl sm) (.int _)⟩⟩
noncomputable def vR(f:Y Bool->Bool):ca:=λds R=>match ds with| [d]=>∃bs:Y Bool,dh d=Z (bs.map D.bl)/\R (.bl (f bs))|_=>False
def pR(u:X.calm=ř):CallD K X (.builtin "all") (vR λbs=>bs.all id):=⟨λo g s z H xs us Q I rr l=>by
 let⟨Φ,ds,R,sm,w,h,k⟩:=l
 match ds,h with
 | [d],⟨ns,e,h⟩=>
  let⟨v,rfl,r⟩:=fK w;let⟨q,a,vs,rfl,j,y⟩:=r.sqb sm e;rw[sH y]at j
  show En q u g s z H _ us Q I rr ⟨a,ns,S,o▸j,k _ Φ H _ h (.refl sm) (.bl _)⟩⟩
def tF(u:X.calm=ř):CallD K X (.builtin "any") (vR λbs=>bs.any id):=⟨λo g s z H xs us Q I rr l=>by
 let⟨Φ,ds,R,sm,w,h,k⟩:=l
 match ds,h with
 | [d],⟨ns,e,h⟩=>
  let⟨v,rfl,r⟩:=fK w;let⟨q,a,vs,rfl,j,y⟩:=r.sqb sm e;rw[sH y]at j
  show Hm q u g s z H _ us Q I rr ⟨a,ns,S,o▸j,k _ Φ H _ h (.refl sm) (.bl _)⟩⟩
noncomputable def zO:ca:=λds R=>match ds with| [.lst xs]=>R (.tup xs)| [.tup xs]=>R (.tup xs)| [.fzl xs]=>R (.tup xs)|_=>False
def cG:CallD K X (.type "tuple") zO:=⟨λy g s w H xs us Q I rr z=>by
 let⟨Φ,ds,R,sm,u,h,k⟩:=z
 match ds,h with
 | [.lst xs],h=>
  let⟨v,rfl,r⟩:=fK u;let⟨a,vs,rfl,l,o⟩:=r.lst sm;show rB g s w H _ us Q I rr ⟨a,vs,S,.inl ⟨.of l,λp j=>k _ _ _ _ h (.new sm j _) ((o.same (c8 (sm.free j) _)).tup bo)⟩⟩
 | [.fzl xs],h=>
  let⟨v,rfl,r⟩:=fK u;let⟨a,vs,rfl,l,o⟩:=r.fzl sm;show rB g s w H _ us Q I rr ⟨a,vs,S,.inl ⟨y▸l,λp j=>k _ _ _ _ h (.new sm j _) ((o.same (c8 (sm.free j) _)).tup bo)⟩⟩
 | [.tup xs],h=>
  let⟨v,rfl,r⟩:=fK u;let⟨a,vs,rfl,l,F,o⟩:=r.tup sm
  show rB g s w H _ us Q I rr ⟨a,vs,S,.inr ⟨y▸l,k _ Φ H _ h (.refl sm) (o.tup F)⟩⟩⟩
noncomputable def zd(t:TD):aT:=λρ R=>t ρ λd=>∃ds,dh d=Z ds/\R ds
def kZ(F:Gl X "list")(I:X.mg "list"=ŗ)(z:PQ K X e t)(o:starEach [e] X.env=(Ś,eval e X.env)::starEach [] X.env):PF K X (.Call (.Name "list" p) [e] [] A) (zd t):=
 ⟨λj=>(kP uB F I Ġ (eU (z.pe j) pa_nil o) 'b' 'b' o ae).imp λT H Q w=>by let⟨u,Φ,ρ,R,E,t,k⟩:=w;show⟨u,Φ,ρ,_,E,t,λd P U v r g O=>by
  let⟨ds,y,r⟩:=r;let⟨a,vs,rfl,M,N⟩:=O.seq g.s y
  show⟨a,vs,S,j▸M,λl h=>k _ _ _ l _ r (g.trans (.fresh g.s h _)) (g.h.free h) (g.s.free h) bo N⟩⟩⟩
noncomputable def CW:ca:=λds R=>match ds with| [.int i]=>R (.int i)| [.bl b]=>R (.int (if b then 1 else 0))|_=>False
def lx:CallD K X (.type "int") CW:=⟨λu g s l H xs us Q I rr o=>by
 let⟨Φ,ds,R,sm,j,h,k⟩:=o
 match ds,h with
 | [.int i],h=>
  let⟨v,rfl,r⟩:=fK j;cases r.int;show va g s l H _ us Q I rr (.inl ⟨i,S,k _ Φ H _ h (.refl sm) (.int _)⟩)
 | [.bl b],h=>
  let⟨v,rfl,r⟩:=fK j;cases r.bl
  show va g s l H _ us Q I rr (.inr ⟨b,S,k _ Φ H _ h (.refl sm) (.int _)⟩)⟩
noncomputable def lW(d:D)(T:String):Ř Bool:=match d with
 |.int _=>if T="int" then Z ř else if T="bool" then Z Ś else if T="tuple" then Z Ś else if T="str" then Z Ś else ŗ
 |.bl _=>if T="int" then Z ř else if T="bool" then Z ř else if T="tuple" then Z Ś else ŗ
 |.str _=>if T="str" then Z ř else if T="tuple" then Z Ś else ŗ
 |.tup _=>if T="tuple" then Z ř else if T="int" then Z Ś else ŗ
 |.lst _=>if T="tuple" then Z Ś else if T="list" then Z ř else ŗ
 |_=>ŗ
end
structure SteadyD(K:Â)(J:It)(Φ:Hp)(ds:List D):Prop where
 go:∀i H,Same Φ H->i<ds.length->J.go i H
 yl:∀i Φ2 H x H2 d,Same Φ Φ2->Same Φ2 H->ds[i]?=Z d->J.yld i H x H2->∃Φ3,Gr Φ2 H Φ3 H2/\Rp K Φ3 d x
 stop:∀H,Same Φ H->J.stop ds.length H
section
variable{K:Â}{Φ:Hp}{ds es:Y D}{vs c:Y V}{a:Addr}
def Bt(h:SqL K Φ a vs)(r:RpL K Φ ds vs):SteadyD K (pN K a) Φ ds:=
 ⟨λi H s hi=>⟨vs,vs[i]'(by rwa[r.1]),s.seq h,bJ _⟩,λi f H x j d g s hd y=>by
  let⟨e,y⟩:=y;subst e
  show⟨f,.refl s,(r.2 i x d (y vs ((g.trans s).seq h)) hd).same g⟩,λH s=>⟨vs,s.seq h,by rw[r.1];show Jx _⟩⟩
def yw(h:SqT K Φ a vs)(r:RpL K Φ ds vs):SteadyD K (rQ K a) Φ ds:=
 ⟨λi H s hi=>⟨vs,vs[i]'(by rwa[r.1]),s.sqt h,bJ _⟩,λi f H x j d g s hd y=>by
  let⟨e,y⟩:=y;subst e
  show⟨f,.refl s,(r.2 i x d (y vs ((g.trans s).sqt h)) hd).same g⟩,λH s=>⟨vs,s.sqt h,by rw[r.1];show Jx _⟩⟩
noncomputable def cC(lo:Int)(n:Nat):Y D:=(List.range n).map λi=>D.int (lo+(i:Nat))
def gb(lo:Int)(n:Nat):(cC lo n).length=n:=by unfold cC;simp
def hX{lo:Int}{n i:Nat}{d:D}(h:(cC lo n)[i]?=Z d):i<n/\d=.int (lo+(i:Nat)):=by
 have hi:i<n:=by have:=aC h;rwa [gb]at this
 unfold cC at h;rw[JF,LL hi]at h;cases h;show⟨hi,S⟩
def qW{lo:Int}{n:Nat}:SteadyD K (jn lo n) Φ (cC lo n):=
 ⟨λi H s hi=>by rw[gb]at hi;show hi,λi f H x g d h s hd y=>by
  let⟨e,y⟩:=y;subst e y;rw[(hX hd).2]
  show⟨f,.refl s,.int _⟩,λH s=>by rw[gb];show Jx n⟩
noncomputable def gP(ds:Y D):Y D:=ds.zipIdx.map λp=>.tup [.int (p.2:Nat),p.1]
def eQ(ds:Y D):(gP ds).length=ds.length:=by unfold gP;simp
def gq{i:Nat}{d:D}(h:(gP ds)[i]?=Z d):∃e,ds[i]?=Z e/\d=.tup [.int (i:Nat),e]:=by
 unfold gP at h;rw[JF,List.getElem?_zipIdx]at h
 cases e:ds[i]? with
 |none=>rw[e]at h;cases h
 |some x=>rw[e]at h;cases h;show⟨x,S,by simp⟩
def Rp.pair{H:Hp}{t:Addr}{d e:D}{x y:V}(h:H t=Z (.tup [x,y]))(f:Rp K H d x)(g:Rp K H e y):Rp K H (.tup [d,e]) (.ref t):=(RpL.cons f (.one g)).tup h
def C6{b:Bool}(h:SqB K b Φ a vs)(r:RpL K Φ ds vs):SteadyD K (nV K b a) Φ (gP ds):=
 ⟨λi H s hi=>by rw[eQ]at hi;show⟨vs,vs[i]'(by rwa[r.1]),SqB.same s h,bJ _⟩,λi p H x u d g s hd y=>by
  let⟨t,v,f,e,j,y⟩:=y;subst e j;let⟨e,l,rfl⟩:=gq hd;have o:=(r.2 i v e (y vs (SqB.same (g.trans s) h)) l).same (g.trans (c8 (s.free f) (.tup [.int i,v])))
  show⟨_,.new s f _,.pair bo (.int _) o⟩,λH s=>by rw[eQ];show⟨vs,SqB.same s h,by rw[r.1];show Jx _⟩⟩
noncomputable def fV(ds es:Y D):Y D:=List.zipWith (λx y=>.tup [x,y]) ds es
def tw(ds es:Y D):(fV ds es).length=min ds.length es.length:=by unfold fV;simp
def FI{i:Nat}{d:D}(h:(fV ds es)[i]?=Z d):∃x y,ds[i]?=Z x/\es[i]?=Z y/\d=.tup [x,y]:=by
 unfold fV at h;rw[LW]at h
 cases e:ds[i]? with
 |none=>rw[e]at h;cases h
 |some x=>
  cases f:es[i]? with
  |none=>rw[e,f]at h;cases h
  |some y=>rw[e,f]at h;cases h;show⟨x,y,S,S,S⟩
def Cg{o r:Bool}{a1 a2:Addr}(f:SqB K o Φ a1 vs)(g:SqB K r Φ a2 c)(h:RpL K Φ ds vs)(j:RpL K Φ es c):SteadyD K (rY K o a1 r a2) Φ (fV ds es):=
 ⟨λi H s hi=>by
  rw[tw]at hi
  have C:i<vs.length:=by rw[h.1];omega
  have E:i<c.length:=by rw[j.1];omega
  show⟨vs,c,vs[i],c[i],SqB.same s f,SqB.same s g,bJ C,bJ E⟩,λi I H x J d l s hd y=>by
  let⟨t,u,v,w,e,z,F,G⟩:=y;subst e z;let⟨p,q,A,B,rfl⟩:=FI hd;have sn:=l.trans (c8 (s.free w) (.tup [u,v]))
  show⟨_,.new s w _,.pair bo ((h.2 i u p (F vs (SqB.same (l.trans s) f)) A).same sn) ((j.2 i v q (G c (SqB.same (l.trans s) g)) B).same sn)⟩,λH s=>by
  rw[tw]
  show⟨vs,c,SqB.same s f,SqB.same s g,by rw[h.1,j.1];omega⟩⟩
end
inductive lI(K:Â)(t:aT)(σ:St)(H:Hp)(R':It->Hp->Prop):Prop|mk (H0:Hp) (Φ:Hp) (ρ:br) (R:List D->Prop) (_:EnvD K H0 Φ H σ ρ) (_:t ρ R) (_:∀ds Φ' H' J,R ds->Gr Φ H Φ' H'->SteadyD K J Φ' ds->R' J H')
structure PID(K:Â)(X:Cx)(tg e:Ã)(t:aT):Prop where pi:X.K=K->PI X tg e (lI K t)
def PI.imp{X:Cx}{f e:Ã}{t t':TI}(h:PI X f e t)(k:∀c H R,t' c H R->t c H R):PI X f e t':=λa s c H R I g=>h a s c H R I (k c H R g)
section
variable{K:Â}{X:Cx}{l e a:Ã}{es:Y Ã}{c p:Ö}{t:TD}{f:aT}
def vX{es:Y Ã}{k:Nat}{t:fF}{n:Nat}(j:X.K=K)(o:X.calm=ř)(h:PGs X es t)(r:(Æ es X.env).length=n)(g:(Æ es X.env).findIdx? (·.1)=ŗ):PG X (.Tuple es k c) (qB K n t):=j▸tN o h r g
def uk{es:Y Ã}{k:Nat}{t:fF}{n:Nat}(j:X.K=K)(o:X.calm=ř)(h:PGs X es t)(r:(Æ es X.env).length=n)(g:(Æ es X.env).findIdx? (·.1)=ŗ):PG X (.Tuple es k c) (pH K n t):=j▸Cd o h r g
noncomputable def Id(t:aT):aT:=λρ R=>t ρ λds=>match ds with| [.int j]=>(-(2^62)<=j/\j<2^62)/\R (cC 0 j.toNat)|_=>False
def RpL.one_inv{Φ:Hp}{d:D}{vs:Y V}(h:RpL K Φ [d] vs):∃v,vs=[v]/\Rp K Φ d v:=by
 let⟨j,g⟩:=h
 match vs,j,g with
 | [v],_,g=>show⟨v,S,g 0 v d S S⟩
def RpL.two_inv{Φ:Hp}{d e:D}{vs:Y V}(h:RpL K Φ [d,e] vs):∃v w,vs=[v,w]/\Rp K Φ d v/\Rp K Φ e w:=by
 let⟨j,g⟩:=h
 match vs,j,g with
 | [v,w],_,g=>show⟨v,w,S,g 0 v d S S,g 1 w e S S⟩
def iP(z:Gl X "range")(A:X.mg "range"=ŗ)(y:PAD K X [a] f)(B:starEach [a] X.env=[(Ś,eval a X.env)]:=by rfl):PID K X l (.Call (.Name "range" p) [a] [] c) (Id f):=
 ⟨λx=>(vq z A (y.pa x) B).imp λI H G w=>by let⟨o,Φ,ρ,R,E,t,k⟩:=w;show⟨o,Φ,ρ,_,E,t,λds h u vs r g F _=>by
  match ds,r with
  | [.int j],r=>
   let⟨v,rfl,C⟩:=F.one_inv;obtain rfl:=C.i
   show⟨j,S,r.1.1,r.1.2,k _ h u _ r.2 g qW⟩⟩⟩
end
noncomputable abbrev dz:=D->br->(br->Prop)->Prop
noncomputable abbrev fT:=Y D->br->(br->Prop)->Prop
inductive lG(K:Â)(g:dz)(v:V)(σ:St)(H:Hp)(Q:St->Hp->Prop):Prop|mk (H0:Hp) (Φ:Hp) (ρ:br) (d:D) (R:br->Prop) (_:EnvD K H0 Φ H σ ρ) (_:Rp K Φ d v) (_:g d ρ R) (_:∀ρ' σ',R ρ'->EnvD K H0 Φ H σ' ρ'->Q σ' H)
inductive lGs(K:Â)(g:fT)(vs:List V)(σ:St)(H:Hp)(Q:St->Hp->Prop):Prop|mk (H0:Hp) (Φ:Hp) (ρ:br) (ds:List D) (R:br->Prop) (_:EnvD K H0 Φ H σ ρ) (_:RpL K Φ ds vs) (_:g ds ρ R) (_:∀ρ' σ',R ρ'->EnvD K H0 Φ H σ' ρ'->Q σ' H)
structure PGD(K:Â)(X:Cx)(e:Ã)(g:dz):Prop where pg:X.K=K->PG X e (lG K g)
structure PGDs(K:Â)(X:Cx)(es:List Ã)(g:fT):Prop where pg:X.K=K->PGs X es (lGs K g)
def PG.imp{X:Cx}{e:Ã}{t t':TG}(h:PG X e t)(k:∀v c H Q,t' v c H Q->t v c H Q):PG X e t':=λa s c H v u Q I r f=>h a s c H v u Q I r (k v c H Q f)
def PGs.imp{X:Cx}{e:Y Ã}{t t':fF}(h:PGs X e t)(k:∀v c H Q,t' v c H Q->t v c H Q):PGs X e t':=λa s c H v u Q I r f=>h a s c H v u Q I r (k v c H Q f)
section
variable{K:Â}{X:Cx}{e:Ã}{es:Y Ã}{a:Ö}{g:dz}{gs:fT}
noncomputable def qj(i:Nat):dz:=λd ρ R=>R (ρ.set i (Z (.v d)))
def bf{i:Nat}{x:Str}(f:X.N.Nodup)(hi:X.N[i]?=Z x)(j:eC X.env.scope x)(h:X.fn x=ř\/X.env.scope.names.lookup x=Z .local:=by nofun):PGD K X (.Name x a) (qj i):=
 ⟨λ_=>(kS f hi j h).imp λv o H Q c=>by let⟨l,Φ,ρ,d,R,E,r,g,k⟩:=c;show k _ _ g (E.set r i)⟩
noncomputable def qJ:fT:=λds ρ R=>match ds with| []=>R ρ|_=>False
noncomputable def mY(t:dz)(u:fT):fT:=λds ρ R=>match ds with|d::r=>t d ρ λc=>u r c R| []=>False
def dH:PGDs K X [] qJ:=⟨λ_=>pgs_nil.imp λv h H Q c=>by
 let⟨f,Φ,ρ,ds,R,E,r,g,k⟩:=c
 cases ds with
 |nil=>show⟨Kq.mp r.1,k _ _ g E⟩
 |cons=>show g.elim⟩
def bL(p:PGD K X e g)(w:PGDs K X es gs)(y:(Æ (e::es) X.env).map (·.2)=assign e X.env::(Æ es X.env).map (·.2):=by rfl):PGDs K X (e::es) (mY g gs):=
 ⟨λj=>(lq (p.pg j) (w.pg j) y).imp λvs B H Q o=>by
  let⟨h,Φ,ρ,ds,R,E,r,g,k⟩:=o
  cases ds with
  |nil=>show g.elim
  |cons d ds=>
   cases vs with
   |nil=>show absurd r.1 (by simp)
   |cons v vs=>
    refine⟨v,vs,S,h,Φ,ρ,d,_,E,r.2 0 v d S S,g,λc A g' l=>⟨h,Φ,c,ds,R,l,⟨by have:=r.1;simpa using this,λi u f z x=>r.2 (i+1) u f z x⟩,g',k⟩⟩⟩
end
noncomputable def fA(cap:Y (Ř Nat))(ρ:br):br:=cap.map λo=>o.bind λi=>(ρ[i]?).join
def qw{a:Type}{o:Ř (Ř a)}{x:a}(h:o.join=Z x):o=Z (Z x):=by
 cases o with
 |none=>cases h
 |some o=>cases o with
  |none=>cases h
  |some y=>cases h;rfl
def jB{a:Type}{cap:Y (Ř Nat)}{l:Y (Ř a)}{i:Nat}{x:a}(h:(cap.map λo=>o.bind λi=>(l[i]?).join)[i]?=Z (Z x)):∃j,cap[i]?=Z (Z j)/\l[j]?=Z (Z x):=by
 rw[JF]at h
 cases e:cap[i]? with
 |none=>rw[e]at h;cases h
 |some o=>
  rw[e]at h
  cases o with
  |none=>cases h
  |some j=>show⟨j,S,qw (by simpa using h)⟩
def EnvD.cap{K:Â}{o Φ H:Hp}{f:St}{ρ:br}{cap:Y (Ř Nat)}(E:EnvD K o Φ H f ρ)(inj:∀i j k:Nat,cap[i]?=Z (Z k)->cap[j]?=Z (Z k)->i=j):EnvD K o Φ H (eB cap f) (fA cap ρ):=by
 have st:∀{i j:Nat}{v:V},cap[i]?=Z (Z j)->f[j]?=Z (Z v)->(eB cap f)[i]?=Z (Z v):=λg l=>by unfold eB;rw[JF,g];simp[l]
 have y:∀{i j:Nat}{v:V},cap[i]?=Z (Z j)->(eB cap f)[i]?=Z (Z v)->f[j]?=Z (Z v):=λg l=>by let⟨x,a,c⟩:=jB l;rw[g]at a;cases a;show c
 refine⟨E.fz,by unfold eB fA;simp,λi d h=>?_,λi ds h=>?_,λi j ds es p hi A B C=>?_,E.tb⟩
 ·let⟨j,a,c⟩:=jB h;let⟨v,e,r⟩:=E.sl j d c;show⟨v,st a e,r⟩
 ·let⟨j,a,c⟩:=jB h;let⟨p,vs,e,q⟩:=E.ow j ds c;show⟨p,vs,st a e,q⟩
 ·let⟨w,a,c⟩:=jB hi;let⟨x,u,z⟩:=jB A;have:=E.ne w x ds es p c z (y a B) (y u C);subst this;show inj i j w a u
structure GK(k:Nat)(g:dz):Prop where p:∀d ρ R,g d ρ R->g d ρ λρ1=>ρ1.length=ρ.length/\ρ1.drop k=ρ.drop k/\R ρ1
structure GKs(k:Nat)(g:fT):Prop where p:∀ds ρ R,g ds ρ R->g ds ρ λρ1=>ρ1.length=ρ.length/\ρ1.drop k=ρ.drop k/\R ρ1
def Hy{k i:Nat}(h:i<k):GK k (qj i):=⟨λd ρ R r=>⟨by simp,by rw[List.drop_set_of_lt h],r⟩⟩
def DX{k:Nat}:GKs k qJ:=⟨λds ρ R r=>by
 cases ds with
 |nil=>show⟨S,S,r⟩
 |cons=>show r⟩
def Hd{t:dz}{u:fT}(c:∀d ρ R a,(∀x,R x->a x)->t d ρ R->t d ρ a)(e:∀d ρ R a,(∀x,R x->a x)->u d ρ R->u d ρ a):∀d ρ R a,(∀x,R x->a x)->mY t u d ρ R->mY t u d ρ a:=by
 intro ds ρ R a h r
 cases ds with
 |nil=>show r
 |cons d ds=>show c d ρ _ _ (λx f=>e ds x _ _ h f) r
structure GM(k:Nat)(g:dz):Prop where
 k:GK k g
 m:∀d ρ R R',(∀x,R x->R' x)->g d ρ R->g d ρ R'
structure GMs(k:Nat)(g:fT):Prop where
 k:GKs k g
 m:∀d ρ R R',(∀x,R x->R' x)->g d ρ R->g d ρ R'
def bz{k i:Nat}(h:i<k):GM k (qj i):=⟨Hy h,λd ρ R a h r=>h _ r⟩
def hV{k:Nat}:GMs k qJ:=⟨DX,λds ρ R a h r=>by
 cases ds with
 |nil=>show h _ r
 |cons=>show r⟩
def dD{k:Nat}{t:dz}{u:fT}(a:GM k t)(c:GMs k u):GMs k (mY t u):=⟨⟨λds ρ R r=>by
 cases ds with
 |nil=>show r
 |cons d ds=>
  have h:t d ρ λf=>u ds f R:=r;refine a.m _ _ _ _ (λg q=>?_) (a.k.p d ρ _ h)
  show c.m _ _ _ _ (λj e=>⟨e.1.trans q.1,e.2.1.trans q.2.1,e.2.2⟩) (c.k.p ds g R q.2.2)⟩,Hd a.m c.m⟩
def pG:cw:=λ_ R=>R ř
structure PIfD(K:Â)(X:Cx)(ifs:List Ã)(t:cw):Prop where p:X.K=K->jq X ifs (lT K t)
def uE{K:Â}{X:Cx}:PIfD K X [] pG:=⟨λ_ a s e H Q I c=>by let⟨f,Φ,ρ,R,E,t,k⟩:=c;show uI a s e H Q I (k ř Φ H t (.refl E.fz))⟩
def jT{K:Â}{X:Cx}{c:Ã}{t:cw}(h:PTD K X c t):PIfD K X [c] t:=⟨λa=>GV (h.pt a)⟩
def EnvD.side{K:Â}{a Φ H:Hp}{f:St}{ρ:br}{p:Addr}{o u:HO}(E:EnvD K a Φ H f ρ)(g:a p=Z u)(j:Φ p=ŗ):EnvD K a Φ (ap H p o) f ρ:=
 ⟨λb w e=>by rw[aY (cY e j)];show E.fz b w e,E.len,E.sl,λi ds h=>by
  let⟨q,vs,e,c,l,v,r⟩:=E.ow i ds h
  show⟨q,vs,e,c,l,by rwa[aY λz=>by rw[z,g]at c;cases c],r⟩,E.ne,E.tb⟩
def EnvD.base{K:Â}{a Φ H:Hp}{f:St}{ρ:br}{p:Addr}{u:HO}(E:EnvD K a Φ H f ρ)(g:H p=ŗ):EnvD K (ap a p u) Φ H f ρ:=
 ⟨E.fz,E.len,E.sl,λi ds h=>by
  let⟨q,vs,e,o,j,c,l⟩:=E.ow i ds h
  show⟨q,vs,e,by rwa[aY (cY c g)],j,c,l⟩,E.ne,E.tb⟩
noncomputable def nY(f:aT)(cap:Y (Ř Nat))(g:dz)(c:cw)(e:TD):aT:=λρ R=>f ρ λds=>ds.length<sizeLine/\∃P:Nat->Ř D->Prop,
 (∀i d,ds[i]?=Z d->g d (fA cap ρ) λa=>c a λb=>(b=ř->e a λy=>P i (Z y))/\(b=Ś->P i ŗ))/\∀ys:Y (Ř D),ys.length=ds.length->(∀i y,ys[i]?=Z y->P i y)->R (ys.filterMap id)
def yH(ys:Y (Ř D))(y:D):(ys++[Z y]).filterMap id=ys.filterMap id++[y]:=by simp
def GS(ys:Y (Ř D)):(ys++[ŗ]).filterMap id=ys.filterMap id:=by simp
def IH(ys:Y (Ř D)):(ys.filterMap id).length<=ys.length:=List.length_filterMap_le _ _
def fw{f:Type}{ys:Y f}{y:f}{P:Nat->f->Prop}{n:Nat}(l:ys.length=n)(h:∀i z,ys[i]?=Z z->P i z)(j:P n y):∀i z,(ys++[y])[i]?=Z z->P i z:=by
 intro i z a;rcases Kg i ys.length with c|c
 ·rw[Js c]at a;show h i z a
 ·rw[Jq c]at a
  have g:i-ys.length=0:=by
   rcases Nat.eq_zero_or_pos (i-ys.length)with e|e
   ·show e
   ·rw[Kd (by simp only[JH,K5];omega)]at a;cases a
  rw[g]at a;cases a
  have:i=n:=by omega
  subst this;show j
noncomputable def gf(k:Nat)(cap:Y (Ř Nat)):Bool:=(cap.take k).all (·.isNone)&&decide ((cap.filterMap id).Nodup)
def zk{k:Nat}{cap:Y (Ř Nat)}(h:gf k cap=ř){i:Nat}(hi:i<k){o:Ř Nat}(e:cap[i]?=Z o):o=ŗ:=by
 unfold gf at h;rw[KJ]at h;have:=K7.mp h.1 o (Jw (i:=i) (by rwa[Md hi]))
 cases o with
 |none=>rfl
 |some _=>cases this
def BB{k:Nat}{cap:Y (Ř Nat)}(h:gf k cap=ř):∀i j n:Nat,cap[i]?=Z (Z n)->cap[j]?=Z (Z n)->i=j:=by
 unfold gf at h;rw[KJ]at h;have nd:=Kc h.2;clear h
 induction cap with
 |nil=>intro i j n hi;simp at hi
 |cons o cap l=>
  intro i j n hi a
  have f:(cap.filterMap id).Nodup:=by
   cases o with
   |none=>simpa using nd
   |some m=>have e : (Z m :: cap).filterMap id = m :: cap.filterMap id:= rfl
            rw [e]at nd; show (JZ.mp nd).2
  have one:∀{i:Nat},o=Z n->cap[i]?=Z (Z n)->False:=λ{i} g c=>by
   subst g;have e:(Z n::cap).filterMap id=n::cap.filterMap id:=rfl;rw[e]at nd;show (JZ.mp nd).1 (LM.mpr ⟨Z n,Jw c,S⟩)
  cases i with
  |zero=>cases j with
   |zero=>rfl
   |succ j=>show (one (by simpa using hi) (by simpa using a)).elim
  |succ i=>cases j with
   |zero=>show (one (by simpa using a) (by simpa using hi)).elim
   |succ j=>show Kf Nat.succ (l f i j n (by simpa using hi) (by simpa using a))
section
variable{K:Â}{X:Cx}{w a r:Ã}{F:Y Ã}{scope:â}{B:Ö}{N':Y Str}{cap:Y (Ř Nat)}{l:aT}{g:dz}{A:cw}{f:TD}
def tL{k:Nat}(Og:gf k cap=ř)(hk:GM k g){σ:St}{H:Hp}{Q:VK}{a_ Φ:Hp}{ρ:br}{R W:Y D->Prop}(E:EnvD K a_ Φ H σ ρ)(t:l ρ W)
  (conv:∀ds,W ds->ds.length<sizeLine/\∃P:Nat->Ř D->Prop,(∀i d,ds[i]?=Z d->g d (fA cap ρ) λz=>A z λb=>(b=ř->f z λy=>P i (Z y))/\(b=Ś->P i ŗ))/\∀ys:Y (Ř D),ys.length=ds.length->(∀i y,ys[i]?=Z y->P i y)->R (ys.filterMap id))
  (kk:∀ds h G p vs,R ds->Gr Φ H h G->H p=ŗ->h p=ŗ->G p=Z (.lst vs)->RpL K h ds vs->Q (.ref p) G):gO (lI K l) cap (lG K g) (lT K A) (lE K f) σ H Q:=by
 refine⟨a_,Φ,ρ,W,E,t,λds I H1 J hW g1 b_ C hD=>?_⟩
 let⟨hlen,P,hp,hr⟩:=conv ds hW
 have E1:=E.gr g1;have SE:I C=ŗ:=g1.s.free hD;have C0:EnvD K (ap a_ C (.lst [])) I (ap H1 C (.lst [])) (eB cap σ) (fA cap ρ):=((E1.base (u:=.lst []) hD).side (o:=.lst []) bo SE).cap (BB Og);refine⟨λi m σ' G=>m=ds.length-i/\i<=ds.length/\∃(h:Hp)(vs:Y V)(ys:Y (Ř D)),EnvD K (ap a_ C (.lst [])) h G σ' (fA cap ρ)/\Gr I H1 h G/\h C=ŗ/\G C=Z (.lst vs)/\RpL K h (ys.filterMap id) vs/\ys.length=i/\∀j y,ys[j]?=Z y->P j y,⟨ds.length,by simp,Lh _,I,[],[],C0,.fresh g1.s hD _,SE,bo,.nil,S,λj y hj=>by simp at hj⟩,?_⟩;rintro i m σ' G ⟨rfl,hi,h,vs,ys,Ei,L,Tc,RJ,Ol,be,hy⟩;by_cases N8:i<ds.length
 ·refine .inr ⟨b_.go i G (L.f.trans L.s) N8,λσ2 U=>∃(h:Hp)(vs:Y V)(ys:Y (Ř D)),EnvD K (ap a_ C (.lst [])) h U σ2 (fA cap ρ)/\Gr I H1 h U/\h C=ŗ/\U C=Z (.lst vs)/\RpL K h (ys.filterMap id) vs/\ys.length=i+1/\∀j y,ys[j]?=Z y->P j y,λσ2 U h2=>⟨ds.length-(i+1),(),S,N8,h2⟩,λx U y=>?_⟩;let⟨O,M,rx⟩:=b_.yl i h G x U _ L.f L.s (bJ N8) y;have E3:=Ei.gr M;refine⟨_,O,fA cap ρ,_,_,E3,rx,hk.k.p _ _ _ (hp i _ (bJ N8)),λz σ3 NT E4=>?_⟩;let⟨Pk,hd1,t1⟩:=NT
  have wk:∀(j:Nat) x,(fA cap ρ)[j]?=Z (Z x)->z[j]?=Z (Z x):=λj x hj=>by
   rcases Kg j k with c|c
   ·let⟨n,h1,_⟩:=jB hj;cases zk Og c h1
   ·have e1:(fA cap ρ)[j]?=((fA cap ρ).drop k)[j-k]?:=by rw[Mg];congr 1;omega
    have e2:z[j]?=(z.drop k)[j-k]?:=by rw[Mg];congr 1;omega
    rwa[e2,hd1,←e1]
  have Vp:O C=ŗ:=M.o _ _ RJ Tc;refine⟨_,O,z,_,E4,t1,λb T H4 rb N=>?_⟩;have E5:=(E4.gr N);have Sf:=N.h _ _ (M.h _ _ RJ);have hD4:T C=ŗ:=N.o _ _ (M.h _ _ RJ) Vp
  cases b with
  |false=>
   refine j9 ?_;refine⟨T,vs,ys++[ŗ],E5.weak Pk.symm wk,(L.trans M).trans N,hD4,Sf,?_,by rw[Jr,be];rfl,fw be hy (rb.2 S)⟩;rw[GS];show (Ol.same M.f).same N.f
  |true=>
   refine jC ?_;refine⟨_,T,z,_,E5,rb.1 S,λd Φ5 H5 v rd g5 rv=>?_⟩;have E6:=E5.gr g5;have Vq:=g5.h _ _ Sf;have Vr:Φ5 C=ŗ:=g5.o _ _ Sf hD4;have gg:=((L.trans M).trans N).trans g5;refine⟨vs,Vq,?_,Φ5,vs++[v],ys++[Z d],(E6.weak Pk.symm wk).side bo Vr,?_,Vr,bo,?_,by rw[Jr,be];rfl,fw be hy rd⟩
   ·have:=IH ys;rw[Ol.1];omega
   ·show⟨gg.f,vU gg.h hD _,λb u e=>by rw[aY (cY e Vr)];show gg.s b u e,λp u hp hn k=>gg.o p u hp hn k⟩
   ·rw[yH];show (((Ol.same M.f).same N.f).same g5.f).append (.one rv)
 ·have e:i=ds.length:=by omega
  subst e;show .inl ⟨b_.stop G (L.f.trans L.s),kk _ h G C vs (hr ys be hy) (g1.trans L) (g1.h.free hD) Tc RJ Ol⟩
def qx{k:Nat}(e:gf k cap=ř)(j:GM k g){c:St}{H:Hp}{Q:VK}(h:lF K (nY l cap g A f) c H Q):gO (lI K l) cap (lG K g) (lT K A) (lE K f) c H Q:=by let⟨p,Φ,ρ,R,E,t,o⟩:=h;show tL e j E t (λds h=>h) o
def qf{k:Nat}(o:X.calm=ř)(Q:CompScope X.N X.env.scope scope N' cap)(p:gf k cap=ř)(y:GM k g)(hi:PID K X w a l)
  (v:∀(cl:Y (Str×Addr))(e:Y Addr)(C:Addr)(h:À)(c:Hp),PGD K (b8 X scope N' cl C h c e) w g) (E:∀(cl:Y (Str×Addr))(e:Y Addr)(C:Addr)(h:À)(c:Hp),PIfD K (b8 X scope N' cl C h c e) F A)
  (u:∀(cl:Y (Str×Addr))(e:Y Addr)(C:Addr)(h:À)(c:Hp),PD K (b8 X scope N' cl C h c e) r f) (z:∀x,Ì a X.env x=pure x:=by intro _;rfl):PF K X (.ListComp r [⟨w,a,F,0⟩] scope B) (nY l cap g A f):=
 ⟨λj=>(v7 o Q (hi.pi j) (λcl e C h c=>(v cl e C h c).pg j) (λcl e C h c=>(E cl e C h c).p j) (λcl e C h c=>(u cl e C h c).pe j) z).imp λ_ _ _=>qx p y⟩
noncomputable def qL(l:aT)(cap:Y (Ř Nat))(g:dz)(f:TD):aT:=λρ R=>l ρ λds=>ds.length<sizeLine/\∃P:Nat->D->Prop,
 (∀i d,ds[i]?=Z d->g d (fA cap ρ) λc=>f c (P i))/\∀ys:Y D,ys.length=ds.length->(∀i y,ys[i]?=Z y->P i y)->R ys
noncomputable def yS(P:Nat->D->Prop):Nat->Ř D->Prop:=λi o=>match o with|some y=>P i y|none=>False
theorem uY{P:Nat->D->Prop}:∀(ys:Y (Ř D)),(∀(i:Nat) y,ys[i]?=Z y->∃z,y=Z z)->∃c:Y D,ys=c.map Z
 | [],_=>⟨[],S⟩
 |y::ys,h=>by let⟨z,rfl⟩:=h 0 y S;let⟨c,rfl⟩:=uY (P:=P) ys λi y e=>h (i+1) y e;show⟨z::c,S⟩
def zo{ds:Y D}{ρ:br}{R:Y D->Prop}(h:ds.length<sizeLine/\∃P:Nat->D->Prop,(∀i d,ds[i]?=Z d->g d (fA cap ρ) λc=>f c (P i))/\∀ys:Y D,ys.length=ds.length->(∀i y,ys[i]?=Z y->P i y)->R ys){k:Nat}(x:GM k g) :
  ds.length<sizeLine/\∃P:Nat->Ř D->Prop,(∀i d,ds[i]?=Z d->g d (fA cap ρ) λc=>pG c λb=>(b=ř->f c λy=>P i (Z y))/\(b=Ś->P i ŗ))/\∀ys:Y (Ř D),ys.length=ds.length->(∀i y,ys[i]?=Z y->P i y)->R (ys.filterMap id):=by
 let⟨p,P,u,v⟩:=h;refine⟨p,yS P,λi d hd=>x.m _ _ _ _ (λc q=>⟨λ_=>q,λe=>by cases e⟩) (u i d hd),λys C o=>?_⟩
 let⟨j,rfl⟩:=uY (P:=P) ys λi y e=>by
  have:=o i y e
  cases y with
  |none=>show this.elim
  |some z=>show⟨z,S⟩
 rw[MX]
 have e:j.filterMap (id ∘ Z)=j:=by simp
 rw[e];refine v j (by simpa using C) λi y e=>?_;show o i (Z y) (by rw[JF,e];rfl)
def uT{k:Nat}(j:gf k cap=ř)(c:GM k g){e:St}{H:Hp}{Q:VK}(h:lF K (qL l cap g f) e H Q):gO (lI K l) cap (lG K g) (lT K pG) (lE K f) e H Q:=by let⟨p,Φ,ρ,R,E,t,o⟩:=h;show tL j c E t (λds h=>zo h c) o
def cZ{k:Nat}(o:X.calm=ř)(Q:CompScope X.N X.env.scope scope N' cap)(p:gf k cap=ř)(y:GM k g)(hi:PID K X w a l)
  (v:∀(cl:Y (Str×Addr))(e:Y Addr)(C:Addr)(h:À)(c:Hp),PGD K (b8 X scope N' cl C h c e) w g)
  (u:∀(cl:Y (Str×Addr))(e:Y Addr)(C:Addr)(h:À)(c:Hp),PD K (b8 X scope N' cl C h c e) r f) (z:∀x,Ì a X.env x=pure x:=by intro _;rfl):PF K X (.ListComp r [⟨w,a,[],0⟩] scope B) (qL l cap g f):=
 ⟨λj=>(v7 o Q (hi.pi j) (λcl e C h c=>(v cl e C h c).pg j) (λcl e C h c=>(uE (K:=K)).p j) (λcl e C h c=>(u cl e C h c).pe j) z).imp λ_ _ _=>uT p y⟩
end
structure EndsD where
 nx:br->Prop
 rt:D->Prop
 bk:br->Prop:=λ_=>False
 ct:br->Prop:=λ_=>False
abbrev de:=EndsD->br->Prop
noncomputable def pC(K:Â)(g h:Hp)(P:br->Prop)(Q:St->Hp->Prop):Prop:=∀c a f e,P c->Gr g h a f->EnvD K h a f e c->Q e f
structure EndOk(K:Â)(Φ0 H0:Hp)(De:EndsD)(E:Ends):Prop where
 nx:pC K Φ0 H0 De.nx E.nx
 rt:∀d Φ' H' v,De.rt d->Gr Φ0 H0 Φ' H'->Rp K Φ' d v->E.rt v H'
 bk:pC K Φ0 H0 De.bk E.bk
 ct:pC K Φ0 H0 De.ct E.ct
inductive lS(K:Â)(t:de)(E:Ends)(σ:St)(H:Hp):Prop|mk (Φ0:Hp) (H0:Hp) (Φ:Hp) (ρ:br) (De:EndsD) (_:Gr Φ0 H0 Φ H) (_:EnvD K H0 Φ H σ ρ) (_:t De ρ) (_:EndOk K Φ0 H0 De E)
structure PSD(K:Â)(X:Cx)(st:Ç)(t:de):Prop where ps:X.K=K->PS X st (lS K t)
structure PSsD(K:Â)(X:Cx)(st:List Ç)(t:de):Prop where ps:X.K=K->PSs X st (lS K t)
section
variable{K:Â}{X:Cx}{st:Ç}{l:Y Ç}{t u:de}{e a:Ã}{o:TD}{tf:aT}{f:Ö}{w:cw}
def Al:de:=λc ρ=>c.nx ρ
noncomputable def Er(t u:de):de:=λc ρ=>t { c with nx:=u c } ρ
noncomputable def Gf(t u:de):de:=λg ρ=>∃I:br->Prop,t { g with nx:=I } ρ/\∀c,I c->u g c
def cF:PSsD K X [] Al:=⟨λ_=>pss_nil.imp λE j H c=>by let⟨h,r,Φ,ρ,p,g,V,t,k⟩:=c;show k.nx ρ Φ H j t g V⟩
def bF(z:PSD K X st t)(A:PSsD K X l u):PSsD K X (st::l) (Er t u):=⟨λr=>(ma (z.ps r) (A.ps r)).imp λE F H x=>by let⟨c,p,Φ,ρ,v,g,V,t,k⟩:=x;exact
 ⟨c,p,Φ,ρ,_,g,V,t,⟨λj h C B t' g' y=>⟨c,p,h,j,v,g',y,t',k⟩,k.rt,k.bk,k.ct⟩⟩⟩
def fu(A:PSD K X st t)(B:PSsD K X l u):PSsD K X (st::l) (Gf t u):=⟨λv=>(ma (A.ps v) (B.ps v)).imp λE G H y=>by let⟨h,r,Φ,ρ,x,g,V,⟨I,t,c⟩,k⟩:=y;exact
 ⟨h,r,Φ,ρ,_,g,V,t,⟨λj p F C t' g' z=>⟨h,r,p,j,x,g',z,c j t',k⟩,k.rt,k.bk,k.ct⟩⟩⟩
def aL(c:PSD K X st t):PSsD K X [st] t:=⟨λg=>t9 (c.ps g)⟩
def BP:de:=λ_ _=>False
def Du:PSD K X st BP:=⟨λ_=>ps_never.imp λE r H c=>by let⟨h,p,Φ,ρ,j,g,V,t,k⟩:=c;show t⟩
noncomputable def k8(i:Nat)(o:TD):de:=λc ρ=>o ρ λd=>c.nx (ρ.set i (Z (.v d)))
def Fq{i:Nat}{E:Ends}{p:St}{H:Hp}(h:lS K (k8 i o) E p H):jm (lE K o) (iY i) E p H:=by let⟨A,x,Φ,ρ,B,g,V,t,k⟩:=h;show⟨x,Φ,ρ,_,V,t,λd c y v r j z=>k.nx _ c y _ r (g.trans j) ((V.gr j).set z i)⟩
def dg{i:Nat}{x:Str}{c:Ö}(h:X.N.Nodup)(hi:X.N[i]?=Z x)(v:eC X.env.scope x)(j:PD K X e o)(r:Î e (Z (.Name x c)) f.line X.env=pure Ś:=by rfl)(p:X.fn x=ř\/X.env.scope.names.lookup x=Z .local:=by nofun) :
  PSD K X (.Assign [.Name x c] e f) (k8 i o):=⟨λg=>(qH h hi v (j.pe g) r p).imp λ_ _ _=>Fq⟩
noncomputable def sJ(i:Nat)(tf:aT):de:=λc ρ=>tf ρ λds=>c.nx (ρ.set i (Z (.own ds)))
def Gq{i:Nat}{E:Ends}{x:St}{H:Hp}(h:lS K (sJ i tf) E x H):lF K tf x H λv C=>iY i v x C E.nx:=by let⟨M,F,Φ,ρ,N,g,V,t,k⟩:=h;refine⟨F,Φ,ρ,_,V,t,λds c G p vs r y A L J rl=>k.nx _ c G _ r (g.trans y) ((V.gr y).setOwn rl (g.h.free A) L J (λj es I z=>?_) i)⟩;let⟨q,O,e,_,_,B,_⟩:=V.ow j _ I;rw[e]at z;cases z;rw[A]at B;cases B
def A9{i:Nat}{x:Str}{c:Ö}(j:X.N.Nodup)(hi:X.N[i]?=Z x)(y:eC X.env.scope x)(p:PF K X e tf)(v:Î e (Z (.Name x c)) f.line X.env=pure Ś:=by rfl)(r:X.fn x=ř\/X.env.scope.names.lookup x=Z .local:=by nofun) :
  PSD K X (.Assign [.Name x c] e f) (sJ i tf):=⟨λg=>(qH j hi y (p.pe g) v r).imp λ_ _ _ h=>Gq h⟩
def EF(o:TD):de:=λc ρ=>o ρ c.rt
def bh(z:PD K X e o):PSD K X (.Return (Z e) f) (EF o):=
 ⟨λy=>(wD (z.pe y)).imp λE F H p=>by let⟨B,h,Φ,ρ,C,g,V,t,k⟩:=p;show⟨h,Φ,ρ,_,V,t,λd c j v r x A=>k.rt d c j v r (g.trans x) A⟩⟩
noncomputable def Em(c:cw)(t u:de):de:=λg ρ=>c ρ λb=>(b=ř->t g ρ)/\(b=Ś->u g ρ)
def cE{c:Ã}{a b:Y Ç}(C:PTD K X c w)(A:PSsD K X a t)(B:PSsD K X b u):PSD K X (.If c a b f) (Em w t u):=
 ⟨λx=>(vO (C.pt x) (A.ps x) (B.ps x)).imp λE G H z=>by let⟨h,v,Φ,ρ,y,g,V,t,k⟩:=z;show⟨v,Φ,ρ,_,V,t,λc j F r p=>by
  cases c with
  |true=>refine jC ?_;show⟨h,v,j,ρ,y,g.trans p,V.gr p,r.1 S,k⟩
  |false=>refine j9 ?_;show⟨h,v,j,ρ,y,g.trans p,V.gr p,r.2 S,k⟩⟩⟩
noncomputable def IC(c:cw)(tb:de):de:=λp ρ=>∃I:Nat->br->Prop,(∃m,I m ρ)/\∀m g,I m g->c g λb=>(b=ř->tb { p with nx:=λh=>∃j,j<m/\I j h,ct:=λh=>∃j,j<m/\I j h,bk:=p.nx } g)/\(b=Ś->p.nx g)
def Dw{c:Ã}{x:Y Ç}{tb:de}(hp:ø (Ä X.prog X.w) X.A X.env X.xe)(hc:PTD K X c w)(be:PSsD K X x tb):PSD K X (.While c x [] f) (IC w tb):=
 ⟨λR=>(uw hp (hc.pt R) (be.ps R)).imp λE b_ H U=>by
  let⟨y,B,Φ,ρ,De,g,V,⟨I,⟨m,a_⟩,hw⟩,k⟩:=U;refine⟨λm b_ H=>∃p j,Gr y B p H/\EnvD K B p H b_ j/\I m j,⟨m,Φ,ρ,g,V,a_⟩,?_⟩;rintro m Q H' ⟨p,j,g',M,hi⟩;refine⟨B,p,j,_,M,hw m j hi,λb G T r J=>?_⟩
  cases b with
  |false=>refine j9 ?_;show k.nx j G T Q (r.2 S) (g'.trans J) (M.gr J)
  |true=>
   refine jC ?_;refine⟨λv F=>∃C,C<m/\∃p j,Gr y B p F/\EnvD K B p F v j/\I C j,λv F h=>h,y,B,G,j,_,g'.trans J,M.gr J,r.1 S,⟨?_,k.rt,k.nx,?_⟩⟩
   ·rintro A z F v ⟨C,P,L⟩ O N;show⟨C,P,z,A,O,N,L⟩
   ·rintro A z F v ⟨C,P,L⟩ O N
    show⟨C,P,z,A,O,N,L⟩⟩
noncomputable def AE(p:aT)(j:dz)(tb:de):de:=λg ρ=>p ρ λds=>∃I:Nat->br->Prop,I 0 ρ/\(∀i d c,ds[i]?=Z d->I i c->j d c λh=>tb { g with nx:=I (i+1),ct:=I (i+1),bk:=g.nx } h)/\∀c,I ds.length c->g.nx c
def fk{tg z:Ã}{F:Y Ç}{ti:aT}{gd:dz}{tb:de}(hp:ø (Ä X.prog X.w) X.A X.env X.xe)(hc:X.calm=ř)(hi:PID K X tg z ti)(hg:PGD K X tg gd)(hb:PSsD K X F tb)
  (hs:∀x,Ì z X.env x=pure x:=by intro _;rfl):PSD K X (.For tg z F [] f) (AE ti gd tb):=
 ⟨λhK=>(vd hp hc (hi.pi hK) (hg.pg hK) (hb.ps hK) hs).imp λE σ H NT=>by
  let⟨be,L,Φ,ρ,De,g,V,t,k⟩:=NT;refine⟨L,Φ,ρ,_,V,t,λds M H1 J Oe g1 b_=>?_⟩;let⟨I,h0,OE,Pa⟩:=Oe;refine⟨λi m σ G=>m=ds.length-i/\i<=ds.length/\∃c h,Gr be L c G/\Same M c/\EnvD K L c G σ h/\I i h,⟨ds.length,by simp,Lh _,M,ρ,g.trans g1,Same.refl _,V.gr g1,h0⟩,?_⟩;rintro i m σ' G ⟨rfl,hi,c,h,g',U,R,hI⟩;by_cases N8:i<ds.length
  ·refine .inr ⟨b_.go i G (U.trans R.fz) N8,λσ2 P=>∃c h,Gr be L c P/\Same M c/\EnvD K L c P σ2 h/\I (i+1) h,λσ2 P h2=>⟨ds.length-(i+1),(),S,N8,h2⟩,λx P y=>?_⟩;let⟨N,B,rx⟩:=b_.yl i c G x P _ U R.fz (bJ N8) y;refine⟨L,N,h,_,_,R.gr B,rx,OE i _ h (bJ N8) hI,λρ2 σ3 t2 V3=>?_⟩;refine⟨N,L,N,ρ2,_,?_,V3,t2,⟨?_,?_,?_,?_⟩⟩
   ·show⟨Same.refl _,(g'.trans B).h,B.s,λp u hp hn _=>hn⟩
   ·intro A j Q O a_ C T;show⟨j,A,(g'.trans B).join C,(U.trans B.f).trans C.f,T,a_⟩
   ·intro d j Q v r C rv;show k.rt d j Q v r ((g'.trans B).join C) rv
   ·intro A j Q O a_ C T;show k.nx A j Q O a_ ((g'.trans B).join C) T
   ·intro A j Q O a_ C T;show⟨j,A,(g'.trans B).join C,(U.trans B.f).trans C.f,T,a_⟩
  ·have e:i=ds.length:=by omega
   subst e
   show .inl ⟨b_.stop G (U.trans R.fz),k.nx h c G σ' (Pa h hI) g' R⟩⟩
end
section
variable{K:Â}{X:Cx}{l a f e:Ã}{w:Y Ã}{scope:â}{c B F:Ö}{N':Y Str}{cap:Y (Ř Nat)}{z:aT}{g:dz}{A:cw}{j:TD}{i:Nat}{y:Str}
def v5{tf:aT}{E:Ends}{u:St}{H:Hp}(o:∀{u:St}{H:Hp}{Q:VK},lF K tf u H Q->gO (lI K z) cap (lG K g) (lT K A) (lE K j) u H Q)(h:lS K (k8 i (nN tf)) E u H):jm (gO (lI K z) cap (lG K g) (lT K A) (lE K j)) (iY i) E u H:=by let⟨N,J,Φ,ρ,O,gg,V,t,L⟩:=h;show o ⟨J,Φ,ρ,_,V,t,λds M I p vs r x C v G rr=>L.nx _ _ I _ r (gg.trans (x.freeze C v G)) ((V.gr (x.freeze C v G)).set ((rr.same (c8 v _)).lst bo) i)⟩
def qd{k:Nat}(v:X.calm=ř)(H:X.N.Nodup)(P:X.N[i]?=Z y)(O:eC X.env.scope y)(Q:CompScope X.N X.env.scope scope N' cap)(E:gf k cap=ř)(M:GM k g)(hi:PID K X l a z)
  (L:∀(cl:Y (Str×Addr))(p:Y Addr)(C:Addr)(r:À)(o:Hp),PGD K (b8 X scope N' cl C r o p) l g)
  (I:∀(cl:Y (Str×Addr))(p:Y Addr)(C:Addr)(r:À)(o:Hp),PD K (b8 X scope N' cl C r o p) f j) (G:Î (.ListComp f [⟨l,a,[],0⟩] scope c) (Z (.Name y B)) F.line X.env=pure ř:=by rfl)
  (N:∀x,Ì a X.env x=pure x:=by intro _;rfl) (J:X.fn y=ř\/X.env.scope.names.lookup y=Z .local:=by nofun) :
  PSD K X (.Assign [.Name y B] (.ListComp f [⟨l,a,[],0⟩] scope c) F) (k8 i (nN (qL z cap g j))):=
 ⟨λu=>(nJ v H P O Q (hi.pi u) (λcl p C r o=>(L cl p C r o).pg u) (λcl p C r o=>(uE (K:=K)).p u) (λcl p C r o=>(I cl p C r o).pe u) G N J).imp λ_ _ _ h=>v5 (λq=>uT E M q) h⟩
def uc{k:Nat}(v:X.calm=ř)(H:X.N.Nodup)(Q:X.N[i]?=Z y)(P:eC X.env.scope y)(U:CompScope X.N X.env.scope scope N' cap)(E:gf k cap=ř)(M:GM k g)(hi:PID K X l a z)
  (L:∀(cl:Y (Str×Addr))(p:Y Addr)(C:Addr)(r:À)(o:Hp),PGD K (b8 X scope N' cl C r o p) l g) (O:∀(cl:Y (Str×Addr))(p:Y Addr)(C:Addr)(r:À)(o:Hp),PIfD K (b8 X scope N' cl C r o p) w A)
  (I:∀(cl:Y (Str×Addr))(p:Y Addr)(C:Addr)(r:À)(o:Hp),PD K (b8 X scope N' cl C r o p) f j) (G:Î (.ListComp f [⟨l,a,w,0⟩] scope c) (Z (.Name y B)) F.line X.env=pure ř:=by rfl)
  (N:∀x,Ì a X.env x=pure x:=by intro _;rfl) (J:X.fn y=ř\/X.env.scope.names.lookup y=Z .local:=by nofun) :
  PSD K X (.Assign [.Name y B] (.ListComp f [⟨l,a,w,0⟩] scope c) F) (k8 i (nN (nY z cap g A j))):=
 ⟨λu=>(nJ v H Q P U (hi.pi u) (λcl p C r o=>(L cl p C r o).pg u) (λcl p C r o=>(O cl p C r o).p u) (λcl p C r o=>(I cl p C r o).pe u) G N J).imp λ_ _ _ h=>v5 (λq=>qx E M q) h⟩
def DF{h r Φ H:Hp}{p:Addr}{o:HO}(g:Gr h r Φ H)(x:r p=ŗ)(v:Φ p=ŗ):Gr h r Φ (ap H p o):=
 ⟨g.f,vU g.h x _,λb u e=>by rw[aY (cY e v)];show g.s b u e,λp u C v k=>g.o p u C v k⟩
noncomputable def xc(i:Nat)(j:TD):de:=λh ρ=>match ρ[i]? with|some (Z (.ob (.lst ds)))=>j ρ λd=>ds.length<sizeLine/\NF (ds++[d]) λes=>h.nx (ρ.set i (Z (.own es)))|_=>False
def ut{h o u:Ö}{x:Str}(i:Nat)(he:PD K X e j)(Q:((backTo o (starEach [e] X.env)).all (λx=>!x.1)&&(Þ o (Ô [] X.env)).all (λx=>x.1.isSome)&&decide (([e]:Y Ã).length+([]:Y Ù).length+(if ([]:Y Ù).isEmpty then 0 else 1)<30))=ř)
  (L:starEach [e] X.env=(Ś,eval e X.env)::starEach [] X.env) (be:X.N[i]?=Z x:=by rfl) (hv:cL X.env.scope x:=by nofun) (hd:ab x:=by decide) (O:fI x:=by decide)
  (b_:Ë (.Name x u) "append" X.env (eval (.Name x u) X.env)=eval (.Name x u) X.env:=by rfl) (T:(h.endLine==o.line)=ř:=by rfl) (hs:Î (.Call (.Attribute (.Name x u) "append" h) [e] [] o) ŗ c.line X.env=pure Ś:=by rfl) :
  PSD K X (.Expr (.Call (.Attribute (.Name x u) "append" h) [e] [] o) c) (xc i j):=
 ⟨λa_=>(jL (jA La Mh Mi nF (pv i be hv hd O) (eU (he.pe a_) pa_nil L) b_ Q T L ae) hs).imp λE σ H P=>by
  let⟨Φ0,N,Φ,ρ,De,g,V,t,k⟩:=P;unfold xc at t;split at t
  ·next ds ho=>
   let⟨p,vs,M,U,hn,I,rl⟩:=V.owl i ds ho;refine⟨_,M,.inl ⟨S,vs,SqL.of I⟩,N,Φ,ρ,_,V,t,λd J H1 v r C rv=>?_⟩;have R:=C.h _ _ I;have G:=C.o _ _ I hn;refine⟨p,vs,v,S,S,R,by rw[rl.1];show r.1,k.nx _ J _ σ r.2.get (DF (g.trans C) U G) ((V.gr C).put ho M ((rl.same C.f).append (.one rv)))⟩
  ·show t.elim⟩
end
noncomputable def jv(N:Y Str)(ds:Y D):br:=ds.map (λd=>Z (.v d))++List.replicate (N.length-ds.length) ŗ
def FA{K:Â}{Φ H:Hp}{N:Y Str}{ds:Y D}{vs:Y V}(sm:Same Φ H)(tb:TabF K Φ)(r:RpL K Φ ds vs):EnvD K H Φ H (eP N vs) (jv N ds):=by
 have own:∀{i:Nat}{x:Sl},(jv N ds)[i]?=Z (Z x)->∃d,ds[i]?=Z d/\x=.v d:=λ{i x} h=>by
  unfold jv at h;rcases Kg i (ds.map λd=>Z (Sl.v d)).length with c|c
  ·rw[Js c,JF]at h
   cases e:ds[i]? with
   |none=>rw[e]at h;cases h
   |some d=>rw[e]at h;cases h;show⟨d,S,S⟩
  ·rw[Jq c,KS]at h;split at h
   ·cases h
   ·cases h
 refine⟨sm,by unfold eP jv;simp[r.1],λi d h=>?_,λi es h=>?_,λi j es fs p h=>?_,tb⟩
 ·let⟨d',f,a⟩:=own h;cases a;let⟨v,g,l⟩:=r.at f;refine⟨v,?_,l⟩;unfold eP;rw[Js (by rw[Jp];show aC g),JF,g];rfl
 ·let⟨d',f,a⟩:=own h;cases a
 ·let⟨d',f,a⟩:=own h;cases a
section
variable{P:Å}{w:È}{K:Â}{mg:Str->Ř Value}{base:Heap}
def Fun.okD{x qual:Str}{st:Ç}{f:Addr}{e:Í}{N ps:Y Str}{k:Nat}{sp:ca}(F:Fun K x qual st f e)(U:FnScope N ps (au st))(len:∀ds R,sp ds R->ds.length=ps.length)
  (o:∀(a:Value)(A:Ê)(outer:Y ë)(s:À)(H:Hp)(E:XK)(ds:Y D)(R:D->Prop),Room k (A.deeper (ê qual (au st) s.heap.objs.size f a))->sp ds R->
   ∃t,PSsD K (iu aG P w K mg base N qual (au st) f a A outer s H E).nox (gv st) t/\t { nx:=λ_=>R .non,rt:=R } (jv N ds)):FnOk P w K mg base aG (k+1) f e ps (lSp K sp):=by
 refine F.ok U (λvs H Q E ⟨Φ,ds,R,sm,tb,rl,h,_⟩=>by rw[rl.1];show len ds R h) (λa A outer s H vs Q E u ⟨Φ,ds,R,sm,tb,rl,h,j⟩=>?_);let⟨t,v,p⟩:=o a A outer s H E ds R u h;show⟨lS K t,v.ps S,Φ,H,Φ,jv N ds,_,.refl sm,FA sm tb rl,p,⟨λy c l z r g V=>j .non c l .non r g .non,j,λ_ _ _ _ h=>h.elim,λ_ _ _ _ h=>h.elim⟩⟩
end
noncomputable def sF(K:Â)(b:Bool)(a:Addr):It:=match b with|true=>pN K a|false=>rQ K a
section
variable{K:Â}{X:Cx}{z e a b:Ã}{es:Y Ã}{f p B:Ö}{t A:TD}{j:aT}
def xJ{l:Ã}{j:TE}(F:X.K=K)(J:PE X l j):PI X z l (λw H R=>j w H λx r=>∃q a,x=.ref a/\(∃xs,SqB K q r a xs)/\R (sF K q a) r):=by
 subst F;intro g s w H R I h;refine aF (J g s w H _ I h) λv c E=>?_;let⟨x,r,u,N,M⟩:=E;let⟨bb,a,e,⟨xs,C⟩,q⟩:=M;subst e;cases N
 have y:∀b∈[c.heap.objs.size],eE X g r b:=λb G=>by
  have e:b=c.heap.objs.size:=by simpa using G
  subst e;show u.fpOk (Jx _) (u.hok.fresh (Jx _))
 cases bb with
 |true=>
  let⟨its,O,p,L⟩:=u.list C;refine Ms p.isList ?_;show⟨c.heap.objs.size,[c.heap.objs.size],_,_,r,S,u.kept (t':=c.toks) λb o e=>Jz _ e,zY a _,⟨_,JJ _ S,S,S⟩,y,q⟩
 |false=>
  let⟨its,O,p,L⟩:=u.tuple C;refine LN (show c.heap.IsTuple a its.toArray from p) ?_;show⟨c.heap.objs.size,[c.heap.objs.size],_,_,r,S,u.kept (t':=c.toks) λb o e=>Jz _ e,Ht a _,⟨_,JJ _ S,S,S⟩,y,q⟩
def Iz{Φ:Hp}{ds:Y D}{vs:Y V}{a:Addr}{q:Bool}(h:SqB K q Φ a vs)(r:RpL K Φ ds vs):SteadyD K (sF K q a) Φ ds:=by
 cases q with
 |true=>show Bt h r
 |false=>show yw h r
noncomputable def xx(t:TD):aT:=λρ R=>t ρ λd=>match d with|.lst ds=>R ds|.tup ds=>R ds|.fzl ds=>R ds|_=>False
def G5{d:D}{R:Y D->Prop}(h:match d with|.lst ds=>R ds|.tup ds=>R ds|.fzl ds=>R ds|_=>False):∃ds,dh d=Z ds/\R ds:=by
 cases d with
 |lst ds=>show⟨ds,S,h⟩
 |tup ds=>show⟨ds,S,h⟩
 |fzl ds=>show⟨ds,S,h⟩
 |_=>show h.elim
def b7(h:PD K X e t):PID K X z e (xx t):=⟨λo=>(xJ o (h.pe o)).imp λI H G x=>by let⟨u,Φ,ρ,R,E,t,k⟩:=x;show⟨u,Φ,ρ,_,E,t,λd c w v r g F=>by
 let⟨ds,y,r⟩:=G5 r;let⟨q,a,vs,rfl,l,C⟩:=F.seq y
 show⟨q,a,S,⟨vs,SqB.same g.s l⟩,k _ c w _ r g (Iz l C)⟩⟩⟩
def CA{a:Ã}{A:TA}{es:Y Ã}{k:Nat}(G:X.K=K)(L:Gl X "enumerate")(N:X.mg "enumerate"=ŗ)(J:PA X [a] A)(P:starEach [a] X.env=[(Ś,eval a X.env)]) :
  PI X (.Tuple es k B) (.Call (.Name "enumerate" p) [a] [] f) (λx H R=>A x H λvs o=>∃b a xs,vs=[.ref a]/\SqB K b o a xs/\R (nV K b a) o):=by
 subst G;intro g s x H R I h;refine Call_ (gY I L N boot_enumerate (Kw (aF (J f g s x H _ I h) λus v F=>?_) P S));let⟨vs,o,w,a_,Q⟩:=F;let⟨b,l,xs,e,O,q⟩:=Q;subst e
 cases a_ with
 |cons r rr=>
  cases rr;cases r;let⟨its,U,p,T⟩:=w.sqb O;refine HB p λh' C hi hsz M=>Ň C ?_;have E:Inv X g x o { v with heap:=h' }:=w.kept (t':=v.toks) M;have y:∀c,v.heap.objs.size<=c->eE X g o c:=λc u=>w.fpOk u (w.hok.fresh u)
  show⟨v.heap.objs.size+1,[v.heap.objs.size+1,v.heap.objs.size],_,_,o,S,E,BD b l _ _ (Nat.succ_ne_self _),⟨⟨_,C⟩,hi⟩,λc u=>by
   rcases JI.mp u with rfl|u
   ·show y _ (Nat.le_succ _)
   ·rw[JB.mp u];show y _ (Jx _),q⟩
def ED{a b:Ã}{A:TA}{es:Y Ã}{k:Nat}(M:X.K=K)(O:Gl X "zip")(Q:X.mg "zip"=ŗ)(N:PA X [a,b] A)(b_:starEach [a,b] X.env=[(Ś,eval a X.env),(Ś,eval b X.env)])(C:starEach [b] X.env=[(Ś,eval b X.env)]) :
  PI X (.Tuple es k B) (.Call (.Name "zip" p) [a,b] [] f) (λy H R=>A y H λvs l=>∃v w a1 a2 xs ys,vs=[.ref a1,.ref a2]/\SqB K v l a1 xs/\SqB K w l a2 ys/\R (rY K v a1 w a2) l):=by
 subst M;intro g s y H R I h;refine Call_ (gY I O Q boot_zip (Kw (aF (N f g s y H _ I h) λus x ⟨vs,l,o,r1,q1⟩=>?_) (by rw[b_,C]) (by rw[C];rfl)));let⟨v,w,T,U,xs,ys,e,G,J,q⟩:=q1;subst e
 cases r1 with
 |cons r rr=>
  cases rr with
  |cons r' rr=>
   cases rr;cases r;cases r';let⟨Sa,Uq,a_,_⟩:=o.sqb G;let⟨OT,Ur,be,_⟩:=o.sqb J;refine Ig a_ be λh' E z2 z3 z4 z5 P=>ō E ?_;have F:Inv X g y l { x with heap:=h' }:=o.kept (t':=x.toks) P;have L:∀c,x.heap.objs.size<=c->eE X g l c:=λc u=>o.fpOk u (o.hok.fresh u);generalize x.heap.objs.size=n at *;refine⟨n+4,[n+4,n+2,n+3,n,n+1],_,_,l,S,F,yd v w T U (n+4) (n+2) (n+3) n (n+1) (Gi n),⟨E,z2,⟨_,_,z3⟩,z4,z5⟩,λc u=>L c ?_,q⟩;simp only[JI,Lu,or_false]at u;rcases u with rfl|rfl|rfl|rfl|rfl
   ·show MA _ _
   ·show MA _ _
   ·show MA _ _
   ·show Jx _
   ·show MA _ _
noncomputable def yn(t:aT):aT:=λρ R=>t ρ λds=>match ds with| [.lst xs]=>R (gP xs)| [.tup xs]=>R (gP xs)| [.fzl xs]=>R (gP xs)|_=>False
def gD{F:Y Ã}{G:Nat}(L:Gl X "enumerate")(M:X.mg "enumerate"=ŗ)(J:PAD K X [a] j)(N:starEach [a] X.env=[(Ś,eval a X.env)]:=by rfl):PID K X (.Tuple F G B) (.Call (.Name "enumerate" p) [a] [] f) (yn j):=
 ⟨λw=>(CA w L M (J.pa w) N).imp λU H C y=>by let⟨x,Φ,ρ,R,E,t,k⟩:=y;show⟨x,Φ,ρ,_,E,t,λds l o vs r g h _=>by
  have c:∀{d:D}{xs:Y D},RpL K l [d] vs->dh d=Z xs->R (gP xs)->∃b a xs,vs=[.ref a]/\SqB K b o a xs/\C (nV K b a) o:=λ{d xs} h O r=>by let⟨v,rfl,P⟩:=h.one_inv;let⟨q,a,Q,rfl,u,I⟩:=P.seq O;show⟨q,a,Q,S,SqB.same g.s u,k _ l o _ r g (C6 u I)⟩
  match ds,r with
  | [.lst xs],r=>show c h S r
  | [.tup xs],r=>show c h S r
  | [.fzl xs],r=>show c h S r⟩⟩
noncomputable def Bb(t:aT):aT:=λρ R=>t ρ λds=>match ds with| [d,e]=>∃xs ys,dh d=Z xs/\dh e=Z ys/\R (fV xs ys)|_=>False
def jI{F:Y Ã}{G:Nat}(M:Gl X "zip")(N:X.mg "zip"=ŗ)(L:PAD K X [a,b] j)(O:starEach [a,b] X.env=[(Ś,eval a X.env),(Ś,eval b X.env)]:=by rfl)(C:starEach [b] X.env=[(Ś,eval b X.env)]:=by rfl):PID K X (.Tuple F G B) (.Call (.Name "zip" p) [a,b] [] f) (Bb j):=
 ⟨λo=>(ED o M N (L.pa o) O C).imp λσ H R' y=>by let⟨u,Φ,ρ,R,E,t,k⟩:=y;show⟨u,Φ,ρ,_,E,t,λds c x vs r g be _=>by
  match ds,r with
  | [d,e],⟨xs,ys,P,Q,r⟩=>
   let⟨v,w,rfl,U,a_⟩:=be.two_inv;let⟨b_,a1,ws,rfl,h,I⟩:=U.seq P;let⟨T,a2,us,rfl,l,J⟩:=a_.seq Q
   show⟨b_,T,a1,a2,ws,us,S,SqB.same g.s h,SqB.same g.s l,k _ c x _ r g (Cg h l I J)⟩⟩⟩
variable{gs:fT}
noncomputable def vE(n:Nat)(t:fT):dz:=λd ρ R=>match d with|.tup ds=>ds.length=n/\t ds ρ R|.lst ds=>ds.length=n/\t ds ρ R|_=>False
def PG.or{z:Ã}{t t':TG}(h:PG X z t)(h':PG X z t'):PG X z (λv l H Q=>t v l H Q\/t' v l H Q):=by
 intro c s l H v u Q I r g;rcases g with g|g
 ·show h c s l H v u Q I r g
 ·show h' c s l H v u Q I r g
def dM{k n:Nat}(u:X.calm=ř)(h:PGDs K X es gs)(w:(Æ es X.env).length=n:=by rfl)(o:(Æ es X.env).findIdx? (·.1)=ŗ:=by rfl):PGD K X (.Tuple es k f) (vE n gs):=
 ⟨λc=>((vX c u (h.pg c) w o).or (uk c u (h.pg c) w o)).imp λv y H Q x=>by
  let⟨l,Φ,ρ,d,R,E,r,g,k⟩:=x
  cases d with
  |tup ds=>cases r with|tup h1 h2 h3=>show .inl ⟨_,_,S,.of (E.fz _ _ h1),by rw[h2];show g.1,l,Φ,ρ,ds,R,E,⟨h2,h3⟩,g.2,k⟩
  |lst ds=>cases r with|lst h1 h2 h3=>show .inr ⟨_,_,S,.of (E.fz _ _ h1),by rw[h2];show g.1,l,Φ,ρ,ds,R,E,⟨h2,h3⟩,g.2,k⟩
  |_=>show g.elim⟩
def hJ{k n:Nat}{t:fT}(h:GMs k t):GM k (vE n t):=⟨⟨λd ρ R r=>by
 cases d with
 |tup ds=>show⟨r.1,h.k.p ds ρ R r.2⟩
 |lst ds=>show⟨r.1,h.k.p ds ρ R r.2⟩
 |_=>show r⟩,λd ρ R c g r=>by
 cases d with
 |tup ds=>show⟨r.1,h.m ds ρ R c g r.2⟩
 |lst ds=>show⟨r.1,h.m ds ρ R c g r.2⟩
 |_=>show r⟩
def D5{Φ H:Hp}{d:D}{v:V}{T:String}{r:Bool}(s:Same Φ H)(h:RpQ K Φ H d v)(e:lW d T=Z r):IsiV K H v T r:=by
 have sp:∀{c:Prop}[Decidable c]{x:Bool}{y:Ř Bool},(if c then Z x else y)=Z r->(c/\x=r)\/y=Z r:=λ{c _ x y} h=>by
  by_cases l:c
  ·rw[JC l]at h;cases h;show .inl ⟨l,S⟩
  ·rw[Jv l]at h;show .inr h
 cases d with
 |int i=>
  cases h.int;rcases sp e with⟨rfl,rfl⟩|e
  ·show .int_int _
  rcases sp e with⟨rfl,rfl⟩|e
  ·show .int_bool _
  rcases sp e with⟨rfl,rfl⟩|e
  ·show .int_tuple _
  rcases sp e with⟨rfl,rfl⟩|e
  ·show .int_str _
  cases e
 |bl i=>
  cases h.bl;rcases sp e with⟨rfl,rfl⟩|e
  ·show .bl_int _
  rcases sp e with⟨rfl,rfl⟩|e
  ·show .bl_bool _
  rcases sp e with⟨rfl,rfl⟩|e
  ·show .bl_tuple _
  cases e
 |str i=>
  cases h.str;rcases sp e with⟨rfl,rfl⟩|e
  ·show .str_str _
  rcases sp e with⟨rfl,rfl⟩|e
  ·show .str_tuple _
  cases e
 |non=>cases e
 |tup ds=>
  let⟨a,vs,rfl,g,_,o⟩:=h.tup s;rcases sp e with⟨rfl,rfl⟩|e
  ·show .tup_tuple g
  rcases sp e with⟨rfl,rfl⟩|e
  ·show .tup_int g
  cases e
 |lst ds=>
  let⟨a,vs,rfl,g,o⟩:=h.lst s;rcases sp e with⟨rfl,rfl⟩|e
  ·show .lst_tuple (.of g)
  rcases sp e with⟨rfl,rfl⟩|e
  ·show .lst_list (.of g)
  cases e
 |fzl ds=>cases e
 |obj C fs=>cases e
 |map u=>cases e
 |exc _ _=>cases e
noncomputable def Ce(T:String)(t:TD):TD:=λρ R=>t ρ λd=>∃r,lW d T=Z r/\R (.bl r)
def ia{T:String}{h:Str}{c:Ö}(I:Gl X "isinstance")(J:X.mg "isinstance"=ŗ)(G:PQ K X a t)(F:PE X (.Name h c) (tC (.ty T)))
  (w:starEach [a,.Name h c] X.env=(Ś,eval a X.env)::starEach [.Name h c] X.env) (o:starEach [.Name h c] X.env=(Ś,eval (.Name h c) X.env)::starEach [] X.env):PD K X (.Call (.Name "isinstance" p) [a,.Name h c] [] f) (Ce T t):=
 ⟨λu=>(uK (DZ u) I J boot_isinstance (eU (G.pe u) (eU F pa_nil o) w) 'b' 'b' w (ar o ae)).imp λN H Q C=>by let⟨x,Φ,ρ,R,E,t,k⟩:=C;show⟨x,Φ,ρ,_,E,t,λd l y v r g M=>by
  let⟨rr,L,r⟩:=r
  show⟨v,T,rr,S,D5 g.s M L,k _ l y _ r g (.bl _)⟩⟩⟩
def HC(i:Int):lW (.int i) "int"=Z ř:=rfl
def zb(i:Int):lW (.int i) "bool"=Z Ś:=rfl
def iz(xs:Y D):lW (.tup xs) "tuple"=Z ř:=rfl
end
def bN{a:Type}{f:a->D}{ns:Y a}{i:Nat}{x:D}(h:(ns.map f)[i]?=Z x):∃k,x=f k/\ns[i]?=Z k:=by
 rw[JF]at h
 cases e:ns[i]? with
 |none=>rw[e]at h;cases h
 |some k=>rw[e]at h;cases h;show⟨k,S,S⟩
def cD{a:Type}{f:a->D}{ns:Y a}{i:Nat}{n:a}{k:Int}(h:ns[i]?=Z n)(e:k=(i:Int)):cr (ns.map f) k=Z (f n):=fW (by rw[JF,h];rfl) e
def Im{ns:Y Int}{k:Int}(c:0<=k)(h:k<(ns.length:Int)):∃v:Int,cr (ns.map D.int) k=Z (.int v):=by
 have a:k.toNat<ns.length:=by omega
 show⟨_,cD (bJ a) ()⟩
noncomputable def sS:ca:=λds R=>∃ns:Y Int,ds=[.fzl (ns.map D.int)]/\ns.length<=63/\R (.bl ř)
noncomputable def uQ(K:Â):Sp:=λvs H Q _=>∃(a:Addr)(ns:Y Int),vs=[.ref a]/\SqL K H a (ns.map V.int)/\ns.length<=63/\TabF K H/\∀c,Q (.bl ř) c
def Ap{K:Â}:∀vs H Q E,uQ K vs H Q E->lSp K sS vs H Q E:=by rintro vs H Q E ⟨a,ns,rfl,c,e,tb,q⟩;refine⟨H,[.fzl (ns.map D.int)],λd=>d=.bl ř,Same.refl _,tb,.one ((RpL.ints ns).fzl c),⟨ns,S,e,S⟩,λd h j v r g f=>?_⟩;subst r;obtain rfl:=f.b;show q _
noncomputable def aw(r:aq):D:=.tup [.tup (r.1.map D.int),.int r.2]
def qO{a c:Type}(f:a->c)(xs:Y a)(lo hi:Ř Int):cP (xs.map f) lo hi=(cP xs lo hi).map f:=by unfold cP;rw[Jp,List.map_take,List.map_drop]
def wS(k:Nat)(z:Int):(List.replicate k [D.int z]).flatten=(List.replicate k z).map D.int:=by
 induction k with
 |zero=>rfl
 |succ k a=>rw[Kl,Kb,a];rfl
section
variable{g:dz}{a:TD}{ρ:br}{R:Y D->Prop}
def oK{ds:Y D}(h:Y D)(r:h.length=ds.length)(f:ds.length<sizeLine)(Q:Nat->D->Prop)(j:∀i y,Q i y->h[i]?=Z y)(l:∀i d,ds[i]?=Z d->g d ρ λe=>a e (Q i))(k:R h) :
  ds.length<sizeLine/\∃P:Nat->D->Prop,(∀i d,ds[i]?=Z d->g d ρ λe=>a e (P i))/\∀ys:Y D,ys.length=ds.length->(∀i y,ys[i]?=Z y->P i y)->R ys:=by
 refine⟨f,Q,l,λys p o=>?_⟩
 have:ys=h:=by
  refine K2 λi=>?_;rcases Kg i ys.length with c|c
  ·rw[bJ c,j i _ (o i _ (bJ c))]
  ·rw[Kd c,Kd ()]
 rwa[this]
def fJ{j:Type}{f:j->D}{xs:Y j}(h:j->D)(l:xs.length<sizeLine)(p:∀x∈xs,g (f x) ρ λc=>a c λy=>y=h x)(k:R (xs.map h)) :
  (xs.map f).length<sizeLine/\∃P:Nat->D->Prop,(∀i d,(xs.map f)[i]?=Z d->g d ρ λc=>a c (P i))/\∀ys:Y D,ys.length=(xs.map f).length->(∀i y,ys[i]?=Z y->P i y)->R ys:=by
 refine oK (xs.map h) (by simp) (by rwa[Jp]) (λi=>match xs[i]? with|some x=>λy=>y=h x|none=>λ_=>False) (λi y q=>?_) (λi d hd=>?_) k
 ·rw[JF]
  cases e:xs[i]? with
  |none=>rw[e]at q;show q.elim
  |some x=>rw[e]at q;rw[q];rfl
 ·let⟨x,rfl,o⟩:=bN hd
  have e:(match xs[i]? with|some x=>λy=>y=h x|none=>λ_=>False:D->Prop)=λy=>y=h x:=by rw[o]
  rw[e];show p x (Jw o)
def oC{lo:Int}{n:Nat}(h:Nat->D)(e:n<sizeLine)(j:∀i,i<n->g (.int (lo+(i:Nat))) ρ λc=>a c λy=>y=h i)(k:R ((List.range n).map h)) :
  (cC lo n).length<sizeLine/\∃P:Nat->D->Prop,(∀i d,(cC lo n)[i]?=Z d->g d ρ λc=>a c (P i))/\∀ys:Y D,ys.length=(cC lo n).length->(∀i y,ys[i]?=Z y->P i y)->R ys:=
 fJ (f:=λi:Nat=>D.int (lo+(i:Nat))) (xs:=List.range n) h (by rwa[JQ]) (λx l=>j x (JU.mp l)) k
def jF{c e:Type}(f:c->D)(h:e->D)(xs:Y c)(ys:Y e):fV (xs.map f) (ys.map h)=(List.zip xs ys).map λp=>.tup [f p.1,h p.2]:=by unfold fV;rw[List.zipWith_map,Nr];rfl
def rD{e j:Type}{f:e->D}{h:j->D}{xs:Y e}{ys:Y j}(w:e->j->D)(o:xs.length<sizeLine)(u:∀x∈xs,∀y∈ys,g (.tup [f x,h y]) ρ λc=>a c λz=>z=w x y)(k:R (List.zipWith w xs ys)) :
  (fV (xs.map f) (ys.map h)).length<sizeLine/\∃P:Nat->D->Prop,(∀i d,(fV (xs.map f) (ys.map h))[i]?=Z d->g d ρ λc=>a c (P i))/\∀l:Y D,l.length=(fV (xs.map f) (ys.map h)).length->(∀i y,l[i]?=Z y->P i y)->R l:=by
 rw[jF];refine fJ (λp:e×j=>w p.1 p.2) ?_ (λp r=>u p.1 (Ly r).1 p.2 (Ly r).2) ?_
 ·rw[Nw];omega
 ·rwa[Nr]
end
end L2
namespace L2
def ff{p:Prop}(h:Ś=ř):p:=by cases h
def tf{p:Prop}(h:ř=Ś):p:=by cases h
end L2
namespace L2
end L2
namespace L2
def gF{a:Type}(f:a->D)(es:Y a)(d:a):es.map f++[f d]=(es++[d]).map f:=by simp
def qZ{a:Type}(f:a->D)(es fs:Y a):es.map f++fs.map f=(es++fs).map f:=by simp
end L2
namespace L2
open PySem PySem.Spec PyProof.Rows
section
variable{g:dz}{a:TD}{ρ:br}{R:Y D->Prop}
def jM{j:Type}{f:j->D}{xs:Y j}(h:j->Int)(e:xs.length<sizeLine)(l:∀x∈xs,g (f x) ρ λc=>a c λy=>y=.int (h x))(k:R ((xs.map h).map D.int)) :
  (xs.map f).length<sizeLine/\∃P:Nat->D->Prop,(∀i d,(xs.map f)[i]?=Z d->g d ρ λc=>a c (P i))/\∀ys:Y D,ys.length=(xs.map f).length->(∀i y,ys[i]?=Z y->P i y)->R ys:=
 fJ (λx=>D.int (h x)) e l (by rw[Kh]at k;show k)
end
section
variable{K:Â}{X:Cx}
def Dg(h:X.K=K):rf X (xh K):=h▸zX
end
section
variable{K:Â}{X:Cx}{Φ H:Hp}{a e:Ã}{o:TD}{C:Addr}{j:Str}{l:Ö}
theorem uA{g:Str}{d:D}:∀{vs:Y (Str×V)}{fs:Y (Str×D)},vs.map (·.1)=fs.map (·.1)->(∀(i:Nat)(v:Str×V)(e:Str×D),vs[i]?=Z v->fs[i]?=Z e->Rp K Φ e.2 v.2)->fs.lookup g=Z d->∃v,vs.lookup g=Z v/\Rp K Φ d v
 | [],[],_,_,h=>by cases h
 | [],_::_,h,_,_=>by cases h
 |_::_,[],h,_,_=>by cases h
 |(x,v)::vs,(y,f)::fs,h,w,p=>by
  rw[JV,JV]at h;let⟨r,z⟩:=Mx h;have r:x=y:=r;subst r;rw[J0]at p ⊢
  cases c:g==x with
  |true=>
   rw[c]at p;cases p;show⟨v,S,w 0 _ _ S S⟩
  |false=>
   rw[c]at p;show uA z (λi u e B A=>w (i+1) u e B A) p
noncomputable def Dh(nm:Str)(f:Str)(t:TD):TD:=λρ R=>t ρ λx=>match x with|.obj Td fs=>Td=nm/\∃d,fs.lookup f=Z d/\R d|_=>False
def lf{c:TE}(f:X.K=K)(h:PE X a c)(g:Ë a j X.env (eval a X.env)=eval a X.env):PE X (.Attribute a j l) (wa K c j):=f▸Ai h g
def aK{nm:Str}(c:Cls K C)(M:NoAttr K C j)(F:Ò K Á nm=Z (Z (.ref C)))(G:PQ K X a o)(I:Ë a j X.env (eval a X.env)=eval a X.env:=by rfl):PD K X (.Attribute a j l) (Dh nm j o):=
 ⟨λu=>(lf u (G.pe u) I).imp λP H Q y=>by let⟨w,Φ,ρ,R,E,t,k⟩:=y;show⟨w,Φ,ρ,_,E,t,λd h x v r g f=>by
  cases d with
  |obj O fs=>
   let⟨rfl,d,J,r⟩:=r;rcases f with f|⟨_,_,_,e,_⟩
   ·cases f with
    |obj p z A B=>
     rw[F]at p;cases p;let⟨v,L,N⟩:=uA A B J;show⟨_,_,_,_,v,S,g.s _ _ z,c,M,L,k d h x v r g N⟩
   ·cases e
  |_=>show r.elim⟩⟩
end
section
variable{K:Â}{X:Cx}{a:Ã}{c p:Ö}
noncomputable def C9(t:TA):TE:=λf H Q=>t f H λvs e=>∃j:Int,vs=[.int j]/\∀r,e r=ŗ->Q (.ref r) (ap e r (.rng 0 j))
def y8{u:TA}(x:Gl X "range")(y:X.mg "range"=ŗ)(w:PA X [a] u)(z:starEach [a] X.env=[(Ś,eval a X.env)]:=by rfl):PE X (.Call (.Name "range" p) [a] [] c) (C9 u):=by
 intro f s C H R I h;refine Call_ (gY I x y boot_range (Kw (aF (w c f s C H _ I h) λus g v=>?_) z S));let⟨vs,E,l,B,A⟩:=v;let⟨j,e,q⟩:=A;subst e
 cases B with
 |cons r rr=>
  cases rr;let⟨t,rfl⟩:=r;refine call_range_1 ⟨.ref g.heap.objs.size,_,l.laid (a:=g.heap.objs.size) (o:=.rng 0 j) (t':=g.toks+1+1) (λb o e=>Jz _ e) (Jx _) ⟨_,_,_,JJ _ S⟩,S,q _ (l.hok.fresh (Jx _))⟩
noncomputable def gJ(n:Nat):Y V:=(List.range n).map λi=>V.int (i:Nat)
def mG(n:Nat):(gJ n).length=n:=by unfold gJ;simp
theorem qe{e f:Type}{F:e->f->Prop}:∀{xs:Y e}{ys:Y f},xs.length=ys.length->(∀(i:Nat) x y,xs[i]?=Z x->ys[i]?=Z y->F x y)->Paired F xs ys
 | [],[],_,_=>.nil
 |x::xs,y::ys,g,h=>.cons (h 0 x y S S) (qe (by simpa using g) λi u v j l=>h (i+1) u v j l)
def vv{n i:Nat}{v:V}(h:(gJ n)[i]?=Z v):v=.int (i:Nat):=by
 have hi:i<n:=by have:=aC h;rwa [mG]at this
 unfold gJ at h;rw[JF,LL hi]at h;cases h;rfl
def AH{Φ:Hp}(n:Nat):RpL K Φ (cC 0 n) (gJ n):=⟨by rw[mG,gb],λi v d e hd=>by
 rw[vv e,(hX hd).2,Kn]
 show .int _⟩
end
section
variable{P:Å}{w:È}{K:Â}{mg:Str->Ř Value}{base:Heap}
def Fun.okL{x qual:Str}{st:Ç}{f:Addr}{c:Í}{N ps:Y Str}{k:Nat}{sp:Sp}(F:Fun K x qual st f c)(U:FnScope N ps (au st))(len:∀vs H Q E,sp vs H Q E->vs.length=ps.length)
  (j:∀(a:Value)(A:Ê)(outer:Y ë)(s:À)(H:Hp)(vs:Y V)(Q:VK)(E:XK),c.code=a->Room k (A.deeper (ê qual (au st) s.heap.objs.size f a))->sp vs H Q E->
   ∃t,PSs (iu aG P w K mg base N qual (au st) f a A outer s H E).nox (gv st) t/\t { nx:=λ_ e=>Q .non e,rt:=Q } (eP N vs) H):FnOk P w K mg base aG (k+1) f c ps sp:=by
 let⟨v,y,kV,o,z,u,a,ct,r,rfl,lk,g⟩:=F.ex;refine vt lk g U len λA outer s H vs Q E p l=>?_;let⟨t,h,q⟩:=j a A outer s H vs Q E S p l;show⟨t,h.nox,q⟩
end
def tJ{K:Â}{x:Str}(a:Ò K Á x=Z ŗ):pU K x=ŗ:=by unfold pU;simp only[a]
end L2
namespace L2
open PySem PySem.W PyProof.Rows
section
variable{a:Nat->Int}{N:Nat}
variable(c:∀i j,i<N->j<N->a i=a j->i=j)
include c
end
end L2
namespace L2
open PySem PySem.Spec PySem.W PyProof.Rows PySem.Calls
end L2
namespace L2
open PySem PySem.Spec PySem.W PyProof.Rows PySem.Calls
end L2
namespace L2
open PySem PySem.Spec PyProof.Rows
noncomputable def gH:az->D
 |.inl i=>.int i
 |.inr s=>.str s
def C1{K:Â}{Φ:Hp}{k:az}{v:V}(r:Rp K Φ (gH k) v):v=kV k:=by
 cases k with
 |inl i=>obtain rfl:=r.i;rfl
 |inr s=>obtain rfl:=r.s;rfl
def Av{K:Â}{Φ H:Hp}{k:az}{v:V}(r:RpQ K Φ H (gH k) v):v=kV k:=by
 cases k with
 |inl i=>show RpQ.int r
 |inr s=>show RpQ.str r
def vy{K:Â}{Φ:Hp}{a:Y az}{vs:Y V}(r:RpL K Φ (a.map gH) vs):vs=a.map kV:=by
 refine K2 λi=>?_;rw[JF]
 cases h:a[i]? with
 |none=>
  have f:=L9.mp h;show Kd (by rwa[r.1,Jp])
 |some k=>
  let⟨v,c,e⟩:=r.at (i:=i) (d:=gH k) (by rw[JF,h];rfl);rw[c,C1 e];rfl
noncomputable def je(k:az)(a:Y az):Bool:=a.any λj=>decide (j=k)
def B8(k:az)(a:Y az):je k a=ř↔k∈a:=by unfold je;rw[L4];show⟨λ⟨j,c,e⟩=>Kc e▸c,λh=>⟨k,h,Kk S⟩⟩
def ur(k:az):ix (kV k)=ř:=by cases k<;>rfl
def Fn(j k:az):im (kV j) (kV k)=decide (j=k):=by
 cases j with
 |inl a=>
  cases k with
  |inl b=>change (a==b)=_;by_cases h:a=b<;>simp[h]
  |inr b=>change Ś=_;simp
 |inr a=>
  cases k with
  |inl b=>change Ś=_;simp
  |inr b=>change (a==b)=_;by_cases h:a=b<;>simp[h]
def Hi(k:az)(a:Y az):jE (kV k) (a.map kV)=je k a:=by unfold jE je;rw[NN];show List.any_congr S λj=>Fn j k
noncomputable def DO(a:Bool):cR:=λe f R=>∃(k:az)(c:Y az),e=gH k/\dh f=Z (c.map gH)/\R (.bl (a != je k c))
section
variable{K:Â}{X:Cx}
def Ds:OpD K X (É .In) (DO Ś):=⟨λo c s E H x y u v Q I B C g=>by
 let⟨Φ,F,G,R,sm,p,r,⟨k,f,rfl,e,h⟩,A⟩:=g;cases Av p;let⟨a,vs,rfl,q,rl⟩:=r.seq sm e;cases vy rl;refine DY c s E H _ _ u v Q I B C ⟨a,_,S,by rwa[o],ur k,?_,?_⟩
 ·rw[K7];intro z w;let⟨j,_,rfl⟩:=JL.mp w;show ur j
 ·have l:(if Ś=ř then !jE (kV k) (f.map kV) else jE (kV k) (f.map kV))=(Ś != je k f):=by rw[Hi];simp
  rw[l]
  show A _ Φ H _ h (.refl sm) (.bl _)⟩
end
end L2
namespace L2
open PySem PySem.Spec PySem.W PyProof.Rows PySem.Calls
end L2
namespace L2
open PySem PySem.Spec PyProof.Rows
section
variable{K:Â}{X:Cx}{a:Ã}{f p z A:Ö}{w:aT}
def Fw(G:X.calm=ř):dZ X (.type "list") (λxs H Q=>∃p j,xs=[.ref p]/\H p=Z (.rng 0 j)/\-(2^62)<=j/\j<=1000/\∀l,H l=ŗ->Q (.ref l) (ap H l (.lst (gJ j.toNat)))):=by
 intro B s U H xs us Q I r h;let⟨p,j,rfl,N,be,a_,q⟩:=h;let⟨u,rfl,T⟩:=gS r;cases T;let⟨t,u,v,M⟩:=(show ObjOk X.prog X.w H s.heap p (.rng 0 j)from I.hok p _ N)
 have L:Builtin.Range.rangeSize 0 j 1=(j.toNat:Int):=by rw[M6];split<;>omega
 refine ŕ (I.ok.hd G) M (ŏ 'b' 'b' be ()) L () λh' E g c kp J C=>?_
 have O:Vals (gJ j.toNat) g.toList:=qe (by rw[mG,K3,C.1]) λi x y P R=>by rw[vv P];let⟨t,rfl⟩:=C.2 i y (by simpa using R);show⟨t,by simp⟩
 have F:Inv X B U (ap H s.heap.objs.size (.lst (gJ j.toNat))) { s with heap:=h',toks:=E }:=
  I.laid (t':=E) (λb o e=>kp b o e) (Jx _) (show ObjOk X.prog X.w _ _ _ (.lst (gJ j.toNat))from ⟨by rw[mG,L6];omega,g.toList,c,O,by simpa using J⟩)
 show⟨.ref s.heap.objs.size,_,F,S,q _ (I.hok.fresh (Jx _))⟩
noncomputable def zm(t:aT):aT:=λρ R=>t ρ λds=>match ds with| [.int j]=>(-(2^62)<=j/\j<=1000)/\R (cC 0 j.toNat)|_=>False
def ud(u:X.calm=ř)(G:Gl X "list")(F:X.mg "list"=ŗ)(C:Gl X "range")(B:X.mg "range"=ŗ)(M:PAD K X [a] w)(N:starEach [a] X.env=[(Ś,eval a X.env)]:=by rfl) :
  PF K X (.Call (.Name "list" p) [.Call (.Name "range" z) [a] [] A] [] f) (zm w):=
 ⟨λL=>(kP (Fw u) G F Ġ (eU (y8 C B (M.pa L) N) pa_nil bg) 'b' 'b' bg ae).imp λT H Q x=>by
  let⟨h,Φ,ρ,R,E,t,k⟩:=x
  show⟨h,Φ,ρ,_,E,t,λds U o vs r g rl _=>by
   match ds,r with
   | [.int j],r=>
    let⟨v,rfl,P⟩:=rl.one_inv;obtain rfl:=P.i;refine⟨j,S,λO I=>⟨O,j,S,bo,r.1.1,r.1.2,λl e=>?_⟩⟩;have c:=Gr.fresh g.s I (.rng 0 j);have J:=Gr.fresh c.s e (.lst (gJ j.toNat));have y:o l=ŗ:=c.h.free e
    show k _ _ _ l _ r.2 ((g.trans c).trans J) (g.h.free y) (c.s.free e) bo (AH _)⟩⟩
end
section
variable{K:Â}{x:Str}
noncomputable def w6:D->Prop
 |.int _=>True
 |.bl _=>True
 |.str _=>True
 |.non=>True
 |_=>False
def Rp.flat{Φ a:Hp}{d:D}{v:V}(h:Rp K Φ d v)(c:w6 d):Rp K a d v:=by
 cases h with
 |int i=>show .int i
 |bl b=>show .bl b
 |str x=>show .str x
 |non=>show .non
 |_=>show c.elim
end
def IB{K:Â}(h:Ò K Á "least_grown"=Z ŗ/\Ò K Á "greatest_first"=Z ŗ):qF K=[]:=by unfold qF;rw[LK,tJ h.1,LK,tJ h.2];rfl
structure Cl(P:Å)(w:È)(K:Â)(mg:Str->Option Value)(base:Heap)(n:Nat)(x:Str)(ps:List Str)(z:ca):Prop where
 ex:∃(f:Addr)(fd:Í),FnOk P w K mg base aG n f fd ps (lSp K z)/\Binds K fd ps []/\ã K (.ref f)=ř/\mg x=Z (.ref f)
section
variable{P:Å}{w:È}{K:Â}{mg:Str->Ř Value}{base:Heap}{n m:Nat}{x:Str}{ps:Y Str}{z:ca}{X:Cx}{e:Ã}{es:Y Ã}{o p:Ö}{u:aT}{st:Ç}{f:Addr}{j:Í}{h:Heap}
def Cl.mono(C:Cl P w K mg base n x ps z)(k:n<=m:=by decide):Cl P w K mg base m x ps z:=by let⟨f,j,F,r⟩:=C.ex;show⟨f,j,F.mono k,r⟩
def Cl.of(F:Fun K x x st f j)(b:Binds K j ps [])(m:mg x=Z (.ref f))(H:FnOk P w K mg base aG n f j ps (lSp K z)):Cl P w K mg base n x ps z:=⟨f,j,H,b,F.kp,m⟩
def bc(C:Cl X.prog X.w K X.mg X.base n x ps z)(y:Room n X.A)(v:Gl X x)
  (l:PAD K X (e::es) u) (r:starEach (e::es) X.env=(Ś,eval e X.env)::starEach es X.env) (c:(backTo o (starEach es X.env)).any (·.1)=Ś) (a:ab x:=by decide) :
  PD K X (.Call (.Name x p) (e::es) [] o) (nW z u):=⟨λg=>by
 subst g;let⟨f,j,F,b,k,m⟩:=C.ex
 show (AU F y v m k b js l r c a).pe S⟩
noncomputable def dE(P:ī)(x:Str)(n:Nat)(v:Value):DictEntry:=⟨PyData.keyHash P x,.str x n,v⟩
noncomputable def cO(n:Str)(a:Nat)(q:Str)(b c:Nat)(l m:Int)(k:Int)(r:Nat)(g:Int)(t:Nat)(x y:Value)(z:Nat)(i:Int)(d:Nat):Õ:=⟨.type "code",ŗ,.fields #[.str n a,.str q b,.str "/claim/cut.py" c,.int l 0,.int m 0,.int 0 0,.int 0 0,.int k 0,.ref r,.bool ř,.int g 0,.ref t,.none,x,y,.ref z,.int i 0,.int l 0,.str "/claim/cut.py" d],#[]⟩
noncomputable def fO(s:Ç)(n q m:Str)(i c:Nat):Õ:=⟨.type "function",ŗ,.func (ę n q (iO s) (gv s) (au s) .none .none .none (.str m i) ŗ (.ref c) .none),#[]⟩
noncomputable def Has(K:Â)(s:Ç)(x:Str):Prop:=∃f m i c,Ò K Á x=Z (Z (.ref f))/\K.lookup f=Z (fO s x x m i c)/\ą K (.ref c) x=ř
def Has.of{s:Ç}{m:Str}{i c:Nat}(a:Ò K Á x=Z (Z (.ref f)))(l:K.lookup f=Z (fO s x x m i c))(k:ą K (.ref c) x=ř):Has K s x:=⟨f,m,i,c,a,l,k⟩
def Has.fn(a:Has K st x)(X:K.In h)(G:h.Ns Á mg):∃f j,Fun K x x st f j/\mg x=Z (.ref f)/\∃m i c,j=ę x x (iO st) (gv st) (au st) .none .none .none (.str m i) ŗ (.ref c) .none:=by let⟨f,m,i,c,a,l,k⟩:=a;show⟨f,_,wH l k (by unfold ã;simp only[l];rfl),mg_of X G a,m,i,c,S⟩
def pO{A:Type}{p:Y A->Prop}(h:∀a0,p [a0]):∀us:Y A,us.length=1->p us
 | [a0],_=>h a0
def qc{A:Type}{p:Y A->Prop}(h:∀a0 a1,p [a0,a1]):∀us:Y A,us.length=2->p us
 | [a0,a1],_=>h a0 a1
def pZ{A:Type}{p:Y A->Prop}(h:∀a0 a1 a2,p [a0,a1,a2]):∀us:Y A,us.length=3->p us
 | [a0,a1,a2],_=>h a0 a1 a2
def qY{A:Type}{p:Y A->Prop}(h:∀a0 a1 a2 a3,p [a0,a1,a2,a3]):∀us:Y A,us.length=4->p us
 | [a0,a1,a2,a3],_=>h a0 a1 a2 a3
inductive HasM(K:Â)(st:Ç)(C:Addr)(m q:Str):Prop|mk (f:Addr) (j:Í) (_:Ð K (.ref C) m=Z (Z (.ref f))) (_:isFn K (.ref f)=ř) (_:ã K (.ref f)=ř) (_:Fun K m q st f j)
def HasM.of{C:Addr}{m q:Str}{A:Value}{B y:Ř Addr}{v:Array (Ř Value)}{kV g E r ct:Value}(a:Ð K (.ref C) m=Z (Z (.ref f)))(i:isFn K (.ref f)=ř)(l:K.lookup f=Z ⟨A,B,.func (ę m q (iO st) (gv st) (au st) .none kV g E y r ct),v⟩)(c:ą K r q=ř)(k:ã K (.ref f)=ř):HasM K st C m q:=⟨f,_,a,i,k,wH l c k⟩
noncomputable abbrev qT(st:Ç)(x q:Str)(ps:Y Str):Prop:=∀(kV a l:Value)(g:Ř Addr)(c ct:Value)(us:Y Value),us.length=ps.length->bindArgs (ę x q (iO st) (gv st) (au st) .none kV a l g c ct) ⟨us,[]⟩=pure (ps.zip us)
def Fun.bd{q:Str}(F:Fun K x q st f j)(b:qT st x q ps:=by intro _ _ _ _ _ _;first|show pO λ_=>rfl|show qc λ_ _=>rfl|show pZ λ_ _ _=>rfl|show qY λ_ _ _ _=>rfl|show us_0 S|show us_5 λ_ _ _ _ _=>rfl|show us_6 λ_ _ _ _ _ _=>rfl|show us_7 λ_ _ _ _ _ _ _=>rfl|show us_8 λ_ _ _ _ _ _ _ _=>rfl):Binds K j ps []:=F.binds b
def Fun.cl(F:Fun K x x st f j)(m:mg x=Z (.ref f))(H:FnOk P w K mg base aG n f j ps (lSp K z))
  (b:qT st x x ps:=by intro _ _ _ _ _ _;first|show pO λ_=>rfl|show qc λ_ _=>rfl|show pZ λ_ _ _=>rfl|show qY λ_ _ _ _=>rfl|show us_0 S|show us_5 λ_ _ _ _ _=>rfl|show us_6 λ_ _ _ _ _ _=>rfl|show us_7 λ_ _ _ _ _ _ _=>rfl|show us_8 λ_ _ _ _ _ _ _ _=>rfl):Cl P w K mg base n x ps z:=.of F (F.binds b) m H
end
section
variable{K:Â}{X:Cx}{n:Nat}{x:Str}{ps:Y Str}{z:ca}{e:Ã}{es:Y Ã}{c p:Ö}{j:aT}
def RpQ.up{Φ f:Hp}{d:D}{v:V}(h:RpQ K Φ f d v)(g:Same Φ f):Rp K f d v:=by
 rcases h with h|⟨a,vs,ds,rfl,rfl,l,rl⟩
 ·show h.same g
 ·show .lst l rl.1 (rl.same g).2
noncomputable def xP(sp:ca)(t:aT):TD:=λρ R=>t ρ λds=>sp ds λd=>w6 d/\R d
def qt(C:Cl X.prog X.w K X.mg X.base n x ps z)(P:Room n X.A)(M:Gl X x)
  (J:PAQ K X (e::es) j) (L:starEach (e::es) X.env=(Ś,eval e X.env)::starEach es X.env) (G:(backTo c (starEach es X.env)).any (·.1)=Ś) (B:ab x:=by decide) :
  PD K X (.Call (.Name x p) (e::es) [] c) (xP z j):=⟨λI=>by
 subst I;let⟨f,be,F,b,k,m⟩:=C.ex;refine (nM F P M m k b .nil js (J.pa S) B L G).imp λσ H Q A=>?_;let⟨w,Φ,ρ,R,E,t,k⟩:=A;refine⟨w,Φ,ρ,_,E,t,λds a y vs r g rl=>?_⟩;refine⟨y,ds,_,λ_ _ h=>h,(E.tb.same g.f).same g.s,?_,r,λd a_ o v l g' U=>?_⟩
 ·rw[J5];show⟨rl.1,λi v d b_ hd=>RpQ.up (rl.2 i v d b_ hd) g.s⟩
 ·show k d a o v l.2 ⟨g.f,g.h.trans g'.h,λb u h=>g'.h b u (g.s b u h),λq u O N T=>g.o q u O N T⟩ (U.flat l.1)⟩
end
end L2
namespace L2
open PySem PySem.Spec PySem.W PyProof.Rows PySem.Calls
end L2
namespace L2
open PySem PySem.Spec PyProof.Rows
theorem vH(val:Nat->Int):∀k,þ (λi j=>decide (val i>val j)) k<=k/\∀j,j<=k->val j<=val (þ (λi j=>decide (val i>val j)) k)
 |0=>⟨Jx _,λj a=>by rw[Nat.le_zero.mp a];show K1 _⟩
 |k+1=>by
  let⟨f,e⟩:=vH val k;change (if decide (val (k+1)>val (þ _ k)) then k+1 else þ _ k)<=k+1/\∀j,j<=k+1->val j<=val (if decide (val (k+1)>val (þ _ k)) then k+1 else þ _ k);by_cases c:val (k+1)>val (þ (λi j=>decide (val i>val j)) k)
  ·rw[JC (Kk c)];refine⟨Jx _,λj a=>?_⟩;rcases Nat.lt_or_eq_of_le a with h|h
   ·have:=e j ();omega
   ·rw[h];show K1 _
  ·rw[Jv λz=>c (Kc z)];refine⟨(),λj a=>?_⟩;rcases Nat.lt_or_eq_of_le a with h|h
   ·show e j ()
   ·rw[h];omega
section
variable{prog:Å}{w:È}{A:Ê}{E:Value->À->Prop}{s:À}
def IG{l:Addr}{its:Array Value}{val:Nat->Int}{Q:Value->À->Prop}(z:A.handled=ŗ)(f:s.heap.IsList l its)(r:0<its.size)(u:∀(i:Nat)(v:Value),its[i]?=Z v->∃t,v=.int (val i) t)
  (h:∀(i:Nat)(v:Value)(h':Heap)(g:Nat),its[i]?=Z v->(∀j,j<its.size->val j<=val i)->(∀b o,s.heap.get? b=Z o->h'.get? b=Z o)->Q v { s with heap:=h',toks:=g }) :
  wpAny (Ä prog w) A (call (.builtin "max") [.ref l]) Q E s:=by
 have p:l<s.heap.objs.size:=by let⟨_,e,_⟩:=f;show JP e
 refine call_max_walk (Ms f ?_);refine⟨_,[_,l],[_],_,_,_,_,S,Walks.list (A:=A.in1) z _ l (J7 p) its,⟨⟨_,JJ _ S,S,S⟩,f.push _⟩,λc a=>?_,r,CmpOf.ints_gt val u,λv h' g y B=>?_⟩
 ·change c<(s.heap.push _).objs.size;rw[Kj];rcases JI.mp a with rfl|a
  ·show LI _
  ·rw[JB.mp a];show LD p
 ·let⟨C,x⟩:=vH val (its.size-1);show h _ v h' g y (λj F=>x j ()) (old_kept B)
end
section
variable{K:Â}{X:Cx}
noncomputable def Hh:ca:=λds R=>∃xs:Y Int,ds=[.lst (xs.map D.int)]/\xs≠[]/\∀m∈xs,(∀x∈xs,x<=m)->R (.int m)
def BW(C:X.calm=ř):CallD K X (.builtin "max") Hh:=⟨λN w s P H xs us Q I rr z=>by
 let⟨Φ,ds,R,sm,E,⟨ns,rfl,A,h⟩,k⟩:=z;let⟨v,rfl,r⟩:=fK E;let⟨a,vs,rfl,J,L⟩:=r.lst sm;have ev:=xa L;subst ev;let⟨u,rfl,M⟩:=gS rr;cases (show u=Value.ref a from M);let⟨_,its,n,y,G⟩:=(show ObjOk X.prog X.w H s.heap a (.lst (ns.map V.int))from I.hok a _ J)
 have c:its.length=ns.length:=by rw[←y.length,Jp]
 have at_:∀(i:Nat)(v:Value),its.toArray[i]?=Z v->i<ns.length/\RelV (.int (ns.getD i 0)) v:=λi v f=>by
  rw[List.getElem?_toArray]at f;have hi:=aC f
  have g:ns[i]?=Z (ns.getD i 0):=by rw[JD,Km ()];rfl
  let⟨u,o,j⟩:=y.get (i:=i) (x:=.int (ns.getD i 0)) (by rw[JF,g];rfl);rw[f]at o;cases o;show⟨(),j⟩
 refine IG (its:=its.toArray) (val:=λi=>ns.getD i 0) (I.ok.hd C) ⟨_,G,S,n,S⟩ (by rw[JG,c];show List.length_pos_iff.mpr A) (λi v f=>(at_ i v f).2) λi v h' O f B kp=>?_;let⟨hi,j⟩:=at_ i v f
 have g:ns[i]?=Z (ns.getD i 0):=by rw[JD,Km hi];rfl
 refine⟨.int (ns.getD i 0),H,I.kept kp,j,k _ Φ H _ (h _ (Jw g) λm F=>?_) (.refl sm) (.int _)⟩;let⟨p,l⟩:=Ko F;have:=B p (by rw[JG,c];show aC l)
 have e:ns.getD p 0=m:=by rw[JD,l];rfl
 rw[e]at this
 show this⟩
end
inductive Fl where|v (d:D)|l (xs:List D)|al (p:Addr)
inductive Om where|lst (xs:List D)|map (NV:List (az×D))|mpT (NV:List (List az×D))|obj (nm:Str) (fs:List (Str×Fl))|ptr|tl (ps:List (Addr×Option (List D)))|pr (xs:List D) (d:D)
noncomputable def Om.solid:Om->Bool
 |.ptr=>Ś
 |.tl _=>Ś
 |.pr _ _=>Ś
 |_=>ř
inductive Sm where|v (d:D)|ob (a:Option Addr) (o:Om)
noncomputable abbrev Sm.own(xs:Y D):Sm:=.ob ŗ (.lst xs)
abbrev ak:=Y (Ř Sm)
noncomputable def gu{c:Type}(K:Â)(Φ:Hp)(a:c×D)(b:c×V):Prop:=a.1=b.1/\Rp K Φ a.2 b.2
inductive FlsR(K:Â)(Φ H:Hp):List (Str×Fl)->List (Str×V)->List Addr->Prop where
 |nil:FlsR K Φ H [] [] []
 |v {f:Str} {d:D} {v:V} {fs:List (Str×Fl)} {vs:List (Str×V)} {qs:List Addr}:Rp K Φ d v->FlsR K Φ H fs vs qs->FlsR K Φ H ((f,.v d)::fs) ((f,v)::vs) qs
 |l {f:Str} {ds:List D} {ws:List V} {q:Addr} {fs:List (Str×Fl)} {vs:List (Str×V)} {qs:List Addr}:H q=Z (.lst ws)->RpL K Φ ds ws->FlsR K Φ H fs vs qs->FlsR K Φ H ((f,.l ds)::fs) ((f,.ref q)::vs) (q::qs)
 |al {f:Str} {p:Addr} {fs:List (Str×Fl)} {vs:List (Str×V)} {qs:List Addr}:FlsR K Φ H fs vs qs->FlsR K Φ H ((f,.al p)::fs) ((f,.ref p)::vs) qs
inductive TlS(K:Â)(Φ H:Hp):List (Addr×Option (List D))->List Addr->Prop where
 |nil:TlS K Φ H [] []
 |ptr {q:Addr} {ps:List (Addr×Option (List D))} {F:List Addr}:TlS K Φ H ps F->TlS K Φ H ((q,ŗ)::ps) F
 |own {q:Addr} {ds:List D} {ws:List V} {ps:List (Addr×Option (List D))} {F:List Addr}:H q=Z (.lst ws)->RpL K Φ ds ws->TlS K Φ H ps F->TlS K Φ H ((q,Z ds)::ps) (q::F)
inductive OmS(K:Â)(Φ H:Hp):Om->Addr->List Addr->Prop where
 |lst {ds:List D} {vs:List V} {p:Addr}:H p=Z (.lst vs)->RpL K Φ ds vs->OmS K Φ H (.lst ds) p [p]
 |map {NV:List (az×D)} {ws:List (az×V)} {p:Addr}:H p=Z (.dK ws)->Paired (gu K Φ) NV ws->OmS K Φ H (.map NV) p [p]
 |mpT {NV:List (List az×D)} {ws:List (List az×V)} {p:Addr}:H p=Z (.dT ws)->Paired (gu K Φ) NV ws->OmS K Φ H (.mpT NV) p [p]
 |obj {nm:Str} {fs:List (Str×Fl)} {C dx:Addr} {vs:List (Str×V)} {p:Addr} {qs:List Addr}:Ò K Á nm=Z (Z (.ref C))->H p=Z (.ins C dx vs)->FlsR K Φ H fs vs qs->(p::qs).Nodup->OmS K Φ H (.obj nm fs) p (p::qs)
 |ptr {p:Addr}:OmS K Φ H .ptr p []
 |tl {ps:List (Addr×Option (List D))} {p:Addr} {F:List Addr}:Φ p=Z (.tup (ps.map λq=>V.ref q.1))->TlS K Φ H ps F->F.Nodup->OmS K Φ H (.tl ps) p F
 |pr {ds:List D} {d:D} {p q:Addr} {v:V} {ws:List V}:Φ p=Z (.tup [.ref q,v])->H q=Z (.lst ws)->RpL K Φ ds ws->Rp K Φ d v->OmS K Φ H (.pr ds d) p [q]
section
variable{K:Â}{H f Φ a:Hp}{fs:Y (Str×Fl)}{vs:Y (Str×V)}{c F F':Y Addr}{o:Om}{p:Addr}
theorem oh{e g:Type}{F G:e->g->Prop}(h:∀x y,F x y->G x y):∀{l:Y e}{m:Y g},Paired F l m->Paired G l m
 |_,_,.nil=>.nil
 |_,_,.cons r t=>.cons (h _ _ r) (oh h t)
def FlsR.keep(s:Same Φ a)(h:FlsR K Φ H fs vs c)(k:∀b∈c,∀u,H b=Z u->f b=Z u):FlsR K a f fs vs c:=by
 induction h with
 |nil=>show .nil
 |v r _ e=>show .v (r.same s) (e k)
 |l g j _ e=>show .l (k _ JA _ g) (j.same s) (e λb w=>k b (Jy _ w))
 |al _ e=>show .al (e k)
def FlsR.at(h:FlsR K Φ H fs vs c):∀b∈c,∃u,H b=Z (.lst u):=by
 induction h with
 |nil=>intro b e;cases e
 |v r _ g=>show g
 |l j w _ g=>
  intro b e;rcases JI.mp e with rfl|e
  ·show⟨_,j⟩
  ·show g b e
 |al _ g=>show g
def FlsR.names(h:FlsR K Φ H fs vs c):vs.map (·.1)=fs.map (·.1):=by
 induction h with
 |nil=>rfl
 |v r _ e=>rw[JV,JV,e]
 |l g j _ e=>rw[JV,JV,e]
 |al _ e=>rw[JV,JV,e]
def TlS.keep{ps:Y (Addr×Ř (Y D))}(s:Same Φ a)(h:TlS K Φ H ps F)(k:∀b∈F,∀u,H b=Z u->f b=Z u):TlS K a f ps F:=by
 induction h with
 |nil=>show .nil
 |ptr _ e=>show .ptr (e k)
 |own g j _ e=>show .own (k _ JA _ g) (j.same s) (e λb l=>k b (Jy _ l))
def TlS.at{ps:Y (Addr×Ř (Y D))}(h:TlS K Φ H ps F):∀b∈F,∃l,H b=Z (.lst l):=by
 induction h with
 |nil=>intro b e;cases e
 |ptr _ g=>show g
 |own j r _ g=>
  intro b e;rcases JI.mp e with rfl|e
  ·show⟨_,j⟩
  ·show g b e
theorem TlS.out{q:Addr}{ds:Y D}:∀{ps:Y (Addr×Ř (Y D))}{F:Y Addr}{k:Nat},TlS K Φ H ps F->ps[k]?=Z (q,Z ds)->∃e F',H q=Z (.lst e)/\RpL K Φ ds e/\TlS K Φ H (ps.set k (q,ŗ)) F'/\F.Perm (q::F')
 |_,_,k,.nil,h=>by simp at h
 |_,_,0,.ptr _,h=>by simp at h
 |_,_,k+1,.ptr t,h=>by let⟨e,F',g,j,r,u⟩:=TlS.out t h;show⟨e,F',g,j,.ptr r,u⟩
 |_,_,0,.own g j t,h=>by cases h;show⟨_,_,g,j,.ptr t,.refl _⟩
 |_,_,k+1,.own (q:=l) g j t,h=>by let⟨e,F',v,w,x,y⟩:=TlS.out t h;show⟨e,l::F',v,w,.own g j x,(y.cons l).trans (List.Perm.swap q l F')⟩
theorem OmS.keep(s:Same Φ a)(h:OmS K Φ H o p F)(k:∀b∈F,∀u,H b=Z u->f b=Z u):OmS K a f o p F:=by
 cases h with
 |lst e g=>show .lst (k _ JA _ e) (g.same s)
 |map e g=>show .map (k _ JA _ e) (oh (λ_ _ r=>⟨r.1,r.2.same s⟩) g)
 |mpT e g=>show .mpT (k _ JA _ e) (oh (λ_ _ r=>⟨r.1,r.2.same s⟩) g)
 |obj l e g j=>show .obj l (k _ JA _ e) (g.keep s λb w=>k b (Jy _ w)) j
 |ptr=>show .ptr
 |tl e g j=>show .tl (s _ _ e) (g.keep s k) j
 |pr e g j v=>show .pr (s _ _ e) (k _ JA _ g) (j.same s) (v.same s)
def OmS.mem(h:OmS K Φ H o p F)(e:o.solid=ř:=by rfl):p∈F:=by cases h<;>first|show JA|cases e
theorem OmS.at(h:OmS K Φ H o p F):∀b∈F,∃u,H b=Z u/\nr u:=by
 intro b g
 cases h with
 |lst e j=>rw[JB.mp g];show⟨_,e,trivial⟩
 |map e j=>rw[JB.mp g];show⟨_,e,trivial⟩
 |mpT e j=>rw[JB.mp g];show⟨_,e,trivial⟩
 |obj w e j r=>
  rcases JI.mp g with rfl|g
  ·show⟨_,e,trivial⟩
  ·let⟨v,l⟩:=j.at b g;show⟨_,l,trivial⟩
 |ptr=>cases g
 |tl e j r=>
  let⟨v,l⟩:=j.at b g;show⟨_,l,trivial⟩
 |pr e j r x=>rw[JB.mp g];show⟨_,j,trivial⟩
def OmS.tl_inv{ps:Y (Addr×Ř (Y D))}(h:OmS K Φ H (.tl ps) p F):Φ p=Z (.tup (ps.map λq=>V.ref q.1))/\TlS K Φ H ps F/\F.Nodup:=by
 cases h with
 |tl e g j=>show⟨e,g,j⟩
def OmS.lst_inv{ds:Y D}(h:OmS K Φ H (.lst ds) p F):F=[p]/\∃vs,H p=Z (.lst vs)/\RpL K Φ ds vs:=by
 cases h with
 |lst e g=>show⟨S,_,e,g⟩
def OmS.map_inv{e:Y (az×D)}(h:OmS K Φ H (.map e) p F):F=[p]/\∃g,H p=Z (.dK g)/\Paired (gu K Φ) e g:=by
 cases h with
 |map j l=>show⟨S,_,j,l⟩
def OmS.mpT_inv{e:Y (Y az×D)}(h:OmS K Φ H (.mpT e) p F):F=[p]/\∃g,H p=Z (.dT g)/\Paired (gu K Φ) e g:=by
 cases h with
 |mpT j l=>show⟨S,_,j,l⟩
def OmS.obj_inv{nm:Str}(h:OmS K Φ H (.obj nm fs) p F):∃C e vs c,F=p::c/\Ò K Á nm=Z (Z (.ref C))/\H p=Z (.ins C e vs)/\FlsR K Φ H fs vs c/\(p::c).Nodup:=by
 cases h with
 |obj g j l r=>show⟨_,_,_,_,S,g,j,l,r⟩
def OmS.gr(g:Gr Φ H a f)(h:OmS K Φ H o p F):OmS K a f o p F:=h.keep g.f λb _ u e=>g.h b u e
end
structure EnvM'(K:Â)(H0 Φ H:Hp)(σ:St)(ρ:ak)(fp:Nat->List Addr):Prop where
 fz:Same Φ H
 len:σ.length=ρ.length
 sl:∀(i:Nat)(d:D),ρ[i]?=Z (Z (.v d))->∃v,σ[i]?=Z (Z v)/\Rp K Φ d v
 ow:∀(i:Nat)(a:Option Addr)(o:Om),ρ[i]?=Z (Z (.ob a o))->∃p,σ[i]?=Z (Z (.ref p))/\(∀q,a=Z q->q=p)/\OmS K Φ H o p (fp i)
 no:∀(i:Nat)(a:Option Addr)(o:Om),ρ[i]?=Z (Z (.ob a o))->∀b∈fp i,H0 b=ŗ/\Φ b=ŗ
 dj:∀(i j:Nat)(a a':Option Addr)(o o':Om),ρ[i]?=Z (Z (.ob a o))->ρ[j]?=Z (Z (.ob a' o'))->i≠j->∀b∈fp i,b∉fp j
 tb:TabF K Φ
noncomputable def EnvM(K:Â)(a Φ H:Hp)(e:St)(ρ:ak):Prop:=∃c,EnvM' K a Φ H e ρ c
section
variable{K:Â}{l H B Φ A G:Hp}{f I:St}{ρ C:ak}{w:Nat->Y Addr}{F F':Y Addr}{o o':Om}{p:Addr}{d:D}{v:V}{i:Nat}{a:Ř Addr}
def EnvM.fz(E:EnvM K l Φ H f ρ):Same Φ H:=let ⟨_,E⟩:=E;E.fz
def EnvM.tb(E:EnvM K l Φ H f ρ):TabF K Φ:=let ⟨_,E⟩:=E;E.tb
def EnvM.len(E:EnvM K l Φ H f ρ):f.length=ρ.length:=let ⟨_,E⟩:=E;E.len
def EnvM.sl(E:EnvM K l Φ H f ρ)(h:ρ[i]?=Z (Z (.v d))):∃v,f[i]?=Z (Z v)/\Rp K Φ d v:=let ⟨_,E⟩:=E;E.sl i d h
def EnvM'.gr(E:EnvM' K l Φ H f ρ w)(g:Gr Φ H A B):EnvM' K l A B f ρ w:=
 ⟨g.s,E.len,λi d h=>let ⟨v,e,r⟩:=E.sl i d h;⟨v,e,r.same g.f⟩,λi a o h=>let ⟨p,e,ha,r⟩:=E.ow i a o h;⟨p,e,ha,r.gr g⟩,
  λi a o h b c=>by
   let⟨p,_,_,r⟩:=E.ow i a o h;let⟨u,j,k⟩:=r.at b c
   show⟨(E.no i a o h b c).1,g.o b u j (E.no i a o h b c).2 k⟩,E.dj,E.tb.same g.f⟩
def EnvM.gr(E:EnvM K l Φ H f ρ)(g:Gr Φ H A B):EnvM K l A B f ρ:=let ⟨w,E⟩:=E;⟨w,E.gr g⟩
def EnvM.re(m:Nat->Nat)(E:EnvM K l Φ H f ρ)(y:I.length=C.length)(h:∀(i:Nat)(x:Sm),C[i]?=Z (Z x)->ρ[m i]?=Z (Z x)/\I[i]?=f[m i]?)
  (inj:∀(i j:Nat)(a a':Ř Addr)(o o':Om),C[i]?=Z (Z (.ob a o))->C[j]?=Z (Z (.ob a' o'))->m i=m j->i=j):EnvM K l Φ H I C:=by
 let⟨w,E⟩:=E;refine⟨λi=>w (m i),E.fz,y,λi d hd=>?_,λi a o g=>?_,λi a o g=>E.no _ a o (h i _ g).1,λi j a a' o o' hi u c=>E.dj _ _ a a' o o' (h i _ hi).1 (h j _ u).1 λe=>c (inj i j a a' o o' hi u e),E.tb⟩
 ·let⟨v,e,r⟩:=E.sl _ d (h i _ hd).1;show⟨v,by rwa[(h i _ hd).2],r⟩
 ·let⟨p,e,r⟩:=E.ow _ a o (h i _ g).1;show⟨p,by rwa[(h i _ g).2],r⟩
def EnvM.take{r:St}{h:ak}(E:EnvM K l Φ H (f++r) (ρ++h))(c:ρ.length=f.length):EnvM K l Φ H f ρ:=
 E.re id c.symm (λi x g=>by
  have hi:=aC g
  show⟨by rwa[id,Js hi],by rw[id,Js ()]⟩) λi j _ _ _ _ _ _ e=>e
def EnvM'.take{z:St}{u:ak}(E:EnvM' K l Φ H (f++z) (ρ++u) w)(g:ρ.length=f.length):EnvM' K l Φ H f ρ w:=by
 have up:∀{i:Nat}{x:Sm},ρ[i]?=Z (Z x)->(ρ++u)[i]?=Z (Z x):=λh=>by rwa[Js (aC h)]
 have c:∀{i:Nat}{x:Sm}{y:Ř V},ρ[i]?=Z (Z x)->(f++z)[i]?=Z y->f[i]?=Z y:=λh e=>by rwa [Js (by rw[←g];show aC h)]at e
 show⟨E.fz,g.symm,λi d h=>let ⟨v,e,r⟩:=E.sl i d (up h);⟨v,c h e,r⟩,λi a o h=>let ⟨p,e,r⟩:=E.ow i a o (up h);⟨p,c h e,r⟩,λi a o h=>E.no i a o (up h),λi j a a' o o' hi J=>E.dj i j a a' o o' (up hi) (up J),E.tb⟩
def EnvM.store{v:V}{x:Sm}(E:EnvM K l Φ H (f++[Z v]) (ρ++[Z x]))(i:Nat):EnvM K l Φ H (f.set i (Z v)) (ρ.set i (Z x)):=by
 have r:f.length=ρ.length:=by have:=E.len;simpa using this
 refine E.re (λj=>if j=i then ρ.length else j) (by rw[Ju,Ju,r]) (λj y g=>?_) λj k a a' o o' g u e=>?_
 ·by_cases c:j=i
  ·subst c
   have h:j<ρ.length:=by have:=aC g;rwa [Ju]at this
   rw[JS h]at g;cases g;rw[JC S,JS (),Jq (Jx _),Jq (),J6,r,J6];show⟨S,S⟩
  ·rw[JN (Kz c)]at g;have h:=aC g;rw[Jv c,JN (Kz c),Js h,Js ()];show⟨g,S⟩
 ·have J:j<ρ.length:=by have:=aC g;rwa [Ju]at this
  have z:k<ρ.length:=by have:=aC u;rwa [Ju]at this
  have e:(if j=i then ρ.length else j)=(if k=i then ρ.length else k):=e;split at e<;>split at e<;>omega
def EnvM.snocV(E:EnvM K l Φ H f ρ)(r:Rp K Φ d v):EnvM K l Φ H (f++[Z v]) (ρ++[Z (.v d)]):=by
 let⟨w,E⟩:=E
 have g:∀{i:Nat}{a:Ř Addr}{o:Om},(ρ++[Z (Sm.v d)])[i]?=Z (Z (.ob a o))->ρ[i]?=Z (Z (.ob a o)):=λ{i a o} h=>by
  rcases Kg i ρ.length with c|c
  ·rwa [Js c]at h
  ·rw[Jq c]at h
   cases e:i-ρ.length with
   |zero=>rw[e]at h;cases h
   |succ n=>rw[e]at h;cases h
 refine⟨w,E.fz,by rw[Jr,Jr,E.len];rfl,λi d' h=>?_,λi a o h=>?_,λi a o h=>E.no i a o (g h),λi j a a' o o' hi x=>E.dj i j a a' o o' (g hi) (g x),E.tb⟩
 ·rcases Kg i ρ.length with c|c
  ·rw[Js c]at h;let⟨u,e,r⟩:=E.sl i d' h;show⟨u,by rwa[Js (by rw[E.len];show c)],r⟩
  ·rw[Jq c]at h
   cases e:i-ρ.length with
   |zero=>
    rw[e]at h;cases h;show⟨v,by rw[Jq (by rwa[E.len]),E.len,e];rfl,r⟩
   |succ n=>rw[e]at h;cases h
 ·let⟨p,e,r⟩:=E.ow i a o (g h);have hi:=aC (g h);show⟨p,by rwa[Js (by rw[E.len];show hi)],r⟩
def EnvM.snocO(E:EnvM K l Φ H f ρ)(X:Same l H)(g:Gr Φ H A B)(a_:OmS K A B o p F)(Q:∀b∈F,H b=ŗ/\A b=ŗ):EnvM K l A B (f++[Z (.ref p)]) (ρ++[Z (.ob ŗ o)]):=by
 let⟨w,E⟩:=E
 have O:∀b∈F,∀(i:Nat)(a:Ř Addr)(o:Om),ρ[i]?=Z (Z (.ob a o))->b∉w i:=λb y i a o h z=>by let⟨q,_,_,r⟩:=E.ow i a o h;let⟨u,be,_⟩:=r.at b z;rw[(Q b y).1]at be;cases be
 have N:=E.gr g
 have M:∀{i:Nat}{x:Sm},(ρ++[Z (Sm.ob ŗ o)])[i]?=Z (Z x)->(i<ρ.length/\ρ[i]?=Z (Z x))\/(i=ρ.length/\x=.ob ŗ o):=λ{i x} h=>by
  rcases Kg i ρ.length with c|c
  ·rw[Js c]at h;show .inl ⟨c,h⟩
  ·rw[Jq c]at h
   cases e:i-ρ.length with
   |zero=>rw[e]at h;cases h;show .inr ⟨(),S⟩
   |succ n=>rw[e]at h;cases h
 refine⟨λi=>if i=ρ.length then F else w i,N.fz,by rw[Jr,Jr,E.len];rfl,λi d h=>?_,λi a o' h=>?_,λi a o' h b y=>?_,λi j a a' T U hi J c b y L=>?_,N.tb⟩
 ·rcases M h with⟨c,h⟩|⟨_,h⟩
  ·let⟨v,e,r⟩:=N.sl i d h;show⟨v,by rwa[Js (by rw[E.len];show c)],r⟩
  ·cases h
 ·rcases M h with⟨c,h⟩|⟨c,h⟩
  ·let⟨q,e,r⟩:=N.ow i a o' h;show⟨q,by rwa[Js (by rw[E.len];show c)],by rwa[Jv ()]⟩
  ·cases h;subst c;refine⟨p,by rw[Jq (by rw[E.len];show Jx _),E.len,J6];rfl,(λq e=>by cases e),by rwa[JC S]⟩
 ·rcases M h with⟨c,h⟩|⟨c,h⟩
  ·rw[Jv ()]at y;show N.no i a o' h b y
  ·rw[JC c]at y;show⟨X.free (Q b y).1,(Q b y).2⟩
 ·rcases M hi with⟨R,hi⟩|⟨R,hi⟩
  ·rw[Jv ()]at y;rcases M J with⟨P,J⟩|⟨P,J⟩
   ·rw[Jv ()]at L;show E.dj i j a a' T U hi J c b y L
   ·rw[JC P]at L;show O b L i a T hi y
  ·rw[JC R]at y;rcases M J with⟨P,J⟩|⟨P,J⟩
   ·rw[Jv ()]at L;show O b y j a' U J L
   ·omega
def EnvM'.put(E:EnvM' K l Φ H f ρ w)(hi:ρ[i]?=Z (Z (.ob a o)))(a_:f[i]?=Z (Z (.ref p)))(T:∀b u,H b=Z u->b∉w i->B b=Z u)(hO:OmS K Φ B o' p F')(b_:∀b∈F',b∈w i\/(H b=ŗ/\l b=ŗ/\Φ b=ŗ)) :
  EnvM' K l Φ B f (ρ.set i (Z (.ob a o'))) (λj=>if j=i then F' else w j):=by
 have N8:=aC hi
 have O:∀{j:Nat}{x:Sm},(ρ.set i (Z (Sm.ob a o')))[j]?=Z (Z x)->(j=i/\x=.ob a o')\/(j≠i/\ρ[j]?=Z (Z x)):=λ{j x} h=>by
  rcases cN h with⟨e,_,be⟩|⟨e,h⟩
  ·cases be;show .inl ⟨e,S⟩
  ·show .inr ⟨e,h⟩
 have U:∀b∈F',∀(j:Nat)(a':Ř Addr)(y:Om),ρ[j]?=Z (Z (.ob a' y))->j≠i->b∉w j:=λb g j a' y J c z=>by
  rcases b_ b g with h|⟨h,_⟩
  ·show E.dj j i a' a y o J hi c b z h
  ·let⟨q,_,_,r⟩:=E.ow j a' y J;let⟨u,Q,_⟩:=r.at b z;rw[h]at Q;cases Q
 refine⟨λb u e=>T b u (E.fz b u e) λz=>?_,by rw[Ju,E.len],λj d h=>?_,λj a' y h=>?_,λj a' y h b g=>?_,λj k a1 a2 X y J L c b g N=>?_,E.tb⟩
 ·rw[(E.no i a o hi b z).2]at e;cases e
 ·rcases O h with⟨_,h⟩|⟨_,h⟩
  ·cases h
  ·show E.sl j d h
 ·rcases O h with⟨c,h⟩|⟨c,h⟩
  ·cases h;subst c;let⟨q,e,R,_⟩:=E.ow j a o hi;rw[a_]at e;cases e;show⟨p,a_,R,by rwa[JC S]⟩
  ·let⟨q,e,R,r⟩:=E.ow j a' y h;refine⟨q,e,R,?_⟩;rw[Jv c];show r.keep (Same.refl _) λb g u Q=>T b u Q λz=>E.dj j i a' a y o h hi c b g z
 ·rcases O h with⟨c,h⟩|⟨c,h⟩
  ·rw[JC c]at g;rcases b_ b g with z|⟨_,z⟩
   ·show E.no i a o hi b z
   ·show z
  ·rw[Jv c]at g;show E.no j a' y h b g
 ·rcases O J with⟨P,J⟩|⟨P,J⟩
  ·rw[JC P]at g;rcases O L with⟨M,L⟩|⟨M,L⟩
   ·omega
   ·rw[Jv M]at N;show U b g k a2 y L M N
  ·rw[Jv P]at g;rcases O L with⟨M,L⟩|⟨M,L⟩
   ·rw[JC M]at N;show U b N j a1 X J P g
   ·rw[Jv M]at N;show E.dj j k a1 a2 X y J L c b g N
def EnvM'.grput(E:EnvM' K l Φ H f ρ w)(g:Gr G l Φ H)(hi:ρ[i]?=Z (Z (.ob a o)))(c:∀b u,H b=Z u->b∉w i->B b=Z u):Gr G l Φ B:=
 ⟨g.f,λb u e=>c b u (g.h b u e) (λz=>by rw[(E.no i a o hi b z).1]at e;cases e),λb u e=>c b u (g.s b u e) (λz=>by rw[(E.no i a o hi b z).2]at e;cases e),λp u h j k=>g.o p u h j k⟩
def EnvM.list{ds:Y D}(E:EnvM K l Φ H f ρ)(g:Gr G l Φ H)(hi:ρ[i]?=Z (Z (.ob a (.lst ds)))):∃q vs,f[i]?=Z (Z (.ref q))/\H q=Z (.lst vs)/\l q=ŗ/\Φ q=ŗ/\RpL K Φ ds vs /\
  ∀(es:Y D)(c:Y V),RpL K Φ es c->EnvM K l Φ (ap H q (.lst c)) f (ρ.set i (Z (.ob a (.lst es))))/\Gr G l Φ (ap H q (.lst c)):=by
 let⟨w,E⟩:=E;let⟨q,e,_,r⟩:=E.ow i a _ hi;have x:=r.mem;have h:=E.no i a _ hi q x;let⟨_,vs,J,L⟩:=r.lst_inv;refine⟨q,vs,e,J,h.1,h.2,L,λes c y=>?_⟩
 have j:∀b u,H b=Z u->b∉w i->ap H q (.lst c) b=Z u:=λb u e N=>by
  rwa[aY λz=>N (by rw[z];show x)]
 show⟨⟨_,E.put hi e j (F':=[q]) (.lst bo y) λb M=>.inl (by rwa[JB.mp M])⟩,E.grput g hi j⟩
end
noncomputable def qU:Ř Sm->Ř Sl
 |some (.v d)=>Z (.v d)
 |some (.ob _ (.lst xs))=>Z (.own xs)
 |some (.ob _ (.map a))=>Z (.dct (a.map (·.1)))
 |some (.ob _ (.mpT a))=>Z (.dcT (a.map (·.1)))
 |_=>ŗ
noncomputable abbrev dR(ρ:ak):br:=ρ.map qU
theorem ls{c:Type}{K:Â}{Φ:Hp}:∀{a:Y (c×D)}{b:Y (c×V)},Paired (gu K Φ) a b->b.map (·.1)=a.map (·.1)
 |_,_,.nil=>rfl
 |_,_,.cons r t=>by rw[JV,JV,ls t,r.1]
def EnvM.toD{K:Â}{F Φ H:Hp}{C:St}{ρ:ak}(E:EnvM K F Φ H C ρ):EnvD K F Φ H C (dR ρ):=by
 let⟨L,E⟩:=E
 have at_:∀{i:Nat}{x:Sl},(dR ρ)[i]?=Z (Z x)->∃y,ρ[i]?=Z (Z y)/\qU (Z y)=Z x:=λ{i x} h=>by
  rw[JF]at h
  cases e:ρ[i]? with
  |none=>rw[e]at h;cases h
  |some y=>
   rw[e]at h
   cases y with
   |none=>cases h
   |some y=>show⟨y,S,JY h⟩
 have ow:∀{i:Nat}{o:Ow},(dR ρ)[i]?=Z (Z (.ob o))->∃a f p u,ρ[i]?=Z (Z (.ob a f))/\C[i]?=Z (Z (.ref p))/\p∈L i/\H p=Z u/\OwR K Φ o u:=λ{i o} h=>by
  let⟨y,z,e⟩:=at_ h
  cases y with
  |v d=>cases e
  |ob a f=>
   let⟨p,B,_,r⟩:=E.ow i a f z;refine⟨a,f,p,?_⟩
   cases f with
   |lst ds=>let⟨_,vs,g,l⟩:=r.lst_inv;cases e;show⟨_,z,B,r.mem,g,l⟩
   |map I=>let⟨_,vs,g,l⟩:=r.map_inv;cases e;show⟨_,z,B,r.mem,g,ls l⟩
   |mpT I=>let⟨_,vs,g,l⟩:=r.mpT_inv;cases e;show⟨_,z,B,r.mem,g,ls l⟩
   |obj nm fs=>cases e
   |ptr=>cases e
   |tl ps=>cases e
   |pr ds d=>cases e
 refine⟨E.fz,by rw[Jp,E.len],λi d h=>?_,λi o h=>?_,λi j o w p hi O R a_=>?_,E.tb⟩
 ·let⟨y,z,e⟩:=at_ h
  cases y with
  |v d'=>cases e;show E.sl i d z
  |ob a f=>cases f<;>cases e
 ·let⟨a,f,p,u,g,l,A,M,N⟩:=ow h;show⟨p,u,l,(E.no i a f g p A).1,(E.no i a f g p A).2,M,N⟩
 ·let⟨a,f,T,u,g,l,A,_,_⟩:=ow hi;let⟨a',J,U,u',P,G,Q,_,_⟩:=ow O;rw[R]at l;cases l;rw[a_]at G;cases G;rcases LX (i=j)with c|c
  ·show c
  ·show absurd Q (E.dj i j a a' f J g P c p A)
noncomputable def xO(h:Heap)(e:Addr)(vs:Array Value)(T:Ř Addr)(f:Value):Prop:=match T with
 |none=>vs[1]?=Z .none
 |some T=>vs[1]?=Z (.ref T)/\T≠e/\∃a c,h.get? T=Z a/\a.data=.fields c/\c[3]?=Z f
structure Fly(h:Heap)(e:Addr)(T:Option Addr)(fl cls:Value)(dx:Option Addr):Prop where
 ex:∃oe vs,h.get? e=Z oe/\oe.data=.fields vs/\oe.cls=cls/\oe.dict=dx/\xO h e vs T fl
structure XD where
 nm:Str
 at_:Option D
noncomputable def DA(K:Â)(H:Hp)(at_:Ř D)(a:Ř Addr):Prop:=match at_ with
 |none=>a=ŗ
 |some d=>∃p v,a=Z p/\H p=Z (.xd [("at",v)])/\Rp K (λ_=>ŗ) d v
structure XSt(X:Cx)(pins:List (Addr×Õ))(σ:St)(H:Hp)(xd:XD)(e:Value)(s:À):Prop where
 inv:Inv X pins σ H s
 ex:∃(ea C:Addr)(T dx:Option Addr),e=.ref ea/\Fly s.heap ea T .none (.ref C) dx/\X.mg xd.nm=Z (.ref C)/\DA X.K H xd.at_ dx/\(X.s₀.heap.get? ea=ŗ/\H ea=ŗ/\∀p∈X.pn++pins,p.1≠ea)/\∀T',T=Z T'->X.s₀.heap.get? T'=ŗ/\H T'=ŗ/\∀p∈X.pn++pins,p.1≠T'
noncomputable def XeOk(K:Â)(X:Cx)(j l:Hp)(r:XD->ak->Prop):Prop:=∀p f c h g e o a,r p f->Gr j l c h->EnvM K l c h g f->XSt X a g h p e o->X.xe e o
structure StM(K:Â)(X:Cx)(Φ0 H0 Φ H:Hp)(σ τ:St)(ρ κ:ak)(Rx:XD->ak->Prop):Prop where
 g:Gr Φ0 H0 Φ H
 l:ρ.length=σ.length
 E:EnvM K H0 Φ H (σ++τ) (ρ++κ)
 x:XeOk K X Φ0 H0 Rx
inductive Ar where|t (s:Sm)|s (i:Nat)
noncomputable abbrev TX:=ak->(Sm->ak->Prop)->(XD->ak->Prop)->Prop
noncomputable abbrev cT:=ak->(Bool->ak->Prop)->(XD->ak->Prop)->Prop
noncomputable abbrev cV:=ak->(Y Ar->ak->Prop)->(XD->ak->Prop)->Prop
noncomputable def ee(as:Y Ar):ak:=as.filterMap λa=>match a with|.t s=>Z (Z s)|.s _=>ŗ
inductive ArV(σ:St):List Ar->List V->St->Prop where
 |nil:ArV σ [] [] []
 |t {s:Sm} {v:V} {as:List Ar} {vs:List V} {ts:St}:ArV σ as vs ts->ArV σ (.t s::as) (v::vs) (Z v::ts)
 |s {i:Nat} {v:V} {as:List Ar} {vs:List V} {ts:St}:σ[i]?=Z (Z v)->ArV σ as vs ts->ArV σ (.s i::as) (v::vs) ts
inductive lXm(K:Â)(X:Cx)(t:TX)(σ:St)(H:Hp)(Q:VK):Prop|mk (Φ0:Hp) (H0:Hp) (Φ:Hp) (τ:St) (ρ:ak) (κ:ak) (R:Sm->ak->Prop) (Rx:XD->ak->Prop) (_:StM K X Φ0 H0 Φ H σ τ ρ κ Rx) (_:t ρ R Rx) (_:∀sm ρ' Φ' H' v,R sm ρ'->StM K X Φ0 H0 Φ' H' σ (τ++[Z v]) ρ' (κ++[Z sm]) Rx->Same Φ Φ'->Q v H')
inductive lXb(K:Â)(X:Cx)(t:cT)(σ:St)(H:Hp)(Q:Bool->Hp->Prop):Prop|mk (Φ0:Hp) (H0:Hp) (Φ:Hp) (τ:St) (ρ:ak) (κ:ak) (R:Bool->ak->Prop) (Rx:XD->ak->Prop) (_:StM K X Φ0 H0 Φ H σ τ ρ κ Rx) (_:t ρ R Rx) (_:∀b ρ' Φ' H',R b ρ'->StM K X Φ0 H0 Φ' H' σ τ ρ' κ Rx->Same Φ Φ'->Q b H')
inductive lXa(K:Â)(X:Cx)(n:Nat)(t:cV)(σ:St)(H:Hp)(Q:List V->Hp->Prop):Prop|mk (Φ0:Hp) (H0:Hp) (Φ:Hp) (τ:St) (ρ:ak) (κ:ak) (R:List Ar->ak->Prop) (Rx:XD->ak->Prop) (_:StM K X Φ0 H0 Φ H σ τ ρ κ Rx) (_:t ρ R Rx) (_:∀as ρ' Φ' H' vs ts,R as ρ'->as.length=n->ArV σ as vs ts->StM K X Φ0 H0 Φ' H' σ (τ++ts) ρ' (κ++ee as) Rx->Same Φ Φ'->Q vs H')
structure PX(K:Â)(X:Cx)(e:Ã)(t:TX):Prop where pe:X.K=K->PE X e (lXm K X t)
structure PXB(K:Â)(X:Cx)(e:Ã)(t:cT):Prop where pt:X.K=K->PT X e (lXb K X t)
structure PXW(K:Â)(X:Cx)(e:Ã)(t:cT):Prop where pw:X.K=K->PW X e (lXb K X t)
structure PXA(K:Â)(X:Cx)(es:List Ã)(t:cV):Prop where pa:X.K=K->PA X es (lXa K X es.length t)
section
variable{K:Â}{X:Cx}{a l Φ x H z:Hp}{j f A:St}{ρ c B:ak}{y:XD->ak->Prop}{d:D}{v:V}
def StM.gr(Q:StM K X a l Φ H j f ρ c y)(g:Gr Φ H x z):StM K X a l x z j f ρ c y:=⟨Q.g.trans g,Q.l,Q.E.gr g,Q.x⟩
def StM.env(Q:StM K X a l Φ H j f ρ c y):EnvM K l Φ H j ρ:=Q.E.take Q.l
def StM.lk(Q:StM K X a l Φ H j f ρ c y):c.length=f.length:=by have:=Q.E.len;rw[Jr,Jr]at this;have:=Q.l;omega
def StM.pop(Q:StM K X a l Φ H j (f++A) ρ (c++B) y)(e:c.length=f.length):StM K X a l Φ H j f ρ c y:=⟨Q.g,Q.l,by
 have E:=Q.E;rw[←JM,←JM]at E
 show E.take (by rw[Jr,Jr,Q.l,e]),Q.x⟩
def StM.pushV(Q:StM K X a l Φ H j f ρ c y)(r:Rp K Φ d v):StM K X a l Φ H j (f++[Z v]) ρ (c++[Z (.v d)]) y:=⟨Q.g,Q.l,by
 rw[←JM,←JM]
 show Q.E.snocV r,Q.x⟩
def StM.pushO{o:Om}{p:Addr}{F:Y Addr}(Q:StM K X a l Φ H j f ρ c y)(g:Gr Φ H x z)(h:OmS K x z o p F)(e:∀b∈F,H b=ŗ/\x b=ŗ):StM K X a l x z j (f++[Z (.ref p)]) ρ (c++[Z (.ob ŗ o)]) y:=⟨Q.g.trans g,Q.l,by
 rw[←JM,←JM]
 show Q.E.snocO Q.g.h g h e,Q.x⟩
def StM.at(Q:StM K X a l Φ H j f ρ c y){i:Nat}(h:c[i]?=Z (Z (.v d))):∃v,f[i]?=Z (Z v)/\Rp K Φ d v:=by have hi:=aC h;let⟨v,e,r⟩:=Q.E.sl (i:=ρ.length+i) (d:=d) (by rwa[Jq (),KW]);rw[Q.l,Jq (),KW]at e;show⟨v,e,r⟩
def StM.last(Q:StM K X a l Φ H j (f++[Z v]) ρ (c++[Z (.v d)]) y):Rp K Φ d v:=by
 have g:=Q.lk;rw[Jr,Jr]at g
 have g:c.length=f.length:=by simpa using g
 let⟨u,e,r⟩:=Q.at (i:=c.length) (d:=d) (by rw[Jq (Jx _),J6];rfl);rw[g,Jq (Jx _),J6]at e;cases e;show r
def StM.last2{e:D}{w:V}(Q:StM K X a l Φ H j ((f++[Z v])++[Z w]) ρ ((c++[Z (.v d)])++[Z (.v e)]) y):Rp K Φ d v/\Rp K Φ e w:=by
 refine⟨?_,Q.last⟩;have g:=Q.lk;simp only[Jr,JH,K5]at g
 have g:c.length=f.length:=by omega
 show (Q.pop (by simp only[Jr,JH,K5];omega)).last
end
section
variable{K:Â}{X:Cx}{e a b c:Ã}{es:Y Ã}{l p:Ö}{t A tb:TX}{G:cV}{B I:cT}
noncomputable def xD(t:TD):TX:=λρ R _=>t (dR ρ) λd=>R (.v d) ρ
def af{t:TD}(h:PD K X e t):PX K X e (xD t):=⟨λw=>(h.pe w).imp λE H Q u=>by
 let⟨y,o,Φ,F,ρ,C,R,z,U,t,k⟩:=u
 show⟨o,Φ,dR ρ,_,U.env.toD,t,λd f j v r g x=>k _ ρ f j v r ((U.gr g).pushV x) g.f⟩⟩
noncomputable def xF(t:aT):TX:=λρ R _=>t (dR ρ) λds=>R (.own ds) ρ
def dk{t:aT}(h:PF K X e t):PX K X e (xF t):=⟨λw=>(h.pe w).imp λJ H Q u=>by
 let⟨C,o,Φ,L,ρ,F,R,E,U,t,k⟩:=u
 show⟨o,Φ,dR ρ,_,U.env.toD,t,λds f j p vs r g v y z rr=>k _ ρ f j _ r (U.pushO g (.lst z rr) λb x=>by rw[JB.mp x];show⟨v,y⟩) g.f⟩⟩
noncomputable def xB(t:cw):cT:=λρ R _=>t (dR ρ) λb=>R b ρ
def bO{t:cw}(h:PTD K X e t):PXB K X e (xB t):=⟨λv=>(h.pt v).imp λz H Q u=>by
 let⟨w,o,Φ,C,ρ,y,R,x,U,t,k⟩:=u
 show⟨o,Φ,dR ρ,_,U.env.toD,t,λb f j r g=>k b ρ f j r (U.gr g) g.f⟩⟩
noncomputable def xV(k:D->ak->Prop):Sm->ak->Prop:=λs ρ=>match s with|.v d=>k d ρ|_=>False
def xV.get{k:D->ak->Prop}{s:Sm}{ρ:ak}(h:xV k s ρ):∃d,s=.v d/\k d ρ:=by
 cases s with
 |v d=>show⟨d,S,h⟩
 |ob _ _=>show h.elim
noncomputable def jz(r:cR)(A tb:TX):TX:=λρ R h=>A ρ (xV λx f=>tb f (xV λy g=>r x y λd=>R (.v d) g) h) h
def n5{r:cR}{O:St}{H:Hp}{Q:VK}(h:lXm K X (jz r A tb) O H Q):iS (lR2 K r) (lXm K X A) (lXm K X tb) O H Q:=by let⟨f,M,Φ,τ,ρ,κ,R,N,b_,t,k⟩:=h;refine⟨f,M,Φ,τ,ρ,κ,_,N,b_,t,λs1 J E H1 v o T U=>?_⟩;let⟨x,rfl,o⟩:=o.get;refine⟨f,M,E,_,J,_,_,N,T,o,λs2 L F H2 w z j a_=>?_⟩;let⟨y,rfl,z⟩:=z.get;let⟨rx,ry⟩:=j.last2;refine⟨F,x,y,_,j.g.s,.inl rx,.inl ry,z,λd C P u be g ru=>?_⟩;rw[JM,JM]at j;show k _ L C P u be (((j.pop b_.lk).gr g).pushV ru) ((U.trans a_).trans g.f)
def dw{g:ÿ}{r:cR}(o:OpD K X (Ï g) r)(h:PX K X a A)(j:PX K X b tb):PX K X (.BinOp a g b l) (jz r A tb):=
 ⟨λf=>(rX (o.o f) (h.pe f) (j.pe f)).imp λ_ _ _=>n5⟩
def zh{g:Ĕ}{r:cR}(u:OpD K X (É g) r)(h:PX K X a A)(j:PX K X b tb)(o:behindInMarks g b=Ś):PX K X (.Compare a [g] [b] l) (jz r A tb):=
 ⟨λf=>(uO (u.o f) (h.pe f) (j.pe f) o).imp λ_ _ _=>n5⟩
noncomputable def wL(t:TX):cT:=λρ R g=>t ρ (xV λd f=>match d with|.bl b=>R b f|_=>False) g
def FB{r:cR}{w:St}{H:Hp}{Q:Bool->Hp->Prop}(h:lXb K X (wL (jz r A tb)) w H Q):pW (iS (lR2 K r) (lXm K X A) (lXm K X tb)) w H Q:=by
 let⟨g,y,Φ,L,ρ,J,R,C,U,t,k⟩:=h;refine n5 ⟨g,y,Φ,L,ρ,J,_,C,U,t,λM o j z v f u E=>?_⟩;let⟨x,rfl,f⟩:=f.get;have F:=u.last;let⟨b,rfl,f⟩:=jc f;obtain rfl:=F.b;show⟨b,S,k b o j z f (u.pop U.lk) E⟩
def Fu{g:Ĕ}{r:cR}(u:OpD K X (É g) r)(h:PX K X a A)(j:PX K X b tb)(o:behindInMarks g b=Ś):PXB K X (.Compare a [g] [b] l) (wL (jz r A tb)):=
 ⟨λf=>(uu (u.o f) (h.pe f) (j.pe f) o).imp λ_ _ _=>FB⟩
noncomputable def AJ(t u:cT):cT:=λρ R g=>t ρ (λc f=>(c=ř->u f R g)/\(c=Ś->R Ś f)) g
noncomputable def xM(t u:cT):cT:=λρ R g=>t ρ (λc f=>(c=ř->R ř f)/\(c=Ś->u f R g)) g
noncomputable def GJ(t:cT):cT:=λρ R g=>t ρ (λc f=>R (!c) f) g
def PXW.toB(h:PXW K X e B):PXB K X e B:=⟨λf=>(h.pw f).pt⟩
def wn(g:PXB K X a B):PXW K X (.BoolOp .And [a] l) B:=⟨λf=>wM (g.pt f)⟩
def v9(g:PXB K X a B):PXW K X (.BoolOp .Or [a] l) B:=⟨λf=>xt (g.pt f)⟩
def mH(N:PXB K X a B)(O:PXW K X (.BoolOp .And (b::es) l) I):PXW K X (.BoolOp .And (a::b::es) l) (AJ B I):=
 ⟨λx=>(vz (N.pt x) (O.pw x)).imp λT H Q J=>by
  let⟨f,r,Φ,C,ρ,z,R,u,U,t,k⟩:=J;refine⟨f,r,Φ,C,ρ,z,_,u,U,t,λc h g F y v w=>?_⟩
  cases c with
  |true=>rw[JC S];show⟨f,r,g,C,h,z,R,u,v,y.1 S,λb o j E P L M=>k b o j E P L (w.trans M)⟩
  |false=>rw[Jv 'b'];show k _ h g F (y.2 S) v w⟩
def vo(N:PXB K X a B)(O:PXW K X (.BoolOp .Or (b::es) l) I):PXW K X (.BoolOp .Or (a::b::es) l) (xM B I):=
 ⟨λx=>(tq (N.pt x) (O.pw x)).imp λT H Q J=>by
  let⟨f,r,Φ,C,ρ,z,R,u,U,t,k⟩:=J;refine⟨f,r,Φ,C,ρ,z,_,u,U,t,λc h g F y v w=>?_⟩
  cases c with
  |true=>rw[JC S];show k _ h g F (y.1 S) v w
  |false=>rw[Jv 'b'];show⟨f,r,g,C,h,z,R,u,v,y.2 S,λb o j E P L M=>k b o j E P L (w.trans M)⟩⟩
def yK(y:PXB K X a B):PXB K X (.UnaryOp .Not a l) (GJ B):=
 ⟨λx=>(v4 (y.pt x)).imp λF H Q r=>by
  let⟨f,j,Φ,E,ρ,C,R,u,U,t,k⟩:=r
  show⟨f,j,Φ,E,ρ,C,_,u,U,t,λc h g o z v w=>k _ h g o z v w⟩⟩
noncomputable def Bi(t:TX):cT:=λρ R g=>t ρ (xV λd f=>qS d λb=>R b f) g
def pA(L:PX K X a A)(M:∀f,isTrue a X.env f=(do let v ←f;standAt a.pos;holding [v] (truthy v))):PXB K X a (Bi A):=
 ⟨λu=>(sX (L.pe u) M).imp λT H Q z=>by
  let⟨o,w,Φ,O,ρ,N,R,C,U,t,k⟩:=z;refine⟨o,w,Φ,O,ρ,N,_,C,U,t,λP g r y v j h E=>?_⟩;let⟨x,rfl,j⟩:=j.get;let⟨b,F,J⟩:=xv (R:=λb=>R b g) h.g.s (.inl h.last) j;rw[u]
  show⟨b,F,k b g r y J (h.pop U.lk) E⟩⟩
def FY:cV:=λρ R _=>R [] ρ
noncomputable def Gg(t:TX)(u:cV):cV:=λρ R h=>t ρ (λs f=>u f (λas g=>R (.t s::as) g) h) h
noncomputable def Bl(i:Nat)(u:cV):cV:=λρ R g=>u ρ (λas f=>R (.s i::as) f) g
def ba:PXA K X [] FY:=⟨λ_=>pa_nil.imp λr H Q f=>by
 let⟨g,h,Φ,u,ρ,o,R,j,U,t,k⟩:=f
 show k [] ρ Φ H [] [] t S .nil (by rwa[J5,show ee []=[]from rfl,J5]) (Same.refl _)⟩
def aB(J:PX K X e t)(M:PXA K X es G)(N:starEach (e::es) X.env=(Ś,eval e X.env)::starEach es X.env):PXA K X (e::es) (Gg t G):=
 ⟨λx=>(eU (J.pe x) (M.pa x) N).imp λσ H Q z=>by
  let⟨f,r,Φ,be,ρ,a_,R,u,b_,t,k⟩:=z;refine⟨f,r,Φ,be,ρ,a_,_,u,b_,t,λs1 j g H1 v P C E=>?_⟩;refine⟨f,r,g,_,j,_,_,u,C,P,λas o h y vs U T L O w F=>?_⟩;refine k _ o h y (v::vs) (Z v::U) T (by rw[JH,JH,L]) (.t O) ?_ (E.trans F);rw[JM,JM]at w
  show w⟩
def bM(i:Nat){x:Str}(N:PXA K X es G)(O:starEach (.Name x l::es) X.env=(Ś,eval (.Name x l) X.env)::starEach es X.env)(J:X.N[i]?=Z x:=by rfl)(g:cL X.env.scope x:=by nofun)(hd:ab x:=by decide)
  (w:fI x:=by decide):PXA K X (.Name x l::es) (λρ R f=>(∃a o,ρ[i]?=Z (Z (.ob a o)))/\Bl i G ρ R f):=
 ⟨λF=>(eU (pv i J g hd w) (N.pa F) O).imp λσ H Q y=>by
  let⟨h,u,Φ,a_,ρ,U,R,f,b_,⟨⟨a,o,M⟩,t⟩,k⟩:=y;let⟨be,E⟩:=b_.env;let⟨q,e,_⟩:=E.ow i a o M;refine⟨_,e,h,u,Φ,a_,ρ,U,_,f,b_,t,λas r j v vs T P L g z C=>?_⟩
  show k _ r j v (.ref q::vs) T P (by rw[JH,JH,L]) (.s e g) z C⟩
noncomputable def gU:Y Ar->Ř (Y D)
 | []=>Z []
 |.t (.v d)::as=>(gU as).map (d::·)
 |_=>ŗ
noncomputable def xaD(k:Y D->ak->Prop):Y Ar->ak->Prop:=λas ρ=>match gU as with|some ds=>k ds ρ|none=>False
def xaD.get{k:Y D->ak->Prop}{as:Y Ar}{ρ:ak}(h:xaD k as ρ):∃ds,gU as=Z ds/\k ds ρ:=by
 unfold xaD at h;split at h
 ·next ds e=>show⟨ds,e,h⟩
 ·show h.elim
theorem og:∀{as:Y Ar}{ds:Y D},gU as=Z ds->ee as=ds.map (λd=>Z (.v d))/\as.length=ds.length
 | [],ds,h=>by cases h;show⟨S,S⟩
 |.t (.v d)::as,ds,h=>by
  have h':(gU as).map (d::·)=Z ds:=h
  cases e:gU as with
  |none=>rw[e]at h';cases h'
  |some es=>
   rw[e]at h';cases h';let⟨f,g⟩:=og e;show⟨by change Z (Sm.v d)::ee as=_;rw[f];rfl,by rw[JH,JH,g]⟩
 |.t (.ob _ _)::_,_,h=>by cases h
 |.s _::_,_,h=>by cases h
def A3{u:St}:∀{as:Y Ar}{ds:Y D}{vs:Y V}{f:St},gU as=Z ds->ArV u as vs f->f=vs.map Z:=by
 intro as ds vs f h g
 induction g generalizing ds with
 |nil=>rfl
 | @t r v as vs f g j=>
  cases r with
  |v d=>
   have h':(gU as).map (d::·)=Z ds:=h
   cases e:gU as with
   |none=>rw[e]at h';cases h'
   |some es=>rw[j e];rfl
  |ob a o=>cases h
 |s=>cases h
def StM.vals{g C Φ H:Hp}{y z x:St}{ρ h:ak}{E:XD->ak->Prop}{as:Y Ar}{ds:Y D}{vs:Y V}(Q:StM K X g C Φ H y (z++x) ρ (h++ee as) E)(L:h.length=z.length)(hd:gU as=Z ds)(M:ArV y as vs x):RpL K Φ ds vs:=by
 have j:=A3 hd M;let⟨o,N⟩:=og hd
 have f:vs.length=ds.length:=by have:=Q.lk;rw[Jr,Jr,j,o,Jp,Jp]at this;omega
 refine⟨f,λi v d J F=>?_⟩;let⟨w,u,r⟩:=Q.at (i:=h.length+i) (d:=d) (by rw[Jq (),KW,o,JF,F];rfl);rw[L,Jq (),KW,j,JF,J]at u;cases u;show r
noncomputable def C8(t:cV):TX:=λρ R g=>t ρ (xaD λds f=>R (.v (.tup ds)) f) g
def tR{x1}(h:PXA K X es G)(x:Nat.ble es.length 1000=ř:=by rfl):PX K X (.Tuple es x1 l) (C8 G):=
 ⟨λC=>(qE (h.pa C)).imp λP H Q w=>by
  let⟨o,v,Φ,M,ρ,L,R,y,U,t,k⟩:=w;refine⟨o,v,Φ,M,ρ,L,_,y,U,t,λas r J N vs O j E F f z=>?_⟩;let⟨ds,hd,j⟩:=j.get;have rl:=f.vals U.lk hd F;refine⟨by rw[rl.1,←(og hd).2,E];show nc x,λp u=>?_⟩;have g:=Gr.new f.g.s u (.tup vs)
  show k _ r _ _ _ j (((f.pop U.lk).gr g).pushV ((rl.same (c8 (f.g.s.free u) _)).tup bo)) (z.trans g.f)⟩
noncomputable def zD(t:cV):TX:=λρ R g=>t ρ (xaD λds f=>R (.own ds) f) g
def CF(h:PXA K X es G)(x:Nat.ble es.length 1000=ř:=by rfl):PX K X (.List es l) (zD G):=
 ⟨λC=>(vx (h.pa C)).imp λT H Q w=>by
  let⟨r,v,Φ,N,ρ,M,R,y,U,t,k⟩:=w;refine⟨r,v,Φ,N,ρ,M,_,y,U,t,λas u L O vs P o F J f z=>?_⟩;let⟨ds,hd,o⟩:=o.get;have rl:=f.vals U.lk hd J;refine⟨by rw[rl.1,←(og hd).2,F];show nc x,λp j=>?_⟩;have g:=Gr.fresh f.g.s j (.lst vs)
  show k _ u _ _ _ o ((f.pop U.lk).pushO g (.lst bo rl) λb E=>by rw[JB.mp E];show⟨j,f.g.s.free j⟩) z⟩
noncomputable def GN(t:TX):TX:=λρ R g=>t ρ (λs f=>match s with|.ob ŗ (.lst ds)=>R (.v (.lst ds)) f|_=>False) g
def StM.fzl{F M Φ H:Hp}{R L:St}{ρ g:ak}{U:XD->ak->Prop}{v:V}{ds:Y D}(b_:StM K X F M Φ H R (L++[Z v]) ρ (g++[Z (.ob ŗ (.lst ds))]) U):∃C,StM K X F M C H R (L++[Z v]) ρ (g++[Z (.v (.lst ds))]) U/\Same Φ C:=by
 have hk:g.length=L.length:=by have:=b_.lk;rw[Jr,Jr]at this;simpa using this
 let⟨fp,E⟩:=b_.E
 have O:(ρ++(g++[Z (Sm.ob ŗ (.lst ds))]))[ρ.length+g.length]?=Z (Z (.ob ŗ (.lst ds))):=by rw[←JM,Jq (by rw[Jr];omega),Jr,J6];rfl
 let⟨p,e,_,r⟩:=E.ow _ _ _ O;have hp:=r.mem;have no:=E.no _ _ _ O
 have ev:v=.ref p:=by
  rw[←JM,Jq (by rw[Jr,b_.l];omega),Jr,b_.l,hk,J6]at e;cases e;rfl
 subst ev;let⟨_,vs,a_,h2⟩:=r.lst_inv
 next=>
  have hn:=(no p hp).2;have h0:=(no p hp).1;have y:=c8 hn (.lst vs);refine⟨ap Φ p (.lst vs),⟨b_.g.freeze h0 hn a_,b_.l,?_,b_.x⟩,y⟩
  have E0:EnvM K M (ap Φ p (.lst vs)) H (R++L) (ρ++g):=by
   refine⟨fp,λb u J=>?_,by rw[Jr,Jr,b_.l,hk],λj d hd=>?_,λj a o Q=>?_,λj a o Q b be=>?_,λj k a a' o o' f P8 c=>?_,E.tb.same y⟩
   ·by_cases c:b=p
    ·subst c;rw[bo]at J;cases J;show a_
    ·rw[aY c]at J;show E.fz b u J
   ·have f:=aC hd;let⟨w,x,N⟩:=E.sl j d (by rwa[←JM,Js f]);rw[←JM,Js (by rw[Jr]at f ⊢;have:=b_.l;omega)]at x;show⟨w,x,N.same y⟩
   ·have f:=aC Q;let⟨w,x,ha,N⟩:=E.ow j a o (by rwa[←JM,Js f]);rw[←JM,Js (by rw[Jr]at f ⊢;have:=b_.l;omega)]at x;show⟨w,x,ha,N.keep y λ_ _ _ h=>h⟩
   ·have f:=aC Q
    have T:(ρ++(g++[Z (Sm.ob ŗ (.lst ds))]))[j]?=Z (Z (.ob a o)):=by rwa[←JM,Js f]
    have c:b≠p:=λz=>E.dj j _ a _ o _ T O (by rw[Jr]at f;omega) b be (by rwa[z]);rw[aY c];show E.no j a o T b be
   ·have Uu:=aC f;have P:=aC P8;show E.dj j k a a' o o' (by rwa[←JM,Js Uu]) (by rwa[←JM,Js P]) c
  rw[←JM,←JM];show E0.snocV ((h2.same y).lst bo)
def sI(h:PX K X e t):PX K X e (GN t):=⟨λF=>(h.pe F).imp λO H Q w=>by
 let⟨g,r,Φ,M,ρ,L,R,x,U,t,k⟩:=w;refine⟨g,r,Φ,M,ρ,L,_,x,U,t,λN o J u v f y C=>?_⟩;split at f
 ·next ds=>
  let⟨j,z,E⟩:=y.fzl;show k _ o j u v f z (C.trans E)
 ·show f.elim⟩
noncomputable def FL(r:ca)(t:cV):TX:=λρ R g=>t ρ (xaD λds f=>r ds λd=>R (.v d) f) g
def ya{n:Nat}{x:Str}{ps:Y Str}{z:ca}(C:Cl X.prog X.w K X.mg X.base n x ps z)(hr:Room n X.A)(hg:Gl X x)
  (a_:PXA K X (e::es) G) (be:starEach (e::es) X.env=(Ś,eval e X.env)::starEach es X.env) (O:(backTo l (starEach es X.env)).any (·.1)=Ś) (N:ab x:=by decide) :
  PX K X (.Call (.Name x p) (e::es) [] l) (FL z G):=⟨λj=>by
 let⟨f,U,F,b,k,m⟩:=C.ex;refine (nM (dvs:=[]) (ds:=[]) (E:=E0) (j▸F:FnOk X.prog X.w X.K X.mg X.base aG n f U ps (lSp K z)) hr hg m (j▸k) (j▸b) .nil js (a_.pa j) N be O).imp λσ H Q M=>?_;let⟨u,L,Φ,τ,ρ,κ,R,P,b_,t,k⟩:=M;refine⟨u,L,Φ,τ,ρ,κ,_,P,b_,t,λas y w H1 vs ts o hl hv h T=>?_⟩;let⟨ds,hd,o⟩:=o.get;have rl:=h.vals b_.lk hd hv
 show⟨w,ds,_,h.g.s,h.E.tb,by rwa[J5],o,λd r J v rd g rv=>k _ y r J v rd (((h.pop b_.lk).gr g).pushV rv) (T.trans g.f)⟩⟩
end
noncomputable def cm(H:Hp)(B:Y Addr):Hp:=λb=>if b∈B then ŗ else H b
def sP{H:Hp}{B:Y Addr}{b:Addr}(h:b∈B):cm H B b=ŗ:=JC h
def gM{H:Hp}{B:Y Addr}{b:Addr}(h:b∉B):cm H B b=H b:=Jv h
def sY{H:Hp}{B:Y Addr}{b:Addr}{u:HO}(h:cm H B b=Z u):b∉B/\H b=Z u:=by
 unfold cm at h;split at h
 ·cases h
 ·next c=>show⟨c,h⟩
def D8{H:Hp}{B:Y Addr}:Same (cm H B) H:=λb u e=>(sY e).2
noncomputable abbrev eh:=Y Sm->(Sm->Y Om->Prop)->(XD->Y Om->Prop)->Prop
inductive ArgM(K:Â)(Φ H:Hp):List Sm->List V->List (List Addr)->Prop where
 |nil:ArgM K Φ H [] [] []
 |v {d:D} {v:V} {as:List Sm} {vs:List V} {Fs:List (List Addr)}:Rp K Φ d v->ArgM K Φ H as vs Fs->ArgM K Φ H (.v d::as) (v::vs) ([]::Fs)
 |o {a:Option Addr} {o:Om} {p:Addr} {F:List Addr} {as:List Sm} {vs:List V} {Fs:List (List Addr)}:OmS K Φ H o p F->ArgM K Φ H as vs Fs->ArgM K Φ H (.ob a o::as) (.ref p::vs) (F::Fs)
inductive OutM(K:Â)(Φ H:Hp):List Sm->List V->List Om->List (List Addr)->Prop where
 |nil:OutM K Φ H [] [] [] []
 |v {d:D} {v:V} {as:List Sm} {vs:List V} {os:List Om} {Fs:List (List Addr)}:OutM K Φ H as vs os Fs->OutM K Φ H (.v d::as) (v::vs) os ([]::Fs)
 |o {a:Option Addr} {o o':Om} {p:Addr} {F:List Addr} {as:List Sm} {vs:List V} {os:List Om} {Fs:List (List Addr)}:OmS K Φ H o' p F->OutM K Φ H as vs os Fs->OutM K Φ H (.ob a o::as) (.ref p::vs) (o'::os) (F::Fs)
inductive ResM(K:Â)(Φ H:Hp):Sm->V->List Addr->Prop where
 |v {d:D} {v:V}:Rp K Φ d v->ResM K Φ H (.v d) v []
 |o {a:Option Addr} {o:Om} {p:Addr} {F:List Addr}:(∀q,a=Z q->q=p)->OmS K Φ H o p F->ResM K Φ H (.ob a o) (.ref p) F
inductive lSpM(K:Â)(sp:eh)(vs:List V)(H:Hp)(Q:VK)(E_:XK):Prop|mk (Φ:Hp) (as:List Sm) (Fs:List (List Addr)) (R:Sm->List Om->Prop) (Rx:XD->List Om->Prop) (_:Same Φ H) (_:TabF K Φ) (_:ArgM K Φ H as vs Fs) (_:Fs.flatten.Nodup) (_:(∀b∈Fs.flatten,Φ b=ŗ)) (_:sp as R Rx) (_:∀sm os Φ' H' v F OB,R sm os->Gr Φ (cm H Fs.flatten) Φ' H'->ResM K Φ' H' sm v F->OutM K Φ' H' as vs os OB->(F++OB.flatten).Nodup->(∀b∈F++OB.flatten,cm H Fs.flatten b=ŗ/\Φ' b=ŗ)->Q v H')
def OmS.nodup{K:Â}{Φ H:Hp}{o:Om}{p:Addr}{F:Y Addr}(h:OmS K Φ H o p F):F.Nodup:=by
 cases h with
 |lst _ _=>simp
 |map _ _=>simp
 |mpT _ _=>simp
 |obj _ _ _ h=>show h
 |ptr=>show .nil
 |tl _ _ h=>show h
 |pr _ _ _ _=>simp
def ArgM.len{K:Â}{Φ H:Hp}{as:Y Sm}{vs:Y V}{c:Y (Y Addr)}(h:ArgM K Φ H as vs c):vs.length=as.length/\c.length=as.length:=by
 induction h with
 |nil=>show⟨S,S⟩
 |v _ _ a=>show⟨by simp[a.1],by simp[a.2]⟩
 |o _ _ a=>show⟨by simp[a.1],by simp[a.2]⟩
section
variable{K:Â}{w H G Φ l C:Hp}{A:St}{ρ y:ak}{f:Nat->Y Addr}{F F' B:Y Addr}{o o':Om}{p:Addr}{d:D}{v:V}{i:Nat}{a:Ř Addr}
noncomputable def gL(new:Nat->Ř (Om×Y Addr))(f:Nat->Y Addr):Nat->Y Addr:=λi=>match new i with|some q=>q.2|none=>f i
def EnvM'.lend{new:Nat->Ř (Om×Y Addr)}(E:EnvM' K w Φ H A ρ f)(s0:Same w H)(hB:∀b,b∈B->∃i a o q,new i=Z q/\ρ[i]?=Z (Z (.ob a o))/\b∈f i)(hB2:∀i q,new i=Z q->∀b∈f i,b∈B)(g:Gr Φ (cm H B) l G)
  (hl:y.length=ρ.length) (hv:∀(i:Nat)(d:D),y[i]?=Z (Z (.v d))->ρ[i]?=Z (Z (.v d)))
  (P:∀(i:Nat)(a:Ř Addr)(o:Om),y[i]?=Z (Z (.ob a o))->(new i=ŗ/\ρ[i]?=Z (Z (.ob a o)))\/∃R F',new i=Z (o,F')/\ρ[i]?=Z (Z (.ob a R)))
  (hn:∀(i:Nat)(q:Om×Y Addr),new i=Z q->∃p,A[i]?=Z (Z (.ref p))/\OmS K l G q.1 p q.2) (hF:∀(i:Nat)(q:Om×Y Addr),new i=Z q->∀b∈q.2,cm H B b=ŗ/\l b=ŗ)
  (hd:∀(i j:Nat)(q r:Om×Y Addr),new i=Z q->new j=Z r->i≠j->∀b∈q.2,b∉r.2):EnvM' K w l G A y (gL new f):=by
 have B0:∀b∈B,w b=ŗ:=λb I=>let ⟨i,a,o,_,_,h,U⟩:=hB b I;(E.no i a o h b U).1
 have out:∀{i:Nat}{a:Ř Addr}{o:Om},new i=ŗ->ρ[i]?=Z (Z (.ob a o))->∀b∈f i,b∉B:=λ{i a o} hi h b I z=>by
  let⟨j,a',o2,q,b_,J,U⟩:=hB b z
  have c:i≠j:=λe=>by rw[e,b_]at hi;cases hi
  show E.dj i j a a' o o2 h J c b I U
 have N:∀{i:Nat},new i=ŗ->gL new f i=f i:=λh=>by unfold gL;rw[h]
 have O:∀{i:Nat}{q:Om×Y Addr},new i=Z q->gL new f i=q.2:=λh=>by unfold gL;rw[h]
 refine⟨g.s,by rw[hl];show E.len,λi d h=>?_,λi a o h=>?_,λi a o h b I=>?_,λi j a a' o o' hi b_ c b I M=>?_,E.tb.same g.f⟩
 ·let⟨v,e,r⟩:=E.sl i d (hv i d h);show⟨v,e,r.same g.f⟩
 ·rcases P i a o h with⟨x,J⟩|⟨R,F',x,J⟩
  ·let⟨p,e,T,r⟩:=E.ow i a o J;refine⟨p,e,T,?_⟩;rw[N x];show r.keep g.f λb I u X=>g.h b u (by rwa[gM (out x J b I)])
  ·let⟨p,e,T,_⟩:=E.ow i a R J;let⟨p',be,r⟩:=hn i _ x;rw[e]at be;cases be;show⟨p,e,T,by rwa[O x]⟩
 ·rcases P i a o h with⟨x,J⟩|⟨R,F',x,J⟩
  ·rw[N x]at I;let⟨p,_,_,r⟩:=E.ow i a o J;let⟨u,X,k⟩:=r.at b I;show⟨(E.no i a o J b I).1,g.o b u (by rwa[gM (out x J b I)]) (E.no i a o J b I).2 k⟩
  ·rw[O x]at I;let⟨a_,z2⟩:=hF i _ x b I;refine⟨?_,z2⟩;rcases LX (b∈B)with c|c
   ·show B0 b c
   ·rw[gM c]at a_
    cases e:w b with
    |none=>rfl
    |some u=>rw[s0 b u e]at a_;cases a_
 ·have no:∀{i j:Nat}{q:Om×Y Addr}{a:Ř Addr}{o:Om},new i=Z q->new j=ŗ->ρ[j]?=Z (Z (.ob a o))->b∈q.2->b∈f j->False:=λ{i j q a o} x J h3 h4 h5=>by
   let⟨p,_,_,r⟩:=E.ow j a o h3;let⟨u,X,_⟩:=r.at b h5;have:=(hF i q x b h4).1;rw[gM (out J h3 b h5),X]at this;cases this
  rcases P i a o hi with⟨x,J⟩|⟨R,F',x,J⟩
  ·rw[N x]at I;rcases P j a' o' b_ with⟨L,Q⟩|⟨o1,F1,L,Q⟩
   ·rw[N L]at M;show E.dj i j a a' o o' J Q c b I M
   ·rw[O L]at M;show no L x J M I
  ·rw[O x]at I;rcases P j a' o' b_ with⟨L,Q⟩|⟨o1,F1,L,Q⟩
   ·rw[N L]at M;show no x L Q I M
   ·rw[O L]at M;show hd i j _ _ x L c b I M
def Gr.lend(c:Gr C w Φ H)(g:Gr Φ (cm H B) l G)(j:∀b∈B,w b=ŗ):Gr C w l G:=by
 have up:∀{b:Addr}{u:HO},w b=Z u->cm H B b=Z u:=λ{b u} e=>by
  rw[gM λz=>by rw[j b z]at e;cases e];show c.h b u e
 show⟨c.f.trans g.f,λb u e=>g.h b u (up e),g.s,λb u h r k=>g.o b u (up h) (c.o b u h r k) k⟩
def EnvM'.snocG(E:EnvM' K w Φ H A ρ f){sm:Sm}(Q:ResM K Φ H sm v F)(P:∀b∈F,w b=ŗ/\Φ b=ŗ)(hd:∀b∈F,∀(i:Nat)(a:Ř Addr)(o:Om),ρ[i]?=Z (Z (.ob a o))->b∉f i):EnvM K w Φ H (A++[Z v]) (ρ++[Z sm]):=by
 cases Q with
 |v r=>show EnvM.snocV ⟨f,E⟩ r
 | @o a0 o p F L R=>
  have I:∀{i:Nat}{x:Sm},(ρ++[Z (Sm.ob a0 o)])[i]?=Z (Z x)->(i<ρ.length/\ρ[i]?=Z (Z x))\/(i=ρ.length/\x=.ob a0 o):=λ{i x} h=>by
   rcases Kg i ρ.length with c|c
   ·rw[Js c]at h;show .inl ⟨c,h⟩
   ·rw[Jq c]at h
    cases e:i-ρ.length with
    |zero=>rw[e]at h;cases h;show .inr ⟨(),S⟩
    |succ n=>rw[e]at h;cases h
  refine⟨λi=>if i=ρ.length then F else f i,E.fz,by rw[Jr,Jr,E.len];rfl,λi d h=>?_,λi a o' h=>?_,λi a o' h b g=>?_,λi j a a' N O hi u c b g z=>?_,E.tb⟩
  ·rcases I h with⟨c,h⟩|⟨_,h⟩
   ·let⟨v,e,r⟩:=E.sl i d h;show⟨v,by rwa[Js (by rw[E.len];show c)],r⟩
   ·cases h
  ·rcases I h with⟨c,h⟩|⟨c,h⟩
   ·let⟨q,e,r⟩:=E.ow i a o' h;show⟨q,by rwa[Js (by rw[E.len];show c)],by rwa[Jv ()]⟩
   ·cases h;subst c;refine⟨p,by rw[Jq (by rw[E.len];show Jx _),E.len,J6];rfl,L,by rwa[JC S]⟩
  ·rcases I h with⟨c,h⟩|⟨c,h⟩
   ·rw[Jv ()]at g;show E.no i a o' h b g
   ·rw[JC c]at g;show P b g
  ·rcases I hi with⟨M,hi⟩|⟨M,hi⟩
   ·rw[Jv ()]at g;rcases I u with⟨J,u⟩|⟨J,u⟩
    ·rw[Jv ()]at z;show E.dj i j a a' N O hi u c b g z
    ·rw[JC J]at z;show hd b z i a N hi g
   ·rw[JC M]at g;rcases I u with⟨J,u⟩|⟨J,u⟩
    ·rw[Jv ()]at z;show hd b g j a' O u z
    ·omega
end
noncomputable def fD(ρ:ak):Y Ar->Ř (Y Sm)
 | []=>Z []
 |.t s::as=>(fD ρ as).map (s::·)
 |.s i::as=>match ρ[i]? with
  |some (Z (.ob _ o))=>(fD ρ as).map (.ob ŗ o::·)
  |_=>ŗ
noncomputable def aV(o:Om):Ř Sm->Ř Sm
 |some (.ob a _)=>Z (.ob a o)
 |x=>x
noncomputable def setA:ak->Nat->Om->ak
 | [],_,_=>[]
 |x::ρ,0,o=>aV o x::ρ
 |x::ρ,i+1,o=>x::setA ρ i o
theorem jD:∀(ρ:ak)(i:Nat)(o:Om),setA ρ i o=(match ρ[i]? with
  |some (Z (.ob a _))=>ρ.set i (Z (.ob a o))
  |_=>ρ)
 | [],_,_=>rfl
 |some (.ob _ _)::_,0,_=>rfl
 |some (.v _)::_,0,_=>rfl
 |none::_,0,_=>rfl
 |x::ρ,i+1,o=>by
  change x::setA ρ i o=_;rw[jD ρ i o,Nt]
  match ρ[i]? with
  |some (Z (.ob _ _))=>rfl
  |some (Z (.v _))=>rfl
  |some ŗ=>rfl
  |none=>rfl
noncomputable def aE(ρ:ak):Y Ar->Y Om->ak
 | [],_=>ρ
 |.t (.v _)::as,os=>aE ρ as os
 |.t (.ob _ _)::as,_::os=>aE ρ as os
 |.t (.ob _ _)::as,[]=>aE ρ as []
 |.s i::as,o::os=>aE (setA ρ i o) as os
 |.s _::as,[]=>aE ρ as []
noncomputable def eD:Y Ar->Y Nat
 | []=>[]
 |.t _::as=>eD as
 |.s i::as=>i::eD as
def sE(as:Y Ar):Bool:=decide (eD as).Nodup
noncomputable def newA:Nat->Y Ar->Y Om->Y (Y Addr)->Nat->Ř (Om×Y Addr)
 |n,.t (.v _)::as,os,_::a,i=>newA (n+1) as os a i
 |n,.t (.ob _ _)::as,o::os,F::a,i=>if i=n then Z (o,F) else newA (n+1) as os a i
 |n,.s j::as,o::os,F::a,i=>if i=j then Z (o,F) else newA n as os a i
 |_,_,_,_,_=>ŗ
section
variable{K:Â}{A H Φ:Hp}{g:St}{ρ:ak}{f:Nat->Y Addr}
noncomputable def dS(f:Nat->Y Addr):Nat->Y Ar->Y (Y Addr)
 |_,[]=>[]
 |n,.t (.v _)::as=>[]::dS f (n+1) as
 |n,.t (.ob _ _)::as=>f n::dS f (n+1) as
 |n,.s j::as=>f j::dS f n as
noncomputable def dQ:Nat->Y Ar->Y Nat
 |_,[]=>[]
 |n,.t (.v _)::as=>dQ (n+1) as
 |n,.t (.ob _ _)::as=>n::dQ (n+1) as
 |n,.s j::as=>j::dQ n as
theorem fpA_mem:∀{n:Nat}{as:Y Ar}{b:Addr},b∈(dS f n as).flatten↔∃i∈dQ n as,b∈f i
 |n,[],b=>by simp[dS,dQ]
 |n,.t (.v _)::as,b=>by simp only[dS,dQ,Kb,L7];show fpA_mem
 |n,.t (.ob _ _)::as,b=>by simp only[dS,dQ,Kb,JT,JI,fpA_mem (n:=n+1) (as:=as),exists_eq_or_imp]
 |n,.s j::as,b=>by simp only[dS,dQ,Kb,JT,JI,fpA_mem (n:=n) (as:=as),exists_eq_or_imp]
theorem j7:∀{n:Nat}{as:Y Ar}{i:Nat},i∈dQ n as->i∈eD as\/(n<=i/\i<n+(ee as).length)
 |n,[],i,h=>by cases h
 |n,.t (.v d)::as,i,h=>by
  have h:i∈dQ (n+1) as:=h;rcases j7 h with z|z
  ·show .inl z
  ·refine .inr ⟨(),?_⟩;change i<n+((ee as).length+1);omega
 |n,.t (.ob a o)::as,i,h=>by
  rcases JI.mp h with rfl|h
  ·refine .inr ⟨Jx _,?_⟩;change i<i+((ee as).length+1);omega
  ·rcases j7 h with z|z
   ·show .inl z
   ·refine .inr ⟨(),?_⟩;change i<n+((ee as).length+1);omega
 |n,.s j::as,i,h=>by
  rcases JI.mp h with rfl|h
  ·show .inl JA
  ·rcases j7 h with z|z
   ·show .inl (Jy _ z)
   ·show .inr z
theorem mV:∀{n:Nat}{as:Y Ar},(eD as).Nodup->(∀i∈eD as,i<n)->(dQ n as).Nodup
 |n,[],_,_=>by simp[dQ]
 |n,.t (.v d)::as,h,c=>mV (n:=n+1) h λi hi=>LD (c i hi)
 |n,.t (.ob a o)::as,h,c=>by
  refine JZ.mpr ⟨λz=>?_,mV (n:=n+1) h λi hi=>LD (c i hi)⟩;rcases j7 z with z|z
  ·show K9 _ (c n z)
  ·omega
 |n,.s j::as,h,c=>by
  let⟨e,l⟩:=JZ.mp h;refine JZ.mpr ⟨λz=>?_,mV l λi hi=>c i (Jy _ hi)⟩;rcases j7 z with z|z
  ·show e z
  ·have:=c j JA;omega
def jH{s:Sm}{as:Y Ar}{a:Y Sm}(h:fD ρ (.t s::as)=Z a):∃q,fD ρ as=Z q/\a=s::q:=by let⟨q,e,h⟩:=Mv.mp h;show⟨q,e,h.symm⟩
def lc{i:Nat}{as:Y Ar}{c:Y Sm}(h:fD ρ (.s i::as)=Z c):∃a o q,ρ[i]?=Z (Z (.ob a o))/\fD ρ as=Z q/\c=.ob ŗ o::q:=by
 unfold fD at h;split at h
 ·next a o ho=>
  let⟨q,e,h⟩:=Mv.mp h;show⟨a,o,q,ho,e,h.symm⟩
 ·cases h
def OutM.cv{d:D}{as:Y Sm}{v:V}{vs:Y V}{os:Y Om}{a:Y (Y Addr)}(h:OutM K Φ H (.v d::as) (v::vs) os a):∃c,a=[]::c/\OutM K Φ H as vs os c:=by
 cases h with
 |v h=>show⟨_,S,h⟩
def OutM.co{a:Ř Addr}{o:Om}{as:Y Sm}{v:V}{vs:Y V}{os:Y Om}{c:Y (Y Addr)}(h:OutM K Φ H (.ob a o::as) (v::vs) os c):∃p o' j F e,v=.ref p/\os=o'::j/\c=F::e/\OmS K Φ H o' p F/\OutM K Φ H as vs j e:=by
 cases h with
 |o l h=>show⟨_,_,_,_,_,S,S,S,l,h⟩
def iF{a:Type}{l m:Y a}{n:Nat}{y:a}(h:∀(j:Nat) x,(y::l)[j]?=Z x->m[n+j]?=Z x)(j:Nat)(x:a)(c:l[j]?=Z x):m[n+1+j]?=Z x:=by rw[show n+1+j=n+(j+1)by omega];show h (j+1) x c
def HG{σx:St}{c:ak}(E:EnvM' K A Φ H σx c f)(I:∀(i:Nat)(x:Sm),ρ[i]?=Z (Z x)->c[i]?=Z (Z x))(F:∀(i:Nat)(v:V),g[i]?=Z (Z v)->σx[i]?=Z (Z v)) :
  ∀{n:Nat}{as:Y Ar}{y:Y Sm}{vs:Y V}{u:St},(∀(j:Nat) x,(ee as)[j]?=Z x->c[n+j]?=Z x)->(∀(j:Nat) x,u[j]?=Z x->σx[n+j]?=Z x)->fD ρ as=Z y->ArV g as vs u->ArgM K Φ H y vs (dS f n as):=by
 intro n as y vs u h l B C
 induction C generalizing n y with
 |nil=>cases B;show .nil
 | @t J v as vs u C z=>
  let⟨q,e,rfl⟩:=jH B
  cases J with
  |v d=>
   let⟨w,p,r⟩:=E.sl n d (h 0 _ S);obtain rfl:=JY (JY ((l 0 _ S).symm.trans p));show .v r (z (n:=n+1) (iF h) (iF l) e)
  |ob a o=>
   let⟨w,p,_,r⟩:=E.ow n a o (h 0 _ S);obtain rfl:=JY (JY ((l 0 _ S).symm.trans p));show .o r (z (n:=n+1) (iF h) (iF l) e)
 | @s i v as vs u hi C z=>
  let⟨a,o,q,G,e,rfl⟩:=lc B;let⟨w,p,_,r⟩:=E.ow i a o (I i _ G);obtain rfl:=JY (JY ((F i _ hi).symm.trans p));show .o r (z h l e)
theorem n6{σx:St}{c:ak}(u:∀(i:Nat)(x:Sm),ρ[i]?=Z (Z x)->c[i]?=Z (Z x)) :
  ∀{n:Nat}{as:Y Ar}{r:Y Sm},(∀(j:Nat) x,(ee as)[j]?=Z x->c[n+j]?=Z x)->fD ρ as=Z r->∀i∈dQ n as,∃a o,c[i]?=Z (Z (.ob a o))
 |n,[],r,_,p,i,h=>by cases h
 |n,.t (.v d)::as,r,l,p,i,h=>by let⟨q,e,rfl⟩:=jH p;show n6 (σx:=σx) u (n:=n+1) (iF l) e i h
 |n,.t (.ob a o)::as,r,l,p,i,h=>by
  let⟨q,e,rfl⟩:=jH p;rcases JI.mp h with rfl|h
  ·show⟨a,o,l 0 _ S⟩
  ·show n6 (σx:=σx) u (n:=n+1) (iF l) e i h
 |n,.s j::as,r,l,p,i,h=>by
  let⟨a,o,q,v,e,rfl⟩:=lc p;rcases JI.mp h with rfl|h
  ·show⟨a,o,u _ _ v⟩
  ·show n6 (σx:=σx) u (n:=n) (as:=as) l e i h
theorem nO{σx:St}{u:ak}(E:EnvM' K A Φ H σx u f):∀{n:Nat}{as:Y Ar},(dQ n as).Nodup->(∀i∈dQ n as,∃a o,u[i]?=Z (Z (.ob a o)))->(dS f n as).flatten.Nodup
 |n,[],_,_=>by simp[dS]
 |n,.t (.v d)::as,h,l=>by change ([]++(dS f (n+1) as).flatten).Nodup;rw[L7];show nO E (n:=n+1) h l
 |n,.t (.ob a o)::as,h,l=>by change (f n++(dS f (n+1) as).flatten).Nodup;let⟨x,y⟩:=JZ.mp h;let⟨a',o',p⟩:=l n JA;let⟨_,_,_,r⟩:=E.ow n a' o' p;refine KP.mpr ⟨r.nodup,nO E (n:=n+1) y λi hi=>l i (Jy _ hi),λb z c B e=>?_⟩;subst e;let⟨i,hi,v⟩:=fpA_mem.mp B;let⟨a2,C,w⟩:=l i (Jy _ hi);show E.dj n i a' a2 o' C p w (λe=>x (e▸hi)) b z v
 |n,.s j::as,h,l=>by change (f j++(dS f n as).flatten).Nodup;let⟨x,y⟩:=JZ.mp h;let⟨a',o',p⟩:=l j JA;let⟨_,_,_,r⟩:=E.ow j a' o' p;refine KP.mpr ⟨r.nodup,nO E y λi hi=>l i (Jy _ hi),λb z c B e=>?_⟩;subst e;let⟨i,hi,v⟩:=fpA_mem.mp B;let⟨a2,C,w⟩:=l i (Jy _ hi);show E.dj j i a' a2 o' C p w (λe=>x (e▸hi)) b z v
theorem kX:∀{n:Nat}{as:Y Ar}{os:Y Om}{e:Y (Y Addr)}{i:Nat}{q:Om×Y Addr},newA n as os e i=Z q->i∈dQ n as
 |n,[],_,_,_,_,h=>by cases h
 |n,.t (.v d)::as,os,[],i,q,h=>by cases h
 |n,.t (.v d)::as,os,F::e,i,q,h=>kX (n:=n+1) h
 |n,.t (.ob a o)::as,[],e,i,q,h=>by cases e<;>cases h
 |n,.t (.ob a o)::as,_::_,[],i,q,h=>by cases h
 |n,.t (.ob a o)::as,o'::os,F::e,i,q,h=>by
  have h:(if i=n then Z (o',F) else newA (n+1) as os e i)=Z q:=h;split at h
  ·next c=>rw[c];show JA
  ·show Jy _ (kX h)
 |n,.s j::as,[],e,i,q,h=>by cases e<;>cases h
 |n,.s j::as,_::_,[],i,q,h=>by cases h
 |n,.s j::as,o'::os,F::e,i,q,h=>by
  have h:(if i=j then Z (o',F) else newA n as os e i)=Z q:=h;split at h
  ·next c=>rw[c];show JA
  ·show Jy _ (kX h)
noncomputable def OutS(K:Â)(Φ H:Hp)(σx:St)(ps:Y Nat)(a:Nat->Ř (Om×Y Addr))(G:Y Addr):Prop:=
 (∀i∈ps,∃q,a i=Z q)/\∀(i:Nat)(q:Om×Y Addr),a i=Z q->(∃p,σx[i]?=Z (Z (.ref p))/\OmS K Φ H q.1 p q.2)/\(∀b∈q.2,b∈G)/\∀(j:Nat)(r:Om×Y Addr),a j=Z r->i≠j->∀b∈q.2,b∉r.2
def OutS.cons{σx:St}{ps:Y Nat}{y v:Nat->Ř (Om×Y Addr)}{F G:Y Addr}{m:Nat}{o:Om}{p:Addr}(x:OutS K Φ H σx ps y G)(u:∀i,v i=if i=m then Z (o,F) else y i)(E:σx[m]?=Z (Z (.ref p)))(C:OmS K Φ H o p F)(I:(F++G).Nodup):OutS K Φ H σx (m::ps) v (F++G):=by
 have l:=(KP.mp I).2.2;refine⟨λi hi=>?_,λi q h=>?_⟩
 ·rw[u];split
  ·show⟨_,S⟩
  ·next c=>show x.1 i ((JI.mp hi).resolve_left c)
 ·rw[u]at h;split at h
  ·next c=>
   subst c;cases h;refine⟨⟨p,E,C⟩,λb a=>JT.mpr (.inl a),λj r e c b a w=>?_⟩;rw[u,Jv (Kz c)]at e;show l b a b ((x.2 j r e).2.1 b w) S
  ·next c=>
   let⟨J,z,L⟩:=x.2 i q h;refine⟨J,λb a=>JT.mpr (.inr (z b a)),λj r e B b a w=>?_⟩;rw[u]at e;split at e
   ·next c3=>
    cases e;show l b w b (z b a) S
   ·show L j r e B b a w
def IN{σx:St}(J:∀(i:Nat)(v:V),g[i]?=Z (Z v)->σx[i]?=Z (Z v)) :
  ∀{n:Nat}{as:Y Ar}{y:Y Sm}{vs:Y V}{w:St}{os:Y Om}{l:Y (Y Addr)},(∀(j:Nat) x,w[j]?=Z x->σx[n+j]?=Z x)->fD ρ as=Z y->ArV g as vs w->OutM K Φ H y vs os l->(dQ n as).Nodup->l.flatten.Nodup->OutS K Φ H σx (dQ n as) (newA n as os l) l.flatten:=by
 intro n as y vs w os l z I E
 induction E generalizing n y os l with
 |nil=>
  intro c _ _;show⟨λi hi=>(by cases hi),λi q h=>(by cases h)⟩
 | @t M v as vs w E B=>
  intro c C r;let⟨q,e,rfl⟩:=jH I
  cases M with
  |v d=>
   let⟨G,rfl,u⟩:=c.cv;show B (n:=n+1) (iF z) e u C r
  |ob a o=>
   let⟨p,o',L,F,G,rfl,rfl,rfl,u,c⟩:=c.co;show (B (n:=n+1) (iF z) e c (JZ.mp C).2 (KP.mp r).2.1).cons (λ_=>rfl) (z 0 _ S) u r
 | @s N v as vs w hi E B=>
  intro c C r;let⟨a,o,q,_,e,rfl⟩:=lc I;let⟨p,o',L,F,G,rfl,rfl,rfl,u,c⟩:=c.co;show (B z e c (JZ.mp C).2 (KP.mp r).2.1).cons (λ_=>rfl) (J _ _ hi) u r
def zv{ρ:ak}{i j:Nat}{o:Om}{x:Ř Sm}(h:(setA ρ i o)[j]?=Z x)(c:j≠i):ρ[j]?=Z x:=by
 rw[jD]at h;split at h
 ·rwa [JN (Kz c)]at h
 ·show h
def xz{ρ:ak}{i:Nat}{o:Om}:(setA ρ i o).length=ρ.length:=by
 rw[jD];split
 ·rw[Ju]
 ·rfl
theorem cz:∀{as:Y Ar}{ρ:ak}{os:Y Om},(aE ρ as os).length=ρ.length
 | [],_,_=>rfl
 |.t (.v _)::as,ρ,os=>cz (as:=as)
 |.t (.ob _ _)::as,ρ,_::os=>cz (as:=as)
 |.t (.ob _ _)::as,ρ,[]=>cz (as:=as)
 |.s i::as,ρ,o::os=>by change (aE (setA ρ i o) as os).length=_;rw[cz,xz]
 |.s _::as,ρ,[]=>cz (as:=as)
theorem io:∀{as:Y Ar}{ρ:ak}{os:Y Om}{i:Nat}{x:Ř Sm},i∉eD as->(aE ρ as os)[i]?=Z x->ρ[i]?=Z x
 | [],_,_,_,_,_,h=>h
 |.t (.v _)::as,ρ,os,i,x,a,h=>io (as:=as) (os:=os) a h
 |.t (.ob _ _)::as,ρ,_::os,i,x,a,h=>io (as:=as) (os:=os) a h
 |.t (.ob _ _)::as,ρ,[],i,x,a,h=>io (as:=as) (os:=[]) a h
 |.s j::as,ρ,o::os,i,x,a,h=>by have h':=io (as:=as) (λz=>a (Jy _ z)) (show (aE (setA ρ j o) as os)[i]?=Z x from h);show zv h' λe=>a (by rw[e];show JA)
 |.s j::as,ρ,[],i,x,a,h=>io (as:=as) (os:=[]) (λz=>a (Jy _ z)) h
def kN{ρ:ak}{i j:Nat}{o:Om}(c:j≠i):(setA ρ i o)[j]?=ρ[j]?:=by
 rw[jD];split
 ·rw[JN (Kz c)]
 ·rfl
def qy{O:ak}:∀{as:Y Ar}{ρ:ak}{y:Y Sm}{vs:Y V}{G:St}{os:Y Om}{w:Y (Y Addr)}{n i:Nat}{x:Sm},fD O as=Z y->ArV g as vs G->OutM K Φ H y vs os w->i∈eD as->i<n->(eD as).Nodup->(aE ρ as os)[i]?=Z (Z x)->(∀j∈eD as,∃a o,ρ[j]?=Z (Z (.ob a o)))->
  ∃a r q,x=.ob a q.1/\newA n as os w i=Z q/\ρ[i]?=Z (Z (.ob a r)):=by
 intro as ρ y vs G os w n i x T N
 induction N generalizing ρ y os w n i x with
 |nil=>intro _ h;cases h
 | @t be v as vs G N E=>
  intro l h hi nd C u;let⟨q,e,rfl⟩:=jH T
  cases be with
  |v d=>
   let⟨P,rfl,L⟩:=l.cv;show E (n:=n+1) e L h () nd C u
  |ob a1 o1=>
   let⟨p,o',Q,F,P,rfl,rfl,rfl,L,l⟩:=l.co;let⟨a,r,q,I,J,B⟩:=E (n:=n+1) (ρ:=ρ) e l h () nd C u;show⟨a,r,q,I,(Jv (J7 hi)).trans J,B⟩
 | @s j v as vs G _ N E=>
  intro l h hi nd C u;let⟨_,o,q,_,e,rfl⟩:=lc T;let⟨p,o',Q,F,P,rfl,rfl,rfl,L,l⟩:=l.co;let⟨R,X⟩:=JZ.mp nd;have b_:(aE (setA ρ j o') as Q)[i]?=Z (Z x):=C;by_cases c:i=j
  ·subst c;let⟨a,r,M⟩:=u i JA;have:=io R b_;rw[jD]at this;rw[M]at this;simp only at this;rw[JS (aC M)]at this;cases this;show⟨a,r,(o',F),S,JC S,M⟩
  ·have U:=(JI.mp h).resolve_left c
   let⟨a,r,q,I,J,B⟩:=E (ρ:=setA ρ j o') (n:=n) e l U hi X b_ λk a_=>by
    rw[kN λz=>R (by rwa[←z])];show u k (Jy _ a_)
   show⟨a,r,q,I,(Jv c).trans J,by rw[kN c]at B;show B⟩
theorem qk:∀{as:Y Ar}{c:Y Sm},fD ρ as=Z c->∀j∈eD as,∃a o,ρ[j]?=Z (Z (.ob a o))
 | [],_,_,j,h=>by cases h
 |.t s::as,c,l,j,h=>by let⟨q,e,rfl⟩:=jH l;show qk e j h
 |.s i::as,c,l,j,h=>by
  let⟨a,o,q,p,e,rfl⟩:=lc l;rcases JI.mp h with rfl|h
  ·show⟨a,o,p⟩
  ·show qk e j h
end
section
variable{K:Â}{X:Cx}{e:Ã}{es:Y Ã}{l p:Ö}{y:cV}
inductive CallM(sp:eh)(R:Sm->ak->Prop)(Rx:XD->ak->Prop)(as:List Ar)(ρ:ak):Prop|mk (Ou:List Sm) (_:fD ρ as=Z Ou) (_:sE as=ř) (_:sp Ou (λsm os=>R sm (aE ρ as os)) (λxd os=>Rx xd (aE ρ as os)))
noncomputable def GW(sp:eh)(y:cV):TX:=λρ R a=>y ρ (CallM sp R a) a
theorem StM.lend{Φ0 H0 Φ H:Hp}{L O A:St}{ρ f:ak}{Rx:XD->ak->Prop}{as:Y Ar}{Ou:Y Sm}{vs:Y V}(b_:StM K X Φ0 H0 Φ H L (O++A) ρ (f++ee as) Rx)(hl:f.length=O.length)(P:fD ρ as=Z Ou)(a_:ArV L as vs A)(hs:sE as=ř) :
  ∃T,ArgM K Φ H Ou vs T/\T.flatten.Nodup/\(∀b∈T.flatten,Φ b=ŗ)/\∀sm os G Q v F N,Gr Φ (cm H T.flatten) G Q->ResM K G Q sm v F->OutM K G Q Ou vs os N->(F++N.flatten).Nodup->(∀b∈F++N.flatten,cm H T.flatten b=ŗ/\G b=ŗ)->
   StM K X Φ0 H0 G Q L (O++[Z v]) (aE ρ as os) (f++[Z sm]) Rx:=by
 have nd:(eD as).Nodup:=Kc hs;let⟨R,E⟩:=b_.E;have lS:=b_.l
 have N8:(ee as).length=A.length:=by have:=b_.lk;rw[Jr,Jr]at this;omega
 have a1:∀(i:Nat)(x:Sm),ρ[i]?=Z (Z x)->(ρ++(f++ee as))[i]?=Z (Z x):=λi x h=>by rwa[Js (aC h)]
 have a2:∀(i:Nat)(v:V),L[i]?=Z (Z v)->(L++(O++A))[i]?=Z (Z v):=λi x h=>by rwa[Js (aC h)]
 have a3:∀(j:Nat) x,(ee as)[j]?=Z x->(ρ++(f++ee as))[ρ.length+f.length+j]?=Z x:=λj x h=>by rwa[Jq (),Jq (),show ρ.length+f.length+j-ρ.length-f.length=j by omega]
 have a4:∀(j:Nat) x,A[j]?=Z x->(L++(O++A))[ρ.length+f.length+j]?=Z x:=λj x h=>by rwa[Jq (),Jq (),show ρ.length+f.length+j-L.length-O.length=j by omega]
 have sl:=qk P
 have slt:∀i∈eD as,i<ρ.length:=λi hi=>let ⟨_,_,h⟩:=sl i hi;aC h
 have pn:(dQ (ρ.length+f.length) as).Nodup:=mV nd λi hi=>by have:=slt i hi;omega
 have po:=n6 (σx:=L) a1 a3 P;refine⟨dS R (ρ.length+f.length) as,HG E a1 a2 a3 a4 P a_,nO E pn po,λb w=>?_,λsm os G Q v F N g QQ Rn hnd O2=>?_⟩
 ·let⟨i,hi,J⟩:=fpA_mem.mp w;let⟨a,o,U⟩:=po i hi;show (E.no i a o U b J).2
 let⟨Tg,Q0,nd3⟩:=KP.mp hnd;let⟨n1,n2⟩:=IN (n:=ρ.length+f.length) a2 a4 P a_ Rn pn Q0
 have B0:∀b∈(dS R (ρ.length+f.length) as).flatten,H0 b=ŗ:=λb w=>by let⟨i,hi,J⟩:=fpA_mem.mp w;let⟨a,o,U⟩:=po i hi;show (E.no i a o U b J).1
 have pl:∀{i:Nat},i<ρ.length+f.length->i∉eD as->newA (ρ.length+f.length) as os N i=ŗ:=λ{i} hi hn=>by
  cases e:newA (ρ.length+f.length) as os N i with
  |none=>rfl
  |some q=>
   rcases j7 (kX e)with z|z
   ·show absurd z hn
   ·omega
 have E2:EnvM' K H0 G Q (L++(O++A)) (aE ρ as os++(f++List.replicate A.length ŗ)) (gL (newA (ρ.length+f.length) as os N) R):=by
  have cs:∀{i:Nat}{x:Sm},(aE ρ as os++(f++List.replicate A.length ŗ))[i]?=Z (Z x)->(i<ρ.length/\(aE ρ as os)[i]?=Z (Z x))\/(ρ.length<=i/\i<ρ.length+f.length/\f[i-ρ.length]?=Z (Z x)):=λ{i x} h=>by
   rcases Kg i ρ.length with c|c
   ·rw[Js (by rwa[cz])]at h;show .inl ⟨c,h⟩
   ·rw[Jq (by rwa[cz]),cz]at h;rcases Kg (i-ρ.length) f.length with I|I
    ·rw[Js I]at h;show .inr ⟨c,(),h⟩
    ·rw[Jq I,KS]at h;split at h
     ·cases h
     ·cases h
  have kx:∀{i:Nat}{x:Sm},ρ.length<=i->i<ρ.length+f.length->f[i-ρ.length]?=Z (Z x)->(ρ++(f++ee as))[i]?=Z (Z x):=λ{i x} C I h=>by rwa[Jq C,Js ()]
  refine E.lend b_.g.h (B:=(dS R (ρ.length+f.length) as).flatten) (new:=newA (ρ.length+f.length) as os N) (λb w=>?_) (λi q M b w=>fpA_mem.mpr ⟨i,kX M,w⟩) g (by rw[Jr,Jr,Jr,Jr,J1,cz,N8]) (λi d h=>?_) (λi a o h=>?_) (λi q M=>(n2 i q M).1) (λi q M b w=>O2 b (JT.mpr (.inr ((n2 i q M).2.1 b w)))) λi j q r M Oo c b w=>(n2 i q M).2.2 j r Oo c b w
  ·let⟨i,hi,J⟩:=fpA_mem.mp w;let⟨a,o,U⟩:=po i hi;let⟨q,M⟩:=n1 i hi;show⟨i,a,o,q,M,U,J⟩
  ·rcases cs h with⟨c,h⟩|⟨C,I,h⟩
   ·rcases LX (i∈eD as)with z|z
    ·let⟨a,o0,q,e1,_⟩:=qy (n:=ρ.length+f.length) P a_ Rn z () nd h sl;cases e1
    ·show a1 _ _ (io z h)
   ·show kx C I h
  ·rcases cs h with⟨c,h⟩|⟨C,I,h⟩
   ·rcases LX (i∈eD as)with z|z
    ·let⟨a',o0,q,e1,e2,e3⟩:=qy (n:=ρ.length+f.length) P a_ Rn z () nd h sl;cases e1;show .inr ⟨o0,q.2,e2,a1 _ _ e3⟩
    ·show .inl ⟨pl () z,a1 _ _ (io z h)⟩
   ·show .inl ⟨pl I λz=>by have:=slt i z;omega,kx C I h⟩
 have g0:=b_.g.lend g B0
 have E3:=E2.snocG QQ (λb w=>by
   let⟨z1,z2⟩:=O2 b (JT.mpr (.inl w));refine⟨?_,z2⟩;rcases LX (b∈(dS R (ρ.length+f.length) as).flatten)with c|c
   ·show B0 b c
   ·rw[gM c]at z1
    show b_.g.h.free z1) λb w i a o hi J=>by
  unfold gL at J
  cases e:newA (ρ.length+f.length) as os N i with
  |some q=>
   rw[e]at J;show nd3 b w b ((n2 i q e).2.1 b J) S
  |none=>
   rw[e]at J;let⟨p,_,_,r⟩:=E2.ow i a o hi;unfold gL at r;rw[e]at r;let⟨z1,z2⟩:=O2 b (JT.mpr (.inl w))
   have own:∃o',(ρ++(f++ee as))[i]?=Z (Z (.ob a o')):=by
    rcases Kg i ρ.length with c|c
    ·rw[Js (by rwa[cz])]at hi;rcases LX (i∈eD as)with z|z
     ·let⟨a',o0,q,_,e2,_⟩:=qy (n:=ρ.length+f.length) P a_ Rn z () nd hi sl;rw[e]at e2;cases e2
     ·show⟨o,a1 _ _ (io z hi)⟩
    ·rw[Jq (by rwa[cz]),cz]at hi;rcases Kg (i-ρ.length) f.length with I|I
     ·rw[Js I]at hi;show⟨o,by rwa[Jq c,Js I]⟩
     ·rw[Jq I,KS]at hi;split at hi
      ·cases hi
      ·cases hi
   let⟨o',Qm⟩:=own;let⟨p',_,_,r'⟩:=E.ow i a o' Qm;let⟨u,hu,_⟩:=r'.at b J
   have c:b∉(dS R (ρ.length+f.length) as).flatten:=λz=>by
    let⟨j,hj,hbj⟩:=fpA_mem.mp z;let⟨q,M⟩:=n1 j hj
    have cj:i≠j:=λz=>by rw[z,M]at e;cases e
    let⟨a2',o2,Vx⟩:=po j hj;show E.dj i j a a2' o' o2 Qm Vx cj b J hbj
   rw[gM c,hu]at z1;cases z1
 refine⟨g0,by rw[cz];show lS,?_,b_.x⟩;refine E3.re (λi=>if i<ρ.length+f.length then i else ρ.length+f.length+A.length) (by simp only[Jr,JH,K5,cz];omega) (λi x be=>?_) λi j a a' o o' hi hj e=>?_
 ·rcases Kg i (ρ.length+f.length)with c|c
  ·rw[JC c];constructor
   ·rcases Kg i ρ.length with C|C
    ·rw[Js (by rwa[cz])]at be;rwa[Js (by simp only[Jr,cz];omega),Js (by rw[cz];show C)]
    ·rw[Jq (by rwa[cz]),cz,Js ()]at be;rwa[Js (by simp only[Jr,cz];omega),Jq (by rw[cz];show C),cz,Js ()]
   ·rcases Kg i L.length with C|C
    ·rw[Js C,Js (by simp only[Jr];omega),Js C]
    ·rw[Jq C,Js (),Js (by simp only[Jr];omega),Jq C,Js ()]
  ·have hi:i=ρ.length+f.length:=by have:=aC be;simp only[Jr,JH,K5,cz]at this;omega
   subst hi;rw[Jv ()];rw[Jq (by rw[cz];omega),Jq (by rw[cz];omega),cz,show ρ.length+f.length-ρ.length-f.length=0 by omega]at be;cases be;constructor
   ·rw[Jq (by simp only[Jr,J1,cz];omega)];simp only[Jr,J1,cz];rw[show ρ.length+f.length+A.length-(ρ.length+(f.length+A.length))=0 by omega];rfl
   ·rw[Jq (),Jq (),Jq (by simp only[Jr];omega)];simp only[Jr];rw[show ρ.length+f.length-L.length-O.length=0 by omega,show ρ.length+f.length+A.length-(L.length+(O.length+A.length))=0 by omega]
 ·have hi1:=aC hi;have Uu:=aC hj;simp only[Jr,JH,K5,cz]at hi1 Uu;have e:(if i<ρ.length+f.length then i else ρ.length+f.length+A.length)=(if j<ρ.length+f.length then j else ρ.length+f.length+A.length):=e;split at e<;>split at e<;>omega
structure ClM(P:Å)(w:È)(K:Â)(mg:Str->Option Value)(base:Heap)(n:Nat)(x:Str)(ps:List Str)(z:eh):Prop where
 ex:∃(f:Addr)(fd:Í),FnOk P w K mg base aG n f fd ps (lSpM K z)/\Binds K fd ps []/\ã K (.ref f)=ř/\mg x=Z (.ref f)
def bE{n:Nat}{x:Str}{ps:Y Str}{z:eh}(C:ClM X.prog X.w K X.mg X.base n x ps z)(hr:Room n X.A)(hg:Gl X x)
  (ha:PXA K X (e::es) y) (he:starEach (e::es) X.env=(Ś,eval e X.env)::starEach es X.env) (N:(backTo l (starEach es X.env)).any (·.1)=Ś) (I:ab x:=by decide) :
  PX K X (.Call (.Name x p) (e::es) [] l) (GW z y):=⟨λc=>by
 let⟨f,a_,F,b,k,m⟩:=C.ex;refine (nM (dvs:=[]) (ds:=[]) (E:=E0) (c▸F:FnOk X.prog X.w X.K X.mg X.base aG n f a_ ps (lSpM K z)) hr hg m (c▸k) (c▸b) .nil js (ha.pa c) I he N).imp λσ H Q B=>?_;let⟨j,A,Φ,τ,ρ,κ,R,T,b_,t,k⟩:=B;refine⟨j,A,Φ,τ,ρ,κ,_,T,b_,t,λas ρ1 o H1 vs ts h hl hv g U=>?_⟩;let⟨M,P,O,h⟩:=h;let⟨w,be,g2,g3,g4⟩:=g.lend b_.lk P hv O;rw[J5]
 show⟨o,M,w,_,_,g.g.s,g.E.tb,be,g2,g3,h,λsm os a u v F J r gr L ho hn G=>k sm _ a u v r (g4 sm os a u v F J gr L ho hn G) (U.trans gr.f)⟩⟩
end
structure EndsM where
 nx:ak->Prop
 rt:Sm->ak->Prop
 bk:ak->Prop:=λ_=>False
 ct:ak->Prop:=λ_=>False
 ex:XD->ak->Prop:=λ_ _=>False
abbrev bA:=EndsM->ak->Prop
noncomputable def rZ(K:Â)(g h:Hp)(P:ak->Prop)(Q:St->Hp->Prop):Prop:=∀c a f e,P c->Gr g h a f->EnvM K h a f e c->Q e f
structure EndOkM(K:Â)(X:Cx)(Φ0 H0:Hp)(De:EndsM)(E:Ends):Prop where
 nx:rZ K Φ0 H0 De.nx E.nx
 rt:∀sm ρ' Φ' H' v σ',De.rt sm ρ'->Gr Φ0 H0 Φ' H'->EnvM K H0 Φ' H' (σ'++[Z v]) (ρ'++[Z sm])->E.rt v H'
 bk:rZ K Φ0 H0 De.bk E.bk
 ct:rZ K Φ0 H0 De.ct E.ct
 ex:XeOk K X Φ0 H0 De.ex
inductive lM(K:Â)(X:Cx)(t:bA)(E:Ends)(σ:St)(H:Hp):Prop|mk (Φ0:Hp) (H0:Hp) (Φ:Hp) (ρ:ak) (De:EndsM) (_:Gr Φ0 H0 Φ H) (_:EnvM K H0 Φ H σ ρ) (_:t De ρ) (_:EndOkM K X Φ0 H0 De E)
structure PSM(K:Â)(X:Cx)(st:Ç)(t:bA):Prop where ps:X.K=K->PS X st (lM K X t)
structure PSsM(K:Â)(X:Cx)(st:List Ç)(t:bA):Prop where ps:X.K=K->PSs X st (lM K X t)
section
variable{K:Â}{X:Cx}{a c Φ H:Hp}{e:St}{ρ:ak}{f:XD->ak->Prop}{v:V}{sm:Sm}
def du(g:Gr a c Φ H)(V:EnvM K c Φ H e ρ)(x:XeOk K X a c f):StM K X a c Φ H e [] ρ [] f:=⟨g,V.len.symm,by rw[J5,J5];show V,x⟩
def StM.env1(Q:StM K X a c Φ H e ([]++[Z v]) ρ ([]++[Z sm]) f):EnvM K c Φ H (e++[Z v]) (ρ++[Z sm]):=Q.E
end
section
variable{K:Â}{X:Cx}{st:Ç}{p:Y Ç}{t u:bA}{e a:Ã}{l:TX}{f:Ö}{w:cT}
def By:bA:=λc ρ=>c.nx ρ
noncomputable def G3(t u:bA):bA:=λc ρ=>t { c with nx:=u c } ρ
inductive mCut(t u:bA)(De:EndsM)(ρ:ak):Prop|mk (I:ak->Prop) (_:t { De with nx:=I } ρ) (_:∀ρ',I ρ'->u De ρ')
def ce:PSsM K X [] By:=⟨λ_=>pss_nil.imp λE j H c=>by let⟨h,r,Φ,ρ,o,g,V,t,k⟩:=c;show k.nx ρ Φ H j t g V⟩
def ao(z:PSM K X st t)(A:PSsM K X p u):PSsM K X (st::p) (G3 t u):=⟨λr=>(ma (z.ps r) (A.ps r)).imp λE F H x=>by let⟨c,o,Φ,ρ,v,g,V,t,k⟩:=x;exact
 ⟨c,o,Φ,ρ,_,g,V,t,⟨λj h C B t' g' y=>⟨c,o,h,j,v,g',y,t',k⟩,k.rt,k.bk,k.ct,k.ex⟩⟩⟩
def cq(A:PSM K X st t)(B:PSsM K X p u):PSsM K X (st::p) (mCut t u):=⟨λv=>(ma (A.ps v) (B.ps v)).imp λE G H y=>by let⟨h,r,Φ,ρ,x,g,V,⟨I,t,c⟩,k⟩:=y;exact
 ⟨h,r,Φ,ρ,_,g,V,t,⟨λj o F C t' g' z=>⟨h,r,o,j,x,g',z,c j t',k⟩,k.rt,k.bk,k.ct,k.ex⟩⟩⟩
def aM(c:PSM K X st t):PSsM K X [st] t:=⟨λg=>t9 (c.ps g)⟩
noncomputable def kH(i:Nat)(l:TX):bA:=λg ρ=>l ρ (λs c=>g.nx (c.set i (Z s))) g.ex
def Gb{i:Nat}{E:Ends}{x:St}{H:Hp}(h:lM K X (kH i l) E x H):jm (lXm K X l) (iY i) E x H:=by let⟨c,z,Φ,ρ,y,g,V,t,k⟩:=h;show⟨c,z,Φ,[],ρ,[],_,y.ex,du g V k.ex,t,λs B j A v r o _=>k.nx _ j A _ r o.g (o.env1.store i)⟩
def aJ{i:Nat}{x:Str}{c:Ö}(h:X.N.Nodup)(hi:X.N[i]?=Z x)(v:eC X.env.scope x)(j:PX K X e l)(r:Î e (Z (.Name x c)) f.line X.env=pure Ś:=by rfl)(o:X.fn x=ř\/X.env.scope.names.lookup x=Z .local:=by nofun) :
  PSM K X (.Assign [.Name x c] e f) (kH i l):=⟨λg=>(qH h hi v (j.pe g) r o).imp λ_ _ _=>Gb⟩
noncomputable def GT(l:TX):bA:=λg ρ=>l ρ (λ_ c=>g.nx c) g.ex
def fZ(B:PX K X e l)(C:Î e ŗ f.line X.env=pure Ś:=by rfl):PSM K X (.Expr e f) (GT l):=
 ⟨λA=>(jL (B.pe A) C).imp λE G H z=>by
  let⟨c,x,Φ,ρ,o,g,V,t,k⟩:=z
  show⟨c,x,Φ,[],ρ,[],_,o.ex,du g V k.ex,t,λs F h y v r j _=>k.nx _ h y G r j.g j.env⟩⟩
def Ia(l:TX):bA:=λc ρ=>l ρ c.rt c.ex
def bX(C:PX K X e l):PSM K X (.Return (Z e) f) (Ia l):=
 ⟨λB=>(wD (C.pe B)).imp λE F H A=>by
  let⟨c,y,Φ,ρ,x,g,V,t,k⟩:=A
  show⟨c,y,Φ,[],ρ,[],_,x.ex,du g V k.ex,t,λs j h z v r o _=>k.rt s j h z v F r o.g o.env1⟩⟩
noncomputable def wT(i:Nat):TX:=λρ R _=>match ρ[i]? with|some (Z (.ob ŗ o))=>R (.ob ŗ o) (ρ.set i ŗ)|_=>False
def jR(i:Nat){x:Str}(M:X.N[i]?=Z x:=by rfl)(O:cL X.env.scope x:=by nofun)(hd:ab x:=by decide)
  (F:fI x:=by decide):PX K X (.Name x f) (wT i):=⟨λ_=>(pv i M O hd F).imp λT H Q G=>by
 let⟨P,a_,Φ,U,ρ,r,R,be,b_,t,k⟩:=G;unfold wT at t;split at t
 ·next o h=>
  have hi:=aC h;have hl:=b_.l;let⟨fp,E⟩:=b_.env;let⟨q,e,_⟩:=E.ow i ŗ o h;refine⟨_,e,k _ _ Φ H _ t ⟨b_.g,by rwa[Ju],?_,b_.x⟩ (Same.refl _)⟩;have hk:=b_.lk;refine b_.E.re (λj=>if j=ρ.length+r.length then i else j) (by simp only[Jr,Ju,JH,K5];omega) (λj x g=>?_) λA B a a' o1 o2 J L v=>?_
  ·have N:=aC g;simp only[Jr,Ju,JH,K5]at N;rcases Kg j ρ.length with c|c
   ·rw[Js (by rwa[Ju])]at g;rw[Jv (),Js c,Js (),Js ()];rcases cN g with⟨_,_,z⟩|⟨_,z⟩
    ·cases z
    ·show⟨z,S⟩
   ·rw[Jq (by rwa[Ju]),Ju]at g;rcases Kg j (ρ.length+r.length)with I|I
    ·rw[Js ()]at g;rw[Jv ()];constructor
     ·rwa[Jq c]
     ·rw[Jq (),Js (),Jq ()]
    ·have y:j=ρ.length+r.length:=by omega
     subst y;rw[Jq (),show ρ.length+r.length-ρ.length-r.length=0 by omega]at g;cases g;rw[JC S,Js hi,Jq (),Jq (),show ρ.length+r.length-T.length-U.length=0 by omega,Js (),e];show⟨h,S⟩
  ·have no:∀{j:Nat}{a:Ř Addr}{o:Om},(ρ.set i ŗ++(r++[Z (Sm.ob ŗ o)]))[j]?=Z (Z (.ob a o))->True:=λ_=>trivial
   have C:∀{j:Nat}{x:Sm},(ρ.set i ŗ++(r++[Z (Sm.ob ŗ o)]))[j]?=Z (Z x)->j≠i:=λ{j x} g y=>by subst y;rw[Js (by rwa[Ju]),JS hi]at g;cases g
   have n1:=C J;have n2:=C L;have v:(if A=ρ.length+r.length then i else A)=(if B=ρ.length+r.length then i else B):=v;split at v<;>split at v<;>omega
 ·show t.elim⟩
noncomputable def Ik(c:cT)(t u:bA):bA:=λh ρ=>c ρ (λb g=>(b=ř->t h g)/\(b=Ś->u h g)) h.ex
def bT{c:Ã}{a b:Y Ç}(F:PXB K X c w)(B:PSsM K X a t)(C:PSsM K X b u):PSM K X (.If c a b f) (Ik w t u):=
 ⟨λz=>(vO (F.pt z) (B.ps z) (C.ps z)).imp λE I H A=>by
  let⟨h,y,Φ,ρ,x,g,V,t,k⟩:=A;refine⟨h,y,Φ,[],ρ,[],_,x.ex,du g V k.ex,t,λc o j G r v _=>?_⟩
  cases c with
  |true=>refine jC ?_;show⟨h,y,j,o,x,v.g,v.env,r.1 S,k⟩
  |false=>refine j9 ?_;show⟨h,y,j,o,x,v.g,v.env,r.2 S,k⟩⟩
noncomputable abbrev fR:=D->ak->(ak->Prop)->Prop
noncomputable abbrev jr:=Y D->ak->(ak->Prop)->Prop
inductive lGM(K:Â)(g:fR)(v:V)(σ:St)(H:Hp)(Q:St->Hp->Prop):Prop|mk (H0:Hp) (Φ:Hp) (ρ:ak) (d:D) (R:ak->Prop) (_:EnvM K H0 Φ H σ ρ) (_:Rp K Φ d v) (_:g d ρ R) (_:∀ρ' σ',R ρ'->EnvM K H0 Φ H σ' ρ'->Q σ' H)
inductive lGMs(K:Â)(g:jr)(vs:List V)(σ:St)(H:Hp)(Q:St->Hp->Prop):Prop|mk (H0:Hp) (Φ:Hp) (ρ:ak) (ds:List D) (R:ak->Prop) (_:EnvM K H0 Φ H σ ρ) (_:RpL K Φ ds vs) (_:g ds ρ R) (_:∀ρ' σ',R ρ'->EnvM K H0 Φ H σ' ρ'->Q σ' H)
structure PGM(K:Â)(X:Cx)(e:Ã)(g:fR):Prop where pg:X.K=K->PG X e (lGM K g)
structure PGMs(K:Â)(X:Cx)(es:List Ã)(g:jr):Prop where pg:X.K=K->PGs X es (lGMs K g)
end
section
variable{K:Â}{X:Cx}{e:Ã}{es:Y Ã}{a:Ö}{g:fR}{gs:jr}
noncomputable def AG(i:Nat):fR:=λd ρ R=>R (ρ.set i (Z (.v d)))
def bZ{i:Nat}{x:Str}(f:X.N.Nodup)(hi:X.N[i]?=Z x)(j:eC X.env.scope x)(h:X.fn x=ř\/X.env.scope.names.lookup x=Z .local:=by nofun):PGM K X (.Name x a) (AG i):=
 ⟨λ_=>(kS f hi j h).imp λv o H Q c=>by let⟨l,Φ,ρ,d,R,E,r,g,k⟩:=c;show k _ _ g ((E.snocV r).store i)⟩
noncomputable def Dy:jr:=λds ρ R=>match ds with| []=>R ρ|_=>False
noncomputable def Ih(t:fR)(u:jr):jr:=λds ρ R=>match ds with|d::r=>t d ρ λc=>u r c R| []=>False
def gA:PGMs K X [] Dy:=⟨λ_=>pgs_nil.imp λv h H Q c=>by
 let⟨f,Φ,ρ,ds,R,E,r,g,k⟩:=c
 cases ds with
 |nil=>show⟨Kq.mp r.1,k _ _ g E⟩
 |cons=>show g.elim⟩
def cW(p:PGM K X e g)(w:PGMs K X es gs)(y:(Æ (e::es) X.env).map (·.2)=assign e X.env::(Æ es X.env).map (·.2):=by rfl):PGMs K X (e::es) (Ih g gs):=
 ⟨λj=>(lq (p.pg j) (w.pg j) y).imp λvs B H Q o=>by
  let⟨h,Φ,ρ,ds,R,E,r,g,k⟩:=o
  cases ds with
  |nil=>show g.elim
  |cons d ds=>
   cases vs with
   |nil=>show absurd r.1 (by simp)
   |cons v vs=>
    refine⟨v,vs,S,h,Φ,ρ,d,_,E,r.2 0 v d S S,g,λc A g' l=>⟨h,Φ,c,ds,R,l,⟨by have:=r.1;simpa using this,λi u f z x=>r.2 (i+1) u f z x⟩,g',k⟩⟩⟩
noncomputable def Cz(n:Nat)(t:jr):fR:=λd ρ R=>match d with|.tup ds=>ds.length=n/\t ds ρ R|.lst ds=>ds.length=n/\t ds ρ R|_=>False
noncomputable def xw(K:Â)(n:Nat)(t:fF):TG:=λv c H Q=>qB K n t v c H Q\/pH K n t v c H Q
def AX{k n:Nat}{t:fF}(l:X.K=K)(o:X.calm=ř)(h:PGs X es t)(p:(Æ es X.env).length=n)(j:(Æ es X.env).findIdx? (·.1)=ŗ):PG X (.Tuple es k a) (xw K n t):=λc s w H v u Q I r f=>by
 rcases f with f|f
 ·show vX l o h p j c s w H v u Q I r f
 ·show uk l o h p j c s w H v u Q I r f
def gG{k n:Nat}(o:X.calm=ř)(h:PGMs K X es gs)(p:(Æ es X.env).length=n:=by rfl)(l:(Æ es X.env).findIdx? (·.1)=ŗ:=by rfl):PGM K X (.Tuple es k a) (Cz n gs):=
 ⟨λf=>(AX f o (h.pg f) p l:PG X (.Tuple es k a) (xw K n (lGMs K gs))).imp λv u H Q j=>by
  let⟨c,Φ,ρ,d,R,E,r,g,k⟩:=j
  cases d with
  |tup ds=>cases r with|tup h1 h2 h3=>show .inl ⟨_,_,S,.of (E.fz _ _ h1),by rw[h2];show g.1,c,Φ,ρ,ds,R,E,⟨h2,h3⟩,g.2,k⟩
  |lst ds=>cases r with|lst h1 h2 h3=>show .inr ⟨_,_,S,.of (E.fz _ _ h1),by rw[h2];show g.1,c,Φ,ρ,ds,R,E,⟨h2,h3⟩,g.2,k⟩
  |_=>show g.elim⟩
end
section
variable{K:Â}{X:Cx}{t u:bA}{e a:Ã}{l:TX}{f:Ö}{o:cT}
noncomputable def Go(l:TX)(g:fR):bA:=λh ρ=>l ρ (xV λd c=>g d c h.nx) h.ex
def rW{c:Ã}{A:fR}(L:PX K X e l)(M:PGM K X c A)(N:è [c] e f.line X.env=pure Ś:=by rfl)(O:é [c] e X.env=pure ŗ:=by rfl)
  (J:(Æ [c] X.env).map (·.2)=[assign c X.env]:=by rfl):PSM K X (.Assign [c] e f) (Go l A):=
 ⟨λB=>(nB (L.pe B) (M.pg B) N O J).imp λE Q H G=>by
  let⟨p,z,Φ,ρ,C,g,V,t,k⟩:=G;refine⟨p,z,Φ,[],ρ,[],_,C.ex,du g V k.ex,t,λs x h F v r j _=>?_⟩;let⟨d,rfl,r⟩:=r.get
  show⟨z,h,x,d,_,j.env,j.last,r,λw y P I=>k.nx w h F y P j.g I⟩⟩
noncomputable def Hz(c:cT)(tb:bA):bA:=λr ρ=>∃I:Nat->ak->Prop,(∃m,I m ρ)/\∀m j,I m j->c j (λb p=>(b=ř->tb { r with nx:=λg=>∃h,h<m/\I h g,ct:=λg=>∃h,h<m/\I h g,bk:=r.nx } p)/\(b=Ś->r.nx p)) r.ex
def DT{c:Ã}{x:Y Ç}{tb:bA}(hp:ø (Ä X.prog X.w) X.A X.env X.xe)(hc:PXB K X c o)(hb:PSsM K X x tb):PSM K X (.While c x [] f) (Hz o tb):=
 ⟨λQ=>(uw hp (hc.pt Q) (hb.ps Q)).imp λE R H U=>by
  let⟨v,A,Φ,ρ,b_,g,V,⟨I,⟨m,be⟩,hw⟩,k⟩:=U;refine⟨λm R H=>∃p j,Gr v A p H/\EnvM K A p H R j/\I m j,⟨m,Φ,ρ,g,V,be⟩,?_⟩;rintro m P H' ⟨p,j,g',a_,hi⟩;refine⟨v,A,p,[],j,[],_,b_.ex,du g' a_ k.ex,hw m j hi,λb G F T r J _=>?_⟩
  cases b with
  |false=>refine j9 ?_;show k.nx G F T P (r.2 S) J.g J.env
  |true=>
   refine jC ?_;refine⟨λw C=>∃B,B<m/\∃p j,Gr v A p C/\EnvM K A p C w j/\I B j,λw C h=>h,v,A,F,G,_,J.g,J.env,r.1 S,⟨?_,k.rt,k.nx,?_,k.ex⟩⟩
   ·rintro z y C w ⟨B,O,L⟩ N M;show⟨B,O,y,z,N,M,L⟩
   ·rintro z y C w ⟨B,O,L⟩ N M
    show⟨B,O,y,z,N,M,L⟩⟩
noncomputable abbrev iL:=ak->(Y D->ak->Prop)->(XD->ak->Prop)->Prop
inductive lIM(K:Â)(X:Cx)(t:iL)(σ:St)(H:Hp)(R':It->Hp->Prop):Prop|mk (Φ0:Hp) (H0:Hp) (Φ:Hp) (τ:St) (ρ:ak) (κ:ak) (R:List D->ak->Prop) (Rx:XD->ak->Prop) (_:StM K X Φ0 H0 Φ H σ τ ρ κ Rx) (_:t ρ R Rx) (_:∀ds ρ' Φ' H' J,R ds ρ'->StM K X Φ0 H0 Φ' H' σ τ ρ' κ Rx->Same Φ Φ'->SteadyD K J Φ' ds->R' J H')
structure PIM(K:Â)(X:Cx)(tg e:Ã)(t:iL):Prop where pi:X.K=K->PI X tg e (lIM K X t)
noncomputable def iD(t:aT):iL:=λρ R _=>t (dR ρ) λds=>R ds ρ
def eT{j:Ã}{t:aT}(h:PID K X j e t):PIM K X j e (iD t):=⟨λy=>(h.pi y).imp λE H A w=>by
 let⟨z,v,Φ,F,ρ,C,R,B,Q,t,k⟩:=w
 show⟨v,Φ,dR ρ,_,Q.env.toD,t,λds c p J r g x=>k ds ρ c p J r (Q.gr g) g.f x⟩⟩
noncomputable def A1(t:cV):iL:=λρ R g=>t ρ (xaD λds c=>match ds with| [.int j]=>(-(2^62)<=j/\j<2^62)/\R (cC 0 j.toNat) c|_=>False) g
def sW{N:Ã}{y:cV}{p:Ö}(I:Gl X "range")(J:X.mg "range"=ŗ)(G:PXA K X [a] y)(L:starEach [a] X.env=[(Ś,eval a X.env)]:=by rfl):PIM K X N (.Call (.Name "range" p) [a] [] f) (A1 y):=
 ⟨λF=>(vq I J (G.pa F) L).imp λa_ H Q B=>by
  let⟨g,z,Φ,P,ρ,O,R,C,be,t,k⟩:=B;refine⟨g,z,Φ,P,ρ,O,_,C,be,t,λas w h A vs U c T M x E=>?_⟩;let⟨ds,hd,c⟩:=c.get;have rl:=x.vals be.lk hd M
  match ds,c,rl with
  | [.int j],r,rl=>
   let⟨v,rfl,c⟩:=rl.one_inv;obtain rfl:=c.i
   show⟨j,S,r.1.1,r.1.2,k _ w h A _ r.2 (x.pop be.lk) E qW⟩⟩
def XeOk.join{j v H p:Hp}{A:XD->ak->Prop}(x:XeOk K X j v A)(g:Gr j v p H):XeOk K X p v A:=λE y w B z e C c r g' V h=>x E y w B z e C c r (g.join g') V h
inductive ForM(gd:fR)(tb:bA)(De:EndsM)(ds:List D)(ρ0:ak):Prop|mk (I:Nat->ak->Prop) (_:I 0 ρ0) (_:∀(i:Nat)(d:D)(ρ':ak),ds[i]?=Z d->I i ρ'->gd d ρ' λρ2=>tb { De with nx:=I (i+1),ct:=I (i+1),bk:=De.nx } ρ2) (_:∀ρ',I ds.length ρ'->De.nx ρ')
noncomputable def yN(j:iL)(h:fR)(tb:bA):bA:=λg ρ=>j ρ (λds c=>ForM h tb g ds c) g.ex
def eJ{tg z:Ã}{F:Y Ç}{ti:iL}{gd:fR}{tb:bA}(hp:ø (Ä X.prog X.w) X.A X.env X.xe)(hc:X.calm=ř)(hi:PIM K X tg z ti)(hg:PGM K X tg gd)(hb:PSsM K X F tb)
  (hs:∀x,Ì z X.env x=pure x:=by intro _;rfl):PSM K X (.For tg z F [] f) (yN ti gd tb):=
 ⟨λhK=>(vd hp hc (hi.pi hK) (hg.pg hK) (hb.ps hK) hs).imp λE σ H NT=>by
  let⟨N,L,Φ,ρ,De,g,V,t,k⟩:=NT;refine⟨N,L,Φ,[],ρ,[],_,De.ex,du g V k.ex,t,λds ρ0 O H1 J Oe S1 _ Sd=>?_⟩;let⟨I,h0,OE,Pa⟩:=Oe;refine⟨λi m σ G=>m=ds.length-i/\i<=ds.length/\∃c h,Gr N L c G/\Same O c/\EnvM K L c G σ h/\I i h,⟨ds.length,by simp,Lh _,O,ρ0,S1.g,Same.refl _,S1.env,h0⟩,?_⟩;rintro i m σ' G ⟨rfl,hi,c,h,g',T,b_,hI⟩;by_cases be:i<ds.length
  ·refine .inr ⟨Sd.go i G (T.trans b_.fz) be,λa_ Q=>∃c h,Gr N L c Q/\Same O c/\EnvM K L c Q a_ h/\I (i+1) h,λa_ Q h2=>⟨ds.length-(i+1),(),S,be,h2⟩,λx Q y=>?_⟩;let⟨P,B,rx⟩:=Sd.yl i c G x Q _ T b_.fz (bJ be) y;refine⟨L,P,h,_,_,b_.gr B,rx,OE i _ h (bJ be) hI,λρ2 σ3 t2 V3=>?_⟩;refine⟨P,L,P,ρ2,_,?_,V3,t2,⟨?_,?_,?_,?_,k.ex.join (g'.trans B)⟩⟩
   ·show⟨Same.refl _,(g'.trans B).h,B.s,λp u hp hn _=>hn⟩
   ·intro w j R A U C M;show⟨j,w,(g'.trans B).join C,(T.trans B.f).trans C.f,M,U⟩
   ·intro sm w j R v A r C M;show k.rt sm w j R v A r ((g'.trans B).join C) M
   ·intro w j R A U C M;show k.nx w j R A U ((g'.trans B).join C) M
   ·intro w j R A U C M;show⟨j,w,(g'.trans B).join C,(T.trans B.f).trans C.f,M,U⟩
  ·have e:i=ds.length:=by omega
   subst e
   show .inl ⟨Sd.stop G (T.trans b_.fz),k.nx h c G σ' (Pa h hI) g' b_⟩⟩
end
noncomputable def aH:Y Sm->Y Addr->ak
 | [],_=>[]
 |.v d::as,ps=>Z (.v d)::aH as ps
 |.ob _ o::as,p::ps=>Z (.ob (Z p) o)::aH as ps
 |.ob _ _::as,[]=>ŗ::aH as []
noncomputable def gT(N:Y Str)(as:Y Sm)(ps:Y Addr):ak:=aH as ps++List.replicate (N.length-as.length) ŗ
noncomputable def aN:Y Str->Y Sm->Y Addr->ak
 | [],as,ps=>aH as ps
 |_::N,[],ps=>ŗ::aN N [] ps
 |_::N,.v d::as,ps=>Z (.v d)::aN N as ps
 |_::N,.ob _ o::as,p::ps=>Z (.ob (Z p) o)::aN N as ps
 |_::N,.ob _ _::as,[]=>ŗ::aN N as []
theorem ly:∀(N:Y Str)(as:Y Sm)(ps:Y Addr),gT N as ps=aN N as ps
 | [],as,ps=>by unfold gT;rw[K5,Nat.zero_sub,List.replicate_zero,J5];rfl
 |n::N,[],ps=>by
  have:=ly N [] ps;unfold gT at this ⊢;change List.replicate (N.length+1-0) ŗ=ŗ::aN N [] ps;rw[←this];rfl
 |n::N,.v d::as,ps=>by have:=ly N as ps;unfold gT at this ⊢;rw[JH,JH,MD];show Kf (Z (Sm.v d)::·) this
 |n::N,.ob a o::as,p::ps=>by have:=ly N as ps;unfold gT at this ⊢;rw[JH,JH,MD];show Kf (Z (Sm.ob (Z p) o)::·) this
 |n::N,.ob _ _::as,[]=>by have:=ly N as [];unfold gT at this ⊢;rw[JH,JH,MD];show Kf (ŗ::·) this
noncomputable def jg(k:Y Om->Prop):Y Sm->Y Addr->Nat->ak->Prop
 | [],_,_,_=>k []
 |.v _::as,ps,i,ρ=>jg k as ps (i+1) ρ
 |.ob _ _::as,p::ps,i,ρ=>∃o,ρ[i]?=Z (Z (.ob (Z p) o))/\jg (λos=>k (o::os)) as ps (i+1) ρ
 |.ob _ _::_,[],_,_=>False
noncomputable def nC:Y Sm->Nat
 | []=>0
 |.v _::as=>nC as
 |.ob _ _::as=>nC as+1
noncomputable def ge:Y Sm->Y V->Y Addr
 |.v _::as,_::vs=>ge as vs
 |.ob _ _::as,.ref p::vs=>p::ge as vs
 |_,_=>[]
section
variable{K:Â}{Φ H f l g:Hp}
def A2:∀{as:Y Sm}{vs:Y V}{c:Y (Y Addr)},ArgM K Φ H as vs c->(ge as vs).length=nC as:=by
 intro as vs c h
 induction h with
 |nil=>rfl
 |v _ _ a=>show a
 |o _ _ a=>show Kf (·+1) a
theorem mC:∀{as:Y Sm}{ps:Y Addr},(aH as ps).length=as.length
 | [],_=>rfl
 |.v d::as,ps=>by change (aH as ps).length+1=_;rw[mC];rfl
 |.ob _ o::as,p::ps=>by change (aH as ps).length+1=_;rw[mC];rfl
 |.ob _ _::as,[]=>by change (aH as []).length+1=_;rw[mC];rfl
def kz:∀{as:Y Sm}{vs:Y V}{a:Y (Y Addr)},ArgM K Φ H as vs a->∀{i:Nat}{x:Sm},(aH as (ge as vs))[i]?=Z (Z x)->
  (∃d v,x=.v d/\vs[i]?=Z v/\Rp K Φ d v)\/∃o p F,x=.ob (Z p) o/\vs[i]?=Z (.ref p)/\a[i]?=Z F/\OmS K Φ H o p F:=by
 intro as vs a h
 induction h with
 |nil=>intro i x h;simp[aH]at h
 | @v d _ _ _ _ r t c=>
  intro i x h
  cases i with
  |zero=>cases h;show .inl ⟨d,_,S,S,r⟩
  |succ i=>show c (i:=i) h
 | @o _ o p F _ _ _ r t c=>
  intro i x h
  cases i with
  |zero=>cases h;show .inr ⟨o,p,F,S,S,S,r⟩
  |succ i=>show c (i:=i) h
theorem vA:∀{a:Y (Y Addr)},a.flatten.Nodup->∀{i j:Nat}{F G:Y Addr},a[i]?=Z F->a[j]?=Z G->i≠j->∀b∈F,b∉G
 | [],_,i,j,F,G,h,_,_,_,_=>by simp at h
 |L::a,nd,i,j,F,G,hi,r,c,b,p=>by
  let⟨n1,n2,n3⟩:=KP.mp (show (L++a.flatten).Nodup from nd);intro o
  cases i with
  |zero=>
   cases hi
   cases j with
   |zero=>show c S
   |succ j=>show n3 b p b (Nk.mpr ⟨G,Jw (i:=j) (by simpa using r),o⟩) S
  |succ i=>
   cases j with
   |zero=>
    cases r;show n3 b o b (Nk.mpr ⟨F,Jw (i:=i) (by simpa using hi),p⟩) S
   |succ j=>show vA n2 (by simpa using hi) (by simpa using r) (λe=>c (by rw[e])) b p o
def xL{N:Y Str}{as:Y Sm}{vs:Y V}{u:Y (Y Addr)}(sm:Same Φ H)(tb:TabF K Φ)(w:ArgM K Φ H as vs u)(nd:u.flatten.Nodup)(L:∀b∈u.flatten,Φ b=ŗ):EnvM K (cm H u.flatten) Φ H (eP N vs) (gT N as (ge as vs)):=by
 have y:∀{i:Nat}{x:Sm},(gT N as (ge as vs))[i]?=Z (Z x)->(aH as (ge as vs))[i]?=Z (Z x):=λ{i x} h=>by
  unfold gT at h;rcases Kg i (aH as (ge as vs)).length with c|c
  ·rwa [Js c]at h
  ·rw[Jq c,KS]at h;split at h<;>cases h
 have I:∀{i:Nat}{v:V},vs[i]?=Z v->(eP N vs)[i]?=Z (Z v):=λ{i v} h=>by unfold eP;rw[Js (by rw[Jp];show aC h),JF,h];rfl
 let⟨M,Q⟩:=w.len;refine⟨λi=>u.getD i [],sm,by unfold eP gT;rw[Jr,Jr,Jp,J1,J1,mC,M],λi d h=>?_,λi a o h=>?_,λi a o h b B=>?_,λi j a a' o o' hi J c b B=>?_,tb⟩
 ·rcases kz w (y h)with⟨d',v,e,C,r⟩|⟨o,p,F,e,_⟩
  ·cases e;show⟨v,I C,r⟩
  ·cases e
 ·rcases kz w (y h)with⟨d',v,e,C,r⟩|⟨o',p,F,e,C,E,r⟩
  ·cases e
  ·cases e;refine⟨p,I C,(λq e=>by cases e;rfl),?_⟩;rwa[JD,E]
 ·rcases kz w (y h)with⟨d',v,e,_⟩|⟨o',p,F,e,C,E,r⟩
  ·cases e
  ·rw[JD,E]at B;have G:b∈u.flatten:=Nk.mpr ⟨F,Jw E,B⟩;show⟨sP G,L b G⟩
 ·rcases kz w (y hi)with⟨d',v,e,_⟩|⟨R,T,O,e,_,z,_⟩
  ·cases e
  ·rcases kz w (y J)with⟨d',v,e,_⟩|⟨a_,U,P,e,_,A,_⟩
   ·cases e
   ·rw[JD,z]at B;rw[JD,A];show vA nd z A c b B
def HM{x:Nat->Y Addr}{U:St}{ρ:ak}{k:Y Om->Prop}(E:EnvM' K g f l U ρ x):∀{as:Y Sm}{vs:Y V}{C:Y (Y Addr)}{i:Nat}{k:Y Om->Prop},ArgM K Φ H as vs C->jg k as (ge as vs) i ρ->
  ∃os w,OutM K f l as vs os w/\k os/\w.flatten.Nodup/\(∀b∈w.flatten,g b=ŗ/\f b=ŗ)/\∀b∈w.flatten,∃j a o,i<=j/\j<i+as.length/\ρ[j]?=Z (Z (.ob a o))/\b∈x j:=by
 intro as vs C i k h
 induction h generalizing i k with
 |nil=>show λh=>⟨[],[],.nil,h,by simp,λb u=>(by cases u),λb u=>(by cases u)⟩
 |v r t M=>
  intro h;let⟨os,w,G,I,J,L,A⟩:=M (k:=k) (i:=i+1) h;refine⟨os,[]::w,.v G,I,by simpa using J,λb u=>L b (by simpa using u),λb u=>?_⟩;let⟨j,a,o,N,O,y⟩:=A b (by simpa using u);show⟨j,a,o,(),by rw[JH];omega,y⟩
 | @o _ T p F as vs C r t M=>
  intro h;let⟨o',B,h⟩:=(show ∃o,ρ[i]?=Z (Z (.ob (Z p) o))/\jg (λos=>k (o::os)) as (ge as vs) (i+1) ρ from h);let⟨os,w,G,I,J,L,A⟩:=M (k:=λos=>k (o'::os)) (i:=i+1) h;let⟨q,e,P,rr⟩:=E.ow i _ o' B;cases P p S;refine⟨o'::os,x i::w,.o rr G,I,?_,λb u=>?_,λb u=>?_⟩
  ·refine KP.mpr ⟨rr.nodup,J,λb u c Q e=>?_⟩;subst e;let⟨j,a,o,N,O,y,R⟩:=A b Q;show E.dj i j _ a o' o B y () b u R
  ·rcases JT.mp (show b∈x i++w.flatten from u)with z|z
   ·show E.no i _ o' B b z
   ·show L b z
  ·rcases JT.mp (show b∈x i++w.flatten from u)with z|z
   ·show⟨i,_,o',Jx _,by rw[JH];omega,B,z⟩
   ·let⟨j,a,o,N,O,y⟩:=A b z;show⟨j,a,o,(),by rw[JH];omega,y⟩
end
section
variable{P:Å}{w:È}{K:Â}{mg:Str->Ř Value}{base:Heap}
def Fun.okM{x qual:Str}{st:Ç}{f:Addr}{be:Í}{N ps:Y Str}{k:Nat}{sp:eh}(F:Fun K x qual st f be)(b_:FnScope N ps (au st))(len:∀as R C,sp as R C->as.length=ps.length)
  (OQ:∀(L:Value)(A:Ê)(outer:Y ë)(s:À)(H:Hp)(E:XK)(as:Y Sm)(R:Sm->Y Om->Prop)(C:XD->Y Om->Prop)(a_:Y Addr),be.code=L->Room k (A.deeper (ê qual (au st) s.heap.objs.size f L))->sp as R C->a_.length=nC as->
   ∃t,PSsM K (iu aG P w K mg base N qual (au st) f L A outer s H E).nox (gv st) t/\let ke:EndsM:={ nx:=λρ=>jg (R (.v .non)) as a_ 0 ρ,rt:=λsm ρ=>jg (R sm) as a_ 0 ρ };t ke (aN N as a_)):FnOk P w K mg base aG (k+1) f be ps (lSpM K sp):=by
 refine F.okL b_ (λvs H Q E ⟨Φ,as,J,R,C,sm,tb,O,nd,hn,h,_⟩=>by rw[O.len.1];show len as R C h) (λL A outer s H vs Q E N4 hr ⟨Φ,as,J,R,C,sm,tb,O,nd,hn,h,kk⟩=>?_);let⟨t,ht,hq⟩:=OQ L A outer s H E as R C (ge as vs) N4 hr h (A2 O);dsimp only at hq;rw[←ly]at hq;have al:=len as R C h
 have nl:ps.length<=N.length:=by have:=Kf List.length b_.pre;rw[Ke]at this;omega
 have M:∀sm l p B v y,jg (R sm) as (ge as vs) 0 l->Gr Φ (cm H J.flatten) p B->EnvM K (cm H J.flatten) p B (y++[Z v]) (l++[Z sm])->Q v B:=λI l p B v y hk g V=>by
  let⟨fp,G⟩:=V
  have hl:y.length=l.length:=by have:=G.len;simpa using this
  let⟨os,OB,h1,h2,h3,h4,h5⟩:=HM (k:=R I) (G.take hl.symm) O hk
  have X:(l++[Z I])[l.length]?=Z (Z I):=by rw[Jq (Jx _),J6];rfl
  cases I with
  |v d=>
   let⟨u,U,r⟩:=G.sl _ d X;rw[←hl,Jq (Jx _),J6]at U;cases U;show kk (.v d) os p B v [] OB h2 g (.v r) h1 (by simpa using h3) (λb T=>h4 b (by simpa using T))
  |ob a o=>
   let⟨u,U,hau,r⟩:=G.ow _ a o X;rw[←hl,Jq (Jx _),J6]at U;cases U;refine kk (.ob a o) os p B _ (fp l.length) OB h2 g (.o hau r) h1 ?_ λb T=>?_
   ·refine KP.mpr ⟨r.nodup,h3,λb T c hc e=>?_⟩;subst e;let⟨j,a2,o2,_,_,j3,j4⟩:=h5 b hc;have hj:=aC j3;show G.dj _ j a a2 o o2 X (by rwa[Js hj]) () b T j4
   ·rcases JT.mp T with z|z
    ·show G.no _ a o X b z
    ·show h4 b z
 have g0:Gr Φ (cm H J.flatten) Φ H:=⟨Same.refl _,D8,sm,λ_ _ _ h _=>h⟩;refine⟨lM K _ t,ht.ps S,Φ,cm H J.flatten,Φ,_,_,g0,xL sm tb O nd hn,hq,⟨λl p B y r g V=>?_,λI l p B v y r g V=>M I l p B v y r g V,λ_ _ _ _ h=>h.elim,λ_ _ _ _ h=>h.elim,λ_ _ _ _ _ _ _ _ h=>h.elim⟩⟩;show M (.v .non) l p B .non y r g (V.snocV .non)
def Fun.clM{x:Str}{st:Ç}{f:Addr}{a:Í}{ps:Y Str}{n:Nat}{z:eh}(F:Fun K x x st f a)(m:mg x=Z (.ref f))(H:FnOk P w K mg base aG n f a ps (lSpM K z))
  (b:qT st x x ps:=by intro _ _ _ _ _ _;first|show pO λ_=>rfl|show qc λ_ _=>rfl|show pZ λ_ _ _=>rfl|show qY λ_ _ _ _=>rfl|show us_0 S|show us_5 λ_ _ _ _ _=>rfl|show us_6 λ_ _ _ _ _ _=>rfl|show us_7 λ_ _ _ _ _ _ _=>rfl|show us_8 λ_ _ _ _ _ _ _ _=>rfl):ClM P w K mg base n x ps z:=⟨f,a,H,F.binds b,F.kp,m⟩
def ClM.mono{n m:Nat}{x:Str}{ps:Y Str}{z:eh}(C:ClM P w K mg base n x ps z)(k:n<=m:=by decide):ClM P w K mg base m x ps z:=by let⟨f,a,F,r⟩:=C.ex;show⟨f,a,F.mono k,r⟩
end
section
variable{K:Â}{X:Cx}{e a b:Ã}{A G:TX}{B l C y I:Ö}{x:Str}{i:Nat}
noncomputable def ownL(ρ:ak)(i:Nat)(k:Ř Addr->Y D->Prop):Prop:=match ρ[i]? with|some (Z (.ob a (.lst ds)))=>k a ds|_=>False
def ownL.get{ρ:ak}{i:Nat}{k:Ř Addr->Y D->Prop}(h:ownL ρ i k):∃a ds,ρ[i]?=Z (Z (.ob a (.lst ds)))/\k a ds:=by
 unfold ownL at h;split at h
 ·next a ds e=>show⟨a,ds,e,h⟩
 ·show h.elim
def StM.list{c h Φ H:Hp}{g v:St}{ρ u:ak}{o:XD->ak->Prop}{a:Ř Addr}{ds:Y D}(Q:StM K X c h Φ H g v ρ u o)(hi:ρ[i]?=Z (Z (.ob a (.lst ds)))):∃q vs,g[i]?=Z (Z (.ref q))/\H q=Z (.lst vs)/\RpL K Φ ds vs /\
  ∀(es:Y D)(f:Y V),RpL K Φ es f->StM K X c h Φ (ap H q (.lst f)) g v (ρ.set i (Z (.ob a (.lst es)))) u o:=by
 have j:=aC hi;let⟨q,vs,e,w,J,L,z,E⟩:=Q.E.list (i:=i) (a:=a) (ds:=ds) Q.g (by rwa[Js j]);rw[Js (by rwa[←Q.l])]at e;refine⟨q,vs,e,w,z,λes f r=>?_⟩;let⟨p,F⟩:=E es f r;refine⟨F,by rw[Ju];show Q.l,?_,Q.x⟩;rw[Lj _ _ j]at p;show p
noncomputable def yR(i:Nat)(A:TX):bA:=λf ρ=>ownL ρ i λ_ _=>A ρ (xV λd c=>ownL c i λa ds=>ds.length<sizeLine/\NF (ds++[d]) λes=>f.nx (c.set i (Z (.ob a (.lst es))))) f.ex
def fU(i:Nat)(a_:PX K X e A)(M:((backTo C (starEach [e] X.env)).all (λx=>!x.1)&&(Þ C (Ô [] X.env)).all (λx=>x.1.isSome)&&decide (([e]:Y Ã).length+([]:Y Ù).length+(if ([]:Y Ù).isEmpty then 0 else 1)<30))=ř)
  (h:starEach [e] X.env=(Ś,eval e X.env)::starEach [] X.env) (U:X.N[i]?=Z x:=by rfl) (hv:cL X.env.scope x:=by nofun) (hd:ab x:=by decide) (J:fI x:=by decide)
  (O:Ë (.Name x y) "append" X.env (eval (.Name x y) X.env)=eval (.Name x y) X.env:=by rfl) (P:(l.endLine==C.line)=ř:=by rfl) (hs:Î (.Call (.Attribute (.Name x y) "append" l) [e] [] C) ŗ B.line X.env=pure Ś:=by rfl) :
  PSM K X (.Expr (.Call (.Attribute (.Name x y) "append" l) [e] [] C) B) (yR i A):=
 ⟨λT=>(jL (jA La Mh Mi nF (pv i U hv hd J) (eU (a_.pe T) pa_nil h) O M P h ae) hs).imp λE σ H L=>by
  let⟨c,F,Φ,ρ,z,g,V,t,k⟩:=L;let⟨a,ds,be,t⟩:=ownL.get t;have b_:=du g V k.ex;let⟨q,vs,u,hp,rl,_⟩:=b_.list be;refine⟨_,u,.inl ⟨S,vs,SqL.of hp⟩,c,F,Φ,[],ρ,[],_,z.ex,b_,t,λs ρ1 f H1 v r j _=>?_⟩;let⟨d,rfl,r⟩:=r.get;let⟨a1,Uw,Q,hl,r⟩:=ownL.get r;let⟨q1,R,w,N,p,k1⟩:=j.list Q;rw[u]at w;cases w;have o:=k1 _ _ (p.append (.one j.last))
  show⟨q,R,v,S,S,N,by rwa[p.1],k.nx _ f _ σ r.get o.g o.env⟩⟩
def RpL.eraseIdx{Φ:Hp}{ds:Y D}{vs:Y V}(h:RpL K Φ ds vs)(j:Nat):RpL K Φ (ds.eraseIdx j) (vs.eraseIdx j):=by rw[MH,MH];show (h.take j).append (h.drop (j+1))
def CL{j n:Nat}(h:j<n):ă (j:Int) n=Z j:=by unfold ă;simp;omega
noncomputable def HK(i:Nat)(A G:TX):bA:=λg ρ=>A ρ (xV λd c=>ownL c i λ_ _=>G c (xV λh f=>match h with|.int n=>ownL f i λa ds=>∃j,fv ds.length n=Z j/\NF (ds.set j d) λes=>g.nx (f.set i (Z (.ob a (.lst es))))|_=>False) g.ex) g.ex
def j8(i:Nat)(he:PX K X e A)(hk:PX K X b G)(hN:X.N[i]?=Z x:=by rfl)(hv:cL X.env.scope x:=by nofun)(hd:ab x:=by decide)(Q:fI x:=by decide)
  (ha:∀v,assign (.Subscript (.Name x y) b I) X.env v=(do
   let ov ←holding [v] (eval (.Name x y) X.env)
   let iv ←holding [v,ov] (eval b X.env)
   standAt I
   holding [v,ov,iv] (setItem ov iv v)
   release [v,ov,iv] []):=by intro _;rfl)
  (hs:è [.Subscript (.Name x y) b I] e B.line X.env=pure Ś:=by rfl) (hw:é [.Subscript (.Name x y) b I] e X.env=pure ŗ:=by rfl)
  (be:(Æ [.Subscript (.Name x y) b I] X.env).map (·.2)=[assign (.Subscript (.Name x y) b I) X.env]:=by rfl) :
  PSM K X (.Assign [.Subscript (.Name x y) b I] e B) (HK i A G):=
 ⟨λP=>(nB (he.pe P) (wc (pv i hN hv hd Q) (hk.pe P) qR ha) hs hw be).imp λE σ H R=>by
  let⟨f,z,Φ,ρ,u,g,V,t,k⟩:=R;refine⟨f,z,Φ,[],ρ,[],_,u.ex,du g V k.ex,t,λs p h H1 v r F _=>?_⟩;let⟨d,rfl,r⟩:=r.get;let⟨a1,Uw,U,r⟩:=ownL.get r;let⟨q,vs,N,_⟩:=F.list U;refine⟨_,N,f,z,h,_,p,_,_,u.ex,F,r,λs2 ρ2 o H2 w c J _=>?_⟩;let⟨kk,rfl,c⟩:=c.get;let⟨rd,rk⟩:=J.last2;let⟨n,rfl,c⟩:=jf c;obtain rfl:=rk.i;let⟨a2,Ux,b_,j,hj,c⟩:=ownL.get c;let⟨q2,a_,O,T,M,k2⟩:=J.list b_;rw[N]at O;cases O;have L:=k2 _ _ (M.set rd j)
  show⟨q,a_,n,j,S,S,T,by rwa[M.1],k.nx _ o _ σ c.get L.g L.env⟩⟩
noncomputable def EZ(i:Nat)(f:Int->Int->Int)(G A:TX):bA:=λh ρ=>(ownL ρ i λ_ _=>True)/\G ρ (xV λp c=>match p with|.int n=>ownL c i λa ds=>∃(j:Nat)(v:Int),n=(j:Int)/\ds[j]?=Z (.int v)/\A c (xV λd g=>match d with|.int m=>ownL g i λa2 o=>j<o.length/\NF (o.set j (.int (f v m))) λes=>h.nx (g.set i (Z (.ob a2 (.lst es))))|_=>False) h.ex|_=>False) h.ex
def Fo{op:ÿ}{f:Int->Int->Int}(i:Nat)(N:pS X op (tU f))(hk:PX K X b G)(he:PX K X e A)(hN:X.N[i]?=Z x:=by rfl)(hv:cL X.env.scope x:=by nofun)(hd:ab x:=by decide)(N4:fI x:=by decide)
  (ha:∀r p new,augStore b r p new=(do holding [new,r,p] (setItem r p new);release [new,r,p] [];pure .next):=by intros;rfl) :
  PSM K X (.AugAssign (.Subscript (.Name x y) b I) op e B) (EZ i f G A):=
 ⟨λL=>(Gh (pv i hN hv hd N4) (hk.pe L) (Dg L) (he.pe L) N qR ha).imp λE σ H NT=>by
  let⟨o,T,Φ,ρ,R,g,V,⟨M,t⟩,k⟩:=NT;let⟨a,ds,M,_⟩:=ownL.get M;have b_:=du g V k.ex;let⟨q,vs,J,hp,rl,_⟩:=b_.list M;refine⟨_,J,o,T,Φ,[],ρ,[],_,R.ex,b_,t,λs1 Q O H1 w c F _=>?_⟩;let⟨kk,rfl,c⟩:=c.get;have rk:=F.last;let⟨n,rfl,c⟩:=jf c;obtain rfl:=rk.i;let⟨a1,Uw,QR,j,v,rfl,hj,c⟩:=ownL.get c;let⟨q1,Ti,e2,OZ,Sh,_⟩:=F.list QR;rw[J]at e2;cases e2;let⟨u,hu,ru⟩:=Sh.at hj;obtain rfl:=ru.i;refine⟨q,Ti,_,j,_,S,S,.of OZ,S,hu,o,T,O,_,Q,_,_,R.ex,F,c,λs2 ρ2 P H2 z h U _=>?_⟩;let⟨d,rfl,h⟩:=h.get;have rd:=U.last;let⟨m,rfl,h⟩:=jf h;obtain rfl:=rd.i;let⟨a2,Ux,O7,hjl,h⟩:=ownL.get h;let⟨q2,Vy,e3,OY,be,k2⟩:=U.list O7;rw[J]at e3;cases e3;have a_:=k2 _ _ (be.set (.int (f v m)) j)
  show⟨v,m,S,S,q,Vy,_,j,S,S,OY,eS (by rwa[be.1]),k.nx _ P _ σ h.get a_.g a_.env⟩⟩
noncomputable def zL(i:Nat)(A:TX):bA:=λf ρ=>ownL ρ i λ_ _=>A ρ (λs c=>match s with|.ob _ (.lst zs)=>ownL c i λa ds=>ds.length+zs.length<=sizeLine/\NF (ds++zs) λes=>f.nx (c.set i (Z (.ob a (.lst es))))|.v (.lst zs)=>ownL c i λa ds=>ds.length+zs.length<=sizeLine/\NF (ds++zs) λes=>f.nx (c.set i (Z (.ob a (.lst es))))|_=>False) f.ex
def Hu(i:Nat)(he:PX K X e A)(OU:((backTo C (starEach [e] X.env)).all (λx=>!x.1)&&(Þ C (Ô [] X.env)).all (λx=>x.1.isSome)&&decide (([e]:Y Ã).length+([]:Y Ù).length+(if ([]:Y Ù).isEmpty then 0 else 1)<30))=ř)
  (O:starEach [e] X.env=(Ś,eval e X.env)::starEach [] X.env) (hN:X.N[i]?=Z x:=by rfl) (hv:cL X.env.scope x:=by nofun) (hd:ab x:=by decide) (N4:fI x:=by decide)
  (Oq:Ë (.Name x y) "extend" X.env (eval (.Name x y) X.env)=eval (.Name x y) X.env:=by rfl) (Ot:(l.endLine==C.line)=ř:=by rfl) (hs:Î (.Call (.Attribute (.Name x y) "extend" l) [e] [] C) ŗ B.line X.env=pure Ś:=by rfl) :
  PSM K X (.Expr (.Call (.Attribute (.Name x y) "extend" l) [e] [] C) B) (zL i A):=
 ⟨λhK=>(jL (jA La PySem.F.slot_list_extend PySem.F.type_list_extend Az (pv i hN hv hd N4) (eU (he.pe hK) pa_nil O) Oq OU Ot O ae) hs).imp λE be H NT=>by
  let⟨L,H0,Φ,ρ,M,g,V,t,k⟩:=NT;let⟨a,ds,ho,t⟩:=ownL.get t;have b_:=du g V k.ex;let⟨q,vs,T,hp,rl,_⟩:=b_.list ho;refine⟨_,T,.inl ⟨S,vs,SqL.of hp⟩,L,H0,Φ,[],ρ,[],_,M.ex,b_,t,λs f w N v r h _=>?_⟩
  have j:∀{c:Y D}{u:Y L2.V}{p:Addr},v=.ref p->N p=Z (.lst u)->RpL K w c u->(ownL f i λa ds=>ds.length+c.length<=sizeLine/\NF (ds++c) λes=>M.nx (f.set i (Z (.ob a (.lst es)))))->uW (.ref q) [v] N λx H'=>E.nx be H':=λ{c u p} ev J a_ r=>by
   let⟨a1,Uw,QR,hl,r⟩:=ownL.get r;let⟨q1,Ti,U,OZ,Q,k1⟩:=h.list QR;rw[T]at U;cases U;have P:=k1 _ _ (Q.append a_);show⟨q,p,Ti,u,S,by rw[ev],OZ,J,by rwa[Q.1,a_.1],k.nx _ w _ be r.get P.g P.env⟩
  cases s with
  |v d=>
   have rd:=h.last
   cases d with
   |lst c=>cases rd with|lst z F h3=>show j S (h.g.s _ _ z) ⟨F,h3⟩ r
   |_=>show r.elim
  |ob a0 o=>
   cases o with
   |lst c=>
    let⟨fp,E1⟩:=h.E;let⟨p,R,_,rr⟩:=E1.ow f.length a0 (.lst c) (by rw[Jq (Jx _),J6];rfl);rw[h.l,Jq (Jx _),J6]at R;cases R;let⟨_,u,z,F⟩:=rr.lst_inv;show j S z F r
   |_=>show r.elim⟩
noncomputable def aW:Ř Sm->Ř Sm
 |some (.ob ŗ (.lst ds))=>Z (.v (.lst ds))
 |some (.ob ŗ (.map c))=>Z (.v (.map c))
 |x=>x
noncomputable def aO:Nat->ak->ak
 |_,[]=>[]
 |0,x::ρ=>aW x::ρ
 |i+1,x::ρ=>x::aO i ρ
theorem uh:∀(i:Nat)(ρ:ak),aO i ρ=(match ρ[i]? with
  |some (Z (.ob ŗ (.lst ds)))=>ρ.set i (Z (.v (.lst ds)))
  |some (Z (.ob ŗ (.map c)))=>ρ.set i (Z (.v (.map c)))
  |_=>ρ)
 |0,[]=>rfl
 |_+1,[]=>rfl
 |0,Z (.ob ŗ (.lst _))::_=>rfl
 |0,Z (.ob ŗ (.map _))::_=>rfl
 |0,Z (.ob ŗ (.mpT _))::_=>rfl
 |0,Z (.ob ŗ (.obj _ _))::_=>rfl
 |0,Z (.ob ŗ .ptr)::_=>rfl
 |0,Z (.ob ŗ (.tl _))::_=>rfl
 |0,Z (.ob ŗ (.pr _ _))::_=>rfl
 |0,Z (.ob (Z _) _)::_=>rfl
 |0,Z (.v _)::_=>rfl
 |0,ŗ::_=>rfl
 |i+1,x::ρ=>by
  change x::aO i ρ=_;rw[uh i ρ,Nt]
  match ρ[i]? with
  |some (Z (.ob ŗ (.lst _)))=>rfl
  |some (Z (.ob ŗ (.map _)))=>rfl
  |some (Z (.ob ŗ (.mpT _)))=>rfl
  |some (Z (.ob ŗ (.obj _ _)))=>rfl
  |some (Z (.ob ŗ .ptr))=>rfl
  |some (Z (.ob ŗ (.tl _)))=>rfl
  |some (Z (.ob ŗ (.pr _ _)))=>rfl
  |some (Z (.ob (Z _) _))=>rfl
  |some (Z (.v _))=>rfl
  |some ŗ=>rfl
  |none=>rfl
def Rp.map_of{Φ:Hp}{g:Y (az×D)}{j:Y (az×V)}{p:Addr}(h:Φ p=Z (.dK j))(r:Paired (gu K Φ) g j):Rp K Φ (.map g) (.ref p):=by
 refine .map h ?_ ?_
 ·clear h
  induction r with
  |nil=>rfl
  |cons q _ f=>rw[JV,JV,f,q.1]
 ·clear h
  induction r with
  |nil=>intro i w d c;simp at c
  |cons q _ f=>
   intro i w d c hd
   cases i with
   |zero=>cases c;cases hd;show q.2
   |succ i=>show f i w d c hd
def EnvM.frz1f{N O Φ H:Hp}{U:St}{ρ:ak}{o:Om}{P:D}(E:EnvM K O Φ H U ρ)(g:Gr N O Φ H){i:Nat}(R:ρ[i]?=Z (Z (.ob ŗ o)))
  (hr:∀p F,OmS K Φ H o p F->∃u,H p=Z u/\∀f,Same Φ f->f p=Z u->Rp K f P (.ref p)) (hs:o.solid=ř:=by rfl):∃f,Gr N O f H/\EnvM K O f H U (ρ.set i (Z (.v P)))/\Same Φ f:=by
 let⟨be,E⟩:=E;let⟨p,e,_,r⟩:=E.ow i ŗ _ R;have hp:=r.mem hs;have no:=E.no i ŗ _ R p hp;let⟨u,b_,h2⟩:=hr p _ r;have M:=c8 no.2 u
 have w:∀{j:Nat}{x:Sm},(ρ.set i (Z (Sm.v P)))[j]?=Z (Z x)->(j=i/\x=.v P)\/(j≠i/\ρ[j]?=Z (Z x)):=λ{j x} h=>by
  rcases cN h with⟨e,_,a_⟩|⟨e,h⟩
  ·cases a_;show .inl ⟨e,S⟩
  ·show .inr ⟨e,h⟩
 refine⟨ap Φ p u,g.freeze no.1 no.2 b_,⟨be,λb u' Q=>?_,by rw[Ju,E.len],λj d h=>?_,λj a o h=>?_,λj a o h b T=>?_,λj k a a' o o' J L c=>?_,E.tb.same M⟩,M⟩
 ·by_cases c:b=p
  ·subst c;rw[bo]at Q;cases Q;show b_
  ·rw[aY c]at Q;show E.fz b u' Q
 ·rcases w h with⟨c,h⟩|⟨_,h⟩
  ·cases h;subst c;show⟨_,e,h2 _ M bo⟩
  ·let⟨v,hv,rv⟩:=E.sl j d h;show⟨v,hv,rv.same M⟩
 ·rcases w h with⟨_,h⟩|⟨_,h⟩
  ·cases h
  ·let⟨q,hq,ha,rq⟩:=E.ow j a o h;show⟨q,hq,ha,rq.keep M λ_ _ _ h=>h⟩
 ·rcases w h with⟨_,h⟩|⟨c,h⟩
  ·cases h
  ·have:b≠p:=λz=>E.dj j i a ŗ o _ h R c b T (by rwa[z]);rw[aY this];show E.no j a o h b T
 ·rcases w J with⟨_,J⟩|⟨_,J⟩
  ·cases J
  rcases w L with⟨_,L⟩|⟨_,L⟩
  ·cases L
  show E.dj j k a a' o o' J L c
def EnvM.frz1{f h Φ H:Hp}{r:St}{ρ:ak}{o:Om}{j:D}(E:EnvM K h Φ H r ρ)(g:Gr f h Φ H){i:Nat}(v:ρ[i]?=Z (Z (.ob ŗ o)))
  (w:∀p F,OmS K Φ H o p F->∃u,H p=Z u/\∀c,Same Φ c->c p=Z u->Rp K c j (.ref p)) (z:o.solid=ř:=by rfl):∃c,Gr f h c H/\EnvM K h c H r (ρ.set i (Z (.v j))):=
 let ⟨c,g',E',_⟩:=E.frz1f g v w z
 ⟨c,g',E'⟩
def EnvM.frz{f j Φ H:Hp}{v:St}{ρ:ak}(E:EnvM K j Φ H v ρ)(g:Gr f j Φ H)(i:Nat):∃c,Gr f j c H/\EnvM K j c H v (aO i ρ):=by
 rw[uh];split
 ·next ds ho=>
  refine E.frz1 g ho λp F r=>?_;let⟨_,vs,o,u⟩:=r.lst_inv;show⟨_,o,λc s h=>(u.same s).lst h⟩
 ·next NV ho=>
  refine E.frz1 g ho λp F r=>?_;let⟨_,w,o,u⟩:=r.map_inv;show⟨_,o,λc s h=>Rp.map_of h (oh (λ_ _ r=>⟨r.1,r.2.same s⟩) u)⟩
 ·show⟨Φ,g,E⟩
def GZ(i:Nat)(t:bA):bA:=λc ρ=>t c (aO i ρ)
def iR{c:Y Ç}{t:bA}(i:Nat)(h:PSsM K X c t):PSsM K X c (GZ i t):=⟨λv=>(h.ps v).imp λE w H r=>by
 let⟨j,p,Φ,ρ,o,g,V,t,k⟩:=r;let⟨f,g',u⟩:=V.frz g i
 show⟨j,p,f,aO i ρ,o,g',u,t,k⟩⟩
end
noncomputable def zM(z:ca):eh:=λas R _=>∃ds,as=ds.map Sm.v/\z ds λd=>R (.v d) []
def CD{H:Hp}:cm H []=H:=funext λb=>Jv (by simp)
theorem wN{K:Â}{Φ H:Hp}:∀{ds:Y D}{vs:Y V},RpL K Φ ds vs->ArgM K Φ H (ds.map Sm.v) vs (ds.map λ_=>[])
 | [],[],_=>.nil
 | [],_::_,h=>by cases h.1
 |_::_,[],h=>by cases h.1
 |d::ds,v::vs,h=>.v (h.2 0 v d S S) (wN ⟨by have:=h.1;simpa using this,λi u e c a=>h.2 (i+1) u e c a⟩)
def pK{a:Type}:∀(ds:Y a),(ds.map λ_=>([]:Y Addr)).flatten=[]
 | []=>rfl
 |_::ds=>by simp
def jN{K:Â}{z:ca}:∀vs H Q E,lSp K z vs H Q E->lSpM K (zM z) vs H Q E:=λvs H Q E h=>by
 let⟨Φ,ds,R,sm,tb,rl,x,k⟩:=h;refine⟨Φ,ds.map Sm.v,ds.map λ_=>[],λs os=>∃d,s=.v d/\R d,λ_ _=>False,sm,tb,wN rl,by rw[pK];show List.nodup_nil,λb c=>(by rw[pK]at c;cases c),⟨ds,S,?_⟩,λs os a f v F p r g j w u o=>?_⟩
 ·have e:R=λd=>∃d',(Sm.v d:Sm)=.v d'/\R d':=funext λd=>propext ⟨λh=>⟨d,S,h⟩,λ⟨d',e,h⟩=>by cases e;show h⟩;rwa[←e]
 ·let⟨d,rfl,r⟩:=r
  cases j with
  |v l=>
   rw[pK,CD]at g;show k d a f v r g l
noncomputable def pinned:Ř Sm->Ř Sm
 |some (.v d)=>Z (.v d)
 |some (.ob (Z p) o)=>Z (.ob (Z p) o)
 |_=>ŗ
noncomputable def jK(cap:Y (Ř Nat))(ρ:ak):ak:=cap.map λo=>o.bind λi=>pinned (ρ[i]?).join
noncomputable def iJ:Y (Ř Nat)->ak->ak->(ak->Prop)->Prop
 | [],_,ρ,k=>k ρ
 |none::cap,_::ρc,ρ,k=>iJ cap ρc ρ k
 |some i::cap,x::ρc,ρ,k=>match ρ[i]? with
  |some (Z (.ob (Z p) _))=>∃o,x=Z (.ob (Z p) o)/\iJ cap ρc (setA ρ i o) k
  |_=>iJ cap ρc ρ k
 |_::_,[],_,_=>False
noncomputable def gK(cap:Y (Ř Nat)):Y Nat:=cap.filterMap id
def rg{cap:Y (Ř Nat)}{j i:Nat}(h:cap[j]?=Z (Z i)):i∈gK cap:=LM.mpr ⟨Z i,Jw h,S⟩
theorem oW:∀{cap:Y (Ř Nat)}{ρc ρ:ak}{k:ak->Prop},(gK cap).Nodup->iJ cap ρc ρ k->∃g,k g/\g.length=ρ.length/\(∀(i:Nat)(x:Sm),g[i]?=Z (Z x)->(∃(j:Nat)(p:Addr)(a o:Om),cap[j]?=Z (Z i)/\ρ[i]?=Z (Z (.ob (Z p) a))/\ρc[j]?=Z (Z (.ob (Z p) o))/\x=.ob (Z p) o)\/(ρ[i]?=Z (Z x)/\∀(j:Nat)(p:Addr)(a:Om),cap[j]?=Z (Z i)->ρ[i]?≠Z (Z (.ob (Z p) a)))) /\
  ∀(j i:Nat)(p:Addr)(a:Om),cap[j]?=Z (Z i)->ρ[i]?=Z (Z (.ob (Z p) a))->∃o:Om,ρc[j]?=Z (Z (.ob (Z p) o))
 | [],ρc,ρ,k,_,h=>⟨ρ,h,S,λi x L=>.inr ⟨L,λj p a f=>(by simp at f)⟩,λj i p a f=>(by simp at f)⟩
 |none::cap,x::ρc,ρ,k,nd,h=>by
  let⟨g,w,z,A,B⟩:=oW (cap:=cap) (ρc:=ρc) (ρ:=ρ) (k:=k) nd h;refine⟨g,w,z,λi y C=>?_,λj i p a f hi=>?_⟩
  ·rcases A i y C with⟨j,p,a,o,l,r,G,H⟩|⟨l,r⟩
   ·show .inl ⟨j+1,p,a,o,l,r,G,H⟩
   ·refine .inr ⟨l,λj p a f=>?_⟩
    cases j with
    |zero=>cases f
    |succ j=>show r j p a f
  ·cases j with
   |zero=>cases f
   |succ j=>show B j i p a f hi
 |some v::cap,x::ρc,ρ,k,nd,h=>by
  let⟨K,I⟩:=JZ.mp (show (v::gK cap).Nodup from nd);have h':(match ρ[v]? with|some (Z (.ob (Z p) _))=>∃o,x=Z (.ob (Z p) o)/\iJ cap ρc (setA ρ v o) k|_=>iJ cap ρc ρ k):=h;by_cases u:∃p a,ρ[v]?=Z (Z (.ob (Z p) a))
  ·let⟨p,a,u⟩:=u;rw[u]at h';let⟨o,rfl,h'⟩:=h';let⟨g,w,z,A,B⟩:=oW I h';have ne:∀{j i:Nat},cap[j]?=Z (Z i)->i≠v:=λf e=>K (e▸rg f);refine⟨g,w,by rw[z,xz],λi y C=>?_,λj i F E f hi=>?_⟩
   ·rcases A i y C with⟨j,F,E,o',l,r,G,H⟩|⟨l,r⟩
    ·rw[kN (ne l)]at r;show .inl ⟨j+1,F,E,o',l,r,G,H⟩
    ·by_cases c:i=v
     ·subst c;rw[jD]at l;rw[u]at l;simp only at l;rw[JS (aC u)]at l;cases l;show .inl ⟨0,p,a,o,S,u,S,S⟩
     ·rw[kN c]at l r;refine .inr ⟨l,λj F E f=>?_⟩
      cases j with
      |zero=>cases f;show absurd S c
      |succ j=>show r j F E f
   ·cases j with
    |zero=>cases f;rw[u]at hi;cases hi;show⟨o,S⟩
    |succ j=>show B j i F E f (by rwa[kN (ne f)])
  ·have J:iJ cap ρc ρ k:=by
    split at h'
    ·next p a e=>show absurd ⟨p,a,e⟩ u
    ·show h'
   let⟨g,w,z,A,B⟩:=oW I J;refine⟨g,w,z,λi y C=>?_,λj i p a f hi=>?_⟩
   ·rcases A i y C with⟨j,p,a,o,l,r,G,H⟩|⟨l,r⟩
    ·show .inl ⟨j+1,p,a,o,l,r,G,H⟩
    ·refine .inr ⟨l,λj p a f=>?_⟩
     cases j with
     |zero=>cases f;show λe=>u ⟨p,a,e⟩
     |succ j=>show r j p a f
   ·cases j with
    |zero=>cases f;show absurd ⟨p,a,hi⟩ u
    |succ j=>show B j i p a f hi
 |none::_,[],_,_,_,h=>h.elim
 |some _::_,[],_,_,_,h=>h.elim
section
variable{K:Â}{X:Cx}{z H B Φ A:Hp}{c:St}{ρ:ak}{cap:Y (Ř Nat)}
def xj{i:Nat}{x:Sm}(h:(jK cap ρ)[i]?=Z (Z x)):∃j,cap[i]?=Z (Z j)/\ρ[j]?=Z (Z x)/\pinned (Z x)=Z x:=by
 unfold jK at h;rw[JF]at h
 cases e:cap[i]? with
 |none=>rw[e]at h;cases h
 |some o=>
  rw[e]at h
  cases o with
  |none=>cases h
  |some j=>
   have h':pinned (ρ[j]?).join=Z x:=JY h
   cases f:(ρ[j]?).join with
   |none=>rw[f]at h';cases h'
   |some y=>
    rw[f]at h'
    cases y with
    |v d=>cases h';show⟨j,S,qw f,S⟩
    |ob a o=>
     cases a with
     |none=>cases h'
     |some p=>cases h';show⟨j,S,qw f,S⟩
def xi{i j:Nat}{v:V}(a:cap[i]?=Z (Z j))(e:c[j]?=Z (Z v)):(eB cap c)[i]?=Z (Z v):=by unfold eB;rw[JF,a];simp[e]
def EnvM.side{p:Addr}{u u':HO}(E:EnvM K z Φ H c ρ)(j:z p=Z u)(l:Φ p=ŗ):EnvM K (ap z p u') Φ (ap H p u') c ρ:=by
 let⟨g,E⟩:=E
 have ne:∀{i:Nat}{a:Ř Addr}{o:Om},ρ[i]?=Z (Z (.ob a o))->∀b∈g i,b≠p:=λh b f e=>by have:=(E.no _ _ _ h b f).1;rw[e,j]at this;cases this
 show⟨g,λb w e=>by rw[aY (cY e l)];show E.fz b w e,E.len,E.sl,λi a o h=>let ⟨q,e,ha,r⟩:=E.ow i a o h;⟨q,e,ha,r.keep (Same.refl _) λb f w v=>by rwa[aY (ne h b f)]⟩,
  λi a o h b f=>by rw[aY (ne h b f)];show E.no i a o h b f,E.dj,E.tb⟩
structure StN(K:Â)(Φ0 z Φ H:Hp)(c τ:St)(ρ κ:ak):Prop where
 g:Gr Φ0 z Φ H
 l:ρ.length=c.length
 E:EnvM K z Φ H (c++τ) (ρ++κ)
def nox:XD->ak->Prop:=λ_ _=>False
def StM.n{a z:Hp}{f:St}{e:ak}{g:XD->ak->Prop}(Q:StM K X a z Φ H c f ρ e g):StN K a z Φ H c f ρ e:=⟨Q.g,Q.l,Q.E⟩
def StN.m{a z:Hp}{f:St}{e:ak}(Q:StN K a z Φ H c f ρ e):StM K X a z Φ H c f ρ e nox:=⟨Q.g,Q.l,Q.E,λ_ _ _ _ _ _ _ _ h=>h.elim⟩
inductive lNm(K:Â)(t:TX)(c:St)(H:Hp)(Q:VK):Prop|mk (Φ0:Hp) (z:Hp) (Φ:Hp) (τ:St) (ρ:ak) (κ:ak) (R:Sm->ak->Prop) (_:StN K Φ0 z Φ H c τ ρ κ) (_:t ρ R nox) (_:∀sm ρ' A B v,R sm ρ'->StN K Φ0 z A B c (τ++[Z v]) ρ' (κ++[Z sm])->Same Φ A->Q v B)
inductive lNb(K:Â)(t:cT)(c:St)(H:Hp)(Q:Bool->Hp->Prop):Prop|mk (Φ0:Hp) (z:Hp) (Φ:Hp) (τ:St) (ρ:ak) (κ:ak) (R:Bool->ak->Prop) (_:StN K Φ0 z Φ H c τ ρ κ) (_:t ρ R nox) (_:∀b ρ' A B,R b ρ'->StN K Φ0 z A B c τ ρ' κ->Same Φ A->Q b B)
def lNm.m{t:TX}{Q:VK}(h:lNm K t c H Q):lXm K X t c H Q:=by let⟨a,z,Φ,l,ρ,j,R,U,t,k⟩:=h;show⟨a,z,Φ,l,ρ,j,R,nox,U.m,t,λsm e A B v r g f=>k sm e A B v r g.n f⟩
def lNb.m{t:cT}{Q:Bool->Hp->Prop}(h:lNb K t c H Q):lXb K X t c H Q:=by let⟨a,z,Φ,l,ρ,j,R,U,t,k⟩:=h;show⟨a,z,Φ,l,ρ,j,R,nox,U.m,t,λb e A B r g f=>k b e A B r g.n f⟩
noncomputable def xu(p:iL)(cap:Y (Ř Nat))(j:fR)(l:cT)(o:TX):TX:=λρ R h=>p ρ (λds e=>ds.length<sizeLine/\∃I:Nat->Y D->ak->Prop,I 0 [] (jK cap e) /\
 (∀i d ys ρc,ds[i]?=Z d->I i ys ρc->j d ρc λf=>l f (λb a=>(b=ř->o a (xV λy g=>I (i+1) (ys++[y]) g) nox)/\(b=Ś->I (i+1) ys a)) nox) /\
 ∀ys ρc,I ds.length ys ρc->iJ cap ρc e λa=>R (.own ys) a) h
def Ac:cT:=λρ R _=>R ř ρ
structure PIfM(K:Â)(X:Cx)(ifs:List Ã)(t:cT):Prop where p:X.K=K->jq X ifs (lXb K X t)
def Gx:PIfM K X [] Ac:=⟨λ_ a s c H Q I e=>by let⟨f,z,Φ,j,ρ,h,R,g,U,t,k⟩:=e;show uI a s c H Q I (k ř ρ Φ H t U (Same.refl _))⟩
end
section
variable{K:Â}{X:Cx}{L f w:Ã}{l:Y Ã}{scope:â}{A:Ö}{N':Y Str}{cap:Y (Ř Nat)}{G:iL}{O:fR}{N:cT}{M:TX}
def vK{n:Nat}:∀{cap:Y (Ř Nat)},(gK cap).Nodup->∀{i j:Nat},cap[i]?=Z (Z n)->cap[j]?=Z (Z n)->i=j:=by
 intro cap
 induction cap with
 |nil=>intro _ i j h;simp at h
 |cons o cap p=>
  intro nd i j a c
  have e:(gK cap).Nodup:=by
   cases o with
   |none=>show nd
   |some m=>show (JZ.mp (show (m::gK cap).Nodup from nd)).2
  have one:∀{i:Nat},o=Z n->cap[i]?=Z (Z n)->False:=λ{i} g hi=>by subst g;show (JZ.mp (show (n::gK cap).Nodup from nd)).1 (rg hi)
  cases i with
  |zero=>cases j with
   |zero=>rfl
   |succ j=>show (one (by simpa using a) (by simpa using c)).elim
  |succ i=>cases j with
   |zero=>show (one (by simpa using c) (by simpa using a)).elim
   |succ j=>show Kf Nat.succ (p e (by simpa using a) (by simpa using c))
def EQ(Og:(gK cap).Nodup){σ:St}{H:Hp}{Q:VK}{Φ0 H0 Φ:Hp}{ρ:ak}{R:Sm->ak->Prop}{Rx:XD->ak->Prop}{τ:St}{κ:ak}(b_:StM K X Φ0 H0 Φ H σ τ ρ κ Rx)(t:xu G cap O N M ρ R Rx)
  (k:∀sm ρ' g H' v,R sm ρ'->StM K X Φ0 H0 g H' σ (τ++[Z v]) ρ' (κ++[Z sm]) Rx->Same Φ g->Q v H'):gO (lIM K X G) cap (lGM K O) (lNb K N) (lNm K M) σ H Q:=by
 refine⟨Φ0,H0,Φ,τ,ρ,κ,_,Rx,b_,t,λds P Φ1 H1 J Oe S1 f1 Sd T hD=>?_⟩;let⟨hlen,I,h0,OE,Pa⟩:=Oe;let⟨fp,Ex⟩:=S1.E;have E:=Ex.take S1.l
 have up:∀{i:Nat}{x:Sm},P[i]?=Z (Z x)->(P++κ)[i]?=Z (Z x):=λh=>by rwa[Js (aC h)]
 have ups:∀{i:Nat}{x:V},σ[i]?=Z (Z x)->(σ++τ)[i]?=Z (Z x):=λh=>by rwa[Js (aC h)]
 let Qp:Nat->Prop:=λi=>(∃j:Nat,cap[j]?=Z (Z i))/\∃p o,P[i]?=Z (Z (.ob (Z p) o))
 obtain⟨B,hB⟩:∃B:Y Addr,∀b,b∈B↔∃i,Qp i/\b∈fp i:=by
  refine⟨((gK cap).filter λi=>match P[i]? with|some (Z (.ob (Z _) _))=>ř|_=>Ś).flatMap fp,λb=>?_⟩;rw[MB];constructor
  ·rintro⟨i,hi,C⟩;let⟨hi,hp⟩:=J9.mp hi;refine⟨i,⟨?_,?_⟩,C⟩
   ·let⟨o,ho,e⟩:=LM.mp hi
    cases o with
    |none=>cases e
    |some i'=>cases e;show Ko ho
   ·split at hp
    ·next p o e=>show⟨p,o,e⟩
    ·cases hp
  ·rintro⟨i,⟨⟨j,hj⟩,p,o,hp⟩,C⟩;show⟨i,J9.mpr ⟨rg hj,by rw[hp]⟩,C⟩
 have hDB:T∉B:=λh=>by let⟨i,⟨_,p,o,ho⟩,C⟩:=(hB T).mp h;let⟨_,_,_,r⟩:=E.ow i _ o ho;let⟨u,hu,_⟩:=r.at T C;rw[hD]at hu;cases hu
 have SE:Φ1 T=ŗ:=S1.g.s.free hD
 have hDm:cm H1 B T=ŗ:=by rwa[gM hDB]
 have m2:∀{b:Addr}{u:HO},cm H1 B b=Z u->b≠T:=λh=>cY h hDm
 have C0:EnvM K (ap (cm H1 B) T (.lst [])) Φ1 (ap H1 T (.lst [])) (eB cap σ) (jK cap P):=by
  have no:∀{i:Nat}{a:Ř Addr}{o:Om},(jK cap P)[i]?=Z (Z (.ob a o))->∃j:Nat,cap[i]?=Z (Z j)/\P[j]?=Z (Z (.ob a o))/\Qp j:=λ{i a o} h=>by
   let⟨j,a_,be,h3⟩:=xj h
   cases a with
   |none=>cases h3
   |some p=>show⟨j,a_,be,⟨i,a_⟩,p,o,be⟩
  have inB:∀{i j:Nat}{a:Ř Addr}{o:Om},P[j]?=Z (Z (.ob a o))->Qp j->∀b∈fp j,b∈B/\b≠T:=λ{i j a o} h hl b C=>⟨(hB b).mpr ⟨j,hl,C⟩,λe=>hDB (e▸(hB b).mpr ⟨j,hl,C⟩)⟩;have cj:∀{i j n:Nat},cap[i]?=Z (Z n)->cap[j]?=Z (Z n)->i=j:=λa_ be=>vK Og a_ be;refine⟨λi=>match cap[i]? with|some (Z j)=>fp j|_=>[],λb u e=>?_,by unfold eB jK;rw[Jp,Jp],λi d h=>?_,λi a o h=>?_,λi a o h b C=>?_,λi j a a' o o' hi hj c b C N7=>?_,S1.E.tb⟩
  ·rw[aY (cY e SE)];show S1.g.s b u e
  ·let⟨j,a_,be,_⟩:=xj h;let⟨v,hv,r⟩:=E.sl j d be;show⟨v,xi a_ hv,r⟩
  ·let⟨j,a_,be,hl⟩:=no h;let⟨p,hp,ha,r⟩:=E.ow j a o be;refine⟨p,xi a_ hp,ha,?_⟩;rw[a_]
   show r.keep (Same.refl _) λb C u hu=>by rwa[aY (inB (i:=i) be hl b C).2]
  ·let⟨j,a_,be,hl⟩:=no h;rw[a_]at C;let⟨U,z2⟩:=inB (i:=i) be hl b C;show⟨by rw[aY z2];show sP U,(E.no j a o be b C).2⟩
  ·let⟨i',a_,be,_⟩:=no hi;let⟨j',h3,h4,_⟩:=no hj;rw[a_]at C;rw[h3]at N7;show E.dj i' j' a a' o o' be h4 (λe=>c (by subst e;show cj a_ h3)) b C N7
 refine⟨λi m σ' H'=>m=ds.length-i/\i<=ds.length/\∃(g:Hp)(ρc:ak)(vs:Y V)(ys:Y D),EnvM K (ap (cm H1 B) T (.lst vs)) g H' σ' ρc/\Gr Φ1 (cm H1 B) g H'/\g T=ŗ/\H' T=Z (.lst vs)/\RpL K g ys vs/\ys.length<=i/\I i ys ρc,⟨ds.length,by simp,Lh _,Φ1,_,[],[],C0,⟨Same.refl _,λb u e=>by rw[aY (m2 e)];show (sY e).2,λb u e=>by rw[aY (cY e SE)];show S1.g.s b u e,λ_ _ _ h _=>h⟩,SE,bo,.nil,Lh _,h0⟩,?_⟩;rintro i m σ' H' ⟨rfl,hi,g,ρc,vs,ys,Ei,gi,Tc,RJ,Ol,OJ,hI⟩;by_cases N8:i<ds.length
 ·refine .inr ⟨Sd.go i H' (gi.f.trans gi.s) N8,λσ2 H2=>∃(g:Hp)(ρc:ak)(vs:Y V)(ys:Y D),EnvM K (ap (cm H1 B) T (.lst vs)) g H2 σ2 ρc/\Gr Φ1 (cm H1 B) g H2/\g T=ŗ/\H2 T=Z (.lst vs)/\RpL K g ys vs/\ys.length<=i+1/\I (i+1) ys ρc,λσ2 H2 be=>⟨ds.length-(i+1),(),S,N8,be⟩,λx H2 y=>?_⟩;let⟨Φ3,g3,rx⟩:=Sd.yl i g H' x H2 _ gi.f gi.s (bJ N8) y;have E3:=Ei.gr g3;refine⟨_,Φ3,ρc,_,_,E3,rx,OE i _ ys ρc (bJ N8) hI,λρ1 σ3 t1 E4=>?_⟩;have Vp:Φ3 T=ŗ:=g3.o _ _ RJ Tc;have Vz:=g3.h _ _ RJ
  have gt:Gr Φ3 (ap (cm H1 B) T (.lst vs)) Φ3 H2:=⟨Same.refl _,λb u e=>by
   by_cases c:b=T
   ·subst c;rw[bo]at e;cases e;show Vz
   ·rw[aY c]at e;show g3.h b u (gi.h b u e),g3.s,λ_ _ _ h _=>h⟩
  have join:∀{Φ5 H5:Hp},Gr Φ3 (ap (cm H1 B) T (.lst vs)) Φ5 H5->Gr Φ1 (cm H1 B) Φ5 H5/\Φ5 T=ŗ/\H5 T=Z (.lst vs):=λ{Φ5 H5} g5=>by
   refine⟨⟨(gi.f.trans g3.f).trans g5.f,λb u e=>g5.h b u (by rwa[aY (m2 e)]),g5.s,λb u a_ be kk=>?_⟩,g5.o _ _ bo Vp trivial,g5.h _ _ bo⟩;have U:=gi.o b u a_ be kk;have z2:=g3.o b u (gi.h b u a_) U kk;show g5.o b u (by rwa[aY (m2 a_)]) z2 kk
  refine⟨Φ3,_,Φ3,[],ρ1,[],_,⟨gt,E4.len.symm,by rwa[J5,J5]⟩,t1,λb ρ2 Φ4 H4 rb S4 f4=>?_⟩
  cases b with
  |false=>
   refine j9 ?_;let⟨j1,j2,j3⟩:=join S4.g;show⟨Φ4,ρ2,vs,ys,(S4.m (X:=X)).env,j1,j2,j3,(Ol.same g3.f).same f4,(),rb.2 S⟩
  |true=>
   refine jC ?_;refine⟨Φ3,_,Φ4,[],ρ2,[],_,S4,rb.1 S,λs ρ3 Φ5 H5 v rs S5' f5=>?_⟩;have S5:=S5'.m (X:=X);let⟨d,rfl,rs⟩:=rs.get;let⟨j1,j2,j3⟩:=join S5.g;have rl5:=(Ol.same g3.f).same (f4.trans f5);refine⟨vs,j3,by rw[Ol.1];omega,Φ5,ρ3,vs++[v],ys++[d],?_,?_,j2,bo,rl5.append (.one S5.last),by rw[Jr];show Nat.succ_le_succ OJ,rs⟩
   ·have:=S5.env.side (p:=T) (u:=.lst vs) (u':=.lst (vs++[v])) bo j2;rw[y9]at this;show this
   ·show⟨j1.f,λb u e=>by rw[aY (m2 e)];show j1.h b u e,λb u e=>by rw[aY (cY e j2)];show j1.s b u e,λb u a_ be kk=>j1.o b u a_ be kk⟩
 ·have e:i=ds.length:=by omega
  subst e;refine .inl ⟨Sd.stop H' (gi.f.trans gi.s),?_⟩;let⟨ρ2,hR,Pp,h3,h4⟩:=oW Og (Pa ys ρc hI);let⟨fc,Ec⟩:=Ei;have inj:∀{i j n:Nat},cap[i]?=Z (Z n)->cap[j]?=Z (Z n)->i=j:=λa_ be=>vK Og a_ be
  have ex:∀i,Qp i->∃(j:Nat)(p:Addr)(o0 o:Om),cap[j]?=Z (Z i)/\P[i]?=Z (Z (.ob (Z p) o0))/\ρc[j]?=Z (Z (.ob (Z p) o)):=λi hl=>by let⟨⟨j,hj⟩,p,o0,ho⟩:=hl;let⟨o,h⟩:=h4 j i p o0 hj ho;show⟨j,p,o0,o,hj,ho,h⟩
  have cho:∀i,∃y:Ř (Om×Y Addr),(∀q,y=Z q->∃(j:Nat)(p:Addr)(o0:Om),cap[j]?=Z (Z i)/\P[i]?=Z (Z (.ob (Z p) o0))/\ρc[j]?=Z (Z (.ob (Z p) q.1))/\q.2=fc j)/\(y=ŗ↔¬ Qp i):=λi=>by
   by_cases h:Qp i
   ·let⟨j,p,o0,o,U,z2,z3⟩:=ex i h;show⟨Z (o,fc j),λq hq=>by cases hq;show⟨j,p,o0,U,z2,z3,S⟩,λe=>(by cases e),λn=>absurd h n⟩
   ·show⟨ŗ,λq hq=>(by cases hq),λ_=>h,λ_=>rfl⟩
  let⟨new,Tn⟩:=Classical.axiomOfChoice cho;have OF:=λi=>(Tn i).1;have O0:=λi=>(Tn i).2
  have Dfc:∀{j:Nat}{a:Ř Addr}{o:Om},ρc[j]?=Z (Z (.ob a o))->∀b∈fc j,b≠T/\cm H1 B b=ŗ/\g b=ŗ:=λ{j a o} h b C=>by
   let⟨U,z2⟩:=Ec.no j a o h b C
   have c:b≠T:=λe=>by rw[e,bo]at U;cases U
   rw[aY c]at U;show⟨c,U,z2⟩
  have adr:∀{j i:Nat}{p:Addr}{o0 o:Om},P[i]?=Z (Z (.ob (Z p) o0))->ρc[j]?=Z (Z (.ob (Z p) o))->σ[i]?=Z (Z (.ref p))/\OmS K g H' o p (fc j):=λ{j i p o0 o} a_ be=>by let⟨q1,e1,a1,_⟩:=E.ow i _ o0 a_;let⟨q2,e2,a2,r⟩:=Ec.ow j _ o be;cases a1 p S;cases a2 p S;show⟨e1,r⟩
  have lnt:∀{i:Nat},P.length<=i->new i=ŗ:=λ{i} c=>(O0 i).mpr λhl=>by
   let⟨_,p,o,ho⟩:=hl;have:=aC ho;omega
  have cs:∀{i:Nat}{x:Sm},(ρ2++κ)[i]?=Z (Z x)->(i<P.length/\ρ2[i]?=Z (Z x))\/(P.length<=i/\(P++κ)[i]?=Z (Z x)):=λ{i x} h=>by
   rcases Kg i P.length with c|c
   ·rw[Js ()]at h;show .inl ⟨c,h⟩
   ·rw[Jq (),Pp]at h;show .inr ⟨c,by rwa[Jq c]⟩
  have E2:EnvM' K H0 g H' (σ++τ) (ρ2++κ) (gL new fp):=by
   refine Ex.lend S1.g.h (B:=B) (λb C=>?_) (λi q hq b C=>(hB b).mpr ⟨i,(Kt λz=>by rw[(O0 i).mpr z]at hq;cases hq),C⟩) gi (by rw[Jr,Jr,Pp]) (λi d h=>?_) (λi a o h=>?_) (λi q hq=>?_) (λi q hq b C=>?_) λi j q r hq hr c b C N7=>?_
   ·let⟨i,hl,OG⟩:=(hB b).mp C;let⟨_,p,o,ho⟩:=id hl
    cases e:new i with
    |none=>show absurd hl ((O0 i).mp e)
    |some q=>show⟨i,_,o,q,e,up ho,OG⟩
   ·rcases cs h with⟨_,h⟩|⟨_,h⟩
    ·rcases h3 i _ h with⟨_,_,_,_,_,_,_,z⟩|⟨z,_⟩
     ·cases z
     ·show up z
    ·show h
   ·rcases cs h with⟨_,h⟩|⟨c,h⟩
    ·rcases h3 i _ h with⟨j,p,o0,o',U,z2,z3,z4⟩|⟨U,z2⟩
     ·cases z4
      cases e:new i with
      |none=>show absurd ⟨⟨j,U⟩,p,o0,z2⟩ ((O0 i).mp e)
      |some q=>
       let⟨j',p',o1,y1,y2,y3,y4⟩:=OF i q e;cases inj U y1;rw[z3]at y3;cases y3;show .inr ⟨o0,q.2,S,up z2⟩
     ·refine .inl ⟨(O0 i).mpr λhl=>?_,up U⟩;let⟨⟨j,hj⟩,p,o0,ho⟩:=hl;show z2 j p o0 hj ho
    ·show .inl ⟨lnt c,h⟩
   ·let⟨j,p,o0,U,z2,z3,z4⟩:=OF i q hq;let⟨y1,y2⟩:=adr z2 z3;show⟨p,ups y1,by rwa[z4]⟩
   ·let⟨j,p,o0,U,z2,z3,z4⟩:=OF i q hq;rw[z4]at C;show (Dfc z3 b C).2
   ·let⟨j1,p1,o1,U,z2,z3,z4⟩:=OF i q hq;let⟨j2,p2,o2,y1,y2,y3,y4⟩:=OF j r hr;rw[z4]at C;rw[y4]at N7;show Ec.dj j1 j2 _ _ _ _ z3 y3 (λe=>c (by rw[e,y1]at U;cases U;rfl)) b C N7
  have B0:∀b∈B,H0 b=ŗ:=λb C=>by let⟨i,⟨_,p,o,ho⟩,OG⟩:=(hB b).mp C;show (E.no i _ o ho b OG).1
  have g0:=S1.g.lend gi B0
  have E3:=E2.snocG (sm:=.own ys) (F:=[T]) (.o (λq e=>by cases e) (.lst RJ Ol)) (λb C=>by rw[JB.mp C];show⟨S1.g.h.free hD,Tc⟩) λb C i a o ho OG=>by
   rw[JB.mp C]at OG;unfold gL at OG
   cases e:new i with
   |some q=>
    rw[e]at OG;let⟨j,p,o0,U,z2,z3,z4⟩:=OF i q e;have OG:T∈q.2:=OG;rw[z4]at OG;show (Dfc z3 T OG).1 S
   |none=>
    rw[e]at OG
    have old:(P++κ)[i]?=Z (Z (.ob a o)):=by
     rcases cs ho with⟨_,ho⟩|⟨_,ho⟩
     ·rcases h3 i _ ho with⟨j,p,o0,o',U,z2,_⟩|⟨U,_⟩
      ·show absurd ⟨⟨j,U⟩,p,o0,z2⟩ ((O0 i).mp e)
      ·show up U
     ·show ho
    let⟨_,_,_,r⟩:=Ex.ow i a o old;let⟨u,hu,_⟩:=r.at T OG;rw[hD]at hu;cases hu
  rw[JM,JM]at E3;show k _ ρ2 g H' _ hR ⟨g0,by rw[Pp];show S1.l,E3,S1.x⟩ (f1.trans gi.f)
def AL{i:Nat}{y:Str}{B u:Ö}(P:X.calm=ř)(a_:X.N.Nodup)(hy:X.N[i]?=Z y)(hx:eC X.env.scope y)(U:CompScope X.N X.env.scope scope N' cap)(b_:(gK cap).Nodup)(hi:PIM K X L f G)
  (hg:∀(cl:Y (Str×Addr))(c:Y Addr)(C:Addr)(e:À)(a:Hp),PGM K (b8 X scope N' cl C e a c) L O) (ht:∀(cl:Y (Str×Addr))(c:Y Addr)(C:Addr)(e:À)(a:Hp),PIfM K (b8 X scope N' cl C e a c) l N)
  (be:∀(cl:Y (Str×Addr))(c:Y Addr)(C:Addr)(e:À)(a:Hp),PX K (b8 X scope N' cl C e a c) w M) (T:Î (.ListComp w [⟨L,f,l,0⟩] scope A) (Z (.Name y B)) u.line X.env=pure ř:=by rfl)
  (hs:∀x,Ì f X.env x=pure x:=by intro _;rfl) (hf:X.fn y=ř\/X.env.scope.names.lookup y=Z .local:=by nofun) :
  PSM K X (.Assign [.Name y B] (.ListComp w [⟨L,f,l,0⟩] scope A) u) (kH i (xu G cap O N M)):=
 ⟨λo=>(nJ P a_ hy hx U (hi.pi o) (λcl c C e a=>(hg cl c C e a).pg o) (λcl c C e a j s F H Q I h=>(ht cl c C e a).p o j s F H Q I (lNb.m h)) (λcl c C e a=>((be cl c C e a).pe o).imp λ_ _ _ h=>lNm.m h) T hs hf).imp λE F H R=>by
  let⟨Φ0,a,Φ,ρ,De,g,V,t,k⟩:=R
  show EQ b_ (du g V k.ex) t λsm ρ1 p J v r z _=>k.nx _ p J _ r z.g (z.env1.store i)⟩
end
def ip{a:Y Addr}(h:a.length=0):a=[]:=Kq.mp h
def eo{c:Y Addr}(h:c.length=1):∃a,c=[a]:=by
 match c,h with
 | [a],_=>show⟨a,S⟩
section
variable{K:Â}{X:Cx}{a b:Ã}{c:Ö}{e tb:TX}
def mB(g:PX K X a e)(h:PX K X b tb)(j:oM b):PX K X (.Subscript a b c) (jz nu e tb):=
 ⟨λf=>(p7 (vQ f) (g.pe f) (h.pe f) j).imp λ_ _ _=>n5⟩
end
section
variable{o:Type}[DecidableEq o]{K:Â}{Φ:Hp}
noncomputable def bD(a:Y (o×D))(k:o):Ř D:=(a.find? λc=>decide (c.1=k)).map (·.2)
noncomputable def iV(c:Y (o×D))(k:o)(d:D):Y (o×D):=if c.any (λa=>decide (a.1=k)) then c.map (λa=>if a.1=k then (a.1,d) else a) else c++[(k,d)]
theorem qa:∀{e:Y (o×D)}{f:Y (o×V)},Paired (gu K Φ) e f->∀k,(bD e k=ŗ/\fE f k=ŗ)\/∃d v,bD e k=Z d/\fE f k=Z v/\Rp K Φ d v
 |_,_,.nil,k=>.inl ⟨S,S⟩
 |_,_,.cons (a:=x) (b:=y) (l₁:=l) r t,k=>by
  by_cases c:x.1=k
  ·refine .inr ⟨x.2,y.2,?_,?_,r.2⟩
   ·unfold bD;rw[Lc (by simpa using c)];rfl
   ·show mt (by rwa[←r.1])
  ·have g:bD (x::l) k=bD l k:=by unfold bD;rw[KN (by simpa using c)]
   rw[g,oG (by rwa[←r.1])];show qa t k
theorem v8:∀{c:Y (o×D)}{e:Y (o×V)},Paired (gu K Φ) c e->∀k,(e.any λa=>decide (a.1=k))=c.any λa=>decide (a.1=k)
 |_,_,.nil,k=>rfl
 |_,_,.cons r t,k=>by rw[LA,LA,v8 t k,r.1]
theorem wF{a c:Type}{F:a->c->Prop}{f:a->a}{g:c->c}(h:∀x y,F x y->F (f x) (g y)):∀{l:Y a}{m:Y c},Paired F l m->Paired F (l.map f) (m.map g)
 |_,_,.nil=>.nil
 |_,_,.cons r t=>.cons (h _ _ r) (wF h t)
def zi{a:Y (o×D)}{c:Y (o×V)}(h:Paired (gu K Φ) a c)(k:o){d:D}{v:V}(r:Rp K Φ d v):Paired (gu K Φ) (iV a k d) (fY c k v):=by
 unfold iV fY;rw[v8 h k];split
 ·refine wF (λx y q=>?_) h;rw[←q.1];split
  ·show⟨S,r⟩
  ·show q
 ·show Č h ⟨S,r⟩
def rM(a:Y (o×D))(k:o):(bD a k).isSome=a.any λf=>decide (f.1=k):=by
 unfold bD
 induction a with
 |nil=>rfl
 |cons x r e=>
  rw[LA];by_cases c:x.1=k
  ·rw[Lc (by simpa using c),Kk c];rfl
  ·rw[KN (by simpa using c),JX c,e];rfl
def Dk{a:Y (o×D)}{k:o}{d:D}(h:bD a k=ŗ):iV a k d=a++[(k,d)]:=by have:=rM a k;rw[h]at this;unfold iV;rw[←this];rfl
def Bj(f:Y (o×D))(k j:o)(d:D):bD (iV f k d) j=if j=k then Z d else bD f j:=by
 unfold iV;split
 ·next h=>
  have:∀l:Y (o×D),bD (l.map λa=>if a.1=k then (a.1,d) else a) j=if j=k then (bD l k).map (λ_=>d) else bD l j:=by
   intro l
   induction l with
   |nil=>unfold bD;simp
   |cons x r v=>
    rw[JV];by_cases c:x.1=k
    ·rw[JC c];by_cases p:j=k
     ·rw[JC p];subst p;unfold bD;rw[Lc (by simpa using c),Lc (by simpa using c)];rfl
     ·rw[Jv p]at v ⊢;have g:¬ x.1=j:=λe=>p (e▸c▸rfl);unfold bD at v ⊢;rwa[KN (by simpa using g),KN (by simpa using g)]
    ·rw[Jv c];by_cases g:x.1=j
     ·have p:¬ j=k:=λe=>c (g.trans e);rw[Jv p];unfold bD;rw[Lc (by simpa using g),Lc (by simpa using g)]
     ·have w:bD (x::List.map (λa=>if a.1=k then (a.1,d) else a) r) j=bD (List.map (λa=>if a.1=k then (a.1,d) else a) r) j:=by unfold bD;rw[KN (by simpa using g)]
      have z:bD (x::r) j=bD r j:=by unfold bD;rw[KN (by simpa using g)]
      have A:bD (x::r) k=bD r k:=by unfold bD;rw[KN (by simpa using c)]
      rw[w,v,z,A]
  rw[this];split
  ·have:=rM f k;rw[h]at this
   cases e:bD f k with
   |none=>rw[e]at this;cases this
   |some y=>rfl
  ·rfl
 ·next h=>
  have u:bD f k=ŗ:=by
   cases e:bD f k with
   |none=>rfl
   |some y=>have:=rM f k;rw[e]at this;show absurd this.symm h
  unfold bD at u ⊢;rw[List.find?_append];by_cases c:j=k
  ·subst c;rw[JC S]
   cases e:f.find? λa=>decide (a.1=j)with
   |none=>simp
   |some y=>rw[e]at u;cases u
  ·rw[Jv c]
   cases e:f.find? λa=>decide (a.1=j)with
   |none=>rw[KN (by simpa using λe=>c e.symm)];rfl
   |some y=>rfl
def II{a c:Type}{F:a->c->Prop}:∀{l:Y a}{m:Y c},Paired F l m->l.length=m.length:=Mw
end
section
variable{K:Â}{X:Cx}{e a b ev:Ã}{c l:TD}{f A B:Ö}{x:Str}{i:Nat}
def GY(o:Om):TX:=λρ R _=>R (.ob ŗ o) ρ
def BG:PX K X (.Dict [] [] f) (GY (.mpT [])):=⟨λv=>pe_dnewT.imp λy H Q h=>by
 let⟨o,r,Φ,z,ρ,w,R,u,U,t,k⟩:=h;intro p g
 show k _ ρ Φ _ _ t (U.pushO (Gr.fresh U.g.s g _) (.mpT bo .nil) λb j=>by rw[JB.mp j];show⟨g,U.g.s.free g⟩) (Same.refl _)⟩
def EnvM.dictT{j o Φ H:Hp}{w:St}{ρ:ak}{a:Ř Addr}{y:Y (Y az×D)}(E:EnvM K o Φ H w ρ)(g:Gr j o Φ H)(hi:ρ[i]?=Z (Z (.ob a (.mpT y)))):∃q p,w[i]?=Z (Z (.ref q))/\H q=Z (.dT p)/\Paired (gu K Φ) y p /\
  ∀(v:Y (Y az×D))(h:Y (Y az×V)),Paired (gu K Φ) v h->EnvM K o Φ (ap H q (.dT h)) w (ρ.set i (Z (.ob a (.mpT v))))/\Gr j o Φ (ap H q (.dT h)):=by
 let⟨F,E⟩:=E;let⟨q,e,_,r⟩:=E.ow i a _ hi;have M:=r.mem;let⟨_,p,G,I⟩:=r.mpT_inv;refine⟨q,p,e,G,I,λv h N=>?_⟩
 have C:∀b u,H b=Z u->b∉F i->ap H q (.dT h) b=Z u:=λb u e L=>by
  rwa[aY λz=>L (by rw[z];show M)]
 show⟨⟨_,E.put hi e C (F':=[q]) (.mpT bo N) λb J=>.inl (by rwa[JB.mp J])⟩,E.grput g hi C⟩
noncomputable def ownT(ρ:ak)(i:Nat)(k:Ř Addr->Y (Y az×D)->Prop):Prop:=match ρ[i]? with|some (Z (.ob a (.mpT NV)))=>k a NV|_=>False
def ownT.get{ρ:ak}{i:Nat}{k:Ř Addr->Y (Y az×D)->Prop}(h:ownT ρ i k):∃a g,ρ[i]?=Z (Z (.ob a (.mpT g)))/\k a g:=by
 unfold ownT at h;split at h
 ·next a ds e=>show⟨a,ds,e,h⟩
 ·show h.elim
def qX{Φ:Hp}{g:Y az}{v:V}(r:Rp K Φ (.tup (g.map gH)) v):∃q,v=.ref q/\Φ q=Z (.tup (g.map kV)):=by
 cases r with
 |tup h j o=>
  cases vy ⟨j,o⟩;show⟨_,S,h⟩
noncomputable def tI(g:Bool)(i:Nat)(c:TD):cT:=λρ R _=>c (dR ρ) λd=>∃h:Y az,d=.tup (h.map gH)/\ownT ρ i λ_ j=>R (g != (bD j h).isSome) ρ
def A4{j:Bool}{F:St}{H:Hp}{Q:Bool->Hp->Prop}(h:lXb K X (tI j i c) F H Q):lE K c F H λy u=>kt i F u λx G=>∃a o,x=.ref a/\DGet G a y o/\Q (j != o.isSome) G:=by
 let⟨be,L,Φ,τ,ρ,κ,R,Rx,b_,t,k⟩:=h;refine⟨L,Φ,dR ρ,_,b_.env.toD,t,λd E u v r g U=>?_⟩;let⟨z,rfl,r⟩:=r;let⟨a,M,O,r⟩:=ownT.get r;let⟨p,rfl,P⟩:=qX U;have w:=b_.gr g;let⟨q,a_,N,T,C,_⟩:=w.env.dictT w.g O;refine⟨_,N,q,_,S,DGet.t T (g.s _ _ P),?_⟩
 have e:(fE a_ z).isSome=(bD M z).isSome:=by rcases qa C z with⟨I,J⟩|⟨d,v,I,J,_⟩<;>rw[I,J]<;>rfl
 rw[e];show k _ ρ E u r w g.f
def Aa(b:Bool):(Ś != b)=b:=by cases b<;>rfl
def Dt{t:TD}{u:St}{H:Hp}{Q p:VK}(h:lE K t u H Q)(y:∀v j,Q v j->p v j):lE K t u H p:=by let⟨w,Φ,ρ,R,E,t,k⟩:=h;show⟨w,Φ,ρ,R,E,t,λd o j v r g z=>y _ _ (k d o j v r g z)⟩
def HI{j:Nat}{p:St}{H:Hp}{Q o:VK}(h:kt j p H Q)(r:∀v g,Q v g->o v g):kt j p H o:=let ⟨v,e,q⟩:=h;⟨v,e,r _ _ q⟩
def E7(i:Nat)(J:X.A.units+64<å)(C:PD K X e c)(y:X.N[i]?=Z x:=by rfl)(F:cL X.env.scope x:=by nofun)(hd:ab x:=by decide)(h:fI x:=by decide)
  (E:behindInMarks .In (.Name x A)=Ś:=by rfl):PXB K X (.Compare e [.In] [.Name x A] f) (tI Ś i c):=
 ⟨λu=>(xY (Ba () (C.pe u) (pv i y F hd h)) E).imp λL H Q j=>Dt (A4 j) λv G q=>HI q λw I z=>by
  let⟨a,o,p,r,g⟩:=z;rw[Aa]at g
  show⟨a,o,p,r,_,S,g⟩⟩
noncomputable def Ez(i:Nat)(c:TD)(l:TD):bA:=λj ρ=>l (dR ρ) λd=>c (dR ρ) λp=>∃h:Y az,p=.tup (h.map gH)/\ownT ρ i λa g=>g.length<sizeLine/\NF (iV g h d) λo=>j.nx (ρ.set i (Z (.ob a (.mpT o))))
def xN(i:Nat)(hu:X.A.units+64<å)(b_:PD K X e c)(R:PD K X ev l)(Q:X.N[i]?=Z x:=by rfl)(U:cL X.env.scope x:=by nofun)(hd:ab x:=by decide)(N:fI x:=by decide)
  (T:Î ev (Z (.Subscript (.Name x A) e B)) f.line X.env=pure Ś:=by rfl):PSM K X (.Assign [.Subscript (.Name x A) e B] ev f) (λC ρ=>(ownT ρ i λ_ _=>True)/\Ez i c l C ρ):=
 ⟨λM=>(A7 () (pv i Q U hd N) (b_.pe M) (R.pe M) T).imp λE σ H O=>by
  let⟨Φ0,F,Φ,ρ,C,g,V,⟨h,t⟩,k⟩:=O;let⟨a,NV,h,_⟩:=ownT.get h;refine⟨F,Φ,dR ρ,_,V.toD,t,λd y H1 v r1 r rv=>?_⟩;have p:=V.gr r;let⟨q,ws,J,hq,rel,_⟩:=p.dictT (g.trans r) h;refine⟨_,J,F,y,dR ρ,_,p.toD,r1,λkd z H2 w j o rw=>?_⟩;let⟨be,rfl,j⟩:=j;let⟨a2,VA,G,hl,j⟩:=ownT.get j;rw[h]at G;cases G;let⟨pk,rfl,u⟩:=qX rw;let⟨q2,ws2,L,P,I,a_⟩:=(p.gr o).dictT ((g.trans r).trans o) h;rw[J]at L;cases L;let⟨z1,z2⟩:=a_ _ _ (zi I be (rv.same o.f))
  show⟨q,_,S,DPut.t P (o.s _ _ u) (by rwa[←II I]),k.nx _ z _ σ j.get z2 z1⟩⟩
end
end L2
namespace PySem.SeqAt
open AutoSeq1 (wpAny_loadPart')
open MeetsSeq MeetsSeq2 MeetsSeq3 SeqRoads2
end PySem.SeqAt
namespace L2
open PySem PySem.Spec PyProof.Rows
open Builtin Builtin.ObjectAttr
end L2
namespace L2
open PySem PySem.Spec PyProof.Rows
end L2
namespace L2
open PySem PySem.Spec PyProof.Rows
section
variable{K:Â}{l H Φ:Hp}{g:St}{ρ:ak}{f:Nat->Y Addr}{o o' w u:Om}{p q:Addr}{i j:Nat}{a a' b A:Ř Addr}
def EnvM'.two(E:EnvM' K l Φ H g ρ f)(Uy:i≠j)(hi:ρ[i]?=Z (Z (.ob a o)))(hj:ρ[j]?=Z (Z (.ob a' o'))){U X:Addr}{N O:Y Addr}(si:g[i]?=Z (Z (.ref U)))(sj:g[j]?=Z (Z (.ref X)))
  (ai:∀q,b=Z q->q=U) (aj:∀q,A=Z q->q=X) (Oi:OmS K Φ H w U N) (Oj:OmS K Φ H u X O) (sub:∀x,x∈N\/x∈O->x∈f i\/x∈f j) (R:∀x∈N,x∉O) :
  EnvM K l Φ H g ((ρ.set i (Z (.ob b w))).set j (Z (.ob A u))):=by
 have P:∀{m:Nat}{x:Sm},((ρ.set i (Z (Sm.ob b w))).set j (Z (Sm.ob A u)))[m]?=Z (Z x)->(m=j/\x=.ob A u)\/(m≠j/\m=i/\x=.ob b w)\/(m≠j/\m≠i/\ρ[m]?=Z (Z x)):=λ{m x} h=>by
  rcases cN h with⟨e,_,e1⟩|⟨e,h⟩
  ·cases e1;show .inl ⟨e,S⟩
  ·rcases cN h with⟨e',_,e1⟩|⟨e',h⟩
   ·cases e1;show .inr (.inl ⟨e,e',S⟩)
   ·show .inr (.inr ⟨e,e',h⟩)
 have T:∀x,x∈N\/x∈O->∀(m:Nat)(c:Ř Addr)(J:Om),ρ[m]?=Z (Z (.ob c J))->m≠i->m≠j->x∉f m:=λx I m c J b_ v B z=>by
  rcases sub x I with h|h
  ·show E.dj m i c a J o b_ hi v x z h
  ·show E.dj m j c a' J o' b_ hj B x z h
 have no:∀x,x∈N\/x∈O->l x=ŗ/\Φ x=ŗ:=λx I=>by
  rcases sub x I with h|h
  ·show E.no i a o hi x h
  ·show E.no j a' o' hj x h
 refine⟨λm=>if m=j then O else if m=i then N else f m,E.fz,by rw[Ju,Ju,E.len],λm d h=>?_,λm c J h=>?_,λm c J h x I=>?_,λm k c be J a_ b_ hk cc x I Tq=>?_,E.tb⟩
 ·rcases P h with⟨_,C⟩|⟨_,_,C⟩|⟨_,_,C⟩
  ·cases C
  ·cases C
  ·show E.sl m d C
 ·rcases P h with⟨v,C⟩|⟨v,B,C⟩|⟨v,B,C⟩
  ·cases C;show⟨X,by rwa[v],aj,by rwa[JC v]⟩
  ·cases C;show⟨U,by rwa[B],ai,by rwa[Jv v,JC B]⟩
  ·let⟨p,e,ha,r⟩:=E.ow m c J C;show⟨p,e,ha,by rwa[Jv v,Jv B]⟩
 ·rcases P h with⟨v,C⟩|⟨v,B,C⟩|⟨v,B,C⟩
  ·rw[JC v]at I;show no x (.inr I)
  ·rw[Jv v,JC B]at I;show no x (.inl I)
  ·rw[Jv v,Jv B]at I;show E.no m c J C x I
 ·have M:x∈(if m=j then O else if m=i then N else f m):=I;have F:x∈(if k=j then O else if k=i then N else f k):=Tq;rcases P b_ with⟨v,Q⟩|⟨v,B,Q⟩|⟨v,B,Q⟩
  ·rw[JC v]at M;rcases P hk with⟨y,L⟩|⟨y,G,L⟩|⟨y,G,L⟩
   ·show cc (v.trans y.symm)
   ·rw[Jv y,JC G]at F;show R x F M
   ·rw[Jv y,Jv G]at F;show T x (.inr M) k be a_ L G y F
  ·rw[Jv v,JC B]at M;rcases P hk with⟨y,L⟩|⟨y,G,L⟩|⟨y,G,L⟩
   ·rw[JC y]at F;show R x M F
   ·show cc (B.trans G.symm)
   ·rw[Jv y,Jv G]at F;show T x (.inl M) k be a_ L G y F
  ·rw[Jv v,Jv B]at M;rcases P hk with⟨y,L⟩|⟨y,G,L⟩|⟨y,G,L⟩
   ·rw[JC y]at F;show T x (.inr F) m c J Q B v M
   ·rw[Jv y,JC G]at F;show T x (.inl F) m c J Q B v M
   ·rw[Jv y,Jv G]at F;show E.dj m k c be J a_ Q L cc x M F
def CN{ps:Y (Addr×Ř (Y D))}{k:Nat}{x y:Ř (Y D)}(h:ps[k]?=Z (q,x)):((ps.set k (q,y)).map λq=>V.ref q.1)=ps.map λq=>V.ref q.1:=by
 refine K2 λm=>?_;rw[JF,JF];by_cases c:k=m
 ·subst c;rw[JS (aC h),h];rfl
 ·rw[JN c]
def EnvM.opn{ps:Y (Addr×Ř (Y D))}{k:Nat}{ds:Y D}(E:EnvM K l Φ H g ρ)(B:i≠j)(hi:ρ[i]?=Z (Z (.ob (Z q) .ptr)))(r:ρ[j]?=Z (Z (.ob a' (.tl ps))))(v:ps[k]?=Z (q,Z ds)) :
  EnvM K l Φ H g ((ρ.set i (Z (.ob (Z q) (.lst ds)))).set j (Z (.ob a' (.tl (ps.set k (q,ŗ)))))):=by
 let⟨f,E⟩:=E;let⟨p,N,e,Q⟩:=E.ow i _ _ hi;have C:=e q S;subst C;let⟨t,O,z,M⟩:=E.ow j _ _ r;let⟨P,F,G⟩:=M.tl_inv;let⟨R,F',I,J,L,y⟩:=F.out v;have nd:=y.nodup_iff.mp G;rw[JZ]at nd;refine E.two B hi r N O e z (.lst I J) (.tl (by rwa[CN v]) L nd.2) (λx c=>.inr (y.mem_iff.mpr ?_)) λx c=>?_
 ·rcases c with h|h
  ·rw[JB.mp h];show JA
  ·show Jy _ h
 ·rw[JB.mp c];show nd.1
def EnvM.pnt(E:EnvM K l Φ H g ρ)(i:Nat)(p:Addr):EnvM K l Φ H (g.set i (Z (.ref p))) (ρ.set i (Z (.ob (Z p) .ptr))):=by
 let⟨f,E⟩:=E
 have F:∀{m:Nat}{x:Sm},(ρ.set i (Z (Sm.ob (Z p) .ptr)))[m]?=Z (Z x)->(m=i/\i<ρ.length/\x=.ob (Z p) .ptr)\/(m≠i/\ρ[m]?=Z (Z x)):=λ{m x} h=>by
  rcases cN h with⟨e,O,a_⟩|⟨e,h⟩
  ·cases a_;show .inl ⟨e,O,S⟩
  ·show .inr ⟨e,h⟩
 refine⟨λm=>if m=i then [] else f m,E.fz,by rw[Ju,Ju,E.len],λm d h=>?_,λm c G h=>?_,λm c G h x C=>?_,λm k c z G P U T R x C Q=>?_,E.tb⟩
 ·rcases F h with⟨_,_,h⟩|⟨c,h⟩
  ·cases h
  ·let⟨v,e,r⟩:=E.sl m d h;show⟨v,by rwa[JN (Kz c)],r⟩
 ·rcases F h with⟨y,O,B⟩|⟨z,B⟩
  ·cases B;show⟨p,by rw[y];show JS (by rwa[E.len]),λq e=>by cases e;rfl,by rw[JC y];show .ptr⟩
  ·let⟨q,e,r⟩:=E.ow m c G B;show⟨q,by rwa[JN (Kz z)],by rwa[Jv z]⟩
 ·rcases F h with⟨y,_,B⟩|⟨z,B⟩
  ·rw[JC y]at C;cases C
  ·rw[Jv z]at C;show E.no m c G B x C
 ·have I:x∈(if m=i then [] else f m):=C;have J:x∈(if k=i then [] else f k):=Q;rcases F U with⟨y,_,N⟩|⟨y,N⟩
  ·rw[JC y]at I;cases I
  rcases F T with⟨L,_,M⟩|⟨L,M⟩
  ·rw[JC L]at J;cases J
  rw[Jv y]at I;rw[Jv L]at J;show E.dj m k c z G P N M R x I J
end
section
variable{K:Â}{X:Cx}{t:bA}{c e:Ö}
noncomputable def Bk(i:Nat)(tb:TX):TX:=λρ R g=>(∃a ds,ρ[i]?=Z (Z (.ob a (.lst ds))))/\tb ρ (xV λk f=>∃a ds n d,f[i]?=Z (Z (.ob a (.lst ds)))/\k=.int n/\cr ds n=Z d/\R (.v d) f) g
def BY{y:Str}{b:Ã}{tb:TX}(i:Nat)(T:X.N[i]?=Z y)(L:PX K X b tb)(N:oM b)
  (P:cL X.env.scope y:=by nofun) (hd:ab y:=by decide) (z:fI y:=by decide) :
  PX K X (.Subscript (.Name y e) b c) (Bk i tb):=
 ⟨λl=>(p7 (CI l) (pv i T P hd z) (L.pe l) N).imp λσ H Q A=>by
  let⟨g,w,Φ,τ,ρ,κ,R,B,b_,⟨⟨a,ds,J⟩,t⟩,k⟩:=A;let⟨fp,E⟩:=b_.env;let⟨q,s,_,_⟩:=E.ow i _ _ J;refine⟨.ref q,s,g,w,Φ,τ,ρ,κ,_,B,b_,t,λsm j h x v r f G=>?_⟩;let⟨kd,rfl,a1,Uw,n,d,C,rfl,F,r⟩:=r.get;have M:=f.last;obtain rfl:=M.i;let⟨I,p⟩:=f.env;let⟨q1,o,_,U⟩:=p.ow i _ _ C;rw[s]at o;cases o;let⟨_,ws,be,w2⟩:=U.lst_inv;let⟨u,O,a_⟩:=oY w2 F
  show⟨q,ws,n,u,S,S,SqL.of be,O,k _ j h x u r ((f.pop b_.lk).pushV a_) G⟩⟩
end
noncomputable def FH:Fl->Ř D
 |.v d=>Z d
 |.l xs=>Z (.lst xs)
 |.al _=>ŗ
noncomputable def eN:Y (Str×Fl)->Ř (Y (Str×D))
 | []=>Z []
 |(f,x)::r=>match FH x,eN r with
  |some d,Z ds=>Z ((f,d)::ds)
  |_,_=>ŗ
noncomputable def wf:Ř Sm->Ř Sl
 |some (.ob _ (.obj nm fs))=>(eN fs).map λds=>.v (.obj nm ds)
 |x=>qU x
noncomputable abbrev eK(ρ:ak):br:=ρ.map wf
noncomputable def wU:HO->Bool
 |.lst _=>ř
 |.dK _=>ř
 |.dT _=>ř
 |.ins _ _ _=>ř
 |_=>Ś
def CS{u:HO}(h:nr u):wU u=ř:=by cases u<;>first|rfl|show h.elim
inductive NoL:D->Prop where
 |int (i:Int):NoL (.int i)
 |bl (b:Bool):NoL (.bl b)
 |str (x:Str):NoL (.str x)
 |non:NoL .non
 |tup {ds:List D}:(∀d∈ds,NoL d)->NoL (.tup ds)
noncomputable def ed(Φ H:Hp)(A:Y Addr):Hp:=λb=>match Φ b with
 |some u=>Z u
 |none=>if b∈A then H b else ŗ
noncomputable def ga(Φ a:Hp):Hp:=λb=>match Φ b with
 |some u=>Z u
 |none=>match a b with
  |some u=>if wU u then ŗ else Z u
  |none=>ŗ
section
variable{K:Â}{J H I Φ B:Hp}{G:St}{ρ:ak}{F:Nat->Y Addr}{A:Y Addr}{d:D}{v:V}{b:Addr}{u:HO}
def Bm(h:Φ b=Z u):ed Φ H A b=Z u:=by unfold ed;rw[h]
def wg(a:b∈A)(h:H b=Z u)(s:Same Φ H):ed Φ H A b=Z u:=by
 unfold ed
 cases e:Φ b with
 |some w=>have:=s _ _ e;rw[h]at this;cases this;rfl
 |none=>simp only;rwa[JC a]
def qg(h:ed Φ H A b=Z u):Φ b=Z u\/(b∈A/\H b=Z u):=by
 unfold ed at h
 cases e:Φ b with
 |some w=>rw[e]at h;show .inl h
 |none=>
  rw[e]at h;simp only at h;split at h
  ·next c=>show .inr ⟨c,h⟩
  ·cases h
def view_same:Same Φ (ed Φ H A):=λ_ _ h=>Bm h
def qI(s:Same Φ H):Same (ed Φ H A) H:=λb u h=>(qg h).elim (s b u) (·.2)
def Iy(h:Φ b=Z u):ga Φ B b=Z u:=by unfold ga;rw[h]
def B3{vs:Y V}(s:Same Φ B)(h:B b=Z (.tup vs)):ga Φ B b=Z (.tup vs):=by
 unfold ga
 cases e:Φ b with
 |some w=>have:=s _ _ e;rw[h]at this;cases this;rfl
 |none=>simp only;rw[h];rfl
def jt(s:Same Φ H)(g:Gr (ed Φ H A) H B I):Gr Φ H (ga Φ B) I:=by
 refine⟨λb u e=>Iy e,g.h,λb u e=>?_,λp u j h k=>?_⟩
 ·unfold ga at e
  cases c:Φ b with
  |some w=>rw[c]at e;cases e;show g.h _ _ (s _ _ c)
  |none=>
   rw[c]at e;simp only at e
   cases a:B b with
   |none=>rw[a]at e;cases e
   |some w=>
    rw[a]at e;simp only at e;split at e
    ·cases e
    ·cases e;show g.s _ _ a
 ·unfold ga;rw[h];simp only
  cases a:B p with
  |none=>rfl
  |some w=>
   have f:=g.s _ _ a;rw[g.h _ _ j]at f;cases f;simp only;rw[JC (CS k)]
def Rp.thawN(s:Same Φ B)(f:NoL d)(r:Rp K B d v):Rp K (ga Φ B) d v:=by
 induction f generalizing v with
 |int i=>obtain rfl:=r.i;show .int i
 |bl b=>obtain rfl:=r.b;show .bl b
 |str x=>obtain rfl:=r.s;show .str x
 |non=>obtain rfl:=r.n;show .non
 |tup _ h=>
  cases r with
  |tup a c e=>show .tup (B3 s a) c λi v d g hd=>h d (Jw hd) (e i v d g hd)
noncomputable def nz:Ř (Ř Sm)->Bool
 |some (Z (.ob _ (.obj _ _)))=>ř
 |_=>Ś
noncomputable def iT(F:Nat->Y Addr)(ρ:ak):Y Addr:=(List.range ρ.length).flatMap λi=>if nz (ρ[i]?) then F i else []
def CC{i:Nat}{a:Ř Addr}{nm:Str}{fs:Y (Str×Fl)}(h:ρ[i]?=Z (Z (.ob a (.obj nm fs))))(c:b∈F i):b∈iT F ρ:=by unfold iT;refine MB.mpr ⟨i,JU.mpr (aC h),?_⟩;rwa[h,JC (show nz (Z (Z (Sm.ob a (Om.obj nm fs))))=ř from rfl)]
def DQ(h:b∈iT F ρ):∃i a nm fs,ρ[i]?=Z (Z (.ob a (.obj nm fs)))/\b∈F i:=by
 unfold iT at h;let⟨i,_,h⟩:=MB.mp h;by_cases c:nz (ρ[i]?)=ř
 ·rw[JC c]at h;unfold nz at c;split at c
  ·next a nm fs e=>show⟨i,a,nm,fs,e,h⟩
  ·cases c
 ·rw[Jv c]at h;cases h
def tP{fs:Y (Str×Fl)}{ds:Y (Str×D)}{vs:Y (Str×V)}{E:Y Addr}(a:eN fs=Z ds)(h:FlsR K Φ H fs vs E)(C:Same Φ B)(x:∀b∈E,∀u,H b=Z u->B b=Z u) :
  vs.map (·.1)=ds.map (·.1)/\∀(i:Nat)(v:Str×V)(d:Str×D),vs[i]?=Z v->ds[i]?=Z d->Rp K B d.2 v.2:=by
 induction h generalizing ds with
 |nil=>cases a;show⟨S,λi v d g=>by simp at g⟩
 |v r _ j=>
  rename_i f o Q c y z _;have a:(match Z o,eN c with|some d,Z ds=>Z ((f,d)::ds)|_,_=>ŗ)=Z ds:=a
  cases e:eN c with
  |none=>rw[e]at a;cases a
  |some es=>
   rw[e]at a;cases a;let⟨p,w⟩:=j e x;refine⟨by rw[JV,JV,p],λi v d g hd=>?_⟩
   cases i with
   |zero=>cases g;cases hd;show r.same C
   |succ i=>show w i v d g hd
 |l p w _ j=>
  rename_i f o R P c y z _;have a:(match Z (D.lst o),eN c with|some d,Z ds=>Z ((f,d)::ds)|_,_=>ŗ)=Z ds:=a
  cases e:eN c with
  |none=>rw[e]at a;cases a
  |some es=>
   rw[e]at a;cases a;let⟨M,N⟩:=j e λb L=>x b (Jy _ L);refine⟨by rw[JV,JV,M],λi v d g hd=>?_⟩
   cases i with
   |zero=>
    cases g;cases hd;have r:=w.same C;show .lst (x _ JA _ p) r.1 r.2
   |succ i=>show N i v d g hd
 |al _ j=>
  rename_i f O c y z _;have a:(match (ŗ:Ř D),eN c with|some d,Z ds=>Z ((f,d)::ds)|_,_=>ŗ)=Z ds:=a;cases a
def EnvM'.view(E:EnvM' K J Φ H G ρ F):EnvD K J (ed Φ H (iT F ρ)) H G (eK ρ):=by
 have R:Same Φ (ed Φ H (iT F ρ)):=view_same
 have at_:∀{i:Nat}{x:Sl},(eK ρ)[i]?=Z (Z x)->∃y,ρ[i]?=Z (Z y)/\wf (Z y)=Z x:=λ{i x} h=>by
  rw[JF]at h
  cases e:ρ[i]? with
  |none=>rw[e]at h;cases h
  |some y=>
   rw[e]at h
   cases y with
   |none=>cases h
   |some y=>show⟨y,S,JY h⟩
 have ow:∀{i:Nat}{o:Ow},(eK ρ)[i]?=Z (Z (.ob o))->∃a f p u,ρ[i]?=Z (Z (.ob a f))/\(∀nm fs,f≠.obj nm fs)/\G[i]?=Z (Z (.ref p))/\p∈F i/\H p=Z u/\OwR K Φ o u:=λ{i o} h=>by
  let⟨y,L,e⟩:=at_ h
  cases y with
  |v d=>cases e
  |ob a f=>
   let⟨p,M,_,r⟩:=E.ow i a f L;refine⟨a,f,p,?_⟩
   cases f with
   |lst ds=>let⟨_,vs,g,l⟩:=r.lst_inv;cases e;show⟨_,L,(λ_ _ z=>by cases z),M,r.mem,g,l⟩
   |map a_=>let⟨_,vs,g,l⟩:=r.map_inv;cases e;show⟨_,L,(λ_ _ z=>by cases z),M,r.mem,g,ls l⟩
   |mpT a_=>let⟨_,vs,g,l⟩:=r.mpT_inv;cases e;show⟨_,L,(λ_ _ z=>by cases z),M,r.mem,g,ls l⟩
   |obj nm fs=>
    have e:(eN fs).map (λds=>Sl.v (.obj nm ds))=Z (.ob o):=e
    cases O:eN fs with
    |none=>rw[O]at e;cases e
    |some ds=>rw[O]at e;cases e
   |ptr=>cases e
   |tl ps=>cases e
   |pr _ _=>cases e
 refine⟨qI E.fz,by rw[Jp,E.len],λi d h=>?_,λi o h=>?_,λi j o w p hi hj si sj=>?_,E.tb.same R⟩
 ·let⟨y,L,e⟩:=at_ h
  cases y with
  |v d'=>cases e;let⟨v,M,r⟩:=E.sl i d L;show⟨v,M,r.same R⟩
  |ob a f=>
   cases f with
   |obj nm fs=>
    have e:(eN fs).map (λds=>Sl.v (.obj nm ds))=Z (.v d):=e
    cases O:eN fs with
    |none=>rw[O]at e;cases e
    |some ds=>
     rw[O]at e;cases e;let⟨p,M,_,r⟩:=E.ow i a _ L;let⟨C,dx,vs,qs,X,c1,c2,c3,_⟩:=r.obj_inv;have U:∀b∈F i,∀u,H b=Z u->ed Φ H (iT F ρ) b=Z u:=λb T u hu=>wg (CC L T) hu E.fz;let⟨N,P⟩:=tP O c3 R λb T=>U b (by rw[X];show Jy _ T);show⟨.ref p,M,.obj c1 (U p (by rw[X];show JA) _ c2) N P⟩
   |_=>cases e
 ·let⟨a,f,p,u,g,be,l,Q,h4,b_⟩:=ow h;have n1:=E.no i a f g p Q;refine⟨p,u,l,n1.1,?_,h4,?_⟩
  ·cases e:ed Φ H (iT F ρ) p with
   |none=>rfl
   |some w=>
    rcases qg e with z|⟨z,_⟩
    ·rw[n1.2]at z;cases z
    ·let⟨j,a',nm,fs,N,P⟩:=DQ z
     have Uy:i≠j:=λc=>by subst c;rw[g]at N;cases N;show be _ _ S
     show absurd P (E.dj i j a a' f _ g N Uy p Q)
  ·cases o with
   |lst ds=>cases u with
    |lst vs=>show RpL.same R b_
    |_=>show b_.elim
   |_=>cases u<;>show b_
 ·let⟨a,f,p1,u,g,_,l,Q,_,_⟩:=ow hi;let⟨a',Qi,p2,u',N,_,P,k3,_,_⟩:=ow hj;rw[si]at l;cases l;rw[sj]at P;cases P;rcases LX (i=j)with c|c
  ·show c
  ·show absurd k3 (E.dj i j a a' f Qi g N c p Q)
end
section
variable{K:Â}{X:Cx}{e:Ã}
noncomputable def HN(t:TD):TX:=λρ R _=>t (eK ρ) λd=>NoL d/\R (.v d) ρ
def cB{t:TD}(h:PD K X e t):PX K X e (HN t):=⟨λj=>(h.pe j).imp λy H Q f=>by
 let⟨o,a,Φ,z,ρ,x,R,u,U,t,k⟩:=f;let⟨w,E⟩:=U.env;refine⟨a,_,eK ρ,_,E.view,t,λd p c v r g l=>?_⟩;have g':=jt E.fz g
 show k _ ρ _ c v r.2 ((U.gr g').pushV (l.thawN (view_same.trans g.f) r.1)) g'.f⟩
noncomputable def rA(t:aT):TX:=λρ R _=>t (eK ρ) λds=>(∀d∈ds,NoL d)/\R (.own ds) ρ
def vk{t:aT}(h:PF K X e t):PX K X e (rA t):=⟨λy=>(h.pe y).imp λL H Q o=>by
 let⟨F,j,Φ,M,ρ,J,R,G,U,t,k⟩:=o;let⟨I,E⟩:=U.env;refine⟨j,_,eK ρ,_,E.view,t,λds c l p vs r g B a A rl=>?_⟩;have g':=jt E.fz g;have f:=view_same.trans g.f
 have u:ga Φ c p=ŗ:=by
  unfold ga
  cases x:Φ p with
  |some w=>rw[f _ _ x]at a;cases a
  |none=>simp only;rw[a]
 refine k _ ρ _ l _ r.2 (U.pushO g' (.lst A ⟨rl.1,λi v d C hd=>(rl.2 i v d C hd).thawN f (r.1 d (Jw hd))⟩) λb z=>by rw[JB.mp z];show⟨B,u⟩) g'.f⟩
end
noncomputable def cU(f:Str)(x:Fl):Y (Str×Fl)->Y (Str×Fl)
 | []=>[(f,x)]
 |(g,y)::r=>if g=f then (g,x)::r else (g,y)::cU f x r
section
variable{K:Â}{Φ H a:Hp}{fs:Y (Str×Fl)}{vs:Y (Str×V)}{o:Y Addr}{f:Str}{ds es:Y D}{j:Y V}{d:D}{v:V}
def FlsR.look(h:FlsR K Φ H fs vs o)(nd:o.Nodup)(p:fs.lookup f=Z (.l ds)):∃q j,vs.lookup f=Z (.ref q)/\q∈o/\H q=Z (.lst j)/\RpL K Φ ds j /\
  ∀(a:Hp)(es:Y D)(w:Y V),(∀b∈o,b≠q->∀u,H b=Z u->a b=Z u)->a q=Z (.lst w)->RpL K Φ es w->FlsR K Φ a (cU f (.l es) fs) vs o:=by
 induction h with
 |nil=>cases p
 |v r t G=>
  rename_i g P T J L M;rw[J0]at p
  cases c:f==g with
  |true=>rw[c]at p;cases p
  |false=>
   rw[c]at p;let⟨q,j,N,B,C,E,F⟩:=G nd p;refine⟨q,j,by rwa[J0,c],B,C,E,λa es w x y A=>?_⟩;change FlsR K Φ a (if g=f then _ else _) _ _;rw[Jv λe=>by rw[e,J3]at c;cases c];show .v r (F a es w x y A)
 |l a1 a2 t G=>
  rename_i g P R O J L M;rw[JZ]at nd;rw[J0]at p
  cases c:f==g with
  |true=>
   rw[c]at p;cases p;refine⟨O,R,by rw[J0,c],JA,a1,a2,λa es w x y A=>?_⟩;change FlsR K Φ a (if g=f then _ else _) _ _;rw[JC (eq_of_beq c).symm];show .l y A (t.keep (Same.refl _) λb I u Q=>x b (Jy _ I) (λz=>nd.1 (z▸I)) u Q)
  |false=>
   rw[c]at p;let⟨q,j,N,B,C,E,F⟩:=G nd.2 p;refine⟨q,j,by rwa[J0,c],Jy _ B,C,E,λa es w x y A=>?_⟩;change FlsR K Φ a (if g=f then _ else _) _ _;rw[Jv λe=>by rw[e,J3]at c;cases c];show .l (x O JA (λz=>nd.1 (z▸B)) _ a1) a2 (F a es w (λb I=>x b (Jy _ I)) y A)
 |al t G=>
  rename_i g U J L M;rw[J0]at p
  cases c:f==g with
  |true=>rw[c]at p;cases p
  |false=>
   rw[c]at p;let⟨q,j,N,B,C,E,F⟩:=G nd p;refine⟨q,j,by rwa[J0,c],B,C,E,λa es w x y A=>?_⟩;change FlsR K Φ a (if g=f then _ else _) _ _;rw[Jv λe=>by rw[e,J3]at c;cases c];show .al (F a es w x y A)
noncomputable def iW(f:Str)(fs:Y (Str×Fl)):Bool:=match fs.lookup f with
 |none=>ř
 |some (.v _)=>ř
 |_=>Ś
def FlsR.setV(h:FlsR K Φ H fs vs o)(e:iW f fs=ř)(r:Rp K Φ d v):FlsR K Φ H (cU f (.v d) fs) (cH f v vs) o:=by
 induction h with
 |nil=>show .v r .nil
 |v A t p=>
  rename_i g y E u w x;change FlsR K Φ H (if g=f then _ else _) (if g=f then _ else _) _;by_cases c:g=f
  ·rw[JC c,JC c];show .v r t
  ·rw[Jv c,Jv c];refine .v A (p ?_);unfold iW at e ⊢;rw[J0,show (f==g)=Ś from MQ λz=>c z.symm]at e;show e
 |l a1 a2 t p=>
  rename_i g y F C u w x;change FlsR K Φ H (if g=f then _ else _) (if g=f then _ else _) _;by_cases c:g=f
  ·subst c;unfold iW at e;rw[J0,J3]at e;cases e
  ·rw[Jv c,Jv c];refine .l a1 a2 (p ?_);unfold iW at e ⊢;rw[J0,show (f==g)=Ś from MQ λz=>c z.symm]at e;show e
 |al t p=>
  rename_i g B u w x;change FlsR K Φ H (if g=f then _ else _) (if g=f then _ else _) _;by_cases c:g=f
  ·subst c;unfold iW at e;rw[J0,J3]at e;cases e
  ·rw[Jv c,Jv c];refine .al (p ?_);unfold iW at e ⊢;rw[J0,show (f==g)=Ś from MQ λz=>c z.symm]at e;show e
def FlsR.setL{q:Addr}(h:FlsR K Φ H fs vs o)(u:fs.lookup f=ŗ)(E:H q=Z (.lst j))(r:RpL K Φ ds j):FlsR K Φ H (cU f (.l ds) fs) (cH f (.ref q) vs) (o++[q]):=by
 have p:∀{g:Str}{y:Fl}{r:Y (Str×Fl)},List.lookup f ((g,y)::r)=ŗ->g≠f/\r.lookup f=ŗ:=λ{g y r} e=>by
  rw[J0]at e
  cases c:f==g with
  |true=>rw[c]at e;cases e
  |false=>rw[c]at e;show⟨(λz=>by rw[z,J3]at c;cases c),e⟩
 induction h with
 |nil=>show .l E r .nil
 |v F t w=>
  rename_i g C J x A B;let⟨c,u⟩:=p u;change FlsR K Φ H (if g=f then _ else _) (if g=f then _ else _) _;rw[Jv c,Jv c];show .v F (w u)
 |l a1 a2 t w=>
  rename_i g C L I x A B;let⟨c,u⟩:=p u;change FlsR K Φ H (if g=f then _ else _) (if g=f then _ else _) _;rw[Jv c,Jv c];show .l a1 a2 (w u)
 |al t w=>
  rename_i g G x A B;let⟨c,u⟩:=p u;change FlsR K Φ H (if g=f then _ else _) (if g=f then _ else _) _;rw[Jv c,Jv c];show .al (w u)
def FlsR.len(h:FlsR K Φ H fs vs o):vs.length=fs.length:=by have:=Kf List.length h.names;rwa [Jp,Jp]at this
end
section
variable{K:Â}{X:Cx}{c h Φ H:Hp}{j l:St}{ρ o:ak}{w:XD->ak->Prop}{a:Ř Addr}{nm f:Str}{fs:Y (Str×Fl)}{ds:Y D}{i:Nat}{C:Addr}
def EnvM.flist(E:EnvM K h Φ H j ρ)(g:Gr c h Φ H)(L:Ò K Á nm=Z (Z (.ref C)))(hi:ρ[i]?=Z (Z (.ob a (.obj nm fs))))(b_:fs.lookup f=Z (.l ds)):∃p y vs q x,j[i]?=Z (Z (.ref p))/\H p=Z (.ins C y vs)/\vs.lookup f=Z (.ref q)/\H q=Z (.lst x)/\RpL K Φ ds x /\
  ∀(es:Y D)(v:Y V),RpL K Φ es v->EnvM K h Φ (ap H q (.lst v)) j (ρ.set i (Z (.ob a (.obj nm (cU f (.l es) fs)))))/\Gr c h Φ (ap H q (.lst v)):=by
 let⟨J,E⟩:=E;let⟨p,e,_,r⟩:=E.ow i a _ hi;let⟨C',y,vs,qs,I,F,G,Q,nd⟩:=r.obj_inv;rw[L]at F;cases F;rw[JZ]at nd;let⟨q,x,U,N,a_,be,l5⟩:=Q.look nd.2 b_
 have B:q∈J i:=by rw[I];show Jy _ N
 have A:p≠q:=λz=>nd.1 (z▸N);refine⟨p,y,vs,q,x,e,G,U,a_,be,λes v O=>?_⟩
 have M:∀b u,H b=Z u->b∉J i->ap H q (.lst v) b=Z u:=λb u e T=>by
  rwa[aY λz=>T (by rw[z];show B)]
 refine⟨⟨_,E.put hi e M (F':=p::qs) (.obj L ((aY A).trans G) (l5 _ es v (λb R P u hu=>by rwa[aY P]) bo O) (JZ.mpr nd)) λb R=>.inl (by rwa[I])⟩,E.grput g hi M⟩
def StM.flist(Q:StM K X c h Φ H j l ρ o w)(G:Ò K Á nm=Z (Z (.ref C)))(hi:ρ[i]?=Z (Z (.ob a (.obj nm fs))))(I:fs.lookup f=Z (.l ds)):∃p v vs q u,j[i]?=Z (Z (.ref p))/\H p=Z (.ins C v vs)/\vs.lookup f=Z (.ref q)/\H q=Z (.lst u)/\RpL K Φ ds u /\
  ∀(es:Y D)(g:Y V),RpL K Φ es g->StM K X c h Φ (ap H q (.lst g)) j l (ρ.set i (Z (.ob a (.obj nm (cU f (.l es) fs))))) o w:=by
 have x:=aC hi;let⟨p,v,vs,q,u,e,z,A,B,E,F⟩:=Q.E.flist (i:=i) Q.g G (by rwa[Js x]) I;rw[Js (by rwa[←Q.l])]at e;refine⟨p,v,vs,q,u,e,z,A,B,E,λes g r=>?_⟩;let⟨y,J⟩:=F es g r;refine⟨J,by rw[Ju];show Q.l,?_,Q.x⟩;rw[Lj _ _ x]at y;show y
def EnvM.fsetV{d:D}{v:V}(E:EnvM K h Φ H j ρ)(g:Gr c h Φ H)(I:Ò K Á nm=Z (Z (.ref C)))(hi:ρ[i]?=Z (Z (.ob a (.obj nm fs))))(O:iW f fs=ř)(r:Rp K Φ d v):∃p x vs,j[i]?=Z (Z (.ref p))/\H p=Z (.ins C x vs)/\vs.length=fs.length /\
  EnvM K h Φ (ap H p (.ins C x (cH f v vs))) j (ρ.set i (Z (.ob a (.obj nm (cU f (.v d) fs)))))/\Gr c h Φ (ap H p (.ins C x (cH f v vs))):=by
 let⟨G,E⟩:=E;let⟨p,e,_,R⟩:=E.ow i a _ hi;let⟨U,x,vs,Q,F,A,N,B,nd⟩:=R.obj_inv;rw[I]at A;cases A
 have M:p∈G i:=by rw[F];show JA
 have J:∀b u,H b=Z u->b∉G i->ap H p (.ins C x (cH f v vs)) b=Z u:=λb u e P=>by
  rwa[aY λz=>P (by rw[z];show M)]
 have y:=nd;rw[JZ]at y;refine⟨p,x,vs,e,N,B.len,⟨_,E.put hi e J (F':=p::Q) (.obj I bo ((B.setV O r).keep (Same.refl _) λb L u T=>by rwa[aY (show b≠p from λz=>y.1 (by rw[←z];show L))]) nd) λb L=>.inl (by rwa[F])⟩,E.grput g hi J⟩
end
noncomputable def mw(ρ:ak)(i:Nat)(nm f:Str)(k:Ř Addr->Y (Str×Fl)->Y D->Prop):Prop:=∃a fs ds,ρ[i]?=Z (Z (.ob a (.obj nm fs)))/\fs.lookup f=Z (.l ds)/\k a fs ds
section
variable{K:Â}{X:Cx}{e a b:Ã}{z:TX}{t tb:TD}{u h o y l A:Ö}{x nm f:Str}{C:Addr}
noncomputable def D6(i:Nat)(nm f:Str)(t:TD):bA:=λc ρ=>mw ρ i nm f λa fs ds=>t (eK ρ) λd=>NoL d/\ds.length<sizeLine/\NF (cU f (.l (ds++[d])) fs) λg=>c.nx (ρ.set i (Z (.ob a (.obj nm g))))
def px(i:Nat)(c:Cls K C)(nA:NoAttr K C f)(O:Ò K Á nm=Z (Z (.ref C)))(he:PD K X e t)(be:((backTo y (starEach [e] X.env)).all (λx=>!x.1)&&(Þ y (Ô [] X.env)).all (λx=>x.1.isSome)&&decide (([e]:Y Ã).length+([]:Y Ù).length+(if ([]:Y Ù).isEmpty then 0 else 1)<30))=ř)
  (B:starEach [e] X.env=(Ś,eval e X.env)::starEach [] X.env) (hN:X.N[i]?=Z x:=by rfl) (hv:cL X.env.scope x:=by nofun) (hd:ab x:=by decide) (U:fI x:=by decide)
  (RH:Ë (.Name x h) f X.env (eval (.Name x h) X.env)=eval (.Name x h) X.env:=by rfl)
  (Oq:Ë (.Attribute (.Name x h) f l) "append" X.env (eval (.Attribute (.Name x h) f l) X.env)=eval (.Attribute (.Name x h) f l) X.env:=by rfl) (Ot:(o.endLine==y.line)=ř:=by rfl) (hs:Î (.Call (.Attribute (.Attribute (.Name x h) f l) "append" o) [e] [] y) ŗ u.line X.env=pure Ś:=by rfl) :
  PSM K X (.Expr (.Call (.Attribute (.Attribute (.Name x h) f l) "append" o) [e] [] y) u) (D6 i nm f t):=
 ⟨λP=>(jL (jA La Mh Mi nF (lf P (pv i hN hv hd U) RH) (eU (he.pe P) pa_nil B) Oq be Ot B ae) hs).imp λE σ H a_=>by
  let⟨Φ0,T,Φ,ρ,De,g,V,⟨a0,OS,VB,R,Q,t⟩,k⟩:=a_;have b_:=du g V k.ex;let⟨p,dx,vs,q,ws,L,M,N,h3,rl,_⟩:=b_.flist O R Q;let⟨fp,E0⟩:=id V;refine⟨_,L,p,C,dx,vs,.ref q,S,M,c,nA,N,.inl ⟨S,ws,SqL.of h3⟩,T,_,eK ρ,_,E0.view,t,λd Φ1 H1 v r j rv=>?_⟩;have S1:=b_.gr (jt E0.fz j);let⟨p',VC,VD,q',Oy,F,w,G,Rm,I,k1⟩:=S1.flist O R Q;rw[L]at F;cases F;rw[j.h _ _ M]at w;cases w;rw[N]at G;cases G;have J:=k1 _ _ (I.append (.one (rv.thawN (view_same.trans j.f) r.1)))
  show⟨q,Oy,v,S,S,Rm,by rw[I.1];show r.2.1,k.nx _ _ _ σ r.2.2.get J.g J.env⟩⟩
noncomputable def yp(i:Nat)(nm f:Str)(t:TD):TX:=λρ R _=>mw ρ i nm f λa fs ds=>t (eK ρ) λn=>∃(j:Nat)(d:D),n=.int (j:Int)/\j<2^62/\ds[j]?=Z d/\NF (cU f (.l (ds.eraseIdx j)) fs) λc=>R (.v d) (ρ.set i (Z (.ob a (.obj nm c))))
def uS(i:Nat)(c:Cls K C)(nA:NoAttr K C f)(O:Ò K Á nm=Z (Z (.ref C)))(he:PD K X e t)(OU:((backTo y (starEach [e] X.env)).all (λx=>!x.1)&&(Þ y (Ô [] X.env)).all (λx=>x.1.isSome)&&decide (([e]:Y Ã).length+([]:Y Ù).length+(if ([]:Y Ù).isEmpty then 0 else 1)<30))=ř)
  (E:starEach [e] X.env=(Ś,eval e X.env)::starEach [] X.env) (hN:X.N[i]?=Z x:=by rfl) (g:cL X.env.scope x:=by nofun) (hd:ab x:=by decide) (be:fI x:=by decide)
  (RH:Ë (.Name x h) f X.env (eval (.Name x h) X.env)=eval (.Name x h) X.env:=by rfl)
  (Oq:Ë (.Attribute (.Name x h) f l) "pop" X.env (eval (.Attribute (.Name x h) f l) X.env)=eval (.Attribute (.Name x h) f l) X.env:=by rfl) (Ot:(o.endLine==y.line)=ř:=by rfl):PX K X (.Call (.Attribute (.Attribute (.Name x h) f l) "pop" o) [e] [] y) (yp i nm f t):=
 ⟨λP=>(jA La PySem.F.slot_list_pop PySem.F.type_list_pop HV (lf P (pv i hN g hd be) RH) (eU (he.pe P) pa_nil E) Oq OU Ot E ae).imp λσ H Q NT=>by
  let⟨Φ0,a_,Φ,τ,ρ,κ,R,Rx,b_,⟨a0,OS,VB,U,T,t⟩,k⟩:=NT;let⟨p,dx,vs,q,ws,J,M,N,h3,rl,_⟩:=b_.flist O U T;let⟨fp,E0⟩:=b_.env;refine⟨_,J,p,C,dx,vs,.ref q,S,M,c,nA,N,.inl ⟨S,ws,SqL.of h3⟩,a_,_,eK ρ,_,E0.view,t,λn Φ1 H1 v r L w=>?_⟩;let⟨j,d,rfl,h62,hj,r⟩:=r;obtain rfl:=w.i;have g':=jt E0.fz L;have S1:=b_.gr g';let⟨p',VC,VD,q',Oy,F,B,G,Rm,I,k1⟩:=S1.flist O U T;rw[J]at F;cases F;rw[L.h _ _ M]at B;cases B;rw[N]at G;cases G;let⟨v,g,w⟩:=I.at hj;have S2:=k1 _ _ (I.eraseIdx j)
  show⟨q,Oy,_,j,v,S,S,Rm,(),(),CL (aC g),g,k _ _ _ _ v r.get (S2.pushV w) g'.f⟩⟩
noncomputable def zC(i:Nat)(nm f:Str)(z:TX)(tb:TD):bA:=λg ρ=>z ρ (xV λd c=>mw c i nm f λa fs ds=>tb (eK c) λr=>∃n j,r=.int n/\fv ds.length n=Z j/\NF (cU f (.l (ds.set j d)) fs) λp=>g.nx (c.set i (Z (.ob a (.obj nm p))))) g.ex
def iX(i:Nat)(c:Cls K C)(nA:NoAttr K C f)(be:Ò K Á nm=Z (Z (.ref C)))(he:PX K X e z)(hk:PD K X b tb)(hN:X.N[i]?=Z x:=by rfl)(hv:cL X.env.scope x:=by nofun)(hd:ab x:=by decide)(N4:fI x:=by decide)
  (RH:Ë (.Name x h) f X.env (eval (.Name x h) X.env)=eval (.Name x h) X.env:=by rfl)
  (ha:∀v,assign (.Subscript (.Attribute (.Name x h) f l) b A) X.env v=(do
   let ov ←holding [v] (eval (.Attribute (.Name x h) f l) X.env)
   let iv ←holding [v,ov] (eval b X.env)
   standAt A
   holding [v,ov,iv] (setItem ov iv v)
   release [v,ov,iv] []):=by intro _;rfl)
  (hs:è [.Subscript (.Attribute (.Name x h) f l) b A] e u.line X.env=pure Ś:=by rfl) (hw:é [.Subscript (.Attribute (.Name x h) f l) b A] e X.env=pure ŗ:=by rfl)
  (F:(Æ [.Subscript (.Attribute (.Name x h) f l) b A] X.env).map (·.2)=[assign (.Subscript (.Attribute (.Name x h) f l) b A) X.env]:=by rfl) :
  PSM K X (.Assign [.Subscript (.Attribute (.Name x h) f l) b A] e u) (zC i nm f z tb):=
 ⟨λG=>(nB (he.pe G) (wc (lf G (pv i hN hv hd N4) RH) (hk.pe G) qR ha) hs hw F).imp λE σ H NT=>by
  let⟨L,N,Φ,ρ,De,g,V,t,k⟩:=NT;refine⟨L,N,Φ,[],ρ,[],_,De.ex,du g V k.ex,t,λs M Φ1 H1 v r B _=>?_⟩;let⟨d,rfl,a0,OS,VB,ho,hf,r⟩:=r.get;have rv:=B.last;let⟨p,dx,vs,q,ws,T,F,a_,h3,rl,_⟩:=B.flist be ho hf;let⟨fp,E0⟩:=B.env;refine⟨_,T,p,C,dx,vs,.ref q,S,F,c,nA,a_,N,_,eK M,_,E0.view,r,λn Φ2 H2 w I U J=>?_⟩;let⟨n,j,rfl,hj,I⟩:=I;obtain rfl:=J.i;have g':=jt E0.fz U;have S2:=B.gr g';let⟨p',VC,VD,q',Oy,P,O,Q,Rm,R,k1⟩:=S2.flist be ho hf;rw[T]at P;cases P;rw[U.h _ _ F]at O;cases O;rw[a_]at Q;cases Q;have b_:=k1 _ _ (R.set (rv.same g'.f) j)
  show⟨q,Oy,n,j,S,S,Rm,by rwa[R.1],k.nx _ _ _ σ I.get b_.g b_.env⟩⟩
noncomputable def yV(i:Nat)(nm f:Str)(z:TX):bA:=λg ρ=>z ρ (xV λd c=>∃a fs,c[i]?=Z (Z (.ob a (.obj nm fs)))/\iW f fs=ř/\fs.length<1000/\NF (cU f (.v d) fs) λj=>g.nx (c.set i (Z (.ob a (.obj nm j))))) g.ex
def eZ(i:Nat)(c:Cls K C)(nA:NoAttr K C f)(R:Ò K Á nm=Z (Z (.ref C)))(U:PX K X e z)(b_:X.N[i]?=Z x:=by rfl)(hv:cL X.env.scope x:=by nofun)(hd:ab x:=by decide)(L:fI x:=by decide)
  (be:Î e (Z (.Attribute (.Name x h) f l)) u.line X.env=pure Ś:=by rfl):PSM K X (.Assign [.Attribute (.Name x h) f l] e u) (yV i nm f z):=
 ⟨λw=>(pT (f:=f) (pv i b_ hv hd L) (U.pe w) be).imp λE σ H M=>by
  let⟨B,J,Φ,ρ,G,g,V,t,k⟩:=M;refine⟨B,J,Φ,[],ρ,[],_,G.ex,du g V k.ex,t,λs ρ1 F H1 v r j _=>?_⟩;let⟨d,rfl,a0,OS,a_,T,hl,r⟩:=r.get;let⟨p,N,vs,O,P,Q,I,g'⟩:=j.env.fsetV (f:=f) j.g R a_ T j.last
  show⟨_,O,p,C,N,vs,S,P,w▸c,w▸nA,by rwa[Q],k.nx _ F _ σ r.get g' I⟩⟩
end
def FlsR.lookN{K:Â}{Φ H:Hp}{fs:Y (Str×Fl)}{vs:Y (Str×V)}{u:Y Addr}{f:Str}(h:FlsR K Φ H fs vs u)(j:fs.lookup f=ŗ):vs.lookup f=ŗ:=by
 have a:∀{p:Type}{g:Str}{y:p}{r:Y (Str×p)},List.lookup f ((g,y)::r)=ŗ->(f==g)=Ś/\r.lookup f=ŗ:=λ{p g y r} e=>by
  rw[J0]at e
  cases c:f==g with
  |true=>rw[c]at e;cases e
  |false=>rw[c]at e;show⟨S,e⟩
 induction h with
 |nil=>rfl
 |v r t o=>let⟨c,j⟩:=a j;rw[J0,c];show o j
 |l a1 a2 t o=>let⟨c,j⟩:=a j;rw[J0,c];show o j
 |al t o=>let⟨c,j⟩:=a j;rw[J0,c];show o j
structure MthM(P:Å)(w:È)(K:Â)(mg:Str->Option Value)(base:Heap)(n:Nat)(C:Addr)(m:Str)(ps:List Str)(z:eh):Prop where
 ex:∃(f:Addr)(fd:Í),FnOk P w K mg base aG n f fd ps (lSpM K z)/\Binds K fd ps []/\Meth K C m f
structure MkM(P:Å)(w:È)(K:Â)(mg:Str->Option Value)(base:Heap)(n:Nat)(C:Addr)(ps:List Str)(z:eh):Prop where
 ex:∃(f:Addr)(fd:Í),FnOk P w K mg base aG n f fd ps (lSpM K z)/\Binds K fd ps []/\Mk K C f
section
variable{K:Â}{X:Cx}{e:Ã}{es:Y Ã}{g p j w:Ö}{l:cV}{C:Addr}{nm m x:Str}
noncomputable def Fx(i:Nat)(nm m:Str)(z:eh)(l:cV):TX:=λρ R f=>(∃a fs,ρ[i]?=Z (Z (.ob a (.obj nm fs)))/\fs.lookup m=ŗ)/\l ρ (λas c=>CallM z R f (.s i::as) c) f
def eR(i:Nat){n:Nat}{ps:Y Str}{z:eh}{pl:Sem Bool}(M:MthM X.prog X.w K X.mg X.base n C m ps z)(hr:Room n X.A)(c:Cls K C)(hC:Ò K Á nm=Z (Z (.ref C)))
  (ha:PXA K X (e::es) l) (he:starEach (e::es) X.env=(Ś,eval e X.env)::starEach es X.env) (Ox:(backTo g (starEach es X.env)).any (·.1)=Ś)
  (ht:eval (.Call (.Attribute (.Name x w) m j) (e::es) [] g) X.env=(do
   let ov ←eval (.Name x w) X.env
   standAt j.atName
   let (f,first) ←holding [ov] (getMethod ov m pl)
   callWith g f first (backTo g (starEach (e::es) X.env)) (Þ g (Ô [] X.env))):=by rfl)
  (hN:X.N[i]?=Z x:=by rfl) (A:cL X.env.scope x:=by nofun) (hd:ab x:=by decide) (U:fI x:=by decide) :
  PX K X (.Call (.Attribute (.Name x w) m j) (e::es) [] g) (Fx i nm m z l):=⟨λh=>by
 let⟨f,fd,F,b,hm⟩:=M.ex;refine (vD (dvs:=[]) (ds:=[]) (E:=E0) (pl:=pl) (pv i hN A hd U) (h▸c) (h▸hm) (h▸F:FnOk X.prog X.w X.K X.mg X.base aG n f fd ps (lSpM K z)) hr (h▸b) .nil js (ha.pa h) he Ox ht).imp λσ H Q a_=>?_;let⟨G,T,Φ,τ,ρ,κ,R,Rx,b_,⟨⟨a,fs,y,O⟩,t⟩,k⟩:=a_;let⟨fp,E⟩:=b_.env;let⟨q,N,_,ro⟩:=E.ow i a _ y;let⟨C',dx,vs,qs,eF,L,c2,c3,nd⟩:=ro.obj_inv;rw[hC]at L;cases L;refine⟨_,N,q,dx,vs,S,c2,c3.lookN O,G,T,Φ,τ,ρ,κ,_,Rx,b_,t,λas ρ1 I H1 us ts B O A u f1=>?_⟩;let⟨Ou,QQ,Pn,B⟩:=B;let⟨P,g1,g2,g3,g4⟩:=u.lend (as:=.s i::as) b_.lk QQ (.s N A) Pn;rw[J5]
 show⟨I,Ou,P,_,_,u.g.s,u.E.tb,g1,g2,g3,B,λsm os o J v F OB r gr Oo y hn be=>k sm _ o J v r (g4 sm os o J v F OB gr Oo y hn be) (f1.trans gr.f)⟩⟩
noncomputable def Bg(nm:Str)(z:eh)(l:cV):TX:=λρ R c=>l ρ (xaD λds a=>z (.ob ŗ (.obj nm [])::ds.map Sm.v) (λsm os=>match sm,os with|.v .non,[o]=>R (.ob ŗ o) a|_,_=>False) (λ_ _=>False)) c
theorem wV{Φ H:Hp}:∀{ds:Y D}{vs:Y V},RpL K Φ ds vs->ArgM K Φ H (ds.map Sm.v) vs (ds.map λ_=>[])
 | [],[],_=>.nil
 | [],_::_,h=>by cases h.1
 |_::_,[],h=>by cases h.1
 |d::ds,v::vs,h=>.v (h.2 0 v d S S) (wV ⟨by have:=h.1;simpa using this,λi c d' a hd=>h.2 (i+1) c d' a hd⟩)
theorem uz{Φ H:Hp}:∀{ds:Y D}{vs:Y V}{os:Y Om}{a:Y (Y Addr)},OutM K Φ H (ds.map Sm.v) vs os a->os=[]/\a.flatten=[]
 | [],_,_,_,.nil=>⟨S,S⟩
 |_::ds,_,_,_,.v h=>by let⟨c,f⟩:=uz (ds:=ds) h;show⟨c,by rw[Kb,f];rfl⟩
theorem nv{a c:Type}:∀(ds:Y a),(ds.map λ_=>([]:Y c)).flatten=[]
 | []=>rfl
 |_::ds=>by rw[JV,Kb,nv ds];rfl
def mZ{n:Nat}{ps:Y Str}{z:eh}(M:MkM X.prog X.w K X.mg X.base n C ps z)(hr:Room (n+1) X.A)(hg:Gl X x)(hm:X.mg x=Z (.ref C))(hC:Ò K Á x=Z (Z (.ref C)))
  (ha:PXA K X (e::es) l) (he:starEach (e::es) X.env=(Ś,eval e X.env)::starEach es X.env) (Ox:(backTo g (starEach es X.env)).any (·.1)=Ś) (O9:ab x:=by decide) :
  PX K X (.Call (.Name x p) (e::es) [] g) (Bg x z l):=⟨λJ=>by
 let⟨f,fd,F,b,mk⟩:=M.ex;refine (Cm (dvs:=[]) (ds:=[]) (E:=E0) (J▸mk) (J▸F:FnOk X.prog X.w X.K X.mg X.base aG n f fd ps (lSpM K z)) hr hg hm (J▸b) .nil js (ha.pa J) O9 he Ox).imp λσ H Q NT=>?_;let⟨U,H0,Φ,τ,ρ,κ,R,Rx,b_,t,k⟩:=NT;refine⟨U,H0,Φ,τ,ρ,κ,_,Rx,b_,t,λas a_ I a vs ts T hl hv h f1=>?_⟩;let⟨ds,hd,T⟩:=T.get;have rl:=h.vals b_.lk hd hv;intro y A P N Oh;rw[J5]
 have B:∀b u,a b=Z u->ap (ap a A (.own y)) y (.ins C A []) b=Z u:=λb u e=>by rwa[aY (cY e P),aY (cY e N)]
 refine⟨I,_,_,_,_,λb u e=>B b u (h.g.s b u e),h.E.tb,.o (.obj hC bo .nil (by simp)) (wV rl),?_,λb L=>?_,T,λsm os G be v F OB r gr Oo ho hn O2=>?_⟩
 ·rw[Kb,nv];simp
 ·rw[Kb,nv,J5,JB]at L;rw[L];show h.g.s.free P
 ·split at r
  ·next o=>
   cases Oo with
   |v rv=>
    obtain rfl:=rv.n
    cases ho with
    |o QR O7=>
     rename_i F' OB;let⟨_,eF⟩:=uz O7
     have O:(([y]:Y Addr)::ds.map λ_=>([]:Y Addr)).flatten=[y]:=by rw[Kb,nv];rfl
     rw[O]at gr O2
     have up:∀b u,a b=Z u->cm (ap (ap a A (.own y)) y (.ins C A [])) [y] b=Z u:=λb u e=>by rw[gM λz=>cY e P (JB.mp z)];show B b u e
     have g':Gr I a G be:=⟨gr.f,λb u e=>gr.h b u (up b u e),gr.s,λb u h1 h2 k=>gr.o b u (up b u h1) h2 k⟩;refine⟨S,k _ a_ G be _ r ((h.pop b_.lk).pushO g' QR λb L=>?_) (f1.trans gr.f)⟩;let⟨z1,z2⟩:=O2 b (by rw[L7,Kb];show JT.mpr (.inl L));refine⟨?_,z2⟩;by_cases c:b=y
     ·rwa[c]
     ·rw[gM (by simpa using c),aY c]at z1;by_cases c2:b=A
      ·rwa[c2]
      ·rwa [aY c2]at z1
  ·show r.elim⟩
end
section
variable{K:Â}{y H B Φ A:Hp}{w:St}{ρ:ak}{l:Nat->Y Addr}{F':Y Addr}{o o':Om}{p:Addr}{d:D}{v:V}{i:Nat}{a:Ř Addr}
def EnvM'.put2(E:EnvM' K y Φ H w ρ l)(hi:ρ[i]?=Z (Z (.ob a o)))(R:w[i]?=Z (Z (.ref p)))(O:∀b u,H b=Z u->b∉l i->B b=Z u)(be:OmS K Φ B o' p F')(N:∀b∈F',b∈l i\/(y b=ŗ/\Φ b=ŗ/\∀(j:Nat)(a':Ř Addr)(g:Om),ρ[j]?=Z (Z (.ob a' g))->b∉l j)) :
  EnvM' K y Φ B w (ρ.set i (Z (.ob a o'))) (λj=>if j=i then F' else l j):=by
 have a_:=aC hi
 have J:∀{j:Nat}{x:Sm},(ρ.set i (Z (Sm.ob a o')))[j]?=Z (Z x)->(j=i/\x=.ob a o')\/(j≠i/\ρ[j]?=Z (Z x)):=λ{j x} h=>by
  rcases cN h with⟨e,_,b_⟩|⟨e,h⟩
  ·cases b_;show .inl ⟨e,S⟩
  ·show .inr ⟨e,h⟩
 have P:∀b∈F',∀(j:Nat)(a':Ř Addr)(g:Om),ρ[j]?=Z (Z (.ob a' g))->j≠i->b∉l j:=λb f j a' g C c z=>by
  rcases N b f with h|⟨_,_,h⟩
  ·show E.dj j i a' a g o C hi c b z h
  ·show h j a' g C z
 refine⟨λb u e=>O b u (E.fz b u e) λz=>?_,by rw[Ju,E.len],λj d h=>?_,λj a' g h=>?_,λj a' g h b f=>?_,λj k a1 a2 Q g C F c b f I=>?_,E.tb⟩
 ·rw[(E.no i a o hi b z).2]at e;cases e
 ·rcases J h with⟨_,h⟩|⟨_,h⟩
  ·cases h
  ·show E.sl j d h
 ·rcases J h with⟨c,h⟩|⟨c,h⟩
  ·cases h;subst c;let⟨q,e,M,_⟩:=E.ow j a o hi;rw[R]at e;cases e;show⟨p,R,M,by rwa[JC S]⟩
  ·let⟨q,e,M,r⟩:=E.ow j a' g h;refine⟨q,e,M,?_⟩;rw[Jv c];show r.keep (Same.refl _) λb f u T=>O b u T λz=>E.dj j i a' a g o h hi c b f z
 ·rcases J h with⟨c,h⟩|⟨c,h⟩
  ·rw[JC c]at f;rcases N b f with z|⟨U,X,_⟩
   ·show E.no i a o hi b z
   ·show⟨U,X⟩
  ·rw[Jv c]at f;show E.no j a' g h b f
 ·rcases J C with⟨L,C⟩|⟨L,C⟩
  ·rw[JC L]at f;rcases J F with⟨G,F⟩|⟨G,F⟩
   ·omega
   ·rw[Jv G]at I;show P b f k a2 g F G I
  ·rw[Jv L]at f;rcases J F with⟨G,F⟩|⟨G,F⟩
   ·rw[JC G]at I;show P b I j a1 Q C L f
   ·rw[Jv G]at I;show E.dj j k a1 a2 Q g C F c b f I
def EnvM.fsetL{nm f:Str}{fs:Y (Str×Fl)}{ds:Y D}{C:Addr}{a':Ř Addr}(E:EnvM K y Φ H (w++[Z v]) (ρ++[Z (.ob a' (.lst ds))]))(be:ρ.length=w.length)(g:Gr A y Φ H)(U:Ò K Á nm=Z (Z (.ref C)))(hi:ρ[i]?=Z (Z (.ob a (.obj nm fs))))(P:fs.lookup f=ŗ):∃p F vs,w[i]?=Z (Z (.ref p))/\H p=Z (.ins C F vs)/\vs.length=fs.length /\
  EnvM K y Φ (ap H p (.ins C F (cH f v vs))) w (ρ.set i (Z (.ob a (.obj nm (cU f (.l ds) fs)))))/\Gr A y Φ (ap H p (.ins C F (cH f v vs))):=by
 let⟨l,E⟩:=E
 have L:(ρ++[Z (Sm.ob a' (.lst ds))])[ρ.length]?=Z (Z (.ob a' (.lst ds))):=by rw[Jq (Jx _),J6];rfl
 let⟨q,eq,_,rq⟩:=E.ow _ _ _ L
 have ev:v=.ref q:=by rw[be,Jq (Jx _),J6]at eq;cases eq;rfl
 subst ev;let⟨O,ws,q1,q2⟩:=rq.lst_inv
 have hq:q∈l ρ.length:=by rw[O];show JB.mpr S
 have I:=E.no _ _ _ L q hq
 have up:∀{j:Nat}{x:Sm},ρ[j]?=Z (Z x)->(ρ++[Z (Sm.ob a' (.lst ds))])[j]?=Z (Z x):=λh=>by rwa[Js (aC h)]
 have G:∀(j:Nat)(a2:Ř Addr)(Q:Om),ρ[j]?=Z (Z (.ob a2 Q))->q∉l j:=λj a2 Q a_ z=>E.dj j ρ.length a2 a' Q _ (up a_) L (by have:=aC a_;omega) q z hq;have J:EnvM' K y Φ H w ρ l:=E.take be;let⟨p,e,_,ro⟩:=J.ow i a _ hi;let⟨C',F,vs,R,N,b_,c2,T,nd⟩:=ro.obj_inv;rw[U]at b_;cases b_
 have Tt:p∈l i:=by rw[N];show JA
 have X:∀b u,H b=Z u->b∉l i->ap H p (.ins C F (cH f (.ref q) vs)) b=Z u:=λb u e hn=>by
  rwa[aY λz=>hn (by rw[z];show Tt)]
 have QO:=nd;rw[JZ]at QO
 have Vk:q∉p::R:=by rw[←N];show G i a _ hi
 have M:(p::(R++[q])).Nodup:=by rw[←List.cons_append,KP];show⟨nd,by simp,λb r c P z=>by rw[JB.mp P]at z;show Vk (z▸r)⟩
 refine⟨p,F,vs,e,c2,T.len,⟨_,J.put2 hi e X (F':=p::(R++[q])) (.obj U bo ((T.setL P q1 q2).keep (Same.refl _) λb r u hu=>?_) M) λb r=>?_⟩,J.grput g hi X⟩
 ·rw[aY (show b≠p from λz=>?_)]
  ·show hu
  ·rw[JZ]at M;show M.1 (by rwa[←z])
 ·rw[←List.cons_append]at r;rcases JT.mp r with r|r
  ·show .inl (by rwa[N])
  ·rw[JB.mp r];show .inr ⟨I.1,I.2,G⟩
end
section
variable{K:Â}{X:Cx}{e a:Ã}{L:TX}{t:TD}{B A o J G:Ö}{x nm f:Str}{C:Addr}
noncomputable def FK(i:Nat)(nm f:Str)(L:TX):bA:=λg ρ=>L ρ (λs c=>match s with|.ob _ (.lst ds)=>(∃a fs,c[i]?=Z (Z (.ob a (.obj nm fs)))/\fs.lookup f=ŗ/\fs.length<1000/\NF (cU f (.l ds) fs) λh=>g.nx (c.set i (Z (.ob a (.obj nm h)))))|_=>False) g.ex
def ii(i:Nat)(c:Cls K C)(nA:NoAttr K C f)(Q:Ò K Á nm=Z (Z (.ref C)))(T:PX K X e L)(R:X.N[i]?=Z x:=by rfl)(be:cL X.env.scope x:=by nofun)(hd:ab x:=by decide)(F:fI x:=by decide)
  (a_:Î e (Z (.Attribute (.Name x A) f G)) B.line X.env=pure Ś:=by rfl):PSM K X (.Assign [.Attribute (.Name x A) f G] e B) (FK i nm f L):=
 ⟨λj=>(pT (f:=f) (pv i R be hd F) (T.pe j) a_).imp λE σ H I=>by
  let⟨l,z,Φ,ρ,w,g,V,t,k⟩:=I;refine⟨l,z,Φ,[],ρ,[],_,w.ex,du g V k.ex,t,λs ρ1 u H1 v r h _=>?_⟩;split at r
  ·next a1 ds=>
   let⟨a0,OS,U,b_,hl,r⟩:=r;let⟨p,M,vs,N,O,P,y,g'⟩:=EnvM.fsetL (f:=f) h.E h.l h.g Q U b_;show⟨_,N,p,C,M,vs,S,O,j▸c,j▸nA,by rwa[P],k.nx _ u _ σ r.get g' y⟩
  ·show r.elim⟩
noncomputable def Ab:V->Y V->Hp->VK->Prop:=λx vs H Q=>∃(l:Addr)(xs:Y V)(ns:Y Int)(i:Int)(k:Nat),x=.ref l/\vs=[.int i]/\H l=Z (.lst xs)/\xs=ns.map V.int/\ns[k]?=Z i/\(∀m<k,ns[m]?≠Z i)/\Q .non (ap H l (.lst (xs.eraseIdx k)))
def yq:mU X "list.remove" Ab:=by
 intro U s σ H x vs v us Q I rx rv h;let⟨l,xs,ns,i,k,rfl,rfl,P,ex,R,be,q⟩:=h;cases rx;let⟨u,rfl,ru⟩:=rv.one;let⟨t,rfl⟩:=ru;let⟨z,its,n,r,b_,e⟩:=I.lstM P;have Tu:k<ns.length:=aC R
 have g:∀(m:Nat)(y:Value),its[m]?=Z y->∃j t',ns[m]?=Z j/\y=.int j t':=λm y p=>by
  have c:m<xs.length:=by rw[b_];show aC p
  let⟨w,T,O⟩:=r.get (Km c);rw[p]at T;cases T
  have QZ:m<ns.length:=by rw[ex,Jp]at c;show c
  have:xs[m]=V.int ns[m]:=by subst ex;simp
  rw[this]at O;let⟨t',rfl⟩:=O;show⟨_,t',Km QZ,S⟩
 have hsz:its.toArray.size=xs.length:=by rw[JG,b_]
 have M:k<its.toArray.size:=by rwa[hsz,ex,Jp]
 refine LH F.slot_list_remove ⟨_,e,S⟩ F.entry_list_remove (F.args_list_remove_2 _ _)
  (MeetsSeq.list_remove l its.toArray n (.int i t) (λy=>match y with|.int j _=>j==i|_=>Ś) (λy p=>?_) k M ?_ (λm c a_=>?_) (by rwa[hsz])) ⟨e,?_⟩
 ·rw[List.mem_toArray]at p;let⟨m,c⟩:=Ko p;let⟨j,t',_,rfl⟩:=g m y c;show ĸ j i t' t
 ·let⟨j,t',E,N⟩:=g k _ (Km (by rw[JG]at M;show M));rw[R]at E;cases E;change (match its.toArray[k]with|.int j _=>j==i|_=>Ś)=ř;rw[List.getElem_toArray,N];show J3 i
 ·let⟨j,t',E,N⟩:=g m _ (Km (by rw[JG]at c;show c));change (match its.toArray[m]with|.int j _=>j==i|_=>Ś)=Ś;rw[List.getElem_toArray,N];show MQ λz=>be m a_ (by rw[E,z])
 ·refine⟨.non,_,I.lset (Oc:=its.eraseIdx k) P e ?_ (r.eraseIdx k) ?_,S,q⟩
  ·change its.toArray.eraseIdxIfInBounds k=(its.eraseIdx k).toArray;rw[MG]
  ·have:=pF xs k;omega
theorem nR{c g:Type}(f:c->g):∀(ns:Y c)(m:Nat),(ns.map f).eraseIdx m=(ns.eraseIdx m).map f
 | [],_=>rfl
 |_::_,0=>rfl
 |n::ns,m+1=>by change f n::(ns.map f).eraseIdx m=f n::(ns.eraseIdx m).map f;rw[nR f ns m]
theorem uU{Φ:Hp}:∀{ns:Y Int}{vs:Y V},RpL K Φ (ns.map D.int) vs->vs=ns.map V.int
 | [],[],_=>rfl
 | [],_::_,h=>by cases h.1
 |_::_,[],h=>by cases h.1
 |n::ns,v::vs,h=>by have c:=h.2 0 v (.int n) S S;obtain rfl:=c.i;rw[uU (ns:=ns) (vs:=vs) ⟨by have:=h.1;simpa using this,λi j d' g hd=>h.2 (i+1) j d' g hd⟩];rfl
noncomputable def BT(i:Nat)(nm f:Str)(t:TD):bA:=λc ρ=>mw ρ i nm f λa fs ds=>t (eK ρ) λd=>∃(ns:Y Int)(j:Int)(k:Nat),d=.int j/\ds=ns.map D.int/\ns[k]?=Z j/\(∀m<k,ns[m]?≠Z j)/\NF (cU f (.l ((ns.eraseIdx k).map D.int)) fs) λg=>c.nx (ρ.set i (Z (.ob a (.obj nm g))))
def DN(i:Nat)(c:Cls K C)(nA:NoAttr K C f)(T:Ò K Á nm=Z (Z (.ref C)))(he:PD K X e t)(OU:((backTo J (starEach [e] X.env)).all (λx=>!x.1)&&(Þ J (Ô [] X.env)).all (λx=>x.1.isSome)&&decide (([e]:Y Ã).length+([]:Y Ù).length+(if ([]:Y Ù).isEmpty then 0 else 1)<30))=ř)
  (y:starEach [e] X.env=(Ś,eval e X.env)::starEach [] X.env) (hN:X.N[i]?=Z x:=by rfl) (h:cL X.env.scope x:=by nofun) (hd:ab x:=by decide) (N4:fI x:=by decide)
  (RH:Ë (.Name x A) f X.env (eval (.Name x A) X.env)=eval (.Name x A) X.env:=by rfl)
  (Oq:Ë (.Attribute (.Name x A) f G) "remove" X.env (eval (.Attribute (.Name x A) f G) X.env)=eval (.Attribute (.Name x A) f G) X.env:=by rfl) (Ot:(o.endLine==J.line)=ř:=by rfl) (hs:Î (.Call (.Attribute (.Attribute (.Name x A) f G) "remove" o) [e] [] J) ŗ B.line X.env=pure Ś:=by rfl) :
  PSM K X (.Expr (.Call (.Attribute (.Attribute (.Name x A) f G) "remove" o) [e] [] J) B) (BT i nm f t):=
 ⟨λU=>(jL (jA La PySem.F.slot_list_remove PySem.F.type_list_remove yq (lf U (pv i hN h hd N4) RH) (eU (he.pe U) pa_nil y) Oq OU Ot y ae) hs).imp λE σ H NT=>by
  let⟨Φ0,H0,Φ,ρ,De,g,V,⟨a0,OS,VB,be,a_,t⟩,k⟩:=NT;have b_:=du g V k.ex;let⟨p,dx,vs,q,ws,N,Q,R,h3,rl,_⟩:=b_.flist T be a_;let⟨fp,E0⟩:=id V;refine⟨_,N,p,C,dx,vs,.ref q,S,Q,c,nA,R,.inl ⟨S,ws,SqL.of h3⟩,H0,_,eK ρ,_,E0.view,t,λd l H1 v r P rv=>?_⟩;let⟨ns,j,m,rfl,rfl,hm,O2,r⟩:=r;obtain rfl:=rv.i;have S1:=b_.gr (jt E0.fz P);let⟨p',VC,VD,q',u,z,w,F,Rm,Ra,k1⟩:=S1.flist T be a_;rw[N]at z;cases z;rw[P.h _ _ Q]at w;cases w;rw[R]at F;cases F;have O:=uU Ra
  have rE:RpL K (ga Φ l) ((ns.eraseIdx m).map D.int) (u.eraseIdx m):=by
   rw[O];have:(ns.map L2.V.int).eraseIdx m=(ns.eraseIdx m).map L2.V.int:=nR _ ns m;rw[this];refine⟨by simp,λi v d h hd=>?_⟩;rw[JF]at h hd
   cases M:(ns.eraseIdx m)[i]? with
   |none=>rw[M]at h;cases h
   |some n=>rw[M]at h hd;cases h;cases hd;show .int n
  have I:=k1 _ _ rE
  show⟨q,u,ns,j,m,S,S,Rm,O,hm,O2,k.nx _ _ _ σ r.get I.g I.env⟩⟩
end
section
variable{K:Â}{B H Φ A:Hp}{F:St}{ρ:ak}{w:Nat->Y Addr}{a:Ř Addr}{nm:Str}{fs:Y (Str×Fl)}{ds:Y (Str×D)}{k:Nat}
def EnvM'.fzO(E:EnvM' K B Φ H F ρ w)(g:Gr A B Φ H)(M:ρ[k]?=Z (Z (.ob a (.obj nm fs))))(be:eN fs=Z ds):∃p f,F[k]?=Z (Z (.ref p))/\(∀q,a=Z q->q=p)/\Rp K f (.obj nm ds) (.ref p)/\Gr A B f H/\Same Φ f/\EnvM' K B f H F (ρ.set k (Z (.v (.obj nm ds)))) w:=by
 let⟨p,J,a_,r⟩:=E.ow k a _ M;let⟨C,dx,vs,qs,P,T,U,X,_⟩:=r.obj_inv;have G:Same Φ (ed Φ H (w k)):=view_same;have N:∀b∈w k,∀u,H b=Z u->ed Φ H (w k) b=Z u:=λb y u hu=>wg y hu E.fz;let⟨k1,k2⟩:=tP be X G λb y=>N b (by rw[P];show Jy _ y);have Q:Rp K (ed Φ H (w k)) (.obj nm ds) (.ref p):=.obj T (N p (by rw[P];show JA) _ U) k1 k2
 have R:∀{b:Addr},Φ b=ŗ->b∉w k->ed Φ H (w k) b=ŗ:=λ{b} l I=>by
  cases e:ed Φ H (w k) b with
  |none=>rfl
  |some u=>
   rcases qg e with z|⟨z,_⟩
   ·rw[l]at z;cases z
   ·show absurd z I
 have O:∀{j:Nat}{x:Sm},(ρ.set k (Z (Sm.v (.obj nm ds))))[j]?=Z (Z x)->(j=k/\x=.v (.obj nm ds))\/(j≠k/\ρ[j]?=Z (Z x)):=λ{j x} h=>by
  rcases cN h with⟨e,_,J⟩|⟨e,h⟩
  ·cases J;show .inl ⟨e,S⟩
  ·show .inr ⟨e,h⟩
 have L:∀{j:Nat}{a':Ř Addr}{o:Om},(ρ.set k (Z (Sm.v (.obj nm ds))))[j]?=Z (Z (.ob a' o))->j≠k/\ρ[j]?=Z (Z (.ob a' o)):=λ{j a' o} h=>by
  rcases O h with⟨_,z⟩|z
  ·cases z
  ·show z
 refine⟨p,_,J,a_,Q,⟨g.f.trans G,g.h,qI E.fz,λb u l I kk=>R (g.o b u l I kk) λz=>by rw[(E.no k a _ M b z).1]at l;cases l⟩,G,?_⟩;refine⟨qI E.fz,by rw[Ju,E.len],λj d h=>?_,λj a' o h=>?_,λj a' o h b y=>?_,λj j2 a1 a2 o1 o2 l I c=>E.dj j j2 a1 a2 o1 o2 (L l).2 (L I).2 c,E.tb.same G⟩
 ·rcases O h with⟨c,z⟩|⟨c,z⟩
  ·cases z;subst c;show⟨_,J,Q⟩
  ·let⟨v,e,r⟩:=E.sl j d z;show⟨v,e,r.same G⟩
 ·let⟨c,z⟩:=L h;let⟨q,e,b_,r'⟩:=E.ow j a' o z;show⟨q,e,b_,r'.keep G λ_ _ _ h=>h⟩
 ·let⟨c,z⟩:=L h;show⟨(E.no j a' o z b y).1,R (E.no j a' o z b y).2 (E.dj j k a' a o _ z M c b y)⟩
def FlsR.setA{vs:Y (Str×V)}{z:Y Addr}{f:Str}{p:Addr}{d:D}(h:FlsR K Φ H fs vs z)(j:fs.lookup f=Z (.al p))(r:Rp K Φ d (.ref p)):FlsR K Φ H (cU f (.v d) fs) vs z:=by
 induction h with
 |nil=>cases j
 |v E t o=>
  rename_i g C J u x y;rw[J0]at j
  cases c:f==g with
  |true=>rw[c]at j;cases j
  |false=>
   rw[c]at j;change FlsR K Φ H (if g=f then _ else _) _ _;rw[Jv λe=>by rw[e,J3]at c;cases c];show .v E (o j)
 |l a1 a2 t o=>
  rename_i g C L I u x y;rw[J0]at j
  cases c:f==g with
  |true=>rw[c]at j;cases j
  |false=>
   rw[c]at j;change FlsR K Φ H (if g=f then _ else _) _ _;rw[Jv λe=>by rw[e,J3]at c;cases c];show .l a1 a2 (o j)
 |al t o=>
  rename_i g G u x y;rw[J0]at j
  cases c:f==g with
  |true=>
   rw[c]at j;cases j;change FlsR K Φ H (if g=f then _ else _) _ _;rw[JC (eq_of_beq c).symm];show .v r t
  |false=>
   rw[c]at j;change FlsR K Φ H (if g=f then _ else _) _ _;rw[Jv λe=>by rw[e,J3]at c;cases c];show .al (o j)
def FlsR.newA{vs:Y (Str×V)}{G:Y Addr}{f:Str}{p:Addr}(h:FlsR K Φ H fs vs G)(o:fs.lookup f=ŗ):FlsR K Φ H (cU f (.al p) fs) (cH f (.ref p) vs) G:=by
 have j:∀{g:Str}{y:Fl}{r:Y (Str×Fl)},List.lookup f ((g,y)::r)=ŗ->g≠f/\r.lookup f=ŗ:=λ{g y r} e=>by
  rw[J0]at e
  cases c:f==g with
  |true=>rw[c]at e;cases e
  |false=>rw[c]at e;show⟨(λz=>by rw[z,J3]at c;cases c),e⟩
 induction h with
 |nil=>show .al .nil
 |v J t u=>
  rename_i g I N x C E;let⟨c,o⟩:=j o;change FlsR K Φ H (if g=f then _ else _) (if g=f then _ else _) _;rw[Jv c,Jv c];show .v J (u o)
 |l a1 a2 t u=>
  rename_i g I O M x C E;let⟨c,o⟩:=j o;change FlsR K Φ H (if g=f then _ else _) (if g=f then _ else _) _;rw[Jv c,Jv c];show .l a1 a2 (u o)
 |al t u=>
  rename_i g L x C E;let⟨c,o⟩:=j o;change FlsR K Φ H (if g=f then _ else _) (if g=f then _ else _) _;rw[Jv c,Jv c];show .al (u o)
def EnvM.seal{j:Nat}{p:Addr}{l f:Str}{h:Y (Str×Fl)}(E:EnvM K B Φ H F ρ)(g:Gr A B Φ H)(v:j≠k)(M:ρ[k]?=Z (Z (.ob (Z p) (.obj nm fs))))(L:eN fs=Z ds)(U:ρ[j]?=Z (Z (.ob a (.obj l h))))(N:h.lookup f=Z (.al p)) :
  ∃c,Gr A B c H/\EnvM K B c H F ((ρ.set k (Z (.v (.obj nm ds)))).set j (Z (.ob a (.obj l (cU f (.v (.obj nm ds)) h))))):=by
 let⟨w,E⟩:=E;let⟨X,c,be,J,Q,g',a_,o⟩:=E.fzO g M L;cases J p S
 have r:(ρ.set k (Z (Sm.v (.obj nm ds))))[j]?=Z (Z (.ob a (.obj l h))):=by rwa[JN (Kz v)]
 let⟨q,G,_,P⟩:=o.ow j a _ r;let⟨C,R,vs,O,I,x,y,z,nd⟩:=P.obj_inv;show⟨c,g',_,o.put r G (λb u e _=>e) (F':=q::O) (.obj x y (z.setA N Q) nd) λb T=>.inl (by rwa[I])⟩
end
section
variable{K:Â}{X:Cx}{e a:Ã}{es:Y Ã}{J:TX}{I:TD}{G:aT}{l N A L O p:Ö}{x y nm f m:Str}{C:Addr}{B:Y Ç}{t:bA}
noncomputable def yY(j k:Nat)(f:Str)(t:bA):bA:=λh ρ=>∃a p nm fs ds g c,ρ[k]?=Z (Z (.ob (Z p) (.obj nm fs)))/\eN fs=Z ds/\ρ[j]?=Z (Z (.ob a (.obj g c)))/\c.lookup f=Z (.al p)/\t h ((ρ.set k (Z (.v (.obj nm ds)))).set j (Z (.ob a (.obj g (cU f (.v (.obj nm ds)) c)))))
def yB(j k:Nat)(f:Str)(h:PSsM K X B t)(z:j≠k:=by decide):PSsM K X B (yY j k f t):=⟨λR=>(h.ps R).imp λE U H v=>by
 let⟨o,u,Φ,ρ,r,g,V,⟨a,p,nm,fs,ds,T,a_,F,M,P,Q,t⟩,k⟩:=v;let⟨c,g',w⟩:=V.seal g z F M P Q
 show⟨o,u,c,_,r,g',w,t,k⟩⟩
noncomputable def z9(i k:Nat)(nm f:Str):bA:=λc ρ=>∃a fs a' o,ρ[i]?=Z (Z (.ob a (.obj nm fs)))/\ρ[k]?=Z (Z (.ob a' o))/\fs.lookup f=ŗ/\fs.length<1000/\∀p,(∀q,a'=Z q->q=p)->NF (cU f (.al p) fs) λg=>c.nx ((ρ.set k (Z (.ob (Z p) o))).set i (Z (.ob a (.obj nm g))))
def Bo(i v:Nat)(c:Cls K C)(nA:NoAttr K C f)(hC:Ò K Á nm=Z (Z (.ref C)))(hN:X.N[i]?=Z x:=by rfl)(hv:cL X.env.scope x:=by nofun)(hd:ab x:=by decide)(N4:fI x:=by decide)
  (R:X.N[v]?=Z y:=by rfl) (U:cL X.env.scope y:=by nofun) (b_:ab y:=by decide) (VG:fI y:=by decide) (F:i≠v:=by decide)
  (hs:Î (.Name y O) (Z (.Attribute (.Name x N) f L)) l.line X.env=pure Ś:=by rfl):PSM K X (.Assign [.Attribute (.Name x N) f L] (.Name y O) l) (z9 i v nm f):=
 ⟨λhK=>(pT (f:=f) (pv i hN hv hd N4) (pv v R U b_ VG) hs).imp λE σ H NT=>by
  let⟨Φ0,H0,Φ,ρ,De,g,⟨P,V⟩,⟨a,fs,a',o,T,O7,hc,hl,t⟩,k⟩:=NT;let⟨p,e,_,ro⟩:=V.ow i a _ T;let⟨q,M,Tr,ro2⟩:=V.ow _ a' _ O7;let⟨C',dx,vs,qs,eF,be,c2,c3,nd⟩:=ro.obj_inv;rw[hC]at be;cases be
  have Tt:p∈P i:=by rw[eF];show JA
  have hH:∀b u,H b=Z u->b∉P i->ap H p (.ins C dx (cH f (.ref q) vs)) b=Z u:=λb u e hn=>by
   rwa[aY λz=>hn (by rw[z];show Tt)]
  have a_:=nd;rw[JZ]at a_;refine⟨_,M,_,e,p,C,dx,vs,S,c2,hK▸c,hK▸nA,by rwa[c3.len],?_⟩;refine k.nx _ Φ _ σ (t q Tr).get (V.grput g T hH) ?_;have V2:=V.put T e hH (F':=p::qs) (o':=.obj nm (cU f (.al q) fs)) (.obj hC bo ((c3.newA hc).keep (Same.refl _) λb hb u hu=>by rwa[aY (show b≠p from λz=>a_.1 (by rw[←z];show hb))]) nd) λb hb=>.inl (by rwa[eF])
  have Q:(ρ.set i (Z (Sm.ob a (.obj nm (cU f (.al q) fs)))))[v]?=Z (Z (Sm.ob a' o)):=by rwa[JN F]
  rw[List.set_comm _ _ (Kz F)];let⟨fz,len,sl,ow,no,dj,tb⟩:=V2;refine⟨λj=>if j=i then p::qs else P j,fz,by rw[Ju,len],λj d h=>?_,λj a1 r h=>?_,λj a1 r h=>?_,λj j2 a1 a2 r o2 hj Vx=>?_,tb⟩
  ·rcases cN h with⟨_,_,z⟩|⟨_,z⟩
   ·cases z
   ·show sl j d z
  ·rcases cN h with⟨w,_,z⟩|⟨_,z⟩
   ·cases z;subst w;let⟨q',e',_,r'⟩:=ow _ a' _ Q;rw[M]at e';cases e';show⟨q,M,(λ_ z=>by cases z;rfl),r'⟩
   ·show ow j a1 r z
  ·rcases cN h with⟨w,_,z⟩|⟨_,z⟩
   ·cases z;subst w;show no _ a' _ Q
   ·show no j a1 r z
  ·have up:∀{j:Nat}{a1:Ř Addr}{r:Om},((ρ.set i (Z (Sm.ob a (.obj nm (cU f (.al q) fs))))).set v (Z (Sm.ob (Z q) o)))[j]?=Z (Z (.ob a1 r))->∃a3,(ρ.set i (Z (Sm.ob a (.obj nm (cU f (.al q) fs)))))[j]?=Z (Z (.ob a3 r)):=λ{j a1 r} h=>by
    rcases cN h with⟨w,_,z⟩|⟨_,z⟩
    ·cases z;subst w;show⟨a',Q⟩
    ·show⟨a1,z⟩
   let⟨_,z1⟩:=up hj;let⟨_,z2⟩:=up Vx
   show dj j j2 _ _ r o2 z1 z2⟩
noncomputable def BH(t:TX):TX:=λρ R g=>t ρ (λs c=>match s with|.ob _ (.obj nm fs)=>(∃ds,eN fs=Z ds/\R (.v (.obj nm ds)) c)|_=>False) g
def rK(h:PX K X e J):PX K X e (BH J):=⟨λbe=>(h.pe be).imp λσ H Q M=>by
 let⟨u,z,Φ,τ,ρ,g,R,T,b_,t,k⟩:=M;refine⟨u,z,Φ,τ,ρ,g,_,T,b_,t,λs1 c Φ1 F v j o a_=>?_⟩;split at j
 ·next a nm fs=>
  let⟨ds,hf,j⟩:=j;let⟨fp,E⟩:=o.E
  have P:(c++(g++[Z (Sm.ob a (.obj nm fs))]))[c.length+g.length]?=Z (Z (.ob a (.obj nm fs))):=by rw[←JM,Jq (by rw[Jr];omega),Jr,J6];rfl
  let⟨p,r,_,_,_,g',sf,w⟩:=E.fzO o.g P hf
  have U:(c++(g++[Z (Sm.ob a (.obj nm fs))])).set (c.length+g.length) (Z (.v (.obj nm ds)))=c++(g++[Z (.v (.obj nm ds))]):=by rw[LY _ _ (),LY _ _ (),show c.length+g.length-c.length-g.length=0 by omega];rfl
  rw[U]at w;show k _ c r F v j ⟨g',o.l,⟨_,w⟩,o.x⟩ (a_.trans sf)
 ·show j.elim⟩
structure MthD(P:Å)(w:È)(K:Â)(mg:Str->Option Value)(base:Heap)(n:Nat)(C:Addr)(m:Str)(ps:List Str)(z:ca):Prop where
 ex:∃(f:Addr)(fd:Í),FnOk P w K mg base aG n f fd ps (lSp K z)/\Binds K fd ps []/\Meth K C m f
theorem tZ{Φ:Hp}{g:Str}:∀{vs:Y (Str×V)}{fs:Y (Str×D)},vs.map (·.1)=fs.map (·.1)->fs.lookup g=ŗ->vs.lookup g=ŗ
 | [],_,_,_=>rfl
 |_::_,[],h,_=>by cases h
 |(x,v)::vs,(y,f)::fs,h,j=>by
  rw[JV,JV]at h;let⟨o,r⟩:=Mx h;have o:x=y:=o;subst o;rw[J0]at j ⊢
  cases c:g==x with
  |true=>rw[c]at j;cases j
  |false=>rw[c]at j;show tZ (Φ:=Φ) r j
noncomputable def Fe(nm m:Str)(z:ca)(I:TD)(G:aT):TD:=λρ R=>I ρ λx=>match x with|.obj Td fs=>Td=nm/\fs.lookup m=ŗ/\G ρ λds=>z (.obj Td fs::ds) R|_=>False
def ka{n:Nat}{ps:Y Str}{z:ca}{pl:Sem Bool}(M:MthD X.prog X.w K X.mg X.base n C m ps z)(hr:Room n X.A)(c:Cls K C)(hC:Ò K Á nm=Z (Z (.ref C)))
  (hx:PD K X a I) (ha:PAD K X (e::es) G) (he:starEach (e::es) X.env=(Ś,eval e X.env)::starEach es X.env) (Ox:(backTo l (starEach es X.env)).any (·.1)=Ś)
  (ht:eval (.Call (.Attribute a m A) (e::es) [] l) X.env=(do
   let ov ←eval a X.env
   standAt A.atName
   let (f,first) ←holding [ov] (getMethod ov m pl)
   callWith l f first (backTo l (starEach (e::es) X.env)) (Þ l (Ô [] X.env))):=by rfl) :
  PD K X (.Call (.Attribute a m A) (e::es) [] l) (Fe nm m z I G):=⟨λh=>by
 let⟨f,fd,F,b,hm⟩:=M.ex;refine (vD (dvs:=[]) (ds:=[]) (E:=E0) (pl:=pl) (hx.pe h) (h▸c) (h▸hm) (h▸F:FnOk X.prog X.w X.K X.mg X.base aG n f fd ps (lSp K z)) hr (h▸b) .nil js (ha.pa h) he Ox ht).imp λσ H Q NT=>?_;let⟨U,Φ,ρ,R,E,t,k⟩:=NT;refine⟨U,Φ,ρ,_,E,t,λd j H1 v r g w=>?_⟩
 cases d with
 |obj Td fs=>
  let⟨rfl,hl,r⟩:=r;have P:=w
  cases w with
  |obj a_ h1 h2 h3=>
   rw[hC]at a_;cases a_;refine⟨_,_,_,S,g.s _ _ h1,tZ (Φ:=j) h2 hl,U,j,ρ,_,E.gr g,r,λds T H2 vs r2 o rl _=>?_⟩;refine⟨T,_::ds,R,o.s,(E.tb.same g.f).same o.f,?_,r2,λd b_ H' v rd g' w=>k d b_ H' v rd ((g.trans o).trans g') w⟩;rw[J5];refine⟨by rw[JH,JH,rl.1],λi u d be hd=>?_⟩
   cases i with
   |zero=>cases be;cases hd;show P.same o.f
   |succ i=>show rl.2 i u d be hd
 |_=>show r.elim⟩
end
noncomputable def pD(K:Â)(a:Addr)(n:Nat):It:=
 ⟨λi H=>i<n/\∃xs,SqL K H a xs/\xs.length=n,λi H x c=>c=H/\∀xs,SqL K H a xs->xs[n-1-i]?=Z x,λi H=>i=n⟩
def Ee{P:Å}{w:È}{K:Â}{tg:Ã}(a j:Addr)(n:Nat):Turn P w K tg (pD K a n) [j] j (λi h=>h.IsRevIter j a ((n:Int)-1-(i:Int))) where
 mem:=by simp
 obj:=λi h st b g=>by
  have e:b=j:=by simpa using g
  subst e;let⟨o,e,c,d⟩:=st;show⟨o,e,λv z=>by rw[d]at z;cases z⟩
 keep:=λi h h' st k=>st.at λo e=>k j (by simp) o e
 item:=by
  intro X M N L O i f s R H E I r st l;subst M N L;let⟨hi,xs,Q,hn⟩:=l;let⟨its,rv,p,hz⟩:=I.list Q;have hx:xs[n-1-i]?=Z (xs[n-1-i]'()):=Km ();let⟨u,be,ru⟩:=rv.get hx;let⟨B,C,a_,F,G,J⟩:=r j (by simp)
  have A:(n:Int)-1-(i:Int)=((n-1-i:Nat):Int):=by omega
  have T:((n-1-i:Nat):Int)-1=(n:Int)-1-((i+1:Nat):Int):=by omega
  have du:=st;rw[A]at du;refine wpAny_pyNext_rev_item du p.isList (x:=u) (by simpa using be) λh' y sb=>?_;rw[T]at y;have b_:Inv X f R H { s with heap:=h' }:=I.turned (t':=s.toks) (λb o g e=>(sb.2 b g).trans e) B C F G J;let⟨o,e,c,d⟩:=id y;show⟨u,S,ld (s:={ s with heap:=h' }) e c d 'b' ⟨_,H,b_,ru,⟨S,λys hy=>by rwa[I.list_inj hy Q]⟩,y,λb g=>(r b g).1⟩⟩
 done:=by
  intro X M N L O i f s R H E I r st l;subst M N L;have l:i=n:=l;subst l;let⟨B,C,a_,F,G,J⟩:=r j (by simp)
  have A:(i:Int)-1-(i:Int) = -1:=by omega
  rw[A]at st;show wpAny_pyNext_rev_end (I.ok.hd O) st λh' U=>⟨S,I.turned (t':=s.toks) (λb o g e=>U b o g e) B C F G J⟩
 self:=λ_ _ _ _ _ st h=>Ĵ st h
section
variable{K:Â}{X:Cx}{f a:Ã}{c p:Ö}
noncomputable def uZ(K:Â)(g:TA):TI:=λh H R=>g h H λvs e=>∃l xs,vs=[.ref l]/\SqL K e l xs/\R (pD K l xs.length) e
def zB{w:TA}(B:Gl X "reversed")(C:X.mg "reversed"=ŗ)(z:PA X [a] w)(F:starEach [a] X.env=[(Ś,eval a X.env)]):PI X f (.Call (.Name "reversed" p) [a] [] c) (uZ X.K w):=by
 intro j s M H R I h;refine Call_ (gY I B C boot_reversed (Kw (aF (z c j s M H _ I h) λus g y=>?_) F S));let⟨vs,x,u,J,G⟩:=y;let⟨l,xs,e,E,q⟩:=G;subst e
 cases J with
 |cons r rr=>
  cases rr;cases r;let⟨its,L,p,N⟩:=u.list E;refine call_reversed_list p.isList ?_;have v:(g.heap.push (revObj l ((its.toArray.size:Int)-1))).IsRevIter g.heap.objs.size l ((its.toArray.size:Int)-1):=⟨_,JJ _ S,S,S⟩;refine Ĵ (s:={ g with heap:=g.heap.push (revObj l ((its.toArray.size:Int)-1)) }) v ?_;refine⟨g.heap.objs.size,[g.heap.objs.size],_,_,x,S,u.kept (t':=g.toks) λb o e=>Jz _ e,Ee l _ xs.length,?_,λb A=>?_,q⟩
  ·have e:((its.toArray.size:Nat):Int)-1=(xs.length:Int)-1-((0:Nat):Int):=by rw[JG,←L.length];omega
   rw[e]at v;rwa[e]
  ·have e:b=g.heap.objs.size:=by simpa using A
   subst e;show u.fpOk (Jx _) (u.hok.fresh (Jx _))
def BJ{e:TA}(h:X.K=K)(j:Gl X "reversed")(l:X.mg "reversed"=ŗ)(g:PA X [a] e)(o:starEach [a] X.env=[(Ś,eval a X.env)]):PI X f (.Call (.Name "reversed" p) [a] [] c) (uZ K e):=h▸zB j l g o
def xW{Φ:Hp}{ds:Y D}{vs:Y V}{l:Addr}(h:SqL K Φ l vs)(r:RpL K Φ ds vs):SteadyD K (pD K l vs.length) Φ ds.reverse:=
 ⟨λi H s hi=>⟨by rw[r.1];simpa using hi,vs,s.seq h,S⟩,λi g H x o d j s hd y=>by
  let⟨e,y⟩:=y;subst e
  have hi:i<ds.length:=by have:=aC hd;simpa using this
  rw[List.getElem?_reverse hi]at hd;have:=y vs ((j.trans s).seq h);rw[r.1]at this
  show⟨g,.refl s,(r.2 _ x d this hd).same j⟩,λH s=>by
  change ds.reverse.length=vs.length
  rw[K4,r.1]⟩
noncomputable def CJ(t:aT):aT:=λρ R=>t ρ λds=>match ds with| [d]=>(match d with|.lst xs=>R xs.reverse|_=>False)|_=>False
def pJ{t:aT}(z:Gl X "reversed")(A:X.mg "reversed"=ŗ)(h:PAD K X [a] t)(B:starEach [a] X.env=[(Ś,eval a X.env)]:=by rfl):PID K X f (.Call (.Name "reversed" p) [a] [] c) (CJ t):=⟨λl=>(BJ l z A (h.pa l) B).imp λI H F w=>by
 let⟨o,Φ,ρ,R,E,t,k⟩:=w
 show⟨o,Φ,ρ,_,E,t,λds e u vs r g rl G=>by
  match ds,r with
  | [],r=>show r.elim
  |_::_::_,r=>show r.elim
  | [d],r=>
   let⟨v,rfl,C⟩:=rl.one_inv
   cases d with
   |lst xs=>
    cases C with
    |lst j x y=>show⟨_,_,S,.of (g.s _ _ j),k _ e u _ r g (xW (.of j) ⟨x,y⟩)⟩
   |_=>show r.elim⟩⟩
end
section
variable{P:Å}{w:È}{K:Â}{mg:Str->Ř Value}{base:Heap}{n m:Nat}{C:Addr}{x:Str}{ps:Y Str}
def MthM.mono{z:eh}(M:MthM P w K mg base n C x ps z)(k:n<=m:=by decide):MthM P w K mg base m C x ps z:=by let⟨f,a,F,r⟩:=M.ex;show⟨f,a,F.mono k,r⟩
def MkM.mono{z:eh}(M:MkM P w K mg base n C ps z)(k:n<=m:=by decide):MkM P w K mg base m C ps z:=by let⟨f,a,F,r⟩:=M.ex;show⟨f,a,F.mono k,r⟩
def MthD.mono{z:ca}(M:MthD P w K mg base n C x ps z)(k:n<=m:=by decide):MthD P w K mg base m C x ps z:=by let⟨f,a,F,r⟩:=M.ex;show⟨f,a,F.mono k,r⟩
end
section
variable{K:Â}{X:Cx}{l a e:Ã}{c:Y Ã}{scope:â}{f z A:Ö}{N':Y Str}{cap:Y (Ř Nat)}{j:aT}{g:dz}{u:cw}{o:TD}{i:Nat}{y:Str}{C:Addr}
def BN{tf:aT}{E:Ends}{B:St}{H:Hp}(x:∀{B:St}{H:Hp}{Q:VK},lF K tf B H Q->gO (lI K j) cap (lG K g) (lT K u) (lE K o) B H Q)(h:lM K X (kH i (rA tf)) E B H):jm (gO (lI K j) cap (lG K g) (lT K u) (lE K o)) (iY i) E B H:=by
 let⟨be,M,Φ,ρ,De,gg,V,t,a_⟩:=h;let⟨fp,I⟩:=id V;refine x ⟨M,_,eK ρ,_,I.view,t,λds G N p vs r J T F b_ rl=>?_⟩;have g':=jt I.fz J;have L:=view_same.trans J.f
 have O:ga Φ G p=ŗ:=by
  unfold ga
  cases P:Φ p with
  |some w=>rw[L _ _ P]at F;cases F
  |none=>simp only;rw[F]
 show a_.nx _ _ N _ r.2 (gg.trans g') ((V.snocO gg.h g' (.lst b_ ⟨rl.1,λi v d U hd=>(rl.2 i v d U hd).thawN L (r.1 d (Jw hd))⟩) λb R=>by rw[JB.mp R];show⟨T,O⟩).store i)
def Fz{k:Nat}(B:X.calm=ř)(G:X.N.Nodup)(P:X.N[i]?=Z y)(O:eC X.env.scope y)(Q:CompScope X.N X.env.scope scope N' cap)(E:gf k cap=ř)(L:GM k g)(hi:PID K X l a j)
  (J:∀(cl:Y (Str×Addr))(r:Y Addr)(C:Addr)(v:À)(p:Hp),PGD K (b8 X scope N' cl C v p r) l g) (N:∀(cl:Y (Str×Addr))(r:Y Addr)(C:Addr)(v:À)(p:Hp),PIfD K (b8 X scope N' cl C v p r) c u)
  (H:∀(cl:Y (Str×Addr))(r:Y Addr)(C:Addr)(v:À)(p:Hp),PD K (b8 X scope N' cl C v p r) e o) (F:Î (.ListComp e [⟨l,a,c,0⟩] scope f) (Z (.Name y z)) A.line X.env=pure ř:=by rfl)
  (M:∀x,Ì a X.env x=pure x:=by intro _;rfl) (I:X.fn y=ř\/X.env.scope.names.lookup y=Z .local:=by nofun) :
  PSM K X (.Assign [.Name y z] (.ListComp e [⟨l,a,c,0⟩] scope f) A) (kH i (rA (nY j cap g u o))):=
 ⟨λw=>(nJ B G P O Q (hi.pi w) (λcl r C v p=>(J cl r C v p).pg w) (λcl r C v p=>(N cl r C v p).p w) (λcl r C v p=>(H cl r C v p).pe w) F M I).imp λ_ _ _ h=>BN (λq=>qx E L q) h⟩
end
section
variable{K:Â}{X:Cx}{a b:Ã}{f p A B:Ö}{z:aT}
noncomputable def IP(e:TA):TE:=λg H Q=>e g H λvs c=>∃i j:Int,vs=[.int i,.int j]/\∀r,c r=ŗ->Q (.ref r) (ap c r (.rng i j))
def Fr{v:TA}(y:Gl X "range")(C:X.mg "range"=ŗ)(x:PA X [a,b] v)(E:starEach [a,b] X.env=[(Ś,eval a X.env),(Ś,eval b X.env)]:=by rfl)(u:starEach [b] X.env=[(Ś,eval b X.env)]:=by rfl):PE X (.Call (.Name "range" p) [a,b] [] f) (IP v):=by
 intro c s L H R I h;refine Call_ (gY I y C boot_range (Kw (aF (x f c s L H _ I h) λus g w=>?_) (by rw[E,u]) (by rw[u];rfl)));let⟨vs,M,l,G,F⟩:=w;let⟨i,j,e,q⟩:=F;subst e
 cases G with
 |cons r rr=>
  cases rr with
  |cons J rr=>
   cases rr;let⟨t,rfl⟩:=r;let⟨N,rfl⟩:=J;refine call_range_2 ⟨.ref g.heap.objs.size,_,l.laid (a:=g.heap.objs.size) (o:=.rng i j) (t':=g.toks+1) (λb o e=>Jz _ e) (Jx _) ⟨_,_,_,JJ _ S⟩,S,q _ (l.hok.fresh (Jx _))⟩
noncomputable def gN(lo:Int)(n:Nat):Y V:=(List.range n).map λi=>V.int (lo+(i:Nat))
def mQ(lo:Int)(n:Nat):(gN lo n).length=n:=by unfold gN;simp
def uP{lo:Int}{n i:Nat}{v:V}(h:(gN lo n)[i]?=Z v):v=.int (lo+(i:Nat)):=by
 have hi:i<n:=by have:=aC h;rwa [mQ]at this
 unfold gN at h;rw[JF,LL hi]at h;cases h;rfl
def GQ{Φ:Hp}(lo:Int)(n:Nat):RpL K Φ (cC lo n) (gN lo n):=⟨by rw[mQ,gb],λi v d c hd=>by
 rw[uP c,(hX hd).2]
 show .int _⟩
def Au(G:X.calm=ř):dZ X (.type "list") (λxs H Q=>∃p i j,xs=[.ref p]/\H p=Z (.rng i j)/\(-(2^62)<=i/\i<2^62/\-(2^62)<=j/\j<2^62)/\j-i<=1000/\∀l,H l=ŗ->Q (.ref l) (ap H l (.lst (gN i (j-i).toNat)))):=by
 intro w s σ H xs us Q I r h;let⟨p,i,j,rfl,N,⟨b_,T,U,a_⟩,jj,q⟩:=h;let⟨u,rfl,be⟩:=gS r;cases be;let⟨t,u,v,M⟩:=(show ObjOk X.prog X.w H s.heap p (.rng i j)from I.hok p _ N)
 have L:Builtin.Range.rangeSize i j 1=((j-i).toNat:Int):=by rw[M6];split<;>omega
 refine ŕ (I.ok.hd G) M (ŏ b_ T U a_) L () λh' E g c kp J C=>?_
 have O:Vals (gN i (j-i).toNat) g.toList:=qe (by rw[mQ,K3,C.1]) λk x y P R=>by rw[uP P];let⟨t,rfl⟩:=C.2 k y (by simpa using R);show⟨t,by simp⟩
 have F:Inv X w σ (ap H s.heap.objs.size (.lst (gN i (j-i).toNat))) { s with heap:=h',toks:=E }:=
  I.laid (t':=E) (λb o e=>kp b o e) (Jx _) (show ObjOk X.prog X.w _ _ _ (.lst (gN i (j-i).toNat))from ⟨by rw[mQ,L6];omega,g.toList,c,O,by simpa using J⟩)
 show⟨.ref s.heap.objs.size,_,F,S,q _ (I.hok.fresh (Jx _))⟩
noncomputable def B7(t:aT):aT:=λρ R=>t ρ λds=>match ds with| [.int i,.int j]=>((-(2^62)<=i/\i<2^62/\-(2^62)<=j/\j<2^62)/\j-i<=1000)/\R (cC i (j-i).toNat)|_=>False
def yf(u:X.calm=ř)(J:Gl X "list")(I:X.mg "list"=ŗ)(G:Gl X "range")(F:X.mg "range"=ŗ)(O:PAD K X [a,b] z)(P:starEach [a,b] X.env=[(Ś,eval a X.env),(Ś,eval b X.env)]:=by rfl)(y:starEach [b] X.env=[(Ś,eval b X.env)]:=by rfl) :
  PF K X (.Call (.Name "list" p) [.Call (.Name "range" A) [a,b] [] B] [] f) (B7 z):=
 ⟨λN=>(kP (Au u) J I Ġ (eU (Fr G F (O.pa N) P y) pa_nil bg) 'b' 'b' bg ae).imp λbe H Q x=>by
  let⟨h,Φ,ρ,R,E,t,k⟩:=x
  show⟨h,Φ,ρ,_,E,t,λds a_ o vs r g rl _=>by
   match ds,r with
   | [.int i,.int j],r=>
    let⟨v,w,rfl,T,U⟩:=rl.two_inv;obtain rfl:=T.i;obtain rfl:=U.i;refine⟨i,j,S,λb_ L=>⟨b_,i,j,S,bo,r.1.1,r.1.2,λl e=>?_⟩⟩;have c:=Gr.fresh g.s L (.rng i j);have M:=Gr.fresh c.s e (.lst (gN i (j-i).toNat));have C:o l=ŗ:=c.h.free e
    show k _ _ _ l _ r.2 ((g.trans c).trans M) (g.h.free C) (c.s.free e) bo (GQ _ _)⟩⟩
end
section
variable{K:Â}{X:Cx}
noncomputable def AM:cR:=λx y R=>match x with
 |.int i=>(match y with|.int j=>R (.bl (i==j))|.non=>R (.bl Ś)|_=>False)
 |_=>False
def yt(z:X.A.units+64<å):OpD K X (É .Eq) AM:=⟨λw c s A H x y u v Q I o e f=>by
 let⟨Φ,r,g,R,sm,l,a,h,k⟩:=f;let⟨i,rfl,h⟩:=jf h;cases l.int;let⟨t,rfl⟩:=o
 cases g with
 |int j=>
  cases a.int;let⟨p,rfl⟩:=e;show (PySem.SeqAt.RcAt.int_int i t j p) X.prog X.w _ _ ⟨.bl (i==j),H,I,S,k _ Φ H _ h (.refl sm) (.bl _)⟩
 |non=>
  cases a.non;cases e;show (PySem.SeqAt.RcAt.int_none i t) X.prog X.w _ _ ⟨.bl Ś,H,I,S,k _ Φ H _ h (.refl sm) (.bl _)⟩
 |_=>show h.elim⟩
end
section
variable{K:Â}{X:Cx}{e:Ã}{c:TD}{f h:Ö}{x:Str}
noncomputable def yA(i:Nat)(c:TD):TX:=λρ R _=>ownT ρ i λ_ _=>c (dR ρ) λd=>∃a:Y az,d=.tup (a.map gH)/\ownT ρ i λ_ g=>∃y,bD g a=Z y/\R (.v y) ρ
def HQ(i:Nat)(hu:X.A.units+64<å)(M:PD K X e c)(P:qP e)(L:X.N[i]?=Z x:=by rfl)(T:cL X.env.scope x:=by nofun)(hd:ab x:=by decide)(E:fI x:=by decide) :
  PX K X (.Subscript (.Name x h) e f) (yA i c):=
 ⟨λJ=>(CT () (pv i L T hd E) (M.pe J) P).imp λσ H Q F=>by
  let⟨Φ0,B,Φ,τ,ρ,κ,R,Rx,b_,t,k⟩:=F;let⟨a,NV,z,t⟩:=ownT.get t;let⟨q,ws,G,O,l,_⟩:=b_.env.dictT b_.g z;refine⟨_,G,B,Φ,dR ρ,_,b_.env.toD,t,λd o C v r g be=>?_⟩;let⟨U,rfl,r⟩:=r;let⟨a2,VA,u,y,A,r⟩:=ownT.get r;rw[z]at u;cases u;let⟨p,rfl,N⟩:=qX be;rcases qa l U with⟨j,_⟩|⟨d,w,j,I,a_⟩
  ·rw[A]at j;cases j
  ·rw[A]at j;cases j
   refine⟨q,w,S,by rw[←I];show DGet.t (g.h _ _ O) (g.s _ _ N),k _ ρ o C w r ((b_.gr g).pushV (a_.same g.f)) g.f⟩⟩
end
section
variable{K:Â}{w H A Φ u:Hp}{f:St}{ρ:ak}{l:Nat->Y Addr}{p q:Addr}{i k:Nat}
def EnvM.noadr{a:Ř Addr}{o:Om}(E:EnvM K w Φ H f ρ)(hi:ρ[i]?=Z (Z (.ob a o))):EnvM K w Φ H f (ρ.set i (Z (.ob ŗ o))):=by
 let⟨l,E⟩:=E
 have B:∀{m:Nat}{x:Sm},(ρ.set i (Z (Sm.ob ŗ o)))[m]?=Z (Z x)->(m=i/\x=.ob ŗ o)\/(m≠i/\ρ[m]?=Z (Z x)):=λ{m x} h=>by
  rcases cN h with⟨e,_,C⟩|⟨e,h⟩
  ·cases C;show .inl ⟨e,S⟩
  ·show .inr ⟨e,h⟩
 have g:∀{m:Nat}{c:Ř Addr}{j:Om},(ρ.set i (Z (Sm.ob ŗ o)))[m]?=Z (Z (.ob c j))->∃y,ρ[m]?=Z (Z (.ob y j)):=λ{m c j} h=>by
  rcases B h with⟨z,v⟩|⟨_,v⟩
  ·cases v;show⟨_,by rwa[z]⟩
  ·show⟨_,v⟩
 refine⟨l,E.fz,by rw[Ju,E.len],λm d h=>?_,λm c j h=>?_,λm c j h=>?_,λm k c y j F M L=>?_,E.tb⟩
 ·rcases B h with⟨_,h⟩|⟨_,h⟩
  ·cases h
  ·show E.sl m d h
 ·rcases B h with⟨z,v⟩|⟨_,v⟩
  ·cases v;let⟨p,e,_,r⟩:=E.ow i a o hi;show⟨p,by rwa[z],(λq e=>by cases e),by rwa[z]⟩
  ·show E.ow m c j v
 ·let⟨y,h'⟩:=g h;show E.no m y j h'
 ·let⟨C,I⟩:=g M;let⟨G,J⟩:=g L;show E.dj m k C G j F I J
def EnvM.outT{ps:Y (Addr×Ř (Y D))}{ds:Y D}{v:V}(E:EnvM K w Φ H (f++[Z v]) (ρ++[Z (.ob ŗ (.tl ps))]))(i:Nat)(hi:i<ρ.length)(g:ps[k]?=Z (q,Z ds)) :
  EnvM K w Φ H (f.set i (Z (.ref q))++[Z v]) (ρ.set i (Z (.own ds))++[Z (.ob ŗ (.tl (ps.set k (q,ŗ))))]):=by
 have h:f.length=ρ.length:=by have:=E.len;simpa using this
 have c:=(E.pnt i q).opn (i:=i) (j:=ρ.length) (k:=k) (a':=ŗ) (ps:=ps) (q:=q) (ds:=ds) ()
  (by rw[JS (by rw[Jr];omega)]) (by rw[JN (),Jq (Jx _),J6];rfl) g
 rw[Lj _ _ (),Lj _ _ hi,Lj _ _ (by rwa[Ju]),LY _ _ (by rw[Ju,Ju];show Jx _),List.set_set,Ju,J6]at c;have e:=c.noadr (i:=i) (a:=Z q) (o:=.lst ds) (by rw[Js (by rwa[Ju]),JS hi]);rw[Lj _ _ (by rwa[Ju]),List.set_set]at e;show e
def EnvM.gath{v1 v2 v3:V}{G I J:Y D}(E:EnvM K w Φ H (f++[Z v1,Z v2,Z v3]) (ρ++[Z (.own G),Z (.own I),Z (.own J)]))(X:ρ.length=f.length)(g:Gr Φ H u A)(hp:u p=Z (.tup [v1,v2,v3])) :
  ∃a o B,EnvM K w u A (f++[Z (.ref p)]) (ρ++[Z (.ob ŗ (.tl [(a,Z G),(o,Z I),(B,Z J)]))]):=by
 let⟨l,E⟩:=E.gr g
 have P:(ρ++[Z (Sm.own G),Z (.own I),Z (.own J)])[ρ.length]?=Z (Z (.ob ŗ (.lst G))):=by rw[Jq (Jx _),J6];rfl
 have Q:(ρ++[Z (Sm.own G),Z (.own I),Z (.own J)])[ρ.length+1]?=Z (Z (.ob ŗ (.lst I))):=by rw[Jq (),KW];rfl
 have R:(ρ++[Z (Sm.own G),Z (.own I),Z (.own J)])[ρ.length+2]?=Z (Z (.ob ŗ (.lst J))):=by rw[Jq (),KW];rfl
 let⟨a,e1,_,r1⟩:=E.ow _ _ _ P;let⟨o,e2,_,r2⟩:=E.ow _ _ _ Q;let⟨B,e3,_,r3⟩:=E.ow _ _ _ R;rw[X,Jq (Jx _),J6]at e1;rw[X,Jq (),KW]at e2 e3;cases e1;cases e2;cases e3;let⟨f1,w1,a1,b1⟩:=r1.lst_inv;let⟨f2,w2,a2,b2⟩:=r2.lst_inv;let⟨f3,w3,a3,b3⟩:=r3.lst_inv;have n12:a≠o:=λe=>E.dj _ _ _ _ _ _ P Q () a (by rw[f1];show JB.mpr S) (by rw[f2,e];show JB.mpr S);have n13:a≠B:=λe=>E.dj _ _ _ _ _ _ P R () a (by rw[f1];show JB.mpr S) (by rw[f3,e];show JB.mpr S);have n23:o≠B:=λe=>E.dj _ _ _ _ _ _ Q R () o (by rw[f2];show JB.mpr S) (by rw[f3,e];show JB.mpr S)
 have Tv:∀b∈[a,o,B],b∈l ρ.length\/b∈l (ρ.length+1)\/b∈l (ρ.length+2):=λb L=>by rw[f1,f2,f3];simpa using L
 have M:∀{m:Nat}{x:Sm},(ρ++[Z (Sm.ob ŗ (.tl [(a,Z G),(o,Z I),(B,Z J)]))])[m]?=Z (Z x)->(m<ρ.length/\ρ[m]?=Z (Z x))\/(m=ρ.length/\x=.ob ŗ (.tl [(a,Z G),(o,Z I),(B,Z J)])):=λ{m x} h=>by
  rcases Kg m ρ.length with c|c
  ·rw[Js c]at h;show .inl ⟨c,h⟩
  ·rw[Jq c]at h
   cases e:m-ρ.length with
   |zero=>rw[e]at h;cases h;show .inr ⟨(),S⟩
   |succ n=>rw[e]at h;cases h
 have up:∀{m:Nat}{x:Sm},ρ[m]?=Z (Z x)->(ρ++[Z (Sm.own G),Z (.own I),Z (.own J)])[m]?=Z (Z x):=λ{m x} h=>by rwa[Js (aC h)]
 have dn:∀{m:Nat}{y:Ř V},m<ρ.length->(f++[Z (V.ref a),Z (.ref o),Z (.ref B)])[m]?=Z y->(f++[Z (V.ref p)])[m]?=Z y:=λ{m y} c e=>by rw[Js ()]at e ⊢;show e
 refine⟨a,o,B,λm=>if m=ρ.length then [a,o,B] else l m,E.fz,by rw[Jr,Jr,X];rfl,λm d h=>?_,λm c F h=>?_,λm c F h b L=>?_,λm n c c' F Qi hm hn hc b L N7=>?_,E.tb⟩
 ·rcases M h with⟨c,j⟩|⟨_,j⟩
  ·let⟨v,e,r⟩:=E.sl m d (up j);show⟨v,dn c e,r⟩
  ·cases j
 ·rcases M h with⟨C,j⟩|⟨C,j⟩
  ·let⟨v,e,ha,r⟩:=E.ow m c F (up j);show⟨v,dn C e,ha,by rwa[Jv ()]⟩
  ·cases j;refine⟨p,by rw[C,X,Jq (Jx _),J6];rfl,(λ_ z=>by cases z),?_⟩;rw[JC C];show .tl hp (.own a1 b1 (.own a2 b2 (.own a3 b3 .nil))) (by simp[n12,n13,n23])
 ·rcases M h with⟨C,j⟩|⟨C,j⟩
  ·rw[Jv ()]at L;show E.no m c F (up j) b L
  ·rw[JC C]at L;rcases Tv b L with h|h|h
   ·show E.no _ _ _ P b h
   ·show E.no _ _ _ Q b h
   ·show E.no _ _ _ R b h
 ·have U:b∈(if m=ρ.length then [a,o,B] else l m):=L;have N:b∈(if n=ρ.length then [a,o,B] else l n):=N7
  have T:∀(a_:Nat)(c:Ř Addr)(F:Om),a_<ρ.length->ρ[a_]?=Z (Z (.ob c F))->b∈l a_->b∈[a,o,B]->False:=λa_ c F Uz be hx hy=>by
   rcases Tv b hy with h|h|h
   ·show E.dj _ _ _ _ _ _ (up be) P () b hx h
   ·show E.dj _ _ _ _ _ _ (up be) Q () b hx h
   ·show E.dj _ _ _ _ _ _ (up be) R () b hx h
  rcases M hm with⟨C,j⟩|⟨C,j⟩
  ·rw[Jv ()]at U;rcases M hn with⟨O,b_⟩|⟨O,b_⟩
   ·rw[Jv ()]at N;show E.dj m n c c' F Qi (up j) (up b_) hc b U N
   ·rw[JC O]at N;show T m c F C j U N
  ·rw[JC C]at U;rcases M hn with⟨O,b_⟩|⟨O,b_⟩
   ·rw[Jv ()]at N;show T n c' Qi O b_ N U
   ·omega
end
section
variable{K:Â}{X:Cx}{e a b:Ã}{es:Y Ã}{w y tb:TX}{A:cV}{f u o j z:Ö}
noncomputable def EK(A:cV):TX:=λρ R p=>A ρ (λas c=>∃g h l,as=[.t (.own g),.t (.own h),.t (.own l)]/\∀r v x,R (.ob ŗ (.tl [(r,Z g),(v,Z h),(x,Z l)])) c) p
def CG{k:Nat}(h:PXA K X es A)(PJ:Nat.ble es.length 1000=ř:=by rfl):PX K X (.Tuple es k f) (EK A):=
 ⟨λa_=>(qE (h.pa a_)).imp λσ H Q P=>by
  let⟨x,I,Φ,F,ρ,C,R,T,b_,t,k⟩:=P;refine⟨x,I,Φ,F,ρ,C,_,T,b_,t,λas v B O vs ts r1 hl c l U=>?_⟩;let⟨z1,z2,z3,rfl,r⟩:=r1
  cases c with|t c=>cases c with|t c=>cases c with|t c=>
  cases c;rename_i J L M;refine⟨by rw[L6];change 3<=16777216;decide,λp be=>?_⟩;have g:=Gr.new l.g.s be (.tup [J,L,M]);have lk:C.length=F.length:=b_.lk;have l2:=l.l;have E:=l.E
  have N:EnvM K I B O ((σ++F)++[Z J,Z L,Z M]) ((v++C)++[Z (.own z1),Z (.own z2),Z (.own z3)]):=by rwa[JM,JM]
  let⟨q1,q2,q3,G⟩:=N.gath (p:=p) (by rw[Jr,Jr];omega) g bo;rw[JM,JM]at G
  show k _ v _ _ _ (r q1 q2 q3) ⟨l.g.trans g,l2,G,l.x⟩ (U.trans g.f)⟩
noncomputable def yo(h l p:Nat)(w:TX):bA:=λg ρ=>w ρ (λs c=>∃B C E r v x,s=.ob ŗ (.tl [(B,Z r),(C,Z v),(E,Z x)])/\(h<c.length/\l<c.length/\p<c.length)/\g.nx (((c.set h (Z (.own r))).set l (Z (.own v))).set p (Z (.own x)))) g.ex
def Ix{k:Nat}{n1 n2 n3:Str}(B C F:Nat)(hc:X.calm=ř)(x:X.N.Nodup)(h1:X.N[B]?=Z n1)(h2:X.N[C]?=Z n2)(h3:X.N[F]?=Z n3)(l1:eC X.env.scope n1)(l2:eC X.env.scope n2)(l3:eC X.env.scope n3)(he:PX K X e w)
  (f1:X.fn n1=ř\/X.env.scope.names.lookup n1=Z .local:=by nofun) (f2:X.fn n2=ř\/X.env.scope.names.lookup n2=Z .local:=by nofun) (f3:X.fn n3=ř\/X.env.scope.names.lookup n3=Z .local:=by nofun)
  (hs:è [.Tuple [.Name n1 u,.Name n2 o,.Name n3 j] k z] e f.line X.env=pure Ś:=by rfl) (hw:é [.Tuple [.Name n1 u,.Name n2 o,.Name n3 j] k z] e X.env=pure ŗ:=by rfl)
  (ha:(Æ [.Tuple [.Name n1 u,.Name n2 o,.Name n3 j] k z] X.env).map (·.2)=[assign (.Tuple [.Name n1 u,.Name n2 o,.Name n3 j] k z) X.env]:=by rfl)
  (c1:(Æ [.Name n1 u,.Name n2 o,.Name n3 j] X.env).map (·.2)=assign (.Name n1 u) X.env::(Æ [.Name n2 o,.Name n3 j] X.env).map (·.2):=by rfl) (c2:(Æ [.Name n2 o,.Name n3 j] X.env).map (·.2)=assign (.Name n2 o) X.env::(Æ [.Name n3 j] X.env).map (·.2):=by rfl) (c3:(Æ [.Name n3 j] X.env).map (·.2)=assign (.Name n3 j) X.env::(Æ [] X.env).map (·.2):=by rfl)
  (hn:(Æ [.Name n1 u,.Name n2 o,.Name n3 j] X.env).length=3:=by rfl) (OE:(Æ [.Name n1 u,.Name n2 o,.Name n3 j] X.env).findIdx? (·.1)=ŗ:=by rfl) :
  PSM K X (.Assign [.Tuple [.Name n1 u,.Name n2 o,.Name n3 j] k z] e f) (yo B C F w):=
 ⟨λhK=>(nB (he.pe hK) (tN hc (lq (kS x h1 l1 f1) (lq (kS x h2 l2 f2) (lq (kS x h3 l3 f3) pgs_nil c3) c2) c1) hn OE) hs hw ha).imp λE σ H be=>by
  let⟨G,J,Φ,ρ,b_,g,V,t,k⟩:=be;refine⟨G,J,Φ,[],ρ,[],_,b_.ex,du g V k.ex,t,λs l h L v r p _=>?_⟩;let⟨M,N,O,P,Q,R,rfl,⟨y1,y2,y3⟩,r⟩:=r;have I:EnvM K J h L (σ++[Z v]) (l++[Z (.ob ŗ (.tl [(M,Z P),(N,Z Q),(O,Z R)]))]):=p.E;have hl:=p.l;let⟨fp,c⟩:=id I;let⟨tp,s,_,rr⟩:=c.ow l.length ŗ _ (by rw[Jq (Jx _),J6];rfl);rw[hl,Jq (Jx _),J6]at s;cases s;let⟨hp,_,_⟩:=rr.tl_inv;have T:=I.outT B y1 (k:=0) (q:=M) (ds:=P) S;have U:=T.outT C (by rwa[Ju]) (k:=1) (q:=N) (ds:=Q) S;have a_:=U.outT F (by rwa[Ju,Ju]) (k:=2) (q:=O) (ds:=R) S;refine⟨tp,_,S,SqT.of (c.fz _ _ hp),S,_,_,S,_,_,S,_,_,S,S,?_⟩
  show k.nx _ h L _ r p.g (a_.take (by rwa[Ju,Ju,Ju,Ju,Ju,Ju]))⟩
noncomputable def Gd(t:TX):TX:=λρ R g=>t ρ (xV λd c=>∃ds,dh d=Z ds/\R (.own ds) c) g
def EI{p:Ö}(T:Gl X "list")(U:X.mg "list"=ŗ)(O:PX K X e w)(F:starEach [e] X.env=(Ś,eval e X.env)::starEach [] X.env):PX K X (.Call (.Name "list" p) [e] [] f) (Gd w):=
 ⟨λE=>(kP uB T U Ġ (eU (O.pe E) pa_nil F) 'b' 'b' F ae).imp λσ H Q J=>by
  let⟨h,G,Φ,τ,ρ,κ,R,L,b_,t,k⟩:=J;refine⟨h,G,Φ,τ,ρ,κ,_,L,b_,t,λs1 B x I v r1 c N=>?_⟩;let⟨d,rfl,ds,M,r⟩:=r1.get;have rv:RpQ K x I d v:=.inl c.last;let⟨a,vs,rfl,a_,be⟩:=rv.seq c.g.s M;refine⟨a,vs,S,E▸a_,λl g=>?_⟩;have C:=Gr.fresh c.g.s g (.lst vs)
  show k _ B _ _ _ r ((c.pop b_.lk).pushO C (.lst bo be) λb P=>by rw[JB.mp P];show⟨g,c.g.s.free g⟩) (N.trans C.f)⟩
noncomputable def AK(y tb:TX):TX:=λρ R h=>y ρ (xV λd g=>match d with|.bl c=>(c=ř->tb g R h)/\(c=Ś->R (.v (.bl Ś)) g)|_=>False) h
def BL{op}(h:PX K X a y):PX K X (.BoolOp op [a] f) y:=⟨λc=>vw (h.pe c)⟩
def Bh(U:PX K X a y)(a_:PX K X (.BoolOp .And (b::es) f) tb):PX K X (.BoolOp .And (a::b::es) f) (AK y tb):=
 ⟨λI=>(vi (U.pe I) (a_.pe I)).imp λσ H Q O=>by
  let⟨h,E,Φ,L,ρ,J,R,F,b_,t,k⟩:=O;refine⟨h,E,Φ,L,ρ,J,_,F,b_,t,λs1 p l N v g r G=>?_⟩;let⟨x,rfl,g⟩:=g.get;have rx:=r.last;let⟨c,rfl,g⟩:=jc g;obtain rfl:=rx.b;refine⟨c,S,?_⟩
  cases c with
  |true=>rw[JC S];show⟨h,E,l,L,p,J,R,F,r.pop b_.lk,g.1 S,λsm C B M v' be P T=>k sm C B M v' be P (G.trans T)⟩
  |false=>rw[Jv 'b'];show k _ p l N _ (g.2 S) ((r.pop b_.lk).pushV (.bl _)) G⟩
end
def Ca{P:Å}{w:È}{K:Â}{R:Ã}(a:Addr)(lo:Int)(n:Nat):Turn P w K R (jn lo n) [a] a (λi h=>IsLongIter h a (lo+(i:Nat)*1) ((n:Int)-(i:Nat)) 1) where
 mem:=by simp
 obj:=λi h st b f=>by
  have e:b=a:=by simpa using f
  subst e
  show⟨_,st,λv z=>by
   have U:û _=ï v:=z
   cases U⟩
 keep:=λi h h' st k=>k a (by simp) _ st
 item:=by
  intro X y C x A i c s J H E I g st B;subst y C x;let⟨j,l,N,p,r,u⟩:=g a (by simp);have W:=Walks.longrange (prog:=X.prog) (w:=X.w) (I.ok.hd A) a lo 1 n;refine W.item i s _ _ B st λv h' G O F Q=>?_;let⟨t,rfl⟩:=O;have L:Inv X c J H { s with heap:=h',toks:=G }:=I.turned (λb o f e=>Q b o (by simpa using f) e) j l p r u;refine⟨_,S,ld (s:={ s with heap:=h',toks:=G }) (n:="longrange_iterator") F S S 'b' ⟨.int (lo+i),H,L,⟨t,?_⟩,⟨S,S⟩,F,λb f=>(g b f).1⟩⟩;rw[Int.mul_one]
 done:=by intro X y C x A i c s J H E I g st B;subst y C x;let⟨j,l,N,p,r,u⟩:=g a (by simp);show wpAny_pyNext_long_end (I.ok.hd A) st (by have:n<=i:=B;omega) λh' M=>⟨S,I.turned (t':=s.toks) (λb o f e=>M b o f e) j l p r u⟩
 self:=λ_ _ _ _ _ st h=>wpAny_pyIter_longiter st h
section
variable{X:Cx}{c:Ã}
def Gw{a:Y (Addr×Õ)}{l:St}{H:Hp}{s:À}{R:It->Hp->Prop}{E:Value->À->Prop}{lo hi:Int}{t u v:Ł}{h:Nat}(I:Inv X a l H s)
  (q:R (jn lo (hi-lo).toNat) H):wpAny (Ä X.prog X.w) X.A (Ľ (.ref s.heap.objs.size)) (rC X a l c R) E { s with heap:=s.heap.push { cls:=.type "range",data:=.fields #[.int lo t,.int hi u,.int 1 v] },toks:=h }:=by
 have f:Inv X a l H { s with heap:=s.heap.push { cls:=.type "range",data:=.fields #[.int lo t,.int hi u,.int 1 v] },toks:=h }:=I.kept λb o e=>Jz _ e
 have p:lo+((0:Nat):Int)*1=lo:=by simp
 have r:(((hi-lo).toNat:Nat):Int)-((0:Nat):Int)=Builtin.Range.rangeSize lo hi 1:=by rw[M6];split<;>omega
 cases g:Builtin.Range.small lo hi 1 with
 |true=>
  refine Ļ (Ċ ..) g ?_
  refine⟨(s.heap.push { cls:=.type "range",data:=.fields #[.int lo t,.int hi u,.int 1 v] }).objs.size,[(s.heap.push { cls:=.type "range",data:=.fields #[.int lo t,.int hi u,.int 1 v] }).objs.size],_,_,H,S,
   f.kept (t':=h) λb o e=>Jz _ e,wt _ lo (hi-lo).toNat,?_,λb j=>?_,q⟩
  ·change ķ _ _ (lo+((0:Nat):Int)*1) ((((hi-lo).toNat:Nat):Int)-((0:Nat):Int)) 1;rw[p,r];show JJ _ S
  ·have e:b=(s.heap.push { cls:=.type "range",data:=.fields #[.int lo t,.int hi u,.int 1 v] }).objs.size:=by simpa using j
   subst e;show f.fpOk (Jx _) (f.hok.fresh (Jx _))
 |false=>
  refine wpAny_pyIter_longrange (Ċ ..) g ?_
  refine⟨(s.heap.push { cls:=.type "range",data:=.fields #[.int lo t,.int hi u,.int 1 v] }).objs.size,[(s.heap.push { cls:=.type "range",data:=.fields #[.int lo t,.int hi u,.int 1 v] }).objs.size],_,_,H,S,
   f.kept (t':=h) λb o e=>Jz _ e,Ca _ lo (hi-lo).toNat,?_,λb j=>?_,q⟩
  ·change IsLongIter _ _ (lo+((0:Nat):Int)*1) ((((hi-lo).toNat:Nat):Int)-((0:Nat):Int)) 1;rw[p,r];show JJ _ S
  ·have e:b=(s.heap.push { cls:=.type "range",data:=.fields #[.int lo t,.int hi u,.int 1 v] }).objs.size:=by simpa using j
   subst e;show f.fpOk (Jx _) (f.hok.fresh (Jx _))
noncomputable def EY(e:TA):TI:=λf H R=>e f H λvs a=>∃i j:Int,vs=[.int i,.int j]/\R (jn i (j-i).toNat) a
def As{a b:Ã}{o:TA}{p g:Ö}(x:Gl X "range")(y:X.mg "range"=ŗ)(w:PA X [a,b] o)(z:starEach [a,b] X.env=[(Ś,eval a X.env),(Ś,eval b X.env)]:=by rfl)(l:starEach [b] X.env=[(Ś,eval b X.env)]:=by rfl) :
  PI X c (.Call (.Name "range" p) [a,b] [] g) (EY o):=by
 intro f s E H R I h;refine Call_ (gY I x y boot_range (Kw (aF (w g f s E H _ I h) λus G v=>?_) (by rw[z,l]) (by rw[l];rfl)));let⟨vs,F,u,C,A⟩:=v;let⟨i,j,e,q⟩:=A;subst e
 cases C with
 |cons r rr=>
  cases rr with
  |cons B rr=>
   cases rr;let⟨t,rfl⟩:=r;let⟨t',rfl⟩:=B;show call_range_2 (Gw u q)
end
section
variable{K:Â}{X:Cx}{f a b:Ã}{e:aT}{p c:Ö}
noncomputable def C4(t:aT):aT:=λρ R=>t ρ λds=>match ds with| [.int i,.int j]=>R (cC i (j-i).toNat)|_=>False
def FW(A:Gl X "range")(B:X.mg "range"=ŗ)(z:PAD K X [a,b] e)(C:starEach [a,b] X.env=[(Ś,eval a X.env),(Ś,eval b X.env)]:=by rfl)(x:starEach [b] X.env=[(Ś,eval b X.env)]:=by rfl):PID K X f (.Call (.Name "range" p) [a,b] [] c) (C4 e):=
 ⟨λy=>(As A B (z.pa y) C x).imp λL H J u=>by let⟨l,Φ,ρ,R,E,t,k⟩:=u;show⟨l,Φ,ρ,_,E,t,λds h o vs r g I _=>by
  match ds,r with
  | [.int i,.int j],r=>
   let⟨v,w,rfl,F,G⟩:=I.two_inv;obtain rfl:=F.i;obtain rfl:=G.i
   show⟨i,j,S,k _ h o _ r g qW⟩⟩⟩
end
end L2
namespace Kx
open PySem L2
section
local macro_rules|`(tactic|rfl')=>`(tactic|dsimp only[aN,aH,aE,setA,aV,aO,aW,List.set])
variable{P:Å}{w:È}{K:Â}{mg:Str->Ř Value}{base:Heap}{n:Nat}{f:Addr}{J:Í}
noncomputable def top(i:Nat):Ç:=PySem.Challenge.pw_cutyard_k30_spots_back.main.body.getD i (.Pass ⟨0,0,0,0⟩)
abbrev D9:Ç:=top 0
abbrev nL:Ç:=top 5
def qat:FnScope ["one","other","greater","lesser","rest"] ["one","other"] (au nL):=by ac_rfl
abbrev ng:Ç:=top 6
def qas:FnScope ["numbers","divisor","number"] ["numbers"] (au ng):=by ac_rfl
abbrev mF:Ç:=top 7
def yu:FnScope ["top","bottom"] ["top","bottom"] (au mF):=by ac_rfl
abbrev ky:Ç:=top 9
def FR:FnScope ["n","place"] ["n","place"] (au ky):=by ac_rfl
abbrev lD:Ç:=top 10
def Dq:FnScope ["entries","spot"] ["entries","spot"] (au lD):=by ac_rfl
abbrev kQ:Ç:=top 11
def DE:FnScope ["row"] ["row"] (au kQ):=by ac_rfl
abbrev lB:Ç:=top 12
def qaw:FnScope ["row","divisor"] ["row"] (au lB):=by ac_rfl
abbrev jQ:Ç:=top 14
def qaz:FnScope ["plan","bounds","n","least_rows","most_rows"] ["plan"] (au jQ):=by ac_rfl
abbrev lN:Ç:=top 16
def Ci:FnScope ["entries","unknown"] ["entries","unknown"] (au lN):=by ac_rfl
abbrev ku:Ç:=top 17
def Iw:FnScope ["entries"] ["entries"] (au ku):=by ac_rfl
abbrev mI:Ç:=top 18
def qax:FnScope ["bounds","marks","number","pair"] ["bounds"] (au mI):=by ac_rfl
abbrev l6:Ç:=top 21
def C2:FnScope ["pair"] ["pair"] (au l6):=by ac_rfl
abbrev on:Ç:=top 22
def qaA:FnScope ["bounds","entries","total","pair","entry"] ["bounds","entries"] (au on):=by ac_rfl
abbrev lP:Ç:=top 23
def qaH:FnScope ["bounds","entries","total"] ["bounds","entries"] (au lP):=by ac_rfl
abbrev ot:Ç:=top 24
def qau:FnScope ["bounds","staying","unknown"] ["bounds","staying"] (au ot):=by ac_rfl
abbrev nq:Ç:=top 25
def qaC:FnScope ["bounds","rows","place","row","total"] ["bounds","rows"] (au nq):=by ac_rfl
abbrev oF:Ç:=top 26
def qaE:FnScope ["bounds","rows","place","row","total"] ["bounds","rows"] (au oF):=by ac_rfl
abbrev k6:Ç:=top 27
def qaK:FnScope ["rows","place","row"] ["rows"] (au k6):=by ac_rfl
abbrev mJ:Ç:=top 28
def qaP:FnScope ["rows","place","row"] ["rows"] (au mJ):=by ac_rfl
abbrev nh:Ç:=top 29
def qav:FnScope ["rows","came","place","row","earlier"] ["rows"] (au nh):=by ac_rfl
abbrev l7:Ç:=top 30
def qay:FnScope ["bounds","staying","unknown"] ["bounds","staying"] (au l7):=by ac_rfl
abbrev la:Ç:=top 31
def Br:FnScope ["rows","unknown"] ["rows","unknown"] (au la):=by ac_rfl
abbrev kF:Ç:=top 32
def Ip:FnScope ["rows","unknown"] ["rows","unknown"] (au kF):=by ac_rfl
abbrev l8:Ç:=top 33
def qaL:FnScope ["bounds","rows","goal","staying","unknown"] ["bounds","rows","goal","staying"] (au l8):=by ac_rfl
abbrev nU:Ç:=top 34
def qaI:FnScope ["bounds","rows","goal","staying","unknown","pair"] ["bounds","rows","goal","staying"] (au nU):=by ac_rfl
abbrev mS:Ç:=top 35
def qaB:FnScope ["bounds","rows","goal","staying","unknown"] ["bounds","rows","goal","staying"] (au mS):=by ac_rfl
abbrev oo:Ç:=top 37
def qaJ:FnScope ["ledger","place"] ["ledger"] (au oo):=by ac_rfl
abbrev mP:Ç:=top 38
def qaQ:FnScope ["ledger","unknown"] ["ledger"] (au mP):=by ac_rfl
abbrev kY:Ç:=top 39
def qaD:FnScope ["ledger","unknown","place","entries","shares"] ["ledger"] (au kY):=by ac_rfl
abbrev nE:Ç:=top 40
def qaO:FnScope ["ledger","shares"] ["ledger"] (au nE):=by ac_rfl
abbrev lv:Ç:=top 41
def Es:FnScope ["numbers","places"] ["numbers","places"] (au lv):=by ac_rfl
abbrev li:Ç:=top 42
def qaM:FnScope ["ledger","rows"] ["ledger"] (au li):=by ac_rfl
abbrev mD:Ç:=top 43
def qaN:FnScope ["numbers","places","n","spot","place","number"] ["numbers","places","n"] (au mD):=by ac_rfl
abbrev lL:Ç:=top 44
def qaG:FnScope ["unknown","least","rows","spot","needs"] ["unknown","least","rows","spot"] (au lL):=by ac_rfl
abbrev mW:Ç:=top 47
def D7:FnScope [WD] [WD] (au mW):=by ac_rfl
abbrev kO:Ç:=top 48
def BA:FnScope [WD,WY] [WD,WY] (au kO):=by ac_rfl
abbrev oJ:Ç:=top 49
def qao:FnScope [WM,"_law_seed","_law_cell","_law_rest"] [WM] (au oJ):=by ac_rfl
abbrev nt:Ç:=top 50
def qai:FnScope [Ww,WG,"_law_digit","_law_step","_law_mixed"] [Ww,WG] (au nt):=by ac_rfl
abbrev kC:Ç:=top 51
def EU:FnScope [WC,Wx] [WC,Wx] (au kC):=by ac_rfl
abbrev nT:Ç:=top 52
def qah:FnScope [Ww,WE,WS,"_law_rate",WH,"_law_goal",W2,WL,WK,"_law_pick",WN] [Ww,WE,WS] (au nT):=by ac_rfl
abbrev mR:Ç:=top 53
def qap:FnScope [Ww,WG,Wx,W2,WB,W9,WC,WI,WO,"_law_manner",WQ] [Ww,WG,Wx,W2] (au mR):=by ac_rfl
abbrev nP:Ç:=top 54
def qaq:FnScope [Ww,WE,WG,WS,WH,"_law_goal",W2,Wx,WK,WN,W3,WB,WC] [Ww,WE,WG,WS] (au nP):=by ac_rfl
abbrev jo:Ç:=top 55
def qaj:FnScope [Ww,Wz,Wx,WR,WG,Xc,WH,WT,WK,WN,WB,WC,WQ,WV,Xg] [Ww,Wz,Wx] (au jo):=by ac_rfl
abbrev mz:Ç:=top 56
def qan:FnScope [Wz,WE,"_law_pair","_law_row"] [Wz,WE] (au mz):=by ac_rfl
abbrev lV:Ç:=top 57
def qak:FnScope [WA,WE,Xb] [WA,WE] (au lV):=by ac_rfl
abbrev kg:Ç:=top 58
def qal:FnScope [Wz,WE,WB,WL,WK,WN] [Wz] (au kg):=by ac_rfl
abbrev kR:Ç:=top 59
def zN:FnScope [WB,Wx] [WB,Wx] (au kR):=by ac_rfl
abbrev kW:Ç:=top 60
def qar:FnScope [WH,W3,W7,WK,WN,"_law_top","_law_longer",Wx] [WH,W3] (au kW):=by ac_rfl
abbrev kJ:Ç:=top 61
def He:FnScope [Wz,WA,Wx,WD] [Wz,WA,Wx,WD] (au kJ):=by ac_rfl
abbrev jG:Ç:=top 62
def qam:FnScope [Wz,WA,WJ,"_law_mine",W7,WL] [Wz,WA,WJ] (au jG):=by ac_rfl
abbrev mK:Ç:=top 63
def qag:FnScope [Wz,WA,WB,WJ,WD,Wx] [Wz,WA,WB,WJ] (au mK):=by ac_rfl
abbrev kE:Ç:=top 64
def qaF:FnScope [WM,Ww,WE,Wz,Wx,"_law_second","_law_other",WA,WD,W4] [WM] (au kE):=by ac_rfl
abbrev mv:Ç:=fM (top 19) 0
def Cu:FnScope ["self","plan"] ["self","plan"] (au mv):=by ac_rfl
abbrev oU:Ç:=fM (top 19) 1
def Cj:FnScope ["self","shares","divisor"] ["self","shares","divisor"] (au oU):=by ac_rfl
abbrev ou:Ç:=fM (top 19) 2
def yr:FnScope ["self","place"] ["self","place"] (au ou):=by ac_rfl
abbrev ox:Ç:=fM (top 19) 3
def qad:FnScope ["self","place","row","mark","unknown","entry","pair","bound"] ["self","place"] (au ox):=by ac_rfl
abbrev oP:Ç:=fM (top 19) 4
def qaa:FnScope ["self","place","row"] ["self","place"] (au oP):=by ac_rfl
abbrev oV:Ç:=fM (top 19) 5
def AI:FnScope ["self","unknown","entry"] ["self","unknown","entry"] (au oV):=by ac_rfl
abbrev oO:Ç:=fM (top 19) 6
def qab:FnScope ["self","unknown","number","place","row","entry","shares","worth"] ["self","unknown","number"] (au oO):=by ac_rfl
abbrev j6:Ç:=fM (top 19) 7
def qac:FnScope ["self","unknown","places","place"] ["self","unknown"] (au j6):=by ac_rfl
abbrev l9:Ç:=fM (top 19) 8
def xT:FnScope ["self","unknown","least","rows"] ["self","unknown","least","rows"] (au l9):=by ac_rfl
abbrev oy:Ç:=fM (top 45) 0
def qae:FnScope ["self","plan","ledger","shares","mark"] ["self","plan"] (au oy):=by ac_rfl
abbrev mi:Ç:=fM (top 45) 1
def qaf:FnScope ["self","spot","numbers","unknown","least","rows"] ["self","spot"] (au mi):=by ac_rfl
abbrev FM:Ç:=fM (top 45) 2
abbrev yU:Ç:=fM (top 45) 3
structure TxtLedger(K:Â)(mg:Str->Option Value)(C:Addr):Prop where
 cl:Cls K C
 n_bounds:NoAttr K C "bounds"
 n_rows:NoAttr K C "rows"
 n_goal:NoAttr K C "goal"
 n_staying:NoAttr K C "staying"
 n_told:NoAttr K C "told"
 n_lines:NoAttr K C "lines"
 n_least_marks:NoAttr K C "least_marks"
 n_most_marks:NoAttr K C "most_marks"
 n_row_marks:NoAttr K C "row_marks"
 n_goal_shares:NoAttr K C "goal_shares"
 n_extra:NoAttr K C "extra"
 n_gone:NoAttr K C "gone"
 mgC:mg "Ledger"=Z (.ref C)
 ns:Ò K Á "Ledger"=Z (Z (.ref C))
structure TxtStruck(K:Â)(mg:Str->Option Value)(C:Addr):Prop where
 cl:Cls K C
 n_ledger:NoAttr K C "ledger"
 n_breadth:NoAttr K C "breadth"
 n_kind:NoAttr K C "kind"
 n_paper:NoAttr K C "paper"
 n_slim:NoAttr K C "slim"
 n_kept:NoAttr K C "kept"
 n_extra:NoAttr K C "extra"
 mgC:mg "Struck"=Z (.ref C)
 ns:Ò K Á "Struck"=Z (Z (.ref C))
noncomputable abbrev bB(x:Int):Prop:=x.natAbs<2^60000
def iZ{a b:Int}(c:bB a)(e:bB b):Ā a b:=Dz (m:=60000) (n:=60000) 'b' 'b' c e 'b'
def toB{R:D->Prop}{a b:Bool}(q:R (.bl a))(e:b=a):R (.bl b):=e▸q
def fH{x:Int}{m:Nat}(h:x.natAbs<=2^m)(a:m<60000):bB x:=K6 h (KY 'b' a)
def cK{a:Type}{xs:Y a}{i:Nat}{d:a}(h:i<xs.length):xs.getD i d∈xs:=by rw[JD,bJ h];show Lv h
def bU{a:Type}{xs:Y a}{i:Nat}{d:a}(h:i<xs.length):xs[i]?=Z (xs.getD i d):=by rw[JD,bJ h];rfl
def fb{a:Type}{xs:Y a}{i:Nat}{x d:a}(h:xs[i]?=Z x):xs.getD i d=x:=by rw[JD,h];rfl
inductive z_left(ds:List D)(R:D->Prop):Prop|mk (d1 d2:D) (xs ys:List Int) (_:ds=[d1,d2]) (_:dh d1=Z (xs.map D.int)) (_:dh d2=Z (ys.map D.int)) (_:xs.length<=1000) (_:(∀x∈xs,bB x)) (_:(∀y∈ys,bB y)) (_:R (.int (av xs ys)))
def A6(F:Fun K "left" "left" lD f J)(v:mg "sum"=ŗ)(j:mg "zip"=ŗ):FnOk P w K mg base aG (n+1) f J ["entries","spot"] (lSp K z_left):=by
 refine F.okD Dq (λds R h=>?_) (λz A outer s H E ds R B h=>?_)
 ·let⟨e,g,xs,ys,rfl,_⟩:=h;rfl
 let⟨e,g,xs,ys,rfl,l,o,p,r,u,q⟩:=h;refine⟨_,(aL (bh (bC (xA S) S v ND (aI (PD.q (PF.d (cZ (k:=2) (N':=["entry","number"]) (cap:=[ŗ,ŗ]) S (.ok (show bV ["entries","spot"] (au lD) _ ["entry","number"] [ŗ,ŗ]=ř by lia)) 'a' (hJ (n:=2) (dD (bz 'b') (dD (bz 'b') hV))) (jI S j (ad (dv 0) (ad (dv 1) ag aa) aa)) (λ_ _ _ _ _=>(dM (n:=2) S (bL (bf (i:=0) (show List.Nodup (["entry","number"]:Y Str)by lia) S Wv) (bL (bf (i:=1) (show List.Nodup (["entry","number"]:Y Str)by lia) S Wv) dH)))) (λ_ _ _ _ _=>(aP cQ (ac 0) (ac 1)))))) aS bx) bx ae))),?_⟩;refine⟨_,_,l,o,?_⟩;refine rD (λx y=>D.int (x*y)) (bi p) (λx a y c=>⟨S,iZ (r x a) (u y c),S⟩) ?_;show⟨List.zipWith (λx y=>x*y) xs ys,by rw[Nl];rfl,q⟩
noncomputable def dA(n k:Nat):Y Int:=(List.range n).map λo=>if o=k then 1 else 0
inductive z_unit(ds:List D)(R:D->Prop):Prop|mk (n k:Nat) (_:ds=[.int (n:Int),.int (k:Int)]) (_:n<=1000) (_:R (.tup ((dA n k).map D.int)))
def FN(F:Fun K "unit" "unit" ky f J)(a:mg "tuple"=ŗ)(g:mg "range"=ŗ):FnOk P w K mg base aG (n+1) f J ["n","place"] (lSp K z_unit):=by
 refine F.okD FR (λds R h=>?_) (λl A outer s H E ds R j h=>?_)
 ·let⟨m,k,rfl,_⟩:=h;rfl
 let⟨m,k,rfl,p,q⟩:=h;refine⟨_,(aL (bh (cf cG S a JE (aI (PD.q (PF.d (cZ (k:=1) (N':=["other","place"]) (cap:=[ŗ,Z 1]) S (.ok (show bV ["n","place"] (au ky) _ ["other","place"] [ŗ,Z 1]=ř by lia)) 'a' (bz 'b') (iP S g (ad (dv 0) ag aa)) (λ_ _ _ _ _=>(bf (i:=0) (show List.Nodup (["other","place"]:Y Str)by lia) S Wv)) (λ_ _ _ _ _=>(oq (aR (df j.units) (ac 0) (ac 1) (ay _)) ah ah))))) aS bx) bx ae))),?_⟩;refine⟨⟨(),()⟩,?_⟩;refine oC (λo=>D.int (if o=k then 1 else 0)) (bi ()) (λi hi=>?_) ?_
 ·by_cases c:i=k
  ·subst c;refine⟨λ_=>by rw[JC S];rfl,λh=>?_⟩;have:((0+(i:Int))==(i:Int))=Ś:=h;rw[Kn]at this;simp at this
  ·refine⟨λh=>?_,λ_=>by rw[Jv c];rfl⟩;have:((0+(i:Int))==(k:Int))=ř:=h;have:=eq_of_beq this;omega
 have e:(List.range ((m:Int)).toNat).map (λo=>D.int (if o=k then 1 else 0))=(dA m k).map D.int:=by unfold dA;rw[Kh,KC];rfl
 rwa[e]
def kh(r:aq):aq:=(r.1.map (- ·),-r.2)
inductive z_turned(ds:List D)(R:D->Prop):Prop|mk (r:aq) (_:ds=[aw r]) (_:r.1.length<=1000) (_:R (aw (kh r)))
def Ax(F:Fun K "turned" "turned" kQ f J)(a:mg "tuple"=ŗ):FnOk P w K mg base aG (n+1) f J ["row"] (lSp K z_turned):=by
 refine F.okD DE (λds R h=>?_) (λe A outer s H E ds R g h=>?_)
 ·let⟨r,rfl,_⟩:=h;rfl
 let⟨r,rfl,c,q⟩:=h;refine⟨_,(aL (bh (bt (ad (cf cG S a JE (aI (PD.q (PF.d (cZ (k:=1) (N':=["entry"]) (cap:=[ŗ]) S (.ok (show bV ["row"] (au kQ) _ ["entry"] [ŗ]=ř by lia)) 'a' (bz 'b') (b7 (ax (ac 0))) (λ_ _ _ _ _=>(bf (i:=0) (show List.Nodup (["entry"]:Y Str)by lia) S Wv)) (λ_ _ _ _ _=>(ef (ac 0)))))) aS bx) bx ae) (ad (ef (PD.q (ax (ac 0)))) ag iy) bg)))),?_⟩;refine⟨_,S,?_⟩;refine jM (f:=D.int) (λx=>-x) (bi c) (λx _=>rfl) ?_;show⟨_,S,q⟩
abbrev Bd:=Int×Ř Int
noncomputable def oI:Ř Int->D
 |none=>.non
 |some m=>.int m
def aU(b:Bd):D:=.tup [.int b.1,oI b.2]
def am(bs:Y Bd)(k:Nat):Bd:=bs.getD k (0,ŗ)
noncomputable def fm(bs:Y Bd)(k:Nat):aq:=(dA bs.length k,(am bs k).1)
noncomputable def cJ(bs:Y Bd)(k:Nat):aq:=kh (dA bs.length k,((am bs k).2.getD 0))
noncomputable def cS(bs:Y Bd)(k:Nat):Bool:=(am bs k).2.isSome
noncomputable def bY(bs:Y Bd)(rs:Y aq):Y aq:=(List.range bs.length).map (fm bs)++((List.range bs.length).filter (cS bs)).map (cJ bs)++rs
noncomputable def bK(bs:Y Bd)(rs:Y aq)(gs:Y Int):D:=.tup [.tup (bs.map aU),.tup (rs.map aw),.tup (gs.map D.int)]
noncomputable def iU(c:Nat->Bool)(h:Nat->D)(i:Nat):Ř D->Prop
 |some y=>y=h i/\c i=ř
 |none=>c i=Ś
def kj{c:Nat->Bool}{h:Nat->D}{n:Nat}{ys:Y (Ř D)}(r:ys.length=n)(p:∀i y,ys[i]?=Z y->iU c h i y):ys.filterMap id=((List.range n).filter c).map h:=by
 have e:ys=(List.range n).map λi=>if c i then Z (h i) else ŗ:=by
  refine K2 λi=>?_;rw[JF];by_cases hi:i<n
  ·rw[LL hi,bJ (show i<ys.length by omega)];have q:=p i _ (bJ (show i<ys.length by omega))
   cases e:ys[i]'()with
   |none=>
    rw[e]at q;have g:c i=Ś:=q;change Z ŗ=Z (if c i=ř then _ else _);rw[g];rfl
   |some y=>
    rw[e]at q;have g:y=h i/\c i=ř:=q;change Z (Z y)=Z (if c i=ř then _ else _);rw[g.2,g.1];rfl
  ·rw[Kd (),Kd (by rw[JQ];omega)];rfl
 have j:∀l:Y Nat,(l.map λi=>if c i then Z (h i) else ŗ).filterMap id=(l.filter c).map h:=by
  intro l
  induction l with
  |nil=>rfl
  |cons x l o=>
   rw[JV]
   cases e:c x with
   |true=>rw[JC S,List.filterMap_cons_some (f:=id) (a:=Z (h x)) (b:=h x) S,Mq e,JV,o]
   |false=>rw[Jv 'b',List.filterMap_cons_none (f:=id) (a:=ŗ) S,Mr (by rw[e];decide),o]
 rw[e,j]
def fQ{bs:Y Bd}{k:Nat}{i:Int}(h:k<bs.length)(e:i=(k:Int)):cr (bs.map aU) i=Z (aU (am bs k)):=cD (i:=k) (bU h) e
def qA(n k:Nat):(dA n k).length=n:=by unfold dA;rw[Jp,JQ]
inductive z_givens(ds:List D)(R:D->Prop):Prop|mk (bs:List Bd) (rs:List aq) (g:D) (_:ds=[.tup [.tup (bs.map aU),.tup (rs.map aw),g]]) (_:bs.length<=8) (_:rs.length<=30) (_:R (.tup ((bY bs rs).map aw)))
def Fy(F:Fun K "givens" "givens" jQ f J)(v:Cl P w K mg base n "turned" ["row"] z_turned)(u:Cl P w K mg base n "unit" ["n","place"] z_unit)(x:mg "len"=ŗ)(p:mg "range"=ŗ)(o:mg "tuple"=ŗ):FnOk P w K mg base aG (n+1) f J ["plan"] (lSp K z_givens):=by
 refine F.okD qaz (λds R h=>?_) (λL A outer s H E ds R c h=>?_)
 ·let⟨bs,rs,g,rfl,_⟩:=h;rfl
 let⟨bs,rs,g,rfl,O,M,q⟩:=h
 refine⟨_,(bF (dg (i:=1) qaz.nd S (ß S) (ax (ac 0)))
   (bF (dg (i:=2) qaz.nd S (ß S) (bC cI S x J4 (aI (ac 1) aS aa) aa ae))
   (bF (qd (i:=3) (k:=1) (N':=["place","n","bounds"]) (cap:=[ŗ,Z 2,Z 1]) S qaz.nd S Wv (.ok (show bV ["plan","bounds","n","least_rows","most_rows"] (au jQ) _ ["place","n","bounds"] [ŗ,Z 2,Z 1]=ř by lia)) 'a' (bz 'b') (iP S p (ad (dv 2) ag aa)) (λ_ _ _ _ _=>(bf (i:=0) (show List.Nodup (["place","n","bounds"]:Y Str)by lia) S Wv)) (λ_ _ _ _ _=>(bt (ad (bc u c S (ad (dv 1) (ad (dv 0) ag aa) aa) aa (ar aa ae)) (ad (ax (PD.q (bu (ac 2) (ac 0) (λ_ _=>rfl)))) ag aA) bg))))
   (bF (uc (i:=4) (k:=1) (N':=["place","n","bounds"]) (cap:=[ŗ,Z 2,Z 1]) S qaz.nd S Wv (.ok (show bV ["plan","bounds","n","least_rows","most_rows"] (au jQ) _ ["place","n","bounds"] [ŗ,Z 2,Z 1]=ř by lia)) 'a' (bz 'b') (iP S p (ad (dv 2) ag aa)) (λ_ _ _ _ _=>(bf (i:=0) (show List.Nodup (["place","n","bounds"]:Y Str)by lia) S Wv)) (λ_ _ _ _ _=>(jT (aR dI (PD.q (ax (PD.q (bu (ac 2) (ac 0) (λ_ _=>rfl))))) (PD.q bq) (ay _)))) (λ_ _ _ _ _=>(bc v c S (ad (bt (ad (bc u c S (ad (dv 1) (ad (dv 0) ag aa) aa) aa (ar aa ae)) (ad (ax (PD.q (bu (ac 2) (ac 0) (λ_ _=>rfl)))) ag aA) bg)) ag bI) bI ae)))
   (aL (bh (aP bH (PD.q (aP bH (PD.q (cf cG S o JE (aI (ac 3) aS aa) aa ae)) (PD.q (cf cG S o JE (aI (ac 4) aS aa) aa ae)))) (PD.q (ax (ac 0)))))))))),?_⟩
 have r:((bs.map aU).length:Int)=(bs.length:Int):=by rw[Jp]
 have C:(((bs.map aU).length:Nat):Int).toNat=bs.length:=by omega
 refine⟨_,S,⟨(),()⟩,?_⟩;refine oC (λk=>aw (fm bs k)) (bi ()) (λk G=>⟨bs.length,k,by rw[r,Kn],(),_,fQ () (Kn _),_,S,S⟩) ?_;refine⟨⟨(),()⟩,by rw[gb];show bi (),iU (cS bs) (λk=>aw (cJ bs k)),λk d hd=>?_,λys j I=>?_⟩
 ·let⟨G,rfl⟩:=hX hd
  have l:k<bs.length:=by omega
  refine⟨_,fQ l (Kn _),_,S,?_⟩
  cases a:(am bs k).2 with
  |none=>
   refine⟨λh=>(by cases h),λ_=>?_⟩;change cS bs k=Ś;unfold cS;rw[a];rfl
  |some m=>
   have e:cJ bs k=kh (dA bs.length k,m):=by unfold cJ;rw[a];rfl
   refine⟨λ_=>?_,λh=>(by cases h)⟩;refine⟨bs.length,k,by rw[r,Kn],(),_,fQ l (Kn _),_,(Kf (λz=>cr [D.int (am bs k).1,oI z] 1) a).trans S,(dA bs.length k,m),S,by rw[qA];omega,?_⟩;refine⟨Kf aw e.symm,?_⟩;unfold cS;rw[a];rfl
 rw[gb]at j;rw[kj j I,C]
 have y:(List.range bs.length).map (λk=>aw (fm bs k))=((List.range bs.length).map (fm bs)).map aw:=by rw[Kh];rfl
 have B:((List.range bs.length).filter (cS bs)).map (λk=>aw (cJ bs k))=(((List.range bs.length).filter (cS bs)).map (cJ bs)).map aw:=by rw[Kh];rfl
 have N:((List.range bs.length).filter (cS bs)).length<=bs.length:=by
  have:=KR (cS bs) (List.range bs.length)
  rwa [JQ]at this
 rw[y,B];refine⟨?_,_,qZ aw _ _,_,S,?_,_,qZ aw _ _,q⟩
 ·rw[Jp,Jp,Jp,Jp,JQ];show small ()
 ·rw[Jp,Jp,Jr,Jp,Jp,JQ];show small ()
abbrev Gn:=Nat×Int×Y aq
noncomputable def lK(g:Gn):D:=.tup [.int (g.1:Nat),.int g.2.1,.tup (g.2.2.map aw)]
structure Led where
 bs:List Bd
 rs:List aq
 gl:List Int
 st:List Nat
 td:Int
 ln:List D
 lm:List D
 mm:List D
 rm:List D
 gs:List D
 ex:Int
 gn:List Gn
def aZ(n:Nat):D:=.int (n:Nat)
noncomputable def dW(s:Led):Y (Str×Fl):=[("bounds",.l (s.bs.map aU)),("rows",.l (s.rs.map aw)),("goal",.v (.tup (s.gl.map D.int))),("staying",.l (s.st.map aZ)),("told",.v (.int s.td)),("lines",.l s.ln),("least_marks",.l s.lm),("most_marks",.l s.mm),("row_marks",.l s.rm),("goal_shares",.l s.gs),("extra",.v (.int s.ex)),("gone",.l (s.gn.map lK))]
noncomputable abbrev bR(s:Led):Om:=.obj "Ledger" (dW s)
noncomputable def iw(s:Led):D:=.obj "Ledger" [("bounds",.lst (s.bs.map aU)),("rows",.lst (s.rs.map aw)),("goal",.tup (s.gl.map D.int)),("staying",.lst (s.st.map aZ)),("told",.int s.td),("lines",.lst s.ln),("least_marks",.lst s.lm),("most_marks",.lst s.mm),("row_marks",.lst s.rm),("goal_shares",.lst s.gs),("extra",.int s.ex),("gone",.lst (s.gn.map lK))]
noncomputable def eO(a:D)(d:Int):D:=.tup [.str "cut",a,.int d]
noncomputable def fN(s:Led)(a:D)(d:Int):Led:={ s with ln:=s.ln++[eO a d] }
def c9:∀d∈([]:Y D),NoL d:=λd h=>by cases h
def bv{d:D}{ds:Y D}(h:NoL d)(t:∀e∈ds,NoL e):∀e∈d::ds,NoL e:=λe a=>by
 rcases JI.mp a with rfl|a
 ·show h
 ·show t e a
def ny{a:D}{d:Int}(h:NoL a):NoL (eO a d):=.tup (bv (.str _) (bv h (bv (.int _) c9)))
inductive y_Ledger__put_line(as:List Sm)(R:Sm->List Om->Prop)(Rx:XD->List Om->Prop):Prop|mk (a:Option Addr) (s:Led) (sh:D) (d:Int) (_:as=[.ob a (bR s),.v sh,.v (.int d)]) (_:NoL sh) (_:s.ln.length<1000) (_:R (.v (.int (s.td+(s.ln.length:Nat)))) [bR (fN s sh d)])
def Iu(F:Fun K "put_line" "Ledger.put_line" oU f J){j:Addr}(c:TxtLedger K mg j)(p:mg "len"=ŗ):FnOk P w K mg base aG (n+1) f J ["self","shares","divisor"] (lSpM K y_Ledger__put_line):=by
 refine F.okM Cj (λas R o h=>?_) (λv A outer s H E as R o G u y h l=>?_)
 ·let⟨a,s,g,d,rfl,_⟩:=h;rfl
 let⟨a,s,g,d,rfl,r,x,q⟩:=h;let⟨C,rfl⟩:=eo l
 refine⟨_,(ao (px 0 c.cl c.n_lines c.ns (bt (ad iM (ad (dv 1) (ad (dv 2) ag aa) aa) aD)) (dl bI) bI)
   (aM (bX (cB (aP db (PD.q (aP bH (PD.q (aK c.cl c.n_told c.ns (ac 0))) (PD.q (bC cI S p J4 (aI (PD.q (aK c.cl c.n_lines c.ns (ac 0))) aS aQ) aQ ae)))) (PD.q ah)))))),?_⟩
 intro B;refine⟨_,_,s.ln,S,S,ny r,bi (),dW (fN s g d),S,?_⟩;refine⟨S,_,S,S,_,S,?_⟩;refine⟨.int _,_,S,?_⟩
 have e:s.td+(((fN s g d).ln.length:Nat):Int)-1=s.td+(s.ln.length:Nat):=by change s.td+(((s.ln++[eO g d]).length:Nat):Int)-1=_;rw[Jr,J2];omega
 show (Kf (λz=>R (Sm.v (D.int z)) [bR (fN s g d)]) e).mpr q
inductive y_Ledger__drop_row(as:List Sm)(R:Sm->List Om->Prop)(Rx:XD->List Om->Prop):Prop|mk (a:Option Addr) (s:Led) (p:Nat) (_:as=[.ob a (bR s),.v (.int (p:Nat))]) (_:p<s.rs.length) (_:p<s.rm.length) (_:p<1000) (_:R (.v .non) [bR { s with rs:=s.rs.eraseIdx p,rm:=s.rm.eraseIdx p }])
def B9(F:Fun K "drop_row" "Ledger.drop_row" ou f J){e:Addr}(c:TxtLedger K mg e):FnOk P w K mg base aG (n+1) f J ["self","place"] (lSpM K y_Ledger__drop_row):=by
 refine F.okM yr (λas R j h=>?_) (λr A outer s H E as R j B o x h g=>?_)
 ·let⟨a,s,p,rfl,_⟩:=h;rfl
 let⟨a,s,p,rfl,u,l,v,q⟩:=h;let⟨z,rfl⟩:=eo g
 refine⟨_,(ao (fZ (uS 0 c.cl c.n_rows c.ns (dv 1) (dl aa) aa))
   (aM (fZ (uS 0 c.cl c.n_row_marks c.ns (dv 1) (dl aa) aa)))),?_⟩
 intro y;refine⟨_,_,s.rs.map aw,S,S,p,_,S,(),bJ (by rwa[Jp]),dW { s with rs:=s.rs.eraseIdx p },by rw[nR];rfl,?_⟩;refine⟨_,_,s.rm,S,S,p,_,S,(),bJ l,dW { s with rs:=s.rs.eraseIdx p,rm:=s.rm.eraseIdx p },S,?_⟩;show⟨_,S,q⟩
inductive z_common_of_two(ds:List D)(R:D->Prop):Prop|mk (a b:Int) (_:ds=[.int a,.int b]) (_:R (.int (Int.gcd a b)))
def BK(F:Fun K "common_of_two" "common_of_two" nL f J)(o:mg "abs"=ŗ):FnOk P w K mg base aG (n+1) f J ["one","other"] (lSp K z_common_of_two):=by
 refine F.okD qat (λds R h=>?_) (λG A outer s H E ds R C h=>?_)
 ·let⟨a,b,rfl,_⟩:=h;rfl
 let⟨a,b,rfl,q⟩:=h
 refine⟨_,(bF (dg (i:=2) qat.nd S Wv (bC mh S o L0 (aI (ac 0) aS aa) aa ae))
   (bF (dg (i:=3) qat.nd S Wv (bC mh S o L0 (aI (ac 1) aS aa) aa ae))
   (bF (Dw JO (aR (eM C.units) (ac 3) (PD.q ah) (ay _)) (bF (dg (i:=4) qat.nd S Wv (aP iQ (ac 2) (ac 3)))
   (bF (dg (i:=2) qat.nd S Wv (dv 3))
   (aL (dg (i:=3) qat.nd S Wv (dv 4))))))
   (aL (bh (dv 2)))))),?_⟩
 refine⟨λm ρ=>∃(g l:Int)(p:Ř Sl),ρ=[Z (.v (.int a)),Z (.v (.int b)),Z (.v (.int g)),Z (.v (.int l)),p]/\m=l.toNat/\0<=g/\0<=l/\Int.gcd g l=Int.gcd a b,⟨_,_,_,_,S,S,by split<;>omega,by split<;>omega,?_⟩,?_⟩
 ·have j:∀x:Int,(if x<0 then -x else x)=(x.natAbs:Int):=λx=>by split<;>omega
  rw[j,j];unfold Int.gcd;simp
 rintro m ρ ⟨g,l,p,rfl,rfl,z,B,e⟩;refine⟨λh=>?_,λh=>?_⟩
 ·have I:l≠0:=λr=>by rw[r]at h;cases h
  have c:0<l:=by omega
  have j:=M3 g c;have y:=Nx g (b:=l) ();show⟨c,(g % l).toNat,(),l,g % l,_,S,S,B,y,(Cp z c).trans e⟩
 ·have v:l=0:=by have:(!(l==0))=Ś:=h;simp at this;show this
  subst v
  have u:g=(Int.gcd a b:Int):=by rw[←e];simp;omega
  rwa[u]
inductive z_common(ds:List D)(R:D->Prop):Prop|mk (ns:List Int) (_:ds=[.tup (ns.map D.int)]) (_:R (.int (bp ns)))
def EG(F:Fun K "common" "common" ng f J)(c:Cl P w K mg base n "common_of_two" ["one","other"] z_common_of_two):FnOk P w K mg base aG (n+1) f J ["numbers"] (lSp K z_common):=by
 refine F.okD qas (λds R h=>?_) (λj A outer s H E ds R g h=>?_)
 ·let⟨ns,rfl,_⟩:=h;rfl
 let⟨ns,rfl,q⟩:=h
 refine⟨_,(bF (dg (i:=1) qas.nd S Wv ah)
   (bF (fk JO S (b7 (dv 0)) (bf (i:=2) qas.nd S Wv) (aL (dg (i:=1) qas.nd S Wv (bc c g S (ad (dv 2) (ad (dv 1) ag aa) aa) aa (ar aa ae)))))
   (aL (bh (dv 1))))),?_⟩
 refine⟨λi ρ=>∃a:Ř Sl,ρ=[Z (.v (.tup (ns.map D.int))),Z (.v (.int (bp (ns.take i)))),a],⟨_,S⟩,?_,?_⟩
 ·rintro i d ρ hd ⟨a,rfl⟩;let⟨k,rfl,e⟩:=bN hd;refine⟨_,_,S,Z (.v (.int k)),?_⟩;rw[gR e,EO];rfl
 ·rintro ρ ⟨a,rfl⟩;rwa[Jp,KL]
inductive z_up(ds:List D)(R:D->Prop):Prop|mk (a d:Int) (_:ds=[.int a,.int d]) (_:1<=d) (_:d<2^9000) (_:R (.int (-(-a/d))))
def HW(F:Fun K "up" "up" mF f J) :FnOk P w K mg base aG (n+1) f J ["top","bottom"] (lSp K z_up):=by
 refine F.okD yu (λds R h=>?_) (λe A outer s H E ds R j h=>?_)
 ·let⟨a,d,rfl,_⟩:=h;rfl
 let⟨a,d,rfl,g,c,q⟩:=h
 refine⟨_,(fu (cE (aR ik (ac 1) (PD.q ah) (ay _)) (aL Du) cF)
   (aL (bh (ef (PD.q (aP qC (PD.q (ef (ac 0))) (ac 1))))))),?_⟩
 refine⟨λρ=>ρ=[Z (.v (.int a)),Z (.v (.int d))],⟨λh=>absurd (dP h) (),λ_=>rfl⟩,?_⟩;rintro ρ rfl;show⟨CDivB.of () c,q⟩
noncomputable def fS(r:aq):aq:=if bp r.1=0 then r else (r.1.map (·/bp r.1),-(-r.2/bp r.1))
inductive z_evened(ds:List D)(R:D->Prop):Prop|mk (r:aq) (_:ds=[aw r]) (_:r.1.length<=1000) (_:0<=bp r.1) (_:bp r.1<2^9000) (_:R (aw (fS r)))
def Ct(F:Fun K "evened" "evened" lB f J)(u:Cl P w K mg base n "common" ["numbers"] z_common)(p:Cl P w K mg base n "up" ["top","bottom"] z_up)(j:mg "tuple"=ŗ):FnOk P w K mg base aG (n+1) f J ["row"] (lSp K z_evened):=by
 refine F.okD qaw (λds R h=>?_) (λv A outer s H E ds R a h=>?_)
 ·let⟨r,rfl,_⟩:=h;rfl
 let⟨r,rfl,l,y,c,q⟩:=h
 refine⟨_,(bF (dg (i:=1) qaw.nd S (ß S) (bc u a S (ad (ax (ac 0)) ag aA) aA ae))
   (fu (cE (aR (df a.units) (ac 1) (PD.q ah) (ay _)) (aL (bh (dv 0))) cF)
   (aL (bh (bt (ad (cf cG S j JE (aI (PD.q (PF.d (cZ (k:=1) (N':=["entry","divisor"]) (cap:=[ŗ,Z 1]) S (.ok (show bV ["row","divisor"] (au lB) _ ["entry","divisor"] [ŗ,Z 1]=ř by lia)) 'a' (bz 'b') (b7 (ax (ac 0))) (λ_ _ _ _ _=>(bf (i:=0) (show List.Nodup (["entry","divisor"]:Y Str)by lia) S Wv)) (λ_ _ _ _ _=>(aP qC (ac 0) (ac 1)))))) aS bx) bx ae) (ad (bc p a S (ad (ax (ac 0)) (ad (dv 1) ag aa) aA) aA (ar aa ae)) ag bg) bg)))))),?_⟩
 refine⟨_,S,r.1,S,?_⟩;refine⟨λρ=>bp r.1≠0/\ρ=[Z (.v (aw r)),Z (.v (.int (bp r.1)))],⟨λh=>?_,λh=>⟨?_,S⟩⟩,?_⟩
 ·have e:bp r.1=0:=eq_of_beq h
  have:fS r=r:=by unfold fS;rw[JC e]
  rw[this]at q;show q
 ·intro e;have h':(bp r.1==0)=Ś:=h;rw[e]at h';cases h'
 rintro ρ ⟨g,rfl⟩
 have o:0<bp r.1:=by omega
 refine⟨_,S,?_⟩;refine jM (f:=D.int) (λx=>x/bp r.1) (bi l) (λx _=>⟨CDivB.of o c,S⟩) ?_;refine⟨_,S,r.2,bp r.1,S,(),c,?_⟩
 have:fS r=(r.1.map (·/bp r.1),-(-r.2/bp r.1)):=by unfold fS;rw[Jv g]
 rw[this]at q;show q
inductive z_without(ds:List D)(R:D->Prop):Prop|mk (es:List Int) (u:Nat) (_:ds=[.tup (es.map D.int),.int (u:Nat)]) (_:es.length<=1000) (_:R (.tup ((es.set u 0).map D.int)))
def Bc(F:Fun K "without" "without" lN f J)(g:mg "tuple"=ŗ)(j:mg "enumerate"=ŗ):FnOk P w K mg base aG (n+1) f J ["entries","unknown"] (lSp K z_without):=by
 refine F.okD Ci (λds R h=>?_) (λr A outer s H E ds R p h=>?_)
 ·let⟨es,u,rfl,_⟩:=h;rfl
 let⟨es,u,rfl,o,q⟩:=h;refine⟨_,(aL (bh (cf cG S g JE (aI (PD.q (PF.d (cZ (k:=2) (N':=["place","entry","unknown"]) (cap:=[ŗ,ŗ,Z 1]) S (.ok (show bV ["entries","unknown"] (au lN) _ ["place","entry","unknown"] [ŗ,ŗ,Z 1]=ř by lia)) 'a' (hJ (n:=2) (dD (bz 'b') (dD (bz 'b') hV))) (gD S j (ad (dv 0) ag aa)) (λ_ _ _ _ _=>(dM (n:=2) S (bL (bf (i:=0) (show List.Nodup (["place","entry","unknown"]:Y Str)by lia) S Wv) (bL (bf (i:=1) (show List.Nodup (["place","entry","unknown"]:Y Str)by lia) S Wv) dH)))) (λ_ _ _ _ _=>(oq (aR (df p.units) (ac 0) (ac 2) (ay _)) ah (dv 1)))))) aS bx) bx ae))),?_⟩;refine oK ((es.set u 0).map D.int) (by rw[eQ,Jp,Jp,Ju]) (by rw[eQ,Jp];show bi o) (λi y=>((es.set u 0).map D.int)[i]?=Z y) (λi y h=>h) (λi d hd=>?_) q;let⟨e,l,rfl⟩:=gq hd;let⟨x,rfl,a⟩:=bN l;by_cases c:i=u
 ·subst c;refine⟨S,λ_=>?_,λh=>?_⟩
  ·change ((es.set i 0).map D.int)[i]?=Z (D.int 0);rw[JF,JS (aC a)];rfl
  ·have h':((i:Int)==(i:Int))=Ś:=h;rw[J3]at h';cases h'
 ·refine⟨S,λh=>?_,λ_=>?_⟩
  ·have h':((i:Int)==(u:Int))=ř:=h;have:=eq_of_beq h';omega
  ·change ((es.set u 0).map D.int)[i]?=Z (D.int x);rw[JF,JN (λe=>c e.symm),a];rfl
noncomputable def dm(es:Y Int):Y Nat:=(List.range es.length).filter λi=>decide (es.getD i 0≠0)
def Hs{es:Y Int}{ys:Y (Ř D)}(a:ys.length=es.length)(c:∀i y,ys[i]?=Z y->iU (λi=>decide (es.getD i 0≠0)) (λi=>aZ i) i y):ys.filterMap id=(dm es).map aZ:=kj a c
inductive z_only_unknown(ds:List D)(R:D->Prop):Prop|mk (es:List Int) (u:Nat) (_:ds=[.tup (es.map D.int)]) (_:es.length<=1000) (_:(dm es)[0]?=Z u) (_:R (aZ u))
def Gc(F:Fun K "only_unknown" "only_unknown" ku f J)(c:mg "enumerate"=ŗ):FnOk P w K mg base aG (n+1) f J ["entries"] (lSp K z_only_unknown):=by
 refine F.okD Iw (λds R h=>?_) (λr A outer s H E ds R j h=>?_)
 ·let⟨es,u,rfl,_⟩:=h;rfl
 let⟨es,u,rfl,v,l,q⟩:=h;refine⟨_,(aL (bh (ax (PD.q (PF.d (qf (k:=2) (N':=["place","entry"]) (cap:=[ŗ,ŗ]) S (.ok (show bV ["entries"] (au ku) _ ["place","entry"] [ŗ,ŗ]=ř by lia)) 'a' (hJ (n:=2) (dD (bz 'b') (dD (bz 'b') hV))) (gD S c (ad (dv 0) ag aa)) (λ_ _ _ _ _=>(dM (n:=2) S (bL (bf (i:=0) (show List.Nodup (["place","entry"]:Y Str)by lia) S Wv) (bL (bf (i:=1) (show List.Nodup (["place","entry"]:Y Str)by lia) S Wv) dH)))) (λ_ _ _ _ _=>(jT (aR (eM j.units) (ac 1) (PD.q ah) (ay _)))) (λ_ _ _ _ _=>(dv 0)))))))),?_⟩;refine⟨by rw[eQ,Jp];show bi (),iU (λi=>decide (es.getD i 0≠0)) (λi=>aZ i),λi d hd=>?_,λys a p=>?_⟩
 ·let⟨e,g,rfl⟩:=gq hd;let⟨x,rfl,o⟩:=bN g;have ex:es.getD i 0=x:=fb o;refine⟨S,λh=>⟨S,?_⟩,λh=>?_⟩
  ·change decide (es.getD i 0≠0)=ř;rw[ex]
   show Kk λe=>by rw[e]at h;cases h
  ·change decide (es.getD i 0≠0)=Ś;rw[ex];refine JX λe=>?_;have h':(!(x==0))=Ś:=h
   have:(x==0)=ř:=by simpa using h'
   show e (eq_of_beq this)
 rw[eQ,Jp]at a;rw[Hs a p];show⟨_,cD (i:=0) l S,q⟩
noncomputable def jp(bs:Y Bd):Nat:=(bs.filter λb=>b.2.isSome).length
noncomputable def gp(bs:Y Bd)(i:Nat):D:=if (am bs i).2.isSome then .int (bs.length+jp (bs.take i):Nat) else .non
noncomputable def mO(bs:Y Bd):Y D:=(List.range bs.length).map (gp bs)
def vL{bs:Y Bd}{i:Nat}{b:Bd}(h:bs[i]?=Z b):jp (bs.take (i+1))=jp (bs.take i)+if b.2.isSome then 1 else 0:=by unfold jp;rw[gR h,Mj,Jr];congr 1;cases e:b.2.isSome<;>simp[e]
inductive y_first_most_marks(as:List Sm)(R:Sm->List Om->Prop)(Rx:XD->List Om->Prop):Prop|mk (bs:List Bd) (_:as=[.v (.tup (bs.map aU))]) (_:bs.length<=1000) (_:R (.ob ŗ (.lst (mO bs))) [])
def xU(F:Fun K "first_most_marks" "first_most_marks" mI f J)(p:mg "len"=ŗ):FnOk P w K mg base aG (n+1) f J ["bounds"] (lSpM K y_first_most_marks):=by
 refine F.okM qax (λas R o h=>?_) (λu A outer s H E as R o z r x h l=>?_)
 ·let⟨bs,rfl,_⟩:=h;rfl
 let⟨bs,rfl,v,q⟩:=h;obtain rfl:=ip l
 refine⟨_,(ao (aJ (i:=1) qax.nd S Wv (dk (da ag)))
   (ao (aJ (i:=2) qax.nd S Wv (af (bC cI S p J4 (aI (ac 0) aS aa) aa ae)))
   (ao (eJ JO S (eT (b7 (dv 0))) (bZ (i:=3) qax.nd S Wv) (aM (bT (bO (aR gB (PD.q (ax (ac 3))) (PD.q bq) (ay _))) (aM (fU 1 (af bq) (dl aD) aD)) (ao (fU 1 (af (dv 2)) (dl aa) aa)
   (aM (aJ (i:=2) qax.nd S Wv (af (aP bH (ac 2) (PD.q ah)))))))))
   (aM (bX (jR 1)))))),?_⟩
 intro y;refine⟨λi ρ=>∃e:Ř Sm,ρ=[Z (.v (.tup (bs.map aU))),Z (.own ((List.range i).map (gp bs))),Z (.v (.int (bs.length+jp (bs.take i):Nat))),e],⟨ŗ,?_⟩,?_,?_⟩
 ·change [_,_,_,_]=_
  have:(((bs.map aU).length:Nat):Int)=((bs.length+jp (bs.take 0):Nat):Int):=by rw[Jp];rfl
  rw[←this];rfl
 ·rintro i d ρ hd ⟨e,rfl⟩;let⟨b,rfl,a⟩:=bN hd;have g:am bs i=b:=fb a
  have j:(List.range (i+1)).map (gp bs)=(List.range i).map (gp bs)++[gp bs i]:=by rw[Lz,Ku];rfl
  have hsz:((List.range i).map (gp bs)).length<sizeLine:=by have:=aC a;rw[Jp,JQ];show bi ()
  refine⟨oI b.2,S,?_⟩
  cases c:b.2 with
  |none=>
   refine⟨λ_=>?_,λh=>(by cases h)⟩;refine⟨hsz,_,S,Z (.v (aU b)),?_⟩;rw[j,vL a,c]
   have:gp bs i=.non:=by unfold gp;rw[g,c];rfl
   rw[this];rfl
  |some m=>
   refine⟨λh=>(by cases h),λ_=>?_⟩;refine⟨hsz,_,S,Z (.v (aU b)),?_⟩;rw[j,vL a,c]
   have:gp bs i=.int (bs.length+jp (bs.take i):Nat):=by unfold gp;rw[g,c];rfl
   rw[this];rfl
 ·rintro ρ ⟨e,rfl⟩;rwa[Jp]
noncomputable def eI(s:Led)(u:Nat)(e:Int):D:=if 0<e then .tup [s.mm.getD u .non,.int e] else .tup [s.lm.getD u .non,.int (-e)]
inductive z_Ledger__bound_share(ds:List D)(R:D->Prop):Prop|mk (s:Led) (u:Nat) (e:Int) (_:ds=[iw s,aZ u,.int e]) (_:u<s.mm.length) (_:u<s.lm.length) (_:R (eI s u e))
def HA(F:Fun K "bound_share" "Ledger.bound_share" oV f J){c:Addr}(a:TxtLedger K mg c):FnOk P w K mg base aG (n+1) f J ["self","unknown","entry"] (lSp K z_Ledger__bound_share):=by
 refine F.okD AI (λds R h=>?_) (λo A outer s H E ds R p h=>?_)
 ·let⟨s,u,e,rfl,_⟩:=h;rfl
 let⟨s,u,e,rfl,g,j,q⟩:=h
 refine⟨_,(fu (cE (aR fi (ac 2) (PD.q ah) (ay _)) (aL (bh (bt (ad (bu (PD.q (aK a.cl a.n_most_marks a.ns (ac 0))) (ac 1) (λ_ _=>rfl)) (ad (dv 2) ag aa) aA)))) cF)
   (aL (bh (bt (ad (bu (PD.q (aK a.cl a.n_least_marks a.ns (ac 0))) (ac 1) (λ_ _=>rfl)) (ad (ef (ac 2)) ag iy) aA))))),?_⟩
 refine⟨λρ=>¬ 0<e/\ρ=[Z (.v (iw s)),Z (.v (aZ u)),Z (.v (.int e))],⟨λh=>?_,λh=>⟨?_,S⟩⟩,?_⟩
 ·have h:=dP h;unfold eI at q;rw[JC h]at q;show⟨S,_,S,s.mm.getD u .non,fW (bU g) S,q⟩
 ·show KH h
 rintro ρ ⟨l,rfl⟩;unfold eI at q;rw[Jv l]at q;show⟨S,_,S,s.lm.getD u .non,fW (bU j) S,q⟩
noncomputable def gk(s:Led)(u:Nat)(l:Int)(rs:Y aq):Led:={ s with st:=s.st.erase u,gn:=s.gn++[(u,l,rs)] }
def y6{st:Y Nat}{u:Nat}(h:u∈st):∃k,st[k]?=Z u/\(∀m<k,st[m]?≠Z u)/\st.eraseIdx k=st.erase u:=by
 induction st with
 |nil=>cases h
 |cons x st o=>
  by_cases c:x=u
  ·subst c;show⟨0,S,λm a=>absurd a (Kv _),by rw[List.erase_cons_head];rfl⟩
  ·let⟨k,g,j,l⟩:=o ((JI.mp h).resolve_left λe=>c e.symm);refine⟨k+1,g,λm a=>?_,?_⟩
   ·cases m with
    |zero=>intro e;show c (JY e)
    |succ m=>show j m ()
   ·rw[List.erase_cons_tail (by simpa using c),←l];rfl
def pY(rs:Y aq):∀d∈rs.map aw,NoL d:=λd hd=>by let⟨r,_,rfl⟩:=JL.mp hd;show .tup (bv (.tup λe a=>by let⟨x,_,rfl⟩:=JL.mp a;show .int x) (bv (.int _) c9))
def ms(r:aq):NoL (aw r):=pY [r] _ (by simp)
def pb(st:Y Nat):st.map aZ=(st.map λn:Nat=>(n:Int)).map D.int:=by rw[Kh];rfl
inductive y_Ledger__let_go(as:List Sm)(R:Sm->List Om->Prop)(Rx:XD->List Om->Prop):Prop|mk (a:Option Addr) (s:Led) (u:Nat) (l:Int) (rs:List aq) (_:as=[.ob a (bR s),.v (aZ u),.v (.int l),.v (.lst (rs.map aw))]) (_:u∈s.st) (_:s.gn.length<1000) (_:R (.v .non) [bR (gk s u l rs)])
def EW(F:Fun K "let_go" "Ledger.let_go" l9 f J){j:Addr}(c:TxtLedger K mg j)(r:mg "tuple"=ŗ):FnOk P w K mg base aG (n+1) f J ["self","unknown","least","rows"] (lSpM K y_Ledger__let_go):=by
 refine F.okM xT (λas R p h=>?_) (λI A outer s H E as R p Q G M h o=>?_)
 ·let⟨a,s,u,l,rs,rfl,_⟩:=h;rfl
 let⟨a,s,u,l,rs,rfl,C,L,q⟩:=h;let⟨O,rfl⟩:=eo o
 refine⟨_,(ao (px 0 c.cl c.n_gone c.ns (bt (ad (dv 1) (ad (dv 2) (ad (cf cG S r JE (aI (ac 3) aS aa) aa ae) ag bg) aa) aa)) (dl bI) bI)
   (aM (DN 0 c.cl c.n_staying c.ns (dv 1) (dl aa) aa))),?_⟩
 intro N;refine⟨_,_,s.gn.map lK,S,S,.tup (bv (.int _) (bv (.int _) (bv (.tup (pY rs)) c9))),by rw[Jp];show bi (),dW { s with gn:=s.gn++[(u,l,rs)] },by rw[show s.gn.map lK++[D.tup [aZ u,D.int l,D.tup (rs.map aw)]]=(s.gn++[(u,l,rs)]).map lK from by rw[Ku];rfl];rfl,?_⟩;let⟨k,v,y,z⟩:=y6 C;refine⟨_,_,s.st.map aZ,S,S,s.st.map (λn:Nat=>(n:Int)),u,k,S,pb s.st,by rw[JF,v];rfl,λm B e=>?_,dW (gk s u l rs),?_,?_⟩
 ·rw[JF]at e
  cases g:s.st[m]? with
  |none=>rw[g]at e;cases e
  |some x=>
   rw[g]at e;have:(x:Int)=(u:Int):=JY e;show y m B (by rw[g];congr 1;omega)
 ·rw[nR,z,←pb];rfl
 ·show⟨_,S,q⟩
def gC(d:D):D:=.tup [.tup [d,.int 1]]
def ki{d:D}(h:NoL d):NoL (gC d):=.tup (bv (.tup (bv h (bv (.int _) c9))) c9)
noncomputable def fL(s:Led):D:=.int (s.td+(s.ln.length:Nat))
noncomputable def i9(s:Led)(p:Nat)(r:aq):Led:={ s with ln:=s.ln++[eO (gC (s.rm.getD p .non)) (bp r.1)],rm:=s.rm.set p (fL s),rs:=s.rs.set p (fS r) }
inductive y_Ledger__even_row(as:List Sm)(R:Sm->List Om->Prop)(Rx:XD->List Om->Prop):Prop|mk (a:Option Addr) (s:Led) (p:Nat) (r:aq) (_:as=[.ob a (bR s),.v (aZ p)]) (_:s.rs[p]?=Z r) (_:p<s.rm.length) (_:(∀d∈s.rm,NoL d)) (_:s.ln.length<1000) (_:r.1.length<=1000) (_:0<=bp r.1) (_:bp r.1<2^9000) (_:R (.v .non) [bR (i9 s p r)])
def Et(F:Fun K "even_row" "Ledger.even_row" oP f J){l:Addr}(c:TxtLedger K mg l)(v:Cl P w K mg base n "evened" ["row"] z_evened)(L:Cl P w K mg base n "common" ["numbers"] z_common)(x:MthM P w K mg base n l "put_line" ["self","shares","divisor"] y_Ledger__put_line):FnOk P w K mg base aG (n+1) f J ["self","place"] (lSpM K y_Ledger__even_row):=by
 refine F.okM qaa (λas R B h=>?_) (λN A outer s H E as R B U M g h y=>?_)
 ·let⟨a,s,p,r,rfl,_⟩:=h;rfl
 let⟨a,s,p,r,rfl,j,e,u,I,z,C,G,q⟩:=h;let⟨Q,rfl⟩:=eo y
 refine⟨_,(ao (aJ (i:=2) qaa.nd S Wv (cB (bu (PD.q (aK c.cl c.n_rows c.ns (ac 0))) (ac 1) (λ_ _=>rfl))))
   (ao (iX 0 c.cl c.n_row_marks c.ns (eR 0 x g c.cl c.ns (aB (cB (bt (ad (bt (ad (bu (PD.q (aK c.cl c.n_row_marks c.ns (ac 0))) (ac 1) (λ_ _=>rfl)) (ad ah ag aD) aA)) ag bI))) (aB (af (bc L g S (ad (ax (ac 2)) ag aA) aA ae)) ba bg) bI) bI (ar bg ae)) (dv 1))
   (aM (iX 0 c.cl c.n_rows c.ns (af (bc v g S (ad (dv 2) ag aa) aa ae)) (dv 1))))),?_⟩
 intro O;have o:s.rm.getD p .non∈s.rm:=cK e;refine⟨S,_,S,aw r,cD j S,ms r,?_⟩;refine⟨⟨_,_,S,S⟩,S,_,S,s.rm.getD p .non,fW (bU e) S,ki (u _ o),_,S,r.1,S,_,S,S,_,s,_,_,S,ki (u _ o),I,?_⟩;rfl';refine⟨_,_,s.rm,S,S,_,p,S,eS e,dW { s with ln:=s.ln++[eO (gC (s.rm.getD p .non)) (bp r.1)],rm:=s.rm.set p (fL s) },S,?_⟩;refine⟨r,S,z,C,G,_,_,s.rs.map aw,S,S,_,p,S,eS (by rw[Jp];show aC j),dW (i9 s p r),by rw[←Lk];rfl,?_⟩;show⟨_,S,q⟩
def dB(a d:Int):Int:=-(-a/d)
noncomputable def bG(s:Led)(p u:Nat)(r:aq):Led:=
 if 0<r.1.getD u 0/\(am s.bs u).1<dB r.2 ((r.1.getD u 0).natAbs:Int) then { s with bs:=s.bs.set u (dB r.2 ((r.1.getD u 0).natAbs:Int),(am s.bs u).2),ln:=s.ln++[eO (gC (s.rm.getD p .non)) (r.1.getD u 0)],lm:=s.lm.set u (fL s) }
 else if r.1.getD u 0<0/\(∀m,(am s.bs u).2=Z m->-dB r.2 ((r.1.getD u 0).natAbs:Int)<m) then { s with bs:=s.bs.set u ((am s.bs u).1,Z (-dB r.2 ((r.1.getD u 0).natAbs:Int))),ln:=s.ln++[eO (gC (s.rm.getD p .non)) (-r.1.getD u 0)],mm:=s.mm.set u (fL s) }
 else s
noncomputable def cg(s:Led)(p:Nat):Led:={ s with rs:=s.rs.eraseIdx p,rm:=s.rm.eraseIdx p }
noncomputable def kU(s:Led)(p u:Nat)(r:aq):Led:=cg (bG s p u r) p
def wY(s:Led)(p u:Nat)(r:aq):(bG s p u r).rs=s.rs/\(bG s p u r).rm=s.rm:=by
 unfold bG;split
 ·show⟨S,S⟩
 ·split<;>show⟨S,S⟩
inductive y_Ledger__turn_to_bound(as:List Sm)(R:Sm->List Om->Prop)(Rx:XD->List Om->Prop):Prop|mk (a:Option Addr) (s:Led) (p u:Nat) (r:aq) (_:as=[.ob a (bR s),.v (aZ p)]) (_:s.rs[p]?=Z r) (_:p<s.rm.length) (_:p<1000) (_:(∀d∈s.rm,NoL d)) (_:s.ln.length<1000) (_:r.1.length<=1000) (_:(dm r.1)[0]?=Z u) (_:u<s.bs.length) (_:u<s.lm.length) (_:u<s.mm.length) (_:(∀x∈r.1,x.natAbs<2^9000)) (_:R (.v .non) [bR (kU s p u r)])
def CM(F:Fun K "turn_to_bound" "Ledger.turn_to_bound" ox f J){L:Addr}(c:TxtLedger K mg L)(a_:Cl P w K mg base n "only_unknown" ["entries"] z_only_unknown)(l0:Cl P w K mg base n "up" ["top","bottom"] z_up)(be:MthM P w K mg base n L "drop_row" ["self","place"] y_Ledger__drop_row)(b_:MthM P w K mg base n L "put_line" ["self","shares","divisor"] y_Ledger__put_line)(ie:mg "abs"=ŗ):FnOk P w K mg base aG (n+1) f J ["self","place"] (lSpM K y_Ledger__turn_to_bound):=by
 refine F.okM qad (λas R Rx h=>?_) (λNZ A outer s H E as R Rx qs N4 v h Of=>?_)
 ·let⟨a,s,p,u,r,rfl,_⟩:=h;rfl
 let⟨a,s,p,u,r,rfl,Q,U,OZ,hm,I,Ol,X,Sk,PM,T,h9,q⟩:=h;let⟨pa,rfl⟩:=eo Of
 refine⟨_,(ao (aJ (i:=2) qad.nd S Wv (cB (bu (PD.q (aK c.cl c.n_rows c.ns (ac 0))) (ac 1) (λ_ _=>rfl))))
   (ao (aJ (i:=3) qad.nd S Wv (cB (bu (PD.q (aK c.cl c.n_row_marks c.ns (ac 0))) (ac 1) (λ_ _=>rfl))))
   (ao (aJ (i:=4) qad.nd S Wv (af (bc a_ v S (ad (ax (ac 2)) ag aA) aA ae)))
   (ao (aJ (i:=5) qad.nd S Wv (af (bu (PD.q (ax (ac 2))) (ac 4) (λ_ _=>rfl))))
   (ao (aJ (i:=6) qad.nd S Wv (cB (bu (PD.q (aK c.cl c.n_bounds c.ns (ac 0))) (ac 4) (λ_ _=>rfl))))
   (ao (aJ (i:=7) qad.nd S Wv (af (bc l0 v S (ad (ax (ac 2)) (ad (bC mh S ie L0 (aI (ac 5) aS aa) aa ae) ag bg) aA) aA (ar bg ae))))
   (cq (bT (bO (PWD.td (fq (aR fi (ac 5) (PD.q ah) (ay _)) (gZ (aR fi (ac 7) (PD.q (ax (ac 6))) (ay _)))))) (ao (iX 0 c.cl c.n_bounds c.ns (af (bt (ad (dv 7) (ad (ax (ac 6)) ag aA) aa))) (dv 4))
   (aM (iX 0 c.cl c.n_least_marks c.ns (eR 0 b_ v c.cl c.ns (aB (af (bt (ad (bt (ad (dv 3) (ad ah ag aD) aa)) ag bI))) (aB (af (dv 5)) ba aa) bI) bI (ar aa ae)) (dv 4)))) (aM (bT (bO (PWD.td (fq (aR ik (ac 5) (PD.q ah) (ay _)) (gZ (PWD.td (en (aR gB (PD.q (ax (ac 6))) (PD.q bq) (ay _)) (iq (aR ik (PD.q (ef (ac 7))) (PD.q (ax (ac 6))) (ay _))))))))) (ao (iX 0 c.cl c.n_bounds c.ns (af (bt (ad (ax (ac 6)) (ad (ef (ac 7)) ag iy) aA))) (dv 4))
   (aM (iX 0 c.cl c.n_most_marks c.ns (eR 0 b_ v c.cl c.ns (aB (af (bt (ad (bt (ad (dv 3) (ad ah ag aD) aa)) ag bI))) (aB (af (ef (ac 5))) ba iy) bI) bI (ar iy ae)) (dv 4)))) ce)))
   (aM (fZ (eR 0 be v c.cl c.ns (aB (af (dv 1)) ba aa) aa ae)))))))))),?_⟩
 intro ke;have y:NoL (s.rm.getD p .non):=hm _ (cK U);have Sn:u∈dm r.1:=Jw X;let⟨B,N⟩:=J9.mp Sn;have B:u<r.1.length:=JU.mp B;have Oh:r.1.getD u 0≠0:=Kc N;refine⟨S,_,S,aw r,cD Q S,ms r,?_⟩;refine⟨S,_,S,s.rm.getD p .non,fW (bU U) S,y,?_⟩;refine⟨_,S,r.1,u,S,Ol,X,?_⟩;refine⟨_,S,_,cD (i:=u) (bU (d:=0) B) S,?_⟩;refine⟨S,_,S,aU (am s.bs u),fQ Sk S,.tup (bv (.int _) (bv (by cases (am s.bs u).2<;>constructor) c9)),?_⟩
 have VI:(if r.1.getD u 0<0 then -r.1.getD u 0 else r.1.getD u 0)=((r.1.getD u 0).natAbs:Int):=by split<;>omega
 have VJ:(((r.1.getD u 0).natAbs:Nat):Int)<2^9000:=by exact_mod_cast h9 _ (cK B)
 refine⟨_,S,r.2,((r.1.getD u 0).natAbs:Int),Kf (λz=>[D.int r.2,D.int z]) VI,(),VJ,?_⟩;generalize o:r.1.getD u 0=e at *;generalize hb:(-(-r.2/((e.natAbs:Nat):Int)))=b at *;have l:dB r.2 ((e.natAbs:Nat):Int)=b:=hb;refine⟨λρ=>ρ=[Z (.ob (Z pa) (bR (bG s p u r))),Z (.v (aZ p)),Z (.v (aw r)),Z (.v (s.rm.getD p .non)),Z (.v (aZ u)),Z (.v (.int e)),Z (.v (aU (am s.bs u))),Z (.v (.int b))],?_,?_⟩
 ·have hs1:s.ln.length<1000:=I;by_cases j:0<e
  ·refine⟨λ_=>⟨_,S,?_⟩,λh=>absurd j (KH h)⟩;by_cases C:(am s.bs u).1<b
   ·refine⟨λ_=>?_,λh=>absurd C (KH h)⟩
    have g:bG s p u r={ s with bs:=s.bs.set u (b,(am s.bs u).2),ln:=s.ln++[eO (gC (s.rm.getD p .non)) e],lm:=s.lm.set u (fL s) }:=by unfold bG;rw[o,l,JC ⟨j,C⟩]
    refine⟨_,S,_,_,s.bs.map aU,S,S,_,u,S,eS (by rwa[Jp]),dW { s with bs:=s.bs.set u (b,(am s.bs u).2) },by rw[show D.tup [D.int b,oI (am s.bs u).2]=aU (b,(am s.bs u).2)from rfl,←Lk];rfl,?_⟩;refine⟨⟨_,_,S,S⟩,_,S,S,_,{ s with bs:=s.bs.set u (b,(am s.bs u).2) },_,_,S,ki y,I,?_⟩;rfl';refine⟨_,_,s.lm,S,S,_,u,S,eS PM,dW (bG s p u r),by rw[g];rfl,S⟩
   ·refine⟨λh=>absurd (dP h) C,λ_=>?_⟩;refine⟨λh=>absurd (dP h) (),λ_=>⟨ff,λ_=>?_⟩⟩
    have g:bG s p u r=s:=by unfold bG;rw[o,l,Jv (λh=>C h.2),Jv (λh=>by omega)]
    rw[g];rfl
  ·refine⟨λh=>absurd (dP h) j,λ_=>⟨ff,λ_=>?_⟩⟩;refine⟨λ_=>⟨oI (am s.bs u).2,S,?_⟩,λh=>absurd (KH h) ()⟩
   cases x:(am s.bs u).2 with
   |none=>
    refine⟨λ_=>⟨λ_=>?_,tf⟩,tf⟩
    have M:∀m,(am s.bs u).2=Z m->-b<m:=λm h=>by rw[x]at h;cases h
    have g:bG s p u r={ s with bs:=s.bs.set u ((am s.bs u).1,Z (-b)),ln:=s.ln++[eO (gC (s.rm.getD p .non)) (-e)],mm:=s.mm.set u (fL s) }:=by unfold bG;rw[o,l,Jv (λh=>j h.1),JC ⟨(),M⟩]
    refine⟨_,S,_,_,s.bs.map aU,S,S,_,u,S,eS (by rwa[Jp]),dW { s with bs:=s.bs.set u ((am s.bs u).1,Z (-b)) },by rw[show D.tup [D.int (am s.bs u).1,D.int (-b)]=aU ((am s.bs u).1,Z (-b))from rfl,←Lk];rfl,?_⟩;refine⟨⟨_,_,S,S⟩,_,S,S,_,{ s with bs:=s.bs.set u ((am s.bs u).1,Z (-b)) },_,_,S,ki y,I,?_⟩;rfl';refine⟨_,_,s.mm,S,S,_,u,S,eS T,dW (bG s p u r),by rw[g];rfl,S⟩
   |some m=>
    refine⟨ff,λ_=>⟨D.int m,(Kf (λz=>cr [D.int (am s.bs u).1,oI z] 1) x).trans S,?_⟩⟩;by_cases G:-b<m
    ·refine⟨λ_=>?_,λh=>absurd G (KH h)⟩
     have M:∀O,(am s.bs u).2=Z O->-b<O:=λO h=>by rw[x]at h;cases h;show G
     have g:bG s p u r={ s with bs:=s.bs.set u ((am s.bs u).1,Z (-b)),ln:=s.ln++[eO (gC (s.rm.getD p .non)) (-e)],mm:=s.mm.set u (fL s) }:=by unfold bG;rw[o,l,Jv (λh=>j h.1),JC ⟨(),M⟩]
     refine⟨_,S,_,_,s.bs.map aU,S,S,_,u,S,eS (by rwa[Jp]),dW { s with bs:=s.bs.set u ((am s.bs u).1,Z (-b)) },by rw[show D.tup [D.int (am s.bs u).1,D.int (-b)]=aU ((am s.bs u).1,Z (-b))from rfl,←Lk];rfl,?_⟩;refine⟨⟨_,_,S,S⟩,_,S,S,_,{ s with bs:=s.bs.set u ((am s.bs u).1,Z (-b)) },_,_,S,ki y,I,?_⟩;rfl';refine⟨_,_,s.mm,S,S,_,u,S,eS T,dW (bG s p u r),by rw[g];rfl,S⟩
    ·refine⟨λh=>absurd (dP h) G,λ_=>?_⟩
     have g:bG s p u r=s:=by unfold bG;rw[o,l,Jv (λh=>j h.1),Jv (λh=>G (h.2 m x))]
     rw[g];rfl
 rintro ρ rfl;let⟨t1,t2⟩:=wY s p u r;show⟨⟨_,_,S,S⟩,_,S,S,_,bG s p u r,p,S,by rw[t1];show aC Q,by rwa[t2],OZ,_,S,q⟩
noncomputable abbrev bQ(rs:Y aq)(p:Nat):aq:=rs.getD p ([],0)
noncomputable def iI(u:Nat)(n:Int)(s:Led)(p:Nat):Led:=
 if (bQ s.rs p).1.getD u 0=0 then s else { s with ln:=s.ln++[eO (.tup [.tup [s.rm.getD p .non,.int 1],eI s u ((bQ s.rs p).1.getD u 0)]) 1],rm:=s.rm.set p (fL s),rs:=s.rs.set p ((bQ s.rs p).1.set u 0,(bQ s.rs p).2-(bQ s.rs p).1.getD u 0*n) }
noncomputable def dJ(s:Led)(u:Nat)(n:Int)(i:Nat):Led:=(List.range i).foldl (iI u n) s
def mq(s:Led)(u:Nat)(n:Int)(i:Nat):dJ s u n (i+1)=iI u n (dJ s u n i) i:=by unfold dJ;rw[Lz,LF];rfl
noncomputable def cb(u:Nat)(n:Int)(s:Led):Led:=if s.gl.getD u 0=0 then s else { s with gs:=s.gs++[eI s u (s.gl.getD u 0)],ex:=s.ex+s.gl.getD u 0*n }
noncomputable def fC(s:Led)(u:Nat)(n:Int):Led:=gk (cb u n (dJ s u n s.rs.length)) u n []
structure FixI(s:Led)(i:Nat)(t:Led):Prop where
 rl:t.rs.length=s.rs.length
 ml:t.rm.length=s.rm.length
 ll:t.ln.length<=s.ln.length+i
 at_:∀j,i<=j->t.rs[j]?=s.rs[j]?
 nl:(∀d∈s.rm,NoL d)->∀d∈t.rm,NoL d
 eq:t.bs=s.bs/\t.gl=s.gl/\t.st=s.st/\t.td=s.td/\t.lm=s.lm/\t.mm=s.mm/\t.gs=s.gs/\t.ex=s.ex/\t.gn=s.gn
theorem jJ(s:Led)(u:Nat)(n:Int):∀i,FixI s i (dJ s u n i)
 |0=>⟨S,S,Jx _,λ_ _=>rfl,λh=>h,S,S,S,S,S,S,S,S,S⟩
 |i+1=>by
  have h:=jJ s u n i;rw[mq];generalize dJ s u n i=t at h;unfold iI;split
  ·show⟨h.rl,h.ml,by have:=h.ll;omega,λj a=>h.at_ j (),h.nl,h.eq⟩
  ·refine⟨by rw[Ju];show h.rl,by rw[Ju];show h.ml,by rw[Jr,J2];have:=h.ll;omega,λj a=>?_,λc d hd=>?_,h.eq⟩
   ·change (t.rs.set i _)[j]?=_;rw[JN ()];show h.at_ j ()
   ·rcases Ma hd with hd|rfl
    ·show h.nl c d hd
    ·show .int _
def mL{s:Led}{u:Nat}{e:Int}(a:∀d∈s.mm,NoL d)(c:∀d∈s.lm,NoL d)(g:u<s.mm.length)(h:u<s.lm.length):NoL (eI s u e):=by
 unfold eI;split
 ·show .tup (bv (a _ (cK g)) (bv (.int _) c9))
 ·show .tup (bv (c _ (cK h)) (bv (.int _) c9))
structure FixP(s:Led)(u:Nat)(n:Int):Prop where
 us:u∈s.st
 um:u<s.mm.length
 ul:u<s.lm.length
 ug:u<s.gl.length
 ml:s.rm.length=s.rs.length
 rl:s.rs.length<=100
 ll:s.ln.length<800
 gl:s.gs.length<1000
 nl:s.gn.length<1000
 bn:bB n
 rr:∀r∈s.rs,u<r.1.length/\r.1.length<=1000/\∀x∈r.1,bB x
 gg:∀x∈s.gl,bB x
 n1:∀d∈s.rm,NoL d
 n2:∀d∈s.mm,NoL d
 n3:∀d∈s.lm,NoL d
inductive y_Ledger__fix(as:List Sm)(R:Sm->List Om->Prop)(Rx:XD->List Om->Prop):Prop|mk (a:Option Addr) (s:Led) (u:Nat) (n:Int) (_:as=[.ob a (bR s),.v (aZ u),.v (.int n)]) (_:FixP s u n) (_:R (.v .non) [bR (fC s u n)])
def DW(F:Fun K "fix" "Ledger.fix" oO f J){C:Addr}(g:TxtLedger K mg C)(Jm:Cl P w K mg base n "without" ["entries","unknown"] z_without)(Od:MthM P w K mg base n C "let_go" ["self","unknown","least","rows"] y_Ledger__let_go)(NY:MthM P w K mg base n C "put_line" ["self","shares","divisor"] y_Ledger__put_line)(pd:MthD P w K mg base n C "bound_share" ["self","unknown","entry"] z_Ledger__bound_share)(bW:mg "range"=ŗ)(bj:mg "len"=ŗ):FnOk P w K mg base aG (n+1) f J ["self","unknown","number"] (lSpM K y_Ledger__fix):=by
 refine F.okM qab (λas R Rx h=>?_) (λNZ A outer s H E as R Rx qs N4 l h Of=>?_)
 ·let⟨a,s,u,m,rfl,_⟩:=h;rfl
 let⟨a,s,u,m,rfl,j,q⟩:=h;let⟨pa,rfl⟩:=eo Of
 refine⟨_,(ao (eJ JO S (sW S bW (aB (cB (bC cI S bj J4 (aI (PD.q (aK g.cl g.n_rows g.ns (ac 0))) aS aQ) aQ ae)) ba bg)) (bZ (i:=3) qab.nd S Wv) (ao (aJ (i:=4) qab.nd S Wv (cB (bu (PD.q (aK g.cl g.n_rows g.ns (ac 0))) (ac 3) (λ_ _=>rfl))))
   (ao (aJ (i:=5) qab.nd S Wv (af (bu (PD.q (ax (ac 4))) (ac 1) (λ_ _=>rfl))))
   (aM (bT (bO (aR (eM l.units) (ac 5) (PD.q ah) (ay _))) (ao (aJ (i:=6) qab.nd S Wv (cB (bt (ad (bt (ad (bu (PD.q (aK g.cl g.n_row_marks g.ns (ac 0))) (ac 3) (λ_ _=>rfl)) (ad ah ag aD) aA)) (ad (ka pd l g.cl g.ns (dv 0) (ad (dv 1) (ad (dv 5) ag aa) aa) aa (ar aa ae)) ag bg) bI))))
   (ao (iX 0 g.cl g.n_row_marks g.ns (eR 0 NY l g.cl g.ns (aB (af (dv 6)) (aB (af ah) ba aD) aa) aa (ar aD ae)) (dv 3))
   (aM (iX 0 g.cl g.n_rows g.ns (af (bt (ad (bc Jm l S (ad (ax (ac 4)) (ad (dv 1) ag aa) aA) aA (ar aa ae)) (ad (aP db (PD.q (ax (ac 4))) (PD.q (aP cQ (ac 5) (ac 2)))) ag bP) bg))) (dv 3))))) ce)))))
   (ao (aJ (i:=7) qab.nd S Wv (cB (bu (PD.q (aK g.cl g.n_goal g.ns (ac 0))) (ac 1) (λ_ _=>rfl))))
   (cq (bT (bO (aR (eM l.units) (ac 7) (PD.q ah) (ay _))) (ao (px 0 g.cl g.n_goal_shares g.ns (ka pd l g.cl g.ns (dv 0) (ad (dv 1) (ad (dv 7) ag aa) aa) aa (ar aa ae)) (dl bg) bg)
   (aM (eZ 0 g.cl g.n_extra g.ns (cB (aP bH (PD.q (aK g.cl g.n_extra g.ns (ac 0))) (PD.q (aP cQ (ac 7) (ac 2)))))))) ce)
   (aM (fZ (eR 0 Od l g.cl g.ns (aB (af (dv 1)) (aB (af (dv 2)) (aB (af (PF.d (da ag))) ba uV) aa) aa) aa (ar aa (ar uV ae)))))))),?_⟩
 intro ke;have Ol:=j.rl;refine⟨S,_,S,.int _,⟨by rw[Jp];omega,by rw[Jp];omega⟩,λi ρ=>∃L M N B:Ř Sm,ρ=[Z (.ob (Z pa) (bR (dJ s u m i))),Z (.v (aZ u)),Z (.v (.int m)),L,M,N,B,ŗ],⟨_,_,_,_,S⟩,?_,?_⟩
 ·rintro i d ρ hd ⟨L,M,N,B,rfl⟩;let⟨hi,rfl⟩:=hX hd
  have X:i<s.rs.length:=by rw[Jp]at hi;omega
  have I:=jJ s u m i;have e1:=mq s u m i;generalize dJ s u m i=t at *
  have O:t.rs[i]?=Z s.rs[i]:=by rw[I.at_ i (Jx _)];show bJ X
  have a_:bQ t.rs i=s.rs[i]:=fb O;let⟨be,VL,QW⟩:=j.rr s.rs[i] (Lv X)
  have Q:i<t.rm.length:=by rwa[I.ml,j.ml]
  let⟨q1,U,q3,q4,y,z,q7,q8,q9⟩:=I.eq
  have p:u<t.mm.length:=by rw[z];show j.um
  have o:u<t.lm.length:=by rw[y];show j.ul
  have x:NoL (t.rm.getD i .non):=I.nl j.n1 _ (cK Q);have G:∀e,NoL (eI t u e):=λe=>mL (by rw[z];show j.n2) (by rw[y];show j.n3) p o;have VM:=I.ll;have hlr:=j.ll;refine⟨S,_,S,aw s.rs[i],cD O (Kn _),ms _,?_⟩;refine⟨_,S,_,cD (i:=u) (bU (d:=0) be) S,?_⟩;have Rc:bB (s.rs[i].1.getD u 0):=QW _ (cK be);generalize l:s.rs[i]=r at *;generalize v:r.1.getD u 0=e at *;by_cases c:e=0
  ·have e2:dJ s u m (i+1)=t:=by rw[e1];unfold iI;rw[a_,v,JC c]
   refine⟨λh=>?_,λ_=>⟨Z (.v (.int (0+(i:Nat)))),Z (.v (aw r)),Z (.v (.int e)),B,by rw[e2];rfl⟩⟩;rw[c]at h;cases h
  ·refine⟨λ_=>?_,λh=>?_⟩
   ·refine⟨S,_,S,t.rm.getD i .non,fW (bU Q) (Kn _),S,S,t,u,e,S,p,o,.tup (bv (.tup (bv x (bv (.int _) c9))) (bv (G e) c9)),?_⟩;refine⟨⟨_,_,S,S⟩,_,S,S,_,t,_,_,S,.tup (bv (.tup (bv x (bv (.int _) c9))) (bv (G e) c9)),(),?_⟩;rfl';refine⟨_,_,t.rm,S,S,_,i,S,by rw[Kn];show eS Q,dW { t with ln:=t.ln++[eO (.tup [.tup [t.rm.getD i .non,.int 1],eI t u e]) 1],rm:=t.rm.set i (fL t) },S,?_⟩;refine⟨_,S,r.1,u,S,VL,_,S,iZ Rc j.bn,_,_,t.rs.map aw,S,S,_,i,S,by rw[Kn,Jp];show eS (aC O),dW (iI u m t i),?_,?_⟩
    ·unfold iI;rw[a_,v,Jv c];rw[show D.tup [D.tup ((r.1.set u 0).map D.int),D.int (r.2-e*m)]=aw (r.1.set u 0,r.2-e*m)from rfl,←Lk];rfl
    ·show⟨Z (.v (.int (0+(i:Nat)))),Z (.v (aw r)),Z (.v (.int e)),Z (.v (.tup [.tup [t.rm.getD i .non,.int 1],eI t u e])),by rw[e1];rfl⟩
   ·have h':(!(e==0))=Ś:=h
    have:(e==0)=ř:=by simpa using h'
    show absurd (eq_of_beq this) c
 ·rintro ρ ⟨L,M,N,B,rfl⟩
  have eL:(cC 0 (((s.rs.map aw).length:Nat):Int).toNat).length=s.rs.length:=by rw[gb,Jp];omega
  rw[eL];have I:=jJ s u m s.rs.length;have e0:fC s u m=gk (cb u m (dJ s u m s.rs.length)) u m []:=rfl;generalize dJ s u m s.rs.length=t at *;let⟨q1,U,q3,q4,y,z,q7,q8,q9⟩:=I.eq
  have p:u<t.mm.length:=by rw[z];show j.um
  have o:u<t.lm.length:=by rw[y];show j.ul
  have hg:u<t.gl.length:=by rw[U];show j.ug
  have G:∀e,NoL (eI t u e):=λe=>mL (by rw[z];show j.n2) (by rw[y];show j.n3) p o;have b_:bB (t.gl.getD u 0):=j.gg _ (by rw[←U];show cK hg);refine⟨S,_,S,_,cD (i:=u) (bU (d:=0) hg) S,.int _,?_⟩;refine⟨λρ=>ρ=[Z (.ob (Z pa) (bR (cb u m t))),Z (.v (aZ u)),Z (.v (.int m)),L,M,N,B,Z (.v (.int (t.gl.getD u 0)))],?_,?_⟩
  ·generalize v:t.gl.getD u 0=e at *;by_cases c:e=0
   ·refine⟨λh=>?_,λ_=>?_⟩
    ·rw[c]at h;cases h
    ·have:cb u m t=t:=by unfold cb;rw[v,JC c]
     rw[this];rfl
   ·refine⟨λ_=>?_,λh=>?_⟩
    ·refine⟨_,_,t.gs,S,S,S,S,t,u,e,S,p,o,G e,by rw[q7];show bi (by have:=j.gl;omega),dW { t with gs:=t.gs++[eI t u e] },S,?_⟩;refine⟨S,_,S,iZ b_ j.bn,.int _,_,_,S,S,(by change 12<1000;decide),dW (cb u m t),?_,S⟩;unfold cb;rw[v,Jv c];rfl
    ·have h':(!(e==0))=Ś:=h
     have:(e==0)=ř:=by simpa using h'
     show absurd (eq_of_beq this) c
  rintro ρ rfl
  have OE:(cb u m t).st=t.st:=by unfold cb;split<;>rfl
  have T:(cb u m t).gn=t.gn:=by unfold cb;split<;>rfl
  rw[e0]at q;show⟨⟨_,_,S,S⟩,_,S,S,_,cb u m t,u,m,[],S,by rw[OE,q3];show j.us,by rw[T,q9];show j.nl,_,S,q⟩
noncomputable def bS(s:Led)(u:Nat):Y Nat:=(List.range s.rs.length).filter λi=>decide ((bQ s.rs i).1.getD u 0≠0)
noncomputable def fP(s:Led)(u:Nat):Led:=(bS s u).reverse.foldl cg (gk s u (am s.bs u).1 ((bS s u).map (bQ s.rs)))
theorem sN:∀{e:Y Nat}{n i p:Nat},e.Pairwise (λx y=>y<x)->(∀x∈e,x<n)->e[i]?=Z p->p+i<n
 | [],n,i,p,_,_,h=>by cases h
 |q::t,n,0,p,_,a,h=>by cases h;show a _ JA
 |q::t,n,i+1,p,c,a,h=>by
  rw[Ml]at c;have:=sN (n:=q) c.2 (λx g=>c.1 x g) (show t[i]?=Z p from h);have:=a q JA;omega
def uC(s:Led)(u:Nat):(bS s u).reverse.Pairwise (λx y=>y<x):=by rw[NG];show LQ.filter _
def rT{s:Led}{u x:Nat}(h:x∈bS s u):x<s.rs.length:=JU.mp (J9.mp h).1
theorem r6(s:Led):∀(ps:Y Nat),ps.Pairwise (λx y=>y<x)->(∀x∈ps,x<s.rs.length)->s.rm.length=s.rs.length->(ps.foldl cg s).rs.length=s.rs.length-ps.length/\(ps.foldl cg s).rm.length=s.rs.length-ps.length
 | [],_,_,a=>⟨S,a⟩
 |p::ps,c,h,a=>by
  rw[Ml]at c;have g:=h p JA;have e:(cg s p).rs.length=s.rs.length-1:=KZ g
  have l:(cg s p).rm.length=s.rs.length-1:=by rw[←a];show KZ (by rwa[a])
  have:=r6 (cg s p) ps c.2 (λx j=>by rw[e];have:=c.1 x j;omega) (by rw[e,l]);rw[e]at this;change (ps.foldl cg (cg s p)).rs.length=_/\(ps.foldl cg (cg s p)).rm.length=_;rw[this.1,this.2,JH];omega
structure HangP(s:Led)(u:Nat):Prop where
 us:u∈s.st
 ub:u<s.bs.length
 ml:s.rm.length=s.rs.length
 rl:s.rs.length<=100
 nl:s.gn.length<1000
 rr:∀r∈s.rs,u<r.1.length
inductive y_Ledger__hang(as:List Sm)(R:Sm->List Om->Prop)(Rx:XD->List Om->Prop):Prop|mk (a:Option Addr) (s:Led) (u:Nat) (_:as=[.ob a (bR s),.v (aZ u)]) (_:HangP s u) (_:R (.v .non) [bR (fP s u)])
def Iq(F:Fun K "hang" "Ledger.hang" j6 f J){o:Addr}(c:TxtLedger K mg o)(M:MthM P w K mg base n o "let_go" ["self","unknown","least","rows"] y_Ledger__let_go)(I:MthM P w K mg base n o "drop_row" ["self","place"] y_Ledger__drop_row)(iE:mg "reversed"=ŗ)(U:mg "enumerate"=ŗ):FnOk P w K mg base aG (n+1) f J ["self","unknown"] (lSpM K y_Ledger__hang):=by
 refine F.okM qac (λas R O h=>?_) (λNZ A outer s H E as R O qs N4 y h N=>?_)
 ·let⟨a,s,u,rfl,_⟩:=h;rfl
 let⟨a,s,u,rfl,g,q⟩:=h;let⟨pa,rfl⟩:=eo N
 refine⟨_,(ao (Fz (i:=2) (k:=2) (N':=["place","row","unknown"]) (cap:=[ŗ,ŗ,Z 1]) S qac.nd S Wv (.ok (show bV ["self","unknown","places","place"] (au j6) _ ["place","row","unknown"] [ŗ,ŗ,Z 1]=ř by lia)) 'a' (hJ (n:=2) (dD (bz 'b') (dD (bz 'b') hV))) (gD S U (ad (aK c.cl c.n_rows c.ns (ac 0)) ag aQ)) (λ_ _ _ _ _=>(dM (n:=2) S (bL (bf (i:=0) (show List.Nodup (["place","row","unknown"]:Y Str)by lia) S Wv) (bL (bf (i:=1) (show List.Nodup (["place","row","unknown"]:Y Str)by lia) S Wv) dH)))) (λ_ _ _ _ _=>(jT (aR (eM y.units) (PD.q (bu (PD.q (ax (ac 1))) (ac 2) (λ_ _=>rfl))) (PD.q ah) (ay _)))) (λ_ _ _ _ _=>(dv 0)))
   (iR 2 (ao (fZ (eR 0 M y c.cl c.ns (aB (af (dv 1)) (aB (cB (ax (PD.q (bu (PD.q (aK c.cl c.n_bounds c.ns (ac 0))) (ac 1) (λ_ _=>rfl))))) (aB (sI (vk (cZ (k:=1) (N':=["place","self"]) (cap:=[ŗ,Z 0]) S (.ok (show bV ["self","unknown","places","place"] (au j6) _ ["place","self"] [ŗ,Z 0]=ř by lia)) 'a' (bz 'b') (b7 (dv 2)) (λ_ _ _ _ _=>(bf (i:=0) (show List.Nodup (["place","self"]:Y Str)by lia) S Wv)) (λ_ _ _ _ _=>(bu (PD.q (aK c.cl c.n_rows c.ns (ac 1))) (ac 0) (λ_ _=>rfl)))))) ba bx) aA) aa) aa (ar aA (ar bx ae))))
   (aM (eJ JO S (eT (pJ S iE (ad (dv 2) ag aa))) (bZ (i:=3) qac.nd S Wv) (aM (fZ (eR 0 I y c.cl c.ns (aB (af (dv 3)) ba aa) aa ae)))))))),?_⟩
 intro ke;have Ol:=g.rl
 have hps:(bS s u).length<=s.rs.length:=by
  have:=KR (λi=>decide ((bQ s.rs i).1.getD u 0≠0)) (List.range s.rs.length)
  rwa [JQ]at this
 refine⟨S,_,S,by rw[eQ,Jp];show bi (),iU (λi=>decide ((bQ s.rs i).1.getD u 0≠0)) (λi=>aZ i),λi d hd=>?_,λys C hy=>?_⟩
 ·let⟨e,be,rfl⟩:=gq hd;let⟨r,rfl,j⟩:=bN be;have ex:bQ s.rs i=r:=fb j;have T:=g.rr r (Jw j);refine⟨S,_,S,_,cD (i:=u) (bU (d:=0) T) S,λh=>⟨S,?_⟩,λh=>?_⟩
  ·change decide ((bQ s.rs i).1.getD u 0≠0)=ř;rw[ex]
   show Kk λe=>by rw[e]at h;cases h
  ·change decide ((bQ s.rs i).1.getD u 0≠0)=Ś;rw[ex];refine JX λe=>?_;have h':(!(r.1.getD u 0==0))=Ś:=h
   have:(r.1.getD u 0==0)=ř:=by simpa using h'
   show e (eq_of_beq this)
 rw[eQ,Jp]at C;rw[show ys.filterMap id=(bS s u).map aZ from kj C hy];refine⟨λd hd=>by let⟨x,_,rfl⟩:=JL.mp hd;show .int _,?_⟩;rfl';refine⟨⟨_,_,S,S⟩,S,_,S,_,fQ g.ub S,_,S,.int _,fJ (f:=aZ) (λp=>aw (bQ s.rs p)) (bi ()) (λp l=>⟨S,_,S,_,cD (bU (rT l)) S,S⟩) ?_⟩;refine⟨λd hd=>?_,_,S,S,_,s,u,(am s.bs u).1,(bS s u).map (bQ s.rs),by rw[Kh];rfl,g.us,g.nl,?_⟩
 ·let⟨x,_,rfl⟩:=JL.mp hd;show ms _
 rfl';have X:fP s u=(bS s u).reverse.foldl cg (gk s u (am s.bs u).1 ((bS s u).map (bQ s.rs))):=rfl;have v:(gk s u (am s.bs u).1 ((bS s u).map (bQ s.rs))).rs=s.rs:=rfl;have Q:(gk s u (am s.bs u).1 ((bS s u).map (bQ s.rs))).rm=s.rm:=rfl;generalize gk s u (am s.bs u).1 ((bS s u).map (bQ s.rs))=t at *;have G:=uC s u;have B:∀x∈(bS s u).reverse,x<s.rs.length:=λx j=>rT (LJ.mp j);refine⟨λi ρ=>∃z:Ř Sm,ρ=[Z (.ob (Z pa) (bR (((bS s u).reverse.take i).foldl cg t))),Z (.v (aZ u)),Z (.v (.lst ((bS s u).map aZ))),z],⟨_,S⟩,?_,?_⟩
 ·rintro i d ρ hd ⟨z,rfl⟩;rw[←Nm]at hd;let⟨p,rfl,l⟩:=bN hd;have hpi:=sN G B l;have L:=r6 t ((bS s u).reverse.take i) (G.sublist (List.take_sublist _ _)) (λx j=>by rw[v];show B x (MR j)) (by rw[v,Q];show g.ml)
  have b_:((bS s u).reverse.take i).length=i:=by rw[Ke];have:=aC l;omega
  rw[v,b_]at L
  have a_:((bS s u).reverse.take (i+1)).foldl cg t=cg (((bS s u).reverse.take i).foldl cg t) p:=by rw[gR l,LF];rfl
  generalize ((bS s u).reverse.take i).foldl cg t=t2 at *;refine⟨⟨_,_,S,S⟩,_,S,S,_,t2,p,S,(),(),(),?_⟩;rfl';show⟨Z (.v (aZ p)),by rw[a_];rfl⟩
 ·rintro ρ ⟨z,rfl⟩;rw[K4,Jp,←K4,KL,←X];show⟨_,S,q⟩
noncomputable def di(bs:Y Bd)(rs:Y aq)(gs:Y Int):Led:=⟨bs,rs,gs,List.range bs.length,((bY bs rs).length:Nat),[],(List.range bs.length).map aZ,mO bs,cC ((bY bs rs).length-(rs.length:Nat)) rs.length,[],0,[]⟩
def pP(bs:Y Bd)(rs:Y aq):rs.length<=(bY bs rs).length/\(bY bs rs).length<=2*bs.length+rs.length:=by
 unfold bY;have:=KR (cS bs) (List.range bs.length);rw[JQ]at this;simp only[Jr,Jp,JQ];omega
def ym(n:Nat):cC 0 n=(List.range n).map aZ:=by unfold cC;refine MS λi _=>?_;rw[Kn];rfl
inductive y_Ledger____init__(as:List Sm)(R:Sm->List Om->Prop)(Rx:XD->List Om->Prop):Prop|mk (a:Option Addr) (bs:List Bd) (rs:List aq) (gs:List Int) (_:as=[.ob a (.obj "Ledger" []),.v (bK bs rs gs)]) (_:bs.length<=8) (_:rs.length<=30) (_:R (.v .non) [bR (di bs rs gs)])
def ET(F:Fun K "__init__" "Ledger.__init__" mv f J){v:Addr}(c:TxtLedger K mg v)(x:ClM P w K mg base n "first_most_marks" ["bounds"] y_first_most_marks)(u:Cl P w K mg base n "givens" ["plan"] z_givens)(e:mg "list"=ŗ)(j:mg "len"=ŗ)(l:mg "range"=ŗ):FnOk P w K mg base aG (n+1) f J ["self","plan"] (lSpM K y_Ledger____init__):=by
 refine F.okM Cu (λas R B h=>?_) (λM A outer s H E as R B T L r h y=>?_)
 ·let⟨a,bs,rs,gs,rfl,_⟩:=h;rfl
 let⟨a,bs,rs,gs,rfl,I,z,q⟩:=h;let⟨U,rfl⟩:=eo y
 refine⟨_,(ao (ii 0 c.cl c.n_bounds c.ns (dk (kZ S e (PD.q (ax (ac 1))) aA)))
   (ao (ii 0 c.cl c.n_rows c.ns (dk (kZ S e (PD.q (ax (ac 1))) aA)))
   (ao (eZ 0 c.cl c.n_goal c.ns (af (ax (ac 1))))
   (ao (ii 0 c.cl c.n_staying c.ns (dk (ud S S e S l (ad (bC cI S j J4 (aI (PD.q (ax (ac 1))) aS aA) aA ae) ag bg))))
   (ao (eZ 0 c.cl c.n_told c.ns (af (bC cI S j J4 (aI (PD.q (bc u r S (ad (dv 1) ag aa) aa ae)) aS bg) bg ae)))
   (ao (ii 0 c.cl c.n_lines c.ns (dk (da ag)))
   (ao (ii 0 c.cl c.n_least_marks c.ns (dk (ud S S e S l (ad (bC cI S j J4 (aI (PD.q (ax (ac 1))) aS aA) aA ae) ag bg))))
   (ao (ii 0 c.cl c.n_most_marks c.ns (bE x r S (aB (af (ax (ac 1))) ba aA) aA ae))
   (ao (ii 0 c.cl c.n_row_marks c.ns (vk (yf S S e S l (ad (aP db (PD.q (aK c.cl c.n_told c.ns (ac 0))) (PD.q (bC cI S j J4 (aI (PD.q (ax (ac 1))) aS aA) aA ae))) (ad (aK c.cl c.n_told c.ns (ac 0)) ag aQ) bP))))
   (ao (ii 0 c.cl c.n_goal_shares c.ns (dk (da ag)))
   (ao (eZ 0 c.cl c.n_extra c.ns (af ah))
   (aM (ii 0 c.cl c.n_gone c.ns (dk (da ag))))))))))))))),?_⟩
 intro Q;have O:=pP bs rs
 have N:((bs.map aU).length:Int)=(bs.length:Int):=by rw[Jp]
 have p:(((bs.map aU).length:Nat):Int).toNat=bs.length:=by rw[Jp];omega
 refine⟨_,S,_,S,_,_,S,S,'b',_,S,?_⟩;refine⟨_,S,_,S,_,_,S,S,(by change 1<1000;decide),_,S,?_⟩;refine⟨_,S,_,_,S,S,(by change 2<1000;decide),_,S,?_⟩;refine⟨_,S,⟨(),()⟩,_,_,S,S,(by change 3<1000;decide),_,S,?_⟩;refine⟨bs,rs,_,S,I,z,_,_,S,S,(by change 4<1000;decide),_,S,?_⟩;refine⟨_,_,S,S,(by change 5<1000;decide),_,S,?_⟩;refine⟨_,S,⟨(),()⟩,_,_,S,S,(by change 6<1000;decide),_,S,?_⟩;refine⟨_,S,_,S,S,bs,S,(),_,_,S,S,(by change 7<1000;decide),_,S,?_⟩;rfl'
 have g:((((bY bs rs).map aw).length:Nat):Int)=((bY bs rs).length:Nat):=by rw[Jp]
 have o:(((rs.map aw).length:Nat):Int)=(rs.length:Nat):=by rw[Jp]
 refine⟨S,_,S,_,S,S,_,S,⟨⟨(),(),(),()⟩,()⟩,λd hd=>?_,_,_,S,S,(by change 8<1000;decide),_,S,?_⟩
 ·let⟨i,hi⟩:=Ko hd;rw[(hX hi).2];show .int _
 refine⟨_,_,S,S,(by change 9<1000;decide),_,S,?_⟩;refine⟨_,_,S,S,(by change 10<1000;decide),_,S,?_⟩;refine⟨_,_,S,S,(by change 11<1000;decide),dW (di bs rs gs),?_,?_⟩
 ·have C:cC 0 (((bs.map aU).length:Nat):Int).toNat=(List.range bs.length).map aZ:=by rw[p,ym]
  have G:cC (((((bY bs rs).map aw).length:Nat):Int)-(((rs.map aw).length:Nat):Int)) ((((((bY bs rs).map aw).length:Nat):Int)-(((((bY bs rs).map aw).length:Nat):Int)-(((rs.map aw).length:Nat):Int))).toNat)=cC ((bY bs rs).length-(rs.length:Nat)) rs.length:=by rw[g,o];congr 1;omega
  rw[C,G,g];rfl
 ·show⟨_,S,q⟩
noncomputable def ir(b:Bd):Bool:=match b.2 with|some m=>decide (m<b.1)|none=>Ś
inductive z_is_crossed(ds:List D)(R:D->Prop):Prop|mk (b:Bd) (_:ds=[aU b]) (_:R (.bl (ir b)))
def FQ(F:Fun K "is_crossed" "is_crossed" l6 f J) :FnOk P w K mg base aG (n+1) f J ["pair"] (lSp K z_is_crossed):=by
 refine F.okD C2 (λds R h=>?_) (λa A outer s H E ds R c h=>?_)
 ·let⟨b,rfl,_⟩:=h;rfl
 let⟨b,rfl,q⟩:=h;refine⟨_,(aL (bh (iH (dU dI (PD.q (ax (ac 0))) (PD.q bq) (ay _)) (lr (dU fi (PD.q (ax (ac 0))) (PD.q (ax (ac 0))) (ay _)))))),?_⟩;let⟨l,m⟩:=b
 cases m with
 |none=>show⟨_,S,ff,λ_=>q⟩
 |some m=>show⟨_,S,λ_=>⟨_,S,_,S,q⟩,tf⟩
noncomputable def ft(b:Bd)(e:Int):Int:=if 0<e then e*b.2.getD 0 else if e<0 then e*b.1 else 0
noncomputable def gy(b:Bd)(e:Int):Bool:=!(decide (0<e)&&b.2.isNone)
noncomputable def gQ(bs:Y Bd)(es:Y Int):Bool:=(List.zipWith gy bs es).all id
noncomputable def eX(bs:Y Bd)(es:Y Int):Ř Int:=if gQ bs es then Z (List.zipWith ft bs es).sum else ŗ
noncomputable abbrev kr(b:Bd):Prop:=bB b.1/\∀m,b.2=Z m->bB m
def ww{c e j:Type}{f:c->e->j}{as:Y c}{bs:Y e}{i:Nat}{a:c}{b:e}(g:as[i]?=Z a)(h:bs[i]?=Z b):List.zipWith f (as.take (i+1)) (bs.take (i+1))=List.zipWith f (as.take i) (bs.take i)++[f a b]:=by
 rw[gR g,gR h,List.zipWith_append (by rw[Ke,Ke];have:=aC g;have:=aC h;omega)];rfl
def tM{a c e:Type}{f:a->c->e}{as:Y a}{bs:Y c}{n:Nat}(h:n=min as.length bs.length):List.zipWith f (as.take n) (bs.take n)=List.zipWith f as bs:=by
 rw[←List.take_zipWith,Lb (by rw[List.length_zipWith];omega)]
def rH{bs:Y Bd}{es:Y Int}{i:Nat}{b:Bd}{e:Int}(a:bs[i]?=Z b)(c:es[i]?=Z e)(h:gQ (bs.take i) (es.take i)=ř)(g:gy b e=ř):gQ (bs.take (i+1)) (es.take (i+1))=ř:=by unfold gQ at h ⊢;rw[ww a c,List.all_append,h];simp[g]
def HU{bs:Y Bd}{es:Y Int}{i:Nat}{b:Bd}{e:Int}(a:bs[i]?=Z b)(c:es[i]?=Z e)(g:gy b e=Ś):gQ bs es=Ś:=by unfold gQ;rw[List.all_eq_false];refine⟨gy b e,Jw (i:=i) (by rw[LW,a,c]),?_⟩;rw[g];decide
def ql{bs:Y Bd}{es:Y Int}{i:Nat}{b:Bd}{e x:Int}(a:bs[i]?=Z b)(c:es[i]?=Z e)(g:ft b e=x):(List.zipWith ft (bs.take i) (es.take i)).sum+x=(List.zipWith ft (bs.take (i+1)) (es.take (i+1))).sum:=by rw[ww a c,List.sum_append,g];simp
inductive z_greatest_sum(ds:List D)(R:D->Prop):Prop|mk (d1 d2:D) (bs:List Bd) (es:List Int) (_:ds=[d1,d2]) (_:dh d1=Z (bs.map aU)) (_:dh d2=Z (es.map D.int)) (_:(∀b∈bs,kr b)) (_:(∀x∈es,bB x)) (_:R (oI (eX bs es)))
def DR(F:Fun K "greatest_sum" "greatest_sum" on f J)(G:mg "zip"=ŗ):FnOk P w K mg base aG (n+1) f J ["bounds","entries"] (lSp K z_greatest_sum):=by
 refine F.okD qaA (λds R h=>?_) (λU A outer s H E ds R T h=>?_)
 ·let⟨p,r,bs,es,rfl,_⟩:=h;rfl
 let⟨p,r,bs,es,rfl,I,L,M,N,q⟩:=h
 refine⟨_,(bF (dg (i:=2) qaA.nd S Wv ah)
   (bF (fk JO S (jI S G (ad (dv 0) (ad (dv 1) ag aa) aa)) (dM (n:=2) S (bL (bf (i:=3) qaA.nd S Wv) (bL (bf (i:=4) qaA.nd S Wv) dH))) (aL (cE (aR fi (ac 4) (PD.q ah) (ay _)) (fu (cE (aR gB (PD.q (ax (ac 3))) (PD.q bq) (ay _)) (aL (bh bq)) cF)
   (aL (dg (i:=2) qaA.nd S Wv (aP bH (ac 2) (PD.q (aP cQ (ac 4) (PD.q (ax (ac 3))))))))) (aL (cE (aR ik (ac 4) (PD.q ah) (ay _)) (aL (dg (i:=2) qaA.nd S Wv (aP bH (ac 2) (PD.q (aP cQ (ac 4) (PD.q (ax (ac 3)))))))) cF)))))
   (aL (bh (dv 2))))),?_⟩
 refine⟨_,_,I,L,λi ρ=>∃u v:Ř Sl,ρ=[Z (.v p),Z (.v r),Z (.v (.int (List.zipWith ft (bs.take i) (es.take i)).sum)),u,v]/\gQ (bs.take i) (es.take i)=ř,⟨_,_,S,S⟩,?_,?_⟩
 ·rintro i d ρ hd ⟨u,v,rfl,j⟩;rw[jF]at hd;let⟨⟨b,e⟩,rfl,Q⟩:=bN hd;let⟨a,c⟩:=L8.mp Q;have bb:=M b (Jw a);have y:=N e (Jw c);refine⟨S,?_⟩;by_cases g:0<e
  ·refine⟨λ_=>?_,λh=>absurd g (KH h)⟩;let⟨l,m⟩:=b
   cases m with
   |none=>
    have z:eX bs es=ŗ:=by unfold eX;rw[HU a c (by unfold gy;simp[g])];rfl
    rw[z]at q;show⟨λ_=>False,⟨_,S,λ_=>q,tf⟩,λρ h=>h.elim⟩
   |some m=>
    refine⟨λρ=>ρ=[Z (.v p),Z (.v r),Z (.v (.int (List.zipWith ft (bs.take i) (es.take i)).sum)),Z (.v (aU (l,Z m))),Z (.v (.int e))],⟨_,S,ff,λ_=>rfl⟩,?_⟩;rintro ρ rfl;refine⟨_,S,iZ y (bb.2 m S),Z (.v (aU (l,Z m))),Z (.v (.int e)),?_,rH a c j (by unfold gy;simp)⟩;rw[←ql a c (x:=e*m) (by unfold ft;rw[JC g];rfl)];rfl
  ·refine⟨λh=>absurd (dP h) g,λ_=>?_⟩;by_cases o:e<0
   ·refine⟨λ_=>?_,λh=>absurd o (KH h)⟩;refine⟨_,S,iZ y bb.1,Z (.v (aU b)),Z (.v (.int e)),?_,rH a c j (by unfold gy;simp[g])⟩;rw[←ql a c (x:=e*b.1) (by unfold ft;rw[Jv g,JC o])];rfl
   ·refine⟨λh=>absurd (dP h) o,λ_=>⟨Z (.v (aU b)),Z (.v (.int e)),?_,rH a c j (by unfold gy;simp[g])⟩⟩;rw[←ql a c (x:=0) (by unfold ft;rw[Jv g,Jv o]),L1];rfl
 ·rintro ρ ⟨u,v,rfl,j⟩
  have O:(fV (bs.map aU) (es.map D.int)).length=min bs.length es.length:=by rw[jF,Jp,Nw]
  rw[O]at j ⊢
  have B:gQ bs es=ř:=by unfold gQ at j ⊢;rw[tM S]at j;show j
  have C:eX bs es=Z (List.zipWith ft bs es).sum:=by unfold eX;rw[JC B]
  rw[C]at q;rwa[tM S]
noncomputable def jk(bs:Y Bd)(es:Y Int):Ř Int:=(eX bs (es.map (- ·))).map (- ·)
inductive z_least_sum(ds:List D)(R:D->Prop):Prop|mk (d1:D) (bs:List Bd) (es:List Int) (_:ds=[d1,.tup (es.map D.int)]) (_:dh d1=Z (bs.map aU)) (_:es.length<=1000) (_:(∀b∈bs,kr b)) (_:(∀x∈es,bB x)) (_:R (oI (jk bs es)))
def FD(F:Fun K "least_sum" "least_sum" lP f J)(u:Cl P w K mg base n "greatest_sum" ["bounds","entries"] z_greatest_sum):FnOk P w K mg base aG (n+1) f J ["bounds","entries"] (lSp K z_least_sum):=by
 refine F.okD qaH (λds R h=>?_) (λv A outer s H E ds R o h=>?_)
 ·let⟨a,bs,es,rfl,_⟩:=h;rfl
 let⟨a,bs,es,rfl,c,l,g,j,q⟩:=h
 refine⟨_,(bF (dg (i:=2) qaH.nd S Wv (bc u o S (ad (dv 0) (ad (PF.d (cZ (k:=1) (N':=["entry"]) (cap:=[ŗ]) S (.ok (show bV ["bounds","entries","total"] (au lP) _ ["entry"] [ŗ]=ř by lia)) 'a' (bz 'b') (b7 (dv 1)) (λ_ _ _ _ _=>(bf (i:=0) (show List.Nodup (["entry"]:Y Str)by lia) S Wv)) (λ_ _ _ _ _=>(ef (ac 0))))) ag bx) aa) aa (ar bx ae)))
   (aL (bh (oq (aR gB (ac 2) (PD.q bq) (ay _)) bq (ef (ac 2)))))),?_⟩
 refine jM (f:=D.int) (λx=>-x) (bi l) (λx _=>rfl) ?_;refine⟨_,_,bs,es.map (- ·),S,c,S,g,λx p=>?_,?_⟩
 ·let⟨y,r,rfl⟩:=JL.mp p;change (-y).natAbs<_;rw[NH];show j y r
 unfold jk at q
 cases e:eX bs (es.map (- ·))with
 |none=>rw[e]at q;show⟨λ_=>q,tf⟩
 |some t=>rw[e]at q;show⟨ff,λ_=>q⟩
def oN:Ř Nat->D
 |none=>.non
 |some p=>aZ p
theorem lh{g:Type}{c:g->Bool}:∀{rs:Y g}{i:Nat}{r:g},rs[i]?=Z r->c r=ř->(∀j a,j<i->rs[j]?=Z a->c a=Ś)->rs.findIdx? c=Z i
 | [],i,r,h,_,_=>by cases h
 |x::rs,0,r,h,e,_=>by cases h;rw[List.findIdx?_cons,e];rfl
 |x::rs,i+1,r,h,e,l=>by rw[List.findIdx?_cons,l 0 x () S,lh (rs:=rs) (i:=i) h e (λj a p o=>l (j+1) a () o)];rfl
def mX{g:Type}{c:g->Bool}{rs:Y g}(h:∀j e,j<rs.length->rs[j]?=Z e->c e=Ś):rs.findIdx? c=ŗ:=by rw[Nc];intro x l;let⟨j,a⟩:=Ko l;show h j x (aC a) a
noncomputable def fX(bs:Y Bd)(r:aq):Bool:=match eX bs r.1 with|some t=>decide (t<r.2)|none=>Ś
noncomputable def e7(bs:Y Bd)(r:aq):Bool:=match jk bs r.1 with|some t=>decide (r.2<=t)|none=>Ś
def dG{h:Type}{c:h->Bool}{rs:Y h}{i:Nat}{r:h}(o:∀j a,j<i->rs[j]?=Z a->c a=Ś)(p:rs[i]?=Z r)(l:c r=Ś):∀j a,j<i+1->rs[j]?=Z a->c a=Ś:=λj a u g=>by
 by_cases e:j=i
 ·rw[e,p]at g;cases g;show l
 ·show o j a () g
structure RowsP(bs:List Bd)(rs:List aq):Prop where
 bb:∀b∈bs,kr b
 rr:∀r∈rs,r.1.length<=1000/\∀x∈r.1,bB x
inductive z_hopeless_row(ds:List D)(R:D->Prop):Prop|mk (bs:List Bd) (rs:List aq) (_:ds=[.lst (bs.map aU),.lst (rs.map aw)]) (_:RowsP bs rs) (_:R (oN (rs.findIdx? (fX bs))))
def AS(F:Fun K "hopeless_row" "hopeless_row" nq f J)(I:Cl P w K mg base n "greatest_sum" ["bounds","entries"] z_greatest_sum)(z:mg "enumerate"=ŗ):FnOk P w K mg base aG (n+1) f J ["bounds","rows"] (lSp K z_hopeless_row):=by
 refine F.okD qaC (λds R h=>?_) (λL A outer s H E ds R C h=>?_)
 ·let⟨bs,rs,rfl,_⟩:=h;rfl
 let⟨bs,rs,rfl,u,q⟩:=h
 refine⟨_,(bF (fk JO S (gD S z (ad (dv 1) ag aa)) (dM (n:=2) S (bL (bf (i:=2) qaC.nd S Wv) (bL (bf (i:=3) qaC.nd S Wv) dH))) (bF (dg (i:=4) qaC.nd S Wv (bc I C S (ad (dv 0) (ad (ax (ac 3)) ag aA) aa) aa (ar aA ae)))
   (aL (cE (PWD.td (fq (aR dI (ac 4) (PD.q bq) (ay _)) (gZ (aR ik (ac 4) (PD.q (ax (ac 3))) (ay _))))) (aL (bh (dv 2))) cF))))
   (aL (bh bq))),?_⟩
 refine⟨λi ρ=>∃l o p:Ř Sl,ρ=[Z (.v (.lst (bs.map aU))),Z (.v (.lst (rs.map aw))),l,o,p]/\∀j v,j<i->rs[j]?=Z v->fX bs v=Ś,⟨_,_,_,S,λj _ B=>absurd B (Kv _)⟩,?_,?_⟩
 ·rintro i d ρ hd ⟨l,o,p,rfl,a⟩;let⟨x,G,rfl⟩:=gq hd;let⟨r,rfl,g⟩:=bN G;let⟨M,y⟩:=u.rr r (Jw g);refine⟨S,_,S,_,_,bs,r.1,S,S,S,u.bb,y,?_⟩
  cases e:eX bs r.1 with
  |none=>
   have c:fX bs r=Ś:=by unfold fX;rw[e]
   show⟨ff,λ_=>⟨ff,λ_=>⟨_,_,_,S,dG a g c⟩⟩⟩
  |some t=>
   refine⟨λ_=>⟨_,S,λh=>?_,λh=>?_⟩,tf⟩
   ·have c:fX bs r=ř:=by unfold fX;rwa[e]
    rw[lh g c a]at q;show q
   ·have c:fX bs r=Ś:=by unfold fX;rwa[e]
    show⟨_,_,_,S,dG a g c⟩
 ·rintro ρ ⟨l,o,p,rfl,a⟩;rw[eQ,Jp]at a;rw[mX a]at q;show q
inductive z_idle_row(ds:List D)(R:D->Prop):Prop|mk (bs:List Bd) (rs:List aq) (_:ds=[.lst (bs.map aU),.lst (rs.map aw)]) (_:RowsP bs rs) (_:R (oN (rs.findIdx? (e7 bs))))
def xR(F:Fun K "idle_row" "idle_row" oF f J)(y:Cl P w K mg base n "least_sum" ["bounds","entries"] z_least_sum)(C:mg "enumerate"=ŗ):FnOk P w K mg base aG (n+1) f J ["bounds","rows"] (lSp K z_idle_row):=by
 refine F.okD qaE (λds R h=>?_) (λM A outer s H E ds R I h=>?_)
 ·let⟨bs,rs,rfl,_⟩:=h;rfl
 let⟨bs,rs,rfl,u,q⟩:=h
 refine⟨_,(bF (fk JO S (gD S C (ad (dv 1) ag aa)) (dM (n:=2) S (bL (bf (i:=2) qaE.nd S Wv) (bL (bf (i:=3) qaE.nd S Wv) dH))) (bF (dg (i:=4) qaE.nd S Wv (bc y I S (ad (dv 0) (ad (ax (ac 3)) ag aA) aa) aa (ar aA ae)))
   (aL (cE (PWD.td (fq (aR dI (ac 4) (PD.q bq) (ay _)) (gZ (aR na (ac 4) (PD.q (ax (ac 3))) (ay _))))) (aL (bh (dv 2))) cF))))
   (aL (bh bq))),?_⟩
 refine⟨λi ρ=>∃l o p:Ř Sl,ρ=[Z (.v (.lst (bs.map aU))),Z (.v (.lst (rs.map aw))),l,o,p]/\∀j v,j<i->rs[j]?=Z v->e7 bs v=Ś,⟨_,_,_,S,λj _ G=>absurd G (Kv _)⟩,?_,?_⟩
 ·rintro i d ρ hd ⟨l,o,p,rfl,a⟩;let⟨x,L,rfl⟩:=gq hd;let⟨r,rfl,g⟩:=bN L;let⟨z,B⟩:=u.rr r (Jw g);refine⟨S,_,S,_,bs,r.1,S,S,z,u.bb,B,?_⟩
  cases e:jk bs r.1 with
  |none=>
   have c:e7 bs r=Ś:=by unfold e7;rw[e]
   show⟨ff,λ_=>⟨ff,λ_=>⟨_,_,_,S,dG a g c⟩⟩⟩
  |some t=>
   refine⟨λ_=>⟨_,S,λh=>?_,λh=>?_⟩,tf⟩
   ·have c:e7 bs r=ř:=by unfold e7;rwa[e]
    rw[lh g c a]at q;show q
   ·have c:e7 bs r=Ś:=by unfold e7;rwa[e]
    show⟨_,_,_,S,dG a g c⟩
 ·rintro ρ ⟨l,o,p,rfl,a⟩;rw[eQ,Jp]at a;rw[mX a]at q;show q
theorem jW{c:Nat->Bool}:∀{st:Y Nat}{i u:Nat},st[i]?=Z u->c u=ř->(∀j u',j<i->st[j]?=Z u'->c u'=Ś)->st.find? c=Z u
 | [],i,u,h,_,_=>by cases h
 |x::st,0,u,h,a,_=>by cases h;rw[Li,a]
 |x::st,i+1,u,h,a,e=>by rw[Li,e 0 x () S];show jW (st:=st) (i:=i) h a (λj u' l g=>e (j+1) u' () g)
def lU{c:Nat->Bool}{st:Y Nat}(e:∀j u',j<st.length->st[j]?=Z u'->c u'=Ś):st.find? c=ŗ:=by rw[List.find?_eq_none];intro x g h;let⟨j,a⟩:=Ko g;rw[e j x (aC a) a]at h;cases h
def jh(bs:Y Bd)(u:Nat):Bool:=ir (am bs u)
inductive z_crossed_unknown(ds:List D)(R:D->Prop):Prop|mk (bs:List Bd) (st:List Nat) (_:ds=[.lst (bs.map aU),.lst (st.map aZ)]) (_:(∀u∈st,u<bs.length)) (_:R (oN (st.find? (jh bs))))
def Dr(F:Fun K "crossed_unknown" "crossed_unknown" ot f J)(p:Cl P w K mg base n "is_crossed" ["pair"] z_is_crossed):FnOk P w K mg base aG (n+1) f J ["bounds","staying"] (lSp K z_crossed_unknown):=by
 refine F.okD qau (λds R h=>?_) (λr A outer s H E ds R l h=>?_)
 ·let⟨bs,st,rfl,_⟩:=h;rfl
 let⟨bs,st,rfl,o,q⟩:=h
 refine⟨_,(bF (fk JO S (b7 (dv 1)) (bf (i:=2) qau.nd S Wv) (aL (cE (cu (PD.q (bc p l S (ad (bu (ac 0) (ac 2) (λ_ _=>rfl)) ag aA) aA ae)) (λ_=>rfl)) (aL (bh (dv 2))) cF)))
   (aL (bh bq))),?_⟩
 refine⟨λi ρ=>∃e:Ř Sl,ρ=[Z (.v (.lst (bs.map aU))),Z (.v (.lst (st.map aZ))),e]/\∀j u',j<i->st[j]?=Z u'->jh bs u'=Ś,⟨_,S,λj _ g=>absurd g (Kv _)⟩,?_,?_⟩
 ·rintro i d ρ hd ⟨e,rfl,a⟩;let⟨u,rfl,c⟩:=bN hd;refine⟨_,fQ (o u (Jw c)) S,am bs u,S,λh=>?_,λh=>?_⟩
  ·rw[jW c h a]at q;show q
  ·show⟨_,S,dG a c h⟩
 ·rintro ρ ⟨e,rfl,a⟩;rw[Jp]at a;rw[lU a]at q;show q
noncomputable def eG(bs:Y Bd)(u:Nat):Bool:=match (am bs u).2 with|some m=>decide ((am bs u).1=m)|none=>Ś
inductive z_fixed_unknown(ds:List D)(R:D->Prop):Prop|mk (bs:List Bd) (st:List Nat) (_:ds=[.lst (bs.map aU),.lst (st.map aZ)]) (_:(∀u∈st,u<bs.length)) (_:R (oN (st.find? (eG bs))))
def A8(F:Fun K "fixed_unknown" "fixed_unknown" l7 f J) :FnOk P w K mg base aG (n+1) f J ["bounds","staying"] (lSp K z_fixed_unknown):=by
 refine F.okD qay (λds R h=>?_) (λy A outer s H E ds R v h=>?_)
 ·let⟨bs,st,rfl,_⟩:=h;rfl
 let⟨bs,st,rfl,x,q⟩:=h
 refine⟨_,(bF (fk JO S (b7 (dv 1)) (bf (i:=2) qay.nd S Wv) (aL (cE (aR (yt v.units) (PD.q (ax (PD.q (bu (ac 0) (ac 2) (λ_ _=>rfl))))) (PD.q (ax (PD.q (bu (ac 0) (ac 2) (λ_ _=>rfl))))) (ay _)) (aL (bh (dv 2))) cF)))
   (aL (bh bq))),?_⟩
 refine⟨λi ρ=>∃o:Ř Sl,ρ=[Z (.v (.lst (bs.map aU))),Z (.v (.lst (st.map aZ))),o]/\∀j u',j<i->st[j]?=Z u'->eG bs u'=Ś,⟨_,S,λj _ r=>absurd r (Kv _)⟩,?_,?_⟩
 ·rintro i d ρ hd ⟨o,rfl,a⟩;let⟨u,rfl,g⟩:=bN hd;have p:=x u (Jw g);refine⟨_,fQ p S,_,S,_,fQ p S,oI (am bs u).2,S,?_⟩
  cases l:(am bs u).2 with
  |none=>
   have c:eG bs u=Ś:=by unfold eG;rw[l]
   show⟨ff,λ_=>⟨_,S,dG a g c⟩⟩
  |some m=>
   refine⟨λh=>?_,λh=>?_⟩
   ·have c:eG bs u=ř:=by unfold eG;rw[l];show Kk (eq_of_beq h)
    rw[jW g c a]at q;show q
   ·have c:eG bs u=Ś:=by
     unfold eG;rw[l];refine JX λe=>?_;have h':((am bs u).1==m)=Ś:=h;rw[e,J3]at h';cases h'
    show⟨_,S,dG a g c⟩
 ·rintro ρ ⟨o,rfl,a⟩;rw[Jp]at a;rw[lU a]at q;show q
noncomputable def lj(rs:Y aq)(u:Nat):Bool:=rs.any λr=>decide (0<r.1.getD u 0)
noncomputable def ic(rs:Y aq)(u:Nat):Bool:=rs.any λr=>decide (r.1.getD u 0<0)
inductive z_has_above(ds:List D)(R:D->Prop):Prop|mk (rs:List aq) (u:Nat) (_:ds=[.lst (rs.map aw),aZ u]) (_:rs.length<=1000) (_:(∀r∈rs,u<r.1.length)) (_:R (.bl (lj rs u)))
def GE(F:Fun K "has_above" "has_above" la f J)(j:mg "any"=ŗ):FnOk P w K mg base aG (n+1) f J ["rows","unknown"] (lSp K z_has_above):=by
 refine F.okD Br (λds R h=>?_) (λl A outer s H E ds R o h=>?_)
 ·let⟨rs,u,rfl,_⟩:=h;rfl
 let⟨rs,u,rfl,e,g,q⟩:=h;refine⟨_,(aL (bh (bC (tF S) S j NI (aI (PD.q (PF.d (cZ (k:=1) (N':=["row","unknown"]) (cap:=[ŗ,Z 1]) S (.ok (show bV ["rows","unknown"] (au la) _ ["row","unknown"] [ŗ,Z 1]=ř by lia)) 'a' (bz 'b') (b7 (dv 0)) (λ_ _ _ _ _=>(bf (i:=0) (show List.Nodup (["row","unknown"]:Y Str)by lia) S Wv)) (λ_ _ _ _ _=>(dU fi (PD.q (bu (PD.q (ax (ac 0))) (ac 1) (λ_ _=>rfl))) (PD.q ah) (ay _)))))) aS bx) bx ae))),?_⟩;refine fJ (f:=aw) (λr=>D.bl (decide (0<r.1.getD u 0))) (bi e) (λr a=>⟨_,S,_,cD (i:=u) (bU (d:=0) (g r a)) S,S⟩) ?_
 have c:((rs.map λr=>decide (0<r.1.getD u 0)).any id)=lj rs u:=by unfold lj;rw[NN];rfl
 refine⟨rs.map λr=>decide (0<r.1.getD u 0),by rw[Kh];rfl,?_⟩;show (Kf (λz=>R (.bl z)) c).mpr q
inductive z_has_below(ds:List D)(R:D->Prop):Prop|mk (rs:List aq) (u:Nat) (_:ds=[.lst (rs.map aw),aZ u]) (_:rs.length<=1000) (_:(∀r∈rs,u<r.1.length)) (_:R (.bl (ic rs u)))
def Hq(F:Fun K "has_below" "has_below" kF f J)(j:mg "any"=ŗ):FnOk P w K mg base aG (n+1) f J ["rows","unknown"] (lSp K z_has_below):=by
 refine F.okD Ip (λds R h=>?_) (λl A outer s H E ds R o h=>?_)
 ·let⟨rs,u,rfl,_⟩:=h;rfl
 let⟨rs,u,rfl,e,g,q⟩:=h;refine⟨_,(aL (bh (bC (tF S) S j NI (aI (PD.q (PF.d (cZ (k:=1) (N':=["row","unknown"]) (cap:=[ŗ,Z 1]) S (.ok (show bV ["rows","unknown"] (au kF) _ ["row","unknown"] [ŗ,Z 1]=ř by lia)) 'a' (bz 'b') (b7 (dv 0)) (λ_ _ _ _ _=>(bf (i:=0) (show List.Nodup (["row","unknown"]:Y Str)by lia) S Wv)) (λ_ _ _ _ _=>(dU ik (PD.q (bu (PD.q (ax (ac 0))) (ac 1) (λ_ _=>rfl))) (PD.q ah) (ay _)))))) aS bx) bx ae))),?_⟩;refine fJ (f:=aw) (λr=>D.bl (decide (r.1.getD u 0<0))) (bi e) (λr a=>⟨_,S,_,cD (i:=u) (bU (d:=0) (g r a)) S,S⟩) ?_
 have c:((rs.map λr=>decide (r.1.getD u 0<0)).any id)=ic rs u:=by unfold ic;rw[NN];rfl
 refine⟨rs.map λr=>decide (r.1.getD u 0<0),by rw[Kh];rfl,?_⟩;show (Kf (λz=>R (.bl z)) c).mpr q
noncomputable def eY(bs:Y Bd)(rs:Y aq)(gl:Y Int)(u:Nat):Bool:=!ir (am bs u)&&decide (gl.getD u 0<=0)&&!lj rs u
structure StayP(bs:List Bd)(rs:List aq)(gl:List Int)(st:List Nat):Prop where
 sb:∀u∈st,u<bs.length
 sg:∀u∈st,u<gl.length
 rl:rs.length<=1000
 sr:∀u∈st,∀r∈rs,u<r.1.length
inductive z_sinking_unknown(ds:List D)(R:D->Prop):Prop|mk (bs:List Bd) (rs:List aq) (gl:List Int) (st:List Nat) (_:ds=[.lst (bs.map aU),.lst (rs.map aw),.tup (gl.map D.int),.lst (st.map aZ)]) (_:StayP bs rs gl st) (_:R (oN (st.find? (eY bs rs gl))))
def Ak(F:Fun K "sinking_unknown" "sinking_unknown" l8 f J)(z:Cl P w K mg base n "is_crossed" ["pair"] z_is_crossed)(v:Cl P w K mg base n "has_above" ["rows","unknown"] z_has_above):FnOk P w K mg base aG (n+1) f J ["bounds","rows","goal","staying"] (lSp K z_sinking_unknown):=by
 refine F.okD qaL (λds R h=>?_) (λB A outer s H E ds R r h=>?_)
 ·let⟨bs,rs,gl,st,rfl,_⟩:=h;rfl
 let⟨bs,rs,gl,st,rfl,e,q⟩:=h
 refine⟨_,(bF (fk JO S (b7 (dv 3)) (bf (i:=4) qaL.nd S Wv) (aL (cE (PWD.td (fq (cM (cu (PD.q (bc z r S (ad (bu (ac 0) (ac 4) (λ_ _=>rfl)) ag aA) aA ae)) (λ_=>rfl))) (fq (aR Fb (PD.q (bu (ac 2) (ac 4) (λ_ _=>rfl))) (PD.q ah) (ay _)) (gZ (cM (cu (PD.q (bc v r S (ad (dv 1) (ad (dv 4) ag aa) aa) aa (ar aa ae))) (λ_=>rfl))))))) (aL (bh (dv 4))) cF)))
   (aL (bh bq))),?_⟩
 refine⟨λi ρ=>∃p:Ř Sl,ρ=[Z (.v (.lst (bs.map aU))),Z (.v (.lst (rs.map aw))),Z (.v (.tup (gl.map D.int))),Z (.v (.lst (st.map aZ))),p]/\∀j u',j<i->st[j]?=Z u'->eY bs rs gl u'=Ś,⟨_,S,λj _ y=>absurd y (Kv _)⟩,?_,?_⟩
 ·rintro i d ρ hd ⟨p,rfl,a⟩;let⟨u,rfl,c⟩:=bN hd;have o:=Jw c;refine⟨_,fQ (e.sb u o) S,am bs u,S,λh=>⟨_,cD (i:=u) (bU (d:=0) (e.sg u o)) S,λg=>⟨rs,u,S,e.rl,e.sr u o,λl=>?_,λl=>?_⟩,λg=>⟨ff,λ_=>?_⟩⟩,λh=>⟨ff,λ_=>?_⟩⟩
  ·have x:eY bs rs gl u=ř:=by unfold eY;rw[h,g,l];rfl
   rw[jW c x a]at q;show q
  ·show⟨_,S,dG a c (by unfold eY;rw[l,Lr])⟩
  ·show⟨_,S,dG a c (by unfold eY;rw[g,Lr,Lo])⟩
  ·show⟨_,S,dG a c (by unfold eY;rw[h,Lo,Lo])⟩
 ·rintro ρ ⟨p,rfl,a⟩;rw[Jp]at a;rw[lU a]at q;show q
noncomputable def fh(bs:Y Bd)(rs:Y aq)(gl:Y Int)(u:Nat):Bool:=(am bs u).2.isSome&&!ir (am bs u)&&decide (0<=gl.getD u 0)&&!ic rs u
inductive z_rising_unknown(ds:List D)(R:D->Prop):Prop|mk (bs:List Bd) (rs:List aq) (gl:List Int) (st:List Nat) (_:ds=[.lst (bs.map aU),.lst (rs.map aw),.tup (gl.map D.int),.lst (st.map aZ)]) (_:StayP bs rs gl st) (_:R (oN (st.find? (fh bs rs gl))))
def AO(F:Fun K "rising_unknown" "rising_unknown" nU f J)(B:Cl P w K mg base n "is_crossed" ["pair"] z_is_crossed)(C:Cl P w K mg base n "has_below" ["rows","unknown"] z_has_below):FnOk P w K mg base aG (n+1) f J ["bounds","rows","goal","staying"] (lSp K z_rising_unknown):=by
 refine F.okD qaI (λds R h=>?_) (λG A outer s H E ds R x h=>?_)
 ·let⟨bs,rs,gl,st,rfl,_⟩:=h;rfl
 let⟨bs,rs,gl,st,rfl,e,q⟩:=h
 refine⟨_,(bF (fk JO S (b7 (dv 3)) (bf (i:=4) qaI.nd S Wv) (bF (dg (i:=5) qaI.nd S Wv (bu (ac 0) (ac 4) (λ_ _=>rfl)))
   (aL (cE (PWD.td (fq (aR dI (PD.q (ax (ac 5))) (PD.q bq) (ay _)) (fq (cM (cu (PD.q (bc B x S (ad (dv 5) ag aa) aa ae)) (λ_=>rfl))) (fq (aR na (PD.q (bu (ac 2) (ac 4) (λ_ _=>rfl))) (PD.q ah) (ay _)) (gZ (cM (cu (PD.q (bc C x S (ad (dv 1) (ad (dv 4) ag aa) aa) aa (ar aa ae))) (λ_=>rfl)))))))) (aL (bh (dv 4))) cF))))
   (aL (bh bq))),?_⟩
 refine⟨λi ρ=>∃p r:Ř Sl,ρ=[Z (.v (.lst (bs.map aU))),Z (.v (.lst (rs.map aw))),Z (.v (.tup (gl.map D.int))),Z (.v (.lst (st.map aZ))),p,r]/\∀j u',j<i->st[j]?=Z u'->fh bs rs gl u'=Ś,⟨_,_,S,λj _ z=>absurd z (Kv _)⟩,?_,?_⟩
 ·rintro i d ρ hd ⟨p,r,rfl,a⟩;let⟨u,rfl,c⟩:=bN hd;have o:=Jw c;refine⟨_,fQ (e.sb u o) S,oI (am bs u).2,S,?_⟩
  cases v:(am bs u).2 with
  |none=>show⟨ff,λ_=>⟨ff,λ_=>⟨_,_,S,dG a c (by unfold fh;rw[v];rfl)⟩⟩⟩
  |some mm=>
   refine⟨λ_=>⟨am bs u,S,λh=>⟨_,cD (i:=u) (bU (d:=0) (e.sg u o)) S,λg=>⟨rs,u,S,e.rl,e.sr u o,λl=>?_,λl=>?_⟩,λg=>⟨ff,λ_=>?_⟩⟩,λh=>⟨ff,λ_=>?_⟩⟩,tf⟩
   ·have y:fh bs rs gl u=ř:=by unfold fh;rw[v,h,g,l];rfl
    rw[jW c y a]at q;show q
   ·show⟨_,_,S,dG a c (by unfold fh;rw[l,Lr])⟩
   ·show⟨_,_,S,dG a c (by unfold fh;rw[g,Lr,Lo])⟩
   ·show⟨_,_,S,dG a c (by unfold fh;rw[h,Lr,Lo,Lo])⟩
 ·rintro ρ ⟨p,r,rfl,a⟩;rw[Jp]at a;rw[lU a]at q;show q
noncomputable def fe(bs:Y Bd)(rs:Y aq)(gl:Y Int)(u:Nat):Bool:=(am bs u).2.isNone&&(gl.getD u 0==0)&&!ic rs u
inductive z_hanging_unknown(ds:List D)(R:D->Prop):Prop|mk (bs:List Bd) (rs:List aq) (gl:List Int) (st:List Nat) (_:ds=[.lst (bs.map aU),.lst (rs.map aw),.tup (gl.map D.int),.lst (st.map aZ)]) (_:StayP bs rs gl st) (_:R (oN (st.find? (fe bs rs gl))))
def Ho(F:Fun K "hanging_unknown" "hanging_unknown" mS f J)(z:Cl P w K mg base n "has_below" ["rows","unknown"] z_has_below):FnOk P w K mg base aG (n+1) f J ["bounds","rows","goal","staying"] (lSp K z_hanging_unknown):=by
 refine F.okD qaB (λds R h=>?_) (λB A outer s H E ds R v h=>?_)
 ·let⟨bs,rs,gl,st,rfl,_⟩:=h;rfl
 let⟨bs,rs,gl,st,rfl,e,q⟩:=h
 refine⟨_,(bF (fk JO S (b7 (dv 3)) (bf (i:=4) qaB.nd S Wv) (aL (cE (PWD.td (fq (aR gB (PD.q (ax (PD.q (bu (ac 0) (ac 4) (λ_ _=>rfl))))) (PD.q bq) (ay _)) (fq (aR (df v.units) (PD.q (bu (ac 2) (ac 4) (λ_ _=>rfl))) (PD.q ah) (ay _)) (gZ (cM (cu (PD.q (bc z v S (ad (dv 1) (ad (dv 4) ag aa) aa) aa (ar aa ae))) (λ_=>rfl))))))) (aL (bh (dv 4))) cF)))
   (aL (bh bq))),?_⟩
 refine⟨λi ρ=>∃p:Ř Sl,ρ=[Z (.v (.lst (bs.map aU))),Z (.v (.lst (rs.map aw))),Z (.v (.tup (gl.map D.int))),Z (.v (.lst (st.map aZ))),p]/\∀j u',j<i->st[j]?=Z u'->fe bs rs gl u'=Ś,⟨_,S,λj _ y=>absurd y (Kv _)⟩,?_,?_⟩
 ·rintro i d ρ hd ⟨p,rfl,a⟩;let⟨u,rfl,c⟩:=bN hd;have o:=Jw c;refine⟨_,fQ (e.sb u o) S,oI (am bs u).2,S,?_⟩
  cases r:(am bs u).2 with
  |some mm=>show⟨ff,λ_=>⟨ff,λ_=>⟨_,S,dG a c (by unfold fe;rw[r];rfl)⟩⟩⟩
  |none=>
   refine⟨λ_=>⟨_,cD (i:=u) (bU (d:=0) (e.sg u o)) S,λg=>⟨rs,u,S,e.rl,e.sr u o,λl=>?_,λl=>?_⟩,λg=>⟨ff,λ_=>?_⟩⟩,tf⟩
   ·have x:fe bs rs gl u=ř:=by unfold fe;rw[r,g,l];rfl
    rw[jW c x a]at q;show q
   ·show⟨_,S,dG a c (by unfold fe;rw[l,Lr])⟩
   ·show⟨_,S,dG a c (by unfold fe;rw[g,Lr,Lo])⟩
 ·rintro ρ ⟨p,rfl,a⟩;rw[Jp]at a;rw[lU a]at q;show q
def dN(r:aq):Bool:=decide (1<bp r.1)
inductive z_uneven_row(ds:List D)(R:D->Prop):Prop|mk (rs:List aq) (_:ds=[.lst (rs.map aw)]) (_:R (oN (rs.findIdx? dN)))
def zp(F:Fun K "uneven_row" "uneven_row" mJ f J)(y:Cl P w K mg base n "common" ["numbers"] z_common)(o:mg "enumerate"=ŗ):FnOk P w K mg base aG (n+1) f J ["rows"] (lSp K z_uneven_row):=by
 refine F.okD qaP (λds R h=>?_) (λz A outer s H E ds R u h=>?_)
 ·let⟨rs,rfl,_⟩:=h;rfl
 let⟨rs,rfl,q⟩:=h
 refine⟨_,(bF (fk JO S (gD S o (ad (dv 0) ag aa)) (dM (n:=2) S (bL (bf (i:=1) qaP.nd S Wv) (bL (bf (i:=2) qaP.nd S Wv) dH))) (aL (cE (aR fi (PD.q (bc y u S (ad (ax (ac 2)) ag aA) aA ae)) (PD.q ah) (ay _)) (aL (bh (dv 1))) cF)))
   (aL (bh bq))),?_⟩
 refine⟨λi ρ=>∃c e:Ř Sl,ρ=[Z (.v (.lst (rs.map aw))),c,e]/\∀j l,j<i->rs[j]?=Z l->dN l=Ś,⟨_,_,S,λj _ p=>absurd p (Kv _)⟩,?_,?_⟩
 ·rintro i d ρ hd ⟨c,e,rfl,a⟩;let⟨x,v,rfl⟩:=gq hd;let⟨r,rfl,g⟩:=bN v;refine⟨S,_,S,r.1,S,λh=>?_,λh=>?_⟩
  ·rw[lh g h a]at q;show q
  ·show⟨_,_,S,dG a g h⟩
 ·rintro ρ ⟨c,e,rfl,a⟩;rw[eQ,Jp]at a;rw[mX a]at q;show q
noncomputable def gz(r:aq):Bool:=decide ((dm r.1).length=1)
inductive z_single_row(ds:List D)(R:D->Prop):Prop|mk (rs:List aq) (_:ds=[.lst (rs.map aw)]) (_:(∀r∈rs,r.1.length<=1000)) (_:R (oN (rs.findIdx? gz)))
def zF(F:Fun K "single_row" "single_row" k6 f J)(C:mg "enumerate"=ŗ)(B:mg "len"=ŗ):FnOk P w K mg base aG (n+1) f J ["rows"] (lSp K z_single_row):=by
 refine F.okD qaK (λds R h=>?_) (λO A outer s H E ds R v h=>?_)
 ·let⟨rs,rfl,_⟩:=h;rfl
 let⟨rs,rfl,M,q⟩:=h
 refine⟨_,(bF (fk JO S (gD S C (ad (dv 0) ag aa)) (dM (n:=2) S (bL (bf (i:=1) qaK.nd S Wv) (bL (bf (i:=2) qaK.nd S Wv) dH))) (aL (cE (aR (df v.units) (PD.q (bC cI S B J4 (aI (PD.q (PF.d (qf (k:=1) (N':=["entry"]) (cap:=[ŗ]) S (.ok (show bV ["rows","place","row"] (au k6) _ ["entry"] [ŗ]=ř by lia)) 'a' (bz 'b') (b7 (ax (ac 2))) (λ_ _ _ _ _=>(bf (i:=0) (show List.Nodup (["entry"]:Y Str)by lia) S Wv)) (λ_ _ _ _ _=>(jT (aR (eM v.units) (ac 0) (PD.q ah) (ay _)))) (λ_ _ _ _ _=>(dv 0))))) aS bx) bx ae)) (PD.q ah) (ay _)) (aL (bh (dv 1))) cF)))
   (aL (bh bq))),?_⟩
 refine⟨λi ρ=>∃o p:Ř Sl,ρ=[Z (.v (.lst (rs.map aw))),o,p]/\∀j y,j<i->rs[j]?=Z y->gz y=Ś,⟨_,_,S,λj _ L=>absurd L (Kv _)⟩,?_,?_⟩
 ·rintro i d ρ hd ⟨o,p,rfl,a⟩;let⟨x,l,rfl⟩:=gq hd;let⟨r,rfl,c⟩:=bN l;have z:=M r (Jw c);refine⟨S,_,S,by rw[Jp];show bi z,iU (λi=>decide (r.1.getD i 0≠0)) (λi=>D.int (r.1.getD i 0)),λk d hd=>?_,λys u N=>?_⟩
  ·let⟨x,rfl,l⟩:=bN hd;have ex:r.1.getD k 0=x:=fb l;refine⟨λh=>⟨?_,?_⟩,λh=>?_⟩
   ·change D.int x=D.int (r.1.getD k 0);rw[ex]
   ·change decide (r.1.getD k 0≠0)=ř;rw[ex]
    show Kk λe=>by rw[e]at h;cases h
   ·change decide (r.1.getD k 0≠0)=Ś;rw[ex];refine JX λe=>?_;have h':(!(x==0))=Ś:=h
    have:(x==0)=ř:=by simpa using h'
    show e (eq_of_beq this)
  rw[Jp]at u;have I:ys.filterMap id=(dm r.1).map (λi=>D.int (r.1.getD i 0)):=kj u N
  have G:(ys.filterMap id).length=(dm r.1).length:=by rw[I,Jp]
  refine⟨λh=>?_,λh=>?_⟩
  ·have h':((((ys.filterMap id).length:Nat):Int)==1)=ř:=h
   have g:gz r=ř:=by
    unfold gz;have:=eq_of_beq h';show Kk ()
   rw[lh c g a]at q;show q
  ·have h':((((ys.filterMap id).length:Nat):Int)==1)=Ś:=h
   have g:gz r=Ś:=by unfold gz;refine JX λe=>?_;rw[G,e]at h';cases h'
   show⟨_,_,S,dG a c g⟩
 ·rintro ρ ⟨o,p,rfl,a⟩;rw[eQ,Jp]at a;rw[mX a]at q;show q
structure Dbl(rs:List aq)(j i:Nat)(a b:aq):Prop where
 ji:j<i
 ja:rs[j]?=Z a
 ib:rs[i]?=Z b
 eq:a.1=b.1
 no:∀k l x y,k<l->l<i->rs[k]?=Z x->rs[l]?=Z y->x.1≠y.1
def kI(es:Y Int):Y az:=es.map à
def yE{a b:Y Int}(h:kI a=kI b):a=b:=List.map_inj_right (f:=(à:Int->az)) (λ_ _ e=>ĉ e)|>.mp h
def oR(es:Y Int):es.map D.int=(kI es).map gH:=by unfold kI;rw[Kh];rfl
structure Came(rs:List aq)(i:Nat)(NV:List (List az×D)):Prop where
 ln:NV.length<=i
 at_:∀es,(bD NV (kI es)=ŗ/\∀j r,j<i->rs[j]?=Z r->r.1≠es)\/∃j r,j<i/\rs[j]?=Z r/\r.1=es/\bD NV (kI es)=Z (aZ j)
 no:∀k l x y,k<l->l<i->rs[k]?=Z x->rs[l]?=Z y->x.1≠y.1
def Came.next{rs:Y aq}{i:Nat}{g:Y (Y az×D)}{r:aq}(h:Came rs i g)(p:rs[i]?=Z r)(C:bD g (kI r.1)=ŗ)(v:∀j x,j<i->rs[j]?=Z x->x.1≠r.1):Came rs (i+1) (iV g (kI r.1) (aZ i)):=by
 refine⟨?_,λes=>?_,λk l x y z E a u=>?_⟩
 ·rw[Dk C,Jr,J2];have:=h.ln;omega
 ·rw[Bj];by_cases c:r.1=es
  ·subst c;show .inr ⟨i,r,(),p,S,by rw[JC S]⟩
  ·rw[Jv λe=>c (yE e).symm];rcases h.at_ es with⟨o,A⟩|⟨j,x,B,a,e,o⟩
   ·refine .inl ⟨o,λj x B a=>?_⟩;by_cases e:j=i
    ·rw[e,p]at a;cases a;show c
    ·show A j x () a
   ·show .inr ⟨j,x,(),a,e,o⟩
 ·by_cases e:l=i
  ·rw[e,p]at u;cases u;show v k x () a
  ·show h.no k l x y z () a u
inductive z_doubled_row(ds:List D)(R:D->Prop):Prop|mk (rs:List aq) (_:ds=[.lst (rs.map aw)]) (_:rs.length<=1000) (_:(∀r∈rs,r.1.length<=30)) (_:((∀(k l:Nat)(x y:aq),k<l->rs[k]?=Z x->rs[l]?=Z y->x.1≠y.1)->R .non)) (_:∀j i a b,Dbl rs j i a b->R (aZ (if a.2<b.2 then j else i)))
def Bf(F:Fun K "doubled_row" "doubled_row" nh f J)(b_:mg "enumerate"=ŗ):FnOk P w K mg base aG (n+1) f J ["rows"] (lSpM K (zM z_doubled_row)):=by
 refine F.okM qav (λas R O h=>?_) (λNZ A outer s H E as R O qs be z h N=>?_)
 ·let⟨_,rfl,rs,rfl,_⟩:=h;rfl
 let⟨_,rfl,rs,rfl,L,Ol,X,a_⟩:=h;obtain rfl:=ip N
 refine⟨_,(ao (aJ (i:=1) qav.nd S Wv BG)
   (ao (eJ JO S (eT (gD S b_ (ad (dv 0) ag aa))) (gG (n:=2) S (cW (bZ (i:=2) qav.nd S Wv) (cW (bZ (i:=3) qav.nd S Wv) gA))) (cq (bT (E7 1 z.units (ax (ac 3))) (ao (aJ (i:=4) qav.nd S Wv (HQ 1 z.units (ax (ac 3)) (λ_ _=>rfl)))
   (aM (bX (af (oq (aR ik (PD.q (ax (PD.q (bu (ac 0) (ac 4) (λ_ _=>rfl))))) (PD.q (ax (ac 3))) (ay _)) (dv 4) (dv 2)))))) ce)
   (aM (xN 1 z.units (ax (ac 3)) (dv 2)))))
   (aM (bX (af bq))))),?_⟩
 intro ke;refine⟨λi ρ=>∃(a:Y (Y az×D))(C G o:Ř Sm),ρ=[Z (.v (.lst (rs.map aw))),Z (.ob ŗ (.mpT a)),C,G,o]/\Came rs i a,⟨[],_,_,_,S,Jx _,λes=>.inl ⟨S,λj _ v=>absurd v (Kv _)⟩,λ_ _ _ _ _ L=>absurd L (Kv _)⟩,?_,?_⟩
 ·rintro i d ρ hd ⟨a,C,G,o,rfl,c⟩;let⟨x,B,rfl⟩:=gq hd;let⟨r,rfl,u⟩:=bN B;have Qh:=aC u;refine⟨S,?_⟩;rcases c.at_ r.1 with⟨g,T⟩|⟨j,x,v,I,e,g⟩
  ·refine⟨λρ=>ρ=[Z (.v (.lst (rs.map aw))),Z (.ob ŗ (.mpT a)),Z (.v (aZ i)),Z (.v (aw r)),o],⟨_,S,kI r.1,Kf D.tup (oR r.1),?_⟩,?_⟩
   ·change ((Ś != (bD a (kI r.1)).isSome)=ř->_)/\((Ś != (bD a (kI r.1)).isSome)=Ś->_);rw[g];show⟨ff,λ_=>rfl⟩
   rintro ρ rfl;refine⟨trivial,_,S,kI r.1,Kf D.tup (oR r.1),?_⟩;refine⟨bi (by have:=c.ln;omega),_,S,_,Z (.v (aZ i)),Z (.v (aw r)),o,S,c.next u g T⟩
  ·refine⟨λ_=>False,⟨_,S,kI r.1,Kf D.tup (oR r.1),?_⟩,λρ h=>h.elim⟩;change ((Ś != (bD a (kI r.1)).isSome)=ř->_)/\((Ś != (bD a (kI r.1)).isSome)=Ś->_);rw[g];refine⟨λ_=>⟨_,S,kI r.1,Kf D.tup (oR r.1),aZ j,g,?_⟩,tf⟩;have U:Dbl rs j i x r:=⟨v,I,u,e,c.no⟩;have p:=a_ j i x r U;refine⟨_,cD (i:=j) I S,_,S,_,S,λh=>?_,λh=>?_⟩
   ·rw[JC (dP h)]at p;show p
   ·rw[Jv (KH h)]at p;show p
 ·rintro ρ ⟨a,C,G,o,rfl,c⟩;rw[eQ,Jp]at c;show X λk l x y Q B M=>c.no k l x y Q (aC M) B M
structure LedP(n:Nat)(s:Led):Prop where
 n8:n<=8
 bl:s.bs.length=n
 gl:s.gl.length=n
 ll:s.lm.length=n
 ml:s.mm.length=n
 sl:∀u∈s.st,u<n
 nd:s.st.Nodup
 rl:s.rs.length<=30
 rm:s.rm.length=s.rs.length
 rr:∀r∈s.rs,r.1.length=n/\(∀x∈r.1,x.natAbs<2^9000)/\0<=bp r.1/\bp r.1<2^9000
 bb:∀b∈s.bs,kr b
 gg:∀x∈s.gl,bB x
 ln:s.ln.length<700
 gs:s.gs.length<=8
 gn:s.gn.length<=8
 n1:∀d∈s.rm,NoL d
 n2:∀d∈s.mm,NoL d
 n3:∀d∈s.lm,NoL d
 n4:∀d∈s.ln,NoL d
def nH{x:Int}(h:x.natAbs<2^9000):bB x:=ML h (KY 'b' 'b')
def LedP.rows{n:Nat}{s:Led}(h:LedP n s):RowsP s.bs s.rs:=⟨h.bb,λr a=>⟨by rw[(h.rr r a).1];have:=h.n8;omega,λx c=>nH ((h.rr r a).2.1 x c)⟩⟩
noncomputable def D0(rs:Y aq):Prop:=∀(k l:Nat)(x y:aq),k<l->rs[k]?=Z x->rs[l]?=Z y->x.1≠y.1
inductive RowSt(s:Led):Bool->Led->Prop where
 |idle {p:Nat}:s.rs.findIdx? (e7 s.bs)=Z p->RowSt s ř (cg s p)
 |single {p u:Nat} {r:aq}:s.rs.findIdx? (e7 s.bs)=ŗ->s.rs.findIdx? gz=Z p->s.rs[p]?=Z r->(dm r.1)[0]?=Z u->RowSt s ř (kU s p u r)
 |uneven {p:Nat} {r:aq}:s.rs.findIdx? (e7 s.bs)=ŗ->s.rs.findIdx? gz=ŗ->s.rs.findIdx? dN=Z p->s.rs[p]?=Z r->RowSt s ř (i9 s p r)
 |doubled {j i:Nat} {a b:aq}:s.rs.findIdx? (e7 s.bs)=ŗ->s.rs.findIdx? gz=ŗ->s.rs.findIdx? dN=ŗ->Dbl s.rs j i a b->RowSt s ř (cg s (if a.2<b.2 then j else i))
 |no:s.rs.findIdx? (e7 s.bs)=ŗ->s.rs.findIdx? gz=ŗ->s.rs.findIdx? dN=ŗ->D0 s.rs->RowSt s Ś s
def gW{a:Type}{c:a->Bool}{rs:Y a}{p:Nat}(h:rs.findIdx? c=Z p):∃r,rs[p]?=Z r/\c r=ř:=by let⟨g,e,_⟩:=List.findIdx?_eq_some_iff_getElem.mp h;show⟨rs[p],Km g,e⟩
def i6(o:Ř Nat):NoL (oN o):=by cases o<;>constructor
inductive y_row_struck(as:List Sm)(R:Sm->List Om->Prop)(Rx:XD->List Om->Prop):Prop|mk (a:Option Addr) (n:Nat) (s:Led) (_:as=[.ob a (bR s)]) (_:LedP n s) (_:∀b s',RowSt s b s'->R (.v (.bl b)) [bR s'])
def IK(F:Fun K "row_struck" "row_struck" oo f J){B:Addr}(c:TxtLedger K mg B)(b_:Cl P w K mg base n "idle_row" ["bounds","rows"] z_idle_row)(U:Cl P w K mg base n "single_row" ["rows"] z_single_row)(X:Cl P w K mg base n "uneven_row" ["rows"] z_uneven_row)(T:Cl P w K mg base n "doubled_row" ["rows"] z_doubled_row)(N:MthM P w K mg base n B "drop_row" ["self","place"] y_Ledger__drop_row)(Ov:MthM P w K mg base n B "turn_to_bound" ["self","place"] y_Ledger__turn_to_bound)(be:MthM P w K mg base n B "even_row" ["self","place"] y_Ledger__even_row):FnOk P w K mg base aG (n+1) f J ["ledger"] (lSpM K y_row_struck):=by
 refine F.okM qaJ (λas R Rx h=>?_) (λNZ A outer s H E as R Rx qs N4 l h Of=>?_)
 ·let⟨a,k,s,rfl,_⟩:=h;rfl
 let⟨a,k,s,rfl,e,q⟩:=h;let⟨G,rfl⟩:=eo Of
 refine⟨_,(ao (aJ (i:=1) qaJ.nd S Wv (cB (bc b_ l S (ad (aK c.cl c.n_bounds c.ns (ac 0)) (ad (aK c.cl c.n_rows c.ns (ac 0)) ag aQ) aQ) aQ (ar aQ ae))))
   (cq (bT (bO (aR dI (ac 1) (PD.q bq) (ay _))) (ao (fZ (eR 0 N l c.cl c.ns (aB (af (dv 1)) ba aa) aa ae))
   (aM (bX (af dc)))) ce)
   (ao (aJ (i:=1) qaJ.nd S Wv (cB (bc U l S (ad (aK c.cl c.n_rows c.ns (ac 0)) ag aQ) aQ ae)))
   (cq (bT (bO (aR dI (ac 1) (PD.q bq) (ay _))) (ao (fZ (eR 0 Ov l c.cl c.ns (aB (af (dv 1)) ba aa) aa ae))
   (aM (bX (af dc)))) ce)
   (ao (aJ (i:=1) qaJ.nd S Wv (cB (bc X l S (ad (aK c.cl c.n_rows c.ns (ac 0)) ag aQ) aQ ae)))
   (cq (bT (bO (aR dI (ac 1) (PD.q bq) (ay _))) (ao (fZ (eR 0 be l c.cl c.ns (aB (af (dv 1)) ba aa) aa ae))
   (aM (bX (af dc)))) ce)
   (ao (aJ (i:=1) qaJ.nd S Wv (cB (bc T l S (ad (aK c.cl c.n_rows c.ns (ac 0)) ag aQ) aQ ae)))
   (cq (bT (bO (aR dI (ac 1) (PD.q bq) (ay _))) (ao (fZ (eR 0 N l c.cl c.ns (aB (af (dv 1)) ba aa) aa ae))
   (aM (bX (af dc)))) ce)
   (aM (bX (af dc))))))))))),?_⟩
 intro ke;have h8:=e.n8;have Ol:=e.rl
 have U5:∀r∈s.rs,r.1.length<=1000:=λr l=>by rw[(e.rr r l).1];omega
 refine⟨S,_,S,S,_,S,s.bs,s.rs,S,e.rows,i6 _,?_⟩
 cases o:s.rs.findIdx? (e7 s.bs)with
 |some p=>
  let⟨r,g,_⟩:=gW o;refine⟨λ_=>False,⟨λ_=>?_,tf⟩,λρ h=>h.elim⟩;refine⟨⟨_,_,S,S⟩,_,S,S,_,s,p,S,aC g,by rw[e.rm];show aC g,by have:=aC g;omega,?_⟩;rfl';show⟨_,S,q _ _ (.idle o)⟩
 |none=>
  refine⟨λρ=>ρ=[Z (.ob (Z G) (bR s)),Z (.v .non)],⟨ff,λ_=>rfl⟩,?_⟩;rintro ρ rfl;refine⟨S,_,S,s.rs,S,U5,i6 _,?_⟩
  cases u:s.rs.findIdx? gz with
  |some p=>
   let⟨r,g,O⟩:=gW u;have I:=aC g;have Pk:(dm r.1).length=1:=Kc O;have M:(dm r.1)[0]?=Z ((dm r.1)[0]'()):=Km ();let⟨rn,Q,v,z⟩:=e.rr r (Jw g)
   have SG:(dm r.1)[0]'()<k:=by have:=JU.mp (J9.mp (Jw M)).1;omega
   refine⟨λ_=>False,⟨λ_=>?_,tf⟩,λρ h=>h.elim⟩;refine⟨⟨_,_,S,S⟩,_,S,S,_,s,p,_,r,S,g,by rwa[e.rm],(),e.n1,by have:=e.ln;omega,(),M,by rwa[e.bl],by rwa[e.ll],by rwa[e.ml],Q,?_⟩;rfl';show⟨_,S,q _ _ (.single o u g M)⟩
  |none=>
   refine⟨λρ=>ρ=[Z (.ob (Z G) (bR s)),Z (.v .non)],⟨ff,λ_=>rfl⟩,?_⟩;rintro ρ rfl;refine⟨S,_,S,s.rs,S,i6 _,?_⟩
   cases C:s.rs.findIdx? dN with
   |some p=>
    let⟨r,g,O⟩:=gW C;have I:=aC g;let⟨rn,Q,v,z⟩:=e.rr r (Jw g);refine⟨λ_=>False,⟨λ_=>?_,tf⟩,λρ h=>h.elim⟩;refine⟨⟨_,_,S,S⟩,_,S,S,_,s,p,r,S,g,by rwa[e.rm],e.n1,by have:=e.ln;omega,(),v,z,?_⟩;rfl';show⟨_,S,q _ _ (.uneven o u C g)⟩
   |none=>
    refine⟨λρ=>ρ=[Z (.ob (Z G) (bR s)),Z (.v .non)],⟨ff,λ_=>rfl⟩,?_⟩;rintro ρ rfl;refine⟨S,_,S,s.rs,S,(),λr l=>by rw[(e.rr r l).1];omega,λa_=>⟨.non,?_⟩,λj i x y L=>⟨.int _,?_⟩⟩
    ·refine⟨λρ=>ρ=[Z (.ob (Z G) (bR s)),Z (.v .non)],⟨ff,λ_=>rfl⟩,?_⟩;rintro ρ rfl;show⟨_,S,q _ _ (.no o u C a_)⟩
    ·have I:(if x.2<y.2 then j else i)<s.rs.length:=by
      have:=aC L.ib;have:=L.ji;split<;>omega
     have hR:=RowSt.doubled (s:=s) o u C L;generalize (if x.2<y.2 then j else i)=p at *;refine⟨λ_=>False,⟨λ_=>?_,tf⟩,λρ h=>h.elim⟩;refine⟨⟨_,_,S,S⟩,_,S,S,_,s,p,S,I,by rwa[e.rm],(),?_⟩;rfl';show⟨_,S,q _ _ hR⟩
inductive UnkSt(s:Led):Bool->Led->Prop where
 |fixed {u:Nat}:s.st.find? (eG s.bs)=Z u->UnkSt s ř (fC s u (am s.bs u).1)
 |sink {u:Nat}:s.st.find? (eG s.bs)=ŗ->s.st.find? (eY s.bs s.rs s.gl)=Z u->UnkSt s ř (fC s u (am s.bs u).1)
 |rise {u:Nat} {m:Int}:s.st.find? (eG s.bs)=ŗ->s.st.find? (eY s.bs s.rs s.gl)=ŗ->s.st.find? (fh s.bs s.rs s.gl)=Z u->(am s.bs u).2=Z m->UnkSt s ř (fC s u m)
 |hang {u:Nat}:s.st.find? (eG s.bs)=ŗ->s.st.find? (eY s.bs s.rs s.gl)=ŗ->s.st.find? (fh s.bs s.rs s.gl)=ŗ->s.st.find? (fe s.bs s.rs s.gl)=Z u->UnkSt s ř (fP s u)
 |no:s.st.find? (eG s.bs)=ŗ->s.st.find? (eY s.bs s.rs s.gl)=ŗ->s.st.find? (fh s.bs s.rs s.gl)=ŗ->s.st.find? (fe s.bs s.rs s.gl)=ŗ->UnkSt s Ś s
def LedP.stay{n:Nat}{s:Led}(h:LedP n s):StayP s.bs s.rs s.gl s.st:=⟨λu a=>by rw[h.bl];show h.sl u a,λu a=>by rw[h.gl];show h.sl u a,by have:=h.rl;omega,λu a r c=>by rw[(h.rr r c).1];show h.sl u a⟩
def LedP.fix{n:Nat}{s:Led}(h:LedP n s){u:Nat}{m:Int}(c:u∈s.st)(e:bB m):FixP s u m:=by
 have j:=h.sl u c;have:=h.n8;have:=h.rl;have:=h.ln;have:=h.gs;have:=h.gn;show⟨c,by rwa[h.ml],by rwa[h.ll],by rwa[h.gl],h.rm,(),(),(),(),e,λr a=>⟨by rwa[(h.rr r a).1],by rw[(h.rr r a).1];omega,λx g=>nH ((h.rr r a).2.1 x g)⟩,h.gg,h.n1,h.n2,h.n3⟩
def LedP.hang{n:Nat}{s:Led}(h:LedP n s){u:Nat}(a:u∈s.st):HangP s u:=
 ⟨a,by rw[h.bl];show h.sl u a,h.rm,by have:=h.rl;omega,by have:=h.gn;omega,λr c=>by rw[(h.rr r c).1];show h.sl u a⟩
def LedP.low{n:Nat}{s:Led}(h:LedP n s){u:Nat}(a:u∈s.st):kr (am s.bs u):=h.bb _ (cK (by rw[h.bl];show h.sl u a))
inductive y_unknown_struck(as:List Sm)(R:Sm->List Om->Prop)(Rx:XD->List Om->Prop):Prop|mk (a:Option Addr) (n:Nat) (s:Led) (_:as=[.ob a (bR s)]) (_:LedP n s) (_:∀b s',UnkSt s b s'->R (.v (.bl b)) [bR s'])
def Bv(F:Fun K "unknown_struck" "unknown_struck" mP f J){B:Addr}(c:TxtLedger K mg B)(T:Cl P w K mg base n "fixed_unknown" ["bounds","staying"] z_fixed_unknown)(b_:Cl P w K mg base n "rising_unknown" ["bounds","rows","goal","staying"] z_rising_unknown)(Q:Cl P w K mg base n "hanging_unknown" ["bounds","rows","goal","staying"] z_hanging_unknown)(O:Cl P w K mg base n "sinking_unknown" ["bounds","rows","goal","staying"] z_sinking_unknown)(N:MthM P w K mg base n B "fix" ["self","unknown","number"] y_Ledger__fix)(a_:MthM P w K mg base n B "hang" ["self","unknown"] y_Ledger__hang):FnOk P w K mg base aG (n+1) f J ["ledger"] (lSpM K y_unknown_struck):=by
 refine F.okM qaQ (λas R Rx h=>?_) (λNZ A outer s H E as R Rx qs N4 p h X=>?_)
 ·let⟨a,k,s,rfl,_⟩:=h;rfl
 let⟨a,k,s,rfl,g,q⟩:=h;let⟨y,rfl⟩:=eo X
 refine⟨_,(ao (aJ (i:=1) qaQ.nd S Wv (cB (bc T p S (ad (aK c.cl c.n_bounds c.ns (ac 0)) (ad (aK c.cl c.n_staying c.ns (ac 0)) ag aQ) aQ) aQ (ar aQ ae))))
   (cq (bT (bO (aR gB (ac 1) (PD.q bq) (ay _))) (aM (aJ (i:=1) qaQ.nd S Wv (cB (bc O p S (ad (aK c.cl c.n_bounds c.ns (ac 0)) (ad (aK c.cl c.n_rows c.ns (ac 0)) (ad (aK c.cl c.n_goal c.ns (ac 0)) (ad (aK c.cl c.n_staying c.ns (ac 0)) ag aQ) aQ) aQ) aQ) aQ (ar aQ (ar aQ (ar aQ ae))))))) ce)
   (cq (bT (bO (aR dI (ac 1) (PD.q bq) (ay _))) (ao (fZ (eR 0 N p c.cl c.ns (aB (af (dv 1)) (aB (cB (ax (PD.q (bu (PD.q (aK c.cl c.n_bounds c.ns (ac 0))) (ac 1) (λ_ _=>rfl))))) ba aA) aa) aa (ar aA ae)))
   (aM (bX (af dc)))) ce)
   (ao (aJ (i:=1) qaQ.nd S Wv (cB (bc b_ p S (ad (aK c.cl c.n_bounds c.ns (ac 0)) (ad (aK c.cl c.n_rows c.ns (ac 0)) (ad (aK c.cl c.n_goal c.ns (ac 0)) (ad (aK c.cl c.n_staying c.ns (ac 0)) ag aQ) aQ) aQ) aQ) aQ (ar aQ (ar aQ (ar aQ ae))))))
   (cq (bT (bO (aR dI (ac 1) (PD.q bq) (ay _))) (ao (fZ (eR 0 N p c.cl c.ns (aB (af (dv 1)) (aB (cB (ax (PD.q (bu (PD.q (aK c.cl c.n_bounds c.ns (ac 0))) (ac 1) (λ_ _=>rfl))))) ba aA) aa) aa (ar aA ae)))
   (aM (bX (af dc)))) ce)
   (ao (aJ (i:=1) qaQ.nd S Wv (cB (bc Q p S (ad (aK c.cl c.n_bounds c.ns (ac 0)) (ad (aK c.cl c.n_rows c.ns (ac 0)) (ad (aK c.cl c.n_goal c.ns (ac 0)) (ad (aK c.cl c.n_staying c.ns (ac 0)) ag aQ) aQ) aQ) aQ) aQ (ar aQ (ar aQ (ar aQ ae))))))
   (cq (bT (bO (aR dI (ac 1) (PD.q bq) (ay _))) (ao (fZ (eR 0 a_ p c.cl c.ns (aB (af (dv 1)) ba aa) aa ae))
   (aM (bX (af dc)))) ce)
   (aM (bX (af dc)))))))))),?_⟩
 intro ke;have C:∀u∈s.st,u<s.bs.length:=g.stay.sb;refine⟨S,_,S,S,_,S,s.bs,s.st,S,C,i6 _,?_⟩;refine⟨λρ=>∃o:Ř Nat,ρ=[Z (.ob (Z y) (bR s)),Z (.v (oN o))]/\(∀u,o=Z u->u∈s.st/\UnkSt s ř (fC s u (am s.bs u).1))/\(o=ŗ->s.st.find? (eG s.bs)=ŗ/\s.st.find? (eY s.bs s.rs s.gl)=ŗ),?_,?_⟩
 ·cases l:s.st.find? (eG s.bs)with
  |some u=>show⟨ff,λ_=>⟨Z u,S,λv x=>by cases x;show⟨JW l,.fixed l⟩,λh=>by cases h⟩⟩
  |none=>
   refine⟨λ_=>⟨S,_,S,S,_,S,S,_,S,S,_,S,s.bs,s.rs,s.gl,s.st,S,g.stay,i6 _,s.st.find? (eY s.bs s.rs s.gl),S,λv x=>⟨JW x,.sink l x⟩,λh=>⟨S,h⟩⟩,tf⟩
 rintro ρ ⟨o,rfl,be,U⟩
 cases o with
 |some u=>
  let⟨j,hU⟩:=be u S;refine⟨λ_=>False,⟨λ_=>?_,tf⟩,λρ h=>h.elim⟩;refine⟨⟨_,_,S,S⟩,S,_,S,_,fQ (C u j) S,_,S,.int _,_,S,S,_,s,u,_,S,g.fix j (g.low j).1,?_⟩;rfl';show⟨_,S,q _ _ hU⟩
 |none=>
  let⟨l,G⟩:=U S;refine⟨λρ=>ρ=[Z (.ob (Z y) (bR s)),Z (.v .non)],⟨ff,λ_=>rfl⟩,?_⟩;rintro ρ rfl;refine⟨S,_,S,S,_,S,S,_,S,S,_,S,s.bs,s.rs,s.gl,s.st,S,g.stay,i6 _,?_⟩
  cases r:s.st.find? (fh s.bs s.rs s.gl)with
  |some u=>
   have j:=JW r;have L:=LO r
   obtain⟨m,M⟩:∃m,(am s.bs u).2=Z m:=by
    cases e:(am s.bs u).2 with
    |some m=>show⟨m,S⟩
    |none=>unfold fh at L;rw[e]at L;cases L
   refine⟨λ_=>False,⟨λ_=>?_,tf⟩,λρ h=>h.elim⟩;refine⟨⟨_,_,S,S⟩,S,_,S,_,fQ (C u j) S,D.int m,(Kf (λz=>cr [D.int (am s.bs u).1,oI z] 1) M).trans S,.int _,_,S,S,_,s,u,m,S,g.fix j ((g.low j).2 m M),?_⟩;rfl';show⟨_,S,q _ _ (.rise l G r M)⟩
  |none=>
   refine⟨λρ=>ρ=[Z (.ob (Z y) (bR s)),Z (.v .non)],⟨ff,λ_=>rfl⟩,?_⟩;rintro ρ rfl;refine⟨S,_,S,S,_,S,S,_,S,S,_,S,s.bs,s.rs,s.gl,s.st,S,g.stay,i6 _,?_⟩
   cases I:s.st.find? (fe s.bs s.rs s.gl)with
   |some u=>
    have j:=JW I;refine⟨λ_=>False,⟨λ_=>?_,tf⟩,λρ h=>h.elim⟩;refine⟨⟨_,_,S,S⟩,_,S,S,_,s,u,S,g.hang j,?_⟩;rfl';show⟨_,S,q _ _ (.hang l G r I)⟩
   |none=>
    refine⟨λρ=>ρ=[Z (.ob (Z y) (bR s)),Z (.v .non)],⟨ff,λ_=>rfl⟩,?_⟩;rintro ρ rfl;show⟨_,S,q _ _ (.no l G r I)⟩
noncomputable def pL(s:Led)(p:Nat):D:=.tup (.tup [s.rm.getD p .non,.int 1]::(dm (bQ s.rs p).1).map λu=>eI s u ((bQ s.rs p).1.getD u 0))
noncomputable def bw(s:Led):D:=match s.st.find? (jh s.bs)with
 |some u=>.tup [.tup [s.lm.getD u .non,.int 1],.tup [s.mm.getD u .non,.int 1]]
 |none=>match s.rs.findIdx? (fX s.bs)with
  |none=>.non
  |some p=>pL s p
inductive z_hopeless_shares(ds:List D)(R:D->Prop):Prop|mk (n:Nat) (s:Led) (_:ds=[iw s]) (_:LedP n s) (_:R (bw s))
def BX(F:Fun K "hopeless_shares" "hopeless_shares" kY f J){v:Addr}(a:TxtLedger K mg v)(B:Cl P w K mg base n "crossed_unknown" ["bounds","staying"] z_crossed_unknown)(C:Cl P w K mg base n "hopeless_row" ["bounds","rows"] z_hopeless_row)(T:MthD P w K mg base n v "bound_share" ["self","unknown","entry"] z_Ledger__bound_share)(I:mg "tuple"=ŗ)(L:mg "enumerate"=ŗ):FnOk P w K mg base aG (n+1) f J ["ledger"] (lSp K z_hopeless_shares):=by
 refine F.okD qaD (λds R h=>?_) (λU A outer s H E ds R l h=>?_)
 ·let⟨k,s,rfl,_⟩:=h;rfl
 let⟨k,s,rfl,c,q⟩:=h
 refine⟨_,(bF (dg (i:=1) qaD.nd S Wv (bc B l S (ad (aK a.cl a.n_bounds a.ns (ac 0)) (ad (aK a.cl a.n_staying a.ns (ac 0)) ag aQ) aQ) aQ (ar aQ ae)))
   (fu (cE (aR dI (ac 1) (PD.q bq) (ay _)) (aL (bh (bt (ad (bt (ad (bu (PD.q (aK a.cl a.n_least_marks a.ns (ac 0))) (ac 1) (λ_ _=>rfl)) (ad ah ag aD) aA)) (ad (bt (ad (bu (PD.q (aK a.cl a.n_most_marks a.ns (ac 0))) (ac 1) (λ_ _=>rfl)) (ad ah ag aD) aA)) ag bI) bI)))) cF)
   (bF (dg (i:=2) qaD.nd S Wv (bc C l S (ad (aK a.cl a.n_bounds a.ns (ac 0)) (ad (aK a.cl a.n_rows a.ns (ac 0)) ag aQ) aQ) aQ (ar aQ ae)))
   (fu (cE (aR gB (ac 2) (PD.q bq) (ay _)) (aL (bh bq)) cF)
   (bF (dg (i:=3) qaD.nd S Wv (ax (PD.q (bu (PD.q (aK a.cl a.n_rows a.ns (ac 0))) (ac 2) (λ_ _=>rfl)))))
   (bF (uc (i:=4) (k:=2) (N':=["other","entry","ledger"]) (cap:=[ŗ,ŗ,Z 0]) S qaD.nd S Wv (.ok (show bV ["ledger","unknown","place","entries","shares"] (au kY) _ ["other","entry","ledger"] [ŗ,ŗ,Z 0]=ř by lia)) 'a' (hJ (n:=2) (dD (bz 'b') (dD (bz 'b') hV))) (gD S L (ad (dv 3) ag aa)) (λ_ _ _ _ _=>(dM (n:=2) S (bL (bf (i:=0) (show List.Nodup (["other","entry","ledger"]:Y Str)by lia) S Wv) (bL (bf (i:=1) (show List.Nodup (["other","entry","ledger"]:Y Str)by lia) S Wv) dH)))) (λ_ _ _ _ _=>(jT (aR (eM l.units) (ac 1) (PD.q ah) (ay _)))) (λ_ _ _ _ _=>(ka T l a.cl a.ns (dv 2) (ad (dv 0) (ad (dv 1) ag aa) aa) aa (ar aa ae))))
   (aL (bh (aP bH (PD.q (bt (ad (bt (ad (bu (PD.q (aK a.cl a.n_row_marks a.ns (ac 0))) (ac 2) (λ_ _=>rfl)) (ad ah ag aD) aA)) ag bI))) (PD.q (cf cG S I JE (aI (ac 4) aS aa) aa ae))))))))))),?_⟩
 have be:=c.n8;refine⟨S,_,S,S,_,S,s.bs,s.st,S,c.stay.sb,?_⟩
 cases j:s.st.find? (jh s.bs)with
 |some u=>
  have Q:=JW j;have hn:=c.sl u Q
  have:bw s=.tup [.tup [s.lm.getD u .non,.int 1],.tup [s.mm.getD u .non,.int 1]]:=by unfold bw;rw[j]
  rw[this]at q;show⟨λ_=>False,⟨λ_=>⟨S,_,S,s.lm.getD u .non,fW (bU (by rwa[c.ll])) S,S,_,S,s.mm.getD u .non,fW (bU (by rwa[c.ml])) S,q⟩,tf⟩,λρ h=>h.elim⟩
 |none=>
  refine⟨λρ=>ρ=[Z (.v (iw s)),Z (.v .non),ŗ,ŗ,ŗ],⟨ff,λ_=>rfl⟩,?_⟩;rintro ρ rfl;refine⟨S,_,S,S,_,S,s.bs,s.rs,S,c.rows,?_⟩
  cases o:s.rs.findIdx? (fX s.bs)with
  |none=>
   have:bw s=.non:=by unfold bw;rw[j,o]
   rw[this]at q;show⟨λ_=>False,⟨λ_=>q,tf⟩,λρ h=>h.elim⟩
  |some p=>
   let⟨r,g,_⟩:=gW o;have G:bQ s.rs p=r:=fb g;have a_:=aC g;let⟨rn,r9,_,_⟩:=c.rr r (Jw g)
   have:bw s=pL s p:=by unfold bw;rw[j,o]
   rw[this]at q;unfold pL at q;rw[G]at q;refine⟨λρ=>ρ=[Z (.v (iw s)),Z (.v .non),Z (.v (aZ p)),ŗ,ŗ],⟨ff,λ_=>rfl⟩,?_⟩;rintro ρ rfl;refine⟨S,_,S,_,cD g S,_,S,?_⟩;refine⟨by rw[eQ,Jp];show bi (),iU (λi=>decide (r.1.getD i 0≠0)) (λu=>eI s u (r.1.getD u 0)),λi d hd=>?_,λys y b_=>?_⟩
   ·let⟨e,N,rfl⟩:=gq hd;let⟨x,rfl,z⟩:=bN N;have ex:r.1.getD i 0=x:=fb z
    have X:i<k:=by have:=aC z;omega
    refine⟨S,λh=>?_,λh=>?_⟩
    ·refine⟨S,S,s,i,x,S,by rwa[c.ml],by rwa[c.ll],?_,?_⟩
     ·change eI s i x=eI s i (r.1.getD i 0);rw[ex]
     ·change decide (r.1.getD i 0≠0)=ř;rw[ex]
      show Kk λe=>by rw[e]at h;cases h
    ·change decide (r.1.getD i 0≠0)=Ś;rw[ex];refine JX λe=>?_;have h':(!(x==0))=Ś:=h
     have:(x==0)=ř:=by simpa using h'
     show e (eq_of_beq this)
   rw[eQ,Jp]at y;have M:ys.filterMap id=(dm r.1).map (λu=>eI s u (r.1.getD u 0)):=kj y b_;rw[M]
   have O:(dm r.1).length<=8:=by
    have:=KR (λi=>decide (r.1.getD i 0≠0)) (List.range r.1.length);rw[JQ]at this;have:(dm r.1).length<=r.1.length:=this;omega
   refine⟨S,_,S,s.rm.getD p .non,fW (bU (by rwa[c.rm])) S,by rw[Jp];change 1+_<=_;have:=bi (n:=9) 'b';omega,_,S,q⟩
noncomputable def jP(xs:Y D)(st:Y Nat):Y D:=st.map λu=>xs.getD u .non
inductive z_picked(ds:List D)(R:D->Prop):Prop|mk (d1:D) (xs:List D) (st:List Nat) (_:ds=[d1,.lst (st.map aZ)]) (_:(d1=.tup xs\/d1=.lst xs)) (_:st.length<=1000) (_:(∀u∈st,u<xs.length)) (_:R (.tup (jP xs st)))
def Gk(F:Fun K "picked" "picked" lv f J)(g:mg "tuple"=ŗ):FnOk P w K mg base aG (n+1) f J ["numbers","places"] (lSp K z_picked):=by
 refine F.okD Es (λds R h=>?_) (λo A outer s H E ds R p h=>?_)
 ·let⟨j,xs,st,rfl,_⟩:=h;rfl
 let⟨j,xs,st,rfl,l,c,e,q⟩:=h;refine⟨_,(aL (bh (cf cG S g JE (aI (PD.q (PF.d (cZ (k:=1) (N':=["place","numbers"]) (cap:=[ŗ,Z 0]) S (.ok (show bV ["numbers","places"] (au lv) _ ["place","numbers"] [ŗ,Z 0]=ř by lia)) 'a' (bz 'b') (b7 (dv 1)) (λ_ _ _ _ _=>(bf (i:=0) (show List.Nodup (["place","numbers"]:Y Str)by lia) S Wv)) (λ_ _ _ _ _=>(bu (ac 1) (ac 0) (λ_ _=>rfl)))))) aS bx) bx ae))),?_⟩;rcases l with rfl|rfl
 ·show fJ (f:=aZ) (λu=>xs.getD u .non) (bi c) (λu a=>⟨_,fW (bU (d:=D.non) (e u a)) S,S⟩) q
 ·show fJ (f:=aZ) (λu=>xs.getD u .non) (bi c) (λu a=>⟨_,fW (bU (d:=D.non) (e u a)) S,S⟩) q
noncomputable def pk{a:Type}(d:a)(xs:Y a)(st:Y Nat):Y a:=st.map λu=>xs.getD u d
def pV{a:Type}{f:a->D}{d:a}{xs:Y a}{st:Y Nat}(h:∀u∈st,u<xs.length):jP (xs.map f) st=(pk d xs st).map f:=by
 unfold jP pk;rw[Kh];refine MS λu c=>?_;change (xs.map f).getD u .non=f (xs.getD u d);have:=h u c;rw[JD,JD,JF,bJ this];rfl
noncomputable def fG(st:Y Nat)(r:aq):aq:=(pk 0 r.1 st,r.2)
noncomputable def kD(s:Led):D:=bK (pk (0,ŗ) s.bs s.st) (s.rs.map (fG s.st)) (pk 0 s.gl s.st)
def vI{n:Nat}{s:Led}(h:LedP n s):s.st.length<=n:=by
 have a:s.st ⊆ List.range n:=λu c=>JU.mpr (h.sl u c);have:=h.nd.length_le_of_subset a
 rwa [JQ]at this
inductive z_slim_plan(ds:List D)(R:D->Prop):Prop|mk (n:Nat) (s:Led) (_:ds=[iw s]) (_:LedP n s) (_:R (kD s))
def xQ(F:Fun K "slim_plan" "slim_plan" li f J){v:Addr}(a:TxtLedger K mg v)(o:Cl P w K mg base n "picked" ["numbers","places"] z_picked)(x:mg "tuple"=ŗ):FnOk P w K mg base aG (n+1) f J ["ledger"] (lSp K z_slim_plan):=by
 refine F.okD qaM (λds R h=>?_) (λB A outer s H E ds R l h=>?_)
 ·let⟨k,s,rfl,_⟩:=h;rfl
 let⟨k,s,rfl,c,q⟩:=h
 refine⟨_,(bF (qd (i:=1) (k:=1) (N':=["row","ledger"]) (cap:=[ŗ,Z 0]) S qaM.nd S Wv (.ok (show bV ["ledger","rows"] (au li) _ ["row","ledger"] [ŗ,Z 0]=ř by lia)) 'a' (bz 'b') (b7 (aK a.cl a.n_rows a.ns (ac 0))) (λ_ _ _ _ _=>(bf (i:=0) (show List.Nodup (["row","ledger"]:Y Str)by lia) S Wv)) (λ_ _ _ _ _=>(bt (ad (bc o l S (ad (ax (ac 0)) (ad (aK a.cl a.n_staying a.ns (ac 1)) ag aQ) aA) aA (ar aQ ae)) (ad (ax (ac 0)) ag aA) bg))))
   (aL (bh (bt (ad (bc o l S (ad (aK a.cl a.n_bounds a.ns (ac 0)) (ad (aK a.cl a.n_staying a.ns (ac 0)) ag aQ) aQ) aQ (ar aQ ae)) (ad (cf cG S x JE (aI (ac 1) aS aa) aa ae) (ad (bc o l S (ad (aK a.cl a.n_goal a.ns (ac 0)) (ad (aK a.cl a.n_staying a.ns (ac 0)) ag aQ) aQ) aQ (ar aQ ae)) ag bg) bg) bg))))),?_⟩
 have G:=c.n8;have C:=vI c
 have y:∀u∈s.st,u<(s.bs.map aU).length:=λu g=>by rw[Jp];show c.stay.sb u g
 have z:∀u∈s.st,u<(s.gl.map D.int).length:=λu g=>by rw[Jp];show c.stay.sg u g
 refine⟨S,_,S,?_⟩;refine fJ (f:=aw) (λr=>aw (fG s.st r)) (bi (by have:=c.rl;omega)) (λr p=>?_) ?_
 ·have j:∀u∈s.st,u<r.1.length:=λu g=>c.stay.sr u g r p;refine⟨_,S,S,_,S,_,r.1.map D.int,s.st,S,.inl S,(),λu g=>by rw[Jp];show j u g,_,S,?_⟩;change D.tup [D.tup (jP (r.1.map D.int) s.st),D.int r.2]=aw (fG s.st r);rw[pV (d:=0) j];rfl
 refine⟨S,_,S,S,_,S,_,s.bs.map aU,s.st,S,.inr S,(),y,?_⟩;refine⟨S,_,S,S,_,S,_,s.gl.map D.int,s.st,S,.inl S,(),z,?_⟩
 have e:D.tup [D.tup (jP (s.bs.map aU) s.st),D.tup (s.rs.map λr=>aw (fG s.st r)),D.tup (jP (s.gl.map D.int) s.st)]=kD s:=by unfold kD bK;rw[pV (d:=(0,ŗ)) c.stay.sb,pV (d:=0) c.stay.sg,Kh];rfl
 show (Kf R e).mpr q
noncomputable def fg(sp:Y Int)(ps:Y (Nat×Int)):Y Int:=ps.foldl (λsp p=>sp.set p.1 p.2) sp
noncomputable def dL(n:Nat)(ps:Y Nat)(xs:Y Int):Y Int:=fg (List.replicate n 0) (List.zip ps xs)
def xq(ps:Y (Nat×Int)):∀sp:Y Int,(fg sp ps).length=sp.length:=by
 induction ps with
 |nil=>intro sp;rfl
 |cons p ps a=>
  intro sp;change (fg (sp.set p.1 p.2) ps).length=_;rw[a,Ju]
def Ge(sp:Y Int){ps:Y (Nat×Int)}{i:Nat}{p:Nat×Int}(h:ps[i]?=Z p):fg sp (ps.take (i+1))=(fg sp (ps.take i)).set p.1 p.2:=by rw[gR h];unfold fg;rw[LF];rfl
inductive y_spread(as:List Sm)(R:Sm->List Om->Prop)(Rx:XD->List Om->Prop):Prop|mk (d1 d2:D) (xs:List Int) (ps:List Nat) (n:Nat) (_:as=[.v d1,.v d2,.v (.int (n:Nat))]) (_:dh d1=Z (xs.map D.int)) (_:dh d2=Z (ps.map aZ)) (_:n<=1000) (_:(∀p∈ps,p<n)) (_:R (.ob ŗ (.lst ((dL n ps xs).map D.int))) [])
def G9(F:Fun K "spread" "spread" mD f J)(v:mg "zip"=ŗ):FnOk P w K mg base aG (n+1) f J ["numbers","places","n"] (lSpM K y_spread):=by
 refine F.okM qaN (λas R r h=>?_) (λI A outer s H E as R r O G M h o=>?_)
 ·let⟨g,j,xs,ps,m,rfl,_⟩:=h;rfl
 let⟨g,j,xs,ps,m,rfl,y,z,L,B,q⟩:=h;obtain rfl:=ip o
 refine⟨_,(ao (aJ (i:=3) qaN.nd S Wv (dk (zV (PD.q (PF.d (da (ad ah ag aD)))) (ac 2))))
   (ao (eJ JO S (eT (jI S v (ad (dv 1) (ad (dv 0) ag aa) aa))) (gG (n:=2) S (cW (bZ (i:=4) qaN.nd S Wv) (cW (bZ (i:=5) qaN.nd S Wv) gA))) (aM (j8 3 (af (dv 5)) (af (dv 4)))))
   (aM (bX (jR 3))))),?_⟩
 intro N;refine⟨⟨(),(),by have:=bi (n:=m) ();change 1*_<=_;omega⟩,(List.replicate m 0).map D.int,by rw[show ((m:Nat):Int).toNat=m from KC m];show wS m 0,?_⟩;refine⟨_,_,z,y,λi ρ=>∃c e:Ř Sm,ρ=[Z (.v g),Z (.v j),Z (.v (.int (m:Nat))),Z (.ob ŗ (.lst ((fg (List.replicate m 0) ((List.zip ps xs).take i)).map D.int))),c,e],⟨_,_,S⟩,?_,?_⟩
 ·rintro i d ρ hd ⟨c,e,rfl⟩;rw[jF]at hd;let⟨⟨p,x⟩,rfl,l⟩:=bN hd;have C:p<m:=B p (Ly (Jw l)).1
  have a:(fg (List.replicate m 0) ((List.zip ps xs).take i)).length=m:=by rw[xq,J1]
  have u:=Ge (List.replicate m 0) l;refine⟨S,p,eS (by rwa[Jp,a]),_,S,Z (.v (aZ p)),Z (.v (.int x)),?_⟩;rw[u,←Lk];rfl
 ·rintro ρ ⟨c,e,rfl⟩
  have a:(fV (ps.map aZ) (xs.map D.int)).length=(List.zip ps xs).length:=by rw[jF,Jp]
  rwa[a,KL]
noncomputable def fo(u:Nat)(sp:Y Int)(r:aq):Int:=dB (r.2-av r.1 sp) (r.1.getD u 0)
noncomputable def i7(u:Nat)(l:Int)(rs:Y aq)(sp:Y Int):Int:=(rs.map (fo u sp)).foldl max l
theorem nZ:∀(xs:Y Int)(l:Int),l<=xs.foldl max l/\(∀x∈xs,x<=xs.foldl max l)/\xs.foldl max l∈l::xs
 | [],l=>⟨K1 _,λx h=>(by cases h),JA⟩
 |y::xs,l=>by
  let⟨e,g,j⟩:=nZ xs (max l y);refine⟨Nj (Int.le_max_left l y) e,λx a=>?_,?_⟩
  ·rcases JI.mp a with rfl|a
   ·show Nj (Int.le_max_right l x) e
   ·show g x a
  ·change xs.foldl max (max l y)∈l::y::xs;rcases JI.mp j with h|h
   ·rw[h];rcases Int.le_total l y with c|c
    ·rw[Int.max_eq_right c];simp
    ·rw[Int.max_eq_left c];simp
   ·show Jy _ (Jy _ h)
def vN{xs:Y Int}{l m:Int}(e:m∈l::xs)(g:∀x∈l::xs,x<=m):m=xs.foldl max l:=by
 let⟨j,a,c⟩:=nZ xs l;have:=g _ c;rcases JI.mp e with rfl|h
 ·omega
 ·have:=a m h;omega
inductive z_least_meeting(ds:List D)(R:D->Prop):Prop|mk (u:Nat) (l:Int) (d3 d4:D) (rs:List aq) (sp:List Int) (_:ds=[aZ u,.int l,d3,d4]) (_:(d3=.lst (rs.map aw)\/d3=.tup (rs.map aw))) (_:dh d4=Z (sp.map D.int)) (_:rs.length<=100) (_:(∀r∈rs,u<r.1.length/\r.1.length<=1000/\0<r.1.getD u 0/\(∀x∈r.1,x.natAbs<2^9000))) (_:(∀x∈sp,bB x)) (_:R (.int (i7 u l rs sp)))
def D2(F:Fun K "least_meeting" "least_meeting" lL f J)(L:Cl P w K mg base n "up" ["top","bottom"] z_up)(y:Cl P w K mg base n "left" ["entries","spot"] z_left)(I:mg "max"=ŗ):FnOk P w K mg base aG (n+1) f J ["unknown","least","rows","spot"] (lSp K z_least_meeting):=by
 refine F.okD qaG (λds R h=>?_) (λM A outer s H E ds R p h=>?_)
 ·let⟨u,l,B,C,rs,sp,rfl,_⟩:=h;rfl
 let⟨u,l,B,C,rs,sp,rfl,G,o,N,j,v,q⟩:=h
 refine⟨_,(bF (qd (i:=4) (k:=1) (N':=["row","unknown","spot"]) (cap:=[ŗ,Z 0,Z 3]) S qaG.nd S Wv (.ok (show bV ["unknown","least","rows","spot","needs"] (au lL) _ ["row","unknown","spot"] [ŗ,Z 0,Z 3]=ř by lia)) 'a' (bz 'b') (b7 (dv 2)) (λ_ _ _ _ _=>(bf (i:=0) (show List.Nodup (["row","unknown","spot"]:Y Str)by lia) S Wv)) (λ_ _ _ _ _=>(bc L p S (ad (aP db (PD.q (ax (ac 0))) (PD.q (bc y p S (ad (ax (ac 0)) (ad (dv 2) ag aa) aA) aA (ar aa ae)))) (ad (bu (PD.q (ax (ac 0))) (ac 1) (λ_ _=>rfl)) ag aA) bP) bP (ar aA ae))))
   (aL (bh (bC (BW S) S I ME (aI (PD.q (aP bH (PD.q (PF.d (da (ad (dv 1) ag aa)))) (ac 4))) aS bP) bP ae)))),?_⟩
 rcases G with rfl|rfl
 ·refine jM (f:=aw) (fo u sp) (bi ()) (λr c=>?_) ?_
  ·let⟨a1,a2,a3,a4⟩:=j r c
   have e:r.1.getD u 0<2^9000:=by
    have z:((((r.1.getD u 0).natAbs:Nat)):Int)<2^9000:=by exact_mod_cast a4 _ (cK a1)
    omega
   show⟨_,S,_,S,_,_,r.1,sp,S,S,o,a2,λx a=>nH (a4 x a),v,_,S,_,cD (i:=u) (bU (d:=0) a1) S,_,_,S,(),e,S⟩
  refine⟨by rw[Jp,Jp];have:=bi (n:=102) 'b';change 1+_<=_;omega,(l::rs.map (fo u sp)).map D.int,S,l::rs.map (fo u sp),S,by simp,λm g a=>?_⟩;have:=vN g a;rwa[this]
 ·refine jM (f:=aw) (fo u sp) (bi ()) (λr c=>?_) ?_
  ·let⟨a1,a2,a3,a4⟩:=j r c
   have e:r.1.getD u 0<2^9000:=by
    have z:((((r.1.getD u 0).natAbs:Nat)):Int)<2^9000:=by exact_mod_cast a4 _ (cK a1)
    omega
   show⟨_,S,_,S,_,_,r.1,sp,S,S,o,a2,λx a=>nH (a4 x a),v,_,S,_,cD (i:=u) (bU (d:=0) a1) S,_,_,S,(),e,S⟩
  refine⟨by rw[Jp,Jp];have:=bi (n:=102) 'b';change 1+_<=_;omega,(l::rs.map (fo u sp)).map D.int,S,l::rs.map (fo u sp),S,by simp,λm g a=>?_⟩;have:=vN g a;rwa[this]
noncomputable def dX(n:Nat)(s:Led):D:=.obj "Struck" [("ledger",iw s),("breadth",.int (n:Nat)),("kind",.str "slim"),("paper",.non),("slim",kD s),("kept",.tup (s.st.map aZ)),("extra",.int s.ex)]
def xg(n:Nat)(ps:Y Nat)(xs:Y Int):(dL n ps xs).length=n:=by unfold dL;rw[xq,J1]
structure Way(P:Led->Prop)(μ:Led->Nat):Prop where
 ok:∀t,P t->∃n,LedP n t
 row:∀t t',P t->bw t=.non->RowSt t ř t'->P t'/\μ t'<μ t
 unk:∀t t',P t->bw t=.non->RowSt t Ś t->UnkSt t ř t'->P t'/\μ t'<μ t
def kT{n:Nat}{s:Led}(a:LedP n s):NoL (bw s):=by
 unfold bw
 cases h:s.st.find? (jh s.bs)with
 |some u=>
  have e:=a.sl u (JW h);show .tup (bv (.tup (bv (a.n3 _ (cK (by rwa[a.ll]))) (bv (.int _) c9))) (bv (.tup (bv (a.n2 _ (cK (by rwa[a.ml]))) (bv (.int _) c9))) c9))
 |none=>
  cases j:s.rs.findIdx? (fX s.bs)with
  |none=>show .non
  |some p=>
   let⟨r,c,_⟩:=gW j;have g:bQ s.rs p=r:=fb c;let⟨o,_⟩:=a.rr r (Jw c);refine .tup (bv (.tup (bv (a.n1 _ (cK (by rw[a.rm];show aC c))) (bv (.int _) c9))) λd hd=>?_);let⟨u,e,rfl⟩:=JL.mp hd
   have l:u<n:=by have:=JU.mp (J9.mp e).1;rw[g]at this;omega
   show mL a.n2 a.n3 (by rwa[a.ml]) (by rwa[a.ll])
def GG{s t:Led}(h:RowSt s Ś t):t=s:=by cases h;rfl
def Hn{s t:Led}(h:UnkSt s Ś t):t=s:=by cases h;rfl
inductive y_strike(as:List Sm)(R:Sm->List Om->Prop)(Rx:XD->List Om->Prop):Prop|mk (a:Option Addr) (s:Led) (P:Led->Prop) (μ:Led->Nat) (_:as=[.ob a (bR s)]) (_:P s) (_:Way P μ) (_:∀t,P t->(e9 (bw t)=Ś\/(RowSt t Ś t/\UnkSt t Ś t))->R (.v (bw t)) [bR t])
def Gv(F:Fun K "strike" "strike" nE f J)(L:Cl P w K mg base n "hopeless_shares" ["ledger"] z_hopeless_shares)(O:ClM P w K mg base n "row_struck" ["ledger"] y_row_struck)(M:ClM P w K mg base n "unknown_struck" ["ledger"] y_unknown_struck):FnOk P w K mg base aG (n+1) f J ["ledger"] (lSpM K y_strike):=by
 refine F.okM qaO (λas R Q h=>?_) (λX A outer s H E as R Q be U u h N=>?_)
 ·let⟨a,s,z,y,rfl,_⟩:=h;rfl
 let⟨a,s,z,y,rfl,G,g,q⟩:=h;let⟨T,rfl⟩:=eo N
 refine⟨_,(ao (aJ (i:=1) qaO.nd S Wv (cB (bc L u S (ad (dv 0) ag aa) aa ae)))
   (ao (DT JO (PXW.toB (mH (bO (aR gB (ac 1) (PD.q bq) (ay _))) (wn (PXW.toB (vo (pA (bE O u S (bM 0 ba aa) aa ae) (λ_=>rfl)) (v9 (pA (bE M u S (bM 0 ba aa) aa ae) (λ_=>rfl)))))))) (aM (aJ (i:=1) qaO.nd S Wv (cB (bc L u S (ad (dv 0) ag aa) aa ae)))))
   (aM (bX (af (dv 1)))))),?_⟩
 intro a_;let⟨b_,C⟩:=g.ok s G;refine⟨b_,s,S,C,kT C,?_⟩;rfl';refine⟨λm ρ=>∃t,ρ=[Z (.ob (Z T) (bR t)),Z (.v (bw t))]/\z t/\m=y t,⟨y s,s,S,G,S⟩,?_⟩;rintro m ρ ⟨t,rfl,p,rfl⟩;let⟨n,I⟩:=g.ok t p
 cases l:e9 (bw t)with
 |false=>
  refine⟨λh=>?_,λ_=>⟨ff,λ_=>⟨_,S,q t p (.inl l)⟩⟩⟩;have h':(e9 (bw t) != Ś)=ř:=h;rw[l]at h';cases h'
 |true=>
  have B:bw t=.non:=by
   cases e:bw t with
   |non=>rfl
   |_=>rw[e]at l;cases l
  refine⟨λ_=>?_,λh=>?_⟩
  ·refine⟨⟨_,_,S⟩,_,S,S,_,n,t,S,I,λb c r=>?_⟩;rfl'
   cases b with
   |true=>
    let⟨o,v⟩:=g.row t c p B r;let⟨n1,j⟩:=g.ok c o;show⟨λ_=>⟨λ_=>⟨n1,c,S,j,kT j,_,v,c,S,o,S⟩,tf⟩,tf⟩
   |false=>
    cases GG r;refine⟨ff,λ_=>⟨⟨_,_,S⟩,_,S,S,_,n,t,S,I,λb c x=>?_⟩⟩;rfl'
    cases b with
    |true=>
     let⟨o,v⟩:=g.unk t c p B r x;let⟨n1,j⟩:=g.ok c o;show⟨λ_=>⟨n1,c,S,j,kT j,_,v,c,S,o,S⟩,tf⟩
    |false=>
     cases Hn x;show⟨ff,λ_=>⟨_,S,q t p (.inr ⟨r,x⟩)⟩⟩
  ·have h':(e9 (bw t) != Ś)=Ś:=h;rw[l]at h';cases h'
noncomputable def pq(s:Led)(n:Nat)(k a sl kp:D)(ex:Int):Y (Str×Fl):=[("ledger",.v (iw s)),("breadth",.v (.int (n:Nat))),("kind",.v k),("paper",.v a),("slim",.v sl),("kept",.v kp),("extra",.v (.int ex))]
noncomputable def tW:eh:=λas R _=>∃(a:Ř Addr)(bs:Y Bd)(rs:Y aq)(gs:Y Int)(P:Led->Prop)(c:Led->Nat),as=[.ob a (.obj "Struck" []),.v (bK bs rs gs)]/\bs.length<=8/\rs.length<=30/\P (di bs rs gs)/\Way P c /\
 (∀t,P t->RowSt t Ś t->UnkSt t Ś t->bw t=.non->R (.v .non) [.obj "Struck" (pq t bs.length (.str "slim") .non (kD t) (.tup (t.st.map aZ)) t.ex)]) /\
 (∀t,P t->e9 (bw t)=Ś->R (.v .non) [.obj "Struck" (pq (fN t (bw t) 1) bs.length (.str "none") (.tup ((fN t (bw t) 1).ln++[.tup [.str "shut",fL t]])) .non (.tup []) 0)])
def Ic(xs:Y Int):NoL (.tup (xs.map D.int)):=.tup λd hd=>by let⟨x,_,rfl⟩:=JL.mp hd;show .int x
def AA(b:Bd):NoL (aU b):=.tup (bv (.int _) (bv (by cases b.2<;>constructor) c9))
def Ef(bs:Y Bd)(rs:Y aq)(gs:Y Int):NoL (bK bs rs gs):=.tup (bv (.tup λd hd=>by
 let⟨b,_,rfl⟩:=JL.mp hd
 show AA b) (bv (.tup (pY rs)) (bv (Ic gs) c9)))
def zK(st:Y Nat):NoL (.tup (st.map aZ)):=.tup λd hd=>by let⟨x,_,rfl⟩:=JL.mp hd;show .int _
def AZ(F:Fun K "__init__" "Struck.__init__" oy f J){M:Addr}(c:TxtStruck K mg M){r:Addr}(g:TxtLedger K mg r)(b_:ClM P w K mg base (n+1) "strike" ["ledger"] y_strike)(L:Cl P w K mg base (n+1) "slim_plan" ["ledger"] z_slim_plan)(O:MkM P w K mg base n r ["self","plan"] y_Ledger____init__)(N:MthM P w K mg base (n+1) r "put_line" ["self","shares","divisor"] y_Ledger__put_line)(X:mg "len"=ŗ)(B:mg "tuple"=ŗ):FnOk P w K mg base aG (n+2) f J ["self","plan"] (lSpM K tW):=by
 refine F.okM qae (λas R U h=>?_) (λNZ A outer s H E as R U qs N4 o h Q=>?_)
 ·let⟨a,bs,rs,gs,z,I,rfl,_⟩:=h;rfl
 let⟨a,bs,rs,gs,z,I,rfl,hb,hl,a_,C,q1,q2⟩:=h;let⟨pa,rfl⟩:=eo Q
 refine⟨_,(ao (aJ (i:=2) qae.nd S Wv (mZ O o S g.mgC g.ns (aB (af (dv 1)) ba aa) aa ae))
   (ao (aJ (i:=3) qae.nd S Wv (bE b_ o S (bM 2 ba aa) aa ae))
   (ao (Bo 0 2 c.cl c.n_ledger c.ns)
   (ao (eZ 0 c.cl c.n_breadth c.ns (af (bC cI S X J4 (aI (PD.q (ax (ac 1))) aS aA) aA ae)))
   (cq (bT (bO (aR gB (ac 3) (PD.q bq) (ay _))) (ao (eZ 0 c.cl c.n_kind c.ns (af iM))
   (ao (eZ 0 c.cl c.n_paper c.ns (af bq))
   (ao (eZ 0 c.cl c.n_slim c.ns (cB (bc L o S (ad (dv 2) ag aa) aa ae)))
   (ao (eZ 0 c.cl c.n_kept c.ns (cB (cf cG S B JE (aI (PD.q (aK g.cl g.n_staying g.ns (ac 2))) aS aQ) aQ ae)))
   (aM (eZ 0 c.cl c.n_extra c.ns (cB (aK g.cl g.n_extra g.ns (ac 2))))))))) (ao (aJ (i:=4) qae.nd S Wv (eR 2 N o g.cl g.ns (aB (af (dv 3)) (aB (af ah) ba aD) aa) aa (ar aD ae)))
   (ao (eZ 0 c.cl c.n_kind c.ns (af iM))
   (ao (eZ 0 c.cl c.n_paper c.ns (cB (aP bH (PD.q (cf cG S B JE (aI (PD.q (aK g.cl g.n_lines g.ns (ac 2))) aS aQ) aQ ae)) (PD.q (bt (ad (bt (ad iM (ad (dv 4) ag aa) aD)) ag bI))))))
   (ao (eZ 0 c.cl c.n_slim c.ns (af bq))
   (ao (eZ 0 c.cl c.n_kept c.ns (af (bt ag)))
   (aM (eZ 0 c.cl c.n_extra c.ns (af ah)))))))))
   (yB 0 2 "ledger" ce)))))),?_⟩
 intro ke;refine⟨_,bs,rs,gs,S,hb,hl,?_⟩;refine⟨⟨_,_,S⟩,_,S,S,_,di bs rs gs,z,I,S,a_,C,λt x hc=>?_⟩;rfl';let⟨n0,j⟩:=C.ok t x;have h8:=j.n8;have OE:=vI j;refine⟨_,_,_,_,S,S,S,'b',λp _=>⟨_,S,?_⟩⟩;rfl';refine⟨_,S,_,_,S,S,(by change 1<1000;decide),[("ledger",.al p),("breadth",.v (.int (bs.length:Nat)))],by rw[Jp];rfl,?_⟩;rfl';refine⟨λρ=>∃(t':Led)(k y sl kp:D)(ex:Int)(G:Ř Sm),ρ=[Z (.ob (Z pa) (.obj "Struck" [("ledger",.al p),("breadth",.v (.int (bs.length:Nat))),("kind",.v k),("paper",.v y),("slim",.v sl),("kept",.v kp),("extra",.v (.int ex))])),Z (.v (bK bs rs gs)),Z (.ob (Z p) (bR t')),Z (.v (bw t)),G]/\R (.v .non) [.obj "Struck" (pq t' bs.length k y sl kp ex)],⟨λh=>?_,λh=>?_⟩,?_⟩
 ·have l:e9 (bw t)=ř:=by
   have h':(e9 (bw t) != Ś)=ř:=h
   cases e:e9 (bw t)with
   |true=>rfl
   |false=>rw[e]at h';cases h'
  have T:bw t=.non:=by
   cases e:bw t with
   |non=>rfl
   |_=>rw[e]at l;cases l
  let⟨u,be⟩:=hc.resolve_left (by rw[l];decide);refine⟨_,_,S,S,(by change 2<1000;decide),_,S,?_⟩;refine⟨_,_,S,S,(by change 3<1000;decide),_,S,?_⟩;refine⟨n0,t,S,j,Ef _ _ _,_,_,S,S,(by change 4<1000;decide),_,S,?_⟩;refine⟨S,_,S,zK _,_,_,S,S,(by change 5<1000;decide),_,S,?_⟩;refine⟨S,_,S,.int _,_,_,S,S,(by change 6<1000;decide),_,S,?_⟩;show⟨t,_,_,_,_,_,_,S,q1 t x u be T⟩
 ·have l:e9 (bw t)=Ś:=by
   have h':(e9 (bw t) != Ś)=Ś:=h
   cases e:e9 (bw t)with
   |false=>rfl
   |true=>rw[e]at h';cases h'
  refine⟨⟨_,_,S,S⟩,_,S,S,_,t,bw t,1,S,kT j,by have:=j.ln;omega,?_⟩;rfl';refine⟨_,_,S,S,(by change 2<1000;decide),_,S,?_⟩
  have VM:(fN t (bw t) 1).ln.length<800:=by
   change (t.ln++[_]).length<800;rw[Jr,J2];have:=j.ln;omega
  have v:∀d∈(fN t (bw t) 1).ln,NoL d:=λd hd=>by
   rcases JT.mp (show d∈t.ln++[eO (bw t) 1]from hd)with hd|hd
   ·show j.n4 d hd
   ·rw[JB.mp hd];show ny (kT j)
  refine⟨S,_,S,small (by change (fN t (bw t) 1).ln.length+1<=1000;omega),_,S,.tup (λd hd=>?_),_,_,S,S,(by change 3<1000;decide),_,S,?_⟩
  ·rcases JT.mp hd with hd|hd
   ·show v d hd
   ·rw[JB.mp hd];show .tup (bv (.str _) (bv (.int _) c9))
  refine⟨_,_,S,S,(by change 4<1000;decide),_,S,?_⟩;refine⟨_,_,S,S,(by change 5<1000;decide),_,S,?_⟩;refine⟨_,_,S,S,(by change 6<1000;decide),_,S,?_⟩;show⟨fN t (bw t) 1,_,_,_,_,_,_,S,q2 t x l⟩
 rintro ρ ⟨t',k,y,sl,kp,ex,G,rfl,u⟩;show⟨_,p,_,_,_,_,_,S,S,S,S,_,S,u⟩
noncomputable def Pl(n:Nat)(o:Om):Prop:=∃(r a c:Int),o=.lst [.int r,.int a,.int c]/\0<=c/\c<=n
def Pl.mono{n m:Nat}{o:Om}(h:Pl n o)(j:n<=m):Pl m o:=by let⟨r,st,c,e,a,g⟩:=h;show⟨r,st,c,e,a,()⟩
def cA{z:Int}(h:z<2^64):z<2^9000:=by
 have a:(2:Nat)^64<=2^9000:=Kp 'b' ()
 have c:(2:Int)^64<=2^9000:=by exact_mod_cast a
 omega
inductive y__law_pool(as:List Sm)(R:Sm->List Om->Prop)(Rx:XD->List Om->Prop):Prop|mk (ns:List Int) (_:as=[.v (.fzl (ns.map D.int))]) (_:ns.length<=63) (_:∀o,Pl 0 o->R (.ob ŗ o) [])
def IL(F:Fun K Xi Xi oJ f J)(p:mg "len"=ŗ):FnOk P w K mg base aG (n+1) f J [WM] (lSpM K y__law_pool):=by
 refine F.okM qao (λas R o h=>?_) (λz A outer s H E as R o L u C h l=>?_)
 ·let⟨ns,rfl,_⟩:=h;rfl
 let⟨ns,rfl,B,q⟩:=h;obtain rfl:=ip l
 refine⟨_,(ao (aJ (i:=1) qao.nd S Wv (af ah))
   (ao (eJ JO S (eT (b7 (pE (ac 0) qD (sq (PD.q ah))))) (bZ (i:=2) qao.nd S Wv) (aM (aJ (i:=1) qao.nd S Wv (af (aP iQ (PD.q (aP bH (PD.q (aP bH (PD.q (aP cQ (ac 1) (PD.q ah))) (PD.q (aP iQ (ac 2) (PD.q ah))))) (PD.q ah))) (PD.q ah))))))
   (ao (aJ (i:=3) qao.nd S Wv (af ah))
   (cq (bT (bO (PWD.td (fq (aR fi (PD.q (bC cI S p J4 (aI (ac 0) aS aa) aa ae)) (PD.q ah) (ay _)) (gZ (aR na (PD.q (ax (ac 0))) (PD.q (aP sw (PD.q ah) (PD.q ah))) (ay _)))))) (aM (aJ (i:=3) qao.nd S Wv (af (ax (ac 0))))) ce)
   (aM (bX (dk (da (ad (dv 3) (ad (dv 1) (ad ah ag aD) aa) aa))))))))),?_⟩
 intro I;have e:∀r g:Int,Pl 0 (.lst [.int r,.int g,.int 0]):=λr g=>⟨r,g,0,S,(),()⟩;refine⟨(cP ns ŗ (Z 63)).map D.int,qO D.int ns ŗ (Z 63),?_⟩;refine⟨λi ρ=>∃(v:Int)(a:Ř Sm),ρ=[Z (.v (.fzl (ns.map D.int))),Z (.v (.int v)),a,ŗ],⟨_,_,S⟩,?_,?_⟩
 ·rintro i d ρ hd ⟨v,a,rfl⟩;let⟨x,rfl,G⟩:=bN hd;show⟨mj 'b' 'b',(by decide:(0:Int)<1000000007),(by decide:(0:Int)<2147483647),_,Z (.v (.int x)),S⟩
 rintro ρ ⟨v,a,rfl⟩;refine⟨λρ=>∃r:Int,ρ=[Z (.v (.fzl (ns.map D.int))),Z (.v (.int v)),a,Z (.v (.int r))],⟨λh=>?_,λh=>?_⟩,?_⟩
 ·have h:=dP h;let⟨y,j⟩:=Im (ns:=ns) (k:=0) 'b' (by rw[Jp]at h;show h);show⟨_,j,⟨'b','b','b'⟩,λ_=>⟨_,j,_,S⟩,λ_=>⟨_,S⟩⟩
 ·show⟨λc=>(by cases c),λ_=>⟨_,S⟩⟩
 rintro ρ ⟨r,rfl⟩;show q _ (e r v)
inductive y__law_draw(as:List Sm)(R:Sm->List Om->Prop)(Rx:XD->List Om->Prop):Prop|mk (a:Option Addr) (o:Om) (z:Int) (n:Nat) (_:as=[.ob a o,.v (.int z)]) (_:Pl n o) (_:n<2^20) (_:0<z) (_:z<2^9000) (_:∀(x:Int)(o':Om),0<=x->x<z->Pl (n+1) o'->R (.v (.int x)) [o'])
def G7(F:Fun K WW WW nt f J) :FnOk P w K mg base aG (n+1) f J [Ww,WG] (lSpM K y__law_draw):=by
 refine F.okM qai (λas R l h=>?_) (λG A outer s H E as R l N C L h g=>?_)
 ·let⟨a,o,z,n,rfl,_⟩:=h;rfl
 let⟨a,o,z,n,rfl,x,I,e,y,q⟩:=h;let⟨B,rfl⟩:=eo g
 refine⟨_,(cq (bT (bO (aR fi (PD.q (ax (ac 0))) (PD.q ah) (ay _))) (ao (aJ (i:=2) qai.nd S Wv (af (aP iQ (PD.q (ax (ac 0))) (ac 1))))
   (ao (j8 0 (af (aP qC (PD.q (ax (ac 0))) (ac 1))) (af ah))
   (aM (bX (af (dv 2)))))) ce)
   (ao (Fo 0 yO (af ah) (af ah))
   (ao (aJ (i:=3) qai.nd S Wv (af (ax (ac 0))))
   (ao (aJ (i:=4) qai.nd S Wv (af (aP cQ (PD.q (aP bH (PD.q (aP bH (PD.q (aP bH (PD.q (ax (ac 0))) (PD.q (aP cQ (PD.q (aP cQ (PD.q ah) (ac 3))) (ac 3))))) (PD.q (aP cQ (PD.q ah) (ac 3))))) (PD.q ah))) (PD.q ah))))
   (aM (bX (af (aP iQ (PD.q (aP iQ (PD.q (aP cQ (PD.q (aP iQ (ac 4) (PD.q ah))) (PD.q ah))) (PD.q ah))) (ac 1))))))))),?_⟩
 intro M;let⟨r,st,c,rfl,j,v⟩:=x;refine⟨λρ=>ρ=[Z (.ob (Z B) (.lst [.int r,.int st,.int c])),Z (.v (.int z)),ŗ,ŗ,ŗ],⟨_,S,λh=>?_,λ_=>rfl⟩,?_⟩
 ·show⟨_,S,e,_,S,CDivB.of e y,_,S,_,S,_,S,q _ _ (Nx _ ()) (M3 _ e) ⟨_,st,c,S,j,()⟩⟩
 rintro ρ rfl;refine⟨trivial,2,c,S,S,(by change 2<3;decide),_,S,_,S,?_⟩
 have p:-(2^64)<c+1:=by omega
 have u:c+1<2^64:=by omega
 refine⟨_,S,gE 'b' 'b',mj p u,gE 'b' 'b',mj 'b' 'b',(by decide:(0:Int)<2147483647),mj 'b' 'b',(by decide:(0:Int)<1000000007),e,?_⟩;show⟨_,S,q _ _ (Nx _ ()) (M3 _ e) ⟨r,st,c+1,S,(),()⟩⟩
noncomputable def BdS(n:Nat)(bs:Y Bd):Prop:=bs.length=n/\∀b∈bs,b.1.natAbs<=5/\∀m,b.2=Z m->m.natAbs<=8
noncomputable def i5(bs:Y Bd):Prop:=∀b∈bs,∃m,b.2=Z m/\m<=b.1+3
inductive y__law_bounds(as:List Sm)(R:Sm->List Om->Prop)(Rx:XD->List Om->Prop):Prop|mk (a:Option Addr) (o:Om) (n m:Nat) (op:Int) (_:as=[.ob a o,.v (.int (n:Nat)),.v (.int op)]) (_:Pl m o) (_:m+100<2^20) (_:n<=8) (_:0<=op) (_:op<=4) (_:∀(bs:List Bd)(gs:List Int)(hs:List Bool)(o':Om)(q1 q2 q3:Addr),BdS n bs->(op<=0->i5 bs)->gs.length=n->(∀g∈gs,g.natAbs<=2)->hs.length=n->Pl (m+100) o'->R (.ob ŗ (.tl [(q1,Z (bs.map aU)),(q2,Z (gs.map D.int)),(q3,Z (hs.map D.bl))])) [o'])
def fw{c:Type}{P:c->Prop}{xs:Y c}{x:c}(h:∀y∈xs,P y)(e:P x):∀y∈xs++[x],P y:=λy a=>by
 rcases JT.mp a with a|a
 ·show h y a
 ·rwa[JB.mp a]
def BdS.snoc{n:Nat}{bs:Y Bd}{b:Bd}(h:BdS n bs)(a:b.1.natAbs<=5)(c:∀m,b.2=Z m->m.natAbs<=8):BdS (n+1) (bs++[b]):=⟨by rw[Jr,h.1];rfl,fw h.2 ⟨a,c⟩⟩
def rN{xs:Y Int}{i:Nat}{v:Int}{P:Int->Prop}(h:∀x∈xs,P x)(c:P v):∀x∈xs.set i v,P x:=λx a=>by
 rcases Ma a with a|rfl
 ·show h x a
 ·show c
noncomputable abbrev BS(g:Addr)(k:Nat)(e rt:Int)(o:Om)(bs:Y Bd)(gs:Y Int)(c:Y Bool)(h j l a:Ř Sm):ak:=[Z (.ob (Z g) o),Z (.v (.int (k:Nat))),Z (.v (.int e)),Z (.v (.int rt)),Z (.own (bs.map aU)),Z (.own (gs.map D.int)),Z (.own (c.map D.bl)),h,j,l,a]
def Ad(F:Fun K Xd Xd nT f J)(v:ClM P w K mg base n WW [Ww,WG] y__law_draw)(bW:mg "range"=ŗ)(eV:mg "int"=ŗ)(iC:mg "max"=ŗ):FnOk P w K mg base aG (n+1) f J [Ww,WE,WS] (lSpM K y__law_bounds):=by
 refine F.okM qah (λas R Rx h=>?_) (λNZ A outer s H E as R Rx qs N4 r h Of=>?_)
 ·let⟨a,o,k,m,p,rfl,_⟩:=h;rfl
 let⟨a,o,k,m,p,rfl,hp,hm,hk,h0,h4,q⟩:=h;let⟨O,rfl⟩:=eo Of
 refine⟨_,(ao (aJ (i:=3) qah.nd S Wv (dw cQ (bE v r S (bM 0 (aB (af ah) ba aD) aa) aa (ar aD ae)) (af (cf lx S eV Lg (aI (PD.q (dU fi (ac 2) (PD.q ah) (ay _))) aS gI) gI ae))))
   (ao (aJ (i:=4) qah.nd S Wv (dk (da ag)))
   (ao (aJ (i:=5) qah.nd S Wv (dk (da ag)))
   (ao (aJ (i:=6) qah.nd S Wv (dk (da ag)))
   (ao (eJ JO S (eT (iP S bW (ad (dv 1) ag aa))) (bZ (i:=7) qah.nd S Wv) (ao (aJ (i:=8) qah.nd S Wv (dw db (bE v r S (bM 0 (aB (af ah) ba aD) aa) aa (ar aD ae)) (af ah)))
   (ao (aJ (i:=9) qah.nd S Wv (bE v r S (bM 0 (aB (af ah) ba aD) aa) aa (ar aD ae)))
   (cq (fU 6 (Bh (af (dU fi (ac 3) (PD.q ah) (ay _))) (BL (zh (df r.units) (bE v r S (bM 0 (aB (af (aP cQ (PD.q ah) (PD.q (bC (sM S) S iC ME (aI (PD.q ah) (aI (ac 3) aS aa) aD) aD (ar aa ae))))) ba bP) aa) aa (ar bP ae)) (af ah) (ay _)))) (dl wB) wB)
   (ao (aJ (i:=10) qah.nd S Wv (af (aP bH (ac 8) (PD.q (aP iQ (ac 9) (PD.q ah))))))
   (ao (fU 5 (dw db (bE v r S (bM 0 (aB (af ah) ba aD) aa) aa (ar aD ae)) (af ah)) (dl bP) bP)
   (cq (bT (bO (cu (PD.q (bu (ac 6) (ac 7) (λ_ _=>rfl))) (λ_=>rfl))) (ao (j8 5 (af ah) (af (dv 7)))
   (aM (aJ (i:=9) qah.nd S Wv (af ah)))) ce)
   (cq (bT (bO (aR ik (ac 9) (PD.q (aP cQ (PD.q ah) (ac 2))) (ay _))) (aM (aJ (i:=10) qah.nd S Wv (af bq))) (aM (bT (bO (aR (df r.units) (ac 9) (PD.q ah) (ay _))) (aM (aJ (i:=10) qah.nd S Wv (af (aP db (ac 8) (PD.q ah))))) ce)))
   (aM (fU 4 (af (bt (ad (dv 8) (ad (dv 10) ag aa) aa))) (dl bI) bI))))))))))
   (aM (bX (CG (aB (jR 4) (aB (jR 5) (aB (jR 6) ba aa) aa) aa))))))))),?_⟩
 intro ke;refine⟨⟨_,_,S⟩,_,S,S,_,_,3,m,S,hp,(),'b',cA 'b',λx o1 hx0 Rq OZ=>?_⟩;rfl';obtain⟨rt,be,r0,r2⟩:∃rt:Int,x*(if decide (0<p) then 1 else 0)=rt/\0<=rt/\rt<=2:=⟨_,S,by split<;>omega,by split<;>omega⟩;refine⟨gE () (),?_⟩;simp only[be];refine⟨⟨(),()⟩,λi ρ=>∃bs gs e o' u7 u8 u9 L,ρ=BS O k p rt o' bs gs e u7 u8 u9 L/\(BdS i bs/\(p<=0->i5 bs))/\gs.length=i/\(∀g∈gs,g.natAbs<=2)/\e.length=i/\Pl (m+1+5*i) o',⟨[],[],[],o1,_,_,_,_,S,⟨⟨S,λb j=>by cases j⟩,λ_ b j=>by cases j⟩,S,λg u=>(by cases u),S,OZ⟩,?_,?_⟩
 ·rintro i d ρ hd ⟨bs,gs,e,o2,u7,u8,u9,L,rfl,⟨C,T⟩,z,u,B,M⟩;let⟨hi,rfl⟩:=hX hd
  have Pq:i<k:=by omega
  refine⟨⟨_,_,S⟩,_,S,S,_,_,5,_,S,M,(),'b',cA 'b',λl o3 a0 a1 PR=>?_⟩;rfl';refine⟨⟨_,_,S⟩,_,S,S,_,_,32,_,S,PR,(),'b',cA 'b',λQ o4 b0 b1 O3=>?_⟩;rfl'
  have hz:(e.map D.bl).length<sizeLine:=by rw[Jp];show bi ()
  refine⟨λρ=>∃(j:Bool)(I:Om),ρ=BS O k p rt I bs gs (e++[j]) (Z (.v (.int (0+(i:Nat))))) (Z (.v (.int (l-2)))) (Z (.v (.int Q))) L/\Pl (m+1+5*i+3) I,⟨λc=>?_,λc=>⟨hz,_,gF D.bl e Ś,Ś,o4,S,O3.mono ()⟩⟩,?_⟩
  ·refine⟨⟨_,_,S⟩,gE 'b' 'b',_,S,S,_,_,_,_,S,O3,(),?_,cA ?_,λx3 I c0 c1 b_=>?_⟩
   ·change (0:Int)<2*(if rt>1 then rt else 1);split<;>omega
   ·change 2*(if rt>1 then rt else 1)<2^64;split<;>omega
   rfl';show⟨hz,_,gF D.bl e _,_,I,S,b_.mono ()⟩
  rintro ρ ⟨j,I,rfl,b_⟩
  have a_:(gs.map D.int).length<sizeLine:=by rw[Jp];show bi ()
  refine⟨(by decide:(0:Int)<4),?_⟩;refine⟨⟨_,_,S⟩,_,S,S,_,_,5,_,S,b_,(),'b',cA 'b',λx4 o6 d0 d1 Rb=>?_⟩;rfl';refine⟨a_,_,gF D.int gs _,?_⟩;rfl';have PL:cr ((e++[j]).map D.bl) (0+(i:Int))=Z (.bl j):=cD (i:=i) (by rw[Jq (),B,J6];rfl) (Kn _)
  have U:(bs.map aU).length<sizeLine:=by rw[Jp,C.1];show bi ()
  refine⟨λρ=>∃(y:Y Int)(N:Int),ρ=BS O k p rt o6 bs y (e++[j]) (Z (.v (.int (0+(i:Nat))))) (Z (.v (.int (l-2)))) (Z (.v (.int N))) (Z (.v (.int (l-2+Q % 4))))/\0<=N/\y.length=i+1/\(∀g∈y,g.natAbs<=2),⟨_,PL,λc=>?_,λc=>⟨gs++[x4-2],Q,S,b0,by rw[Jr,z];rfl,fw u ()⟩⟩,?_⟩
  ·refine⟨i,by rw[Kn];show eS (by rw[Jp,Jr];change i<gs.length+1;omega),_,(Lk ..).symm,?_⟩;show⟨_,0,S,'b',by rw[Ju,Jr,z];rfl,rN (fw u ()) 'b'⟩
  rintro ρ ⟨y,N,rfl,hpk,VO,X⟩;refine⟨λρ=>∃G:Ř Int,ρ=BS O k p rt o6 bs y (e++[j]) (Z (.v (.int (0+(i:Nat))))) (Z (.v (.int (l-2)))) (Z (.v (.int N))) (Z (.v (oI G)))/\(∀mm,G=Z mm->mm.natAbs<=8)/\(p<=0->∃m,G=Z m/\m<=l-2+3),⟨gE 'b' 'b',λc=>⟨ŗ,S,λmm h=>(by cases h),λh0'=>by have:=dP c;omega⟩,λc=>⟨λc2=>⟨Z (l-2-1),S,λmm h=>(by cases h;omega),λ_=>⟨_,S,()⟩⟩,λc2=>⟨Z (l-2+Q % 4),S,λmm h=>(by cases h;omega),λ_=>⟨_,S,()⟩⟩⟩⟩,?_⟩;rintro ρ ⟨G,rfl,VP,UE⟩;show⟨U,_,gF aU bs (l-2,G),_,_,_,o6,_,_,_,_,S,⟨C.snoc (by change (l-2).natAbs<=5;omega) VP,λh=>fw (T h) (UE h)⟩,VO,X,by rw[Jr,B];rfl,Rb.mono ()⟩
 ·rintro ρ ⟨bs,gs,e,o2,u7,u8,u9,L,rfl,⟨C,T⟩,z,u,B,M⟩;rw[gb,KC]at C z B M;show⟨_,_,_,S,λq1 q2 q3=>⟨_,S,q bs gs e o2 q1 q2 q3 C T z u B (M.mono ())⟩⟩
def nQ:D->D
 |.lst l=>.tup l
 |d=>d
def vf{d:D}{l:Y D}(h:nQ d=.tup l):d=.tup l\/d=.lst l:=by
 cases d with
 |tup m=>show .inl h
 |lst m=>refine .inr ?_;cases h;rfl
 |_=>cases h
inductive z__law_times(ds:List D)(R:D->Prop):Prop|mk (xs ys:List Int) (_:ds.map nQ=[.tup (xs.map D.int),.tup (ys.map D.int)]) (_:xs.length<=1000) (_:(∀x∈xs,bB x)) (_:(∀y∈ys,bB y)) (_:R (.int (av xs ys)))
def An(F:Fun K WU WU kC f J)(z:mg "sum"=ŗ)(p:mg "zip"=ŗ):FnOk P w K mg base aG (n+1) f J [WC,Wx] (lSp K z__law_times):=by
 refine F.okD EU (λds R h=>?_) (λB A outer s H E ds R C h=>?_)
 ·let⟨xs,ys,e,_⟩:=h;have:=Kf List.length e;rw[Jp]at this;show this
 let⟨xs,ys,e,r,u,v,q⟩:=h
 obtain⟨a,c,rfl⟩:∃a c,ds=[a,c]:=by
  have:=Kf List.length e;rw[Jp]at this
  match ds,this with
  | [a,c],_=>show⟨a,c,S⟩
 have l:nQ a=.tup (xs.map D.int):=(Mx e).1;have o:nQ c=.tup (ys.map D.int):=(Mx (Mx e).2).1;refine⟨_,(aL (bh (bC (xA S) S z ND (aI (PD.q (PF.d (cZ (k:=2) (N':=[WO,WI]) (cap:=[ŗ,ŗ]) S (.ok (show bV [WC,Wx] (au kC) _ [WO,WI] [ŗ,ŗ]=ř by lia)) 'a' (hJ (n:=2) (dD (bz 'b') (dD (bz 'b') hV))) (jI S p (ad (dv 0) (ad (dv 1) ag aa) aa)) (λ_ _ _ _ _=>(dM (n:=2) S (bL (bf (i:=0) (show List.Nodup ([WO,WI]:Y Str)by lia) S Wv) (bL (bf (i:=1) (show List.Nodup ([WO,WI]:Y Str)by lia) S Wv) dH)))) (λ_ _ _ _ _=>(aP cQ (ac 0) (ac 1)))))) aS bx) bx ae))),?_⟩;rcases vf l with rfl|rfl<;>rcases vf o with rfl|rfl
 all_goals
  refine⟨_,_,S,S,?_⟩;refine rD (λx y=>D.int (x*y)) (bi r) (λx g y j=>⟨S,iZ (u x g) (v y j),S⟩) ?_;show⟨List.zipWith (λx y=>x*y) xs ys,by rw[Nl];rfl,q⟩
noncomputable def jV(n:Nat)(rs:Y aq):Prop:=∀r∈rs,r.1.length=n/\(∀x∈r.1,x.natAbs<=3)/\r.2.natAbs<=400
inductive y__law_rows(as:List Sm)(R:Sm->List Om->Prop)(Rx:XD->List Om->Prop):Prop|mk (a:Option Addr) (o:Om) (n m:Nat) (mn:Int) (sp:List Int) (hs:List Bool) (_:as=[.ob a o,.v (.int mn),.v (.lst (sp.map D.int)),.v (.lst (hs.map D.bl))]) (_:Pl m o) (_:m+200<2^20) (_:n<=8) (_:0<=mn) (_:mn<=12) (_:sp.length=n) (_:hs.length=n) (_:(∀x∈sp,x.natAbs<=10)) (_:∀(rs:List aq)(o':Om),jV n rs->(rs.length:Int)<=mn->Pl (m+200) o'->R (.own (rs.map aw)) [o'])
noncomputable abbrev RS(g:Addr)(e:Int)(sp:Y Int)(c:Y Bool)(o:Om)(rs:Y aq)(h j l p r a:Ř Sm):ak:=[Z (.ob (Z g) o),Z (.v (.int e)),Z (.v (.lst (sp.map D.int))),Z (.v (.lst (c.map D.bl))),Z (.own (rs.map aw)),h,j,l,p,r,a]
noncomputable def nums12:Y Int:=[0,0,0,0,0,0,-3,-2,-1,1,2,3]
def DG{x:Int}(c:0<=x)(e:x<12):∃v:Int,cr (nums12.map D.int) x=Z (.int v)/\v.natAbs<=3:=by
 let⟨k,rfl⟩:=KG c
 have a:k<12:=by omega
 refine⟨nums12.getD k 0,cD (i:=k) (bU (show k<nums12.length from a)) S,?_⟩
 have:∀j<12,(nums12.getD j 0).natAbs<=3:=by decide
 show this k a
def yg(F:Fun K Xj Xj mR f J)(u:ClM P w K mg base n WW [Ww,WG] y__law_draw)(ig:Cl P w K mg base n WU [WC,Wx] z__law_times)(bW:mg "range"=ŗ)(dY:mg "list"=ŗ)(ie:mg "abs"=ŗ)(bj:mg "len"=ŗ)(aX:mg "tuple"=ŗ):FnOk P w K mg base aG (n+1) f J [Ww,WG,Wx,W2] (lSpM K y__law_rows):=by
 refine F.okM qap (λas R Rx h=>?_) (λNZ A outer s H E as R Rx qs N4 e h Of=>?_)
 ·let⟨a,o,k,m,I,sp,G,rfl,_⟩:=h;rfl
 let⟨a,o,k,m,I,sp,G,rfl,hp,hm,hk,h0,h12,Pn,RQ,hsz,q⟩:=h;let⟨Q,rfl⟩:=eo Of
 refine⟨_,(ao (aJ (i:=4) qap.nd S Wv (dk (da ag)))
   (ao (eJ JO S (sW S bW (aB (bE u e S (bM 0 (aB (af (aP bH (ac 1) (PD.q ah))) ba bP) aa) aa (ar bP ae)) ba bg)) (bZ (i:=5) qap.nd S Wv) (ao (aJ (i:=6) qap.nd S Wv (dk (da ag)))
   (ao (eJ JO S (eT (b7 (dv 3))) (bZ (i:=7) qap.nd S Wv) (ao (aJ (i:=8) qap.nd S Wv (mB (af (bt (ad ah (ad ah (ad ah (ad ah (ad ah (ad ah (ad (ef (PD.q ah)) (ad (ef (PD.q ah)) (ad (ef (PD.q ah)) (ad ah (ad ah (ad ah ag aD) aD) aD) iy) iy) iy) aD) aD) aD) aD) aD) aD))) (bE u e S (bM 0 (aB (af ah) ba aD) aa) aa (ar aD ae)) (λ_ _=>rfl)))
   (cq (bT (bO (cu (ac 7) (λ_=>rfl))) (aM (aJ (i:=8) qap.nd S Wv (af (bC mh S ie L0 (aI (ac 8) aS aa) aa ae)))) ce)
   (aM (fU 6 (af (dv 8)) (dl aa) aa)))))
   (ao (aJ (i:=9) qap.nd S Wv (bE u e S (bM 0 (aB (af ah) ba aD) aa) aa (ar aD ae)))
   (cq (bT (bO (PWD.td (fq (aR (df e.units) (ac 9) (PD.q ah) (ay _)) (gZ (aR fi (PD.q (bC cI S bj J4 (aI (ac 4) aS aa) aa ae)) (PD.q ah) (ay _)))))) (aM (aJ (i:=6) qap.nd S Wv (EI S dY (mB (BY 4 S (bE u e S (bM 0 (aB (af (bC cI S bj J4 (aI (ac 4) aS aa) aa ae)) ba bg) aa) aa (ar bg ae)) (λ_ _=>rfl)) (af ah) (λ_ _=>rfl)) aA))) ce)
   (ao (aJ (i:=10) qap.nd S Wv (dw db (af (qt ig e S (aI (ac 6) (aI (ac 2) aS aa) aa) aa (ar aa ae))) (bE u e S (bM 0 (aB (af ah) ba aD) aa) aa (ar aD ae))))
   (cq (bT (bO (aR (df e.units) (ac 9) (PD.q ah) (ay _))) (aM (aJ (i:=10) qap.nd S Wv (dw db (bE u e S (bM 0 (aB (af ah) ba aD) aa) aa (ar aD ae)) (af ah)))) ce)
   (aM (fU 4 (af (bt (ad (cf cG S aX JE (aI (ac 6) aS aa) aa ae) (ad (dv 10) ag aa) bg))) (dl bI) bI)))))))))
   (aM (bX (jR 4))))),?_⟩
 intro ke;refine⟨⟨_,_,S⟩,_,S,S,_,_,_,_,S,hp,(),(),cA (),λc o1 c0 c1 OZ=>?_⟩;rfl';refine⟨⟨(),()⟩,λi ρ=>∃rs o' u5 u6 g l b_ B,ρ=RS Q I sp G o' rs u5 u6 g l b_ B/\jV k rs/\rs.length=i/\Pl (m+1+14*i) o',⟨[],o1,_,_,_,_,_,_,S,λr e=>(by cases e),S,OZ⟩,?_,?_⟩
 ·rintro i d ρ hd ⟨rs,o2,u5,u6,g,l,b_,B,rfl,X,a_,T⟩;let⟨hi,rfl⟩:=hX hd
  have Pq:i<12:=by omega
  refine⟨λj ρ=>∃es o' g l,ρ=RS Q I sp G o' rs (Z (.v (.int (0+(i:Nat))))) (Z (.own (es.map D.int))) g l b_ B/\es.length=j/\(∀x∈es,x.natAbs<=3)/\Pl (m+1+14*i+j) o',⟨[],o2,_,_,S,S,λx N=>(by cases N),T⟩,?_,?_⟩
  ·rintro j d ρ hd ⟨es,o3,g,l,rfl,M,p,U⟩;let⟨hb,rfl,hhb⟩:=bN hd;have hj:=aC hhb;refine⟨⟨_,_,S⟩,_,S,S,_,_,12,_,S,U,(),'b',cA 'b',λx O x0 x1 L=>?_⟩;rfl';let⟨v,hv,hv3⟩:=DG x0 x1;refine⟨_,hv,?_⟩;refine⟨λρ=>∃y:Int,ρ=RS Q I sp G O rs (Z (.v (.int (0+(i:Nat))))) (Z (.own (es.map D.int))) (Z (.v (.bl hb))) (Z (.v (.int y))) b_ B/\y.natAbs<=3,⟨λc=>⟨_,S,?_⟩,λc=>⟨v,S,hv3⟩⟩,?_⟩
   ·split<;>omega
   rintro ρ ⟨y,rfl,hy⟩;show⟨by rw[Jp];show bi (),_,gF D.int es y,_,O,_,_,S,by rw[Jr,M];rfl,fw p hy,L.mono ()⟩
  ·rintro ρ ⟨es,o3,g,l,rfl,M,p,U⟩;rw[Jp]at M U;refine⟨⟨_,_,S⟩,_,S,S,_,_,5,_,S,U,(),'b',cA 'b',λmr O x0 x1 L=>?_⟩;rfl';refine⟨λρ=>∃(es:Y Int)(o':Om),ρ=RS Q I sp G o' rs (Z (.v (.int (0+(i:Nat))))) (Z (.own (es.map D.int))) g l (Z (.v (.int mr))) B/\es.length=k/\(∀x∈es,x.natAbs<=3)/\Pl (m+1+14*i+10) o',⟨λc=>⟨λC=>?_,λC=>⟨es,O,S,(),p,L.mono ()⟩⟩,λc=>⟨λC=>ff C,λC=>⟨es,O,S,(),p,L.mono ()⟩⟩⟩,?_⟩
   ·have C:0<rs.length:=by have:=dP C;rw[Jp]at this;omega
    refine⟨⟨_,_,S⟩,⟨_,_,S⟩,_,S,S,_,_,_,_,S,L,(),by rw[Jp];omega,cA (by rw[Jp];omega),λy o5 y0 y1 be=>?_⟩;rfl';rw[Jp]at y1;let⟨z,rfl⟩:=KG y0
    have hz:z<rs.length:=by omega
    let⟨r1,r2,r3⟩:=X rs[z] (Lv hz);show⟨_,_,_,_,S,S,cD (i:=z) (bJ hz) S,_,S,_,S,rs[z].1,o5,S,r1,r2,be.mono ()⟩
   rintro ρ ⟨es,o5,rfl,M,p,be⟩;have QW:∀x∈es,bB x:=λx N=>fH (m:=10) (by have:=p x N;omega) 'b';have VQ:∀x∈sp,bB x:=λx N=>fH (m:=10) (by have:=hsz x N;omega) 'b';have Sq:=lu p hsz
   have hd9:(av es sp).natAbs<=300:=by have:es.length*(3*10)<=8*(3*10):=Ll _ ();omega
   refine⟨es,sp,S,(),QW,VQ,trivial,?_⟩;refine⟨⟨_,_,S⟩,_,S,S,_,_,4,_,S,be,(),'b',cA 'b',λy o6 y0 y1 Rb=>?_⟩;rfl';refine⟨λρ=>∃(b:Int)(o':Om),ρ=RS Q I sp G o' rs (Z (.v (.int (0+(i:Nat))))) (Z (.own (es.map D.int))) g l (Z (.v (.int mr))) (Z (.v (.int b)))/\b.natAbs<=400/\Pl (m+1+14*i+12) o',⟨λc=>?_,λc=>⟨_,o6,S,(),Rb.mono ()⟩⟩,?_⟩
   ·refine⟨⟨_,_,S⟩,_,S,S,_,_,13,_,S,Rb,(),'b',cA 'b',λz o7 z0 z1 SI=>?_⟩;rfl';show⟨_,o7,S,(),SI.mono ()⟩
   rintro ρ ⟨b,o7,rfl,hb,SI⟩;show⟨by rw[Jp];show bi (),_,gF aw rs (es,b),_,o7,_,_,_,_,_,_,S,fw X ⟨M,p,hb⟩,by rw[Jr,a_];rfl,SI.mono ()⟩
 ·rintro ρ ⟨rs,o2,u5,u6,g,l,b_,B,rfl,X,a_,T⟩;rw[gb]at a_ T;show⟨_,S,q rs o2 X () (T.mono ())⟩
structure PlS(n:Nat)(mn:Int)(bs:List Bd)(rs:List aq)(gs sp:List Int):Prop where
 b:BdS n bs
 r:jV n rs
 rl:(rs.length:Int)<=mn
 gl:gs.length=n
 g:∀g∈gs,g.natAbs<=2
 sl:sp.length=n
 s:∀x∈sp,x.natAbs<=10
inductive y__law_small(as:List Sm)(R:Sm->List Om->Prop)(Rx:XD->List Om->Prop):Prop|mk (a:Option Addr) (o:Om) (n m:Nat) (mn op:Int) (_:as=[.ob a o,.v (.int (n:Nat)),.v (.int mn),.v (.int op)]) (_:Pl m o) (_:m+500<2^20) (_:n<=8) (_:1<=mn) (_:mn<=12) (_:0<=op) (_:op<=4) (_:∀(bs:List Bd)(rs:List aq)(gs sp:List Int)(o':Om),PlS n mn bs rs gs sp->(op<=0->i5 bs)->Pl (m+500) o'->R (.v (.tup [bK bs rs gs,.tup (sp.map D.int)])) [o'])
noncomputable abbrev SS(j:Addr)(k:Nat)(g h:Int)(o:Om)(bs:Y Bd)(gs:Y Int)(l p r u a e c:Ř Sm):ak:=[Z (.ob (Z j) o),Z (.v (.int (k:Nat))),Z (.v (.int g)),Z (.v (.int h)),Z (.v (.lst (bs.map aU))),Z (.own (gs.map D.int)),l,p,r,u,a,e,c]
def HS(F:Fun K Xh Xh nP f J)(Pt:ClM P w K mg base n Xd [Ww,WE,WS] y__law_bounds)(P2:ClM P w K mg base n Xj [Ww,WG,Wx,W2] y__law_rows)(I:ClM P w K mg base n WW [Ww,WG] y__law_draw)(ig:Cl P w K mg base n WU [WC,Wx] z__law_times)(X:mg "tuple"=ŗ)(iC:mg "max"=ŗ):FnOk P w K mg base aG (n+1) f J [Ww,WE,WG,WS] (lSpM K y__law_small):=by
 refine F.okM qaq (λas R Rx h=>?_) (λNZ A outer s H E as R Rx qs N4 B h Of=>?_)
 ·let⟨a,o,k,m,C,L,rfl,_⟩:=h;rfl
 let⟨a,o,k,m,C,L,rfl,hp,hm,hk,h1,h12,h0,h4,q⟩:=h;let⟨be,rfl⟩:=eo Of
 refine⟨_,(ao (Ix 4 5 6 S qaq.nd S S S Wv Wv Wv (bE Pt B S (bM 0 (aB (af (dv 1)) (aB (af (dv 3)) ba aa) aa) aa) aa (ar aa (ar aa ae))))
   (ao (aJ (i:=7) qaq.nd S Wv (dk (da ag)))
   (iR 4 (ao (eJ JO S (eT (b7 (dv 4))) (gG (n:=2) S (cW (bZ (i:=8) qaq.nd S Wv) (cW (bZ (i:=9) qaq.nd S Wv) gA))) (ao (aJ (i:=10) qaq.nd S Wv (af ah))
   (cq (bT (bO (aR dI (ac 9) (PD.q bq) (ay _))) (aM (aJ (i:=10) qaq.nd S Wv (af (bC (sM S) S iC ME (aI (PD.q ah) (aI (PD.q (aP bH (PD.q (aP db (ac 9) (ac 8))) (PD.q ah))) aS bP) aD) aD (ar bP ae))))) ce)
   (aM (fU 7 (dw bH (af (dv 8)) (bE I B S (bM 0 (aB (af (dv 10)) ba aa) aa) aa (ar aa ae))) (dl bP) bP)))))
   (iR 7 (iR 6 (ao (aJ (i:=11) qaq.nd S Wv (bE P2 B S (bM 0 (aB (af (aP db (ac 2) (PD.q ah))) (aB (af (dv 7)) (aB (af (dv 6)) ba aa) aa) bP) aa) aa (ar bP (ar aa (ar aa ae)))))
   (cq (bT (PXW.toB (mH (Fu (df B.units) (bE I B S (bM 0 (aB (af ah) ba aD) aa) aa (ar aD ae)) (af ah) (ay _)) (mH (bO (aR fi (ac 1) (PD.q ah) (ay _))) (mH (bO (cM (cu (PD.q (bu (ac 6) (PD.q (aP db (ac 1) (PD.q ah))) (λ_ _=>rfl))) (λ_=>rfl)))) (wn (bO (cM (cu (PD.q (bu (ac 6) (PD.q (aP db (ac 1) (PD.q ah))) (λ_ _=>rfl))) (λ_=>rfl))))))))) (ao (aJ (i:=12) qaq.nd S Wv (dw bH (af (aP cQ (PD.q (PF.d (da (ad ah ag aD)))) (PD.q (aP db (ac 1) (PD.q ah))))) (sI (CF (aB (dw db (af (ef (PD.q ah))) (bE I B S (bM 0 (aB (af ah) ba aD) aa) aa (ar aD ae))) (aB (dw db (af (ef (PD.q ah))) (bE I B S (bM 0 (aB (af ah) ba aD) aa) aa (ar aD ae))) ba bP) bP)))))
   (ao (fU 11 (tR (aB (af (cf cG S X JE (aI (ac 12) aS aa) aa ae)) (aB (dw db (af (qt ig B S (aI (ac 12) (aI (ac 7) aS aa) aa) aa (ar aa ae))) (bE I B S (bM 0 (aB (af ah) ba aD) aa) aa (ar aD ae))) ba bP) bg)) (dl bI) bI)
   (ao (j8 5 (dw bH (af ah) (bE I B S (bM 0 (aB (af ah) ba aD) aa) aa (ar aD ae))) (af (aP db (ac 1) (PD.q ah))))
   (aM (j8 5 (dw bH (af ah) (bE I B S (bM 0 (aB (af ah) ba aD) aa) aa (ar aD ae))) (af (aP db (ac 1) (PD.q ah)))))))) ce)
   (aM (bX (af (bt (ad (bt (ad (cf cG S X JE (aI (ac 4) aS aa) aa ae) (ad (cf cG S X JE (aI (ac 11) aS aa) aa ae) (ad (cf cG S X JE (aI (ac 5) aS aa) aa ae) ag bg) bg) bg)) (ad (cf cG S X JE (aI (ac 7) aS aa) aa ae) ag bg) bI))))))))))))),?_⟩
 intro ke;refine⟨⟨_,_,S⟩,_,S,S,_,_,k,m,L,S,hp,(),hk,h0,h4,λbs gs G o1 q1 q2 q3 hB hNr QG hg RQ OZ=>?_⟩;refine⟨_,_,_,_,_,_,S,⟨(by change 4<13;decide),(by change 5<13;decide),(by change 6<13;decide)⟩,?_⟩;rfl';refine⟨λi ρ=>∃sp o' Q b_ N,ρ=SS be k C L o' bs gs (Z (.own (G.map D.bl))) (Z (.own (sp.map D.int))) Q b_ N ŗ ŗ/\sp.length=i/\(∀x∈sp,x.natAbs<=10)/\Pl (m+100+i) o',⟨[],o1,_,_,_,S,S,λx u=>(by cases u),OZ⟩,?_,?_⟩
 ·rintro i d ρ hd ⟨sp,a_,Q,b_,N,rfl,U,O,OY⟩;let⟨b,rfl,hb⟩:=bN hd;let⟨b1,b2⟩:=hB.2 b (Jw hb);have hi:=aC hb;have hBl:=hB.1;refine⟨S,?_⟩;refine⟨λρ=>∃M:Int,ρ=SS be k C L a_ bs gs (Z (.own (G.map D.bl))) (Z (.own (sp.map D.int))) (Z (.v (.int b.1))) (Z (.v (oI b.2))) (Z (.v (.int M))) ŗ ŗ/\0<M/\M<=14/\(M<=5\/b.1+M<=10),?_,?_⟩
  ·let⟨l,mo⟩:=b
   cases mo with
   |none=>show⟨ff,λ_=>⟨4,S,'b','b',.inl 'b'⟩⟩
   |some mm=>
    have b2:=b2 mm S;have b1:l.natAbs<=5:=b1;refine⟨λ_=>⟨if mm-l+1>1 then mm-l+1 else 1,S,?_,?_,?_⟩,tf⟩
    ·split<;>omega
    ·split<;>omega
    ·change _\/l+_<=10;split
     ·show .inr ()
     ·show .inl ()
  rintro ρ ⟨M,rfl,w0,w14,w5⟩;refine⟨⟨_,_,S⟩,_,S,S,_,_,M,_,S,OY,(),w0,cA (),λx o3 x0 x1 PR=>?_⟩;rfl';show⟨by rw[Jp];show bi (),_,gF D.int sp _,_,o3,_,_,_,S,by rw[Jr,U];rfl,fw O (),PR.mono ()⟩
 rintro ρ ⟨sp,a_,Q,b_,N,rfl,U,O,OY⟩;rw[Jp,hB.1]at U OY;refine⟨⟨_,_,S⟩,_,S,S,_,_,k,_,_,sp,G,S,OY,(),hk,(),(),U,RQ,O,λrs o3 hR Ol PR=>?_⟩;rfl';have fin:∀(p:Y aq)(r:Y Int)(o':Om),jV k p->(p.length:Int)<=C->r.length=k->(∀g∈r,g.natAbs<=2)->Pl (m+400) o'->R (.v (.tup [bK bs p r,.tup (sp.map D.int)])) [o']:=λp r o' r1 r2 r3 r4 r5=>q bs p r sp o' ⟨hB,r1,r2,r3,r4,U,O⟩ hNr (r5.mono ());refine⟨λρ=>∃(p:Y aq)(r:Y Int)(o':Om)(QH:Ř Sm),ρ=[Z (.ob (Z be) o'),Z (.v (.int (k:Nat))),Z (.v (.int C)),Z (.v (.int L)),Z (.v (.lst (bs.map aU))),Z (.own (r.map D.int)),Z (.v (.lst (G.map D.bl))),Z (.v (.lst (sp.map D.int))),Q,b_,N,Z (.own (p.map aw)),QH]/\jV k p/\(p.length:Int)<=C/\r.length=k/\(∀g∈r,g.natAbs<=2)/\Pl (m+400) o',?_,?_⟩
 ·have stay:∀o',Pl (m+400) o'->∃(p:Y aq)(r:Y Int)(a_:Om)(QH:Ř Sm),[Z (Sm.ob (Z be) o'),Z (.v (.int (k:Nat))),Z (.v (.int C)),Z (.v (.int L)),Z (.v (.lst (bs.map aU))),Z (.own (gs.map D.int)),Z (.v (.lst (G.map D.bl))),Z (.v (.lst (sp.map D.int))),Q,b_,N,Z (.own (rs.map aw)),ŗ]=[Z (.ob (Z be) a_),Z (.v (.int (k:Nat))),Z (.v (.int C)),Z (.v (.int L)),Z (.v (.lst (bs.map aU))),Z (.own (r.map D.int)),Z (.v (.lst (G.map D.bl))),Z (.v (.lst (sp.map D.int))),Q,b_,N,Z (.own (p.map aw)),QH]/\jV k p/\(p.length:Int)<=C/\r.length=k/\(∀g∈r,g.natAbs<=2)/\Pl (m+400) a_:=λo' h=>⟨rs,gs,o',ŗ,S,hR,(),QG,hg,h⟩;refine⟨⟨_,_,S⟩,_,S,S,_,_,2,_,S,PR,(),'b',cA 'b',λx o4 x0 x1 T=>?_⟩;rfl';refine⟨λc=>⟨λc2=>?_,λc2=>⟨ff,λ_=>stay o4 (T.mono ())⟩⟩,λc=>⟨ff,λ_=>stay o4 (T.mono ())⟩⟩
  have c2:1<k:=by have:=dP c2;omega
  have PL:∀j:Nat,j<k->∀z:Int,z=(j:Int)->cr (G.map D.bl) z=Z (.bl (G.getD j Ś)):=λj hj z e=>cD (i:=j) (bU ()) e;refine⟨_,PL (k-1) () _ (),λc3=>⟨_,PL (k-2) () _ (),λc4=>?_,λc4=>stay o4 (T.mono ())⟩,λc3=>⟨ff,λ_=>stay o4 (T.mono ())⟩⟩;refine⟨⟨(),(),small (by change 1*((k:Int)-2).toNat<=1000;omega)⟩,(List.replicate (k-2) 0).map D.int,by rw[show ((k:Int)-2).toNat=k-2 by omega];show wS (k-2) 0,?_⟩;refine⟨⟨_,_,S⟩,_,S,S,_,_,3,_,S,T,(),'b',cA 'b',λy o5 y0 y1 Qa=>?_⟩;rfl';refine⟨⟨_,_,S⟩,_,S,S,_,_,3,_,S,Qa,(),'b',cA 'b',λz o6 z0 z1 Rb=>?_⟩;rfl'
  have PJ:((List.replicate (k-2) 0++[-1-y,-1-z]):Y Int).length=k:=by rw[Jr,J1];change k-2+2=k;omega
  have VR:∀x∈(List.replicate (k-2) 0++[-1-y,-1-z]:Y Int),x.natAbs<=3:=λx u=>by
   rcases JT.mp u with u|u
   ·rw[Nn u];decide
   ·simp only[JI,Lu,or_false]at u;rcases u with rfl|rfl<;>omega
  refine⟨small (by rw[Jp,J1];change _+2<=1000;omega),((List.replicate (k-2) 0++[-1-y,-1-z]):Y Int).map D.int,by rw[Ku];rfl,?_⟩;generalize (List.replicate (k-2) 0++[-1-y,-1-z]:Y Int)=es at *;have QW:∀x∈es,bB x:=λx u=>fH (m:=10) (by have:=VR x u;omega) 'b';have VQ:∀x∈sp,bB x:=λx u=>fH (m:=10) (by have:=O x u;omega) 'b';have Sq:=lu VR O
  have hd9:(av es sp).natAbs<=300:=by have:es.length*(3*10)<=8*(3*10):=Ll _ ();omega
  refine⟨es,sp,S,(),QW,VQ,trivial,?_⟩;refine⟨⟨_,_,S⟩,_,S,S,_,_,2,_,S,Rb,(),'b',cA 'b',λv o7 v0 v1 SI=>?_⟩;rfl';refine⟨by rw[Jp];show bi (),_,gF aw rs (es,av es sp-v),?_⟩;rfl';refine⟨⟨_,_,S⟩,_,S,S,_,_,2,_,S,SI,(),'b',cA 'b',λg1 o8 g0 g2 hp8=>?_⟩;rfl';refine⟨k-1,by rw[show (k:Int)-1=((k-1:Nat):Int)by omega];show eS (by rw[Jp,QG];omega),_,(Lk ..).symm,?_⟩;rfl';refine⟨⟨_,_,S⟩,_,S,S,_,_,2,_,S,hp8,(),'b',cA 'b',λg3 o9 g4 g5 hp9=>?_⟩;rfl';refine⟨k-2,by rw[show (k:Int)-2=((k-2:Nat):Int)by omega];show eS (by rw[Jp,Ju,QG];omega),_,(Lk ..).symm,?_⟩;rfl';show⟨rs++[(es,av es sp-v)],_,o9,_,S,fw hR ⟨PJ,VR,by change (av es sp-v).natAbs<=400;omega⟩,by rw[Jr,J2];omega,by rw[Ju,Ju,QG],rN (rN hg ()) (),hp9.mono ()⟩
 rintro ρ ⟨p,r,o',QH,rfl,r1,r2,r3,r4,r5⟩;show⟨_,S,fin p r o' r1 r2 r3 r4 r5⟩
def G6{m:Int}:∀{ns:Y Int},(∀x∈ns,m∣x)->m∣bp ns:=by
 have a:∀(ns:Y Int)(d:Int),m∣d->(∀x∈ns,m∣x)->m∣ns.foldl (λd x=>(Int.gcd x d:Int)) d:=by
  intro ns
  induction ns with
  |nil=>intro d hd _;show hd
  |cons x r g=>
   intro d hd c;show g _ (Int.dvd_coe_gcd (c x JA) hd) λy e=>c y (Jy _ e)
 intro ns h;show a ns 0 (Int.dvd_zero m) h
def Dl{l:Y Int}(h:0<bp l):bp (l.map (·/bp l))=1:=by
 generalize hd:bp l=d at h
 have j:d*bp (l.map (·/d))∣d:=by
  conv=>rhs;rw[←hd]
  refine G6 λx a=>?_
  have c:d∣x:=by rw[←hd];show oE l x a
  have g:=oE (l.map (·/d)) (x/d) (JL.mpr ⟨x,a,S⟩);have:=Int.mul_dvd_mul_left d g;rw[Int.mul_ediv_cancel' c]at this;show this
 have u:=rG (l.map (·/d));generalize bp (l.map (·/d))=e at *;let⟨k,r⟩:=j
 have o:d*(e*k)=d*1:=by rw[←Int.mul_assoc,←r,Int.mul_one]
 have p:e*k=1:=Int.eq_of_mul_eq_mul_left () o;show Int.eq_one_of_dvd_one u ⟨k,p.symm⟩
noncomputable def mu(s:Led):Nat:=64*s.st.length+2*s.rs.length+s.rs.countP dN
structure Wy(n:Nat)(s:Led):Prop where
 n8:n<=8
 bl:s.bs.length=n
 gl:s.gl.length=n
 ll:s.lm.length=n
 ml:s.mm.length=n
 sl:∀u∈s.st,u<n
 so:s.st.Pairwise (·<·)
 rl:s.rs.length<=30
 rm:s.rm.length=s.rs.length
 rr:∀r∈s.rs,r.1.length=n/\(∀x∈r.1,x.natAbs<2^64)/\r.2.natAbs<=2^(200+65*(n-s.st.length))
 bb:∀b∈s.bs,b.1.natAbs<=2^(200+65*(n-s.st.length))/\∀m,b.2=Z m->m.natAbs<=2^(200+65*(n-s.st.length))
 gg:∀x∈s.gl,x.natAbs<2^64
 ln:s.ln.length+mu s<=602
 gs:s.gs.length+s.st.length<=n
 gn:s.gn.length+s.st.length=n
 n1:∀d∈s.rm,NoL d
 n2:∀d∈s.mm,NoL d
 n3:∀d∈s.lm,NoL d
 n4:∀d∈s.ln,NoL d
 z:∀r∈s.rs,∀u,u<n->u∉s.st->r.1.getD u 0=0
 gr:∀g∈s.gn,g.1<n/\g.1∉s.st/\g.2.1.natAbs<=2^720/\g.2.2.length<=30/\∀r∈g.2.2,r.1.length=n/\0<r.1.getD g.1 0/\(∀x∈r.1,x.natAbs<2^64)/\r.2.natAbs<=2^720
def Wy.nd{n:Nat}{s:Led}(h:Wy n s):s.st.Nodup:=h.so.imp λh e=>by omega
def Wy.sn{n:Nat}{s:Led}(h:Wy n s):s.st.length<=n:=by have:=h.gn;omega
def lw{n k x:Nat}(a:n<=8)(h:x<=2^(200+65*(n-k))):x<=2^720:=JR h (Kp 'b' ())
def uN{x:Int}(h:x.natAbs<=2^720):bB x:=K6 h (KY 'b' 'b')
def Wy.led{n:Nat}{s:Led}(h:Wy n s):LedP n s:=by
 have j:=h.n8;have v:=h.ln;have y:=h.sn;refine⟨h.n8,h.bl,h.gl,h.ll,h.ml,h.sl,h.nd,h.rl,h.rm,λr p=>?_,λb l=>?_,λx g=>?_,(),by have:=h.gs;omega,by have:=h.gn;omega,h.n1,h.n2,h.n3,h.n4⟩
 ·let⟨c,a,u⟩:=h.rr r p;refine⟨c,λx g=>ML (a x g) (KY 'b' 'b'),rG _,?_⟩;have:=FZ a 'b'
  have e:((2^64:Nat):Int)<2^9000:=by lia
  omega
 ·let⟨c,a⟩:=h.bb b l;show⟨uN (lw j c),λm o=>uN (lw j (a m o))⟩
 ·show ML (h.gg x g) (KY 'b' 'b')
def iK{a:Type}{xs:Y a}{i:Nat}{y x:a}(h:x∈xs.set i y):x∈xs\/x=y:=Ma h
def xl{a:Type}(c:a->Bool)(xs:Y a)(p:Nat):(xs.eraseIdx p).countP c<=xs.countP c:=(List.eraseIdx_sublist xs p).countP_le
def Wy.drop{n:Nat}{s:Led}(h:Wy n s){p:Nat}(g:p<s.rs.length):Wy n (cg s p)/\mu (cg s p)<mu s:=by
 have c:∀x∈s.rs.eraseIdx p,x∈s.rs:=λx j=>K8 j;have l:(s.rs.eraseIdx p).length=s.rs.length-1:=KZ g;have o:(s.rm.eraseIdx p).length=s.rm.length-1:=KZ (by rwa[h.rm])
 have e:mu (cg s p)<mu s:=by have:=xl dN s.rs p;unfold mu cg;simp only;omega
 have:=h.ln;have:=h.rm;have:=h.rl;show⟨⟨h.n8,h.bl,h.gl,h.ll,h.ml,h.sl,h.so,by change (s.rs.eraseIdx p).length<=_;omega,by change (s.rm.eraseIdx p).length=(s.rs.eraseIdx p).length;omega,λr a=>h.rr r (c r a),h.bb,h.gg,by change s.ln.length+_<=_;omega,h.gs,h.gn,λd hd=>h.n1 d (K8 hd),h.n2,h.n3,h.n4,λr a=>h.z r (c r a),h.gr⟩,e⟩
def pQ{a d:Int}(hd:0<d):(dB a d).natAbs<=a.natAbs:=by
 unfold dB;have c:=Nd (-a) d;omega
def Wy.bnd{n:Nat}{s:Led}(h:Wy n s)(g:s.ln.length+mu s<=601){u:Nat}{b:Bd}{d:D}{lm mm:Y D}(e:b.1.natAbs<=2^(200+65*(n-s.st.length))/\∀m,b.2=Z m->m.natAbs<=2^(200+65*(n-s.st.length)))(hd:NoL d)(j:lm.length=n)(l:mm.length=n)(o:∀d∈lm,NoL d)(p:∀d∈mm,NoL d):Wy n { s with bs:=s.bs.set u b,ln:=s.ln++[d],lm:=lm,mm:=mm }/\mu { s with bs:=s.bs.set u b,ln:=s.ln++[d],lm:=lm,mm:=mm }=mu s:=by
 have c:mu { s with bs:=s.bs.set u b,ln:=s.ln++[d],lm:=lm,mm:=mm }=mu s:=rfl;refine⟨⟨h.n8,by change (s.bs.set u b).length=n;rw[Ju];show h.bl,h.gl,j,l,h.sl,h.so,h.rl,h.rm,h.rr,λx a=>?_,h.gg,?_,h.gs,h.gn,h.n1,p,o,λx a=>?_,h.z,h.gr⟩,c⟩
 ·rcases iK a with a|rfl
  ·show h.bb x a
  ·show e
 ·rw[c];change (s.ln++[d]).length+_<=_;rw[Jr,J2];omega
 ·rcases JT.mp a with a|a
  ·show h.n4 x a
  ·rwa[JB.mp a]
def Wy.lowU{n:Nat}{s:Led}(h:Wy n s){u:Nat}(a:u<n):(am s.bs u).1.natAbs<=2^(200+65*(n-s.st.length))/\∀m,(am s.bs u).2=Z m->m.natAbs<=2^(200+65*(n-s.st.length)):=h.bb _ (cK (by rwa[h.bl]))
def pX{a:D}{d:Int}(h:NoL a):NoL (eO (gC a) d):=ny (ki h)
def p8{ds:Y D}{i:Nat}{d:D}(h:∀d∈ds,NoL d)(hd:NoL d):∀x∈ds.set i d,NoL x:=λx a=>by
 rcases iK a with a|rfl
 ·show h x a
 ·show hd
def Wy.tb{n:Nat}{s:Led}(h:Wy n s){p u:Nat}{r:aq}(A:s.rs[p]?=Z r)(E:u<n)(F:r.1.getD u 0≠0):Wy n (kU s p u r)/\mu (kU s p u r)<mu s:=by
 have z:=aC A;let⟨g,c⟩:=h.drop z
 have y:mu (cg s p)+2<=mu s:=by
  have:=xl dN s.rs p;have G:(s.rs.eraseIdx p).length=s.rs.length-1:=KZ z;unfold mu cg;simp only;omega
 have x:(cg s p).ln.length+mu (cg s p)<=601:=by have:=h.ln;change s.ln.length+_<=_;omega
 have B:(0:Int)<((r.1.getD u 0).natAbs:Int):=by omega
 have j:=pQ (a:=r.2) B;have l:=(h.rr r (Jw A)).2.2;have v:=h.lowU E;have o:NoL (s.rm.getD p .non):=h.n1 _ (cK (by rwa[h.rm]));unfold kU bG;split
 ·let⟨w,e⟩:=g.bnd (u:=u) (b:=(dB r.2 ((r.1.getD u 0).natAbs:Int),(am s.bs u).2)) (d:=eO (gC (s.rm.getD p .non)) (r.1.getD u 0)) (lm:=s.lm.set u (fL s)) (mm:=s.mm) x ⟨JR j l,v.2⟩ (pX o) (by rw[Ju];show h.ll) h.ml (p8 h.n3 (.int _)) h.n2;show⟨w,K6 (Nf e) c⟩
 ·split
  ·let⟨w,e⟩:=g.bnd (u:=u) (b:=((am s.bs u).1,Z (-dB r.2 ((r.1.getD u 0).natAbs:Int)))) (d:=eO (gC (s.rm.getD p .non)) (-r.1.getD u 0)) (lm:=s.lm) (mm:=s.mm.set u (fL s)) x ⟨v.1,λm C=>by cases C;rw[NH];show JR j l⟩ (pX o) h.ll (by rw[Ju];show h.ml) h.n3 (p8 h.n2 (.int _));show⟨w,K6 (Nf e) c⟩
  ·show⟨g,c⟩
def uR{r:aq}(h:dN r=ř):fS r=(r.1.map (·/bp r.1),dB r.2 (bp r.1))/\dN (fS r)=Ś/\1<bp r.1:=by
 have a:1<bp r.1:=Kc h
 have e:fS r=(r.1.map (·/bp r.1),dB r.2 (bp r.1)):=by unfold fS;rw[Jv ()];rfl
 refine⟨e,?_,a⟩;rw[e];unfold dN;rw[show (r.1.map (·/bp r.1),dB r.2 (bp r.1)).1=r.1.map (·/bp r.1)from rfl,Dl ()];rfl
def xX{e:Type}{c:e->Bool}{xs:Y e}{i:Nat}{x y:e}(h:xs[i]?=Z x)(g:c x=ř)(j:c y=Ś):(xs.set i y).countP c+1=xs.countP c:=by
 induction xs generalizing i with
 |nil=>cases h
 |cons a xs l=>
  cases i with
  |zero=>
   cases h;rw[Mm,List.countP_cons_of_neg (by rw[j];decide),List.countP_cons_of_pos g]
  |succ i=>
   have:=l (i:=i) h;rw[M4,List.countP_cons,List.countP_cons];omega
def xm(f:Int->Int)(a:f 0=0)(xs:Y Int)(u:Nat):(xs.map f).getD u 0=f (xs.getD u 0):=by
 rw[JD,JD,JF]
 cases xs[u]? with
 |none=>show a.symm
 |some x=>rfl
def Wy.ev{n:Nat}{s:Led}(h:Wy n s){p:Nat}{r:aq}(g:s.rs[p]?=Z r)(o:dN r=ř):Wy n (i9 s p r)/\mu (i9 s p r)<mu s:=by
 have L:=aC g;let⟨l,B,I⟩:=uR o;have e:=Jw g;let⟨M,F,G⟩:=h.rr r e;have A:NoL (s.rm.getD p .non):=h.n1 _ (cK (by rwa[h.rm]))
 have H:mu (i9 s p r)+1=mu s:=by have:=xX (c:=dN) (y:=fS r) g o B;unfold mu i9;simp only[Ju];omega
 have:=h.ln;refine⟨⟨h.n8,h.bl,h.gl,h.ll,h.ml,h.sl,h.so,by change (s.rs.set p _).length<=_;rw[Ju];show h.rl,by change (s.rm.set p _).length=(s.rs.set p _).length;rw[Ju,Ju];show h.rm,λx a=>?_,h.bb,h.gg,by change (s.ln++[_]).length+_<=_;rw[Jr,J2];omega,h.gs,h.gn,p8 h.n1 (.int _),h.n2,h.n3,λx a=>?_,λx a v u j=>?_,h.gr⟩,()⟩
 ·rcases iK a with a|rfl
  ·show h.rr x a
  ·rw[l];refine⟨by change (r.1.map _).length=n;rwa[Jp],λy C=>?_,JR (pQ ()) G⟩;let⟨z,E,rfl⟩:=JL.mp C;have:=Nd z (bp r.1);have:=F z E;omega
 ·rcases JT.mp a with a|a
  ·show h.n4 x a
  ·rw[JB.mp a];show pX A
 ·rcases iK a with a|rfl
  ·show h.z x a v u j
  ·rw[l];change (r.1.map (·/bp r.1)).getD v 0=0;rw[xm (·/bp r.1) (Int.zero_ediv _),h.z r e v u j,Int.zero_ediv]
def lH{xs:Y Int}{k j:Nat}{v:Int}:(xs.set k v).getD j 0=if j=k/\k<xs.length then v else xs.getD j 0:=by
 rw[JD,JD,List.getElem?_set];by_cases c:k=j
 ·subst c;by_cases a:k<xs.length
  ·simp[a]
  ·simp[a]
 ·rw[Jv c,Jv (λh=>c h.1.symm)]
noncomputable def eA(u:Nat)(v:Int)(r:aq):aq:=if r.1.getD u 0=0 then r else (r.1.set u 0,r.2-r.1.getD u 0*v)
theorem vj(s:Led)(u:Nat)(v:Int):∀i,i<=s.rs.length->(dJ s u v i).rs=(s.rs.take i).map (eA u v)++s.rs.drop i
 |0,_=>rfl
 |i+1,hi=>by
  have a:=vj s u v i ();have I:=jJ s u v i
  have g:(dJ s u v i).rs[i]?=Z s.rs[i]:=by rw[I.at_ i (Jx _)];show bJ ()
  have e:bQ (dJ s u v i).rs i=s.rs[i]:=fb g;rw[mq];generalize dJ s u v i=t at *
  have h:((s.rs.take i).map (eA u v)).length=i:=by rw[Jp,Ke];omega
  have hd:s.rs.drop i=s.rs[i]::s.rs.drop (i+1):=Nb ();rw[gR (bJ (show i<s.rs.length by omega)),Ku];unfold iI;rw[e];split
  ·rename_i c;rw[a,hd,JM];congr 1;change _=[eA u v s.rs[i]]++_;unfold eA;rw[JC c];rfl
  ·rename_i c;change t.rs.set i _=_;rw[a,hd,LY _ _ (),h,J6,Mm,JM];congr 1;change _=[eA u v s.rs[i]]++_;unfold eA;rw[Jv c];rfl
def vS(u:Nat)(v:Int)(t:Led):(cb u v t).bs=t.bs/\(cb u v t).rs=t.rs/\(cb u v t).gl=t.gl/\(cb u v t).st=t.st/\(cb u v t).td=t.td/\(cb u v t).ln=t.ln/\(cb u v t).lm=t.lm/\(cb u v t).mm=t.mm/\(cb u v t).rm=t.rm/\(cb u v t).gs.length<=t.gs.length+1/\(cb u v t).ex=t.ex+t.gl.getD u 0*v/\(cb u v t).gn=t.gn:=by
 unfold cb;split
 ·rename_i c;rw[c];show⟨S,S,S,S,S,S,S,S,S,(),(),S⟩
 ·show⟨S,S,S,S,S,S,S,S,S,by simp,S,S⟩
structure FixE(s:Led)(u:Nat)(v:Int)(t:Led):Prop where
 bs:t.bs=s.bs
 rs:t.rs=s.rs.map (eA u v)
 gl:t.gl=s.gl
 st:t.st=s.st.erase u
 td:t.td=s.td
 lm:t.lm=s.lm
 mm:t.mm=s.mm
 ml:t.rm.length=s.rm.length
 ll:t.ln.length<=s.ln.length+s.rs.length
 gs:t.gs.length<=s.gs.length+1
 ex:t.ex=s.ex+s.gl.getD u 0*v
 gn:t.gn=s.gn++[(u,v,[])]
 n1:(∀d∈s.rm,NoL d)->∀d∈t.rm,NoL d
def rc(s:Led)(u:Nat)(v:Int):FixE s u v (fC s u v):=by
 have I:=jJ s u v s.rs.length;have g:=vj s u v s.rs.length (Jx _);rw[KL,List.drop_length,J5]at g;unfold fC;generalize dJ s u v s.rs.length=t at *;let⟨C,j,E,F,G,H,L,M,N⟩:=I.eq;let⟨l,p,r,x,y,z,A,B,e,o,a,c⟩:=vS u v t;show⟨l.trans C,p.trans g,r.trans j,Kf (List.erase · u) (x.trans E),y.trans F,A.trans G,B.trans H,by change (cb u v t).rm.length=_;rw[e];show I.ml,by change (cb u v t).ln.length<=_;rw[z];show I.ll,by change (cb u v t).gs.length<=_;rwa[←L],by change (cb u v t).ex=_;rw[a,M,j],by change (cb u v t).gn++_=_;rw[c,N],λh=>by change ∀d∈(cb u v t).rm,NoL d;rw[e];show I.nl h⟩
def Cc{u:Nat}{v:Int}{r:aq}(w:Nat)(a:u<r.1.length):(eA u v r).1.getD w 0=if w=u then 0 else r.1.getD w 0:=by
 unfold eA;split
 ·rename_i c;split
  ·rename_i e;rwa[e]
  ·rfl
 ·change (r.1.set u 0).getD w 0=_;rw[lH];by_cases e:w=u
  ·rw[JC ⟨e,a⟩,JC e]
  ·rw[Jv (λh=>e h.1),Jv e]
def Ij(u:Nat)(v:Int)(r:aq):(eA u v r).1.length=r.1.length:=by
 unfold eA;split
 ·rfl
 ·show Ju
def GR{u:Nat}{v:Int}{r:aq}{x:Int}(h:x∈(eA u v r).1):x∈r.1\/x=0:=by
 unfold eA at h;split at h
 ·show .inl h
 ·show iK h
def jZ{st:Y Nat}{u v:Nat}(h:v∈st.erase u):v∈st:=List.mem_of_mem_erase h
def Wy.er{n:Nat}{s:Led}(h:Wy n s){u v:Nat}:v∈s.st.erase u↔v≠u/\v∈s.st:=by rw[List.Nodup.mem_erase_iff h.nd]
theorem xn{s:Led}{u:Nat}{v:Int}(n1:∀d∈s.rm,NoL d)(n2:∀d∈s.mm,NoL d)(n3:∀d∈s.lm,NoL d)(n4:∀d∈s.ln,NoL d)(a:s.rm.length=s.rs.length)(h:u<s.mm.length)(j:u<s.lm.length):∀i,i<=s.rs.length->∀d∈(dJ s u v i).ln,NoL d
 |0,_=>n4
 |i+1,hi=>by
  have c:=xn (v:=v) n1 n2 n3 n4 a h j i ();have I:=jJ s u v i;rw[mq];generalize dJ s u v i=t at *;let⟨l,o,p,r,e,g,x,y,z⟩:=I.eq;unfold iI;split
  ·show c
  ·intro d hd;rcases JT.mp hd with hd|hd
   ·show c d hd
   ·rw[JB.mp hd];show ny (.tup (bv (.tup (bv (I.nl n1 _ (cK (by rw[I.ml,a];omega))) (bv (.int _) c9))) (bv (mL (by rwa[g]) (by rwa[e]) (by rwa[g]) (by rwa[e])) c9)))
def Hb{n:Nat}{s:Led}(h:Wy n s){u:Nat}(a:u<n)(v:Int):∀d∈(fC s u v).ln,NoL d:=by
 have:=xn (v:=v) h.n1 h.n2 h.n3 h.n4 h.rm (by rwa[h.ml]) (by rwa[h.ll]) s.rs.length (Jx _);unfold fC;change ∀d∈(cb u v (dJ s u v s.rs.length)).ln,NoL d;rwa[(vS u v _).2.2.2.2.2.1]
def Wy.fix{n:Nat}{s:Led}(h:Wy n s){u:Nat}{v:Int}(o:u∈s.st)(G:v.natAbs<=2^(200+65*(n-s.st.length))):Wy n (fC s u v)/\mu (fC s u v)<mu s:=by
 have E:=rc s u v;have X:=Hb h (h.sl u o) v;generalize fC s u v=t at *;have I:=h.sl u o
 have OE:t.st.length=s.st.length-1:=by rw[E.st];show Np o
 have Rr:0<s.st.length:=NB o
 have M:t.rs.length=s.rs.length:=by rw[E.rs,Jp]
 have Qk:=h.sn;have B:=h.n8;have Ol:=h.rl;have F:t.rs.countP dN<=t.rs.length:=NJ
 have N:200+65*(n-t.st.length)=65+(200+65*(n-s.st.length)):=by omega
 have z:∀{x:Nat},x<=2^(200+65*(n-s.st.length))->x<=2^(200+65*(n-t.st.length)):=λl=>JR l (Kp 'b' ());have a_:=h.ln
 have RT:mu t+s.rs.length<mu s:=by unfold mu;omega
 have he:t.ln.length<=s.ln.length+s.rs.length:=E.ll;refine⟨⟨B,by rw[E.bs];show h.bl,by rw[E.gl];show h.gl,by rw[E.lm];show h.ll,by rw[E.mm];show h.ml,λw p=>h.sl w (by rw[E.st]at p;show jZ p),by rw[E.st];show h.so.sublist List.erase_sublist,(),by rw[E.ml,M];show h.rm,λr c=>?_,λb C=>?_,by rw[E.gl];show h.gg,(),by have:=h.gs;have:=E.gs;omega,?_,E.n1 h.n1,by rw[E.mm];show h.n2,by rw[E.lm];show h.n3,X,λr c w p L=>?_,λg j=>?_⟩,()⟩
 ·rw[E.rs]at c;let⟨x,l,rfl⟩:=JL.mp c;let⟨x1,H,x3⟩:=h.rr x l;refine⟨by rwa[Ij],λy A=>?_,?_⟩
  ·rcases GR A with A|rfl
   ·show H y A
   ·decide
  ·have be:(x.1.getD u 0).natAbs<2^64:=H _ (cK ());unfold eA;split
   ·show z x3
   ·change (x.2-x.1.getD u 0*v).natAbs<=_;rw[N,Nat.pow_add]
    have h1:(x.1.getD u 0*v).natAbs<=2^64*2^(200+65*(n-s.st.length)):=by rw[MV];show Mo () G
    have h2:(x.2-x.1.getD u 0*v).natAbs<=x.2.natAbs+(x.1.getD u 0*v).natAbs:=by omega
    have U:2^65=2^64+2^64:=by decide
    rw[U,Ny];have h5:2^(200+65*(n-s.st.length))<=2^64*2^(200+65*(n-s.st.length)):=Nat.le_mul_of_pos_left _ 'b';omega
 ·rw[E.bs]at C;let⟨O,Q⟩:=h.bb b C;show⟨z O,λm a=>z (Q m a)⟩
 ·rw[E.gn,Jr,J2];have:=h.gn;omega
 ·rw[E.rs]at c;let⟨x,l,rfl⟩:=JL.mp c;rw[Cc w (by rwa[(h.rr x l).1])];by_cases e:w=u
  ·rw[JC e]
  ·rw[Jv e];show h.z x l w p λa=>L (by rw[E.st];show h.er.mpr ⟨e,a⟩)
 ·rw[E.gn]at j;rcases JT.mp j with j|j
  ·let⟨R,b_,T⟩:=h.gr g j;show⟨R,λa=>b_ (by rw[E.st]at a;show jZ a),T⟩
  ·rw[JB.mp j];refine⟨I,λa=>?_,lw B G,by change 0<=30;decide,λr c=>by cases c⟩;rw[E.st]at a;show (h.er.mp a).1 S
theorem wJ{e:Type}{ys:Y e}:∀{ps:Y Nat}{xs:Y e},ps.Pairwise (λx y=>y<x)->(∀x∈ps,x<xs.length)->ps.foldl List.eraseIdx (xs++ys)=ps.foldl List.eraseIdx xs++ys
 | [],xs,_,_=>rfl
 |p::ps,xs,a,g=>by
  rw[Ml]at a;have c:=g p JA;change ps.foldl List.eraseIdx ((xs++ys).eraseIdx p)=ps.foldl List.eraseIdx (xs.eraseIdx p)++ys;rw[List.eraseIdx_append_of_lt_length c];refine wJ a.2 λx h=>?_;rw[KZ c];have:=a.1 x h;omega
def rh{g:Type}{P:Y g->Prop}(o:P [])(j:∀xs x,P xs->P (xs++[x])):∀xs,P xs:=λxs=>by
 have c:∀n (xs:Y g),xs.length=n->P xs:=by
  intro n
  induction n with
  |zero=>intro xs a;rwa[Kq.mp a]
  |succ n l=>
   intro xs a
   have h:xs≠[]:=λe=>by rw[e]at a;cases a
   rw[←MW h];show j _ _ (l _ (by rw[List.length_dropLast];omega))
 show c _ xs S
def Ag{a:Type}(c:a->Bool)(d:a):∀xs:Y a,((List.range xs.length).filter λi=>c (xs.getD i d)).reverse.foldl List.eraseIdx xs=xs.filter λx=>!c x:=by
 refine rh S λxs x g=>?_
 have h:(List.range (xs++[x]).length).filter (λi=>c ((xs++[x]).getD i d))=(List.range xs.length).filter (λi=>c (xs.getD i d))++if c x then [xs.length] else []:=by
  rw[Jr,J2,Lz,Mj];congr 1
  ·refine List.filter_congr λi hi=>?_;rw[JD,JD,Js (JU.mp hi)]
  ·have:(xs++[x]).getD xs.length d=x:=by rw[JD,Jq (Jx _),J6];rfl
   cases l:c x with
   |true=>rw[Mq (by rwa[this])];rfl
   |false=>rw[Mr (by rw[this,l];decide)];rfl
 rw[h,Mj]
 have hd:((List.range xs.length).filter λi=>c (xs.getD i d)).reverse.Pairwise (λx y=>y<x):=by rw[NG];show LQ.filter _
 have j:∀y∈((List.range xs.length).filter λi=>c (xs.getD i d)).reverse,y<xs.length:=λy o=>JU.mp (J9.mp (LJ.mp o)).1
 cases e:c x with
 |true=>
  rw[JC S,List.reverse_append];change List.foldl List.eraseIdx ((xs++[x]).eraseIdx xs.length) ((List.range xs.length).filter λi=>c (xs.getD i d)).reverse=_;rw[List.eraseIdx_append_of_length_le (Jx _),J6,show [x].eraseIdx 0=[]from rfl,J5,g];simp[e]
 |false=>
  rw[Jv 'b',J5,wJ hd j,g];simp[e]
theorem vC:∀(ps:Y Nat)(t:Led),ps.foldl cg t={ t with rs:=ps.foldl List.eraseIdx t.rs,rm:=ps.foldl List.eraseIdx t.rm }
 | [],t=>rfl
 |p::ps,t=>by change ps.foldl cg (cg t p)=_;rw[vC ps];rfl
theorem t7{a:Type}:∀(ps:Y Nat){xs:Y a}{x:a},x∈ps.foldl List.eraseIdx xs->x∈xs
 | [],_,_,h=>h
 |p::ps,xs,x,h=>K8 (t7 ps (xs:=xs.eraseIdx p) h)
def z0(u:Nat)(r:aq):Bool:=r.1.getD u 0==0
def rJ(s:Led)(u:Nat):fP s u={ s with st:=s.st.erase u,gn:=s.gn++[(u,(am s.bs u).1,(bS s u).map (bQ s.rs))],rs:=s.rs.filter (z0 u),rm:=(bS s u).reverse.foldl List.eraseIdx s.rm }:=by
 unfold fP;rw[vC];have e:=Ag (λr:aq=>decide (r.1.getD u 0≠0)) ([],0) s.rs
 have a:s.rs.filter (λr=>!decide (r.1.getD u 0≠0))=s.rs.filter (z0 u):=by
  refine List.filter_congr λr _=>?_;unfold z0;generalize r.1.getD u 0=e;by_cases c:e=0
  ·simp[c]
  ·simp[c]
 rw[a]at e;have g:(bS s u).reverse.foldl List.eraseIdx (gk s u (am s.bs u).1 ((bS s u).map (bQ s.rs))).rs=s.rs.filter (z0 u):=e;rw[g];rfl
def hgP_rows{s:Led}{u:Nat}{r:aq}:r∈(bS s u).map (bQ s.rs)↔r∈s.rs/\r.1.getD u 0≠0:=by
 constructor
 ·intro h;let⟨i,hi,rfl⟩:=JL.mp h;let⟨a,e⟩:=J9.mp hi;show⟨cK (JU.mp a),Kc e⟩
 ·rintro⟨a,e⟩;let⟨i,hi⟩:=Ko a;have c:bQ s.rs i=r:=fb hi;show JL.mpr ⟨i,J9.mpr ⟨JU.mpr (aC hi),Kk (by rwa[c])⟩,c⟩
def Wy.hang{n:Nat}{s:Led}(h:Wy n s){u:Nat}(z:u∈s.st)(o:ic s.rs u=Ś):Wy n (fP s u)/\mu (fP s u)<mu s:=by
 have C:=h.sl u z;have a:=r6 (gk s u (am s.bs u).1 ((bS s u).map (bQ s.rs))) _ (uC s u) (λx B=>rT (LJ.mp B)) h.rm;rw[←show fP s u=(bS s u).reverse.foldl cg (gk s u (am s.bs u).1 ((bS s u).map (bQ s.rs)))from rfl]at a;have E:=rJ s u;generalize fP s u=t at *
 have O:t.rm.length=t.rs.length:=by rw[a.1,a.2]
 subst E;have OE:(s.st.erase u).length=s.st.length-1:=Np z;have Rr:0<s.st.length:=NB z;have Qk:=h.sn;have y:=h.n8;have I:=h.rl;have be:=h.ln;have X:=h.gn;have a_:=h.gs;have l1:(s.rs.filter (z0 u)).length<=s.rs.length:=KR _ _;have l2:(s.rs.filter (z0 u)).countP dN<=s.rs.countP dN:=List.filter_sublist.countP_le;have v:∀{x:Nat},x<=2^(200+65*(n-s.st.length))->x<=2^(200+65*(n-(s.st.erase u).length)):=λB=>JR B (Kp 'b' ())
 have M:mu { s with st:=s.st.erase u,gn:=s.gn++[(u,(am s.bs u).1,(bS s u).map (bQ s.rs))],rs:=s.rs.filter (z0 u),rm:=(bS s u).reverse.foldl List.eraseIdx s.rm }<mu s:=by unfold mu;simp only;omega
 have hps:(bS s u).length<=s.rs.length:=by
  have:=KR (λi=>decide ((bQ s.rs i).1.getD u 0≠0)) (List.range s.rs.length)
  rwa [JQ]at this
 refine⟨⟨y,h.bl,h.gl,h.ll,h.ml,λw A=>h.sl w (jZ A),h.so.sublist List.erase_sublist,JR l1 I,O,λr l=>?_,λb o=>?_,h.gg,by change s.ln.length+_<=_;omega,by change s.gs.length+(s.st.erase u).length<=n;omega,?_,λd hd=>h.n1 d (t7 _ hd),h.n2,h.n3,h.n4,λr l w A L=>?_,λg j=>?_⟩,M⟩
 ·let⟨p,F,r3⟩:=h.rr r (J9.mp l).1;show⟨p,F,v r3⟩
 ·let⟨Q,R⟩:=h.bb b o;show⟨v Q,λm c=>v (R m c)⟩
 ·change (s.gn++[_]).length+(s.st.erase u).length=n;rw[Jr,J2];omega
 ·let⟨H,N⟩:=J9.mp l;by_cases e:w=u
  ·rw[e];show eq_of_beq N
  ·show h.z r H w A λc=>L (h.er.mpr ⟨e,c⟩)
 ·rcases JT.mp j with j|j
  ·let⟨b_,T,U⟩:=h.gr g j;show⟨b_,λc=>T (jZ c),U⟩
  ·rw[JB.mp j];refine⟨C,λc=>(h.er.mp c).1 S,lw y (h.lowU C).1,by change ((bS s u).map _).length<=30;rw[Jp];omega,λr l=>?_⟩;let⟨p,F⟩:=hgP_rows.mp l;let⟨q1,q2,q3⟩:=h.rr r p;refine⟨q1,?_,q2,lw y q3⟩
   have hnb:¬ r.1.getD u 0<0:=λG=>by have:ic s.rs u=ř:=L4.mpr ⟨r,p,Kk G⟩;rw[this]at o;cases o
   change 0<r.1.getD u 0;omega
def rO{bs:Y Bd}{rs:Y aq}{gl:Y Int}{u:Nat}(h:fe bs rs gl u=ř):(am bs u).2=ŗ/\gl.getD u 0=0/\ic rs u=Ś:=by unfold fe at h;simp only[KJ,Option.isNone_iff_eq_none,L3,M9]at h;show⟨h.1.1,h.1.2,h.2⟩
def wZ{r:aq}{u:Nat}(h:(dm r.1)[0]?=Z u):u<r.1.length/\r.1.getD u 0≠0:=by let⟨a,c⟩:=J9.mp (Jw h);show⟨JU.mp a,Kc c⟩
def Wy.row{n:Nat}{s t:Led}(h:Wy n s)(o:RowSt s ř t):Wy n t/\mu t<mu s:=by
 cases o with
 |idle j=>
  let⟨r,a,_⟩:=gW j;show h.drop (aC a)
 |single _ v a u=>
  let⟨c,l⟩:=wZ u;show h.tb a (by rw[(h.rr _ (Jw a)).1]at c;show c) l
 |uneven _ _ c a=>
  let⟨x,e,p⟩:=gW c;rw[a]at e;cases e;show h.ev a p
 |doubled _ _ _ g=>
  have:=aC g.ib;have:=g.ji;show h.drop (by split<;>omega)
def Wy.unk{n:Nat}{s t:Led}(h:Wy n s)(c:UnkSt s ř t):Wy n t/\mu t<mu s:=by
 cases c with
 |fixed a=>show h.fix (JW a) (h.lowU (h.sl _ (JW a))).1
 |sink _ a=>show h.fix (JW a) (h.lowU (h.sl _ (JW a))).1
 |rise _ _ a e=>show h.fix (JW a) ((h.lowU (h.sl _ (JW a))).2 _ e)
 |hang _ _ _ a=>show h.hang (JW a) (rO (LO a)).2.2
def dq(x y:Int)(xs ys:Y Int):av (x::xs) (y::ys)=x*y+av xs ys:=by simp[av]
theorem gc:∀{xs ys:Y Int}{k:Nat}(v:Int),xs.length=ys.length->k<ys.length->av xs (ys.set k v)=av xs ys+xs.getD k 0*(v-ys.getD k 0)
 | [],[],k,v,_,h=>absurd h (Kv _)
 |x::xs,y::ys,0,v,_,_=>by
  rw[Mm,dq,dq];change x*v+_=x*y+_+x*(v-y);rw[Int.mul_sub];omega
 |x::xs,y::ys,k+1,v,c,a=>by
  rw[M4,dq,dq,gc (xs:=xs) (ys:=ys) (k:=k) v (by simpa using c) (by simpa using a)];change x*y+(av xs ys+xs.getD k 0*(v-ys.getD k 0))=x*y+av xs ys+xs.getD k 0*(v-ys.getD k 0);omega
theorem kM:∀{xs ys:Y Int}{k:Nat}(v:Int),xs.length=ys.length->k<ys.length->av (xs.set k v) ys=av xs ys+(v-xs.getD k 0)*ys.getD k 0
 | [],[],k,v,_,h=>absurd h (Kv _)
 |x::xs,y::ys,0,v,_,_=>by
  rw[Mm,dq,dq];change v*y+_=x*y+_+(v-x)*y;rw[Int.sub_mul];omega
 |x::xs,y::ys,k+1,v,c,a=>by
  rw[M4,dq,dq,kM (xs:=xs) (ys:=ys) (k:=k) v (by simpa using c) (by simpa using a)];change x*y+(av xs ys+(v-xs.getD k 0)*ys.getD k 0)=x*y+av xs ys+(v-xs.getD k 0)*ys.getD k 0;omega
theorem pM:∀{as bs xs ys:Y Int},as.length=bs.length->xs.length=as.length->ys.length=bs.length->(∀i,i<as.length->as.getD i 0*xs.getD i 0<=bs.getD i 0*ys.getD i 0)->av as xs<=av bs ys
 | [],[],[],[],_,_,_,_=>K1 _
 |a::as,b::bs,x::xs,y::ys,c,e,g,h=>by
  rw[dq,dq];have j:a*x<=b*y:=h 0 (by simp);have l:=pM (as:=as) (bs:=bs) (xs:=xs) (ys:=ys) (by simpa using c) (by simpa using e) (by simpa using g) λi hi=>h (i+1) (by simpa using hi);omega
def EE{xs ys:Y Int}(c:xs.length=ys.length)(h:∀i,i<xs.length->0<=xs.getD i 0*ys.getD i 0):0<=av xs ys:=by
 have e:∀(a:Y Int),av (List.replicate a.length 0) a=0:=by
  intro a
  induction a with
  |nil=>rfl
  |cons z a g=>rw[JH,Kl,dq,g,K0];rfl
 have:=pM (as:=List.replicate ys.length 0) (bs:=xs) (xs:=ys) (ys:=ys) (by rw[J1];show c.symm) (by rw[J1]) c.symm λi hi=>by
  rw[J1]at hi;rw[JD,LR hi];change 0*_<=_;rw[K0];show h i ()
 rw[e]at this;show this
structure SpotAt(n:Nat)(s:Led)(r:List Int):Prop where
 l:r.length=n
 z:∀u,u<n->u∉s.st->r.getD u 0=0
 b:∀u∈s.st,(am s.bs u).1<=r.getD u 0/\∀m,(am s.bs u).2=Z m->r.getD u 0<=m
 m:∀q∈s.rs,q.2<=av q.1 r
def A0{bs:Y Bd}{es:Y Int}{t:Int}(h:eX bs es=Z t):∀(i:Nat)(b:Bd)(e:Int),bs[i]?=Z b->es[i]?=Z e->0<e->b.2.isSome=ř:=λi b e g j l=>by
 unfold eX at h;split at h
 ·rename_i a;unfold gQ at a;rw[K7]at a;have c:id (gy b e)=ř:=a (gy b e) (Jw (i:=i) (by rw[LW,g,j]));unfold gy id at c
  cases o:b.2 with
  |some m=>rfl
  |none=>rw[o]at c;simp[l]at c
 ·cases h
def qM{a:Type}{xs:Y a}{p:Nat}{x:a}(h:x∈xs):x∈xs.eraseIdx p\/xs[p]?=Z x:=by
 let⟨i,hi⟩:=Ko h;by_cases c:i=p
 ·show .inr (c▸hi)
 ·refine .inl ?_;rw[LP];show⟨i,c,hi⟩
def CV{a:Type}{xs:Y a}{p:Nat}{x y:a}(h:x∈xs)(g:p<xs.length):x∈xs.set p y\/xs[p]?=Z x:=by
 let⟨i,hi⟩:=Ko h;by_cases c:i=p
 ·show .inr (c▸hi)
 ·show .inl (Jw (i:=i) (by rwa[JN (λe=>c e.symm)]))
def zj{a:Type}{xs:Y a}{p:Nat}{y:a}(c:p<xs.length):y∈xs.set p y:=Jw (i:=p) (JS c)
def wC{n u:Nat}{es r:Y Int}(h:(dm es).length=1)(g:(dm es)[0]?=Z u)(L:es.length=n)(M:r.length=n):av es r=es.getD u 0*r.getD u 0:=by
 have H:u<n:=by
  have:=(J9.mp (Jw g)).1;have:=JU.mp this;omega
 have A:∀i,i<n->i≠u->es.getD i 0=0:=λi hi v=>by
  refine Kt λF=>v ?_;have o:i∈dm es:=J9.mpr ⟨JU.mpr (),Kk F⟩
  cases p:dm es with
  |nil=>rw[p]at h;cases h
  |cons a l=>
   rw[p]at h g o;have e:l=[]:=Kq.mp (by simpa using h);subst e;have z:a=u:=JY g;rw[←z];show JB.mp o
 have B:av (es.set u 0) r=0:=by
  have a1:∀i,i<(es.set u 0).length->(es.set u 0).getD i 0=0:=λi hi=>by
   rw[lH];by_cases c:i=u
   ·rw[JC ⟨c,()⟩]
   ·rw[Jv (λh=>c h.1)];show A i (by rw[Ju]at hi;omega) c
  have e:(es.set u 0).length=r.length:=by rw[Ju];omega
  have I:=EE e λi hi=>by rw[a1 i hi,K0];show K1 _
  have C:=pM (as:=es.set u 0) (bs:=es.set u 0) (xs:=r) (ys:=r.map (- ·)) S e.symm (by rw[Jp];show e.symm) λi hi=>by rw[a1 i hi,K0,K0];show K1 _
  have E:∀(xs ys:Y Int),av xs (ys.map (- ·)) =-av xs ys:=by
   intro xs
   induction xs with
   |nil=>intro ys;simp[av]
   |cons x xs G=>
    intro ys
    cases ys with
    |nil=>simp[av]
    |cons y ys=>rw[JV,dq,dq,G,Int.mul_neg];omega
  rw[E]at C;omega
 have j:=kM (xs:=es) (ys:=r) (k:=u) 0 () ();rw[B]at j;rw[NO,NA]at j;omega
def wP(s:Led)(p u:Nat)(r:aq):(bG s p u r).st=s.st/\(bG s p u r).gl=s.gl/\(bG s p u r).gn=s.gn/\(bG s p u r).ex=s.ex:=by
 unfold bG;split
 ·show⟨S,S,S,S⟩
 ·split<;>show⟨S,S,S,S⟩
def jU{bs:Y Bd}{u v:Nat}{b:Bd}(a:u<bs.length):am (bs.set u b) v=if v=u then b else am bs v:=by
 unfold am;rw[JD,JD];by_cases c:v=u
 ·subst c;rw[JS a,JC S];rfl
 ·rw[JN (λe=>c e.symm),Jv c]
def At{n:Nat}{s:Led}{p u:Nat}{r:aq}(Q:s.bs.length=n)(R:u<n)(M:r.1.getD u 0≠0){x:Nat->Int}(e:∀v∈s.st,(am (bG s p u r).bs v).1<=x v/\∀m,(am (bG s p u r).bs v).2=Z m->x v<=m)(l:u∈s.st):(∀v∈s.st,(am s.bs v).1<=x v/\∀m,(am s.bs v).2=Z m->x v<=m)/\r.2<=r.1.getD u 0*x u:=by
 have G:(0:Int)<((r.1.getD u 0).natAbs:Int):=by omega
 have F:=λm=>nj (b:=r.2) (m:=m) G;have B:dB r.2 ((r.1.getD u 0).natAbs:Int) = -(-r.2/((r.1.getD u 0).natAbs:Int)):=rfl
 have C:0<r.1.getD u 0->dB r.2 ((r.1.getD u 0).natAbs:Int)<=x u->r.2<=r.1.getD u 0*x u:=λI a=>by
  rw[B]at a;have:=(F _).mp a
  rwa [show (((r.1.getD u 0).natAbs:Nat):Int)=r.1.getD u 0 by omega]at this
 have E:r.1.getD u 0<0->x u<=-dB r.2 ((r.1.getD u 0).natAbs:Int)->r.2<=r.1.getD u 0*x u:=λI a=>by
  rw[B]at a;have:=(F (-x u)).mp ();rw[show (((r.1.getD u 0).natAbs:Nat):Int) = -r.1.getD u 0 by omega,Int.neg_mul_neg]at this;show this
 unfold bG at e;generalize dB r.2 ((r.1.getD u 0).natAbs:Int)=b at *;split at e
 ·rename_i h;have g:∀v∈s.st,(am (s.bs.set u (b,(am s.bs u).2)) v).1<=x v/\∀m,(am (s.bs.set u (b,(am s.bs u).2)) v).2=Z m->x v<=m:=e;refine⟨λv z=>?_,C h.1 ?_⟩
  ·have:=g v z;rw[jU ()]at this;by_cases c:v=u
   ·rw[JC c]at this;subst c;show⟨Nj (Int.le_of_lt h.2) this.1,this.2⟩
   ·rwa [Jv c]at this
  ·have:=(g u l).1
   rwa [jU (),JC S]at this
 ·rename_i h;split at e
  ·rename_i a;have g:∀v∈s.st,(am (s.bs.set u ((am s.bs u).1,Z (-b))) v).1<=x v/\∀m,(am (s.bs.set u ((am s.bs u).1,Z (-b))) v).2=Z m->x v<=m:=e;have j:=g u l;rw[jU (),JC S]at j;have o:x u<=-b:=j.2 _ S;refine⟨λv z=>?_,E a.1 o⟩;have:=g v z;rw[jU ()]at this;by_cases c:v=u
   ·rw[JC c]at this;subst c;show⟨this.1,λm y=>by have:=a.2 m y;omega⟩
   ·rwa [Jv c]at this
  ·rename_i a;refine⟨e,?_⟩;let⟨N,H⟩:=e u l;by_cases c:0<r.1.getD u 0
   ·show C c (by have:¬ (am s.bs u).1<b:=λL=>h ⟨c,L⟩;omega)
   ·have A:r.1.getD u 0<0:=by omega
    refine E A (Kt λO=>a ⟨A,λm y=>?_⟩);have:=H m y;omega
def qm{n:Nat}{s:Led}(h:Wy n s){r:aq}(e:r∈s.rs){u:Nat}(g:u<n)(a:r.1.getD u 0≠0):u∈s.st:=Kt λc=>a (h.z r e u g c)
def wE{g:Gn}{gs:Y Gn}{f:Y Int->Gn->Y Int}{x:Y Int}:(gs++[g]).reverse.foldl f x=gs.reverse.foldl f (f x g):=by rw[List.reverse_append];rfl
def gj{xs:Y Int}{k j:Nat}{v:Int}(a:k<xs.length):(xs.set k v).getD j 0=if j=k then v else xs.getD j 0:=by
 rw[lH];by_cases c:j=k
 ·rw[JC ⟨c,a⟩,JC c]
 ·rw[Jv (λh=>c h.1),Jv c]
def ue{s t:Led}(h:RowSt s ř t):t.st=s.st/\t.gl=s.gl/\t.gn=s.gn/\t.ex=s.ex:=by
 cases h with
 |idle=>show⟨S,S,S,S⟩
 |single=>show wP _ _ _ _
 |uneven=>show⟨S,S,S,S⟩
 |doubled=>show⟨S,S,S,S⟩
def x9(u:Nat)(l:Int)(rs:Y aq)(sp:Y Int):l<=i7 u l rs sp/\(∀r∈rs,fo u sp r<=i7 u l rs sp):=by let⟨a,c,_⟩:=nZ (rs.map (fo u sp)) l;show⟨a,λr e=>c _ (JL.mpr ⟨r,e,S⟩)⟩
def Be{u n:Nat}{sp:Y Int}{r:aq}{v:Int}(a:0<r.1.getD u 0)(h:fo u sp r<=v)(c:sp.getD u 0=0)(e:r.1.length=n)(g:sp.length=n)(j:u<n):r.2<=av r.1 (sp.set u v):=by
 rw[gc v () (),c,Nq];have:=(nj (b:=r.2-av r.1 sp) (m:=v) a).mp h;omega
theorem qG:∀(ps:Y (Nat×Int))(sp:Y Int)(u:Nat),u∉ps.map (·.1)->(fg sp ps).getD u 0=sp.getD u 0
 | [],sp,u,_=>rfl
 |p::ps,sp,u,h=>by change (fg (sp.set p.1 p.2) ps).getD u 0=_;rw[qG ps _ u (λa=>h (Jy _ a)),lH,Jv (λe=>h (by rw[e.1];show JA))]
def vV{st:Y Nat}{xs:Y Int}(h:xs.length=st.length):(List.zip st xs).map (·.1)=st:=by rw[List.map_fst_zip ()]
def zg{n:Nat}{st:Y Nat}{xs:Y Int}{u:Nat}(h:xs.length=st.length)(a:u∉st):(dL n st xs).getD u 0=0:=by unfold dL;rw[qG _ _ u (by rwa[vV h])];rw[JD,KS];split<;>rfl
theorem xE:∀{st:Y Nat}{xs sp:Y Int}{k u:Nat},xs.length=st.length->st.Nodup->(∀u∈st,u<sp.length)->st[k]?=Z u->(fg sp (List.zip st xs)).getD u 0=xs.getD k 0
 | [],_,_,k,u,_,_,_,h=>by cases h
 |a::st,x::xs,sp,0,u,c,hd,e,h=>by
  cases h;rw[JZ]at hd;change (fg (sp.set a x) (List.zip st xs)).getD a 0=x;rw[qG _ _ a (by rw[vV (by simpa using c)];show hd.1),gj (e a JA),JC S]
 |a::st,x::xs,sp,k+1,u,c,hd,e,h=>by rw[JZ]at hd;show xE (sp:=sp.set a x) (by simpa using c) hd.2 (λu g=>by rw[Ju];show e u (Jy _ g)) h
def vT{n:Nat}{st:Y Nat}{xs:Y Int}{k u:Nat}(a:xs.length=st.length)(hd:st.Nodup)(c:∀u∈st,u<n)(h:st[k]?=Z u):(dL n st xs).getD u 0=xs.getD k 0:=xE a hd (λu e=>by rw[J1];show c u e) h
theorem wb:∀{st:Y Nat}{xs sp es:Y Int},xs.length=st.length->st.Nodup->(∀u∈st,u<sp.length/\sp.getD u 0=0)->es.length=sp.length->av es (fg sp (List.zip st xs))=av es sp+av (pk 0 es st) xs
 | [],[],sp,es,_,_,_,_=>by change av es sp=av es sp+0;omega
 |a::st,x::xs,sp,es,j,hd,c,h=>by
  rw[JZ]at hd;let⟨a1,a2⟩:=c a JA;change av es (fg (sp.set a x) (List.zip st xs))=av es sp+av (es.getD a 0::pk 0 es st) (x::xs);rw[wb (by simpa using j) hd.2 (λu g=>?_) (by rwa[Ju]),gc x h a1,a2,Nq,dq]
  ·omega
  ·let⟨l,o⟩:=c u (Jy _ g);refine⟨by rwa[Ju],?_⟩;rwa[lH,Jv (λe:u=a/\a<sp.length=>hd.1 (e.1▸g))]
theorem tE:∀(es:Y Int)(n:Nat),av es (List.replicate n 0)=0
 | [],_=>rfl
 |_::_,0=>rfl
 |e::es,n+1=>by rw[Kl,dq,tE es n,NP];rfl
def uD{n:Nat}{st:Y Nat}{xs es:Y Int}(a:xs.length=st.length)(hd:st.Nodup)(c:∀u∈st,u<n)(g:es.length=n):av es (dL n st xs)=av (pk 0 es st) xs:=by unfold dL;rw[wb a hd (λu e=>⟨by rw[J1];show c u e,?_⟩) (by rwa[J1]),tE,Kn];rw[JD,KS];split<;>rfl
def uv{n k:Nat}{xs:Y Int}(g:k<n)(h:xs.length=n):av (dA n k) xs=xs.getD k 0:=by
 have e:dA n k=(List.replicate n 0).set k 1:=by
  refine K2 λi=>?_;unfold dA;rw[JF];by_cases hi:i<n
  ·rw[LL hi];by_cases c:i=k
   ·subst c;rw[JS (by rwa[J1])];simp
   ·rw[JN (λe=>c e.symm),LR hi];simp[c]
  ·rw[Kd (by rw[JQ];omega),Kd (by rw[Ju,J1];omega)];rfl
 have a:av (List.replicate n 0) xs=0:=by
  have:∀(m:Nat)(ys:Y Int),av (List.replicate m 0) ys=0:=by
   intro m
   induction m with
   |zero=>intro ys;rfl
   |succ m j=>intro ys;cases ys with
    |nil=>rfl
    |cons y ys=>rw[Kl,dq,j,K0];rfl
  show this n xs
 rw[e,kM 1 (by rw[J1,h]) (),a];rw[JD,LR g];change 0+(1-0)*_=_;omega
def CY{n k:Nat}{xs:Y Int}{b:Int}(c:k<n)(e:xs.length=n):av (kh (dA n k,b)).1 xs = -xs.getD k 0:=by
 have a:∀(xs ys:Y Int),av (xs.map (- ·)) ys =-av xs ys:=by
  intro xs
  induction xs with
  |nil=>intro ys;rfl
  |cons x xs g=>
   intro ys
   cases ys with
   |nil=>rfl
   |cons y ys=>rw[JV,dq,dq,g,NA];omega
 change av ((dA n k).map (- ·)) xs=_;rw[a,uv c e]
def giv_all{P:aq->Prop}{bs:Y Bd}{rs:Y aq}:(∀r∈bY bs rs,P r)↔(∀k,k<bs.length->P (fm bs k))/\(∀k,k<bs.length->(am bs k).2.isSome=ř->P (cJ bs k))/\∀r∈rs,P r:=by
 unfold bY;constructor
 ·intro h;refine⟨λk e=>h _ ?_,λk e o=>h _ ?_,λr c=>h _ ?_⟩
  ·show LG _ (LG _ (JL.mpr ⟨k,JU.mpr e,S⟩))
  ·show LG _ (Ki _ (JL.mpr ⟨k,J9.mpr ⟨JU.mpr e,o⟩,S⟩))
  ·show Ki _ c
 ·rintro⟨g,j,l⟩ r c;rcases JT.mp c with c|c
  ·rcases JT.mp c with c|c
   ·let⟨k,e,rfl⟩:=JL.mp c;show g k (JU.mp e)
   ·let⟨k,e,rfl⟩:=JL.mp c;let⟨a,b⟩:=J9.mp e;show j k (JU.mp a) b
  ·show l r c
def oA{n:Nat}{bs:Y Bd}{rs:Y aq}{x:Y Int}(j:bs.length=n)(u:x.length=n):(∀r∈bY bs rs,r.2<=av r.1 x)↔(∀k,k<n->(am bs k).1<=x.getD k 0/\∀m,(am bs k).2=Z m->x.getD k 0<=m)/\∀r∈rs,r.2<=av r.1 x:=by
 have l:∀k,k<n->av (fm bs k).1 x=x.getD k 0:=λk c=>by change av (dA bs.length k) x=_;rw[j];show uv c u
 have o:∀k,k<n->av (cJ bs k).1 x = -x.getD k 0:=λk c=>by unfold cJ;rw[j];show CY c u
 have p:∀k m,(am bs k).2=Z m->(cJ bs k).2 = -m:=λk m e=>by unfold cJ kh;rw[e];rfl
 rw[giv_all,j];constructor
 ·rintro⟨g,v,h⟩;refine⟨λk c=>?_,h⟩;have a:=g k c;rw[l k c]at a;refine⟨a,λm e=>?_⟩;have b:=v k c (by rw[e];rfl);rw[o k c,p k m e]at b;omega
 ·rintro⟨g,h⟩;refine⟨λk c=>by rw[l k c];show (g k c).1,λk c e=>?_,h⟩;let⟨m,e⟩:=Mc.mp e;rw[o k c,p k m e];have:=(g k c).2 m e;omega
structure PlOk(n:Nat)(bs:List Bd)(rs:List aq)(gs:List Int):Prop where
 n8:n<=8
 bl:bs.length=n
 gl:gs.length=n
 rl:rs.length<=15
 rr:∀r∈rs,r.1.length=n/\(∀x∈r.1,x.natAbs<2^64)/\r.2.natAbs<=2^200
 bb:∀b∈bs,b.1.natAbs<=2^200/\∀m,b.2=Z m->m.natAbs<=2^200
 gg:∀x∈gs,x.natAbs<2^64
def Bq(n:Nat):∀d∈(List.range n).map aZ,NoL d:=λd hd=>by let⟨i,_,rfl⟩:=JL.mp hd;show .int _
def PlOk.wy{n:Nat}{bs:Y Bd}{rs:Y aq}{gs:Y Int}(h:PlOk n bs rs gs):Wy n (di bs rs gs):=by
 have x:=h.n8;have c:=h.bl
 have e:(di bs rs gs).st.length=n:=by change (List.range bs.length).length=n;rwa[JQ]
 have v:=h.rl
 have a:200+65*(n-(di bs rs gs).st.length)=200:=by rw[e];omega
 refine⟨h.n8,h.bl,h.gl,by change ((List.range bs.length).map aZ).length=n;rwa[Jp,JQ],by change (mO bs).length=n;unfold mO;rwa[Jp,JQ],λu l=>by rw[←c];show JU.mp l,LQ,by change rs.length<=30;omega,by change (cC _ rs.length).length=rs.length;unfold cC;rw[Jp,JQ],λr j=>by rw[a];show h.rr r j,λb c=>by rw[a];show h.bb b c,h.gg,?_,by change 0+(List.range bs.length).length<=n;rw[JQ];omega,by change 0+(List.range bs.length).length=n;rw[JQ];omega,λd hd=>?_,λd hd=>?_,Bq _,c9,λr j u l o=>absurd (JU.mpr (by rwa[c])) o,λg p=>by cases p⟩
 ·have:rs.countP dN<=rs.length:=NJ;unfold mu;rw[e];change 0+(64*n+2*rs.length+rs.countP dN)<=602;omega
 ·let⟨i,_,rfl⟩:=JL.mp (show d∈(List.range rs.length).map _ from hd);show .int _
 ·let⟨i,_,rfl⟩:=JL.mp (show d∈(List.range bs.length).map (gp bs)from hd);unfold gp;split
  ·show .int _
  ·show .non
noncomputable def dO(sp:Y Int)(g:Gn):Y Int:=sp.set g.1 (i7 g.1 g.2.1 g.2.2 sp)
noncomputable def gw(n:Nat)(s:Led)(x:Y Int):Y Int:=s.gn.reverse.foldl dO (dL n s.st x)
structure GOk(n:Nat)(g:Gn):Prop where
 u:g.1<n
 l:g.2.1.natAbs<=2^720
 r:g.2.2.length<=30
 rr:∀r∈g.2.2,r.1.length=n/\0<r.1.getD g.1 0/\(∀x∈r.1,x.natAbs<2^64)/\r.2.natAbs<=2^720
def Wy.gok{n:Nat}{s:Led}(h:Wy n s){g:Gn}(j:g∈s.gn):GOk n g:=by let⟨a,b,c,d,e⟩:=h.gr g j;show⟨a,c,d,e⟩
def AF{n k u:Nat}{l:Int}{rs:Y aq}{sp:Y Int}(y:n<=8)(z:720<=k)(E:∀x∈sp,x.natAbs<=2^k)(h:GOk n (u,l,rs)):(i7 u l rs sp).natAbs<=2^(k+68):=by
 let⟨_,_,p⟩:=nZ (rs.map (fo u sp)) l;have c:2^720<=2^k:=Kp 'b' z;have j:2^(k+68)=2^k*2^68:=Nat.pow_add ..
 have v:1<=2^68:=by decide
 have g:2^k<=2^k*2^68:=Nat.le_mul_of_pos_right _ 'b';rcases JI.mp p with e|e
 ·change ((rs.map (fo u sp)).foldl max l).natAbs<=_;rw[e,j];show JR h.l (JR c g)
 ·let⟨r,C,e⟩:=JL.mp e;change ((rs.map (fo u sp)).foldl max l).natAbs<=_;rw[←e];let⟨G,H,I,L⟩:=h.rr r C;unfold fo;have M:(dB (r.2-av r.1 sp) (r.1.getD u 0)).natAbs<=(r.2-av r.1 sp).natAbs:=pQ (a:=r.2-av r.1 sp) H;have o:=lu (A:=2^64) (B:=2^k) (λx F=>KQ (I x F)) E;rw[G]at o;have N:n*(2^64*2^k)<=8*(2^64*2^k):=Ll _ y
  have O:(r.2-av r.1 sp).natAbs<=r.2.natAbs+(av r.1 sp).natAbs:=by omega
  have Q:8*(2^64*2^k)+2^k<=2^k*2^68:=by
   rw[←Nat.mul_assoc,MK (2^k) (2^68)];have:(8*2^64+1)*2^k<=2^68*2^k:=Ll _ 'b';rw[Ny,Nat.one_mul]at this;show this
  rw[j];have R:r.2.natAbs<=2^720:=L;omega
theorem tT{n:Nat}(e:n<=8):∀{gs:Y Gn}{sp:Y Int}{k:Nat},720<=k->(∀g∈gs,GOk n g)->(∀x∈sp,x.natAbs<=2^k)->∀x∈gs.foldl dO sp,x.natAbs<=2^(k+68*gs.length)
 | [],sp,k,_,_,c=>c
 |g::gs,sp,k,j,h,c=>by
  have:=tT e (gs:=gs) (sp:=dO sp g) (k:=k+68) () (λx a=>h x (Jy _ a)) λx a=>by
   rcases iK a with a|rfl
   ·show JR (c x a) (Kp 'b' ())
   ·show AF e j c (h g JA)
  rwa[show k+68*(g::gs).length=k+68+68*gs.length by rw[JH];omega]
theorem wK:∀(ps:Y (Nat×Int)){sp:Y Int}{x:Int},x∈fg sp ps->x∈sp\/x∈ps.map (·.2)
 | [],_,_,h=>.inl h
 |p::ps,sp,x,h=>by
  rcases wK ps (sp:=sp.set p.1 p.2) h with h|h
  ·rcases iK h with h|rfl
   ·show .inl h
   ·show .inr JA
  ·show .inr (Jy _ h)
def Ii{n:Nat}{st:Y Nat}{xs:Y Int}{x:Int}(h:x∈dL n st xs):x=0\/x∈xs:=by
 rcases wK _ h with h|h
 ·show .inl (Nn h)
 ·let⟨p,a,rfl⟩:=JL.mp h;show .inr (Ly a).2
def IA{n:Nat}{st:Y Nat}{xs:Y Int}{k:Nat}(h:∀x∈xs,x.natAbs<=2^k):∀x∈dL n st xs,x.natAbs<=2^k:=λx a=>by
 rcases Ii a with rfl|a
 ·show Lh _
 ·show h x a
def ze{x k:Nat}(h:x<=2^k)(a:k<=1300):x<2^60000:=K6 h (KY 'b' ())
def yc{n:Nat}:∀{bs:Y Bd}{es xs:Y Int},bs.length=n->es.length=n->xs.length=n->(∀i,i<n->es.getD i 0*xs.getD i 0<=ft (am bs i) (es.getD i 0))->av es xs<=(List.zipWith ft bs es).sum:=by
 induction n with
 |zero=>
  intro bs es xs a c g _;rw[Kq.mp a,Kq.mp c];show K1 _
 |succ n j=>
  intro bs es xs a c g h
  match bs,es,xs,a,c,g with
  |b::bs,e::es,x::xs,a,c,g=>
   rw[dq,List.zipWith_cons_cons,List.sum_cons];have l:e*x<=ft b e:=h 0 ();have:=j (bs:=bs) (es:=es) (xs:=xs) (by simpa using a) (by simpa using c) (by simpa using g) λi hi=>h (i+1) ();omega
def ua{n:Nat}{bs:Y Bd}{es xs:Y Int}{t:Int}(a:eX bs es=Z t)(p:bs.length=n)(r:es.length=n)(v:xs.length=n)(h:∀i,i<n->es.getD i 0≠0->(am bs i).1<=xs.getD i 0/\∀m,(am bs i).2=Z m->xs.getD i 0<=m):av es xs<=t:=by
 have u:=A0 a;unfold eX at a;split at a
 ·rw[←JY a];refine yc p r v λi hi=>?_;have o:=u i (am bs i) (es.getD i 0) (bU ()) (bU ());have j:=h i hi;generalize es.getD i 0=e at *;generalize xs.getD i 0=x at *;generalize am bs i=b at *;unfold ft;by_cases c:0<e
  ·rw[JC c];let⟨m,l⟩:=Mc.mp (o c);rw[l];show LS ((j ()).2 m l) ()
  ·rw[Jv c];by_cases g:e<0
   ·rw[JC g];show LU () (j ()).1
   ·rw[Jv g,show e=0 by omega,K0];show K1 _
 ·cases a
theorem vJ:∀(xs ys:Y Int),av (xs.map (- ·)) ys =-av xs ys
 | [],_=>rfl
 |_::_,[]=>rfl
 |x::xs,y::ys=>by rw[JV,dq,dq,vJ xs ys,NA];omega
def Eu{n:Nat}{bs:Y Bd}{es xs:Y Int}{t:Int}(a:jk bs es=Z t)(j:bs.length=n)(p:es.length=n)(l:xs.length=n)(h:∀i,i<n->es.getD i 0≠0->(am bs i).1<=xs.getD i 0/\∀m,(am bs i).2=Z m->xs.getD i 0<=m):t<=av es xs:=by
 unfold jk at a
 cases c:eX bs (es.map (- ·))with
 |none=>rw[c]at a;cases a
 |some t'=>
  rw[c]at a;have o:-t'=t:=JY a;have:=ua c j (by rwa[Jp]) l λi hi g=>h i hi λe=>g (by rw[xm (- ·) S,e];rfl);rw[vJ]at this;omega
def SpotAt.within{n:Nat}{s:Led}{x:Y Int}(h:Wy n s)(e:SpotAt n s x){q:aq}(c:q∈s.rs):∀i,i<n->q.1.getD i 0≠0->(am s.bs i).1<=x.getD i 0/\∀m,(am s.bs i).2=Z m->x.getD i 0<=m:=λi hi a=>e.b i (qm h c hi a)
def SpotAt.row{n:Nat}{s t:Led}{x:Y Int}(h:Wy n s)(hR:RowSt s ř t):SpotAt n t x↔SpotAt n s x:=by
 cases hR with
 | @idle p h1=>
  let⟨r,A,B⟩:=gW h1;refine⟨λl=>⟨l.l,l.z,l.b,λq z=>?_⟩,λl=>⟨l.l,l.z,l.b,λq z=>l.m q (K8 z)⟩⟩;rcases qM (p:=p) z with o|o
  ·show l.m q o
  ·rw[A]at o;cases o;unfold e7 at B
   cases R:jk s.bs r.1 with
   |none=>rw[R]at B;cases B
   |some t=>
    rw[R]at B;have:=Eu R h.bl (h.rr r z).1 l.l λi hi Oh=>l.b i (qm h z hi Oh);have:=Kc B;omega
 | @single p u r _ h2 A b_=>
  let⟨r',G,B⟩:=gW h2;rw[A]at G;cases G;have E:=Jw A;let⟨O,h4⟩:=wZ b_
  have be:u<n:=by rw[(h.rr r E).1]at O;show O
  let⟨I,e2⟩:=wY s p u r;let⟨L,e4,e5,e6⟩:=wP s p u r;have U:=qm h E be h4;constructor
  ·intro l;have hb:∀v∈s.st,(am (bG s p u r).bs v).1<=x.getD v 0/\∀m,(am (bG s p u r).bs v).2=Z m->x.getD v 0<=m:=λv F=>l.b v (show v∈(bG s p u r).st by rwa[L]);let⟨b1,b2⟩:=At (x:=λv=>x.getD v 0) h.bl be h4 hb U;refine⟨l.l,λv F a_=>l.z v F (show v∉(bG s p u r).st by rwa[L]),b1,λq z=>?_⟩;rcases qM (p:=p) z with o|o
   ·show l.m q (show q∈(bG s p u r).rs.eraseIdx p by rwa[I])
   ·rw[A]at o;cases o;rwa[wC (Kc B) b_ (h.rr r z).1 l.l]
  ·intro l;have TK:=l.m r E;rw[wC (Kc B) b_ (h.rr r E).1 l.l]at TK
   have QN:(0:Int)<((r.1.getD u 0).natAbs:Int):=by omega
   have H:=λm=>nj (b:=r.2) (m:=m) QN;have X:dB r.2 ((r.1.getD u 0).natAbs:Int) = -(-r.2/((r.1.getD u 0).natAbs:Int)):=rfl;have VS:=l.b u U;refine⟨l.l,λv F a_=>l.z v F (λE=>a_ (show v∈(bG s p u r).st by rwa[L])),λv F=>?_,λq z=>l.m q ?_⟩
   ·have SU:v∈s.st:=by have:v∈(bG s p u r).st:=F;rwa [L]at this
    have Q:=l.b v SU;change (am (bG s p u r).bs v).1<=_/\∀m,(am (bG s p u r).bs v).2=Z m->_;unfold bG;split
    ·rename_i c;change (am (s.bs.set u _) v).1<=_/\∀m,(am (s.bs.set u _) v).2=Z m->_;rw[jU (by rwa[h.bl])];by_cases e:v=u
     ·subst e;rw[JC S];refine⟨?_,Q.2⟩;change dB _ _<=_;rw[X];refine (H _).mpr ?_
      rwa [show (((r.1.getD v 0).natAbs:Nat):Int)=r.1.getD v 0 by omega]
     ·rwa[Jv e]
    ·split
     ·rename_i c;change (am (s.bs.set u _) v).1<=_/\∀m,(am (s.bs.set u _) v).2=Z m->_;rw[jU (by rwa[h.bl])];by_cases e:v=u
      ·subst e;rw[JC S];refine⟨Q.1,λm E=>?_⟩;cases E;have:=(H (-x.getD v 0)).mpr (by rwa[show (((r.1.getD v 0).natAbs:Nat):Int) = -r.1.getD v 0 by omega,Int.neg_mul_neg]);rw[X];omega
      ·rwa[Jv e]
     ·show Q
   ·have:q∈(bG s p u r).rs.eraseIdx p:=z;rw[I]at this;show K8 this
 | @uneven p r _ _ O A=>
  let⟨r',G,B⟩:=gW O;rw[A]at G;cases G;let⟨I,e2,L⟩:=uR B;have H:=λm=>nj (b:=r.2) (g:=bp r.1) (m:=m) ();have M:=sR (g:=bp r.1) (ns:=x) () (oE r.1);refine⟨λl=>⟨l.l,l.z,l.b,λq z=>?_⟩,λl=>⟨l.l,l.z,l.b,λq z=>?_⟩⟩
  ·rcases CV (y:=fS r) z (aC A)with o|o
   ·show l.m q o
   ·rw[A]at o;cases o;have:=l.m (fS r) (zj (aC A));rw[I]at this;rw[M];show (H _).mp this
  ·rcases iK z with o|rfl
   ·show l.m q o
   ·rw[I];refine (H _).mpr ?_;rw[←M];show l.m r (Jw A)
 | @doubled j i a b _ _ _ C=>
  refine⟨λl=>⟨l.l,l.z,l.b,λq z=>?_⟩,λl=>⟨l.l,l.z,l.b,λq z=>l.m q (K8 z)⟩⟩;rcases qM (p:=if a.2<b.2 then j else i) z with o|o
  ·show l.m q o
  ·have hji:=C.ji
   have T:∃N,N∈s.rs.eraseIdx (if a.2<b.2 then j else i)/\N.1=q.1/\q.2<=N.2:=by
    split at o
    ·rename_i c;rw[C.ja]at o;cases o;show⟨b,by rw[LP];show⟨i,by split<;>omega,C.ib⟩,C.eq.symm,()⟩
    ·rename_i c;rw[C.ib]at o;cases o;show⟨a,by rw[LP];show⟨j,by split<;>omega,C.ja⟩,C.eq,()⟩
   let⟨N,RZ,e,hle⟩:=T;have:=l.m N RZ;rw[e]at this;omega
def vp{b:Bd}(h:ir b=Ś):∀m,b.2=Z m->b.1<=m:=λm a=>by
 unfold ir at h;rw[a]at h;have:=KH h;omega
def Hj{bs:Y Bd}{u:Nat}(h:eG bs u=ř):(am bs u).2=Z (am bs u).1:=by
 unfold eG at h
 cases a:(am bs u).2 with
 |none=>rw[a]at h;cases h
 |some m=>rw[a]at h;rw[Kc h]
def IM{bs:Y Bd}{rs:Y aq}{gl:Y Int}{u:Nat}(h:eY bs rs gl u=ř):ir (am bs u)=Ś/\gl.getD u 0<=0/\∀r∈rs,r.1.getD u 0<=0:=by
 unfold eY at h;simp only[KJ,M9,LV]at h;refine⟨h.1.1,h.1.2,λr a=>Kt λc=>?_⟩;have:lj rs u=ř:=L4.mpr ⟨r,a,Kk ()⟩;rw[this]at h;cases h.2
def xC{rs:Y aq}{u:Nat}(h:ic rs u=Ś):∀r∈rs,0<=r.1.getD u 0:=λr a=>Kt λc=>by have:ic rs u=ř:=L4.mpr ⟨r,a,Kk ()⟩;rw[this]at h;cases h
def zx{bs:Y Bd}{rs:Y aq}{gl:Y Int}{u:Nat}(h:fh bs rs gl u=ř):ir (am bs u)=Ś/\0<=gl.getD u 0/\∀r∈rs,0<=r.1.getD u 0:=by unfold fh at h;simp only[KJ,M9,LV]at h;show⟨h.1.1.2,h.1.2,xC h.2⟩
structure FixV(s:Led)(u:Nat)(v:Int):Prop where
 lo:(am s.bs u).1<=v
 hi:∀m,(am s.bs u).2=Z m->v<=m
 rs:∀y:Int,(am s.bs u).1<=y->(∀m,(am s.bs u).2=Z m->y<=m)->(∀r∈s.rs,r.1.getD u 0*y<=r.1.getD u 0*v)/\s.gl.getD u 0*y<=s.gl.getD u 0*v
def wo{s t:Led}(x:UnkSt s ř t):(∃u v,u∈s.st/\t=fC s u v/\FixV s u v/\((am s.bs u).1=v\/(am s.bs u).2=Z v))\/∃u,u∈s.st/\t=fP s u/\fe s.bs s.rs s.gl u=ř:=by
 cases x with
 | @fixed u g=>
  have e:=Hj (LO g);refine .inl ⟨_,_,JW g,S,⟨K1 _,λm h=>by rw[e]at h;cases h;show K1 _,λy l j=>?_⟩,.inl S⟩
  have:y=(am s.bs u).1:=by have:=j _ e;omega
  rw[this];show⟨λ_ _=>K1 _,K1 _⟩
 |sink _ g=>
  let⟨a,b,c⟩:=IM (LO g);show .inl ⟨_,_,JW g,S,⟨K1 _,vp a,λy l j=>⟨λr o=>LU (c r o) l,LU b l⟩⟩,.inl S⟩
 |rise _ _ g h=>
  let⟨a,b,c⟩:=zx (LO g);show .inl ⟨_,_,JW g,S,⟨vp a _ h,λz p=>by rw[h]at p;cases p;show K1 _,λy l j=>⟨λr o=>LS (j _ h) (c r o),LS (j _ h) b⟩⟩,.inr h⟩
 |hang _ _ _ g=>show .inr ⟨_,JW g,S,LO g⟩
noncomputable def SpotBk(a:Led)(n:Nat)(s:Led):Prop:=s.gl=a.gl/\∀x,SpotAt n s x->SpotAt n a (s.gn.reverse.foldl dO x)/\(∀u∈s.st,(s.gn.reverse.foldl dO x).getD u 0=x.getD u 0)/\av a.gl (s.gn.reverse.foldl dO x)=av a.gl x+s.ex
noncomputable def SpotFw(a:Led)(n:Nat)(s:Led):Prop:=∀x,SpotAt n a x->∃y,SpotAt n s y/\av a.gl x<=av a.gl y+s.ex
def SpotBk.row{e:Led}{n:Nat}{s t:Led}(c:SpotBk e n s)(h:Wy n s)(a:RowSt s ř t):SpotBk e n t:=by let⟨g,j,l,o⟩:=ue a;refine⟨j.trans c.1,λx p=>?_⟩;rw[l,g,o];show c.2 x ((SpotAt.row h a).mp p)
def SpotFw.row{c:Led}{n:Nat}{s t:Led}(g:SpotFw c n s)(h:Wy n s)(a:RowSt s ř t):SpotFw c n t:=λx j=>by let⟨y,l,u⟩:=g x j;let⟨o,p,r,e⟩:=ue a;show⟨y,(SpotAt.row h a).mpr l,by rwa[e]⟩
def SpotAt.fix{n:Nat}{s t:Led}{u:Nat}{v:Int}{x:Y Int}(h:Wy n s)(r:u∈s.st)(y:FixV s u v)(E:FixE s u v t)(a:SpotAt n t x):SpotAt n s (x.set u v)/\x.getD u 0=0:=by
 have z:=h.sl u r;have B:=a.l;have l:x.getD u 0=0:=a.z u z (by rw[E.st];show λg=>(h.er.mp g).1 S);refine⟨⟨by rwa[Ju],λw j o=>?_,λw j=>?_,λq p=>?_⟩,l⟩
 ·rw[gj (),Jv (λe:w=u=>o (e▸r))];show a.z w j (by rw[E.st];show λg=>o (jZ g))
 ·rw[gj ()];by_cases c:w=u
  ·subst c;rw[JC S];show⟨y.lo,y.hi⟩
  ·rw[Jv c];have:=a.b w (by rw[E.st];show h.er.mpr ⟨c,j⟩)
   rwa [E.bs]at this
 ·have:=a.m (eA u v q) (by rw[E.rs];show JL.mpr ⟨q,p,S⟩);have A:=(h.rr q p).1;rw[gc v () (),l,Nq];unfold eA at this;split at this
  ·rename_i c;rw[c,K0];omega
  ·rw[kM 0 (by rw[A,a.l]) (by rwa[a.l]),l,NP,L1]at this;omega
def SpotBk.fix{j:Led}{n:Nat}{s t:Led}{u:Nat}{v:Int}(a:SpotBk j n s)(h:Wy n s)(c:u∈s.st)(p:FixV s u v)(E:FixE s u v t):SpotBk j n t:=by
 refine⟨E.gl.trans a.1,λx g=>?_⟩;let⟨o,r⟩:=g.fix h c p E;have A:=h.sl u c;have l:=g.l;rw[E.gn,wE,show dO x (u,v,[])=x.set u v from rfl];let⟨a1,a2,a3⟩:=a.2 _ o;refine⟨a1,λw e=>?_,?_⟩
 ·rw[E.st]at e;let⟨y,z⟩:=h.er.mp e;rw[a2 w z,gj (),Jv y]
 ·rw[a3,gc v (by rw[←a.1,h.gl,l]) (),r,E.ex,a.1,Nq];omega
def SpotAt.fixF{n:Nat}{s t:Led}{u:Nat}{v:Int}{x:Y Int}(h:Wy n s)(o:u∈s.st)(C:FixV s u v)(E:FixE s u v t)(a:SpotAt n s x):SpotAt n t (x.set u 0)/\av s.gl x+s.ex<=av s.gl (x.set u 0)+t.ex:=by
 have I:=h.sl u o;have p:=a.l;let⟨z,A⟩:=a.b u o;let⟨B,L⟩:=C.rs _ z A;refine⟨⟨by rwa[Ju],λw e y=>?_,λw e=>?_,λq l=>?_⟩,?_⟩
 ·rw[gj ()];by_cases c:w=u
  ·rw[JC c]
  ·rw[Jv c];show a.z w e λj=>y (by rw[E.st];show h.er.mpr ⟨c,j⟩)
 ·rw[E.st]at e;let⟨F,G⟩:=h.er.mp e;rw[gj (),Jv F,E.bs];show a.b w G
 ·rw[E.rs]at l;let⟨r,g,rfl⟩:=JL.mp l;have H:=(h.rr r g).1;have j:=a.m r g;have M:=B r g;unfold eA;split
  ·rename_i c;rw[gc 0 () (),c,K0];omega
  ·change r.2-r.1.getD u 0*v<=av (r.1.set u 0) (x.set u 0);rw[kM 0 (by rw[Ju];omega) (by rw[Ju];omega),gj (),JC S,gc 0 () (),NP,L1,NO,Int.mul_neg];omega
 ·rw[gc 0 (by rw[h.gl,p]) (),E.ex,NO,Int.mul_neg];omega
def SpotBk.hang{C:Led}{n:Nat}{s:Led}{u:Nat}(j:SpotBk C n s)(h:Wy n s)(B:u∈s.st)(L:fe s.bs s.rs s.gl u=ř):SpotBk C n (fP s u):=by
 let⟨G,H,I⟩:=rO L;have z:=h.sl u B;have p:=xC I;rw[rJ];refine⟨j.1,λx g=>?_⟩;have N:x.getD u 0=0:=g.z u z (λo=>(h.er.mp o).1 S);have y:=g.l;dsimp only;rw[wE];have es:dO x (u,(am s.bs u).1,(bS s u).map (bQ s.rs))=x.set u (i7 u (am s.bs u).1 ((bS s u).map (bQ s.rs)) x):=rfl;rw[es];let⟨O,Q⟩:=x9 u (am s.bs u).1 ((bS s u).map (bQ s.rs)) x;generalize i7 u (am s.bs u).1 ((bS s u).map (bQ s.rs)) x=v at *
 have F:SpotAt n s (x.set u v):=by
  refine⟨by rwa[Ju],λw a A=>?_,λw a=>?_,λq l=>?_⟩
  ·rw[gj (),Jv (λe:w=u=>A (e▸B))];show g.z w a λo=>A (jZ o)
  ·rw[gj ()];by_cases c:w=u
   ·subst c;rw[JC S,G];show⟨O,λm M=>by cases M⟩
   ·rw[Jv c];show g.b w (h.er.mpr ⟨c,a⟩)
  ·have E:=(h.rr q l).1;by_cases c:q.1.getD u 0=0
   ·rw[gc v () (),c,K0,L1];show g.m q (J9.mpr ⟨l,L3.mpr c⟩)
   ·have:=p q l;show Be (r:=q) (n:=n) () (Q q (hgP_rows.mpr ⟨l,c⟩)) N E y z
 let⟨a1,a2,a3⟩:=j.2 _ F;refine⟨a1,λw a=>?_,?_⟩
 ·let⟨R,U⟩:=h.er.mp a;rw[a2 w U,gj (),Jv R]
 ·rw[a3,gc v (by rw[←j.1,h.gl,y]) (),←j.1,H,K0,L1]
def SpotAt.hangF{n:Nat}{s:Led}{u:Nat}{x:Y Int}(h:Wy n s)(y:u∈s.st)(p:fe s.bs s.rs s.gl u=ř)(a:SpotAt n s x):SpotAt n (fP s u) (x.set u 0)/\av s.gl x+s.ex<=av s.gl (x.set u 0)+(fP s u).ex:=by
 let⟨F,o,G⟩:=rO p;have C:=h.sl u y;have j:=a.l;rw[rJ];dsimp only;refine⟨⟨by rwa[Ju],λw e l=>?_,λw e=>?_,λq v=>?_⟩,?_⟩
 ·rw[gj ()];by_cases c:w=u
  ·rw[JC c]
  ·rw[Jv c];show a.z w e λr=>l (h.er.mpr ⟨c,r⟩)
 ·let⟨A,B⟩:=h.er.mp e;rw[gj (),Jv A];show a.b w B
 ·let⟨g,z⟩:=J9.mp v;have E:=(h.rr q g).1;rw[gc 0 () (),show q.1.getD u 0=0 from eq_of_beq z,K0,L1];show a.m q g
 ·rw[gc 0 (by rw[h.gl,j]) (),o,K0];omega
def SpotBk.unk{e:Led}{n:Nat}{s t:Led}(c:SpotBk e n s)(h:Wy n s)(g:UnkSt s ř t):SpotBk e n t:=by
 rcases wo g with⟨u,v,a,rfl,l,_⟩|⟨u,a,rfl,j⟩
 ·show c.fix h a l (rc _ _ _)
 ·show c.hang h a j
def SpotFw.unk{e:Led}{n:Nat}{s t:Led}(o:SpotFw e n s)(g:s.gl=e.gl)(h:Wy n s)(l:UnkSt s ř t):SpotFw e n t:=λx z=>by
 let⟨y,j,A⟩:=o x z;rcases wo l with⟨u,v,c,rfl,r,_⟩|⟨u,c,rfl,p⟩
 ·let⟨a,b⟩:=j.fixF h c r (rc _ _ _);rw[g]at b;show⟨_,a,()⟩
 ·let⟨a,b⟩:=j.hangF h c p;rw[g]at b;show⟨_,a,()⟩
def kK(e:Led)(n:Nat):Way (λs=>Wy n s/\SpotBk e n s/\SpotFw e n s) mu:=
 ⟨λt h=>⟨n,h.1.led⟩,λt t' h _ a=>⟨⟨(h.1.row a).1,h.2.1.row h.1 a,h.2.2.row h.1 a⟩,(h.1.row a).2⟩,λt t' h _ _ c=>⟨⟨(h.1.unk c).1,h.2.1.unk h.1 c,h.2.2.unk h.2.1.1 h.1 c⟩,(h.1.unk c).2⟩⟩
def jY{n:Nat}{bs:Y Bd}{rs:Y aq}{gs:Y Int}:SpotBk (di bs rs gs) n (di bs rs gs)/\SpotFw (di bs rs gs) n (di bs rs gs):=⟨⟨S,λx a=>⟨a,λ_ _=>rfl,(L1 _).symm⟩⟩,λx a=>⟨x,a,by change _<=_+0;omega⟩⟩
def EC{n:Nat}{s:Led}(h:Wy n s){x:Y Int}(c:SpotAt n s x):bw s=.non:=by
 unfold bw
 have l:s.st.find? (jh s.bs)=ŗ:=by
  rw[List.find?_eq_none];intro u v a;let⟨y,j⟩:=c.b u v;unfold jh ir at a
  cases e:(am s.bs u).2 with
  |none=>rw[e]at a;cases a
  |some m=>
   rw[e]at a;have:=Kc a;have:=j m e;omega
 have o:s.rs.findIdx? (fX s.bs)=ŗ:=by
  rw[Nc];intro r g;unfold fX
  cases p:eX s.bs r.1 with
  |none=>rfl
  |some t=>
   have z:=ua p h.bl (h.rr r g).1 c.l (c.within h g);have A:=c.m r g;show JX ()
 rw[l,o]
def Hw{n:Nat}{s:Led}(h:Wy n s){x:Y Int}(a:x.length=s.st.length)(y:∀r∈bY (pk (0,ŗ) s.bs s.st) (s.rs.map (fG s.st)),r.2<=av r.1 x):SpotAt n s (dL n s.st x):=by
 have o:(pk ((0:Int),(ŗ:Ř Int)) s.bs s.st).length=s.st.length:=by unfold pk;rw[Jp]
 let⟨p,v⟩:=(oA o a).mp y;refine⟨xg _ _ _,λu j l=>zg a l,λu j=>?_,λq g=>?_⟩
 ·let⟨k,c⟩:=Ko j;rw[vT a h.nd h.sl c];have:=p k (aC c);have e:am (pk (0,ŗ) s.bs s.st) k=am s.bs u:=fb (by unfold pk;rw[JF,c];rfl)
  rwa [e]at this
 ·rw[uD a h.nd h.sl (h.rr q g).1];show v (fG s.st q) (JL.mpr ⟨q,g,S⟩)
def Cn{n:Nat}{bs:Y Bd}{rs:Y aq}{gs:Y Int}{s:Led}(h:Wy n s)(j:bs.length=n)(l:SpotBk (di bs rs gs) n s){x:Y Int}(c:x.length=s.st.length)(u:∀r∈bY (pk (0,ŗ) s.bs s.st) (s.rs.map (fG s.st)),r.2<=av r.1 x) :
  (gw n s x).length=n/\(∀k,k<s.st.length->(gw n s x).getD (s.st.getD k 0) 0=x.getD k 0)/\(∀r∈bY bs rs,r.2<=av r.1 (gw n s x))/\av gs (gw n s x)=av (pk 0 s.gl s.st) x+s.ex:=by
 have p:=Hw h c u;let⟨a1,a2,a3⟩:=l.2 _ p;refine⟨a1.l,λk o=>?_,?_,?_⟩
 ·have g:=bU (d:=0) o;have:=a2 _ (Jw g);rw[vT c h.nd h.sl g]at this;show this
 ·refine (oA j a1.l).mpr ?_;show⟨λk o=>a1.b k (JU.mpr (by rwa[j])),a1.m⟩
 ·have e:gs=s.gl:=l.1.symm;have a:av gs (gw n s x)=av gs (dL n s.st x)+s.ex:=a3;rw[a,e,uD c h.nd h.sl h.gl]
noncomputable def dr(w:Nat)(b:Bd):Int:=match b.2 with
 |none=>b.1+w
 |some m=>if m<b.1+w then m else b.1+w
noncomputable def gh(lo hi:Int):Y Int:=(List.range (hi+1-lo).toNat).map λi=>lo+(i:Nat)
noncomputable def eu(w:Nat)(a:Y (Y Int))(b:Bd):Y (Y Int):=a.flatMap λsp=>(gh b.1 (dr w b)).map λv=>sp++[v]
noncomputable def dF(w:Nat)(bs:Y Bd):Y (Y Int):=bs.foldl (eu w) [[]]
def rngI_mem{lo hi x:Int}:x∈gh lo hi↔lo<=x/\x<=hi:=by
 unfold gh;rw[JL];constructor
 ·rintro⟨i,a,rfl⟩;have:=JU.mp a;omega
 ·rintro⟨c,e⟩;show⟨(x-lo).toNat,JU.mpr (),()⟩
def xr(lo:Int)(w:Nat)(b:Bd):(gh b.1 (dr w b)).length<=w+1:=by
 unfold gh dr;rw[Jp,JQ];split
 ·omega
 ·split<;>omega
theorem rR(w:Nat)(b:Bd):∀a:Y (Y Int),(eu w a b).length<=a.length*(w+1)
 | []=>by unfold eu;simp
 |sp::a=>by
  have c:=rR w b a
  have e:eu w (sp::a) b=(gh b.1 (dr w b)).map (λv=>sp++[v])++eu w a b:=by unfold eu;rw[List.flatMap_cons]
  rw[e,Jr,Jp,JH,Ny,Nat.one_mul];have:=xr 0 w b;omega
def qV(w:Nat)(bs:Y Bd)(b:Bd):dF w (bs++[b])=eu w (dF w bs) b:=by unfold dF;rw[LF];rfl
def EL(w:Nat):∀bs:Y Bd,(dF w bs).length<=(w+1)^bs.length:=by
 refine rh (by change 1<=1;decide) λbs b a=>?_;rw[qV,Jr,J2,Nat.pow_succ];show JR (rR w b _) (Ll _ a)
def Ew{w:Nat}{e:Y (Y Int)}{b:Bd}{x:Y Int}:x∈eu w e b↔∃sp∈e,∃v,(b.1<=v/\v<=dr w b)/\x=sp++[v]:=by
 unfold eu;rw[MB];constructor
 ·rintro⟨sp,a,g⟩;let⟨v,c,rfl⟩:=JL.mp g;show⟨sp,a,v,rngI_mem.mp c,S⟩
 ·rintro⟨sp,a,v,c,rfl⟩;show⟨sp,a,JL.mpr ⟨v,rngI_mem.mpr c,S⟩⟩
def uq{xs:Y Int}{v:Int}{k:Nat}(h:k<xs.length):(xs++[v]).getD k 0=xs.getD k 0:=by rw[JD,JD,Js h]
def xp{xs:Y Int}{v:Int}:(xs++[v]).getD xs.length 0=v:=by rw[JD,Jq (Jx _),J6];rfl
def uj{bs:Y Bd}{b:Bd}{k:Nat}(h:k<bs.length):am (bs++[b]) k=am bs k:=by unfold am;rw[JD,JD,Js h]
def uf{bs:Y Bd}{b:Bd}:am (bs++[b]) bs.length=b:=by unfold am;rw[JD,Jq (Jx _),J6];rfl
def wnd_mem{w:Nat}:∀{bs:Y Bd}{x:Y Int},x∈dF w bs↔x.length=bs.length/\∀k,k<bs.length->(am bs k).1<=x.getD k 0/\x.getD k 0<=dr w (am bs k):=by
 intro bs;refine rh (P:=λbs=>∀{x:Y Int},x∈dF w bs↔x.length=bs.length/\∀k,k<bs.length->(am bs k).1<=x.getD k 0/\x.getD k 0<=dr w (am bs k)) ?_ (λbs b r=>?_) bs
 ·intro x;change x∈[[]]↔_;rw[JB];constructor
  ·rintro rfl;show⟨S,λk g=>absurd g (Kv _)⟩
  ·rintro⟨h,_⟩;show Kq.mp h
 ·intro x;rw[qV,Ew,Jr,J2];constructor
  ·rintro⟨sp,a,v,y,rfl⟩;let⟨a1,a2⟩:=r.mp a;refine⟨by rw[Jr,J2,a1],λk g=>?_⟩;by_cases c:k<bs.length
   ·rw[uq (),uj c];show a2 k c
   ·have u:k=bs.length:=by omega
    subst u;rwa[uf,←a1,xp]
  ·rintro⟨a,j⟩
   have l:x≠[]:=λe=>by rw[e]at a;cases a
   have p:=MW l
   have o:x.dropLast.length=bs.length:=by rw[List.length_dropLast];omega
   rw[←p]at j;refine⟨x.dropLast,r.mpr ⟨o,λk g=>?_⟩,x.getLast l,?_,p.symm⟩
   ·have:=j k ()
    rwa [uq (),uj g]at this
   ·have:=j bs.length ();rw[uf]at this
    conv at this=>rw[←o]
    rwa [xp]at this
def zG{w:Nat}{bs:Y Bd}{x:Y Int}{M:Nat}(h:x∈dF w bs)(e:∀b∈bs,b.1.natAbs<=M):∀y∈x,y.natAbs<=M+w:=λy j=>by
 let⟨o,c⟩:=wnd_mem.mp h;let⟨k,a⟩:=Ko j;have l:=aC a;have:=c k ();rw[fb a]at this;have g:=e (am bs k) (cK ())
 have p:dr w (am bs k)<=(am bs k).1+w:=by
  unfold dr;split
  ·omega
  ·split<;>omega
 omega
noncomputable def j5(rs:Y aq)(x:Y Int):Bool:=rs.all λr=>decide (r.2<=av r.1 x)
def metS_iff{rs:Y aq}{x:Y Int}:j5 rs x=ř↔∀r∈rs,r.2<=av r.1 x:=by unfold j5;rw[K7];show⟨λh r a=>Kc (h r a),λh r a=>Kk (h r a)⟩
def GF{n:Nat}{bs:Y Bd}{rs:Y aq}{gs x:Y Int}(e:bs.length=n):SpotAt n (di bs rs gs) x↔x.length=n/\∀r∈bY bs rs,r.2<=av r.1 x:=by
 constructor
 ·intro h;show⟨h.l,(oA e h.l).mpr ⟨λk o=>h.b k (JU.mpr ()),h.m⟩⟩
 ·rintro⟨c,l⟩;let⟨a,b⟩:=(oA e c).mp l;show⟨c,λu g j=>absurd (JU.mpr ()) j,λu g=>a u (by have:=JU.mp g;omega),b⟩
theorem tK:∀{a b:Y Nat},a.Pairwise (·<·)->b.Pairwise (·<·)->(∀x,x∈a↔x∈b)->a=b
 | [],[],_,_,_=>rfl
 | [],y::b,_,_,h=>absurd ((h y).mpr JA) Lu
 |x::a,[],_,_,h=>absurd ((h x).mp JA) Lu
 |x::a,y::b,g,j,h=>by
  rw[Ml]at g j
  have o:x=y:=by
   rcases JI.mp ((h x).mp JA)with e|p
   ·show e
   ·rcases JI.mp ((h y).mpr JA)with e|r
    ·show e.symm
    ·have:=g.1 y r;have:=j.1 x p;omega
  subst o;congr 1;refine tK g.2 j.2 λz=>⟨λc=>?_,λc=>?_⟩
  ·rcases JI.mp ((h z).mp (Jy _ c))with e|l
   ·have:=g.1 z c;omega
   ·show l
  ·rcases JI.mp ((h z).mpr (Jy _ c))with e|l
   ·have:=j.1 z c;omega
   ·show l
def D4{n:Nat}{st:Y Nat}(so:st.Pairwise (·<·))(sl:∀u∈st,u<n):(List.range n).filter (λu=>decide (u∈st))=st:=by refine tK (LQ.filter _) so λx=>?_;rw[J9,JU,LV];show⟨λh=>h.2,λh=>⟨sl x h,h⟩⟩
def Dbl.det{rs:Y aq}{j i e g:Nat}{a b a' l:aq}(h:Dbl rs j i a b)(h':Dbl rs e g a' l):j=e/\i=g/\a=a'/\b=l:=by
 have hi:i=g:=by
  rcases Nat.lt_trichotomy i g with c|c|c
  ·show absurd h.eq (h'.no j i a b h.ji c h.ja h.ib)
  ·show c
  ·show absurd h'.eq (h.no e g a' l h'.ji c h'.ja h'.ib)
 subst hi
 have o:b=l:=by have:=h.ib.symm.trans h'.ib;show JY this
 subst o
 have p:j=e:=by
  rcases Nat.lt_trichotomy j e with c|c|c
  ·show absurd (h.eq.trans h'.eq.symm) (h.no j e a a' c h'.ji h.ja h'.ja)
  ·show c
  ·show absurd (h'.eq.trans h.eq.symm) (h.no e j a' a c h.ji h'.ja h.ja)
 subst p;show⟨S,S,JY (h.ja.symm.trans h'.ja),S⟩
theorem RowSt.det{s t t':Led}{b r:Bool}(h:RowSt s b t)(h':RowSt s r t'):b=r/\t=t':=by
 cases h with
 |idle j=>
  cases h' with
  |idle a=>rw[j]at a;cases a;show⟨S,S⟩
  |single a _ _ _=>rw[j]at a;cases a
  |uneven a _ _ _=>rw[j]at a;cases a
  |doubled a _ _ _=>rw[j]at a;cases a
  |no a _ _ _=>rw[j]at a;cases a
 |single j o p l=>
  cases h' with
  |idle a=>rw[j]at a;cases a
  |single a c e g=>
   rw[o]at c;cases c;rw[p]at e;cases e;rw[l]at g;cases g;show⟨S,S⟩
  |uneven _ c _ _=>rw[o]at c;cases c
  |doubled _ c _ _=>rw[o]at c;cases c
  |no _ c _ _=>rw[o]at c;cases c
 |uneven j o p l=>
  cases h' with
  |idle a=>rw[j]at a;cases a
  |single _ c _ _=>rw[o]at c;cases c
  |uneven _ _ e g=>
   rw[p]at e;cases e;rw[l]at g;cases g;show⟨S,S⟩
  |doubled _ _ e _=>rw[p]at e;cases e
  |no _ _ e _=>rw[p]at e;cases e
 |doubled j o p l=>
  cases h' with
  |idle a=>rw[j]at a;cases a
  |single _ c _ _=>rw[o]at c;cases c
  |uneven _ _ e _=>rw[p]at e;cases e
  |doubled _ _ _ g=>
   let⟨rfl,rfl,rfl,rfl⟩:=l.det g;show⟨S,S⟩
  |no _ _ _ g=>show absurd l.eq (g _ _ _ _ l.ji l.ja l.ib)
 |no j o p l=>
  cases h' with
  |idle a=>rw[j]at a;cases a
  |single _ c _ _=>rw[o]at c;cases c
  |uneven _ _ e _=>rw[p]at e;cases e
  |doubled _ _ _ g=>show absurd g.eq (l _ _ _ _ g.ji g.ja g.ib)
  |no _ _ _ _=>show⟨S,S⟩
def UnkSt.det{s t t':Led}{b r:Bool}(h:UnkSt s b t)(h':UnkSt s r t'):b=r/\t=t':=by
 cases h with
 |fixed g=>
  cases h' with
  |fixed a=>rw[g]at a;cases a;show⟨S,S⟩
  |sink a _=>rw[g]at a;cases a
  |rise a _ _ _=>rw[g]at a;cases a
  |hang a _ _ _=>rw[g]at a;cases a
  |no a _ _ _=>rw[g]at a;cases a
 |sink g l=>
  cases h' with
  |fixed a=>rw[g]at a;cases a
  |sink _ c=>rw[l]at c;cases c;show⟨S,S⟩
  |rise _ c _ _=>rw[l]at c;cases c
  |hang _ c _ _=>rw[l]at c;cases c
  |no _ c _ _=>rw[l]at c;cases c
 |rise g l o p=>
  cases h' with
  |fixed a=>rw[g]at a;cases a
  |sink _ c=>rw[l]at c;cases c
  |rise _ _ e j=>
   rw[o]at e;cases e;rw[p]at j;cases j;show⟨S,S⟩
  |hang _ _ e _=>rw[o]at e;cases e
  |no _ _ e _=>rw[o]at e;cases e
 |hang g l o p=>
  cases h' with
  |fixed a=>rw[g]at a;cases a
  |sink _ c=>rw[l]at c;cases c
  |rise _ _ e _=>rw[o]at e;cases e
  |hang _ _ _ j=>rw[p]at j;cases j;show⟨S,S⟩
  |no _ _ _ j=>rw[p]at j;cases j
 |no g l o p=>
  cases h' with
  |fixed a=>rw[g]at a;cases a
  |sink _ c=>rw[l]at c;cases c
  |rise _ _ e _=>rw[o]at e;cases e
  |hang _ _ _ j=>rw[p]at j;cases j
  |no _ _ _ _=>show⟨S,S⟩
noncomputable def Stp(s t:Led):Prop:=bw s=.non/\(RowSt s ř t\/(RowSt s Ś s/\UnkSt s ř t))
def Stp.det{s t t':Led}(h:Stp s t)(h':Stp s t'):t=t':=by
 rcases h.2 with a|⟨a,b⟩<;>rcases h'.2 with c|⟨c,d⟩
 ·show (a.det c).2
 ·cases (a.det c).1
 ·cases (a.det c).1
 ·show (b.det d).2
inductive Rch(s0:Led):Led->Prop where
 |nil:Rch s0 s0
 |snoc {s t:Led}:Rch s0 s->Stp s t->Rch s0 t
noncomputable def Don(s:Led):Prop:=bw s≠.non\/(RowSt s Ś s/\UnkSt s Ś s)
def Don.stop{s t:Led}(h:Don s):¬ Stp s t:=λk=>by
 rcases h with h|⟨c,e⟩
 ·show h k.1
 ·rcases k.2 with a|⟨a,b⟩
  ·cases (c.det a).1
  ·cases (e.det b).1
inductive Rcf:Led->Led->Prop where
 |nil {s:Led}:Rcf s s
 |cons {s t u:Led}:Stp s t->Rcf t u->Rcf s u
def Rcf.snoc{s t u:Led}(h:Rcf s t)(k:Stp t u):Rcf s u:=by
 induction h with
 |nil=>show .cons k .nil
 |cons a _ c=>show .cons a (c k)
def Rch.fwd{s t:Led}(h:Rch s t):Rcf s t:=by
 induction h with
 |nil=>show .nil
 |snoc _ k a=>show a.snoc k
def Rcf.uniq{s t u:Led}(h:Rcf s t)(c:Don t)(h':Rcf s u)(e:Don u):t=u:=by
 induction h with
 |nil=>
  cases h' with
  |nil=>rfl
  |cons a _=>show absurd a c.stop
 |cons a _ g=>
  cases h' with
  |nil=>show absurd a e.stop
  |cons b k=>
   cases a.det b;show g c k
def Rch.uniq{s t u:Led}(h:Rch s t)(a:Don t)(h':Rch s u)(c:Don u):t=u:=h.fwd.uniq a h'.fwd c
def tz(e:Led)(n:Nat):Way (λs=>(Wy n s/\SpotBk e n s/\SpotFw e n s)/\Rch e s) mu:=
 ⟨λt h=>⟨n,h.1.1.led⟩,λt t' h c a=>⟨⟨((kK e n).row t t' h.1 c a).1,h.2.snoc ⟨c,.inl a⟩⟩,((kK e n).row t t' h.1 c a).2⟩,λt t' h c a g=>⟨⟨((kK e n).unk t t' h.1 c a g).1,h.2.snoc ⟨c,.inr ⟨a,g⟩⟩⟩,((kK e n).unk t t' h.1 c a g).2⟩⟩
inductive y__law_far(as:List Sm)(R:Sm->List Om->Prop)(Rx:XD->List Om->Prop):Prop|mk (a:Option Addr) (o:Om) (n m:Nat) (mn:Int) (bs:List Bd) (rs:List aq) (gs sp:List Int) (_:as=[.ob a o,.v (bK bs rs gs),.v (.tup (sp.map D.int))]) (_:Pl m o) (_:m+100<2^20) (_:n<=8) (_:mn<=14) (_:PlS n mn bs rs gs sp) (_:∀(VY:List Bd)(PY:List aq)(Sz:List Int)(o':Om),PlOk n VY PY gs->(i5 bs->i5 VY)->Sz.length=n->(∀x∈Sz,x.natAbs<=2^70)->Pl (m+100) o'->R (.v (.tup [bK VY PY gs,.tup (Sz.map D.int)])) [o'])
def GA{z:Int}(h:z<2^200):z<2^9000:=by
 have a:(2:Int)^200<=2^9000:=by lia
 omega
noncomputable abbrev FS(p:Addr)(o:Om)(pl:D)(sp:Y Int)(j l:Int)(r:Y Int)(u v x y c g e h a:Ř Sm):ak:=[Z (.ob (Z p) o),Z (.v pl),Z (.v (.tup (sp.map D.int))),Z (.v (.int j)),Z (.v (.int l)),Z (.v (.lst (r.map D.int))),u,v,x,y,c,g,e,h,a]
def Hv(F:Fun K "_law_far" "_law_far" jo f J)(Q:ClM P w K mg base n WW [Ww,WG] y__law_draw)(ig:Cl P w K mg base n WU [WC,Wx] z__law_times)(eW:mg "zip"=ŗ)(aX:mg "tuple"=ŗ):FnOk P w K mg base aG (n+1) f J [Ww,Wz,Wx] (lSpM K y__law_far):=by
 refine F.okM qaj (λas R Rx h=>?_) (λNZ A outer s H E as R Rx qs N4 L h Of=>?_)
 ·let⟨a,o,k,m,mn,bs,rs,gs,sp,rfl,_⟩:=h;rfl
 let⟨a,o,k,m,mn,bs,rs,gs,sp,rfl,hp,hm,hk,UE,M,q⟩:=h;let⟨pa,rfl⟩:=eo Of
 refine⟨_,(ao (aJ (i:=3) qaj.nd S (ß S) (bE Q L S (bM 0 (aB (af ah) ba aD) aa) aa (ar aD ae)))
   (ao (aJ (i:=4) qaj.nd S Wv (bE Q L S (bM 0 (aB (af ah) ba aD) aa) aa (ar aD ae)))
   (ao (AL (i:=5) (N':=[WI,WR,Ww]) (cap:=[ŗ,Z 3,Z 0]) S qaj.nd S Wv (.ok (show bV [Ww,Wz,Wx,WR,WG,Xc,WH,WT,WK,WN,WB,WC,WQ,WV,Xg] (au jo) _ [WI,WR,Ww] [ŗ,Z 3,Z 0]=ř by lia)) 'a' (eT (b7 (dv 2))) (λ_ _ _ _ _=>(bZ (i:=0) (show List.Nodup ([WI,WR,Ww]:Y Str)by lia) S Wv)) (λ_ _ _ _ _=>Gx) (λ_ _ _ _ _=>(dw cQ (dw cQ (af (dv 1)) (dw db (af ah) (dw cQ (af ah) (bE Q L S (bM 2 (aB (af ah) ba aD) aa) aa (ar aD ae))))) (bE Q L S (bM 2 (aB (af (aP sw (PD.q ah) (PD.q ah))) ba bP) aa) aa (ar bP ae)))))
   (iR 5 (ao (aJ (i:=6) qaj.nd S Wv (dk (da ag)))
   (ao (eJ JO S (eT (jI S eW (ad (ax (ac 1)) (ad (dv 5) ag aa) aA))) (gG (n:=2) S (cW (gG (n:=2) S (cW (bZ (i:=8) qaj.nd S Wv) (cW (bZ (i:=9) qaj.nd S Wv) gA))) (cW (bZ (i:=7) qaj.nd S Wv) gA))) (cq (bT (bO (aR dI (ac 9) (PD.q bq) (ay _))) (aM (aJ (i:=9) qaj.nd S Wv (af (aP bH (ac 9) (ac 7))))) ce)
   (aM (fU 6 (af (bt (ad (aP bH (ac 8) (ac 7)) (ad (dv 9) ag aa) bP))) (dl bI) bI))))
   (ao (aJ (i:=10) qaj.nd S Wv (dk (da ag)))
   (ao (eJ JO S (eT (b7 (ax (ac 1)))) (gG (n:=2) S (cW (bZ (i:=11) qaj.nd S Wv) (cW (bZ (i:=12) qaj.nd S Wv) gA))) (ao (aJ (i:=13) qaj.nd S (ß S) (dw bH (af ah) (dw cQ (af (dv 4)) (bE Q L S (bM 0 (aB (af (aP sw (PD.q ah) (PD.q ah))) ba bP) aa) aa (ar bP ae)))))
   (ao (aJ (i:=12) qaj.nd S Wv (dw db (af (aP cQ (PD.q (aP bH (ac 12) (PD.q (bc ig L S (ad (dv 11) (ad (dv 5) ag aa) aa) aa (ar aa ae))))) (ac 13))) (bE Q L S (bM 0 (aB (af (dv 13)) ba aa) aa) aa (ar aa ae))))
   (aM (fU 10 (af (bt (ad (cf cG S aX JE (aI (PD.q (PF.d (cZ (k:=1) (N':=[WO,WV]) (cap:=[ŗ,Z 13]) S (.ok (show bV [Ww,Wz,Wx,WR,WG,Xc,WH,WT,WK,WN,WB,WC,WQ,WV,Xg] (au jo) _ [WO,WV] [ŗ,Z 13]=ř by lia)) 'a' (bz 'b') (b7 (dv 11)) (λ_ _ _ _ _=>(bf (i:=0) (show List.Nodup ([WO,WV]:Y Str)by lia) S Wv)) (λ_ _ _ _ _=>(aP cQ (ac 0) (ac 1)))))) aS bx) bx ae) (ad (dv 12) ag aa) bg))) (dl bI) bI)))))
   (ao (aJ (i:=14) qaj.nd S Wv (af (cf cG S aX JE (aI (PD.q (PF.d (cZ (k:=2) (N':=[WI,WT]) (cap:=[ŗ,ŗ]) S (.ok (show bV [Ww,Wz,Wx,WR,WG,Xc,WH,WT,WK,WN,WB,WC,WQ,WV,Xg] (au jo) _ [WI,WT] [ŗ,ŗ]=ř by lia)) 'a' (hJ (n:=2) (dD (bz 'b') (dD (bz 'b') hV))) (jI S eW (ad (dv 2) (ad (dv 5) ag aa) aa)) (λ_ _ _ _ _=>(dM (n:=2) S (bL (bf (i:=0) (show List.Nodup ([WI,WT]:Y Str)by lia) S Wv) (bL (bf (i:=1) (show List.Nodup ([WI,WT]:Y Str)by lia) S Wv) dH)))) (λ_ _ _ _ _=>(aP bH (ac 0) (ac 1)))))) aS bx) bx ae)))
   (aM (bX (af (bt (ad (bt (ad (cf cG S aX JE (aI (ac 6) aS aa) aa ae) (ad (cf cG S aX JE (aI (ac 10) aS aa) aa ae) (ad (ax (ac 1)) ag aA) bg) bg)) (ad (dv 14) ag aa) bI)))))))))))))),?_⟩
 intro ke;have Pn:=M.sl;have Ol:=M.rl;let⟨Rt,Ui⟩:=M.b;refine⟨⟨_,_,S⟩,_,S,S,_,_,2,_,S,hp,(),'b',cA 'b',λG o1 x0 x1 OZ=>?_⟩;rfl';refine⟨⟨_,_,S⟩,_,S,S,_,_,2,_,S,OZ,(),'b',cA 'b',λp o2 y0 y1 OY=>?_⟩;rfl';refine⟨by rw[Jp];show bi (),λi ys ρc=>∃(xs:Y Int)(o':Om)(u:Ř Sm),ys=xs.map D.int/\xs.length=i/\(∀x∈xs,x.natAbs<=10^20)/\ρc=[u,Z (.v (.int G)),Z (.ob (Z pa) o')]/\Pl (m+2+2*i) o',⟨[],o2,_,S,S,λx g=>(by cases g),S,OY⟩,?_,?_⟩
 ·rintro i d ys ρc hd ⟨xs,be,u,rfl,O4,g,rfl,PR⟩;let⟨y,rfl,hy⟩:=bN hd;have hi:=aC hy;refine⟨λ_=>?_,tf⟩;refine⟨⟨_,_,S⟩,_,S,S,_,_,2,_,S,PR,(),'b',cA 'b',λz o4 z0 z1 b_=>?_⟩;rfl';refine⟨gE 'b' 'b',gE () (),⟨_,_,S⟩,⟨'b','b','b'⟩,_,S,S,_,_,_,_,S,b_,(),(by change (0:Int)<10^20;decide),GA (by change (10:Int)^20<2^200;decide),λv o5 v0 v1 Qa=>?_⟩;rfl';have hv:v<10^20:=v1
  have hf:G=0\/G=1:=by omega
  have a_:z=0\/z=1:=by omega
  refine⟨gE ?_ ?_,xs++[G*(1-2*z)*v],o5,_,gF D.int xs _,by rw[Jr,O4];rfl,fw g ?_,S,Qa.mono ()⟩
  ·rcases hf with rfl|rfl<;>rcases a_ with rfl|rfl<;>decide
  ·rcases hf with rfl|rfl<;>rcases a_ with rfl|rfl<;>decide
  ·rcases hf with rfl|rfl<;>rcases a_ with rfl|rfl<;>omega
 rintro ys ρc ⟨j,be,u,rfl,O4,g,rfl,PR⟩;have P7:=g;rw[Jp]at O4 PR;refine⟨be,S,?_⟩;rfl'
 have VZ:j.length=k:=by omega
 refine⟨_,S,_,_,S,S,?_⟩;rw[jF];refine⟨λi ρ=>∃(C:Y Bd)(u7 u8 u9:Ř Sm),ρ=FS pa be (bK bs rs gs) sp G p j (Z (.own (C.map aU))) u7 u8 u9 ŗ ŗ ŗ ŗ ŗ/\C.length=i/\(∀b∈C,(b.1.natAbs<=2^200/\∀m,b.2=Z m->m.natAbs<=2^200)/\(i5 bs->∃m,b.2=Z m/\m<=b.1+3)),⟨[],_,_,_,S,S,λb I=>(by cases I)⟩,?_,?_⟩
 ·rintro i d ρ hd ⟨C,u7,u8,u9,rfl,Ru,N7⟩;let⟨⟨b,x⟩,rfl,a_⟩:=bN hd;let⟨QF,hzx⟩:=L8.mp a_;have Qh:=aC QF;let⟨c1,T⟩:=Ui b (Jw QF);have cx:=g x (Jw hzx)
  have e20:(10:Nat)^20+8<=2^200:=by decide
  refine⟨S,S,?_⟩;refine⟨λρ=>∃N:Ř Int,ρ=FS pa be (bK bs rs gs) sp G p j (Z (.own (C.map aU))) (Z (.v (.int x))) (Z (.v (.int b.1))) (Z (.v (oI N))) ŗ ŗ ŗ ŗ ŗ/\(∀m,N=Z m->m.natAbs<=2^200)/\(i5 bs->∃m,N=Z m/\m<=b.1+x+3),?_,?_⟩
  ·have Uj:=Jw QF;let⟨l,N⟩:=b
   cases N with
   |none=>show⟨ff,λ_=>⟨ŗ,S,λm h=>(by cases h),λU=>by let⟨m,h,_⟩:=U _ Uj;cases h⟩⟩
   |some mm=>
    have T:=T mm S;show⟨λ_=>⟨Z (mm+x),S,λm h=>(by cases h;omega),λU=>by let⟨m,h,h'⟩:=U _ Uj;cases h;show⟨_,S,by dsimp only at h' ⊢;omega⟩⟩,tf⟩
  rintro ρ ⟨N,rfl,VP,V5⟩;show⟨by rw[Jp];show bi (),_,gF aU C (b.1+x,N),_,_,_,_,S,by rw[Jr,Ru];rfl,fw N7 ⟨⟨by change (b.1+x).natAbs<=_;omega,VP⟩,V5⟩⟩
 rintro ρ ⟨C,u7,u8,u9,rfl,Ru,N7⟩;rw[Jp,Nw,Rt,VZ,Nat.min_self]at Ru;refine⟨_,S,?_⟩;refine⟨λi ρ=>∃(O:Y aq)(o':Om)(Sr QH TM:Ř Sm),ρ=FS pa o' (bK bs rs gs) sp G p j (Z (.own (C.map aU))) u7 u8 u9 (Z (.own (O.map aw))) Sr QH TM ŗ/\O.length=i/\(∀r∈O,r.1.length=k/\(∀x∈r.1,x.natAbs<2^64)/\r.2.natAbs<=2^200)/\Pl (m+2+2*k+2*i) o',⟨[],be,_,_,_,S,S,λb I=>(by cases I),PR.mono ()⟩,?_,?_⟩
 ·rintro i d ρ hd ⟨O,o4,Sr,QH,TM,rfl,Ss,RV,b_⟩;let⟨r,rfl,Oo⟩:=bN hd;have Qh:=aC Oo;let⟨c1,T,c3⟩:=M.r r (Jw Oo);refine⟨S,?_⟩;refine⟨⟨_,_,S⟩,⟨'b','b','b'⟩,_,S,S,_,_,_,_,S,b_,(),(by change (0:Int)<10^12;decide),cA (by change (10:Int)^12<2^64;decide),λB o5 v0 v1 Qa=>?_⟩;rfl';have v1:B<10^12:=v1
  have X:p=0\/p=1:=by omega
  refine⟨gE () (),?_⟩
  have f0:0<1+p*B:=by rcases X with rfl|rfl<;>omega
  have f2:1+p*B<=10^12:=by rcases X with rfl|rfl<;>omega
  have RM:∀x∈r.1,bB x:=λx g=>fH (m:=10) (by have:=T x g;omega) 'b';have V6:∀x∈j,bB x:=λx P7=>fH (m:=70) (by have:=g x P7;have e:(10:Nat)^20<=2^70:='b';omega) 'b';refine⟨r.1,j,S,(),RM,V6,?_⟩;have Sq:=lu T g;have hd9:(av r.1 j).natAbs<=8*(3*10^20):=JR Sq (Ll _ ())
  have TN:(r.2+av r.1 j).natAbs<=2^80:=by
   have:8*(3*10^20)+400<=2^80:=by decide
   omega
  have RA:(1+p*B).natAbs<=2^40:=by
   have:(10:Nat)^12<=2^40:=by decide
   omega
  have hprod:((r.2+av r.1 j)*(1+p*B)).natAbs<=2^80*2^40:=by rw[MV];show Mo TN RA
  refine⟨iZ (fH TN 'b') (fH RA 'b'),?_⟩;refine⟨⟨_,_,S⟩,_,S,S,_,_,_,_,S,Qa,(),f0,cA (by have:(10:Int)^12<2^64:='b';omega),λw o6 w0 w1 Rb=>?_⟩;rfl'
  have TQ:∀x∈r.1,(x*(1+p*B)).natAbs<2^64:=λx g=>by
   rw[MV];have h1:=Mo (T x g) RA
   have:3*2^40<2^64:=by decide
   omega
  refine jM (f:=D.int) (λx=>x*(1+p*B)) (bi ()) (λx g=>⟨iZ (RM x g) (fH RA 'b'),S⟩) ?_;refine⟨by rw[Jp];show bi (),_,gF aw O (r.1.map λx=>x*(1+p*B),(r.2+av r.1 j)*(1+p*B)-w),_,o6,_,_,_,S,by rw[Jr,Ss];rfl,fw RV ⟨by change (r.1.map _).length=k;rwa[Jp],λx g=>?_,?_⟩,Rb.mono ()⟩
  ·let⟨y,hy,rfl⟩:=JL.mp g;show TQ y hy
  ·change ((r.2+av r.1 j)*(1+p*B)-w).natAbs<=2^200
   have:2^80*2^40+10^12<=2^200:=by decide
   omega
 rintro ρ ⟨O,o4,Sr,QH,TM,rfl,Ss,RV,b_⟩;rw[Jp]at Ss b_;refine⟨_,_,S,S,?_⟩;refine rD (f:=D.int) (h:=D.int) (λx y=>D.int (x+y)) (bi ()) (λx _ y _=>⟨S,S⟩) ?_
 have e1:List.zipWith (λx y=>D.int (x+y)) sp j=(List.zipWith (λx y=>x+y) sp j).map D.int:=by rw[Nl]
 rw[e1];refine⟨_,S,_,S,q C O (List.zipWith (λx y=>x+y) sp j) o4 ⟨hk,Ru,M.gl,(),RV,λb I=>(N7 b I).1,λx g=>by have:=M.g x g;have e:(2:Nat)<2^64:='b';omega⟩ (λU b I=>(N7 b I).2 U) (by rw[List.length_zipWith];omega) (λx g=>?_) (b_.mono ())⟩;let⟨i,hi⟩:=Ko g;rw[LW]at hi
 have Qh:i<sp.length:=Kt λc=>by rw[Kd (show sp.length<=i by omega)]at hi;cases hi
 rw[bJ Qh,bJ (show i<j.length by omega)]at hi;have e:sp[i]+j[i]=x:=JY hi;have h1:=M.s sp[i] (Lv Qh);have h2:=P7 j[i] (Lv _)
 have e20:(10:Nat)^20+10<=2^70:=by decide
 omega
inductive z__law_whole(ds:List D)(R:D->Prop):Prop|mk (i:Int) (_:ds=[.int i]) (_:R (.bl ř))
def yZ(F:Fun K WZ WZ mW f J)(a:mg "isinstance"=ŗ)(c:mg "int"=ŗ)(e:mg "bool"=ŗ):FnOk P w K mg base aG (n+1) f J [WD] (lSp K z__law_whole):=by
 refine F.okD D7 (λds R h=>?_) (λg A outer s H E ds R j h=>?_)
 ·let⟨i,rfl,_⟩:=h;rfl
 let⟨i,rfl,q⟩:=h;refine⟨_,(aL (bh (iH (ia S a (ac 0) (hZ (v:=.ty "int") S c Lg S) aa aa) (lr (vP (PD.q (ia S a (ac 0) (hZ (v:=.ty "bool") S e PyProof.Rows.boot_bool S) aa aa))))))),?_⟩;show⟨ř,HC i,λ_=>⟨Ś,zb i,q⟩,λh=>tf h⟩
inductive z__law_wholes(ds:List D)(R:D->Prop):Prop|mk (xs:List Int) (n:Int) (_:ds=[.tup (xs.map D.int),.int n]) (_:n=(xs.length:Int)) (_:xs.length<=500) (_:R (.bl ř))
def za(F:Fun K WX WX kO f J)(r:Cl P w K mg base n WZ [WD] z__law_whole)(j:mg "isinstance"=ŗ)(e:mg "tuple"=ŗ)(p:mg "all"=ŗ)(g:mg "len"=ŗ):FnOk P w K mg base aG (n+1) f J [WD,WY] (lSp K z__law_wholes):=by
 refine F.okD BA (λds R h=>?_) (λu A outer s H E ds R c h=>?_)
 ·let⟨xs,n,rfl,_⟩:=h;rfl
 let⟨xs,n,rfl,o,y,q⟩:=h;refine⟨_,(aL (bh (iH (ia S j (ac 0) (hZ (v:=.ty "tuple") S e JE S) aa aa) (iH (dU (df c.units) (PD.q (bC cI S g J4 (aI (ac 0) aS aa) aa ae)) (ac 1) (ay _)) (lr (bC (pR S) S p MF (aI (PD.q (PF.d (cZ (k:=1) (N':=[WI]) (cap:=[ŗ]) S (.ok (show bV [WD,WY] (au kO) _ [WI] [ŗ]=ř by lia)) 'a' (bz 'b') (b7 (dv 0)) (λ_ _ _ _ _=>(bf (i:=0) (show List.Nodup ([WI]:Y Str)by lia) S Wv)) (λ_ _ _ _ _=>(bc r c S (ad (dv 0) ag aa) aa ae))))) aS bx) bx ae)))))),?_⟩
 have l:((xs.map D.int).length:Int)=n:=by rw[Jp,o]
 have a:(((xs.map D.int).length:Int)==n)=ř:=by rw[l];show J3 _
 refine⟨ř,iz _,λ_=>⟨λ_=>?_,λh=>?_⟩,λh=>tf h⟩
 ·refine fJ (f:=D.int) (λ_=>D.bl ř) (bi ()) (λx _=>⟨x,S,S⟩) ?_;refine⟨xs.map λ_=>ř,by rw[Kh];rfl,?_⟩;refine toB q ?_;change (xs.map λ_=>ř).all id=ř;rw[K7];intro b a;let⟨_,_,rfl⟩:=JL.mp a;rfl
 ·have h':(((xs.map D.int).length:Int)==n)=Ś:=h;rw[a]at h';cases h'
inductive z__law_plan_is(ds:List D)(R:D->Prop):Prop|mk (n:Nat) (bs:List Bd) (rs:List aq) (gs:List Int) (_:ds=[bK bs rs gs,.int (n:Nat)]) (_:n<=8) (_:bs.length=n) (_:gs.length=n) (_:rs.length<=100) (_:(∀r∈rs,r.1.length=n)) (_:R (.bl ř))
def EJ(F:Fun K Xa Xa mz f J)(x:Cl P w K mg base n WX [WD,WY] z__law_wholes)(p:Cl P w K mg base n WZ [WD] z__law_whole)(e:mg "isinstance"=ŗ)(c:mg "tuple"=ŗ)(g:mg "len"=ŗ):FnOk P w K mg base aG (n+1) f J [Wz,WE] (lSp K z__law_plan_is):=by
 refine F.okD qan (λds R h=>?_) (λL A outer s H E ds R a h=>?_)
 ·let⟨k,bs,rs,gs,rfl,_⟩:=h;rfl
 let⟨k,bs,rs,gs,rfl,O,C,G,M,o,q⟩:=h
 refine⟨_,(fu (cE (PWD.td (en (cM (cu (PD.q (ia S e (ac 0) (hZ (v:=.ty "tuple") S c JE S) aa aa)) (λ_=>rfl))) (en (aR (eM a.units) (PD.q (bC cI S g J4 (aI (ac 0) aS aa) aa ae)) (PD.q ah) (ay _)) (iq (cM (cu (PD.q (bc x a S (ad (ax (ac 0)) (ad (dv 1) ag aa) aA) aA (ar aa ae))) (λ_=>rfl))))))) (aL (bh dc)) cF)
   (fu (cE (PWD.td (en (cM (cu (PD.q (ia S e (PD.q (ax (ac 0))) (hZ (v:=.ty "tuple") S c JE S) aA aa)) (λ_=>rfl))) (en (cM (cu (PD.q (ia S e (PD.q (ax (ac 0))) (hZ (v:=.ty "tuple") S c JE S) aA aa)) (λ_=>rfl))) (iq (aR (eM a.units) (PD.q (bC cI S g J4 (aI (PD.q (ax (ac 0))) aS aA) aA ae)) (ac 1) (ay _)))))) (aL (bh dc)) cF)
   (bF (fk JO S (b7 (ax (ac 0))) (bf (i:=2) qan.nd S Wv) (fu (cE (PWD.td (en (cM (cu (PD.q (ia S e (ac 2) (hZ (v:=.ty "tuple") S c JE S) aa aa)) (λ_=>rfl))) (en (aR (eM a.units) (PD.q (bC cI S g J4 (aI (ac 2) aS aa) aa ae)) (PD.q ah) (ay _)) (iq (cM (cu (PD.q (bc p a S (ad (ax (ac 2)) ag aA) aA ae)) (λ_=>rfl))))))) (aL (bh dc)) cF)
   (aL (cE (PWD.td (fq (aR dI (PD.q (ax (ac 2))) (PD.q bq) (ay _)) (gZ (cM (cu (PD.q (bc p a S (ad (ax (ac 2)) ag aA) aA ae)) (λ_=>rfl)))))) (aL (bh dc)) cF))))
   (bF (fk JO S (b7 (ax (ac 0))) (bf (i:=3) qan.nd S Wv) (aL (cE (PWD.td (en (cM (cu (PD.q (ia S e (ac 3) (hZ (v:=.ty "tuple") S c JE S) aa aa)) (λ_=>rfl))) (en (aR (eM a.units) (PD.q (bC cI S g J4 (aI (ac 3) aS aa) aa ae)) (PD.q ah) (ay _)) (en (cM (cu (PD.q (bc x a S (ad (ax (ac 3)) (ad (dv 1) ag aa) aA) aA (ar aa ae))) (λ_=>rfl))) (iq (cM (cu (PD.q (bc p a S (ad (ax (ac 3)) ag aA) aA ae)) (λ_=>rfl)))))))) (aL (bh dc)) cF)))
   (aL (bh dc)))))),?_⟩
 refine⟨λρ=>ρ=[Z (.v (bK bs rs gs)),Z (.v (.int (k:Nat))),ŗ,ŗ],⟨ř,iz _,ff,λ_=>⟨ff,λ_=>⟨_,S,gs,k,S,by rw[G],(),ff,λ_=>rfl⟩⟩⟩,?_⟩;rintro ρ rfl
 have B:((bs.map aU).length:Int)=(k:Nat):=by rw[Jp,C]
 refine⟨λρ=>ρ=[Z (.v (bK bs rs gs)),Z (.v (.int (k:Nat))),ŗ,ŗ],⟨_,S,ř,iz _,ff,λ_=>⟨_,S,ř,iz _,ff,λ_=>⟨_,S,λh=>?_,λ_=>rfl⟩⟩⟩,?_⟩
 ·have h':(!((((bs.map aU).length:Nat):Int)==((k:Nat):Int)))=ř:=h;rw[B,J3]at h';cases h'
 rintro ρ rfl;refine⟨_,S,λi ρ=>∃j:Ř Sl,ρ=[Z (.v (bK bs rs gs)),Z (.v (.int (k:Nat))),j,ŗ],⟨_,S⟩,?_,?_⟩
 ·rintro i d ρ hd ⟨j,rfl⟩;let⟨b,rfl,N⟩:=bN hd;refine⟨λρ=>ρ=[Z (.v (bK bs rs gs)),Z (.v (.int (k:Nat))),Z (.v (aU b)),ŗ],⟨ř,iz _,ff,λ_=>⟨ff,λ_=>⟨_,S,b.1,S,ff,λ_=>rfl⟩⟩⟩,?_⟩;rintro ρ rfl;refine⟨oI b.2,S,?_⟩;let⟨l,I⟩:=b
  cases I with
  |none=>show⟨ff,λ_=>⟨ff,λ_=>⟨_,S⟩⟩⟩
  |some mm=>show⟨λ_=>⟨_,S,mm,S,ff,λ_=>⟨_,S⟩⟩,tf⟩
 rintro ρ ⟨j,rfl⟩;refine⟨_,S,λi ρ=>∃u:Ř Sl,ρ=[Z (.v (bK bs rs gs)),Z (.v (.int (k:Nat))),j,u],⟨_,S⟩,?_,?_⟩
 ·rintro i d ρ hd ⟨u,rfl⟩;let⟨r,rfl,y⟩:=bN hd;have z:=o r (Jw y);show⟨ř,iz _,ff,λ_=>⟨ff,λ_=>⟨_,S,r.1,k,S,by rw[z],(),ff,λ_=>⟨_,S,r.2,S,ff,λ_=>⟨_,S⟩⟩⟩⟩⟩
 rintro ρ ⟨u,rfl⟩;show q
inductive z__law_givens(ds:List D)(R:D->Prop):Prop|mk (bs:List Bd) (rs:List aq) (g:D) (_:ds=[.tup [.tup (bs.map aU),.tup (rs.map aw),g]]) (_:bs.length<=8) (_:rs.length<=30) (_:R (.lst ((bY bs rs).map aw)))
def sL{i j:Nat}:(if ((0+(i:Int))==(j:Int)) then (1:Int) else 0)=if i=j then 1 else 0:=by
 by_cases c:i=j
 ·subst c;rw[JC (by rw[Kn,J3]),JC S]
 ·rw[Jv c,Jv];intro h;have:=eq_of_beq h;omega
def G8{bs:Y Bd}{i:Nat}{b:Bd}(h:bs[i]?=Z b):((List.range (i+1)).filter (cS bs)).map (cJ bs)=((List.range i).filter (cS bs)).map (cJ bs)++if b.2.isSome then [cJ bs i] else []:=by
 rw[Lz,Mj,Ku];congr 1
 have e:cS bs i=b.2.isSome:=by unfold cS;rw[show am bs i=b from fb h]
 cases a:b.2.isSome with
 |true=>rw[Mq (by rwa[e])];rfl
 |false=>rw[Mr (by rw[e,a];decide)];rfl
def yF(F:Fun K W6 W6 kg f J)(N:mg "len"=ŗ)(G:mg "enumerate"=ŗ)(O:mg "list"=ŗ)(B:mg "tuple"=ŗ)(I:mg "int"=ŗ)(C:mg "range"=ŗ):FnOk P w K mg base aG (n+1) f J [Wz] (lSp K z__law_givens):=by
 refine F.okD qal (λds R h=>?_) (λT A outer s H E ds R L h=>?_)
 ·let⟨bs,rs,g,rfl,_⟩:=h;rfl
 let⟨bs,rs,g,rfl,be,U,q⟩:=h
 refine⟨_,(bF (dg (i:=1) qal.nd S Wv (bC cI S N J4 (aI (PD.q (ax (ac 0))) aS aA) aA ae))
   (bF (A9 (i:=2) qal.nd S Wv (da ag))
   (bF (fk JO S (gD S G (ad (ax (ac 0)) ag aA)) (dM (n:=2) S (bL (bf (i:=3) qal.nd S (ß S)) (bL (dM (n:=2) S (bL (bf (i:=4) qal.nd S Wv) (bL (bf (i:=5) qal.nd S Wv) dH))) dH))) (aL (ut 2 (bt (ad (cf cG S B JE (aI (PD.q (PF.d (cZ (k:=1) (N':=[W9,WL]) (cap:=[ŗ,Z 3]) S (.ok (show bV [Wz,WE,WB,WL,WK,WN] (au kg) _ [W9,WL] [ŗ,Z 3]=ř by lia)) 'a' (bz 'b') (iP S C (ad (dv 1) ag aa)) (λ_ _ _ _ _=>(bf (i:=0) (show List.Nodup ([W9,WL]:Y Str)by lia) S Wv)) (λ_ _ _ _ _=>(cf lx S I Lg (aI (PD.q (dU (df L.units) (ac 0) (ac 1) (ay _))) aS gI) gI ae))))) aS bx) bx ae) (ad (dv 4) ag aa) bg)) (dl bI) bI)))
   (bF (fk JO S (gD S G (ad (ax (ac 0)) ag aA)) (dM (n:=2) S (bL (bf (i:=3) qal.nd S (ß S)) (bL (dM (n:=2) S (bL (bf (i:=4) qal.nd S Wv) (bL (bf (i:=5) qal.nd S Wv) dH))) dH))) (aL (cE (aR dI (ac 5) (PD.q bq) (ay _)) (aL (ut 2 (bt (ad (cf cG S B JE (aI (PD.q (PF.d (cZ (k:=1) (N':=[W9,WL]) (cap:=[ŗ,Z 3]) S (.ok (show bV [Wz,WE,WB,WL,WK,WN] (au kg) _ [W9,WL] [ŗ,Z 3]=ř by lia)) 'a' (bz 'b') (iP S C (ad (dv 1) ag aa)) (λ_ _ _ _ _=>(bf (i:=0) (show List.Nodup ([W9,WL]:Y Str)by lia) S Wv)) (λ_ _ _ _ _=>(ef (PD.q (cf lx S I Lg (aI (PD.q (dU (df L.units) (ac 0) (ac 1) (ay _))) aS gI) gI ae))))))) aS bx) bx ae) (ad (ef (ac 5)) ag iy) bg)) (dl bI) bI)) cF)))
   (aL (bh (aP bH (ac 2) (PD.q (PF.d (kZ S O (PD.q (ax (ac 0))) aA)))))))))),?_⟩
 have Q:((bs.map aU).length:Int)=(bs.length:Int):=by rw[Jp]
 have a_:(((bs.map aU).length:Nat):Int).toNat=bs.length:=by omega
 refine⟨_,S,?_⟩;refine⟨_,S,λi ρ=>∃a c e:Ř Sl,ρ=[Z (.v (.tup [.tup (bs.map aU),.tup (rs.map aw),g])),Z (.v (.int (bs.length:Nat))),Z (.own (((List.range i).map (fm bs)).map aw)),a,c,e],⟨_,_,_,by rw[Q];rfl⟩,?_,?_⟩
 ·rintro i d ρ hd ⟨a,c,e,rfl⟩;let⟨x,u,rfl⟩:=gq hd;let⟨b,rfl,j⟩:=bN u;have M:=aC j;refine⟨S,S,?_⟩;refine⟨⟨(),()⟩,?_⟩;refine oC (λo=>D.int (if o=i then 1 else 0)) (bi ()) (λo _=>Kf D.int sL) ?_;have r:am bs i=b:=fb j;refine⟨by rw[Jp,Jp,JQ];show bi (),((List.range (i+1)).map (fm bs)).map aw,?_,_,_,_,S⟩;rw[Lz,Ku,Ku];congr 1;change [D.tup [D.tup ((List.range ((bs.length:Nat):Int).toNat).map λo=>D.int (if o=i then 1 else 0)),D.int b.1]]=[aw (fm bs i)];unfold fm aw dA;rw[r,KC,Kh];rfl
 rintro ρ ⟨a,c,e,rfl⟩
 have y:(gP (bs.map aU)).length=bs.length:=by rw[eQ,Jp]
 rw[y];refine⟨_,S,λi ρ=>∃a c e:Ř Sl,ρ=[Z (.v (.tup [.tup (bs.map aU),.tup (rs.map aw),g])),Z (.v (.int (bs.length:Nat))),Z (.own (((List.range bs.length).map (fm bs)++((List.range i).filter (cS bs)).map (cJ bs)).map aw)),a,c,e],⟨_,_,_,by rw[show (List.range bs.length).map (fm bs)++((List.range 0).filter (cS bs)).map (cJ bs)=(List.range bs.length).map (fm bs)from J5 _]⟩,?_,?_⟩
 ·rintro i d ρ hd ⟨a,c,e,rfl⟩;let⟨x,u,rfl⟩:=gq hd;let⟨b,rfl,j⟩:=bN u;have M:=aC j;have r:am bs i=b:=fb j
  have X:(((List.range i).filter (cS bs)).map (cJ bs)).length<=i:=by
   rw[Jp];have:=KR (cS bs) (List.range i)
   rwa [JQ]at this
  refine⟨S,S,?_⟩;have v:=G8 j;let⟨l,b_⟩:=b
  cases b_ with
  |none=>
   have p:((List.range (i+1)).filter (cS bs)).map (cJ bs)=((List.range i).filter (cS bs)).map (cJ bs):=by rw[v];show J5 _
   show⟨ff,λ_=>⟨Z (.v (.int (i:Nat))),Z (.v (.int l)),Z (.v .non),by rw[p];rfl⟩⟩
  |some mm=>
   refine⟨λ_=>?_,tf⟩;refine⟨⟨(),()⟩,?_⟩;refine oC (λo=>D.int (-(if o=i then 1 else 0))) (bi ()) (λo _=>Kf (λz:Int=>D.int (-z)) sL) ?_;refine⟨by rw[Jp,Jr,Jp,JQ];show bi (),((List.range bs.length).map (fm bs)++((List.range (i+1)).filter (cS bs)).map (cJ bs)).map aw,?_,_,_,_,S⟩;have p:((List.range (i+1)).filter (cS bs)).map (cJ bs)=((List.range i).filter (cS bs)).map (cJ bs)++[cJ bs i]:=v;rw[p,←JM,Ku (l₂:=[cJ bs i])];congr 1;change [D.tup [D.tup ((List.range ((bs.length:Nat):Int).toNat).map λo=>D.int (-(if o=i then 1 else 0))),D.int (-mm)]]=[aw (cJ bs i)];unfold cJ aw kh dA;rw[r,KC,Kh,Kh];rfl
 rintro ρ ⟨a,c,e,rfl⟩;rw[y];refine⟨_,S,_,S,small ?_,_,qZ aw _ _,?_⟩
 ·rw[Jp,Jp,Jr,Jp,JQ,Jp];have:=KR (cS bs) (List.range bs.length);rw[JQ]at this;omega
 ·show q
noncomputable def r8(n:Nat)(s:Led)(a:Y D):D:=.obj "Struck" [("ledger",iw s),("breadth",.int (n:Nat)),("kind",.str "none"),("paper",.tup a),("slim",.non),("kept",.tup []),("extra",.int 0)]
theorem jO:∀(n:Nat)(xs:Y Int),fj (cy n) (xs.map D.int) (xs.map D.int)=Z ř
 |_,[]=>rfl
 |n,x::xs=>by
  have e:cy n (D.int x) (D.int x)=Z ř:=by
   have:cy n (D.int x) (D.int x)=Z (x==x):=by cases n<;>rfl
   rw[this,J3]
  change ((cy n (D.int x) (D.int x)).bind λb=>(fj (cy n) (xs.map D.int) (xs.map D.int)).map (b&&·))=_;rw[e,jO n xs];rfl
def AN{R:D->Prop}(xs:Y Int)(q:R (.bl ř)):jX (.lst (xs.map D.int)) (.lst (xs.map D.int)) R:=by
 have e:cy 40 (.lst (xs.map D.int)) (.lst (xs.map D.int))=Z ř:=by change (if (xs.map D.int).length=(xs.map D.int).length then fj (cy 39) (xs.map D.int) (xs.map D.int) else Z Ś)=_;rw[JC S,jO]
 unfold jX;rwa[e]
def wl{x:Nat}{st:Y Nat}:je (.inl (x:Int)) (st.map λn:Nat=>(à (n:Int):az))=decide (x∈st):=by
 rw[Nu,B8,LV,JL];constructor
 ·rintro⟨y,a,e⟩;have:(y:Int)=(x:Int):=ĉ e
  have:y=x:=by omega
  show this▸a
 ·intro h;show⟨x,h,S⟩
def sZ(b:Bool):(Ś != b)=b:=by cases b<;>rfl
inductive z__law_fields(ds:List D)(R:D->Prop):Prop|mk (d:D) (n:Nat) (s:Led) (_:ds=[d,.int (n:Nat)]) (_:((d=dX n s/\Wy n s)\/∃pp,d=r8 n s pp)) (_:R (.bl ř))
def Eg(F:Fun K Xe Xe lV f J){z:Addr}(a:TxtStruck K mg z)(M:Cl P w K mg base n WX [WD,WY] z__law_wholes)(L:Cl P w K mg base n WZ [WD] z__law_whole)(y:Cl P w K mg base n Xa [Wz,WE] z__law_plan_is)(G:mg "list"=ŗ)(p:mg "isinstance"=ŗ)(l:mg "tuple"=ŗ)(o:mg "len"=ŗ)(C:mg "range"=ŗ):FnOk P w K mg base aG (n+1) f J [WA,WE] (lSp K z__law_fields):=by
 refine F.okD qak (λds R h=>?_) (λO A outer s H E ds R e h=>?_)
 ·let⟨d,k,s,rfl,_⟩:=h;rfl
 let⟨d,k,s,rfl,hd,q⟩:=h
 refine⟨_,(bF (dg (i:=2) qak.nd S (ß S) (aK a.cl a.n_kept a.ns (ac 0)))
   (fu (cE (PWD.td (en (cM (cu (PD.q (ia S p (ac 2) (hZ (v:=.ty "tuple") S l JE S) aa aa)) (λ_=>rfl))) (en (cM (cu (PD.q (bc M e S (ad (dv 2) (ad (bC cI S o J4 (aI (ac 2) aS aa) aa ae) ag bg) aa) aa (ar bg ae))) (λ_=>rfl))) (iq (cM (cu (PD.q (bc L e S (ad (aK a.cl a.n_extra a.ns (ac 0)) ag aQ) aQ ae)) (λ_=>rfl))))))) (aL (bh dc)) cF)
   (fu (cE (aR (df e.units) (PD.q (aK a.cl a.n_kind a.ns (ac 0))) (PD.q iM) (ay _)) (aL (bh (iH (dU (df e.units) (ac 2) (PD.q (bt ag)) (ay _)) (iH (dU (df e.units) (PD.q (aK a.cl a.n_extra a.ns (ac 0))) (PD.q ah) (ay _)) (iH (dU gB (PD.q (aK a.cl a.n_slim a.ns (ac 0))) (PD.q bq) (ay _)) (lr (ia S p (PD.q (aK a.cl a.n_paper a.ns (ac 0))) (hZ (v:=.ty "tuple") S l JE S) aQ aa))))))) cF)
   (fu (cE (PWD.td (en (aR (eM e.units) (PD.q (aK a.cl a.n_kind a.ns (ac 0))) (PD.q iM) (ay _)) (en (aR dI (PD.q (aK a.cl a.n_paper a.ns (ac 0))) (PD.q bq) (ay _)) (iq (cM (cu (PD.q (bc y e S (ad (aK a.cl a.n_slim a.ns (ac 0)) (ad (bC cI S o J4 (aI (ac 2) aS aa) aa ae) ag bg) aQ) aQ (ar bg ae))) (λ_=>rfl))))))) (aL (bh dc)) cF)
   (aL (bh (dU (df e.units) (PD.q (PF.d (kZ S G (ac 2) aa))) (PD.q (PF.d (qf (k:=1) (N':=[WL,Xb]) (cap:=[ŗ,Z 2]) S (.ok (show bV [WA,WE,Xb] (au lV) _ [WL,Xb] [ŗ,Z 2]=ř by lia)) 'a' (bz 'b') (iP S C (ad (dv 1) ag aa)) (λ_ _ _ _ _=>(bf (i:=0) (show List.Nodup ([WL,Xb]:Y Str)by lia) S Wv)) (λ_ _ _ _ _=>(jT (aR Ds (ac 0) (ac 1) (by with_unfolding_all rfl)))) (λ_ _ _ _ _=>(dv 0))))) (ay _)))))))),?_⟩
 rcases hd with⟨rfl,g⟩|⟨N,rfl⟩
 ·have U:=g.n8;have Q:=g.sn;refine⟨S,_,S,?_⟩;refine⟨λρ=>ρ=[Z (.v (dX k s)),Z (.v (.int (k:Nat))),Z (.v (.tup (s.st.map aZ)))],⟨ř,iz _,ff,λ_=>⟨s.st.map λn:Nat=>(n:Int),_,by rw[pb],by rw[Jp,Jp],by rw[Jp];omega,ff,λ_=>⟨S,_,S,s.ex,S,ff,λ_=>rfl⟩⟩⟩,?_⟩;rintro ρ rfl;refine⟨λρ=>ρ=[Z (.v (dX k s)),Z (.v (.int (k:Nat))),Z (.v (.tup (s.st.map aZ)))],⟨S,_,S,λh=>absurd h 'a',λ_=>rfl⟩,?_⟩;rintro ρ rfl;refine⟨λρ=>ρ=[Z (.v (dX k s)),Z (.v (.int (k:Nat))),Z (.v (.tup (s.st.map aZ)))],⟨S,_,S,λh=>absurd h 'a',λ_=>⟨S,_,S,ff,λ_=>⟨S,_,S,s.st.length,pk (0,ŗ) s.bs s.st,s.rs.map (fG s.st),pk 0 s.gl s.st,?_,(),by unfold pk;rw[Jp],by unfold pk;rw[Jp],by rw[Jp];have:=g.rl;omega,λr B=>?_,ff,λ_=>rfl⟩⟩⟩,?_⟩
  ·rw[Jp];rfl
  ·let⟨x,T,rfl⟩:=JL.mp B;change (pk 0 x.1 s.st).length=_;unfold pk;rw[Jp]
  rintro ρ rfl;refine⟨_,S,⟨(),()⟩,by rw[gb];show bi (),iU (λu=>decide (u∈s.st)) (λu=>aZ u),λi d hd=>?_,λys j I=>?_⟩
  ·let⟨hi,rfl⟩:=hX hd;refine⟨.inl (0+(i:Int)),s.st.map λn:Nat=>(à (n:Int):az),S,?_,λc=>?_,λc=>?_⟩
   ·change Z (s.st.map aZ)=_;rw[Kh];rfl
   ·rw[sZ,Kn,wl]at c;show⟨by change D.int _=D.int _;rw[Kn],c⟩
   ·rw[sZ,Kn,wl]at c;show c
  rw[gb]at j;rw[kj j I,KC,D4 g.so g.sl,pb];show AN _ q
 ·refine⟨S,_,S,?_⟩;refine⟨λρ=>ρ=[Z (.v (r8 k s N)),Z (.v (.int (k:Nat))),Z (.v (.tup []))],⟨ř,iz _,ff,λ_=>⟨[],_,S,S,'b',ff,λ_=>⟨S,_,S,0,S,ff,λ_=>rfl⟩⟩⟩,?_⟩;rintro ρ rfl;refine⟨λ_=>False,⟨S,_,S,λ_=>⟨λ_=>⟨S,_,S,λ_=>⟨S,_,S,λ_=>⟨S,_,S,ř,iz _,q⟩,tf⟩,tf⟩,tf⟩,λh=>absurd h 'a'⟩,λρ h=>h.elim⟩
structure PointP(n:Nat)(s:Led)(x:List Int):Prop where
 n8:n<=8
 sl:∀u∈s.st,u<n
 gn:∀g∈s.gn,g.1<n/\g.2.2.length<=100/\∀r∈g.2.2,g.1<r.1.length/\r.1.length<=1000/\0<r.1.getD g.1 0/\∀x∈r.1,x.natAbs<2^9000
 sz:∀i,∀y∈(s.gn.reverse.take i).foldl dO (dL n s.st x),bB y
def Wy.pointP{n:Nat}{s:Led}(h:Wy n s){x:Y Int}(j:∀y∈x,y.natAbs<=2^725):PointP n s x:=by
 have l:=h.n8;refine⟨l,h.sl,λg e=>?_,λi y p=>?_⟩
 ·have G:=h.gok e;refine⟨G.u,by have:=G.r;omega,λr o=>?_⟩;let⟨a,b,c,d⟩:=G.rr r o;show⟨by rw[a];show G.u,(),b,λx j=>ML (c x j) (KY 'b' 'b')⟩
 ·have:=tT l (show 720<=725 by decide) (gs:=s.gn.reverse.take i) (λg e=>h.gok (LJ.mp (MR e))) (IA (n:=n) (st:=s.st) j) y p;refine ze this ?_;rw[Ke,K4];have:=h.gn;omega
def HH(gs:Y Gn):∀sp:Y Int,(gs.foldl dO sp).length=sp.length:=by
 induction gs with
 |nil=>intro sp;rfl
 |cons g gs a=>
  intro sp;change (gs.foldl dO (dO sp g)).length=_;rw[a];show Ju
inductive z_Struck__point_back(ds:List D)(R:D->Prop):Prop|mk (n:Nat) (s:Led) (x:List Int) (_:ds=[dX n s,.tup (x.map D.int)]) (_:PointP n s x) (_:R (.tup ((gw n s x).map D.int)))
def Ae(F:Fun K "point_back" "Struck.point_back" mi f J){y:Addr}(a:TxtStruck K mg y){v:Addr}(e:TxtLedger K mg v)(B:ClM P w K mg base n "spread" ["numbers","places","n"] y_spread)(u:Cl P w K mg base n "least_meeting" ["unknown","least","rows","spot"] z_least_meeting)(Q:mg "reversed"=ŗ)(G:mg "tuple"=ŗ):FnOk P w K mg base aG (n+1) f J ["self","spot"] (lSpM K (zM z_Struck__point_back)):=by
 refine F.okM qaf (λas R C h=>?_) (λT A outer s H E as R C be b_ r h z=>?_)
 ·let⟨_,rfl,m,s,x,rfl,_⟩:=h;rfl
 let⟨_,rfl,m,s,x,rfl,c,q⟩:=h;obtain rfl:=ip z
 refine⟨_,(ao (aJ (i:=2) qaf.nd S Wv (bE B r S (aB (af (dv 1)) (aB (af (aK a.cl a.n_kept a.ns (ac 0))) (aB (af (aK a.cl a.n_breadth a.ns (ac 0))) ba aQ) aQ) aa) aa (ar aQ (ar aQ ae))))
   (ao (eJ JO S (eT (pJ S Q (ad (aK e.cl e.n_gone e.ns (PD.q (aK a.cl a.n_ledger a.ns (ac 0)))) ag aQ))) (gG (n:=3) S (cW (bZ (i:=3) qaf.nd S Wv) (cW (bZ (i:=4) qaf.nd S Wv) (cW (bZ (i:=5) qaf.nd S Wv) gA)))) (aM (j8 2 (af (qt u r S (aI (ac 3) (aI (ac 4) (aI (ac 5) (aI (ac 2) aS aa) aa) aa) aa) aa (ar aa (ar aa (ar aa ae))))) (af (dv 3)))))
   (aM (bX (af (cf cG S G JE (aI (ac 2) aS aa) aa ae)))))),?_⟩
 intro a_;have X:=c.n8;refine⟨S,_,S,S,_,S,_,S,S,_,_,x,s.st,m,S,S,S,(),c.sl,?_⟩;rfl';refine⟨S,_,S,S,_,S,λi ρ=>∃j l o:Ř Sm,ρ=[Z (.v (dX m s)),Z (.v (.tup (x.map D.int))),Z (.ob ŗ (.lst (((s.gn.reverse.take i).foldl dO (dL m s.st x)).map D.int))),j,l,o],⟨_,_,_,S⟩,?_,?_⟩
 ·rintro i d ρ hd ⟨j,l,o,rfl⟩;rw[←Nm]at hd;let⟨g,rfl,p⟩:=bN hd;let⟨U,L,M⟩:=c.gn g (LJ.mp (Jw p))
  have I:(s.gn.reverse.take (i+1)).foldl dO (dL m s.st x)=dO ((s.gn.reverse.take i).foldl dO (dL m s.st x)) g:=by rw[gR p,LF];rfl
  have N:((s.gn.reverse.take i).foldl dO (dL m s.st x)).length=m:=by rw[HH,xg]
  have O:=c.sz i;generalize (s.gn.reverse.take i).foldl dO (dL m s.st x)=sp at *;refine⟨S,?_⟩;refine⟨g.1,g.2.1,_,_,g.2.2,sp,S,.inr S,S,L,M,O,trivial,g.1,eS (by rwa[Jp,N]),_,S,Z (.v (aZ g.1)),Z (.v (.int g.2.1)),Z (.v (.tup (g.2.2.map aw))),?_⟩;rw[I];unfold dO;rw[←Lk];rfl
 ·rintro ρ ⟨j,l,o,rfl⟩;rwa[K4,Jp,←K4,KL]
noncomputable abbrev cn(x:Y Int):D:=.tup (x.map D.int)
inductive z__law_meet(ds:List D)(R:D->Prop):Prop|mk (rs:List aq) (x:List Int) (_:ds=[.lst (rs.map aw),cn x]) (_:rs.length<=100) (_:(∀r∈rs,r.1.length<=1000/\∀y∈r.1,bB y)) (_:(∀y∈x,bB y)) (_:R (.bl (j5 rs x)))
def zR(F:Fun K W5 W5 kR f J)(l:Cl P w K mg base n WU [WC,Wx] z__law_times)(j:mg "all"=ŗ):FnOk P w K mg base aG (n+1) f J [WB,Wx] (lSp K z__law_meet):=by
 refine F.okD zN (λds R h=>?_) (λo A outer s H E ds R e h=>?_)
 ·let⟨rs,x,rfl,_⟩:=h;rfl
 let⟨rs,x,rfl,p,a,g,q⟩:=h;refine⟨_,(aL (bh (bC (pR S) S j MF (aI (PD.q (PF.d (cZ (k:=2) (N':=[WC,WQ,Wx]) (cap:=[ŗ,ŗ,Z 1]) S (.ok (show bV [WB,Wx] (au kR) _ [WC,WQ,Wx] [ŗ,ŗ,Z 1]=ř by lia)) 'a' (hJ (n:=2) (dD (bz 'b') (dD (bz 'b') hV))) (b7 (dv 0)) (λ_ _ _ _ _=>(dM (n:=2) S (bL (bf (i:=0) (show List.Nodup ([WC,WQ,Wx]:Y Str)by lia) S Wv) (bL (bf (i:=1) (show List.Nodup ([WC,WQ,Wx]:Y Str)by lia) S Wv) dH)))) (λ_ _ _ _ _=>(dU na (PD.q (bc l e S (ad (dv 0) (ad (dv 2) ag aa) aa) aa (ar aa ae))) (ac 1) (ay _)))))) aS bx) bx ae))),?_⟩;refine fJ (f:=aw) (λr=>D.bl (decide (r.2<=av r.1 x))) (bi ()) (λr c=>⟨S,r.1,x,S,(a r c).1,(a r c).2,g,S⟩) ?_;refine⟨rs.map λr=>decide (r.2<=av r.1 x),by rw[Kh];rfl,?_⟩;refine toB q ?_;change (rs.map _).all id=_;rw[List.all_map];rfl
def yh(w:Nat)(a:Y (Y Int))(b:Bd)(x:Y Int):eu w (a++[x]) b=eu w a b++(gh b.1 (dr w b)).map λv=>x++[v]:=by
 unfold eu;rw[List.flatMap_append];change _++(_++[])=_;rw[J5]
def yT{d:D}{ds:Y D}{R:Y D->Prop}{ρ:br}(h:dh d=Z ds)(q:R ds):xx (λ_ k=>k d) ρ R:=by
 cases d with
 |lst _=>cases h;show q
 |tup _=>cases h;show q
 |fzl _=>cases h;show q
 |_=>cases h
inductive z__law_window(ds:List D)(R:D->Prop):Prop|mk (d:D) (bs:List Bd) (w:Nat) (_:ds=[d,.int (w:Nat)]) (_:dh d=Z (bs.map aU)) (_:bs.length<=8) (_:(∀k,k<=bs.length->(dF w (bs.take k)).length<=500)) (_:w<=3) (_:R (.lst ((dF w bs).map cn)))
def zJ(F:Fun K Xf Xf kW f J)(U:mg "min"=ŗ)(M:mg "range"=ŗ):FnOk P w K mg base aG (n+1) f J [WH,W3] (lSpM K (zM z__law_window)):=by
 refine F.okM qar (λas R L h=>?_) (λa_ A outer s H E as R L qs X hr h G=>?_)
 ·let⟨_,rfl,d,bs,w,rfl,_⟩:=h;rfl
 let⟨_,rfl,d,bs,w,rfl,hd,hl,I,hw,q⟩:=h;obtain rfl:=ip G
 refine⟨_,(ao (aJ (i:=2) qar.nd S Wv (af (PF.d (da (ad (bt ag) ag bI)))))
   (ao (eJ JO S (eT (b7 (dv 0))) (gG (n:=2) S (cW (bZ (i:=3) qar.nd S Wv) (cW (bZ (i:=4) qar.nd S Wv) gA))) (ao (aJ (i:=5) qar.nd S Wv (af (aP bH (ac 3) (ac 1))))
   (cq (bT (bO (aR dI (ac 4) (PD.q bq) (ay _))) (aM (aJ (i:=5) qar.nd S Wv (af (bC (Gj S) S U PyProof.Rows.boot_min (aI (ac 5) (aI (ac 4) aS aa) aa) aa (ar aa ae))))) ce)
   (ao (aJ (i:=6) qar.nd S Wv (dk (da ag)))
   (ao (eJ JO S (eT (b7 (dv 2))) (bZ (i:=7) qar.nd S (ß S)) (aM (Hu 6 (dk (cZ (k:=1) (N':=[WO,Wx]) (cap:=[ŗ,Z 7]) S (.ok (show bV [WH,W3,W7,WK,WN,"_law_top","_law_longer",Wx] (au kW) _ [WO,Wx] [ŗ,Z 7]=ř by lia)) 'a' (bz 'b') (FW S M (ad (dv 3) (ad (aP bH (ac 5) (PD.q ah)) ag bP) aa)) (λ_ _ _ _ _=>(bf (i:=0) (show List.Nodup ([WO,Wx]:Y Str)by lia) S Wv)) (λ_ _ _ _ _=>(aP bH (ac 1) (PD.q (bt (ad (dv 0) ag aa))))))) (dl bx) bx)))
   (iR 6 (aM (aJ (i:=2) qar.nd S Wv (af (dv 6))))))))))
   (aM (bX (af (dv 2)))))),?_⟩
 intro ke;refine yT (ρ:=[]) hd ?_;refine⟨λi ρ=>∃r u z o a:Ř Sm,ρ=[Z (.v d),Z (.v (.int (w:Nat))),Z (.v (.lst ((dF w (bs.take i)).map cn))),r,u,z,o,a],⟨_,_,_,_,_,S⟩,?_,?_⟩
 ·rintro i e ρ c ⟨r,u,z,o,a,rfl⟩;let⟨b,rfl,B⟩:=bN c;have Qh:=aC B;refine⟨S,?_⟩;have C:dr w b=dr w b:=rfl;refine⟨λρ=>ρ=[Z (.v d),Z (.v (.int (w:Nat))),Z (.v (.lst ((dF w (bs.take i)).map cn))),Z (.v (.int b.1)),Z (.v (oI b.2)),Z (.v (.int (dr w b))),o,a],?_,?_⟩
  ·let⟨l,T⟩:=b
   cases T with
   |none=>show⟨ff,λ_=>rfl⟩
   |some mm=>show⟨λ_=>rfl,tf⟩
  rintro ρ rfl;refine⟨λj ρ=>∃a:Ř Sm,ρ=[Z (.v d),Z (.v (.int (w:Nat))),Z (.v (.lst ((dF w (bs.take i)).map cn))),Z (.v (.int b.1)),Z (.v (oI b.2)),Z (.v (.int (dr w b))),Z (.own ((eu w ((dF w (bs.take i)).take j) b).map cn)),a],⟨_,S⟩,?_,?_⟩
  ·rintro j e ρ c ⟨a,rfl⟩;let⟨x,rfl,p⟩:=bN c
   have be:x.length<=8:=by have:=(wnd_mem.mp (Jw p)).1;rw[Ke]at this;omega
   have Q:=I i ();have hj:=aC p
   have er:cC b.1 (dr w b+1-b.1).toNat=(gh b.1 (dr w b)).map D.int:=by unfold cC gh;rw[Kh];rfl
   have N:=xr 0 w b
   have b_:(eu w ((dF w (bs.take i)).take j) b).length<=500*4:=by refine JR (rR w b _) (Mo ?_ ());rw[Ke];omega
   have g:(cC b.1 (dr w b+1-b.1).toNat).length=(gh b.1 (dr w b)).length:=by rw[er,Jp]
   refine oK ((gh b.1 (dr w b)).map λv=>cn (x++[v])) (by rw[Jp,g]) (by rw[g];show bi ()) (λi y=>((gh b.1 (dr w b)).map λv=>cn (x++[v]))[i]?=Z y) (λi y h=>h) (λi e c=>?_) ?_
   ·rw[er]at c;let⟨v,rfl,O⟩:=bN c;refine⟨small (by rw[Jp];change _+1<=1000;omega),_,S,?_⟩;rw[JF,O];change Z (D.tup ((x++[v]).map D.int))=_;rw[Ku];rfl
   refine⟨?_,(eu w ((dF w (bs.take i)).take (j+1)) b).map cn,?_,_,S⟩
   ·rw[Jp,Jp]
    have:3000<=sizeLine:=by rw[L6];decide
    omega
   ·rw[gR p,yh,Ku,Kh];rfl
  rintro ρ ⟨a,rfl⟩;rw[Jp,KL]
  have e:dF w (bs.take (i+1))=eu w (dF w (bs.take i)) b:=by rw[gR B,qV]
  show⟨Z (.v (.int b.1)),Z (.v (oI b.2)),Z (.v (.int (dr w b))),Z (.v (.lst ((eu w (dF w (bs.take i)) b).map cn))),a,by rw[e];rfl⟩
 rintro ρ ⟨r,u,z,o,a,rfl⟩;rwa[Jp,KL]
def FJ{R:D->Prop}(xs:Y Int)(q:R (.bl Ś)):jx (.lst (xs.map D.int)) (.lst (xs.map D.int)) R:=by
 have e:cy 40 (.lst (xs.map D.int)) (.lst (xs.map D.int))=Z ř:=by change (if (xs.map D.int).length=(xs.map D.int).length then fj (cy 39) (xs.map D.int) (xs.map D.int) else Z Ś)=_;rw[JC S,jO]
 unfold jx;rwa[e]
def vZ{n k:Nat}:∀y∈dA n k,y.natAbs<=1:=λy a=>by let⟨o,_,rfl⟩:=JL.mp a;split<;>decide
def uH{n:Nat}{bs:Y Bd}{rs:Y aq}(l:bs.length=n)(j:n<=1000)(e:∀r∈rs,r.1.length=n/\∀x∈r.1,x.natAbs<2^64):∀r∈bY bs rs,r.1.length<=1000/\∀y∈r.1,bB y:=by
 refine giv_all.mpr ⟨λk g=>⟨by change (dA bs.length k).length<=_;rw[qA];omega,λy a=>fH (m:=1) (JR (vZ y a) 'b') 'b'⟩,λk g _=>⟨by change ((dA bs.length k).map _).length<=_;rw[Jp,qA];omega,λy a=>?_⟩,λr c=>⟨by rwa[(e r c).1],λy a=>fH (m:=64) (KQ ((e r c).2 y a)) 'b'⟩⟩;let⟨z,h,rfl⟩:=JL.mp (show y∈(dA bs.length k).map (- ·)from a);refine fH (m:=1) ?_ 'b';rw[NH];show JR (vZ z h) 'b'
def Ay{st:Y Nat}{x y:Y Int}(a:x.length=st.length)(h:∀k,k<st.length->y.getD (st.getD k 0) 0=x.getD k 0):(st.map λu=>D.int (y.getD u 0))=x.map D.int:=by
 refine K2 λi=>?_;rw[JF,JF];by_cases c:i<st.length
 ·rw[bU (d:=0) c,bU (d:=0) (show i<x.length by omega)];show Kf (λz=>Z (D.int z)) (h i c)
 ·rw[Kd (),Kd ()];rfl
def HE{n:Nat}{s:Led}(a:Wy n s):∀r∈bY (pk (0,ŗ) s.bs s.st) (s.rs.map (fG s.st)),r.1.length<=1000/\∀y∈r.1,bB y:=by
 have l:=a.n8;have j:=a.sn;refine uH (n:=s.st.length) (by unfold pk;rw[Jp]) () λr e=>?_;let⟨y,c,rfl⟩:=JL.mp e;refine⟨by change (pk 0 y.1 s.st).length=_;unfold pk;rw[Jp],λz h=>?_⟩;let⟨u,g,rfl⟩:=JL.mp (show z∈s.st.map _ from h);show (a.rr y c).2.1 _ (cK (by rw[(a.rr y c).1];show a.sl u g))
def x8{n:Nat}{s:Led}(a:Wy n s):(bY (pk (0,ŗ) s.bs s.st) (s.rs.map (fG s.st))).length<=100:=by
 have h:=a.n8;have g:=a.sn;have c:=a.rl;have:=pP (pk (0,ŗ) s.bs s.st) (s.rs.map (fG s.st));rw[Jp]at this
 have e:(pk ((0:Int),(ŗ:Ř Int)) s.bs s.st).length=s.st.length:=by unfold pk;rw[Jp]
 omega
def Ha{n:Nat}{s:Led}{bs:Y Bd}{rs:Y aq}{gs:Y Int}(a:Wy n s):∀y∈pk 0 s.gl s.st,bB y:=λz e=>by let⟨u,c,rfl⟩:=JL.mp (show z∈s.st.map _ from e);show fH (m:=64) (KQ (a.gg _ (cK (by rw[a.gl];show a.sl u c)))) 'b'
def tQ{y:Int}(h:y.natAbs<=2^725):bB y:=K6 h (KY 'b' 'b')
def Bx{n:Nat}{s:Led}(a:Wy n s){x:Y Int}(c:∀y∈x,y.natAbs<=2^725):∀y∈gw n s x,bB y:=λv e=>(a.pointP c).sz s.gn.length v (by rwa[Lb (by rw[K4];show Jx _)])
def xb{n:Nat}{bs:Y Bd}{rs:Y aq}{gs:Y Int}(a:PlOk n bs rs gs):(∀r∈bY bs rs,r.1.length<=1000/\∀y∈r.1,bB y)/\(bY bs rs).length<=100/\∀y∈gs,bB y:=by
 have j:=a.n8;have l:=pP bs rs;have g:=a.rl;have h:=a.bl;show⟨uH a.bl () λr c=>⟨(a.rr r c).1,(a.rr r c).2.1⟩,(),λz e=>fH (m:=64) (KQ (a.gg z e)) 'b'⟩
inductive z__law_back(ds:List D)(R:D->Prop):Prop|mk (n:Nat) (bs:List Bd) (rs:List aq) (gs:List Int) (s:Led) (x y:List Int) (_:ds=[bK bs rs gs,dX n s,cn x,cn y]) (_:Wy n s) (_:PlOk n bs rs gs) (_:x.length=s.st.length) (_:(∀v∈x,bB v)) (_:(∀v∈y,bB v)) (_:y.length=n) (_:(∀k,k<s.st.length->y.getD (s.st.getD k 0) 0=x.getD k 0)) (_:(∀r∈bY bs rs,r.2<=av r.1 y)) (_:av gs y=av (pk 0 s.gl s.st) x+s.ex) (_:R (.bl ř))
def GH(F:Fun K Xk Xk kJ f J){v:Addr}(a:TxtStruck K mg v)(O:Cl P w K mg base n W5 [WB,Wx] z__law_meet)(r:Cl P w K mg base n WU [WC,Wx] z__law_times)(N:Cl P w K mg base n WX [WD,WY] z__law_wholes)(U:Cl P w K mg base n W6 [Wz] z__law_givens)(I:mg "list"=ŗ)(G:mg "len"=ŗ):FnOk P w K mg base aG (n+1) f J [Wz,WA,Wx,WD] (lSp K z__law_back):=by
 refine F.okD He (λds R h=>?_) (λX A outer s H E ds R c h=>?_)
 ·let⟨k,bs,rs,gs,s,x,y,rfl,_⟩:=h;rfl
 let⟨k,bs,rs,gs,s,x,y,rfl,g,e,z,M,p,o,l,j,B,q⟩:=h
 refine⟨_,(fu (cE (PWD.td (en (cM (cu (PD.q (bc N c S (ad (dv 3) (ad (bC cI S G J4 (aI (PD.q (ax (ac 0))) aS aA) aA ae) ag bg) aa) aa (ar bg ae))) (λ_=>rfl))) (iq (aR (eM c.units) (PD.q (PF.d (cZ (k:=1) (N':=[WL,WD]) (cap:=[ŗ,Z 3]) S (.ok (show bV [Wz,WA,Wx,WD] (au kJ) _ [WL,WD] [ŗ,Z 3]=ř by lia)) 'a' (bz 'b') (b7 (aK a.cl a.n_kept a.ns (ac 1))) (λ_ _ _ _ _=>(bf (i:=0) (show List.Nodup ([WL,WD]:Y Str)by lia) S Wv)) (λ_ _ _ _ _=>(bu (ac 1) (ac 0) (λ_ _=>rfl)))))) (PD.q (PF.d (kZ S I (ac 2) aa))) (ay _))))) (aL (bh dc)) cF)
   (fu (cE (cM (cu (PD.q (bc O c S (ad (bc U c S (ad (dv 0) ag aa) aa ae) (ad (dv 3) ag aa) bg) bg (ar aa ae))) (λ_=>rfl))) (aL (bh dc)) cF)
   (aL (bh (dU (df c.units) (PD.q (bc r c S (ad (ax (ac 0)) (ad (dv 3) ag aa) aA) aA (ar aa ae))) (PD.q (aP bH (PD.q (bc r c S (ad (ax (PD.q (aK a.cl a.n_slim a.ns (ac 1)))) (ad (dv 2) ag aa) aA) aA (ar aa ae))) (PD.q (aK a.cl a.n_extra a.ns (ac 1))))) (ay _)))))),?_⟩
 have be:=g.n8;have a_:=g.sn;let⟨Q,b_,T⟩:=xb e;have C:j5 (bY bs rs) y=ř:=metS_iff.mpr j;refine⟨λρ=>ρ=[Z (.v (bK bs rs gs)),Z (.v (dX k s)),Z (.v (cn x)),Z (.v (cn y))],⟨_,S,y,_,S,by rw[Jp,e.bl,o],(),ff,λ_=>⟨S,_,S,?_⟩⟩,?_⟩
 ·refine fJ (f:=aZ) (λu=>D.int (y.getD u 0)) (bi ()) (λu L=>⟨_,cD (i:=u) (bU (by rw[o];show g.sl u L)) S,S⟩) ?_;refine⟨_,S,?_⟩;rw[Ay z l];show FJ _ ⟨ff,λ_=>rfl⟩
 rintro ρ rfl;refine⟨λρ=>ρ=[Z (.v (bK bs rs gs)),Z (.v (dX k s)),Z (.v (cn x)),Z (.v (cn y))],⟨bs,rs,_,S,by rwa[e.bl],by have:=e.rl;omega,bY bs rs,y,S,b_,Q,p,?_⟩,?_⟩
 ·rw[C];show⟨ff,λ_=>rfl⟩
 rintro ρ rfl;refine⟨_,S,gs,y,S,by rw[e.gl];omega,T,p,?_⟩;refine⟨S,_,S,_,S,pk 0 s.gl s.st,x,S,by unfold pk;rw[Jp];omega,Ha (bs:=bs) (rs:=rs) (gs:=gs) g,M,?_⟩;refine⟨S,_,S,?_⟩;change R (.bl (av gs y==av (pk 0 s.gl s.st) x+s.ex));rw[B];show toB q (J3 _)
inductive z__law_near_spots(ds:List D)(R:D->Prop):Prop|mk (n:Nat) (bs:List Bd) (rs:List aq) (gs:List Int) (s:Led) (sp:List Int) (_:ds=[bK bs rs gs,dX n s,cn sp]) (_:Wy n s) (_:PlOk n bs rs gs) (_:sp.length=n) (_:(∀y∈sp,y.natAbs<=2^70)) (_:∀xs:List (List Int),xs.length<=500->(∀x∈xs,x.length=s.st.length/\∀y∈x,y.natAbs<=2^725)->R (.lst (xs.map cn)))
def uL{w n:Nat}{bs:Y Bd}{k:Nat}(h:bs.length<=n)(a:(w+1)^n<=500):(dF w (bs.take k)).length<=500:=by refine JR (EL w _) (JR (Kp () ?_) a);rw[Ke];omega
def ve{n:Nat}{s:Led}(a:Wy n s):∀b∈pk ((0:Int),(ŗ:Ř Int)) s.bs s.st,b.1.natAbs<=2^720:=λb e=>by
 let⟨u,g,rfl⟩:=JL.mp (show b∈s.st.map _ from e);have c:=(a.bb _ (cK (d:=((0:Int),(ŗ:Ř Int))) (by rw[a.bl];show a.sl u g))).1;have h:=a.n8;show JR c (Kp 'b' ())
def lJ{y:Int}{M:Nat}(h:y.natAbs<=2^720+M)(c:M<=1000):y.natAbs<=2^725:=by
 have a:2^720+1000<=2^725:=by lia
 omega
noncomputable def jb(x:Y Int)(j:Nat):Y Int:=x.take j++[x.getD j 0+1]++x.drop (j+1)
def Gz(F:Fun K W0 W0 jG f J){NW:Addr}(g:TxtStruck K mg NW)(Jb:Cl P w K mg base n Xf [WH,W3] z__law_window)(U:mg "tuple"=ŗ)(bW:mg "range"=ŗ)(r:mg "len"=ŗ)(eV:mg "int"=ŗ):FnOk P w K mg base aG (n+1) f J [Wz,WA,WJ] (lSpM K (zM z__law_near_spots)):=by
 refine F.okM qam (λas R Rx h=>?_) (λNZ A outer s H E as R Rx qs N4 hr h Of=>?_)
 ·let⟨_,rfl,k,bs,rs,gs,s,sp,rfl,_⟩:=h;rfl
 let⟨_,rfl,k,bs,rs,gs,s,sp,rfl,l,C,b_,Po,q⟩:=h;obtain rfl:=ip Of
 refine⟨_,(cq (bT (bO (aR ik (PD.q (bC cI S r J4 (aI (PD.q (ax (ac 0))) aS aA) aA ae)) (PD.q ah) (ay _))) (aM (bX (af (bc Jb hr S (ad (ax (PD.q (aK g.cl g.n_slim g.ns (ac 1)))) (ad (aP db (PD.q ah) (PD.q (aP cQ (PD.q ah) (PD.q (cf lx S eV Lg (aI (PD.q (dU fi (PD.q (bC cI S r J4 (aI (PD.q (ax (ac 0))) aS aA) aA ae)) (PD.q ah) (ay _))) aS gI) gI ae))))) ag bP) aA) aA (ar bP ae))))) ce)
   (ao (aJ (i:=3) qam.nd S Wv (af (cf cG S U JE (aI (PD.q (PF.d (cZ (k:=1) (N':=[WL,WJ]) (cap:=[ŗ,Z 2]) S (.ok (show bV [Wz,WA,WJ,"_law_mine",W7,WL] (au jG) _ [WL,WJ] [ŗ,Z 2]=ř by lia)) 'a' (bz 'b') (b7 (aK g.cl g.n_kept g.ns (ac 1))) (λ_ _ _ _ _=>(bf (i:=0) (show List.Nodup ([WL,WJ]:Y Str)by lia) S Wv)) (λ_ _ _ _ _=>(bu (ac 1) (ac 0) (λ_ _=>rfl)))))) aS bx) bx ae)))
   (ao (aJ (i:=4) qam.nd S Wv (dk (da (ad (cf cG S U JE (aI (PD.q (PF.d (cZ (k:=2) (N':=[WK,WN]) (cap:=[ŗ,ŗ]) S (.ok (show bV [Wz,WA,WJ,"_law_mine",W7,WL] (au jG) _ [WK,WN] [ŗ,ŗ]=ř by lia)) 'a' (hJ (n:=2) (dD (bz 'b') (dD (bz 'b') hV))) (b7 (ax (PD.q (aK g.cl g.n_slim g.ns (ac 1))))) (λ_ _ _ _ _=>(dM (n:=2) S (bL (bf (i:=0) (show List.Nodup ([WK,WN]:Y Str)by lia) S Wv) (bL (bf (i:=1) (show List.Nodup ([WK,WN]:Y Str)by lia) S Wv) dH)))) (λ_ _ _ _ _=>(dv 0))))) aS bx) bx ae) (ad (dv 3) ag aa) bg))))
   (ao (eJ JO S (eT (iP S bW (ad (bC cI S r J4 (aI (ac 3) aS aa) aa ae) ag bg))) (bZ (i:=5) qam.nd S Wv) (aM (fU 4 (af (aP bH (PD.q (aP bH (PD.q (pE (ac 3) qD (sq (ac 5)))) (PD.q (bt (ad (aP bH (PD.q (bu (ac 3) (ac 5) (λ_ _=>rfl))) (PD.q ah)) ag bP))))) (PD.q (pE (ac 3) (sq (PD.q (aP bH (ac 5) (PD.q ah)))) qD)))) (dl bP) bP)))
   (iR 4 (aM (bX (af (dv 4))))))))),?_⟩
 intro ke;have h8:=l.n8;have Qk:=l.sn
 have Q:(pk ((0:Int),(ŗ:Ř Int)) s.bs s.st).length=s.st.length:=by unfold pk;rw[Jp]
 have N:∀w:Nat,w<=3->∀x∈dF w (pk (0,ŗ) s.bs s.st),x.length=s.st.length/\∀y∈x,y.natAbs<=2^725:=λw h3 x p=>⟨by rw[(wnd_mem.mp p).1,Q],λy e=>lJ (zG p (ve l) y e) ()⟩;refine⟨λρ=>6<=k/\ρ=[Z (.v (bK bs rs gs)),Z (.v (dX k s)),Z (.v (cn sp)),ŗ,ŗ,ŗ],⟨_,S,λh=>?_,λh=>⟨?_,S⟩⟩,?_⟩
 ·have hk:bs.length<6:=by have:=Kc h;rw[Jp]at this;omega
  obtain⟨w,ew,a_,be⟩:∃w:Nat,3-2*(if decide ((3:Int)<((bs.map aU).length:Nat)) then 1 else 0)=(w:Int)/\w<=3/\(w+1)^k<=500:=by
   rw[Jp];by_cases c:(3:Int)<(bs.length:Nat)
   ·refine⟨1,by rw[Kk c];rfl,'b',JR (Kp 'b' (show k<=5 by have:=C.bl;omega)) 'b'⟩
   ·refine⟨3,by rw[JX c];rfl,'b',JR (Kp 'b' (show k<=3 by have:=C.bl;omega)) 'b'⟩
  refine⟨S,_,S,_,S,_,S,gE 'b' 'b',_,pk (0,ŗ) s.bs s.st,w,by rw[←ew],S,(),λj _=>uL (n:=k) () be,a_,?_⟩;refine q _ ?_ (N w a_);have:=uL (k:=(pk ((0:Int),(ŗ:Ř Int)) s.bs s.st).length) (show (pk ((0:Int),(ŗ:Ř Int)) s.bs s.st).length<=k by omega) be;rw[KL]at this;show this
 ·have:=KH h;rw[Jp,C.bl]at this;omega
 rintro ρ ⟨hk6,rfl⟩;refine⟨S,_,S,?_⟩
 have e1:(s.st.map λu=>D.int (sp.getD u 0))=(s.st.map λu=>sp.getD u 0).map D.int:=by rw[Kh];rfl
 refine fJ (f:=aZ) (λu=>D.int (sp.getD u 0)) (bi ()) (λu L=>⟨_,cD (i:=u) (bU (by rw[b_];show l.sl u L)) S,S⟩) ?_;rw[e1];have VU:(s.st.map λu=>sp.getD u 0).length=s.st.length:=Jp ..
 have o:∀y∈s.st.map λu=>sp.getD u 0,y.natAbs<=2^720:=λy e=>by let⟨u,L,rfl⟩:=JL.mp e;show JR (Po _ (cK (by rw[b_];show l.sl u L))) (Kp 'b' 'b')
 generalize (s.st.map λu=>sp.getD u 0)=a at *;rfl';refine⟨S,_,S,_,S,?_⟩;refine fJ (f:=aU) (λb=>D.int b.1) (bi ()) (λb _=>⟨S,S⟩) ?_
 have e2:((pk ((0:Int),(ŗ:Ř Int)) s.bs s.st).map λb=>D.int b.1)=((pk ((0:Int),(ŗ:Ř Int)) s.bs s.st).map (·.1)).map D.int:=by rw[Kh];rfl
 rw[e2]
 have VM:((pk ((0:Int),(ŗ:Ř Int)) s.bs s.st).map (·.1)).length=s.st.length:=by rw[Jp,Q]
 have I:∀y∈(pk ((0:Int),(ŗ:Ř Int)) s.bs s.st).map (·.1),y.natAbs<=2^720:=λy e=>by let⟨b,Qb,rfl⟩:=JL.mp e;show ve l b Qb
 generalize (pk ((0:Int),(ŗ:Ř Int)) s.bs s.st).map (·.1)=X at *;rfl';refine⟨⟨(),by rw[Jp];omega⟩,λi ρ=>∃O:Ř Sm,ρ=[Z (.v (bK bs rs gs)),Z (.v (dX k s)),Z (.v (cn sp)),Z (.v (cn a)),Z (.own (([X,a]++(List.range i).map (jb a)).map cn)),O],⟨_,S⟩,?_,?_⟩
 ·rintro i d ρ hd ⟨O,rfl⟩;let⟨hi,rfl⟩:=hX hd;rw[Jp]at hi
  have Pq:i<a.length:=by omega
  have v:cP (a.map D.int) ŗ (Z (0+((i:Nat):Int)))=(a.take i).map D.int:=by rw[qO,Kn,DM]
  have B:cP (a.map D.int) (Z (0+((i:Nat):Int)+1)) ŗ=(a.drop (i+1)).map D.int:=by rw[qO,show (0:Int)+((i:Nat):Int)+1=((i+1:Nat):Int)by push_cast;omega,Ft]
  have et:([a.getD i 0+1]:Y Int).map D.int=[.int (a.getD i 0+1)]:=rfl;refine⟨_,v,_,cD (i:=i) (bU (d:=0) Pq) (),?_⟩;refine⟨?_,(a.take i++[a.getD i 0+1]).map D.int,?_,_,B,?_,(jb a i).map D.int,?_,?_⟩
  ·rw[Jp,Ke];show bi ()
  ·rw[Ku];rfl
  ·rw[Jp,Jp,Jr,Ke,Lf];rw[J2];show small ()
  ·show (Ku (l₁:=a.take i++[a.getD i 0+1]) (l₂:=a.drop (i+1))).symm
  refine⟨?_,([X,a]++(List.range (i+1)).map (jb a)).map cn,?_,_,S⟩
  ·rw[Jp,Jr,Jp,JQ];show bi (by change 2+i<=1000;omega)
  ·rw[Lz,Ku (f:=jb a),←JM,Ku (l₂:=[i].map (jb a))];rfl
 rintro ρ ⟨O,rfl⟩;rw[show (cC 0 (((a.map D.int).length:Nat):Int).toNat).length=a.length by rw[gb,Jp];rfl];refine q _ ?_ λx p=>?_
 ·rw[Jr,Jp,JQ];change 2+_<=500;omega
 ·have T:∀z:Y Int,z.length=s.st.length->(∀y∈z,y.natAbs<=2^720)->z.length=s.st.length/\∀y∈z,y.natAbs<=2^725:=λz h1 h2=>⟨h1,λy e=>lJ (M:=0) (h2 y e) 'b'⟩;rcases JT.mp p with h|h
  ·rcases JI.mp h with rfl|h
   ·show T _ VM I
   ·rw[JB.mp h];show T _ VU o
  ·let⟨j,G,rfl⟩:=JL.mp h;have G:=JU.mp G;refine⟨?_,λy e=>?_⟩
   ·unfold jb;rw[Jr,Jr,Ke,Lf,J2];omega
   ·unfold jb at e;rcases JT.mp e with e|e
    ·rcases JT.mp e with e|e
     ·show lJ (M:=0) (o y (MR e)) 'b'
     ·rw[JB.mp e];have:=o _ (cK (d:=0) G);show lJ (M:=1) () 'b'
    ·show lJ (M:=0) (o y (List.mem_of_mem_drop e)) 'b'
def B4{a:Type}{f:a->D}(xs:Y a)(x:a):cr ((xs++[x]).map f) (-1)=Z (f x):=by
 have c:((xs++[x]).map f).length=xs.length+1:=by rw[Jp,Jr,J2]
 unfold cr;rw[G2 (),c];change ((xs++[x]).map f)[xs.length+1-1]?=_;rw[Nat.add_sub_cancel,JF,Jq (Jx _),J6];rfl
noncomputable def lR(n:Nat)(s:Led)(x:Y Int):D:=.tup [cn x,cn (gw n s x)]
inductive z__law_all_back(ds:List D)(R:D->Prop):Prop|mk (n:Nat) (bs:List Bd) (rs:List aq) (gs:List Int) (s:Led) (sp:List Int) (_:ds=[bK bs rs gs,dX n s,.lst ((bY (pk (0,ŗ) s.bs s.st) (s.rs.map (fG s.st))).map aw),cn sp]) (_:Wy n s) (_:PlOk n bs rs gs) (_:SpotBk (di bs rs gs) n s) (_:sp.length=n) (_:(∀y∈sp,y.natAbs<=2^70)) (_:∀xs:List (List Int),xs.length<=500->(∀x∈xs,x.length=s.st.length/\∀y∈x,y.natAbs<=2^725)->R (.lst (xs.map (lR n s))))
def F0(F:Fun K W8 W8 mK f J){C:Addr}(B:TxtStruck K mg C)(L:Cl P w K mg base n W0 [Wz,WA,WJ] z__law_near_spots)(lX:Cl P w K mg base n W5 [WB,Wx] z__law_meet)(I:Cl P w K mg base n Xk [Wz,WA,Wx,WD] z__law_back)(pf:MthD P w K mg base n C "point_back" ["self","spot"] z_Struck__point_back):FnOk P w K mg base aG (n+1) f J [Wz,WA,WB,WJ] (lSpM K (zM z__law_all_back)):=by
 refine F.okM qag (λas R Q h=>?_) (λNZ A outer s H E as R Q qs N4 p h M=>?_)
 ·let⟨_,rfl,k,bs,rs,gs,s,sp,rfl,_⟩:=h;rfl
 let⟨_,rfl,k,bs,rs,gs,s,sp,rfl,e,u,T,N,O,q⟩:=h;obtain rfl:=ip M
 refine⟨_,(ao (aJ (i:=4) qag.nd S Wv (dk (da ag)))
   (ao (eJ JO S (eT (b7 (bc L p S (ad (dv 0) (ad (dv 1) (ad (dv 3) ag aa) aa) aa) aa (ar aa (ar aa ae))))) (bZ (i:=5) qag.nd S Wv) (aM (bT (bO (cu (PD.q (bc lX p S (ad (dv 2) (ad (dv 5) ag aa) aa) aa (ar aa ae))) (λ_=>rfl))) (ao (fU 4 (af (bt (ad (dv 5) (ad (ka pf p B.cl B.ns (dv 1) (ad (dv 5) ag aa) aa ae) ag bg) aa))) (dl bI) bI)
   (aM (bT (bO (cM (cu (PD.q (bc I p S (ad (dv 0) (ad (dv 1) (ad (dv 5) (ad (ax (PD.q (bu (ac 4) (PD.q (ef (PD.q ah))) (λ_ _=>rfl)))) ag aA) aa) aa) aa) aa (ar aa (ar aa (ar aA ae))))) (λ_=>rfl)))) (aM (bX (af bq))) ce))) ce)))
   (iR 4 (aM (bX (af (dv 4))))))),?_⟩
 intro ke;have h8:=e.n8;have Qk:=e.sn;refine⟨k,bs,rs,gs,s,sp,S,e,u,N,O,λxs X b_=>?_⟩;refine⟨λi ρ=>∃(a:Y (Y Int))(v:Ř Sm),ρ=[Z (.v (bK bs rs gs)),Z (.v (dX k s)),Z (.v (.lst ((bY (pk (0,ŗ) s.bs s.st) (s.rs.map (fG s.st))).map aw))),Z (.v (cn sp)),Z (.own (a.map (lR k s))),v]/\a.length<=i/\∀x∈a,x.length=s.st.length/\∀y∈x,y.natAbs<=2^725,⟨[],_,S,'b',λx U=>by cases U⟩,?_,?_⟩
 ·rintro i d ρ hd ⟨a,v,rfl,j,o⟩;let⟨x,rfl,G⟩:=bN hd;have Qh:=aC G;let⟨r,l⟩:=b_ x (Jw G);have g:∀y∈x,bB y:=λy a_=>tQ (l y a_);refine⟨_,x,S,x8 e,HE e,g,λc=>?_,λc=>⟨a,_,S,(),o⟩⟩;let⟨l1,l2,l3,l4⟩:=Cn e u.bl T r (metS_iff.mp c);refine⟨S,S,k,s,x,S,e.pointP l,?_⟩;refine⟨by rw[Jp];show bi (),(a++[x]).map (lR k s),by rw[Ku];rfl,?_⟩;rfl';refine⟨_,B4 a x,_,S,k,bs,rs,gs,s,x,gw k s x,S,e,u,r,g,Bx e l,l1,l2,l3,l4,ff,λ_=>⟨a++[x],_,S,?_,λz be=>?_⟩⟩
  ·rw[Jr,J2];omega
  ·rcases JT.mp be with h|h
   ·show o z h
   ·rw[JB.mp h];show⟨r,l⟩
 rintro ρ ⟨a,v,rfl,j,o⟩;refine q a ?_ o;rw[Jp]at j;omega
abbrev sp_law:=uQ
abbrev Ch:=sS
def vB{R:D->Prop}(xs:Y Int)(q:R (.bl ř)):jX (.tup (xs.map D.int)) (.tup (xs.map D.int)) R:=by have e:cy 40 (.tup (xs.map D.int)) (.tup (xs.map D.int))=Z ř:=jO 39 xs;unfold jX;rwa[e]
def w8{i:Nat}{ρ:br}{d:D}{R:D->Prop}(h:ρ[i]?=Z (Z (.v d)))(k:R d):nK i ρ R:=by unfold nK;rwa[h]
def nums8:Y Int:=[0,1,2,2,3,3,3,4]
def BF{x:Int}(g:0<=x)(l:x<8):∃c:Nat,cr (nums8.map D.int) x=Z (.int (c:Nat))/\c<=4:=by
 let⟨k,rfl⟩:=KG g
 have e:k<8:=by omega
 have:∀j<8,0<=nums8.getD j 0/\nums8.getD j 0<=4:=by decide
 let⟨a,b⟩:=this k e;let⟨c,h⟩:=KG a;show⟨c,cD (i:=k) (by rw[←h];show bU (show k<nums8.length from e)) S,()⟩
def G0{a b y:Int}(h:0<=y)(l:y<4)(a0:0<=a)(a1:a<3)(e:0<=b)(j:b<3):∃c:Nat,cr [D.int 4,D.int 5,D.int (6+a),D.int (6+b)] y=Z (.int (c:Nat))/\c<=8:=by
 let⟨k,rfl⟩:=KG h
 have g:k=0\/k=1\/k=2\/k=3:=by omega
 let⟨a,rfl⟩:=KG a0;let⟨b,rfl⟩:=KG e;rcases g with rfl|rfl|rfl|rfl
 ·show⟨4,S,'b'⟩
 ·show⟨5,S,'b'⟩
 ·show⟨6+a,fW (i:=2) S S,()⟩
 ·show⟨6+b,fW (i:=3) S S,()⟩
theorem lb{f:D->D->Ř Bool}:∀{xs:Y D},(∀x∈xs,f x x=Z ř)->fj f xs xs=Z ř
 | [],_=>rfl
 |x::xs,h=>by change ((f x x).bind λb=>(fj f xs xs).map (b&&·))=_;rw[h x JA,lb λy a=>h y (Jy _ a)];rfl
def rP(n:Nat)(x:Int):cy n (.int x) (.int x)=Z ř:=by
 have:cy n (D.int x) (D.int x)=Z (x==x):=by cases n<;>rfl
 rw[this,J3]
def sD{n:Nat}{a b:D}(e:cy n a a=Z ř)(g:cy n b b=Z ř):cy (n+1) (.tup [a,b]) (.tup [a,b])=Z ř:=lb λx c=>by
 rcases JI.mp c with rfl|c
 ·show e
 ·rwa[JB.mp c]
def CH(bs:Y Bd)(rs:Y aq)(gs:Y Int):cy 40 (bK bs rs gs) (bK bs rs gs)=Z ř:=lb λx a=>by
 rcases JI.mp a with rfl|a
 ·refine lb λy c=>?_;let⟨b,_,rfl⟩:=JL.mp c;refine sD (rP _ _) ?_
  cases b.2 with
  |none=>rfl
  |some m=>show rP _ _
 ·rcases JI.mp a with rfl|a
  ·refine lb λy c=>?_;let⟨r,_,rfl⟩:=JL.mp c;show sD (jO _ _) (rP _ _)
  ·rw[JB.mp a];show jO _ _
def HP{d:D}{R:D->Prop}(h:cy 40 d d=Z ř)(q:R (.bl Ś)):jx d d R:=by unfold jx;rwa[h]
def PlS.ok{n:Nat}{e:Int}{bs:Y Bd}{rs:Y aq}{gs sp:Y Int}(h:PlS n e bs rs gs sp)(o:n<=8)(u:e<=14):PlOk n bs rs gs:=by
 have p:=h.rl
 have g:(1000:Nat)<=2^200:=by lia
 refine⟨o,h.b.1,h.gl,(),λr j=>?_,λb c=>⟨?_,λm l=>?_⟩,λx a=>?_⟩
 ·let⟨a1,a2,a3⟩:=h.r r j;show⟨a1,λx a=>K6 (a2 x a) 'b',()⟩
 ·have:=(h.b.2 b c).1;omega
 ·have:=(h.b.2 b c).2 m l;omega
 ·have:=h.g x a;omega
noncomputable abbrev LZ(ns:Y Int)(o:Om)(n:Nat)(pl:D)(sp:Y Int)(a:D)(so:Y Int)(st:D)(c e:Ř Sm):ak:=[Z (.v (.fzl (ns.map D.int))),Z (.ob ŗ o),Z (.v (.int (n:Nat))),Z (.v pl),Z (.v (cn sp)),Z (.v a),Z (.v (cn so)),Z (.v st),c,e]
def Gp(F:Fun K "law" "law" kE f J){T:Addr}(j:TxtStruck K mg T)(P4:ClM P w K mg base (n+1) Xi [WM] y__law_pool)(OR:ClM P w K mg base (n+1) Xh [Ww,WE,WG,WS] y__law_small)(Qc:ClM P w K mg base (n+1) "_law_far" [Ww,Wz,Wx] y__law_far)(Je:Cl P w K mg base (n+1) W8 [Wz,WA,WB,WJ] z__law_all_back)(C:ClM P w K mg base (n+1) WW [Ww,WG] y__law_draw)(xG:Cl P w K mg base (n+1) Xe [WA,WE] z__law_fields)(pc:Cl P w K mg base (n+1) W6 [Wz] z__law_givens)(lX:Cl P w K mg base (n+1) W5 [WB,Wx] z__law_meet)(a_:MkM P w K mg base n T ["self","plan"] tW)(pf:MthD P w K mg base (n+1) T "point_back" ["self","spot"] z_Struck__point_back)(iB:mg "all"=ŗ)(eV:mg "int"=ŗ)(bj:mg "len"=ŗ)(iE:mg "reversed"=ŗ):FnOk P w K mg base aG (n+2) f J [WM] (lSpM K (zM Ch)):=by
 refine F.okM qaF (λas R Rx h=>?_) (λNZ A outer s H E as R Rx qs N4 l h Of=>?_)
 ·let⟨_,rfl,ns,rfl,_⟩:=h;rfl
 let⟨_,rfl,ns,rfl,hz,q⟩:=h;obtain rfl:=ip Of
 refine⟨_,(ao (aJ (i:=1) qaF.nd S Wv (bE P4 l S (aB (af (dv 0)) ba aa) aa ae))
   (ao (aJ (i:=2) qaF.nd S Wv (mB (af (bt (ad ah (ad ah (ad ah (ad ah (ad ah (ad ah (ad ah (ad ah ag aD) aD) aD) aD) aD) aD) aD) aD))) (bE C l S (bM 1 (aB (af ah) ba aD) aa) aa (ar aD ae)) (λ_ _=>rfl)))
   (cq (bT (bO (aR (df l.units) (ac 2) (PD.q ah) (ay _))) (aM (aJ (i:=2) qaF.nd S Wv (mB (tR (aB (af ah) (aB (af ah) (aB (dw bH (af ah) (bE C l S (bM 1 (aB (af ah) ba aD) aa) aa (ar aD ae))) (aB (dw bH (af ah) (bE C l S (bM 1 (aB (af ah) ba aD) aa) aa (ar aD ae))) ba bP) bP) aD) aD)) (bE C l S (bM 1 (aB (af ah) ba aD) aa) aa (ar aD ae)) (λ_ _=>rfl)))) ce)
   (ao (rW (bE OR l S (bM 1 (aB (af (dv 2)) (aB (af (aP bH (PD.q ah) (PD.q (aP cQ (PD.q ah) (PD.q (cf lx S eV Lg (aI (PD.q (dU fi (ac 2) (PD.q ah) (ay _))) aS gI) gI ae)))))) (aB (bE C l S (bM 1 (aB (af ah) ba aD) aa) aa (ar aD ae)) ba bg) bP) aa) aa) aa (ar aa (ar bP (ar bg ae)))) (gG (n:=2) S (cW (bZ (i:=3) qaF.nd S Wv) (cW (bZ (i:=4) qaF.nd S Wv) gA))))
   (ao (rW (bE Qc l S (bM 1 (aB (af (dv 3)) (aB (af (dv 4)) ba aa) aa) aa) aa (ar aa (ar aa ae))) (gG (n:=2) S (cW (bZ (i:=3) qaF.nd S Wv) (cW (bZ (i:=4) qaF.nd S Wv) gA))))
   (ao (rW (bE OR l S (bM 1 (aB (bE C l S (bM 1 (aB (af ah) ba aD) aa) aa (ar aD ae)) (aB (af ah) (aB (af ah) ba aD) aD) bg) aa) aa (ar bg (ar aD (ar aD ae)))) (gG (n:=2) S (cW (bZ (i:=5) qaF.nd S Wv) (cW (bZ (i:=6) qaF.nd S Wv) gA))))
   (ao (aJ (i:=7) qaF.nd S (ß S) (rK (mZ a_ l S j.mgC j.ns (aB (af (dv 3)) ba aa) aa ae)))
   (cq (bT (bO (cM (cu (PD.q (bc xG l S (ad (dv 7) (ad (dv 2) ag aa) aa) aa (ar aa ae))) (λ_=>rfl)))) (aM (bX (af dc))) ce)
   (cq (bT (bO (aR (df l.units) (PD.q (aK j.cl j.n_kind j.ns (ac 7))) (PD.q iM) (ay _))) (aM (bX (af (vP (PD.q (bc lX l S (ad (bc pc l S (ad (dv 3) ag aa) aa ae) (ad (dv 4) ag aa) bg) bg (ar aa ae))))))) ce)
   (ao (aJ (i:=8) qaF.nd S Wv (af (bc Je l S (ad (dv 3) (ad (dv 7) (ad (bc pc l S (ad (aK j.cl j.n_slim j.ns (ac 7)) ag aQ) aQ ae) (ad (dv 4) ag aa) bg) aa) aa) aa (ar aa (ar bg (ar aa ae))))))
   (cq (bT (PXW.toB (vo (bO (aR gB (ac 8) (PD.q bq) (ay _))) (v9 (yK (pA (ya xG l S (aB (rK (mZ a_ l S j.mgC j.ns (aB (af (dv 5)) ba aa) aa ae)) (aB (af (bC cI S bj J4 (aI (PD.q (ax (ac 5))) aS aA) aA ae)) ba bg) bg) bg (ar bg ae)) (λ_=>rfl)))))) (aM (bX (af dc))) ce)
   (ao (aJ (i:=9) qaF.nd S (ß S) (rK (mZ a_ l S j.mgC j.ns (aB (af (dv 3)) ba aa) aa ae)))
   (cq (bT (bO (PWD.td (en (aR (eM l.units) (PD.q (aK j.cl j.n_kind j.ns (ac 9))) (PD.q iM) (ay _)) (en (aR (eM l.units) (PD.q (aK j.cl j.n_slim j.ns (ac 9))) (PD.q (aK j.cl j.n_slim j.ns (ac 7))) (ay _)) (iq (aR (eM l.units) (PD.q (aK j.cl j.n_extra j.ns (ac 9))) (PD.q (aK j.cl j.n_extra j.ns (ac 7))) (ay _))))))) (aM (bX (af dc))) ce)
   (aM (bX (af (bC (pR S) S iB MF (aI (PD.q (PF.d (cZ (k:=2) (N':=[WI,Xl,WA,W4]) (cap:=[ŗ,ŗ,Z 7,Z 9]) S (.ok (show bV [WM,Ww,WE,Wz,Wx,"_law_second","_law_other",WA,WD,W4] (au kE) _ [WI,Xl,WA,W4] [ŗ,ŗ,Z 7,Z 9]=ř by lia)) 'a' (hJ (n:=2) (dD (bz 'b') (dD (bz 'b') hV))) (pJ S iE (ad (dv 8) ag aa)) (λ_ _ _ _ _=>(dM (n:=2) S (bL (bf (i:=0) (show List.Nodup ([WI,Xl,WA,W4]:Y Str)by lia) S Wv) (bL (bf (i:=1) (show List.Nodup ([WI,Xl,WA,W4]:Y Str)by lia) S Wv) dH)))) (λ_ _ _ _ _=>(iH (dU (df l.units) (PD.q (ka pf l j.cl j.ns (dv 2) (ad (dv 0) ag aa) aa ae)) (ac 1) (ay _)) (lr (dU (df l.units) (PD.q (ka pf l j.cl j.ns (dv 3) (ad (dv 0) ag aa) aa ae)) (ac 1) (ay _)))))))) aS bx) bx ae))))))))))))))))),?_⟩
 intro ke;refine⟨_,S,S,ns,S,hz,λo0 UC=>?_⟩;rfl';refine⟨⟨_,_,S⟩,_,S,S,_,_,8,0,S,UC,'b','b',cA 'b',λx o1 x0 x1 OZ=>?_⟩;rfl';let⟨c,hc,hc4⟩:=BF x0 x1;refine⟨_,hc,?_⟩;refine⟨λρ=>∃(n:Nat)(o':Om),ρ=[Z (.v (.fzl (ns.map D.int))),Z (.ob ŗ o'),Z (.v (.int (n:Nat))),ŗ,ŗ,ŗ,ŗ,ŗ,ŗ,ŗ]/\n<=8/\Pl 10 o',⟨λh=>?_,λh=>⟨c,o1,S,(),OZ.mono 'b'⟩⟩,?_⟩
 ·refine⟨⟨_,_,S⟩,_,S,S,_,_,3,_,S,OZ,'b','b',cA 'b',λa o2 a0 a1 X=>?_⟩;rfl';refine⟨⟨_,_,S⟩,_,S,S,_,_,3,_,S,X,'b','b',cA 'b',λb o3 b0 b1 be=>?_⟩;rfl';refine⟨⟨_,_,S⟩,_,S,S,_,_,4,_,S,be,'b','b',cA 'b',λy o4 y0 y1 U=>?_⟩;rfl';let⟨e,he,he8⟩:=G0 y0 y1 a0 a1 b0 b1;show⟨_,he,e,o4,S,he8,U.mono 'b'⟩
 rintro ρ ⟨n,o2,rfl,I,X⟩;obtain⟨G,UE,m1,m2⟩:∃G:Int,6+2*(if decide ((3:Int)<(n:Nat)) then 1 else 0)=G/\1<=G/\G<=12:=⟨_,S,by split<;>omega,by split<;>omega⟩;refine⟨⟨_,_,S⟩,gE 'b' 'b',?_⟩;refine⟨⟨_,_,S⟩,_,S,S,_,_,4,_,S,X,'b','b',cA 'b',λop o3 p0 p1 be=>?_⟩;rfl';refine⟨_,S,S,_,_,n,_,G,op,by rw[←UE],be,'b',I,m1,m2,(),(),λbs rs gs sp o4 hS hN U=>?_⟩;rfl';refine⟨S,?_⟩;refine⟨⟨_,_,S⟩,_,S,S,_,_,n,_,G,bs,rs,gs,sp,S,U,'b',I,(),hS,λg o r o5 z hNb Pn hsz Qa=>?_⟩;rfl';refine⟨S,?_⟩;have Rt:=z.bl;subst Rt;refine⟨⟨_,_,S⟩,⟨_,_,S⟩,_,S,S,_,_,3,_,S,Qa,'b','b',cA 'b',λc2 o6 c0 c1 Rb=>?_⟩;rfl';let⟨n2,rfl⟩:=KG c0;refine⟨_,S,S,_,_,n2,_,3,1,S,Rb,'b',(),'b','b','b','b',λp B v N M hS3 hN3 SI=>?_⟩;rfl';refine⟨S,?_⟩;have Wa:=hS3.ok () 'b';have Wb:=Wa.bl;subst Wb;refine⟨_,g,o,gs,λs=>(Wy g.length s/\SpotBk (di g o gs) g.length s/\SpotFw (di g o gs) g.length s)/\Rch (di g o gs) s,mu,S,(),by have:=z.rl;omega,⟨⟨z.wy,jY.1,jY.2⟩,.nil⟩,tz _ _,λt ht hR hU Qq=>⟨_,S,?_⟩,λt ht hN=>⟨_,S,?_⟩⟩
 ·let⟨⟨u,Q,hf⟩,Qe⟩:=ht;rfl';have Qk:=u.sn;have h8:=u.n8;refine⟨λρ=>ρ=LZ ns M g.length (bK g o gs) r (bK p B v) N (dX g.length t) ŗ ŗ,⟨_,g.length,t,S,.inl ⟨S,u⟩,ff,λ_=>rfl⟩,?_⟩;rintro ρ rfl;refine⟨λρ=>ρ=LZ ns M g.length (bK g o gs) r (bK p B v) N (dX g.length t) ŗ ŗ,⟨S,_,S,λh=>absurd h 'a',λ_=>rfl⟩,?_⟩;rintro ρ rfl;refine⟨S,_,S,pk (0,ŗ) t.bs t.st,t.rs.map (fG t.st),_,S,by unfold pk;rw[Jp];omega,by rw[Jp];show u.rl,?_⟩;refine⟨g.length,g,o,gs,t,r,S,u,z,Q,Pn,hsz,λxs hxn V9=>?_⟩;rfl';refine⟨λρ=>ρ=LZ ns M g.length (bK g o gs) r (bK p B v) N (dX g.length t) (Z (.v (.lst (xs.map (lR g.length t))))) ŗ,⟨ff,λ_=>?_⟩,?_⟩
  ·refine⟨_,p,B,v,λs=>Wy p.length s/\SpotBk (di p B v) p.length s/\SpotFw (di p B v) p.length s,mu,S,(),by have:=Wa.rl;omega,⟨Wa.wy,jY.1,jY.2⟩,kK _ _,λb_ L _ _ _=>⟨_,S,?_⟩,λb_ L hN4=>⟨_,S,?_⟩⟩
   ·show⟨_,S,_,p.length,b_,by rw[Jp];rfl,.inl ⟨S,L.1⟩,ff,λ_=>rfl⟩
   ·show⟨_,S,_,p.length,fN b_ (bw b_) 1,by rw[Jp];rfl,.inr ⟨_,S⟩,ff,λ_=>rfl⟩
  rintro ρ rfl;refine⟨_,g,o,gs,λs=>(Wy g.length s/\SpotBk (di g o gs) g.length s/\SpotFw (di g o gs) g.length s)/\Rch (di g o gs) s,mu,S,(),by have:=z.rl;omega,⟨⟨z.wy,jY.1,jY.2⟩,.nil⟩,tz _ _,λt' Wc hR' hU' hnon'=>⟨_,S,?_⟩,λt' Wc O=>⟨_,S,?_⟩⟩
  ·have e:=Qe.uniq (.inr ⟨hR,hU⟩) Wc.2 (.inr ⟨hR',hU'⟩);subst e;rfl';refine⟨λρ=>ρ=LZ ns M g.length (bK g o gs) r (bK p B v) N (dX g.length t) (Z (.v (.lst (xs.map (lR g.length t))))) (Z (.v (dX g.length t))),⟨S,_,S,λh=>absurd h 'a',λ_=>⟨S,_,S,S,_,S,HP (CH _ _ _) ⟨ff,λ_=>⟨S,_,S,S,_,S,?_⟩⟩⟩⟩,?_⟩
   ·change ((!(t.ex==t.ex))=ř->_)/\((!(t.ex==t.ex))=Ś->_);rw[J3];show⟨ff,λ_=>rfl⟩
   rintro ρ rfl;refine oK (xs.reverse.map λ_=>D.bl ř) (by simp) (by rw[K4,Jp];show bi ()) (λi y=>(xs.reverse.map λ_=>D.bl ř)[i]?=Z y) (λi y h=>h) (λi d hd=>?_) ?_
   ·rw[←Nm]at hd;let⟨x,rfl,hx⟩:=bN hd;let⟨Rq,Sv⟩:=V9 x (LJ.mp (Jw hx));refine⟨S,S,S,g.length,t,x,S,u.pointP Sv,w8 (d:=cn (gw g.length t x)) S (vB _ ?_)⟩;refine⟨λ_=>⟨S,S,g.length,t,x,S,u.pointP Sv,w8 (d:=cn (gw g.length t x)) S (vB _ ?_)⟩,tf⟩;change (xs.reverse.map λ_=>D.bl ř)[i]?=Z (D.bl ř);rw[JF,hx];rfl
   refine⟨xs.reverse.map λ_=>ř,by rw[Kh];rfl,?_⟩
   have:(xs.reverse.map λ_=>ř).all id=ř:=K7.mpr λb Q=>by let⟨_,_,rfl⟩:=JL.mp Q;rfl
   change R (Sm.v (D.bl ((xs.reverse.map λ_=>ř).all id))) _;rwa[this]
  ·have e:=Qe.uniq (.inr ⟨hR,hU⟩) Wc.2 (.inl λe=>by rw[e]at O;cases O);subst e;rw[Qq]at O;cases O
 ·let⟨⟨u,Q,hf⟩,Qe⟩:=ht;rfl';refine⟨λρ=>ρ=LZ ns M g.length (bK g o gs) r (bK p B v) N (r8 g.length (fN t (bw t) 1) ((fN t (bw t) 1).ln++[D.tup [D.str "shut",fL t]])) ŗ ŗ,⟨_,g.length,_,S,.inr ⟨_,S⟩,ff,λ_=>rfl⟩,?_⟩;rintro ρ rfl;let⟨p1,p2,p3⟩:=xb z
  have Wd:j5 (bY g o) r=Ś:=by
   cases hm:j5 (bY g o) r with
   |false=>rfl
   |true=>
    let⟨y,hy,_⟩:=hf r ((GF S).mpr ⟨Pn,metS_iff.mp hm⟩);rw[EC u hy]at hN;cases hN
  refine⟨λ_=>False,⟨S,_,S,λ_=>⟨g,o,_,S,(),by have:=z.rl;omega,bY g o,r,S,p2,p1,λy hy=>tQ (JR (hsz y hy) (Kp 'b' 'b')),?_⟩,λh=>absurd h 'a'⟩,λρ h=>h.elim⟩;rwa[Wd]
end
def all_mk{l:PySem.W.OpenLaw}{w:È}{K:Â}{h:Heap}{mg:Str->Ř Value}{fa:Addr}{a:Addr}{f:Addr}(X:K.In h)(G:h.Ns Á mg)(hfa:mg "law"=Z (.ref fa))

  (OC:Ò K Á "Ledger"=Z (Z (.ref a)))
  (OD:Ò K Á "Struck"=Z (Z (.ref f)))
  (a1:Has K nL "common_of_two")
  (a2:Has K ng "common")
  (a3:Has K mF "up")
  (a4:Has K ky "unit")
  (a5:Has K lD "left")
  (a6:Has K kQ "turned")
  (a7:Has K lB "evened")
  (a8:Has K jQ "givens")
  (a9:Has K lN "without")
  (a10:Has K ku "only_unknown")
  (a11:Has K mI "first_most_marks")
  (a12:Has K l6 "is_crossed")
  (a13:Has K on "greatest_sum")
  (a14:Has K lP "least_sum")
  (a15:Has K ot "crossed_unknown")
  (a16:Has K nq "hopeless_row")
  (a17:Has K oF "idle_row")
  (a18:Has K k6 "single_row")
  (a19:Has K mJ "uneven_row")
  (a20:Has K nh "doubled_row")
  (a21:Has K l7 "fixed_unknown")
  (a22:Has K la "has_above")
  (a23:Has K kF "has_below")
  (a24:Has K l8 "sinking_unknown")
  (a25:Has K nU "rising_unknown")
  (a26:Has K mS "hanging_unknown")
  (a27:Has K oo "row_struck")
  (a28:Has K mP "unknown_struck")
  (a29:Has K kY "hopeless_shares")
  (a30:Has K nE "strike")
  (a31:Has K lv "picked")
  (a32:Has K li "slim_plan")
  (a33:Has K mD "spread")
  (a34:Has K lL "least_meeting")
  (a35:Has K mW WZ)
  (a36:Has K kO WX)
  (a37:Has K oJ Xi)
  (a38:Has K nt WW)
  (a39:Has K kC WU)
  (a40:Has K nT Xd)
  (a41:Has K mR Xj)
  (a42:Has K nP Xh)
  (a43:Has K jo "_law_far")
  (a44:Has K mz Xa)
  (a45:Has K lV Xe)
  (a46:Has K kg W6)
  (a47:Has K kR W5)
  (a48:Has K kW Xf)
  (a49:Has K kJ Xk)
  (a50:Has K jG W0)
  (a51:Has K mK W8)
  (a52:Has K kE "law")
  (We:HasM K mv a "__init__" "Ledger.__init__")
  (Wf:HasM K oU a "put_line" "Ledger.put_line")
  (Wg:HasM K ou a "drop_row" "Ledger.drop_row")
  (Wh:HasM K ox a "turn_to_bound" "Ledger.turn_to_bound")
  (Wi:HasM K oP a "even_row" "Ledger.even_row")
  (Wj:HasM K oV a "bound_share" "Ledger.bound_share")
  (Wk:HasM K oO a "fix" "Ledger.fix")
  (Wl:HasM K j6 a "hang" "Ledger.hang")
  (Wm:HasM K l9 a "let_go" "Ledger.let_go")
  (Wn:HasM K oy f "__init__" "Struck.__init__")
  (Wo:HasM K mi f "point_back" "Struck.point_back")
  (Qs:ô K a Str.empty=ř) (Qt:ö K a=ř) (Qu:Ą K a=ř) (Qv:Ð K (.ref a) "__setattr__"=Z (Z (.builtin "object.__setattr__"))) (Qw:Ī K a=ř) (Qx:ã K (.ref a)=ř)
  (O5:Ð K (.ref a) "bounds"=Z ŗ)
  (Pu:Ð K (.ref a) "rows"=Z ŗ)
  (Pw:Ð K (.ref a) "goal"=Z ŗ)
  (OW:Ð K (.ref a) "staying"=Z ŗ)
  (Px:Ð K (.ref a) "told"=Z ŗ)
  (Pe:Ð K (.ref a) "lines"=Z ŗ)
  (Oz:Ð K (.ref a) "least_marks"=Z ŗ)
  (OH:Ð K (.ref a) "most_marks"=Z ŗ)
  (ON:Ð K (.ref a) "row_marks"=Z ŗ)
  (OA:Ð K (.ref a) "goal_shares"=Z ŗ)
  (Pf:Ð K (.ref a) "extra"=Z ŗ)
  (Py:Ð K (.ref a) "gone"=Z ŗ)
  (Qy:ô K f Str.empty=ř) (Qz:ö K f=ř) (QA:Ą K f=ř) (QB:Ð K (.ref f) "__setattr__"=Z (Z (.builtin "object.__setattr__"))) (QC:Ī K f=ř) (QD:ã K (.ref f)=ř)
  (O6:Ð K (.ref f) "ledger"=Z ŗ)
  (OX:Ð K (.ref f) "breadth"=Z ŗ)
  (Pz:Ð K (.ref f) "kind"=Z ŗ)
  (Pg:Ð K (.ref f) "paper"=Z ŗ)
  (PB:Ð K (.ref f) "slim"=Z ŗ)
  (PH:Ð K (.ref f) "kept"=Z ŗ)
  (Ph:Ð K (.ref f) "extra"=Z ŗ)
  (TU:Ò K Á "abs"=Z ŗ)
  (Rv:Ò K Á "tuple"=Z ŗ)
  (Rw:Ò K Á "range"=Z ŗ)
  (TV:Ò K Á "sum"=Z ŗ)
  (TY:Ò K Á "zip"=Z ŗ)
  (TZ:Ò K Á "len"=Z ŗ)
  (P5:Ò K Á "enumerate"=Z ŗ)
  (T1:Ò K Á "any"=Z ŗ)
  (T2:Ò K Á "max"=Z ŗ)
  (PU:Ò K Á "isinstance"=Z ŗ)
  (T3:Ò K Á "int"=Z ŗ)
  (y_bool:Ò K Á "bool"=Z ŗ)
  (T4:Ò K Á "all"=Z ŗ)
  (Sw:Ò K Á "list"=Z ŗ)
  (T5:Ò K Á "min"=Z ŗ)
  (Qd:Ò K Á "reversed"=Z ŗ) :
  ∃fd:Í,(∀(s:À)(v:Value),Ď s fd ⟨[v],[]⟩ [(WM,v)])/\∀base:Heap,K.In base->base.Ns Á mg->FnOk l.prog w K mg base aG 9 fa fd [WM] (sp_law K):=by
 let⟨f1,d1,F1,m1,_⟩:=a1.fn X G;let⟨f2,d2,F2,m2,_⟩:=a2.fn X G;let⟨f3,d3,F3,m3,_⟩:=a3.fn X G;let⟨f4,d4,F4,m4,_⟩:=a4.fn X G;let⟨f5,d5,F5,m5,_⟩:=a5.fn X G;let⟨f6,d6,F6,m6,_⟩:=a6.fn X G;let⟨f7,d7,F7,m7,_⟩:=a7.fn X G;let⟨f8,d8,F8,m8,_⟩:=a8.fn X G;let⟨f9,d9,F9,m9,_⟩:=a9.fn X G;let⟨f10,d10,u,m10,_⟩:=a10.fn X G;let⟨f11,d11,x,m11,_⟩:=a11.fn X G;let⟨f12,d12,y,m12,_⟩:=a12.fn X G;let⟨f13,d13,z,m13,_⟩:=a13.fn X G;let⟨f14,d14,A,m14,_⟩:=a14.fn X G;let⟨f15,d15,B,m15,_⟩:=a15.fn X G;let⟨f16,d16,C,m16,_⟩:=a16.fn X G;let⟨f17,d17,E,m17,_⟩:=a17.fn X G;let⟨f18,d18,F,m18,_⟩:=a18.fn X G;let⟨f19,d19,H,m19,_⟩:=a19.fn X G;let⟨f20,d20,I,m20,_⟩:=a20.fn X G;let⟨f21,d21,J,m21,_⟩:=a21.fn X G;let⟨f22,d22,L,m22,_⟩:=a22.fn X G;let⟨f23,d23,M,m23,_⟩:=a23.fn X G;let⟨f24,d24,N,m24,_⟩:=a24.fn X G;let⟨f25,d25,O,m25,_⟩:=a25.fn X G;let⟨f26,d26,Q,m26,_⟩:=a26.fn X G;let⟨f27,d27,R,m27,_⟩:=a27.fn X G;let⟨f28,d28,b_,m28,_⟩:=a28.fn X G;let⟨f29,d29,T,m29,_⟩:=a29.fn X G;let⟨f30,d30,U,m30,_⟩:=a30.fn X G;let⟨f31,d31,a_,m31,_⟩:=a31.fn X G;let⟨f32,d32,be,m32,_⟩:=a32.fn X G;let⟨f33,d33,F33,m33,_⟩:=a33.fn X G;let⟨f34,d34,F34,m34,_⟩:=a34.fn X G;let⟨f35,d35,F35,m35,_⟩:=a35.fn X G;let⟨f36,d36,F36,m36,_⟩:=a36.fn X G;let⟨f37,d37,F37,m37,_⟩:=a37.fn X G;let⟨f38,d38,F38,m38,_⟩:=a38.fn X G;let⟨f39,d39,F39,m39,_⟩:=a39.fn X G;let⟨f40,d40,F40,m40,_⟩:=a40.fn X G;let⟨f41,d41,F41,m41,_⟩:=a41.fn X G;let⟨f42,d42,F42,m42,_⟩:=a42.fn X G;let⟨f43,d43,F43,m43,_⟩:=a43.fn X G;let⟨f44,d44,F44,m44,_⟩:=a44.fn X G;let⟨f45,d45,F45,m45,_⟩:=a45.fn X G;let⟨f46,d46,F46,m46,_⟩:=a46.fn X G;let⟨f47,d47,F47,m47,_⟩:=a47.fn X G;let⟨f48,d48,F48,m48,_⟩:=a48.fn X G;let⟨f49,d49,F49,m49,_⟩:=a49.fn X G;let⟨f50,d50,F50,m50,_⟩:=a50.fn X G;let⟨f51,d51,F51,m51,_⟩:=a51.fn X G;let⟨f52,d52,F52,m52,_,_,_,e⟩:=a52.fn X G;let⟨f53,d53,We,i53,k53,F53⟩:=We;have b53:=F53.bd (ps:=["self","plan"]);let⟨f54,d54,Wf,i54,k54,F54⟩:=Wf;have b54:=F54.bd (ps:=["self","shares","divisor"]);let⟨f55,d55,Wg,i55,k55,F55⟩:=Wg;have b55:=F55.bd (ps:=["self","place"]);let⟨f56,d56,Wh,i56,k56,F56⟩:=Wh;have b56:=F56.bd (ps:=["self","place"]);let⟨f57,d57,Wi,i57,k57,F57⟩:=Wi;have b57:=F57.bd (ps:=["self","place"]);let⟨f58,d58,Wj,i58,k58,F58⟩:=Wj;have b58:=F58.bd (ps:=["self","unknown","entry"]);let⟨f59,d59,Wk,i59,k59,F59⟩:=Wk;have b59:=F59.bd (ps:=["self","unknown","number"]);let⟨f60,d60,Wl,i60,k60,F60⟩:=Wl;have b60:=F60.bd (ps:=["self","unknown"]);let⟨f61,d61,Wm,i61,k61,F61⟩:=Wm;have b61:=F61.bd (ps:=["self","unknown","least","rows"]);let⟨f62,d62,Wn,i62,k62,F62⟩:=Wn;have b62:=F62.bd (ps:=["self","plan"]);let⟨f63,d63,Wo,i63,k63,F63⟩:=Wo;have b63:=F63.bd (ps:=["self","spot"]);cases hfa.symm.trans m52;refine⟨d52,λs v=>by rw[e];show .of_eq S,λbase _ _=>?_⟩;have ie:=KO X G TU;have c:=KO X G Rv;have o:=KO X G Rw;have kq:=KO X G TV;have eW:=KO X G TY;have g:=KO X G TZ;have p:=KO X G P5;have km:=KO X G T1;have iC:=KO X G T2;have ei:=KO X G PU;have eV:=KO X G T3;have sx:=KO X G y_bool;have iB:=KO X G T4;have dY:=KO X G Sw;have sy:=KO X G T5;have iE:=KO X G Qd;have j:TxtLedger K mg a:=⟨⟨Qs,Qt,Qu,Qv⟩,O5,Pu,Pw,OW,Px,Pe,Oz,OH,ON,OA,Pf,Py,mg_of X G OC,OC⟩;have r:TxtStruck K mg f:=⟨⟨Qy,Qz,QA,QB⟩,O6,OX,Pz,Pg,PB,PH,Ph,mg_of X G OD,OD⟩;have H1:=BK (P:=l.prog) (w:=w) (mg:=mg) (base:=base) (n:=0) F1 ie;have Q1:=F1.cl m1 H1;have H2:=EG (n:=1) F2 Q1.mono;have Q2:=F2.cl m2 H2;have H3:=HW (P:=l.prog) (w:=w) (mg:=mg) (base:=base) (n:=0) F3;have Q3:=F3.cl m3 H3;have H4:=FN (P:=l.prog) (w:=w) (mg:=mg) (base:=base) (n:=0) F4 c o;have Q4:=F4.cl m4 H4;have H5:=A6 (P:=l.prog) (w:=w) (mg:=mg) (base:=base) (n:=0) F5 kq eW;have Q5:=F5.cl m5 H5;have H6:=Ax (P:=l.prog) (w:=w) (mg:=mg) (base:=base) (n:=0) F6 c;have Q6:=F6.cl m6 H6;have H7:=Ct (n:=2) F7 Q2.mono Q3.mono c;have Q7:=F7.cl m7 H7;have H8:=Fy (n:=1) F8 Q6.mono Q4.mono g o c;have Q8:=F8.cl m8 H8;have H9:=Bc (P:=l.prog) (w:=w) (mg:=mg) (base:=base) (n:=0) F9 c p;have Q9:=F9.cl m9 H9;have U4:=Gc (P:=l.prog) (w:=w) (mg:=mg) (base:=base) (n:=0) u p;have Q10:=u.cl m10 U4;have H11:=xU (P:=l.prog) (w:=w) (mg:=mg) (base:=base) (n:=0) x g;have R11:=x.clM m11 H11;have H12:=FQ (P:=l.prog) (w:=w) (mg:=mg) (base:=base) (n:=0) y;have Wq:=y.cl m12 H12;have H13:=DR (P:=l.prog) (w:=w) (mg:=mg) (base:=base) (n:=0) z eW;have Q13:=z.cl m13 H13;have H14:=FD (n:=1) A Q13.mono;have Q14:=A.cl m14 H14;have H15:=Dr (n:=1) B Wq.mono;have Q15:=B.cl m15 H15;have H16:=AS (n:=1) C Q13.mono p;have Q16:=C.cl m16 H16;have H17:=xR (n:=2) E Q14.mono p;have Q17:=E.cl m17 H17;have H18:=zF (P:=l.prog) (w:=w) (mg:=mg) (base:=base) (n:=0) F p g;have Q18:=F.cl m18 H18;have H19:=zp (n:=2) H Q2.mono p;have Q19:=H.cl m19 H19;have H20:=Bf (P:=l.prog) (w:=w) (mg:=mg) (base:=base) (n:=0) I p;have Q20:=I.cl m20 (H20.imp jN);have H21:=A8 (P:=l.prog) (w:=w) (mg:=mg) (base:=base) (n:=0) J;have Q21:=J.cl m21 H21;have H22:=GE (P:=l.prog) (w:=w) (mg:=mg) (base:=base) (n:=0) L km;have Q22:=L.cl m22 H22;have H23:=Hq (P:=l.prog) (w:=w) (mg:=mg) (base:=base) (n:=0) M km;have Q23:=M.cl m23 H23;have H24:=Ak (n:=1) N Wq.mono Q22.mono;have Q24:=N.cl m24 H24;have H25:=AO (n:=1) O Wq.mono Q23.mono;have Q25:=O.cl m25 H25;have H26:=Ho (n:=1) Q Q23.mono;have Q26:=Q.cl m26 H26;have H31:=Gk (P:=l.prog) (w:=w) (mg:=mg) (base:=base) (n:=0) a_ c;have Q31:=a_.cl m31 H31;have H32:=xQ (n:=1) be j Q31.mono c;have Q32:=be.cl m32 H32;have H33:=G9 (P:=l.prog) (w:=w) (mg:=mg) (base:=base) (n:=0) F33 eW;have R33:=F33.clM m33 H33;have H34:=D2 (n:=1) F34 Q3.mono Q5.mono iC;have Q34:=F34.cl m34 H34;have H35:=yZ (P:=l.prog) (w:=w) (mg:=mg) (base:=base) (n:=0) F35 ei eV sx;have Wr:=F35.cl m35 H35;have H36:=za (n:=1) F36 Wr.mono ei c iB g;have Ws:=F36.cl m36 H36;have H37:=IL (P:=l.prog) (w:=w) (mg:=mg) (base:=base) (n:=0) F37 g;have R37:=F37.clM m37 H37;have H38:=G7 (P:=l.prog) (w:=w) (mg:=mg) (base:=base) (n:=0) F38;have T6:=F38.clM m38 H38;have H39:=An (P:=l.prog) (w:=w) (mg:=mg) (base:=base) (n:=0) F39 kq eW;have T7:=F39.cl m39 H39;have H40:=Ad (n:=1) F40 T6.mono o eV iC;have R40:=F40.clM m40 H40;have H41:=yg (n:=1) F41 T6.mono T7.mono o dY ie g c;have R41:=F41.clM m41 H41;have H42:=HS (n:=2) F42 R40.mono R41.mono T6.mono T7.mono c iC;have R42:=F42.clM m42 H42;have H43:=Hv (n:=1) F43 T6.mono T7.mono eW c;have R43:=F43.clM m43 H43;have H44:=EJ (n:=2) F44 Ws.mono Wr.mono ei c g;have Q44:=F44.cl m44 H44;have H45:=Eg (n:=3) F45 r Ws.mono Wr.mono Q44.mono dY ei c g o;have Q45:=F45.cl m45 H45;have H46:=yF (P:=l.prog) (w:=w) (mg:=mg) (base:=base) (n:=0) F46 g p dY c eV o;have Q46:=F46.cl m46 H46;have H47:=zR (n:=1) F47 T7.mono iB;have Wt:=F47.cl m47 H47;have H48:=zJ (P:=l.prog) (w:=w) (mg:=mg) (base:=base) (n:=0) F48 sy o;have Q48:=F48.cl m48 (H48.imp jN);have H49:=GH (n:=2) F49 r Wt.mono T7.mono Ws.mono Q46.mono dY g;have Q49:=F49.cl m49 H49;have H50:=Gz (n:=1) F50 r Q48.mono c o g eV;have Q50:=F50.cl m50 (H50.imp jN);have H53:=ET (n:=2) F53 j R11.mono Q8.mono dY g o;have R53:=MkM.mk ⟨_,_,H53,b53,⟨Qw,We,i53,Qx⟩⟩;have H54:=Iu (P:=l.prog) (w:=w) (mg:=mg) (base:=base) (n:=0) F54 j g;have UK:=MthM.mk ⟨_,_,H54,b54,⟨Wf,i54,k54⟩⟩;have H55:=B9 (P:=l.prog) (w:=w) (mg:=mg) (base:=base) (n:=0) F55 j;have Wu:=MthM.mk ⟨_,_,H55,b55,⟨Wg,i55,k55⟩⟩;have H56:=CM (n:=1) F56 j Q10.mono Q3.mono Wu.mono UK.mono ie;have R56:=MthM.mk ⟨_,_,H56,b56,⟨Wh,i56,k56⟩⟩;have H57:=Et (n:=3) F57 j Q7.mono Q2.mono UK.mono;have R57:=MthM.mk ⟨_,_,H57,b57,⟨Wi,i57,k57⟩⟩;have H27:=IK (n:=4) R j Q17.mono Q18.mono Q19.mono Q20.mono Wu.mono R56.mono R57.mono;have R27:=R.clM m27 H27;have H58:=HA (P:=l.prog) (w:=w) (mg:=mg) (base:=base) (n:=0) F58 j;have Q58:=MthD.mk ⟨_,_,H58,b58,⟨Wj,i58,k58⟩⟩;have H29:=BX (n:=2) T j Q15.mono Q16.mono Q58.mono c p;have Q29:=T.cl m29 H29;have H61:=EW (P:=l.prog) (w:=w) (mg:=mg) (base:=base) (n:=0) F61 j c;have R61:=MthM.mk ⟨_,_,H61,b61,⟨Wm,i61,k61⟩⟩;have H59:=DW (n:=1) F59 j Q9.mono R61.mono UK.mono Q58.mono o g;have R59:=MthM.mk ⟨_,_,H59,b59,⟨Wk,i59,k59⟩⟩;have H60:=Iq (n:=1) F60 j R61.mono Wu.mono iE p;have R60:=MthM.mk ⟨_,_,H60,b60,⟨Wl,i60,k60⟩⟩;have H28:=Bv (n:=2) b_ j Q21.mono Q25.mono Q26.mono Q24.mono R59.mono R60.mono;have R28:=b_.clM m28 H28;have H30:=Gv (n:=5) U Q29.mono R27.mono R28.mono;have R30:=U.clM m30 H30;have H62:=AZ (n:=5) F62 r j R30.mono Q32.mono R53.mono UK.mono g c;have R62:=MkM.mk ⟨_,_,H62,b62,⟨QC,Wn,i62,QD⟩⟩;have H63:=Ae (n:=2) F63 r j R33.mono Q34.mono iE c;have Q63:=MthD.mk ⟨_,_,H63.imp jN,b63,⟨Wo,i63,k63⟩⟩;have H51:=F0 (n:=3) F51 r Q50.mono Wt.mono Q49.mono Q63.mono;have Q51:=F51.cl m51 (H51.imp jN);have H52:=Gp (n:=7) F52 r R37.mono R42.mono R43.mono Q51.mono T6.mono Q45.mono Q46.mono Wt.mono R62.mono Q63.mono iB eV g iE;show (H52.imp jN).imp Ap
def walk{l:PySem.W.OpenLaw}{q:Å}{c:Y Str}{v:(Str->Ř Value)->Heap->Prop}{e:È->Heap->Prop}{d:DefRec}{K:ī->Â}(E:l.most=Z 63)(p:d.params.defaults=[])(r:PyProof.Rows.importsNone q=ř)
  (B:∀(w:È)(h:Heap),e w h->(K w.params).In h) (y:∀w:È,Ò (K w.params) Á "least_grown"=Z ŗ/\Ò (K w.params) Á "greatest_first"=Z ŗ)
  (F:∀(w:È)(mg:Str->Ř Value)(g:Addr)(h:Heap),(K w.params).In h->h.Ns Á mg->mg d.name=Z (.ref g)->
   ∃j:Í,(∀(s:À)(u:Value),Ď s j ⟨[u],[]⟩ [(WM,u)])/\∀base:Heap,(K w.params).In base->base.Ns Á mg->FnOk l.prog w (K w.params) mg base aG 9 g j [WM] (sp_law (K w.params))) :
  PySem.W.WalkO q c v e l.row.toRowW d [] (λf vs=>PySem.call f vs):=
 L2.walk_of (n:=63) (k:=9) (x:=WM) (CX:=λ_=>aG) (sp:=λw=>sp_law (K w.params)) E 'b' p r ⟨S,'b','b'⟩ B F (λw H a ns C _ A=>⟨a,ns,S,A,C,(λt o=>by rw[IB (y w)]at o;cases o),λ_=>rfl⟩) λ_ _ _ _ _ z=>z
end Kx
namespace Kx
open PySem PySem.W L2
def KK:Params->Frag:=λP=>
 (nat_lit 2,⟨.none,ŗ,(.dict #[] 0),#[]⟩) ::
 (nat_lit 3,⟨(.type "dict"),ŗ,(.dict #[dE P "__name__" 165 ((.str "law_cutyard_k30_spots_back" 704)),dE P "__doc__" 166 (.none),dE P "__package__" 167 (.none),dE P "__loader__" 168 ((.builtin "__main__.__loader__#opaque")),dE P "__spec__" 169 (.none),dE P "__annotations__" 170 ((.ref 6)),dE P "__builtins__" 171 ((.ref 4)),dE P "__file__" 173 ((.str "/claim/cut.py" 172)),dE P "__cached__" 174 (.none),dE P "_wall" 193 ((.ref 21)),dE P "YardError" 213 ((.ref 31)),dE P "NoNumber" 229 ((.ref 44)),dE P "common_of_two" 242 ((.ref 53)),dE P "common" 251 ((.ref 60)),dE P "up" 259 ((.ref 67)),dE P "unit" 267 ((.ref 72)),dE P "left" 273 ((.ref 77)),dE P "turned" 279 ((.ref 82)),dE P "evened" 285 ((.ref 87)),dE P "givens" 293 ((.ref 92)),dE P "without" 301 ((.ref 97)),dE P "only_unknown" 307 ((.ref 102)),dE P "first_most_marks" 317 ((.ref 109)),dE P "Ledger" 436 ((.ref 180)),dE P "is_crossed" 445 ((.ref 191)),dE P "greatest_sum" 456 ((.ref 198)),dE P "least_sum" 462 ((.ref 203)),dE P "crossed_unknown" 471 ((.ref 210)),dE P "hopeless_row" 482 ((.ref 217)),dE P "idle_row" 493 ((.ref 224)),dE P "single_row" 499 ((.ref 229)),dE P "uneven_row" 508 ((.ref 236)),dE P "doubled_row" 519 ((.ref 243)),dE P "fixed_unknown" 528 ((.ref 250)),dE P "has_above" 534 ((.ref 255)),dE P "has_below" 540 ((.ref 260)),dE P "sinking_unknown" 551 ((.ref 267)),dE P "rising_unknown" 563 ((.ref 274)),dE P "hanging_unknown" 574 ((.ref 281)),dE P "row_struck" 584 ((.ref 288)),dE P "unknown_struck" 592 ((.ref 295)),dE P "hopeless_shares" 598 ((.ref 300)),dE P "strike" 606 ((.ref 307)),dE P "picked" 612 ((.ref 312)),dE P "slim_plan" 618 ((.ref 317)),dE P "spread" 630 ((.ref 324)),dE P "least_meeting" 636 ((.ref 329)),dE P "Struck" 703 ((.ref 367)),dE P "_law_whole" 712 ((.ref 378)),dE P "_law_wholes" 718 ((.ref 383)),dE P "_law_pool" 728 ((.ref 390)),dE P "_law_draw" 739 ((.ref 397)),dE P "_law_times" 745 ((.ref 402)),dE P "_law_bounds" 762 ((.ref 409)),dE P "_law_rows" 779 ((.ref 416)),dE P "_law_small" 798 ((.ref 423)),dE P "_law_far" 804 ((.ref 428)),dE P "_law_plan_is" 814 ((.ref 435)),dE P "_law_fields" 820 ((.ref 440)),dE P "_law_givens" 826 ((.ref 445)),dE P "_law_meet" 832 ((.ref 450)),dE P "_law_window" 838 ((.ref 455)),dE P "_law_back" 844 ((.ref 460)),dE P "_law_near_spots" 850 ((.ref 465)),dE P "_law_all_back" 862 ((.ref 472)),dE P "law" 868 ((.ref 477))] 66),#[]⟩) ::
(nat_lit 20,cO "_wall" 187 "_wall" 188 189 1 1 3 15 181 16 (.ref 17) (.ref 18) 19 191 192) ::
 (nat_lit 21,fO D9 "_wall" "_wall" "__main__" 164 20) ::
(nat_lit 52,cO "common_of_two" 232 "common_of_two" 233 234 10 2 3 47 181 48 (.ref 49) (.ref 50) 51 240 241) ::
 (nat_lit 53,fO nL "common_of_two" "common_of_two" "cutyard.wholes" 230 52) ::
(nat_lit 59,cO "common" 243 "common" 244 245 18 1 3 54 181 55 (.ref 56) (.ref 57) 58 249 250) ::
 (nat_lit 60,fO ng "common" "common" "cutyard.wholes" 230 59) ::
(nat_lit 66,cO "up" 252 "up" 253 254 23 2 3 61 181 62 (.ref 63) (.ref 64) 65 257 258) ::
 (nat_lit 67,fO mF "up" "up" "cutyard.wholes" 230 66) ::
(nat_lit 71,cO "unit" 262 "unit" 263 264 28 2 3 68 181 69 .none .none 70 265 266) ::
 (nat_lit 72,fO ky "unit" "unit" "cutyard.rows" 260 71) ::
(nat_lit 76,cO "left" 268 "left" 269 270 30 2 3 73 181 74 .none .none 75 271 272) ::
 (nat_lit 77,fO lD "left" "left" "cutyard.rows" 260 76) ::
(nat_lit 81,cO "turned" 274 "turned" 275 276 32 1 3 78 181 79 .none .none 80 277 278) ::
 (nat_lit 82,fO kQ "turned" "turned" "cutyard.rows" 260 81) ::
(nat_lit 86,cO "evened" 280 "evened" 281 282 34 1 3 83 181 84 .none .none 85 283 284) ::
 (nat_lit 87,fO lB "evened" "evened" "cutyard.rows" 260 86) ::
(nat_lit 91,cO "givens" 288 "givens" 289 290 40 1 3 88 181 89 .none .none 90 291 292) ::
 (nat_lit 92,fO jQ "givens" "givens" "cutyard.plans" 286 91) ::
(nat_lit 96,cO "without" 296 "without" 297 298 47 2 3 93 181 94 .none .none 95 299 300) ::
 (nat_lit 97,fO lN "without" "without" "cutyard.ledger" 294 96) ::
(nat_lit 101,cO "only_unknown" 302 "only_unknown" 303 304 49 1 3 98 181 99 .none .none 100 305 306) ::
 (nat_lit 102,fO ku "only_unknown" "only_unknown" "cutyard.ledger" 294 101) ::
(nat_lit 108,cO "first_most_marks" 308 "first_most_marks" 309 310 51 1 3 103 181 104 (.ref 105) (.ref 106) 107 315 316) ::
 (nat_lit 109,fO mI "first_most_marks" "first_most_marks" "cutyard.ledger" 294 108) ::
(nat_lit 122,cO "__init__" 330 "Ledger.__init__" 331 332 63 2 3 117 181 118 (.ref 119) (.ref 120) 121 335 336) ::
 (nat_lit 123,fO mv "__init__" "Ledger.__init__" "cutyard.ledger" 294 122) ::
(nat_lit 129,cO "put_line" 338 "Ledger.put_line" 339 340 77 3 3 124 181 125 (.ref 126) (.ref 127) 128 344 345) ::
 (nat_lit 130,fO oU "put_line" "Ledger.put_line" "cutyard.ledger" 294 129) ::
(nat_lit 136,cO "drop_row" 347 "Ledger.drop_row" 348 349 81 2 3 131 181 132 (.ref 133) (.ref 134) 135 352 353) ::
 (nat_lit 137,fO ou "drop_row" "Ledger.drop_row" "cutyard.ledger" 294 136) ::
(nat_lit 143,cO "turn_to_bound" 355 "Ledger.turn_to_bound" 356 357 85 2 3 138 181 139 (.ref 140) (.ref 141) 142 366 367) ::
 (nat_lit 144,fO ox "turn_to_bound" "Ledger.turn_to_bound" "cutyard.ledger" 294 143) ::
(nat_lit 150,cO "even_row" 369 "Ledger.even_row" 370 371 100 2 3 145 181 146 (.ref 147) (.ref 148) 149 375 376) ::
 (nat_lit 151,fO oP "even_row" "Ledger.even_row" "cutyard.ledger" 294 150) ::
(nat_lit 157,cO "bound_share" 378 "Ledger.bound_share" 379 380 105 3 3 152 181 153 (.ref 154) (.ref 155) 156 384 385) ::
 (nat_lit 158,fO oV "bound_share" "Ledger.bound_share" "cutyard.ledger" 294 157) ::
(nat_lit 164,cO "fix" 387 "Ledger.fix" 388 389 110 3 3 159 181 160 (.ref 161) (.ref 162) 163 398 399) ::
 (nat_lit 165,fO oO "fix" "Ledger.fix" "cutyard.ledger" 294 164) ::
(nat_lit 169,cO "hang" 401 "Ledger.hang" 402 403 124 2 3 166 181 167 .none .none 168 404 405) ::
 (nat_lit 170,fO j6 "hang" "Ledger.hang" "cutyard.ledger" 294 169) ::
(nat_lit 176,cO "let_go" 407 "Ledger.let_go" 408 409 130 4 3 171 181 172 (.ref 173) (.ref 174) 175 414 415) ::
 (nat_lit 177,fO l9 "let_go" "Ledger.let_go" "cutyard.ledger" 294 176) ::
 (nat_lit 178,⟨(.type "tuple"),ŗ,(.seq #[(.str "bounds" 417),(.str "extra" 418),(.str "goal" 419),(.str "goal_shares" 420),(.str "gone" 421),(.str "least_marks" 422),(.str "lines" 423),(.str "most_marks" 424),(.str "row_marks" 425),(.str "rows" 426),(.str "staying" 427),(.str "told" 428)] 0),#[]⟩) ::
 (nat_lit 179,⟨(.type "dict"),ŗ,(.dict #[dE P "__module__" 325 ((.str "cutyard.ledger" 294)),dE P "__firstlineno__" 329 ((.int 61 328)),dE P "__init__" 337 ((.ref 123)),dE P "put_line" 346 ((.ref 130)),dE P "drop_row" 354 ((.ref 137)),dE P "turn_to_bound" 368 ((.ref 144)),dE P "even_row" 377 ((.ref 151)),dE P "bound_share" 386 ((.ref 158)),dE P "fix" 400 ((.ref 165)),dE P "hang" 406 ((.ref 170)),dE P "let_go" 416 ((.ref 177)),dE P "__static_attributes__" 429 ((.ref 178)),dE P "__dict__" 431 ((.ref 181)),dE P "__weakref__" 433 ((.ref 182)),dE P "__doc__" 434 (.none)] 4),#[]⟩) ::
 (nat_lit 180,⟨(.type "type"),ŗ,(.cls ⟨"Ledger",[(.type "object")],[(.ref 180),(.type "object")],179,"Ledger",ř,[],[],Ś,ŗ,Ś⟩),#[ŗ,ŗ,(Z (.str "Ledger" 318)),(Z (.str "Ledger" 326)),(Z (.builtin "object.__new__")),(Z (.bool ř))]⟩) ::
 (nat_lit 181,⟨(.type "getset_descriptor"),ŗ,(.fields #[(.str "__dict__" 430),(.ref 180),(.builtin "function.__dict__"),(.builtin "function.__dict__#set")]),#[]⟩) ::
 (nat_lit 182,⟨(.type "getset_descriptor"),ŗ,(.fields #[(.str "__weakref__" 432),(.ref 180),(.builtin "ExceptionGroup.__weakref__"),.none]),#[]⟩) ::
(nat_lit 190,cO "is_crossed" 439 "is_crossed" 440 441 134 1 3 185 181 186 (.ref 187) (.ref 188) 189 443 444) ::
 (nat_lit 191,fO l6 "is_crossed" "is_crossed" "cutyard.rules" 437 190) ::
(nat_lit 197,cO "greatest_sum" 446 "greatest_sum" 447 448 136 2 3 192 181 193 (.ref 194) (.ref 195) 196 454 455) ::
 (nat_lit 198,fO on "greatest_sum" "greatest_sum" "cutyard.rules" 437 197) ::
(nat_lit 202,cO "least_sum" 457 "least_sum" 458 459 146 2 3 199 181 200 .none .none 201 460 461) ::
 (nat_lit 203,fO lP "least_sum" "least_sum" "cutyard.rules" 437 202) ::
(nat_lit 209,cO "crossed_unknown" 463 "crossed_unknown" 464 465 149 2 3 204 181 205 (.ref 206) (.ref 207) 208 469 470) ::
 (nat_lit 210,fO ot "crossed_unknown" "crossed_unknown" "cutyard.rules" 437 209) ::
(nat_lit 216,cO "hopeless_row" 472 "hopeless_row" 473 474 154 2 3 211 181 212 (.ref 213) (.ref 214) 215 480 481) ::
 (nat_lit 217,fO nq "hopeless_row" "hopeless_row" "cutyard.rules" 437 216) ::
(nat_lit 223,cO "idle_row" 483 "idle_row" 484 485 160 2 3 218 181 219 (.ref 220) (.ref 221) 222 491 492) ::
 (nat_lit 224,fO oF "idle_row" "idle_row" "cutyard.rules" 437 223) ::
(nat_lit 228,cO "single_row" 494 "single_row" 495 496 166 1 3 225 181 226 .none .none 227 497 498) ::
 (nat_lit 229,fO k6 "single_row" "single_row" "cutyard.rules" 437 228) ::
(nat_lit 235,cO "uneven_row" 500 "uneven_row" 501 502 171 1 3 230 181 231 (.ref 232) (.ref 233) 234 506 507) ::
 (nat_lit 236,fO mJ "uneven_row" "uneven_row" "cutyard.rules" 437 235) ::
(nat_lit 242,cO "doubled_row" 509 "doubled_row" 510 511 176 1 3 237 181 238 (.ref 239) (.ref 240) 241 517 518) ::
 (nat_lit 243,fO nh "doubled_row" "doubled_row" "cutyard.rules" 437 242) ::
(nat_lit 249,cO "fixed_unknown" 520 "fixed_unknown" 521 522 184 2 3 244 181 245 (.ref 246) (.ref 247) 248 526 527) ::
 (nat_lit 250,fO l7 "fixed_unknown" "fixed_unknown" "cutyard.rules" 437 249) ::
(nat_lit 254,cO "has_above" 529 "has_above" 530 531 189 2 3 251 181 252 .none .none 253 532 533) ::
 (nat_lit 255,fO la "has_above" "has_above" "cutyard.rules" 437 254) ::
(nat_lit 259,cO "has_below" 535 "has_below" 536 537 191 2 3 256 181 257 .none .none 258 538 539) ::
 (nat_lit 260,fO kF "has_below" "has_below" "cutyard.rules" 437 259) ::
(nat_lit 266,cO "sinking_unknown" 541 "sinking_unknown" 542 543 193 4 3 261 181 262 (.ref 263) (.ref 264) 265 549 550) ::
 (nat_lit 267,fO l8 "sinking_unknown" "sinking_unknown" "cutyard.rules" 437 266) ::
(nat_lit 273,cO "rising_unknown" 552 "rising_unknown" 553 554 198 4 3 268 181 269 (.ref 270) (.ref 271) 272 561 562) ::
 (nat_lit 274,fO nU "rising_unknown" "rising_unknown" "cutyard.rules" 437 273) ::
(nat_lit 280,cO "hanging_unknown" 564 "hanging_unknown" 565 566 204 4 3 275 181 276 (.ref 277) (.ref 278) 279 572 573) ::
 (nat_lit 281,fO mS "hanging_unknown" "hanging_unknown" "cutyard.rules" 437 280) ::
(nat_lit 287,cO "row_struck" 577 "row_struck" 578 579 210 1 3 282 181 283 (.ref 284) (.ref 285) 286 582 583) ::
 (nat_lit 288,fO oo "row_struck" "row_struck" "cutyard.strikes" 575 287) ::
(nat_lit 294,cO "unknown_struck" 585 "unknown_struck" 586 587 228 1 3 289 181 290 (.ref 291) (.ref 292) 293 590 591) ::
 (nat_lit 295,fO mP "unknown_struck" "unknown_struck" "cutyard.strikes" 575 294) ::
(nat_lit 299,cO "hopeless_shares" 593 "hopeless_shares" 594 595 244 1 3 296 181 297 .none .none 298 596 597) ::
 (nat_lit 300,fO kY "hopeless_shares" "hopeless_shares" "cutyard.strikes" 575 299) ::
(nat_lit 306,cO "strike" 599 "strike" 600 601 254 1 3 301 181 302 (.ref 303) (.ref 304) 305 604 605) ::
 (nat_lit 307,fO nE "strike" "strike" "cutyard.strikes" 575 306) ::
(nat_lit 311,cO "picked" 607 "picked" 608 609 259 2 3 308 181 309 .none .none 310 610 611) ::
 (nat_lit 312,fO lv "picked" "picked" "cutyard.strikes" 575 311) ::
(nat_lit 316,cO "slim_plan" 613 "slim_plan" 614 615 261 1 3 313 181 314 .none .none 315 616 617) ::
 (nat_lit 317,fO li "slim_plan" "slim_plan" "cutyard.strikes" 575 316) ::
(nat_lit 323,cO "spread" 619 "spread" 620 621 264 3 3 318 181 319 (.ref 320) (.ref 321) 322 628 629) ::
 (nat_lit 324,fO mD "spread" "spread" "cutyard.strikes" 575 323) ::
(nat_lit 328,cO "least_meeting" 631 "least_meeting" 632 633 269 4 3 325 181 326 .none .none 327 634 635) ::
 (nat_lit 329,fO lL "least_meeting" "least_meeting" "cutyard.strikes" 575 328) ::
(nat_lit 342,cO "__init__" 649 "Struck.__init__" 650 651 274 2 3 337 181 338 (.ref 339) (.ref 340) 341 657 658) ::
 (nat_lit 343,fO oy "__init__" "Struck.__init__" "cutyard.strikes" 575 342) ::
(nat_lit 349,cO "point_back" 660 "Struck.point_back" 661 662 293 2 3 344 181 345 (.ref 346) (.ref 347) 348 669 670) ::
 (nat_lit 350,fO mi "point_back" "Struck.point_back" "cutyard.strikes" 575 349) ::
(nat_lit 356,cO "ray_back" 672 "Struck.ray_back" 673 674 299 2 3 351 181 352 (.ref 353) (.ref 354) 355 677 678) ::
 (nat_lit 357,fO FM "ray_back" "Struck.ray_back" "cutyard.strikes" 575 356) ::
(nat_lit 363,cO "paper_back" 680 "Struck.paper_back" 681 682 302 3 3 358 181 359 (.ref 360) (.ref 361) 362 686 687) ::
 (nat_lit 364,fO yU "paper_back" "Struck.paper_back" "cutyard.strikes" 575 363) ::
 (nat_lit 365,⟨(.type "tuple"),ŗ,(.seq #[(.str "breadth" 689),(.str "extra" 690),(.str "kept" 691),(.str "kind" 692),(.str "ledger" 693),(.str "paper" 694),(.str "slim" 695)] 0),#[]⟩) ::
 (nat_lit 366,⟨(.type "dict"),ŗ,(.dict #[dE P "__module__" 644 ((.str "cutyard.strikes" 575)),dE P "__firstlineno__" 648 ((.int 272 647)),dE P "__init__" 659 ((.ref 343)),dE P "point_back" 671 ((.ref 350)),dE P "ray_back" 679 ((.ref 357)),dE P "paper_back" 688 ((.ref 364)),dE P "__static_attributes__" 696 ((.ref 365)),dE P "__dict__" 698 ((.ref 368)),dE P "__weakref__" 700 ((.ref 369)),dE P "__doc__" 701 (.none)] 4),#[]⟩) ::
 (nat_lit 367,⟨(.type "type"),ŗ,(.cls ⟨"Struck",[(.type "object")],[(.ref 367),(.type "object")],366,"Struck",ř,[],[],Ś,ŗ,Ś⟩),#[ŗ,ŗ,(Z (.str "Struck" 637)),(Z (.str "Struck" 645)),(Z (.builtin "object.__new__")),(Z (.bool ř))]⟩) ::
 (nat_lit 368,⟨(.type "getset_descriptor"),ŗ,(.fields #[(.str "__dict__" 697),(.ref 367),(.builtin "function.__dict__"),(.builtin "function.__dict__#set")]),#[]⟩) ::
 (nat_lit 369,⟨(.type "getset_descriptor"),ŗ,(.fields #[(.str "__weakref__" 699),(.ref 367),(.builtin "ExceptionGroup.__weakref__"),.none]),#[]⟩) ::
(nat_lit 377,cO "_law_whole" 706 "_law_whole" 707 708 305 1 3 372 181 373 (.ref 374) (.ref 375) 376 710 711) ::
 (nat_lit 378,fO mW "_law_whole" "_law_whole" "law_cutyard_k30_spots_back" 704 377) ::
(nat_lit 382,cO "_law_wholes" 713 "_law_wholes" 714 715 307 2 3 379 181 380 .none .none 381 716 717) ::
 (nat_lit 383,fO kO "_law_wholes" "_law_wholes" "law_cutyard_k30_spots_back" 704 382) ::
(nat_lit 389,cO "_law_pool" 719 "_law_pool" 720 721 309 1 3 384 181 385 (.ref 386) (.ref 387) 388 726 727) ::
 (nat_lit 390,fO oJ "_law_pool" "_law_pool" "law_cutyard_k30_spots_back" 704 389) ::
(nat_lit 396,cO "_law_draw" 729 "_law_draw" 730 731 317 2 3 391 181 392 (.ref 393) (.ref 394) 395 737 738) ::
 (nat_lit 397,fO nt "_law_draw" "_law_draw" "law_cutyard_k30_spots_back" 704 396) ::
(nat_lit 401,cO "_law_times" 740 "_law_times" 741 742 326 2 3 398 181 399 .none .none 400 743 744) ::
 (nat_lit 402,fO kC "_law_times" "_law_times" "law_cutyard_k30_spots_back" 704 401) ::
(nat_lit 408,cO "_law_bounds" 746 "_law_bounds" 747 748 328 3 3 403 181 404 (.ref 405) (.ref 406) 407 760 761) ::
 (nat_lit 409,fO nT "_law_bounds" "_law_bounds" "law_cutyard_k30_spots_back" 704 408) ::
(nat_lit 415,cO "_law_rows" 763 "_law_rows" 764 765 348 4 3 410 181 411 (.ref 412) (.ref 413) 414 777 778) ::
 (nat_lit 416,fO mR "_law_rows" "_law_rows" "law_cutyard_k30_spots_back" 704 415) ::
(nat_lit 422,cO "_law_small" 780 "_law_small" 781 782 365 4 3 417 181 418 (.ref 419) (.ref 420) 421 796 797) ::
 (nat_lit 423,fO nP "_law_small" "_law_small" "law_cutyard_k30_spots_back" 704 422) ::
(nat_lit 427,cO "_law_far" 799 "_law_far" 800 801 380 3 3 424 181 425 .none .none 426 802 803) ::
 (nat_lit 428,fO jo "_law_far" "_law_far" "law_cutyard_k30_spots_back" 704 427) ::
(nat_lit 434,cO "_law_plan_is" 805 "_law_plan_is" 806 807 396 2 3 429 181 430 (.ref 431) (.ref 432) 433 812 813) ::
 (nat_lit 435,fO mz "_law_plan_is" "_law_plan_is" "law_cutyard_k30_spots_back" 704 434) ::
(nat_lit 439,cO "_law_fields" 815 "_law_fields" 816 817 410 2 3 436 181 437 .none .none 438 818 819) ::
 (nat_lit 440,fO lV "_law_fields" "_law_fields" "law_cutyard_k30_spots_back" 704 439) ::
(nat_lit 444,cO "_law_givens" 821 "_law_givens" 822 823 419 1 3 441 181 442 .none .none 443 824 825) ::
 (nat_lit 445,fO kg "_law_givens" "_law_givens" "law_cutyard_k30_spots_back" 704 444) ::
(nat_lit 449,cO "_law_meet" 827 "_law_meet" 828 829 428 2 3 446 181 447 .none .none 448 830 831) ::
 (nat_lit 450,fO kR "_law_meet" "_law_meet" "law_cutyard_k30_spots_back" 704 449) ::
(nat_lit 454,cO "_law_window" 833 "_law_window" 834 835 430 2 3 451 181 452 .none .none 453 836 837) ::
 (nat_lit 455,fO kW "_law_window" "_law_window" "law_cutyard_k30_spots_back" 704 454) ::
(nat_lit 459,cO "_law_back" 839 "_law_back" 840 841 441 4 3 456 181 457 .none .none 458 842 843) ::
 (nat_lit 460,fO kJ "_law_back" "_law_back" "law_cutyard_k30_spots_back" 704 459) ::
(nat_lit 464,cO "_law_near_spots" 845 "_law_near_spots" 846 847 447 3 3 461 181 462 .none .none 463 848 849) ::
 (nat_lit 465,fO jG "_law_near_spots" "_law_near_spots" "law_cutyard_k30_spots_back" 704 464) ::
(nat_lit 471,cO "_law_all_back" 851 "_law_all_back" 852 853 455 4 3 466 181 467 (.ref 468) (.ref 469) 470 860 861) ::
 (nat_lit 472,fO mK "_law_all_back" "_law_all_back" "law_cutyard_k30_spots_back" 704 471) ::
(nat_lit 476,cO "law" 863 "law" 864 865 463 1 3 473 181 474 .none .none 475 866 867) ::
 (nat_lit 477,fO kE "law" "law" "law_cutyard_k30_spots_back" 704 476)::[]
end Kx
def PySem.W.Fast.tw7772416557725463182:=PySem.Challenge.pw_cutyard_k30_spots_back
theorem PySem.W.Fast.te7772416557725463182:PySem.Challenge.pw_cutyard_k30_spots_back=PySem.W.Fast.tw7772416557725463182:=rfl
def PySem.W.Fast.tw5385739360559341639:=Kx.KK
theorem PySem.W.Fast.te5385739360559341639:Kx.KK=PySem.W.Fast.tw5385739360559341639:=rfl
structure PySem.W.Fast:Prop where(tw1016190197781257986 tw10178632943980814327 tw101854740878722859 tw10300860249622157300 tw10393966009255807567 tw10429740303209274337 tw10441520848382124677 tw10492478769086976169 tw10535533991801891579 tw10671803433730303841 tw10672945944056366778 tw1074195922918024991 tw10746253512340811719 tw10770706244845418067 tw10934518511758937413 tw11060261300991105735 tw11146154318882491577 tw11411066944642134504 tw11439514638002976246 tw11549784521373277043 tw11726819056541795173 tw11771753603373048828 tw11776948320122114638 tw1199847405780322032 tw12105948783404315031 tw12168452186764215470 tw12310757388777244850 tw12433025284451942912 tw12448720792874512278 tw12486095779659050542 tw1252136416179848855 tw125346069494378175 tw1254805639675528703 tw12621427495610021089 tw12770052716412200292 tw12861610859512883360 tw12966576353223218311 tw1298240302976920240 tw13194105489219075481 tw1334107052664425664 tw13401278368485901874 tw13462700105176094310 tw1362857399084402978 tw13883046173046194082 tw14001752446603521353 tw1408644354470870935 tw14383911284874152044 tw14417775325648800306 tw14506951208329375801 tw14507141526933453580 tw14763925205897591074 tw14869941474024307494 tw14909313450892522080 tw14990909097408512457 tw15146542109816788453 tw1543120192124198735 tw15437135895889343972 tw15458614407087504658 tw15519509607323659041 tw15526402795562319071 tw15673300639308149202 tw15681863077068675934 tw15739811455080759481 tw16072491944803769552 tw16119674004733223248 tw16137655710848993614 tw16140282004197697513 tw16159101321165331296 tw16183720217947925238 tw1627036261109011068 tw16277839301688336235 tw1638702189145187264 tw16457554754124810955 tw1682040388000483592 tw16870904910986623358 tw16888216654358435233 tw16996172305649784392 tw16996258243076680725 tw1705067299497466618 tw1705170484602228046 tw17115438862092276077 tw1711834826866801896 tw17215624742281843112 tw17551583687854123157 tw17922808184569402666 tw17923778342282091299 tw18079278762478009427 tw18137091937698980304 tw18349299777735120245 tw193120898566595494 tw198947805418932275 tw2043347215514109123 tw2080424200213332657 tw2133298637605622229 tw2175543745132599376 tw2282941628293060497 tw2349614576223191622 tw2453150378862290413 tw2573545104619063698 tw2645738673849194041 tw2649930088352634931 tw2761484236426283073 tw282067832404879088 tw3090288172490319953 tw3107919124703080727 tw3113529762177501157 tw3130513072278735411 tw3139663251431558105 tw3235232157484818993 tw3260910324346348183 tw3261222262854538512 tw3372466178455504595 tw3459479711323555798 tw3518189231892831363 tw3817444354086850136 tw4099871361621319309 tw4235373746555945631 tw4388277637139686502 tw4668560679841172833 tw4669106691559206051 tw4973916220836160626 tw527463948958550636 tw5612150609566804707 tw5707373965465903515 tw5983243100760991049 tw615349364844884585 tw6242153933807581427 tw6260078240562449682 tw6363472079718335938 tw65561372579495729 tw6597443598649027634 tw6644894034383431230 tw6967911057065125936 tw7008856316526244293 tw7029588970727138238 tw7098581839568824560 tw7108515725089692825 tw7234022337983350917 tw7265064189391427406 tw7422454602227361415 tw7536301639198484617 tw776599096088717688 tw7767202070120460516 tw8012875334259952708 tw8297299800146761981 tw8300449933754143621 tw8351758747579333979 tw8456778488369006954 tw8461646227822850325 tw8576801397050200480 tw8583609758126889174 tw8592774392903328523 tw8617954773062872031 tw863247203084197514 tw8653255592363345056 tw8691389740796887780 tw8737619599683882225 tw8759024142556843270 tw9035543248883446153 tw9629414545602371376 tw9789305281755818320:True)
end
open PySem PySem.W PyProof.Rows
set_option maxRecDepth 100000 in
set_option maxHeartbeats 0 in
theorem PySem.Challenge.cw_cutyard_k30_spots_back_holds : PySem.Challenge.rw_cutyard_k30_spots_back.Holds := by
 w_on;o_law;o_head (kHook Kx.KK (2::3::20::21::52::53::59::60::66::67::71::72::76::77::81::82::86::87::91::92::96::97::101::102::108::109::122::123::129::130::136::137::143::144::150::151::157::158::164::165::169::170::176::177::178::179::180::181::182::190::191::197::198::202::203::209::210::216::217::223::224::228::229::235::236::242::243::249::250::254::255::259::260::266::267::273::274::280::281::287::288::294::295::299::300::306::307::311::312::316::317::323::324::328::329::342::343::349::350::356::357::363::364::365::366::367::368::369::377::378::382::383::389::390::396::397::401::402::408::409::415::416::422::423::427::428::434::435::439::440::444::445::449::450::454::455::459::460::464::465::471::472::476::477::[]) (λ_=>by kernel_rfl));(case hw=>w_witness2)
 k_fill
 refine Kx.walk (l:=PySem.Challenge.rw_cutyard_k30_spots_back) rfl rfl (by decide +kernel) (λw h Y=>kIn_of Y) (λw=>⟨?N1,?N2⟩) ?F
 (case N1=>k_is);(case N2=>k_is)
 case F=>
  intro w mg fa h KX G R3;refine' Kx.all_mk KX G R3 ?OC ?OD ?_ ?_ ?_ ?_ ?_ ?_ ?_ ?_ ?_ ?_ ?_ ?_ ?_ ?_ ?_ ?_ ?_ ?_ ?_ ?_ ?_ ?_ ?_ ?_ ?_ ?_ ?_ ?_ ?_ ?_ ?_ ?_ ?_ ?_ ?_ ?_ ?_ ?_ ?_ ?_ ?_ ?_ ?_ ?_ ?_ ?_ ?_ ?_ ?_ ?_ ?_ ?_ ?_ ?_ ?_ ?_ ?_ ?_ ?_ ?_ ?_ ?_ ?_ ?_ ?_ ?_ ?_ ?_ ?_ ?_ ?_ ?_ ?_ ?_ ?_ ?_ ?_ ?_ ?_ ?_ ?_ ?_ ?_ ?_ ?_ ?_ ?_ ?_ ?_ ?_ ?_ ?_ ?_ ?_ ?_ ?_ ?_ ?_ ?_ ?_ ?_ ?_ ?_ ?_ ?_ ?_ ?_ ?_ ?_ ?_
  (case OC=>k_is)
  (case OD=>k_is)
  all_goals first|(refine' L2.Has.of ?a ?l ?c;(case a=>k_is);(case l=>k_is);(case c=>k_is))|(refine' L2.HasM.of ?a ?i ?l ?c ?k;(case a=>k_is);(case i=>k_is);(case l=>k_is);(case c=>k_is);(case k=>k_is))|k_is|skip

