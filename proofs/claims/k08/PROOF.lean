import PyProof.Rows.All
import Wide.All
import OpenK.AllK
import Wide.FinOn
import Lean
import PyProof.EqAt
import PyProof.EqKinds
import PyProof.TupleCall
import PyProof.NeKinds
import KE.KLam
import KE.KMinKey
import KE.KSortTup
import PyProof.AutoListH
import PyProof.MeetsStr
import PyProof.StrLawsJoin
import PyProof.FitsReplace
import PyProof.Rows.TupDisplay
import PyProof.ListRange
import PyProof.ZipIter
import PyProof.ListNew
import KE.KSortKey
import PyProof.AttrMissSeq
import KE.KDictOf
import PyProof.StationsW
import PyProof.ExcClass2
import PyProof.ExcInit
import KE.KDictAnyGet
import PyProof.ExcBaseAll.ValueError
import PyProof.RulesAs
import PyProof.NsDelKeeps
import PyProof.ExcAttrAll.ValueError
import PyProof.IsiBase
import KE.KIsAll
import PyProof.InstStoreFacts
import PyProof.Rows.SetFrom
import PyProof.SetRoads
import KE.KRevIter
import PyProof.StrLawsChain
import PyProof.StrLawsTight
import PyProof.Rows.StrItems
import PyProof.Rows.StrSplitCount
import KE.KIntText
import PyProof.StrCalls2
import PyProof.StrLoop
import PyProof.StrWalks
import PyProof.StrOps
import PyProof.StrLawsIn
import PyProof.Rows.FStr
import PyProof.Rows.StrSplitAre
import PyProof.CallStr
import PyProof.IsiNone
import PyProof.Rows.Range3
import PyProof.Rows.ChunkLeaf
import PyProof.StrCalls6
import PySem.Challenge.RW_cutyard_k08_first_amiss
open PySem.W (instObj methodObj Frag lookIn InstAt plainGet hasDictIn findIn handedIn plainGet_of isFn plainOver takerIn makesIn typeIn emptyDict keepIn callWith_K cellsFrom_some fnOf codeIn kIn_of mg_of nsIn KitX kitOne kitAny)
set_option Elab.async false
set_option linter.all false
set_option maxRecDepth 100000
noncomputable section
open List renaming length_map->mn,getElem?_append_left->sg,length_append->wy,getElem?_append_right->JU,mem_cons_self->JY,mem_cons_of_mem->JZ,length_cons->J1,size_toArray->J2,mem_singleton->J3,getElem?_map->J4,mem_cons->J9,all_eq_true->Kf,append_assoc->Kg,length_set->Ki,mem_append->Kj,map_cons->Kk,lookup_cons->Kl,getElem?_eq_getElem->Km,nodup_cons->Ko,mem_of_getElem?->Kp,length_take->Kq,length_drop->Kr,append_nil->Ku,flatten_cons->KC,getElem?_set_ne->KD,mem_append_right->KH,not_mem_nil->KJ,getElem?_eq_some_iff->KO,getElem?_set_self->KR,nodup_append->KS,map_append->KU,length_nil->K5,getElem?_eq_none->K6,take_of_length_le->K9,mem_map->Lb,replicate_succ->Lc,mem_range->Li,mem_filterMap->Lk,length_eq_zero_iff->Ln,mem_of_mem_drop->Lq,drop_eq_getElem_cons->Lv,filterMap_cons_some->Lx,mem_append_left->LA,filterMap_cons->LG,getD_eq_getElem?_getD->LI,getElem_mem->LJ,length_replicate->LK,getElem?_eq_none_iff->LO,find?_cons->LP,mem_of_mem_take->LR,ext_getElem?->LU,eq_nil_of_length_eq_zero->LX,getElem?_replicate->LY,map_map->L9,any_cons->Mc,length_range->Me,drop_zero->Mf,getElem?_take_of_lt->Mj,mem_flatMap->Mm,filterMap_cons_none->Mn,eraseIdx_eq_take_drop_succ->Mp,of_mem_zip->Ms,filterMap_map->Mt,contains_cons->Mw,take_append_drop->MB,getElem_toArray->ME,getElem?_of_mem->MF,drop_length->MI,nil_append->MM,mem_or_eq_of_mem_set->MO,getElem?_drop->MS,head?_eq_getElem?->M1,mem_filter->Na,forIn_cons->Nf,all_map->Nk,all_append->Nn,map_set->Nq,getElem?_range->Nt,length_pos_iff->Nw,nodup_nil->Ny,lookup_append->ND,all_cons->NN,map_take->NO,map_drop->NP,getElem?_set->NU,getElem?_inj->NV,flatMap_cons->NX,ne_nil_of_length_pos->N3,take_length->Od,any_eq_true->Of,mem_flatten->Og,map_zip_eq_zipWith->Oo,getElem?_cons_succ->Ot,head_eq_of_cons_eq->Ou,range_succ_eq_map->OE,find?_cons_of_pos->OF,find?_cons_of_neg->OG,drop_eq_nil_of_le->OH,forIn_nil->OJ,eq_nil_or_concat->OM,map_nil->OO,any_map->OQ
open PySem renaming wpAny_bind->JT,wpAny_pure->J5,boot_len->J7,wpAny_loadPart_at->Kv,sizeLine_eq->KP,wpAny_loadPart'->KZ,wpAny_field->K2,mem_of_lookup->K8,wpAny_mono->Lg,wpAny_callSpecial?_slot->Lm,wpAny_holding->Lz,call_meets->LB,wpAny_truthy_bool->LC,wpAny_newObj_type->LD,wpAny_isSubtype_exc->LH,wpAny_call_entry->L0,wpAny_seqItems->L1,wpAny_Call_Name_kw->L7,wpAny_setField_rec->L8,wpAny_pyIter_tuple->Mu,codeAny_mono->Mx,codeAny_call_builtin->MG,wpAny_standAt->MJ,wpAny_passesOwn->ML,typeIs_str->MT,wpAny_setField->MU,wpAny_pyNext_list_item->MY,wpAny_onRaise->M4,wpAny_isTrue_Compare1->M5,wpAny_pyNext_list_end->M6,plainObj_wpAny_Assign_Attribute->M9,wpAny_Name->Nb,wpAny_execs_nil->Nc,wpAny_updateSeq_pair->Nh,call_isinstance->Nj,length_partsBetween->Nu,slot_list_getitem->NQ,wpAny_pyIter_list->NR,wpAny_call->NZ,typeIs_int->N0,wpAny_execs_cons->N4,noFill_tuple_add->N7,wpAny_typeOf->N9,wpAny_ite_false->Ov,Shared->À,mainGlobals->Á,Expr->Ã,Program->Ä,World->Å,compareOp->Æ,attributeBase->Ç,Around->È,FuncData->É,assignEach->Ê,Stmt->Ë,binaryOp->Í,keywordEach->Î,Keyword->Ï,Obj->Ð,swapsWith->Ñ,excClassObj->Ò,Pos->Õ,sliceBounds->Ö,IsPair->Ø,backToKw->Ù,cellsFrom->Û,foldedSetIterable->Ý,sysModules->Þ,bootBuiltins->ß,codeAny->ã,cLine->ä,Scope->æ,builtinsNs->ç,IsZip->é,Env->ê,ExceptHandler->ï,checkBuiltinCall->ð,Operator->ñ,typeLookup->ò,IsPart->ö,letOwnedTupleGo->ø,pyNext->ù,getItem->ü,Tok->þ,Model->ÿ,callerA->Ă,GenState->ă,tupleKind->Ą,seqIndex?->ą,handedOut->Ć,IsRangeIter->ĉ,CmpOp->Ċ,valueAt->Č,BindsTo->đ,wpAny_rule->Ē,sliceRange->ē,newFunctionEnv->Ĕ,fitsIndex_both->ĕ,field->Ė,compEnvC->ė,bindArgs->Ę,wpAny_binaryOp_repeat_ref->ě,wpAny_getItem_list_slice->ĝ,wpAny_attempt->Ğ,swapsWithSole->ğ,swappedStores->Ġ,seq_tuple_add->ġ,wpAny_pyNext_tuple_item->ģ,strValues->Ĥ,slicePick->ĥ,onTheHeap->Ħ,noteFrame->ħ,bindL->Ĩ,bindC->ĩ,atKey->Ī,wpAny_pyNext_tuple_end->Ĵ,wpAny_pyNext_range_end->ĵ,wpAny_pyIter_tupleiter->Ķ,wpAny_pyIter_rangeiter->ķ,seqIndex_neg->ĸ,getAttr->Ĺ,concat_meets->ĺ,Params->Ļ,wpAny_pyIter_listiter->Ł,builtinLookup_eq_fast->ł,wpAny_letGo->ń,seqIndex_of->Ņ,lookupAlong->ņ,Meets->Ň,IntMulOk->ň,wpAny_pyIter_range->ŏ,wpAny_Constant_int->Ő,tupleKind_room_in1->ő,isInstance->Œ,Result->Ŕ,JoinOk->ŕ,wpAny_sequenceKey->ř,wpAny_pyIter_enum->Ś,setAttr->ś,OsState->ş,Drawn->Š,wpAny_pyIter_zip->š,wpAny_lookBehind->Ţ,wpAny_isInstance->ţ,setFlight->Ť,pastItsLine_dict->ť,lookupAlong_cons->Ŧ,wpAny_mroOf_exc->ū,typeLookup_type->Ŭ,pushCells_keeps->ŭ,isinstance_true->Ů
open PySem.Heap renaming get?_push_of_some->JW,lt_size->Ka,get?_push_size->Kb,size_push->K0,get?_none_of_le->Lo,get?_update_other->Ls,get?_update_self->LL
open Nat renaming le_refl->J0,le_trans->J6,lt_of_lt_of_le->Ks,ne_of_lt->KA,lt_or_ge->KL,zero_le->K1,sub_self->K3,lt_irrefl->LV,le_of_lt->L6,min_eq_left->Ma,add_le_add->Mg,le_of_eq->Mh,lt_succ_self->Mi,add_sub_cancel_left->Mq,le_add_right->MD,eq_zero_or_pos->MQ,lt_succ_of_lt->MX,add_sub_add_right->M7,not_lt->Ng,mul_le_mul_right->Nr,ne_of_gt->N5,succ_mul->Oa,mul_comm->Ob,min_eq_right->Oc,le_succ->Oz,le_of_ble_eq_true->OK,sub_zero->OP
open Bool renaming and_eq_true->Kc,false_ne_true->KI,eq_iff_iff->Lw,false_bne->LM,and_eq_true_iff->LQ,or_true->Nm,false_eq_true->NH,or_eq_true->Ox,true->ų,false->Ŵ
open Option.some renaming inj->Kh
open Int renaming eq_ofNat_of_zero_le->Kn,emod_lt_of_pos->Lf,toNat_natCast->Lh,emod_nonneg->Lj,ediv_nonneg->Np
open PyProof.Rows renaming boot_tuple->KN,boot_int->KY,slot_tuple_getitem->Ld,callWith_type1->LF,split_le->LN,split_pos->L4,boot_all->Mb,part_short->MW,boot_isinstance->Nl,signs_ofString->NK,envOfC->ë,AllBare->í,IsTup->ĭ,subscriptTail_builtinR->ļ,IntsAre->Ľ,entry_tuple_getitem->Ŏ,args_tuple_getitem->Ŗ
open Array renaming length_toList->KQ,all_toList->MH,find?_toList->NB,getElem?_toList->OI,mem_toList_iff->Ě,toList_inj->ľ,toList->Ř,ext'->Ū
open Ne renaming symm->KW
open PySem.F renaming attrBase_ValueError->K4,excBase_ValueError->Lr,store_ValueError->Ly,plainAttrs_list->LZ,plainAttrs_str->L5,slot_tuple_iterator_next->Md,slot_tuple_mul->MC,args_tuple_add_2->MP,entry_tuple_add->MV,slot_tuple_add->MZ,typeOf_object_class->M8,slot_int_rmul->Nd,slot_zip_next->Ni,args_tuple_iterator_next_1->Nx,entry_tuple_iterator_next->NG,args_tuple_mul_2->NI,args_str_split_2->NM,entry_tuple_mul->NT,entry_str_split->NW,slot_list_append->Oh,type_list_append->Oi,slot_tuple_index->Oj,slot_str_split->Ol,slot_list_index->Oq
open PySem.W renaming mg_none_of->La,mg_of->Mr,callWith_K->NY,Frag->Â,nsIn->Ú,keepIn->Ü,emptyDict->â,findIn->î,instObj->ó,mg_of->ú,kitOne->Ā,codeIn->ā,fnOf->ć,plainGet_of->Ĉ,plainGet->ę,methodObj->ī,hasDictIn->Ĭ,lookIn->œ,takerIn->ŝ,plainOver->ŧ
open PySem.PassesOwn renaming never->Le,leaving->Ď
open PySem.StrLaws renaming glued_eq_join->Ll,join_split->Mo
open Option renaming map_eq_some_iff->Lu,isSome_iff_exists->N6,isSome_some->Ĝ,isSome_map->Ģ,getD_none->Į,bind_some->į,none->ŗ,some->Z,none->ű
open PySem.Obj renaming data_mapFields->Mv,isFreed_of_fields->Mz,mapFields->è,mapSeq->û,cls_mapFields->Ń
open Decidable renaming em->MA,byContradiction->MN,not_and_iff_or_not->Nz
open PySem.AutoSeq1 renaming sub_tuple_tuple->MR,idx_int->Oe
open PySem.Calls renaming callWith_builtin->M0,Constant_str->NA,spliced_cons->NC
open PySem.Paired renaming length->M3,snoc->ď
open PySem.Code renaming quiet_builtin->NJ,isFrame->Đ,frames->ũ
open PySem.W.KIN renaming signs_num->OL
open List.cons renaming inj->ON
open PySem.Txt renaming split->Ì,join->å,upper->ì,startswith->ô,replace->õ,slice_le->Ũ
open Sum renaming inr->Ó,inl->ý
open False renaming elim->Ô
open True renaming intro->à
open PySem.NumText renaming digitsVal->á
open PySem.Around renaming under->ċ
open PySem.Shared renaming heap->č
open Sum.inr renaming inj->Ŋ
open Std.Legacy.Range renaming size->ŋ,forIn_eq_forIn_range'->Ō
open PySem.IsRange renaming new->ō
open PySem.Walks renaming range->Ŝ
open PySem.W.WShape renaming has->Ş
open PySem.W.WData renaming int->ů
open Char renaming toNat->Ű
abbrev Y:=List
abbrev Ų:=Option
theorem S{α:Sort _}{a:α}:a=a:=rfl
local macro_rules|`(())=>`(by omega)
local macro_rules|`('b')=>`(by decide)
local macro_rules|`('a')=>`(by decide +kernel)
local macro_rules|`(tactic|show $e)=>`(tactic|exact $e)
section
open Lean
def cV9:Nat->Term->MacroM (TSyntax `rcasesPat)
 |0,_=>Macro.throwUnsupported
 |n+1,t=>do match t with
  |`($x:ident)=>`(rcasesPat|$x:ident)
  |`(_)=>`(rcasesPat|_)
  |`(⟨$ps,*⟩)=>do
   let qs←ps.getElems.mapM fun p=>do
    let q←cV9 n p
    `(Lean.Parser.Tactic.rcasesPatLo|$q:rcasesPat)
   `(rcasesPat|⟨$qs,*⟩)
  |_=>Macro.throwUnsupported
end
local macro_rules|`(tactic|let $p:term:=$e)=>do
 let q←cV9 99 p
 `(tactic|obtain $q:rcasesPat:=$e)
abbrev ap(x:PySem.Str):Prop:=(x==("__classdict__":PySem.Str))=false
abbrev ad(x:PySem.Str):Prop:=(x==("__debug__":PySem.Str))=false
abbrev JV:=@if_neg
abbrev JX:=@if_pos
abbrev J8:=@of_decide_eq_true
abbrev Kd:=@decide_eq_false
abbrev Ke:=@of_decide_eq_false
abbrev Kt:=@decide_eq_true_eq
abbrev Kw:=@decide_eq_true
abbrev Kz:=@beq_self_eq_true
abbrev KG:=@congrArg
abbrev K7:=@beq_eq_false_iff_ne
abbrev L3:=@beq_iff_eq
abbrev Ml:=@or_false
abbrev MK:=@if_true
abbrev Nv:=@ne_true_of_eq_false
abbrev N8:=@if_false
abbrev Oy:=@beq_false_of_ne
local macro_rules|`(tactic|ac_rfl)=>`(tactic|exact⟨rfl,rfl,rfl,by decide +kernel,rfl,by decide +kernel,by decide +kernel⟩)
local macro_rules|`(tactic|lia)=>`(tactic|decide +kernel)
local macro_rules|`(tactic|nofun)=>`(tactic|first|exact Or.inl rfl|exact Or.inr (Or.inl rfl)|exact Or.inr (Or.inr rfl)|exact .inr rfl|assumption)
theorem X9{c:Sort _}{a:c}{b:Prop}:a=a\/b:=.inl rfl
namespace L2
open PySem PySem.Spec PyProof.Rows
noncomputable abbrev aO:=Sum Int Str
noncomputable def jA:aO->Value->Bool
 |.inl k,v=>Value.isInt k v
 |.inr x,v=>Value.isStrOf x v
noncomputable def GF(w:Å):aO->Int
 |.inl k=>hashInt k
 |.inr x=>hashStr w x
theorem gR:∀{k:aO}{v:Value},jA k v=ų->(∃i t,k=ý i/\v=Value.int i t)\/(∃x t,k=Ó x/\v=Value.str x t)
 |.inl i,v,h=>by let⟨t,e⟩:=Value.isInt_shape (k:=i) (v:=v) h;show .inl ⟨i,t,S,e⟩
 |.inr x,v,h=>by let⟨t,e⟩:=Value.isStrOf_shape (x:=x) (v:=v) h;show .inr ⟨x,t,S,e⟩
theorem Ah(i:Int)(t:þ):jA (.inl i) (.int i t)=ų:=by simp[jA,Value.isInt]
theorem EU(x:Str)(t:þ):jA (.inr x) (.str x t)=ų:=by simp[jA,Value.isStrOf]
theorem DG(a b:Int):decide ((ý a:aO)=ý b)=(a==b):=by
 by_cases e:a=b
 ·subst e;simp
 ·have h:¬ (ý a:aO)=ý b:=λq=>e (ý.inj q);rw[Kd h];show (K7.mpr e).symm
theorem Il(a b:Str):decide ((Ó a:aO)=Ó b)=decide (a=b):=by
 by_cases e:a=b
 ·subst e;simp
 ·have h:¬ (Ó a:aO)=Ó b:=λq=>e (Ŋ q);rw[Kd h,Kd e]
theorem GO(a:Int)(b:Str):decide ((ý a:aO)=Ó b)=Ŵ:=Kd (λq=>nomatch q)
theorem HZ(a:Str)(b:Int):decide ((Ó a:aO)=ý b)=Ŵ:=Kd (λq=>nomatch q)
noncomputable def eP(prog:Ä)(w:Å):PySem.KeyKind prog w aO where
 is:=jA
 hash:=GF w
 inj:=λv a b g f=>by
  rcases gR g with⟨i,t,rfl,rfl⟩|⟨x,t,rfl,rfl⟩
  ·rcases gR f with⟨j,u,rfl,e⟩|⟨y,u,rfl,e⟩
   ·injection e with e1 _;rw[e1]
   ·show nomatch e
  ·rcases gR f with⟨j,u,rfl,e⟩|⟨y,u,rfl,e⟩
   ·show nomatch e
   ·injection e with e1 _;rw[e1]
 byValue:=λk v h=>by rcases gR h with⟨i,t,rfl,rfl⟩|⟨x,t,rfl,rfl⟩<;>rfl
 pyHash:=λc h=>by
  rcases gR c with⟨i,t,rfl,rfl⟩|⟨x,t,rfl,rfl⟩
  ·show wpAny_pyHash_int h
  ·show wpAny_pyHash_str h
 eqBool:=λl c h=>by
  rcases gR l with⟨i,t,rfl,rfl⟩|⟨x,t,rfl,rfl⟩
  ·rcases gR c with⟨j,u,rfl,rfl⟩|⟨y,u,rfl,rfl⟩
   ·rw[DG]at h;show wpAny_eqBool_int h
   ·rw[GO]at h;show SeqAt.EqAt.int_str i t y u _ _ _ _ h
  ·rcases gR c with⟨j,u,rfl,rfl⟩|⟨y,u,rfl,rfl⟩
   ·rw[HZ]at h;show SeqAt.EqAt.str_int x t j u _ _ _ _ h
   ·rw[Il]at h;show wpAny_eqBool_str h
 «strs»:=λk x t v h=>by
  rcases gR h with⟨i,u,rfl,e⟩|⟨y,u,rfl,e⟩
  ·show nomatch e
  ·injection e with e1 _;subst e1;cases v<;>rfl
theorem Gb(prog:Ä)(w:Å)(i:Int)(t:þ):(eP prog w).is (.inl i) (.int i t)=ų:=Ah i t
theorem Bb(prog:Ä)(w:Å)(x:Str)(t:þ):(eP prog w).is (.inr x) (.str x t)=ų:=EU x t
inductive V where
 |non|bl (b:Bool)|int (i:Int)|str (x:Str)|byt (b:Array UInt8)|flt (b:UInt64)|ref (a:Addr)|ty (n:String)
 deriving DecidableEq
noncomputable def RelV:V->Value->Prop
 |.non,u=>u=Value.none
 |.bl b,u=>u=Value.bool b
 |.int i,u=>∃t,u=Value.int i t
 |.str x,u=>∃t,u=Value.str x t
 |.byt b,u=>∃t,u=Value.bytes b t
 |.flt b,u=>∃t,u=Value.float b t
 |.ref a,u=>u=Value.ref a
 |.ty n,u=>u=Value.type n
noncomputable abbrev Vals:Y V->Y Value->Prop:=Paired RelV
theorem Vals.length{xs:Y V}{us:Y Value}(r:Vals xs us):xs.length=us.length:=M3 r
theorem Vals.get:∀{xs:Y V}{us:Y Value}{i:Nat}{x:V},Vals xs us->xs[i]?=Z x->∃u,us[i]?=Z u/\RelV x u
 |_,_,_,_,.nil,e=>by simp at e
 |_,_,0,_,.cons r _,e=>by simp at e;subst e;show⟨_,S,r⟩
 |_,_,i+1,x,.cons _ t,e=>by let⟨u,a,c⟩:=Vals.get (i:=i) (x:=x) t (by simpa using e);show⟨u,by simpa using a,c⟩
theorem Vals.set{x:V}{u:Value}(r:RelV x u):∀{xs:Y V}{us:Y Value}(i:Nat),Vals xs us->Vals (xs.set i x) (us.set i u)
 |_,_,_,.nil=>.nil
 |_,_,0,.cons _ t=>.cons r t
 |_,_,i+1,.cons q t=>.cons q (Vals.set r i t)
theorem Vals.append:∀{xs ys:Y V}{us ws:Y Value},Vals xs us->Vals ys ws->Vals (xs++ys) (us++ws)
 |_,_,_,_,.nil,s=>s
 |_,_,_,_,.cons r t,s=>.cons r (Vals.append t s)
theorem Vals.take:∀{xs:Y V}{us:Y Value}(n:Nat),Vals xs us->Vals (xs.take n) (us.take n)
 |_,_,0,_=>.nil
 |_,_,_+1,.nil=>.nil
 |_,_,n+1,.cons r t=>.cons r (Vals.take n t)
theorem Vals.drop:∀{xs:Y V}{us:Y Value}(n:Nat),Vals xs us->Vals (xs.drop n) (us.drop n)
 |_,_,0,r=>r
 |_,_,_+1,.nil=>.nil
 |_,_,n+1,.cons _ t=>Vals.drop n t
noncomputable def RelO:Ų V->Ų Value->Prop
 |some v,Z u=>RelV v u
 |none,ű=>True
 |_,_=>False
noncomputable def KV{a:Type}:Y (a×V)->Y (a×Value)->Prop:=Paired λ(p:a×V)(q:a×Value)=>p.1=q.1/\RelV p.2 q.2
noncomputable def kV:aO->V
 |.inl i=>.int i
 |.inr x=>.str x
inductive HO where
  |lst (xs:List V)
  |tup (xs:List V)
  |dK (OW:List (aO×V))|dT (OW:List (List aO×V))
  |set (Q:Int->Bool) (n:Nat)
  |ins (C dx:Addr) (fs:List (Str×V))
  |own (x:Addr)
  |xd (fs:List (Str×V))
  |met (f x:Addr)
  |rng (lo hi:Int)
  |frz (o:Ð) (u:HO)
  |tbl (ps:Array Value)
  |ext (φ:Heap->Prop)
noncomputable abbrev Hp:=Addr->Ų HO
noncomputable def au(H:Hp)(a:Addr)(o:HO):Hp:=λb=>if b=a then Z o else H b
theorem aZ{H:Hp}{a:Addr}{o:HO}:au H a o a=Z o:=by unfold au;rw[JX S]
theorem aH{H:Hp}{a b:Addr}{o:HO}(h:b≠a):au H a o b=H b:=by unfold au;rw[JV h]
theorem zR{H:Hp}{a:Addr}{o u:HO}:au (au H a o) a u=au H a u:=by
 funext b;unfold au;split<;>rfl
theorem Hl{H:Hp}{a b:Addr}{o u:HO}(h:H a=Z o)(h':H b=Z u)(d:o≠u):a≠b:=by intro e;subst e;rw[h]at h';show d (Kh h')
theorem cA{H:Hp}{a b:Addr}{o:HO}(h:H a=Z o)(h':H b=ű):a≠b:=by intro e;subst e;rw[h]at h';cases h'
noncomputable def IsTupD(h:Heap)(a:Addr)(c:Array Value):Prop:=∃o,h.get? a=Z o/\(o.cls=.type "tuple"/\o.dict=ű)/\∃n,o.data=.seq c n
theorem IsTupD.tup{h:Heap}{a:Addr}{f:Array Value}(x:IsTupD h a f):ĭ h a f:=let ⟨o,e,c,d⟩:=x;⟨o,e,c.1,d⟩
theorem IsTupD.lt{h:Heap}{a:Addr}{c:Array Value}(x:IsTupD h a c):a<h.objs.size:=x.tup.lt
theorem IsTupD.new(h:Heap)(a:Array Value):IsTupD (h.push { cls:=.type "tuple",data:=.seq a }) h.objs.size a:=⟨_,Kb _ S,⟨S,S⟩,_,S⟩
section
variable(P:Ä)(w:Å)
noncomputable def ObjOk(H:Hp)(h:Heap)(a:Addr):HO->Prop
 |.lst xs=>xs.length<=sizeLine/\∃(g:Y Value)(n:Nat),Vals xs g/\h.get? a=Z { cls:=.type "list",data:=.seq g.toArray n }
 |.tup xs=>xs.length<=sizeLine/\∃g:Y Value,Vals xs g/\IsTupD h a g.toArray
 |.dK j=>j.length<=sizeLine/\(a==Þ)=Ŵ/\∃vs,KV j vs/\h.DictOf (eP P w) a vs
 |.dT j=>j.length<=sizeLine/\(a==Þ)=Ŵ/\∃xs:Y (Y aO×Addr×Value),
   Paired (λ(p:Y aO×V)(q:Y aO×Addr×Value)=>p.1=q.1/\H q.2.1=Z (.tup (p.1.map kV))/\RelV p.2 q.2.2) j xs /\
   ∃o z E,h.get? a=Z o/\o.ExactDict/\o.data=.dict z E/\z.toList=xs.map (entryOfKey (Ą (eP P w)))/\(xs.map (·.1)).Nodup
 |.set Q n=>h.SetOf (intKind P w) a Q n
 |.ins C l fs=>H l=Z (.own a)/\fs.length<=1000/\l≠a/\h.get? a=Z (ó C l) /\
   ∃e,h.Ns1 l e/\(∀f,RelO (fs.lookup f) (e f))/\PySem.Within e (fs.map (·.1))
 |.own _=>∃o,h.get? a=Z o
 |.xd fs=>∃e,h.Ns1 a e/\∀f,RelO (fs.lookup f) (e f)
 |.rng lo F=>∃t u v,h.get? a=Z { cls:=.type "range",data:=.fields #[.int lo t,.int F u,.int 1 v] }
 |.frz o u=>h.get? a=Z o/\ObjOk H h a u
 |.tbl ps=>h.get? a=Z { cls:=.none,data:=.fields #[] }\/∃(c:Addr)(o:Ð)(vs:Array Value)(x y:Value)(q:Str)(t t':þ),ps=#[x,y,.str q t]/\H c=Z (.frz o (.own a)) /\
   h.get? a=Z { cls:=.none,data:=.fields #[x,y,.ref c] }/\o.data=.fields vs/\vs[1]?=Z (.str q t')
 |.met f x=>h.get? a=Z (ī (.ref f) (.ref x))
 |.ext r=>r h/\(∃o,h.get? a=Z o)/\∀A B:Heap,r A->(∀o,A.get? a=Z o->B.get? a=Z o)->r B
noncomputable def HOk(H:Hp)(h:Heap):Prop:=∀a o,H a=Z o->ObjOk P w H h a o
end
section
variable{P:Ä}{w:Å}{H g:Hp}{h h':Heap}{a:Addr}{o:HO}
theorem ObjOk.lt(x:ObjOk P w H h a o):a<h.objs.size:=by
 cases o with
 |lst xs=>let⟨_,_,_,_,e⟩:=x;show Ka e
 |tup xs=>let⟨_,_,_,p⟩:=x;show p.lt
 |dK c=>let⟨_,_,_,_,o,_,_,e,_⟩:=x;show Ka e
 |dT c=>let⟨_,_,_,_,o,_,_,e,_⟩:=x;show Ka e
 |set Q n=>let⟨o,_,_,_,e,_⟩:=x;show Ka e
 |ins C j fs=>let⟨_,_,_,e,_⟩:=x;show Ka e
 |own y=>let⟨_,e⟩:=x;show Ka e
 |xd fs=>let⟨_,⟨_,_,_,e,_⟩,_⟩:=x;show Ka e
 |rng lo l=>let⟨_,_,_,e⟩:=x;show Ka e
 |frz r u=>let⟨e,_⟩:=x;show Ka e
 |tbl ps=>rcases x with x|⟨_,_,_,_,_,_,_,_,_,_,x,_⟩<;>show Ka x
 |met f y=>show Ka (show h.get? a=Z _ from x)
 |ext t=>let⟨_,⟨_,e⟩,_⟩:=x;show Ka e
theorem Paired.mapP{e j:Type}{F G:e->j->Prop}:∀{l₁:Y e}{c:Y j},Paired F l₁ c->(∀a b,F a b->G a b)->Paired G l₁ c
 |_,_,.nil,_=>.nil
 |_,_,.cons r t,f=>.cons (f _ _ r) (Paired.mapP t f)
theorem ObjOk.stay(x:ObjOk P w H h a o)(k:∀b u,(b=a\/H b=Z (.own a))->h.get? b=Z u->h'.get? b=Z u)
  (O:∀b,H b=Z (.own a)->g b=Z (.own a)) (Q:∀b xs,H b=Z (.tup xs)->g b=Z (.tup xs)) (N:∀b o u,H b=Z (.frz o u)->g b=Z (.frz o u)):ObjOk P w g h' a o:=by
 induction o with
 |lst xs=>let⟨z,B,n,r,e⟩:=x;show⟨z,B,n,r,k _ _ (.inl S) e⟩
 |tup xs=>let⟨z,B,r,j,e,c⟩:=x;show⟨z,B,r,j,k _ _ (.inl S) e,c⟩
 |dK I=>let⟨z,y,vs,r,j,A,l,e,c⟩:=x;show⟨z,y,vs,r,j,A,l,k _ _ (.inl S) e,c⟩
 |dT I=>
  let⟨z,y,xs,r,j,A,l,e,c⟩:=x;show⟨z,y,xs,Paired.mapP r λp q z=>⟨z.1,Q _ _ z.2.1,z.2.2⟩,j,A,l,k _ _ (.inl S) e,c⟩
 |set am n=>let⟨j,A,l,t,e,c⟩:=x;show⟨j,A,l,t,k _ _ (.inl S) e,c⟩
 |ins C T fs=>
  let⟨d,z,ne,e,F,⟨G,A,l,E,c⟩,r⟩:=x;show⟨O _ d,z,ne,k _ _ (.inl S) e,F,⟨G,A,l,k _ _ (.inr d) E,c⟩,r⟩
 |own y=>let⟨j,e⟩:=x;show⟨j,k _ _ (.inl S) e⟩
 |xd fs=>let⟨F,⟨G,A,l,e,c⟩,r⟩:=x;show⟨F,⟨G,A,l,k _ _ (.inl S) e,c⟩,r⟩
 |rng lo U=>let⟨t,u,v,e⟩:=x;show⟨t,u,v,k _ _ (.inl S) e⟩
 |frz j u R=>let⟨e,q⟩:=x;show⟨k _ _ (.inl S) e,R q⟩
 |tbl ps=>
  rcases x with x|⟨c,o,vs,y,z,q,t,t',J,E,K,M⟩
  ·show .inl (k a _ (.inl S) x)
  ·show .inr ⟨c,o,vs,y,z,q,t,t',J,N _ _ _ E,k a _ (.inl S) K,M⟩
 |met f y=>
  have e:h.get? a=Z (ī (.ref f) (.ref y)):=x;change h'.get? a=Z (ī (.ref f) (.ref y));show k a _ (.inl S) e
 |ext X=>let⟨p,⟨o,e⟩,st⟩:=x;show⟨st _ _ p λo q=>k _ _ (.inl S) q,⟨o,k _ _ (.inl S) e⟩,st⟩
theorem HOk.lt(x:HOk P w H h)(e:H a=Z o):a<h.objs.size:=(x a o e).lt
theorem HOk.fresh(x:HOk P w H h)(e:h.objs.size<=a):H a=ű:=by
 cases q:H a with
 |none=>rfl
 |some u=>show absurd (Ks (x.lt q) e) (LV _)
theorem HOk.kept(x:HOk P w H h)(k:∀b u,h.get? b=Z u->h'.get? b=Z u):HOk P w H h':=λa o e=>
 (x a o e).stay (λb u _ q=>k b u q) (λ_ q=>q) (λ_ _ q=>q) λ_ _ _ q=>q
theorem HOk.laid(x:HOk P w H h)(k:∀b u,h.get? b=Z u->h'.get? b=Z u)(l:h.objs.size<=a)(new:ObjOk P w (au H a o) h' a o):HOk P w (au H a o) h':=λb u e=>by
 have f:=x.fresh l;by_cases j:b=a
 ·subst j;rw[aZ]at e;cases e;show new
 ·rw[aH j]at e
  show (x b u e).stay (λc v _ q=>k c v q) (λc q=>by rw[aH (cA q f)];show q) (λc xs q=>by rw[aH (cA q f)];show q) λc p r q=>by rw[aH (cA q f)];show q
end
noncomputable def Rd(H:Hp)(a:Addr)(u:HO):Prop:=H a=Z u\/∃o,H a=Z (.frz o u)
theorem Rd.ok{P:Ä}{w:Å}{H:Hp}{h:Heap}{a:Addr}{u:HO}(r:Rd H a u)(x:HOk P w H h):ObjOk P w H h a u:=by
 rcases r with r|⟨o,r⟩
 ·show x a u r
 ·let⟨_,q⟩:=x a _ r;show q
noncomputable def lz:Ų HO->Prop
 |some (.lst _)=>True
 |some (.dK _)=>True
 |some (.dT _)=>True
 |some (.set _ _)=>True
 |some (.ins _ _ _)=>True
 |some (.ext _)=>True
 |_=>False
section
variable{P:Ä}{w:Å}{H:Hp}{h h':Heap}{x e:Addr}{a:HO}
theorem HOk.write(ok:HOk P w H h)(f:lz (H x))(A:e=x\/H e=Z (.own x))(k:∀b u,b≠e->h.get? b=Z u->h'.get? b=Z u)(C:∃u,h'.get? e=Z u)
  (new:ObjOk P w (au H x a) h' x a):HOk P w (au H x a) h':=λb u q=>by
 have t:∀c y,H c=Z (.own y)->c≠x:=λc y r z=>by subst z;rw[r]at f;show f
 have E:∀c xs,H c=Z (.tup xs)->c≠x:=λc xs r z=>by subst z;rw[r]at f;show f
 have F:∀c o p,H c=Z (.frz o p)->c≠x:=λc o p r z=>by subst z;rw[r]at f;show f
 by_cases j:b=x
 ·subst j;rw[aZ]at q;cases q;show new
 ·rw[aH j]at q;by_cases g:b=e
  ·have B:H b=Z (.own x):=by
    rcases A with z|z
    ·show absurd (g.trans z) j
    ·rw[g];show z
   rw[q]at B;cases B;let⟨v,G⟩:=C;show⟨v,by rw[g];show G⟩
  ·refine (ok b u q).stay (λc v l r=>k c v ?_ r) (λc r=>by rw[aH (t c b r)];show r) (λc xs r=>by rw[aH (E c xs r)];show r) λc o p r=>by rw[aH (F c o p r)];show r
   rcases l with rfl|l
   ·show g
   ·rintro rfl;rcases A with z|z
    ·show t c b l z
    ·rw[l]at z;cases z;show j S
end
structure Un(fs ex:List Addr)(H H':Hp)(h h':Heap):Prop where
 keep:∀b o,h.get? b=Z o->H b=ű->b∉fs->b∉ex->h'.get? b=Z o
 slot:∀b o,h.get? b=Z o->H b=ű->b∈fs->b∉ex->∃sl,h'.get? b=Z { o with slots:=sl }
 free:∀b o,h.get? b=Z o->H b=ű->b∉ex->H' b=ű
 there:∀b o,h.get? b=Z o->b∉ex->∃o',h'.get? b=Z o'
 tups:∀b xs,H b=Z (.tup xs)->H' b=Z (.tup xs)
 frzs:∀b o u,H b=Z (.frz o u)->H' b=Z (.frz o u)
 tbls:∀b ps,H b=Z (.tbl ps)->H' b=Z (.tbl ps)
section
variable{fs ex:Y Addr}{H f:Hp}{h c h':Heap}{a x e:Addr}{o:HO}
theorem Un.any(u:Un fs ex H f h c){b:Addr}{g:Ð}(q:h.get? b=Z g)(n:H b=ű)(l:b∉ex):∃sl,c.get? b=Z { g with slots:=sl }:=by
 by_cases j:b∈fs
 ·show u.slot b g q n j l
 ·show⟨g.slots,u.keep b g q n j l⟩
theorem Un.kept(k:∀b u,h.get? b=Z u->h'.get? b=Z u):Un fs ex H H h h':=
 ⟨λb g q _ _ _=>k b g q,λb g q _ _ _=>⟨g.slots,k b g q⟩,λ_ _ _ n _=>n,λb g q _=>⟨g,k b g q⟩,λ_ _ q=>q,λ_ _ _ q=>q,λ_ _ q=>q⟩
theorem Un.refl:Un fs ex H H h h:=Un.kept λ_ _ q=>q
theorem Un.laid(k:∀b u,h.get? b=Z u->h'.get? b=Z u)(j:h.objs.size<=a)(g:H a=ű):Un fs ex H (au H a o) h h' where
 keep:=λb u q _ _ _=>k b u q
 slot:=λb u q _ _ _=>⟨u.slots,k b u q⟩
 free:=λb u q n _=>by rw[aH (KA (Ks (Ka q) j))];show n
 there:=λb u q _=>⟨u,k b u q⟩
 tups:=λb xs q=>by rw[aH (cA q g)];show q
 frzs:=λb u xs q=>by rw[aH (cA q g)];show q
 tbls:=λb ps q=>by rw[aH (cA q g)];show q
theorem Un.write(g:lz (H x))(w:e=x\/H e=Z (.own x))(k:∀b u,b≠e->h.get? b=Z u->h'.get? b=Z u)(v:∃u,h'.get? e=Z u):Un fs ex H (au H x o) h h':=by
 have t:∀b,H b=ű->b≠x:=λb n z=>by subst z;rw[n]at g;show g
 have p:∀b,H b=ű->b≠e:=λb n z=>by
  subst z;rcases w with r|r
  ·show t b n r
  ·rw[n]at r;cases r
 have j:∀b u,H b=Z u->¬ lz (Z u)->b≠x:=λb u q nm z=>by subst z;rw[q]at g;show nm g
 refine⟨λb u q n _ _=>k b u (p b n) q,λb u q n _ _=>⟨u.slots,k b u (p b n) q⟩,λb u q n _=>by rw[aH (t b n)];show n,λb u q _=>?_,
  λb xs q=>by rw[aH (j b _ q λz=>z)];show q,λb u xs q=>by rw[aH (j b _ q λz=>z)];show q,λb ps q=>by rw[aH (j b _ q λz=>z)];show q⟩
 by_cases l:b=e
 ·subst l;show v
 ·show⟨u,k b u l q⟩
end
noncomputable def mv(h:Heap)(H:Hp):Y Addr:=(List.range h.objs.size).filter λa=>(H a).isSome
noncomputable def gU(h:Heap)(H:Hp):Heap:=PySem.W.hideAll h (mv h H)
theorem Hq(h:Heap)(H:Hp):(gU h H).objs.size=h.objs.size:=PySem.W.hideAll_size _ _
theorem Gy{h:Heap}{H:Hp}{b:Addr}{o:Ð}(e:h.get? b=Z o)(n:H b=ű):(gU h H).get? b=Z o:=
 PySem.W.hideAll_get _ e λa=>by have q:(H b).isSome=ų:=(Na.mp a).2;rw[n]at q;simp at q
theorem yw{h:Heap}{H:Hp}{b:Addr}{o:Ð}(e:(gU h H).get? b=Z o):h.get? b=Z o/\H b=ű:=by
 have a:h.get? b=Z o:=PySem.W.of_hideAll (mv h H) e;refine⟨a,?_⟩
 cases q:H b with
 |none=>rfl
 |some x=>
  have c:b∈mv h H:=Na.mpr ⟨Li.mpr (Ka a),by simp[q]⟩;have z:(gU h H).get? b=ű:=PySem.W.hideAll_none (mv h H) c;rw[z]at e;cases e
structure Mod(K:Â)(mg:Str->Option Value)(base:Heap):Prop where
 kin:K.In base
 glob:base.Ns Á mg
 blt:∃mb,base.Ns ç mb/\∀x:Str,x≠"__name__"->mb x=ß x
 nolimit:base.NoLimit
 bmod:∃bm ob,mg "__builtins__"=Z (.ref bm)/\bm≠ç/\base.get? bm=Z ob/\ob.cls=.type "module"/\ob.dict=Z ç/\ob.data=.plain
 seer:base.NoSeer
 dig:∃mc,base.Ns cStatics mc/\mc "sys.int_max_str_digits"=ű
structure Cx where
 prog:Ä
 w:Å
 K:Â
 mg:Str->Option Value
 base:Heap
 A:È
 N:List Str
 s₀:À
 H₀:Hp
 env:ê
 outer:List ê
 stack:List ê
 ex:List Addr
 fn:Str->Bool
 calm:Bool
 pn:List (Addr×Ð)
 xe:Value->À->Prop
noncomputable def cG(l:Y ê):Y Addr:=l.filterMap (·.frame)
noncomputable abbrev Cx.fs(X:Cx):Y Addr:=cG X.outer
noncomputable def b7(a:æ)(x:Str):Prop:=a.names.lookup x=Z .local\/a.names.lookup x=Z .cell\/a.names.lookup x=Z .free
noncomputable def gW(a:æ)(x:Str):Prop:=a.names.lookup x=Z .local\/a.names.lookup x=Z .cell
noncomputable def zx(env:ê)(h:Heap)(m:Str->Ų Value)(x:Str)(u:Value):Prop:=
 (env.kindOf x=Z .local/\m x=Z u)\/((env.kindOf x=Z .cell\/env.kindOf x=Z .free)/\∃c,env.cells.lookup x=Z c/\h.IsCell c (Z u))
structure Cx.Ok(X:Cx):Prop where
 mod:Mod X.K X.mg X.base
 kind:X.env.scope.kind=.function
 glob:X.env.globals=Á
 blt:X.env.builtins=ç
 above:X.s₀.heap.objs.size<=X.env.locals
 inj:∀x y c,X.env.cells.lookup x=Z c->X.env.cells.lookup y=Z c->x=y
 has:∀x,(X.env.kindOf x=Z .cell\/X.env.kindOf x=Z .free)->∃c,X.env.cells.lookup x=Z c
 cab:∀x c,X.fn x=ų->X.env.cells.lookup x=Z c->X.s₀.heap.objs.size<=c
 hd:X.calm=ų->X.A.handled=ű
 frames:X.A.frames=Z X.stack
 stk:X.stack=X.outer\/(X.stack=X.env::X.outer/\X.env.frame=Z X.env.locals)
 exf:∀b∈X.ex,b≠X.env.locals/\∀x c,X.env.cells.lookup x=Z c->c≠b
 bs:∀b o,X.base.get? b=Z o->X.s₀.heap.get? b=Z o/\X.H₀ b=ű
 bsz:X.base.objs.size<=X.s₀.heap.objs.size
 noex:∀b o,X.base.get? b=Z o->b∉X.ex
 exfs:∀b∈X.ex,b∉X.fs
 funs:X.s₀.heap.FunFrames X.base X.outer
 frf:∀b∈X.fs,X.H₀ b=ű
structure Inv(X:Cx)(pins:List (Addr×Ð))(σ:List (Option V))(H:Hp)(s:À):Prop where
 ok:X.Ok
 os:s.os=X.s₀.os
 bare:í s.gens
 base:Un X.fs X.ex X.H₀ H X.s₀.heap s.heap
 loc:∃m,s.heap.Ns X.env.locals m/\∀(i:Nat)(x:Str)(v:V),X.N[i]?=Z x->σ[i]?=Z (Z v)->b7 X.env.scope x->∃u,RelV v u/\zx X.env s.heap m x u
 cell:∀x c,X.env.cells.lookup x=Z c->∃v,s.heap.IsCell c v
 free:H X.env.locals=ű
 freeC:∀x c,X.env.cells.lookup x=Z c->H c=ű
 pin:∀p∈X.pn++pins,s.heap.get? p.1=Z p.2/\H p.1=ű/\p.1≠X.env.locals/\p.1∉X.fs/\∀v,p.2.data≠.cell v
 hok:HOk X.prog X.w H s.heap
 len:σ.length=X.N.length
section
variable{X:Cx}{f:Y (Addr×Ð)}{g:Y (Ų V)}{H w:Hp}{s:À}{h':Heap}
theorem Cx.Ok.nofr(ok:X.Ok){b:Addr}{o:Ð}(e:X.base.get? b=Z o):b∉X.fs:=λa=>by have:=(ok.funs.mem a).1;rw[e]at this;cases this
theorem Inv.bs(I:Inv X f g H s):∀b o,X.base.get? b=Z o->s.heap.get? b=Z o/\H b=ű:=λb o e=>
 ⟨I.base.keep b o (I.ok.bs b o e).1 (I.ok.bs b o e).2 (I.ok.nofr e) (I.ok.noex b o e),I.base.free b o (I.ok.bs b o e).1 (I.ok.bs b o e).2 (I.ok.noex b o e)⟩
theorem Inv.bk(I:Inv X f g H s):∀b o,X.base.get? b=Z o->s.heap.get? b=Z o:=λb o e=>(I.bs b o e).1
theorem Inv.mod(I:Inv X f g H s):Mod X.K X.mg X.base:=I.ok.mod
theorem Inv.kIn(I:Inv X f g H s):X.K.In s.heap:=I.ok.mod.kin.keeps I.bk
theorem Inv.lt(I:Inv X f g H s):X.env.locals<s.heap.objs.size:=let ⟨_,hn,_⟩:=I.loc;hn.lt
theorem Inv.sz(I:Inv X f g H s):X.s₀.heap.objs.size<=s.heap.objs.size:=J6 I.ok.above (L6 I.lt)
theorem Inv.nofs(I:Inv X f g H s){a:Addr}(h:s.heap.objs.size<=a):a∉X.fs:=λc=>by let⟨_,o,e,_⟩:=I.ok.funs.mem c;show absurd (Ks (Ka e) (J6 I.sz h)) (LV _)
theorem Inv.cne(I:Inv X f g H s):∀x c,X.env.cells.lookup x=Z c->c≠X.env.locals:=λx c e z=>by let⟨v,o,a,hd⟩:=I.cell x c e;let⟨m,⟨r,p,l,h,j,_⟩,_⟩:=I.loc;rw[z,h]at a;cases a;rw[j]at hd;cases hd
theorem Inv.funs(I:Inv X f g H s):s.heap.FunFrames X.base X.outer:=by
 have all:∀(l:Y ê),(∀b∈cG l,b∈X.fs)->X.s₀.heap.FunFrames X.base l->s.heap.FunFrames X.base l:=by
  intro l
  induction l with
  |nil=>intro _ _;trivial
  |cons env r y=>
   intro j t;let⟨p,⟨L,o,h,u,v,hd⟩,x⟩:=t;have a:L∈X.fs:=j L (by unfold cG;rw[LG,h];show JY);let⟨sl,e⟩:=I.base.slot L o v (I.ok.frf L a) a λz=>I.ok.exfs L z a;show⟨p,⟨L,_,h,u,e,hd⟩,y (λb c=>j b (by unfold cG;rw[LG,h];show JZ _ c)) x⟩
 show all X.outer (λ_ c=>c) I.ok.funs
theorem Inv.stack(I:Inv X f g H s):s.heap.FunFrames X.base X.stack:=by
 rcases I.ok.stk with e|⟨e,a⟩
 ·rw[e];show I.funs
 ·rw[e];let⟨m,c,_⟩:=I.loc;refine .cons (by rw[I.ok.kind];decide) a c ?_ I.funs;show Lo (J6 I.ok.bsz I.ok.above)
theorem Inv.stkSub(I:Inv X f g H s):∀b∈cG X.stack,b∈X.env.locals::X.fs:=λb a=>by
 rcases I.ok.stk with e|⟨e,c⟩
 ·rw[e]at a;show JZ _ a
 ·rw[e]at a;unfold cG at a;rw[LG,c]at a;show a
theorem Inv.stkFree(I:Inv X f g H s):∀b∈cG X.stack,H b=ű:=λb a=>by
 rcases J9.mp (I.stkSub b a)with e|a
 ·rw[e];show I.free
 ·let⟨_,o,c,_⟩:=I.ok.funs.mem a;show I.base.free b o c (I.ok.frf b a) λz=>I.ok.exfs b z a
theorem Inv.step{g':Array ă}{t':Nat}{d':Š}{ch:Y Addr}(I:Inv X f g H s)
  (A:∀b∈ch,(b∈X.ex\/X.s₀.heap.objs.size<=b)/\b≠X.env.locals/\(∀x c,X.env.cells.lookup x=Z c->c≠b)/\∀p∈X.pn++f,p.1≠b)
  (keep:∀b o,b≠X.env.locals->b∉X.fs->b∉ch->s.heap.get? b=Z o->H b=ű->h'.get? b=Z o)
  (slot:∀b o,b≠X.env.locals->b∈X.fs->b∉ch->s.heap.get? b=Z o->H b=ű->∃sl,h'.get? b=Z { o with slots:=sl }) (free:∀b o,b∉ch->s.heap.get? b=Z o->H b=ű->w b=ű)
  (there:∀b o,b∉ch->s.heap.get? b=Z o->∃E,h'.get? b=Z E)
  (tups:∀b xs,H b=Z (.tup xs)->w b=Z (.tup xs)) (frzs:∀b o u,H b=Z (.frz o u)->w b=Z (.frz o u)) (tbls:∀b ps,H b=Z (.tbl ps)->w b=Z (.tbl ps))
  (ns:∀m,s.heap.Ns X.env.locals m->h'.Ns X.env.locals m) (hok:HOk X.prog X.w w h') (Q:í g') :
  Inv X f g w { s with heap:=h',gens:=g',drawn:=d',toks:=t' }:=by
 have C:∀b o,X.s₀.heap.get? b=Z o->b≠X.env.locals:=λb o e=>KA (Ks (Ka e) I.ok.above)
 have F:∀b o,X.s₀.heap.get? b=Z o->b∉X.ex->b∉ch:=λb o e a t=>by
  rcases (A b t).1 with z|z
  ·show a z
  ·show absurd (Ks (Ka e) z) (LV _)
 have h:∀x c,X.env.cells.lookup x=Z c->∀v,s.heap.IsCell c v->h'.IsCell c v:=λx c e v O=>by
  let⟨o,y,hd⟩:=O;have B:c∉ch:=λz=>(A c z).2.2.1 x c e S;by_cases K:c∈X.fs
  ·let⟨sl,q⟩:=slot c o (I.cne x c e) K B y (I.freeC x c e);show⟨_,q,hd⟩
  ·show⟨o,keep c o (I.cne x c e) K B y (I.freeC x c e),hd⟩
 refine⟨I.ok,I.os,Q,⟨λb o e n t a=>?_,λb o e n t a=>?_,λb o e n a=>?_,λb o e a=>?_,λb xs e=>tups b xs (I.base.tups b xs e),λb o xs e=>frzs b o xs (I.base.frzs b o xs e),λb ps e=>tbls b ps (I.base.tbls b ps e)⟩,?_,λx c e=>?_,?_,λx c e=>?_,λp M=>?_,hok,I.len⟩
 ·show keep b o (C b o e) t (F b o e a) (I.base.keep b o e n t a) (I.base.free b o e n a)
 ·let⟨sl,j⟩:=I.base.slot b o e n t a;let⟨J,G⟩:=slot b _ (C b o e) t (F b o e a) j (I.base.free b o e n a);show⟨J,G⟩
 ·let⟨E,j⟩:=I.base.there b o e a;show free b E (F b o e a) j (I.base.free b o e n a)
 ·let⟨E,j⟩:=I.base.there b o e a;show there b E (F b o e a) j
 ·let⟨m,U,R⟩:=I.loc;refine⟨m,ns m U,λi x v j G P=>?_⟩;let⟨u,r,l⟩:=R i x v j G P;refine⟨u,r,?_⟩;rcases l with l|⟨k,c,e,z⟩
  ·show .inl l
  ·show .inr ⟨k,c,e,h x c e _ z⟩
 ·let⟨v,z⟩:=I.cell x c e;show⟨v,h x c e v z⟩
 ·let⟨m,⟨o,_,_,y,_⟩,_⟩:=I.loc;show free _ o (λz=>(A _ z).2.1 S) y I.free
 ·let⟨v,o,y,hd⟩:=I.cell x c e;show free c o (λz=>(A c z).2.2.1 x c e S) y (I.freeC x c e)
 ·let⟨e,n,ne,N,d⟩:=I.pin p M;have B:p.1∉ch:=λz=>(A p.1 z).2.2.2 p M S;show⟨keep p.1 p.2 ne N B e n,free p.1 p.2 B e n,ne,N,d⟩
theorem Inv.un{t':Nat}(I:Inv X f g H s)(u:Un X.fs [] H w s.heap h')(hok:HOk X.prog X.w w h'):Inv X f g w { s with heap:=h',toks:=t' }:=by
 let⟨m,⟨o,y,x,h,r⟩,_⟩:=id I.loc;let⟨sl,p⟩:=u.any h I.free (by simp)
 show I.step (g':=s.gens) (d':=s.drawn) (ch:=[]) (λ_ z=>nomatch z) (λb o _ a _ e n=>u.keep b o e n a (by simp)) (λb o _ a _ e n=>u.slot b o e n a (by simp)) (λb o _ e n=>u.free b o e n (by simp)) (λb o _ e=>u.there b o e (by simp)) u.tups u.frzs u.tbls (λA t=>by
  let⟨B,j,l,c,v⟩:=t;rw[h]at c;cases c
  show⟨_,j,l,p,v⟩) hok I.bare
theorem Inv.call{g':Array ă}{t':Nat}{d':Š}{ch:Y Addr}(I:Inv X f g H s)(u:Un (cG X.stack) ch H w s.heap h')(hok:HOk X.prog X.w w h')(B:í g')
  (l:∀b∈ch,(b∈X.ex\/X.s₀.heap.objs.size<=b)/\b≠X.env.locals/\(∀x c,X.env.cells.lookup x=Z c->c≠b)/\∀p∈X.pn++f,p.1≠b) :
  Inv X f g w { s with heap:=h',gens:=g',drawn:=d',toks:=t' }:=by
 let⟨m,⟨o,G,F,t,r⟩,_⟩:=id I.loc;let⟨sl,h⟩:=u.any t I.free λz=>(l _ z).2.1 S
 show I.step (ch:=ch) l (λb o h A a e n=>u.keep b o e n (λz=>(J9.mp (I.stkSub b z)).elim h A) a) (λb o _ _ a e n=>u.any e n a) (λb o a e n=>u.free b o e n a) (λb o a e=>u.there b o e a) u.tups u.frzs u.tbls (λJ C=>by
  let⟨K,v,y,j,E⟩:=C;rw[t]at j;cases j
  show⟨_,v,y,h,E⟩) hok B
theorem Inv.turned{t':Nat}{a:Addr}(I:Inv X f g H s)(k:∀b o,b≠a->s.heap.get? b=Z o->h'.get? b=Z o)(G:H a=ű)(l:a≠X.env.locals)
  (A:a∈X.ex\/X.s₀.heap.objs.size<=a) (B:∀x c,X.env.cells.lookup x=Z c->c≠a) (C:∀p∈X.pn++f,p.1≠a):Inv X f g H { s with heap:=h',toks:=t' }:=by
 have j:∀b u,H b=Z u->b≠a:=λb u e z=>by rw[z,G]at e;cases e
 refine I.step (g':=s.gens) (d':=s.drawn) (ch:=[a]) (λb E=>?_) (λb o _ _ h e _=>k b o (λz=>h (by simp[z])) e) (λb o _ _ h e _=>⟨o.slots,k b o (λz=>h (by simp[z])) e⟩) (λ_ _ _ _ n=>n)
  (λb o h e=>⟨o,k b o (λz=>h (by simp[z])) e⟩) (λ_ _ e=>e) (λ_ _ _ e=>e) (λb ps e=>e) (λm F=>?_) (λb u e=>?_) I.bare
 ·have e:b=a:=by simpa using E
  subst e;show⟨A,l,B,C⟩
 ·let⟨o,y,t,J,r⟩:=F;show⟨o,y,t,k _ o (KW l) J,r⟩
 ·refine (I.hok b u e).stay (λc v h q=>k c v ?_ q) (λ_ q=>q) (λ_ _ q=>q) λ_ _ _ q=>q;rcases h with z|z
  ·rw[z];show j b u e
  ·show j c _ z
theorem Inv.tok(I:Inv X f g H s)(t:Nat):Inv X f g H { s with toks:=t }:=I.un (h':=s.heap) (t':=t) Un.refl I.hok
theorem Inv.kept{t':Nat}(I:Inv X f g H s)(k:∀b u,s.heap.get? b=Z u->h'.get? b=Z u):Inv X f g H { s with heap:=h',toks:=t' }:=I.un (Un.kept k) (I.hok.kept k)
theorem Inv.laid{a:Addr}{o:HO}{t':Nat}(I:Inv X f g H s)(k:∀b u,s.heap.get? b=Z u->h'.get? b=Z u)(c:s.heap.objs.size<=a)(new:ObjOk X.prog X.w (au H a o) h' a o) :
  Inv X f g (au H a o) { s with heap:=h',toks:=t' }:=I.un (Un.laid k c (I.hok.fresh c)) (I.hok.laid k c new)
theorem Inv.write{x e:Addr}{o:HO}{t':Nat}(I:Inv X f g H s)(h:lz (H x))(c:e=x\/H e=Z (.own x))(k:∀b u,b≠e->s.heap.get? b=Z u->h'.get? b=Z u)(a:∃u,h'.get? e=Z u)
  (new:ObjOk X.prog X.w (au H x o) h' x o):Inv X f g (au H x o) { s with heap:=h',toks:=t' }:=I.un (Un.write h c k a) (I.hok.write h c k a new)
theorem Inv.pins_of{a:Y (Addr×Ð)}(I:Inv X f g H s)(h:∀p∈a,s.heap.get? p.1=Z p.2/\H p.1=ű/\p.1≠X.env.locals/\p.1∉X.fs/\∀v,p.2.data≠.cell v):Inv X a g H s:=
 ⟨I.ok,I.os,I.bare,I.base,I.loc,I.cell,I.free,I.freeC,λp c=>(Kj.mp c).elim (λz=>I.pin p (LA _ z)) (h p),I.hok,I.len⟩
theorem uj{N:Y Str}(h:N.Nodup){i j:Nat}{x:Str}(a:N[i]?=Z x)(b:N[j]?=Z x):i=j:=by let⟨l,c⟩:=KO.mp a;let⟨o,e⟩:=KO.mp b;show (List.getElem_inj h).mp (c.trans e.symm)
theorem qL{M:ÿ}{A:È}{E:Value->À->Prop}{i:Nat}{x:Str}{v:V}{u:Value}{Q:Unit->À->Prop}(I:Inv X f g H s)(hN:X.N.Nodup)(P:X.N[i]?=Z x)(F:gW X.env.scope x)(r:RelV v u)
  (h:∀s',Inv X f (g.set i (Z v)) H s'->(∃a,Heap.SameBut a s.heap s'.heap/\(a=X.env.locals\/X.env.cells.lookup x=Z a))->Q Unit.unit s') (hf:X.fn x=ų\/X.env.scope.names.lookup x=Z .local:=by nofun):wpAny M A (storeName X.env x u) Q E s:=by
 let⟨m,ar,hl⟩:=id I.loc
 have Uh:(X.env.scope.kind==.class ||(X.env.scope.kind==.module&&X.env.locals != X.env.globals))=Ŵ:=by rw[I.ok.kind];rfl
 have J:i<g.length:=by rw[I.len];show (KO.mp P).1
 have cne:=I.cne
 have B:∀{a:Addr}{h':Heap},(∃o,s.heap.get? a=Z o/\H a=ű)->Heap.SameBut a s.heap h'->HOk X.prog X.w H h':=λ{a h'} ha l b ob e=>by
  let⟨_,_,T2⟩:=ha;refine (I.hok b ob e).stay (λc am C q=>(l.2 c ?_).trans q) (λ_ q=>q) (λ_ _ q=>q) λ_ _ _ q=>q;rintro rfl;rcases C with rfl|C
  ·rw[T2]at e;cases e
  ·rw[T2]at C;cases C
 rcases F with K|K
 ·refine wpAny_storeName_local K ar (λh' V9 l=>?_) Uh;let⟨oL,_,_,aw,_⟩:=id ar;refine h _ ⟨I.ok,I.os,I.bare,⟨λb o e n N F=>?_,λb o e n N F=>?_,I.base.free,λb o e F=>?_,I.base.tups,I.base.frzs,I.base.tbls⟩,⟨_,V9,λj y v' t G U=>?_⟩,λy c e=>?_,I.free,I.freeC,λp hp=>?_,B ⟨oL,aw,I.free⟩ l,by simpa using I.len⟩ ⟨_,l,.inl S⟩
  ·show (l.2 b (KA (Ks (Ka e) I.ok.above))).trans (I.base.keep b o e n N F)
  ·let⟨sl,t⟩:=I.base.slot b o e n N F;show⟨sl,(l.2 b (KA (Ks (Ka e) I.ok.above))).trans t⟩
  ·let⟨o',t⟩:=I.base.there b o e F;show⟨o',(l.2 b (KA (Ks (Ka e) I.ok.above))).trans t⟩
  ·by_cases O:j=i
   ·subst O;rw[P]at t;cases t;rw[KR J]at G;cases G;show⟨u,r,.inl ⟨K,by simp⟩⟩
   ·rw[KD (KW O)]at G;let⟨u',r',q⟩:=hl j y v' t G U;refine⟨u',r',?_⟩;rcases q with⟨k,e⟩|⟨k,c,e,z⟩
    ·refine .inl ⟨k,?_⟩;have:y≠x:=λe=>O (uj hN t (e▸P));simp[this,e]
    ·show .inr ⟨k,c,e,z.sameBut l (cne y c e)⟩
  ·let⟨am,z⟩:=I.cell y c e;show⟨am,z.sameBut l (cne y c e)⟩
  ·let⟨e,n,ne,nf,d⟩:=I.pin p hp;show⟨(l.2 p.1 ne).trans e,n,ne,nf,d⟩
 ·have T:X.fn x=ų:=by
   rcases hf with z|z
   ·show z
   ·rw[z]at K;cases K
  let⟨c,C⟩:=I.ok.has x (.inl K);let⟨am,z⟩:=I.cell x c C;refine wpAny_storeName_cell I.ok.kind K C z (λh' U6 l=>?_);let⟨oc,UR,WE⟩:=id z;refine h { s with heap:=h' } ⟨I.ok,I.os,I.bare,⟨λb o e n N F=>?_,λb o e n N F=>?_,I.base.free,λb o e F=>?_,I.base.tups,I.base.frzs,I.base.tbls⟩,⟨m,ar.sameBut l (KW (cne x c C)),λj y v' t G U=>?_⟩,λy R e=>?_,I.free,I.freeC,λp hp=>?_,B ⟨oc,UR,I.freeC x c C⟩ l,by simpa using I.len⟩ ⟨c,l,.inr C⟩
  ·show (l.2 b (KA (Ks (Ka e) (I.ok.cab x c T C)))).trans (I.base.keep b o e n N F)
  ·let⟨sl,t⟩:=I.base.slot b o e n N F;show⟨sl,(l.2 b (KA (Ks (Ka e) (I.ok.cab x c T C)))).trans t⟩
  ·let⟨o',t⟩:=I.base.there b o e F;show⟨o',(l.2 b (KA (Ks (Ka e) (I.ok.cab x c T C)))).trans t⟩
  ·by_cases O:j=i
   ·subst O;rw[P]at t;cases t;rw[KR J]at G;cases G;show⟨u,r,.inr ⟨.inl K,c,C,U6⟩⟩
   ·rw[KD (KW O)]at G;let⟨u',r',q⟩:=hl j y v' t G U;refine⟨u',r',?_⟩;rcases q with q|⟨k,R,e,z'⟩
    ·show .inl q
    ·refine .inr ⟨k,R,e,z'.sameBut l ?_⟩;rintro rfl;show O (uj hN t (I.ok.inj _ _ _ e C▸P))
  ·by_cases Ui:R=c
   ·subst Ui;show⟨_,U6⟩
   ·let⟨w2,z2⟩:=I.cell y R e;show⟨w2,z2.sameBut l Ui⟩
  ·let⟨e,n,ne,nf,d⟩:=I.pin p hp;refine⟨(l.2 p.1 ?_).trans e,n,ne,nf,d⟩;intro q;rw[q,UR]at e;have q':oc=p.2:=Kh e;show d am (by rw[←q'];show WE)
theorem qa{M:ÿ}{A:È}{E:Value->À->Prop}{i:Nat}{x:Str}{v:V}{u:Value}{Q:Unit->À->Prop}(I:Inv X f g H s)(c:X.N.Nodup)(j:X.N[i]?=Z x)(l:gW X.env.scope x)(r:RelV v u)
  (h:∀s',Inv X f (g.set i (Z v)) H s'->Q Unit.unit s') (e:X.fn x=ų\/X.env.scope.names.lookup x=Z .local:=by nofun):wpAny M A (storeName X.env x u) Q E s:=
 qL I c j l r (λs' a _=>h s' a) e
theorem Inv.call'{s':À}{ch:Y Addr}(I:Inv X f g H s)(j:s'.os=s.os)(u:Un (cG X.stack) ch H w s.heap s'.heap)(hok:HOk X.prog X.w w s'.heap)(h:í s'.gens)
  (a:∀b∈ch,(b∈X.ex\/X.s₀.heap.objs.size<=b)/\b≠X.env.locals/\(∀x c,X.env.cells.lookup x=Z c->c≠b)/\∀p∈X.pn++f,p.1≠b):Inv X f g w s':=by
 let⟨h',g',d',t',l⟩:=s';have e:l=s.os:=j;subst e;show I.call (g':=g') (t':=t') (d':=d') u hok h a
end
noncomputable abbrev XK:=Value->Ų Addr->Hp->Prop
noncomputable abbrev St:=Y (Ų V)
noncomputable abbrev VK:=V->Hp->Prop
noncomputable abbrev TE:=St->Hp->VK->Prop
noncomputable abbrev TT:=St->Hp->(Bool->Hp->Prop)->Prop
noncomputable abbrev TA:=St->Hp->(Y V->Hp->Prop)->Prop
structure Ends where
 nx:St->Hp->Prop
 rt:VK
 bk:St->Hp->Prop:=λ_ _=>False
 ct:St->Hp->Prop:=λ_ _=>False
noncomputable abbrev TS:=Ends->St->Hp->Prop
noncomputable def EP(X:Cx)(a:Y (Addr×Ð))(e:St)(Q:VK)(u:Value)(s':À):Prop:=∃v c,Inv X a e c s'/\RelV v u/\Q v c
noncomputable def TP(X:Cx)(a:Y (Addr×Ð))(e:St)(Q:Bool->Hp->Prop)(b:Bool)(s':À):Prop:=∃c,Inv X a e c s'/\Q b c
noncomputable def AP(X:Cx)(a:Y (Addr×Ð))(e:St)(Q:Y V->Hp->Prop)(us:Y Value)(s':À):Prop:=∃vs c,Inv X a e c s'/\Vals vs us/\Q vs c
noncomputable def SP(X:Cx)(c:Y (Addr×Ð))(D:Ends)(f:Flow)(s':À):Prop:=
 match f with
 |.next=>∃a e,Inv X c a e s'/\D.nx a e
 |.brk=>∃a e,Inv X c a e s'/\D.bk a e
 |.cont=>∃a e,Inv X c a e s'/\D.ct a e
 |.ret u=>∃v a e,Inv X c a e s'/\RelV v u/\D.rt v e
noncomputable def PE(X:Cx)(e:Ã)(t:TE):Prop:=
 ∀(a:Y (Addr×Ð))(s:À)(c:St)(H:Hp)(Q:VK),Inv X a c H s->t c H Q->wpAny (model X.prog X.w) X.A (eval e X.env) (EP X a c Q) X.xe s
noncomputable def PT(X:Cx)(e:Ã)(t:TT):Prop:=
 ∀(a:Y (Addr×Ð))(s:À)(c:St)(H:Hp)(Q:Bool->Hp->Prop),Inv X a c H s->t c H Q->wpAny (model X.prog X.w) X.A (isTrue e X.env (eval e X.env)) (TP X a c Q) X.xe s
noncomputable def PW(X:Cx)(e:Ã)(t:TT):Prop:=
 ∀(c:Sem Value)(a:Y (Addr×Ð))(s:À)(f:St)(H:Hp)(Q:Bool->Hp->Prop),Inv X a f H s->t f H Q->wpAny (model X.prog X.w) X.A (isTrue e X.env c) (TP X a f Q) X.xe s
theorem PW.pt{X:Cx}{e:Ã}{t:TT}(h:PW X e t):PT X e t:=h _
noncomputable def PA(X:Cx)(f:Y Ã)(t:TA):Prop:=
 ∀(c:Õ)(a:Y (Addr×Ð))(s:À)(e:St)(H:Hp)(Q:Y V->Hp->Prop),Inv X a e H s->t e H Q->wpAny (model X.prog X.w) X.A (spliced (backTo c (starEach f X.env))) (AP X a e Q) X.xe s
noncomputable def PS(X:Cx)(st:Ë)(t:TS):Prop:=
 ∀(a:Y (Addr×Ð))(s:À)(c:St)(H:Hp)(D:Ends),Inv X a c H s->t D c H->wpAny (model X.prog X.w) X.A (exec st X.env) (SP X a D) X.xe s
noncomputable def PSs(X:Cx)(st:Y Ë)(t:TS):Prop:=
 ∀(a:Y (Addr×Ð))(s:À)(c:St)(H:Hp)(D:Ends),Inv X a c H s->t D c H->wpAny (model X.prog X.w) X.A (execs st X.env) (SP X a D) X.xe s
theorem aI{e:Type}{t:Sem e}{Q c:e->À->Prop}{M:ÿ}{A:È}{E:Value->À->Prop}{s:À}(h:wpAny M A t Q E s)(f:∀a s,Q a s->c a s):wpAny M A t c E s:=Lg h f λ_ _ x=>x
section
variable{X:Cx}
noncomputable def jk(i:Nat):TE:=λa H Q=>∃v,a[i]?=Z (Z v)/\Q v H
noncomputable def tC(v:V):TE:=λ_ H Q=>Q v H
theorem rO{i:Nat}{x:Str}{f:Õ}(w:X.N[i]?=Z x)(B:b7 X.env.scope x)(hd:ad x:=by decide)(t:ap x:=by decide):PE X (.Name x f) (jk i):=by
 intro j s C H Q I h;let⟨v,e,h⟩:=h;let⟨m,A,y⟩:=I.loc;let⟨u,r,l⟩:=y i x v w e B;have a:EP X j C Q u s:=⟨v,H,I,r,h⟩;rcases l with⟨g,z⟩|⟨g,c,p,o⟩
 ·show Nb (wpAny_loadName_local I.ok.kind g A z a) hd
 ·rcases g with g|g
  ·show Nb (wpAny_loadName_cell I.ok.kind g p o a) hd
  ·show Nb (wpAny_loadName_free I.ok.kind g p o a t) hd
theorem AJ{i j f}:PE X (.Constant (.int i) j f) (tC (.int i)):=λ_ _ _ H _ I h=>Ő ⟨.int i,H,I.tok _,⟨_,S⟩,h⟩
theorem Hb{b j f}:PE X (.Constant (.bool b) j f) (tC (.bl b)):=λ_ _ _ H _ I h=>Constant_bool ⟨.bl b,H,I,S,h⟩
theorem HE{j f}:PE X (.Constant .none j f) (tC .non):=λ_ _ _ H _ I h=>Constant_none ⟨.non,H,I,S,h⟩
theorem vA{x j f}:PE X (.Constant (.str x) j f) (tC (.str x)):=λ_ _ _ H _ I h=>NA ⟨.str x,H,I.tok _,⟨_,S⟩,h⟩
noncomputable def Gl(X:Cx)(x:Str):Prop:=X.env.kindOf x=Z .globalImplicit
theorem js{E:Value->À->Prop}{a:Y (Addr×Ð)}{s:À}{g:St}{H:Hp}{x:Str}{u:Value}{f:Õ}{Q:Value->À->Prop}(I:Inv X a g H s)(c:Gl X x)(e:X.mg x=Z u)(h:Q u s)
  (hd:ad x:=by decide):wpAny (model X.prog X.w) X.A (eval (.Name x f) X.env) Q E s:=
 Calls.Name_function_global I.ok.kind c (Calls.loadGlobal_global (by rw[I.ok.glob];show I.mod.glob.keeps I.bk) e h) hd
theorem jo{E:Value->À->Prop}{a:Y (Addr×Ð)}{s:À}{p:St}{H:Hp}{x:Str}{u:Value}{f:Õ}{Q:Value->À->Prop}(I:Inv X a p H s)(g:Gl X x)(j:X.mg x=ű)(o:ß x=Z u)(h:Q u s)
  (l:x≠"__name__":=by decide) (hd:ad x:=by decide):wpAny (model X.prog X.w) X.A (eval (.Name x f) X.env) Q E s:=by
 let⟨r,c,e⟩:=I.mod.blt;show Calls.Name_function_global I.ok.kind g (Calls.loadGlobal_builtin (by rw[I.ok.glob];show I.mod.glob.keeps I.bk) j (by rw[I.ok.blt];show c.keeps I.bk) ((e x l).trans o) h) hd
theorem jZ{x:Str}{v:V}{u:Value}{f:Õ}(a:Gl X x)(c:X.mg x=Z u)(r:RelV v u)(hd:ad x:=by decide):PE X (.Name x f) (tC v):=
 λ_ _ _ H _ I h=>js I a c ⟨v,H,I,r,h⟩ hd
theorem jB{x:Str}{v:V}{u:Value}{f:Õ}(a:Gl X x)(c:X.mg x=ű)(g:ß x=Z u)(r:RelV v u)(e:x≠"__name__":=by decide)(hd:ad x:=by decide):PE X (.Name x f) (tC v):=
 λ_ _ _ H _ I h=>jo I a c g ⟨v,H,I,r,h⟩ e hd
variable{a b:Ã}{o tb:TE}{f:Õ}
noncomputable def PC(X:Cx)(j:Ċ)(a b:Ã)(t:TE):Prop:=
 ∀(c:Y (Addr×Ð))(s:À)(h:St)(H:Hp)(Q:VK),Inv X c h H s->t h H Q->
  wpAny (model X.prog X.w) X.A (eval a X.env) (λv e=>wpAny (model X.prog X.w) X.A (eval b X.env) (λu g=>wpAny (model X.prog X.w) X.A (Æ j v u) (EP X c h Q) X.xe g) X.xe e) X.xe s
noncomputable def tB(t:TE):TT:=λg H Q=>t g H λx e=>∃c,x=.bl c/\Q c e
theorem FQ{j:Ċ}{t:TE}(h:PC X j a b t)(g:behindInMarks j b=Ŵ:=by first|show nobehind _ 'b' 'b'|rfl):PT X (.Compare a [j] [b] f) (tB t):=by intro e s B H Q I y;refine M5 (aI (h e s B H _ I y) λv C g=>aI g λu E w=>aI w λc F r=>?_) g;let⟨x,l,p,A,z⟩:=r;let⟨d,rfl,q⟩:=z;cases A;show LC ⟨l,p,q⟩
variable{p w:TT}{g:Y Ã}
noncomputable def Bw(t u:TT):TT:=λh H Q=>t h H λc e=>if c=ų then u h e Q else Q Ŵ e
noncomputable def AK(t u:TT):TT:=λh H Q=>t h H λc e=>if c=ų then Q ų e else u h e Q
noncomputable def HM(t:TT):TT:=λh H Q=>t h H λc e=>Q (!c) e
theorem wG(l:PT X a p):PW X (.BoolOp .And [a] f) p:=by
 intro u j s r H Q I h;refine isTrue_and (aI (l j s r H Q I h) λc t e=>?_)
 cases c with
 |true=>show isTrue_and_nil e
 |false=>show e
theorem Ai(l:PT X a p):PW X (.BoolOp .Or [a] f) p:=by
 intro u j s r H Q I h;refine isTrue_or (aI (l j s r H Q I h) λc t e=>?_)
 cases c with
 |false=>show isTrue_or_nil e
 |true=>show e
theorem yb(v:PT X a p)(x:PW X (.BoolOp .And (b::g) f) w):PW X (.BoolOp .And (a::b::g) f) (Bw p w):=by
 intro z e s t H Q I h;refine isTrue_and (aI (v e s t H _ I h) λc y u=>?_);let⟨j,l,r⟩:=u
 cases c with
 |true=>show x z e y t j Q l r
 |false=>show⟨j,l,r⟩
theorem Jm(v:PT X a p)(x:PW X (.BoolOp .Or (b::g) f) w):PW X (.BoolOp .Or (a::b::g) f) (AK p w):=by
 intro z e s t H Q I h;refine isTrue_or (aI (v e s t H _ I h) λc y u=>?_);let⟨j,l,r⟩:=u
 cases c with
 |true=>show⟨j,l,r⟩
 |false=>show x z e y t j Q l r
theorem yJ(l:PT X a p):PT X (.UnaryOp .Not a f) (HM p):=by intro e s r H Q I h;show isTrue_not (l e s r H (λc j=>Q (!c) j) I h)
noncomputable def Gj(o tb:TE):TE:=λh H Q=>o h H λx e=>∃c,x=.bl c/\if c=ų then tb h e Q else Q (.bl Ŵ) e
noncomputable def Bc(o:TE):TE:=λh H Q=>o h H λx e=>∃c,x=.bl c/\Q (.bl (!c)) e
theorem Ea{op}{t:TE}(h:PE X a t):PE X (.BoolOp op [a] f) t:=λc s j H Q I e=>BoolOp_one (h c s j H Q I e)
theorem GY(y:PE X a o)(z:PE X (.BoolOp .And (b::g) f) tb):PE X (.BoolOp .And (a::b::g) f) (Gj o tb):=by
 intro e s t H Q I h;refine BoolOp_and (aI (y e s t H _ I h) λv B u=>?_);let⟨x,l,r,A,j⟩:=u;let⟨c,rfl,j⟩:=j;cases A;refine LC ?_
 cases c with
 |true=>show z e B t l Q r j
 |false=>show⟨.bl Ŵ,l,r,S,j⟩
theorem Al(u:PE X a o):PE X (.UnaryOp .Not a f) (Bc o):=by intro e s z H Q I h;refine UnaryOp_ (aI (u e s z H _ I h) λv A t=>?_);let⟨x,l,r,y,j⟩:=t;let⟨c,rfl,j⟩:=j;cases y;show not_of (LC ⟨.bl (!c),l,r,S,j⟩)
noncomputable def FN(t:TT)(o tb:TE):TE:=λe H Q=>t e H λc h=>if c=ų then o e h Q else tb e h Q
theorem Dt{c:Ã}(z:PT X c p)(x:PE X a o)(y:PE X b tb):PE X (.IfExp c a b f) (FN p o tb):=by
 intro e s j H Q I h;refine wpAny_IfExp (aI (z e s j H _ I h) λd u v=>?_);let⟨l,r,t⟩:=v
 cases d with
 |true=>show x e u j l Q r t
 |false=>show y e u j l Q r t
end
noncomputable def SqL(K:Â)(H:Hp)(a:Addr)(xs:Y V):Prop:=
 Rd H a (.lst xs) \/
  ∃(o:Ð)(c:Array Value)(n:Nat),K.lookup a=Z o/\o.cls=.type "list"/\o.dict=ű/\o.data=.seq c n/\c.size<=sizeLine/\Vals xs c.toList
noncomputable def SqT(K:Â)(H:Hp)(a:Addr)(xs:Y V):Prop:=
 Rd H a (.tup xs) \/
  ∃(o:Ð)(c:Array Value)(n:Nat),K.lookup a=Z o/\o.cls=.type "tuple"/\o.data=.seq c n/\c.size<=sizeLine/\Vals xs c.toList
noncomputable def FS:Value->Ų V
 |.none=>Z .non
 |.bool b=>Z (.bl b)
 |.int i _=>Z (.int i)
 |.str x _=>Z (.str x)
 |.bytes b _=>Z (.byt b)
 |.float b _=>Z (.flt b)
 |.ref a=>Z (.ref a)
 |.type n=>Z (.ty n)
 |_=>ű
theorem RelV.abs{x:V}{u:Value}(r:RelV x u):FS u=Z x:=by
 cases x with
 |non=>cases r;rfl
 |bl _=>cases r;rfl
 |int _=>let⟨t,rfl⟩:=r;rfl
 |str _=>let⟨t,rfl⟩:=r;rfl
 |byt _=>let⟨t,rfl⟩:=r;rfl
 |flt _=>let⟨t,rfl⟩:=r;rfl
 |ref _=>cases r;rfl
 |ty _=>cases r;rfl
theorem RelV.inj{x y:V}{u:Value}(r:RelV x u)(q:RelV y u):x=y:=Kh (r.abs.symm.trans q.abs)
theorem Vals.inj:∀{xs ys:Y V}{us:Y Value},Vals xs us->Vals ys us->xs=ys
 |_,_,_,.nil,.nil=>rfl
 |_,_,_,.cons r t,.cons a t'=>by rw[r.inj a,Vals.inj t t']
section
variable{X:Cx}{c:Y (Addr×Ð)}{f:St}{H:Hp}{s:À}{a:Addr}{xs ys:Y V}
theorem SqL.of{K:Â}(h:H a=Z (.lst xs)):SqL K H a xs:=.inl (.inl h)
theorem SqT.of{K:Â}(h:H a=Z (.tup xs)):SqT K H a xs:=.inl (.inl h)
theorem Inv.list(I:Inv X c f H s)(h:SqL X.K H a xs):∃g:Y Value,Vals xs g/\PlainL s.heap a g.toArray/\xs.length<=sizeLine:=by
 rcases h with h|⟨o,g,n,l,j,hd,p,t,r⟩
 ·let⟨z,g,n,r,e⟩:=h.ok I.hok;show⟨g,r,⟨_,n,e,S,S,S⟩,z⟩
 ·refine⟨g.toList,r,⟨o,n,I.kIn a o l,j,hd,by simpa using p⟩,?_⟩;have e:=r.length;simp only[KQ]at e;omega
theorem Inv.tuple(I:Inv X c f H s)(h:SqT X.K H a xs):∃g:Y Value,Vals xs g/\ĭ s.heap a g.toArray/\xs.length<=sizeLine:=by
 rcases h with h|⟨o,g,n,l,j,t,u,r⟩
 ·let⟨z,g,r,p⟩:=h.ok I.hok;show⟨g,r,p.tup,z⟩
 ·refine⟨g.toList,r,⟨o,I.kIn a o l,j,n,by simpa using t⟩,?_⟩;have e:=r.length;simp only[KQ]at e;omega
theorem Inv.list_inj(I:Inv X c f H s)(h:SqL X.K H a xs)(h':SqL X.K H a ys):xs=ys:=by
 let⟨j,r,⟨o,n,e,_,_,d⟩,_⟩:=I.list h;let⟨Pa,l,⟨t,p,g,_,_,d'⟩,_⟩:=I.list h';rw[e]at g;cases g;rw[d]at d';injection d' with d1 _
 have:j=Pa:=by simpa using KG Ř d1
 subst this;show r.inj l
theorem Inv.tuple_inj(I:Inv X c f H s)(h:SqT X.K H a xs)(h':SqT X.K H a ys):xs=ys:=by
 let⟨j,r,⟨o,e,_,n,d⟩,_⟩:=I.tuple h;let⟨Pa,l,⟨t,g,_,p,d'⟩,_⟩:=I.tuple h';rw[e]at g;cases g;rw[d]at d';injection d' with d1 _
 have:j=Pa:=by simpa using KG Ř d1
 subst this;show r.inj l
end
noncomputable abbrev Cx.wish(X:Cx)(E:Value->À->Prop):Cx:={ X with xe:=E }
noncomputable abbrev Cx.nox(X:Cx):Cx:=X.wish λ_ _=>False
theorem Cx.Ok.wish{X:Cx}(ok:X.Ok)(E:Value->À->Prop):(X.wish E).Ok:=
 ⟨ok.mod,ok.kind,ok.glob,ok.blt,ok.above,ok.inj,ok.has,ok.cab,ok.hd,ok.frames,ok.stk,ok.exf,ok.bs,ok.bsz,ok.noex,ok.exfs,ok.funs,ok.frf⟩
theorem Cx.Ok.unwish{X:Cx}{E:Value->À->Prop}(ok:(X.wish E).Ok):X.Ok:=
 ⟨ok.mod,ok.kind,ok.glob,ok.blt,ok.above,ok.inj,ok.has,ok.cab,ok.hd,ok.frames,ok.stk,ok.exf,ok.bs,ok.bsz,ok.noex,ok.exfs,ok.funs,ok.frf⟩
section
variable{X:Cx}{a:Y (Addr×Ð)}{c:St}{H:Hp}{s:À}{E:Value->À->Prop}
theorem Inv.wish(I:Inv X a c H s)(E:Value->À->Prop):Inv (X.wish E) a c H s:=⟨I.ok.wish E,I.os,I.bare,I.base,I.loc,I.cell,I.free,I.freeC,I.pin,I.hok,I.len⟩
theorem Inv.unwish(I:Inv (X.wish E) a c H s):Inv X a c H s:=⟨I.ok.unwish,I.os,I.bare,I.base,I.loc,I.cell,I.free,I.freeC,I.pin,I.hok,I.len⟩
theorem SP.unwish{D:Ends}{f:Flow}{s':À}(h:SP (X.wish E) a D f s'):SP X a D f s':=by
 cases f with
 |next=>let⟨e,g,I,q⟩:=h;show⟨e,g,I.unwish,q⟩
 |brk=>let⟨e,g,I,q⟩:=h;show⟨e,g,I.unwish,q⟩
 |cont=>let⟨e,g,I,q⟩:=h;show⟨e,g,I.unwish,q⟩
 |ret u=>let⟨v,e,g,I,r,q⟩:=h;show⟨v,e,g,I.unwish,r,q⟩
theorem PSs.nox{st:Y Ë}{t:TS}(h:PSs X.nox st t):PSs X st t:=λa s c H D I e=>
 Lg (h a s c H D (I.wish _) e) (λ_ _ q=>q.unwish) λ_ _ z=>Ô z
end
section
variable{X:Cx}{st:Ë}{l:Y Ë}{t u:TS}{e:Ã}{j:TE}{g:Õ}
noncomputable def GJ:TS:=λD a H=>D.nx a H
noncomputable def Dz(t u:TS):TS:=λD a H=>t { D with nx:=u D } a H
theorem pss_nil:PSs X [] GJ:=λ_ _ a H _ I h=>Nc ⟨a,H,I,h⟩
theorem sG(r:PS X st t)(w:PSs X l u):PSs X (st::l) (Dz t u):=by
 intro a s y H D I h;refine N4 (aI (r a s y H { D with nx:=u D } I h) λf x q=>?_)
 cases f with
 |next=>
  let⟨c,o,p,q⟩:=q;show w a x c o D p q
 |ret v=>show q
 |brk=>show q
 |cont=>show q
theorem vz(c:PS X st t):PSs X [st] t:=by
 intro a s o H D I h;refine N4 (aI (c a s o H D I h) λf p q=>?_)
 cases f with
 |next=>show Nc q
 |ret v=>show q
 |brk=>show q
 |cont=>show q
theorem Inv.quiet{a:Y (Addr×Ð)}{c:St}{H:Hp}{s:À}(I:Inv X a c H s):interactive X.env=Ŵ:=by simp[interactive,I.ok.kind]
noncomputable def IM(j:TE):TS:=λD a H=>j a H λ_ c=>D.nx a c
theorem mM(r:PE X e j)(w:Ñ e ű g.line X.env=pure Ŵ:=by rfl):PS X (.Expr e g) (IM j):=by intro a s c H D I h;show wpAny_Expr_any (aI (r a s c H _ I h) λv A p=>by let⟨x,f,o,z,y⟩:=p;show⟨c,f,o,y⟩) I.quiet w
noncomputable def vi(j:TE):TS:=λD a H=>j a H D.rt
theorem DZ(r:PE X e j):PS X (.Return (Z e) g) (vi j):=by intro a s c H D I h;show wpAny_Return_some (aI (r a s c H _ I h) λv z p=>by let⟨x,f,o,y,w⟩:=p;show⟨x,c,f,o,y,w⟩)
noncomputable def C8(c:TT)(t u:TS):TS:=λD a H=>c a H λb f=>if b=ų then t D a f else u D a f
theorem BA{c:Ã}{a b:Y Ë}{x:TT}(B:PT X c x)(z:PSs X a t)(A:PSs X b u):PS X (.If c a b g) (C8 x t u):=by
 intro f s o H D I h;refine wpAny_If (aI (B f s o H _ I h) λd w y=>?_);let⟨p,r,v⟩:=y
 cases d with
 |true=>show z f w o p D r v
 |false=>show A f w o p D r v
noncomputable def Ie:TS:=λ_ _ _=>False
theorem ps_never:PS X st Ie:=λ_ _ _ _ _ _ h=>h.elim
end
noncomputable abbrev TG:=V->St->Hp->(St->Hp->Prop)->Prop
noncomputable abbrev eV:=Y V->St->Hp->(St->Hp->Prop)->Prop
noncomputable def PG(X:Cx)(a:Ã)(t:TG):Prop:=
 ∀(c:Y (Addr×Ð))(s:À)(g:St)(H:Hp)(v:V)(u:Value)(Q:St->Hp->Prop),Inv X c g H s->RelV v u->t v g H Q->
  wpAny (model X.prog X.w) X.A (assign a X.env u) (λ_ s'=>∃e f,Inv X c e f s'/\Q e f) X.xe s
noncomputable def PGs(X:Cx)(g:Y Ã)(t:eV):Prop:=
 ∀(a:Y (Addr×Ð))(s:À)(f:St)(H:Hp)(vs:Y V)(us:Y Value)(Q:St->Hp->Prop),Inv X a f H s->Vals vs us->t vs f H Q->
  wpAny (model X.prog X.w) X.A (assignInOrder ((Ê g X.env).map (·.2)) us) (λ_ s'=>∃c e,Inv X a c e s'/\Q c e) X.xe s
noncomputable abbrev lj:=V->V->V->Hp->(Hp->Prop)->Prop
noncomputable def qY(X:Cx)(t:lj):Prop:=
 ∀(a:Y (Addr×Ð))(s:À)(g:St)(H:Hp)(o i v:V)(f e u:Value)(Q:Hp->Prop),Inv X a g H s->RelV o f->RelV i e->RelV v u->t o i v H Q->
  wpAny (model X.prog X.w) X.A (setItem f e u) (λ_ s'=>∃c,Inv X a g c s'/\Q c) X.xe s
noncomputable abbrev pd:=V->V->Hp->VK->Prop
noncomputable def qB(X:Cx)(e:ñ)(t:pd):Prop:=
 ∀(a:Y (Addr×Ð))(s:À)(c:St)(H:Hp)(x y:V)(v u:Value)(Q:VK),Inv X a c H s->RelV x v->RelV y u->t x y H Q->
  wpAny (model X.prog X.w) X.A (inplaceOp e v u) (EP X a c Q) X.xe s
section
variable{X:Cx}{c:Õ}
noncomputable def nJ(i:Nat):TG:=λv a H Q=>Q (a.set i (Z v)) H
theorem vD{i:Nat}{x:Str}(f:X.N.Nodup)(j:X.N[i]?=Z x)(l:gW X.env.scope x)(g:X.fn x=ų\/X.env.scope.names.lookup x=Z .local:=by nofun):PG X (.Name x c) (nJ i):=by intro a s o H v u Q I r h;show wpAny_assign_Name (qa I f j l r (λs' e=>⟨_,H,e,h⟩) g)
noncomputable def ES:eV:=λvs a H Q=>vs=[]/\Q a H
noncomputable def GE(t:TG)(u:eV):eV:=λvs f H Q=>∃v r,vs=v::r/\t v f H λa e=>u r a e Q
theorem pgs_nil:PGs X [] ES:=by intro a s f H vs us Q I r h;let⟨e,h⟩:=h;subst e;cases r;show assignInOrder_nil ⟨f,H,I,h⟩
theorem uX{e:Ã}{f:Y Ã}{t:TG}{u:eV}(w:PG X e t)(x:PGs X f u)
  (y:(Ê (e::f) X.env).map (·.2)=assign e X.env::(Ê f X.env).map (·.2):=by rfl):PGs X (e::f) (GE t u):=by
 intro a s C H vs us Q I r h;let⟨v,E,p,h⟩:=h;subst p
 cases r with
 |cons r A=>
  rw[y];refine assignInOrder_cons (aI (w a s C H _ _ _ I r h) λ_ B o=>?_);let⟨g,j,l,z⟩:=o;show x a B g j _ _ Q l A z
noncomputable def rC(K:Â)(n:Nat)(t:eV):TG:=λv e H Q=>∃a xs,v=.ref a/\SqT K H a xs/\xs.length=n/\t xs e H Q
theorem EA{g:Y Ã}{k:Nat}{t:eV}{n:Nat}(z:X.calm=ų)(h:PGs X g t)
  (B:(Ê g X.env).length=n:=by rfl) (x:(Ê g X.env).findIdx? (·.1)=ű:=by rfl):PG X (.Tuple g k c) (rC X.K n t):=by
 intro f s p H v u Q I r j;let⟨a,xs,y,C,A,j⟩:=j;subst y;cases r;let⟨G,l,E,J⟩:=I.tuple C;refine assign_Tuple_tuple (I.ok.hd z) E (by simp[B,←A,l.length]) x λh' F=>?_;have w:Inv X f p H { s with heap:=h' }:=I.kept (t':=s.toks) λb o e=>F b o (KA (Ka e)) e;show h f _ p H xs _ Q w (by simpa using l) j
noncomputable def EY(to h:TE)(t:lj):TG:=λv a H Q=>to a H λo e=>h a e λi f=>t o i v f λg=>Q a g
theorem BI{o i:Ã}{to j:TE}{t:lj}(K:PE X o to)(J:PE X i j)(M:qY X t)
  (G:∀v,assign (.Subscript o i c) X.env v=(do
   let e ←holding [v] (eval o X.env)
   let f ←holding [v,e] (eval i X.env)
   standAt c
   holding [v,e,f] (setItem e f v)
   release [v,e,f] []):=by intro _;rfl):PG X (.Subscript o i c) (EY to j t):=by
 intro a s g H v u Q I r h;rw[G];refine JT (Lz (aI (K a s g H _ I h) λe T C=>?_));let⟨x,l,z,R,N⟩:=C;refine JT (Lz (aI (J a T g l _ z N) λf U E=>?_));let⟨y,p,A,am,O⟩:=E;refine JT (MJ (JT (Lz (aI (M a U g p x y v e f u _ A R am r O) λ_ ar F=>?_))));let⟨w,B,P⟩:=F;show wpAny_release ⟨g,w,B,P⟩
noncomputable def nc(f:TE)(g:TG):TS:=λD a H=>f a H λx e=>g x a e D.nx
theorem vU{f e:Ã}{j:TE}{g:TG}(u:PE X e j)(w:PG X f g)(y:ğ [f] e c.line X.env=pure Ŵ:=by rfl)(z:Ġ [f] e X.env=pure ű:=by rfl)
  (t:(Ê [f] X.env).map (·.2)=[assign f X.env]:=by rfl):PS X (.Assign [f] e c) (nc j g):=by
 intro a s l H D I h;refine wpAny_Assign_stores (aI (u a s l H _ I h) λv C r=>?_) y z;let⟨x,o,p,B,A⟩:=r;rw[t];show aI (w a C l o x v _ p B A) λ_ E q=>q
theorem FW{i:Nat}{x:Str}{e:Ã}{g:TE}{a:Õ}(r:X.N.Nodup)(w:X.N[i]?=Z x)(A:gW X.env.scope x)(t:PE X e g)(z:Ñ e (Z (.Name x a)) c.line X.env=pure Ŵ:=by rfl)(u:X.fn x=ų\/X.env.scope.names.lookup x=Z .local:=by nofun) :
  PS X (.Assign [.Name x a] e c) (nc g (nJ i)):=by
 intro f s E H D I h;refine wpAny_Assign_Name (aI (t f s E H _ I h) λv F p=>?_) z;let⟨y,j,l,C,B⟩:=p;show qa l r w A C (λG o=>⟨_,j,o,B⟩) u
noncomputable def Di(to v u:TE)(p:V->V->Hp->VK->Prop)(t:pd)(r:lj):TS:=λD a H=>to a H λo e=>v a e λi f=>p o i f λx g=>u a g λy h=>t x y h λz j=>r o i z j λl=>D.nx a l
noncomputable def rn(X:Cx)(t:V->V->Hp->VK->Prop):Prop:=
 ∀(a:Y (Addr×Ð))(s:À)(g:St)(H:Hp)(o i:V)(f e:Value)(Q:VK),Inv X a g H s->RelV o f->RelV i e->t o i H Q->
  wpAny (model X.prog X.w) X.A (ü f e) (EP X a g Q) X.xe s
theorem Cw{o i e:Ã}{to y x:TE}{l:V->V->Hp->VK->Prop}{r:pd}{p:lj}{t:ñ}{U:Õ}(ho:PE X o to)(hi:PE X i y)(hg:rn X l)(he:PE X e x)(hp:qB X t r)(hs:qY X p)
  (ha:∀g f new,augStore i g f new=(do holding [new,g,f] (setItem g f new);release [new,g,f] [];pure .next):=by intros;rfl):PS X (.AugAssign (.Subscript o i U) t e c) (Di to y x l r p):=by
 intro a s j H D I h;refine wpAny_AugAssign_SubscriptAny (aI (ho a s j H _ I h) λg s1 R=>?_) ha;let⟨z,B,K,u,q1⟩:=R;refine aI (hi a s1 j B _ K q1) λf s2 am=>?_;let⟨A,C,M,w,q2⟩:=am;refine aI (hg a s2 j C z A g f _ M u w q2) λold s3 T=>?_;let⟨x3,E,N,r3,q3⟩:=T;refine aI (he a s3 j E _ N q3) λv s4 ar=>?_;let⟨x4,F,O,r4,q4⟩:=ar;refine aI (hp a s4 j F x3 x4 old v _ O r3 r4 q4) λnew s5 aw=>?_;let⟨x5,G,P,r5,q5⟩:=aw
 show aI (hs a s5 j G z A x5 g f new _ P u w r5 q5) λ_ s6 WH=>by let⟨J,Q,q6⟩:=WH;show⟨j,J,Q,q6⟩
noncomputable def tZ(f:Int->Int->Int):pd:=λx y H Q=>∃i j,x=.int i/\y=.int j/\Q (.int (f i j)) H
theorem ui:qB X .Add (tZ λi j=>i+j):=by intro a s o H x y v u Q I g l h;let⟨i,j,e,f,q⟩:=h;subst e;subst f;let⟨t,rfl⟩:=g;let⟨t',rfl⟩:=l;show iadd_int ⟨.int _,H,I.tok _,⟨_,S⟩,q⟩
end
structure It where
 go:Nat->Hp->Prop
 yld:Nat->Hp->V->Hp->Prop
 stop:Nat->Hp->Prop
noncomputable def dN(X:Cx)(a:Y (Addr×Ð))(H:Hp)(b:Addr):Prop:=
 H b=ű/\b≠X.env.locals/\b∉X.fs/\(b∈X.ex\/X.s₀.heap.objs.size<=b)/\(∀x c,X.env.cells.lookup x=Z c->c≠b)/\∀p∈X.pn++a,p.1≠b
theorem Inv.fpOk{X:Cx}{a:Y (Addr×Ð)}{l:St}{H g:Hp}{s:À}{b:Addr}(I:Inv X a l H s)(f:s.heap.objs.size<=b)(h:g b=ű):dN X a g b:=by
 refine⟨h,N5 (Ks I.lt f),I.nofs f,.inr (J6 I.sz f),λx c e z=>?_,λp j z=>?_⟩
 ·let⟨v,q⟩:=I.cell x c e;show absurd (Ks q.lt (by rw[z];show f)) (LV _)
 ·show absurd (Ks (Ka (I.pin p j).1) (by rw[z];show f)) (LV _)
structure Turn(P:Ä)(w:Å)(K:Â)(tg:Ã)(J:It)(fp:List Addr)(it:Addr)(tn:Nat->Heap->Prop):Prop where
 mem:it∈fp
 obj:∀i h,tn i h->∀b∈fp,∃o,h.get? b=Z o/\∀v,o.data≠.cell v
 keep:∀i h h',tn i h->(∀b∈fp,∀o,h.get? b=Z o->h'.get? b=Z o)->tn i h'
 item:∀(X:Cx),X.prog=P->X.w=w->X.K=K->X.calm=ų->∀(i:Nat)(pins:List (Addr×Ð))(s:À)(σ:St)(H:Hp)(E:Value->À->Prop),Inv X pins σ H s->(∀b∈fp,dN X pins H b)->tn i s.heap->J.go i H->
  wpAny (model P w) X.A (ù (.ref it)) (λr s1=>∃u,r=Z u /\
   wpAny (model P w) X.A (ø tg (.ref it) u) (λ_ s2=>∃x H',Inv X pins σ H' s2/\RelV x u/\J.yld i H x H'/\tn (i+1) s2.heap/\∀b∈fp,H' b=ű) E s1) E s
 done:∀(X:Cx),X.prog=P->X.w=w->X.K=K->X.calm=ų->∀(i:Nat)(pins:List (Addr×Ð))(s:À)(σ:St)(H:Hp)(E:Value->À->Prop),Inv X pins σ H s->(∀b∈fp,dN X pins H b)->tn i s.heap->J.stop i H->
  wpAny (model P w) X.A (ù (.ref it)) (λr s1=>r=ű/\Inv X pins σ H s1) E s
 self:∀(A:È)(i:Nat)(s:À)(Q:Value->À->Prop)(E:Value->À->Prop),tn i s.heap->Q (.ref it) s->wpAny (model P w) A (pyIter (.ref it)) Q E s
noncomputable abbrev TI:=St->Hp->(It->Hp->Prop)->Prop
noncomputable def vK(X:Cx)(a:Y (Addr×Ð))(o:St)(l:Ã)(R:It->Hp->Prop)(j:Value)(g:À):Prop:=
 ∃(f:Addr)(e:Y Addr)(h:Nat->Heap->Prop)(J:It)(c:Hp),j=.ref f/\Inv X a o c g/\Turn X.prog X.w X.K l J e f h/\h 0 g.heap/\(∀b∈e,dN X a c b)/\R J c
noncomputable def PI(X:Cx)(g c:Ã)(h:TI):Prop:=
 ∀(a:Y (Addr×Ð))(s:À)(e:St)(H:Hp)(R:It->Hp->Prop),Inv X a e H s->h e H R->
  wpAny (model X.prog X.w) X.A (eval c X.env) (λv f=>wpAny (model X.prog X.w) X.A (pyIter v) (vK X a e g R) X.xe f) X.xe s
theorem lu{M:ÿ}{A:È}{E:Value->À->Prop}{s:À}{e:Ã}{c:Addr}{u:Value}{o:Ð}{n:String}{vs:Array Value}{Q:Unit->À->Prop}(j:s.heap.get? c=Z o)(f:o.cls=.type n)(hd:o.data=.fields vs)
  (g:["enumerate","zip","dict_itemiterator","dict_reverseitemiterator","odict_iterator","itertools.zip_longest","itertools.pairwise"].contains n=Ŵ) (a:Q Unit.unit s):wpAny M A (ø e (.ref c) u) Q E s:=by
 unfold ø
 cases e<;>first
  |show J5 a
  |(cases u<;>first
   |show J5 a
   |(refine JT (wpAny_load j ?_)
     rw [f, hd];change wpAny M A (if (["enumerate", "zip", "dict_itemiterator", "dict_reverseitemiterator", "odict_iterator", "itertools.zip_longest", "itertools.pairwise"].contains n&&vs[0]?==Z (rawInt _)) = ų then _ else _) Q E s;rw [JV (by intro h; rw [g, Bool.false_and]at h; cases h)]
     show J5 a))
noncomputable def qc(K:Â)(a:Addr):It:=
 ⟨λi H=>∃xs x,SqL K H a xs/\xs[i]?=Z x,λi H x c=>c=H/\∀xs,SqL K H a xs->xs[i]?=Z x,λi H=>∃xs,SqL K H a xs/\xs.length<=i⟩
noncomputable def pT(K:Â)(a:Addr):It:=
 ⟨λi H=>∃xs x,SqT K H a xs/\xs[i]?=Z x,λi H x c=>c=H/\∀xs,SqT K H a xs->xs[i]?=Z x,λi H=>∃xs,SqT K H a xs/\xs.length<=i⟩
noncomputable def oJ(lo:Int)(n:Nat):It:=⟨λi _=>i<n,λi H x a=>a=H/\x=.int (lo+i),λi _=>n<=i⟩
theorem GA{P:Ä}{w:Å}{K:Â}{tg:Ã}(a j:Addr):Turn P w K tg (qc K a) [j] j (λi h=>h.IsListIter j a i) where
 mem:=by simp
 obj:=λi h st b g=>by
  have e:b=j:=by simpa using g
  subst e;let⟨o,e,c,d⟩:=st;show⟨o,e,λv z=>by rw[d]at z;cases z⟩
 keep:=λi h h' st k=>st.at λo e=>k j (by simp) o e
 item:=by
  intro X G M F R i f s am H E I l st J;subst G M F;let⟨xs,x,r,N⟩:=J;let⟨U,O,p,hz⟩:=I.list r;let⟨u,hu,ru⟩:=O.get N;let⟨t,y,aw,A,B,C⟩:=l j (by simp);refine MY st p.isList (x:=u) (by simpa using hu) λh' Q sb=>?_;have T:Inv X f am H { s with heap:=h' }:=I.turned (t':=s.toks) (λb o g e=>(sb.2 b g).trans e) t y A B C;let⟨o,e,c,d⟩:=id Q;show⟨u,S,lu (s:={ s with heap:=h' }) e c d 'b' ⟨x,H,T,ru,⟨S,λys hy=>by rw[I.list_inj hy r];show N⟩,Q,λb g=>(l b g).1⟩⟩
 done:=by
  intro X G M F R i f s am H E I l st J;subst G M F;let⟨xs,r,N⟩:=J;let⟨U,O,p,hz⟩:=I.list r;let⟨t,y,aw,A,B,C⟩:=l j (by simp);have hl:=O.length;show M6 (I.ok.hd R) st p.isList (by simp;omega) λh' ar=>⟨S,I.turned (t':=s.toks) (λb o g e=>ar b o g e) t y A B C⟩
 self:=λ_ _ _ _ _ st h=>Ł st h
theorem IJ{P:Ä}{w:Å}{K:Â}{tg:Ã}(a j:Addr):Turn P w K tg (pT K a) [j] j (λi h=>h.IsTupleIter j a i) where
 mem:=by simp
 obj:=λi h st b g=>by
  have e:b=j:=by simpa using g
  subst e;let⟨o,e,c,d⟩:=st;show⟨o,e,λv z=>by rw[d]at z;cases z⟩
 keep:=λi h h' st k=>st.at λo e=>k j (by simp) o e
 item:=by
  intro X J N G am i f s T H E I l st M;subst J N G;let⟨xs,x,r,O⟩:=M;let⟨t,Q,p,hz⟩:=I.tuple r;let⟨u,hu,ru⟩:=Q.get O;let⟨y,A,aw,B,C,F⟩:=l j (by simp);refine ģ st (show s.heap.IsTuple a t.toArray from p) (x:=u) (by simpa using hu) λh' R sb=>?_;have U:Inv X f T H { s with heap:=h' }:=I.turned (t':=s.toks) (λb o g e=>(sb.2 b g).trans e) y A B C F;let⟨o,e,c,d⟩:=id R;show⟨u,S,lu (s:={ s with heap:=h' }) e c d 'b' ⟨x,H,U,ru,⟨S,λys hy=>by rw[I.tuple_inj hy r];show O⟩,R,λb g=>(l b g).1⟩⟩
 done:=by
  intro X J N G am i f s T H E I l st M;subst J N G;let⟨xs,r,O⟩:=M;let⟨t,Q,p,hz⟩:=I.tuple r;let⟨y,A,aw,B,C,F⟩:=l j (by simp);have hl:=Q.length;show Ĵ (I.ok.hd am) st (show s.heap.IsTuple a t.toArray from p) (by simp;omega) λh' ar=>⟨S,I.turned (t':=s.toks) (λb o g e=>ar b o g e) y A B C F⟩
 self:=λ_ _ _ _ _ st h=>Ķ st h
theorem E9{P:Ä}{w:Å}{K:Â}{U:Ã}(a:Addr)(lo:Int)(n:Nat):Turn P w K U (oJ lo n) [a] a (λi h=>ĉ h a (lo+(i:Nat)*1) ((n:Int)-(i:Nat)) 1) where
 mem:=by simp
 obj:=λi h st b f=>by
  have e:b=a:=by simpa using f
  subst e
  show⟨_,st,λv z=>by
   have T:Data.fields _=Data.cell v:=z
   cases T⟩
 keep:=λi h h' st k=>k a (by simp) _ st
 item:=by
  intro X y C x A i c s J H E I g st B;subst y C x;let⟨j,l,O,p,r,u⟩:=g a (by simp);have W:=Ŝ (prog:=X.prog) (w:=X.w) (I.ok.hd A) a lo 1 n;refine W.item i s _ _ B st λv h' G Q F R=>?_;let⟨t,rfl⟩:=Q;have M:Inv X c J H { s with heap:=h',toks:=G }:=I.turned (λb o f e=>R b o (by simpa using f) e) j l p r u;refine⟨_,S,lu (s:={ s with heap:=h',toks:=G }) (n:="range_iterator") F S S 'b' ⟨.int (lo+i),H,M,⟨t,?_⟩,⟨S,S⟩,F,λb f=>(g b f).1⟩⟩;rw[Int.mul_one]
 done:=by intro X y C x A i c s J H E I g st B;subst y C x;let⟨j,l,O,p,r,u⟩:=g a (by simp);show ĵ (I.ok.hd A) st (by have:n<=i:=B;omega) λh' N=>⟨S,I.turned (t':=s.toks) (λb o f e=>N b o f e) j l p r u⟩
 self:=λ_ _ _ _ _ st h=>ķ st h
section
variable{X:Cx}{c:Ã}
theorem Bq{f:Y (Addr×Ð)}{j:St}{H:Hp}{s:À}{R:It->Hp->Prop}{E:Value->À->Prop}{lo a:Int}{t u v:þ}{h:Nat}(I:Inv X f j H s)(r:-(2^62)<=lo)(w:lo<2^62)(x:-(2^62)<=a)(y:a<2^62)
  (q:R (oJ lo (a-lo).toNat) H):wpAny (model X.prog X.w) X.A (pyIter (.ref s.heap.objs.size)) (vK X f j c R) E { s with heap:=s.heap.push { cls:=.type "range",data:=.fields #[.int lo t,.int a u,.int 1 v] },toks:=h }:=by
 refine ŏ (ō ..) (small_one r w x y) ?_;have g:Inv X f j H { s with heap:=s.heap.push { cls:=.type "range",data:=.fields #[.int lo t,.int a u,.int 1 v] },toks:=h }:=I.kept λb o e=>JW _ e
 refine⟨(s.heap.push { cls:=.type "range",data:=.fields #[.int lo t,.int a u,.int 1 v] }).objs.size,[(s.heap.push { cls:=.type "range",data:=.fields #[.int lo t,.int a u,.int 1 v] }).objs.size],_,_,H,S,
  g.kept (t':=h) λb o e=>JW _ e,E9 _ lo (a-lo).toNat,?_,λb z=>?_,q⟩
 ·have l:lo+((0:Nat):Int)*1=lo:=by simp
  have p:(((a-lo).toNat:Nat):Int)-((0:Nat):Int)=Builtin.Range.rangeSize lo a 1:=by rw[rangeSize_one];split<;>omega
  change ĉ _ _ (lo+((0:Nat):Int)*1) ((((a-lo).toNat:Nat):Int)-((0:Nat):Int)) 1;rw[l,p];show Kb _ S
 ·have e:b=(s.heap.push { cls:=.type "range",data:=.fields #[.int lo t,.int a u,.int 1 v] }).objs.size:=by simpa using z
  subst e;show g.fpOk (J0 _) (g.hok.fresh (J0 _))
noncomputable def Ij(e:TA):TI:=λf H R=>e f H λvs a=>∃j:Int,vs=[.int j]/\-(2^62)<=j/\j<2^62/\R (oJ 0 j.toNat) a
theorem xg{a:Ã}{o:TA}{p g:Õ}(x:Gl X "range")(y:X.mg "range"=ű)(w:PA X [a] o)(z:starEach [a] X.env=[(Ŵ,eval a X.env)]:=by rfl):PI X c (.Call (.Name "range" p) [a] [] g) (Ij o):=by
 intro f s E H R I h;refine Call_ (jo I x y boot_range (LF (aI (w g f s E H _ I h) λus G v=>?_) z S));let⟨vs,F,u,B,l⟩:=v;let⟨j,e,l,A,q⟩:=l;subst e
 cases B with
 |cons r C=>
  cases C;let⟨t,rfl⟩:=r;show call_range_1 (Bq u () () l A (by simpa using q))
noncomputable def CZ(p:TI)(g:TG)(tb:TS):TS:=λD a H=>p a H λJ l=>∃W:Nat->Nat->St->Hp->Prop,(∃m,W 0 m a l)/\∀i m a H,W i m a H->
 (J.stop i H/\D.nx a H)\/(J.go i H/\∃N:St->Hp->Prop,(∀f e,N f e->∃j,j<m/\W (i+1) j f e)/\∀x e,J.yld i H x e->g x a e λh o=>tb { D with nx:=N,ct:=N,bk:=D.nx } h o)
noncomputable def kN(a:Y Addr)(h:Heap):Y (Addr×Ð):=a.filterMap λb=>(h.get? b).map λo=>(b,o)
theorem oZ{a:Y Addr}{h:Heap}{b:Addr}{o:Ð}(f:b∈a)(e:h.get? b=Z o):(b,o)∈kN a h:=Lk.mpr ⟨b,f,by rw[e];rfl⟩
theorem G7{a:Y Addr}{h:Heap}{p:Addr×Ð}(j:p∈kN a h):p.1∈a/\h.get? p.1=Z p.2:=by
 let⟨b,g,e⟩:=Lk.mp j
 cases q:h.get? b with
 |none=>rw[q]at e;cases e
 |some o=>
  rw[q]at e;have f:(b,o)=p:=Kh e;subst f;show⟨g,q⟩
theorem Inv.pinned{a:Y (Addr×Ð)}{j:St}{H:Hp}{s:À}{f:Y Addr}(I:Inv X a j H s)(u:∀b∈f,dN X a H b)(w:∀b∈f,∃o,s.heap.get? b=Z o/\∀v,o.data≠.cell v):Inv X (a++kN f s.heap) j H s:=
 I.pins_of λp x=>(Kj.mp x).elim (λz=>I.pin p (KH _ z)) λz=>by let⟨h,e⟩:=G7 z;let⟨l,r,t,_⟩:=u p.1 h;let⟨o,g,d⟩:=w p.1 h;rw[e]at g;cases g;show⟨e,l,r,t,d⟩
theorem Inv.unpinned{a pl:Y (Addr×Ð)}{e:St}{H:Hp}{s:À}(I:Inv X (a++pl) e H s):Inv X a e H s:=I.pins_of λp f=>I.pin p (KH _ (LA _ f))
theorem JD{w:Ã}{B:Y Ë}{wi:TI}{g:TG}{tb:TS}{ar:Õ}(G:PassesOwn (model X.prog X.w) X.A X.env X.xe)(hc:X.calm=ų)(hi:PI X c w wi)(hg:PG X c g)(t:PSs X B tb)
  (hs:∀x,Ý w X.env x=pure x:=by intro _;rfl):PS X (.For c w B [] ar) (CZ wi g tb):=by
 intro a s σ H D I h;refine wpAny_For (aI (hi a s σ H _ I h) λv s1 h1=>aI h1 λWc s2 h2=>?_) hs;let⟨it,E,tn,J,H2,e,I2,T,T3,f2,W,⟨m0,w0⟩,O⟩:=h2;subst e;have am:∀{A:Hp},(∀b∈E,A b=ű)->∀b∈E,dN X a A b:=λhn b t=>⟨hn b t,(f2 b t).2⟩;refine codeAny_forLoop_any (λn s'=>∃i y A,Inv X a y A s'/\tn i s'.heap/\(∀b∈E,A b=ű)/\W i n y A) ?_ m0 ⟨0,σ,H2,I2,T3,λb t=>(f2 b t).1,w0⟩;rintro n s3 ⟨i,z,P,I3,M,F,w3⟩;rcases O i n z P w3 with⟨stop,qn⟩|⟨go,N,hN,step⟩
 ·refine ML G (aI (T.done X S S S hc i a s3 z P X.xe I3 (am F) M stop) λr s4 OT=>?_);let⟨U,I4⟩:=OT;subst U;show Nc ⟨z,P,I4,qn⟩
 ·refine ML G (aI (T.item X S S S hc i a s3 z P X.xe I3 (am F) M go) λr s4 PB=>?_);let⟨u,U,h4⟩:=PB;subst U;refine ML G (aI h4 λ_ s5 Q0=>?_);let⟨x,H5,I5,r5,y5,R,Wd⟩:=Q0;have Q:=I5.pinned (am Wd) (T.obj _ _ R);refine ML G (aI (hg _ s5 z H5 x u _ Q r5 (step x H5 y5)) λ_ s6 U7=>?_);let⟨σ6,H6,I6,q6⟩:=U7;refine ML G (aI (t _ s6 σ6 H6 _ I6 q6) λf aw C=>?_)
  have again:∀{j:St}{l:Hp},Inv X (a++kN E s5.heap) j l aw->N j l->∃m,m<n/\∃i y A,Inv X a y A aw/\tn i aw.heap/\(∀b∈E,A b=ű)/\W i m y A:=λ{j l} p K=>by let⟨m',hm,w7⟩:=hN j l K;refine⟨m',hm,i+1,j,l,p.unpinned,T.keep _ _ _ R λb t o e=>(p.pin (b,o) (KH _ (KH _ (oZ t e)))).1,λb t=>?_,w7⟩;let⟨o,e,d⟩:=T.obj _ _ R b t;show (p.pin (b,o) (KH _ (KH _ (oZ t e)))).2.1
  cases f with
  |next=>let⟨j,l,p,K⟩:=C;show again p K
  |cont=>let⟨j,l,p,K⟩:=C;show again p K
  |brk=>let⟨j,l,p,C⟩:=C;show⟨j,l,p.unpinned,C⟩
  |ret v=>let⟨x7,j,l,p,r7,C⟩:=C;show⟨x7,j,l,p.unpinned,r7,C⟩
end
noncomputable abbrev R2:=V->V->Hp->VK->Prop
noncomputable def bR(X:Cx)(f:Value->Value->Sem Value)(r:R2):Prop:=
 ∀(a:Y (Addr×Ð))(s:À)(c:St)(H:Hp)(x y:V)(v u:Value)(Q:VK),Inv X a c H s->RelV x v->RelV y u->r x y H Q->
  wpAny (model X.prog X.w) X.A (f v u) (EP X a c Q) X.xe s
noncomputable def qz(X:Cx)(f:Value->Sem Value)(r:V->Hp->VK->Prop):Prop:=
 ∀(a:Y (Addr×Ð))(s:À)(c:St)(H:Hp)(x:V)(v:Value)(Q:VK),Inv X a c H s->RelV x v->r x H Q->
  wpAny (model X.prog X.w) X.A (f v) (EP X a c Q) X.xe s
noncomputable def fv(X:Cx)(f:Value)(r:Y V->Hp->VK->Prop):Prop:=
 ∀(a:Y (Addr×Ð))(s:À)(c:St)(H:Hp)(xs:Y V)(us:Y Value)(Q:VK),Inv X a c H s->Vals xs us->r xs H Q->
  wpAny (model X.prog X.w) X.A (call f us) (EP X a c Q) X.xe s
noncomputable def IY(X:Cx)(r:V->Hp->(Bool->Hp->Prop)->Prop):Prop:=
 ∀(a:Y (Addr×Ð))(s:À)(c:St)(H:Hp)(x:V)(v:Value)(Q:Bool->Hp->Prop),Inv X a c H s->RelV x v->r x H Q->
  wpAny (model X.prog X.w) X.A (truthy v) (TP X a c Q) X.xe s
noncomputable def g6(r:R2)(f tb:TE):TE:=λa H Q=>f a H λx c=>tb a c λy e=>r x y e Q
noncomputable def Iq(r:V->Hp->VK->Prop)(c:TE):TE:=λe H Q=>c e H λx a=>r x a Q
noncomputable def rI(C:Int->Int->Prop)(g:Int->Int->V):R2:=λx y H Q=>∃i j,x=.int i/\y=.int j/\C i j/\Q (g i j) H
noncomputable def g9(g:Int->Int->V):R2:=λx y H Q=>∃i j,x=.int i/\y=.int j/\Q (g i j) H
noncomputable def rU(g:Int->V):V->Hp->VK->Prop:=λx H Q=>∃i,x=.int i/\Q (g i) H
section
variable{X:Cx}{a b:Ã}{c tb:TE}{e:Õ}
theorem pS(C:PE X a c)(E:PE X b tb){g:Y (Addr×Ð)}{s:À}{l:St}{H:Hp}{R:V->V->Hp->Prop}(I:Inv X g l H s)
  (h:c l H λx t=>tb l t λy j=>R x y j) {Q:Value->À->Prop} {f:Value->Value->Sem Value}
  (F:∀v u r x y j,Inv X g l j r->RelV x v->RelV y u->R x y j->wpAny (model X.prog X.w) X.A (f v u) Q X.xe r) :
  wpAny (model X.prog X.w) X.A (eval a X.env) (λv o=>wpAny (model X.prog X.w) X.A (eval b X.env) (λu p=>wpAny (model X.prog X.w) X.A (f v u) Q X.xe p) X.xe o) X.xe s:=by
 refine aI (C g s l H _ I h) λv N A=>?_;let⟨x,t,w,K,G⟩:=A;refine aI (E g N l t _ w G) λu r B=>?_;let⟨y,j,z,M,J⟩:=B;show F v u r x y j z K M J
theorem rJ{g:ñ}{r:R2}(t:bR X (Í g) r)(o:PE X a c)(p:PE X b tb):PE X (.BinOp a g b e) (g6 r c tb):=by intro f s B H Q I h;show wpAny_BinOp (pS o p I h λv u A x y j l w z q=>t f A B j x y v u Q l w z q)
theorem A8{g:UnaryOp}{r:V->Hp->VK->Prop}(u:qz X (unaryOp g) r)(t:PE X a c):PE X (.UnaryOp g a e) (Iq r c):=by intro f s j H Q I h;show UnaryOp_ (aI (t f s j H _ I h) λv z p=>by let⟨x,l,o,y,w⟩:=p;show u f z j l x v Q o y w)
theorem ox{f:Value->Value->Sem Value}{C:Int->Int->Prop}{g:Int->Int->Int}
  (rule:∀(i j:Int)(t u:þ)(s:À)(Q:Value->À->Prop)(E:Value->À->Prop),C i j->Q (.int (g i j) s.toks) { s with toks:=s.toks+1 }->wpAny (model X.prog X.w) X.A (f (.int i t) (.int j u)) Q E s) :
  bR X f (rI C λi j=>.int (g i j)):=by
 intro l s w H x y v u Q I p r h;let⟨i,j,rfl,rfl,o,q⟩:=h;let⟨t,rfl⟩:=p;let⟨t',rfl⟩:=r;show rule i j t t' s _ _ o ⟨.int (g i j),H,I.tok _,⟨_,S⟩,q⟩
theorem ua{f:Value->Value->Sem Value}{g:Int->Int->Int}
  (rule:∀(i j:Int)(t u:þ)(s:À)(Q:Value->À->Prop)(E:Value->À->Prop),Q (.int (g i j) s.toks) { s with toks:=s.toks+1 }->wpAny (model X.prog X.w) X.A (f (.int i t) (.int j u)) Q E s) :
  bR X f (g9 λi j=>.int (g i j)):=by
 intro l s r H x y v u Q I o p h;let⟨i,j,rfl,rfl,q⟩:=h;let⟨t,rfl⟩:=o;let⟨t',rfl⟩:=p;show rule i j t t' s _ _ ⟨.int (g i j),H,I.tok _,⟨_,S⟩,q⟩
theorem pX{f:Value->Value->Sem Value}{g:Int->Int->Bool}
  (rule:∀(i j:Int)(t u:þ)(s:À)(Q:Value->À->Prop)(E:Value->À->Prop),Q (.bool (g i j)) s->wpAny (model X.prog X.w) X.A (f (.int i t) (.int j u)) Q E s) :
  bR X f (g9 λi j=>.bl (g i j)):=by
 intro l s r H x y v u Q I o p h;let⟨i,j,rfl,rfl,q⟩:=h;let⟨t,rfl⟩:=o;let⟨t',rfl⟩:=p;show rule i j t t' s _ _ ⟨.bl (g i j),H,I,S,q⟩
noncomputable def ub(i j:Int):Prop:=0<=j/\j<=1000000/\i.natAbs<2^64
theorem An:bR X (Í .Add) (g9 λi j=>.int (i+j)):=ua λ_ _ _ _ _ _ _ q=>add_int q
theorem G6:bR X (Í .Sub) (g9 λi j=>.int (i-j)):=ua λ_ _ _ _ _ _ _ q=>sub_int q
theorem Ig:bR X (Í .Mod) (rI (λ_ j=>0<j) λi j=>.int (i % j)):=ox λi j _ _ _ _ _ f q=>by have g:(0:Int)<j:=f;show mod_int' () (by rw[Int.fmod_eq_emod_of_nonneg i ()];show q)
theorem AE:bR X (Í .Pow) (rI ub λi j=>.int (i^j.toNat)):=ox λ_ _ _ _ _ _ _ f q=>pow_int_small f.1 f.2.1 f.2.2 q
theorem DO{f:Value->Sem Value}{g:Int->Int}
  (rule:∀(i:Int)(t:þ)(s:À)(Q:Value->À->Prop)(E:Value->À->Prop),Q (.int (g i) s.toks) { s with toks:=s.toks+1 }->wpAny (model X.prog X.w) X.A (f (.int i t)) Q E s) :
  qz X f (rU λi=>.int (g i)):=by
 intro j s o H x v Q I l h;let⟨i,rfl,q⟩:=h;let⟨t,rfl⟩:=l;show rule i t s _ _ ⟨.int (g i),H,I.tok _,⟨_,S⟩,q⟩
theorem GX:qz X (unaryOp .USub) (rU λi=>.int (-i)):=DO λ_ _ _ _ _ q=>neg_int q
end
section
variable{X:Cx}{a b c:Ã}{f tb l:TE}{g:Õ}
theorem ou{h:Y (Addr×Ð)}{o:St}{H:Hp}{s:À}{Q:VK}{k j:Bool}(I:Inv X h o H s)(q:Q (.bl k) H)(e:k=j):EP X h o Q (.bool j) s:=by subst e;show⟨.bl k,H,I,S,q⟩
theorem zE:bR X (Æ .Lt) (g9 λi j=>.bl (decide (i<j))):=pX λ_ _ _ _ _ _ _ q=>lt_int q
theorem Df:bR X (Æ .Gt) (g9 λi j=>.bl (decide (j<i))):=pX λ_ _ _ _ _ _ _ q=>gt_int q
theorem Hh:bR X (Æ .GtE) (g9 λi j=>.bl (decide (j<=i))):=pX λ_ _ _ _ _ _ _ q=>ge_int q
theorem FO:bR X (Æ .Is) (λx y H Q=>y=.non/\Q (.bl (decide (x=.non))) H):=by
 intro e s p H x y v u Q I j o h;let⟨rfl,q⟩:=h;cases o;refine is_none_gen (ou I q ?_)
 cases x<;>first
  |(cases j;rfl)
  |(let⟨t,rfl⟩:=j;rfl)
theorem BF:bR X (Æ .IsNot) (λx y H Q=>y=.non/\Q (.bl (!decide (x=.non))) H):=by
 intro e s p H x y v u Q I j o h;let⟨rfl,q⟩:=h;cases o;refine isnot_none_gen (ou I q ?_)
 cases x<;>first
  |(cases j;rfl)
  |(let⟨t,rfl⟩:=j;rfl)
theorem aC(b:Ã){e:Ċ}(h:e≠.In:=by decide)(p:e≠.NotIn:=by decide):behindInMarks e b=Ŵ:=by
 have j:(e==Ċ.In)=Ŵ:=by cases e<;>first|rfl|show absurd S h
 have o:(e==Ċ.NotIn)=Ŵ:=by cases e<;>first|rfl|show absurd S p
 cases b<;>simp[behindInMarks,j,o]
theorem JC{j:Ċ}{r:R2}(A:bR X (Æ j) r)(t:PE X a f)(w:PE X b tb)(z:behindInMarks j b=Ŵ):PE X (.Compare a [j] [b] g) (g6 r f tb):=by intro e s F H Q I h;show wpAny_Compare1 (pS t w I h λv u E x y o p B C q=>A e E F o x y v u Q p B C q) z
noncomputable def qD(t:TE):TT:=λh H Q=>t h H λx e=>∃k,x=.bl k/\Q k e
theorem uP{o:Ċ}{r:R2}(K:bR X (Æ o) r)(F:PE X a f)(G:PE X b tb)(J:behindInMarks o b=Ŵ):PT X (.Compare a [o] [b] g) (qD (g6 r f tb)):=by
 intro j s p H Q I h
 refine M5 (aI (F j s p H _ I h) λv T ⟨x,t,B,P,M⟩=>aI (G j T p t _ B M) λu U ⟨y,w,C,R,N⟩=>
  aI (K j U p w x y v u _ C P R N) λc ar ⟨z,A,E,am,k,e,O⟩=>?_) J
 subst e;cases am;show LC ⟨A,E,O⟩
noncomputable def ze(r t:R2)(f tb l:TE):TE:=λe H Q=>f e H λx j=>tb e j λy o=>r x y o λz h=>∃k,z=.bl k /\
 (if k=ų then l e h λu p=>t y u p Q else Q (.bl Ŵ) h)
theorem JF{t p:Ċ}{r C:R2}(U:bR X (Æ t) r)(O:bR X (Æ p) C)(P:PE X a f)(R:PE X b tb)(am:PE X c l)
  (T:lastMarks [t,p] [b,c]=Ŵ:=by with_unfolding_all rfl):PE X (.Compare a [t,p] [b,c] g) (ze r C f tb l):=by
 intro j s o H Q I h
 refine Compare_chain (aI (P j s o H _ I h) λv s1 ⟨x,F,K,r1,ar⟩=>chain_link (aI (R j s1 o F _ K ar) λu s2 ⟨y,G,M,E,aw⟩=>
  aI (U j s2 o G x y v u _ M r1 E aw) λd s3 ⟨z,w,A,r3,k,e,B⟩=>?_)) T
 subst e;cases r3;refine LC ?_
 cases k with
 |false=>show ite_ff ⟨.bl Ŵ,w,A,S,B⟩
 |true=>show ite_tt (chain_last (aI (am j s3 o w _ A B) λw' s4 ⟨z',J,N,r4,q4⟩=>O j s4 o J y z' u w' Q N E r4 q4))
noncomputable def rR(K:Â)(x:V)(H:Hp)(k:Bool):Prop:=
 match x with
 |.non=>k=Ŵ
 |.bl b=>k=b
 |.int i=>k=(i != 0)
 |.str y=>y.length<=sizeLine/\k=((y.length:Int) != 0)
 |.byt y=>y.size<=sizeLine/\k=((y.size:Int) != 0)
 |.ref p=>(∃xs,SqL K H p xs/\k=!xs.isEmpty)\/(∃xs,SqT K H p xs/\k=!xs.isEmpty)\/∃e,H p=Z (.dK e)/\k=!e.isEmpty
 |_=>False
theorem Bz{h:Type}{e:Y (h×V)}{vs:Y (h×Value)}(r:KV e vs):(!vs.isEmpty)=!e.isEmpty:=by cases r<;>rfl
theorem w8{xs:Y V}{e:Y Value}(r:Vals xs e):(!e.toArray.isEmpty)=!xs.isEmpty:=by cases r<;>simp
theorem iB:(sizeLine:Nat)<2^63:=by rw[KP];decide
theorem BQ:IY X (λx H Q=>∃k,rR X.K x H k/\Q k H):=by
 intro B s K H x v Q I w h;let⟨k,e,q⟩:=h;have G:=iB;have J:sizeLine=16777216:=KP
 cases x with
 |non=>
  cases w;have j:k=Ŵ:=e;subst j;show truthy_none ⟨H,I,q⟩
 |bl b=>
  cases w;have j:k=b:=e;subst j;show LC ⟨H,I,q⟩
 |int i=>
  let⟨t,rfl⟩:=w;have j:k=(i != 0):=e;subst j;show PySem.P.truthy_int ⟨H,I,q⟩
 |str y=>
  let⟨t,rfl⟩:=w;obtain⟨F,j⟩:y.length<=sizeLine/\k=((y.length:Int) != 0):=e;subst j;show PySem.P.truthy_str () ⟨H,I.tok _,q⟩
 |byt y=>
  let⟨t,rfl⟩:=w;obtain⟨F,j⟩:y.size<=sizeLine/\k=((y.size:Int) != 0):=e;subst j;show PySem.W.truthy_bytes () ⟨H,I.tok _,q⟩
 |ref p=>
  cases w;have j:(∃xs,SqL X.K H p xs/\k=!xs.isEmpty)\/(∃xs,SqT X.K H p xs/\k=!xs.isEmpty)\/∃u,H p=Z (.dK u)/\k=!u.isEmpty:=e;rcases j with⟨xs,z,j⟩|⟨xs,z,j⟩|⟨u,z,j⟩
  ·subst j;let⟨C,r,pl,A⟩:=I.list z;have o:=r.length;show wpAny_truthy_list pl.isList (by simp only[J2];omega) ⟨H,I.tok _,by rw[w8 r];show q⟩
  ·subst j;let⟨C,r,pl,A⟩:=I.tuple z;have o:=r.length;show truthy_tuple pl (by simp only[J2];omega) ⟨H,I.tok _,by rw[w8 r];show q⟩
  ·subst j;obtain⟨A,E,vs,r,m⟩:u.length<=sizeLine/\(p==Þ)=Ŵ/\∃vs,KV u vs/\s.heap.DictOf (eP X.prog X.w) p vs:=I.hok p _ z;have o:u.length=vs.length:=M3 r;show wpAny_truthy_dict E m () ⟨H,I.tok _,by rw[Bz r];show q⟩
 |_=>show (show False from e).elim
theorem DL(w:PE X a f)(y:∀e,isTrue a X.env e=(do let v ←e;standAt a.pos;holding [v] (truthy v))) :
  PT X a (λo H Q=>f o H λx p=>∃k,rR X.K x p k/\Q k p):=by
 intro j s o H Q I h;show isTrue_plain (aI (w j s o H _ I h) λv B u=>by let⟨x,r,t,A,z⟩:=u;show BQ j B o r x v Q t A z) (y _)
theorem G8:bR X (Í .Add) (λx y H Q=>∃i j,x=.str i/\y=.str j/\i.length+j.length<=sizeLine/\Q (.str (i++j)) H):=by intro e s z H x y v u Q I p r h;let⟨i,j,rfl,rfl,o,q⟩:=h;let⟨t,rfl⟩:=p;let⟨t',rfl⟩:=r;show add_str (λt' w=>⟨.str (i++j),H,I.tok _,⟨_,S⟩,q⟩) o
theorem gZ{x:V}{us:Y Value}(r:Vals [x] us):∃u,us=[u]/\RelV x u:=by
 cases r with
 |cons e h=>cases h;show⟨_,S,e⟩
theorem tN:fv X (.type "int") (λxs H Q=>(∃i,xs=[.int i]/\Q (.int i) H)\/∃k,xs=[.bl k]/\Q (.int (if k then 1 else 0)) H):=by
 intro e s o H xs us Q I r h;rcases h with⟨i,rfl,q⟩|⟨k,rfl,q⟩
 ·let⟨u,rfl,t,rfl⟩:=gZ r;show call_int_int ⟨.int i,H,I,⟨_,S⟩,q⟩
 ·let⟨u,rfl,j⟩:=gZ r;cases j;show call_int_bool ⟨.int (if k then 1 else 0),H,I.tok _,⟨_,S⟩,q⟩
end
structure ObjM(h:Heap)(x dx C:Addr)(mA:Str->Option Value):Prop where
 obj:h.get? x=Z (ó C dx)
 ns:h.Ns1 dx mA
 ne:dx≠x
theorem Iw{h:Heap}{c:Addr}{g:Str->Ų Value}(n:h.Ns1 c g):∃j,h.get? c=Z j/\∀name,œ name j=Z (g name):=by
 let⟨o,f,x,v,hd,r,_,u⟩:=n;refine⟨o,v,λname=>?_⟩;have e:=u name;unfold nsFind findBy at e;rw[←NB]at e;unfold œ;rw[hd];dsimp only;split
 ·rename_i y q;rw[q]at e;show KG Z e
 ·rename_i q;rw[q]at e
  have a:f.toList.any (·.refKey)=Ŵ:=by rw[List.any_eq_false];intro y w;let⟨z,t,l⟩:=r y (Ě.mp w);simp[DictEntry.refKey,l]
  have p:¬ f.toList.any (·.refKey)=ų:=by rw[a];show KI
  rw[JV p];show KG Z e
theorem ObjM.look{h:Heap}{x c C:Addr}{e:Str->Ų Value}(I:ObjM h x c C e):∃a,InstAt h x (ó C c) C (Z a)/\∀name,œ name a=Z (e name):=
 let ⟨a,ho,hl⟩:=Iw I.ns
 ⟨a,⟨I.obj,S,S,ho⟩,hl⟩
section
variable{prog:Ä}{w:Å}{A:È}{E:Value->À->Prop}{s:À}{K:Â}{x e C f:Addr}{c:Str->Ų Value}{name:Str}{v:Value}
theorem B5{a:Bool}{Q:Value->À->Prop}(X:K.In s.heap)(I:ObjM s.heap x e C c)(l:ę K C name=ų)(o:Ĭ K C=ų)
  (j:î K (.ref C) name=Z ű) (r:c name=Z v) (g:handedIn v=ų) (h:Q v { s with toks:=s.toks+1 }) :
  wpAny (model prog w) A (Ĺ (.ref x) name a) Q E s:=by
 let⟨t,J,p⟩:=I.look;show PySem.W.get_value X J (Ĉ l).1 (PySem.W.findObj_own o j S (by rw[p,r])) g h
theorem HW{pl:Sem Bool}{Q:Value×Y Value->À->Prop}(X:K.In s.heap)(I:ObjM s.heap x e C c)(a:ę K C name=ų)
  (g:î K (.ref C) name=Z (Z (.ref f))) (l:isFn K (.ref f)=ų) (o:c name=ű) (h:Q (.ref f,[.ref x]) s) :
  wpAny (model prog w) A (getMethod (.ref x) name pl) Q E s:=by
 let⟨p,J,j⟩:=I.look;show PySem.W.method_fn X J (Ĉ a).1 (Ĉ a).2 g (L3.mp l) (by change (œ name p).map (·.isSome)=Z Ŵ;rw[j,o];rfl) h
theorem zP{ns:Y Str}{Q:Unit->À->Prop}(X:K.In s.heap)(I:ObjM s.heap x e C c)
  (H:î K (.ref C) "__setattr__"=Z (Z (.builtin "object.__setattr__"))) (G:ŧ K C=ų) (M:ŝ K C name=Z ű) (F:Ĭ K C=ų)
  (N:PySem.Within c ns) (hsz:ns.length<=sizeLine)
  (h:∀h',ObjM h' x e C (λy=>if y=name then Z v else c y)->Heap.SameBut e s.heap h'->Q Unit.unit { s with heap:=h',toks:=s.toks+2 }) :
  wpAny (model prog w) A (ś (.ref x) name v) Q E s:=by
 let⟨T,J,R⟩:=I.look;refine PySem.W.set_plain X J H (PySem.W.osa_open (s:={ s with toks:=s.toks+1 }) (r:=ű) X J G M λb=>?_);let⟨P,B,l⟩:=PySem.W.any_some F;have O:s.heap.get? x=Z ⟨.ref C,Z e,.plain,#[]⟩:=I.obj;refine JT (J5 (JT (JT (wpAny_loadPart O (JT (PySem.W.Looks.here (s:={ s with toks:=s.toks+1 }) (PySem.W.looks_clsIn X B) ?_))))));rw[l];refine J5 (a:=Z e) (JT (J5 (JT ?_)));refine wpAny_nsSet1 (s:={ s with toks:=s.toks+1 }) I.ns λh' j g=>?_;let⟨U,z,u,o,p,t⟩:=j.count (PySem.Within.cons name v N);refine JT (Ţ o (by rw[p];show ť (J6 t (by rw[J1];omega))) ?_);show J5 (h _ ⟨(g.2 _ (KW I.ne)).trans I.obj,j,I.ne⟩ g)
theorem BJ{R:Ŕ->À->Prop}{vs:Y Value}{a:Y (Str×Value)}(X:K.In s.heap)(o:makesIn K C=ų)
  (l:î K (.ref C) "__init__"=Z (Z (.ref f))) (j:typeIn K (.ref f)=Z (.type "function"))
  (h:ã (model prog w) (A.under (.builtin "type.__call__" ⟨.ref C::vs,a⟩)) (.call (.ref f) ⟨.ref (s.heap.objs.size+1)::vs,a⟩) (PySem.W.InitBack (s.heap.objs.size+1) R)
   { s with heap:=(s.heap.push â).push (ó C s.heap.objs.size) }) :
  ã (model prog w) A (.call (.ref C) ⟨vs,a⟩) R s:=by
 let⟨p,g,d,t,os⟩:=s;show PySem.W.make_core (PySem.W.makes_of X o) (PySem.W.looks_findIn X l) (λself=>PySem.W.bind_fn X self j) (.inl S) h
end
noncomputable def cN(f:Str)(v:V):Y (Str×V)->Y (Str×V)
 | []=>[(f,v)]
 |(g,x)::r=>if g=f then (g,v)::r else (g,x)::cN f v r
theorem wO(f g:Str)(v:V):∀fs:Y (Str×V),(cN f v fs).lookup g=if g=f then Z v else fs.lookup g
 | []=>by
  change List.lookup g [(f,v)]=_;by_cases h:g=f
  ·have a:(g==f)=ų:=L3.mpr h;simp only[List.lookup,a,JX h]
  ·have a:(g==f)=Ŵ:=K7.mpr h;simp only[List.lookup,a,JV h]
 |(k,x)::r=>by
  have j:=wO f g v r;rw[show cN f v ((k,x)::r)=(if k=f then (k,v)::r else (k,x)::cN f v r)from rfl];by_cases c:k=f
  ·rw[JX c];by_cases h:g=k
   ·have a:(g==k)=ų:=L3.mpr h;simp only[List.lookup,a,JX (h.trans c)]
   ·have a:(g==k)=Ŵ:=K7.mpr h;simp only[List.lookup,a,JV (λe:g=f=>h (e.trans c.symm))]
  ·rw[JV c];by_cases h:g=k
   ·have a:(g==k)=ų:=L3.mpr h;simp only[List.lookup,a,JV (λe:g=f=>c (h.symm.trans e))]
   ·have a:(g==k)=Ŵ:=K7.mpr h;simp only[List.lookup,a];show j
theorem rg(f:Str)(v:V):∀fs:Y (Str×V),f∈(cN f v fs).map (·.1)/\∀g,g∈fs.map (·.1)->g∈(cN f v fs).map (·.1)
 | []=>⟨by simp[cN],λg h=>by simp at h⟩
 |(k,x)::r=>by
  let⟨c,j⟩:=rg f v r;rw[show cN f v ((k,x)::r)=(if k=f then (k,v)::r else (k,x)::cN f v r)from rfl];by_cases a:k=f
  ·rw[JX a];subst a;show⟨by simp,λg h=>by simpa using h⟩
  ·rw[JV a];refine⟨?_,λg h=>?_⟩
   ·rw[Kk];show JZ _ c
   ·rw[Kk]at h ⊢;rcases J9.mp h with e|e
    ·show J9.mpr (.inl e)
    ·show JZ _ (j g e)
theorem vc(f:Str)(v:V):∀fs:Y (Str×V),(cN f v fs).length<=fs.length+1
 | []=>by simp[cN]
 |(k,x)::r=>by
  have c:=vc f v r;rw[show cN f v ((k,x)::r)=(if k=f then (k,v)::r else (k,x)::cN f v r)from rfl];by_cases a:k=f
  ·rw[JX a,J1,J1];omega
  ·rw[JV a,J1,J1];omega
theorem RelO.some_of{v:V}{o:Ų Value}(r:RelO (Z v) o):∃u,o=Z u/\RelV v u:=by
 cases o with
 |none=>show (show False from r).elim
 |some u=>show⟨u,S,r⟩
theorem RelO.none_of{o:Ų Value}(r:RelO ű o):o=ű:=by
 cases o with
 |none=>rfl
 |some u=>show (show False from r).elim
theorem DH{v:V}{u:Value}(r:RelV v u):handedIn u=ų:=by
 cases v with
 |non=>cases (show u=Value.none from r);rfl
 |bl b=>cases (show u=Value.bool b from r);rfl
 |int i=>let⟨t,e⟩:=(show ∃t,u=Value.int i t from r);cases e;rfl
 |str x=>let⟨t,e⟩:=(show ∃t,u=Value.str x t from r);cases e;rfl
 |byt b=>let⟨t,e⟩:=(show ∃t,u=Value.bytes b t from r);cases e;rfl
 |flt b=>let⟨t,e⟩:=(show ∃t,u=Value.float b t from r);cases e;rfl
 |ref a=>cases (show u=Value.ref a from r);rfl
 |ty n=>cases (show u=Value.type n from r);rfl
section
variable{P:Ä}{w:Å}{H:Hp}{h:Heap}{a C c:Addr}{fs:Y (Str×V)}
theorem rH(hok:HOk P w H h)(e:H a=Z (.ins C c fs)):∃g,ObjM h a c C g/\(∀f,RelO (fs.lookup f) (g f))/\PySem.Within g (fs.map (·.1))/\fs.length<=1000/\H c=Z (.own a):=by let⟨d,z,ne,j,g,n,r,q⟩:=(show ObjOk P w H h a (.ins C c fs)from hok a _ e);show⟨g,⟨j,n,ne⟩,r,q,z,d⟩
end
structure Cls(K:Â)(C:Addr):Prop where
 pg:ę K C Str.empty=ų
 hd:Ĭ K C=ų
 po:ŧ K C=ų
 sa:î K (.ref C) "__setattr__"=Z (Z (.builtin "object.__setattr__"))
theorem Cls.get{K:Â}{C:Addr}(c:Cls K C)(f:Str):ę K C f=ų:=c.pg
noncomputable def NoAttr(K:Â)(C:Addr)(f:Str):Prop:=î K (.ref C) f=Z ű
theorem NoAttr.taker{K:Â}{C:Addr}{f:Str}(n:NoAttr K C f):ŝ K C f=Z ű:=by unfold ŝ;rw[show î K (.ref C) f=Z ű from n];rfl
structure Meth(K:Â)(C:Addr)(m:Str)(f:Addr):Prop where
 at_:î K (.ref C) m=Z (Z (.ref f))
 fn:isFn K (.ref f)=ų
 kp:Ü K (.ref f)=ų
section
variable{X:Cx}{j:Y (Addr×Ð)}{p:St}{H:Hp}{s:À}{a C t:Addr}{fs:Y (Str×V)}{f:Str}{v:V}{A:È}{E:Value->À->Prop}
theorem AQ{b:Bool}{Q:Value->À->Prop}(I:Inv X j p H s)(e:H a=Z (.ins C t fs))(c:Cls X.K C)(n:NoAttr X.K C f)(l:fs.lookup f=Z v)
  (h:∀u s',Inv X j p H s'->RelV v u->Q u s'):wpAny (model X.prog X.w) A (Ĺ (.ref a) f b) Q E s:=by
 let⟨x,O,r,_,_,_⟩:=rH I.hok e;let⟨u,w,g⟩:=RelO.some_of (v:=v) (o:=x f) (by rw[←l];show r f);show B5 I.kIn O (c.get f) c.hd n w (DH g) (h u _ (I.tok _) g)
theorem EE{m:Str}{g:Addr}{pl:Sem Bool}{Q:Value×Y Value->À->Prop}(I:Inv X j p H s)(e:H a=Z (.ins C t fs))(c:Cls X.K C)(k:Meth X.K C m g)(l:fs.lookup m=ű)
  (h:Q (.ref g,[.ref a]) s):wpAny (model X.prog X.w) A (getMethod (.ref a) m pl) Q E s:=by
 let⟨u,O,r,_,_,_⟩:=rH I.hok e;have o:u m=ű:=RelO.none_of (by rw[←l];show r m);show HW I.kIn O (c.get m) k.at_ k.fn o h
theorem Dh{y:V}{u:Value}{Q:Unit->À->Prop}(I:Inv X j p H s)(e:H a=Z (.ins C t fs))(c:Cls X.K C)(n:NoAttr X.K C f)(P:fs.length<1000)(M:RelV y u)
  (h:∀s',Inv X j p (au H a (.ins C t (cN f y fs))) s'->Q Unit.unit s'):wpAny (model X.prog X.w) A (ś (.ref a) f u) Q E s:=by
 let⟨B,O,r,F,_,w⟩:=rH I.hok e
 have K:(fs.map (·.1)).length<=sizeLine:=by rw[mn,KP];omega
 refine zP I.kIn O c.sa c.po n.taker c.hd F K λh' l N=>h _ ?_
 have hd:∃o,h'.get? t=Z o:=let ⟨o,_,_,e',_⟩:=l.ns;⟨o,e'⟩
 refine I.write (x:=a) (e:=t) (by rw[e];show à) (.inr w) (λb q G z=>(N.2 b G).trans z) hd ?_;refine⟨by rw[aH O.ne];show w,?_,O.ne,l.obj,_,l.ns,λg=>?_,λg J=>?_⟩
 ·have:=vc f y fs;omega
 ·change RelO ((cN f y fs).lookup g) (if g=f then Z u else B g);rw[wO];by_cases q:g=f
  ·rw[JX q,JX q];show M
  ·rw[JV q,JV q];show r g
 ·by_cases q:g=f
  ·rw[q];show (rg f y fs).1
  ·refine (rg f y fs).2 g (F g λz=>J ?_);change (if g=f then Z u else B g)=ű;rw[JV q];show z
theorem Inv.made(I:Inv X j p H s):Inv X j p (au (au H s.heap.objs.size (.own (s.heap.objs.size+1))) (s.heap.objs.size+1) (.ins C s.heap.objs.size []))
  { s with heap:=(s.heap.push â).push (ó C s.heap.objs.size) }:=by
 have c:(s.heap.push â).get? s.heap.objs.size=Z â:=Kb s.heap S
 have h:((s.heap.push â).push (ó C s.heap.objs.size)).get? (s.heap.objs.size+1)=Z (ó C s.heap.objs.size):=by
  have:=Kb (s.heap.push â) (o:=ó C s.heap.objs.size) S
  rwa [K0]at this
 have l:(s.heap.push â).Ns s.heap.objs.size (λ_=>ű):=⟨â,#[],_,c,S,(λe r=>absurd r (by simp)),λ_=>rfl⟩;have g:=I.laid (a:=s.heap.objs.size) (o:=.own (s.heap.objs.size+1)) (h':=s.heap.push â) (t':=s.toks) (λb u q=>JW _ q) (J0 _) ⟨_,c⟩;refine g.laid (a:=s.heap.objs.size+1) (o:=.ins C s.heap.objs.size []) (t':=s.toks) (λb u q=>JW _ q) (Mh (K0 _ _)) ?_;have ne:s.heap.objs.size≠s.heap.objs.size+1:=KA (Mi _);refine⟨by rw[aH ne,aZ],K1 _,ne,h,λ_=>ű,(Heap.Ns1.of_empty l).at λo q=>JW _ q,λ_=>à,λy w=>absurd rfl w⟩
theorem yc{prog:Ä}{w:Å}{env:ê}{e:Ã}{f:Str}{g:Õ}{s:À}{Q:Value->À->Prop}(l:Ç e f env (eval e env)=eval e env)
  (h:wpAny (model prog w) A (eval e env) (λo c=>wpAny (model prog w) A (Ĺ o f ų) Q E c) E s):wpAny (model prog w) A (eval (.Attribute e f g) env) Q E s:=
 Attribute_any_ h (by rw[arm_eval_Attribute,l])
end
noncomputable def tS(K:Â)(g:TE)(f:Str):TE:=λh H Q=>g h H λx c=>∃a C e fs v,x=.ref a/\c a=Z (.ins C e fs)/\Cls K C/\NoAttr K C f/\fs.lookup f=Z v/\Q v c
noncomputable def BR(K:Â)(j l:TE)(f:Str):TS:=λD c H=>l c H λy h=>j c h λx e=>∃a C g fs,x=.ref a/\e a=Z (.ins C g fs)/\Cls K C/\NoAttr K C f/\fs.length<1000 /\
 D.nx c (au e a (.ins C g (cN f y fs)))
section
variable{X:Cx}{o e g:Ã}{f:Str}{p j:Õ}{r t:TE}
theorem DB(G:PE X e r)(F:Ç e f X.env (eval e X.env)=eval e X.env):PE X (.Attribute e f p) (tS X.K r f):=by intro w s M H Q I h;refine yc F (aI (G w s M H _ I h) λu O B=>?_);let⟨x,y,z,K,a,C,N,fs,v,ex,E,c,n,l,q⟩:=B;subst ex;obtain rfl:u=Value.ref a:=K;show AQ z E c n l λu' P A J=>⟨v,y,A,J,q⟩
theorem uS(G:PE X o r)(K:PE X g t)(J:Ñ g (Z (.Attribute o f j)) p.line X.env=pure Ŵ):PS X (.Assign [.Attribute o f j] g p) (BR X.K r t f):=by intro v s w H D I h;refine M9 (aI (K v s w H _ I h) λu Q ⟨y,z,A,P,q⟩=>aI (G v Q w z _ A q) λM T ⟨x,R,B,O,a,C,am,fs,ex,F,c,n,l,N⟩=>?_) J;subst ex;obtain rfl:M=Value.ref a:=O;show Dh B F c n l P λU E=>⟨w,_,E,N⟩
end
structure Room(k:Nat)(A:È):Prop where
 hd:A.handled=ű
 dp:A.depth+3*k+5<recursionLimit
 un:A.units+16*k+200<ä
theorem Room.mono{j k:Nat}{A:È}(r:Room k A)(h:j<=k):Room j A:=⟨r.hd,by have:=r.dp;omega,by have:=r.un;omega⟩
theorem Room.deeper{k:Nat}{A:È}(r:Room (k+1) A)(env:ê):Room k (A.deeper env):=
 ⟨r.hd,by have:=r.dp;change A.depth+1+3*k+5<_;omega,by have:=r.un;change A.units+3+16*k+200<_;omega⟩
theorem ET{A:È}{C:Addr}{us:Y Value}{a:Y (Str×Value)}:(A.under (.builtin "type.__call__" ⟨.ref C::us,a⟩)).depth=A.depth+1:=by
 first|rfl|simp[ċ,Code.weight,Code.isCreation,Code.isGuard,Code.isCaller,ũ,Đ,guardIds]
theorem Du{A:È}{C:Addr}{us:Y Value}{a:Y (Str×Value)}:(A.under (.builtin "type.__call__" ⟨.ref C::us,a⟩)).units=A.units+1:=by
 first|rfl|simp[ċ,Code.cUnits,ũ,Đ]
theorem Room.make{k:Nat}{A:È}(r:Room (k+1) A)(C:Addr)(us:Y Value)(a:Y (Str×Value)):Room k (A.under (.builtin "type.__call__" ⟨.ref C::us,a⟩)):=
 ⟨r.hd,by have:=r.dp;rw[ET];omega,by have:=r.un;rw[Du];omega⟩
theorem Room.depth{k:Nat}{A:È}(r:Room k A):A.depth<recursionLimit:=by have:=r.dp;omega
theorem Room.units{k:Nat}{A:È}(r:Room k A):A.units+64<ä:=by have:=r.un;omega
noncomputable def sN:TA:=λ_ H Q=>Q [] H
noncomputable def A0(f:TE)(g:TA):TA:=λa H Q=>f a H λx c=>g a c λxs e=>Q (x::xs) e
section
variable{X:Cx}{e:Ã}{c:Y Ã}{f:TE}{t:TA}{a:Õ}
theorem pa_nil:PA X [] sN:=λ_ _ _ _ H Q I h=>Calls.spliced_nil ⟨[],H,I,.nil,h⟩
theorem cC(y:PE X e f)(z:PA X c t)(A:starEach (e::c) X.env=(Ŵ,eval e X.env)::starEach c X.env:=by rfl):PA X (e::c) (A0 f t):=by
 intro a g s j H Q I h;rw[A];change wpAny _ _ (spliced ((Ŵ,eval e X.env)::backTo a (starEach c X.env))) _ _ s;refine NC (aI (y g s j H _ I h) λu G v=>?_);let⟨x,l,p,E,B⟩:=v
 show aI (z a g G j l _ p B) λus J w=>by let⟨xs,o,r,F,C⟩:=w;show⟨x::xs,o,r,.cons E F,C⟩
noncomputable def IE(t:TA):TE:=λh H Q=>t h H λxs g=>xs.length<=sizeLine/\∀p,g p=ű->Q (.ref p) (au g p (.tup xs))
noncomputable def CL(t:TA):TE:=λh H Q=>t h H λxs g=>xs.length<=sizeLine/\∀p,g p=ű->Q (.ref p) (au g p (.lst xs))
theorem pR{x1}(h:PA X c t):PE X (.Tuple c x1 a) (IE t):=by
 intro g s w H Q I v;refine wpAny_Tuple_spliced (aI (h a g s w H _ I v) λus j ⟨xs,l,o,r,z,q⟩=>⟨by rw[←r.length];show z,?_⟩);have p:l j.heap.objs.size=ű:=o.hok.fresh (J0 _);refine⟨.ref j.heap.objs.size,au l j.heap.objs.size (.tup xs),o.laid (t':=j.toks) (λb u e=>JW _ e) (J0 _) ?_,S,q _ p⟩;show⟨z,us,r,⟨_,Kb _ S,⟨S,S⟩,_,S⟩⟩
theorem yi(h:PA X c t):PE X (.List c a) (CL t):=by
 intro g s w H Q I v;refine wpAny_List_spliced (aI (h a g s w H _ I v) λus j ⟨xs,l,o,r,z,q⟩=>⟨by rw[←r.length];show z,?_⟩);have p:l j.heap.objs.size=ű:=o.hok.fresh (J0 _);refine⟨.ref j.heap.objs.size,au l j.heap.objs.size (.lst xs),o.laid (t':=j.toks) (λb u e=>JW _ e) (J0 _) ?_,S,q _ p⟩;show⟨z,us,0,r,Kb _ S⟩
end
noncomputable abbrev Sp:=Y V->Hp->VK->XK->Prop
noncomputable abbrev cM:=Y ê->Hp->À->XK->Value->À->Prop
structure Env0(P:Ä)(w:Å)(K:Â)(mg:Str->Option Value)(base:Heap)(A:È)(outer:List ê)(s:À)(H:Hp):Prop where
 frames:A.frames=Z outer
 mod:Mod K mg base
 bs:∀b o,base.get? b=Z o->s.heap.get? b=Z o/\H b=ű
 bsz:base.objs.size<=s.heap.objs.size
 funs:s.heap.FunFrames base outer
 frf:∀b∈cG outer,H b=ű
 hok:HOk P w H s.heap
 bare:í s.gens
noncomputable def CE(outer:Y ê)(P:Ä)(w:Å)(H:Hp)(s:À)(Q:VK)(u:Value)(s':À):Prop:=
 ∃v a,s'.os=s.os/\í s'.gens/\Un (cG outer) [] H a s.heap s'.heap/\HOk P w a s'.heap/\RelV v u/\Q v a
noncomputable def CR(CX:cM)(outer:Y ê)(P:Ä)(w:Å)(H:Hp)(s:À)(Q:VK)(E:XK)(r:Ŕ)(s':À):Prop:=
 match r with
 |.ok (.ret u)=>CE outer P w H s Q u s'
 |.ok _=>False
 |.error e=>CX outer H s E e s'
structure FnOk(P:Ä)(w:Å)(K:Â)(mg:Str->Option Value)(base:Heap)(CX:cM)(k:Nat)(f:Addr)(fd:É)(ps:List Str)(sp:Sp):Prop where
 len:∀vs H Q E,sp vs H Q E->vs.length=ps.length
 run:∀(A:È)(outer:List ê)(s:À)(H:Hp)(args:Args)(us:List Value)(vs:List V)(Q:VK)(E:XK),Room k A->Env0 P w K mg base A outer s H->đ s fd args (ps.zip us)->Vals vs us->sp vs H Q E->
  ã (model P w) A (.call (.ref f) args) (CR CX outer P w H s Q E) s
theorem FnOk.mono{P:Ä}{w:Å}{K:Â}{mg:Str->Ų Value}{base:Heap}{CX:cM}{j k:Nat}{f:Addr}{a:É}{ps:Y Str}{sp:Sp}(F:FnOk P w K mg base CX j f a ps sp)(h:j<=k) :
  FnOk P w K mg base CX k f a ps sp:=⟨F.len,λA outer s H args us vs Q E c=>F.run A outer s H args us vs Q E (c.mono h)⟩
theorem FnOk.imp{P:Ä}{w:Å}{K:Â}{mg:Str->Ų Value}{base:Heap}{CX:cM}{k:Nat}{f:Addr}{c:É}{ps:Y Str}{sp a:Sp}(F:FnOk P w K mg base CX k f c ps sp)
  (h:∀vs H Q E,a vs H Q E->sp vs H Q E):FnOk P w K mg base CX k f c ps a:=
 ⟨λvs H Q E q=>F.len vs H Q E (h _ _ _ _ q),λA outer s H args us vs Q E j g e o l=>F.run A outer s H args us vs Q E j g e o (h _ _ _ _ l)⟩
theorem Env0.make{P:Ä}{w:Å}{K:Â}{mg:Str->Ų Value}{base:Heap}{A:È}{outer:Y ê}{s:À}{H:Hp}(e:Env0 P w K mg base A outer s H)(C:Addr)(us:Y Value)(a:Y (Str×Value)) :
  Env0 P w K mg base (A.under (.builtin "type.__call__" ⟨.ref C::us,a⟩)) outer s H:=⟨by first|show e.frames|(simpa [ċ,Code.envs,Đ,pushEnvs] using e.frames),e.mod,e.bs,e.bsz,e.funs,e.frf,e.hok,e.bare⟩
section
variable{X:Cx}{a:Y (Addr×Ð)}{c:St}{H:Hp}{s s':À}
theorem Inv.env0(I:Inv X a c H s):Env0 X.prog X.w X.K X.mg X.base X.A X.stack s H:=
 ⟨I.ok.frames,I.ok.mod,I.bs,J6 I.ok.bsz I.sz,I.stack,I.stkFree,I.hok,I.bare⟩
theorem Inv.after{Q:VK}{u:Value}(I:Inv X a c H s)(h:CE X.stack X.prog X.w H s Q u s'):EP X a c Q u s':=by let⟨v,e,os,bare,un,hok,r,q⟩:=h;let⟨j,g,d,t,f⟩:=s';obtain rfl:f=s.os:=os;show⟨v,e,I.call (h':=j) (g':=g) (d':=d) (t':=t) (ch:=[]) un hok bare (λb z=>absurd z (by simp)),r,q⟩
end
noncomputable def Cc(sp:Sp)(dvs:Y V)(E:XK)(t:TA):TE:=λc H Q=>t c H λvs a=>sp (vs++dvs) a Q E
noncomputable def DK(C:Addr)(sp:Sp)(dvs:Y V)(E:XK)(t:TA):TE:=λf H Q=>t f H λvs c=>∀x a,c x=ű->c a=ű->a≠x->
 sp (.ref x::(vs++dvs)) (au (au c a (.own x)) x (.ins C a [])) (λv e=>v=.non/\Q (.ref x) e) E
noncomputable def Binds(K:Â)(a:É)(ps:Y Str)(ds:Y Value):Prop:=
 ∀(s:À)(us:Y Value),K.In s.heap->(us++ds).length=ps.length->đ s a ⟨us,[]⟩ (ps.zip (us++ds))
theorem Binds.all{K:Â}{a:É}{ps:Y Str}(h:∀us:Y Value,us.length=ps.length->Ę a ⟨us,[]⟩=pure (ps.zip us)):Binds K a ps []:=λs us _ c=>by rw[Ku]at c ⊢;show .of_eq (h us c)
noncomputable def jS(CX:cM)(X:Cx)(E:XK):Prop:=∀(a:Y (Addr×Ð))(c:St)(H:Hp)(s:À)(e:Value)(s':À),Inv X a c H s->CX X.stack H s E e s'->X.xe e s'
section
variable{X:Cx}{CX:cM}{k:Nat}{f C:Addr}{c:É}{ps:Y Str}{sp:Sp}{dvs:Y V}{ds:Y Value}{E:XK}{x:Str}{p a:Õ}{e:Ã}{g:Y Ã}{t:TA}
theorem yG{j:Y (Addr×Ð)}{o:St}{H:Hp}{s:À}{Q:VK}{us:Y Value}{vs:Y V}(F:FnOk X.prog X.w X.K X.mg X.base CX k f c ps sp)(A:Room k X.A)(y:Binds X.K c ps ds)(hd:Vals dvs ds)(B:jS CX X E)
  (I:Inv X j o H s) (r:Vals vs us) (h:sp (vs++dvs) H Q E):wpAny (model X.prog X.w) X.A (call (.ref f) us) (EP X j o Q) X.xe s:=by
 have v:Vals (vs++dvs) (us++ds):=r.append hd
 have z:(us++ds).length=ps.length:=by rw[←v.length];show F.len _ _ _ _ h
 refine NZ (Mx (F.run X.A X.stack s H ⟨us,[]⟩ (us++ds) (vs++dvs) Q E A I.env0 (y s us I.kIn z) v h) λr s' l=>?_)
 cases r with
 |error e=>show B j o H s e s' I l
 |ok w=>
  cases w with
  |ret u=>show I.after l
  |next=>show Ô l
  |brk=>show Ô l
  |cont=>show Ô l
theorem qJ(F:FnOk X.prog X.w X.K X.mg X.base CX k f c ps sp)(G:Room k X.A)(z:Gl X x)(B:X.mg x=Z (.ref f))(A:Ü X.K (.ref f)=ų)(w:Binds X.K c ps ds)(hd:Vals dvs ds)(J:jS CX X E)
  (v:PA X (e::g) t) (u:ad x:=by decide) (y:starEach (e::g) X.env=(Ŵ,eval e X.env)::starEach g X.env:=by rfl) (o:(backTo a (starEach g X.env)).any (·.1)=Ŵ:=by rfl) :
  PE X (.Call (.Name x p) (e::g) [] a) (Cc sp dvs E t):=by
 intro j s K H Q I h;refine L7 (js I z B ?_ u);refine NY (h₀:=X.base) I.ok.mod.kin A (aI (v a j s K H _ I h) λus N ⟨vs,M,l,r,q⟩=>⟨l.kIn,?_⟩) y o;show yG F G w hd J l r q
structure Mk(K:Â)(C f:Addr):Prop where
 makes:makesIn K C=ų
 init:î K (.ref C) "__init__"=Z (Z (.ref f))
 fn:isFn K (.ref f)=ų
 kp:Ü K (.ref C)=ų
theorem CH{j:Y (Addr×Ð)}{y:St}{H:Hp}{s:À}{Q:VK}{us:Y Value}{vs:Y V}(M:Mk X.K C f)(F:FnOk X.prog X.w X.K X.mg X.base CX k f c ps sp)(R:Room (k+1) X.A)(O:Binds X.K c ps ds)(hd:Vals dvs ds)
  (am:jS CX X E) (I:Inv X j y H s) (r:Vals vs us)
  (h:∀x w,H x=ű->H w=ű->w≠x->sp (.ref x::(vs++dvs)) (au (au H w (.own x)) x (.ins C w [])) (λv G=>v=.non/\Q (.ref x) G) E) :
  wpAny (model X.prog X.w) X.A (call (.ref C) us) (EP X j y Q) X.xe s:=by
 have z:=h (s.heap.objs.size+1) s.heap.objs.size (I.hok.fresh (Oz _)) (I.hok.fresh (J0 _)) (KA (Mi _));have o:=Inv.made (C:=C) I;have A:Vals (V.ref (s.heap.objs.size+1)::(vs++dvs)) (Value.ref (s.heap.objs.size+1)::(us++ds)):=.cons S (r.append hd)
 have P:(Value.ref (s.heap.objs.size+1)::us++ds).length=ps.length:=by have e:=A.length;rw[F.len _ _ _ _ z]at e;show e.symm
 refine NZ (BJ (f:=f) I.kIn M.makes M.init (L3.mp M.fn) (Mx (F.run _ X.stack _ _ ⟨Value.ref (s.heap.objs.size+1)::us,[]⟩ (Value.ref (s.heap.objs.size+1)::(us++ds)) _ _ E (R.make C us [])
  (o.env0.make C us []) (O _ (Value.ref (s.heap.objs.size+1)::us) o.kIn P) A z) λr s' l=>?_))
 cases r with
 |error e=>show am j y _ _ e s' o l
 |ok N=>
  cases N with
  |ret u=>
   let⟨v,B,J,U,K,T⟩:=o.after l;subst K;show⟨U,⟨V.ref (s.heap.objs.size+1),B,J,S,T⟩⟩
  |next=>show Ô l
  |brk=>show Ô l
  |cont=>show Ô l
theorem DQ(M:Mk X.K C f)(F:FnOk X.prog X.w X.K X.mg X.base CX k f c ps sp)(v:Room (k+1) X.A)(r:Gl X x)(u:X.mg x=Z (.ref C))(o:Binds X.K c ps ds)(hd:Vals dvs ds)(w:jS CX X E)
  (l:ad x:=by decide):PE X (.Call (.Name x p) [] [] a) (DK C sp dvs E sN):=by
 intro j s y H Q I h;refine L7 (js I r u ?_ l);show PySem.W.callWith_K0 I.kIn M.kp (CH (us:=[]) M F v o hd w I .nil h)
end
structure FnScope(N P:List Str)(sc:æ):Prop where
 kind:sc.kind=.function
 co:sc.isCoroutine=Ŵ
 gen:sc.isGenerator=Ŵ
 nd:N.Nodup
 pre:N.take P.length=P
 par:∀x∈P,sc.names.lookup x=Z .local\/sc.names.lookup x=Z .cell
 nofree:∀y∈sc.names,y.2≠.free
theorem tI{kindOf:Str->Ų NameKind}{x:Str}:∀{binds:Y (Str×Value)}{m:Str->Ų Value},(∀v,(x,v)∉binds)->Ĩ kindOf binds m x=m x
 | [],_,_=>rfl
 |(n,v)::r,m,h=>by
  unfold Ĩ;rw[tI λw a=>h w (JZ _ a)];split
  ·have:x≠n:=by rintro rfl;show h v JY
   simp[this]
  ·rfl
theorem xR{kindOf:Str->Ų NameKind}{x:Str}:∀{binds:Y (Str×Value)}{m:Str->Ų Value},(∀v,(x,v)∉binds)->ĩ kindOf binds m x=m x
 | [],_,_=>rfl
 |(n,v)::r,m,h=>by
  unfold ĩ;rw[xR λw a=>h w (JZ _ a)];split
  ·rfl
  ·have:x≠n:=by rintro rfl;show h v JY
   simp[this]
theorem uy{kindOf:Str->Ų NameKind}{x:Str}{v:Value}:∀{P:Y Str}{vs:Y Value}{i:Nat}{m:Str->Ų Value},P.Nodup->P[i]?=Z x->vs[i]?=Z v->kindOf x=Z .local->
  Ĩ kindOf (P.zip vs) m x=Z v
 | [],_,_,_,_,h,_,_=>by simp at h
 |_::_,[],_,_,_,_,h,_=>by simp at h
 |p::P,w::vs,0,m,nd,a,c,e=>by
  simp at a c;subst a;subst c;change Ĩ kindOf ((p,w)::P.zip vs) m p=_;unfold Ĩ;rw[tI λv f=>(Ko.mp nd).1 (Ms f).1,JX e];simp
 |p::P,w::vs,i+1,m,nd,a,c,e=>by change Ĩ kindOf ((p,w)::P.zip vs) m x=_;unfold Ĩ;show uy (i:=i) (Ko.mp nd).2 (by simpa using a) (by simpa using c) e
theorem tG{kindOf:Str->Ų NameKind}{x:Str}{v:Value}:∀{P:Y Str}{vs:Y Value}{i:Nat}{m:Str->Ų Value},P.Nodup->P[i]?=Z x->vs[i]?=Z v->kindOf x≠Z .local->
  ĩ kindOf (P.zip vs) m x=Z v
 | [],_,_,_,_,h,_,_=>by simp at h
 |_::_,[],_,_,_,_,h,_=>by simp at h
 |p::P,w::vs,0,m,nd,a,c,e=>by
  simp at a c;subst a;subst c;change ĩ kindOf ((p,w)::P.zip vs) m p=_;unfold ĩ;rw[xR λv f=>(Ko.mp nd).1 (Ms f).1,JV e];simp
 |p::P,w::vs,i+1,m,nd,a,c,e=>by change ĩ kindOf ((p,w)::P.zip vs) m x=_;unfold ĩ;show tG (i:=i) (Ko.mp nd).2 (by simpa using a) (by simpa using c) e
noncomputable def start(N:Y Str)(vs:Y V):St:=vs.map Z++List.replicate (N.length-vs.length) ű
noncomputable def fW(CX:cM)(P:Ä)(w:Å)(K:Â)(mg:Str->Ų Value)(base:Heap)(N:Y Str)(qual:Str)(scope:æ)(f:Addr)(a:Value)(A:È)(outer:Y ê)(s:À)(H:Hp)(E:XK):Cx where
 prog:=P
 w:=w
 K:=K
 mg:=mg
 base:=base
 A:=A.deeper (ë qual scope s.heap.objs.size f a)
 N:=N
 s₀:=s
 H₀:=H
 env:=ë qual scope s.heap.objs.size f a
 outer:=outer
 stack:=ë qual scope s.heap.objs.size f a::outer
 ex:=[]
 calm:=ų
 fn:=λ_=>ų
 pn:=[]
 xe:=λe s'=>wpAny (model P w) (A.deeper (ë qual scope s.heap.objs.size f a)) (leaving (ë qual scope s.heap.objs.size f a) e) (λ_ c=>CX outer H s E e c) (λg c=>CX outer H s E g c) s'
theorem qC{a:æ}{n:Nat}{x:Str}(h:a.names.lookup x=Z .cell):∃c,(Û n a.names []).lookup x=Z c:=by have q:=cellsFrom_some a.names n [] (.inl h);show N6.mp q
theorem HY{CX:cM}{P:Ä}{w:Å}{K:Â}{mg:Str->Ų Value}{base:Heap}{N ps:Y Str}{qual:Str}{scope:æ}{f:Addr}{B:Value}{A:È}{outer:Y ê}{s M:À}{H:Hp}{E:XK}{us:Y Value}{vs:Y V}
  (am:FnScope N ps scope) (hd:A.handled=ű) (j:Env0 P w K mg base A outer s H) (U:vs.length=ps.length) (r:Vals vs us)
  (x:InCallC s s.heap.objs.size (Ĩ (ë qual scope s.heap.objs.size f B).kindOf (ps.zip us) λ_=>ű) (Û (s.heap.objs.size+1) scope.names []) (ĩ (ë qual scope s.heap.objs.size f B).kindOf (ps.zip us) λ_=>ű) M) :
  Inv (fW CX P w K mg base N qual scope f B A outer s H E) [] (start N vs) H M:=by
 have R:ps.length<=N.length:=by have:=KG List.length am.pre;rw[Kq]at this;omega
 let⟨C,X,rfl,I⟩:=x.done;have G:∀b:Addr,b∉(fW CX P w K mg base N qual scope f B A outer s H E).ex:=λb z=>absurd (show b∈([]:Y Addr)from z) (by simp)
 refine⟨⟨j.mod,am.kind,S,S,J0 _,λy z c C g=>?_,λy l=>?_,λy c _ h=>?_,λ_=>hd,È.frames_deeper j.frames,.inr ⟨S,S⟩,λb z=>absurd z (G b),j.bs,j.bsz,λb _ _=>G b,λb z=>absurd z (G b),j.funs,j.frf⟩,
  rfl,j.bare,Un.kept I,⟨_,x.toInCall.ns,λi y v C g T=>?_⟩,λy c h=>⟨_,x.cell y c h⟩,j.hok.fresh (J0 _),λy c h=>?_,λp o=>absurd (show p∈([]:Y (Addr×Ð))from o) (by simp),j.hok.kept I,?_⟩
 ·show name_of_addr x.apart (K8 C) (K8 g)
 ·have l:scope.names.lookup y=Z .cell\/scope.names.lookup y=Z .free:=l;rcases l with l|l
  ·show qC l
  ·show absurd S (am.nofree _ (K8 l))
 ·show L6 (x.above y c (K8 h))
 ·have F:i<vs.length:=by
   unfold start at g;by_cases F:i<vs.length
   ·show F
   ·rw[JU (by simpa using F)]at g;rw[LY]at g;split at g<;>cases g
  have O:vs[i]?=Z v:=by
   unfold start at g;rw[sg (by simpa using F),J4]at g
   cases e:vs[i]? with
   |none=>rw[e]at g;cases g
   |some a=>rw[e]at g;cases g;rfl
  let⟨u,J,Q⟩:=r.get O
  have o:ps[i]?=Z y:=by rw[←am.pre,Mj ()];show C
  have t:ps.Nodup:=by rw[←am.pre];show am.nd.sublist (List.take_sublist _ _)
  refine⟨u,Q,?_⟩;rcases am.par y (Kp o)with k|k
  ·show .inl ⟨k,uy t o J k⟩
  ·let⟨c,e⟩:=qC (n:=s.heap.objs.size+1) k;refine .inr ⟨.inl k,c,e,?_⟩;have q:=x.cell y c e;rw[tG t o J (by change scope.names.lookup y≠_;rw[k];decide)]at q;show q
 ·show j.hok.fresh (L6 (x.above y c (K8 h)))
 ·unfold start;change _=N.length;rw[wy,mn,LK];omega
theorem mB{CX:cM}{P:Ä}{w:Å}{K:Â}{mg:Str->Ų Value}{base:Heap}{k:Nat}{f:Addr}{name qual:Str}{a:Arguments}{c:Y Ë}{scope:æ}{T kV p U j ct oc:Value}{R od:Ų Addr}
  {RP:Array (Ų Value)} {N ps:Y Str} {sp:Sp} (lk:K.lookup f=Z ⟨oc,od,.func (ć name qual a c scope T kV p U R j ct),RP⟩) (ar:ā K j qual=ų) (am:FnScope N ps scope)
  (len:∀vs H Q E,sp vs H Q E->vs.length=ps.length)
  (Qg:∀(A:È)(outer:Y ê)(s:À)(H:Hp)(vs:Y V)(Q:VK)(E:XK),Room k (A.deeper (ë qual scope s.heap.objs.size f j))->sp vs H Q E->
   ∃t,PSs (fW CX P w K mg base N qual scope f j A outer s H E) c t/\t { nx:=λ_ h=>Q .non h,rt:=Q } (start N vs) H) :
  FnOk P w K mg base CX (k+1) f (ć name qual a c scope T kV p U R j ct) ps sp:=by
 refine⟨len,λA outer s H args us vs Q E C z hb r O=>?_⟩;have hl:=len _ _ _ _ O;have M:K.In s.heap:=z.mod.kin.keeps λb o e=>(z.bs b o e).1;have F:s.heap.NoLimit:=z.mod.nolimit.keeps λb o e=>(z.bs b o e).1
 have Vb:∀y∈ps.zip us,scope.names.lookup y.1=Z .local\/(scope.names.lookup y.1=Z .cell/\((Û (s.heap.objs.size+1) scope.names []).lookup y.1).isSome=ų):=λaw hy=>by
  let⟨n,v⟩:=aw;rcases am.par n (Ms hy).1 with q|q
  ·show .inl q
  ·show .inr ⟨q,cellsFrom_some _ _ _ (.inl q)⟩
 refine codeAny_call_function C.depth (M _ _ lk) S am.co am.gen S (PySem.W.codeRec_of M ar) (hb _ _ _ _ ?_);refine wpAny_newFunctionEnv_cells am.kind Vb λenv he X x=>?_;subst he;refine⟨F.keeps x.toInCall.keep,codeAny_func ?_⟩;let⟨t,ht,hq⟩:=Qg A outer s H vs Q E (C.deeper _) O;have I:Inv (fW CX P w K mg base N qual scope f j A outer s H E) [] (start N vs) H X:=HY am C.hd z hl r x;refine Lg (ht [] X (start N vs) H _ I hq) (λfl s' l=>?_) λe s' l=>l
 have B:∀{g:St}{h:Hp}{v:V}{u:Value},Inv (fW CX P w K mg base N qual scope f j A outer s H E) [] g h s'->RelV v u->Q v h->CE outer P w H s Q u s':=
  λ{g h v u} J G q=>⟨v,h,J.os,J.bare,J.base,J.hok,G,q⟩
 cases fl with
 |ret u=>
  let⟨v,g,h,J,G,q⟩:=l;show B J G q
 |next=>
  let⟨g,h,J,q⟩:=l;show B (v:=V.non) (u:=Value.none) J S q
 |brk=>
  let⟨_,_,_,q⟩:=l;show Ô q
 |cont=>
  let⟨_,_,_,q⟩:=l;show Ô q
section
variable{X:Cx}{x:Str}{p a:Õ}{e:Ã}{c:Y Ã}{t:TA}{id T:String}{r:Y V->Hp->VK->Prop}
noncomputable def ym(r:Y V->Hp->VK->Prop)(t:TA):TE:=λg H Q=>t g H λvs f=>r vs f Q
theorem k7(y:fv X (.builtin id) r)(A:Gl X x)(B:X.mg x=ű)(E:ß x=Z (.builtin id))(w:PA X (e::c) t)(C:x≠"__name__":=by decide)(v:ad x:=by decide)
  (z:starEach (e::c) X.env=(Ŵ,eval e X.env)::starEach c X.env:=by rfl) (u:(backTo a (starEach c X.env)).any (·.1)=Ŵ:=by rfl):PE X (.Call (.Name x p) (e::c) [] a) (ym r t):=by
 intro f s g H Q I h;refine L7 (jo I A B E ?_ C v);show PyProof.Rows.callWith_builtin1 (aI (w a f s g H _ I h) λus J o=>by let⟨vs,j,l,G,F⟩:=o;show y f J g j vs us Q l G F) z u
theorem sM(y:fv X (.type T) r)(A:Gl X x)(B:X.mg x=ű)(E:ß x=Z (.type T))(w:PA X (e::c) t)(C:x≠"__name__":=by decide)(v:ad x:=by decide)
  (z:starEach (e::c) X.env=(Ŵ,eval e X.env)::starEach c X.env:=by rfl) (u:(backTo a (starEach c X.env)).any (·.1)=Ŵ:=by rfl):PE X (.Call (.Name x p) (e::c) [] a) (ym r t):=by
 intro f s g H Q I h;refine L7 (jo I A B E ?_ C v);show LF (aI (w a f s g H _ I h) λus J o=>by let⟨vs,j,l,G,F⟩:=o;show y f J g j vs us Q l G F) z u
end
end L2
namespace HT
open PySem PyProof.Rows
section
variable{prog:Ä}{w:Å}{A:È}{E:Value->À->Prop}{s:À}
theorem cat_tup{t b:Addr}{vs ws:Y Value}{Q:Value->À->Prop}(z:ĭ s.heap t vs.toArray)(y:ĭ s.heap b ws.toArray)(r:vs≠[])
  (v:ws=[]->Q (.ref t) s) (x:ws≠[]->Q (.ref s.heap.objs.size) { s with heap:=s.heap.push { cls:=.type "tuple",data:=.seq (vs++ws).toArray } })
  (hsz:vs.length+ws.length<=sizeLine):wpAny (model prog w) A (Í .Add (.ref t) (.ref b)) Q E s:=by
 let⟨⟨cls,o,data,sl⟩,f,p,n,hd⟩:=id z;let⟨⟨B,l,data2,j⟩,c,h,u,a⟩:=id y;simp only at p hd h a;subst p hd h a
 have e:vs.toArray++ws.toArray=(vs++ws).toArray:=by simp
 by_cases g:ws=[]
 ·show ĺ ⟨_,f,S⟩ ⟨_,c,S⟩ N7 ġ MZ MV (MP _ _)
   (tuple_addW1 t b vs.toArray ws.toArray n u o l sl j (by simpa using r) (by simp[g])) ⟨f,c,v g⟩
 ·refine ĺ ⟨_,f,S⟩ ⟨_,c,S⟩ N7 ġ MZ MV (MP _ _)
   (tuple_addW2 t b vs.toArray ws.toArray n u o l sl j (by simpa using r) (by simpa using g) (by rw[J2,J2];show hsz)) ⟨f,c,?_⟩
  rw[e];show x g
noncomputable def sIx(n d:Nat):Ų Int->Nat
 |none=>d
 |some v=>if v<0 then (v+(n:Int)).toNat else min v.toNat n
theorem sIx_none(n d:Nat):sIx n d ű=d:=rfl
theorem sIx_nat(n d k:Nat):sIx n d (Z (k:Int))=min k n:=by change (if (k:Int)<0 then ((k:Int)+(n:Int)).toNat else min (k:Int).toNat n)=min k n;rw[JV (),Lh]
theorem DM(n d:Nat)(hd:d<=n)(o:Ų Int):sIx n d o<=n:=by
 cases o with
 |none=>show hd
 |some v=>
  change (if v<0 then (v+(n:Int)).toNat else min v.toNat n)<=n;by_cases a:v<0
  ·rw[JX a];omega
  ·rw[JV a];show Nat.min_le_right _ _
theorem vB(v:Int)(n d:Nat):(if v<0 then max (v+(n:Int)) 0 else min v (n:Int))=((sIx n d (Z v):Nat):Int):=by
 change (if v<0 then max (v+(n:Int)) 0 else min v (n:Int))=(((if v<0 then (v+(n:Int)).toNat else min v.toNat n):Nat):Int);by_cases a:v<0
 ·simp only[JX a];omega
 ·simp only[JV a];omega
theorem zY(lo a:Ų Int)(n:Nat):Builtin.Slice.sliceAdjust lo a 1 (n:Int)=(((sIx n 0 lo:Nat):Int),((sIx n n a:Nat):Int)):=by
 have c:¬ ((1:Int)<0):=by omega
 unfold Builtin.Slice.sliceAdjust;simp only[c,N8];refine Prod.ext ?_ ?_
 ·cases lo with
  |none=>rfl
  |some v=>show vB v n 0
 ·cases a with
  |none=>rfl
  |some v=>show vB v n n
theorem HD(i j:Nat):Builtin.Slice.slicePlaces (i:Int) (j:Int) 1=j-i:=by
 unfold Builtin.Slice.slicePlaces
 have a:(1:Int)>0:=by omega
 simp only[a,MK,Int.ediv_one];split<;>omega
theorem ur{v:Value}{o:Ų Int}{Q:Ų Int->À->Prop}(p:ö v o)(h:Q o s):wpAny (model prog w) A (Builtin.Slice.slicePartIndex v) Q E s:=by
 cases p with
 |none=>show slicePart_none h
 |int i t=>show slicePart_int h
theorem tP{sl:Addr}{f g:Value}{lo a:Ų Int}{n:Nat}{Q:Int×Int×Nat->À->Prop}(j:s.heap.IsSliceOf sl f g .none)(pl:ö f lo)(l:ö g a)
  (h:Q (((sIx n 0 lo:Nat):Int),1,sIx n n a-sIx n 0 lo) s):wpAny (model prog w) A (Builtin.Slice.sliceApplied (.ref sl) (pure (n:Int))) Q E s:=by
 let⟨os,c,o,e⟩:=id j;unfold Builtin.Slice.sliceApplied Builtin.Slice.sliceFields;refine JT (JT (K2 c e (x:=f) S (JT (K2 c e (x:=g) S (JT (K2 c e (x:=.none) S (J5 ?_)))))));refine JT (slicePart_none ?_);change wpAny _ _ (if ((1:Int)==0)=ų then _ else _) _ _ s;rw[JV 'b'];refine JT (ur pl (JT (ur l (JT (J5 ?_)))));change wpAny _ _ (match Builtin.Slice.sliceAdjust lo a 1 (n:Int)with|(lo,a)=>pure (lo,(1:Int),Builtin.Slice.slicePlaces lo a 1)) _ _ s;rw[zY lo a n];change wpAny _ _ (pure (((sIx n 0 lo:Nat):Int),(1:Int),Builtin.Slice.slicePlaces ((sIx n 0 lo:Nat):Int) ((sIx n n a:Nat):Int) 1)) _ _ s;rw[HD];show J5 h
theorem A3(xs:Array Value)(i k:Nat):((List.range k).filterMap λ(m:Nat)=>xs[((i:Int)+(m:Int)*1).toNat]?).toArray=((xs.toList.drop i).take k).toArray:=by
 have e:(λ(m:Nat)=>xs[((i:Int)+(m:Int)*1).toNat]?)=λm=>xs[i+m]?:=by
  funext m
  have:((i:Int)+(m:Int)*1).toNat=i+m:=by omega
  rw[this]
 rw[e];have:=pick_run xs i k;rw[Mt]at this;have a:((λx=>xs[x]?) ∘ λx=>i+x)=λm=>xs[i+m]?:=rfl;rw[a]at this;rw[this]
theorem getItem_tuple_cut{t sl:Addr}{a:Array Value}{j l:Value}{lo c:Ų Int}{Q:Value->À->Prop}(f:ĭ s.heap t a)(g:s.heap.IsSliceOf sl j l .none)(pl:ö j lo)(x:ö l c)
  (v:¬ (sIx a.size 0 lo=0/\sIx a.size a.size c=a.size))
  (h:Q (.ref s.heap.objs.size) { s with heap:=s.heap.push { cls:=.type "tuple",data:=.seq ((a.toList.drop (sIx a.size 0 lo)).take (sIx a.size a.size c-sIx a.size 0 lo)).toArray } })
  (hsz:a.size<=sizeLine):wpAny (model prog w) A (ü (.ref t) (.ref sl)) Q E s:=by
 have e:sizeOk (.seq ((a.toList.drop (sIx a.size 0 lo)).take (sIx a.size a.size c-sIx a.size 0 lo)).toArray):=by change ((a.toList.drop (sIx a.size 0 lo)).take (sIx a.size a.size c-sIx a.size 0 lo)).toArray.size<=sizeLine;rw[J2,Kq,Kr,KQ];omega
 have z:sIx a.size a.size c<=a.size:=DM _ _ (J0 _) c;let⟨os,p,u,y⟩:=id g;have r:s.TypeIs (.ref sl) "slice":=⟨os,p,u⟩;unfold ü
 try with_reducible refine Lz ?_
 first|refine JT (J5 ?_)|skip
 refine JT (ř f.typeIs 'b' ?_)
 refine JT (Lm (name:=Str.ofString "__getitem__") f.typeIs Ld
  (L0 Ld f.typeIs Ŏ ?_ (Ŗ _ _)))
 change wpAny _ _ (Builtin.Tuple.tupleItemsOf (.ref t) >>= _) _ _ s;refine JT (tupleItemsOf_ f ?_);refine JT (N9 r ?_);rw[JX 'b'];refine JT (tP g pl x ?_)
 have o:¬ ((((sIx a.size 0 lo:Nat):Int)==0&&(1:Int)==1&&(sIx a.size a.size c-sIx a.size 0 lo)==a.size)=ų):=by
  intro q;rw[Kc,Kc]at q;have B:((sIx a.size 0 lo:Nat):Int)=0:=eq_of_beq q.1.1;have C:sIx a.size a.size c-sIx a.size 0 lo=a.size:=eq_of_beq q.2;show v ⟨(),()⟩
 change wpAny _ _ (if (((sIx a.size 0 lo:Nat):Int)==0&&(1:Int)==1&&(sIx a.size a.size c-sIx a.size 0 lo)==a.size)=ų then _ else _) _ _ s;rw[JV o,A3]
 first
  |show JT (m:=Builtin.Tuple.tupleExact _) (LD (J5 ⟨_,S,J5 h⟩) e)
  |show JT (m:=Builtin.Tuple.tupleExact _) (LD (JT (J5 (J5 ⟨_,S,J5 h⟩))) e)
  |show JT (JT (m:=Builtin.Tuple.tupleExact _) (LD (J5 (J5 ⟨_,S,J5 h⟩)) e))
  |show JT (JT (m:=Builtin.Tuple.tupleExact _) (LD (J5 ⟨_,S,J5 h⟩) e))
end
end HT
namespace L2
open PySem PySem.Spec PyProof.Rows
noncomputable abbrev TO:=St->Hp->(Ų Int->Hp->Prop)->Prop
noncomputable def PO(X:Cx)(e:Ų Ã)(t:TO):Prop:=
 ∀(a:Y (Addr×Ð))(s:À)(c:St)(H:Hp)(Q:Ų Int->Hp->Prop),Inv X a c H s->t c H Q->
  wpAny (model X.prog X.w) X.A (evalPart e X.env) (λu s'=>∃o f,Inv X a c f s'/\ö u o/\Q o f) X.xe s
noncomputable def zU:TO:=λ_ H Q=>Q ű H
noncomputable def BU(t:TE):TO:=λc H Q=>t c H λx a=>∃i,x=.int i/\Q (Z i) a
section
variable{X:Cx}{e:Ã}{f:TE}{lo c:Ų Ã}{g j:TO}{B A:Õ}
theorem po_none:PO X ű zU:=by intro a s l H Q I h;rw[evalPart_none];show J5 ⟨ű,H,I,.none,h⟩
theorem pF(h:PE X e f):PO X (Z e) (BU f):=by intro a s y H Q I r;rw[evalPart_some];refine aI (h a s y H _ I r) λu z p=>?_;let⟨x,l,o,w,v⟩:=p;let⟨i,rfl,q⟩:=v;let⟨t,rfl⟩:=w;show⟨Z i,l,o,.int i t,q⟩
noncomputable def SlR(X:Cx)(r:V->Ų Int->Ų Int->Hp->VK->Prop):Prop:=
 ∀(a:Y (Addr×Ð))(s:À)(o:St)(H:Hp)(x:V)(v h l:Value)(lo c:Ų Int)(sl:Addr)(Q:VK),Inv X a o H s->RelV x v->s.heap.IsSliceOf sl h l .none->ö h lo->ö l c->r x lo c H Q->
  ∃T id,ò (.type T) "__getitem__"=pure (Z (.builtin id))/\s.TypeIs v T/\wpAny (model X.prog X.w) X.A (ü v (.ref sl)) (EP X a o Q) X.xe s
theorem SlR.or{r p:V->Ų Int->Ų Int->Hp->VK->Prop}(h:SlR X r)(h':SlR X p):SlR X (λx lo c H Q=>r x lo c H Q\/p x lo c H Q):=by
 intro a s y H x v u w lo c sl Q I t l pl o q;rcases q with q|q
 ·show h a s y H x v u w lo c sl Q I t l pl o q
 ·show h' a s y H x v u w lo c sl Q I t l pl o q
noncomputable def EM(r:V->Ų Int->Ų Int->Hp->VK->Prop)(f:TE)(g j:TO):TE:=λa H Q=>f a H λx h=>g a h λl o=>j a o λu p=>r x l u p Q
theorem vt{r:V->Ų Int->Ų Int->Hp->VK->Prop}(P:SlR X r)(M:PE X e f)(O:PO X lo g)(am:PO X c j):PE X (.Subscript e (.Slice lo c ű A) B) (EM r f g j):=by
 intro a s p H Q I h;refine Subscript_ (aI (M a s p H _ I h) λv s1 ⟨x,z,E,r1,ar⟩=>?_);refine wpAny_Slice (aI (O a s1 p z _ E ar) λt s2 ⟨l,C,F,pl,aw⟩=>aI (am a s2 p C _ F aw) λw o ⟨u,y,G,U,q3⟩=>?_);rw[evalPart_none];refine J5 ?_;have J:Inv X a p y { o with heap:=o.heap.push { cls:=.type "slice",data:=.fields #[t,w,.none] } }:=G.kept (t':=o.toks) λb ob q=>JW _ q;let⟨T,id,K,R,N⟩:=P a { o with heap:=o.heap.push { cls:=.type "slice",data:=.fields #[t,w,.none] } } p y x v t w l u o.heap.objs.size Q J r1 (Heap.IsSliceOf.new ..) pl U q3;change wpAny (model X.prog X.w) X.A (subscriptTail e (.Slice lo c ű A) v (.ref o.heap.objs.size)) (EP X a p Q) X.xe { o with heap:=o.heap.push { cls:=.type "slice",data:=.fields #[t,w,.none] } };show tail_any (ops:=[.ref o.heap.objs.size,v]) R K N (by with_unfolding_all rfl)
noncomputable def ip(xs:Y V)(lo c:Ų Int):Y V:=(xs.drop (HT.sIx xs.length 0 lo)).take (HT.sIx xs.length xs.length c-HT.sIx xs.length 0 lo)
theorem vx(xs:Y V)(lo c:Ų Int):(ip xs lo c).length<=xs.length:=by unfold ip;rw[Kq,Kr];omega
noncomputable def tH(K:Â):V->Ų Int->Ų Int->Hp->VK->Prop:=λx lo c H Q=>∃a xs,x=.ref a/\SqT K H a xs /\
 ¬ (HT.sIx xs.length 0 lo=0/\HT.sIx xs.length xs.length c=xs.length)/\∀p,H p=ű->Q (.ref p) (au H p (.tup (ip xs lo c)))
theorem sl_tup:SlR X (tH X.K):=by
 intro u s M H x v J K lo c sl Q I F y pl E h;let⟨a,xs,rfl,C,z,q⟩:=h;cases F;let⟨w,r,p,t⟩:=I.tuple C
 have l:w.toArray.size=xs.length:=by rw[J2];show r.length.symm
 refine⟨"tuple",_,Ld.lookup,p.typeIs,?_⟩;refine HT.getItem_tuple_cut p y pl E (by rw[l];show z) ?_ (by rw[l];show t);rw[l];refine⟨.ref s.heap.objs.size,_,I.laid (t':=s.toks) (o:=.tup (ip xs lo c)) (λb G q=>JW _ q) (J0 _) ?_,S,q _ (I.hok.fresh (J0 _))⟩;show⟨J6 (vx xs lo c) t,_,(r.drop (HT.sIx xs.length 0 lo)).take (HT.sIx xs.length xs.length c-HT.sIx xs.length 0 lo),IsTupD.new _ _⟩
noncomputable def Ia(K:Â):R2:=λx y H Q=>∃a b xs ys,x=.ref a/\y=.ref b/\SqT K H a xs/\SqT K H b ys/\xs≠[]/\xs.length+ys.length<=sizeLine /\
 (ys=[]->Q (.ref a) H)/\(ys≠[]->∀p,H p=ű->Q (.ref p) (au H p (.tup (xs++ys))))
theorem Vals.nil_iff{xs:Y V}{us:Y Value}(r:Vals xs us):us=[]↔xs=[]:=by
 cases r with
 |nil=>simp
 |cons _ _=>simp
theorem DJ:bR X (Í .Add) (Ia X.K):=by intro t s U H x y v u Q I M N h;let⟨a,b,xs,ys,rfl,rfl,C,E,F,r,J,K⟩:=h;cases M;cases N;let⟨O,p,G,_⟩:=I.tuple C;let⟨P,l,A,_⟩:=I.tuple E;refine HT.cat_tup G A (λz=>F (p.nil_iff.mp z)) (λz=>⟨.ref a,H,I,S,J (l.nil_iff.mp z)⟩) (λz=>?_) (by rw[←p.length,←l.length];show r);refine⟨.ref s.heap.objs.size,_,I.laid (t':=s.toks) (o:=.tup (xs++ys)) (λb R q=>JW _ q) (J0 _) ?_,S,K (λw=>z (l.nil_iff.mpr w)) _ (I.hok.fresh (J0 _))⟩;show⟨by rw[wy];show r,_,p.append l,IsTupD.new _ _⟩
end
noncomputable def eX(n:Nat)(i:Int):Ų Nat:=if 0<=i then (if i<n then Z i.toNat else ű) else if -(n:Int)<=i then Z (i+n).toNat else ű
noncomputable def bT{a:Type}(xs:Y a)(i:Int):Ų a:=(eX xs.length i).bind λj=>xs[j]?
theorem uT{n:Nat}{i:Int}{j:Nat}(h:eX n i=Z j):ą i n=Z j/\j<n/\-(n:Int)<=i/\i<n:=by
 unfold eX at h;by_cases c:0<=i
 ·rw[JX c]at h;by_cases a:i<n
  ·rw[JX a]at h;have e:i.toNat=j:=Kh h;show⟨by rw[Ņ c a,e],(),(),a⟩
  ·rw[JV a]at h;cases h
 ·rw[JV c]at h;by_cases a:-(n:Int)<=i
  ·rw[JX a]at h;have e:(i+n).toNat=j:=Kh h;show⟨by rw[ĸ () a,e],(),a,()⟩
  ·rw[JV a]at h;cases h
theorem qj{a:Type}{xs:Y a}{i:Int}{v:a}(h:bT xs i=Z v):∃j,ą i xs.length=Z j/\xs[j]?=Z v/\j<xs.length/\-(xs.length:Int)<=i/\i<xs.length:=by
 unfold bT at h
 cases e:eX xs.length i with
 |none=>rw[e]at h;cases h
 |some j=>
  rw[e]at h;let⟨c,f,g,l⟩:=uT e;show⟨j,c,h,f,g,l⟩
theorem DF{a:Type}{xs:Y a}{j:Nat}{v:a}(h:xs[j]?=Z v):bT xs (j:Int)=Z v:=by
 have c:j<xs.length:=(KO.mp h).1
 have e:eX xs.length (j:Int)=Z j:=by unfold eX;rw[JX (),JX ()];simp
 unfold bT;rw[e];show h
noncomputable def qd(b:Ã):Prop:=∀o i,subscripted b Ŵ o i=operate [o,i] (ü o i)
noncomputable def l6(X:Cx)(r:R2):Prop:=
 ∀(e a:Ã)(c:Y (Addr×Ð))(s:À)(f:St)(H:Hp)(x y:V)(v u:Value)(Q:VK),Inv X c f H s->RelV x v->RelV y u->r x y H Q->
  subscripted a Ŵ v u=operate [v,u] (ü v u)->wpAny (model X.prog X.w) X.A (subscriptTail e a v u) (EP X c f Q) X.xe s
noncomputable def iG(X:Cx)(id:String)(r:V->Y V->Hp->VK->Prop):Prop:=
 ∀(a:Y (Addr×Ð))(s:À)(c:St)(H:Hp)(x:V)(xs:Y V)(v:Value)(us:Y Value)(Q:VK),Inv X a c H s->RelV x v->Vals xs us->r x xs H Q->
  wpAny (model X.prog X.w) X.A (call (.builtin id) (v::us)) (EP X a c Q) X.xe s
section
variable{X:Cx}{a b:Ã}{F tb:TE}{E:Õ}
theorem vW{r:R2}(l:l6 X r)(g:PE X a F)(j:PE X b tb)(o:qd b):PE X (.Subscript a b E) (g6 r F tb):=by intro c s z H Q I h;show Subscript_ (pS g j I h λv u w x y e f p t q=>l a b c w z e x y v u Q f p t q (o _ _))
noncomputable def Hy(K:Â):R2:=λx y H Q=>∃p xs i v,x=.ref p/\y=.int i/\SqL K H p xs/\bT xs i=Z v/\Q v H
noncomputable def FF(K:Â):R2:=λx y H Q=>∃p xs i v,x=.ref p/\y=.int i/\SqT K H p xs/\bT xs i=Z v/\Q v H
noncomputable def Gc:R2:=λx y H Q=>∃z i c,x=.str z/\y=.int i/\z.length<=sizeLine/\bT z.cps.toList i=Z c/\Q (.str ⟨#[c]⟩) H
theorem wJ:l6 X (Hy X.K):=by
 intro o l c s G H x y v u Q I T U h C;let⟨p,xs,i,z,rfl,rfl,am,P,q⟩:=h;cases T;let⟨t,rfl⟩:=U;let⟨J,r,pl,hz⟩:=I.list am;let⟨j,f,M,ar,N,O⟩:=qj P;let⟨w,A,K⟩:=r.get M;have R:=r.length;have aw:=iB;have e:EP X c G Q w s:=⟨z,H,I,K,q⟩;by_cases B:0<=i
 ·have g:i.toNat=j:=by rw[Ņ B O]at f;show Kh f
  show item_listR pl.isList B () (by rw[g];simpa using A) e C
 ·have g:(i+(J.toArray.size:Int)).toNat=j:=by rw[ĸ () N]at f;rw[J2,←R];show Kh f
  show ļ (x:=w) pl.isList.typeIs NQ.lookup
   (wpAny_getItem_list_neg (Q:=λr s'=>r=w/\EP X c G Q r s') pl.isList () (by rw[J2]<;>omega) () (by rw[g];simpa using A) ⟨S,e⟩) C
theorem DT:l6 X (FF X.K):=by
 intro g f c s l H x y v u Q I N O h M;let⟨p,xs,i,z,rfl,rfl,K,G,q⟩:=h;cases N;let⟨t,rfl⟩:=O;let⟨P,r,pl,ar⟩:=I.tuple K;let⟨j,B,C,R,am,T⟩:=qj G;let⟨w,A,o⟩:=r.get C;have J:=r.length;have U:=iB;have e:EP X c l Q w s:=⟨z,H,I,o,q⟩
 show ļ (x:=w) pl.typeIs slot_tuple_getitem.lookup
  (getItem_tuple (j:=j) (Q:=λr s'=>r=w/\EP X c l Q r s') pl () () (by rw[J2,←J];show B) (by simpa using A) ⟨S,e⟩) M
theorem D4:l6 X Gc:=by
 intro f e l s P H x y v u Q I J K h G;let⟨z,i,c,rfl,rfl,O,B,q⟩:=h;let⟨t,rfl⟩:=J;let⟨t',rfl⟩:=K;let⟨j,g,r,M,w,A⟩:=qj B
 have C:z.cps.toList.length=z.length:=by simp[Str.length]
 rw[C]at g w A;have N:=iB
 show tail_any (MT s z t) slot_str_getitem.lookup (getItem_str (c:=c) (by
  have o:decide (i < -(2^63:Int))=Ŵ:=Kd ();have p:decide (i≥2^63)=Ŵ:=Kd ()
  rw[o,p,Bool.or_false]) (by rw[g];simpa using r) ⟨.str ⟨#[c]⟩,H,I.tok _,⟨_,S⟩,q⟩) G
theorem Ew(c:Y Value)(n j:Nat)(u:Value):û (·.setIfInBounds j u) { cls:=.type "list",data:=.seq c.toArray n }={ cls:=.type "list",data:=.seq (c.set j u).toArray n }:=by simp[û]
theorem Inv.lst{c:Y (Addr×Ð)}{g:St}{H:Hp}{s:À}{p:Addr}{xs:Y V}(I:Inv X c g H s)(h:H p=Z (.lst xs)) :
  ∃(f:Y Value)(n:Nat),Vals xs f/\s.heap.get? p=Z { cls:=.type "list",data:=.seq f.toArray n }/\xs.length<=sizeLine:=by
 let⟨z,f,n,r,e⟩:=I.hok p _ h;show⟨f,n,r,e,z⟩
theorem Inv.lstUpd{c:Y (Addr×Ð)}{o:St}{H:Hp}{s:À}{p:Addr}{xs ys:Y V}{j Pa:Y Value}{n g:Nat}{f:Ð->Ð}(I:Inv X c o H s)(h:H p=Z (.lst xs))
  (w:s.heap.get? p=Z { cls:=.type "list",data:=.seq j.toArray n }) (l:f { cls:=.type "list",data:=.seq j.toArray n }={ cls:=.type "list",data:=.seq Pa.toArray g }) (r:Vals ys Pa) (y:ys.length<=sizeLine) (t:Nat) :
  Inv X c o (au H p (.lst ys)) { s with heap:=s.heap.update p f,toks:=t }:=by
 have e:(s.heap.update p f).get? p=Z { cls:=.type "list",data:=.seq Pa.toArray g }:=by
  rw[LL f w (by rw[l]<;>rfl),l]
 refine I.write (x:=p) (e:=p) (by rw[h];trivial) (.inl S) (λb u v q=>(Ls _ _ (KW v)).trans q) ⟨_,e⟩ ?_;show⟨y,Pa,g,r,e⟩
noncomputable def CQ:V->V->V->Hp->(Hp->Prop)->Prop:=λo i v H Q=>∃p xs k j,o=.ref p/\i=.int k/\H p=Z (.lst xs)/\eX xs.length k=Z j/\Q (au H p (.lst (xs.set j v)))
theorem t6:qY X CQ:=by
 intro c s N H o i v U R u Q I K J M h;let⟨p,xs,k,j,rfl,rfl,B,C,q⟩:=h;cases K;let⟨t,rfl⟩:=J;let⟨x,n,r,l,G⟩:=I.lst B;let⟨e,O,z,A⟩:=uT C;have g:=r.length;have P:=iB
 have w:Inv X c N (au H p (.lst (xs.set j v))) { s with heap:=s.heap.update p (û (·.setIfInBounds j u)) }:=
  I.lstUpd B l (Ew x n j u) (r.set M j) (by rw[Ki];show G) s.toks
 by_cases y:0<=k
 ·have f:k.toNat=j:=by rw[Ņ y A]at e;show Kh e
  show PySem.W.ki_setAt l y () (by rw[J2,←g];show A) (by rw[f];show⟨_,w,q⟩)
 ·have f:(k+(x.toArray.size:Int)).toNat=j:=by rw[ĸ () z]at e;rw[J2,←g];show Kh e
  show PySem.W.ki_setBack l () (by rw[J2,←g];show z) () (by rw[f];show⟨_,w,q⟩)
theorem HN(lo c:Ų Int)(n:Nat):(Ö lo c ű n).1=((HT.sIx n 0 lo:Nat):Int)/\(Ö lo c ű n).2.1=((HT.sIx n n c:Nat):Int)/\(Ö lo c ű n).2.2=1:=by
 refine⟨?_,?_,S⟩
 ·cases lo with
  |none=>simp[Ö,HT.sIx]
  |some i=>
   simp only[Ö,HT.sIx,Į,show (1:Int)>0 by decide,MK];by_cases h:i<0
   ·simp only[h,MK]<;>omega
   ·simp only[h,N8]<;>omega
 ·cases c with
  |none=>simp[Ö,HT.sIx]
  |some i=>
   simp only[Ö,HT.sIx,Į,show (1:Int)>0 by decide,MK];by_cases h:i<0
   ·simp only[h,MK]<;>omega
   ·simp only[h,N8]<;>omega
theorem G5(c:Y Value)(lo e:Ų Int):ĥ c.toArray lo e ű=((c.drop (HT.sIx c.length 0 lo)).take (HT.sIx c.length c.length e-HT.sIx c.length 0 lo)).toArray:=by let⟨f,g,h⟩:=HN lo e c.toArray.size;unfold ĥ;rw[f,g,h];simp only[sliceRange_one,pick_run,J2]<;>rfl
noncomputable def qm(K:Â):V->Ų Int->Ų Int->Hp->VK->Prop:=λx lo c H Q=>∃a xs,x=.ref a/\SqL K H a xs/\∀p,H p=ű->Q (.ref p) (au H p (.lst (ip xs lo c)))
theorem sl_list:SlR X (qm X.K):=by
 intro g s B H x v z A lo e sl Q I u j pl t h;let⟨a,xs,rfl,l,q⟩:=h;cases u;let⟨w,r,f,p⟩:=I.list l;have c:=r.length;refine⟨"list",_,NQ.lookup,f.isList.typeIs,?_⟩;refine ĝ f.isList j pl t .none (by simp) ?_ (by rw[J2]<;>omega);rw[G5,←c];refine⟨.ref s.heap.objs.size,_,I.laid (t':=s.toks) (o:=.lst (ip xs lo e)) (λb y q=>JW _ q) (J0 _) ?_,S,q _ (I.hok.fresh (J0 _))⟩;show⟨J6 (vx xs lo e) p,_,0,(r.drop (HT.sIx xs.length 0 lo)).take (HT.sIx xs.length xs.length e-HT.sIx xs.length 0 lo),Kb _ S⟩
noncomputable def gT:V->Bool
 |.non=>ų
 |.bl _=>ų
 |.int _=>ų
 |.str _=>ų
 |_=>Ŵ
noncomputable def ig:V->V->Bool
 |.non,.non=>ų
 |.bl a,.bl b=>a==b
 |.bl a,.int b=>(if a then 1 else 0)==b
 |.int a,.bl b=>a==(if b then 1 else 0)
 |.int a,.int b=>a==b
 |.str a,.str b=>a==b
 |_,_=>Ŵ
theorem Fd{A:È}{s:À}{y x:V}{u v:Value}(f:RelV y u)(c:RelV x v)(g:gT y=ų)(e:gT x=ų):SeqAt.EqAt A s u v (ig y x):=by
 cases y with
 |non=>
  cases f
  cases x with
  |non=>cases c;show SeqAt.EqAt.same _
  |bl b=>cases c;show SeqAt.EqAt.none_bool b
  |int b=>let⟨t,rfl⟩:=c;show SeqAt.EqAt.none_int b t
  |str b=>let⟨t,rfl⟩:=c;show SeqAt.EqAt.none_str b t
  |_=>show absurd (show Ŵ=ų from e) KI
 |bl a=>
  cases f
  cases x with
  |non=>cases c;show SeqAt.EqAt.bool_none a
  |bl b=>cases c;show SeqAt.EqAt.bool_bool a b
  |int b=>let⟨t,rfl⟩:=c;show SeqAt.EqAt.bool_int a b t
  |str b=>let⟨t,rfl⟩:=c;show SeqAt.EqAt.bool_str a b t
  |_=>show absurd (show Ŵ=ų from e) KI
 |int a=>
  let⟨t',rfl⟩:=f
  cases x with
  |non=>cases c;show SeqAt.EqAt.int_none a t'
  |bl b=>cases c;show SeqAt.EqAt.int_bool a t' b
  |int b=>let⟨t,rfl⟩:=c;show SeqAt.EqAt.int_int a t' b t
  |str b=>let⟨t,rfl⟩:=c;show SeqAt.EqAt.int_str a t' b t
  |_=>show absurd (show Ŵ=ų from e) KI
 |str a=>
  let⟨t',rfl⟩:=f
  cases x with
  |non=>cases c;show SeqAt.EqAt.str_none a t'
  |bl b=>cases c;show SeqAt.EqAt.str_bool a t' b
  |int b=>let⟨t,rfl⟩:=c;show SeqAt.EqAt.str_int a t' b t
  |str b=>let⟨t,rfl⟩:=c;show SeqAt.EqAt.str_str a t' b t
  |_=>show absurd (show Ŵ=ų from e) KI
 |_=>show absurd (show Ŵ=ų from g) KI
noncomputable def eC(x:V)(u:Value):Bool:=match u with
 |.none=>ig .non x
 |.bool b=>ig (.bl b) x
 |.int i _=>ig (.int i) x
 |.str z _=>ig (.str z) x
 |_=>Ŵ
theorem vw{x y:V}{u:Value}(r:RelV y u)(f:gT y=ų):eC x u=ig y x:=by
 cases y with
 |non=>cases r;rfl
 |bl b=>cases r;rfl
 |int i=>let⟨t,rfl⟩:=r;rfl
 |str z=>let⟨t,rfl⟩:=r;rfl
 |_=>show absurd (show Ŵ=ų from f) KI
theorem kB{x:V}:∀{xs:Y V}{us:Y Value},Vals xs us->xs.all gT=ų->us.any (eC x)=xs.any λy=>ig y x
 |_,_,.nil,_=>rfl
 |y::xs,u::us,.cons r t,f=>by rw[NN,Kc]at f;rw[Mc,Mc,vw r f.1,kB t f.2]
theorem ly{A:È}{s:À}{x:V}{v:Value}(g:RelV x v)(e:gT x=ų):∀{xs:Y V}{us:Y Value},Vals xs us->xs.all gT=ų->∀u∈us,SeqAt.EqAt A s u v (eC x u)
 |_,_,.nil,_=>λu c=>by cases c
 |y::xs,u::us,.cons r t,f=>λu' c=>by
  rw[NN,Kc]at f;rcases J9.mp c with rfl|c
  ·rw[vw r f.1];show Fd r g f.1 e
  ·show ly g e t f.2 u' c
noncomputable def ix(x:V)(xs:Y V):Bool:=xs.any λy=>ig y x
noncomputable def uE(K:Â)(c:Bool):R2:=λx y H Q=>∃p xs,y=.ref p/\(SqL K H p xs\/SqT K H p xs)/\gT x=ų/\xs.all gT=ų/\Q (.bl (if c then !ix x xs else ix x xs)) H
theorem Hr:bR X (Æ .In) (uE X.K Ŵ):=by
 intro j s z H x y v u Q I l t h;let⟨p,xs,rfl,e,g,fs,q⟩:=h;cases t;rcases e with e|e
 ·let⟨c,r,pl,o⟩:=I.list e;refine SeqAt.in_listAt (eC x) pl.isList (λw f=>ly l g r fs w (by simpa using f)) ⟨.bl _,H,I,S,?_⟩;rw[show c.toArray.any (eC x)=c.any (eC x)by simp,kB r fs];show q
 ·let⟨c,r,pl,o⟩:=I.tuple e;refine SeqAt.in_tupleAt (eC x) pl (λw f=>ly l g r fs w (by simpa using f)) ⟨.bl _,H,I,S,?_⟩;rw[show c.toArray.any (eC x)=c.any (eC x)by simp,kB r fs];show q
theorem Ja:bR X (Æ .NotIn) (uE X.K ų):=by
 intro j s z H x y v u Q I l t h;let⟨p,xs,rfl,e,g,fs,q⟩:=h;cases t;rcases e with e|e
 ·let⟨c,r,pl,o⟩:=I.list e;refine SeqAt.notIn_listAt (eC x) pl.isList (λw f=>ly l g r fs w (by simpa using f)) ⟨.bl _,H,I,S,?_⟩;rw[show c.toArray.any (eC x)=c.any (eC x)by simp,kB r fs];show q
 ·let⟨c,r,pl,o⟩:=I.tuple e;refine SeqAt.notIn_tupleAt (eC x) pl (λw f=>ly l g r fs w (by simpa using f)) ⟨.bl _,H,I,S,?_⟩;rw[show c.toArray.any (eC x)=c.any (eC x)by simp,kB r fs];show q
theorem rA:fv X (.builtin "len") (λxs H Q=>∃p ys,xs=[.ref p]/\(SqL X.K H p ys\/SqT X.K H p ys)/\Q (.int ys.length) H):=by
 intro g s v H xs us Q I r h;let⟨p,ys,rfl,e,q⟩:=h;let⟨u,rfl,o⟩:=gZ r;cases o;have t:=iB;rcases e with e|e
 ·let⟨j,f,pl,l⟩:=I.list e;have c:=f.length;show Calls.call_len_list pl.isList (by simp only[J2]<;>omega) ⟨.int ys.length,H,I.tok _,⟨s.toks+1,by rw[J2,c]⟩,q⟩
 ·let⟨j,f,pl,l⟩:=I.tuple e;have c:=f.length;show len_tuple pl (by simp only[J2]<;>omega) ⟨.int ys.length,H,I.tok _,⟨s.toks+1,by rw[J2,c]⟩,q⟩
theorem Je:fv X (.builtin "len") (λxs H Q=>∃z,xs=[.str z]/\z.length<=sizeLine/\Q (.int z.length) H):=by
 intro c s g H xs us Q I r h;let⟨z,rfl,f,q⟩:=h;let⟨u,rfl,t,rfl⟩:=gZ r;have e:=iB;show len_str () ⟨.int z.length,H,I.tok _,⟨_,S⟩,q⟩
theorem yP:fv X (.type "list") (λxs H Q=>∃p ys,xs=[.ref p]/\(SqL X.K H p ys\/SqT X.K H p ys)/\∀l,H l=ű->Q (.ref l) (au H l (.lst ys))):=by
 intro x s C H xs us Q I r h;let⟨p,ys,rfl,v,q⟩:=h;let⟨u,rfl,B⟩:=gZ r;cases B
 have j:∀(c:Y Value),Vals ys c->ys.length<=sizeLine->∀(h':Heap)(f:Nat),(∀b A,s.heap.get? b=Z A->h'.get? b=Z A)->
   h'.get? s.heap.objs.size=Z { cls:=.type "list",dict:=ű,data:=.seq c.toArray f,slots:=#[] }->EP X x C Q (.ref s.heap.objs.size) { s with heap:=h' }:=λc g w h' f kp e=>
  ⟨.ref s.heap.objs.size,_,I.laid (t':=s.toks) kp (J0 _) (show ObjOk X.prog X.w _ h' _ (.lst ys)from ⟨w,c,f,g,e⟩),S,q _ (I.hok.fresh (J0 _))⟩
 rcases v with v|v
 ·let⟨c,g,pl,w⟩:=I.list v;have t:=g.length;let⟨o,z,y,n,hd⟩:=pl.isList;show call_list_seq p (.inl S) z y hd (λh' f kp e=>j c g w h' f kp e) (by simp only[J2]<;>omega)
 ·let⟨c,g,pl,w⟩:=I.tuple v;have t:=g.length;let⟨o,z,y,n,hd⟩:=pl;show call_list_seq p (.inr S) z y hd (λh' f kp e=>j c g w h' f kp e) (by simp only[J2]<;>omega)
theorem pZ:fv X (.type "tuple") (λxs H Q=>∃p ys,xs=[.ref p]/\((SqL X.K H p ys/\∀l,H l=ű->Q (.ref l) (au H l (.tup ys)))\/(SqT X.K H p ys/\Q (.ref p) H))):=by
 intro c s x H xs us Q I r h;let⟨p,ys,rfl,h⟩:=h;let⟨u,rfl,z⟩:=gZ r;cases z;rcases h with⟨g,q⟩|⟨g,q⟩
 ·let⟨f,j,pl,w⟩:=I.list g;have v:=j.length;refine call_tuple_list pl.isList (λh' kp=>?_) (by simp only[J2]<;>omega);have t:Inv X c x H { s with heap:=h' }:=I.kept (t':=s.toks) kp
  have y:Inv X c x (au H h'.objs.size (.tup ys)) { s with heap:=h'.push { cls:=.type "tuple",data:=.seq f.toArray } }:=
   t.laid (t':=s.toks) (λb o e=>JW _ e) (J0 _) (show ObjOk X.prog X.w _ _ _ (.tup ys)from ⟨w,f,j,IsTupD.new _ _⟩)
  show⟨.ref h'.objs.size,_,y,S,q _ (t.hok.fresh (J0 _))⟩
 ·let⟨f,j,pl,w⟩:=I.tuple g;show call_tuple_same pl ⟨.ref p,H,I,S,q⟩
noncomputable def pH(K:Â)(T:String)(x:V)(H:Hp):Prop:=match x with
 |.str _=>T="str"
 |.int _=>T="int"
 |.ref p=>(T="list"/\∃xs,SqL K H p xs)\/(T="tuple"/\((∃xs,H p=Z (.tup xs))\/∃o,K.lookup p=Z o/\o.cls=.type "tuple"/\o.dict=ű)) \/
   (T="dict"/\((∃c,H p=Z (.dK c))\/∃c,H p=Z (.dT c)))\/(T="set"/\∃Q n,H p=Z (.set Q n))
 |_=>False
theorem vS{h:Y (Addr×Ð)}{A:St}{H:Hp}{s:À}{T:String}{x:V}{v:Value}(I:Inv X h A H s)(r:RelV x v)(j:pH X.K T x H) :
  s.TypeIs v T/\∀a,v=.ref a->∃l,s.heap.get? a=Z l/\l.dict=ű:=by
 cases x with
 |str z=>
  let⟨t,rfl⟩:=r;cases (show T="str" from j);show⟨MT s z t,λ_ e=>nomatch e⟩
 |int i=>
  let⟨t,rfl⟩:=r;cases (show T="int" from j);show⟨N0 s i t,λ_ e=>nomatch e⟩
 |ref p=>
  cases r;rcases j with⟨rfl,xs,y⟩|⟨rfl,⟨xs,f⟩|⟨o,f,w,hd⟩⟩|⟨rfl,f⟩|⟨rfl,Q,n,f⟩
  ·let⟨B,_,pl,_⟩:=I.list y;refine⟨pl.isList.typeIs,λa e=>?_⟩;cases e;let⟨o,n,e,c,hd,_⟩:=pl;show⟨o,e,hd⟩
  ·let⟨_,_,_,o,e,⟨c,hd⟩,_⟩:=I.hok p _ f;refine⟨⟨o,e,c⟩,λa g=>?_⟩;cases g;show⟨o,e,hd⟩
  ·refine⟨⟨o,I.kIn p o f,w⟩,λa e=>?_⟩;cases e;show⟨o,I.kIn _ o f,hd⟩
  ·have z:∃o,s.heap.get? p=Z o/\o.ExactDict:=by
    rcases f with⟨u,f⟩|⟨u,f⟩
    ·let⟨_,_,_,_,o,_,_,e,ex,_⟩:=I.hok p _ f;show⟨o,e,ex⟩
    ·let⟨_,_,_,_,o,_,_,e,ex,_⟩:=I.hok p _ f;show⟨o,e,ex⟩
   let⟨o,e,ex⟩:=z;refine⟨⟨o,e,ex.1⟩,λa g=>?_⟩;cases g;show⟨o,e,ex.2.1⟩
  ·let⟨o,_,_,_,e,ex,_⟩:=I.hok p _ f;refine⟨⟨o,e,ex.1⟩,λa g=>?_⟩;cases g;show⟨o,e,ex.2.1⟩
 |_=>show Ô j
noncomputable def Gu(K:Â)(T:String)(r:V->Y V->Hp->VK->Prop)(to:TE):TE:=λe H Q=>to e H λx c=>pH K T x c/\r x [] c Q
noncomputable def BW(K:Â)(T:String)(r:V->Y V->Hp->VK->Prop)(to:TE)(t:TA):TE:=λe H Q=>to e H λx c=>pH K T x c/\t e c λxs f=>r x xs f Q
variable{o e:Ã}{C:Y Ã}{to:TE}{t:TA}{name:Str}{g B:Õ}{T id:String}{r:V->Y V->Hp->VK->Prop}
theorem JB(M:PlainAttrs T)(slot:Slot T name id)(z:typeOf (.builtin id)=pure (.type "method_descriptor"))(J:iG X id r)(K:PE X o to)
  (u:Ç o name X.env (eval o X.env)=eval o X.env:=by rfl) (w:(g.endLine==B.line)=ų:=by rfl):PE X (.Call (.Attribute o name g) [] [] B) (Gu X.K T r to):=by
 intro c s l H Q I h;refine wpAny_Call_method0_late u w (aI (K c s l H _ I h) λv O y=>?_);let⟨x,p,f,j,P,N⟩:=y;let⟨A,G⟩:=vS f j P;show⟨T,id,M,slot,z,A,G,M0 S (PySem.evalArgs_none (J c O l p x [] v [] Q f j .nil N))⟩
theorem gP(aw:PlainAttrs T)(slot:Slot T name id)(N:typeOf (.builtin id)=pure (.type "method_descriptor"))(am:iG X id r)(U:PE X o to)(R:PA X (e::C) t)
  (z:Ç o name X.env (eval o X.env)=eval o X.env:=by rfl)
  (K:((backTo B (starEach (e::C) X.env)).all (λx=>!x.1)&&(Ù B (Î [] X.env)).all (λx=>x.1.isSome)
   && decide ((e::C).length+([]:Y Ï).length+(if ([]:Y Ï).isEmpty then 0 else 1)<30))=ų:=by rfl)
  (A:(g.endLine==B.line)=ų:=by rfl) (ar:starEach (e::C) X.env=(Ŵ,eval e X.env)::starEach C X.env:=by rfl) (M:(backTo B (starEach C X.env)).any (·.1)=Ŵ:=by rfl) :
  PE X (.Call (.Attribute o name g) (e::C) [] B) (BW X.K T r to t):=by
 intro c s f H Q I h;refine wpAny_Call_method_late z K A S (aI (U c s f H _ I h) λv s1 G=>?_);let⟨x,u,j,p,ty,q1⟩:=G;let⟨O,P⟩:=vS j p ty;refine⟨T,id,aw,slot,N,O,P,?_⟩;have l:=R B c s1 f u _ j q1;rw[ar]at l ⊢;refine M0 (by change (Ŵ ||(backTo B (starEach C X.env)).any (·.1))=Ŵ;rw[M]<;>rfl) (Calls.evalArgs_plain ?_)
 show aI l λus s2 J=>by let⟨vs,w,y,r2,q2⟩:=J;show am c s2 f w x vs v us Q y p r2 q2
end
noncomputable def p9(X:Cx)(id:String)(r:V->Y V->Hp->VK->Prop):Prop:=
 ∀(a:Y (Addr×Ð))(s:À)(c:St)(H:Hp)(x:V)(xs:Y V)(v:Value)(us:Y Value)(Q:VK),Inv X a c H s->RelV x v->Vals xs us->r x xs H Q->
  wpAny (model X.prog X.w) X.A (call (.builtin id) (v::us)) (EP X a c Q) X.xe s
theorem Vals.one:∀{x:V}{us:Y Value},Vals [x] us->∃u,us=[u]/\RelV x u
 |_,_,.cons r .nil=>⟨_,S,r⟩
theorem Vals.eraseIdx:∀{xs:Y V}{us:Y Value}(i:Nat),Vals xs us->Vals (xs.eraseIdx i) (us.eraseIdx i)
 |_,_,_,.nil=>.nil
 |_,_,0,.cons _ t=>t
 |_,_,i+1,.cons r t=>.cons r (Vals.eraseIdx i t)
theorem Vals.rep{xs:Y V}{us:Y Value}(h:Vals xs us):∀k:Nat,Vals (List.replicate k xs).flatten (List.replicate k us).flatten
 |0=>.nil
 |k+1=>by rw[Lc,Lc,KC,KC];show Vals.append h (Vals.rep h k)
theorem vO{a:Type}:∀(l:Y a)(i:Nat),(l.eraseIdx i).length<=l.length
 | [],_=>J0 _
 |_::_,0=>Oz _
 |_::r,i+1=>Nat.succ_le_succ (vO r i)
theorem qg(c:Y Value):∀(k:Nat)(a:Y Value),
  List.foldl (λg h=>g++h) a.toArray (List.replicate k c.toArray)=(a++(List.replicate k c).flatten).toArray
 |0,a=>by simp
 |k+1,a=>by
  have e:a.toArray++c.toArray=(a++c).toArray:=by simp
  have f:(a++c)++(List.replicate k c).flatten=a++(List.replicate (k+1) c).flatten:=by rw[Lc,KC,Kg]
  rw[←f,←qg c k (a++c),←e,Lc,List.foldl_cons]
section
variable{X:Cx}{a:Y (Addr×Ð)}{c:St}{H:Hp}{s:À}{l:Addr}{xs ys:Y V}
theorem Inv.lset{g Pa:Y Value}{n:Nat}{f:Array Value->Array Value}{t':Nat}(I:Inv X a c H s)(h:H l=Z (.lst xs))
  (e:s.heap.get? l=Z { cls:=.type "list",data:=.seq g.toArray n }) (o:f g.toArray=Pa.toArray) (r:Vals ys Pa) (t:ys.length<=sizeLine) :
  Inv X a c (au H l (.lst ys)) { s with heap:=s.heap.update l (û f),toks:=t' }:=by
 have q:=PySem.IsL.update e f;rw[o]at q;refine I.write (x:=l) (e:=l) (by rw[h];show trivial) (.inl S) (λv u j p=>(Ls s.heap (û f) (KW j)).trans p) ⟨_,q⟩ ?_;show⟨t,Pa,_,r,q⟩
theorem Inv.lnew{e:Y Value}{t':Nat}(I:Inv X a c H s)(f:Vals ys e)(g:ys.length<=sizeLine) :
  Inv X a c (au H s.heap.objs.size (.lst ys)) { s with heap:=s.heap.push { cls:=.type "list",data:=.seq e.toArray },toks:=t' }:=
 I.laid (λ_ _ q=>JW _ q) (J0 _) ⟨g,e,0,f,Kb _ S⟩
theorem Inv.fresh(I:Inv X a c H s):H s.heap.objs.size=ű:=I.hok.fresh (J0 _)
theorem Inv.lstM(I:Inv X a c H s)(g:H l=Z (.lst xs)):xs.length<=sizeLine/\∃(f:Y Value)(n:Nat),Vals xs f/\xs.length=f.length/\s.heap.get? l=Z { cls:=.type "list",data:=.seq f.toArray n }:=by let⟨z,f,n,r,e⟩:=I.hok l _ g;show⟨z,f,n,r,r.length,e⟩
theorem Eu{n:Nat}(h:n<=sizeLine):Builtin.List.listTooLong n=Ŵ:=by unfold Builtin.List.listTooLong;show Kd ()
end
section
variable{X:Cx}
noncomputable def IZ:V->Y V->Hp->VK->Prop:=λx vs H Q=>∃l xs y,x=.ref l/\vs=[y]/\H l=Z (.lst xs)/\xs.length<sizeLine/\Q .non (au H l (.lst (xs++[y])))
theorem rf:p9 X "list.append" IZ:=by intro f s w H x vs v us Q I o j h;let⟨l,xs,y,rfl,rfl,c,t,q⟩:=h;cases o;let⟨u,rfl,g⟩:=j.one;let⟨z,a,n,r,p,e⟩:=I.lstM c;refine LB F.slot_list_append ⟨_,e,S⟩ F.entry_list_append (F.args_list_append_2 _ _) (PySem.list_append l a.toArray n u (by rw[J2];omega)) ⟨e,?_⟩;refine⟨.non,_,I.lset (Pa:=a++[u]) c e (by simp) (r.append (.cons g .nil)) ?_,S,q⟩;rw[wy,List.length_singleton];omega
noncomputable def Dm:V->Y V->Hp->VK->Prop:=λx vs H Q=>∃l xs i k y,x=.ref l/\vs=[.int i]/\H l=Z (.lst xs)/\-(2^63)<=i/\i<2^63/\ą i xs.length=Z k/\xs[k]?=Z y/\Q y (au H l (.lst (xs.eraseIdx k)))
theorem A9:p9 X "list.pop" Dm:=by
 intro f s K H x vs v us Q I J G h;let⟨l,xs,i,k,y,rfl,rfl,c,j,o,p,C,q⟩:=h;cases J;let⟨u,rfl,E⟩:=G.one;let⟨t,rfl⟩:=E;let⟨z,a,n,r,A,e⟩:=I.lstM c;let⟨w,B,g⟩:=r.get C
 refine LB F.slot_list_pop ⟨_,e,S⟩ F.entry_list_pop (F.args_list_pop_2 _ _)
  (MeetsSeq.list_pop_at l a.toArray n i t k w (ĕ j o) (by rw[J2,←A];show p) (by rw[←OI];show B) (by rw[J2];omega)) ⟨e,?_⟩
 refine⟨y,_,I.lset (Pa:=a.eraseIdx k) c e ?_ (r.eraseIdx k) ?_,g,q⟩
 ·change a.toArray.eraseIdxIfInBounds k=(a.eraseIdx k).toArray;rw[List.eraseIdxIfInBounds_toArray]
 ·have:=vO xs k;omega
noncomputable def zj:R2:=λx y H Q=>∃l b xs a,x=.ref l/\y=.ref b/\H l=Z (.lst xs)/\H b=Z (.lst a)/\xs.length+a.length<=sizeLine/\∀p,H p=ű->Q (.ref p) (au H p (.lst (xs++a)))
theorem Cf:bR X (Í .Add) zj:=by
 intro f s K H x y v u Q I w A h;let⟨l,b,xs,J,rfl,rfl,p,o,E,q⟩:=h;cases w;cases A;let⟨z,a,n,r,C,e⟩:=I.lstM p;let⟨G,c,F,t,B,g⟩:=I.lstM o;refine PySem.P.add_list e g ?_ (by rw[J2,J2];omega)
 have j:a.toArray++c.toArray=(a++c).toArray:=by simp
 rw[j];show⟨.ref _,_,I.lnew (t':=s.toks) (r.append t) (by rw[wy];omega),S,q _ I.fresh⟩
noncomputable def Ak:R2:=λx y H Q=>∃l k xs,x=.ref l/\y=.int k/\H l=Z (.lst xs)/\-(2^63)<=k/\k<2^63/\xs.length*k.toNat<=sizeLine /\
 ∀p,H p=ű->Q (.ref p) (au H p (.lst (List.replicate k.toNat xs).flatten))
theorem pU{c:Type}(xs:Y c)(k:Nat):(List.replicate k xs).flatten.length=k*xs.length:=by
 induction k with
 |zero=>simp
 |succ k a=>rw[Lc,KC,wy,a,Oa,Nat.add_comm]
theorem sI:bR X (Í .Mult) Ak:=by
 intro p s R H x y v u Q I N O h;let⟨l,k,xs,rfl,rfl,K,G,J,o,q⟩:=h;cases N;let⟨t,rfl⟩:=O;let⟨z,c,n,r,M,e⟩:=I.lstM K
 have f:c.toArray.size*k.toNat<=sizeLine:=by rw[J2,←M];show o
 have A:¬ c.toArray.size*k.toNat>(2^63-1)/8:=by
  have:(sizeLine:Nat)<=(2^63-1)/8:=by decide
  omega
 have B:¬ (!Builtin.List.listFitsIndex k)=ų:=by rw[ĕ G J];show KI
 have C:¬ Builtin.List.listTooLong (c.toArray.size*k.toNat)=ų:=by rw[Eu f];show KI
 have w:List.foldl (λg j=>g++j) #[] (List.replicate (if c.toArray.isEmpty=ų then 0 else k.toNat) c.toArray)=(List.replicate k.toNat c).flatten.toArray:=by
  have E:∀m:Nat,List.foldl (λg j=>g++j) #[] (List.replicate m c.toArray)=(List.replicate m c).flatten.toArray:=λm=>by have:=qg c m [];rw[MM]at this;show this
  rw[E]
  cases c with
  |nil=>simp
  |cons a P=>rw[JV (by simp)]
 refine ě (T:="list") (U:="int") 'b' ⟨_,e,S⟩ (λs'=>N0 s' k t) noFill_list_mul F.fills_int_mul Nd repeat_list F.slot_int_index.lookup
  (LB Nd (N0 s k t) F.entry_int_rmul (F.args_int_rmul_2 _ _) (int___rmul___int_list k t l c.toArray n)
   ⟨e,S,⟨_,e,S⟩,LB F.slot_list_mul ⟨_,e,S⟩ F.entry_list_mul (F.args_list_mul_2 _ _) (AutoListH.list___mul___list_int_3 l c.toArray n k t B A C) ⟨e,?_⟩⟩)
 rw[w];show⟨.ref _,_,I.lnew (t':=s.toks) (r.rep k.toNat) (by rw[pU,Ob];show o),S,q _ I.fresh⟩
end
end L2
namespace Att
open PySem PySem.W PySem.Calls PyProof.Rows
theorem Ab{P:Ļ}{h:Heap}:∀(ns:Y Int)(vs:Y Value),WellAll P h vs (ns.map ů)->Ľ vs ns:=by
 intro ns
 induction ns with
 |nil=>
  intro vs w;rw[OO]at w;cases w;show .nil
 |cons n ns c=>
  intro vs w;rw[Kk]at w
  cases w with
  |cons a b=>
   cases a;show .cons _ _ (c _ b)
theorem Fp{l:OpenLaw}{n:Nat}(x:l.most=Z n){P:Ļ}{h:Heap}{args:Y WData}{vals:Y Value}
  (j:l.row.toRowW.claim.pre args=ų) (p:WellAll P h vals args) :
  ∃a vs ns,vals=[Value.ref a]/\args=[WData.list (ns.map ů)]/\h.get? a=Z { cls:=.type "list",data:=.seq vs.toArray }/\Ľ vs ns/\ns.length<=n:=by
 have g:WShape.hasAll [] args [.list .int]=ų:=(pre_splitW j).1;have o:l.pre.holds [] { args:=args }=ų:=(pre_splitW j).2;let⟨d,r,rfl,u,v⟩:=hasAllW_cons g;obtain rfl:=hasAllW_nil v;let⟨xs,rfl,w⟩:=hasW_list u;let⟨ns,rfl⟩:=items_int w
 have c:ns.length<=n:=by
  unfold OpenLaw.pre at o
  have e:(WTm.not (.lt (.lit (.int (n:Int))) (.len (.arg 0)))).holds [] { args:=[.list (ns.map .int)] }=ų:=by have e:=(holds_andW o).1;rw[x]at e;show e
  have f:=condW_of e (w_not (w_lt w_lit (w_len_list (w_arg S))));rw[mn]at f;refine Nat.le_of_not_lt λq=>?_
  have z:(n:Int)<((ns.length:Nat):Int):=by omega
  first
   |(rw[Kw z]at f;show absurd f 'b')
   |(simp at f;omega)
 cases p with
 |cons A B=>
  cases B
  cases A with
  |list y t=>show⟨_,_,ns,S,S,y,Ab ns _ t,c⟩
theorem zA(l:OpenLaw)(args:Y WData):l.row.toRowW.claim.post args (.bool ų) args=ų:=
 postW_of (r:=l.row.toRowW) (X:=(ų==ų))
  (show Ş [] (.bool ų) .bool=ų by first|rfl|decide|simp[Ş,WShape.arms,WShape.armsAll])
  (show (WTm.eq .res (.lit (.bool ų))).value [] { args:=args,res:=Z (.bool ų),after:=args }=Z (.bool (ų==ų))from w_eq_bool (w_res S) w_lit) S
theorem attach_call{l:OpenLaw}{n:Nat}{q:Ä}{e:Y Str}{x:(Str->Ų Value)->Heap->Prop}{y:Å->Heap->Prop}{d:DefRec}
  (Q:l.most=Z n) (I:d.params.defaults=[])
  (call:∀(w:Å)(s₀ c:À)(mg u:Str->Ų Value)(j:Addr)(o:Ð)(v t g:Value)(a:Addr)(vs:Y Value)(ns:Y Int),
   Ground q e [] x w s₀ mg u c.heap->y w c.heap->
   c.heap.get? j=Z o->o.data=.func (docDef d.name d.params d.body d.scope v t g)->c.heap.CodeRec t d.name->mg d.name=Z (.ref j)->
   c.heap.get? a=Z { cls:=.type "list",data:=.seq vs.toArray }->Ľ vs ns->ns.length<=n->c.gens=#[]->
   ã (model l.prog w) Ă (.call (.ref j) ⟨[.ref a],[]⟩) (λr s'=>r=.ok (.ret (.bool ų))/\OldK c.heap s'.heap/\s'.os=c.os/\í s'.gens) c) :
  WalkO q e x y l.row.toRowW d [] (λf vs=>PySem.call f vs):=by
 intro w s₀ c mg u G ar j o v t g J kV R hd B z C O args vals as F A T E U;obtain rfl:J=.none:=Dflts.none z I;obtain rfl:kV=.none:=Dflts.noKw z;let⟨a,vs,ns,rfl,rfl,H,h,p⟩:=Fp Q F E;refine enter_call (Mx (call w s₀ c mg u j o v t g a vs ns G ar R (fd_plain hd) B C H h p O) λr s' am=>?_);let⟨rfl,K,M,N⟩:=am;show⟨.inl ⟨.bool ų,.bool ų,[],S,λ_=>rfl,.bool ų,zA l _,λ_=>⟨List.Pairwise.nil,λ_ P=>(nomatch P)⟩⟩,K,M,N⟩
end Att
namespace L2
open PySem PySem.Spec PyProof.Rows
theorem sY:∀{vs:Y Value}{ns:Y Int},Ľ vs ns->Vals (ns.map V.int) vs
 |_,_,.nil=>.nil
 |_,_,.cons n t h=>.cons ⟨t,S⟩ (sY h)
noncomputable def qF(H:Hp):Prop:=∀b,H b=ű\/∃o xs,H b=Z (.frz o (.lst xs))
theorem zy{P:Ä}{w:Å}{K:Â}{mg T:Str->Ų Value}{CX:cM}{k:Nat}{N a:Addr}{aw:É}{x:Str}{sp:Sp}{c:À}{vs:Y Value}{ns:Y Int}
  (U:K.In c.heap) (X:c.heap.Ns Á mg) (g:c.heap.Ns ç T) (O:∀x:Str,x≠"__name__"->T x=ß x) (WS:c.heap.NoLimit)
  (Q:∃f l,mg "__builtins__"=Z (.ref f)/\f≠ç/\c.heap.get? f=Z l/\l.cls=.type "module"/\l.dict=Z ç/\l.data=.plain) (J:c.heap.NoSeer) (R:∃j,c.heap.Ns cStatics j/\j "sys.int_max_str_digits"=ű) (hg:c.gens=#[])
  (A:c.heap.get? a=Z { cls:=.type "list",data:=.seq vs.toArray }) (hi:Ľ vs ns) (hl:ns.length<=sizeLine) (hr:Room k Ă)
  (F:∀base:Heap,K.In base->base.Ns Á mg->FnOk P w K mg base CX k N aw [x] sp) (Vf:∀(s:À)(u:Value),đ s aw ⟨[u],[]⟩ [(x,u)])
  (S6:∀H:Hp,qF H->SqL K H a (ns.map V.int)->sp [.ref a] H (λv _=>v=.bl ų) λ_ _ _=>False)
  (WT:∀H e s',CX [] H c (λ_ _ _=>False) e s'->False) :
  ã (model P w) Ă (.call (.ref N) ⟨[.ref a],[]⟩) (λr s'=>r=.ok (.ret (.bool ų))/\OldK c.heap s'.heap/\s'.os=c.os/\í s'.gens) c:=by
 have rv:=sY hi;have WU:=hi.length
 have t:∀H:Hp,qF H->SqL K H a (ns.map V.int)->HOk P w H c.heap->(∀b,H b≠ű->b=a)->(H a≠ű->K.lookup a=ű)->
   ã (model P w) Ă (.call (.ref N) ⟨[.ref a],[]⟩) (λr s'=>r=.ok (.ret (.bool ų))/\OldK c.heap s'.heap/\s'.os=c.os/\í s'.gens) c:=by
  intro H hO hS hok M hK;have I:∀{b:Addr}{o:Ð},c.heap.get? b=Z o->H b=ű->(gU c.heap H).get? b=Z o:=λe n=>Gy e n
  have Va:∀{b:Addr}{o:Ð}{C:Array DictEntry}{B:Nat},c.heap.get? b=Z o->o.data=.dict C B->H b=ű:=λ{b o C B} e d=>by
   cases q:H b with
   |none=>rfl
   |some u=>
    have y:b=a:=M b (by rw[q];simp);subst y;rw[A]at e;cases e;have d':Data.seq vs.toArray _=Data.dict C B:=d;cases d'
  have p:∀{b:Addr}{m:Str->Ų Value},c.heap.Ns b m->(gU c.heap H).Ns b m:=λ{b m} OT=>by let⟨o,C,B,e,d,r⟩:=OT;show⟨o,C,B,I e (Va e d),d,r⟩
  have E:K.In (gU c.heap H):=λb o e=>I (U b o e) (by
   cases q:H b with
   |none=>rfl
   |some u=>
    have y:b=a:=M b (by rw[q];simp);subst y
    rw[hK (by rw[q];simp)]at e;cases e)
  have hM:Mod K mg (gU c.heap H):=⟨E,p X,⟨T,p g,O⟩,let ⟨j,h1,h2⟩:=WS;⟨j,p h1,h2⟩,let ⟨f,l,b1,b2,b3,b4,b5,b6⟩:=Q;⟨f,l,b1,b2,I b3 (by
   cases q:H f with
   |none=>rfl
   |some u=>
    have y:f=a:=M f (by rw[q];simp)
    rw[y,A]at b3;cases b3;injection b4 with z;show absurd z 'b'),b4,b5,b6⟩,
   ⟨let ⟨j,h1,h2⟩:=J.statics;⟨j,p h1,h2⟩,let ⟨j,h1,h2⟩:=J.mods;⟨j,p h1,h2⟩,let ⟨j,h1,h2⟩:=J.imp;⟨j,p h1,h2⟩,let ⟨m1,f,l,n1,b1,b3,b4,b5⟩:=J.main;⟨m1,f,l,p n1,b1,I b3 (by
   cases q:H f with
   |none=>rfl
   |some u=>
    have y:f=a:=M f (by rw[q];simp)
    rw[y,A]at b3;cases b3;injection b4 with z;show absurd z 'b'),b4,b5⟩⟩,let ⟨j,h1,h2⟩:=R;⟨j,p h1,h2⟩⟩
  have e0:Env0 P w K mg (gU c.heap H) Ă [] c H:=⟨S,hM,λb o e=>yw e,Mh (Hq _ _),trivial,λb g=>absurd (show b∈([]:Y Addr)from g) (by simp),hok,.of_eq hg⟩;refine Mx ((F _ E (p X)).run Ă [] c H ⟨[.ref a],[]⟩ [.ref a] [.ref a] _ _ hr e0 (Vf c (.ref a)) (.cons S .nil) (S6 H hO hS)) λr s' h=>?_
  cases r with
  |error e=>show (WT H e s' h).elim
  |ok fl=>
   cases fl with
   |next=>show Ô h
   |brk=>show Ô h
   |cont=>show Ô h
   |ret u=>
    let⟨v,H',os,bare,un,WV,r',q⟩:=h;have q':v=.bl ų:=q;subst q';obtain rfl:u=Value.bool ų:=r';refine⟨S,OldK.of_keep λb o e=>?_,os,bare⟩
    cases q:H b with
    |none=>show un.keep b o e q (by intro z;show absurd (show b∈([]:Y Addr)from z) (by simp)) (by simp)
    |some u=>
     rcases hO b with z|⟨l,xs,z⟩
     ·rw[q]at z;cases z
     ·have z2:=un.frzs b l _ z;let⟨ar,_⟩:=hok b _ z;let⟨e2,_⟩:=WV b _ z2;rw[e]at ar;cases ar;show e2
 cases am:K.lookup a with
 |some o=>
  have e:=U a o am;rw[A]at e;cases e;refine t (λ_=>ű) (λ_=>.inl S) (.inr ⟨_,vs.toArray,_,am,S,S,S,by rw[J2,WU];show hl,by simpa using rv⟩) (λb u z=>by have G:(ű:Ų HO)=Z u:=z;cases G) (λb z=>absurd S z) λz=>absurd S z
 |none=>
  refine t (λb=>if b=a then Z (.frz { cls:=.type "list",data:=.seq vs.toArray } (.lst (ns.map V.int))) else ű) (λb=>?_) (.inl (.inr ⟨{ cls:=.type "list",data:=.seq vs.toArray },JX S⟩)) (λb u z=>?_) (λb z=>?_) λ_=>am
  ·by_cases g:b=a
   ·show .inr ⟨_,_,JX g⟩
   ·show .inl (JV g)
  ·by_cases g:b=a
   ·have G:=(JX g).symm.trans z;cases G;subst g;show⟨A,by rw[mn];show hl,vs,_,rv,A⟩
   ·have G:=(JV g).symm.trans z;cases G
  ·by_cases g:b=a
   ·show g
   ·show absurd (JV g) z
theorem walk_of{l:PySem.W.OpenLaw}{n k:Nat}{q:Ä}{j:Y Str}{M:(Str->Ų Value)->Heap->Prop}{z:Å->Heap->Prop}{d:DefRec}{K:Ļ->Â}{CX:Å->cM}{sp:Å->Sp}{x:Str}
  (X:l.most=Z n) (C:n<=sizeLine) (I:d.params.defaults=[]) (U:importsNone q=ų) (aw:Room k Ă)
  (R:∀(w:Å)(h:Heap),z w h->(K w.params).In h)
  (F:∀(w:Å)(mg:Str->Ų Value)(r:Addr)(h:Heap),(K w.params).In h->h.Ns Á mg->mg d.name=Z (.ref r)->
   ∃t:É,(∀(s:À)(u:Value),đ s t ⟨[u],[]⟩ [(x,u)]) /\
    ∀base:Heap,(K w.params).In base->base.Ns Á mg->FnOk l.prog w (K w.params) mg base (CX w) k r t [x] (sp w))
  (B:∀(w:Å)(H:Hp)(a:Addr)(ns:Y Int),ns.length<=n->qF H->SqL (K w.params) H a (ns.map V.int)->sp w [.ref a] H (λv _=>v=.bl ų) λ_ _ _=>False)
  (J:∀(w:Å)(H:Hp)(s:À)(e:Value)(s':À),CX w [] H s (λ_ _ _=>False) e s'->False) :
  PySem.W.WalkO q j M z l.row.toRowW d [] (λf vs=>PySem.call f vs):=by
 refine Att.attach_call X I λw s₀ p mg mb r o pm cd N a vs ns G ar ho hd O0 A E g c T=>?_;have y:=R w _ ar;let⟨t,am,O⟩:=F w mg r _ y G.T.g A;show zy y G.T.g G.T.b G.T.builtins G.T.nolimit G.T.bmain (G.T.seer U) G.T.nodigits T E g (J6 c C) aw O am (λH P Q=>B w H a ns c P Q) λH e s'=>J w H p e s'
end L2
/- THE LAST Wh (shape; LID, My.* are yours):
   My.Adr: a structure of Wi addresses that your layer names (classes, UU); My.Txt K t: a structure (Prop) of Wi equations over K;
   My.txt_mk : {K} {implicit addresses ..} (e1 : nsIn K mainGlobals "law" = some (some (.ref f))) (e2 : K.lookup f = some ⟨oc, od, .func (fnOf "law" "law" params body scope dV kV doc pm an O1 ct), sl⟩) (e3 : codeIn K O1 "law" = true) .. : ∃t, My.Txt K t
set_option maxRecDepth 100000 in
set_option maxHeartbeats 0 in
theorem PySem.Challenge.cw_LID_holds : PySem.Challenge.rw_LID.Holds := by
 w_on;o_law;k_head;(case hw=>w_witness2)
 k_fill
 refine L2.walk_of (l:=PySem.Challenge.rw_LID) (n:=63) (k:=40) (x:="script") (CX:=λw=>..) (sp:=λ_=>My.sp_law) S 'b' S ⟨S,'b','b'⟩ (λw h U=>kIn_of U) ?F ?Q ?C
 case F=>
  intro w mg fa h KX G Ri
  have T:∃t,My.Txt (L2.KOf KX) t:=by
   dsimp only[L2.KOf]                          -- K must stand as «<heap const> w.params» for k_is;refine' My.txt_mk ?e1 ?e2 ?e3 ..
   (case e1=>PySem.W.k_is)                    -- in Wi order: a name-> OU address-> OU object-> OU parts
   (case e2=>PySem.W.k_is)
   ..
  let⟨t,T⟩:=T;have e0:=Ri.symm.trans (ú KX G T.law);cases e0                                       -- fa is Wi law's own address
  show⟨_,λs u=>.of_eq S,λbase kb nb=>My.law_fn T kb nb⟩     -- if «.of_eq S» comes too early: refine' ⟨_,?b,λbase kb nb=>My.law_fn T kb nb⟩;show λs u=>.of_eq S
 case Q=>show λw H a ns hl hO hS=>..
 case C=>show ..
(Wi tactic k_is has no namespace: write k_is) -/
namespace L2
open PySem PySem.Spec PyProof.Rows
noncomputable def iJ(s:Ë)(j:Nat):Ë:=match s with
 |.ClassDef _ _ _ a _ _ _ _ _ _ _=>a.getD j (.Pass ⟨0,0,0,0⟩)
 |_=>.Pass ⟨0,0,0,0⟩
noncomputable def eI(s:Ë):Arguments:=match s with
 |.FunctionDef _ a _ _ _ _ _ _ _ _=>a
 |_=>{ posonlyargs:=[],args:=[],vararg:=ű,kwonlyargs:=[],kw_defaults:=[],kwarg:=ű,defaults:=[] }
noncomputable def cY(s:Ë):Y Ë:=match s with
 |.FunctionDef _ _ b _ _ _ _ _ _ _=>b
 |_=>[]
noncomputable def aQ(s:Ë):æ:=match s with
 |.FunctionDef _ _ _ _ _ _ a _ _ _=>a
 |_=>{ kind:=.function,names:=[],isGenerator:=Ŵ,isCoroutine:=Ŵ }
noncomputable abbrev bt:cM:=λ_ _ _ _ _ _=>False
noncomputable abbrev E0:XK:=λ_ _ _=>False
theorem mS{X:Cx}:jS bt X E0:=λ_ _ _ _ _ _ _ h=>h.elim
structure Fun(K:Â)(x qual:Str)(st:Ë)(f:Addr)(fd:É):Prop where
 ex:∃(oc:Value)(od:Option Addr)(kV doc pm:Value)(an:Option Addr)(O1 ct:Value)(RP:Array (Option Value)),
  fd=ć x qual (eI st) (cY st) (aQ st) .none kV doc pm an O1 ct/\K.lookup f=Z ⟨oc,od,.func fd,RP⟩/\ā K O1 qual=ų
 kp:Ü K (.ref f)=ų
section
variable{K:Â}
theorem Fun.binds{x qual:Str}{st:Ë}{f:Addr}{j:É}{ps:Y Str}(F:Fun K x qual st f j)
  (h:∀(kV a g:Value)(e:Ų Addr)(c ct:Value)(us:Y Value),us.length=ps.length->Ę (ć x qual (eI st) (cY st) (aQ st) .none kV a g e c ct) ⟨us,[]⟩=pure (ps.zip us)):Binds K j ps []:=by
 let⟨p,r,kV,a,g,e,c,ct,o,rfl,lk,l⟩:=F.ex;show .all (h kV a g e c ct)
theorem wF{x qual:Str}{st:Ë}{f:Addr}{o:Value}{p g:Ų Addr}{j:Array (Ų Value)}{kV a h e ct:Value}(l:K.lookup f=Z ⟨o,p,.func (ć x qual (eI st) (cY st) (aQ st) .none kV a h g e ct),j⟩)
  (c:ā K e qual=ų) (k:Ü K (.ref f)=ų):Fun K x qual st f (ć x qual (eI st) (cY st) (aQ st) .none kV a h g e ct):=⟨⟨o,p,kV,a,h,g,e,ct,j,S,l,c⟩,k⟩
end
theorem ed{n:Nat}(h:n<=1000):n<sizeLine:=Nat.lt_of_le_of_lt h 'b'
section
variable{X:Cx}
theorem pv(i:Nat){x:Str}{a:Õ}(e:X.N[i]?=Z x:=by rfl)(f:b7 X.env.scope x:=by nofun)(hd:ad x:=by decide)
  (c:ap x:=by decide):PE X (.Name x a) (jk i):=rO e f hd c
end
theorem rG{A B:Prop}(h:B):if Ŵ=ų then A else B:=by rw[JV KI];show h
theorem ra{A B:Prop}(h:A):if ų=ų then A else B:=by rw[JX S];show h
noncomputable def Same(H a:Hp):Prop:=∀b o,H b=Z o->a b=Z o
theorem Same.refl(H:Hp):Same H H:=λ_ _ h=>h
theorem Same.trans{H e f:Hp}(a:Same H e)(b:Same e f):Same H f:=λc o h=>b c o (a c o h)
theorem Same.free{H a:Hp}(e:Same H a){l:Addr}(h:a l=ŗ):H l=ŗ:=by
 cases q:H l with
 |none=>rfl
 |some o=>
  rw[e l o q]at h;cases h
theorem Same.seq{K:Â}{H c:Hp}{a:Addr}{xs:Y V}(e:Same H c)(h:SqL K H a xs):SqL K c a xs:=by
 rcases h with (h|⟨o,h⟩)|h
 ·show .inl (.inl (e _ _ h))
 ·show .inl (.inr ⟨o,e _ _ h⟩)
 ·show .inr h
section
variable{a:Type}[DecidableEq a]
noncomputable def eT(c:Y (a×V))(k:a):Ų V:=(c.find? λe=>decide (e.1=k)).map (·.2)
noncomputable def ft(e:Y (a×V))(k:a)(v:V):Y (a×V):=
 if (e.any λc=>decide (c.1=k))=ų then e.map (λc=>if c.1=k then (c.1,v) else c) else e++[(k,v)]
theorem n5{p:a×V}{r:Y (a×V)}{k:a}(e:p.1=k):eT (p::r) k=Z p.2:=by simp[eT,LP,e]
theorem pq{p:a×V}{r:Y (a×V)}{k:a}(e:¬ p.1=k):eT (p::r) k=eT r k:=by simp[eT,LP,e]
theorem sV(k:a):∀c:Y (a×V),(c.any λf=>decide (f.1=k))=(eT c k).isSome
 | []=>rfl
 |p::r=>by
  rw[Mc];by_cases e:p.1=k
  ·simp only[n5 e,Kw e,Bool.true_or,Ĝ]
  ·rw[pq e,Kd e,Bool.false_or];show sV k r
theorem xv(c:Y (a×V))(k:a)(v:V):(ft c k v).length<=c.length+1:=by
 unfold ft;split
 ·rw[mn];omega
 ·rw[wy,J1,K5];omega
theorem RelO.isSome_eq{o:Ų V}{u:Ų Value}(r:RelO o u):o.isSome=u.isSome:=by
 cases o with
 |none=>cases u with
  |none=>rfl
  |some _=>show (show False from r).elim
 |some _=>cases u with
  |none=>show (show False from r).elim
  |some _=>rfl
theorem KV.val{g:Y (a×V)}{vs:Y (a×Value)}(r:KV g vs)(k:a):RelO (eT g k) (Č vs k):=by
 unfold KV at r
 induction r with
 |nil=>show à
 | @cons p q ps f h t o=>
  let⟨j,l⟩:=h;by_cases e:p.1=k
  ·have c:q.1=k:=j.symm.trans e
   have b:Č (q::f) k=Z q.2:=by simp[Č,LP,c]
   rw[n5 e,b];show l
  ·have c:¬ q.1=k:=λz=>e (j.trans z)
   have b:Č (q::f) k=Č f k:=by simp[Č,LP,c]
   rw[pq e,b];show o
theorem KV.any{e:Y (a×V)}{vs:Y (a×Value)}(r:KV e vs)(k:a):(e.any λc=>decide (c.1=k))=vs.any λc=>decide (c.1=k):=by
 unfold KV at r
 induction r with
 |nil=>rfl
 |cons h t f=>rw[Mc,Mc,f,h.1]
theorem KV.repl{g:Y (a×V)}{vs:Y (a×Value)}(r:KV g vs)(k:a){y:V}{u:Value}(o:RelV y u) :
  KV (g.map λc=>if c.1=k then (c.1,y) else c) (vs.map λc=>if c.1=k then (c.1,u) else c):=by
 unfold KV at r ⊢
 induction r with
 |nil=>show .nil
 | @cons p q ps v h t l=>
  rw[Kk,Kk];refine .cons ?_ l;let⟨f,j⟩:=h;by_cases e:p.1=k
  ·rw[JX e,JX (f.symm.trans e)];show⟨f,o⟩
  ·rw[JV e,JV (λz=>e (f.trans z))];show⟨f,j⟩
theorem KV.put{c:Y (a×V)}{vs:Y (a×Value)}(r:KV c vs)(k:a){y:V}{u:Value}(f:RelV y u):KV (ft c k y) (stored vs k u):=by
 unfold ft stored;rw[r.any k];by_cases e:(vs.any λg=>decide (g.1=k))=ų
 ·rw[JX e,JX e];show r.repl k f
 ·rw[JV e,JV e];show ď r ⟨S,f⟩
theorem KV.length{c:Y (a×V)}{vs:Y (a×Value)}(r:KV c vs):c.length=vs.length:=M3 r
end
theorem qe{P:Ä}{w:Å}{k:aO}{u:Value}(r:RelV (kV k) u):(eP P w).is k u=ų:=by
 cases k with
 |inl i=>let⟨t,e⟩:=(show ∃t,u=Value.int i t from r);subst e;show Gb P w i t
 |inr x=>let⟨t,e⟩:=(show ∃t,u=Value.str x t from r);subst e;show Bb P w x t
theorem uI{P:Ä}{w:Å}:∀{a:Y aO}{us:Y Value},Vals (a.map kV) us->ItemsAre (eP P w) a us
 | [],_,r=>by rw[OO]at r;cases r;show .nil
 |k::a,_,r=>by
  rw[Kk]at r
  cases r with
  |cons h t=>show .cons (qe h) (uI t)
noncomputable abbrev KT(H:Hp):Y (Y aO×V)->Y (Y aO×Addr×Value)->Prop:=Paired λp q=>p.1=q.1/\H q.2.1=Z (.tup (p.1.map kV))/\RelV p.2 q.2.2
theorem KT.val{H:Hp}{f:Y (Y aO×V)}{xs:Y (Y aO×Addr×Value)}(r:KT H f xs)(k:Y aO):RelO (eT f k) ((Ī xs k).map (·.2)):=by
 induction r with
 |nil=>show à
 | @cons p q ps c h t l=>
  let⟨g,_,j⟩:=h;by_cases e:p.1=k
  ·have a:q.1=k:=g.symm.trans e
   have b:Ī (q::c) k=Z q.2:=by simp[Ī,LP,a]
   rw[n5 e,b];show j
  ·have a:¬ q.1=k:=λz=>e (g.trans z)
   have b:Ī (q::c) k=Ī c k:=by simp[Ī,LP,a]
   rw[pq e,b];show l
theorem KT.repl{H:Hp}{f:Y (Y aO×V)}{xs:Y (Y aO×Addr×Value)}(r:KT H f xs)(k:Y aO){y:V}{u:Value}(o:RelV y u) :
  KT H (f.map λc=>if c.1=k then (c.1,y) else c) (xs.map (putAt k u)):=by
 induction r with
 |nil=>show .nil
 | @cons p q ps v h t l=>
  rw[Kk,Kk];refine .cons ?_ l;let⟨a,g,j⟩:=h;unfold putAt;by_cases e:p.1=k
  ·rw[JX e,JX (a.symm.trans e)];show⟨a,g,o⟩
  ·rw[JV e,JV (λz=>e (a.trans z))];show⟨a,g,j⟩
theorem KT.put{H:Hp}{a:Y (Y aO×V)}{xs:Y (Y aO×Addr×Value)}(r:KT H a xs)(k:Y aO){b:Addr}{y:V}{u:Value}(f:H b=Z (.tup (k.map kV)))(c:RelV y u) :
  KT H (ft a k y) (storedH xs k b u):=by
 have e:(a.any λg=>decide (g.1=k))=(Ī xs k).isSome:=by rw[sV,(r.val k).isSome_eq,Ģ]
 unfold ft storedH;rw[e];by_cases q:(Ī xs k).isSome=ų
 ·rw[JX q,JX q];show r.repl k c
 ·rw[JV q,JV q];show ď r ⟨S,f,c⟩
theorem KT.keeps{H a:Hp}{c:Y (Y aO×V)}{xs:Y (Y aO×Addr×Value)}(r:KT H c xs)(e:∀b ys,H b=Z (.tup ys)->a b=Z (.tup ys)):KT a c xs:=
 Paired.mapP r λ_ _ z=>⟨z.1,e _ _ z.2.1,z.2.2⟩
section
variable{P:Ä}{w:Å}{H:Hp}{h:Heap}{a:Addr}
theorem tQ{u:HO}(ok:HOk P w H h)(e:Rd H a u):ObjOk P w H h a u:=e.ok ok
theorem yd{c:Y (aO×V)}(ok:HOk P w H h)(e:Rd H a (.dK c)):c.length<=sizeLine/\(a==Þ)=Ŵ/\∃vs,KV c vs/\h.DictOf (eP P w) a vs:=
 show ObjOk P w H h a (.dK c)from tQ ok e
theorem BP{c:Y (aO×V)}(ok:HOk P w H h)(e:H a=Z (.dK c)):c.length<=sizeLine/\(a==Þ)=Ŵ/\∃vs,KV c vs/\h.DictOf (eP P w) a vs:=yd ok (.inl e)
theorem rE{c:Y aO}(ok:HOk P w H h)(e:H a=Z (.tup (c.map kV))):(Ą (eP P w)).is h c a:=by let⟨_,f,r,o,g,⟨j,_⟩,n,l⟩:=(show ObjOk P w H h a (.tup (c.map kV))from ok a _ e);show⟨o,f.toArray,n,g,j,l,by simpa using uI r⟩
theorem vZ{f:Y (Y aO×V)}(ok:HOk P w H h)(e:Rd H a (.dT f)):f.length<=sizeLine/\(a==Þ)=Ŵ /\
  ∃xs,KT H f xs/\h.DictOfH (Ą (eP P w)) a xs:=by
 let⟨z,y,xs,r,o,u,j,v,A,B,C,E⟩:=(show ObjOk P w H h a (.dT f)from tQ ok e);refine⟨z,y,xs,r,o,u,j,v,A,B,C,λx c=>?_,E⟩
 have all:∀{l:Y (Y aO×V)}{m:Y (Y aO×Addr×Value)},KT H l m->∀x∈m,(Ą (eP P w)).is h x.1 x.2.1:=by
  intro l m q
  induction q with
  |nil=>intro x c;show nomatch c
  | @cons p q ps G g t F=>
   intro x c;rcases J9.mp c with e|c
   ·subst e;show rE ok (by rw[←g.1];show g.2.1)
   ·show F x c
 show all r x c
theorem yW{c:Y (Y aO×V)}(ok:HOk P w H h)(e:H a=Z (.dT c)):c.length<=sizeLine/\(a==Þ)=Ŵ /\
  ∃xs,KT H c xs/\h.DictOfH (Ą (eP P w)) a xs:=vZ ok (.inl e)
end
noncomputable def DGet(H:Hp)(a:Addr)(y:V)(r:Ų V):Prop:=
 (∃c k,Rd H a (.dK c)/\y=kV k/\r=eT c k)\/∃c k b,Rd H a (.dT c)/\y=.ref b/\H b=Z (.tup (k.map kV))/\r=eT c k
noncomputable def DPut(H:Hp)(a:Addr)(y v:V)(e:Hp):Prop:=
 (∃c k,H a=Z (.dK c)/\y=kV k/\c.length<sizeLine/\e=au H a (.dK (ft c k v))) \/
 ∃c k b,H a=Z (.dT c)/\y=.ref b/\H b=Z (.tup (k.map kV))/\c.length<sizeLine/\e=au H a (.dT (ft c k v))
theorem DGet.k{H:Hp}{a:Addr}{c:Y (aO×V)}{k:aO}(e:H a=Z (.dK c)):DGet H a (kV k) (eT c k):=.inl ⟨c,k,.inl e,S,S⟩
theorem DPut.k{H:Hp}{a:Addr}{c:Y (aO×V)}{k:aO}{v:V}(e:H a=Z (.dK c))(f:c.length<sizeLine):DPut H a (kV k) v (au H a (.dK (ft c k v))):=.inl ⟨c,k,e,S,f,S⟩
section
variable{X:Cx}{f:Y (Addr×Ð)}{j:St}{H:Hp}{s:À}{a:Addr}{y v:V}{u r:Value}{o:Ų V}{A:È}{E:Value->À->Prop}
theorem Inv.big(I:Inv X f j H s):Þ<s.heap.objs.size:=by have h:Á<s.heap.objs.size:=(I.mod.glob.keeps I.bk).lt;show Nat.lt_trans 'b' h
theorem zp{Q:Value->À->Prop}(C:A.units+1<ä)(I:Inv X f j H s)(g:DGet H a y o)(w:RelV y u)(h:∀s',Inv X f j H s'->Q (.bool o.isSome) s') :
  wpAny (model X.prog X.w) A (Æ .In u (.ref a)) Q E s:=by
 rcases g with⟨x,k,e,t,l⟩|⟨x,k,b,e,t,B,l⟩
 ·subst t;let⟨z,hd,vs,c,p⟩:=yd I.hok e;refine wpAny_in_of (qe w) hd p.mapOf ?_;rw[←(c.val k).isSome_eq,←l];show h _ (I.tok _)
 ·subst t;cases (show u=Value.ref b from w);let⟨z,hd,xs,c,p⟩:=vZ I.hok e;refine wpAny_in_heap (ő C) (rE I.hok B) hd p ?_;have q:=(c.val k).isSome_eq;rw[Ģ]at q;rw[←q,←l];show h _ (I.tok _)
theorem uG{h':Heap}{t':Nat}{c:HO}(I:Inv X f j H s)(p:lz (H a))(l:Heap.SameBut a s.heap h')(h:∃q,h'.get? a=Z q)(new:ObjOk X.prog X.w (au H a c) h' a c) :
  Inv X f j (au H a c) { s with heap:=h',toks:=t' }:=
 I.write (x:=a) (e:=a) p (.inl S) (λb q g z=>(l.2 b g).trans z) h new
theorem B8{P:Ä}{w:Å}{g:Hp}{h':Heap}{c:Y (aO×V)}{vs:Y (aO×Value)}(z:c.length<=sizeLine)(hd:(a==Þ)=Ŵ)(e:KV c vs)(h:h'.DictOf (eP P w) a vs) :
  ObjOk P w g h' a (.dK c):=⟨z,hd,vs,e,h⟩
theorem JE{M:Hp}{Q:Unit->À->Prop}(hu:A.units+1<ä)(I:Inv X f j H s)(g:DPut H a y v M)(R:RelV y u)(P:RelV v r)(h:∀s',Inv X f j M s'->Q Unit.unit s') :
  wpAny (model X.prog X.w) A (setItem (.ref a) u r) Q E s:=by
 rcases g with⟨t,k,e,F,l,C⟩|⟨t,k,b,e,F,N,l,C⟩
 ·subst F C;let⟨z,hd,vs,p,B⟩:=BP I.hok e
  have K:vs.length<=sizeLine:=by rw[←p.length];show z
  have G:(ft t k v).length<=sizeLine:=by have:=xv t k v;omega
  refine wpAny_setItem_pairs (hsz:=K) (qe R) B λh' w J=>h _ ?_
  have he:∃q,h'.get? a=Z q:=let ⟨q,_,_,x,_⟩:=w;⟨q,x⟩
  show uG I (by rw[e];show à) J he (B8 G hd (p.put k P) w)
 ·subst F C;cases (show u=Value.ref b from R);let⟨z,hd,xs,p,B⟩:=yW I.hok e
  have K:xs.length<=sizeLine:=by rw[←M3 p];show z
  have G:(ft t k v).length<=sizeLine:=by have:=xv t k v;omega
  refine wpAny_setItem_heap (hsz:=K) (ő hu) (rE I.hok N) B λh' w J=>h _ ?_;let⟨q,T,am,x,U,ar,aw,_,h5⟩:=w;refine uG I (by rw[e];show à) J ⟨q,x⟩ ⟨G,hd,_,(p.put k N P).keeps λc ys O=>?_,q,T,am,x,U,ar,aw,h5⟩;rw[aH (Hl O e (λz=>nomatch z))];show O
end
noncomputable def zr(g td:TE):TE:=λe H Q=>g e H λy f=>td e f λx c=>∃a o,x=.ref a/\DGet c a y o/\Q (.bl o.isSome) c
noncomputable def AY(td l j:TE):TS:=λD c H=>j c H λv f=>td c f λx g=>l c g λy h=>∃a e,x=.ref a/\DPut h a y v e/\D.nx c e
section
variable{X:Cx}{o i c:Ã}{f e:Õ}{td j l:TE}
theorem Bh(E:X.A.units+1<ä)(B:PE X i j)(C:PE X o td):PC X .In i o (zr j td):=by intro p s r H Q I h;refine aI (B p s r H _ I h) λO N ⟨y,t,w,M,G⟩=>aI (C p N r t _ w G) λu P ⟨x,v,z,K,a,F,ex,g,J⟩=>?_;subst ex;obtain rfl:u=Value.ref a:=K;show zp E z g M λR A=>⟨.bl F.isSome,v,A,S,J⟩
theorem Fq(M:X.A.units+1<ä)(J:PE X o td)(G:PE X i j)(N:PE X c l)(K:Ñ c (Z (.Subscript o i e)) f.line X.env=pure Ŵ) :
  PS X (.Assign [.Subscript o i e] c f) (AY td j l):=by
 intro p s t H D I h;refine wpAny_Assign_Subscript (aI (N p s t H _ I h) λr U ⟨v,w,B,R,O⟩=>aI (J p U t w _ B O) λu ar ⟨x,z,C,am,P⟩=>aI (G p ar t z _ C P) λiv s3 ⟨y,aw,E,T,a,A,ex,g,Q⟩=>?_) K;subst ex;obtain rfl:u=Value.ref a:=am;show JE M E g T R λs4 F=>⟨t,A,F,Q⟩
end
theorem Iv{P:Ä}{w:Å}{H:Hp}(h:Heap)(a:Þ<h.objs.size):ObjOk P w H (h.push { cls:=.type "dict",data:=.dict #[] }) h.objs.size (.dK []):=
 ⟨K1 _,K7.mpr (KW (KA a)),[],.nil,Heap.DictOf.new h⟩
noncomputable def DN:TE:=λ_ H Q=>∀p,H p=ű->Q (.ref p) (au H p (.dK []))
section
variable{X:Cx}{c:Õ}
theorem pe_dnewK:PE X (.Dict [] [] c) DN:=λe s f H Q I h=>
 wpAny_Dict_empty ⟨.ref s.heap.objs.size,_,I.laid (a:=s.heap.objs.size) (o:=.dK []) (t':=s.toks) (λ_ _ q=>JW _ q) (J0 _) (Iv s.heap I.big),S,h _ (I.hok.fresh (J0 _))⟩
end
end L2
set_option maxHeartbeats 4000000
namespace L2
open PySem PySem.Spec PyProof.Rows
theorem GB{env:ê}(names:Y (Str×NameKind))(w:∀x∈names,x.2=.free->∃c,env.cells.lookup x.1=Z c):∀f:Y (Str×Addr),
  ∃cl:Y (Str×Addr),(forIn names f (λ(x:Str×NameKind) u=>if (x.2==.free)=ų then do let a ←cellOf env x.1;pure (ForInStep.yield ((x.1,a)::u)) else pure (ForInStep.yield u)):Sem (Y (Str×Addr)))=pure cl /\
   (∀p∈cl,p∈f\/env.cells.lookup p.1=Z p.2)/\(∀p∈f,p∈cl)/\∀x,(x,NameKind.free)∈names->∃c,(x,c)∈cl:=by
 induction names with
 |nil=>intro f;show⟨f,S,λp g=>.inl g,λ_ g=>g,λx h=>by simp at h⟩
 |cons n r A=>
  intro f;let⟨n,k⟩:=n;have y:∀x∈r,x.2=.free->∃c,env.cells.lookup x.1=Z c:=λx h=>w x (JZ _ h);by_cases t:k=.free
  ·subst t;let⟨c,v⟩:=w (n,.free) JY S;let⟨cl,e,l,j,o⟩:=A y ((n,c)::f);refine⟨cl,?_,λp g=>?_,λp g=>j p (JZ _ g),λx h=>?_⟩
   ·rw[Nf,←e]
    have q:cellOf env n=pure c:=by unfold cellOf;rw[v]
    simp[q]
   ·rcases l p g with z|z
    ·rcases J9.mp z with rfl|z
     ·show .inr v
     ·show .inl z
    ·show .inr z
   ·rcases J9.mp h with z|z
    ·cases z;show⟨c,j _ JY⟩
    ·show o x z
  ·let⟨cl,e,l,j,o⟩:=A y f;refine⟨cl,?_,l,j,λx h=>?_⟩
   ·rw[Nf,←e]
    have q:(k==NameKind.free)=Ŵ:=by simpa using t
    simp[q]
   ·rcases J9.mp h with z|z
    ·cases z;show absurd S t
    ·show o x z
theorem yN{cl:Y (Str×Addr)}{cells:Y (Str×Addr)}(h:∀p∈cl,cells.lookup p.1=Z p.2):∀x c,cl.lookup x=Z c->cells.lookup x=Z c:=λx c e=>h (x,c) (K8 e)
theorem zG{cl:Y (Str×Addr)}{x:Str}{c:Addr}:(x,c)∈cl->∃a,cl.lookup x=Z a:=by
 induction cl with
 |nil=>intro h;simp at h
 |cons p r f=>
  intro h;rw[Kl]
  cases e:x==p.1 with
  |true=>show⟨_,S⟩
  |false=>
   rcases J9.mp h with z|z
   ·subst z;simp at e
   ·show f z
theorem vj{scope:æ}{env:ê}(h:∀x∈scope.names,x.2=.free->∃c,env.cells.lookup x.1=Z c) :
  ∃cl,closureFor scope env=pure cl/\(∀x c,cl.lookup x=Z c->env.cells.lookup x=Z c)/\∀x,(x,NameKind.free)∈scope.names->∃c,cl.lookup x=Z c:=by
 let⟨cl,e,a,_,f⟩:=GB (env:=env) scope.names h [];refine⟨cl,?_,yN λp j=>(a p j).elim (λz=>by simp at z) id,λx l=>?_⟩
 ·unfold closureFor;simp only;rw[←e];simp
 ·let⟨c,g⟩:=f x l;show zG g
theorem pV{env:ê}:∀{names:Y (Str×NameKind)}{x:Str}{k:NameKind},
  (names.map λ(n,k)=>if (k==NameKind.free&&env.scope.kind==.function&&env.kindOf n==Z .cell) then (n,NameKind.cell) else (n,k)).lookup x=Z k->(k=.cell\/k=.free)->(x,NameKind.free)∈names\/(x,NameKind.cell)∈names
 | [],_,_,h,_=>by simp at h
 |(n,k)::r,x,j,h,c=>by
  have g:=@pV env r x j;have h:List.lookup x ((if (k==NameKind.free&&env.scope.kind==.function&&env.kindOf n==Z .cell)=ų then (n,NameKind.cell) else (n,k))::_)=_:=h;by_cases a:(k==NameKind.free&&env.scope.kind==.function&&env.kindOf n==Z .cell)=ų
  ·rw[JX a]at h
   have l:k=.free:=by simp only[Kc,L3]at a;show a.1.1
   rw[Kl]at h
   cases e:x==n with
   |true=>
    have:x=n:=by simpa using e
    subst this;subst l;show .inl JY
   |false=>
    simp only[e]at h;show (g h c).imp (JZ _) (JZ _)
  ·rw[JV a]at h;rw[Kl]at h
   cases e:x==n with
   |true=>
    have f:k=j:=by simpa [e] using h
    have:x=n:=by simpa using e
    subst this;subst f;rcases c with rfl|rfl
    ·show .inr JY
    ·show .inl JY
   |false=>
    simp only[e]at h;show (g h c).imp (JZ _) (JZ _)
noncomputable def cV(X:Cx)(scope:æ)(N':Y Str)(cl:Y (Str×Addr))(C:Addr)(e:À)(a:Hp)(c:Y Addr):Cx where
 prog:=X.prog
 w:=X.w
 K:=X.K
 mg:=X.mg
 base:=X.base
 A:=X.A
 N:=N'
 s₀:=e
 H₀:=a
 env:=ė scope cl C X.env
 outer:=X.stack
 stack:=X.stack
 ex:=c
 fn:=λx=>scope.names.lookup x==Z .cell
 calm:=X.calm
 pn:=[]
 xe:=λ_ _=>False
noncomputable def dM(cap:Y (Ų Nat))(a:St):St:=cap.map λo=>o.bind λi=>(a[i]?).join
structure CompScope(N:List Str)(sc scope:æ)(N':List Str)(cap:List (Option Nat)):Prop where
 kind:scope.kind=.function
 cel:∀x∈scope.names,x.2=.cell->scope.names.lookup x.1=Z .cell
 names:∀x∈scope.names,x.2=.local->scope.names.lookup x.1=Z .local
 free:∀x∈scope.names,x.2=.free->sc.names.lookup x.1=Z .cell
 fst:∀x∈scope.names,x.2=.free->scope.names.lookup x.1=Z .free
 nd:N'.Nodup
 len:cap.length=N'.length
 at_:∀p∈cap.zip N',∀i,p.1=Z i->N[i]?=Z p.2/\(p.2,NameKind.free)∈scope.names
noncomputable def jL(X:Cx)(e:Y Ã)(t:TT):Prop:=
 ∀(a:Y (Addr×Ð))(s:À)(f:St)(H:Hp)(Q:Bool->Hp->Prop),Inv X a f H s->t f H Q->
  wpAny (model X.prog X.w) X.A (forIn e ų λc r=>if r=ų then do let ok ←isTrue c X.env (eval c X.env);pure (ForInStep.yield ok) else pure (ForInStep.yield r)) (TP X a f Q) X.xe s
noncomputable def Aj:TT:=λ_ H Q=>Q ų H
theorem uZ{X:Cx}:jL X [] Aj:=λ_ _ _ H _ I h=>wpAny_tests_nil ⟨H,I,h⟩
noncomputable def lW(w:TI)(cap:Y (Ų Nat))(g:TG)(u:TT)(v:TE):TE:=λr H Q=>w r H λJ j=>∀D,j D=ű->∃W:Nat->Nat->St->Hp->Prop,(∃m,W 0 m (dM cap r) (au j D (.lst []))) /\
 ∀i m f c,W i m f c->(J.stop i c/\Q (.ref D) c)\/(J.go i c/\∃N:St->Hp->Prop,(∀h e,N h e->∃p,p<m/\W (i+1) p h e) /\
  ∀x e,J.yld i c x e->g x f e λa t=>u a t λb l=>if b=ų then v a l λy o=>∃ys,o D=Z (.lst ys)/\ys.length<sizeLine/\N a (au o D (.lst (ys++[y]))) else N a l)
theorem B9{prog:Ä}{w:Å}{A:È}{R:Ŕ->À->Prop}{s:À}{z a o:Ã}{C:Y Ã}{scope:æ}{H:Õ}{K y:Value}{env:ê}(I:Nat->À->Prop)
  (J:∀n s,I n s->wpAny (model prog w) A (ù K) (λr e=>match r with
   |none=>R (.ok .next) e
   |some v=>wpAny (model prog w) A (ø a K v) (λ_ f=>wpAny (model prog w) A (assign a env v) (λ_ p=>
     wpAny (model prog w) A (forIn C ų λc r=>if r=ų then do let ok ←isTrue c env (eval c env);pure (ForInStep.yield ok) else pure (ForInStep.yield r)) (λok g=>
      if ok=ų then wpAny (model prog w) A (eval z env) (λx t=>
       wpAny (model prog w) A (call (.builtin "list.append") [y,x]) (λ_ u=>∃m,m<n/\I m u) (λ_ _=>False) t) (λ_ _=>False) g
      else ∃m,m<n/\I m g) (λ_ _=>False) p) (λ_ _=>False) f) (λ_ _=>False) e) (λ_ _=>False) s)
  (n:Nat) (h:I n s):ã (model prog w) A (.compLoop (.ListComp z [⟨a,o,C,0⟩] scope H) 0 K y env) R s:=by
 refine codeAny_loop S I (λn s M=>?_) n h;change wpAny _ A ((compTurn (.ListComp z [⟨a,o,C,0⟩] scope H) 0 K y env).onRaise (λx=>do ħ x env;theTreesLotGoes x)) _ _ s;refine wpAny_noted ?_;rw[compTurn_list];refine JT (MJ (JT (Lg (J n s M) (λr e j=>?_) λ_ _ h'=>h'.elim)))
 cases r with
 |none=>show J5 j
 |some v=>
  refine JT (Lg j (λ_ f B=>?_) λ_ _ h'=>h'.elim);refine JT (Lg B (λ_ p E=>JT (Lg E (λok g l=>?_) λ_ _ h'=>h'.elim)) λ_ _ h'=>h'.elim)
  cases ok with
  |false=>show J5 ⟨S,l⟩
  |true=>
   show JT (JT (Lg l (λx t F=>JT (Lg F (λ_ u G=>J5 (J5 ⟨S,G⟩)) λ_ _ h'=>h'.elim)) λ_ _ h'=>h'.elim))
section
variable{X:Cx}{t F f:Ã}{l:Y Ã}{scope:æ}{B:Õ}{N':Y Str}{cap:Y (Ų Nat)}{O:TI}{g:TG}{K:TT}{G:TE}
theorem lr:∀(names:Y (Str×NameKind))(n:Nat)(a:Y (Str×Addr)),Û n names a=Û n names []++a
 | [],_,_=>rfl
 |(x,k)::r,n,a=>by
  unfold Û;split
  ·rw[lr r (n+1) ((x,n)::a),lr r (n+1) [(x,n)],Kg];rfl
  ·show lr r n a
theorem pY:∀(names:Y (Str×NameKind))(n:Nat){x:Str}{c:Addr},(x,c)∈Û n names []->(x,NameKind.cell)∈names
 | [],_,_,_,h=>by simp[Û]at h
 |(y,k)::r,n,x,c,h=>by
  unfold Û at h;split at h
  ·rename_i a;rw[lr]at h;rcases Kj.mp h with h|h
   ·show JZ _ (pY r _ h)
   ·have e:=J3.mp h;cases e
    have:k=.cell:=by simpa using a
    subst this;show JY
  ·show JZ _ (pY r _ h)
theorem IX{M:ÿ}{A:È}{E:Value->À->Prop}{s:À}{globals:Addr}{cl:Y (Str×Addr)}{qual:Str}{outer:ê}{Q:ê->À->Prop}
  (c:∀h',h'.Ns s.heap.objs.size (λ_=>ű)->(∀b o,s.heap.get? b=Z o->h'.get? b=Z o)->CellsOk h' (s.heap.objs.size+1) (Û (s.heap.objs.size+1) scope.names [])->
   Q { scope:=scope,locals:=s.heap.objs.size,globals:=globals,cells:=Û (s.heap.objs.size+1) scope.names []++cl,qual:=qual,func:=ű,code:=outer.code,frame:=outer.frame,builtins:=outer.builtins } { s with heap:=h' }) :
  wpAny M A (Ĕ scope globals cl [] qual ű .none (Z outer)) Q E s:=by
 simp only[Ĕ,Ĝ,MK];refine JT (wpAny_alloc ?_);refine JT (wpAny_layCells _ (λname kind cells=>by cases a:kind==NameKind.cell<;>simp[a]) _ _ _ _ ?_);have ok:=cellsFrom_ok scope.names (s.heap.push { cls:=.type "dict",data:=.dict #[] }) (s.heap.objs.size+1) [] ⟨λ_ _ h=>(nomatch h),List.Pairwise.nil⟩ (by rw[K0];show J0 _);rw[K0]at ok;rw[show ({ s with heap:=s.heap.push { cls:=.type "dict",data:=.dict #[] } }:À).heap.objs.size=s.heap.objs.size+1 from K0 ..,lr];refine JT ?_;rw[OJ];show J5 (J5 (c _ ((Heap.Ns.new s.heap (.type "dict")).keeps (ŭ _ _)) (λb o e=>ŭ _ _ b o (JW _ e)) ok))
theorem Hi{N:Y (Addr×Ð)}{P:St}{H:Hp}{s T:À}{cl A:Y (Str×Addr)}{C:Addr}{fp:Y Addr}{m:Str->Ų Value}(am:CompScope X.N X.env.scope scope N' cap)(I:Inv X N P H s)
  (Sz:∀x c,cl.lookup x=Z c->X.env.cells.lookup x=Z c) (RK:∀x,(x,NameKind.free)∈scope.names->∃c,cl.lookup x=Z c) (E:s.heap.objs.size<=C) (TB:T.os=s.os) (hg:T.gens=s.gens)
  (hk:∀b o,s.heap.get? b=Z o->T.heap.get? b=Z o) (hn:T.heap.Ns C m) (Wj:∀b∈fp,dN X N H b) (aw:∀b∈fp,b<s.heap.objs.size) (hw:CellsOk T.heap (C+1) A) (hwm:∀x c,(x,c)∈A->(x,NameKind.cell)∈scope.names) (SD:∀x,(x,NameKind.cell)∈scope.names->∃c,A.lookup x=Z c) :
  Inv (cV X scope N' (A++cl) C s H fp) [] (dM cap P) H T:=by
 have R:∀x c,(A++cl).lookup x=Z c->((x,c)∈A/\C<c)\/(A.lookup x=ű/\X.env.cells.lookup x=Z c):=λx c h=>by
  rw[ND]at h
  cases e:A.lookup x with
  |none=>rw[e]at h;show .inr ⟨S,Sz x c (by simpa using h)⟩
  |some U=>
   rw[e]at h
   have:U=c:=by simpa using h
   subst this;show .inl ⟨K8 e,(hw.empty _ _ (K8 e)).2⟩
 have M:∀x c,X.env.cells.lookup x=Z c->c<s.heap.objs.size:=λx c h=>by let⟨v,q⟩:=I.cell x c h;show q.lt
 have Vh:∀x,(x,NameKind.free)∈scope.names->∃c,(A++cl).lookup x=Z c/\X.env.cells.lookup x=Z c:=λx w=>by
  let⟨c,hc⟩:=RK x w;refine⟨c,?_,Sz x c hc⟩;rw[ND]
  cases e:A.lookup x with
  |none=>simpa using hc
  |some U=>
   have a1:=am.cel _ (hwm x U (K8 e)) S;have a2:=am.fst _ w S;have a1:scope.names.lookup x=Z .cell:=a1;have a2:scope.names.lookup x=Z .free:=a2;rw[a1]at a2;cases a2
 refine⟨⟨I.ok.mod,am.kind,I.ok.glob,I.ok.blt,E,λx y c h1 a=>?_,λx w=>?_,λx c w h=>?_,I.ok.hd,I.ok.frames,.inl S,
   λb J=>⟨KA (Ks (aw b J) E),λx c e=>?_⟩,I.bs,J6 I.ok.bsz I.sz,λb o e J=>?_,λb J hf=>?_,I.stack,I.stkFree⟩,
  TB,by rw[hg];show I.bare,Un.kept hk,⟨m,hn,λi x v h1 a h3=>?_⟩,λx c e=>?_,I.hok.fresh E,λx c e=>?_,λp hp=>absurd (show p∈([]:Y (Addr×Ð))from hp) (by simp),I.hok.kept hk,?_⟩
 ·rcases R x c h1 with⟨a1,a2⟩|⟨_,a2⟩<;>rcases R y c a with⟨b1,b2⟩|⟨_,b2⟩
  ·show name_of_addr hw.apart a1 b1
  ·show absurd (M y c b2) (Ng.mpr (J6 E (L6 a2)))
  ·show absurd (M x c a2) (Ng.mpr (J6 E (L6 b2)))
  ·show I.ok.inj x y c a2 b2
 ·have q:(x,NameKind.free)∈scope.names\/(x,NameKind.cell)∈scope.names:=by
   rcases w with w|w
   ·show pV w (.inl S)
   ·show pV w (.inr S)
  rcases q with q|q
  ·let⟨c,h,_⟩:=Vh x q;show⟨c,h⟩
  ·let⟨c,h⟩:=SD x q;show⟨c,by change (A++cl).lookup x=_;rw[ND,h];rfl⟩
 ·have w:(scope.names.lookup x==Z .cell)=ų:=w
  have w:scope.names.lookup x=Z .cell:=by simpa using w
  let⟨U,h'⟩:=SD x (K8 w);rcases R x c h with⟨_,a2⟩|⟨a1,_⟩
  ·show J6 E (L6 a2)
  ·rw[h']at a1;cases a1
 ·rcases R x c e with⟨_,a2⟩|⟨_,a2⟩
  ·show λz=>absurd (aw b J) (Ng.mpr (J6 E (by rw[←z];show L6 a2)))
  ·show (Wj b J).2.2.2.2.1 x c a2
 ·rcases (Wj b J).2.2.2.1 with z|z
  ·show I.ok.noex b o e z
  ·show absurd (Ks (Ka e) (J6 I.ok.bsz z)) (LV _)
 ·rcases J9.mp (I.stkSub b hf)with z|z
  ·show (Wj b J).2.1 z
  ·show (Wj b J).2.2.1 z
 ·have a:(cap.map λo=>o.bind λi=>(P[i]?).join)[i]?=Z (Z v):=a;rw[J4]at a
  cases ec:cap[i]? with
  |none=>rw[ec]at a;cases a
  |some o=>
   rw[ec]at a
   have a:(o.bind λi=>(P[i]?).join)=Z v:=by simpa using a
   cases o with
   |none=>cases a
   |some j=>
    have a:(P[j]?).join=Z v:=a
    have hj:P[j]?=Z (Z v):=by
     cases ej:P[j]? with
     |none=>rw[ej]at a;cases a
     |some y=>rw[ej]at a;show KG Z a
    have hz:(cap.zip N')[i]?=Z (Z j,x):=by rw[List.getElem?_zip_eq_some];show⟨ec,h1⟩
    let⟨q1,q2⟩:=am.at_ _ (Kp hz) j S;let⟨mx,hnx,hl⟩:=I.loc;have kc:=am.free _ q2 S;let⟨u,r,lk⟩:=hl j x v q1 hj (.inr (.inl kc));refine⟨u,r,?_⟩;rcases lk with⟨k1,_⟩|⟨_,c,e,z⟩
    ·have:X.env.scope.names.lookup x=Z .local:=k1;rw[kc]at this;cases this
    ·let⟨U,U6,R3⟩:=Vh x q2;rw[e]at R3;cases R3
     have Q:(ė scope (A++cl) C X.env).kindOf x=Z .cell\/(ė scope (A++cl) C X.env).kindOf x=Z .free\/(ė scope (A++cl) C X.env).kindOf x=Z .local:=by
      rcases h3 with z|z|z
      ·show .inr (.inr z)
      ·show .inl z
      ·show .inr (.inl z)
     rcases Q with Q|Q|Q
     ·show .inr ⟨.inl Q,c,U6,let ⟨o,ho,hd⟩:=z;⟨o,hk c o ho,hd⟩⟩
     ·show .inr ⟨.inr Q,c,U6,let ⟨o,ho,hd⟩:=z;⟨o,hk c o ho,hd⟩⟩
     ·exfalso;have kl:(relabel scope X.env).names.lookup x=Z .local:=Q;have ml:=K8 kl;let⟨⟨n,k⟩,hm,ar⟩:=Lb.mp ml;have ar:(if (k==NameKind.free&&X.env.scope.kind==.function&&X.env.kindOf n==Z .cell)=ų then (n,NameKind.cell) else (n,k))=(x,NameKind.local):=ar;split at ar
      ·cases ar
      ·cases ar;have a1:=am.names _ hm S;have a3:scope.names.lookup x=Z .free:=am.fst _ q2 S;have a1:scope.names.lookup x=Z .local:=a1;rw[a3]at a1;cases a1
 ·rcases R x c e with⟨a1,_⟩|⟨_,a2⟩
  ·show⟨ű,(hw.empty x c a1).1⟩
  ·let⟨v,o,ho,hd⟩:=I.cell x c a2;show⟨v,o,hk c o ho,hd⟩
 ·rcases R x c e with⟨_,a2⟩|⟨_,a2⟩
  ·show I.hok.fresh (J6 E (L6 a2))
  ·show I.freeC x c a2
 ·change (dM cap P).length=N'.length;unfold dM;rw[mn,am.len]
theorem tq{H:Y (Addr×Ð)}{σ:St}{j:Hp}{I:À}{it:Addr}{A:Y Addr}{tn:Nat->Heap->Prop}{J:It}{cl:Y (Str×Addr)}{RR:Value->Addr->Ŕ->À->Prop}{E:Value->À->Prop}(Pn:X.calm=ų)(am:CompScope X.N X.env.scope scope N' cap)
  (hg:∀(cl:Y (Str×Addr))(C:Addr)(s0:À)(H0:Hp),PG (cV X scope N' cl C s0 H0 A) F g) (ht:∀(cl:Y (Str×Addr))(C:Addr)(s0:À)(H0:Hp),jL (cV X scope N' cl C s0 H0 A) l K) (he:∀(cl:Y (Str×Addr))(C:Addr)(s0:À)(H0:Hp),PE (cV X scope N' cl C s0 H0 A) t G)
  (I2:Inv X H σ j I) (T:Turn X.prog X.w X.K F J A it tn) (T3:tn 0 I.heap) (f2:∀b∈A,dN X H j b)
  (Sz:∀x c,cl.lookup x=Z c->X.env.cells.lookup x=Z c) (RK:∀x,(x,NameKind.free)∈scope.names->∃c,cl.lookup x=Z c)
  {P:V->Hp->Prop}
  (w:∀D,j D=ű->∃W:Nat->Nat->St->Hp->Prop,(∃m,W 0 m (dM cap σ) (au j D (.lst []))) /\
   ∀i m Q z,W i m Q z->(J.stop i z/\P (.ref D) z)\/(J.go i z/\∃N:St->Hp->Prop,(∀σ2 j,N σ2 j->∃m',m'<m/\W (i+1) m' σ2 j) /\
    ∀x j,J.yld i z x j->g x Q j λU H3=>K U H3 λb H4=>if b=ų then G U H4 λy H5=>∃ys,H5 D=Z (.lst ys)/\ys.length<sizeLine/\N U (au H5 D (.lst (ys++[y]))) else N U H4))
  (hRR:∀D C z s' m',X.env.locals≠C->X.s₀.heap.objs.size<=C->(∀x c,X.env.cells.lookup x=Z c->c≠C)->(∀p∈X.pn++H,p.1≠C)->z C=ű->s'.heap.Ns C m'->Inv X H σ z s'->P (.ref D) z->RR (.ref D) C (.ok .next) s') :
  wpAny (model X.prog X.w) X.A (newList []) (λacc M=>wpAny (model X.prog X.w) X.A (Ĕ scope X.env.globals cl [] X.env.qual ű .none (Z X.env)) (λVi s₄=>
   ã (model X.prog X.w) X.A (.compStart (.ListComp t [⟨F,f,l,0⟩] scope B) 0 (.ref it) acc { Vi with scope:=relabel scope X.env }) (RR acc Vi.locals) s₄) E M) E I:=by
 refine LD ?_ (by change 0<=sizeLine;decide);have I3:Inv X H σ (au j I.heap.objs.size (.lst [])) { I with heap:=I.heap.push { cls:=.type "list",data:=.seq ([]:Y Value).toArray } }:=I2.lnew (t':=I.toks) .nil (by change 0<=sizeLine;decide);have k3:∀b o,I.heap.get? b=Z o->(I.heap.push { cls:=.type "list",data:=.seq ([]:Y Value).toArray }).get? b=Z o:=λb o e=>JW _ e;have z3:(I.heap.push { cls:=.type "list",data:=.seq ([]:Y Value).toArray }).objs.size=I.heap.objs.size+1:=K0 ..;have hD0:j I.heap.objs.size=ű:=I2.fresh;generalize Wk:({ I with heap:=I.heap.push { cls:=.type "list",data:=.seq ([]:Y Value).toArray } }:À)=s3 at I3 ⊢
 have eh3:s3.heap=I.heap.push { cls:=.type "list",data:=.seq ([]:Y Value).toArray }:=by rw[←Wk]
 have eo3:s3.os=I.os:=by rw[←Wk]
 generalize hDD:I.heap.objs.size=D at I3 hD0 z3 ⊢;rw[←eh3]at k3 z3;have live:∀b∈A,∃o,I.heap.get? b=Z o/\∀v,o.data≠.cell v:=λb a=>T.obj 0 _ T3 b a
 have WW:∀b∈A,b<D:=λb a=>by let⟨o,e,_⟩:=live b a;rw[←hDD];show Ka e
 have f3:∀b∈A,dN X H (au j D (.lst [])) b:=λb a=>⟨by rw[aH (KA (WW b a))];show (f2 b a).1,(f2 b a).2⟩;refine IX λh4 hn4 k4 ok4=>?_;generalize hnw:Û (s3.heap.objs.size+1) scope.names []=nw at ok4 ⊢;have st4:tn 0 h4:=T.keep 0 _ _ T3 λb _ o e=>k4 b o (k3 b o e)
 have I4:Inv (cV X scope N' (nw++cl) s3.heap.objs.size s3 (au j D (.lst [])) A) [] (dM cap σ) (au j D (.lst [])) { s3 with heap:=h4 }:=
  Hi am I3 Sz RK (J0 _) S S k4 hn4 f3 (λb a=>by rw[z3];show MX (WW b a)) ok4 (λx c h=>pY _ _ (hnw▸h)) λx h=>hnw▸qC (am.cel _ h S)
 let⟨W,⟨m0,w0⟩,turn⟩:=w D hD0
 have WX:∀{z:Hp},(∀b∈A,z b=ű)->∀b∈A,dN (cV X scope N' (nw++cl) s3.heap.objs.size s3 (au j D (.lst [])) A) [] z b:=λhn b a=>
  ⟨hn b a,KA (by change b<s3.heap.objs.size;rw[z3];show MX (WW b a)),λhf=>I4.ok.exfs b a hf,.inl a,λx c e=>(I4.ok.exf b a).2 x c e,λp hp=>absurd (show p∈([]:Y (Addr×Ð))from hp) (by simp)⟩
 have loop:∀M:À,M={ s3 with heap:=h4 }->
   ã (model X.prog X.w) X.A (.compLoop (.ListComp t [⟨F,f,l,0⟩] scope B) 0 (.ref it) (.ref D) (ė scope (nw++cl) s3.heap.objs.size X.env)) (RR (.ref D) s3.heap.objs.size) M:=by
  rintro M rfl
  refine B9 (λn s'=>∃i Q z,Inv (cV X scope N' (nw++cl) s3.heap.objs.size s3 (au j D (.lst [])) A) [] Q z s'/\tn i s'.heap/\(∀b∈A,z b=ű)/\W i n Q z) ?_ m0
   ⟨0,dM cap σ,au j D (.lst []),I4,st4,λb a=>(f3 b a).1,w0⟩
  rintro n s5 ⟨i,ar,H5,I5,US,Wd,w5⟩;rcases turn i n ar H5 w5 with⟨stop,qn⟩|⟨go,N,hN,step⟩
  ·refine aI (T.done (cV X scope N' (nw++cl) s3.heap.objs.size s3 (au j D (.lst [])) A) S S S Pn i [] s5 ar H5 _ I5 (WX Wd) US stop) λr s6 OT=>?_;let⟨hr,I6⟩:=OT;subst hr;let⟨m6,hn6,_⟩:=I6.loc;have un:Un (cG X.stack) A (au j D (.lst [])) H5 s3.heap s6.heap:=I6.base;refine hRR D s3.heap.objs.size H5 s6 m6 (KA I3.lt) I3.sz (λx c e=>?_) (λp hp=>?_) I6.free hn6 ?_ qn
   ·let⟨v,q⟩:=I3.cell x c e;show KA q.lt
   ·show KA (Ka (I3.pin p hp).1)
   ·show I3.call' I6.os un I6.hok I6.bare λb a=>⟨(f3 b a).2.2.2.1,(f3 b a).2.1,(f3 b a).2.2.2.2.1,(f3 b a).2.2.2.2.2⟩
  ·refine aI (T.item (cV X scope N' (nw++cl) s3.heap.objs.size s3 (au j D (.lst [])) A) S S S Pn i [] s5 ar H5 (λ_ _=>False) I5 (WX Wd) US go) λr s6 PB=>?_;let⟨u,hr,h6⟩:=PB;subst hr;refine aI h6 λ_ s7 Q0=>?_;let⟨x,H7,I7,r7,y7,WY,fr7⟩:=Q0;have I7':=I7.pinned (WX fr7) (T.obj _ _ WY);refine aI (hg _ _ _ _ _ s7 ar H7 x u _ I7' r7 (step x H7 y7)) λ_ s8 U7=>?_;let⟨aw,H8,I8,q8⟩:=U7;refine aI (ht _ _ _ _ _ s8 aw H8 _ I8 q8) λb s9 WG=>?_;let⟨H9,I9,q9⟩:=WG
   have again:∀{R:St}{H9:Hp}{s9:À},Inv (cV X scope N' (nw++cl) s3.heap.objs.size s3 (au j D (.lst [])) A) ([]++kN A s7.heap) R H9 s9->N R H9->∃m,m<n/\∃i Q z,Inv (cV X scope N' (nw++cl) s3.heap.objs.size s3 (au j D (.lst [])) A) [] Q z s9/\tn i s9.heap/\(∀b∈A,z b=ű)/\W i m Q z:=λ{R H9 s9} I9 n9=>by let⟨m',hm,w9⟩:=hN R H9 n9;refine⟨m',hm,i+1,R,H9,I9.unpinned,T.keep _ _ _ WY λb a o e=>(I9.pin (b,o) (KH _ (KH _ (oZ a e)))).1,λb a=>?_,w9⟩;let⟨o,e,d⟩:=T.obj _ _ WY b a;show (I9.pin (b,o) (KH _ (KH _ (oZ a e)))).2.1
   cases b with
   |false=>
    rw[JV 'b']at q9 ⊢;show again I9 q9
   |true=>
    rw[JX S]at q9 ⊢;refine aI (he _ _ _ _ _ s9 aw H9 _ I9 q9) λyv s10 WH=>?_;let⟨y,WZ,I10,r10,ys,W0,W2,q10⟩:=WH;refine aI (rf _ s10 aw WZ (.ref D) [y] (.ref D) [yv] (λ_ z=>N aw z) I10 S (.cons r10 .nil) ⟨D,ys,y,S,S,W0,W2,q10⟩) λ_ s11 hq6=>?_;let⟨_,H11,I11,_,q11⟩:=hq6;show again I11 q11
 show codeAny_compStart_list (loop _ S) (T.self _ 0 _ _ _ st4 (loop _ S))
theorem Hj(E:X.calm=ų)(am:CompScope X.N X.env.scope scope N' cap)(hi:PI X F f O)
  (hg:∀(cl:Y (Str×Addr))(a:Y Addr)(C:Addr)(p:À)(j:Hp),PG (cV X scope N' cl C p j a) F g) (ht:∀(cl:Y (Str×Addr))(a:Y Addr)(C:Addr)(p:À)(j:Hp),jL (cV X scope N' cl C p j a) l K)
  (he:∀(cl:Y (Str×Addr))(a:Y Addr)(C:Addr)(p:À)(j:Hp),PE (cV X scope N' cl C p j a) t G) (hs:∀x,Ý f X.env x=pure x:=by intro _;rfl) :
  PE X (.ListComp t [⟨F,f,l,0⟩] scope B) (lW O cap g K G):=by
 intro c s u H Q I h;let⟨cl,aw,N,M⟩:=vj (scope:=scope) (env:=X.env) λx hx hf=>I.ok.has x.1 (.inl (am.free x hx hf));rw[eval_ListComp];refine wpAny_comprehension_free (use:=ű) S hs aw am.kind am.names (aI (hi c s u H _ I h) λv s1 h1=>aI h1 λWc s2 h2=>?_);let⟨it,a,tn,J,H2,e,A,T,R,f2,w⟩:=h2;subst e;refine tq (RR:=λr C=>compPost (model X.prog X.w) X.A X.xe ű (EP X c u Q) r C) E am (λcl=>hg cl a) (λcl=>ht cl a) (λcl=>he cl a) A T R f2 N M (P:=Q) w ?_;intro D C y s' m' hL hz U W4 hC hn z q;refine⟨m',hn,λh' ar=>⟨.ref D,y,z.turned (t':=s'.toks) (λb o hb e=>(ar.2 b hb).trans e) hC (KW hL) (.inr hz) U W4,S,q⟩⟩
theorem Jk{i:Nat}{y:Str}{p aw:Õ}(Pn:X.calm=ų)(hN:X.N.Nodup)(hy:X.N[i]?=Z y)(U:gW X.env.scope y)(am:CompScope X.N X.env.scope scope N' cap)(hi:PI X F f O)
  (hg:∀(cl:Y (Str×Addr))(j:Y Addr)(C:Addr)(u:À)(r:Hp),PG (cV X scope N' cl C u r j) F g) (ht:∀(cl:Y (Str×Addr))(j:Y Addr)(C:Addr)(u:À)(r:Hp),jL (cV X scope N' cl C u r j) l K)
  (he:∀(cl:Y (Str×Addr))(j:Y Addr)(C:Addr)(u:À)(r:Hp),PE (cV X scope N' cl C u r j) t G) (W5:Ñ (.ListComp t [⟨F,f,l,0⟩] scope B) (Z (.Name y p)) aw.line X.env=pure ų:=by rfl)
  (hs:∀x,Ý f X.env x=pure x:=by intro _;rfl) (R:X.fn y=ų\/X.env.scope.names.lookup y=Z .local:=by nofun) :
  PS X (.Assign [.Name y p] (.ListComp t [⟨F,f,l,0⟩] scope B) aw) (nc (lW O cap g K G) (nJ i)):=by
 intro c s σ H D I h;let⟨cl,W3,Sz,RK⟩:=vj (scope:=scope) (env:=X.env) λx U R=>I.ok.has x.1 (.inl (am.free x U R));rw[exec_Assign_Name_used _ _ _ _ W5];refine JT (MJ (JT ?_));change wpAny _ X.A (do let _ ←comprehension (.ListComp t [⟨F,f,l,0⟩] scope B) scope X.env _ (newList []) Ŵ (eval f X.env) (Z (assign (.Name y p) X.env))) _ _ s
 refine JT (Lg (wpAny_comprehension_free (use:=Z (assign (.Name y p) X.env)) (Q:=λ_ s'=>SP X c D .next s') S hs W3 am.kind am.names
  (aI (hi c s σ H _ I h) λv s1 h1=>aI h1 λWc s2 h2=>?_)) (λ_ s' hq=>J5 (J5 hq)) λ_ _ e=>e)
 let⟨it,j,tn,J,H2,e,I2,T,T3,f2,w⟩:=h2;subst e;refine tq (RR:=λM C=>compPost (model X.prog X.w) X.A X.xe (Z (assign (.Name y p) X.env)) (λ_ s'=>SP X c D .next s') M C) Pn am (λcl=>hg cl j) (λcl=>ht cl j) (λcl=>he cl j) I2 T T3 f2 Sz RK (P:=λv A=>D.nx (σ.set i (Z v)) A) w ?_;intro ar C A s' m' hL hz Ui W4 hC hn I' q;change wpAny _ X.A (assign (.Name y p) X.env (.ref ar)) _ _ s';refine wpAny_assign_Name (qL (v:=.ref ar) I' hN hy U S (λU8 E Ta=>?_) R);let⟨a,sb,ha⟩:=Ta
 have N:C≠a:=by
  rcases ha with z|z
  ·rw[z];show KW hL
  ·show KW (Ui y a z)
 refine⟨m',hn.sameBut sb N,λh' Vj=>?_⟩;show⟨_,A,E.turned (t':=U8.toks) (λb o hb e=>(Vj.2 b hb).trans e) hC (KW hL) (.inr hz) Ui W4,q⟩
end
open AutoSeq1 (wpAny_loadPart')
theorem Inv.turnedL{X:Cx}{a:Y (Addr×Ð)}{l:St}{H:Hp}{s:À}{h':Heap}{ch:Y Addr}{t':Nat}(I:Inv X a l H s)(k:∀b o,b∉ch->s.heap.get? b=Z o->h'.get? b=Z o)(g:∀b∈ch,dN X a H b) :
  Inv X a l H { s with heap:=h',toks:=t' }:=by
 have j:∀b u,H b=Z u->b∉ch:=λb u e z=>by rw[(g b z).1]at e;cases e
 refine I.step (g':=s.gens) (d':=s.drawn) (ch:=ch) (λb h=>⟨(g b h).2.2.2.1,(g b h).2.1,(g b h).2.2.2.2.1,(g b h).2.2.2.2.2⟩) (λb o _ _ f e _=>k b o f e) (λb o _ _ f e _=>⟨o.slots,k b o f e⟩) (λ_ _ _ _ n=>n)
  (λb o f e=>⟨o,k b o f e⟩) (λ_ _ e=>e) (λ_ _ _ e=>e) (λb ps e=>e) (λm w=>?_) (λb u e=>?_) I.bare
 ·let⟨o,t,p,x,r⟩:=w;show⟨o,t,p,k _ o (λz=>(g _ z).2.1 S) x,r⟩
 ·refine (I.hok b u e).stay (λc v f q=>k c v ?_ q) (λ_ q=>q) (λ_ _ q=>q) λ_ _ _ q=>q;rcases f with z|z
  ·rw[z];show j b u e
  ·show j c _ z
noncomputable def SqI(b:Bool)(h:Heap)(c a:Addr)(i:Nat):Prop:=match b with|true=>h.IsListIter c a i|false=>h.IsTupleIter c a i
noncomputable def SqO(b:Bool)(h:Heap)(a:Addr)(c:Array Value):Prop:=match b with|true=>h.IsList a c|false=>h.IsTuple a c
noncomputable def SqB(K:Â)(b:Bool)(H:Hp)(a:Addr)(xs:Y V):Prop:=match b with|true=>SqL K H a xs|false=>SqT K H a xs
noncomputable def cS(b:Bool)(a:Addr):Ð:=match b with
 |true=>{ cls:=.type "list_iterator",data:=.fields #[.ref a,.int 0 0] }
 |false=>{ cls:=.type "tuple_iterator",data:=.fields #[.ref a,.int 0 0] }
theorem SqI.at{b:Bool}{h h':Heap}{c a:Addr}{i:Nat}(x:SqI b h c a i)(k:∀o,h.get? c=Z o->h'.get? c=Z o):SqI b h' c a i:=by cases b<;>(let⟨o,e,r⟩:=x;show⟨o,k o e,r⟩)
theorem SqO.at{b:Bool}{h h':Heap}{a:Addr}{c:Array Value}(x:SqO b h a c)(k:∀o,h.get? a=Z o->h'.get? a=Z o):SqO b h' a c:=by cases b<;>(let⟨o,e,r⟩:=x;show⟨o,k o e,r⟩)
theorem SqI.obj{b:Bool}{h:Heap}{c a:Addr}{i:Nat}(x:SqI b h c a i):∃o,h.get? c=Z o/\∀v,o.data≠.cell v:=by cases b<;>(let⟨o,e,_,d⟩:=x;show⟨o,e,λv z=>by rw[d]at z;cases z⟩)
theorem SqI.lt{b:Bool}{h:Heap}{c a:Addr}{i:Nat}(x:SqI b h c a i):c<h.objs.size:=by let⟨o,e,_⟩:=x.obj;show Ka e
theorem SqO.lt{b:Bool}{h:Heap}{a:Addr}{c:Array Value}(x:SqO b h a c):a<h.objs.size:=by cases b<;>(let⟨o,e,_⟩:=x;show Ka e)
theorem Inv.sqb{X:Cx}{e:Y (Addr×Ð)}{j:St}{H:Hp}{s:À}{b:Bool}{a:Addr}{xs:Y V}(I:Inv X e j H s)(h:SqB X.K b H a xs):∃c:Y Value,Vals xs c/\SqO b s.heap a c.toArray/\xs.length<=sizeLine:=by
 cases b with
 |true=>let⟨c,g,p,f⟩:=I.list h;show⟨c,g,p.isList,f⟩
 |false=>let⟨c,g,p,f⟩:=I.tuple h;show⟨c,g,p,f⟩
theorem Inv.sqb_inj{X:Cx}{c:Y (Addr×Ð)}{e:St}{H:Hp}{s:À}{b:Bool}{a:Addr}{xs ys:Y V}(I:Inv X c e H s)(h:SqB X.K b H a xs)(h':SqB X.K b H a ys):xs=ys:=by
 cases b with
 |true=>show I.list_inj h h'
 |false=>show I.tuple_inj h h'
theorem SqB.same{K:Â}{b:Bool}{H c:Hp}{a:Addr}{xs:Y V}(e:Same H c)(h:SqB K b H a xs):SqB K b c a xs:=by
 cases b with
 |true=>show e.seq h
 |false=>
  rcases h with (h|⟨o,h⟩)|h
  ·show .inl (.inl (e _ _ h))
  ·show .inl (.inr ⟨o,e _ _ h⟩)
  ·show .inr h
section
variable{prog:Ä}{w:Å}{A:È}{E:Value->À->Prop}{s:À}
theorem qi{b:Bool}{a:Addr}{c:Array Value}{Q:Value->À->Prop}(h:SqO b s.heap a c)(q:Q (.ref s.heap.objs.size) { s with heap:=s.heap.push (cS b a) }):wpAny (model prog w) A (pyIter (.ref a)) Q E s:=by
 cases b with
 |true=>show NR h q
 |false=>show Mu h q
theorem mO{b:Bool}{h:Heap}{c a:Addr}(e:h.get? c=Z (cS b a)):SqI b h c a 0:=by cases b<;>show⟨_,e,S,S⟩
theorem mV{b:Bool}{e a:Addr}{i:Nat}{g:Array Value}{x:Value}{Q:Value->À->Prop}(c:SqI b s.heap e a i)(j:SqO b s.heap a g)(l:g[i]?=Z x)
  (h:∀h',SqI b h' e a (i+1)->Heap.SameBut e s.heap h'->Q x { s with heap:=h' }):wpAny (model prog w) A (Builtin.SmallTypes.nextOf (.ref e)) Q E s:=by
 cases b with
 |true=>show wpAny_nextOf_list_item c j l h
 |false=>
  have c:s.heap.IsTupleIter e a i:=c;let⟨o,f,t,hd⟩:=id c;let⟨u,p,_,nl,r⟩:=j;unfold Builtin.SmallTypes.nextOf;refine JT (Lm (name:=Str.ofString "__next__") c.typeIs Md (L0 Md c.typeIs NG ?_ (Nx _)));change wpAny _ _ (Ė (.ref e) 0 >>= _) _ _ s;refine JT (K2 f hd (x:=.ref a) S ?_);change wpAny _ _ (if (Value.ref a==Value.none)=ų then _ else _) _ _ s;rw[JV (show ¬ ((Value.ref a==Value.none)=ų)from KI)];change wpAny _ _ (Ė (.ref e) 1 >>= _) _ _ s;refine JT (K2 f hd (x:=.int i 0) S ?_);change wpAny _ _ (seqItems? (.ref a) >>= _) _ _ s;refine JT (L1 p r ?_);simp only[Lh,l];refine JT (MU f hd (by simp) (J5 ⟨x,S,J5 (h _ ?_ (Heap.SameBut.update ..))⟩));show⟨_,LL _ f (Mz (Mv hd _)),(Ń ..).trans t,by rw[Mv hd];simp[rawInt]⟩
theorem mz{b:Bool}{f a:Addr}{i:Nat}{j:Array Value}{Q:Value->À->Prop}(g:A.handled=ű)(c:SqI b s.heap f a i)(p:SqO b s.heap a j)(r:j[i]?=ű)
  (l:∀h' e,Heap.ExtBut f s.heap h'->(∃o,h'.get? e=Z o/\o.cls=.type "StopIteration")->E (.ref e) { s with heap:=h' }):wpAny (model prog w) A (Builtin.SmallTypes.nextOf (.ref f)) Q E s:=by
 cases b with
 |true=>show wpAny_nextOf_list_end g c p r l
 |false=>
  have c:s.heap.IsTupleIter f a i:=c;let⟨o,h,v,hd⟩:=id c;let⟨y,t,_,nl,u⟩:=p;unfold Builtin.SmallTypes.nextOf;refine JT (Lm (name:=Str.ofString "__next__") c.typeIs Md (L0 Md c.typeIs NG ?_ (Nx _)));change wpAny _ _ (Ė (.ref f) 0 >>= _) _ _ s;refine JT (K2 h hd (x:=.ref a) S ?_);change wpAny _ _ (if (Value.ref a==Value.none)=ų then _ else _) _ _ s;rw[JV (show ¬ ((Value.ref a==Value.none)=ų)from KI)];change wpAny _ _ (Ė (.ref f) 1 >>= _) _ _ s;refine JT (K2 h hd (x:=.int i 0) S ?_);change wpAny _ _ (seqItems? (.ref a) >>= _) _ _ s;refine JT (L1 t u ?_);simp only[Lh,r];refine JT (Ē (JT (MU h hd (by simp) ?_)));change wpAny _ _ (newExc (.type "StopIteration") [] >>= _) _ _ _;refine JT ?_;simp only[newExc,newTuple];refine JT (LD ?_ (by size_fits));refine JT (m:=firstArgMember _ _) (wpAny_of_eq (a:=Value.none) (by first|rfl|(simp only[firstArgMember];rfl)) ?_);refine LD ?_ (by size_fits);simp only[raiseNew];refine JT (wpAny_handled ?_)
  first|rw[show A.in1.handled=ű from g]|rw[g]
  refine JT (J5 (wpAny_throw ?_));show l _ _ (((Heap.SameBut.update ..).extBut.push _).push _) ⟨_,Kb _ S,S⟩
theorem yI(t:A.handled=ű)(b:Bool)(c a:Addr)(l:a≠c)(f:Array Value):Draws prog w A c [c,a] f.size (λi v=>f[i]?=Z v) (λi h=>SqI b h c a i/\SqO b h a f) where
 live:=λ_ _ st=>let ⟨o,e,_⟩:=st.1.obj;⟨o,e⟩
 frame:=λ_ _ _ st k=>⟨st.1.at λo e=>k c (by simp) o e,st.2.at λo e=>k a (by simp) o e⟩
 item:=λi s Q E g st r=>mV st.1 st.2 (x:=f[i]) (by simp[g]) λh' q j=>r _ h' s.toks (by simp[g]) ⟨q,st.2.at λo e=>(j.2 a l).trans e⟩ j
 done:=λs Q E st p=>mz t st.1 st.2 (by simp) p
theorem zH(l:Addr)(a:Array Value)(n:Nat)(dct:Ų Addr)(sl:Array (Ų Value)) :
  Ň (Builtin.«enumerate.__new__» ⟨[.type "enumerate",.ref l],[]⟩) (λ_ R s=>s.heap.get? l=Z { cls:=.type "tuple",dict:=dct,data:=.seq a n,slots:=sl } /\
   R (.ok (.ret (.ref (s.heap.push (cS Ŵ l)).objs.size)))
    { s with heap:=(s.heap.push (cS Ŵ l)).push { cls:=.type "enumerate",data:=.fields #[.none,.bool Ŵ,.ref s.heap.objs.size,rawInt 0,.none,.none] } }):=
 .of_wp λprog w A R s h=>by
  let⟨j,g,d,o,os⟩:=s;let⟨e,h⟩:=h;have p:=sub_enumerate;have f:Heap.IsTuple (č ⟨j,g,d,o,os⟩) l a:=⟨_,e,S,n,S⟩
  wp_walk using KZ e
  refine wpAny_stack_any λst=>J5 ?_;split
  ·rename_i c _ _ _ _ _;cases (c==Value.type "enumerate")
   ·(wp_walk using KZ e,Mu f);show⟨_,S,h⟩
   ·(wp_walk using KZ e,Mu f);show⟨_,S,h⟩
  ·(wp_walk using KZ e,Mu f);show⟨_,S,h⟩
theorem Fy{b:Bool}{l:Addr}{a:Array Value}{Q:Value->À->Prop}(j:SqO b s.heap l a)
  (h:∀h',IsEnum h' (s.heap.objs.size+1) s.heap.objs.size 0 .none->SqI b h' s.heap.objs.size l 0->h'.objs.size=s.heap.objs.size+2->(∀b o,s.heap.get? b=Z o->h'.get? b=Z o)->Q (.ref (s.heap.objs.size+1)) { s with heap:=h' }) :
  wpAny (model prog w) A (call (.type "enumerate") [.ref l]) Q E s:=by
 cases b with
 |true=>show call_enumerate_list j h
 |false=>
  let⟨⟨c,dct,p,sl⟩,t,e,n,hd⟩:=j;replace e:c=.type "tuple":=e;replace hd:p=.seq a n:=hd;subst e hd;refine callType_new F.called_enumerate 'b' (F.typeCall_enumerate_1 _) (F.newCall_enumerate_1 _) (λobj=>F.args_object_init_2 obj _) F.entry_enumerate_new (zH l a n dct sl) ⟨t,?_⟩;have g:(s.heap.push (cS Ŵ l)).objs.size=s.heap.objs.size+1:=K0 ..;change _/\_;rw[g];have f:=Kb (s.heap.push (cS Ŵ l)) (o:={ cls:=.type "enumerate",data:=.fields #[.none,.bool Ŵ,.ref s.heap.objs.size,rawInt 0,.none,.none] }) S;rw[g]at f;have r:(s.heap.push (cS Ŵ l)).get? s.heap.objs.size=Z (cS Ŵ l):=Kb _ S;show⟨⟨_,f,S⟩,h _ f (mO (JW _ r)) (by rw[K0,g]) λb o x=>JW _ (JW _ x)⟩
theorem FL{b:Bool}{e c a:Addr}{i:Nat}{j:Int}{l:Array Value}{old:Value}{Q:Ų Value->À->Prop}(v:A.handled=ű)(r:IsEnum s.heap e c j old)(g:SqI b s.heap c a i)(y:SqO b s.heap a l)(B:l[i]?=ű)
  (t:∀h',Heap.ExtBut c s.heap h'->Q ű { s with heap:=h' }):wpAny (model prog w) A (ù (.ref e)) Q E s:=by
 have p:s.TypeIs (.ref e) "enumerate":=⟨_,r,S⟩;unfold ù;refine JT (Ğ (Lm (name:=Str.ofString "__next__") p F.slot_enumerate_next (L0 F.slot_enumerate_next p F.entry_enumerate_next ?_ (F.args_enumerate_next_1 _))));change wpAny _ _ (Ė (.ref e) 2 >>= _) _ _ _;refine JT (K2 r S (x:=.ref c) S (JT (mz v g y B λh' x f h=>?_)));let⟨o,z,u⟩:=h;show JT (ţ (T:="StopIteration") (b:=ų) ⟨o,z,u⟩ isSubtype_stop (J5 (t _ f)))
end
noncomputable def nP(K:Â)(b:Bool)(a:Addr):It:=
 ⟨λi H=>∃xs x,SqB K b H a xs/\xs[i]?=Z x,λi H x c=>∃t y,H t=ű/\x=.ref t/\c=au H t (.tup [.int i,y])/\∀xs,SqB K b H a xs->xs[i]?=Z y,λi H=>∃xs,SqB K b H a xs/\xs.length<=i⟩
theorem Ey{P:Ä}{w:Å}{K:Â}{es:Y Ã}{k:Nat}{aw:Õ}(b:Bool)(a e g:Addr)(J:e≠g):Turn P w K (.Tuple es k aw) (nP K b a) [e,g] e (λi h=>(∃old,IsEnum h e g i old)/\SqI b h g a i) where
 mem:=by simp
 obj:=λi h st c f=>by
  let⟨⟨old,j⟩,r⟩:=st;rcases J9.mp f with rfl|f
  ·show⟨_,j,λv z=>by have z':Data.fields _=Data.cell v:=z;cases z'⟩
  ·rw[J3.mp f];show r.obj
 keep:=λi h h' st k=>by let⟨⟨old,j⟩,r⟩:=st;show⟨⟨old,k e (by simp) _ j⟩,r.at λo q=>k g (by simp) o q⟩
 item:=by
  intro X R T Q f i l s σ H E I F st am;subst R T Q;let⟨xs,x,G,U⟩:=am;let⟨⟨old,j⟩,r⟩:=st;let⟨t,rv,p,hz⟩:=I.sqb G;let⟨u,hu,ru⟩:=rv.get U
  have Pe:a≠g:=λz=>by
   subst z
   have N:=p;have O:=r
   cases b<;>(let⟨o1,C,M,_⟩:=N;let⟨o2,e2,c2,_⟩:=O;rw[C]at e2;cases e2;rw[M]at c2;show absurd c2 (by simp))
  have W9:a≠e:=λz=>by
   subst z;have N:=p;cases b<;>(let⟨o1,C,M,_⟩:=N;rw[j]at C;cases C;show absurd M (by simp))
  have Xa:i<t.toArray.size:=by have:i<t.length:=(KO.mp hu).1;simpa using this
  have hh:X.A.in1.handled=ű:=I.ok.hd f;refine wpAny_pyNext_enum_itemD (yI hh b g a Pe t.toArray) j ⟨r,p⟩ Xa J (by simp[J,KW W9]) λy h' B A ho Qe hT hsz hk=>?_
  have ar:y=u:=by
   have:t.toArray[i]?=Z u:=by simpa using hu
   rw[this]at A;show (Kh A).symm
  subst ar;refine⟨.ref s.heap.objs.size,S,wpAny_letOwnedTupleGo_enum ho λO Ra PH=>?_⟩;have zn:H s.heap.objs.size=ű:=I.fresh
  have I1:Inv X l σ (au H s.heap.objs.size (.tup [.int i,x])) { s with heap:=s.heap.push { cls:=.type "tuple",data:=.seq #[.int i B,y] },toks:=B }:=
   I.laid (λc o q=>JW _ q) (J0 _) ⟨by change 2<=sizeLine;decide,[.int i B,y],.cons ⟨B,S⟩ (.cons ru .nil),_,Kb _ S,⟨S,S⟩,0,S⟩
  have Xb:∀c∈[e,g],c<s.heap.objs.size:=λc f=>by
   rcases J9.mp f with rfl|f
   ·show Ka j
   ·rw[J3.mp f];show r.lt
  have f1:∀c∈[e,g],dN X l (au H s.heap.objs.size (.tup [.int i,x])) c:=λc f=>⟨by rw[aH (KA (Xb c f))];show (F c f).1,(F c f).2⟩;have I2:=I1.turnedL (h':=O) (ch:=[e,g]) (t':=B+1) (λc o f q=>?_) f1
  ·refine⟨.ref s.heap.objs.size,_,I2,S,⟨s.heap.objs.size,x,zn,S,S,λys ar=>by rw[I.sqb_inj ar G];show U⟩,⟨⟨_,by simpa using Ra⟩,Qe.1.at λo q=>(PH.2 g (KW J)).trans q⟩,λc f=>(f1 c f).1⟩
  ·have T4:c≠e:=λz=>f (by simp[z]);have Wl:c≠g:=λz=>f (by simp[z]);refine (PH.2 c T4).trans ?_;rcases Heap.get?_push_cases q with⟨z,z'⟩|q'
   ·subst z;subst z';show hT
   ·show hk c o T4 Wl q'
 done:=by
  intro X R T Q f i l s σ H E I F st am;subst R T Q;let⟨xs,G,U⟩:=am;let⟨⟨old,j⟩,r⟩:=st;let⟨t,rv,p,hz⟩:=I.sqb G;have hl:=rv.length;refine FL (I.ok.hd f) j r p (by simp;omega) λh' eb=>⟨S,?_⟩;show I.turnedL (ch:=[e,g]) (t':=s.toks) (λc o f q=>eb c o (λz=>f (by simp[z])) q) F
 self:=λ_ _ _ _ _ st h=>by let⟨⟨old,j⟩,_⟩:=st;show Ś j h
end L2
namespace L2
open PySem PySem.Spec PyProof.Rows
open AutoSeq1 (wpAny_loadPart')
structure ZAp(z TI TO i1 i2:Addr):Prop where
 a1:TI≠z
 a2:TO≠z
 a3:i1≠z
 a4:i2≠z
 a5:TI≠TO
 a6:TI≠i1
 a7:TI≠i2
 a8:TO≠i1
 a9:TO≠i2
 a0:i1≠i2
theorem SqI.but{b:Bool}{h h':Heap}{f a c:Addr}{i:Nat}(x:SqI b h f a i)(s:Heap.SameBut c h h')(n:f≠c):SqI b h' f a i:=x.at λo e=>(s.2 f n).trans e
theorem SqO.but{b:Bool}{h h':Heap}{a c:Addr}{f:Array Value}(x:SqO b h a f)(s:Heap.SameBut c h h')(n:a≠c):SqO b h' a f:=x.at λo e=>(s.2 a n).trans e
theorem SqO.ne{b:Bool}{h:Heap}{a c:Addr}{j:Array Value}{o:Ð}(x:SqO b h a j)(e:h.get? c=Z o)(l:o.cls≠.type "list")(p:o.cls≠.type "tuple"):a≠c:=λz=>by
 subst z;cases b<;>(let⟨r,g,f,_⟩:=x;rw[e]at g;cases g)
 ·show p f
 ·show l f
theorem SqO.ne_it{b f:Bool}{h:Heap}{a g l:Addr}{j:Array Value}{i:Nat}(x:SqO b h a j)(y:SqI f h g l i):a≠g:=by cases f<;>(let⟨o,e,c,_⟩:=y;show x.ne e (by rw[c];simp) (by rw[c];simp))
section
variable{prog:Ä}{w:Å}{A:È}{E:Value->À->Prop}{s:À}
theorem nE{c z t a b:Addr}(h:c∉[z,t,a,b]):c≠z/\c≠t/\c≠a/\c≠b:=by simpa using h
theorem ku(z t u a b:Addr):z∈[z,t,u,a,b]/\t∈[z,t,u,a,b]/\u∈[z,t,u,a,b]/\a∈[z,t,u,a,b]/\b∈[z,t,u,a,b]:=by simp
theorem vF{z t u a b x:Addr}(h:x∈[z,u,a,b]):x∈[z,t,u,a,b]:=(List.Sublist.cons₂ z (.cons t (.refl _))).subset h
theorem Dk{H I:Bool}{z TI TO g h r l:Addr}{M N:Nat}{xs ys:Array Value}{x y a b:Value}{Q:Value->À->Prop}(D:ZAp z TI TO g h)
  (j:é s.heap z TI TO .none) (Uq:Ø s.heap TI (.ref g) (.ref h)) (Ur:Ø s.heap TO a b) (n1:r≠TO) (n2:l≠TO)
  (h1:SqI H s.heap g r M) (h2:SqI I s.heap h l N) (Rr:SqO H s.heap r xs) (R:SqO I s.heap l ys) (hx:xs[M]?=Z x) (hy:ys[N]?=Z y)
  (hQ:∀h',é h' z TI TO (rawInt s.heap.objs.size)->Ø h' TO x y->SqI H h' g r (M+1)->SqI I h' h l (N+1)->Ø h' s.heap.objs.size x y->h'.objs.size=s.heap.objs.size+1->
   (∀c o,c∉[z,TO,g,h]->s.heap.get? c=Z o->h'.get? c=Z o)->Q (.ref s.heap.objs.size) { s with heap:=h' }) :
  wpAny (model prog w) A (Builtin.«zip.__next__» ⟨[.ref z],[]⟩) (λam s'=>∃v,am=.done (.ret v)/\Q v s') E s:=by
 have T:r≠z:=Rr.ne j (by simp) (by simp);have U:l≠z:=R.ne j (by simp) (by simp);have C:l≠g:=R.ne_it h1;change wpAny _ _ (Ė (.ref z) 2 >>= _) _ _ _;refine JT (K2 j S (x:=.bool Ŵ) S ?_);change wpAny _ _ (Ė (.ref z) 3 >>= _) _ _ _;refine JT (K2 j S (x:=.ref TI) S (JT (L1 Uq S ?_)));change wpAny _ _ (Builtin.SmallTypes.ownedTupleIsFree (.ref z) >>= _) _ _ _;refine JT ?_;unfold Builtin.SmallTypes.ownedTupleIsFree;refine JT (K2 j S (x:=.none) S (J5 ?_));simp only[MK];refine JT (Ē (JT (K2 j S (x:=.ref TO) S (JT (L8 j (by simp) λg1 z1 p=>?_)))));replace z1:é g1 z TI TO .ellipsis:=z1;refine JT ?_;simp only[List.zipIdx_cons,List.zipIdx_nil,Nf,OJ];refine JT (JT (M4 ?_));change wpAny _ _ (Builtin.SmallTypes.nextOf (.ref g) >>= _) _ _ _;refine JT (mV (h1.but p D.a3) (Rr.but p T) hx λg2 p2 t=>J5 ?_);have t2:Ø g2 TO a b:=t.extBut _ _ D.a8 (p.extBut _ _ D.a2 Ur);refine JT (L1 t2 S (JT (Nh t2 λg3 aw u=>JT (ń (J5 ?_)))));replace aw:Ø g3 TO x b:=aw;refine JT (JT (M4 ?_));change wpAny _ _ (Builtin.SmallTypes.nextOf (.ref h) >>= _) _ _ _;refine JT (mV (((h2.but p D.a4).but t D.a0.symm).but u D.a9.symm) (((R.but p U).but t C).but u n2) hy λg4 p4 F=>J5 ?_);have t4:Ø g4 TO x b:=F.extBut _ _ D.a9 aw;refine JT (L1 t4 S (JT (Nh t4 λf O G=>JT (ń (J5 (J5 ?_))))));replace O:Ø f TO x y:=O;refine JT (L1 O S (JT (wpAny_newTuple ?_)))
 have sz:f.objs.size=s.heap.objs.size:=by rw[G.1,F.1,u.1,t.1,p.1]
 have z5:é f z TI TO .ellipsis:=G.extBut _ _ D.a2.symm (F.extBut _ _ D.a4.symm (u.extBut _ _ D.a2.symm (t.extBut _ _ D.a3.symm z1)))
 have k5:∀c o,c∉[z,TO,g,h]->s.heap.get? c=Z o->f.get? c=Z o:=λc o K e=>by let⟨J,c2,c3,c4⟩:=nE K;show G.extBut _ _ c2 (F.extBut _ _ c4 (u.extBut _ _ c2 (t.extBut _ _ c3 (p.extBut _ _ J e))))
 have q1:SqI H f g r (M+1):=((p2.but u D.a8.symm).but F D.a0).but G D.a8.symm;have q2:SqI I f h l (N+1):=p4.but G D.a9.symm;change wpAny _ _ (Builtin.SmallTypes.ownedTupleHandOut (.ref z) (.ref f.objs.size) >>= _) _ _ _;refine JT ?_;unfold Builtin.SmallTypes.ownedTupleHandOut;have z6:é (f.push { cls:=.type "tuple",data:=.seq #[x,y] }) z TI TO .ellipsis:=JW _ z5;refine JT (L8 z6 (by simp) λg7 z7 X=>?_);replace z7:é g7 z TI TO (rawInt f.objs.size):=z7;refine L8 z7 (by simp) λB P ar=>?_;replace P:é B z TI TO (rawInt f.objs.size):=P;have up:∀c o,c≠z->f.get? c=Z o->B.get? c=Z o:=λc o J e=>ar.extBut _ _ J (X.extBut _ _ J (JW _ e));have zl:f.objs.size≠z:=N5 (Ka z5);have t8:Ø B f.objs.size x y:=ar.extBut _ _ zl (X.extBut _ _ zl (Kb _ S))
 have e8:B.objs.size=f.objs.size+1:=by rw[ar.1,X.1,K0]
 rw[sz]at P t8 e8;refine J5 ⟨_,S,?_⟩;change Q (.ref f.objs.size) _;rw[sz];show hQ B P (up _ _ D.a2 O) (q1.at λo e=>up _ o D.a3 e) (q2.at λo e=>up _ o D.a4 e) t8 e8 λc o K e=>up c o (nE K).1 (k5 c o K e)
theorem zv{ar aw:Bool}{z TI TO r v F B:Addr}{am T:Nat}{xs ys:Array Value}{a b:Value}{Q:Fin->À->Prop}(hh:A.handled=ű)(D:ZAp z TI TO r v)
  (l:é s.heap z TI TO .none) (Uq:Ø s.heap TI (.ref r) (.ref v)) (Ur:Ø s.heap TO a b) (n1:F≠TO) (n2:B≠TO)
  (N:SqI ar s.heap r F am) (h2:SqI aw s.heap v B T) (I:SqO ar s.heap F xs) (H:SqO aw s.heap B ys) (Rt:xs[am]?=ű\/ys[T]?=ű)
  (hE:∀h' e,(∀c o,c∉[z,TO,r,v]->s.heap.get? c=Z o->h'.get? c=Z o)->(∃o,h'.get? e=Z o/\o.cls=.type "StopIteration")->E (.ref e) { s with heap:=h' }) :
  wpAny (model prog w) A (Builtin.«zip.__next__» ⟨[.ref z],[]⟩) Q E s:=by
 have y:F≠z:=I.ne l (by simp) (by simp);have U:B≠z:=H.ne l (by simp) (by simp);have C:B≠r:=H.ne_it N;change wpAny _ _ (Ė (.ref z) 2 >>= _) _ _ _;refine JT (K2 l S (x:=.bool Ŵ) S ?_);change wpAny _ _ (Ė (.ref z) 3 >>= _) _ _ _;refine JT (K2 l S (x:=.ref TI) S (JT (L1 Uq S ?_)));change wpAny _ _ (Builtin.SmallTypes.ownedTupleIsFree (.ref z) >>= _) _ _ _;refine JT ?_;unfold Builtin.SmallTypes.ownedTupleIsFree;refine JT (K2 l S (x:=.none) S (J5 ?_));simp only[MK];refine JT (Ē (JT (K2 l S (x:=.ref TO) S (JT (L8 l (by simp) λg1 G f=>?_)))));replace G:é g1 z TI TO .ellipsis:=G;refine JT ?_;simp only[List.zipIdx_cons,List.zipIdx_nil,Nf,OJ];refine JT (JT (M4 ?_));change wpAny _ _ (Builtin.SmallTypes.nextOf (.ref r) >>= _) _ _ _
 cases R:xs[am]? with
 |none=>
  refine JT (mz hh (N.but f D.a3) (I.but f y) R λM e g P=>?_);let⟨X,j,t⟩:=P;have z2:é M z TI TO .ellipsis:=g _ _ D.a3.symm G
  have K:e≠z:=λq=>by subst q;rw[z2]at j;cases j;simp at t
  refine L8 z2 (by simp) λg3 _ p=>hE g3 e (λc o O q=>?_) ⟨X,p.extBut _ _ K j,t⟩;let⟨u,c2,J,c4⟩:=nE O;show p.extBut _ _ u (g _ _ J (f.extBut _ _ u q))
 |some x=>
  have hy:ys[T]?=ű:=by
   rcases Rt with h|h
   ·rw[R]at h;cases h
   ·show h
  refine JT (mV (N.but f D.a3) (I.but f y) R λM p2 g=>J5 ?_);have t2:Ø M TO a b:=g.extBut _ _ D.a8 (f.extBut _ _ D.a2 Ur);refine JT (L1 t2 S (JT (Nh t2 λg3 t3 p=>JT (ń (J5 ?_)))));refine JT (JT (M4 ?_));change wpAny _ _ (Builtin.SmallTypes.nextOf (.ref v) >>= _) _ _ _;refine JT (mz hh (((h2.but f D.a4).but g D.a0.symm).but p D.a9.symm) (((H.but f U).but g C).but p n2) hy λg4 e s4 P=>?_);let⟨X,j,t⟩:=P;have z4:é g4 z TI TO .ellipsis:=s4 _ _ D.a4.symm (p.extBut _ _ D.a2.symm (g.extBut _ _ D.a3.symm G))
  have K:e≠z:=λq=>by subst q;rw[z4]at j;cases j;simp at t
  refine L8 z4 (by simp) λg5 _ s5=>hE g5 e (λc o O q=>?_) ⟨X,s5.extBut _ _ K j,t⟩;let⟨u,c2,J,c4⟩:=nE O;show s5.extBut _ _ u (s4 _ _ c4 (p.extBut _ _ c2 (g.extBut _ _ J (f.extBut _ _ u q))))
theorem A1(c l:Bool)(a j:Addr)(xs ys:Array Value) :
  Ň (Builtin.«zip.__new__» ⟨[.type "zip",.ref a,.ref j],[]⟩) (λ_ R s=>SqO c s.heap a xs/\SqO l s.heap j ys /\
   R (.ok (.ret (.ref (s.heap.objs.size+4)))) { s with heap:=((((s.heap.push (cS c a)).push (cS l j)).push { cls:=.type "tuple",data:=.seq #[.ref s.heap.objs.size,.ref (s.heap.objs.size+1)] }).push { cls:=.type "tuple",data:=.seq #[.none,.none] }).push { cls:=.type "zip",data:=.fields #[.none,.bool Ŵ,.bool Ŵ,.ref (s.heap.objs.size+2),.ref (s.heap.objs.size+3)] } }):=
 .of_wp λprog w A R s h=>by
  let⟨f,g,d,t,os⟩:=s;let⟨v,u,h⟩:=h;have y:=sub_zip;have p:SqO c (č ⟨f,g,d,t,os⟩) a xs:=v;have r:SqO l (č ⟨f.push (cS c a),g,d,t,os⟩) j ys:=SqO.at u λo e=>JW _ e
  wp_walk using qi p,qi r
  have x:(f.push (cS c a)).objs.size=f.objs.size+1:=K0 ..
  have z:((f.push (cS c a)).push (cS l j)).objs.size=f.objs.size+2:=by rw[K0,x]
  refine⟨_,S,?_⟩;simp only[K0];show h
theorem Et{a f:Bool}{e g:Addr}{xs ys:Array Value}{Q:Value->À->Prop}(K:SqO a s.heap e xs)(J:SqO f s.heap g ys)
  (h:∀h',é h' (s.heap.objs.size+4) (s.heap.objs.size+2) (s.heap.objs.size+3) .none->Ø h' (s.heap.objs.size+2) (.ref s.heap.objs.size) (.ref (s.heap.objs.size+1))->Ø h' (s.heap.objs.size+3) .none .none->
   SqI a h' s.heap.objs.size e 0->SqI f h' (s.heap.objs.size+1) g 0->(∀c o,s.heap.get? c=Z o->h'.get? c=Z o)->Q (.ref (s.heap.objs.size+4)) { s with heap:=h' }) :
  wpAny (model prog w) A (call (.type "zip") [.ref e,.ref g]) Q E s:=by
 refine callType_new F.called_zip 'b' (F.typeCall_zip_2 _ _) (F.newCall_zip_2 _ _) (λobj=>F.args_object_init_3 obj _ _) F.entry_zip_new (A1 a f e g xs ys) ⟨K,J,?_⟩
 have R:(cS a e).isFreed=Ŵ:=by cases a<;>rfl
 have am:(cS f g).isFreed=Ŵ:=by cases f<;>rfl
 have H:(s.heap.push (cS a e)).objs.size=s.heap.objs.size+1:=K0 ..
 have B:((s.heap.push (cS a e)).push (cS f g)).objs.size=s.heap.objs.size+2:=by rw[K0,H]
 generalize v:(s.heap.push (cS a e)).push (cS f g)=j at B ⊢
 have M:j.get? s.heap.objs.size=Z (cS a e):=by rw[←v];show JW _ (Kb _ R)
 have N:j.get? (s.heap.objs.size+1)=Z (cS f g):=by rw[←v,←H];show Kb _ am
 have T:∀c o,s.heap.get? c=Z o->j.get? c=Z o:=λc o q=>by rw[←v];show JW _ (JW _ q)
 generalize x:j.push { cls:=.type "tuple",data:=.seq #[.ref s.heap.objs.size,.ref (s.heap.objs.size+1)] }=l
 have I:l.objs.size=s.heap.objs.size+3:=by rw[←x,K0,B]
 have O:Ø l (s.heap.objs.size+2) (.ref s.heap.objs.size) (.ref (s.heap.objs.size+1)):=by rw[←x,←B];show Kb _ S
 have z:∀c o,j.get? c=Z o->l.get? c=Z o:=λc o q=>by rw[←x];show JW _ q
 generalize y:l.push { cls:=.type "tuple",data:=.seq #[.none,.none] }=p
 have U:p.objs.size=s.heap.objs.size+4:=by rw[←y,K0,I]
 have P:Ø p (s.heap.objs.size+3) .none .none:=by rw[←y,←I];show Kb _ S
 have u:∀c o,l.get? c=Z o->p.get? c=Z o:=λc o q=>by rw[←y];show JW _ q
 generalize r:p.push { cls:=.type "zip",data:=.fields #[.none,.bool Ŵ,.bool Ŵ,.ref (s.heap.objs.size+2),.ref (s.heap.objs.size+3)] }=G
 have C:é G (s.heap.objs.size+4) (s.heap.objs.size+2) (s.heap.objs.size+3) .none:=by rw[←r,←U];show Kb _ S
 have t:∀c o,p.get? c=Z o->G.get? c=Z o:=λc o q=>by rw[←r];show JW _ q
 change _/\_;show⟨⟨_,C,S⟩,h _ C (t _ _ (u _ _ O)) (t _ _ P) (mO (t _ _ (u _ _ (z _ _ M)))) (mO (t _ _ (u _ _ (z _ _ N)))) λc o q=>t _ _ (u _ _ (z _ _ (T _ _ q)))⟩
theorem Dr{j l:Bool}{z TI TO e f g h:Addr}{p r:Nat}{xs ys:Array Value}{x y a b:Value}{Q:Ų Value->À->Prop}(D:ZAp z TI TO e f)
  (u:é s.heap z TI TO .none) (C:Ø s.heap TI (.ref e) (.ref f)) (G:Ø s.heap TO a b) (X:g≠TO) (ar:h≠TO)
  (P:SqI j s.heap e g p) (R:SqI l s.heap f h r) (B:SqO j s.heap g xs) (v:SqO l s.heap h ys) (T:xs[p]?=Z x) (U:ys[r]?=Z y)
  (am:∀h',é h' z TI TO (rawInt s.heap.objs.size)->Ø h' TO x y->SqI j h' e g (p+1)->SqI l h' f h (r+1)->Ø h' s.heap.objs.size x y->h'.objs.size=s.heap.objs.size+1->
   (∀c o,c∉[z,TO,e,f]->s.heap.get? c=Z o->h'.get? c=Z o)->Q (Z (.ref s.heap.objs.size)) { s with heap:=h' }):wpAny (model prog w) A (ù (.ref z)) Q E s:=by
 have t:s.TypeIs (.ref z) "zip":=⟨_,u,S⟩;unfold ù
 show JT (Ğ (Lm (name:=Str.ofString "__next__") t Ni (L0 Ni t F.entry_zip_next
  (Dk D u C G X ar P R B v T U λh' H I J K M N O=>J5 (am h' H I J K M N O)) (F.args_zip_next_1 _))))
theorem Hk{l p:Bool}{z TI TO f g h j:Addr}{u v:Nat}{xs ys:Array Value}{a b:Value}{Q:Ų Value->À->Prop}(N:A.handled=ű)(D:ZAp z TI TO f g)
  (t:é s.heap z TI TO .none) (C:Ø s.heap TI (.ref f) (.ref g)) (G:Ø s.heap TO a b) (R:h≠TO) (U:j≠TO)
  (H:SqI l s.heap f h u) (I:SqI p s.heap g j v) (y:SqO l s.heap h xs) (x:SqO p s.heap j ys) (B:xs[u]?=ű\/ys[v]?=ű)
  (J:∀h',(∀c o,c∉[z,TO,f,g]->s.heap.get? c=Z o->h'.get? c=Z o)->Q ű { s with heap:=h' }):wpAny (model prog w) A (ù (.ref z)) Q E s:=by
 have r:s.TypeIs (.ref z) "zip":=⟨_,t,S⟩;unfold ù;refine JT (Ğ (Lm (name:=Str.ofString "__next__") r Ni (L0 Ni r F.entry_zip_next (zv N D t C G R U H I y x B λh' e O M=>?_) (F.args_zip_next_1 _))));let⟨o,P,K⟩:=M;show JT (ţ (T:="StopIteration") (b:=ų) ⟨o,P,K⟩ isSubtype_stop (J5 (J _ O)))
end
theorem Inv.sqb_ne{X:Cx}{g:Y (Addr×Ð)}{p:St}{H:Hp}{s:À}{b:Bool}{a c:Addr}{xs:Y V}(I:Inv X g p H s)(h:SqB X.K b H a xs)(f:dN X g H c):a≠c:=λz=>by
 subst z
 have l:∀o,X.K.lookup a=Z o->False:=λo e=>by
  have j:=I.mod.kin a o e;rcases f.2.2.2.1 with q|q
  ·show I.ok.noex a o j q
  ·show absurd (Ks (Ka j) (J6 I.ok.bsz q)) (LV _)
 cases b with
 |true=>
  rcases h with (h|⟨o,h⟩)|⟨o,_,_,h,_⟩
  ·rw[f.1]at h;cases h
  ·rw[f.1]at h;cases h
  ·show l o h
 |false=>
  rcases h with (h|⟨o,h⟩)|⟨o,_,_,h,_⟩
  ·rw[f.1]at h;cases h
  ·rw[f.1]at h;cases h
  ·show l o h
noncomputable def qK(K:Â)(a:Bool)(a1:Addr)(c:Bool)(a2:Addr):It:=
 ⟨λi H=> ∃xs ys x y, SqB K a H a1 xs /\ SqB K c H a2 ys /\ xs[i]? = Z x /\ ys[i]? = Z y,
  λi H v e=> ∃t x y, H t = ű /\ v = .ref t /\ e = au H t (.tup [x, y]) /\ (∀xs, SqB K a H a1 xs-> xs[i]? = Z x) /\ ∀ys, SqB K c H a2 ys-> ys[i]? = Z y,
  λi H=> ∃xs ys, SqB K a H a1 xs /\ SqB K c H a2 ys /\ (xs.length <= i \/ ys.length <= i)⟩
theorem Fm{P:Ä}{w:Å}{K:Â}{es:Y Ã}{k:Nat}{pos:Õ}(b1 b2:Bool)(a1 a2 z TI TO g j:Addr)(D:ZAp z TI TO g j) :
  Turn P w K (.Tuple es k pos) (qK K b1 a1 b2 a2) [z,TI,TO,g,j] z (λi h=>é h z TI TO .none/\Ø h TI (.ref g) (.ref j)/\(∃a b,Ø h TO a b)/\SqI b1 h g a1 i/\SqI b2 h j a2 i) where
 mem:=JY
 obj:=λi h st c f=>by
  let⟨r,p,⟨a,b,t⟩,A,B⟩:=st;simp only[J9,KJ,Ml]at f;rcases f with rfl|rfl|rfl|rfl|rfl
  ·show⟨_,r,λv q=>by have F:Data.fields _=Data.cell v:=q;cases F⟩
  ·show⟨_,p,λv q=>by have F:Data.seq _ _=Data.cell v:=q;cases F⟩
  ·show⟨_,t,λv q=>by have F:Data.seq _ _=Data.cell v:=q;cases F⟩
  ·show A.obj
  ·show B.obj
 keep:=λi h h' st k=>by
  let⟨r,p,⟨a,b,t⟩,A,B⟩:=st;have M:=ku z TI TO g j;show⟨k z M.1 _ r,k TI M.2.1 _ p,⟨a,b,k TO M.2.2.1 _ t⟩,A.at λo q=>k g M.2.2.2.1 o q,B.at λo q=>k j M.2.2.2.2 o q⟩
 item:=by
  intro X U hw T f i l s σ H E I C st aw;subst U hw T;let⟨xs,ys,x,y,G,J,hx,hy⟩:=aw;let⟨r,p,⟨a,b,t⟩,A,B⟩:=st;let⟨Ut,Q,p1,_⟩:=I.sqb G;let⟨RQ,R,p2,_⟩:=I.sqb J;let⟨u,hu,ru⟩:=Q.get hx;let⟨v,hv,rv⟩:=R.get hy;refine Dr D r p t (I.sqb_ne G (C TO (ku z TI TO g j).2.2.1)) (I.sqb_ne J (C TO (ku z TI TO g j).2.2.1)) A B p1 p2 (x:=u) (y:=v) (by simpa using hu) (by simpa using hv) λh' z1 z2 z3 z4 z5 z6 O=>?_;refine⟨.ref s.heap.objs.size,S,wpAny_letOwnedTupleGo_zip z1 λg2 zz N=>?_⟩;have zn:H s.heap.objs.size=ű:=I.fresh
  have I1:Inv X l σ (au H s.heap.objs.size (.tup [x,y])) { s with heap:=s.heap.push { cls:=.type "tuple",data:=.seq #[u,v] },toks:=s.toks }:=
   I.laid (λc o q=>JW _ q) (J0 _) ⟨by change 2<=sizeLine;decide,[u,v],.cons ru (.cons rv .nil),_,Kb _ S,⟨S,S⟩,0,S⟩
  have Xb:∀c∈[z,TI,TO,g,j],c<s.heap.objs.size:=λc f=>by
   simp only[J9,KJ,Ml]at f;rcases f with rfl|rfl|rfl|rfl|rfl
   ·show Ka r
   ·show Ka p
   ·show Ka t
   ·show A.lt
   ·show B.lt
  have f1:∀c∈[z,TI,TO,g,j],dN X l (au H s.heap.objs.size (.tup [x,y])) c:=λc f=>⟨by rw[aH (KA (Xb c f))];show (C c f).1,(C c f).2⟩;have I2:=I1.turnedL (h':=g2) (ch:=[z,TI,TO,g,j]) (t':=s.toks) (λc o f q=>?_) f1
  ·refine⟨.ref s.heap.objs.size,_,I2,S,⟨s.heap.objs.size,x,y,zn,S,S,λUX am=>by rw[I.sqb_inj am G];show hx,λys' am=>by rw[I.sqb_inj am J];show hy⟩,
    ⟨zz,N.extBut _ _ D.a1 (O TI _ (by simp[D.a1,D.a5,D.a6,D.a7]) p),⟨_,_,N.extBut _ _ D.a2 z2⟩,z3.but N D.a3,z4.but N D.a4⟩,λc f=>(f1 c f).1⟩
  ·have ar:c≠z:=λe=>f (e▸JY);refine (N.2 c ar).trans ?_;rcases Heap.get?_push_cases q with⟨e,e'⟩|F
   ·subst e;subst e';show z5
   ·show O c o (λe=>f (vF e)) F
 done:=by
  intro X U hw T f i l s σ H E I C st aw;subst U hw T;let⟨xs,ys,G,J,Rt⟩:=aw;let⟨r,p,⟨a,b,t⟩,A,B⟩:=st;let⟨Ut,Q,p1,_⟩:=I.sqb G;let⟨RQ,R,p2,_⟩:=I.sqb J;have l1:=Q.length;have l2:=R.length
  have he:Ut.toArray[i]?=ű\/RQ.toArray[i]?=ű:=by
   rcases Rt with q|q
   ·show .inl (by simp;omega)
   ·show .inr (by simp;omega)
  refine Hk (I.ok.hd f) D r p t (I.sqb_ne G (C TO (ku z TI TO g j).2.2.1)) (I.sqb_ne J (C TO (ku z TI TO g j).2.2.1)) A B p1 p2 he λh' O=>⟨S,?_⟩;refine I.turnedL (ch:=[z,TI,TO,g,j]) (t':=s.toks) (λc o f q=>O c o (λe=>f (vF e)) q) C
 self:=λ_ _ _ _ _ st h=>š st.1 h
theorem yV(n:Nat):ZAp (n+4) (n+2) (n+3) n (n+1):=
 ⟨(by omega:n+2≠n+4),(by omega:n+3≠n+4),(by omega:n≠n+4),(by omega:n+1≠n+4),(by omega:n+2≠n+3),(by omega:n+2≠n),(by omega:n+2≠n+1),(by omega:n+3≠n),(by omega:n+3≠n+1),(by omega:n≠n+1)⟩
end L2
namespace L2
open PySem PySem.Spec PyProof.Rows
section
variable{X:Cx}
theorem Ck:bR X (Í .Mult) (rI ň λi j=>.int (i*j)):=ox λ_ _ _ _ _ _ _ a q=>mul_int q a
noncomputable def CDivB(i j:Int):Prop:=0<j/\j.natAbs.log2<9000
theorem AF:bR X (Í .FloorDiv) (rI CDivB λi j=>.int (i/j)):=ox λi j _ _ _ _ _ a q=>by have c:(0:Int)<j:=a.1;show floordiv_int () (by rw[Int.fdiv_eq_ediv_of_nonneg i ()];show q) (.inl (PyProof.noPylong_of_log2 a.2))
end
theorem Av{n k:Nat}(a:0<k)(h:n<2^k):n.log2<k:=by
 rcases MQ n with z|z
 ·subst z;simpa using a
 ·show (Nat.log2_lt (N5 z)).mpr h
theorem CDivB.of{i j:Int}(a:0<j)(h:j<2^9000):CDivB i j:=⟨a,Av 'b' (by
 have e:(j.natAbs:Int)=j:=Int.natAbs_of_nonneg (Int.le_of_lt a)
 have:(j.natAbs:Int)<((2^9000:Nat):Int):=by rw[e];exact_mod_cast h
 exact_mod_cast this)⟩
theorem jX{a b:Int}(c:-(2^64)<a)(e:a<2^64):ň a b:=.of_left (intBits_le_64 c e)
theorem mm{a b:Int}(c:-(2^64)<b)(e:b<2^64):ň a b:=.of_right (intBits_le_64 c e)
section
variable{prog:Ä}{w:Å}{A:È}{E:Value->À->Prop}{s:À}
theorem sH{e t:Addr}{a:Array Value}(g:t≠e):∀(n i:Nat)(s:À)(Q:Y Value->À->Prop),s.heap.IsListIter e t i->s.heap.IsList t a->i+n<=a.size->
  (∀h',h'.IsListIter e t (i+n)->Heap.SameBut e s.heap h'->Q ((a.toList.drop i).take n) { s with heap:=h' })->wpAny (model prog w) A (draw (.ref e) n) Q E s
 |0,i,s,Q,c,_,_,f=>by change wpAny _ _ (pure []) Q E s;show J5 (by simpa using f s.heap c (Heap.SameBut.refl ..))
 |n+1,i,s,Q,c,j,u,f=>by
  have h:i<a.size:=by omega
  change wpAny _ _ (ù (.ref e) >>= _) Q E s;refine JT (MY c j (x:=a[i]) (by simp[h]) λy o l=>?_);refine JT (Lz (sH g n (i+1) _ _ o (j.extBut l.extBut g) () λr p v=>J5 ?_))
  have hd:a.toList.drop i=a[i]::a.toList.drop (i+1):=by simp[Lv,h]
  have:=f r (by rw[show i+(n+1)=i+1+n by omega];show p) (l.trans v);rw[hd,List.take_succ_cons]at this;show this
theorem BG{t:Addr}{a:Array Value}{Q:Y Value->À->Prop}(y:A.handled=ű)(c:s.heap.IsList t a)
  (x:∀h',Heap.ExtBut s.heap.objs.size s.heap h'->Q a.toList { s with heap:=h' }):wpAny (model prog w) A (unpackItems (.ref t) a.size ű) Q E s:=by
 have g:t≠s.heap.objs.size:=by let⟨o,z,_⟩:=c;show KA (Ka z)
 unfold unpackItems;refine JT ?_;unfold notIterableAtAll;refine JT (wpAny_specialOf c.typeIs slot_list_iter.lookup (J5 ?_));simp only[NH,N8];refine JT (Lz (NR c (JT (Lz (sH g a.size 0 _ _ ⟨_,Kb _ S,S,S⟩ (c.push _) () λu p j=>?_)))))
 have l:List.take a.size (List.drop 0 a.toList)=a.toList:=by rw[Mf];show K9 (by simp)
 rw[l,JV (by simp)];have f:u.IsList t a:=(c.push _).extBut j.extBut g;refine JT (Lz (M6 y p f (by simp) λv r=>?_));simp only[Option.isSome_none,NH,N8];show J5 (x v λb o h e=>r b o h (j.extBut b o h (JW _ e)))
end
section
variable{X:Cx}{c:Õ}
noncomputable def qh(K:Â)(n:Nat)(t:eV):TG:=λv e H Q=>∃a xs,v=.ref a/\SqL K H a xs/\xs.length=n/\t xs e H Q
theorem yS{g:Y Ã}{k:Nat}{t:eV}{n:Nat}(B:X.calm=ų)(h:PGs X g t)
  (E:(Ê g X.env).length=n:=by rfl) (y:(Ê g X.env).findIdx? (·.1)=ű:=by rfl):PG X (.Tuple g k c) (qh X.K n t):=by
 intro f s p H v u Q I r j;let⟨a,xs,A,F,C,j⟩:=j;subst A;cases r;let⟨x,l,G,K⟩:=I.list F;rw[assign_Tuple];refine JT (MJ ?_);unfold unpack
 have z:(Ê g X.env).length=x.toArray.size:=by simp[E,←C,l.length]
 rw[z,y];refine JT (Lz (BG (I.ok.hd B) G.isList λh' J=>?_));have w:Inv X f p H { s with heap:=h' }:=I.kept (t':=s.toks) λb o e=>J b o (KA (Ka e)) e;show h f _ p H xs _ Q w (by simpa using l) j
end
inductive IsiV(K:Â)(H:Hp):V->String->Bool->Prop where
 |int_int (i):IsiV K H (.int i) "int" ų
 |int_bool (i):IsiV K H (.int i) "bool" Ŵ
 |int_tuple (i):IsiV K H (.int i) "tuple" Ŵ
 |int_str (i):IsiV K H (.int i) "str" Ŵ
 |bl_int (b):IsiV K H (.bl b) "int" ų
 |bl_bool (b):IsiV K H (.bl b) "bool" ų
 |bl_tuple (b):IsiV K H (.bl b) "tuple" Ŵ
 |str_str (x):IsiV K H (.str x) "str" ų
 |str_tuple (x):IsiV K H (.str x) "tuple" Ŵ
 |tup_tuple {a xs}:SqT K H a xs->IsiV K H (.ref a) "tuple" ų
 |tup_int {a xs}:SqT K H a xs->IsiV K H (.ref a) "int" Ŵ
 |lst_tuple {a xs}:SqL K H a xs->IsiV K H (.ref a) "tuple" Ŵ
 |lst_list {a xs}:SqL K H a xs->IsiV K H (.ref a) "list" ų
noncomputable def wH(K:Â):Y V->Hp->VK->Prop:=λvs H Q=>∃x T b,vs=[x,.ty T]/\IsiV K H x T b/\Q (.bl b) H
theorem D0{x y:V}{us:Y Value}(r:Vals [x,y] us):∃u v,us=[u,v]/\RelV x u/\RelV y v:=by
 cases r with
 |cons r a=>
  cases a with
  |cons c a=>cases a;show⟨_,_,S,r,c⟩
theorem C4{X:Cx}:fv X (.builtin "isinstance") (wH X.K):=by
 intro g s y H xs us Q I r h;let⟨x,T,b,rfl,w,q⟩:=h;let⟨u,v,rfl,f,l⟩:=D0 r;have l:v=.type T:=l;subst l;have a:∀(c:Bool)(t:Nat),Q (.bl c) H->EP X g y Q (.bool c) { s with toks:=t }:=λc t q=>⟨.bl c,H,I.tok t,S,q⟩
 cases w with
 |int_int i=>let⟨t,rfl⟩:=f;show IsiPair.int_int (a _ s.toks q)
 |int_bool i=>let⟨t,rfl⟩:=f;show IsiPair.int_bool (a _ _ q)
 |int_tuple i=>let⟨t,rfl⟩:=f;show IsiPair.int_tuple (a _ _ q)
 |int_str i=>let⟨t,rfl⟩:=f;show IsiPair.int_str (a _ _ q)
 |bl_int b=>cases f;show IsiPair.bool_int (a _ s.toks q)
 |bl_bool b=>cases f;show IsiPair.bool_bool (a _ s.toks q)
 |bl_tuple b=>cases f;show IsiPair.bool_tuple (a _ _ q)
 |str_str x=>let⟨t,rfl⟩:=f;show IsiPair.str_str (a _ s.toks q)
 |str_tuple x=>let⟨t,rfl⟩:=f;show IsiPair.str_tuple (a _ _ q)
 |tup_tuple h=>
  cases f;let⟨j,_,p,_⟩:=I.tuple h;show Nj (Ů (Tx:="tuple") F.isi_meta_tuple F.sub_tuple_tuple) ⟨p.typeIs,a _ s.toks q⟩
 |tup_int h=>
  cases f;let⟨j,_,⟨o,e,c,_⟩,_⟩:=I.tuple h;show Nj (isinstance_false_tuple 'a' F.isi_meta_int F.sub_tuple_int) ⟨⟨o,e,c⟩,a _ _ q⟩
 |lst_tuple h=>
  cases f;let⟨j,_,p,_⟩:=I.list h;let⟨o,e,c,_⟩:=p.isList;show Nj (isinstance_false_list 'a' F.isi_meta_tuple F.sub_list_tuple) ⟨⟨o,e,c⟩,a _ _ q⟩
 |lst_list h=>
  cases f;let⟨j,_,p,_⟩:=I.list h;show Nj (Ů (Tx:="list") F.isi_meta_list F.sub_list_list) ⟨p.isList.typeIs,a _ s.toks q⟩
theorem EW{prog:Ä}{w:Å}{A:È}(y:A.handled=ű)(b:Bool)(j a:Addr)(u:a≠j)(l:Array Value):Walks prog w A j [j,a] [j] l.size (λi v=>l[i]?=Z v) (λi h=>SqI b h j a i/\SqO b h a l) where
 sub:=λc f=>by rw[J3.mp f];simp
 frame:=λ_ _ _ st k=>⟨st.1.at λo e=>k j (by simp) o e,st.2.at λo e=>k a (by simp) o e⟩
 item:=λi s Q E r st g=>by
  cases b with
  |true=>show MY st.1 st.2 (x:=l[i]) (by simp[r]) λh' q p=>g _ h' s.toks (by simp[r]) ⟨q,SqO.at (b:=ų) st.2 λo e=>(p.2 a u).trans e⟩ λc o f e=>(p.2 c λz=>f (by simp[z])).trans e
  |false=>show ģ st.1 st.2 (x:=l[i]) (by simp[r]) λh' q p=>g _ h' s.toks (by simp[r]) ⟨q,SqO.at (b:=Ŵ) st.2 λo e=>(p.2 a u).trans e⟩ λc o f e=>(p.2 c λz=>f (by simp[z])).trans e
 done:=λs Q E st g=>by
  cases b with
  |true=>show M6 y st.1 st.2 (by simp) λh' t=>g h' s.toks λc o f e=>t c o (λz=>f (by simp[z])) e
  |false=>show Ĵ y st.1 st.2 (by simp) λh' t=>g h' s.toks λc o f e=>t c o (λz=>f (by simp[z])) e
 self:=λi s Q E st g=>by
  cases b with
  |true=>show Ł st.1 g
  |false=>show Ķ st.1 g
theorem FM{x:V}{us:Y Value}(r:Vals [x] us):∃u,us=[u]/\RelV x u:=by
 cases r with
 |cons r a=>cases a;show⟨_,S,r⟩
noncomputable def yu(K:Â)(b:Bool)(f:Y Bool->Bool):Y V->Hp->VK->Prop:=λvs H Q=>∃(a:Addr)(bs:Y Bool),vs=[.ref a]/\SqB K b H a (bs.map V.bl)/\Q (.bl (f bs)) H
theorem Fz{prog:Ä}{w:Å}{A:È}{a:Array Value}{bs:Y Bool}(h:Vals (bs.map V.bl) a.toList):TruthOf prog w A (λi v=>a[i]?=Z v) (λi=>bs.getD i Ŵ):=by
 intro i v s Q E e q
 have f:a.toList[i]?=Z v:=by simpa using e
 have j:i<bs.length:=by
  have:=(KO.mp f).1;have:=h.length;rw[mn]at this;omega
 let⟨l,g,c⟩:=h.get (i:=i) (x:=V.bl (bs.getD i Ŵ)) (by simp[j]);rw[f]at g;cases g;have c:v=.bool (bs.getD i Ŵ):=c;subst c;show LC q
theorem Ag(bs:Y Bool):(List.range bs.length).all (λi=>bs.getD i Ŵ)=bs.all id:=by
 rw[Lw];simp only[Kf,Li,id];constructor
 ·intro h x c;let⟨i,a,rfl⟩:=List.mem_iff_getElem.mp c;have:=h i a;simpa [a] using this
 ·intro h i a;have:=h bs[i] (LJ a);simpa [a] using this
theorem Ca(b:Bool){X:Cx}(t:X.calm=ų):fv X (.builtin "all") (yu X.K b λbs=>bs.all id):=by
 intro g s F H xs us Q I r h;let⟨a,bs,rfl,x,q⟩:=h;let⟨u,rfl,B⟩:=FM r;cases B;let⟨f,j,p,E⟩:=I.sqb x;have l:a≠s.heap.objs.size:=KA p.lt
 have y:f.toArray.size=bs.length:=by have:=j.length;rw[mn]at this;simp[this]
 have W:=EW (prog:=X.prog) (w:=X.w) (A:=X.A.in1) (I.ok.hd t) b s.heap.objs.size a l f.toArray;refine call_all_walk (qi p ⟨s.heap.objs.size,[s.heap.objs.size,a],[s.heap.objs.size],f.toArray.size,_,_,λi=>bs.getD i Ŵ,S,W,⟨mO (Kb _ (by cases b<;>rfl)),p.at λo e=>JW _ e⟩,Fz (by simpa using j),λh' C v=>?_⟩);rw[y,Ag];refine⟨.bl (bs.all id),H,I.kept (h':=h') (t':=C) λc o e=>v c o (λz=>?_) (JW _ e),S,q⟩;rw[J3.mp z]at e;show absurd (Ka e) (LV _)
noncomputable def fK(N:Y Str)(a scope:æ)(N':Y Str)(cap:Y (Ų Nat)):Bool:=
 decide (scope.kind=.function)&&scope.names.all (λx=>decide (x.2=.cell->scope.names.lookup x.1=Z .cell))&&scope.names.all (λx=>decide (x.2=.local->scope.names.lookup x.1=Z .local)) &&
  scope.names.all (λx=>decide (x.2=.free->a.names.lookup x.1=Z .cell/\scope.names.lookup x.1=Z .free))&&decide N'.Nodup&&decide (cap.length=N'.length) &&
  (cap.zip N').all λp=>match p.1 with|none=>ų|some i=>decide (N[i]?=Z p.2/\(p.2,NameKind.free)∈scope.names)
theorem CompScope.ok{N:Y Str}{f scope:æ}{N':Y Str}{cap:Y (Ų Nat)}(h:fK N f scope N' cap=ų):CompScope N f scope N' cap:=by
 unfold fK at h;simp only[Kc,Kt,Kf]at h;let⟨⟨⟨⟨⟨⟨g,j⟩,l⟩,e⟩,o⟩,r⟩,t⟩:=h;refine⟨g,j,l,λx c a=>(e x c a).1,λx c a=>(e x c a).2,o,r,λp v i u=>?_⟩;have:=t p v;rw[u]at this;simpa using this
theorem cR{H:Hp}{p:Addr}(h:H p=ű)(o:HO):Same H (au H p o):=λb u q=>by rw[aH (cA q h)];show q
theorem Ic{H a:Hp}{p:Addr}(s:Same H a)(h:H p=ű)(o:HO):Same H (au a p o):=λb u q=>by rw[aH (cA q h)];show s b u q
theorem Same.sqt{K:Â}{H c:Hp}{a:Addr}{xs:Y V}(e:Same H c)(h:SqT K H a xs):SqT K c a xs:=SqB.same (b:=Ŵ) e h
theorem small{n:Nat}(h:n<=1000):n<=sizeLine:=L6 (ed h)
theorem dP{p:Prop}[Decidable p](h:decide p=ų):p:=J8 h
theorem mq{a:Type}{xs:Y a}{i:Nat}{x:a}(h:xs[i]?=Z x):xs.take (i+1)=xs.take i++[x]:=by let⟨c,e⟩:=KO.mp h;rw[List.take_succ_eq_append_getElem c,e]
theorem bj{a:Type}{xs:Y a}{i:Nat}{x:a}(h:xs[i]?=Z x):i<xs.length:=(KO.mp h).1
theorem mh{a:Type}{xs:Y a}{i:Nat}{x:a}{k:Int}(h:xs[i]?=Z x)(e:k=(i:Int)):bT xs k=Z x:=by subst e;show DF h
noncomputable def aT{a:Type}(xs:Y a)(lo c:Ų Int):Y a:=(xs.drop (HT.sIx xs.length 0 lo)).take (HT.sIx xs.length xs.length c-HT.sIx xs.length 0 lo)
theorem Vals.get'{xs:Y V}{us:Y Value}(r:Vals xs us){j:Nat}(h:j<us.length):∃x,xs[j]?=Z x/\RelV x us[j]:=by
 have f:=Vals.length r
 have a:j<xs.length:=by omega
 let⟨u,c,e⟩:=Vals.get (i:=j) (x:=xs[j]) r (by simp[a]);refine⟨xs[j],by simp[a],?_⟩;rw[Km h]at c;cases c;show e
section
variable{prog:Ä}{w:Å}{A:È}{E:Value->À->Prop}{s:À}
theorem Br{t b:Addr}{vs ws:Y Value}{Q:Value->À->Prop}(r:ĭ s.heap t vs.toArray)(p:ĭ s.heap b ws.toArray)(u:vs=[])(h:Q (.ref b) s):wpAny (model prog w) A (Í .Add (.ref t) (.ref b)) Q E s:=by let⟨⟨cls,o,data,sl⟩,g,f,n,hd⟩:=id r;let⟨⟨x,l,data2,j⟩,c,e,v,a⟩:=id p;simp only at f hd e a;subst f hd e a;show ĺ ⟨_,g,S⟩ ⟨_,c,S⟩ N7 ġ MZ MV (MP _ _) (tuple_addW0 t b vs.toArray ws.toArray n v o l sl j (by simp[u])) ⟨g,c,h⟩
end
theorem Aw{e:Type}(xs:Y e)(n:Nat):aT xs ű (Z (n:Int))=xs.take n:=by
 unfold aT;have a:HT.sIx xs.length 0 ű=0:=rfl;have c:HT.sIx xs.length xs.length (Z (n:Int))=min n xs.length:=HT.sIx_nat _ _ _;rw[a,c,Mf,OP];rcases Nat.le_total n xs.length with h|h
 ·rw[Ma h]
 ·rw[Oc h,Od,K9 h]
noncomputable def uQ(K:Â):V->V->Hp->VK->Prop:=λx y H Q=>∃p xs i j v,x=.ref p/\y=.int i/\SqL K H p xs/\i=((j:Nat):Int)/\xs[j]?=Z v/\Q v H
theorem Gf{X:Cx}:rn X (uQ X.K):=by
 intro c s F H o i E C Q I u l h;let⟨p,xs,i,j,v,rfl,rfl,g,rfl,a,q⟩:=h;cases u;let⟨t,rfl⟩:=l;let⟨x,r,pl,B⟩:=I.list g;let⟨w,f,e⟩:=r.get a;have z:=r.length;have A:=iB;have y:=bj a;show wpAny_getItem_list pl.isList () () (by rw[Lh];simpa using f) ⟨v,H,I,e,q⟩
theorem ya{f:Type}(xs:Y f)(a b:Nat)(c:b<=xs.length)(e:a<=b):aT xs (Z (a:Int)) (Z (b:Int))=(xs.drop a).take (b-a):=by unfold aT;rw[HT.sIx_nat,HT.sIx_nat,Ma c,Ma (J6 e c)]
theorem Bj(xs:Y V)(lo a:Ų Int):ip xs lo a=aT xs lo a:=rfl
theorem nF{n j:Nat}(h:j<n):eX n (j:Int)=Z j:=by unfold eX;rw[JX (),JX (),Lh]
theorem xb{a0 a1 a2}{a:Y Ã}{env:ê}:starEach (.BoolOp a0 a1 a2::a) env=(Ŵ,eval (.BoolOp a0 a1 a2) env)::starEach a env:=rfl
theorem cq{a0 a1 a2 a3}{a:Y Ã}{env:ê}:starEach (.BinOp a0 a1 a2 a3::a) env=(Ŵ,eval (.BinOp a0 a1 a2 a3) env)::starEach a env:=rfl
theorem mR{a0 a1 a2}{a:Y Ã}{env:ê}:starEach (.UnaryOp a0 a1 a2::a) env=(Ŵ,eval (.UnaryOp a0 a1 a2) env)::starEach a env:=rfl
theorem qT{a0 a1 a2 a3}{a:Y Ã}{env:ê}:starEach (.IfExp a0 a1 a2 a3::a) env=(Ŵ,eval (.IfExp a0 a1 a2 a3) env)::starEach a env:=rfl
theorem dG{a0 a1 a2 a3}{a:Y Ã}{env:ê}:starEach (.ListComp a0 a1 a2 a3::a) env=(Ŵ,eval (.ListComp a0 a1 a2 a3) env)::starEach a env:=rfl
theorem dF{a0 a1 a2 a3}{a:Y Ã}{env:ê}:starEach (.Compare a0 a1 a2 a3::a) env=(Ŵ,eval (.Compare a0 a1 a2 a3) env)::starEach a env:=rfl
theorem bK{a0 a1 a2 a3}{a:Y Ã}{env:ê}:starEach (.Call a0 a1 a2 a3::a) env=(Ŵ,eval (.Call a0 a1 a2 a3) env)::starEach a env:=rfl
theorem aj{a0 a1 a2}{a:Y Ã}{env:ê}:starEach (.Constant a0 a1 a2::a) env=(Ŵ,eval (.Constant a0 a1 a2) env)::starEach a env:=rfl
theorem cZ{a0 a1 a2}{a:Y Ã}{env:ê}:starEach (.Attribute a0 a1 a2::a) env=(Ŵ,eval (.Attribute a0 a1 a2) env)::starEach a env:=rfl
theorem aR{a0 a1 a2}{a:Y Ã}{env:ê}:starEach (.Subscript a0 a1 a2::a) env=(Ŵ,eval (.Subscript a0 a1 a2) env)::starEach a env:=rfl
theorem ae{a0 a1}{a:Y Ã}{env:ê}:starEach (.Name a0 a1::a) env=(Ŵ,eval (.Name a0 a1) env)::starEach a env:=rfl
theorem Gd{a0 a1}{a:Y Ã}{env:ê}:starEach (.List a0 a1::a) env=(Ŵ,eval (.List a0 a1) env)::starEach a env:=rfl
theorem dY{a0 a1 a2}{a:Y Ã}{env:ê}:starEach (.Tuple a0 a1 a2::a) env=(Ŵ,eval (.Tuple a0 a1 a2) env)::starEach a env:=rfl
theorem ao{a:Õ}{env:ê}:(backTo a (starEach [] env)).any (·.1)=Ŵ:=rfl
theorem bC{a:Õ}{e:Ã}{c:Y Ã}{env:ê}(h:starEach (e::c) env=(Ŵ,eval e env)::starEach c env)(f:(backTo a (starEach c env)).any (·.1)=Ŵ):(backTo a (starEach (e::c) env)).any (·.1)=Ŵ:=by rw[h];show f
theorem bZ{a : Õ}{e : Ã}{env : ê}(h : starEach [e] env = (Ŵ, eval e env) :: starEach [] env) : ((backTo a (starEach [e] env)).all (λx=> !x.1)&&(Ù a (Î [] env)).all (λx=>x.1.isSome)
      && decide ([e].length + ([] : Y Ï).length + (if ([] : Y Ï).isEmpty then 0 else 1) < 30)) = ų:= by
 rw[h];rfl
section
variable{X:Cx}{K:Â}
theorem Ib(h:X.K=K):fv X (.builtin "isinstance") (wH K):=h▸C4
theorem Hc(h:X.K=K):SlR X (qm K):=h▸sl_list
end
end L2
namespace L2
open PySem PySem.Spec PyProof.Rows
section
variable{X:Cx}
theorem B3:bR X (Æ .Is) (λx y H Q=>∃a b:Bool,x=.bl a/\y=.bl b/\Q (.bl (a==b)) H):=by intro c s g H x y v u Q I e f h;let⟨a,b,rfl,rfl,q⟩:=h;cases e;cases f;show wpAny_is_plain S (ou I q (by cases a<;>cases b<;>rfl))
theorem BB:bR X (Æ .IsNot) (λx y H Q=>∃a b:Bool,x=.bl a/\y=.bl b/\Q (.bl (!(a==b))) H):=by intro c s g H x y v u Q I e f h;let⟨a,b,rfl,rfl,q⟩:=h;cases e;cases f;show wpAny_isNot_plain S (ou I q (by cases a<;>cases b<;>rfl))
end
end L2
namespace PySem
open Sem (wp)
open Builtin
open AutoSeq1 (wpAny_loadPart')
theorem DC:fillsNumberSlot (.type "tuple") "mul"=pure Ŵ:=
 fillsNumberSlot_seq (id:="tuple.__mul__") (r:=Z (.builtin "tuple.__rmul__")) MC.lookup 'a' F.slot_tuple_rmul.lookup 'a'
theorem D7:seqRepeat? (.type "tuple")=pure (Z (.builtin "tuple.__mul__")):=by unfold seqRepeat?;rw[seqSlot_of (T:="tuple") (name:="__mul__") (id:="tuple.__mul__") MC.lookup 'a',seqSlot_of (T:="tuple") (name:="__rmul__") (id:="tuple.__rmul__") F.slot_tuple_rmul.lookup 'a'];rfl
theorem IU(a:Int)(t:þ)(l:Addr)(c:Array Value)(n:Nat)(e:Ų Addr)(sl:Array (Ų Value)) :
  Ň (Builtin.«int.__rmul__» ⟨[.int a t,.ref l],[]⟩) (λ_ R s=>s.heap.get? l=Z { cls:=.type "tuple",dict:=e,data:=.seq c n,slots:=sl }/\R (.ok (.ret Value.notImplemented)) s):=
 .of_wp λprog w A R s h=>by let⟨j,g,d,o,os⟩:=s;let⟨f,h⟩:=h;wp_walk;show⟨_,S,h⟩
theorem EZ(l:Addr)(a:Array Value)(n:Nat)(c:Ų Addr)(sl:Array (Ų Value))(u:þ) :
  Ň (Builtin.«tuple.__mul__» ⟨[.ref l,.int 1 u],[]⟩) (λ_ R s=>s.heap.get? l=Z { cls:=.type "tuple",dict:=c,data:=.seq a n,slots:=sl }/\R (.ok (.ret (Value.ref l))) s):=
 .of_wp λprog w A R s h=>by let⟨o,g,d,p,os⟩:=s;let⟨e,h⟩:=h;have f:=Oe;have j:=MR;wp_walk using KZ e;show⟨_,S,h⟩
theorem Cp(l:Addr)(a:Array Value)(n:Nat)(f:Ų Addr)(sl:Array (Ų Value))(k:Int)(u:þ)(e:¬ (decide (k < -(2^63)) ||decide (k≥2^63))=ų)(o:¬ (a.isEmpty ||k==1)=ų)(j:(decide (k<=0) ||a.isEmpty)=ų) :
  Ň (Builtin.«tuple.__mul__» ⟨[.ref l,.int k u],[]⟩) (λ_ R s=>s.heap.get? l=Z { cls:=.type "tuple",dict:=f,data:=.seq a n,slots:=sl }/\R (.ok (.ret (Value.ref s.heap.objs.size))) { s with heap:=s.heap.push { cls:=Value.type "tuple",data:=Data.seq #[] },toks:=s.toks }):=
 .of_wp λprog w A R s h=>by let⟨t,g,d,v,os⟩:=s;let⟨c,h⟩:=h;have p:=Oe;have r:=MR;wp_walk using KZ c;refine Ov (Kd e) ?_;wp_walk using KZ c;show⟨_,S,h⟩
theorem AZ(l:Addr)(a:Array Value)(n:Nat)(p:Ų Addr)(sl:Array (Ų Value))(k:Int)(u:þ)(o:¬ (decide (k < -(2^63)) ||decide (k≥2^63))=ų)(v:¬ (a.isEmpty ||k==1)=ų)(t:¬ (decide (k<=0) ||a.isEmpty)=ų)(c:¬ (a.size*k>(2^63-1)/8))(r:¬ Builtin.Tuple.tupleTooMany (a.size*k)=ų)(hsz:(List.foldl (λf j=>f++j) #[] (List.replicate k.toNat a)).size<=sizeLine) :
  Ň (Builtin.«tuple.__mul__» ⟨[.ref l,.int k u],[]⟩) (λ_ R s=>s.heap.get? l=Z { cls:=.type "tuple",dict:=p,data:=.seq a n,slots:=sl }/\R (.ok (.ret (Value.ref s.heap.objs.size))) { s with heap:=s.heap.push { cls:=Value.type "tuple",data:=Data.seq (List.foldl (λf j=>f++j) #[] (List.replicate k.toNat a)) },toks:=s.toks }):=
 .of_wp λprog w A R s h=>by let⟨z,g,d,B,os⟩:=s;let⟨e,h⟩:=h;have x:=Oe;have y:=MR;wp_walk using KZ e;refine Ov (Kd o) ?_;wp_walk using KZ e;refine Ov (Kd c) ?_;wp_walk using KZ e;show⟨_,S,h⟩
end PySem
namespace L2
open PySem PySem.Spec PyProof.Rows
inductive D where
 |int (i:Int)|bl (b:Bool)|str (x:Str)|non|tup (xs:List D)|lst (xs:List D)|fzl (xs:List D)|obj (nm:Str) (fs:List (Str×D))|map (OW:List (aO×D))|exc (nm:Str) (RL:List D)
noncomputable def fm(a C:Addr)(c:Ų Addr):Heap->Prop:=λh=>∃o vs,h.get? a=Z o/\o.cls=.ref C/\o.dict=c/\o.data=.fields vs
inductive Rp(K:Â)(H:Hp):D->V->Prop where
 |int (i:Int):Rp K H (.int i) (.int i)
 |bl (b:Bool):Rp K H (.bl b) (.bl b)
 |str (x:Str):Rp K H (.str x) (.str x)
 |non:Rp K H .non .non
 |tup {a:Addr} {vs:List V} {ds:List D}:H a=Z (.tup vs)->vs.length=ds.length->(∀(i:Nat)(v:V)(d:D),vs[i]?=Z v->ds[i]?=Z d->Rp K H d v)->Rp K H (.tup ds) (.ref a)
 |lst {a:Addr} {vs:List V} {ds:List D}:H a=Z (.lst vs)->vs.length=ds.length->(∀(i:Nat)(v:V)(d:D),vs[i]?=Z v->ds[i]?=Z d->Rp K H d v)->Rp K H (.lst ds) (.ref a)
 |fzl {a:Addr} {vs:List V} {ds:List D}:SqL K H a vs->vs.length=ds.length->(∀(i:Nat)(v:V)(d:D),vs[i]?=Z v->ds[i]?=Z d->Rp K H d v)->Rp K H (.fzl ds) (.ref a)
 |obj {a C dx:Addr} {nm:Str} {vs:List (Str×V)} {fs:List (Str×D)}:Ú K Á nm=Z (Z (.ref C))->H a=Z (.ins C dx vs)->vs.map (·.1)=fs.map (·.1)->(∀(i:Nat)(v:Str×V)(d:Str×D),vs[i]?=Z v->fs[i]?=Z d->Rp K H d.2 v.2)->Rp K H (.obj nm fs) (.ref a)
 |map {a:Addr} {ws:List (aO×V)} {OW:List (aO×D)}:H a=Z (.dK ws)->ws.map (·.1)=OW.map (·.1)->(∀(i:Nat)(w:aO×V)(d:aO×D),ws[i]?=Z w->OW[i]?=Z d->Rp K H d.2 w.2)->Rp K H (.map OW) (.ref a)
 |exc0 {a C:Addr} {nm:Str}:Ú K Á nm=Z (Z (.ref C))->H a=Z (.ext (fm a C ű))->Rp K H (.exc nm []) (.ref a)
 |exc1 {a C p:Addr} {nm:Str} {v:V} {d:D}:Ú K Á nm=Z (Z (.ref C))->H a=Z (.ext (fm a C (Z p)))->H p=Z (.xd [("at",v)])->Rp K H d v->Rp K H (.exc nm [d]) (.ref a)
noncomputable def RpL(K:Â)(H:Hp)(ds:Y D)(vs:Y V):Prop:=vs.length=ds.length/\∀(i:Nat)(v:V)(d:D),vs[i]?=Z v->ds[i]?=Z d->Rp K H d v
section
variable{K:Â}{H t j l y A w z:Hp}{d:D}{v:V}{ds B:Y D}{vs ws:Y V}
theorem Rp.i{n:Int}(h:Rp K H (.int n) v):v=.int n:=by cases h;rfl
theorem Rp.b{b:Bool}(h:Rp K H (.bl b) v):v=.bl b:=by cases h;rfl
theorem Rp.s{x:Str}(h:Rp K H (.str x) v):v=.str x:=by cases h;rfl
theorem Rp.n(h:Rp K H .non v):v=.non:=by cases h;rfl
theorem gw{P:Int->Prop}(h:match d with|.int n=>P n|_=>False):∃n,d=.int n/\P n:=by
 cases d with
 |int n=>show⟨n,S,h⟩
 |_=>show h.elim
theorem jm{P:Bool->Prop}(h:match d with|.bl n=>P n|_=>False):∃n,d=.bl n/\P n:=by
 cases d with
 |bl n=>show⟨n,S,h⟩
 |_=>show h.elim
theorem CM{P:Y D->Prop}(h:match d with|.tup n=>P n|_=>False):∃n,d=.tup n/\P n:=by
 cases d with
 |tup n=>show⟨n,S,h⟩
 |_=>show h.elim
theorem Rp.same(s:Same H t)(h:Rp K H d v):Rp K t d v:=by
 induction h with
 |int i=>show .int i
 |bl b=>show .bl b
 |str x=>show .str x
 |non=>show .non
 |tup a c _ e=>show .tup (s _ _ a) c e
 |lst a c _ e=>show .lst (s _ _ a) c e
 |fzl a c _ e=>show .fzl (s.seq a) c e
 |obj f a c _ e=>show .obj f (s _ _ a) c e
 |map a c _ e=>show .map (s _ _ a) c e
 |exc0 f a=>show .exc0 f (s _ _ a)
 |exc1 f a c _ e=>show .exc1 f (s _ _ a) (s _ _ c) e
theorem RpL.same(s:Same H t)(h:RpL K H ds vs):RpL K t ds vs:=⟨h.1,λi v d a hd=>(h.2 i v d a hd).same s⟩
theorem RpL.nil:RpL K H [] []:=⟨S,λi v d a _=>by simp at a⟩
theorem RpL.cons(r:Rp K H d v)(h:RpL K H ds vs):RpL K H (d::ds) (v::vs):=⟨by simp[h.1],λi u e c a=>by
 cases i with
 |zero=>cases c;cases a;show r
 |succ i=>show h.2 i u e c a⟩
theorem RpL.append(h:RpL K H ds vs)(h':RpL K H B ws):RpL K H (ds++B) (vs++ws):=by
 refine⟨by rw[wy,wy,h.1,h'.1],λi u e f a=>?_⟩;rcases KL i vs.length with c|c
 ·rw[sg c]at f;rw[sg (by rw[←h.1];show c)]at a;show h.2 i u e f a
 ·rw[JU c]at f;rw[JU (by rw[←h.1];show c),←h.1]at a;show h'.2 _ u e f a
theorem RpL.one(r:Rp K H d v):RpL K H [d] [v]:=.cons r .nil
theorem RpL.take(h:RpL K H ds vs)(k:Nat):RpL K H (ds.take k) (vs.take k):=⟨by rw[Kq,Kq,h.1],λi u e a f=>by
 rcases KL i k with c|c
 ·rw[Mj c]at a f;show h.2 i u e a f
 ·rw[List.getElem?_take_eq_none c]at a
  cases a⟩
theorem RpL.drop(h:RpL K H ds vs)(k:Nat):RpL K H (ds.drop k) (vs.drop k):=⟨by rw[Kr,Kr,h.1],λi u e c a=>by
 rw[MS]at c a
 show h.2 _ u e c a⟩
theorem RpL.set(h:RpL K H ds vs)(r:Rp K H d v)(k:Nat):RpL K H (ds.set k d) (vs.set k v):=⟨by rw[Ki,Ki,h.1],λi u e a f=>by
 by_cases c:k=i
 ·subst c
  have g:k<vs.length:=by have:=bj a;rwa [Ki]at this
  rw[KR g]at a;rw[KR (by rw[←h.1];show g)]at f;cases a;cases f;show r
 ·rw[KD c]at a f
  show h.2 i u e a f⟩
theorem RpL.rep(h:RpL K H ds vs):∀k:Nat,RpL K H (List.replicate k ds).flatten (List.replicate k vs).flatten
 |0=>.nil
 |k+1=>by rw[Lc,Lc,KC,KC];show h.append (RpL.rep h k)
theorem RpL.at(h:RpL K H ds vs){i:Nat}(e:ds[i]?=Z d):∃v,vs[i]?=Z v/\Rp K H d v:=by
 have a:i<vs.length:=by rw[h.1];show bj e
 show⟨vs[i],by simp[a],h.2 i _ d (by simp[a]) e⟩
theorem RpL.cut(h:RpL K H ds vs)(lo a:Ų Int):RpL K H (aT ds lo a) (ip vs lo a):=by rw[Bj];unfold aT;rw[h.1];show (h.drop _).take _
theorem RpL.tup{a:Addr}(h:RpL K H ds vs)(s:H a=Z (.tup vs)):Rp K H (.tup ds) (.ref a):=.tup s h.1 h.2
theorem RpL.lst{a:Addr}(h:RpL K H ds vs)(s:H a=Z (.lst vs)):Rp K H (.lst ds) (.ref a):=.lst s h.1 h.2
theorem RpL.fzl{a:Addr}(h:RpL K H ds vs)(s:SqL K H a vs):Rp K H (.fzl ds) (.ref a):=.fzl s h.1 h.2
theorem RpL.ints(ns:Y Int):RpL K H (ns.map D.int) (ns.map V.int):=⟨by simp,λi v d a hd=>by
 rw[J4]at a hd
 cases e:ns[i]? with
 |none=>rw[e]at a;cases a
 |some k=>rw[e]at a hd;cases a;cases hd;show .int k⟩
noncomputable def nZ:HO->Prop|.lst _=>True|.dK _=>True|.dT _=>True|.ins _ _ _=>True|_=>False
structure Gr(j H l t:Hp):Prop where
 f:Same j l
 h:Same H t
 s:Same l t
 o:∀p (u:HO),H p=Z u->j p=ű->(k:nZ u:=by trivial)->l p=ű
theorem Gr.refl(s:Same j H):Gr j H j H:=⟨Same.refl _,Same.refl _,s,λ_ _ _ h _=>h⟩
theorem Gr.trans(a:Gr j H y A)(b:Gr y A w z):Gr j H w z:=⟨a.f.trans b.f,a.h.trans b.h,b.s,λp u c e k=>b.o p u (a.h p _ c) (a.o p u c e k) k⟩
theorem Gr.join(a:Gr j H y A)(b:Gr y H w z):Gr j H w z:=⟨a.f.trans b.f,b.h,b.s,λp u c e k=>b.o p u c (a.o p u c e k) k⟩
theorem Fg(s:Same j H){p:Addr}(o:HO):Same (au j p o) (au H p o):=λb u e=>by
 by_cases c:b=p
 ·subst c;rw[aZ]at e ⊢;show e
 ·rw[aH c]at e ⊢;show s b u e
theorem Gr.new(s:Same j H){p:Addr}(a:H p=ű)(o:HO):Gr j H (au j p o) (au H p o):=
 ⟨cR (s.free a) o,cR a o,Fg s o,λq u e c _=>by rw[aH (cA e a)];show c⟩
theorem Gr.fresh(s:Same j H){p:Addr}(a:H p=ű)(o:HO):Gr j H j (au H p o):=
 ⟨Same.refl _,cR a o,λb u e=>cR a o b u (s b u e),λ_ _ _ h _=>h⟩
theorem Gr.freeze(g:Gr j H l t){p:Addr}{o:HO}(h:H p=ű)(r:l p=ű)(x:t p=Z o):Gr j H (au l p o) t:=
 ⟨g.f.trans (cR r o),g.h,λb u e=>by
  by_cases c:b=p
  ·subst c;rw[aZ]at e;cases e;show x
  ·rw[aH c]at e;show g.s b u e,λq u a f k=>by rw[aH (cA a h)];show g.o q u a f k⟩
theorem Gr.adoptT{p:Addr}{xs:Y V}(s:Same j H)(h:Same H t)(a:t p=Z (.tup xs)):∃l,Gr j H l t/\l p=Z (.tup xs):=by
 have f:∀u,j p=Z u->u=.tup xs:=λu e=>by have:=h _ _ (s _ _ e);rw[a]at this;cases this;rfl
 refine⟨au j p (.tup xs),⟨λb u e=>?_,h,λb u e=>?_,λb u e n k=>?_⟩,aZ⟩
 ·by_cases c:b=p
  ·subst c;rw[aZ,f u e]
  ·rw[aH c];show e
 ·by_cases c:b=p
  ·subst c;rw[aZ]at e;cases e;show a
  ·rw[aH c]at e;show h _ _ (s _ _ e)
 ·by_cases c:b=p
  ·subst c;have:=h _ _ e;rw[a]at this;cases this;show k.elim
  ·rw[aH c];show n
noncomputable def RpQ(K:Â)(j H:Hp)(d:D)(v:V):Prop:=Rp K j d v\/∃a vs ds,d=.lst ds/\v=.ref a/\H a=Z (.lst vs)/\RpL K j ds vs
theorem RpQ.gr(g:Gr j H l t)(h:RpQ K j H d v):RpQ K l t d v:=by
 rcases h with h|⟨a,vs,ds,e,c,f,o⟩
 ·show .inl (h.same g.f)
 ·show .inr ⟨a,vs,ds,e,c,g.h _ _ f,o.same g.f⟩
theorem RpQ.lst(s:Same j H)(h:RpQ K j H (.lst ds) v):∃a vs,v=.ref a/\H a=Z (.lst vs)/\RpL K j ds vs:=by
 rcases h with h|⟨a,vs,ds,e,g,c,f⟩
 ·cases h with|lst c f h3=>show⟨_,_,S,s _ _ c,f,h3⟩
 ·cases e;show⟨a,vs,g,c,f⟩
theorem RpQ.fzl(s:Same j H)(h:RpQ K j H (.fzl ds) v):∃a vs,v=.ref a/\SqL K H a vs/\RpL K j ds vs:=by
 rcases h with h|⟨a,vs,ds,e,g,c,f⟩
 ·cases h with|fzl c f h3=>show⟨_,_,S,s.seq c,f,h3⟩
 ·cases e
theorem RpQ.tup(s:Same j H)(h:RpQ K j H (.tup ds) v):∃a vs,v=.ref a/\SqT K H a vs/\j a=Z (.tup vs)/\RpL K j ds vs:=by
 rcases h with h|⟨a,vs,ds,e,g,c,f⟩
 ·cases h with|tup c f h3=>show⟨_,_,S,.of (s _ _ c),c,f,h3⟩
 ·cases e
theorem RpQ.int{i:Int}(h:RpQ K j H (.int i) v):v=.int i:=by
 rcases h with h|⟨a,vs,ds,e,_⟩
 ·obtain rfl:=h.i;rfl
 ·cases e
theorem RpQ.bl{i:Bool}(h:RpQ K j H (.bl i) v):v=.bl i:=by
 rcases h with h|⟨a,vs,ds,e,_⟩
 ·obtain rfl:=h.b;rfl
 ·cases e
theorem RpQ.str{i:Str}(h:RpQ K j H (.str i) v):v=.str i:=by
 rcases h with h|⟨a,vs,ds,e,_⟩
 ·obtain rfl:=h.s;rfl
 ·cases e
theorem RpQ.non(h:RpQ K j H .non v):v=.non:=by
 rcases h with h|⟨a,vs,ds,e,_⟩
 ·obtain rfl:=h.n;rfl
 ·cases e
noncomputable def gk:D->Ų (Y D)
 |.lst ds=>Z ds
 |.tup ds=>Z ds
 |.fzl ds=>Z ds
 |_=>ű
theorem RpQ.seq(s:Same j H)(h:RpQ K j H d v)(e:gk d=Z ds):∃a vs,v=.ref a/\(SqL K H a vs\/SqT K H a vs)/\RpL K j ds vs:=by
 cases d with
 |lst ds=>cases e;let⟨a,vs,e,c,f⟩:=h.lst s;show⟨a,vs,e,.inl (.of c),f⟩
 |tup ds=>cases e;let⟨a,vs,e,c,_,f⟩:=h.tup s;show⟨a,vs,e,.inr c,f⟩
 |fzl ds=>cases e;let⟨a,vs,e,c,f⟩:=h.fzl s;show⟨a,vs,e,.inl c,f⟩
 |_=>cases e
theorem Rp.seq(h:Rp K j d v)(e:gk d=Z ds):∃(b:Bool)(a:Addr)(vs:Y V),v=.ref a/\SqB K b j a vs/\RpL K j ds vs:=by
 cases d with
 |lst ds=>cases e;cases h with|lst h1 h2 h3=>show⟨ų,_,_,S,SqL.of h1,h2,h3⟩
 |tup ds=>cases e;cases h with|tup h1 h2 h3=>show⟨Ŵ,_,_,S,SqT.of h1,h2,h3⟩
 |fzl ds=>cases e;cases h with|fzl h1 h2 h3=>show⟨ų,_,_,S,h1,h2,h3⟩
 |_=>cases e
end
inductive Ow where|lst (xs:List D)|dct (ks:List aO)|dcT (ks:List (List aO))
inductive Sl where|v (d:D)|ob (o:Ow)
noncomputable abbrev Sl.own(xs:Y D):Sl:=.ob (.lst xs)
noncomputable abbrev Sl.dct(a:Y aO):Sl:=.ob (.dct a)
noncomputable abbrev Sl.dcT(a:Y (Y aO)):Sl:=.ob (.dcT a)
noncomputable def OwR(K:Â)(e:Hp):Ow->HO->Prop
 |.lst ds,.lst vs=>RpL K e ds vs
 |.dct c,.dK a=>a.map (·.1)=c
 |.dcT c,.dT a=>a.map (·.1)=c
 |_,_=>False
theorem OwR.k{K:Â}{e:Hp}{o:Ow}{u:HO}(r:OwR K e o u):nZ u:=by
 cases o with
 |lst ds=>
  cases u with
  |lst vs=>show à
  |_=>show r.elim
 |dct c=>
  cases u with
  |dK a=>show à
  |_=>show r.elim
 |dcT c=>
  cases u with
  |dT a=>show à
  |_=>show r.elim
theorem OwR.same{K:Â}{c a:Hp}{o:Ow}{u:HO}(r:OwR K c o u)(s:Same c a):OwR K a o u:=by
 cases o with
 |lst ds=>
  cases u with
  |lst vs=>show (show RpL K c ds vs from r).same s
  |_=>show r.elim
 |dct f=>
  cases u with
  |dK e=>show r
  |_=>show r.elim
 |dcT f=>
  cases u with
  |dT e=>show r
  |_=>show r.elim
noncomputable abbrev bE:=Y (Ų Sl)
noncomputable def CK:FuncBody->Ų Õ
 |.stmts b=>(match b.getLast? with
  |some (.Return (Z (.Call _ _ a _)) _)=>a.findSome? λk=>(match k.value with|.Lambda _ _ _ pos=>Z pos|_=>ű)
  |_=>ű)
 |_=>ű
noncomputable def pL(K:Â)(x:Str):Ų (Addr×Array Value):=match Ú K Á x with
 |some (Z (.ref f))=>(match K.lookup f with
  |some ⟨_,_,.func e,_⟩=>(match e.code with
   |.ref c=>(match K.lookup c with
    |some ⟨_,_,.fields vs,_⟩=>(match (vs[11]?:Ų Value),CK e.body with
     |some (.ref P),Z a=>Z (P,#[rawInt a.line,rawInt a.col,.str (e.qualname++".<locals>."++"<lambda>") 0])
     |_,_=>ű)
    |_=>ű)
   |_=>ű)
  |_=>ű)
 |_=>ű
noncomputable def pP(K:Â):Y (Addr×Array Value):=(["least_grown","greatest_first"]:Y Str).filterMap (pL K)
noncomputable def TabF(K:Â)(a:Hp):Prop:=∀t∈pP K,a t.1=Z (.tbl t.2)
theorem TabF.same{K:Â}{c a:Hp}(h:TabF K c)(s:Same c a):TabF K a:=λt e=>s _ _ (h t e)
structure EnvD(K:Â)(H0 Φ H:Hp)(σ:St)(ρ:bE):Prop where
 fz:Same Φ H
 len:σ.length=ρ.length
 sl:∀(i:Nat)(d:D),ρ[i]?=Z (Z (.v d))->∃v,σ[i]?=Z (Z v)/\Rp K Φ d v
 ow:∀(i:Nat)(o:Ow),ρ[i]?=Z (Z (.ob o))->∃p u,σ[i]?=Z (Z (.ref p))/\H0 p=ű/\Φ p=ű/\H p=Z u/\OwR K Φ o u
 ne:∀(i j:Nat)(o w:Ow)(p:Addr),ρ[i]?=Z (Z (.ob o))->ρ[j]?=Z (Z (.ob w))->σ[i]?=Z (Z (.ref p))->σ[j]?=Z (Z (.ref p))->i=j
 tb:TabF K Φ
section
variable{K:Â}{o H z f t:Hp}{a:St}{ρ:bE}{d:D}{v:V}{ds w:Y D}{vs:Y V}
theorem EnvD.owl(E:EnvD K o f H a ρ)(i:Nat)(ds:Y D)(h:ρ[i]?=Z (Z (.own ds))):∃p vs,a[i]?=Z (Z (.ref p))/\o p=ű/\f p=ű/\H p=Z (.lst vs)/\RpL K f ds vs:=by
 let⟨p,u,e,c,g,j,r⟩:=E.ow i _ h
 cases u with
 |lst vs=>show⟨p,vs,e,c,g,j,r⟩
 |_=>show (show False from r).elim
theorem EnvD.gr(E:EnvD K o f H a ρ)(g:Gr f H t z):EnvD K o t z a ρ:=
 ⟨g.s,E.len,λi d h=>let ⟨v,e,r⟩:=E.sl i d h;⟨v,e,r.same g.f⟩,
  λi ds h=>let ⟨p,vs,e,h0,hn,hp,r⟩:=E.ow i ds h;⟨p,vs,e,h0,g.o p _ hp hn r.k,g.h _ _ hp,r.same g.f⟩,E.ne,E.tb.same g.f⟩
theorem iE{p:Type}{l:Y p}{i j:Nat}{x y:p}(h:(l.set i x)[j]?=Z y):(j=i/\i<l.length/\y=x)\/(j≠i/\l[j]?=Z y):=by
 by_cases c:i=j
 ·subst c
  have g:i<l.length:=by have:=bj h;rwa [Ki]at this
  rw[KR g]at h;cases h;show .inl ⟨S,g,S⟩
 ·rw[KD c]at h;show .inr ⟨λe=>c e.symm,h⟩
theorem EnvD.set(E:EnvD K o f H a ρ)(r:Rp K f d v)(i:Nat):EnvD K o f H (a.set i (Z v)) (ρ.set i (Z (.v d))):=by
 have nn:∀{j:Nat}{x:Ų V},j≠i->a[j]?=Z x->(a.set i (Z v))[j]?=Z x:=λc h=>by rw[KD (KW c)];show h
 refine⟨E.fz,by rw[Ki,Ki,E.len],λj e h=>?_,λj ds h=>?_,λj k ds w p l y B C=>?_,E.tb⟩
 ·rcases iE h with⟨rfl,A,g⟩|⟨c,h⟩
  ·cases g;show⟨v,by rw[KR (by rw[E.len];show A)],r⟩
  ·let⟨u,I,J⟩:=E.sl j e h;show⟨u,nn c I,J⟩
 ·rcases iE h with⟨rfl,A,g⟩|⟨c,h⟩
  ·cases g
  ·let⟨p,vs,e,q⟩:=E.ow j ds h;show⟨p,vs,nn c e,q⟩
 ·rcases iE l with⟨rfl,_,g⟩|⟨F,l⟩
  ·cases g
  rcases iE y with⟨rfl,_,g⟩|⟨G,y⟩
  ·cases g
  rw[KD (KW F)]at B;rw[KD (KW G)]at C;show E.ne j k ds w p l y B C
theorem EnvD.weak{c:bE}(E:EnvD K o f H a ρ)(r:c.length=ρ.length)(e:∀(i:Nat) x,c[i]?=Z (Z x)->ρ[i]?=Z (Z x)):EnvD K o f H a c:=
 ⟨E.fz,by rw[E.len,r],λi d h=>E.sl i d (e i _ h),λi ds h=>E.ow i ds (e i _ h),λi j ds w p g l=>E.ne i j ds w p (e i _ g) (e j _ l),E.tb⟩
end
inductive NF{α:Type}(x:α)(R:α->Prop):Prop|mk (y:α) (_:x=y) (_:R y)
theorem NF.get{a:Type}{x:a}{R:a->Prop}(h:NF x R):R x:=by let⟨_,rfl,h⟩:=h;show h
noncomputable abbrev TD:=bE->(D->Prop)->Prop
noncomputable abbrev bc:=bE->(Y D->Prop)->Prop
noncomputable abbrev cg:=bE->(Bool->Prop)->Prop
inductive lE(K:Â)(t:TD)(σ:St)(H:Hp)(Q:VK):Prop|mk (H0:Hp) (Φ:Hp) (ρ:bE) (R:D->Prop) (_:EnvD K H0 Φ H σ ρ) (_:t ρ R) (_:∀d Φ' H' v,R d->Gr Φ H Φ' H'->Rp K Φ' d v->Q v H')
inductive lQ(K:Â)(t:TD)(σ:St)(H:Hp)(Q:VK):Prop|mk (H0:Hp) (Φ:Hp) (ρ:bE) (R:D->Prop) (_:EnvD K H0 Φ H σ ρ) (_:t ρ R) (_:∀d Φ' H' v,R d->Gr Φ H Φ' H'->RpQ K Φ' H' d v->Q v H')
inductive lF(K:Â)(t:bc)(σ:St)(H:Hp)(Q:VK):Prop|mk (H0:Hp) (Φ:Hp) (ρ:bE) (R:List D->Prop) (_:EnvD K H0 Φ H σ ρ) (_:t ρ R) (_:∀ds Φ' H' p vs,R ds->Gr Φ H Φ' H'->H p=ű->Φ' p=ű->H' p=Z (.lst vs)->RpL K Φ' ds vs->Q (.ref p) H')
inductive lA(K:Â)(n:Nat)(t:bc)(σ:St)(H:Hp)(Q:List V->Hp->Prop):Prop|mk (H0:Hp) (Φ:Hp) (ρ:bE) (R:List D->Prop) (_:EnvD K H0 Φ H σ ρ) (_:t ρ R) (_:∀ds Φ' H' vs,R ds->Gr Φ H Φ' H'->RpL K Φ' ds vs->ds.length=n->Q vs H')
inductive lT(K:Â)(t:cg)(σ:St)(H:Hp)(Q:Bool->Hp->Prop):Prop|mk (H0:Hp) (Φ:Hp) (ρ:bE) (R:Bool->Prop) (_:EnvD K H0 Φ H σ ρ) (_:t ρ R) (_:∀b Φ' H',R b->Gr Φ H Φ' H'->Q b H')
structure PD(K:Â)(X:Cx)(e:Ã)(t:TD):Prop where pe:X.K=K->PE X e (lE K t)
structure PQ(K:Â)(X:Cx)(e:Ã)(t:TD):Prop where pe:X.K=K->PE X e (lQ K t)
structure PF(K:Â)(X:Cx)(e:Ã)(t:bc):Prop where pe:X.K=K->PE X e (lF K t)
structure PAD(K:Â)(X:Cx)(es:List Ã)(t:bc):Prop where pa:X.K=K->PA X es (lA K es.length t)
structure PTD(K:Â)(X:Cx)(e:Ã)(t:cg):Prop where pt:X.K=K->PT X e (lT K t)
structure PWD(K:Â)(X:Cx)(e:Ã)(t:cg):Prop where pw:X.K=K->PW X e (lT K t)
theorem PE.imp{X:Cx}{e:Ã}{t t':TE}(h:PE X e t)(k:∀c H Q,t' c H Q->t c H Q):PE X e t':=λa s c H Q I f=>h a s c H Q I (k c H Q f)
theorem PT.imp{X:Cx}{e:Ã}{t t':TT}(h:PT X e t)(k:∀c H Q,t' c H Q->t c H Q):PT X e t':=λa s c H Q I f=>h a s c H Q I (k c H Q f)
theorem PW.imp{X:Cx}{e:Ã}{t t':TT}(h:PW X e t)(k:∀c H Q,t' c H Q->t c H Q):PW X e t':=λg a s c H Q I f=>h g a s c H Q I (k c H Q f)
theorem PA.imp{X:Cx}{e:Y Ã}{t t':TA}(h:PA X e t)(k:∀c H Q,t' c H Q->t c H Q):PA X e t':=λf a s c H Q I g=>h f a s c H Q I (k c H Q g)
theorem PS.imp{X:Cx}{e:Ë}{t t':TS}(h:PS X e t)(k:∀D c H,t' D c H->t D c H):PS X e t':=λa s c H D I f=>h a s c H D I (k D c H f)
theorem PSs.imp{X:Cx}{e:Y Ë}{t t':TS}(h:PSs X e t)(k:∀D c H,t' D c H->t D c H):PSs X e t':=λa s c H D I f=>h a s c H D I (k D c H f)
section
variable{K:Â}{X:Cx}{e a b c:Ã}{z:Y Ã}{l:Õ}{t w tb:TD}{tf:bc}{B:bc}{A F:cg}
theorem PD.q(h:PD K X e t):PQ K X e t:=⟨λu=>(h.pe u).imp λC H Q p=>by let⟨o,y,ρ,R,E,t,k⟩:=p;show⟨o,y,ρ,R,E,t,λd f j v r g x=>k d f j v r g (.inl x)⟩⟩
noncomputable def kP(t:bc):TD:=λρ R=>t ρ λds=>R (.lst ds)
theorem PF.d(h:PF K X e tf):PD K X e (kP tf):=⟨λx=>(h.pe x).imp λJ H Q u=>by let⟨o,G,ρ,R,E,t,k⟩:=u;show⟨o,G,ρ,_,E,t,λds I j p vs r g v f y C=>
 k (.lst ds) _ j _ r (g.freeze v f y) ((C.same (cR f _)).lst aZ)⟩⟩
noncomputable def iO(i:Nat):TD:=λρ R=>match ρ[i]? with|some (Z (.v d))=>R d|_=>False
noncomputable def dm(i:Nat):TD:=λρ R=>match ρ[i]? with|some (Z (.v d))=>R d|some (Z (.ob (.lst ds)))=>R (.lst ds)|_=>False
theorem dv(i:Nat){x:Str}(j:X.N[i]?=Z x:=by rfl)(o:b7 X.env.scope x:=by nofun)(hd:ad x:=by decide)
  (f:ap x:=by decide):PD K X (.Name x l) (iO i):=⟨λ_=>(pv i j o hd f).imp λy H Q g=>by
 let⟨u,p,ρ,R,E,t,k⟩:=g;unfold iO at t;split at t
 ·next d h=>
  let⟨v,e,r⟩:=E.sl i d h;show⟨v,e,k d p H v t (.refl E.fz) r⟩
 ·show t.elim⟩
theorem aa(i:Nat){x:Str}(o:X.N[i]?=Z x:=by rfl)(y:b7 X.env.scope x:=by nofun)(hd:ad x:=by decide)
  (g:ap x:=by decide):PQ K X (.Name x l) (dm i):=⟨λ_=>(pv i o y hd g).imp λG H Q j=>by
 let⟨C,f,ρ,R,E,t,k⟩:=j;unfold dm at t;split at t
 ·next d h=>
  let⟨v,e,r⟩:=E.sl i d h;show⟨v,e,k d f H v t (.refl E.fz) (.inl r)⟩
 ·next ds h=>
  let⟨p,vs,e,_,_,u,r⟩:=E.owl i ds h;show⟨_,e,k _ f H _ t (.refl E.fz) (.inr ⟨p,vs,ds,S,S,u,r⟩)⟩
 ·show t.elim⟩
noncomputable def dC(d:D):TD:=λ_ R=>R d
theorem oX{v:V}{d:D}(h:PE X e (tC v))(r:∀f,Rp K f d v):PD K X e (dC d):=⟨λ_=>h.imp λo H Q g=>by let⟨j,f,ρ,R,E,t,k⟩:=g;show k d f H v t (.refl E.fz) (r f)⟩
theorem ah{i j}:PD K X (.Constant (.int i) j l) (dC (.int i)):=oX AJ λ_=>.int i
theorem oG{i j}:PD K X (.Constant (.bool i) j l) (dC (.bl i)):=oX Hb λ_=>.bl i
theorem aq{i j}:PD K X (.Constant (.str i) j l) (dC (.str i)):=oX vA λ_=>.str i
theorem bL{j}:PD K X (.Constant .none j l) (dC .non):=oX HE λ_=>.non
noncomputable abbrev cB:=D->D->(D->Prop)->Prop
inductive lR2(K:Â)(r:cB)(x:V)(y:V)(H:Hp)(Q:VK):Prop|mk (Φ:Hp) (dx:D) (dy:D) (R:D->Prop) (_:Same Φ H) (_:RpQ K Φ H dx x) (_:RpQ K Φ H dy y) (_:r dx dy R) (_:∀d Φ' H' v,R d->Gr Φ H Φ' H'->Rp K Φ' d v->Q v H')
structure OpD(K:Â)(X:Cx)(f:Value->Value->Sem Value)(r:cB):Prop where o:X.K=K->bR X f (lR2 K r)
noncomputable def dA(r:cB)(w tb:TD):TD:=λρ R=>w ρ λx=>tb ρ λy=>r x y R
theorem mT{r:cB}{G:St}{H:Hp}{Q:VK}(h:lE K (dA r w tb) G H Q):g6 (lR2 K r) (lQ K w) (lQ K tb) G H Q:=by let⟨u,U,ρ,R,E,t,k⟩:=h;show⟨u,U,ρ,_,E,t,λJ o ar x am C O=>⟨u,o,ρ,_,E.gr C,am,λM p aw y T f P=>⟨p,J,M,R,f.s,O.gr f,P,T,λd j I v r g N=>k d j I v r ((C.trans f).trans g) N⟩⟩⟩
theorem aE{g:ñ}{r:cB}(o:OpD K X (Í g) r)(h:PQ K X a w)(j:PQ K X b tb):PD K X (.BinOp a g b l) (dA r w tb):=
 ⟨λf=>(rJ (o.o f) (h.pe f) (j.pe f)).imp λ_ _ _=>mT⟩
theorem c8{g:Ċ}{r:cB}(p:OpD K X (Æ g) r)(h:PQ K X a w)(j:PQ K X b tb)(o:behindInMarks g b=Ŵ):PD K X (.Compare a [g] [b] l) (dA r w tb):=
 ⟨λf=>(JC (p.o f) (h.pe f) (j.pe f) o).imp λ_ _ _=>mT⟩
noncomputable def kj(t:TD):cg:=λρ R=>t ρ λd=>match d with|.bl b=>R b|_=>False
theorem Bt{r:cB}{j:St}{H:Hp}{Q:Bool->Hp->Prop}(h:lT K (kj (dA r w tb)) j H Q):qD (g6 (lR2 K r) (lQ K w) (lQ K tb)) j H Q:=by let⟨p,x,ρ,R,E,t,k⟩:=h;refine mT ⟨p,x,ρ,_,E,t,λd f o v r g u=>?_⟩;let⟨b,rfl,r⟩:=jm r;obtain rfl:=u.b;show⟨b,S,k b f o r g⟩
theorem aD{g:Ċ}{r:cB}(p:OpD K X (Æ g) r)(h:PQ K X a w)(j:PQ K X b tb)(o:behindInMarks g b=Ŵ):PTD K X (.Compare a [g] [b] l) (kj (dA r w tb)):=
 ⟨λf=>(uP (p.o f) (h.pe f) (j.pe f) o).imp λ_ _ _=>Bt⟩
noncomputable abbrev qW:=D->(D->Prop)->Prop
noncomputable def wm(r:qW)(w:TD):TD:=λρ R=>w ρ λx=>r x R
noncomputable def FT:qW:=λx R=>match x with|.int i=>R (.int (-i))|_=>False
theorem eS(u:PQ K X a w):PD K X (.UnaryOp .USub a l) (wm FT w):=⟨λr=>(A8 GX (u.pe r)).imp λG H Q o=>by let⟨h,y,ρ,R,E,t,k⟩:=o;show⟨h,y,ρ,_,E,t,λC g j x f p v=>by
 let⟨i,rfl,f⟩:=gw f
 show⟨i,v.int,k _ g j _ f p (.int _)⟩⟩⟩
noncomputable def Be:qW:=λx R=>match x with|.bl i=>R (.bl (!i))|_=>False
theorem Ci(u:PQ K X a w):PD K X (.UnaryOp .Not a l) (wm Be w):=⟨λr=>(Al (u.pe r)).imp λG H Q o=>by let⟨h,y,ρ,R,E,t,k⟩:=o;show⟨h,y,ρ,_,E,t,λC g j x f p v=>by
 let⟨i,rfl,f⟩:=jm f
 show⟨i,v.bl,k _ g j _ f p (.bl _)⟩⟩⟩
noncomputable def sE:D->(Bool->Prop)->Prop:=λd R=>match d with
 |.int i=>R (i != 0)|.bl b=>R b|.non=>R Ŵ|.str x=>x.length<=sizeLine/\R ((x.length:Int) != 0)|.lst ds=>R (!ds.isEmpty)|.tup ds=>R (!ds.isEmpty)|.fzl ds=>R (!ds.isEmpty)|.obj _ _=>False|.map _=>False|.exc _ _=>False
theorem qf{f:Hp}{ds:Y D}{vs:Y V}(h:RpL K f ds vs):(!ds.isEmpty)=!vs.isEmpty:=by have:=h.1;cases ds<;>cases vs<;>simp_all
theorem AA{j H:Hp}{d:D}{v:V}{R:Bool->Prop}(s:Same j H)(h:RpQ K j H d v)(t:sE d R):∃k,rR K v H k/\R k:=by
 cases d with
 |int i=>rw[h.int];show⟨_,S,t⟩
 |bl i=>rw[h.bl];show⟨_,S,t⟩
 |non=>rw[h.non];show⟨_,S,t⟩
 |str i=>rw[h.str];show⟨_,⟨t.1,S⟩,t.2⟩
 |lst ds=>let⟨a,vs,rfl,f,g⟩:=h.lst s;show⟨_,.inl ⟨vs,.of f,S⟩,by rw[←qf g];show t⟩
 |tup ds=>let⟨a,vs,rfl,f,_,g⟩:=h.tup s;show⟨_,.inr (.inl ⟨vs,f,S⟩),by rw[←qf g];show t⟩
 |fzl ds=>let⟨a,vs,rfl,f,g⟩:=h.fzl s;show⟨_,.inl ⟨vs,f,S⟩,by rw[←qf g];show t⟩
 |obj C fs=>show t.elim
 |map o=>show t.elim
 |exc _ _=>show t.elim
noncomputable def EX(t:TD):cg:=λρ R=>t ρ λd=>sE d R
theorem fi(y:PQ K X a w)(C:∀f,isTrue a X.env f=(do let v ←f;standAt a.pos;holding [v] (truthy v))):PTD K X a (EX w):=
 ⟨λj=>(DL (y.pe j) C).imp λM H Q r=>by let⟨o,J,ρ,R,E,t,k⟩:=r;show⟨o,J,ρ,_,E,t,λd g p v I h G=>by
  let⟨b,u,x⟩:=AA h.s G I;rw[j]
  show⟨b,u,k b g p x h⟩⟩⟩
noncomputable def wK(t u:cg):cg:=λρ R=>t ρ λc=>(c=ų->u ρ R)/\(c=Ŵ->R Ŵ)
noncomputable def vd(t u:cg):cg:=λρ R=>t ρ λc=>(c=ų->R ų)/\(c=Ŵ->u ρ R)
noncomputable def DW(t:cg):cg:=λρ R=>t ρ λc=>R (!c)
theorem PWD.td(h:PWD K X e A):PTD K X e A:=⟨λf=>(h.pw f).pt⟩
theorem iZ(g:PTD K X a A):PWD K X (.BoolOp .And [a] l) A:=⟨λf=>wG (g.pt f)⟩
theorem ee(g:PTD K X a A):PWD K X (.BoolOp .Or [a] l) A:=⟨λf=>Ai (g.pt f)⟩
theorem gv(x:PTD K X a A)(y:PWD K X (.BoolOp .And (b::z) l) F):PWD K X (.BoolOp .And (a::b::z) l) (wK A F):=
 ⟨λo=>(yb (x.pt o) (y.pw o)).imp λI H Q v=>by let⟨j,G,ρ,R,E,t,k⟩:=v;show⟨j,G,ρ,_,E,t,λc f u r g=>by
  cases c with
  |true=>rw[JX S];show⟨j,f,ρ,R,E.gr g,r.1 S,λb h p C g'=>k b h p C (g.trans g')⟩
  |false=>rw[JV 'b'];show k _ f u (r.2 S) g⟩⟩
theorem cQ(x:PTD K X a A)(y:PWD K X (.BoolOp .Or (b::z) l) F):PWD K X (.BoolOp .Or (a::b::z) l) (vd A F):=
 ⟨λo=>(Jm (x.pt o) (y.pw o)).imp λI H Q v=>by let⟨j,G,ρ,R,E,t,k⟩:=v;show⟨j,G,ρ,_,E,t,λc f u r g=>by
  cases c with
  |true=>rw[JX S];show k _ f u (r.1 S) g
  |false=>rw[JV 'b'];show⟨j,f,ρ,R,E.gr g,r.2 S,λb h p C g'=>k b h p C (g.trans g')⟩⟩⟩
theorem ib(u:PTD K X a A):PTD K X (.UnaryOp .Not a l) (DW A):=
 ⟨λp=>(yJ (u.pt p)).imp λx H Q o=>by let⟨h,v,ρ,R,E,t,k⟩:=o;show⟨h,v,ρ,_,E,t,λc f j r g=>k _ f j r g⟩⟩
noncomputable def uR(t u:TD):TD:=λρ R=>t ρ λc=>match c with|.bl c=>(c=ų->u ρ R)/\(c=Ŵ->R (.bl Ŵ))|_=>False
theorem jY{op}(h:PD K X a w):PD K X (.BoolOp op [a] l) w:=⟨λf=>Ea (h.pe f)⟩
theorem iY(y:PD K X a w)(C:PD K X (.BoolOp .And (b::z) l) tb):PD K X (.BoolOp .And (a::b::z) l) (uR w tb):=
 ⟨λo=>(GY (y.pe o) (C.pe o)).imp λN H Q x=>by let⟨j,M,ρ,R,E,t,k⟩:=x;show⟨j,M,ρ,_,E,t,λc f u v r g J=>by
  let⟨c,rfl,r⟩:=jm r;obtain rfl:=J.b;refine⟨c,S,?_⟩
  cases c with
  |true=>rw[JX S];show⟨j,f,ρ,R,E.gr g,r.1 S,λb h p v G g' I=>k b h p v G (g.trans g') I⟩
  |false=>rw[JV 'b'];show k _ f u _ (r.2 S) g (.bl _)⟩⟩
noncomputable def BZ(t:cg)(u v:TD):TD:=λρ R=>t ρ λc=>(c=ų->u ρ R)/\(c=Ŵ->v ρ R)
theorem pK(I:PTD K X c A)(C:PD K X a w)(G:PD K X b tb):PD K X (.IfExp c a b l) (BZ A w tb):=
 ⟨λp=>(Dt (I.pt p) (C.pe p) (G.pe p)).imp λN H Q y=>by let⟨o,J,ρ,R,E,t,k⟩:=y;show⟨o,J,ρ,_,E,t,λc h M r g=>by
  cases c with
  |true=>rw[JX S];show⟨o,h,ρ,R,E.gr g,r.1 S,λb f j v u g' x=>k b f j v u (g.trans g') x⟩
  |false=>rw[JV 'b'];show⟨o,h,ρ,R,E.gr g,r.2 S,λb f j v u g' x=>k b f j v u (g.trans g') x⟩⟩⟩
noncomputable def gX:bc:=λ_ R=>R []
noncomputable def eN(t:TD)(u:bc):bc:=λρ R=>t ρ λd=>u ρ λds=>R (d::ds)
theorem av:PAD K X [] gX:=⟨λ_=>pa_nil.imp λj H Q f=>by let⟨h,g,ρ,R,E,t,k⟩:=f;show k [] g H [] t (.refl E.fz) .nil S⟩
theorem af(y:PD K X e t)(G:PAD K X z B)(I:starEach (e::z) X.env=(Ŵ,eval e X.env)::starEach z X.env):PAD K X (e::z) (eN t B):=
 ⟨λp=>(cC (y.pe p) (G.pa p) I).imp λP H Q x=>by let⟨j,N,ρ,R,E,t,k⟩:=x;show⟨j,N,ρ,_,E,t,λd f O v r g M=>⟨j,f,ρ,_,E.gr g,r,λds h u vs J o rl C=>
  k _ h u _ J (g.trans o) (.cons (M.same o.f) rl) (by rw[J1,J1,C])⟩⟩⟩
noncomputable def pW(t:bc):TD:=λρ R=>t ρ λds=>R (.tup ds)
noncomputable def l9(t:bc):bc:=t
theorem mD{n:Nat}(h:Nat.ble n 1000=ų):n<=sizeLine:=J6 (OK h) 'b'
theorem bB{x1}(h:PAD K X z B)(u:Nat.ble z.length 1000=ų:=by rfl):PD K X (.Tuple z x1 l) (pW B):=
 ⟨λv=>(pR (h.pa v)).imp λI H Q o=>by let⟨j,y,ρ,R,E,t,k⟩:=o;show⟨j,y,ρ,_,E,t,λds C G vs r g rl x=>⟨by rw[rl.1,x];show mD u,λp f=>
  k _ _ _ _ r (g.trans (.new g.s f _)) ((rl.same (cR (g.s.free f) _)).tup aZ)⟩⟩⟩
theorem bQ(h:PAD K X z B)(u:Nat.ble z.length 1000=ų:=by rfl):PF K X (.List z l) (l9 B):=
 ⟨λv=>(yi (h.pa v)).imp λI H Q o=>by let⟨j,y,ρ,R,E,t,k⟩:=o;show⟨j,y,ρ,_,E,t,λds C G vs r g rl x=>⟨by rw[rl.1,x];show mD u,λp f=>
  k _ _ _ p vs r (g.trans (.fresh g.s f _)) (g.h.free f) (g.s.free f) aZ rl⟩⟩⟩
end
end L2
namespace L2
open PySem PySem.Spec PyProof.Rows PySem.Builtin PySem.Builtin.Str
section
variable{X:Cx}
noncomputable def cutS(z:Str)(lo a:Ų Int):Str:=⟨(aT z.cps.toList lo a).toArray⟩
theorem wX(z:Str)(lo c:Ų Int):Txt.slice z lo c=cutS z lo c:=by
 have f:strSliceIndices lo c 1 z.length=(List.range (HT.sIx z.length z.length c-HT.sIx z.length 0 lo)).map λk=>HT.sIx z.length 0 lo+k:=by
  have g:∀(i:Int)(d:Nat),max 0 (min (if i<0 then i+(z.length:Int) else i) (z.length:Int))=(HT.sIx z.length d (Z i):Int):=λi d=>by change max 0 (min (if i<0 then i+(z.length:Int) else i) (z.length:Int))=((if i<0 then (i+(z.length:Int)).toNat else min i.toNat z.length:Nat):Int);split<;>omega
  have r:strSliceIndices lo c 1 z.length=ē (HT.sIx z.length 0 lo:Int) (HT.sIx z.length z.length c:Int) 1:=by cases lo<;>cases c<;>simp only[strSliceIndices,show (1:Int)>0 by decide,MK,g _ 0,g _ z.length]<;>rfl
  rw[r];unfold ē;simp only[show (1:Int)>0 by decide,MK]
  have t:(if (HT.sIx z.length 0 lo:Int)<(HT.sIx z.length z.length c:Int) then ((HT.sIx z.length z.length c:Int)-(HT.sIx z.length 0 lo:Int)+1-1)/1 else 0).toNat=HT.sIx z.length z.length c-HT.sIx z.length 0 lo:=by
   split
   ·rw[Int.ediv_one];omega
   ·omega
  rw[t];refine List.map_congr_left λk _=>?_;omega
 have l:HT.sIx z.length z.length c<=z.length:=by
  cases c with
  |none=>show J0 _
  |some i=>
   change (if i<0 then (i+(z.length:Int)).toNat else min i.toNat z.length)<=z.length;split<;>omega
 have u:HT.sIx z.length 0 lo<=z.length:=by
  cases lo with
  |none=>show K1 _
  |some i=>
   change (if i<0 then (i+(z.length:Int)).toNat else min i.toNat z.length)<=z.length;split<;>omega
 have pick:(strSliceIndices lo c 1 z.length).filterMap (z.cps[·]?)=aT z.cps.toList lo c:=by
  rw[f];unfold aT
  have e:z.cps.toList.length=z.length:=by rw[KQ];rfl
  rw[e];generalize HT.sIx z.length 0 lo=a;generalize v:HT.sIx z.length z.length c=b at l;refine LU λj=>?_;rw[Mt]
  have:∀m,m<=b-a->((List.range m).filterMap ((λx=>z.cps[x]?) ∘ λk=>a+k))=(z.cps.toList.drop a).take m:=by
   intro m
   induction m with
   |zero=>intro _;simp
   |succ m w=>
    intro A;rw[List.range_succ,List.filterMap_append,w ()]
    have p:a+m<z.cps.size:=by unfold Str.length at l;omega
    have y:z.cps.toList.drop a=z.cps.toList.drop a:=rfl
    have o:m<(z.cps.toList.drop a).length:=by rw[Kr,e];unfold Str.length;omega
    rw[List.take_add_one,MS];congr 1;simp[p]
  rw[this _ (J0 _)]
 unfold Txt.slice cutS;split
 ·next h=>
  have o:(strSliceIndices lo c 1 z.length).length=z.length:=by simpa using h
  have e:z.cps.toList.length=z.length:=by rw[KQ];rfl
  have:aT z.cps.toList lo c=z.cps.toList:=by
   rw[f,mn,Me]at o;unfold aT;rw[e]
   have:HT.sIx z.length 0 lo=0:=by omega
   rw[this,Mf,K9 (by rw[e];omega)]
  rw[this]
 ·rw[pick]
theorem Cm(z:Str)(lo a:Ų Int):(cutS z lo a).length<=z.length:=by rw[←wX];show Ũ z lo a
noncomputable def tT:V->Ų Int->Ų Int->Hp->VK->Prop:=λx lo a H Q=>∃z,x=.str z/\z.length<=sizeLine/\Q (.str (cutS z lo a)) H
theorem sF{v:Value}{o:Ų Int}(h:ö v o):∃p:Ų (Int×þ),v=partValue p/\p.map (·.1)=o:=by
 cases h with
 |none=>show⟨ű,S,S⟩
 |int i t=>show⟨Z (i,t),S,S⟩
theorem y9:SlR X tT:=by
 intro e s G H x v C E lo B sl Q I A r pl y h;let⟨z,rfl,w,q⟩:=h;let⟨t,rfl⟩:=A;let⟨a,rfl,rfl⟩:=sF pl;let⟨c,rfl,rfl⟩:=sF y;refine⟨"str",_,F.slot_str_getitem.lookup,MT _ _ _,?_⟩
 have f:s.heap.IsSlice sl a c ű:=by let⟨o,p,g,j⟩:=r;show⟨o,p,g,j⟩
 refine wpAny_getItem_str_slice (l:=a) (u:=c) (st:=ű) f S (post_val_or_str ⟨?_,λt' k=>?_⟩)
 ·show J6 (Ũ z _ _) w
 ·refine⟨.str (cutS z (a.map (·.1)) (c.map (·.1))),H,?_,⟨t',?_⟩,q⟩
  ·show I.tok _
  ·rw[←wX];rfl
noncomputable def di(z:Str)(n:Nat):Str:=⟨((List.replicate n z.cps.toList).flatten).toArray⟩
theorem AI(z:Str):di z 1=z:=by unfold di;simp
theorem wN:∀(n:Nat)(x a:Array Nat),(List.replicate n x).foldl (·++·) a=a++((List.replicate n x.toList).flatten).toArray
 |0,x,a=>by simp
 |n+1,x,a=>by rw[Lc,List.foldl_cons,wN n x (a++x),Lc,KC];apply Ū;simp
theorem yZ(z:Str)(n:Nat):(di z n).length=z.length*n:=by unfold di Str.length;simp[Ob]
noncomputable def Hu:R2:=λx y H Q=>∃z k,x=.str z/\y=.int k/\-(2^62)<=k/\k<2^62/\z.length*k.toNat<=sizeLine/\z.length<=sizeLine/\Q (.str (di z k.toNat)) H
theorem Bg:bR X (Í .Mult) Hu:=by
 intro j s J H x y v u Q I w A h;let⟨z,k,rfl,rfl,B,C,f,E,q⟩:=h;let⟨t,rfl⟩:=w;let⟨t',rfl⟩:=A;refine P.mul_str (by rw[Kd (),Kd ()];rfl) (λo a=>?_) (λo a=>?_) ?_
 ·intro G
  have r:0<k:=by omega
  have p:((z.length:Int))*k<=2^24:=by have:((z.length*k.toNat:Nat):Int)<=(sizeLine:Int):=Int.ofNat_le.mpr f;rw[Int.natCast_mul,Int.toNat_of_nonneg ()]at this;show this
  have F:(z.length:Int)<=(2^63-1)/k:=(Int.le_ediv_iff_mul_le r).mpr (Int.le_trans p 'b');omega
 ·unfold tooLong;show Kd ()
 ·by_cases c:k<1
  ·rw[JX c]
   have e:k.toNat=0:=by omega
   rw[e]at q;show⟨'b',.str Str.empty,H,I.tok _,⟨_,S⟩,q⟩
  ·rw[JV c];by_cases a:(k==1 ||z.length==0)=ų
   ·rw[JX a]
    have e:di z k.toNat=z:=by
     rw[Ox]at a;rcases a with a|a
     ·have:=eq_of_beq a;subst this;show AI z
     ·have g:z.cps.toList=[]:=by have:=eq_of_beq a;unfold Str.length at this;show Ln.mp (by rw[KQ];show this)
      unfold di;rw[g]
      have l:z.cps=#[]:=by apply Ū;rw[g]
      apply Str.ext';rw[l];simp
    rw[e]at q;show⟨.str z,H,I,⟨t,S⟩,q⟩
   ·rw[JV a]
    have e:(⟨(List.replicate k.toNat z.cps).foldl (·++·) #[]⟩:Str)=di z k.toNat:=by rw[wN];unfold di;simp
    rw[e];refine⟨by rw[yZ];show f,.str (di z k.toNat),H,I.tok _,⟨_,S⟩,q⟩
end
noncomputable def DV:R2:=λx y H Q=>∃a b xs ys,x=.ref a/\y=.ref b/\H a=Z (.tup xs)/\H b=Z (.tup ys)/\xs.length+ys.length<=sizeLine/\∀p c,Same H c->c p=Z (.tup (xs++ys))->Q (.ref p) c
theorem zW{X:Cx}:bR X (Í .Add) DV:=by
 intro c s B H x y v u Q I l o h;let⟨a,b,xs,ys,rfl,rfl,f,g,t,q⟩:=h;by_cases j:xs=[]
 ·subst j;cases l;cases o;let⟨C,A,w,_⟩:=I.tuple (SqT.of f);let⟨E,F,z,_⟩:=I.tuple (SqT.of g);show Br w z (A.nil_iff.mpr S) ⟨.ref b,H,I,S,q b H (Same.refl H) g⟩
 ·refine DJ c s B H _ _ v u Q I l o ⟨a,b,xs,ys,S,S,SqT.of f,SqT.of g,j,t,λe=>?_,λ_ p r=>q p _ (cR r _) aZ⟩;subst e;show q a H (Same.refl H) (by rw[Ku];show f)
noncomputable def B7:R2:=λx y H Q=>∃(a:Addr)(k:Int)(xs:Y V),x=.ref a/\y=.int k/\H a=Z (.tup xs)/\xs≠[]/\0<=k/\k<=1000/\k.toNat*xs.length<=1000/\∀p c,Same H c->c p=Z (.tup (List.replicate k.toNat xs).flatten)->Q (.ref p) c
theorem Cz{X:Cx}:bR X (Í .Mult) B7:=by
 intro A s σ H x y v u Q I rx ry h;let⟨a,k,xs,rfl,rfl,N,hx,h0,h1,P,q⟩:=h;cases rx;let⟨t,rfl⟩:=ry;let⟨c,r,p1,_⟩:=I.tuple (SqT.of N);have am:c≠[]:=λz=>hx (r.nil_iff.mp z);have hl:=r.length
 have g:c.toArray.isEmpty=Ŵ:=by cases c with|nil=>show absurd S am|cons _ _=>rfl
 let⟨⟨cls,B,data,sl⟩,f,O,n,hd⟩:=id p1;simp only at O hd;subst O hd
 refine ě (T:="tuple") (U:="int") 'b' ⟨_,f,S⟩ (λs'=>N0 s' k t) DC F.fills_int_mul Nd D7 F.slot_int_index.lookup
  (LB Nd (N0 s k t) F.entry_int_rmul (F.args_int_rmul_2 _ _) (IU k t a c.toArray n B sl)
   ⟨f,S,⟨_,f,S⟩,?_⟩)
 have G:List.foldl (λx1 x2=>x1++x2) #[] (List.replicate k.toNat c.toArray)=(List.replicate k.toNat c).flatten.toArray:=by have:=qg c k.toNat [];rw[MM]at this;show this
 have J:¬ (decide (k < -(2^63)) ||decide (k≥2^63))=ų:=by rw[Kd (),Kd ()];show KI
 by_cases M:k=1
 ·subst M;refine LB MC ⟨_,f,S⟩ NT (NI _ _) (EZ a c.toArray n B sl t) ⟨f,?_⟩;refine⟨.ref a,H,I,S,q a H (Same.refl H) ?_⟩;change H a=Z (.tup (List.replicate 1 xs).flatten);rw[List.replicate_one,KC,List.flatten_nil,Ku];show N
 ·have K:¬ (c.toArray.isEmpty ||k==1)=ų:=by rw[g,K7.mpr M];show KI
  have w:∀ys:Y V,∀us:Y Value,ys.length<=sizeLine->Vals ys us->EP X A σ Q (.ref s.heap.objs.size) { s with heap:=s.heap.push { cls:=Value.type "tuple",data:=Data.seq us.toArray },toks:=s.toks }\/¬ (∀p l,Same H l->l p=Z (.tup ys)->Q (.ref p) l):=λys us E rr=>by
   by_cases R:∀p l,Same H l->l p=Z (.tup ys)->Q (.ref p) l
   ·refine .inl ⟨.ref s.heap.objs.size,_,I.laid (t':=s.toks) (o:=.tup ys) (λb ob z=>JW _ z) (J0 _) ?_,S,R _ _ (cR (I.hok.fresh (J0 _)) _) aZ⟩;show⟨E,_,rr,IsTupD.new _ _⟩
   ·show .inr R
  by_cases c0:k=0
  ·subst c0;refine LB MC ⟨_,f,S⟩ NT (NI _ _) (Cp a c.toArray n B sl 0 t J K S) ⟨f,?_⟩;rcases w [] [] (K1 _) .nil with z|z
   ·show z
   ·show absurd q z
  ·have ar:¬ (decide (k<=0) ||c.toArray.isEmpty)=ų:=by rw[g,Kd ()];show KI
   have j:c.length*k.toNat<=1000:=by rw[←hl,Ob];show P
   have C:(c.toArray.size:Int)*k<=1000:=by
    rw[J2]
    have e:k=((k.toNat:Nat):Int):=by omega
    rw[e]
    exact_mod_cast j
   have hs:(1000:Int)<=((sizeLine:Nat):Int):=by exact_mod_cast small (J0 1000)
   have aw:(List.replicate k.toNat c).flatten.length<=1000:=by rw[pU,Ob];show j
   refine LB MC ⟨_,f,S⟩ NT (NI _ _) (AZ a c.toArray n B sl k t J K ar () (by unfold Builtin.Tuple.tupleTooMany;rw[Kd ()];show KI) (by rw[G,J2];show small aw)) ⟨f,?_⟩;rw[G];rcases w (List.replicate k.toNat xs).flatten (List.replicate k.toNat c).flatten (by rw[pU];show small P) (r.rep k.toNat)with z|z
   ·show z
   ·show absurd q z
end L2
namespace L2
open PySem PySem.Spec PyProof.Rows
section
variable{K:Â}{X:Cx}{e a b:Ã}
noncomputable def jd:cB:=λx y R=>match x,y with
 |.int i,.int j=>R (.int (i+j))
 |.str i,.str j=>i.length+j.length<=sizeLine/\R (.str (i++j))
 |.lst xs,.lst ys=>xs.length+ys.length<=sizeLine/\NF (xs++ys) λc=>R (.lst c)
 |.tup xs,.tup ys=>xs.length+ys.length<=sizeLine/\NF (xs++ys) λc=>R (.tup c)
 |_,_=>False
theorem aY:OpD K X (Í .Add) jd:=⟨λT c s A H x y v u Q I w z M=>by
 let⟨G,P,o,R,sm,r,t,h,k⟩:=M
 cases P with
 |int i=>
  cases o with
  |int j=>cases r.int;cases t.int;show An c s A H _ _ v u Q I w z ⟨i,j,S,S,k _ G H _ h (.refl sm) (.int _)⟩
  |_=>show h.elim
 |str i=>
  cases o with
  |str j=>cases r.str;cases t.str;show G8 c s A H _ _ v u Q I w z ⟨i,j,S,S,h.1,k _ G H _ h.2 (.refl sm) (.str _)⟩
  |_=>show h.elim
 |lst xs=>
  cases o with
  |lst ys=>
   let⟨a,vs,rfl,C,f⟩:=r.lst sm;let⟨b,ws,rfl,E,l⟩:=t.lst sm;show Cf c s A H _ _ v u Q I w z ⟨a,b,vs,ws,S,S,C,E,by rw[f.1,l.1];show h.1,λp F=>k _ _ _ _ h.2.get (.new sm F _) (((f.append l).same (cR (sm.free F) _)).lst aZ)⟩
  |_=>show h.elim
 |tup xs=>
  cases o with
  |tup ys=>
   let⟨a,vs,rfl,C,N,f⟩:=r.tup sm;let⟨b,ws,rfl,E,O,l⟩:=t.tup sm
   show zW c s A H _ _ v u Q I w z ⟨a,b,vs,ws,S,S,sm _ _ N,sm _ _ O,by rw[f.1,l.1];show h.1,λp J s' q=>by
    let⟨B,g,U⟩:=Gr.adoptT sm s' q
    show k _ B J _ h.2.get g (((f.append l).same g.f).tup U)⟩
  |_=>show h.elim
 |_=>show h.elim⟩
noncomputable def zI(C:Int->Int->Prop)(g:Int->Int->D):cB:=λx y R=>match x,y with|.int i,.int j=>C i j/\R (g i j)|_,_=>False
noncomputable def i7(g:Int->Int->D):cB:=λx y R=>match x,y with|.int i,.int j=>R (g i j)|_,_=>False
theorem rS{f:Value->Value->Sem Value}{C:Int->Int->Prop}{g:Int->Int->Int}(h:bR X f (rI C λi j=>.int (g i j))):OpD K X f (zI C λi j=>.int (g i j)):=
 ⟨λE c s B H x y v u Q I w z l=>by
  let⟨A,o,p,R,sm,r,t,q,k⟩:=l
  cases o with
  |int i=>
   cases p with
   |int j=>cases r.int;cases t.int;show h c s B H _ _ v u Q I w z ⟨i,j,S,S,q.1,k _ A H _ q.2 (.refl sm) (.int _)⟩
   |_=>show q.elim
  |_=>show q.elim⟩
theorem HB{f:Value->Value->Sem Value}{g:Int->Int->Int}(h:bR X f (g9 λi j=>.int (g i j))):OpD K X f (i7 λi j=>.int (g i j)):=
 ⟨λC c s B H x y v u Q I w z l=>by
  let⟨A,o,p,R,sm,r,t,q,k⟩:=l
  cases o with
  |int i=>
   cases p with
   |int j=>cases r.int;cases t.int;show h c s B H _ _ v u Q I w z ⟨i,j,S,S,k _ A H _ q (.refl sm) (.int _)⟩
   |_=>show q.elim
  |_=>show q.elim⟩
theorem qX{f:Value->Value->Sem Value}{g:Int->Int->Bool}(h:bR X f (g9 λi j=>.bl (g i j))):OpD K X f (i7 λi j=>.bl (g i j)):=
 ⟨λC c s B H x y v u Q I w z l=>by
  let⟨A,o,p,R,sm,r,t,q,k⟩:=l
  cases o with
  |int i=>
   cases p with
   |int j=>cases r.int;cases t.int;show h c s B H _ _ v u Q I w z ⟨i,j,S,S,k _ A H _ q (.refl sm) (.bl _)⟩
   |_=>show q.elim
  |_=>show q.elim⟩
theorem fJ:OpD K X (Í .Sub) (i7 λi j=>.int (i-j)):=HB G6
theorem iW:OpD K X (Í .FloorDiv) (zI CDivB λi j=>.int (i/j)):=rS AF
theorem cF:OpD K X (Í .Mod) (zI (λ_ j=>0<j) λi j=>.int (i % j)):=rS Ig
theorem uB:OpD K X (Í .Pow) (zI ub λi j=>.int (i^j.toNat)):=rS AE
theorem iP:OpD K X (Æ .Lt) (i7 λi j=>.bl (decide (i<j))):=qX zE
theorem da:OpD K X (Æ .Gt) (i7 λi j=>.bl (decide (j<i))):=qX Df
theorem zQ:OpD K X (Æ .GtE) (i7 λi j=>.bl (decide (j<=i))):=qX Hh
noncomputable def Ik:cB:=λx y R=>match x,y with
 |.int i,.int j=>ň i j/\R (.int (i*j))
 |.lst xs,.int k=>(-(2^63)<=k/\k<2^63/\xs.length*k.toNat<=sizeLine)/\NF (List.replicate k.toNat xs).flatten λc=>R (.lst c)
 |.tup xs,.int k=>(xs≠[]/\0<=k/\k<=1000/\k.toNat*xs.length<=1000)/\NF (List.replicate k.toNat xs).flatten λc=>R (.tup c)
 |.str z,.int k=>(-(2^62)<=k/\k<2^62/\z.length*k.toNat<=sizeLine/\z.length<=sizeLine)/\NF (di z k.toNat) λy=>R (.str y)
 |_,_=>False
theorem fu:OpD K X (Í .Mult) Ik:=⟨λU c s A H x y v u Q I t w J=>by
 let⟨F,O,l,R,sm,o,r,h,k⟩:=J
 cases O with
 |int i=>
  cases l with
  |int j=>cases o.int;cases r.int;show Ck c s A H _ _ v u Q I t w ⟨i,j,S,S,h.1,k _ F H _ h.2 (.refl sm) (.int _)⟩
  |_=>show h.elim
 |lst xs=>
  cases l with
  |int j=>
   let⟨a,vs,rfl,C,f⟩:=o.lst sm;cases r.int;show sI c s A H _ _ v u Q I t w ⟨a,j,vs,S,S,C,h.1.1,h.1.2.1,by rw[f.1];show h.1.2.2,λp E=>k _ _ _ _ h.2.get (.new sm E _) (((f.rep _).same (cR (sm.free E) _)).lst aZ)⟩
  |_=>show h.elim
 |tup xs=>
  cases l with
  |int j=>
   let⟨a,vs,rfl,C,N,f⟩:=o.tup sm;cases r.int;have M:vs≠[]:=λe=>h.1.1 (Ln.mp (by rw[←f.1,e];rfl))
   show Cz c s A H _ _ v u Q I t w ⟨a,j,vs,S,S,sm _ _ N,M,h.1.2.1,h.1.2.2.1,by rw[f.1];show h.1.2.2.2,λp G s' q=>by
    let⟨B,g,P⟩:=Gr.adoptT sm s' q
    show k _ B G _ h.2.get g (((f.rep _).same g.f).tup P)⟩
  |_=>show h.elim
 |str z=>
  cases l with
  |int j=>
   cases o.str;cases r.int;show Bg c s A H _ _ v u Q I t w ⟨z,j,S,S,h.1.1,h.1.2.1,h.1.2.2.1,h.1.2.2.2,k _ F H _ h.2.get (.refl sm) (.str _)⟩
  |_=>show h.elim
 |_=>show h.elim⟩
end
noncomputable def eK(f:D->D->Ų Bool):Y D->Y D->Ų Bool
 | [],[]=>Z ų
 |x::xs,y::ys=>(f x y).bind λb=>(eK f xs ys).map (b&&·)
 |_,_=>Z Ŵ
noncomputable def bS:Nat->D->D->Ų Bool
 |_,.int i,.int j=>Z (i==j)
 |_,.bl i,.bl j=>Z (i==j)
 |_,.str i,.str j=>Z (i==j)
 |_,.non,.non=>Z ų
 |n+1,.tup xs,.tup ys=>eK (bS n) xs ys
 |n+1,.lst xs,.lst ys=>if xs.length=ys.length then eK (bS n) xs ys else Z Ŵ
 |_,_,_=>ű
theorem j6{f:D->D->Ų Bool}:∀{xs ys:Y D}{b:Bool},eK f xs ys=Z b->∃g:Nat->Bool,(∀(j:Nat)(x y:D),xs[j]?=Z x->ys[j]?=Z y->f x y=Z (g j))/\b=((List.range (min xs.length ys.length)).all g&&xs.length==ys.length)
 | [],[],b,h=>by cases h;show⟨λ_=>ų,λj x y l=>by simp at l,by simp⟩
 | [],_::_,b,h=>by cases h;show⟨λ_=>ų,λj x y l=>by simp at l,by simp⟩
 |_::_,[],b,h=>by cases h;show⟨λ_=>ų,λj x y _ A=>by simp at A,by simp⟩
 |x::xs,y::ys,b,h=>by
  unfold eK at h
  cases e:f x y with
  |none=>rw[e]at h;cases h
  |some c=>
   cases a:eK f xs ys with
   |none=>rw[e,a]at h;cases h
   |some B=>
    rw[e,a]at h;cases h;let⟨g,w,z⟩:=j6 a;refine⟨λj=>match j with|0=>c|j+1=>g j,λj u v o p=>?_,?_⟩
    ·cases j with
     |zero=>cases o;cases p;show e
     |succ j=>show w j u v o p
    ·have t:min (x::xs).length (y::ys).length=min xs.length ys.length+1:=by simp only[J1];omega
     have r:((x::xs).length==(y::ys).length)=(xs.length==ys.length):=by simp
     rw[t,r,OE,NN,Nk,z,Bool.and_assoc];rfl
section
variable{K:Â}{X:Cx}{l:Y (Addr×Ð)}{o:St}{f H:Hp}{s:À}
theorem zO{n:Nat}{g:Nat->Bool}(h:∀j,j<n->g j=ų):(List.range n).all g=ų:=by rw[Kf];intro j a;show h j (Li.mp a)
theorem bq{a:Type}{xs:Y a}{j:Nat}(h:j<xs.length):xs[j]?=Z xs[j]:=by simp[h]
inductive CmV:Nat->D->D->Bool->Prop
 |int {n:Nat} (i j:Int):CmV n (.int i) (.int j) (i==j)
 |bl {n:Nat} (i j:Bool):CmV n (.bl i) (.bl j) (i==j)
 |str {n:Nat} (i j:Str):CmV n (.str i) (.str j) (i==j)
 |non {n:Nat}:CmV n .non .non ų
 |tup {n:Nat} {xs ys:List D} {b:Bool} (h:eK (bS n) xs ys=Z b):CmV (n+1) (.tup xs) (.tup ys) b
 |lst {n:Nat} {xs ys:List D} {b:Bool} (h:(if xs.length=ys.length then eK (bS n) xs ys else Z Ŵ)=Z b):CmV (n+1) (.lst xs) (.lst ys) b
theorem hG{n:Nat}{d e:D}{b:Bool}(h:bS n d e=Z b):CmV n d e b:=by
 unfold bS at h;split at h
 ·cases h;show .int _ _
 ·cases h;show .bl _ _
 ·cases h;show .str _ _
 ·cases h;show .non
 ·show .tup h
 ·show .lst h
 ·cases h
theorem sZ(E:X.K=K)(I:Inv X l o H s)(sm:Same f H):∀(n:Nat){d e:D}{b:Bool}{v:V},bS n d e=Z b->Rp K f d v->Rp K f e v->b=ų:=by
 intro n
 induction n using Nat.strongRecOn with
 |ind n C=>
  intro d e b v h r t
  have all:∀{m:Nat}{xs ys:Y D}{vs:Y V}{b:Bool},m<n->eK (bS m) xs ys=Z b->RpL K f xs vs->RpL K f ys vs->b=ų:=λ{m xs ys vs b} B h c p=>by
   let⟨g,A,z⟩:=j6 h;have G:=c.1;have J:=p.1;rw[z,zO λj F=>?_]
   ·simp;omega
   ·have w:j<vs.length:=by omega
    have x:j<xs.length:=by omega
    have y:j<ys.length:=by omega
    show C m B (A j _ _ (bq x) (bq y)) (c.2 j _ _ (bq w) (bq x)) (p.2 j _ _ (bq w) (bq y))
  cases hG h with
  |int i j=>obtain rfl:=r.i;cases t;show Kz i
  |bl i j=>obtain rfl:=r.b;cases t;show Kz i
  |str i j=>obtain rfl:=r.s;cases t;show Kz i
  |non=>rfl
  |tup h=>
   cases r with| @tup a vs xs h1 c h3=>cases t with| @tup _ ws ys k1 p k3=>
   have u:vs=ws:=I.tuple_inj (.of (sm _ _ h1)) (.of (sm _ _ k1));subst u;show all (Mi _) h ⟨c,h3⟩ ⟨p,k3⟩
  |lst h=>
   cases r with| @lst a vs xs h1 c h3=>cases t with| @lst _ ws ys k1 p k3=>
   have u:vs=ws:=by rw[h1]at k1;cases k1;rfl
   subst u;rw[JX (c.symm.trans p)]at h;show all (Mi _) h ⟨c,h3⟩ ⟨p,k3⟩
open PySem.SeqAt in
theorem pk(hK:X.K=K)(I:Inv X l o H s)(sm:Same f H):∀(n:Nat){d e:D}{b:Bool}{x y:V},bS n d e=Z b->Rp K f d x->Rp K f e y->
  ∀(A:È)(u v:Value),A.units+n<ä->RelV x u->RelV y v->EqAt A s u v b/\RcAt A s u v b/\RcNeAt A s u v (!b):=by
 intro n
 induction n using Nat.strongRecOn with
 |ind n ih=>
  intro d e b x y h r w A u v hu O P
  have z:∀{m:Nat}{xs ys:Y D}{vs ws:Y V}{p Pa:Y Value}{g:Nat->Bool},m+1=n->(∀(j:Nat)(x y:D),xs[j]?=Z x->ys[j]?=Z y->bS m x y=Z (g j))->RpL K f xs vs->RpL K f ys ws->Vals vs p->Vals ws Pa->∀j (j1:j<p.toArray.size) (j2:j<Pa.toArray.size),EqAt A.in1 s p.toArray[j] Pa.toArray[j] (g j):=λ{m xs ys vs ws p Pa g} hm U F G B C j j1 j2=>by
   have l1:=Vals.length B;have l2:=Vals.length C;have m1:=F.1;have m2:=G.1;simp only[J2]at j1 j2;let⟨x,hx,r⟩:=Vals.get' B j1;let⟨y,hy,w⟩:=Vals.get' C j2
   have i1:j<xs.length:=by omega
   have i2:j<ys.length:=by omega
   show (ih m () (U j _ _ (bq i1) (bq i2)) (F.2 j x _ hx (bq i1)) (G.2 j y _ hy (bq i2)) A.in1 _ _ (by change A.units+1+m<ä;omega) r w).1
  have N:A.units<ä:=by omega
  cases hG h with
  |int i j=>obtain rfl:=r.i;obtain rfl:=w.i;let⟨t,rfl⟩:=O;let⟨t',rfl⟩:=P;show⟨EqAt.int_int i t j t',RcAt.int_int i t j t',RcNeAt.int_int i t j t'⟩
  |bl i j=>obtain rfl:=r.b;obtain rfl:=w.b;cases O;cases P;show⟨EqAt.bool_bool i j,RcAt.bool_bool i j,RcNeAt.bool_bool i j⟩
  |str i j=>obtain rfl:=r.s;obtain rfl:=w.s;let⟨t,rfl⟩:=O;let⟨t',rfl⟩:=P;show⟨EqAt.str_str i t j t',RcAt.str_str i t j t',RcNeAt.str_str i t j t'⟩
  |non=>obtain rfl:=r.n;obtain rfl:=w.n;cases O;cases P;show⟨EqAt.same _,RcAt.none_none,RcNeAt.none_none⟩
  | @tup n xs ys b q=>
   have ar:=r;have aw:=w
   cases r with| @tup a vs _ h1 F h3=>cases w with| @tup c ws _ k1 G k3=>
   cases O;cases P;let⟨g,U,hb⟩:=j6 q;let⟨p,B,J,_⟩:=I.sqb (b:=Ŵ) (show SqT X.K H a vs from .of (sm _ _ h1));let⟨Pa,C,M,_⟩:=I.sqb (b:=Ŵ) (show SqT X.K H c ws from .of (sm _ _ k1));have l1:=Vals.length B;have l2:=Vals.length C;have T:=z S U ⟨F,h3⟩ ⟨G,k3⟩ B C;have R:=RcAt.tuples (e:=g) J M N T;have Q:=RcNeAt.tuples (e:=g) J M N T
   have et:((List.range (min p.toArray.size Pa.toArray.size)).all g&&p.toArray.size==Pa.toArray.size)=b:=by rw[hb];simp only[J2];rw[←l1,←l2,F,G]
   rw[et]at R Q;refine⟨?_,R,Q⟩;by_cases am:a=c
   ·subst am;rw[sZ hK I sm (n+1) h ar aw];show EqAt.same _
   ·show EqAt.of_refs am R
  | @lst n xs ys b q=>
   have ar:=r;have aw:=w
   cases r with| @lst a vs _ h1 F h3=>cases w with| @lst c ws _ k1 G k3=>
   cases O;cases P;let⟨p,B,J,_⟩:=I.sqb (b:=ų) (show SqL X.K H a vs from SqL.of (sm _ _ h1));let⟨Pa,C,M,_⟩:=I.sqb (b:=ų) (show SqL X.K H c ws from SqL.of (sm _ _ k1));have l1:=Vals.length B;have l2:=Vals.length C
   have E:RcAt A s (.ref a) (.ref c) b/\RcNeAt A s (.ref a) (.ref c) (!b):=by
    by_cases hl:xs.length=ys.length
    ·rw[JX hl]at q;let⟨g,U,hb⟩:=j6 q;have T:=z S U ⟨F,h3⟩ ⟨G,k3⟩ B C
     have hsz:p.toArray.size=Pa.toArray.size:=by simp;omega
     have R:=RcAt.lists (e:=g) J M hsz N T;have Q:=RcNeAt.lists (e:=g) J M hsz N T
     have et:(List.range p.toArray.size).all g=b:=by
      have e1:min xs.length ys.length=p.length:=by omega
      have e2:(xs.length==ys.length)=ų:=by simp[hl]
      rw[hb,e1,e2,Bool.and_true,J2]
     rw[et]at R Q;show⟨R,Q⟩
    ·rw[JV hl]at q;cases q
     have hsz:(p.toArray.size != Pa.toArray.size)=ų:=by simp;omega
     show⟨RcAt.lists_lengths J M hsz N,RcNeAt.lists_lengths J M hsz N⟩
   refine⟨?_,E.1,E.2⟩;by_cases am:a=c
   ·subst am;rw[sZ hK I sm (n+1) h ar aw];show EqAt.same _
   ·show EqAt.of_refs am E.1
end
noncomputable def i5:cB:=λx y R=>match bS 40 x y with|some b=>R (.bl b)|none=>False
noncomputable def uL:cB:=λx y R=>match bS 40 x y with|some b=>R (.bl (!b))|none=>False
section
variable{K:Â}{X:Cx}
theorem RpQ.any{c H:Hp}{d:D}{v:V}(h:RpQ K c H d v)(s:Same c H):Rp K H d v:=by
 rcases h with h|⟨a,vs,ds,e,f,g,j⟩
 ·show h.same s
 ·subst e f;show (j.same s).lst g
theorem aX(t:X.A.units+64<ä):OpD K X (Æ .Eq) i5:=⟨λe a s w H x y u v Q I j l c=>by
 let⟨o,p,r,R,sm,f,g,h,k⟩:=c;unfold i5 at h;split at h
 ·next b hb=>show (pk e I (Same.refl H) 40 hb (f.any sm) (g.any sm) X.A u v () j l).2.1 X.prog X.w _ _ ⟨.bl b,H,I,S,k _ o H _ h (.refl sm) (.bl b)⟩
 ·show h.elim⟩
theorem fP(t:X.A.units+64<ä):OpD K X (Æ .NotEq) uL:=⟨λe a s w H x y u v Q I j l c=>by
 let⟨o,p,r,R,sm,f,g,h,k⟩:=c;unfold uL at h;split at h
 ·next b hb=>show (pk e I (Same.refl H) 40 hb (f.any sm) (g.any sm) X.A u v () j l).2.2 X.prog X.w _ _ ⟨.bl (!b),H,I,S,k _ o H _ h (.refl sm) (.bl _)⟩
 ·show h.elim⟩
noncomputable def nv:D->Bool
 |.non=>ų
 |_=>Ŵ
noncomputable def vC(c:Bool):cB:=λx y R=>match y with|.non=>R (.bl (nv x != c))|.bl b=>(match x with|.bl a=>R (.bl ((a==b) != c))|_=>False)|_=>False
theorem xW{f H:Hp}{d:D}{v:V}(h:RpQ K f H d v):decide (v=V.non)=nv d:=by
 cases d with
 |int i=>rw[h.int];rfl
 |bl i=>rw[h.bl];rfl
 |str i=>rw[h.str];rfl
 |non=>rw[h.non];rfl
 |tup ds=>rcases h with h|⟨a, vs, ds, e, _⟩
          · cases h; rfl
          · cases e
 |lst ds=>rcases h with h|⟨a, vs, ds, e, c, _⟩
          · cases h; rfl
          · rw [c]; rfl
 |fzl ds=>rcases h with h|⟨a, vs, ds, e, _⟩
          · cases h; rfl
          · cases e
 |obj C fs=>rcases h with h|⟨a, vs, ds, e, _⟩
            · cases h; rfl
            · cases e
 |map g=>rcases h with h|⟨a, vs, ds, e, _⟩
         · cases h; rfl
         · cases e
 |exc _ _=>rcases h with h|⟨a, vs, ds, e, _⟩
           · cases h<;>rfl
           · cases e
theorem fS:OpD K X (Æ .Is) (vC Ŵ):=⟨λw c s o H x y u v Q I g j p=>by
 let⟨l,r,t,R,sm,e,f,h,k⟩:=p
 cases t with
 |non=>
  cases f.non;refine FO c s o H _ _ u v Q I g j ⟨S,?_⟩;rw[xW e];have h':R (.bl (nv r != Ŵ)):=h;rw[Bool.bne_false]at h';show k _ l H _ h' (.refl sm) (.bl _)
 |bl b=>
  cases f.bl;let⟨a,rfl,h⟩:=jm h;cases e.bl;have h':R (.bl ((a==b) != Ŵ)):=h;rw[Bool.bne_false]at h';show B3 c s o H _ _ u v Q I g j ⟨a,b,S,S,k _ l H _ h' (.refl sm) (.bl _)⟩
 |_=>show h.elim⟩
theorem uq:OpD K X (Æ .IsNot) (vC ų):=⟨λw c s o H x y u v Q I g j p=>by
 let⟨l,r,t,R,sm,e,f,h,k⟩:=p
 cases t with
 |non=>
  cases f.non;refine BF c s o H _ _ u v Q I g j ⟨S,?_⟩;rw[xW e];have h':R (.bl (nv r != ų)):=h;rw[Bool.bne_true]at h';show k _ l H _ h' (.refl sm) (.bl _)
 |bl b=>
  cases f.bl;let⟨a,rfl,h⟩:=jm h;cases e.bl;have h':R (.bl ((a==b) != ų)):=h;rw[Bool.bne_true]at h';show BB c s o H _ _ u v Q I g j ⟨a,b,S,S,k _ l H _ h' (.refl sm) (.bl _)⟩
 |_=>show h.elim⟩
end
end L2
namespace HT
open PySem PySem.Spec PyProof.Rows
theorem getItem_tuple_all{prog:Ä}{w:Å}{A:È}{E:Value->À->Prop}{s:À}{t sl:Addr}{a:Array Value}{l o:Value}{lo f:Ų Int}{Q:Value->À->Prop}(e:ĭ s.heap t a)(g:s.heap.IsSliceOf sl l o .none)(pl:ö l lo)(x:ö o f)
  (j:sIx a.size 0 lo=0/\sIx a.size a.size f=a.size) (h:Q (.ref t) s):wpAny (model prog w) A (ü (.ref t) (.ref sl)) Q E s:=by
 let⟨os,p,u,y⟩:=id g;have r:s.TypeIs (.ref sl) "slice":=⟨os,p,u⟩;unfold ü
 try with_reducible refine Lz ?_
 first|refine JT (J5 ?_)|skip
 refine JT (ř e.typeIs 'b' ?_)
 refine JT (Lm (name:=Str.ofString "__getitem__") e.typeIs Ld
  (L0 Ld e.typeIs Ŏ ?_ (Ŗ _ _)))
 change wpAny _ _ (Builtin.Tuple.tupleItemsOf (.ref t) >>= _) _ _ s;refine JT (tupleItemsOf_ e ?_);refine JT (N9 r ?_);rw[JX 'b'];refine JT (tP g pl x ?_)
 have v:(((sIx a.size 0 lo:Nat):Int)==0&&(1:Int)==1&&(sIx a.size a.size f-sIx a.size 0 lo)==a.size)=ų:=by rw[j.1,j.2];simp
 change wpAny _ _ (if (((sIx a.size 0 lo:Nat):Int)==0&&(1:Int)==1&&(sIx a.size a.size f-sIx a.size 0 lo)==a.size)=ų then _ else _) _ _ s;rw[JX v];refine JT (show wpAny _ _ (typeOf (.ref t) >>= λc=>pure (c==.type "tuple")) _ _ s from JT (N9 e.typeIs (J5 ?_)));rw[JX 'b'];show JT (Ē (J5 ⟨_,S,J5 h⟩))
end HT
namespace L2
open PySem PySem.Spec PyProof.Rows
section
variable{K:Â}{X:Cx}{e a b c:Ã}{B:Y Ã}{A O:Õ}{t C tb:TD}{J:bc}
noncomputable def l8:cB:=λx y R=>match y with
 |.int i=>(match x with
  |.lst ds=>∃d,bT ds i=Z d/\R d
  |.tup ds=>∃d,bT ds i=Z d/\R d
  |.fzl ds=>∃d,bT ds i=Z d/\R d
  |.str z=>z.length<=sizeLine/\∃c,bT z.cps.toList i=Z c/\R (.str ⟨#[c]⟩)
  |_=>False)
 |_=>False
theorem pI{g:Hp}{ds:Y D}{vs:Y V}{d:D}{i:Int}(h:RpL K g ds vs)(e:bT ds i=Z d):∃v,bT vs i=Z v/\Rp K g d v:=by
 unfold bT at e ⊢;rw[h.1]
 cases f:eX ds.length i with
 |none=>rw[f]at e;cases e
 |some j=>
  rw[f,į]at e;rw[į];show h.at e
theorem vL(U:X.K=K):l6 X (lR2 K l8):=by
 intro g f j s T H x y v u Q I N P ⟨am,ar,dy,R,sm,M,hy,h,k⟩ G;let⟨i,rfl,h⟩:=gw h;cases hy.int
 cases ar with
 |lst ds=>
  let⟨d,l,o⟩:=h;let⟨a,vs,rfl,E,F⟩:=M.lst sm;let⟨w,r,p⟩:=pI F l;show wJ g f j s T H _ _ v u Q I N P ⟨a,vs,i,w,S,S,.of E,r,k _ am H _ o (.refl sm) p⟩ G
 |tup ds=>
  let⟨d,l,o⟩:=h;let⟨a,vs,rfl,E,_,F⟩:=M.tup sm;let⟨w,r,p⟩:=pI F l;show DT g f j s T H _ _ v u Q I N P ⟨a,vs,i,w,S,S,U▸E,r,k _ am H _ o (.refl sm) p⟩ G
 |fzl ds=>
  let⟨d,l,o⟩:=h;let⟨a,vs,rfl,E,F⟩:=M.fzl sm;let⟨w,r,p⟩:=pI F l;show wJ g f j s T H _ _ v u Q I N P ⟨a,vs,i,w,S,S,U▸E,r,k _ am H _ o (.refl sm) p⟩ G
 |str z=>
  let⟨aw,c,l,o⟩:=h;cases M.str;show D4 g f j s T H _ _ v u Q I N P ⟨z,i,c,S,S,aw,l,k _ am H _ o (.refl sm) (.str _)⟩ G
 |_=>show h.elim
theorem bV(g:PQ K X a C)(h:PQ K X b tb)(j:qd b):PD K X (.Subscript a b A) (dA l8 C tb):=
 ⟨λf=>(vW (vL f) (g.pe f) (h.pe f) j).imp λ_ _ _=>mT⟩
noncomputable abbrev gN:=bE->(Ų Int->Prop)->Prop
theorem aS{i:Int}{j:þ}{p:Õ}(f:PQ K X a C):PD K X (.Subscript a (.Constant (.int i) j p) A) (dA l8 C (dC (.int i))):=bV f (PD.q ah) λ_ _=>rfl
inductive lO(K:Â)(t:gN)(σ:St)(H:Hp)(Q:Option Int->Hp->Prop):Prop|mk (H0:Hp) (Φ:Hp) (ρ:bE) (R:Option Int->Prop) (_:EnvD K H0 Φ H σ ρ) (_:t ρ R) (_:∀o Φ' H',R o->Gr Φ H Φ' H'->Q o H')
structure POD(K:Â)(X:Cx)(e:Option Ã)(t:gN):Prop where po:X.K=K->PO X e (lO K t)
noncomputable def jQ:gN:=λ_ R=>R ű
noncomputable def j9(t:TD):gN:=λρ R=>t ρ λd=>match d with|.int i=>R (Z i)|_=>False
theorem PO.imp{o:Ų Ã}{t t':TO}(h:PO X o t)(k:∀g H Q,t' g H Q->t g H Q):PO X o t':=λf s g H Q I j=>h f s g H Q I (k g H Q j)
theorem bO:POD K X ű jQ:=⟨λ_=>po_none.imp λj H Q f=>by let⟨h,g,ρ,R,E,t,k⟩:=f;show k ű g H t (.refl E.fz)⟩
theorem bD(h:PQ K X e t):POD K X (Z e) (j9 t):=⟨λp=>(pF (h.pe p)).imp λx H Q o=>by let⟨j,w,ρ,R,E,t,k⟩:=o;show⟨j,w,ρ,_,E,t,λd f l v r g u=>by
 let⟨i,rfl,r⟩:=gw r
 show⟨i,u.int,k _ f l r g⟩⟩⟩
variable{lo G:Ų Ã}{to M:gN}
noncomputable def wB(K:Â):V->Ų Int->Ų Int->Hp->VK->Prop:=λx lo G H Q=>∃a xs,x=.ref a/\SqT K H a xs/\(HT.sIx xs.length 0 lo=0/\HT.sIx xs.length xs.length G=xs.length)/\Q (.ref a) H
theorem sl_all:SlR X (wB X.K):=by
 intro j s N H x v E F lo G sl Q I y o pl w h;let⟨a,xs,rfl,u,p,q⟩:=h;cases y;let⟨l,r,g,z⟩:=I.tuple u
 have f:l.toArray.size=xs.length:=by rw[J2];show r.length.symm
 refine⟨"tuple",_,Ld.lookup,g.typeIs,?_⟩;show HT.getItem_tuple_all g o pl w (by rw[f];show p) ⟨.ref a,H,I,S,q⟩
theorem Ff{g:Type}{xs:Y g}{l h:Ų Int}(f:HT.sIx xs.length 0 l=0/\HT.sIx xs.length xs.length h=xs.length):aT xs l h=xs:=by unfold aT;rw[f.1,f.2,Mf,OP,Od]
noncomputable def A4(x:D)(l h:Ų Int)(R:D->Prop):Prop:=match x with
 |.lst ds=>NF (aT ds l h) λf=>R (.lst f)
 |.fzl ds=>NF (aT ds l h) λf=>R (.lst f)
 |.tup ds=>NF (aT ds l h) λf=>R (.tup f)
 |.str z=>z.length<=sizeLine/\NF (cutS z l h) λy=>R (.str y)
 |_=>False
noncomputable def jO(t:TD)(to M:gN):TD:=λρ R=>t ρ λx=>to ρ λl=>M ρ λh=>A4 x l h R
theorem bH(aw:PQ K X a C)(hl:POD K X lo to)(hh:POD K X G M):PD K X (.Subscript a (.Slice lo G ű O) A) (jO C to M):=
 ⟨λv=>(vt (v▸sl_list.or (sl_tup.or (sl_all.or y9)):SlR X (λx lo G H Q=>qm K x lo G H Q\/tH K x lo G H Q\/wB K x lo G H Q\/tT x lo G H Q)) (aw.pe v) (hl.po v) (hh.po v)).imp λσ H Q U=>by let⟨w,Φ,ρ,R,E,t,k⟩:=U;exact
  ⟨w,Φ,ρ,_,E,t,λar N H1 x t1 y rx=>⟨w,N,ρ,_,E.gr y,t1,λl P H2 t2 F=>⟨w,P,ρ,_,(E.gr y).gr F,t2,λh Φ3 H3 o am=>by
   have g:=(y.trans F).trans am;have u:=rx.gr (F.trans am)
   cases ar with
   |lst ds=>
    let⟨a,vs,rfl,r,j⟩:=u.lst g.s;show .inl ⟨a,vs,S,.of r,λp f=>k _ _ _ _ o.get (g.trans (.new g.s f _)) (((j.cut l h).same (cR (g.s.free f) _)).lst aZ)⟩
   |fzl ds=>
    let⟨a,vs,rfl,r,j⟩:=u.fzl g.s;show .inl ⟨a,vs,S,r,λp f=>k _ _ _ _ o.get (g.trans (.new g.s f _)) (((j.cut l h).same (cR (g.s.free f) _)).lst aZ)⟩
   |tup ds=>
    let⟨a,vs,rfl,r,q0,j⟩:=u.tup g.s;by_cases I:HT.sIx vs.length 0 l=0/\HT.sIx vs.length vs.length h=vs.length
    ·refine .inr (.inr (.inl ⟨a,vs,S,r,I,?_⟩));have e:aT ds l h=ds:=Ff (by rw[←j.1];show I);have T:=o.get;rw[e]at T;show k _ _ _ _ T g (j.tup q0)
    ·show .inr (.inl ⟨a,vs,S,r,I,λp f=>k _ _ _ _ o.get (g.trans (.new g.s f _)) (((j.cut l h).same (cR (g.s.free f) _)).tup aZ)⟩)
   |str z=>
    cases u.str;show .inr (.inr (.inr ⟨z,S,o.1,k _ _ _ _ o.2.get g (.str _)⟩))
   |_=>show o.elim⟩⟩⟩⟩
noncomputable def FB(C tb:TD):bc:=λρ R=>C ρ λx=>tb ρ λy=>match x,y with|.lst xs,.int k=>(-(2^63)<=k/\k<2^63/\xs.length*k.toNat<=sizeLine)/\NF (List.replicate k.toNat xs).flatten R|_,_=>False
theorem ux(am:PQ K X a C)(T:PQ K X b tb):PF K X (.BinOp a .Mult b A) (FB C tb):=
 ⟨λz=>(rJ sI (am.pe z) (T.pe z)).imp λσ H Q F=>by let⟨r,Φ,ρ,R,E,t,k⟩:=F;show⟨r,Φ,ρ,_,E,t,λI o H1 x aw u U=>⟨r,o,ρ,_,E.gr u,aw,λN Φ2 H2 y f v ar=>by
  have g:=u.trans v;have l:=U.gr v
  cases I with
  |lst xs=>cases N with
   |int j=>
    let⟨a,vs,rfl,P,w⟩:=l.lst g.s;cases ar.int;show⟨a,j,vs,S,S,P,f.1.1,f.1.2.1,by rw[w.1];show f.1.2.2,λp h=>k _ _ _ p _ f.2.get (g.trans (.fresh g.s h _)) (g.h.free h) (g.s.free h) aZ (w.rep _)⟩
   |_=>show f.elim
  |_=>show f.elim⟩⟩⟩
noncomputable abbrev cP:=Y D->(D->Prop)->Prop
inductive lSp(K:Â)(sp:cP)(vs:List V)(H:Hp)(Q:VK)(E_:XK):Prop|mk (Φ:Hp) (ds:List D) (R:D->Prop) (_:Same Φ H) (_:TabF K Φ) (_:RpL K Φ ds vs) (_:sp ds R) (_:∀d Φ' H' v,R d->Gr Φ H Φ' H'->Rp K Φ' d v->Q v H')
noncomputable def kQ(sp:cP)(t:bc):TD:=λρ R=>t ρ λds=>sp ds R
variable{CX:cM}{k:Nat}{f:Addr}{N:É}{ps:Y Str}{sp:cP}{x:Str}{p:Õ}{E:XK}
theorem zm(F:FnOk X.prog X.w X.K X.mg X.base CX k f N ps (lSp K sp))(aw:Room k X.A)(T:Gl X x)(ar:X.mg x=Z (.ref f))(U:Ü X.K (.ref f)=ų)(P:Binds X.K N ps [])(hx:jS CX X E)
  (I:PAD K X (e::B) J) (am:starEach (e::B) X.env=(Ŵ,eval e X.env)::starEach B X.env) (w:(backTo A (starEach B X.env)).any (·.1)=Ŵ) (y:ad x:=by decide) :
  PD K X (.Call (.Name x p) (e::B) [] A) (kQ sp J):=
 ⟨λz=>(qJ F aw T ar U P .nil hx (I.pa z) y am w).imp λσ H Q u=>by let⟨o,Φ,ρ,R,E,t,k⟩:=u;show⟨o,Φ,ρ,_,E,t,λds j H1 vs r g rl _=>⟨j,ds,R,g.s,E.tb.same g.f,by rw[Ku];show rl,r,λd h l v rd g' rv=>k d h l v rd (g.trans g') rv⟩⟩⟩
noncomputable def rQ(K:Â)(g H:Hp)(ds:Y D)(vs:Y V):Prop:=vs.length=ds.length/\∀(i:Nat)(v:V)(d:D),vs[i]?=Z v->ds[i]?=Z d->RpQ K g H d v
inductive lAQ(K:Â)(t:bc)(σ:St)(H:Hp)(Q:List V->Hp->Prop):Prop|mk (H0:Hp) (Φ:Hp) (ρ:bE) (R:List D->Prop) (_:EnvD K H0 Φ H σ ρ) (_:t ρ R) (_:∀ds Φ' H' vs,R ds->Gr Φ H Φ' H'->rQ K Φ' H' ds vs->Q vs H')
structure PAQ(K:Â)(X:Cx)(B:List Ã)(t:bc):Prop where pa:X.K=K->PA X B (lAQ K t)
theorem aW:PAQ K X [] gX:=⟨λ_=>pa_nil.imp λo H Q g=>by let⟨l,j,ρ,R,E,t,k⟩:=g;show k [] j H [] t (.refl E.fz) ⟨S,λi v d h _=>by simp at h⟩⟩
theorem aV(I:PQ K X e t)(P:PAQ K X B J)(am:starEach (e::B) X.env=(Ŵ,eval e X.env)::starEach B X.env):PAQ K X (e::B) (eN t J):=
 ⟨λw=>(cC (I.pe w) (P.pa w) am).imp λσ H Q F=>by let⟨l,ar,ρ,R,E,t,k⟩:=F;show⟨l,ar,ρ,_,E,t,λd h aw v r g U=>⟨l,h,ρ,_,E.gr g,r,λds j z vs T o rl=>
  k _ j z _ T (g.trans o) ⟨by simp[rl.1],λi u d y hd=>by
   cases i with
   |zero=>cases y;cases hd;show U.gr o
   |succ i=>show rl.2 i u d y hd⟩⟩⟩⟩
inductive lC(K:Â)(r:cP)(vs:List V)(H:Hp)(Q:VK):Prop|mk (Φ:Hp) (ds:List D) (R:D->Prop) (_:Same Φ H) (_:rQ K Φ H ds vs) (_:r ds R) (_:∀d Φ' H' v,R d->Gr Φ H Φ' H'->Rp K Φ' d v->Q v H')
structure CallD(K:Â)(X:Cx)(f:Value)(r:cP):Prop where c:X.K=K->fv X f (lC K r)
theorem bz{id:String}{r:cP}(I:CallD K X (.builtin id) r)(am:Gl X x)(T:X.mg x=ű)(ar:ß x=Z (.builtin id))(F:PAQ K X (e::B) J)
  (P:starEach (e::B) X.env=(Ŵ,eval e X.env)::starEach B X.env) (y:(backTo A (starEach B X.env)).any (·.1)=Ŵ) (U:x≠"__name__":=by decide) (z:ad x:=by decide):PD K X (.Call (.Name x p) (e::B) [] A) (kQ r J):=
 ⟨λl=>(k7 (I.c l) am T ar (F.pa l) U z P y).imp λσ H Q w=>by let⟨u,Φ,ρ,R,E,t,k⟩:=w;show⟨u,Φ,ρ,_,E,t,λds j H1 vs r g rl=>⟨j,ds,R,g.s,rl,r,λd h o v aw g' rv=>k d h o v aw (g.trans g') rv⟩⟩⟩
theorem df{T:String}{r:cP}(I:CallD K X (.type T) r)(am:Gl X x)(U:X.mg x=ű)(aw:ß x=Z (.type T))(F:PAQ K X (e::B) J)
  (P:starEach (e::B) X.env=(Ŵ,eval e X.env)::starEach B X.env) (y:(backTo A (starEach B X.env)).any (·.1)=Ŵ) (ar:x≠"__name__":=by decide) (z:ad x:=by decide):PD K X (.Call (.Name x p) (e::B) [] A) (kQ r J):=
 ⟨λl=>(sM (I.c l) am U aw (F.pa l) ar z P y).imp λσ H Q w=>by let⟨u,Φ,ρ,R,E,t,k⟩:=w;show⟨u,Φ,ρ,_,E,t,λds j H1 vs r g rl=>⟨j,ds,R,g.s,rl,r,λd h o v rd g' rv=>k d h o v rd (g.trans g') rv⟩⟩⟩
theorem gm{j H:Hp}{d:D}{vs:Y V}(h:rQ K j H [d] vs):∃v,vs=[v]/\RpQ K j H d v:=by
 let⟨l,g⟩:=h
 match vs,l,g with
 | [v],_,g=>show⟨v,S,g 0 v d S S⟩
noncomputable def uD:cP:=λds R=>match ds with| [.lst xs]=>R (.int xs.length)| [.tup xs]=>R (.int xs.length)| [.fzl xs]=>R (.int xs.length)| [.str z]=>z.length<=sizeLine/\R (.int z.length)|_=>False
theorem bF:CallD K X (.builtin "len") uD:=⟨λF g s y H xs us Q I u P=>by
 let⟨w,ds,R,sm,o,h,k⟩:=P
 match ds,h with
 | [.lst xs],h=>
  let⟨v,rfl,r⟩:=gm o;let⟨a,vs,rfl,j,l⟩:=r.lst sm;show rA g s y H _ us Q I u ⟨a,vs,S,.inl (.of j),by rw[l.1];show k _ w H _ h (.refl sm) (.int _)⟩
 | [.tup xs],h=>
  let⟨v,rfl,r⟩:=gm o;let⟨a,vs,rfl,j,_,l⟩:=r.tup sm;show rA g s y H _ us Q I u ⟨a,vs,S,.inr (F▸j),by rw[l.1];show k _ w H _ h (.refl sm) (.int _)⟩
 | [.fzl xs],h=>
  let⟨v,rfl,r⟩:=gm o;let⟨a,vs,rfl,j,l⟩:=r.fzl sm;show rA g s y H _ us Q I u ⟨a,vs,S,.inl (F▸j),by rw[l.1];show k _ w H _ h (.refl sm) (.int _)⟩
 | [.str z],h=>
  let⟨v,rfl,r⟩:=gm o;cases r.str
  show Je g s y H _ us Q I u ⟨z,S,h.1,k _ w H _ h.2 (.refl sm) (.int _)⟩⟩
theorem Ju{j:Hp}{bs:Y Bool}{vs:Y V}(h:RpL K j (bs.map D.bl) vs):vs=bs.map V.bl:=by
 refine LU λi=>?_;rw[J4]
 cases e:bs[i]? with
 |none=>
  have:=LO.mp e;rw[K6 (by rw[h.1,mn];show this)];rfl
 |some n=>
  let⟨v,g,r⟩:=h.at (i:=i) (d:=.bl n) (by rw[J4,e];rfl);obtain rfl:=r.b;rw[g];rfl
theorem RpQ.sqb{j H:Hp}{d:D}{v:V}{ds:Y D}(s:Same j H)(h:RpQ K j H d v)(e:gk d=Z ds):∃(q:Bool)(a:Addr)(vs:Y V),v=.ref a/\SqB K q H a vs/\RpL K j ds vs:=by
 let⟨a,vs,l,g,o⟩:=h.seq s e;rcases g with g|g
 ·show⟨ų,a,vs,l,g,o⟩
 ·show⟨Ŵ,a,vs,l,g,o⟩
noncomputable def AH(f:Y Bool->Bool):cP:=λds R=>match ds with| [d]=>∃bs:Y Bool,gk d=Z (bs.map D.bl)/\R (.bl (f bs))|_=>False
theorem ky(u:X.calm=ų):CallD K X (.builtin "all") (AH λbs=>bs.all id):=⟨λo g s P H xs us Q I z l=>by
 let⟨F,ds,R,sm,w,h,k⟩:=l
 match ds,h with
 | [d],⟨ns,e,h⟩=>
  let⟨v,rfl,r⟩:=gm w;let⟨q,a,vs,rfl,j,y⟩:=r.sqb sm e;rw[Ju y]at j
  show Ca q u g s P H _ us Q I z ⟨a,ns,S,o▸j,k _ F H _ h (.refl sm) (.bl _)⟩⟩
noncomputable def CT:cP:=λds R=>match ds with| [.lst xs]=>R (.tup xs)| [.tup xs]=>R (.tup xs)| [.fzl xs]=>R (.tup xs)|_=>False
theorem hZ:CallD K X (.type "tuple") CT:=⟨λz g s y H xs us Q I w F=>by
 let⟨U,ds,R,sm,u,h,k⟩:=F
 match ds,h with
 | [.lst xs],h=>
  let⟨v,rfl,r⟩:=gm u;let⟨a,vs,rfl,l,o⟩:=r.lst sm;show pZ g s y H _ us Q I w ⟨a,vs,S,.inl ⟨.of l,λp j=>k _ _ _ _ h (.new sm j _) ((o.same (cR (sm.free j) _)).tup aZ)⟩⟩
 | [.fzl xs],h=>
  let⟨v,rfl,r⟩:=gm u;let⟨a,vs,rfl,l,o⟩:=r.fzl sm;show pZ g s y H _ us Q I w ⟨a,vs,S,.inl ⟨z▸l,λp j=>k _ _ _ _ h (.new sm j _) ((o.same (cR (sm.free j) _)).tup aZ)⟩⟩
 | [.tup xs],h=>
  let⟨v,rfl,r⟩:=gm u;let⟨a,vs,rfl,l,P,o⟩:=r.tup sm
  show pZ g s y H _ us Q I w ⟨a,vs,S,.inr ⟨z▸l,k _ U H _ h (.refl sm) (o.tup P)⟩⟩⟩
noncomputable def Ay(t:TD):bc:=λρ R=>t ρ λd=>∃ds,gk d=Z ds/\R ds
theorem GP(F:Gl X "list")(I:X.mg "list"=ű)(z:PQ K X e t)(o:starEach [e] X.env=(Ŵ,eval e X.env)::starEach [] X.env):PF K X (.Call (.Name "list" p) [e] [] A) (Ay t):=
 ⟨λj=>(sM yP F I boot_list (cC (z.pe j) pa_nil o) 'b' 'b' o ao).imp λσ H Q w=>by let⟨u,U,ρ,R,E,t,k⟩:=w;show⟨u,U,ρ,_,E,t,λd ar aw v r g T=>by
  let⟨ds,y,r⟩:=r;let⟨a,vs,rfl,P,am⟩:=T.seq g.s y
  show⟨a,vs,S,j▸P,λl h=>k _ _ _ l _ r (g.trans (.fresh g.s h _)) (g.h.free h) (g.s.free h) aZ am⟩⟩⟩
noncomputable def II:cP:=λds R=>match ds with| [.int i]=>R (.int i)| [.bl b]=>R (.int (if b then 1 else 0))|_=>False
theorem gp:CallD K X (.type "int") II:=⟨λy g s u H xs us Q I l w=>by
 let⟨o,ds,R,sm,j,h,k⟩:=w
 match ds,h with
 | [.int i],h=>
  let⟨v,rfl,r⟩:=gm j;cases r.int;show tN g s u H _ us Q I l (.inl ⟨i,S,k _ o H _ h (.refl sm) (.int _)⟩)
 | [.bl b],h=>
  let⟨v,rfl,r⟩:=gm j;cases r.bl
  show tN g s u H _ us Q I l (.inr ⟨b,S,k _ o H _ h (.refl sm) (.int _)⟩)⟩
noncomputable def lD(d:D)(T:String):Ų Bool:=match d with
 |.int _=>if T="int" then Z ų else if T="bool" then Z Ŵ else if T="tuple" then Z Ŵ else if T="str" then Z Ŵ else ű
 |.bl _=>if T="int" then Z ų else if T="bool" then Z ų else if T="tuple" then Z Ŵ else ű
 |.str _=>if T="str" then Z ų else if T="tuple" then Z Ŵ else ű
 |.tup _=>if T="tuple" then Z ų else if T="int" then Z Ŵ else ű
 |.lst _=>if T="tuple" then Z Ŵ else if T="list" then Z ų else ű
 |_=>ű
end
structure SteadyD(K:Â)(J:It)(Φ:Hp)(ds:List D):Prop where
 go:∀i H,Same Φ H->i<ds.length->J.go i H
 yl:∀i Φ2 H x H2 d,Same Φ Φ2->Same Φ2 H->ds[i]?=Z d->J.yld i H x H2->∃Φ3,Gr Φ2 H Φ3 H2/\Rp K Φ3 d x
 stop:∀H,Same Φ H->J.stop ds.length H
section
variable{K:Â}{c:Hp}{ds f:Y D}{vs ws:Y V}{a:Addr}
theorem IG(h:SqL K c a vs)(r:RpL K c ds vs):SteadyD K (qc K a) c ds:=
 ⟨λi H s l=>⟨vs,vs[i]'(by rw[r.1];show l),s.seq h,bq _⟩,λi g H x o d j s hd y=>by
  let⟨e,y⟩:=y;subst e
  show⟨g,.refl s,(r.2 i x d (y vs ((j.trans s).seq h)) hd).same j⟩,λH s=>⟨vs,s.seq h,by rw[r.1];show J0 _⟩⟩
theorem Em(h:SqT K c a vs)(r:RpL K c ds vs):SteadyD K (pT K a) c ds:=
 ⟨λi H s l=>⟨vs,vs[i]'(by rw[r.1];show l),s.sqt h,bq _⟩,λi g H x o d j s hd y=>by
  let⟨e,y⟩:=y;subst e
  show⟨g,.refl s,(r.2 i x d (y vs ((j.trans s).sqt h)) hd).same j⟩,λH s=>⟨vs,s.sqt h,by rw[r.1];show J0 _⟩⟩
noncomputable def jj(lo:Int)(n:Nat):Y D:=(List.range n).map λi=>D.int (lo+(i:Nat))
theorem jc(lo:Int)(n:Nat):(jj lo n).length=n:=by unfold jj;simp
theorem jx{lo:Int}{n i:Nat}{d:D}(h:(jj lo n)[i]?=Z d):i<n/\d=.int (lo+(i:Nat)):=by
 have e:i<n:=by have:=bj h;rwa [jc]at this
 unfold jj at h;rw[J4,Nt e]at h;cases h;show⟨e,S⟩
theorem ve{lo:Int}{n:Nat}:SteadyD K (oJ lo n) c (jj lo n):=
 ⟨λi H s h=>by rw[jc]at h;show h,λi g H x j d l s hd y=>by
  let⟨e,y⟩:=y;subst e y;rw[(jx hd).2]
  show⟨g,.refl s,.int _⟩,λH s=>by rw[jc];show J0 n⟩
noncomputable def hV(ds:Y D):Y D:=ds.zipIdx.map λp=>.tup [.int (p.2:Nat),p.1]
theorem kG(ds:Y D):(hV ds).length=ds.length:=by unfold hV;simp
theorem nq{i:Nat}{d:D}(h:(hV ds)[i]?=Z d):∃e,ds[i]?=Z e/\d=.tup [.int (i:Nat),e]:=by
 unfold hV at h;rw[J4,List.getElem?_zipIdx]at h
 cases e:ds[i]? with
 |none=>rw[e]at h;cases h
 |some x=>rw[e]at h;cases h;show⟨x,S,by simp⟩
theorem Rp.pair{H:Hp}{t:Addr}{d e:D}{x y:V}(h:H t=Z (.tup [x,y]))(g:Rp K H d x)(j:Rp K H e y):Rp K H (.tup [d,e]) (.ref t):=(RpL.cons g (.one j)).tup h
theorem Io{b:Bool}(h:SqB K b c a vs)(r:RpL K c ds vs):SteadyD K (nP K b a) c (hV ds):=
 ⟨λi H s g=>by rw[kG]at g;show⟨vs,vs[i]'(by rw[r.1];show g),SqB.same s h,bq _⟩,λi w H x z d l s hd y=>by
  let⟨t,v,j,e,o,y⟩:=y;subst e o;let⟨e,p,rfl⟩:=nq hd;have u:=(r.2 i v e (y vs (SqB.same (l.trans s) h)) p).same (l.trans (cR (s.free j) (.tup [.int i,v])))
  show⟨_,.new s j _,.pair aZ (.int _) u⟩,λH s=>by rw[kG];show⟨vs,SqB.same s h,by rw[r.1];show J0 _⟩⟩
noncomputable def fX(ds f:Y D):Y D:=List.zipWith (λx y=>.tup [x,y]) ds f
theorem tF(ds f:Y D):(fX ds f).length=min ds.length f.length:=by unfold fX;simp
theorem BY{i:Nat}{d:D}(h:(fX ds f)[i]?=Z d):∃x y,ds[i]?=Z x/\f[i]?=Z y/\d=.tup [x,y]:=by
 unfold fX at h;rw[List.getElem?_zipWith]at h
 cases e:ds[i]? with
 |none=>rw[e]at h;cases h
 |some x=>
  cases g:f[i]? with
  |none=>rw[e,g]at h;cases h
  |some y=>rw[e,g]at h;cases h;show⟨x,y,S,S,S⟩
theorem zJ{r w:Bool}{a1 a2:Addr}(g:SqB K r c a1 vs)(h:SqB K w c a2 ws)(j:RpL K c ds vs)(l:RpL K c f ws):SteadyD K (qK K r a1 w a2) c (fX ds f):=
 ⟨λi H s C=>by
  rw[tF]at C
  have G:i<vs.length:=by rw[j.1];omega
  have I:i<ws.length:=by rw[l.1];omega
  show⟨vs,ws,vs[i],ws[i],SqB.same s g,SqB.same s h,bq G,bq I⟩,λi N H x O d o s hd y=>by
  let⟨t,u,v,z,e,B,J,M⟩:=y;subst e B;let⟨p,q,E,F,rfl⟩:=BY hd;have A:=o.trans (cR (s.free z) (.tup [u,v]))
  show⟨_,.new s z _,.pair aZ ((j.2 i u p (J vs (SqB.same (o.trans s) g)) E).same A) ((l.2 i v q (M ws (SqB.same (o.trans s) h)) F).same A)⟩,λH s=>by
  rw[tF]
  show⟨vs,ws,SqB.same s g,SqB.same s h,by rw[j.1,l.1];omega⟩⟩
end
inductive lI(K:Â)(t:bc)(σ:St)(H:Hp)(R':It->Hp->Prop):Prop|mk (H0:Hp) (Φ:Hp) (ρ:bE) (R:List D->Prop) (_:EnvD K H0 Φ H σ ρ) (_:t ρ R) (_:∀ds Φ' H' J,R ds->Gr Φ H Φ' H'->SteadyD K J Φ' ds->R' J H')
structure PID(K:Â)(X:Cx)(tg e:Ã)(t:bc):Prop where pi:X.K=K->PI X tg e (lI K t)
theorem PI.imp{X:Cx}{f e:Ã}{t t':TI}(h:PI X f e t)(k:∀c H R,t' c H R->t c H R):PI X f e t':=λa s c H R I g=>h a s c H R I (k c H R g)
section
variable{K:Â}{X:Cx}{o e a:Ã}{c:Y Ã}{f p:Õ}{t:TD}{l:bc}
theorem yg{c:Y Ã}{k:Nat}{t:eV}{n:Nat}(j:X.K=K)(r:X.calm=ų)(h:PGs X c t)(u:(Ê c X.env).length=n)(g:(Ê c X.env).findIdx? (·.1)=ű):PG X (.Tuple c k f) (rC K n t):=j▸EA r h u g
theorem v3{c:Y Ã}{k:Nat}{t:eV}{n:Nat}(j:X.K=K)(r:X.calm=ų)(h:PGs X c t)(u:(Ê c X.env).length=n)(g:(Ê c X.env).findIdx? (·.1)=ű):PG X (.Tuple c k f) (qh K n t):=j▸yS r h u g
noncomputable def zL(t:bc):bc:=λρ R=>t ρ λds=>match ds with| [.int j]=>(-(2^62)<=j/\j<2^62)/\R (jj 0 j.toNat)|_=>False
theorem RpL.one_inv{j:Hp}{d:D}{vs:Y V}(h:RpL K j [d] vs):∃v,vs=[v]/\Rp K j d v:=by
 let⟨r,g⟩:=h
 match vs,r,g with
 | [v],_,g=>show⟨v,S,g 0 v d S S⟩
theorem RpL.two_inv{j:Hp}{d e:D}{vs:Y V}(h:RpL K j [d,e] vs):∃v w,vs=[v,w]/\Rp K j d v/\Rp K j e w:=by
 let⟨r,g⟩:=h
 match vs,r,g with
 | [v,w],_,g=>show⟨v,w,S,g 0 v d S S,g 1 w e S S⟩
theorem oW(A:Gl X "range")(B:X.mg "range"=ű)(z:PAD K X [a] l)(C:starEach [a] X.env=[(Ŵ,eval a X.env)]:=by rfl):PID K X o (.Call (.Name "range" p) [a] [] f) (zL l):=
 ⟨λy=>(xg A B (z.pa y) C).imp λM H J x=>by let⟨u,I,ρ,R,E,t,k⟩:=x;show⟨u,I,ρ,_,E,t,λds h w vs r g G _=>by
  match ds,r with
  | [.int j],r=>
   let⟨v,rfl,F⟩:=G.one_inv;obtain rfl:=F.i
   show⟨j,S,r.1.1,r.1.2,k _ h w _ r.2 g ve⟩⟩⟩
end
noncomputable abbrev dH:=D->bE->(bE->Prop)->Prop
noncomputable abbrev fw:=Y D->bE->(bE->Prop)->Prop
inductive lG(K:Â)(g:dH)(v:V)(σ:St)(H:Hp)(Q:St->Hp->Prop):Prop|mk (H0:Hp) (Φ:Hp) (ρ:bE) (d:D) (R:bE->Prop) (_:EnvD K H0 Φ H σ ρ) (_:Rp K Φ d v) (_:g d ρ R) (_:∀ρ' σ',R ρ'->EnvD K H0 Φ H σ' ρ'->Q σ' H)
inductive lGs(K:Â)(g:fw)(vs:List V)(σ:St)(H:Hp)(Q:St->Hp->Prop):Prop|mk (H0:Hp) (Φ:Hp) (ρ:bE) (ds:List D) (R:bE->Prop) (_:EnvD K H0 Φ H σ ρ) (_:RpL K Φ ds vs) (_:g ds ρ R) (_:∀ρ' σ',R ρ'->EnvD K H0 Φ H σ' ρ'->Q σ' H)
structure PGD(K:Â)(X:Cx)(e:Ã)(g:dH):Prop where pg:X.K=K->PG X e (lG K g)
structure PGDs(K:Â)(X:Cx)(es:List Ã)(g:fw):Prop where pg:X.K=K->PGs X es (lGs K g)
theorem PG.imp{X:Cx}{e:Ã}{t t':TG}(h:PG X e t)(k:∀v c H Q,t' v c H Q->t v c H Q):PG X e t':=λa s c H v u Q I r f=>h a s c H v u Q I r (k v c H Q f)
theorem PGs.imp{X:Cx}{e:Y Ã}{t t':eV}(h:PGs X e t)(k:∀v c H Q,t' v c H Q->t v c H Q):PGs X e t':=λa s c H v u Q I r f=>h a s c H v u Q I r (k v c H Q f)
section
variable{K:Â}{X:Cx}{e:Ã}{a:Y Ã}{c:Õ}{g:dH}{h:fw}
noncomputable def qQ(i:Nat):dH:=λd ρ R=>R (ρ.set i (Z (.v d)))
theorem gC{i:Nat}{x:Str}(j:X.N.Nodup)(o:X.N[i]?=Z x)(p:gW X.env.scope x)(l:X.fn x=ų\/X.env.scope.names.lookup x=Z .local:=by nofun):PGD K X (.Name x c) (qQ i):=
 ⟨λ_=>(vD j o p l).imp λv w H Q f=>by let⟨t,u,ρ,d,R,E,r,g,k⟩:=f;show k _ _ g (E.set r i)⟩
noncomputable def rj:fw:=λds ρ R=>match ds with| []=>R ρ|_=>False
noncomputable def oF(t:dH)(u:fw):fw:=λds ρ R=>match ds with|d::r=>t d ρ λf=>u r f R| []=>False
theorem Dy:PGDs K X [] rj:=⟨λ_=>pgs_nil.imp λv o H Q f=>by
 let⟨j,l,ρ,ds,R,E,r,g,k⟩:=f
 cases ds with
 |nil=>show⟨Ln.mp r.1,k _ _ g E⟩
 |cons=>show g.elim⟩
theorem yk(x:PGD K X e g)(y:PGDs K X a h)(A:(Ê (e::a) X.env).map (·.2)=assign e X.env::(Ê a X.env).map (·.2):=by rfl):PGDs K X (e::a) (oF g h):=
 ⟨λo=>(uX (x.pg o) (y.pg o) A).imp λvs F H Q w=>by
  let⟨l,p,ρ,ds,R,E,r,g,k⟩:=w
  cases ds with
  |nil=>show g.elim
  |cons d ds=>
   cases vs with
   |nil=>show absurd r.1 (by simp)
   |cons v vs=>
    refine⟨v,vs,S,l,p,ρ,d,_,E,r.2 0 v d S S,g,λj C g' t=>⟨l,p,j,ds,R,t,⟨by have:=r.1;simpa using this,λi u f B z=>r.2 (i+1) u f B z⟩,g',k⟩⟩⟩
end
noncomputable def fC(cap:Y (Ų Nat))(ρ:bE):bE:=cap.map λo=>o.bind λi=>(ρ[i]?).join
theorem rp{a:Type}{o:Ų (Ų a)}{x:a}(h:o.join=Z x):o=Z (Z x):=by
 cases o with
 |none=>cases h
 |some o=>cases o with
  |none=>cases h
  |some y=>cases h;rfl
theorem jN{a:Type}{cap:Y (Ų Nat)}{l:Y (Ų a)}{i:Nat}{x:a}(h:(cap.map λo=>o.bind λi=>(l[i]?).join)[i]?=Z (Z x)):∃j,cap[i]?=Z (Z j)/\l[j]?=Z (Z x):=by
 rw[J4]at h
 cases e:cap[i]? with
 |none=>rw[e]at h;cases h
 |some o=>
  rw[e]at h
  cases o with
  |none=>cases h
  |some j=>show⟨j,S,rp (by simpa using h)⟩
theorem EnvD.cap{K:Â}{o y H:Hp}{f:St}{ρ:bE}{cap:Y (Ų Nat)}(E:EnvD K o y H f ρ)(inj:∀i j k:Nat,cap[i]?=Z (Z k)->cap[j]?=Z (Z k)->i=j):EnvD K o y H (dM cap f) (fC cap ρ):=by
 have st:∀{i j:Nat}{v:V},cap[i]?=Z (Z j)->f[j]?=Z (Z v)->(dM cap f)[i]?=Z (Z v):=λg l=>by unfold dM;rw[J4,g];simp[l]
 have x:∀{i j:Nat}{v:V},cap[i]?=Z (Z j)->(dM cap f)[i]?=Z (Z v)->f[j]?=Z (Z v):=λg l=>by let⟨w,a,c⟩:=jN l;rw[g]at a;cases a;show c
 refine⟨E.fz,by unfold dM fC;simp,λi d h=>?_,λi ds h=>?_,λi j ds z p B C F G=>?_,E.tb⟩
 ·let⟨j,a,c⟩:=jN h;let⟨v,e,r⟩:=E.sl j d c;show⟨v,st a e,r⟩
 ·let⟨j,a,c⟩:=jN h;let⟨p,vs,e,q⟩:=E.ow j ds c;show⟨p,vs,st a e,q⟩
 ·let⟨u,a,c⟩:=jN B;let⟨w,t,A⟩:=jN C;have:=E.ne u w ds z p c A (x a F) (x t G);subst this;show inj i j u a t
structure GK(k:Nat)(g:dH):Prop where p:∀d ρ R,g d ρ R->g d ρ λρ1=>ρ1.length=ρ.length/\ρ1.drop k=ρ.drop k/\R ρ1
structure GKs(k:Nat)(g:fw):Prop where p:∀ds ρ R,g ds ρ R->g ds ρ λρ1=>ρ1.length=ρ.length/\ρ1.drop k=ρ.drop k/\R ρ1
theorem zT{k i:Nat}(h:i<k):GK k (qQ i):=⟨λd ρ R r=>⟨by simp,by rw[List.drop_set_of_lt h],r⟩⟩
theorem HC{k:Nat}:GKs k rj:=⟨λds ρ R r=>by
 cases ds with
 |nil=>show⟨S,S,r⟩
 |cons=>show r⟩
theorem zh{t:dH}{u:fw}(c:∀d ρ R a,(∀x,R x->a x)->t d ρ R->t d ρ a)(e:∀d ρ R a,(∀x,R x->a x)->u d ρ R->u d ρ a):∀d ρ R a,(∀x,R x->a x)->oF t u d ρ R->oF t u d ρ a:=by
 intro ds ρ R a h r
 cases ds with
 |nil=>show r
 |cons d ds=>show c d ρ _ _ (λx f=>e ds x _ _ h f) r
structure GM(k:Nat)(g:dH):Prop where
 k:GK k g
 m:∀d ρ R R',(∀x,R x->R' x)->g d ρ R->g d ρ R'
structure GMs(k:Nat)(g:fw):Prop where
 k:GKs k g
 m:∀d ρ R R',(∀x,R x->R' x)->g d ρ R->g d ρ R'
theorem gI{k i:Nat}(h:i<k):GM k (qQ i):=⟨zT h,λd ρ R a h r=>h _ r⟩
theorem zb{k:Nat}:GMs k rj:=⟨HC,λds ρ R a h r=>by
 cases ds with
 |nil=>show h _ r
 |cons=>show r⟩
theorem um{k:Nat}{t:dH}{u:fw}(a:GM k t)(c:GMs k u):GMs k (oF t u):=⟨⟨λds ρ R r=>by
 cases ds with
 |nil=>show r
 |cons d ds=>
  have h:t d ρ λf=>u ds f R:=r;refine a.m _ _ _ _ (λg q=>?_) (a.k.p d ρ _ h)
  show c.m _ _ _ _ (λj e=>⟨e.1.trans q.1,e.2.1.trans q.2.1,e.2.2⟩) (c.k.p ds g R q.2.2)⟩,zh a.m c.m⟩
noncomputable def pE:cg:=λ_ R=>R ų
structure PIfD(K:Â)(X:Cx)(ifs:List Ã)(t:cg):Prop where p:X.K=K->jL X ifs (lT K t)
theorem Hv{K:Â}{X:Cx}:PIfD K X [] pE:=⟨λ_ a s f H Q I c=>by let⟨g,e,ρ,R,E,t,k⟩:=c;show uZ a s f H Q I (k ų e H t (.refl E.fz))⟩
theorem EnvD.side{K:Â}{a f H:Hp}{g:St}{ρ:bE}{p:Addr}{o u:HO}(E:EnvD K a f H g ρ)(j:a p=Z u)(l:f p=ű):EnvD K a f (au H p o) g ρ:=
 ⟨λb w e=>by rw[aH (cA e l)];show E.fz b w e,E.len,E.sl,λi ds h=>by
  let⟨q,vs,e,c,r,t,v⟩:=E.ow i ds h
  show⟨q,vs,e,c,r,by rw[aH λz=>by rw[z,j]at c;cases c];show t,v⟩,E.ne,E.tb⟩
theorem EnvD.base{K:Â}{a f H:Hp}{g:St}{ρ:bE}{p:Addr}{u:HO}(E:EnvD K a f H g ρ)(j:H p=ű):EnvD K (au a p u) f H g ρ:=
 ⟨E.fz,E.len,E.sl,λi ds h=>by
  let⟨q,vs,e,l,o,c,r⟩:=E.ow i ds h
  show⟨q,vs,e,by rw[aH (cA c j)];show l,o,c,r⟩,E.ne,E.tb⟩
theorem zC(ys:Y (Ų D))(y:D):(ys++[Z y]).filterMap id=ys.filterMap id++[y]:=by simp
theorem HG(ys:Y (Ų D)):(ys++[ű]).filterMap id=ys.filterMap id:=by simp
theorem HA(ys:Y (Ų D)):(ys.filterMap id).length<=ys.length:=List.length_filterMap_le _ _
theorem sW{f:Type}{ys:Y f}{y:f}{P:Nat->f->Prop}{n:Nat}(l:ys.length=n)(h:∀i z,ys[i]?=Z z->P i z)(j:P n y):∀i z,(ys++[y])[i]?=Z z->P i z:=by
 intro i z a;rcases KL i ys.length with c|c
 ·rw[sg c]at a;show h i z a
 ·rw[JU c]at a
  have g:i-ys.length=0:=by
   rcases MQ (i-ys.length)with e|e
   ·show e
   ·rw[K6 (by simp only[J1,K5];omega)]at a;cases a
  rw[g]at a;cases a
  have:i=n:=by omega
  subst this;show j
noncomputable def ja(k:Nat)(cap:Y (Ų Nat)):Bool:=(cap.take k).all (·.isNone)&&decide ((cap.filterMap id).Nodup)
theorem Bu{k:Nat}{cap:Y (Ų Nat)}(h:ja k cap=ų){i:Nat}(a:i<k){o:Ų Nat}(e:cap[i]?=Z o):o=ű:=by
 unfold ja at h;rw[Kc]at h;have:=Kf.mp h.1 o (Kp (i:=i) (by rw[Mj a];show e))
 cases o with
 |none=>rfl
 |some _=>cases this
theorem Ji{k:Nat}{cap:Y (Ų Nat)}(h:ja k cap=ų):∀i j n:Nat,cap[i]?=Z (Z n)->cap[j]?=Z (Z n)->i=j:=by
 unfold ja at h;rw[Kc]at h;have nd:=J8 h.2;clear h
 induction cap with
 |nil=>intro i j n a;simp at a
 |cons o cap p=>
  intro i j n a c
  have f:(cap.filterMap id).Nodup:=by
   cases o with
   |none=>simpa using nd
   |some m=>have e : (Z m :: cap).filterMap id = m :: cap.filterMap id:= rfl
            rw [e]at nd; show (Ko.mp nd).2
  have one:∀{i:Nat},o=Z n->cap[i]?=Z (Z n)->False:=λ{i} l g=>by
   subst l;have e:(Z n::cap).filterMap id=n::cap.filterMap id:=rfl;rw[e]at nd;show (Ko.mp nd).1 (Lk.mpr ⟨Z n,Kp g,S⟩)
  cases i with
  |zero=>cases j with
   |zero=>rfl
   |succ j=>show (one (by simpa using a) (by simpa using c)).elim
  |succ i=>cases j with
   |zero=>show (one (by simpa using c) (by simpa using a)).elim
   |succ j=>show KG Nat.succ (p f i j n (by simpa using a) (by simpa using c))
section
variable{K:Â}{X:Cx}{w a r:Ã}{scope:æ}{A:Õ}{N':Y Str}{cap:Y (Ų Nat)}{l:bc}{g:dH}{B:cg}{f:TD}
theorem Bk{k:Nat}(Qh:ja k cap=ų)(hk:GM k g){σ:St}{H:Hp}{Q:VK}{ar Φ:Hp}{ρ:bE}{R W:Y D->Prop}(E:EnvD K ar Φ H σ ρ)(t:l ρ W)
  (conv:∀ds,W ds->ds.length<sizeLine/\∃P:Nat->Ų D->Prop,(∀i d,ds[i]?=Z d->g d (fC cap ρ) λz=>B z λb=>(b=ų->f z λy=>P i (Z y))/\(b=Ŵ->P i ű))/\∀ys:Y (Ų D),ys.length=ds.length->(∀i y,ys[i]?=Z y->P i y)->R (ys.filterMap id))
  (kk:∀ds h F p vs,R ds->Gr Φ H h F->H p=ű->h p=ű->F p=Z (.lst vs)->RpL K h ds vs->Q (.ref p) F):lW (lI K l) cap (lG K g) (lT K B) (lE K f) σ H Q:=by
 refine⟨ar,Φ,ρ,W,E,t,λds G H1 J hW g1 am C hD=>?_⟩
 let⟨hlen,P,hp,hr⟩:=conv ds hW
 have E1:=E.gr g1;have U0:G C=ű:=g1.s.free hD;have C0:EnvD K (au ar C (.lst [])) G (au H1 C (.lst [])) (dM cap σ) (fC cap ρ):=((E1.base (u:=.lst []) hD).side (o:=.lst []) aZ U0).cap (Ji Qh);refine⟨λi m σ' F=>m=ds.length-i/\i<=ds.length/\∃(h:Hp)(vs:Y V)(ys:Y (Ų D)),EnvD K (au ar C (.lst [])) h F σ' (fC cap ρ)/\Gr G H1 h F/\h C=ű/\F C=Z (.lst vs)/\RpL K h (ys.filterMap id) vs/\ys.length=i/\∀j y,ys[j]?=Z y->P j y,⟨ds.length,by simp,K1 _,G,[],[],C0,.fresh g1.s hD _,U0,aZ,.nil,S,λj y hj=>by simp at hj⟩,?_⟩;rintro i m σ' F ⟨rfl,hi,h,vs,ys,Ei,I,Vn,T8,TJ,aw,hy⟩;by_cases Pf:i<ds.length
 ·refine .inr ⟨am.go i F (I.f.trans I.s) Pf,λσ2 U=>∃(h:Hp)(vs:Y V)(ys:Y (Ų D)),EnvD K (au ar C (.lst [])) h U σ2 (fC cap ρ)/\Gr G H1 h U/\h C=ű/\U C=Z (.lst vs)/\RpL K h (ys.filterMap id) vs/\ys.length=i+1/\∀j y,ys[j]?=Z y->P j y,λσ2 U h2=>⟨ds.length-(i+1),(),S,Pf,h2⟩,λx U y=>?_⟩;let⟨O,M,rx⟩:=am.yl i h F x U _ I.f I.s (bq Pf) y;have E3:=Ei.gr M;refine⟨_,O,fC cap ρ,_,_,E3,rx,hk.k.p _ _ _ (hp i _ (bq Pf)),λz σ3 OT E4=>?_⟩;let⟨Rr,hd1,t1⟩:=OT
  have wk:∀(j:Nat) x,(fC cap ρ)[j]?=Z (Z x)->z[j]?=Z (Z x):=λj x hj=>by
   rcases KL j k with c|c
   ·let⟨n,h1,_⟩:=jN hj;cases Bu Qh c h1
   ·have e1:(fC cap ρ)[j]?=((fC cap ρ).drop k)[j-k]?:=by rw[MS];congr 1;omega
    have e2:z[j]?=(z.drop k)[j-k]?:=by rw[MS];congr 1;omega
    rw[e2,hd1,←e1];show hj
  have Xl:O C=ű:=M.o _ _ T8 Vn;refine⟨_,O,z,_,E4,t1,λb T H4 rb N=>?_⟩;have E5:=(E4.gr N);have Uy:=N.h _ _ (M.h _ _ T8);have hD4:T C=ű:=N.o _ _ (M.h _ _ T8) Xl
  cases b with
  |false=>
   refine rG ?_;refine⟨T,vs,ys++[ű],E5.weak Rr.symm wk,(I.trans M).trans N,hD4,Uy,?_,by rw[wy,aw];rfl,sW aw hy (rb.2 S)⟩;rw[HG];show (TJ.same M.f).same N.f
  |true=>
   refine ra ?_;refine⟨_,T,z,_,E5,rb.1 S,λd Φ5 H5 v rd g5 rv=>?_⟩;have E6:=E5.gr g5;have Xm:=g5.h _ _ Uy;have Xn:Φ5 C=ű:=g5.o _ _ Uy hD4;have gg:=((I.trans M).trans N).trans g5;refine⟨vs,Xm,?_,Φ5,vs++[v],ys++[Z d],(E6.weak Rr.symm wk).side aZ Xn,?_,Xn,aZ,?_,by rw[wy,aw];rfl,sW aw hy rd⟩
   ·have:=HA ys;rw[TJ.1];omega
   ·show⟨gg.f,Ic gg.h hD _,λb u e=>by rw[aH (cA e Xn)];show gg.s b u e,λp u hp hn k=>gg.o p u hp hn k⟩
   ·rw[zC];show (((TJ.same M.f).same N.f).same g5.f).append (.one rv)
 ·have e:i=ds.length:=by omega
  subst e;show .inl ⟨am.stop F (I.f.trans I.s),kk _ h F C vs (hr ys aw hy) (g1.trans I) (g1.h.free hD) Vn T8 TJ⟩
noncomputable def sP(l:bc)(cap:Y (Ų Nat))(g:dH)(f:TD):bc:=λρ R=>l ρ λds=>ds.length<sizeLine/\∃P:Nat->D->Prop,
 (∀i d,ds[i]?=Z d->g d (fC cap ρ) λc=>f c (P i))/\∀ys:Y D,ys.length=ds.length->(∀i y,ys[i]?=Z y->P i y)->R ys
noncomputable def DA(P:Nat->D->Prop):Nat->Ų D->Prop:=λi o=>match o with|some y=>P i y|none=>False
theorem vY{P:Nat->D->Prop}:∀(ys:Y (Ų D)),(∀(i:Nat) y,ys[i]?=Z y->∃z,y=Z z)->∃c:Y D,ys=c.map Z
 | [],_=>⟨[],S⟩
 |y::ys,h=>by let⟨z,rfl⟩:=h 0 y S;let⟨c,rfl⟩:=vY (P:=P) ys λi y e=>h (i+1) y e;show⟨z::c,S⟩
theorem G9{ds:Y D}{ρ:bE}{R:Y D->Prop}(h:ds.length<sizeLine/\∃P:Nat->D->Prop,(∀i d,ds[i]?=Z d->g d (fC cap ρ) λc=>f c (P i))/\∀ys:Y D,ys.length=ds.length->(∀i y,ys[i]?=Z y->P i y)->R ys){k:Nat}(v:GM k g) :
  ds.length<sizeLine/\∃P:Nat->Ų D->Prop,(∀i d,ds[i]?=Z d->g d (fC cap ρ) λc=>pE c λb=>(b=ų->f c λy=>P i (Z y))/\(b=Ŵ->P i ű))/\∀ys:Y (Ų D),ys.length=ds.length->(∀i y,ys[i]?=Z y->P i y)->R (ys.filterMap id):=by
 let⟨p,P,t,u⟩:=h;refine⟨p,DA P,λi d hd=>v.m _ _ _ _ (λc q=>⟨λ_=>q,λe=>by cases e⟩) (t i d hd),λys x o=>?_⟩
 let⟨j,rfl⟩:=vY (P:=P) ys λi y e=>by
  have:=o i y e
  cases y with
  |none=>show this.elim
  |some z=>show⟨z,S⟩
 rw[Mt]
 have e:j.filterMap (id ∘ Z)=j:=by simp
 rw[e];refine u j (by simpa using x) λi y e=>?_;show o i (Z y) (by rw[J4,e];rfl)
theorem Bl{k:Nat}(j:ja k cap=ų)(c:GM k g){e:St}{H:Hp}{Q:VK}(h:lF K (sP l cap g f) e H Q):lW (lI K l) cap (lG K g) (lT K pE) (lE K f) e H Q:=by let⟨p,u,ρ,R,E,t,o⟩:=h;show Bk j c E t (λds h=>G9 h c) o
theorem ic{k:Nat}(o:X.calm=ų)(Q:CompScope X.N X.env.scope scope N' cap)(p:ja k cap=ų)(y:GM k g)(v:PID K X w a l)
  (u:∀(cl:Y (Str×Addr))(e:Y Addr)(C:Addr)(h:À)(c:Hp),PGD K (cV X scope N' cl C h c e) w g)
  (t:∀(cl:Y (Str×Addr))(e:Y Addr)(C:Addr)(h:À)(c:Hp),PD K (cV X scope N' cl C h c e) r f) (z:∀x,Ý a X.env x=pure x:=by intro _;rfl):PF K X (.ListComp r [⟨w,a,[],0⟩] scope A) (sP l cap g f):=
 ⟨λj=>(Hj o Q (v.pi j) (λcl e C h c=>(u cl e C h c).pg j) (λcl e C h c=>(Hv (K:=K)).p j) (λcl e C h c=>(t cl e C h c).pe j) z).imp λ_ _ _=>Bl p y⟩
end
noncomputable def tX(K:Â)(b:Bool)(a:Addr):It:=match b with|true=>qc K a|false=>pT K a
section
variable{K:Â}{X:Cx}{A e a b:Ã}{j:Y Ã}{f p F:Õ}{t B:TD}{z:bc}
theorem Cs{l:Ã}{z:TE}(M:X.K=K)(O:PE X l z):PI X A l (λw H R=>z w H λx r=>∃q a,x=.ref a/\(∃xs,SqB K q r a xs)/\R (tX K q a) r):=by
 subst M;intro g s w H R I h;refine aI (O g s w H _ I h) λv c G=>?_;let⟨x,r,u,U,Q⟩:=G;let⟨J,a,e,⟨xs,E⟩,q⟩:=Q;subst e;cases U
 have C:∀b∈[c.heap.objs.size],dN X g r b:=λb N=>by
  have e:b=c.heap.objs.size:=by simpa using N
  subst e;show u.fpOk (J0 _) (u.hok.fresh (J0 _))
 cases J with
 |true=>
  let⟨y,T,p,P⟩:=u.list E;refine NR p.isList ?_;show⟨c.heap.objs.size,[c.heap.objs.size],_,_,r,S,u.kept (t':=c.toks) λb o e=>JW _ e,GA a _,⟨_,Kb _ S,S,S⟩,C,q⟩
 |false=>
  let⟨y,T,p,P⟩:=u.tuple E;refine Mu (show c.heap.IsTuple a y.toArray from p) ?_;show⟨c.heap.objs.size,[c.heap.objs.size],_,_,r,S,u.kept (t':=c.toks) λb o e=>JW _ e,IJ a _,⟨_,Kb _ S,S,S⟩,C,q⟩
theorem Hf{c:Hp}{ds:Y D}{vs:Y V}{a:Addr}{q:Bool}(h:SqB K q c a vs)(r:RpL K c ds vs):SteadyD K (tX K q a) c ds:=by
 cases q with
 |true=>show IG h r
 |false=>show Em h r
noncomputable def ED(t:TD):bc:=λρ R=>t ρ λd=>match d with|.lst ds=>R ds|.tup ds=>R ds|.fzl ds=>R ds|_=>False
theorem BM{d:D}{R:Y D->Prop}(h:match d with|.lst ds=>R ds|.tup ds=>R ds|.fzl ds=>R ds|_=>False):∃ds,gk d=Z ds/\R ds:=by
 cases d with
 |lst ds=>show⟨ds,S,h⟩
 |tup ds=>show⟨ds,S,h⟩
 |fzl ds=>show⟨ds,S,h⟩
 |_=>show h.elim
theorem gK(h:PD K X e t):PID K X A e (ED t):=⟨λo=>(Cs o (h.pe o)).imp λM H J x=>by let⟨u,I,ρ,R,E,t,k⟩:=x;show⟨u,I,ρ,_,E,t,λd c w v r g G=>by
 let⟨ds,y,r⟩:=BM r;let⟨q,a,vs,rfl,l,C⟩:=G.seq y
 show⟨q,a,S,⟨vs,SqB.same g.s l⟩,k _ c w _ r g (Hf l C)⟩⟩⟩
theorem DE{a:Ã}{B:TA}{j:Y Ã}{k:Nat}(J:X.K=K)(N:Gl X "enumerate")(Q:X.mg "enumerate"=ű)(M:PA X [a] B)(T:starEach [a] X.env=[(Ŵ,eval a X.env)]) :
  PI X (.Tuple j k F) (.Call (.Name "enumerate" p) [a] [] f) (λx H R=>B x H λvs o=>∃b a xs,vs=[.ref a]/\SqB K b o a xs/\R (nP K b a) o):=by
 subst J;intro g s x H R I h;refine Call_ (jo I N Q boot_enumerate (LF (aI (M f g s x H _ I h) λus v G=>?_) T S));let⟨vs,o,w,ar,U⟩:=G;let⟨b,l,xs,e,am,q⟩:=U;subst e
 cases ar with
 |cons r aw=>
  cases aw;cases r;let⟨OU,rv,p,hz⟩:=w.sqb am;refine Fy p λh' C O hsz P=>Ś C ?_;have E:Inv X g x o { v with heap:=h' }:=w.kept (t':=v.toks) P;have y:∀c,v.heap.objs.size<=c->dN X g o c:=λc u=>w.fpOk u (w.hok.fresh u)
  show⟨v.heap.objs.size+1,[v.heap.objs.size+1,v.heap.objs.size],_,_,o,S,E,Ey b l _ _ (Nat.succ_ne_self _),⟨⟨_,C⟩,O⟩,λc u=>by
   rcases J9.mp u with rfl|u
   ·show y _ (Oz _)
   ·rw[J3.mp u];show y _ (J0 _),q⟩
theorem Gq{a b:Ã}{B:TA}{j:Y Ã}{k:Nat}(P:X.K=K)(am:Gl X "zip")(U:X.mg "zip"=ű)(Q:PA X [a,b] B)(ar:starEach [a,b] X.env=[(Ŵ,eval a X.env),(Ŵ,eval b X.env)])(E:starEach [b] X.env=[(Ŵ,eval b X.env)]) :
  PI X (.Tuple j k F) (.Call (.Name "zip" p) [a,b] [] f) (λy H R=>B y H λvs l=>∃v w a1 a2 xs ys,vs=[.ref a1,.ref a2]/\SqB K v l a1 xs/\SqB K w l a2 ys/\R (qK K v a1 w a2) l):=by
 subst P;intro g s y H R I h;refine Call_ (jo I am U boot_zip (LF (aI (Q f g s y H _ I h) λus x ⟨vs,l,o,r1,q1⟩=>?_) (by rw[ar,E]) (by rw[E];rfl)));let⟨v,w,aw,l2,xs,ys,e,M,N,q⟩:=q1;subst e
 cases r1 with
 |cons r C=>
  cases C with
  |cons r' C=>
   cases C;cases r;cases r';let⟨Ut,Wm,p1,_⟩:=o.sqb M;let⟨RQ,Wn,p2,_⟩:=o.sqb N;refine Et p1 p2 λh' G z2 z3 z4 z5 T=>š G ?_;have J:Inv X g y l { x with heap:=h' }:=o.kept (t':=x.toks) T;have O:∀c,x.heap.objs.size<=c->dN X g l c:=λc u=>o.fpOk u (o.hok.fresh u);generalize x.heap.objs.size=n at *;refine⟨n+4,[n+4,n+2,n+3,n,n+1],_,_,l,S,J,Fm v w aw l2 (n+4) (n+2) (n+3) n (n+1) (yV n),⟨G,z2,⟨_,_,z3⟩,z4,z5⟩,λc u=>O c ?_,q⟩;simp only[J9,KJ,Ml]at u;rcases u with rfl|rfl|rfl|rfl|rfl
   ·show MD _ _
   ·show MD _ _
   ·show MD _ _
   ·show J0 _
   ·show MD _ _
noncomputable def yE(t:bc):bc:=λρ R=>t ρ λds=>match ds with| [.lst xs]=>R (hV xs)| [.tup xs]=>R (hV xs)| [.fzl xs]=>R (hV xs)|_=>False
theorem qw{G:Y Ã}{I:Nat}(N:Gl X "enumerate")(O:X.mg "enumerate"=ű)(M:PAD K X [a] z)(P:starEach [a] X.env=[(Ŵ,eval a X.env)]:=by rfl):PID K X (.Tuple G I F) (.Call (.Name "enumerate" p) [a] [] f) (yE z):=
 ⟨λw=>(DE w N O (M.pa w) P).imp λU H C y=>by let⟨x,T,ρ,R,E,t,k⟩:=y;show⟨x,T,ρ,_,E,t,λds l o vs r g h _=>by
  have c:∀{d:D}{xs:Y D},RpL K l [d] vs->gk d=Z xs->R (hV xs)->∃b a xs,vs=[.ref a]/\SqB K b o a xs/\C (nP K b a) o:=λ{d xs} h Q r=>by let⟨v,rfl,am⟩:=h.one_inv;let⟨q,a,ws,rfl,u,J⟩:=am.seq Q;show⟨q,a,ws,S,SqB.same g.s u,k _ l o _ r g (Io u J)⟩
  match ds,r with
  | [.lst xs],r=>show c h S r
  | [.tup xs],r=>show c h S r
  | [.fzl xs],r=>show c h S r⟩⟩
noncomputable def Gh(t:bc):bc:=λρ R=>t ρ λds=>match ds with| [d,e]=>∃xs ys,gk d=Z xs/\gk e=Z ys/\R (fX xs ys)|_=>False
theorem A2{G:Y Ã}{I:Nat}(O:Gl X "zip")(P:X.mg "zip"=ű)(N:PAD K X [a,b] z)(Q:starEach [a,b] X.env=[(Ŵ,eval a X.env),(Ŵ,eval b X.env)]:=by rfl)(C:starEach [b] X.env=[(Ŵ,eval b X.env)]:=by rfl):PID K X (.Tuple G I F) (.Call (.Name "zip" p) [a,b] [] f) (Gh z):=
 ⟨λo=>(Gq o O P (N.pa o) Q C).imp λσ H R' y=>by let⟨u,Φ,ρ,R,E,t,k⟩:=y;show⟨u,Φ,ρ,_,E,t,λds c x vs r g rv _=>by
  match ds,r with
  | [d,e],⟨xs,ys,am,T,r⟩=>
   let⟨v,w,rfl,aw,r2⟩:=rv.two_inv;let⟨U,a1,ws,rfl,h,J⟩:=aw.seq am;let⟨ar,a2,us,rfl,l,M⟩:=r2.seq T
   show⟨U,ar,a1,a2,ws,us,S,SqB.same g.s h,SqB.same g.s l,k _ c x _ r g (zJ h l J M)⟩⟩⟩
variable{G:fw}
noncomputable def xU(n:Nat)(t:fw):dH:=λd ρ R=>match d with|.tup ds=>ds.length=n/\t ds ρ R|.lst ds=>ds.length=n/\t ds ρ R|_=>False
theorem PG.or{A:Ã}{t t':TG}(h:PG X A t)(h':PG X A t'):PG X A (λv l H Q=>t v l H Q\/t' v l H Q):=by
 intro c s l H v u Q I r g;rcases g with g|g
 ·show h c s l H v u Q I r g
 ·show h' c s l H v u Q I r g
theorem zk{k n:Nat}(u:X.calm=ų)(h:PGDs K X j G)(w:(Ê j X.env).length=n:=by rfl)(o:(Ê j X.env).findIdx? (·.1)=ű:=by rfl):PGD K X (.Tuple j k f) (xU n G):=
 ⟨λc=>((yg c u (h.pg c) w o).or (v3 c u (h.pg c) w o)).imp λv C H Q y=>by
  let⟨l,x,ρ,d,R,E,r,g,k⟩:=y
  cases d with
  |tup ds=>cases r with|tup h1 h2 h3=>show .inl ⟨_,_,S,.of (E.fz _ _ h1),by rw[h2];show g.1,l,x,ρ,ds,R,E,⟨h2,h3⟩,g.2,k⟩
  |lst ds=>cases r with|lst h1 h2 h3=>show .inr ⟨_,_,S,.of (E.fz _ _ h1),by rw[h2];show g.1,l,x,ρ,ds,R,E,⟨h2,h3⟩,g.2,k⟩
  |_=>show g.elim⟩
theorem Cr{k n:Nat}{t:fw}(h:GMs k t):GM k (xU n t):=⟨⟨λd ρ R r=>by
 cases d with
 |tup ds=>show⟨r.1,h.k.p ds ρ R r.2⟩
 |lst ds=>show⟨r.1,h.k.p ds ρ R r.2⟩
 |_=>show r⟩,λd ρ R c g r=>by
 cases d with
 |tup ds=>show⟨r.1,h.m ds ρ R c g r.2⟩
 |lst ds=>show⟨r.1,h.m ds ρ R c g r.2⟩
 |_=>show r⟩
theorem Bo{o H:Hp}{d:D}{v:V}{T:String}{r:Bool}(s:Same o H)(h:RpQ K o H d v)(e:lD d T=Z r):IsiV K H v T r:=by
 have sp:∀{c:Prop}[Decidable c]{x:Bool}{y:Ų Bool},(if c then Z x else y)=Z r->(c/\x=r)\/y=Z r:=λ{c _ x y} h=>by
  by_cases l:c
  ·rw[JX l]at h;cases h;show .inl ⟨l,S⟩
  ·rw[JV l]at h;show .inr h
 cases d with
 |int i=>
  cases h.int;rcases sp e with⟨rfl,rfl⟩|e
  ·show .int_int _
  rcases sp e with⟨rfl,rfl⟩|e
  ·show .int_bool _
  rcases sp e with⟨rfl,rfl⟩|e
  ·show .int_tuple _
  rcases sp e with⟨rfl,rfl⟩|e
  ·show .int_str _
  cases e
 |bl i=>
  cases h.bl;rcases sp e with⟨rfl,rfl⟩|e
  ·show .bl_int _
  rcases sp e with⟨rfl,rfl⟩|e
  ·show .bl_bool _
  rcases sp e with⟨rfl,rfl⟩|e
  ·show .bl_tuple _
  cases e
 |str i=>
  cases h.str;rcases sp e with⟨rfl,rfl⟩|e
  ·show .str_str _
  rcases sp e with⟨rfl,rfl⟩|e
  ·show .str_tuple _
  cases e
 |non=>cases e
 |tup ds=>
  let⟨a,vs,rfl,g,_,u⟩:=h.tup s;rcases sp e with⟨rfl,rfl⟩|e
  ·show .tup_tuple g
  rcases sp e with⟨rfl,rfl⟩|e
  ·show .tup_int g
  cases e
 |lst ds=>
  let⟨a,vs,rfl,g,u⟩:=h.lst s;rcases sp e with⟨rfl,rfl⟩|e
  ·show .lst_tuple (.of g)
  rcases sp e with⟨rfl,rfl⟩|e
  ·show .lst_list (.of g)
  cases e
 |fzl ds=>cases e
 |obj C fs=>cases e
 |map w=>cases e
 |exc _ _=>cases e
noncomputable def By(T:String)(t:TD):TD:=λρ R=>t ρ λd=>∃r,lD d T=Z r/\R (.bl r)
theorem l7{T:String}{h:Str}{c:Õ}(M:Gl X "isinstance")(N:X.mg "isinstance"=ű)(J:PQ K X a t)(I:PE X (.Name h c) (tC (.ty T)))
  (w:starEach [a,.Name h c] X.env=(Ŵ,eval a X.env)::starEach [.Name h c] X.env) (o:starEach [.Name h c] X.env=(Ŵ,eval (.Name h c) X.env)::starEach [] X.env):PD K X (.Call (.Name "isinstance" p) [a,.Name h c] [] f) (By T t):=
 ⟨λu=>(k7 (Ib u) M N Nl (cC (J.pe u) (cC I pa_nil o) w) 'b' 'b' w (bC o ao)).imp λar H Q C=>by let⟨x,U,ρ,R,E,t,k⟩:=C;show⟨x,U,ρ,_,E,t,λd l y v r g am=>by
  let⟨P,O,r⟩:=r
  show⟨v,T,P,S,Bo g.s am O,k _ l y _ r g (.bl _)⟩⟩⟩
theorem yA(i:Int):lD (.int i) "int"=Z ų:=rfl
theorem yY(i:Int):lD (.int i) "bool"=Z Ŵ:=rfl
theorem yB(xs:Y D):lD (.tup xs) "tuple"=Z ų:=rfl
end
theorem gf{a:Type}{f:a->D}{ns:Y a}{i:Nat}{x:D}(h:(ns.map f)[i]?=Z x):∃k,x=f k/\ns[i]?=Z k:=by
 rw[J4]at h
 cases e:ns[i]? with
 |none=>rw[e]at h;cases h
 |some k=>rw[e]at h;cases h;show⟨k,S,S⟩
theorem ji{a:Type}{f:a->D}{ns:Y a}{i:Nat}{n:a}{k:Int}(h:ns[i]?=Z n)(e:k=(i:Int)):bT (ns.map f) k=Z (f n):=mh (by rw[J4,h];rfl) e
theorem FC{ns:Y Int}{k:Int}(c:0<=k)(h:k<(ns.length:Int)):∃v:Int,bT (ns.map D.int) k=Z (.int v):=by
 have a:k.toNat<ns.length:=by omega
 show⟨_,ji (bq a) ()⟩
noncomputable def xh:cP:=λds R=>∃ns:Y Int,ds=[.fzl (ns.map D.int)]/\ns.length<=63/\R (.bl ų)
noncomputable def wD(K:Â):Sp:=λvs H Q _=>∃(a:Addr)(ns:Y Int),vs=[.ref a]/\SqL K H a (ns.map V.int)/\ns.length<=63/\TabF K H/\∀c,Q (.bl ų) c
theorem Jc{K:Â}:∀vs H Q E,wD K vs H Q E->lSp K xh vs H Q E:=by rintro vs H Q E ⟨a,ns,rfl,c,e,tb,q⟩;refine⟨H,[.fzl (ns.map D.int)],λd=>d=.bl ų,Same.refl _,tb,.one ((RpL.ints ns).fzl c),⟨ns,S,e,S⟩,λd h j v r g f=>?_⟩;subst r;obtain rfl:=f.b;show q _
theorem cE{c e:Type}(f:c->e)(xs:Y c)(lo a:Ų Int):aT (xs.map f) lo a=(aT xs lo a).map f:=by unfold aT;rw[mn,NO,NP]
theorem wg(k:Nat)(z:Int):(List.replicate k [D.int z]).flatten=(List.replicate k z).map D.int:=by
 induction k with
 |zero=>rfl
 |succ k a=>rw[Lc,KC,a];rfl
section
variable{g:dH}{a:TD}{ρ:bE}{R:Y D->Prop}
theorem FI{ds:Y D}(ws:Y D)(p:ws.length=ds.length)(f:ds.length<sizeLine)(Q:Nat->D->Prop)(h:∀i y,Q i y->ws[i]?=Z y)(j:∀i d,ds[i]?=Z d->g d ρ λe=>a e (Q i))(k:R ws) :
  ds.length<sizeLine/\∃P:Nat->D->Prop,(∀i d,ds[i]?=Z d->g d ρ λe=>a e (P i))/\∀ys:Y D,ys.length=ds.length->(∀i y,ys[i]?=Z y->P i y)->R ys:=by
 refine⟨f,Q,j,λys o l=>?_⟩
 have:ys=ws:=by
  refine LU λi=>?_;rcases KL i ys.length with c|c
  ·rw[bq c,h i _ (l i _ (bq c))]
  ·rw[K6 c,K6 ()]
 rw[this];show k
theorem i8{l:Type}{f:l->D}{xs:Y l}(h:l->D)(j:xs.length<sizeLine)(p:∀x∈xs,g (f x) ρ λc=>a c λy=>y=h x)(k:R (xs.map h)) :
  (xs.map f).length<sizeLine/\∃P:Nat->D->Prop,(∀i d,(xs.map f)[i]?=Z d->g d ρ λc=>a c (P i))/\∀ys:Y D,ys.length=(xs.map f).length->(∀i y,ys[i]?=Z y->P i y)->R ys:=by
 refine FI (xs.map h) (by simp) (by rw[mn];show j) (λi=>match xs[i]? with|some x=>λy=>y=h x|none=>λ_=>False) (λi y q=>?_) (λi d hd=>?_) k
 ·rw[J4]
  cases e:xs[i]? with
  |none=>rw[e]at q;show q.elim
  |some x=>rw[e]at q;rw[q];rfl
 ·let⟨x,rfl,o⟩:=gf hd
  have e:(match xs[i]? with|some x=>λy=>y=h x|none=>λ_=>False:D->Prop)=λy=>y=h x:=by rw[o]
  rw[e];show p x (Kp o)
theorem zK{c e:Type}(f:c->D)(h:e->D)(xs:Y c)(ys:Y e):fX (xs.map f) (ys.map h)=(List.zip xs ys).map λp=>.tup [f p.1,h p.2]:=by unfold fX;rw[List.zipWith_map,Oo];rfl
theorem HR{e j:Type}{f:e->D}{h:j->D}{xs:Y e}{ys:Y j}(w:e->j->D)(o:xs.length<sizeLine)(t:∀x∈xs,∀y∈ys,g (.tup [f x,h y]) ρ λc=>a c λz=>z=w x y)(k:R (List.zipWith w xs ys)) :
  (fX (xs.map f) (ys.map h)).length<sizeLine/\∃P:Nat->D->Prop,(∀i d,(fX (xs.map f) (ys.map h))[i]?=Z d->g d ρ λc=>a c (P i))/\∀l:Y D,l.length=(fX (xs.map f) (ys.map h)).length->(∀i y,l[i]?=Z y->P i y)->R l:=by
 rw[zK];refine i8 (λp:e×j=>w p.1 p.2) ?_ (λp r=>t p.1 (Ms r).1 p.2 (Ms r).2) ?_
 ·rw[List.length_zip];omega
 ·rw[Oo];show k
end
end L2
namespace L2
theorem ff{p:Prop}(h:Ŵ=ų):p:=by cases h
theorem tf{p:Prop}(h:ų=Ŵ):p:=by cases h
end L2
namespace L2
end L2
namespace L2
theorem dX{a:Type}(f:a->D)(c:Y a)(d:a):c.map f++[f d]=(c++[d]).map f:=by simp
theorem gG{c:Type}(f:c->D)(a fs:Y c):a.map f++fs.map f=(a++fs).map f:=by simp
end L2
namespace L2
open PySem PySem.Spec PyProof.Rows
section
variable{g:dH}{a:TD}{ρ:bE}{R:Y D->Prop}
theorem x6{j:Type}{f:j->D}{xs:Y j}(h:j->Int)(e:xs.length<sizeLine)(l:∀x∈xs,g (f x) ρ λc=>a c λy=>y=.int (h x))(k:R ((xs.map h).map D.int)) :
  (xs.map f).length<sizeLine/\∃P:Nat->D->Prop,(∀i d,(xs.map f)[i]?=Z d->g d ρ λc=>a c (P i))/\∀ys:Y D,ys.length=(xs.map f).length->(∀i y,ys[i]?=Z y->P i y)->R ys:=
 i8 (λx=>D.int (h x)) e l (by rw[L9]at k;show k)
end
theorem ye{e:Type}{f:e->D}{P:e->Prop}:∀{ys:Y D},(∀(i:Nat) y,ys[i]?=Z y->∃x,P x/\y=f x)->∃xs:Y e,ys=xs.map f/\∀x∈xs,P x
 | [],_=>⟨[],S,λx a=>absurd a KJ⟩
 |y::ys,h=>by
  let⟨x,a,rfl⟩:=h 0 y S;let⟨xs,rfl,g⟩:=ye (ys:=ys) λi y j=>h (i+1) y j
  show⟨x::xs,S,λz c=>by
   rcases J9.mp c with rfl|c
   ·show a
   ·show g z c⟩
theorem Gv{n:Nat}{g g':Nat->Bool}(h:∀j,j<n->g j=g' j):(List.range n).all g=(List.range n).all g':=by rw[Lw,Kf,Kf];show⟨λq j a=>(h j (Li.mp a))▸q j a,λq j a=>(h j (Li.mp a)).symm▸q j a⟩
section
variable{K:Â}{X:Cx}{h:Y (Addr×Ð)}{l:St}{f H:Hp}{s:À}
theorem uO(T:X.K=K)(I:Inv X h l H s)(sm:Same f H):∀(n:Nat){d d' e:D}{b o:Bool}{v:V},Rp K f d v->Rp K f d' v->bS n d e=Z b->bS n d' e=Z o->b=o:=by
 intro n
 induction n using Nat.strongRecOn with
 |ind n am=>
  intro d d' e b o v t u z p
  have x:∀{m:Nat}{xs w ys:Y D}{vs:Y V}{b o:Bool},m<n->RpL K f xs vs->RpL K f w vs->eK (bS m) xs ys=Z b->eK (bS m) w ys=Z o->b=o:=λ{m xs w ys vs b o} R J M z p=>by
   let⟨g,Q,P⟩:=j6 z;let⟨g',N,A⟩:=j6 p;have ar:=J.1;have aw:=M.1
   have O:xs.length=w.length:=by omega
   rw[P,A,O];congr 1;refine Gv λj U=>?_
   have C:j<vs.length:=by omega
   have E:j<xs.length:=by omega
   have F:j<w.length:=by omega
   have G:j<ys.length:=by omega
   show am m R (J.2 j _ _ (bq C) (bq E)) (M.2 j _ _ (bq C) (bq F)) (Q j _ _ (bq E) (bq G)) (N j _ _ (bq F) (bq G))
  cases hG z with
  |int i j=>obtain rfl:=t.i;cases u;cases hG p;rfl
  |bl i j=>obtain rfl:=t.b;cases u;cases hG p;rfl
  |str i j=>obtain rfl:=t.s;cases u;cases hG p;rfl
  |non=>obtain rfl:=t.n;cases u;cases hG p;rfl
  |tup r=>cases hG p with|tup q2=>
   cases t with| @tup a vs xs a1 a2 a3=>cases u with| @tup _ ws ys b1 b2 b3=>
   have y:vs=ws:=I.tuple_inj (.of (sm _ _ a1)) (.of (sm _ _ b1));subst y;show x (Mi _) ⟨a2,a3⟩ ⟨b2,b3⟩ r q2
  | @lst _ xs B b r=>cases hG p with| @lst _ ys B o q2=>
   cases t with| @lst a vs _ a1 a2 a3=>cases u with| @lst _ ws _ b1 b2 b3=>
   have y:vs=ws:=by rw[a1]at b1;cases b1;rfl
   subst y;by_cases c:xs.length=B.length
   ·rw[JX c]at r;rw[JX ()]at q2;show x (Mi _) ⟨a2,a3⟩ ⟨b2,b3⟩ r q2
   ·rw[JV c]at r;rw[JV ()]at q2;rw[r]at q2;cases q2;rfl
end
@[irreducible] noncomputable def mP (x:D)(y:D)(R:D->Prop):Prop:=match x with
 |.lst ds=>ds.length<=1000/\∃(bs:Y Bool)(j:Nat),bs.length=ds.length/\(∀(i:Nat) d b,ds[i]?=Z d->bs[i]?=Z b->bS 39 d y=Z b)/\bs[j]?=Z ų/\(∀i,i<j->bs[i]?=Z Ŵ)/\R (.int (j:Int))
 |_=>False
section
variable{K:Â}{X:Cx}{a b:Ã}{l tb:TD}{f o:Õ}
open Classical in
theorem HU(hK:X.K=K)(hu:X.A.units+64<ä):iG X "list.index" (λx xs H Q=>∃t E F R y,Same t H/\xs=[y]/\RpQ K t H E x/\RpQ K t H F y/\mP E F R/\∀d C ar v,R d->Gr t H C ar->Rp K C d v->Q v ar):=by
 intro pins s σ H x xs v us Q I rx rs ⟨t,E,F,R,y,sm,e,hx,hy,h,k⟩;subst e;let⟨u,rfl,ru⟩:=gZ rs;unfold mP at h
 cases E with
 |lst ds=>
  let⟨hl,bs,j,Xp,hb,hj,PL,r⟩:=h;let⟨a,vs,rfl,N,B⟩:=hx.lst sm;cases rx;let⟨p,n,rv,ho,hz⟩:=I.lst N;have l1:=Vals.length rv;have Xq:j<bs.length:=bj hj;have PH:Same t H:=sm
  let e:Value->Bool:=λz=>decide (∃m:Nat,p[m]?=Z z/\bs[m]?=Z ų)
  have at_:∀(m:Nat) z,p[m]?=Z z->∃(w:V)(d:D)(b:Bool),RelV w z/\Rp K H d w/\ds[m]?=Z d/\bs[m]?=Z b/\bS 39 d F=Z b:=λm z g=>by
   have i0:m<p.length:=bj g
   have O:m<vs.length:=by omega
   have P:m<ds.length:=by rw[←B.1];show O
   have i3:m<bs.length:=by omega
   let⟨u',aw,r'⟩:=Vals.get (i:=m) (x:=vs[m]) rv (bq O);rw[g]at aw;cases aw;show⟨vs[m],ds[m],bs[m],r',(B.2 m _ _ (bq O) (bq P)).same sm,bq P,bq i3,hb m _ _ (bq P) (bq i3)⟩
  have M:∀(m A:Nat) z b J,p[m]?=Z z->p[A]?=Z z->bs[m]?=Z b->bs[A]?=Z J->b=J:=λm A z b J g Uz q q'=>by
   let⟨w,d,c,U,am,_,T,c1⟩:=at_ m z g;let⟨w',d',c',Xr,Xs,_,Vp,U1⟩:=at_ A z Uz;rw[q]at T;rw[q']at Vp;cases T;cases Vp;have:=U.inj Xr;subst this;show uO hK I (Same.refl H) 39 am Xs c1 U1
  have G:∀(m:Nat) z b,p[m]?=Z z->bs[m]?=Z b->e z=b:=λm z b g q=>by
   change decide (∃m:Nat,p[m]?=Z z/\bs[m]?=Z ų)=b
   cases b with
   |true=>show Kw ⟨m,g,q⟩
   |false=>show Kd λ⟨A,N,B⟩=>by cases M m A z _ _ g N q B
  have Vq:j<p.length:=by have:=B.1;omega
  refine LB Oq ⟨_,ho,S⟩ PySem.F.entry_list_index (PySem.F.args_list_index_2 _ _)
   (PySem.SeqAt.list_indexAt a p.toArray n ű #[] u e j (by simpa using Vq) () ?_ ?_) ⟨ho,λz hz=>?_,?_⟩
  ·simp only[ME];show G j _ ų (bq Vq) hj
  ·intro m g Pf;simp only[J2]at g;simp only[ME];show G m _ Ŵ (bq g) (PL m Pf)
  ·have Xt:z∈p:=by simpa using hz
   let⟨m,g⟩:=MF Xt;let⟨w,d,b,U,am,T,q2,q3⟩:=at_ m z g;rw[G m z b g q2];show (pk hK I (Same.refl H) 39 q3 am (hy.any sm) X.A.in1 z u (by change X.A.units+1+39<ä;omega) U ru).1
  ·show⟨.int j,H,I.tok _,⟨_,S⟩,k _ t H _ r (.refl sm) (.int _)⟩
 |_=>show h.elim
noncomputable def nz(l tb:TD):TD:=λρ R=>l ρ λx=>(match x with|.lst _=>True|_=>False)/\tb ρ λy=>mP x y R
theorem wZ(am:X.A.units+64<ä)(O:PQ K X a l)(P:PD K X b tb)(F:Ç a "index" X.env (eval a X.env)=eval a X.env:=by rfl)(J:((backTo o (starEach [b] X.env)).all (λx=>!x.1)&&(Ù o (Î [] X.env)).all (λx=>x.1.isSome)&&decide (([b]:Y Ã).length+([]:Y Ï).length+(if ([]:Y Ï).isEmpty then 0 else 1)<30))=ų)
  (z:starEach [b] X.env=(Ŵ,eval b X.env)::starEach [] X.env) (G:(f.endLine==o.line)=ų:=by rfl):PD K X (.Call (.Attribute a "index" f) [b] [] o) (nz l tb):=
 ⟨λh=>(gP LZ Oq PySem.F.type_list_index (HU h am) (O.pe h) (cC (P.pe h) pa_nil z) F J G z ao).imp λσ H Q I=>by let⟨w,Φ,ρ,R,E,t,k⟩:=I;show⟨w,Φ,ρ,_,E,t,λM p H1 x B c A=>by
  cases M with
  |lst ds=>
   let⟨a,vs,rfl,T,q2⟩:=A.lst c.s;refine⟨.inl ⟨S,vs,SqL.of T⟩,w,p,ρ,_,E.gr c,B.2,λN u H2 y aw e ar=>⟨u,.lst ds,N,R,y,e.s,S,A.gr e,.inl ar,aw,λd j C v r g U=>k d j C v r ((c.trans e).trans g) U⟩⟩
  |_=>show B.1.elim⟩⟩
end
end L2
namespace L2
open PySem PySem.Spec PyProof.Rows
section
variable{K:Â}{X:Cx}
theorem yx(h:X.K=K):rn X (uQ K):=h▸Gf
end
section
variable{K:Â}{X:Cx}{o H:Hp}{a e:Ã}{p:TD}{C:Addr}{j:Str}{l:Õ}
theorem x9{g:Str}{d:D}:∀{vs:Y (Str×V)}{fs:Y (Str×D)},vs.map (·.1)=fs.map (·.1)->(∀(i:Nat)(v:Str×V)(e:Str×D),vs[i]?=Z v->fs[i]?=Z e->Rp K o e.2 v.2)->fs.lookup g=Z d->∃v,vs.lookup g=Z v/\Rp K o d v
 | [],[],_,_,h=>by cases h
 | [],_::_,h,_,_=>by cases h
 |_::_,[],h,_,_=>by cases h
 |(x,v)::vs,(y,f)::fs,h,w,r=>by
  rw[Kk,Kk]at h;let⟨t,z⟩:=ON h;have t:x=y:=t;subst t;rw[Kl]at r ⊢
  cases c:g==x with
  |true=>
   rw[c]at r;cases r;show⟨v,S,w 0 _ _ S S⟩
  |false=>
   rw[c]at r;show x9 z (λi u e B A=>w (i+1) u e B A) r
noncomputable def yX(nm:Str)(f:Str)(t:TD):TD:=λρ R=>t ρ λx=>match x with|.obj Xu fs=>Xu=nm/\∃d,fs.lookup f=Z d/\R d|_=>False
theorem xN{c:TE}(f:X.K=K)(h:PE X a c)(g:Ç a j X.env (eval a X.env)=eval a X.env):PE X (.Attribute a j l) (tS K c j):=f▸DB h g
theorem fj{nm:Str}(c:Cls K C)(O:NoAttr K C j)(G:Ú K Á nm=Z (Z (.ref C)))(I:PQ K X a p)(J:Ç a j X.env (eval a X.env)=eval a X.env:=by rfl):PD K X (.Attribute a j l) (yX nm j p):=
 ⟨λw=>(xN w (I.pe w) J).imp λT H Q z=>by let⟨x,o,ρ,R,E,t,k⟩:=z;show⟨x,o,ρ,_,E,t,λd h y v r g f=>by
  cases d with
  |obj U fs=>
   let⟨rfl,d,M,r⟩:=r;rcases f with f|⟨_,_,_,e,_⟩
   ·cases f with
    |obj u A B F=>
     rw[G]at u;cases u;let⟨v,N,P⟩:=x9 B F M;show⟨_,_,_,_,v,S,g.s _ _ A,c,O,N,k d h y v r g P⟩
   ·cases e
  |_=>show r.elim⟩⟩
end
section
variable{P:Ä}{w:Å}{K:Â}{mg:Str->Ų Value}{base:Heap}
theorem Fun.okL{x qual:Str}{st:Ë}{f:Addr}{c:É}{N ps:Y Str}{k:Nat}{sp:Sp}(F:Fun K x qual st f c)(U:FnScope N ps (aQ st))(len:∀vs H Q E,sp vs H Q E->vs.length=ps.length)
  (j:∀(a:Value)(A:È)(outer:Y ê)(s:À)(H:Hp)(vs:Y V)(Q:VK)(E:XK),c.code=a->Room k (A.deeper (ë qual (aQ st) s.heap.objs.size f a))->sp vs H Q E->
   ∃t,PSs (fW bt P w K mg base N qual (aQ st) f a A outer s H E).nox (cY st) t/\t { nx:=λ_ e=>Q .non e,rt:=Q } (start N vs) H):FnOk P w K mg base bt (k+1) f c ps sp:=by
 let⟨v,y,kV,o,z,u,a,ct,r,rfl,lk,g⟩:=F.ex;refine mB lk g U len λA outer s H vs Q E p l=>?_;let⟨t,h,q⟩:=j a A outer s H vs Q E S p l;show⟨t,h.nox,q⟩
end
theorem xI{K:Â}{x:Str}(a:Ú K Á x=Z ű):pL K x=ű:=by unfold pL;simp only[a]
end L2
namespace L2
open PySem PySem.W PyProof.Rows
section
variable{a:Nat->Int}{N:Nat}
variable(c:∀i j,i<N->j<N->a i=a j->i=j)
include c
end
end L2
namespace L2
open PySem PySem.Spec PySem.W PyProof.Rows PySem.Calls
end L2
namespace L2
open PySem PySem.Spec PySem.W PyProof.Rows PySem.Calls
end L2
namespace L2
open PySem PySem.Spec PyProof.Rows
noncomputable def JA:V->Y V->Hp->VK->Prop:=λx vs H Q=>∃l xs i k y,x=.ref l/\vs=[.int i,y]/\i=((k:Nat):Int)/\H l=Z (.lst xs)/\k<=xs.length/\xs.length<sizeLine/\Q .non (au H l (.lst (xs.take k++y::xs.drop k)))
section
variable{X:Cx}
theorem Jf:p9 X "list.insert" JA:=by
 intro E s U H x vs v us Q I K f h;let⟨l,xs,c,k,y,rfl,rfl,B,C,N,R,q⟩:=h;cases K
 obtain⟨w,g,rfl,p,u⟩:∃w g,us=[w,g]/\RelV (.int c) w/\RelV y g:=by
  cases f with
  |cons p f=>
  cases f with
  |cons u f=>
  cases f;show⟨_,_,S,p,u⟩
 let⟨t,rfl⟩:=p;let⟨z,a,n,r,O,e⟩:=I.lstM C;have P:sizeLine=16777216:=KP
 have j:(k:Int)<2^63:=by
  have:k<=16777216:=by omega
  have:(2:Int)^63=9223372036854775808:=by decide
  omega
 have o:-(2^63)<=(k:Int):=by
  have:(2:Int)^63=9223372036854775808:=by decide
  omega
 have A:¬(!Builtin.List.listFitsIndex (k:Int))=ų:=by rw[ĕ o j];decide
 have G:a.toArray.size<=sizeLine:=by rw[J2];omega
 rw[←B]at A;have M:=PySem.AutoListH.list_insert_list_int_val_1 l a.toArray n c t g A G;refine LB F.slot_list_insert ⟨_,e,S⟩ F.entry_list_insert (F.args_list_insert_3 _ _ _) M ⟨e,?_⟩;refine⟨.non,_,I.lset (Pa:=a.take k++_::a.drop k) C e ?_ ((r.take k).append (.cons u (r.drop k))) ?_,S,q⟩
 ·have J:(if c<0 then (c+((a.toArray.size:Nat):Int)).toNat else min c.toNat a.toArray.size)=k:=by rw[B,JV (),J2,Lh];omega
  change (a.toArray.extract 0 (if c<0 then (c+((a.toArray.size:Nat):Int)).toNat else min c.toNat a.toArray.size)).push _++a.toArray.extract (if c<0 then (c+((a.toArray.size:Nat):Int)).toNat else min c.toNat a.toArray.size)=_;rw[J];apply ľ.mp;simp;show K9 (Mh Kr)
 ·rw[wy,J1,Kq,Kr];omega
end
theorem xt{c : Õ}{e a : Ã}{env : ê}(h : starEach [e, a] env = (Ŵ, eval e env) :: starEach [a] env)(f : starEach [a] env = (Ŵ, eval a env) :: starEach [] env) : ((backTo c (starEach [e, a] env)).all (λx=> !x.1)&&(Ù c (Î [] env)).all (λx=>x.1.isSome)
      && decide ([e, a].length + ([] : Y Ï).length + (if ([] : Y Ï).isEmpty then 0 else 1) < 30)) = ų:= by
 rw[h,f];rfl
noncomputable def gh:aO->D
 |.inl i=>.int i
 |.inr s=>.str s
theorem qO{K:Â}{a:Hp}{k:aO}{v:V}(r:Rp K a (gh k) v):v=kV k:=by
 cases k with
 |inl i=>obtain rfl:=r.i;rfl
 |inr s=>obtain rfl:=r.s;rfl
theorem vT{K:Â}{a H:Hp}{k:aO}{v:V}(r:RpQ K a H (gh k) v):v=kV k:=by
 cases k with
 |inl i=>show RpQ.int r
 |inr s=>show RpQ.str r
theorem xr{K:Â}{g:Hp}{a:Y aO}{vs:Y V}(r:RpL K g (a.map gh) vs):vs=a.map kV:=by
 refine LU λi=>?_;rw[J4]
 cases h:a[i]? with
 |none=>
  have c:=LO.mp h;show K6 (by rw[r.1,mn];show c)
 |some k=>
  let⟨v,e,f⟩:=r.at (i:=i) (d:=gh k) (by rw[J4,h];rfl);rw[e,qO f];rfl
noncomputable def gn(k:aO)(a:Y aO):Bool:=a.any λj=>decide (j=k)
theorem rK(k:aO)(a:Y aO):gn k a=ų↔k∈a:=by unfold gn;rw[Of];show⟨λ⟨j,c,e⟩=>J8 e▸c,λh=>⟨k,h,Kw S⟩⟩
theorem oz(k:aO):gT (kV k)=ų:=by cases k<;>rfl
theorem D5(j k:aO):ig (kV j) (kV k)=decide (j=k):=by
 cases j with
 |inl a=>
  cases k with
  |inl b=>change (a==b)=_;by_cases h:a=b<;>simp[h]
  |inr b=>change Ŵ=_;simp
 |inr a=>
  cases k with
  |inl b=>change Ŵ=_;simp
  |inr b=>change (a==b)=_;by_cases h:a=b<;>simp[h]
theorem yh(k:aO)(a:Y aO):ix (kV k) (a.map kV)=gn k a:=by unfold ix gn;rw[OQ];show List.any_congr S λj=>D5 j k
noncomputable def p8(a:Bool):cB:=λe f R=>∃(k:aO)(c:Y aO),e=gh k/\gk f=Z (c.map gh)/\R (.bl (a != gn k c))
section
variable{K:Â}{X:Cx}
theorem gu:OpD K X (Æ .In) (p8 Ŵ):=⟨λo c s E H x y u v Q I A B g=>by
 let⟨C,F,G,R,sm,p,r,⟨k,f,rfl,e,h⟩,w⟩:=g;cases vT p;let⟨a,vs,rfl,q,rl⟩:=r.seq sm e;cases xr rl;refine Hr c s E H _ _ u v Q I A B ⟨a,_,S,by rw[o];show q,oz k,?_,?_⟩
 ·rw[Kf];intro z t;let⟨j,_,rfl⟩:=Lb.mp t;show oz j
 ·have l:(if Ŵ=ų then !ix (kV k) (f.map kV) else ix (kV k) (f.map kV))=(Ŵ != gn k f):=by rw[yh];simp
  rw[l]
  show w _ C H _ h (.refl sm) (.bl _)⟩
theorem kg:OpD K X (Æ .NotIn) (p8 ų):=⟨λo c s E H x y u v Q I A B g=>by
 let⟨C,F,G,R,sm,p,r,⟨k,f,rfl,e,h⟩,w⟩:=g;cases vT p;let⟨a,vs,rfl,q,rl⟩:=r.seq sm e;cases xr rl;refine Ja c s E H _ _ u v Q I A B ⟨a,_,S,by rw[o];show q,oz k,?_,?_⟩
 ·rw[Kf];intro z t;let⟨j,_,rfl⟩:=Lb.mp t;show oz j
 ·have l:(if ų=ų then !ix (kV k) (f.map kV) else ix (kV k) (f.map kV))=(ų != gn k f):=by rw[yh];simp
  rw[l]
  show w _ C H _ h (.refl sm) (.bl _)⟩
end
theorem xp:∀{a:Y Str}{us:Y Value},Vals (a.map V.str) us->∃l:Y (Str×þ),us=Ĥ l/\l.map (·.1)=a
 | [],_,h=>by rw[OO]at h;cases h;show⟨[],S,S⟩
 |z::a,_,h=>by
  rw[Kk]at h
  cases h with
  |cons r t=>
   let⟨c,rfl⟩:=r;let⟨l,rfl,e⟩:=xp t;show⟨(z,c)::l,S,by rw[Kk,e]⟩
section
variable{K:Â}{X:Cx}
theorem zq{g:Hp}{a:Y Str}{vs:Y V}(r:RpL K g (a.map D.str) vs):vs=a.map V.str:=by
 refine LU λi=>?_;rw[J4]
 cases h:a[i]? with
 |none=>
  have c:=LO.mp h;show K6 (by rw[r.1,mn];show c)
 |some z=>
  let⟨v,e,f⟩:=r.at (i:=i) (d:=.str z) (by rw[J4,h];rfl);rw[e];obtain rfl:=f.s;rfl
noncomputable def wj(d:D):TD:=λ_ R=>R d
theorem oA{x:Str}{i:Int}{c:þ}{a:Õ}(f:Gl X x)(g:X.mg x=Z (.int i c))(hd:ad x:=by decide):PD K X (.Name x a) (wj (.int i)):=
 ⟨λl=>(jZ (v:=.int i) f g ⟨c,S⟩ hd).imp λo H Q e=>by
  let⟨j,h,ρ,R,E,t,k⟩:=e
  show k _ h H _ t (.refl E.fz) (.int i)⟩
end
end L2
namespace L2
open PySem PySem.Spec PySem.W PyProof.Rows PySem.Calls
end L2
namespace L2
open PySem PySem.Spec PyProof.Rows
theorem Ge{K:Â}(h:Ú K Á "least_grown"=Z ű/\Ú K Á "greatest_first"=Z ű):pP K=[]:=by unfold pP;rw[LG,xI h.1,LG,xI h.2];rfl
structure Cl(P:Ä)(w:Å)(K:Â)(mg:Str->Option Value)(base:Heap)(n:Nat)(x:Str)(ps:List Str)(z:cP):Prop where
 ex:∃(f:Addr)(fd:É),FnOk P w K mg base bt n f fd ps (lSp K z)/\Binds K fd ps []/\Ü K (.ref f)=ų/\mg x=Z (.ref f)
section
variable{P:Ä}{w:Å}{K:Â}{mg:Str->Ų Value}{base:Heap}{n m:Nat}{x:Str}{ps:Y Str}{z:cP}{X:Cx}{e:Ã}{u:Y Ã}{o p:Õ}{B:bc}{st:Ë}{f:Addr}{j:É}{h:Heap}
theorem Cl.mono(C:Cl P w K mg base n x ps z)(k:n<=m:=by decide):Cl P w K mg base m x ps z:=by let⟨f,j,F,r⟩:=C.ex;show⟨f,j,F.mono k,r⟩
theorem Cl.of(F:Fun K x x st f j)(b:Binds K j ps [])(m:mg x=Z (.ref f))(H:FnOk P w K mg base bt n f j ps (lSp K z)):Cl P w K mg base n x ps z:=⟨f,j,H,b,F.kp,m⟩
theorem bX(C:Cl X.prog X.w K X.mg X.base n x ps z)(v:Room n X.A)(t:Gl X x)
  (l:PAD K X (e::u) B) (r:starEach (e::u) X.env=(Ŵ,eval e X.env)::starEach u X.env) (a:(backTo o (starEach u X.env)).any (·.1)=Ŵ) (c:ad x:=by decide) :
  PD K X (.Call (.Name x p) (e::u) [] o) (kQ z B):=⟨λg=>by
 subst g;let⟨f,j,F,b,k,m⟩:=C.ex
 show (zm F v t m k b mS l r a c).pe S⟩
noncomputable def dE(P:Ļ)(x:Str)(n:Nat)(v:Value):DictEntry:=⟨PyData.keyHash P x,.str x n,v⟩
noncomputable def cO(n:Str)(a:Nat)(q:Str)(b c:Nat)(l m:Int)(k:Int)(r:Nat)(g:Int)(t:Nat)(x y:Value)(z:Nat)(i:Int)(d:Nat):Ð:=⟨.type "code",ű,.fields #[.str n a,.str q b,.str "/claim/cut.py" c,.int l 0,.int m 0,.int 0 0,.int 0 0,.int k 0,.ref r,.bool ų,.int g 0,.ref t,.none,x,y,.ref z,.int i 0,.int l 0,.str "/claim/cut.py" d],#[]⟩
noncomputable def fO(s:Ë)(n q m:Str)(i c:Nat):Ð:=⟨.type "function",ű,.func (ć n q (eI s) (cY s) (aQ s) .none .none .none (.str m i) ű (.ref c) .none),#[]⟩
noncomputable def Has(K:Â)(s:Ë)(x:Str):Prop:=∃f m i c,Ú K Á x=Z (Z (.ref f))/\K.lookup f=Z (fO s x x m i c)/\ā K (.ref c) x=ų
theorem Has.of{s:Ë}{m:Str}{i c:Nat}(a:Ú K Á x=Z (Z (.ref f)))(l:K.lookup f=Z (fO s x x m i c))(k:ā K (.ref c) x=ų):Has K s x:=⟨f,m,i,c,a,l,k⟩
theorem Has.fn(a:Has K st x)(X:K.In h)(G:h.Ns Á mg):∃f j,Fun K x x st f j/\mg x=Z (.ref f)/\∃m i c,j=ć x x (eI st) (cY st) (aQ st) .none .none .none (.str m i) ű (.ref c) .none:=by let⟨f,m,i,c,a,l,k⟩:=a;show⟨f,_,wF l k (by unfold Ü;simp only[l];rfl),ú X G a,m,i,c,S⟩
theorem n6{A:Type}{p:Y A->Prop}(h:∀a0,p [a0]):∀us:Y A,us.length=1->p us
 | [a0],_=>h a0
theorem iI{A:Type}{p:Y A->Prop}(h:∀a0 a1,p [a0,a1]):∀us:Y A,us.length=2->p us
 | [a0,a1],_=>h a0 a1
theorem lH{A:Type}{p:Y A->Prop}(h:∀a0 a1 a2,p [a0,a1,a2]):∀us:Y A,us.length=3->p us
 | [a0,a1,a2],_=>h a0 a1 a2
inductive HasM(K:Â)(st:Ë)(C:Addr)(m q:Str):Prop|mk (f:Addr) (j:É) (_:î K (.ref C) m=Z (Z (.ref f))) (_:isFn K (.ref f)=ų) (_:Ü K (.ref f)=ų) (_:Fun K m q st f j)
theorem HasM.of{C:Addr}{m q:Str}{y:Value}{A v:Ų Addr}{t:Array (Ų Value)}{kV g E r ct:Value}(a:î K (.ref C) m=Z (Z (.ref f)))(i:isFn K (.ref f)=ų)(l:K.lookup f=Z ⟨y,A,.func (ć m q (eI st) (cY st) (aQ st) .none kV g E v r ct),t⟩)(c:ā K r q=ų)(k:Ü K (.ref f)=ų):HasM K st C m q:=⟨f,_,a,i,k,wF l c k⟩
noncomputable abbrev oR(st:Ë)(x q:Str)(ps:Y Str):Prop:=∀(kV a l:Value)(g:Ų Addr)(c ct:Value)(us:Y Value),us.length=ps.length->Ę (ć x q (eI st) (cY st) (aQ st) .none kV a l g c ct) ⟨us,[]⟩=pure (ps.zip us)
theorem Fun.bd{q:Str}(F:Fun K x q st f j)(b:oR st x q ps:=by intro _ _ _ _ _ _;first|show n6 λ_=>rfl|show iI λ_ _=>rfl|show lH λ_ _ _=>rfl|show us_4 λ_ _ _ _=>rfl|show us_0 S|show us_5 λ_ _ _ _ _=>rfl|show us_6 λ_ _ _ _ _ _=>rfl|show us_7 λ_ _ _ _ _ _ _=>rfl|show us_8 λ_ _ _ _ _ _ _ _=>rfl):Binds K j ps []:=F.binds b
theorem Fun.cl(F:Fun K x x st f j)(m:mg x=Z (.ref f))(H:FnOk P w K mg base bt n f j ps (lSp K z))
  (b:oR st x x ps:=by intro _ _ _ _ _ _;first|show n6 λ_=>rfl|show iI λ_ _=>rfl|show lH λ_ _ _=>rfl|show us_4 λ_ _ _ _=>rfl|show us_0 S|show us_5 λ_ _ _ _ _=>rfl|show us_6 λ_ _ _ _ _ _=>rfl|show us_7 λ_ _ _ _ _ _ _=>rfl|show us_8 λ_ _ _ _ _ _ _ _=>rfl):Cl P w K mg base n x ps z:=.of F (F.binds b) m H
end
section
variable{P:Ä}{w:Å}{H:Hp}{h:Heap}{a:Addr}{o:HO}
theorem HOk.know(x:HOk P w H h)(f:H a=ű)(new:ObjOk P w (au H a o) h a o):HOk P w (au H a o) h:=λb u e=>by
 by_cases g:b=a
 ·subst g;rw[aZ]at e;cases e;show new
 ·rw[aH g]at e
  show (x b u e).stay (λc v _ q=>q) (λc q=>by rw[aH (cA q f)];show q) (λc xs q=>by rw[aH (cA q f)];show q) λc j l q=>by rw[aH (cA q f)];show q
end
end L2
namespace L2
open PySem PySem.Spec PySem.W PyProof.Rows PySem.Calls
end L2
namespace L2
open PySem PySem.Spec PyProof.Rows
end L2
namespace L2
open PySem PySem.Spec PySem.W PyProof.Rows PySem.Calls
end L2
namespace L2
open PySem PySem.Spec PySem.W PyProof.Rows PySem.Calls
end L2
namespace L2
open PySem PySem.Spec PyProof.Rows
inductive Fl where|v (d:D)|l (xs:List D)|al (p:Addr)
inductive Om where|lst (xs:List D)|map (OW:List (aO×D))|mpT (OW:List (List aO×D))|obj (nm:Str) (fs:List (Str×Fl))|ptr|tl (ps:List (Addr×Option (List D)))|pr (xs:List D) (d:D)
noncomputable def Om.solid:Om->Bool
 |.ptr=>Ŵ
 |.tl _=>Ŵ
 |.pr _ _=>Ŵ
 |_=>ų
inductive Sm where|v (d:D)|ob (a:Option Addr) (o:Om)
noncomputable abbrev Sm.own(xs:Y D):Sm:=.ob ű (.lst xs)
noncomputable abbrev ai:=Y (Ų Sm)
noncomputable def fF{c:Type}(K:Â)(e:Hp)(a:c×D)(b:c×V):Prop:=a.1=b.1/\Rp K e a.2 b.2
inductive FlsR(K:Â)(Φ H:Hp):List (Str×Fl)->List (Str×V)->List Addr->Prop where
 |nil:FlsR K Φ H [] [] []
 |v {f:Str} {d:D} {v:V} {fs:List (Str×Fl)} {vs:List (Str×V)} {qs:List Addr}:Rp K Φ d v->FlsR K Φ H fs vs qs->FlsR K Φ H ((f,.v d)::fs) ((f,v)::vs) qs
 |l {f:Str} {ds:List D} {ws:List V} {q:Addr} {fs:List (Str×Fl)} {vs:List (Str×V)} {qs:List Addr}:H q=Z (.lst ws)->RpL K Φ ds ws->FlsR K Φ H fs vs qs->FlsR K Φ H ((f,.l ds)::fs) ((f,.ref q)::vs) (q::qs)
 |al {f:Str} {p:Addr} {fs:List (Str×Fl)} {vs:List (Str×V)} {qs:List Addr}:FlsR K Φ H fs vs qs->FlsR K Φ H ((f,.al p)::fs) ((f,.ref p)::vs) qs
inductive TlS(K:Â)(Φ H:Hp):List (Addr×Option (List D))->List Addr->Prop where
 |nil:TlS K Φ H [] []
 |ptr {q:Addr} {ps:List (Addr×Option (List D))} {F:List Addr}:TlS K Φ H ps F->TlS K Φ H ((q,ű)::ps) F
 |own {q:Addr} {ds:List D} {ws:List V} {ps:List (Addr×Option (List D))} {F:List Addr}:H q=Z (.lst ws)->RpL K Φ ds ws->TlS K Φ H ps F->TlS K Φ H ((q,Z ds)::ps) (q::F)
inductive OmS(K:Â)(Φ H:Hp):Om->Addr->List Addr->Prop where
 |lst {ds:List D} {vs:List V} {p:Addr}:H p=Z (.lst vs)->RpL K Φ ds vs->OmS K Φ H (.lst ds) p [p]
 |map {OW:List (aO×D)} {ws:List (aO×V)} {p:Addr}:H p=Z (.dK ws)->Paired (fF K Φ) OW ws->OmS K Φ H (.map OW) p [p]
 |mpT {OW:List (List aO×D)} {ws:List (List aO×V)} {p:Addr}:H p=Z (.dT ws)->Paired (fF K Φ) OW ws->OmS K Φ H (.mpT OW) p [p]
 |obj {nm:Str} {fs:List (Str×Fl)} {C dx:Addr} {vs:List (Str×V)} {p:Addr} {qs:List Addr}:Ú K Á nm=Z (Z (.ref C))->H p=Z (.ins C dx vs)->FlsR K Φ H fs vs qs->(p::qs).Nodup->OmS K Φ H (.obj nm fs) p (p::qs)
 |ptr {p:Addr}:OmS K Φ H .ptr p []
 |tl {ps:List (Addr×Option (List D))} {p:Addr} {F:List Addr}:Φ p=Z (.tup (ps.map λq=>V.ref q.1))->TlS K Φ H ps F->F.Nodup->OmS K Φ H (.tl ps) p F
 |pr {ds:List D} {d:D} {p q:Addr} {v:V} {ws:List V}:Φ p=Z (.tup [.ref q,v])->H q=Z (.lst ws)->RpL K Φ ds ws->Rp K Φ d v->OmS K Φ H (.pr ds d) p [q]
section
variable{K:Â}{H j a c:Hp}{fs:Y (Str×Fl)}{vs:Y (Str×V)}{f F:Y Addr}{o:Om}{p:Addr}
theorem nj{e g:Type}{F G:e->g->Prop}(h:∀x y,F x y->G x y):∀{l:Y e}{m:Y g},Paired F l m->Paired G l m
 |_,_,.nil=>.nil
 |_,_,.cons r t=>.cons (h _ _ r) (nj h t)
theorem FlsR.keep(s:Same a c)(h:FlsR K a H fs vs f)(k:∀b∈f,∀u,H b=Z u->j b=Z u):FlsR K c j fs vs f:=by
 induction h with
 |nil=>show .nil
 |v r _ e=>show .v (r.same s) (e k)
 |l g t _ e=>show .l (k _ JY _ g) (t.same s) (e λb w=>k b (JZ _ w))
 |al _ e=>show .al (e k)
theorem FlsR.at(h:FlsR K a H fs vs f):∀b∈f,∃ws,H b=Z (.lst ws):=by
 induction h with
 |nil=>intro b e;cases e
 |v r _ g=>show g
 |l t u _ g=>
  intro b e;rcases J9.mp e with rfl|e
  ·show⟨_,t⟩
  ·show g b e
 |al _ g=>show g
theorem FlsR.names(h:FlsR K a H fs vs f):vs.map (·.1)=fs.map (·.1):=by
 induction h with
 |nil=>rfl
 |v r _ e=>rw[Kk,Kk,e]
 |l g t _ e=>rw[Kk,Kk,e]
 |al _ e=>rw[Kk,Kk,e]
theorem TlS.keep{ps:Y (Addr×Ų (Y D))}(s:Same a c)(h:TlS K a H ps F)(k:∀b∈F,∀u,H b=Z u->j b=Z u):TlS K c j ps F:=by
 induction h with
 |nil=>show .nil
 |ptr _ e=>show .ptr (e k)
 |own g l _ e=>show .own (k _ JY _ g) (l.same s) (e λb r=>k b (JZ _ r))
theorem TlS.at{ps:Y (Addr×Ų (Y D))}(h:TlS K a H ps F):∀b∈F,∃ws,H b=Z (.lst ws):=by
 induction h with
 |nil=>intro b e;cases e
 |ptr _ g=>show g
 |own l r _ g=>
  intro b e;rcases J9.mp e with rfl|e
  ·show⟨_,l⟩
  ·show g b e
theorem OmS.keep(s:Same a c)(h:OmS K a H o p F)(k:∀b∈F,∀u,H b=Z u->j b=Z u):OmS K c j o p F:=by
 cases h with
 |lst e g=>show .lst (k _ JY _ e) (g.same s)
 |map e g=>show .map (k _ JY _ e) (nj (λ_ _ r=>⟨r.1,r.2.same s⟩) g)
 |mpT e g=>show .mpT (k _ JY _ e) (nj (λ_ _ r=>⟨r.1,r.2.same s⟩) g)
 |obj t e g l=>show .obj t (k _ JY _ e) (g.keep s λb w=>k b (JZ _ w)) l
 |ptr=>show .ptr
 |tl e g l=>show .tl (s _ _ e) (g.keep s k) l
 |pr e g l v=>show .pr (s _ _ e) (k _ JY _ g) (l.same s) (v.same s)
theorem OmS.mem(h:OmS K a H o p F)(e:o.solid=ų:=by rfl):p∈F:=by cases h<;>first|show JY|cases e
theorem OmS.at(h:OmS K a H o p F):∀b∈F,∃u,H b=Z u/\nZ u:=by
 intro b g
 cases h with
 |lst e l=>rw[J3.mp g];show⟨_,e,trivial⟩
 |map e l=>rw[J3.mp g];show⟨_,e,trivial⟩
 |mpT e l=>rw[J3.mp g];show⟨_,e,trivial⟩
 |obj v e l t=>
  rcases J9.mp g with rfl|g
  ·show⟨_,e,trivial⟩
  ·let⟨ws,r⟩:=l.at b g;show⟨_,r,trivial⟩
 |ptr=>cases g
 |tl e l t=>
  let⟨ws,r⟩:=l.at b g;show⟨_,r,trivial⟩
 |pr e l t w=>rw[J3.mp g];show⟨_,l,trivial⟩
theorem OmS.lst_inv{ds:Y D}(h:OmS K a H (.lst ds) p F):F=[p]/\∃vs,H p=Z (.lst vs)/\RpL K a ds vs:=by
 cases h with
 |lst e g=>show⟨S,_,e,g⟩
theorem OmS.map_inv{e:Y (aO×D)}(h:OmS K a H (.map e) p F):F=[p]/\∃ws,H p=Z (.dK ws)/\Paired (fF K a) e ws:=by
 cases h with
 |map g l=>show⟨S,_,g,l⟩
theorem OmS.mpT_inv{e:Y (Y aO×D)}(h:OmS K a H (.mpT e) p F):F=[p]/\∃ws,H p=Z (.dT ws)/\Paired (fF K a) e ws:=by
 cases h with
 |mpT g l=>show⟨S,_,g,l⟩
theorem OmS.obj_inv{nm:Str}(h:OmS K a H (.obj nm fs) p F):∃C e vs f,F=p::f/\Ú K Á nm=Z (Z (.ref C))/\H p=Z (.ins C e vs)/\FlsR K a H fs vs f/\(p::f).Nodup:=by
 cases h with
 |obj g l r t=>show⟨_,_,_,_,S,g,l,r,t⟩
theorem OmS.gr(g:Gr a H c j)(h:OmS K a H o p F):OmS K c j o p F:=h.keep g.f λb _ u e=>g.h b u e
end
structure EnvM'(K:Â)(H0 Φ H:Hp)(σ:St)(ρ:ai)(fp:Nat->List Addr):Prop where
 fz:Same Φ H
 len:σ.length=ρ.length
 sl:∀(i:Nat)(d:D),ρ[i]?=Z (Z (.v d))->∃v,σ[i]?=Z (Z v)/\Rp K Φ d v
 ow:∀(i:Nat)(a:Option Addr)(o:Om),ρ[i]?=Z (Z (.ob a o))->∃p,σ[i]?=Z (Z (.ref p))/\(∀q,a=Z q->q=p)/\OmS K Φ H o p (fp i)
 no:∀(i:Nat)(a:Option Addr)(o:Om),ρ[i]?=Z (Z (.ob a o))->∀b∈fp i,H0 b=ű/\Φ b=ű
 dj:∀(i j:Nat)(a a':Option Addr)(o o':Om),ρ[i]?=Z (Z (.ob a o))->ρ[j]?=Z (Z (.ob a' o'))->i≠j->∀b∈fp i,b∉fp j
 tb:TabF K Φ
noncomputable def EnvM(K:Â)(a e H:Hp)(f:St)(ρ:ai):Prop:=∃c,EnvM' K a e H f ρ c
section
variable{K:Â}{t H C f B I:Hp}{l J:St}{ρ G:ai}{w:Nat->Y Addr}{F F':Y Addr}{o A:Om}{p:Addr}{d:D}{v:V}{i:Nat}{a:Ų Addr}
theorem EnvM.fz(E:EnvM K t f H l ρ):Same f H:=let ⟨_,E⟩:=E;E.fz
theorem EnvM.tb(E:EnvM K t f H l ρ):TabF K f:=let ⟨_,E⟩:=E;E.tb
theorem EnvM.len(E:EnvM K t f H l ρ):l.length=ρ.length:=let ⟨_,E⟩:=E;E.len
theorem EnvM.sl(E:EnvM K t f H l ρ)(h:ρ[i]?=Z (Z (.v d))):∃v,l[i]?=Z (Z v)/\Rp K f d v:=let ⟨_,E⟩:=E;E.sl i d h
theorem EnvM'.gr(E:EnvM' K t f H l ρ w)(g:Gr f H B C):EnvM' K t B C l ρ w:=
 ⟨g.s,E.len,λi d h=>let ⟨v,e,r⟩:=E.sl i d h;⟨v,e,r.same g.f⟩,λi a o h=>let ⟨p,e,ha,r⟩:=E.ow i a o h;⟨p,e,ha,r.gr g⟩,
  λi a o h b c=>by
   let⟨p,_,_,r⟩:=E.ow i a o h;let⟨u,j,k⟩:=r.at b c
   show⟨(E.no i a o h b c).1,g.o b u j (E.no i a o h b c).2 k⟩,E.dj,E.tb.same g.f⟩
theorem EnvM.gr(E:EnvM K t f H l ρ)(g:Gr f H B C):EnvM K t B C l ρ:=let ⟨w,E⟩:=E;⟨w,E.gr g⟩
theorem EnvM.re(m:Nat->Nat)(E:EnvM K t f H l ρ)(M:J.length=G.length)(h:∀(i:Nat)(x:Sm),G[i]?=Z (Z x)->ρ[m i]?=Z (Z x)/\J[i]?=l[m i]?)
  (inj:∀(i j:Nat)(a g:Ų Addr)(o A:Om),G[i]?=Z (Z (.ob a o))->G[j]?=Z (Z (.ob g A))->m i=m j->i=j):EnvM K t f H J G:=by
 let⟨w,E⟩:=E;refine⟨λi=>w (m i),E.fz,M,λi d hd=>?_,λi a o u=>?_,λi a o u=>E.no _ a o (h i _ u).1,λi j a g o A y z c=>E.dj _ _ a g o A (h i _ y).1 (h j _ z).1 λe=>c (inj i j a g o A y z e),E.tb⟩
 ·let⟨v,e,r⟩:=E.sl _ d (h i _ hd).1;show⟨v,by rw[(h i _ hd).2];show e,r⟩
 ·let⟨p,e,r⟩:=E.ow _ a o (h i _ u).1;show⟨p,by rw[(h i _ u).2];show e,r⟩
theorem EnvM.take{u:St}{r:ai}(E:EnvM K t f H (l++u) (ρ++r))(h:ρ.length=l.length):EnvM K t f H l ρ:=
 E.re id h.symm (λi x c=>by
  have g:=bj c
  show⟨by rw[id,sg g];show c,by rw[id,sg ()]⟩) λi j _ _ _ _ _ _ e=>e
theorem EnvM'.take{z:St}{u:ai}(E:EnvM' K t f H (l++z) (ρ++u) w)(g:ρ.length=l.length):EnvM' K t f H l ρ w:=by
 have up:∀{i:Nat}{x:Sm},ρ[i]?=Z (Z x)->(ρ++u)[i]?=Z (Z x):=λh=>by rw[sg (bj h)];show h
 have c:∀{i:Nat}{x:Sm}{y:Ų V},ρ[i]?=Z (Z x)->(l++z)[i]?=Z y->l[i]?=Z y:=λh e=>by rwa [sg (by rw[←g];show bj h)]at e
 show⟨E.fz,g.symm,λi d h=>let ⟨v,e,r⟩:=E.sl i d (up h);⟨v,c h e,r⟩,λi a o h=>let ⟨p,e,r⟩:=E.ow i a o (up h);⟨p,c h e,r⟩,λi a o h=>E.no i a o (up h),λi j a M o A N O=>E.dj i j a M o A (up N) (up O),E.tb⟩
theorem EnvM.store{v:V}{x:Sm}(E:EnvM K t f H (l++[Z v]) (ρ++[Z x]))(i:Nat):EnvM K t f H (l.set i (Z v)) (ρ.set i (Z x)):=by
 have r:l.length=ρ.length:=by have:=E.len;simpa using this
 refine E.re (λj=>if j=i then ρ.length else j) (by rw[Ki,Ki,r]) (λj y g=>?_) λj k a N o A g u e=>?_
 ·by_cases c:j=i
  ·subst c
   have h:j<ρ.length:=by have:=bj g;rwa [Ki]at this
   rw[KR h]at g;cases g;rw[JX S,KR (),JU (J0 _),JU (),K3,r,K3];show⟨S,S⟩
  ·rw[KD (KW c)]at g;have h:=bj g;rw[JV c,KD (KW c),sg h,sg ()];show⟨g,S⟩
 ·have z:j<ρ.length:=by have:=bj g;rwa [Ki]at this
  have M:k<ρ.length:=by have:=bj u;rwa [Ki]at this
  have e:(if j=i then ρ.length else j)=(if k=i then ρ.length else k):=e;split at e<;>split at e<;>omega
theorem EnvM.snocV(E:EnvM K t f H l ρ)(r:Rp K f d v):EnvM K t f H (l++[Z v]) (ρ++[Z (.v d)]):=by
 let⟨w,E⟩:=E
 have old:∀{i:Nat}{a:Ų Addr}{o:Om},(ρ++[Z (Sm.v d)])[i]?=Z (Z (.ob a o))->ρ[i]?=Z (Z (.ob a o)):=λ{i a o} h=>by
  rcases KL i ρ.length with c|c
  ·rwa [sg c]at h
  ·rw[JU c]at h
   cases e:i-ρ.length with
   |zero=>rw[e]at h;cases h
   |succ n=>rw[e]at h;cases h
 refine⟨w,E.fz,by rw[wy,wy,E.len];rfl,λi d' h=>?_,λi a o h=>?_,λi a o h=>E.no i a o (old h),λi j a x o A g y=>E.dj i j a x o A (old g) (old y),E.tb⟩
 ·rcases KL i ρ.length with c|c
  ·rw[sg c]at h;let⟨u,e,r⟩:=E.sl i d' h;show⟨u,by rw[sg (by rw[E.len];show c)];show e,r⟩
  ·rw[JU c]at h
   cases e:i-ρ.length with
   |zero=>
    rw[e]at h;cases h;show⟨v,by rw[JU (by rw[E.len];show c),E.len,e];rfl,r⟩
   |succ n=>rw[e]at h;cases h
 ·let⟨p,e,r⟩:=E.ow i a o (old h);have g:=bj (old h);show⟨p,by rw[sg (by rw[E.len];show g)];show e,r⟩
theorem EnvM.snocO(E:EnvM K t f H l ρ)(s0:Same t H)(g:Gr f H B C)(ho:OmS K B C o p F)(am:∀b∈F,H b=ű/\B b=ű):EnvM K t B C (l++[Z (.ref p)]) (ρ++[Z (.ob ű o)]):=by
 let⟨w,E⟩:=E
 have old:∀b∈F,∀(i:Nat)(a:Ų Addr)(o:Om),ρ[i]?=Z (Z (.ob a o))->b∉w i:=λb y i a o h z=>by let⟨q,_,_,r⟩:=E.ow i a o h;let⟨u,X,_⟩:=r.at b z;rw[(am b y).1]at X;cases X
 have P:=E.gr g
 have O:∀{i:Nat}{x:Sm},(ρ++[Z (Sm.ob ű o)])[i]?=Z (Z x)->(i<ρ.length/\ρ[i]?=Z (Z x))\/(i=ρ.length/\x=.ob ű o):=λ{i x} h=>by
  rcases KL i ρ.length with c|c
  ·rw[sg c]at h;show .inl ⟨c,h⟩
  ·rw[JU c]at h
   cases e:i-ρ.length with
   |zero=>rw[e]at h;cases h;show .inr ⟨(),S⟩
   |succ n=>rw[e]at h;cases h
 refine⟨λi=>if i=ρ.length then F else w i,P.fz,by rw[wy,wy,E.len];rfl,λi d h=>?_,λi a A h=>?_,λi a A h b y=>?_,λi j a T ar aw Q M c b y N=>?_,P.tb⟩
 ·rcases O h with⟨c,h⟩|⟨_,h⟩
  ·let⟨v,e,r⟩:=P.sl i d h;show⟨v,by rw[sg (by rw[E.len];show c)];show e,r⟩
  ·cases h
 ·rcases O h with⟨c,h⟩|⟨c,h⟩
  ·let⟨q,e,r⟩:=P.ow i a A h;show⟨q,by rw[sg (by rw[E.len];show c)];show e,by rw[JV ()];show r⟩
  ·cases h;subst c;refine⟨p,by rw[JU (by rw[E.len];show J0 _),E.len,K3];rfl,(λq e=>by cases e),by rw[JX S];show ho⟩
 ·rcases O h with⟨c,h⟩|⟨c,h⟩
  ·rw[JV ()]at y;show P.no i a A h b y
  ·rw[JX c]at y;show⟨s0.free (am b y).1,(am b y).2⟩
 ·rcases O Q with⟨U,Q⟩|⟨U,Q⟩
  ·rw[JV ()]at y;rcases O M with⟨R,M⟩|⟨R,M⟩
   ·rw[JV ()]at N;show E.dj i j a T ar aw Q M c b y N
   ·rw[JX R]at N;show old b N i a ar Q y
  ·rw[JX U]at y;rcases O M with⟨R,M⟩|⟨R,M⟩
   ·rw[JV ()]at N;show old b y j T aw M N
   ·omega
theorem EnvM'.put(E:EnvM' K t f H l ρ w)(am:ρ[i]?=Z (Z (.ob a o)))(si:l[i]?=Z (Z (.ref p)))(aw:∀b u,H b=Z u->b∉w i->C b=Z u)(hO:OmS K f C A p F')(ar:∀b∈F',b∈w i\/(H b=ű/\t b=ű/\f b=ű)) :
  EnvM' K t f C l (ρ.set i (Z (.ob a A))) (λj=>if j=i then F' else w j):=by
 have Pf:=bj am
 have R:∀{j:Nat}{x:Sm},(ρ.set i (Z (Sm.ob a A)))[j]?=Z (Z x)->(j=i/\x=.ob a A)\/(j≠i/\ρ[j]?=Z (Z x)):=λ{j x} h=>by
  rcases iE h with⟨e,_,e1⟩|⟨e,h⟩
  ·cases e1;show .inl ⟨e,S⟩
  ·show .inr ⟨e,h⟩
 have nf:∀b∈F',∀(j:Nat)(M:Ų Addr)(y:Om),ρ[j]?=Z (Z (.ob M y))->j≠i->b∉w j:=λb g j M y N c z=>by
  rcases ar b g with h|⟨h,_⟩
  ·show E.dj j i M a y o N am c b z h
  ·let⟨q,_,_,r⟩:=E.ow j M y N;let⟨u,U,_⟩:=r.at b z;rw[h]at U;cases U
 refine⟨λb u e=>aw b u (E.fz b u e) λz=>?_,by rw[Ki,E.len],λj d h=>?_,λj M y h=>?_,λj M y h b g=>?_,λj k a1 a2 o1 y N O c b g Q=>?_,E.tb⟩
 ·rw[(E.no i a o am b z).2]at e;cases e
 ·rcases R h with⟨_,h⟩|⟨_,h⟩
  ·cases h
  ·show E.sl j d h
 ·rcases R h with⟨c,h⟩|⟨c,h⟩
  ·cases h;subst c;let⟨q,e,X,_⟩:=E.ow j a o am;rw[si]at e;cases e;show⟨p,si,X,by rw[JX S];show hO⟩
  ·let⟨q,e,X,r⟩:=E.ow j M y h;refine⟨q,e,X,?_⟩;rw[JV c];show r.keep (Same.refl _) λb g u U=>aw b u U λz=>E.dj j i M a y o h am c b g z
 ·rcases R h with⟨c,h⟩|⟨c,h⟩
  ·rw[JX c]at g;rcases ar b g with z|⟨_,z⟩
   ·show E.no i a o am b z
   ·show z
  ·rw[JV c]at g;show E.no j M y h b g
 ·rcases R N with⟨T,N⟩|⟨T,N⟩
  ·rw[JX T]at g;rcases R O with⟨P,O⟩|⟨P,O⟩
   ·omega
   ·rw[JV P]at Q;show nf b g k a2 y O P Q
  ·rw[JV T]at g;rcases R O with⟨P,O⟩|⟨P,O⟩
   ·rw[JX P]at Q;show nf b Q j a1 o1 N T g
   ·rw[JV P]at Q;show E.dj j k a1 a2 o1 y N O c b g Q
theorem EnvM'.grput(E:EnvM' K t f H l ρ w)(g:Gr I t f H)(h:ρ[i]?=Z (Z (.ob a o)))(c:∀b u,H b=Z u->b∉w i->C b=Z u):Gr I t f C:=
 ⟨g.f,λb u e=>c b u (g.h b u e) (λz=>by rw[(E.no i a o h b z).1]at e;cases e),λb u e=>c b u (g.s b u e) (λz=>by rw[(E.no i a o h b z).2]at e;cases e),λp u j r k=>g.o p u j r k⟩
theorem EnvM.list{ds:Y D}(E:EnvM K t f H l ρ)(g:Gr I t f H)(c:ρ[i]?=Z (Z (.ob a (.lst ds)))):∃q vs,l[i]?=Z (Z (.ref q))/\H q=Z (.lst vs)/\t q=ű/\f q=ű/\RpL K f ds vs /\
  ∀(h:Y D)(ws:Y V),RpL K f h ws->EnvM K t f (au H q (.lst ws)) l (ρ.set i (Z (.ob a (.lst h))))/\Gr I t f (au H q (.lst ws)):=by
 let⟨w,E⟩:=E;let⟨q,e,_,r⟩:=E.ow i a _ c;have j:=r.mem;have x:=E.no i a _ c q j;let⟨_,vs,N,O⟩:=r.lst_inv;refine⟨q,vs,e,N,x.1,x.2,O,λh ws M=>?_⟩
 have y:∀b u,H b=Z u->b∉w i->au H q (.lst ws) b=Z u:=λb u e Q=>by
  rw[aH λz=>Q (by rw[z];show j)];show e
 show⟨⟨_,E.put c e y (F':=[q]) (.lst aZ M) λb P=>.inl (by rw[J3.mp P];show j)⟩,E.grput g c y⟩
end
noncomputable def qP:Ų Sm->Ų Sl
 |some (.v d)=>Z (.v d)
 |some (.ob _ (.lst xs))=>Z (.own xs)
 |some (.ob _ (.map a))=>Z (.dct (a.map (·.1)))
 |some (.ob _ (.mpT a))=>Z (.dcT (a.map (·.1)))
 |_=>ű
noncomputable abbrev dc(ρ:ai):bE:=ρ.map qP
theorem lV{c:Type}{K:Â}{e:Hp}:∀{a:Y (c×D)}{b:Y (c×V)},Paired (fF K e) a b->b.map (·.1)=a.map (·.1)
 |_,_,.nil=>rfl
 |_,_,.cons r t=>by rw[Kk,Kk,lV t,r.1]
theorem EnvM.toD{K:Â}{F B H:Hp}{C:St}{ρ:ai}(E:EnvM K F B H C ρ):EnvD K F B H C (dc ρ):=by
 let⟨N,E⟩:=E
 have at_:∀{i:Nat}{x:Sl},(dc ρ)[i]?=Z (Z x)->∃y,ρ[i]?=Z (Z y)/\qP (Z y)=Z x:=λ{i x} h=>by
  rw[J4]at h
  cases e:ρ[i]? with
  |none=>rw[e]at h;cases h
  |some y=>
   rw[e]at h
   cases y with
   |none=>cases h
   |some y=>show⟨y,S,Kh h⟩
 have ow:∀{i:Nat}{o:Ow},(dc ρ)[i]?=Z (Z (.ob o))->∃a f p u,ρ[i]?=Z (Z (.ob a f))/\C[i]?=Z (Z (.ref p))/\p∈N i/\H p=Z u/\OwR K B o u:=λ{i o} h=>by
  let⟨y,t,e⟩:=at_ h
  cases y with
  |v d=>cases e
  |ob a f=>
   let⟨p,A,_,r⟩:=E.ow i a f t;refine⟨a,f,p,?_⟩
   cases f with
   |lst ds=>let⟨_,vs,g,l⟩:=r.lst_inv;cases e;show⟨_,t,A,r.mem,g,l⟩
   |map I=>let⟨_,vs,g,l⟩:=r.map_inv;cases e;show⟨_,t,A,r.mem,g,lV l⟩
   |mpT I=>let⟨_,vs,g,l⟩:=r.mpT_inv;cases e;show⟨_,t,A,r.mem,g,lV l⟩
   |obj nm fs=>cases e
   |ptr=>cases e
   |tl ps=>cases e
   |pr ds d=>cases e
 refine⟨E.fz,by rw[mn,E.len],λi d h=>?_,λi o h=>?_,λi j o w p Q R U X=>?_,E.tb⟩
 ·let⟨y,t,e⟩:=at_ h
  cases y with
  |v d'=>cases e;show E.sl i d t
  |ob a f=>cases f<;>cases e
 ·let⟨a,f,p,u,g,l,z,O,P⟩:=ow h;show⟨p,u,l,(E.no i a f g p z).1,(E.no i a f g p z).2,O,P⟩
 ·let⟨a,f,ar,u,g,l,z,_,_⟩:=ow Q;let⟨M,J,aw,u',am,G,T,_,_⟩:=ow R;rw[U]at l;cases l;rw[X]at G;cases G;rcases MA (i=j)with c|c
  ·show c
  ·show absurd T (E.dj i j a M f J g am c p z)
noncomputable def FH(h:Heap)(e:Addr)(vs:Array Value)(T:Ų Addr)(f:Value):Prop:=match T with
 |none=>vs[1]?=Z .none
 |some T=>vs[1]?=Z (.ref T)/\T≠e/\∃a c,h.get? T=Z a/\a.data=.fields c/\c[3]?=Z f
structure Fly(h:Heap)(e:Addr)(T:Option Addr)(fl cls:Value)(dx:Option Addr):Prop where
 ex:∃oe vs,h.get? e=Z oe/\oe.data=.fields vs/\oe.cls=cls/\oe.dict=dx/\FH h e vs T fl
structure Kept(fs:List Addr)(e:Addr)(T:Option Addr)(h h':Heap):Prop where
 keep:∀b o,h.get? b=Z o->b≠e->Z b≠T->b∉fs->h'.get? b=Z o
 slot:∀b o,h.get? b=Z o->b∈fs->∃sl,h'.get? b=Z { o with slots:=sl }
section
variable{M:ÿ}{A:È}{E:Value->À->Prop}{s:À}{base:Heap}{env:ê}{outer:Y ê}{L e:Addr}
theorem D9(o:Ð)(f:Array Value->Array Value):(o.mapFields f).dict=o.dict:=by let⟨c,d,a,sl⟩:=o;cases a<;>rfl
theorem xx{cls:Value}{B:Ų Addr}{l:Ð}{vs:Array Value}{f:Value}{r:Bool}{Q:Unit->À->Prop}(K:A.frames=Z (env::outer))(H:s.heap.FunFrames base (env::outer))(R:env.frame=Z L)
  (G:s.heap.get? e=Z l) (hd:l.data=.fields vs) (P:l.cls=cls) (U:l.dict=B) (J:1<vs.size)
  (k:∀h' w,Fly h' e (Z w) (rawInt L) cls B->s.heap.objs.size<=w->Kept (cG (env::outer)) e ű s.heap h'->Q Unit.unit { s with heap:=h' }) :
  wpAny M A (do let a ←frameOf env;let pl ←entryPlaceOf L r;let b ←EntryCells.newEntry f a .none (rawInt L) .none pl;setField (.ref e) 1 b) Q E s:=by
 have g:e∉cG (env::outer):=λam=>by let⟨_,o,I,N⟩:=H.mem am;rw[G]at I;cases I;show N vs hd
 refine JT (wpAny_frameOf_fun K H R λc x=>?_);refine JT (wpAny_entryPlaceOf λpl u=>?_);unfold EntryCells.newEntry newFields;refine JT (LD ?_ (u.sizeOk5 _ _ _ _ _));generalize j:({ cls:=.type "traceback",dict:=ű,data:=.fields ([f,.ref L,.none,rawInt L,.none]++(if pl.isEmpty then List.replicate 6 Value.none else pl)).toArray }:Ð)=ot;have C:c.get? e=Z l:=(x.2.1 e g).trans G;have F:=JW (h:=c) ot C;have v:c.objs.size≠e:=N5 (Ka C);refine MU F hd J (k _ c.objs.size ⟨?_⟩ ?_ ⟨λb o t O _ p=>?_,λb o t p=>?_⟩)
 ·have y:=Mv hd (·.setIfInBounds 1 (Value.ref c.objs.size));refine⟨_,_,LL _ F (Mz y),y,(Ń _ _).trans P,(D9 _ _).trans U,by simp[J],v,ot,_,?_,by rw[←j],?_⟩
  ·rw[Ls _ _ (KW v)];show Kb c (by rw[←j];rfl)
  ·first|(simp;done)|(rcases u with rfl|⟨_,_,_,_,_,_,_,rfl⟩<;>simp)
 ·show Mh x.1.symm
 ·rw[Ls _ _ (KW O)];show JW _ ((x.2.1 b p).trans t)
 ·let⟨sl,T⟩:=x.2.2 b o t;refine⟨sl,?_⟩;rw[Ls _ _ (λz=>g (by rw[z];show p))];show JW _ T
theorem Fly.live{h:Heap}{T:Ų Addr}{c cls:Value}{a:Ų Addr}(F:Fly h e T c cls a):∃o,h.get? e=Z o/\o.cls=cls/\o.dict=a/\∃vs,o.data=.fields vs:=by let⟨p,vs,f,g,j,l,_⟩:=F.ex;show⟨p,f,j,l,vs,g⟩
theorem la{vs:Array Value}{i:Nat}{x:Value}(h:vs[i]?=Z x):i<vs.size:=(Array.getElem?_eq_some_iff.mp h).1
theorem sX{T:Ų Addr}{cls:Value}{y:Ų Addr}{Q:Unit->À->Prop}(w:A.frames=Z (env::outer))(u:s.heap.FunFrames base (env::outer))(f:env.frame=Z L)(F:Fly s.heap e T .none cls y)
  (k:∀h' c,Fly h' e (Z c) (rawInt L) cls y->s.heap.objs.size<=c->Kept (cG (env::outer)) e T s.heap h'->Q Unit.unit { s with heap:=h' }):wpAny M A (ħ (.ref e) env) Q E s:=by
 let⟨U,vs,p,hd,C,H,G⟩:=F.ex;unfold ħ;simp only[f]
 cases T with
 |none=>
  have h:vs[1]?=Z .none:=G;refine JT (K2 p hd h ?_);rw[JV 'b'];show xx w u f p hd C H (la h) λh' c a1 a2 a3=>k h' c a1 a2 ⟨λb o a t x g=>a3.keep b o a t (by simp) g,a3.slot⟩
 |some T=>
  let⟨h,J,R,O,l,j,B⟩:=G;refine JT (K2 p hd h ?_);rw[JX (show (Value.ref T != Value.none)=ų from by simp)];refine JT (K2 l j B ?_);rw[JV (show ¬ ((Value.none==rawInt L)=ų)from by simp[rawInt])];refine JT (MU l j (la B) ?_);have r:∀b,b≠T->(s.heap.update T (è (·.setIfInBounds 3 Value.none))).get? b=s.heap.get? b:=λb a=>Ls _ _ (KW a)
  have I:∀b o,s.heap.get? b=Z o->(∀vs,o.data≠.fields vs)->b≠T:=λb o a f z=>by rw[z,l]at a;cases a;show f O j
  have N:=LL (è (·.setIfInBounds 3 Value.none)) l (Mz (Mv j _));refine xx (s:={ s with heap:=s.heap.update T (è (·.setIfInBounds 3 Value.none)) }) w (u.of_keeps λb o a f=>⟨o,(r b (I b o a f)).trans a,S⟩) f ((r e (KW J)).trans p) hd C H (la h) λh' c a1 a2 a3=>k h' c a1 ?_ ⟨λb o a t x g=>?_,λb o a g=>?_⟩
  ·have a2:(s.heap.update T (è (·.setIfInBounds 3 Value.none))).objs.size<=c:=a2;rw[Heap.size_after_update]at a2;show a2
  ·show a3.keep b o ((r b (λz=>x (by rw[z]))).trans a) t (by simp) g
  ·refine a3.slot b o ((r b (I b o a ?_)).trans a) g;let⟨_,P,v,K⟩:=u.mem g;rw[a]at v;cases v;show K
theorem rW{T:Addr}{w cls:Value}{p:Ų Addr}{Q:Unit->À->Prop}(F:Fly s.heap e (Z T) w cls p)
  (k:∀h',Fly h' e (Z T) .none cls p->(∀b o,s.heap.get? b=Z o->b≠T->h'.get? b=Z o)->(∀b,s.heap.get? b=ű->h'.get? b=ű)->Q Unit.unit { s with heap:=h' }):wpAny M A (Ť (.ref e) ű) Q E s:=by
 let⟨B,vs,u,hd,x,y,r,h,C,G,c,j,t⟩:=F.ex;have g:∀b,b≠T->(s.heap.update T (è (·.setIfInBounds 3 ((ű:Ų Addr).elim Value.none λf=>rawInt f)))).get? b=s.heap.get? b:=λb a=>Ls _ _ (KW a);unfold Ť;refine JT (K2 u hd r ?_);rw[JX (show (Value.ref T != Value.none)=ų from by simp)];have l:=Mv j (·.setIfInBounds 3 ((ű:Ų Addr).elim Value.none λf=>rawInt f));refine MU c j (la t) (k _ ⟨B,vs,(g e (KW h)).trans u,hd,x,y,r,h,_,_,LL _ c (Mz l),l,by simp[la t]⟩ (λb o a v=>(g b v).trans a) λb a=>?_);rw[g b (λz=>by rw[z,c]at a;cases a)];show a
theorem Jn{T:Ų Addr}{cls:Value}{g:Ų Addr}{Q:Unit->À->Prop}(u:A.frames=Z (env::outer))(C:s.heap.FunFrames base (env::outer))(B:env.frame=Z L)(F:Fly s.heap e T .none cls g)
  (k:∀h' c,Fly h' e (Z c) .none cls g->s.heap.objs.size<=c->Kept (cG (env::outer)) e T s.heap h'->Q Unit.unit { s with heap:=h' }):wpAny M A (leaving env (.ref e)) Q E s:=by
 unfold leaving;refine JT (sX u C B F λx c r p j=>?_);refine rW (s:={ s with heap:=x }) r λy t l H=>?_;have h:∀b o,s.heap.get? b=Z o->b≠c:=λb o a z=>absurd (Ka (z▸a:s.heap.get? c=Z o)) (Ng.mpr p);refine k y c t p ⟨λb o a v w f=>l b o (j.keep b o a v w f) (h b o a),λb o a f=>?_⟩;let⟨sl,G⟩:=j.slot b o a f;show⟨sl,l b _ G (h b o a)⟩
end
structure XD where
 nm:Str
 at_:Option D
noncomputable def kn(K:Â)(H:Hp)(at_:Ų D)(a:Ų Addr):Prop:=match at_ with
 |none=>a=ű
 |some d=>∃p v,a=Z p/\H p=Z (.xd [("at",v)])/\Rp K (λ_=>ű) d v
structure XSt(X:Cx)(pins:List (Addr×Ð))(σ:St)(H:Hp)(xd:XD)(e:Value)(s:À):Prop where
 inv:Inv X pins σ H s
 ex:∃(ea C:Addr)(T dx:Option Addr),e=.ref ea/\Fly s.heap ea T .none (.ref C) dx/\X.mg xd.nm=Z (.ref C)/\kn X.K H xd.at_ dx/\(X.s₀.heap.get? ea=ű/\H ea=ű/\∀p∈X.pn++pins,p.1≠ea)/\∀T',T=Z T'->X.s₀.heap.get? T'=ű/\H T'=ű/\∀p∈X.pn++pins,p.1≠T'
noncomputable def XeOk(K:Â)(X:Cx)(j l:Hp)(p:XD->ai->Prop):Prop:=∀o f c h g e s' a,p o f->Gr j l c h->EnvM K l c h g f->XSt X a g h o e s'->X.xe e s'
structure StM(K:Â)(X:Cx)(Φ0 H0 Φ H:Hp)(σ τ:St)(ρ κ:ai)(Rx:XD->ai->Prop):Prop where
 g:Gr Φ0 H0 Φ H
 l:ρ.length=σ.length
 E:EnvM K H0 Φ H (σ++τ) (ρ++κ)
 x:XeOk K X Φ0 H0 Rx
inductive Ar where|t (s:Sm)|s (i:Nat)
noncomputable abbrev TX:=ai->(Sm->ai->Prop)->(XD->ai->Prop)->Prop
noncomputable abbrev dD:=ai->(Bool->ai->Prop)->(XD->ai->Prop)->Prop
noncomputable abbrev cH:=ai->(Y Ar->ai->Prop)->(XD->ai->Prop)->Prop
noncomputable def dB(as:Y Ar):ai:=as.filterMap λa=>match a with|.t s=>Z (Z s)|.s _=>ű
inductive ArV(σ:St):List Ar->List V->St->Prop where
 |nil:ArV σ [] [] []
 |t {s:Sm} {v:V} {as:List Ar} {vs:List V} {ts:St}:ArV σ as vs ts->ArV σ (.t s::as) (v::vs) (Z v::ts)
 |s {i:Nat} {v:V} {as:List Ar} {vs:List V} {ts:St}:σ[i]?=Z (Z v)->ArV σ as vs ts->ArV σ (.s i::as) (v::vs) ts
inductive lXm(K:Â)(X:Cx)(t:TX)(σ:St)(H:Hp)(Q:VK):Prop|mk (Φ0:Hp) (H0:Hp) (Φ:Hp) (τ:St) (ρ:ai) (κ:ai) (R:Sm->ai->Prop) (Rx:XD->ai->Prop) (_:StM K X Φ0 H0 Φ H σ τ ρ κ Rx) (_:t ρ R Rx) (_:∀sm ρ' Φ' H' v,R sm ρ'->StM K X Φ0 H0 Φ' H' σ (τ++[Z v]) ρ' (κ++[Z sm]) Rx->Same Φ Φ'->Q v H')
inductive lXb(K:Â)(X:Cx)(t:dD)(σ:St)(H:Hp)(Q:Bool->Hp->Prop):Prop|mk (Φ0:Hp) (H0:Hp) (Φ:Hp) (τ:St) (ρ:ai) (κ:ai) (R:Bool->ai->Prop) (Rx:XD->ai->Prop) (_:StM K X Φ0 H0 Φ H σ τ ρ κ Rx) (_:t ρ R Rx) (_:∀b ρ' Φ' H',R b ρ'->StM K X Φ0 H0 Φ' H' σ τ ρ' κ Rx->Same Φ Φ'->Q b H')
inductive lXa(K:Â)(X:Cx)(n:Nat)(t:cH)(σ:St)(H:Hp)(Q:List V->Hp->Prop):Prop|mk (Φ0:Hp) (H0:Hp) (Φ:Hp) (τ:St) (ρ:ai) (κ:ai) (R:List Ar->ai->Prop) (Rx:XD->ai->Prop) (_:StM K X Φ0 H0 Φ H σ τ ρ κ Rx) (_:t ρ R Rx) (_:∀as ρ' Φ' H' vs ts,R as ρ'->as.length=n->ArV σ as vs ts->StM K X Φ0 H0 Φ' H' σ (τ++ts) ρ' (κ++dB as) Rx->Same Φ Φ'->Q vs H')
structure PX(K:Â)(X:Cx)(e:Ã)(t:TX):Prop where pe:X.K=K->PE X e (lXm K X t)
structure PXB(K:Â)(X:Cx)(e:Ã)(t:dD):Prop where pt:X.K=K->PT X e (lXb K X t)
structure PXW(K:Â)(X:Cx)(e:Ã)(t:dD):Prop where pw:X.K=K->PW X e (lXb K X t)
structure PXA(K:Â)(X:Cx)(es:List Ã)(t:cH):Prop where pa:X.K=K->PA X es (lXa K X es.length t)
section
variable{K:Â}{X:Cx}{a t f x H z:Hp}{l j A:St}{ρ c B:ai}{y:XD->ai->Prop}{d:D}{v:V}
theorem StM.gr(Q:StM K X a t f H l j ρ c y)(g:Gr f H x z):StM K X a t x z l j ρ c y:=⟨Q.g.trans g,Q.l,Q.E.gr g,Q.x⟩
theorem StM.env(Q:StM K X a t f H l j ρ c y):EnvM K t f H l ρ:=Q.E.take Q.l
theorem StM.lk(Q:StM K X a t f H l j ρ c y):c.length=j.length:=by have:=Q.E.len;rw[wy,wy]at this;have:=Q.l;omega
theorem StM.pop(Q:StM K X a t f H l (j++A) ρ (c++B) y)(e:c.length=j.length):StM K X a t f H l j ρ c y:=⟨Q.g,Q.l,by
 have E:=Q.E;rw[←Kg,←Kg]at E
 show E.take (by rw[wy,wy,Q.l,e]),Q.x⟩
theorem StM.pushV(Q:StM K X a t f H l j ρ c y)(r:Rp K f d v):StM K X a t f H l (j++[Z v]) ρ (c++[Z (.v d)]) y:=⟨Q.g,Q.l,by
 rw[←Kg,←Kg]
 show Q.E.snocV r,Q.x⟩
theorem StM.pushO{o:Om}{p:Addr}{F:Y Addr}(Q:StM K X a t f H l j ρ c y)(g:Gr f H x z)(h:OmS K x z o p F)(e:∀b∈F,H b=ű/\x b=ű):StM K X a t x z l (j++[Z (.ref p)]) ρ (c++[Z (.ob ű o)]) y:=⟨Q.g.trans g,Q.l,by
 rw[←Kg,←Kg]
 show Q.E.snocO Q.g.h g h e,Q.x⟩
theorem StM.at(Q:StM K X a t f H l j ρ c y){i:Nat}(h:c[i]?=Z (Z (.v d))):∃v,j[i]?=Z (Z v)/\Rp K f d v:=by have g:=bj h;let⟨v,e,r⟩:=Q.E.sl (i:=ρ.length+i) (d:=d) (by rw[JU (),Mq];show h);rw[Q.l,JU (),Mq]at e;show⟨v,e,r⟩
theorem StM.last(Q:StM K X a t f H l (j++[Z v]) ρ (c++[Z (.v d)]) y):Rp K f d v:=by
 have g:=Q.lk;rw[wy,wy]at g
 have g:c.length=j.length:=by simpa using g
 let⟨u,e,r⟩:=Q.at (i:=c.length) (d:=d) (by rw[JU (J0 _),K3];rfl);rw[g,JU (J0 _),K3]at e;cases e;show r
theorem StM.last2{e:D}{w:V}(Q:StM K X a t f H l ((j++[Z v])++[Z w]) ρ ((c++[Z (.v d)])++[Z (.v e)]) y):Rp K f d v/\Rp K f e w:=by
 refine⟨?_,Q.last⟩;have g:=Q.lk;simp only[wy,J1,K5]at g
 have g:c.length=j.length:=by omega
 show (Q.pop (by simp only[wy,J1,K5];omega)).last
end
section
variable{K:Â}{X:Cx}{e a b c:Ã}{A:Y Ã}{l p:Õ}{t B tb:TX}{G:cH}{I J:dD}
noncomputable def xD(t:TD):TX:=λρ R _=>t (dc ρ) λd=>R (.v d) ρ
theorem ag{t:TD}(h:PD K X e t):PX K X e (xD t):=⟨λw=>(h.pe w).imp λF H Q u=>by
 let⟨z,o,y,M,ρ,E,R,C,U,t,k⟩:=u
 show⟨o,y,dc ρ,_,U.env.toD,t,λd f j v r g x=>k _ ρ f j v r ((U.gr g).pushV x) g.f⟩⟩
noncomputable def xF(t:bc):TX:=λρ R _=>t (dc ρ) λds=>R (.own ds) ρ
theorem eO{t:bc}(h:PF K X e t):PX K X e (xF t):=⟨λw=>(h.pe w).imp λO H Q u=>by
 let⟨F,o,E,P,ρ,N,R,M,U,t,k⟩:=u
 show⟨o,E,dc ρ,_,U.env.toD,t,λds f j p vs r g v y z C=>k _ ρ f j _ r (U.pushO g (.lst z C) λb x=>by rw[J3.mp x];show⟨v,y⟩) g.f⟩⟩
noncomputable def xB(t:cg):dD:=λρ R _=>t (dc ρ) λb=>R b ρ
theorem aM{t:cg}(h:PTD K X e t):PXB K X e (xB t):=⟨λv=>(h.pt v).imp λC H Q u=>by
 let⟨x,o,w,E,ρ,z,R,y,U,t,k⟩:=u
 show⟨o,w,dc ρ,_,U.env.toD,t,λb f j r g=>k b ρ f j r (U.gr g) g.f⟩⟩
noncomputable def xV(k:D->ai->Prop):Sm->ai->Prop:=λs ρ=>match s with|.v d=>k d ρ|_=>False
theorem xV.get{k:D->ai->Prop}{s:Sm}{ρ:ai}(h:xV k s ρ):∃d,s=.v d/\k d ρ:=by
 cases s with
 |v d=>show⟨d,S,h⟩
 |ob _ _=>show h.elim
noncomputable def jM(r:cB)(B tb:TX):TX:=λρ R h=>B ρ (xV λx f=>tb f (xV λy g=>r x y λd=>R (.v d) g) h) h
theorem ny{r:cB}{T:St}{H:Hp}{Q:VK}(h:lXm K X (jM r B tb) T H Q):g6 (lR2 K r) (lXm K X B) (lXm K X tb) T H Q:=by let⟨f,O,Φ,τ,ρ,κ,R,P,am,t,k⟩:=h;refine⟨f,O,Φ,τ,ρ,κ,_,P,am,t,λs1 M E H1 v o ar aw=>?_⟩;let⟨x,rfl,o⟩:=o.get;refine⟨f,O,E,_,M,_,_,P,ar,o,λs2 N F H2 w z j f2=>?_⟩;let⟨y,rfl,z⟩:=z.get;let⟨rx,ry⟩:=j.last2;refine⟨F,x,y,_,j.g.s,.inl rx,.inl ry,z,λd C U u rd g ru=>?_⟩;rw[Kg,Kg]at j;show k _ N C U u rd (((j.pop am.lk).gr g).pushV ru) ((aw.trans f2).trans g.f)
theorem hX{g:ñ}{r:cB}(o:OpD K X (Í g) r)(h:PX K X a B)(j:PX K X b tb):PX K X (.BinOp a g b l) (jM r B tb):=
 ⟨λf=>(rJ (o.o f) (h.pe f) (j.pe f)).imp λ_ _ _=>ny⟩
noncomputable def vN(t:TX):dD:=λρ R g=>t ρ (xV λd f=>match d with|.bl b=>R b f|_=>False) g
theorem Jj{r:cB}{w:St}{H:Hp}{Q:Bool->Hp->Prop}(h:lXb K X (vN (jM r B tb)) w H Q):qD (g6 (lR2 K r) (lXm K X B) (lXm K X tb)) w H Q:=by
 let⟨g,y,M,O,ρ,N,R,C,U,t,k⟩:=h;refine ny ⟨g,y,M,O,ρ,N,_,C,U,t,λP o j z v f u E=>?_⟩;let⟨x,rfl,f⟩:=f.get;have F:=u.last;let⟨b,rfl,f⟩:=jm f;obtain rfl:=F.b;show⟨b,S,k b o j z f (u.pop U.lk) E⟩
theorem sR{g:Ċ}{r:cB}(u:OpD K X (Æ g) r)(h:PX K X a B)(j:PX K X b tb)(o:behindInMarks g b=Ŵ):PXB K X (.Compare a [g] [b] l) (vN (jM r B tb)):=
 ⟨λf=>(uP (u.o f) (h.pe f) (j.pe f) o).imp λ_ _ _=>Jj⟩
noncomputable def Af(t u:dD):dD:=λρ R g=>t ρ (λc f=>(c=ų->u f R g)/\(c=Ŵ->R Ŵ f)) g
theorem PXW.toB(h:PXW K X e I):PXB K X e I:=⟨λf=>(h.pw f).pt⟩
theorem Cj(g:PXB K X a I):PXW K X (.BoolOp .And [a] l) I:=⟨λf=>wG (g.pt f)⟩
theorem Es(P:PXB K X a I)(T:PXW K X (.BoolOp .And (b::A) l) J):PXW K X (.BoolOp .And (a::b::A) l) (Af I J):=
 ⟨λx=>(yb (P.pt x) (T.pw x)).imp λaw H Q M=>by
  let⟨f,r,ar,C,ρ,z,R,u,am,t,k⟩:=M;refine⟨f,r,ar,C,ρ,z,_,u,am,t,λc h g F y v w=>?_⟩
  cases c with
  |true=>rw[JX S];show⟨f,r,g,C,h,z,R,u,v,y.1 S,λb o j E U N O=>k b o j E U N (w.trans O)⟩
  |false=>rw[JV 'b'];show k _ h g F (y.2 S) v w⟩
noncomputable def xJ:cH:=λρ R _=>R [] ρ
noncomputable def Ao(t:TX)(u:cH):cH:=λρ R h=>t ρ (λs f=>u f (λas g=>R (.t s::as) g) h) h
noncomputable def yz(i:Nat)(u:cH):cH:=λρ R g=>u ρ (λas f=>R (.s i::as) f) g
theorem bJ:PXA K X [] xJ:=⟨λ_=>pa_nil.imp λu H Q f=>by
 let⟨h,j,g,v,ρ,r,R,o,U,t,k⟩:=f
 show k [] ρ g H [] [] t S .nil (by rw[Ku,show dB []=[]from rfl,Ku];show U) (Same.refl _)⟩
theorem bA(M:PX K X e t)(O:PXA K X A G)(P:starEach (e::A) X.env=(Ŵ,eval e X.env)::starEach A X.env):PXA K X (e::A) (Ao t G):=
 ⟨λx=>(cC (M.pe x) (O.pa x) P).imp λσ H Q z=>by
  let⟨f,r,Φ,τ,ρ,κ,R,u,am,t,k⟩:=z;refine⟨f,r,Φ,τ,ρ,κ,_,u,am,t,λs1 j g H1 v U C E=>?_⟩;refine⟨f,r,g,_,j,_,_,u,C,U,λas o h y vs aw ar N T w F=>?_⟩;refine k _ o h y (v::vs) (Z v::aw) ar (by rw[J1,J1,N]) (.t T) ?_ (E.trans F);rw[Kg,Kg]at w
  show w⟩
theorem b9(i:Nat){x:Str}(P:PXA K X A G)(T:starEach (.Name x l::A) X.env=(Ŵ,eval (.Name x l) X.env)::starEach A X.env)(M:X.N[i]?=Z x:=by rfl)(g:b7 X.env.scope x:=by nofun)(hd:ad x:=by decide)
  (w:ap x:=by decide):PXA K X (.Name x l::A) (λρ R f=>(∃a o,ρ[i]?=Z (Z (.ob a o)))/\yz i G ρ R f):=
 ⟨λF=>(cC (pv i M g hd w) (P.pa F) T).imp λσ H Q y=>by
  let⟨h,u,aw,τ,ρ,κ,R,f,am,⟨⟨a,o,O⟩,t⟩,k⟩:=y;let⟨fp,E⟩:=am.env;let⟨q,e,_⟩:=E.ow i a o O;refine⟨_,e,h,u,aw,τ,ρ,κ,_,f,am,t,λas r j v vs ar U N g z C=>?_⟩
  show k _ r j v (.ref q::vs) ar U (by rw[J1,J1,N]) (.s e g) z C⟩
noncomputable def gz:Y Ar->Ų (Y D)
 | []=>Z []
 |.t (.v d)::as=>(gz as).map (d::·)
 |_=>ű
noncomputable def xaD(k:Y D->ai->Prop):Y Ar->ai->Prop:=λas ρ=>match gz as with|some ds=>k ds ρ|none=>False
theorem xaD.get{k:Y D->ai->Prop}{as:Y Ar}{ρ:ai}(h:xaD k as ρ):∃ds,gz as=Z ds/\k ds ρ:=by
 unfold xaD at h;split at h
 ·next ds e=>show⟨ds,e,h⟩
 ·show h.elim
theorem px:∀{as:Y Ar}{ds:Y D},gz as=Z ds->dB as=ds.map (λd=>Z (.v d))/\as.length=ds.length
 | [],ds,h=>by cases h;show⟨S,S⟩
 |.t (.v d)::as,ds,h=>by
  have h':(gz as).map (d::·)=Z ds:=h
  cases e:gz as with
  |none=>rw[e]at h';cases h'
  |some A=>
   rw[e]at h';cases h';let⟨f,g⟩:=px e;show⟨by change Z (Sm.v d)::dB as=_;rw[f];rfl,by rw[J1,J1,g]⟩
 |.t (.ob _ _)::_,_,h=>by cases h
 |.s _::_,_,h=>by cases h
theorem IP{u:St}:∀{as:Y Ar}{ds:Y D}{vs:Y V}{f:St},gz as=Z ds->ArV u as vs f->f=vs.map Z:=by
 intro as ds vs f h g
 induction g generalizing ds with
 |nil=>rfl
 | @t r v as vs f g j=>
  cases r with
  |v d=>
   have h':(gz as).map (d::·)=Z ds:=h
   cases e:gz as with
   |none=>rw[e]at h';cases h'
   |some A=>rw[j e];rfl
  |ob a o=>cases h
 |s=>cases h
theorem StM.vals{g E y H:Hp}{z C x:St}{ρ h:ai}{M:XD->ai->Prop}{as:Y Ar}{ds:Y D}{vs:Y V}(U:StM K X g E y H z (C++x) ρ (h++dB as) M)(O:h.length=C.length)(hd:gz as=Z ds)(P:ArV z as vs x):RpL K y ds vs:=by
 have j:=IP hd P;let⟨o,Q⟩:=px hd
 have f:vs.length=ds.length:=by have:=U.lk;rw[wy,wy,j,o,mn,mn]at this;omega
 refine⟨f,λi v d N F=>?_⟩;let⟨w,u,r⟩:=U.at (i:=h.length+i) (d:=d) (by rw[JU (),Mq,o,J4,F];rfl);rw[O,JU (),Mq,j,J4,N]at u;cases u;show r
noncomputable def GW(t:cH):TX:=λρ R g=>t ρ (xaD λds f=>R (.v (.tup ds)) f) g
theorem vp{x1}(h:PXA K X A G)(y:Nat.ble A.length 1000=ų:=by rfl):PX K X (.Tuple A x1 l) (GW G):=
 ⟨λC=>(pR (h.pa C)).imp λar H Q w=>by
  let⟨o,v,M,P,ρ,O,R,x,am,t,k⟩:=w;refine⟨o,v,M,P,ρ,O,_,x,am,t,λas r N T vs U j E F f z=>?_⟩;let⟨ds,hd,j⟩:=j.get;have rl:=f.vals am.lk hd F;refine⟨by rw[rl.1,←(px hd).2,E];show mD y,λp u=>?_⟩;have g:=Gr.new f.g.s u (.tup vs)
  show k _ r _ _ _ j (((f.pop am.lk).gr g).pushV ((rl.same (cR (f.g.s.free u) _)).tup aZ)) (z.trans g.f)⟩
noncomputable def yT(t:cH):TX:=λρ R g=>t ρ (xaD λds f=>R (.own ds) f) g
theorem Jr(h:PXA K X A G)(y:Nat.ble A.length 1000=ų:=by rfl):PX K X (.List A l) (yT G):=
 ⟨λC=>(yi (h.pa C)).imp λaw H Q w=>by
  let⟨r,v,N,T,ρ,P,R,x,am,t,k⟩:=w;refine⟨r,v,N,T,ρ,P,_,x,am,t,λas u O U vs ar o F M f z=>?_⟩;let⟨ds,hd,o⟩:=o.get;have rl:=f.vals am.lk hd M;refine⟨by rw[rl.1,←(px hd).2,F];show mD y,λp j=>?_⟩;have g:=Gr.fresh f.g.s j (.lst vs)
  show k _ u _ _ _ o ((f.pop am.lk).pushO g (.lst aZ rl) λb E=>by rw[J3.mp E];show⟨j,f.g.s.free j⟩) z⟩
noncomputable def GS(t:TX):TX:=λρ R g=>t ρ (λs f=>match s with|.ob ű (.lst ds)=>R (.v (.lst ds)) f|_=>False) g
theorem StM.fzl{N R P H:Hp}{aw Q:St}{ρ g:ai}{Rx:XD->ai->Prop}{v:V}{ds:Y D}(am:StM K X N R P H aw (Q++[Z v]) ρ (g++[Z (.ob ű (.lst ds))]) Rx):∃M,StM K X N R M H aw (Q++[Z v]) ρ (g++[Z (.v (.lst ds))]) Rx/\Same P M:=by
 have hk:g.length=Q.length:=by have:=am.lk;rw[wy,wy]at this;simpa using this
 let⟨fp,E⟩:=am.E
 have T:(ρ++(g++[Z (Sm.ob ű (.lst ds))]))[ρ.length+g.length]?=Z (Z (.ob ű (.lst ds))):=by rw[←Kg,JU (by rw[wy];omega),wy,K3];rfl
 let⟨p,e,_,r⟩:=E.ow _ _ _ T;have ar:=r.mem;have no:=E.no _ _ _ T
 have ev:v=.ref p:=by
  rw[←Kg,JU (by rw[wy,am.l];omega),wy,am.l,hk,K3]at e;cases e;rfl
 subst ev;let⟨_,vs,h1,h2⟩:=r.lst_inv
 next=>
  have hn:=(no p ar).2;have h0:=(no p ar).1;have F:=cR hn (.lst vs);refine⟨au P p (.lst vs),⟨am.g.freeze h0 hn h1,am.l,?_,am.x⟩,F⟩
  have E0:EnvM K R (au P p (.lst vs)) H (aw++Q) (ρ++g):=by
   refine⟨fp,λb u O=>?_,by rw[wy,wy,am.l,hk],λj d hd=>?_,λj a o y=>?_,λj a o y b hb=>?_,λj k a a' o o' f x c=>?_,E.tb.same F⟩
   ·by_cases c:b=p
    ·subst c;rw[aZ]at O;cases O;show h1
    ·rw[aH c]at O;show E.fz b u O
   ·have f:=bj hd;let⟨w,C,U⟩:=E.sl j d (by rw[←Kg,sg f];show hd);rw[←Kg,sg (by rw[wy]at f ⊢;have:=am.l;omega)]at C;show⟨w,C,U.same F⟩
   ·have f:=bj y;let⟨w,C,ha,U⟩:=E.ow j a o (by rw[←Kg,sg f];show y);rw[←Kg,sg (by rw[wy]at f ⊢;have:=am.l;omega)]at C;show⟨w,C,ha,U.keep F λ_ _ _ h=>h⟩
   ·have f:=bj y
    have PN:(ρ++(g++[Z (Sm.ob ű (.lst ds))]))[j]?=Z (Z (.ob a o)):=by rw[←Kg,sg f];show y
    have c:b≠p:=λz=>E.dj j _ a _ o _ PN T (by rw[wy]at f;omega) b hb (by rw[z];show ar);rw[aH c];show E.no j a o PN b hb
   ·have UA:=bj f;have Vs:=bj x;show E.dj j k a a' o o' (by rw[←Kg,sg UA];show f) (by rw[←Kg,sg Vs];show x) c
  rw[←Kg,←Kg];show E0.snocV ((h2.same F).lst aZ)
theorem vV(h:PX K X e t):PX K X e (GS t):=⟨λF=>(h.pe F).imp λU H Q w=>by
 let⟨g,r,M,P,ρ,O,R,x,am,t,k⟩:=w;refine⟨g,r,M,P,ρ,O,_,x,am,t,λT o N u v f y C=>?_⟩;split at f
 ·next ds=>
  let⟨j,z,E⟩:=y.fzl;show k _ o j u v f z (C.trans E)
 ·show f.elim⟩
noncomputable def AD(r:cP)(t:cH):TX:=λρ R g=>t ρ (xaD λds f=>r ds λd=>R (.v d) f) g
theorem Az{n:Nat}{x:Str}{ps:Y Str}{z:cP}(C:Cl X.prog X.w K X.mg X.base n x ps z)(hr:Room n X.A)(hg:Gl X x)
  (ha:PXA K X (e::A) G) (he:starEach (e::A) X.env=(Ŵ,eval e X.env)::starEach A X.env) (P:(backTo l (starEach A X.env)).any (·.1)=Ŵ) (T:ad x:=by decide) :
  PX K X (.Call (.Name x p) (e::A) [] l) (AD z G):=⟨λj=>by
 let⟨f,aw,F,b,k,m⟩:=C.ex;refine (qJ (dvs:=[]) (ds:=[]) (E:=E0) (j▸F:FnOk X.prog X.w X.K X.mg X.base bt n f aw ps (lSp K z)) hr hg m (j▸k) (j▸b) .nil mS (ha.pa j) T he P).imp λσ H Q O=>?_;let⟨u,N,Φ,τ,ρ,κ,R,U,am,t,k⟩:=O;refine⟨u,N,Φ,τ,ρ,κ,_,U,am,t,λas y w H1 vs ts o hl hv h ar=>?_⟩;let⟨ds,hd,o⟩:=o.get;have rl:=h.vals am.lk hd hv
 show⟨w,ds,_,h.g.s,h.E.tb,by rw[Ku];show rl,o,λd r M v rd g rv=>k _ y r M v rd (((h.pop am.lk).gr g).pushV rv) (ar.trans g.f)⟩⟩
end
noncomputable def bI(H:Hp)(B:Y Addr):Hp:=λb=>if b∈B then ű else H b
theorem wA{H:Hp}{B:Y Addr}{b:Addr}(h:b∈B):bI H B b=ű:=JX h
theorem gD{H:Hp}{B:Y Addr}{b:Addr}(h:b∉B):bI H B b=H b:=JV h
theorem sA{H:Hp}{B:Y Addr}{b:Addr}{u:HO}(h:bI H B b=Z u):b∉B/\H b=Z u:=by
 unfold bI at h;split at h
 ·cases h
 ·next c=>show⟨c,h⟩
theorem vb{H:Hp}{B:Y Addr}:Same (bI H B) H:=λb u e=>(sA e).2
noncomputable abbrev cJ:=Y Sm->(Sm->Y Om->Prop)->(XD->Y Om->Prop)->Prop
inductive ArgM(K:Â)(Φ H:Hp):List Sm->List V->List (List Addr)->Prop where
 |nil:ArgM K Φ H [] [] []
 |v {d:D} {v:V} {as:List Sm} {vs:List V} {Fs:List (List Addr)}:Rp K Φ d v->ArgM K Φ H as vs Fs->ArgM K Φ H (.v d::as) (v::vs) ([]::Fs)
 |o {a:Option Addr} {o:Om} {p:Addr} {F:List Addr} {as:List Sm} {vs:List V} {Fs:List (List Addr)}:OmS K Φ H o p F->ArgM K Φ H as vs Fs->ArgM K Φ H (.ob a o::as) (.ref p::vs) (F::Fs)
inductive OutM(K:Â)(Φ H:Hp):List Sm->List V->List Om->List (List Addr)->Prop where
 |nil:OutM K Φ H [] [] [] []
 |v {d:D} {v:V} {as:List Sm} {vs:List V} {os:List Om} {Fs:List (List Addr)}:OutM K Φ H as vs os Fs->OutM K Φ H (.v d::as) (v::vs) os ([]::Fs)
 |o {a:Option Addr} {o o':Om} {p:Addr} {F:List Addr} {as:List Sm} {vs:List V} {os:List Om} {Fs:List (List Addr)}:OmS K Φ H o' p F->OutM K Φ H as vs os Fs->OutM K Φ H (.ob a o::as) (.ref p::vs) (o'::os) (F::Fs)
inductive ResM(K:Â)(Φ H:Hp):Sm->V->List Addr->Prop where
 |v {d:D} {v:V}:Rp K Φ d v->ResM K Φ H (.v d) v []
 |o {a:Option Addr} {o:Om} {p:Addr} {F:List Addr}:(∀q,a=Z q->q=p)->OmS K Φ H o p F->ResM K Φ H (.ob a o) (.ref p) F
inductive lSpM(K:Â)(sp:cJ)(vs:List V)(H:Hp)(Q:VK)(E_:XK):Prop|mk (Φ:Hp) (as:List Sm) (Fs:List (List Addr)) (R:Sm->List Om->Prop) (Rx:XD->List Om->Prop) (_:Same Φ H) (_:TabF K Φ) (_:ArgM K Φ H as vs Fs) (_:Fs.flatten.Nodup) (_:(∀b∈Fs.flatten,Φ b=ű)) (_:sp as R Rx) (_:∀sm os Φ' H' v F O7,R sm os->Gr Φ (bI H Fs.flatten) Φ' H'->ResM K Φ' H' sm v F->OutM K Φ' H' as vs os O7->(F++O7.flatten).Nodup->(∀b∈F++O7.flatten,bI H Fs.flatten b=ű/\Φ' b=ű)->Q v H')
theorem OmS.nodup{K:Â}{a H:Hp}{o:Om}{p:Addr}{F:Y Addr}(h:OmS K a H o p F):F.Nodup:=by
 cases h with
 |lst _ _=>simp
 |map _ _=>simp
 |mpT _ _=>simp
 |obj _ _ _ h=>show h
 |ptr=>show .nil
 |tl _ _ h=>show h
 |pr _ _ _ _=>simp
theorem ArgM.len{K:Â}{e H:Hp}{as:Y Sm}{vs:Y V}{c:Y (Y Addr)}(h:ArgM K e H as vs c):vs.length=as.length/\c.length=as.length:=by
 induction h with
 |nil=>show⟨S,S⟩
 |v _ _ a=>show⟨by simp[a.1],by simp[a.2]⟩
 |o _ _ a=>show⟨by simp[a.1],by simp[a.2]⟩
section
variable{K:Â}{t H I y l G:Hp}{C:St}{ρ w:ai}{f:Nat->Y Addr}{F F' B:Y Addr}{o A:Om}{p:Addr}{d:D}{v:V}{i:Nat}{a:Ų Addr}
noncomputable def gH(new:Nat->Ų (Om×Y Addr))(f:Nat->Y Addr):Nat->Y Addr:=λi=>match new i with|some q=>q.2|none=>f i
theorem EnvM'.lend{new:Nat->Ų (Om×Y Addr)}(E:EnvM' K t y H C ρ f)(s0:Same t H)(hB:∀b,b∈B->∃i a o q,new i=Z q/\ρ[i]?=Z (Z (.ob a o))/\b∈f i)(hB2:∀i q,new i=Z q->∀b∈f i,b∈B)(g:Gr y (bI H B) l I)
  (hl:w.length=ρ.length) (hv:∀(i:Nat)(d:D),w[i]?=Z (Z (.v d))->ρ[i]?=Z (Z (.v d)))
  (T:∀(i:Nat)(a:Ų Addr)(o:Om),w[i]?=Z (Z (.ob a o))->(new i=ű/\ρ[i]?=Z (Z (.ob a o)))\/∃ar F',new i=Z (o,F')/\ρ[i]?=Z (Z (.ob a ar)))
  (hn:∀(i:Nat)(q:Om×Y Addr),new i=Z q->∃p,C[i]?=Z (Z (.ref p))/\OmS K l I q.1 p q.2) (hF:∀(i:Nat)(q:Om×Y Addr),new i=Z q->∀b∈q.2,bI H B b=ű/\l b=ű)
  (hd:∀(i j:Nat)(q r:Om×Y Addr),new i=Z q->new j=Z r->i≠j->∀b∈q.2,b∉r.2):EnvM' K t l I C w (gH new f):=by
 have B0:∀b∈B,t b=ű:=λb J=>let ⟨i,a,o,_,_,h,hm⟩:=hB b J;(E.no i a o h b hm).1
 have P:∀{i:Nat}{a:Ų Addr}{o:Om},new i=ű->ρ[i]?=Z (Z (.ob a o))->∀b∈f i,b∉B:=λ{i a o} aw h b J z=>by
  let⟨j,am,o2,q,hj,M,hm⟩:=hB b z
  have c:i≠j:=λe=>by rw[e,hj]at aw;cases aw
  show E.dj i j a am o o2 h M c b J hm
 have Q:∀{i:Nat},new i=ű->gH new f i=f i:=λh=>by unfold gH;rw[h]
 have R:∀{i:Nat}{q:Om×Y Addr},new i=Z q->gH new f i=q.2:=λh=>by unfold gH;rw[h]
 refine⟨g.s,by rw[hl];show E.len,λi d h=>?_,λi a o h=>?_,λi a o h b J=>?_,λi j a am o A aw hj c b J O=>?_,E.tb.same g.f⟩
 ·let⟨v,e,r⟩:=E.sl i d (hv i d h);show⟨v,e,r.same g.f⟩
 ·rcases T i a o h with⟨x,M⟩|⟨ar,F',x,M⟩
  ·let⟨p,e,ha,r⟩:=E.ow i a o M;refine⟨p,e,ha,?_⟩;rw[Q x];show r.keep g.f λb J u U=>g.h b u (by rw[gD (P x M b J)];show U)
  ·let⟨p,e,ha,_⟩:=E.ow i a ar M;let⟨p',e',r⟩:=hn i _ x;rw[e]at e';cases e';show⟨p,e,ha,by rw[R x];show r⟩
 ·rcases T i a o h with⟨x,M⟩|⟨ar,F',x,M⟩
  ·rw[Q x]at J;let⟨p,_,_,r⟩:=E.ow i a o M;let⟨u,U,k⟩:=r.at b J;show⟨(E.no i a o M b J).1,g.o b u (by rw[gD (P x M b J)];show U) (E.no i a o M b J).2 k⟩
  ·rw[R x]at J;let⟨z1,z2⟩:=hF i _ x b J;refine⟨?_,z2⟩;rcases MA (b∈B)with c|c
   ·show B0 b c
   ·rw[gD c]at z1
    cases e:t b with
    |none=>rfl
    |some u=>rw[s0 b u e]at z1;cases z1
 ·have no:∀{i j:Nat}{q:Om×Y Addr}{a:Ų Addr}{o:Om},new i=Z q->new j=ű->ρ[j]?=Z (Z (.ob a o))->b∈q.2->b∈f j->False:=λ{i j q a o} x M h3 h4 h5=>by
   let⟨p,_,_,r⟩:=E.ow j a o h3;let⟨u,U,_⟩:=r.at b h5;have:=(hF i q x b h4).1;rw[gD (P M h3 b h5),U]at this;cases this
  rcases T i a o aw with⟨x,M⟩|⟨ar,F',x,M⟩
  ·rw[Q x]at J;rcases T j am A hj with⟨N,X⟩|⟨o1,F1,N,X⟩
   ·rw[Q N]at O;show E.dj i j a am o A M X c b J O
   ·rw[R N]at O;show no N x M O J
  ·rw[R x]at J;rcases T j am A hj with⟨N,X⟩|⟨o1,F1,N,X⟩
   ·rw[Q N]at O;show no x N X J O
   ·rw[R N]at O;show hd i j _ _ x N c b J O
theorem Gr.lend(c:Gr G t y H)(g:Gr y (bI H B) l I)(j:∀b∈B,t b=ű):Gr G t l I:=by
 have up:∀{b:Addr}{u:HO},t b=Z u->bI H B b=Z u:=λ{b u} e=>by
  rw[gD λz=>by rw[j b z]at e;cases e];show c.h b u e
 show⟨c.f.trans g.f,λb u e=>g.h b u (up e),g.s,λb u h r k=>g.o b u (up h) (c.o b u h r k) k⟩
theorem EnvM'.snocG(E:EnvM' K t y H C ρ f){sm:Sm}(X:ResM K y H sm v F)(T:∀b∈F,t b=ű/\y b=ű)(hd:∀b∈F,∀(i:Nat)(a:Ų Addr)(o:Om),ρ[i]?=Z (Z (.ob a o))->b∉f i):EnvM K t y H (C++[Z v]) (ρ++[Z sm]):=by
 cases X with
 |v r=>show EnvM.snocV ⟨f,E⟩ r
 | @o a0 o p F O U=>
  have J:∀{i:Nat}{x:Sm},(ρ++[Z (Sm.ob a0 o)])[i]?=Z (Z x)->(i<ρ.length/\ρ[i]?=Z (Z x))\/(i=ρ.length/\x=.ob a0 o):=λ{i x} h=>by
   rcases KL i ρ.length with c|c
   ·rw[sg c]at h;show .inl ⟨c,h⟩
   ·rw[JU c]at h
    cases e:i-ρ.length with
    |zero=>rw[e]at h;cases h;show .inr ⟨(),S⟩
    |succ n=>rw[e]at h;cases h
  refine⟨λi=>if i=ρ.length then F else f i,E.fz,by rw[wy,wy,E.len];rfl,λi d h=>?_,λi a A h=>?_,λi a A h b g=>?_,λi j a P R am M u c b g z=>?_,E.tb⟩
  ·rcases J h with⟨c,h⟩|⟨_,h⟩
   ·let⟨v,e,r⟩:=E.sl i d h;show⟨v,by rw[sg (by rw[E.len];show c)];show e,r⟩
   ·cases h
  ·rcases J h with⟨c,h⟩|⟨c,h⟩
   ·let⟨q,e,r⟩:=E.ow i a A h;show⟨q,by rw[sg (by rw[E.len];show c)];show e,by rw[JV ()];show r⟩
   ·cases h;subst c;refine⟨p,by rw[JU (by rw[E.len];show J0 _),E.len,K3];rfl,O,by rw[JX S];show U⟩
  ·rcases J h with⟨c,h⟩|⟨c,h⟩
   ·rw[JV ()]at g;show E.no i a A h b g
   ·rw[JX c]at g;show T b g
  ·rcases J M with⟨Q,M⟩|⟨Q,M⟩
   ·rw[JV ()]at g;rcases J u with⟨N,u⟩|⟨N,u⟩
    ·rw[JV ()]at z;show E.dj i j a P R am M u c b g z
    ·rw[JX N]at z;show hd b z i a R M g
   ·rw[JX Q]at g;rcases J u with⟨N,u⟩|⟨N,u⟩
    ·rw[JV ()]at z;show hd b g j P am u z
    ·omega
end
noncomputable def eG(ρ:ai):Y Ar->Ų (Y Sm)
 | []=>Z []
 |.t s::as=>(eG ρ as).map (s::·)
 |.s i::as=>match ρ[i]? with
  |some (Z (.ob _ o))=>(eG ρ as).map (.ob ű o::·)
  |_=>ű
noncomputable def bu(o:Om):Ų Sm->Ų Sm
 |some (.ob a _)=>Z (.ob a o)
 |x=>x
noncomputable def bh:ai->Nat->Om->ai
 | [],_,_=>[]
 |x::ρ,0,o=>bu o x::ρ
 |x::ρ,i+1,o=>x::bh ρ i o
theorem jU:∀(ρ:ai)(i:Nat)(o:Om),bh ρ i o=(match ρ[i]? with
  |some (Z (.ob a _))=>ρ.set i (Z (.ob a o))
  |_=>ρ)
 | [],_,_=>rfl
 |some (.ob _ _)::_,0,_=>rfl
 |some (.v _)::_,0,_=>rfl
 |none::_,0,_=>rfl
 |x::ρ,i+1,o=>by
  change x::bh ρ i o=_;rw[jU ρ i o,Ot]
  match ρ[i]? with
  |some (Z (.ob _ _))=>rfl
  |some (Z (.v _))=>rfl
  |some ű=>rfl
  |none=>rfl
noncomputable def aU(ρ:ai):Y Ar->Y Om->ai
 | [],_=>ρ
 |.t (.v _)::as,os=>aU ρ as os
 |.t (.ob _ _)::as,_::os=>aU ρ as os
 |.t (.ob _ _)::as,[]=>aU ρ as []
 |.s i::as,o::os=>aU (bh ρ i o) as os
 |.s _::as,[]=>aU ρ as []
noncomputable def dJ:Y Ar->Y Nat
 | []=>[]
 |.t _::as=>dJ as
 |.s i::as=>i::dJ as
noncomputable def pO(as:Y Ar):Bool:=decide (dJ as).Nodup
noncomputable def fq:Nat->Y Ar->Y Om->Y (Y Addr)->Nat->Ų (Om×Y Addr)
 |n,.t (.v _)::as,os,_::a,i=>fq (n+1) as os a i
 |n,.t (.ob _ _)::as,o::os,F::a,i=>if i=n then Z (o,F) else fq (n+1) as os a i
 |n,.s j::as,o::os,F::a,i=>if i=j then Z (o,F) else fq n as os a i
 |_,_,_,_,_=>ű
section
variable{K:Â}{B H g:Hp}{A:St}{ρ:ai}{f:Nat->Y Addr}
noncomputable def dk(f:Nat->Y Addr):Nat->Y Ar->Y (Y Addr)
 |_,[]=>[]
 |n,.t (.v _)::as=>[]::dk f (n+1) as
 |n,.t (.ob _ _)::as=>f n::dk f (n+1) as
 |n,.s j::as=>f j::dk f n as
noncomputable def dw:Nat->Y Ar->Y Nat
 |_,[]=>[]
 |n,.t (.v _)::as=>dw (n+1) as
 |n,.t (.ob _ _)::as=>n::dw (n+1) as
 |n,.s j::as=>j::dw n as
theorem fpA_mem:∀{n:Nat}{as:Y Ar}{b:Addr},b∈(dk f n as).flatten↔∃i∈dw n as,b∈f i
 |n,[],b=>by simp[dk,dw]
 |n,.t (.v _)::as,b=>by simp only[dk,dw,KC,MM];show fpA_mem
 |n,.t (.ob _ _)::as,b=>by simp only[dk,dw,KC,Kj,J9,fpA_mem (n:=n+1) (as:=as),exists_eq_or_imp]
 |n,.s j::as,b=>by simp only[dk,dw,KC,Kj,J9,fpA_mem (n:=n) (as:=as),exists_eq_or_imp]
theorem j8:∀{n:Nat}{as:Y Ar}{i:Nat},i∈dw n as->i∈dJ as\/(n<=i/\i<n+(dB as).length)
 |n,[],i,h=>by cases h
 |n,.t (.v d)::as,i,h=>by
  have h:i∈dw (n+1) as:=h;rcases j8 h with z|z
  ·show .inl z
  ·refine .inr ⟨(),?_⟩;change i<n+((dB as).length+1);omega
 |n,.t (.ob a o)::as,i,h=>by
  rcases J9.mp h with rfl|h
  ·refine .inr ⟨J0 _,?_⟩;change i<i+((dB as).length+1);omega
  ·rcases j8 h with z|z
   ·show .inl z
   ·refine .inr ⟨(),?_⟩;change i<n+((dB as).length+1);omega
 |n,.s j::as,i,h=>by
  rcases J9.mp h with rfl|h
  ·show .inl JY
  ·rcases j8 h with z|z
   ·show .inl (JZ _ z)
   ·show .inr z
theorem nL:∀{n:Nat}{as:Y Ar},(dJ as).Nodup->(∀i∈dJ as,i<n)->(dw n as).Nodup
 |n,[],_,_=>by simp[dw]
 |n,.t (.v d)::as,h,c=>nL (n:=n+1) h λi e=>MX (c i e)
 |n,.t (.ob a o)::as,h,c=>by
  refine Ko.mpr ⟨λz=>?_,nL (n:=n+1) h λi e=>MX (c i e)⟩;rcases j8 z with z|z
  ·show LV _ (c n z)
  ·omega
 |n,.s j::as,h,c=>by
  let⟨l,p⟩:=Ko.mp h;refine Ko.mpr ⟨λz=>?_,nL p λi e=>c i (JZ _ e)⟩;rcases j8 z with z|z
  ·show l z
  ·have:=c j JY;omega
theorem jW{s:Sm}{as:Y Ar}{a:Y Sm}(h:eG ρ (.t s::as)=Z a):∃q,eG ρ as=Z q/\a=s::q:=by let⟨q,e,h⟩:=Lu.mp h;show⟨q,e,h.symm⟩
theorem lg{i:Nat}{as:Y Ar}{c:Y Sm}(h:eG ρ (.s i::as)=Z c):∃a o q,ρ[i]?=Z (Z (.ob a o))/\eG ρ as=Z q/\c=.ob ű o::q:=by
 unfold eG at h;split at h
 ·next a o ho=>
  let⟨q,e,h⟩:=Lu.mp h;show⟨a,o,q,ho,e,h.symm⟩
 ·cases h
theorem OutM.cv{d:D}{as:Y Sm}{v:V}{vs:Y V}{os:Y Om}{a:Y (Y Addr)}(h:OutM K g H (.v d::as) (v::vs) os a):∃c,a=[]::c/\OutM K g H as vs os c:=by
 cases h with
 |v h=>show⟨_,S,h⟩
theorem OutM.co{a:Ų Addr}{o:Om}{as:Y Sm}{v:V}{vs:Y V}{os:Y Om}{c:Y (Y Addr)}(h:OutM K g H (.ob a o::as) (v::vs) os c):∃p l j F e,v=.ref p/\os=l::j/\c=F::e/\OmS K g H l p F/\OutM K g H as vs j e:=by
 cases h with
 |o r h=>show⟨_,_,_,_,_,S,S,S,r,h⟩
theorem ik{a:Type}{l m:Y a}{n:Nat}{y:a}(h:∀(j:Nat) x,(y::l)[j]?=Z x->m[n+j]?=Z x)(j:Nat)(x:a)(c:l[j]?=Z x):m[n+1+j]?=Z x:=by rw[show n+1+j=n+(j+1)by omega];show h (j+1) x c
theorem CI{σx:St}{c:ai}(E:EnvM' K B g H σx c f)(M:∀(i:Nat)(x:Sm),ρ[i]?=Z (Z x)->c[i]?=Z (Z x))(G:∀(i:Nat)(v:V),A[i]?=Z (Z v)->σx[i]?=Z (Z v)) :
  ∀{n:Nat}{as:Y Ar}{y:Y Sm}{vs:Y V}{u:St},(∀(j:Nat) x,(dB as)[j]?=Z x->c[n+j]?=Z x)->(∀(j:Nat) x,u[j]?=Z x->σx[n+j]?=Z x)->eG ρ as=Z y->ArV A as vs u->ArgM K g H y vs (dk f n as):=by
 intro n as y vs u h l C F
 induction F generalizing n y with
 |nil=>cases C;show .nil
 | @t N v as vs u F z=>
  let⟨q,e,rfl⟩:=jW C
  cases N with
  |v d=>
   let⟨w,p,r⟩:=E.sl n d (h 0 _ S);obtain rfl:=Kh (Kh ((l 0 _ S).symm.trans p));show .v r (z (n:=n+1) (ik h) (ik l) e)
  |ob a o=>
   let⟨w,p,_,r⟩:=E.ow n a o (h 0 _ S);obtain rfl:=Kh (Kh ((l 0 _ S).symm.trans p));show .o r (z (n:=n+1) (ik h) (ik l) e)
 | @s i v as vs u I F z=>
  let⟨a,o,q,J,e,rfl⟩:=lg C;let⟨w,p,_,r⟩:=E.ow i a o (M i _ J);obtain rfl:=Kh (Kh ((G i _ I).symm.trans p));show .o r (z h l e)
theorem oE{σx:St}{c:ai}(t:∀(i:Nat)(x:Sm),ρ[i]?=Z (Z x)->c[i]?=Z (Z x)) :
  ∀{n:Nat}{as:Y Ar}{r:Y Sm},(∀(j:Nat) x,(dB as)[j]?=Z x->c[n+j]?=Z x)->eG ρ as=Z r->∀i∈dw n as,∃a o,c[i]?=Z (Z (.ob a o))
 |n,[],r,_,p,i,h=>by cases h
 |n,.t (.v d)::as,r,l,p,i,h=>by let⟨q,e,rfl⟩:=jW p;show oE (σx:=σx) t (n:=n+1) (ik l) e i h
 |n,.t (.ob a o)::as,r,l,p,i,h=>by
  let⟨q,e,rfl⟩:=jW p;rcases J9.mp h with rfl|h
  ·show⟨a,o,l 0 _ S⟩
  ·show oE (σx:=σx) t (n:=n+1) (ik l) e i h
 |n,.s j::as,r,l,p,i,h=>by
  let⟨a,o,q,u,e,rfl⟩:=lg p;rcases J9.mp h with rfl|h
  ·show⟨a,o,t _ _ u⟩
  ·show oE (σx:=σx) t (n:=n) (as:=as) l e i h
theorem pb{σx:St}{w:ai}(E:EnvM' K B g H σx w f):∀{n:Nat}{as:Y Ar},(dw n as).Nodup->(∀i∈dw n as,∃a o,w[i]?=Z (Z (.ob a o)))->(dk f n as).flatten.Nodup
 |n,[],_,_=>by simp[dk]
 |n,.t (.v d)::as,h,p=>by change ([]++(dk f (n+1) as).flatten).Nodup;rw[MM];show pb E (n:=n+1) h p
 |n,.t (.ob a o)::as,h,p=>by change (f n++(dk f (n+1) as).flatten).Nodup;let⟨z,C⟩:=Ko.mp h;let⟨t,v,u⟩:=p n JY;let⟨_,_,_,r⟩:=E.ow n t v u;refine KS.mpr ⟨r.nodup,pb E (n:=n+1) C λi l=>p i (JZ _ l),λb F c G e=>?_⟩;subst e;let⟨i,l,x⟩:=fpA_mem.mp G;let⟨a2,I,y⟩:=p i (JZ _ l);show E.dj n i t a2 v I u y (λe=>z (e▸l)) b F x
 |n,.s j::as,h,p=>by change (f j++(dk f n as).flatten).Nodup;let⟨z,C⟩:=Ko.mp h;let⟨t,v,u⟩:=p j JY;let⟨_,_,_,r⟩:=E.ow j t v u;refine KS.mpr ⟨r.nodup,pb E C λi l=>p i (JZ _ l),λb F c G e=>?_⟩;subst e;let⟨i,l,x⟩:=fpA_mem.mp G;let⟨a2,I,y⟩:=p i (JZ _ l);show E.dj j i t a2 v I u y (λe=>z (e▸l)) b F x
theorem lb:∀{n:Nat}{as:Y Ar}{os:Y Om}{e:Y (Y Addr)}{i:Nat}{q:Om×Y Addr},fq n as os e i=Z q->i∈dw n as
 |n,[],_,_,_,_,h=>by cases h
 |n,.t (.v d)::as,os,[],i,q,h=>by cases h
 |n,.t (.v d)::as,os,F::e,i,q,h=>lb (n:=n+1) h
 |n,.t (.ob a o)::as,[],e,i,q,h=>by cases e<;>cases h
 |n,.t (.ob a o)::as,_::_,[],i,q,h=>by cases h
 |n,.t (.ob a o)::as,l::os,F::e,i,q,h=>by
  have h:(if i=n then Z (l,F) else fq (n+1) as os e i)=Z q:=h;split at h
  ·next c=>rw[c];show JY
  ·show JZ _ (lb h)
 |n,.s j::as,[],e,i,q,h=>by cases e<;>cases h
 |n,.s j::as,_::_,[],i,q,h=>by cases h
 |n,.s j::as,l::os,F::e,i,q,h=>by
  have h:(if i=j then Z (l,F) else fq n as os e i)=Z q:=h;split at h
  ·next c=>rw[c];show JY
  ·show JZ _ (lb h)
noncomputable def OutS(K:Â)(g H:Hp)(σx:St)(ps:Y Nat)(a:Nat->Ų (Om×Y Addr))(G:Y Addr):Prop:=
 (∀i∈ps,∃q,a i=Z q)/\∀(i:Nat)(q:Om×Y Addr),a i=Z q->(∃p,σx[i]?=Z (Z (.ref p))/\OmS K g H q.1 p q.2)/\(∀b∈q.2,b∈G)/\∀(j:Nat)(r:Om×Y Addr),a j=Z r->i≠j->∀b∈q.2,b∉r.2
theorem OutS.cons{σx:St}{ps:Y Nat}{x t:Nat->Ų (Om×Y Addr)}{F G:Y Addr}{m:Nat}{o:Om}{p:Addr}(w:OutS K g H σx ps x G)(u:∀i,t i=if i=m then Z (o,F) else x i)(I:σx[m]?=Z (Z (.ref p)))(C:OmS K g H o p F)(J:(F++G).Nodup):OutS K g H σx (m::ps) t (F++G):=by
 have l:=(KS.mp J).2.2;refine⟨λi E=>?_,λi q h=>?_⟩
 ·rw[u];split
  ·show⟨_,S⟩
  ·next c=>show w.1 i ((J9.mp E).resolve_left c)
 ·rw[u]at h;split at h
  ·next c=>
   subst c;cases h;refine⟨⟨p,I,C⟩,λb a=>Kj.mpr (.inl a),λj r e c b a v=>?_⟩;rw[u,JV (KW c)]at e;show l b a b ((w.2 j r e).2.1 b v) S
  ·next c=>
   let⟨M,y,N⟩:=w.2 i q h;refine⟨M,λb a=>Kj.mpr (.inr (y b a)),λj r e z b a v=>?_⟩;rw[u]at e;split at e
   ·next c3=>
    cases e;show l b v b (y b a) S
   ·show N j r e z b a v
theorem GV{σx:St}(N:∀(i:Nat)(v:V),A[i]?=Z (Z v)->σx[i]?=Z (Z v)) :
  ∀{n:Nat}{as:Y Ar}{y:Y Sm}{vs:Y V}{w:St}{os:Y Om}{l:Y (Y Addr)},(∀(j:Nat) x,w[j]?=Z x->σx[n+j]?=Z x)->eG ρ as=Z y->ArV A as vs w->OutM K g H y vs os l->(dw n as).Nodup->l.flatten.Nodup->OutS K g H σx (dw n as) (fq n as os l) l.flatten:=by
 intro n as y vs w os l z M I
 induction I generalizing n y os l with
 |nil=>
  intro c _ _;show⟨λi G=>(by cases G),λi q h=>(by cases h)⟩
 | @t Q v as vs w I C=>
  intro c E r;let⟨q,e,rfl⟩:=jW M
  cases Q with
  |v d=>
   let⟨J,rfl,u⟩:=c.cv;show C (n:=n+1) (ik z) e u E r
  |ob a o=>
   let⟨p,P,O,F,J,rfl,rfl,rfl,u,c⟩:=c.co;show (C (n:=n+1) (ik z) e c (Ko.mp E).2 (KS.mp r).2.1).cons (λ_=>rfl) (z 0 _ S) u r
 | @s R v as vs w G I C=>
  intro c E r;let⟨a,o,q,_,e,rfl⟩:=lg M;let⟨p,P,O,F,J,rfl,rfl,rfl,u,c⟩:=c.co;show (C z e c (Ko.mp E).2 (KS.mp r).2.1).cons (λ_=>rfl) (N _ _ G) u r
theorem Cd{ρ:ai}{i j:Nat}{o:Om}{x:Ų Sm}(h:(bh ρ i o)[j]?=Z x)(c:j≠i):ρ[j]?=Z x:=by
 rw[jU]at h;split at h
 ·rwa [KD (KW c)]at h
 ·show h
theorem uJ{ρ:ai}{i:Nat}{o:Om}:(bh ρ i o).length=ρ.length:=by
 rw[jU];split
 ·rw[Ki]
 ·rfl
theorem cc:∀{as:Y Ar}{ρ:ai}{os:Y Om},(aU ρ as os).length=ρ.length
 | [],_,_=>rfl
 |.t (.v _)::as,ρ,os=>cc (as:=as)
 |.t (.ob _ _)::as,ρ,_::os=>cc (as:=as)
 |.t (.ob _ _)::as,ρ,[]=>cc (as:=as)
 |.s i::as,ρ,o::os=>by change (aU (bh ρ i o) as os).length=_;rw[cc,uJ]
 |.s _::as,ρ,[]=>cc (as:=as)
theorem gY:∀{as:Y Ar}{ρ:ai}{os:Y Om}{i:Nat}{x:Ų Sm},i∉dJ as->(aU ρ as os)[i]?=Z x->ρ[i]?=Z x
 | [],_,_,_,_,_,h=>h
 |.t (.v _)::as,ρ,os,i,x,a,h=>gY (as:=as) (os:=os) a h
 |.t (.ob _ _)::as,ρ,_::os,i,x,a,h=>gY (as:=as) (os:=os) a h
 |.t (.ob _ _)::as,ρ,[],i,x,a,h=>gY (as:=as) (os:=[]) a h
 |.s j::as,ρ,o::os,i,x,a,h=>by have h':=gY (as:=as) (λz=>a (JZ _ z)) (show (aU (bh ρ j o) as os)[i]?=Z x from h);show Cd h' λe=>a (by rw[e];show JY)
 |.s j::as,ρ,[],i,x,a,h=>gY (as:=as) (os:=[]) (λz=>a (JZ _ z)) h
theorem kI{ρ:ai}{i j:Nat}{o:Om}(c:j≠i):(bh ρ i o)[j]?=ρ[j]?:=by
 rw[jU];split
 ·rw[KD (KW c)]
 ·rfl
theorem rF{am:ai}:∀{as:Y Ar}{ρ:ai}{y:Y Sm}{vs:Y V}{J:St}{os:Y Om}{w:Y (Y Addr)}{n i:Nat}{x:Sm},eG am as=Z y->ArV A as vs J->OutM K g H y vs os w->i∈dJ as->i<n->(dJ as).Nodup->(aU ρ as os)[i]?=Z (Z x)->(∀j∈dJ as,∃a o,ρ[j]?=Z (Z (.ob a o)))->
  ∃a r q,x=.ob a q.1/\fq n as os w i=Z q/\ρ[i]?=Z (Z (.ob a r)):=by
 intro as ρ y vs J os w n i x hr R
 induction R generalizing ρ y os w n i x with
 |nil=>intro _ h;cases h
 | @t s0 v as vs J R G=>
  intro l h P nd E u;let⟨q,e,rfl⟩:=jW hr
  cases s0 with
  |v d=>
   let⟨T,rfl,O⟩:=l.cv;show G (n:=n+1) e O h () nd E u
  |ob a1 o1=>
   let⟨p,I,X,F,T,rfl,rfl,rfl,O,l⟩:=l.co;let⟨a,r,q,M,N,C⟩:=G (n:=n+1) (ρ:=ρ) e l h () nd E u;show⟨a,r,q,M,(JV (KA P)).trans N,C⟩
 | @s j v as vs J _ R G=>
  intro l h P nd E u;let⟨_,o,q,_,e,rfl⟩:=lg hr;let⟨p,I,X,F,T,rfl,rfl,rfl,O,l⟩:=l.co;let⟨ar,Tq⟩:=Ko.mp nd;have U:(aU (bh ρ j I) as X)[i]?=Z (Z x):=E;by_cases c:i=j
  ·subst c;let⟨a,r,Q⟩:=u i JY;have:=gY ar U;rw[jU]at this;rw[Q]at this;simp only at this;rw[KR (bj Q)]at this;cases this;show⟨a,r,(I,F),S,JX S,Q⟩
  ·have T7:=(J9.mp h).resolve_left c
   let⟨a,r,q,M,N,C⟩:=G (ρ:=bh ρ j I) (n:=n) e l T7 P Tq U λk aw=>by
    rw[kI λz=>ar (by rw[←z];show aw)];show u k (JZ _ aw)
   show⟨a,r,q,M,(JV c).trans N,by rw[kI c]at C;show C⟩
theorem r6:∀{as:Y Ar}{c:Y Sm},eG ρ as=Z c->∀j∈dJ as,∃a o,ρ[j]?=Z (Z (.ob a o))
 | [],_,_,j,h=>by cases h
 |.t s::as,c,l,j,h=>by let⟨q,e,rfl⟩:=jW l;show r6 e j h
 |.s i::as,c,l,j,h=>by
  let⟨a,o,q,p,e,rfl⟩:=lg l;rcases J9.mp h with rfl|h
  ·show⟨a,o,p⟩
  ·show r6 e j h
end
section
variable{K:Â}{X:Cx}{e:Ã}{y:Y Ã}{l p:Õ}{A:cH}
inductive CallM(sp:cJ)(R:Sm->ai->Prop)(Rx:XD->ai->Prop)(as:List Ar)(ρ:ai):Prop|mk (Pk:List Sm) (_:eG ρ as=Z Pk) (_:pO as=ų) (_:sp Pk (λsm os=>R sm (aU ρ as os)) (λxd os=>Rx xd (aU ρ as os)))
noncomputable def tE(sp:cJ)(A:cH):TX:=λρ R a=>A ρ (CallM sp R a) a
theorem StM.lend{Φ0 H0 Φ H:Hp}{N Q G:St}{ρ f:ai}{Rx:XD->ai->Prop}{as:Y Ar}{Pk:Y Sm}{vs:Y V}(am:StM K X Φ0 H0 Φ H N (Q++G) ρ (f++dB as) Rx)(hl:f.length=Q.length)(R:eG ρ as=Z Pk)(hv:ArV N as vs G)(hs:pO as=ų) :
  ∃aw,ArgM K Φ H Pk vs aw/\aw.flatten.Nodup/\(∀b∈aw.flatten,Φ b=ű)/\∀sm os I U v F P,Gr Φ (bI H aw.flatten) I U->ResM K I U sm v F->OutM K I U Pk vs os P->(F++P.flatten).Nodup->(∀b∈F++P.flatten,bI H aw.flatten b=ű/\I b=ű)->
   StM K X Φ0 H0 I U N (Q++[Z v]) (aU ρ as os) (f++[Z sm]) Rx:=by
 have nd:(dJ as).Nodup:=J8 hs;let⟨ar,E⟩:=am.E;have lS0:=am.l
 have Pf:(dB as).length=G.length:=by have:=am.lk;rw[wy,wy]at this;omega
 have a1:∀(i:Nat)(x:Sm),ρ[i]?=Z (Z x)->(ρ++(f++dB as))[i]?=Z (Z x):=λi x h=>by rw[sg (bj h)];show h
 have a2:∀(i:Nat)(v:V),N[i]?=Z (Z v)->(N++(Q++G))[i]?=Z (Z v):=λi x h=>by rw[sg (bj h)];show h
 have a3:∀(j:Nat) x,(dB as)[j]?=Z x->(ρ++(f++dB as))[ρ.length+f.length+j]?=Z x:=λj x h=>by rw[JU (),JU (),show ρ.length+f.length+j-ρ.length-f.length=j by omega];show h
 have a4:∀(j:Nat) x,G[j]?=Z x->(N++(Q++G))[ρ.length+f.length+j]?=Z x:=λj x h=>by rw[JU (),JU (),show ρ.length+f.length+j-N.length-Q.length=j by omega];show h
 have sl:=r6 R
 have slt:∀i∈dJ as,i<ρ.length:=λi t=>let ⟨_,_,h⟩:=sl i t;bj h
 have pn:(dw (ρ.length+f.length) as).Nodup:=nL nd λi t=>by have:=slt i t;omega
 have po:=oE (σx:=N) a1 a3 R;refine⟨dk ar (ρ.length+f.length) as,CI E a1 a2 a3 a4 R hv,pb E pn po,λb C=>?_,λsm os I U v F P g R4 TL Xy PL=>?_⟩
 ·let⟨i,t,M⟩:=fpA_mem.mp C;let⟨a,o,ho⟩:=po i t;show (E.no i a o ho b M).2
 let⟨Vv,Tq,nd3⟩:=KS.mp Xy;let⟨n1,n2⟩:=GV (n:=ρ.length+f.length) a2 a4 R hv TL pn Tq
 have B0:∀b∈(dk ar (ρ.length+f.length) as).flatten,H0 b=ű:=λb C=>by let⟨i,t,M⟩:=fpA_mem.mp C;let⟨a,o,ho⟩:=po i t;show (E.no i a o ho b M).1
 have pl:∀{i:Nat},i<ρ.length+f.length->i∉dJ as->fq (ρ.length+f.length) as os P i=ű:=λ{i} t hn=>by
  cases e:fq (ρ.length+f.length) as os P i with
  |none=>rfl
  |some q=>
   rcases j8 (lb e)with z|z
   ·show absurd z hn
   ·omega
 have E2:EnvM' K H0 I U (N++(Q++G)) (aU ρ as os++(f++List.replicate G.length ű)) (gH (fq (ρ.length+f.length) as os P) ar):=by
  have cs:∀{i:Nat}{x:Sm},(aU ρ as os++(f++List.replicate G.length ű))[i]?=Z (Z x)->(i<ρ.length/\(aU ρ as os)[i]?=Z (Z x))\/(ρ.length<=i/\i<ρ.length+f.length/\f[i-ρ.length]?=Z (Z x)):=λ{i x} h=>by
   rcases KL i ρ.length with c|c
   ·rw[sg (by rw[cc];show c)]at h;show .inl ⟨c,h⟩
   ·rw[JU (by rw[cc];show c),cc]at h;rcases KL (i-ρ.length) f.length with J|J
    ·rw[sg J]at h;show .inr ⟨c,(),h⟩
    ·rw[JU J,LY]at h;split at h
     ·cases h
     ·cases h
  have kx:∀{i:Nat}{x:Sm},ρ.length<=i->i<ρ.length+f.length->f[i-ρ.length]?=Z (Z x)->(ρ++(f++dB as))[i]?=Z (Z x):=λ{i x} w J h=>by rw[JU w,sg ()];show h
  refine E.lend am.g.h (B:=(dk ar (ρ.length+f.length) as).flatten) (new:=fq (ρ.length+f.length) as os P) (λb C=>?_) (λi q O b C=>fpA_mem.mpr ⟨i,lb O,C⟩) g (by rw[wy,wy,wy,wy,LK,cc,Pf]) (λi d h=>?_) (λi a o h=>?_) (λi q O=>(n2 i q O).1) (λi q O b C=>PL b (Kj.mpr (.inr ((n2 i q O).2.1 b C)))) λi j q r O UC c b C=>(n2 i q O).2.2 j r UC c b C
  ·let⟨i,t,M⟩:=fpA_mem.mp C;let⟨a,o,ho⟩:=po i t;let⟨q,O⟩:=n1 i t;show⟨i,a,o,q,O,ho,M⟩
  ·rcases cs h with⟨c,h⟩|⟨w,J,h⟩
   ·rcases MA (i∈dJ as)with z|z
    ·let⟨a,o0,q,e1,_⟩:=rF (n:=ρ.length+f.length) R hv TL z () nd h sl;cases e1
    ·show a1 _ _ (gY z h)
   ·show kx w J h
  ·rcases cs h with⟨c,h⟩|⟨w,J,h⟩
   ·rcases MA (i∈dJ as)with z|z
    ·let⟨a',o0,q,e1,e2,e3⟩:=rF (n:=ρ.length+f.length) R hv TL z () nd h sl;cases e1;show .inr ⟨o0,q.2,e2,a1 _ _ e3⟩
    ·show .inl ⟨pl () z,a1 _ _ (gY z h)⟩
   ·show .inl ⟨pl J λz=>by have:=slt i z;omega,kx w J h⟩
 have g0:=am.g.lend g B0
 have E3:=E2.snocG R4 (λb C=>by
   let⟨z1,z2⟩:=PL b (Kj.mpr (.inl C));refine⟨?_,z2⟩;rcases MA (b∈(dk ar (ρ.length+f.length) as).flatten)with c|c
   ·show B0 b c
   ·rw[gD c]at z1
    show am.g.h.free z1) λb C i a o t M=>by
  unfold gH at M
  cases e:fq (ρ.length+f.length) as os P i with
  |some q=>
   rw[e]at M;show nd3 b C b ((n2 i q e).2.1 b M) S
  |none=>
   rw[e]at M;let⟨p,_,_,r⟩:=E2.ow i a o t;unfold gH at r;rw[e]at r;let⟨z1,z2⟩:=PL b (Kj.mpr (.inl C))
   have own:∃o',(ρ++(f++dB as))[i]?=Z (Z (.ob a o')):=by
    rcases KL i ρ.length with c|c
    ·rw[sg (by rw[cc];show c)]at t;rcases MA (i∈dJ as)with z|z
     ·let⟨a',o0,q,_,e2,_⟩:=rF (n:=ρ.length+f.length) R hv TL z () nd t sl;rw[e]at e2;cases e2
     ·show⟨o,a1 _ _ (gY z t)⟩
    ·rw[JU (by rw[cc];show c),cc]at t;rcases KL (i-ρ.length) f.length with J|J
     ·rw[sg J]at t;show⟨o,by rw[JU c,sg J];show t⟩
     ·rw[JU J,LY]at t;split at t
      ·cases t
      ·cases t
   let⟨o',PN⟩:=own;let⟨p',_,_,r'⟩:=E.ow i a o' PN;let⟨u,hu,_⟩:=r'.at b M
   have c:b∉(dk ar (ρ.length+f.length) as).flatten:=λz=>by
    let⟨j,hj,hbj⟩:=fpA_mem.mp z;let⟨q,O⟩:=n1 j hj
    have cj:i≠j:=λz=>by rw[z,O]at e;cases e
    let⟨a2',o2,hj2⟩:=po j hj;show E.dj i j a a2' o' o2 PN hj2 cj b M hbj
   rw[gD c,hu]at z1;cases z1
 refine⟨g0,by rw[cc];show lS0,?_,am.x⟩;refine E3.re (λi=>if i<ρ.length+f.length then i else ρ.length+f.length+G.length) (by simp only[wy,J1,K5,cc];omega) (λi x T=>?_) λi j a a' o o' t hj e=>?_
 ·rcases KL i (ρ.length+f.length)with c|c
  ·rw[JX c];constructor
   ·rcases KL i ρ.length with w|w
    ·rw[sg (by rw[cc];show w)]at T;rw[sg (by simp only[wy,cc];omega),sg (by rw[cc];show w)];show T
    ·rw[JU (by rw[cc];show w),cc,sg ()]at T;rw[sg (by simp only[wy,cc];omega),JU (by rw[cc];show w),cc,sg ()];show T
   ·rcases KL i N.length with w|w
    ·rw[sg w,sg (by simp only[wy];omega),sg w]
    ·rw[JU w,sg (),sg (by simp only[wy];omega),JU w,sg ()]
  ·have t:i=ρ.length+f.length:=by have:=bj T;simp only[wy,J1,K5,cc]at this;omega
   subst t;rw[JV ()];rw[JU (by rw[cc];omega),JU (by rw[cc];omega),cc,show ρ.length+f.length-ρ.length-f.length=0 by omega]at T;cases T;constructor
   ·rw[JU (by simp only[wy,LK,cc];omega)];simp only[wy,LK,cc];rw[show ρ.length+f.length+G.length-(ρ.length+(f.length+G.length))=0 by omega];rfl
   ·rw[JU (),JU (),JU (by simp only[wy];omega)];simp only[wy];rw[show ρ.length+f.length-N.length-Q.length=0 by omega,show ρ.length+f.length+G.length-(N.length+(Q.length+G.length))=0 by omega]
 ·have hi1:=bj t;have UA:=bj hj;simp only[wy,J1,K5,cc]at hi1 UA;have e:(if i<ρ.length+f.length then i else ρ.length+f.length+G.length)=(if j<ρ.length+f.length then j else ρ.length+f.length+G.length):=e;split at e<;>split at e<;>omega
structure ClM(P:Ä)(w:Å)(K:Â)(mg:Str->Option Value)(base:Heap)(n:Nat)(x:Str)(ps:List Str)(z:cJ):Prop where
 ex:∃(f:Addr)(fd:É),FnOk P w K mg base bt n f fd ps (lSpM K z)/\Binds K fd ps []/\Ü K (.ref f)=ų/\mg x=Z (.ref f)
theorem b0{n:Nat}{x:Str}{ps:Y Str}{z:cJ}(C:ClM X.prog X.w K X.mg X.base n x ps z)(hr:Room n X.A)(hg:Gl X x)
  (ha:PXA K X (e::y) A) (he:starEach (e::y) X.env=(Ŵ,eval e X.env)::starEach y X.env) (J:(backTo l (starEach y X.env)).any (·.1)=Ŵ) (O:ad x:=by decide) :
  PX K X (.Call (.Name x p) (e::y) [] l) (tE z A):=⟨λc=>by
 let⟨f,fd,F,b,k,m⟩:=C.ex;refine (qJ (dvs:=[]) (ds:=[]) (E:=E0) (c▸F:FnOk X.prog X.w X.K X.mg X.base bt n f fd ps (lSpM K z)) hr hg m (c▸k) (c▸b) .nil mS (ha.pa c) O he J).imp λσ H Q I=>?_;let⟨j,B,Φ,τ,ρ,κ,R,T,am,t,k⟩:=I;refine⟨j,B,Φ,τ,ρ,κ,_,T,am,t,λas ρ1 o H1 vs ts h hl hv g aw=>?_⟩;let⟨N,P,U,h⟩:=h;let⟨w,g1,g2,g3,g4⟩:=g.lend am.lk P hv U;rw[Ku]
 show⟨o,N,w,_,_,g.g.s,g.E.tb,g1,g2,g3,h,λsm os a u v F G r gr ar ho hn M=>k sm _ a u v r (g4 sm os a u v F G gr ar ho hn M) (aw.trans gr.f)⟩⟩
end
structure EndsM where
 nx:ai->Prop
 rt:Sm->ai->Prop
 bk:ai->Prop:=λ_=>False
 ct:ai->Prop:=λ_=>False
 ex:XD->ai->Prop:=λ_ _=>False
noncomputable abbrev bG:=EndsM->ai->Prop
noncomputable def pG(K:Â)(g h:Hp)(P:ai->Prop)(Q:St->Hp->Prop):Prop:=∀c a f e,P c->Gr g h a f->EnvM K h a f e c->Q e f
structure EndOkM(K:Â)(X:Cx)(Φ0 H0:Hp)(De:EndsM)(E:Ends):Prop where
 nx:pG K Φ0 H0 De.nx E.nx
 rt:∀sm ρ' Φ' H' v σ',De.rt sm ρ'->Gr Φ0 H0 Φ' H'->EnvM K H0 Φ' H' (σ'++[Z v]) (ρ'++[Z sm])->E.rt v H'
 bk:pG K Φ0 H0 De.bk E.bk
 ct:pG K Φ0 H0 De.ct E.ct
 ex:XeOk K X Φ0 H0 De.ex
inductive lM(K:Â)(X:Cx)(t:bG)(E:Ends)(σ:St)(H:Hp):Prop|mk (Φ0:Hp) (H0:Hp) (Φ:Hp) (ρ:ai) (De:EndsM) (_:Gr Φ0 H0 Φ H) (_:EnvM K H0 Φ H σ ρ) (_:t De ρ) (_:EndOkM K X Φ0 H0 De E)
structure PSM(K:Â)(X:Cx)(st:Ë)(t:bG):Prop where ps:X.K=K->PS X st (lM K X t)
structure PSsM(K:Â)(X:Cx)(st:List Ë)(t:bG):Prop where ps:X.K=K->PSs X st (lM K X t)
section
variable{K:Â}{X:Cx}{a c e H:Hp}{f:St}{ρ:ai}{h:XD->ai->Prop}{v:V}{sm:Sm}
theorem eu(g:Gr a c e H)(V:EnvM K c e H f ρ)(x:XeOk K X a c h):StM K X a c e H f [] ρ [] h:=⟨g,V.len.symm,by rw[Ku,Ku];show V,x⟩
theorem StM.env1(Q:StM K X a c e H f ([]++[Z v]) ρ ([]++[Z sm]) h):EnvM K c e H (f++[Z v]) (ρ++[Z sm]):=Q.E
end
section
variable{K:Â}{X:Cx}{st:Ë}{p:Y Ë}{t u:bG}{e a:Ã}{l:TX}{f:Õ}{w:dD}
noncomputable def rV:bG:=λc ρ=>c.nx ρ
noncomputable def uo(t u:bG):bG:=λc ρ=>t { c with nx:=u c } ρ
inductive mCut(t u:bG)(De:EndsM)(ρ:ai):Prop|mk (I:ai->Prop) (_:t { De with nx:=I } ρ) (_:∀ρ',I ρ'->u De ρ')
theorem aN:PSsM K X [] rV:=⟨λ_=>pss_nil.imp λE o H c=>by let⟨j,v,h,ρ,r,g,V,t,k⟩:=c;show k.nx ρ h H o t g V⟩
theorem aG(z:PSM K X st t)(A:PSsM K X p u):PSsM K X (st::p) (uo t u):=⟨λr=>(sG (z.ps r) (A.ps r)).imp λE G H x=>by let⟨c,o,B,ρ,v,g,V,t,k⟩:=x;exact
 ⟨c,o,B,ρ,_,g,V,t,⟨λj h F C t' g' y=>⟨c,o,h,j,v,g',y,t',k⟩,k.rt,k.bk,k.ct,k.ex⟩⟩⟩
theorem aK(A:PSM K X st t)(B:PSsM K X p u):PSsM K X (st::p) (mCut t u):=⟨λv=>(sG (A.ps v) (B.ps v)).imp λE J H y=>by let⟨h,r,C,ρ,x,g,V,⟨I,t,c⟩,k⟩:=y;exact
 ⟨h,r,C,ρ,_,g,V,t,⟨λj o G F t' g' z=>⟨h,r,o,j,x,g',z,c j t',k⟩,k.rt,k.bk,k.ct,k.ex⟩⟩⟩
theorem ak(c:PSM K X st t):PSsM K X [st] t:=⟨λg=>vz (c.ps g)⟩
noncomputable def zd:bG:=λ_ _=>False
theorem tW:PSM K X st zd:=⟨λ_=>ps_never.imp λE v H c=>by let⟨h,o,r,ρ,j,g,V,t,k⟩:=c;show t⟩
noncomputable def jI(i:Nat)(l:TX):bG:=λg ρ=>l ρ (λs c=>g.nx (c.set i (Z s))) g.ex
theorem D6{i:Nat}{E:Ends}{x:St}{H:Hp}(h:lM K X (jI i l) E x H):nc (lXm K X l) (nJ i) E x H:=by let⟨c,z,B,ρ,y,g,V,t,k⟩:=h;show⟨c,z,B,[],ρ,[],_,y.ex,eu g V k.ex,t,λs C j A v r o _=>k.nx _ j A _ r o.g (o.env1.store i)⟩
theorem aF{i:Nat}{x:Str}{c:Õ}(h:X.N.Nodup)(r:X.N[i]?=Z x)(y:gW X.env.scope x)(j:PX K X e l)(v:Ñ e (Z (.Name x c)) f.line X.env=pure Ŵ:=by rfl)(o:X.fn x=ų\/X.env.scope.names.lookup x=Z .local:=by nofun) :
  PSM K X (.Assign [.Name x c] e f) (jI i l):=⟨λg=>(FW h r y (j.pe g) v o).imp λ_ _ _=>D6⟩
noncomputable def Hm(l:TX):bG:=λg ρ=>l ρ (λ_ c=>g.nx c) g.ex
theorem mF(B:PX K X e l)(C:Ñ e ű f.line X.env=pure Ŵ:=by rfl):PSM K X (.Expr e f) (Hm l):=
 ⟨λA=>(mM (B.pe A) C).imp λE I H z=>by
  let⟨c,x,F,ρ,o,g,V,t,k⟩:=z
  show⟨c,x,F,[],ρ,[],_,o.ex,eu g V k.ex,t,λs G h y v r j _=>k.nx _ h y I r j.g j.env⟩⟩
noncomputable def kF(l:TX):bG:=λc ρ=>l ρ c.rt c.ex
theorem aL(C:PX K X e l):PSM K X (.Return (Z e) f) (kF l):=
 ⟨λB=>(DZ (C.pe B)).imp λE G H A=>by
  let⟨c,y,F,ρ,x,g,V,t,k⟩:=A
  show⟨c,y,F,[],ρ,[],_,x.ex,eu g V k.ex,t,λs j h z v r o _=>k.rt s j h z v G r o.g o.env1⟩⟩
noncomputable def uf(i:Nat):TX:=λρ R _=>match ρ[i]? with|some (Z (.ob ű o))=>R (.ob ű o) (ρ.set i ű)|_=>False
theorem HX(i:Nat){x:Str}(O:X.N[i]?=Z x:=by rfl)(U:b7 X.env.scope x:=by nofun)(hd:ad x:=by decide)
  (G:ap x:=by decide):PX K X (.Name x f) (uf i):=⟨λ_=>(pv i O U hd G).imp λσ H Q I=>by
 let⟨aw,H0,ar,τ,ρ,r,R,Rx,am,t,k⟩:=I;unfold uf at t;split at t
 ·next o h=>
  have A:=bj h;have T:=am.l;let⟨fp,E⟩:=am.env;let⟨q,e,_⟩:=E.ow i ű o h;refine⟨_,e,k _ _ ar H _ t ⟨am.g,by rw[Ki];show T,?_,am.x⟩ (Same.refl _)⟩;have hk:=am.lk;refine am.E.re (λj=>if j=ρ.length+r.length then i else j) (by simp only[wy,Ki,J1,K5];omega) (λj x g=>?_) λB C a a' o1 o2 M N v=>?_
  ·have P:=bj g;simp only[wy,Ki,J1,K5]at P;rcases KL j ρ.length with c|c
   ·rw[sg (by rw[Ki];show c)]at g;rw[JV (),sg c,sg (),sg ()];rcases iE g with⟨_,_,z⟩|⟨_,z⟩
    ·cases z
    ·show⟨z,S⟩
   ·rw[JU (by rw[Ki];show c),Ki]at g;rcases KL j (ρ.length+r.length)with J|J
    ·rw[sg ()]at g;rw[JV ()];constructor
     ·rw[JU c];show g
     ·rw[JU (),sg (),JU ()]
    ·have y:j=ρ.length+r.length:=by omega
     subst y;rw[JU (),show ρ.length+r.length-ρ.length-r.length=0 by omega]at g;cases g;rw[JX S,sg A,JU (),JU (),show ρ.length+r.length-σ.length-τ.length=0 by omega,sg (),e];show⟨h,S⟩
  ·have no:∀{j:Nat}{a:Ų Addr}{o:Om},(ρ.set i ű++(r++[Z (Sm.ob ű o)]))[j]?=Z (Z (.ob a o))->True:=λ_=>trivial
   have F:∀{j:Nat}{x:Sm},(ρ.set i ű++(r++[Z (Sm.ob ű o)]))[j]?=Z (Z x)->j≠i:=λ{j x} g y=>by subst y;rw[sg (by rw[Ki];show A),KR A]at g;cases g
   have n1:=F M;have n2:=F N;have v:(if B=ρ.length+r.length then i else B)=(if C=ρ.length+r.length then i else C):=v;split at v<;>split at v<;>omega
 ·show t.elim⟩
noncomputable def lR(c:dD)(t u:bG):bG:=λh ρ=>c ρ (λb g=>(b=ų->t h g)/\(b=Ŵ->u h g)) h.ex
theorem aJ{c:Ã}{a b:Y Ë}(F:PXB K X c w)(B:PSsM K X a t)(C:PSsM K X b u):PSM K X (.If c a b f) (lR w t u):=
 ⟨λz=>(BA (F.pt z) (B.ps z) (C.ps z)).imp λE J H A=>by
  let⟨h,y,G,ρ,x,g,V,t,k⟩:=A;refine⟨h,y,G,[],ρ,[],_,x.ex,eu g V k.ex,t,λc o j I r v _=>?_⟩
  cases c with
  |true=>refine ra ?_;show⟨h,y,j,o,x,v.g,v.env,r.1 S,k⟩
  |false=>refine rG ?_;show⟨h,y,j,o,x,v.g,v.env,r.2 S,k⟩⟩
noncomputable abbrev fD:=D->ai->(ai->Prop)->Prop
noncomputable abbrev jf:=Y D->ai->(ai->Prop)->Prop
inductive lGM(K:Â)(g:fD)(v:V)(σ:St)(H:Hp)(Q:St->Hp->Prop):Prop|mk (H0:Hp) (Φ:Hp) (ρ:ai) (d:D) (R:ai->Prop) (_:EnvM K H0 Φ H σ ρ) (_:Rp K Φ d v) (_:g d ρ R) (_:∀ρ' σ',R ρ'->EnvM K H0 Φ H σ' ρ'->Q σ' H)
inductive lGMs(K:Â)(g:jf)(vs:List V)(σ:St)(H:Hp)(Q:St->Hp->Prop):Prop|mk (H0:Hp) (Φ:Hp) (ρ:ai) (ds:List D) (R:ai->Prop) (_:EnvM K H0 Φ H σ ρ) (_:RpL K Φ ds vs) (_:g ds ρ R) (_:∀ρ' σ',R ρ'->EnvM K H0 Φ H σ' ρ'->Q σ' H)
structure PGM(K:Â)(X:Cx)(e:Ã)(g:fD):Prop where pg:X.K=K->PG X e (lGM K g)
structure PGMs(K:Â)(X:Cx)(es:List Ã)(g:jf):Prop where pg:X.K=K->PGs X es (lGMs K g)
end
section
variable{K:Â}{X:Cx}{e:Ã}{a:Y Ã}{c:Õ}{g:fD}{j:jf}
noncomputable def Ef(i:Nat):fD:=λd ρ R=>R (ρ.set i (Z (.v d)))
theorem bY{i:Nat}{x:Str}(h:X.N.Nodup)(o:X.N[i]?=Z x)(p:gW X.env.scope x)(l:X.fn x=ų\/X.env.scope.names.lookup x=Z .local:=by nofun):PGM K X (.Name x c) (Ef i):=
 ⟨λ_=>(vD h o p l).imp λv w H Q f=>by let⟨t,u,ρ,d,R,E,r,g,k⟩:=f;show k _ _ g ((E.snocV r).store i)⟩
noncomputable def Iy:jf:=λds ρ R=>match ds with| []=>R ρ|_=>False
noncomputable def Ax(t:fD)(u:jf):jf:=λds ρ R=>match ds with|d::r=>t d ρ λf=>u r f R| []=>False
theorem iQ:PGMs K X [] Iy:=⟨λ_=>pgs_nil.imp λv o H Q f=>by
 let⟨h,l,ρ,ds,R,E,r,g,k⟩:=f
 cases ds with
 |nil=>show⟨Ln.mp r.1,k _ _ g E⟩
 |cons=>show g.elim⟩
theorem cX(x:PGM K X e g)(y:PGMs K X a j)(A:(Ê (e::a) X.env).map (·.2)=assign e X.env::(Ê a X.env).map (·.2):=by rfl):PGMs K X (e::a) (Ax g j):=
 ⟨λo=>(uX (x.pg o) (y.pg o) A).imp λvs F H Q w=>by
  let⟨l,p,ρ,ds,R,E,r,g,k⟩:=w
  cases ds with
  |nil=>show g.elim
  |cons d ds=>
   cases vs with
   |nil=>show absurd r.1 (by simp)
   |cons v vs=>
    refine⟨v,vs,S,l,p,ρ,d,_,E,r.2 0 v d S S,g,λh C g' t=>⟨l,p,h,ds,R,t,⟨by have:=r.1;simpa using this,λi u f B z=>r.2 (i+1) u f B z⟩,g',k⟩⟩⟩
noncomputable def C1(n:Nat)(t:jf):fD:=λd ρ R=>match d with|.tup ds=>ds.length=n/\t ds ρ R|.lst ds=>ds.length=n/\t ds ρ R|_=>False
noncomputable def tU(K:Â)(n:Nat)(t:eV):TG:=λv f H Q=>rC K n t v f H Q\/qh K n t v f H Q
theorem G4{k n:Nat}{t:eV}(p:X.K=K)(w:X.calm=ų)(h:PGs X a t)(x:(Ê a X.env).length=n)(o:(Ê a X.env).findIdx? (·.1)=ű):PG X (.Tuple a k c) (tU K n t):=λf s y H v u Q I r l=>by
 rcases l with l|l
 ·show yg p w h x o f s y H v u Q I r l
 ·show v3 p w h x o f s y H v u Q I r l
theorem iy{k n:Nat}(u:X.calm=ų)(h:PGMs K X a j)(w:(Ê a X.env).length=n:=by rfl)(t:(Ê a X.env).findIdx? (·.1)=ű:=by rfl):PGM K X (.Tuple a k c) (C1 n j):=
 ⟨λl=>(G4 l u (h.pg l) w t:PG X (.Tuple a k c) (tU K n (lGMs K j))).imp λv x H Q p=>by
  let⟨f,o,ρ,d,R,E,r,g,k⟩:=p
  cases d with
  |tup ds=>cases r with|tup h1 h2 h3=>show .inl ⟨_,_,S,.of (E.fz _ _ h1),by rw[h2];show g.1,f,o,ρ,ds,R,E,⟨h2,h3⟩,g.2,k⟩
  |lst ds=>cases r with|lst h1 h2 h3=>show .inr ⟨_,_,S,.of (E.fz _ _ h1),by rw[h2];show g.1,f,o,ρ,ds,R,E,⟨h2,h3⟩,g.2,k⟩
  |_=>show g.elim⟩
end
section
variable{K:Â}{X:Cx}{t u:bG}{e a:Ã}{f:TX}{c:Õ}
noncomputable def Hg(f:TX)(g:fD):bG:=λj ρ=>f ρ (xV λd h=>g d h j.nx) j.ex
theorem qN{h:Ã}{gd:fD}(I:PX K X e f)(J:PGM K X h gd)(M:ğ [h] e c.line X.env=pure Ŵ:=by rfl)(N:Ġ [h] e X.env=pure ű:=by rfl)
  (G:(Ê [h] X.env).map (·.2)=[assign h X.env]:=by rfl):PSM K X (.Assign [h] e c) (Hg f gd):=
 ⟨λz=>(vU (I.pe z) (J.pg z) M N G).imp λE Q H C=>by
  let⟨o,y,P,ρ,A,g,V,t,k⟩:=C;refine⟨o,y,P,[],ρ,[],_,A.ex,eu g V k.ex,t,λs w j B v r l _=>?_⟩;let⟨d,rfl,r⟩:=r.get
  show⟨y,j,w,d,_,l.env,l.last,r,λp x O F=>k.nx p j B x O l.g F⟩⟩
noncomputable abbrev iK:=ai->(Y D->ai->Prop)->(XD->ai->Prop)->Prop
inductive lIM(K:Â)(X:Cx)(t:iK)(σ:St)(H:Hp)(R':It->Hp->Prop):Prop|mk (Φ0:Hp) (H0:Hp) (Φ:Hp) (τ:St) (ρ:ai) (κ:ai) (R:List D->ai->Prop) (Rx:XD->ai->Prop) (_:StM K X Φ0 H0 Φ H σ τ ρ κ Rx) (_:t ρ R Rx) (_:∀ds ρ' Φ' H' J,R ds ρ'->StM K X Φ0 H0 Φ' H' σ τ ρ' κ Rx->Same Φ Φ'->SteadyD K J Φ' ds->R' J H')
structure PIM(K:Â)(X:Cx)(tg e:Ã)(t:iK):Prop where pi:X.K=K->PI X tg e (lIM K X t)
noncomputable def iD(t:bc):iK:=λρ R _=>t (dc ρ) λds=>R ds ρ
theorem fh{l:Ã}{t:bc}(h:PID K X l e t):PIM K X l e (iD t):=⟨λx=>(h.pi x).imp λE H A v=>by
 let⟨z,p,y,F,ρ,C,R,B,Q,t,k⟩:=v
 show⟨p,y,dc ρ,_,Q.env.toD,t,λds j o J r g w=>k ds ρ j o J r (Q.gr g) g.f w⟩⟩
noncomputable def FR(t:cH):iK:=λρ R h=>t ρ (xaD λds g=>match ds with| [.int j]=>(-(2^62)<=j/\j<2^62)/\R (jj 0 j.toNat) g|_=>False) h
theorem DD{N:Ã}{x:cH}{p:Õ}(G:Gl X "range")(I:X.mg "range"=ű)(F:PXA K X [a] x)(J:starEach [a] X.env=[(Ŵ,eval a X.env)]:=by rfl):PIM K X N (.Call (.Name "range" p) [a] [] c) (FR x):=
 ⟨λE=>(xg G I (F.pa E) J).imp λaw H T A=>by
  let⟨h,y,O,Q,ρ,P,R,B,am,t,k⟩:=A;refine⟨h,y,O,Q,ρ,P,_,B,am,t,λas o l z vs ar g U M w C=>?_⟩;let⟨ds,hd,g⟩:=g.get;have rl:=w.vals am.lk hd M
  match ds,g,rl with
  | [.int j],r,rl=>
   let⟨v,rfl,g⟩:=rl.one_inv;obtain rfl:=g.i
   show⟨j,S,r.1.1,r.1.2,k _ o l z _ r.2 (w.pop am.lk) C ve⟩⟩
theorem XeOk.join{l p H o:Hp}{z:XD->ai->Prop}(x:XeOk K X l p z)(g:Gr l p o H):XeOk K X o p z:=λB w v A y e s' j r g' V h=>x B w v A y e s' j r (g.join g') V h
inductive ForM(gd:fD)(tb:bG)(De:EndsM)(ds:List D)(ρ0:ai):Prop|mk (I:Nat->ai->Prop) (_:I 0 ρ0) (_:∀(i:Nat)(d:D)(ρ':ai),ds[i]?=Z d->I i ρ'->gd d ρ' λρ2=>tb { De with nx:=I (i+1),ct:=I (i+1),bk:=De.nx } ρ2) (_:∀ρ',I ds.length ρ'->De.nx ρ')
noncomputable def CC(j:iK)(gd:fD)(tb:bG):bG:=λh ρ=>j ρ (λds g=>ForM gd tb h ds g) h.ex
theorem eQ{tg w:Ã}{C:Y Ë}{ti:iK}{gd:fD}{tb:bG}(hp:PassesOwn (model X.prog X.w) X.A X.env X.xe)(hc:X.calm=ų)(hi:PIM K X tg w ti)(hg:PGM K X tg gd)(hb:PSsM K X C tb)
  (hs:∀x,Ý w X.env x=pure x:=by intro _;rfl):PSM K X (.For tg w C [] c) (CC ti gd tb):=
 ⟨λhK=>(JD hp hc (hi.pi hK) (hg.pg hK) (hb.ps hK) hs).imp λE σ H OT=>by
  let⟨N,G,Φ,ρ,De,g,V,t,k⟩:=OT;refine⟨N,G,Φ,[],ρ,[],_,De.ex,eu g V k.ex,t,λds ρ0 O H1 J PB S1 _ aw=>?_⟩;let⟨I,h0,Qe,Rt⟩:=PB;refine⟨λi m σ F=>m=ds.length-i/\i<=ds.length/\∃h j,Gr N G h F/\Same O h/\EnvM K G h F σ j/\I i j,⟨ds.length,by simp,K1 _,O,ρ0,S1.g,Same.refl _,S1.env,h0⟩,?_⟩;rintro i m σ' F ⟨rfl,hi,h,j,g',s',am,hI⟩;by_cases ar:i<ds.length
  ·refine .inr ⟨aw.go i F (s'.trans am.fz) ar,λU Q=>∃h j,Gr N G h Q/\Same O h/\EnvM K G h Q U j/\I (i+1) j,λU Q h2=>⟨ds.length-(i+1),(),S,ar,h2⟩,λx Q y=>?_⟩;let⟨P,A,rx⟩:=aw.yl i h F x Q _ s' am.fz (bq ar) y;refine⟨G,P,j,_,_,am.gr A,rx,Qe i _ j (bq ar) hI,λρ2 σ3 t2 V3=>?_⟩;refine⟨P,G,P,ρ2,_,?_,V3,t2,⟨?_,?_,?_,?_,k.ex.join (g'.trans A)⟩⟩
   ·show⟨Same.refl _,(g'.trans A).h,A.s,λp u hp hn _=>hn⟩
   ·intro o l R z T B M;show⟨l,o,(g'.trans A).join B,(s'.trans A.f).trans B.f,M,T⟩
   ·intro sm o l R v z r B M;show k.rt sm o l R v z r ((g'.trans A).join B) M
   ·intro o l R z T B M;show k.nx o l R z T ((g'.trans A).join B) M
   ·intro o l R z T B M;show⟨l,o,(g'.trans A).join B,(s'.trans A.f).trans B.f,M,T⟩
  ·have e:i=ds.length:=by omega
   subst e
   show .inl ⟨aw.stop F (s'.trans am.fz),k.nx j h F σ' (Rt j hI) g' am⟩⟩
end
noncomputable def bg:Y Sm->Y Addr->ai
 | [],_=>[]
 |.v d::as,ps=>Z (.v d)::bg as ps
 |.ob _ o::as,p::ps=>Z (.ob (Z p) o)::bg as ps
 |.ob _ _::as,[]=>ű::bg as []
noncomputable def gA(N:Y Str)(as:Y Sm)(ps:Y Addr):ai:=bg as ps++List.replicate (N.length-as.length) ű
noncomputable def bo:Y Str->Y Sm->Y Addr->ai
 | [],as,ps=>bg as ps
 |_::N,[],ps=>ű::bo N [] ps
 |_::N,.v d::as,ps=>Z (.v d)::bo N as ps
 |_::N,.ob _ o::as,p::ps=>Z (.ob (Z p) o)::bo N as ps
 |_::N,.ob _ _::as,[]=>ű::bo N as []
theorem jq:∀(N:Y Str)(as:Y Sm)(ps:Y Addr),gA N as ps=bo N as ps
 | [],as,ps=>by unfold gA;rw[K5,Nat.zero_sub,List.replicate_zero,Ku];rfl
 |n::N,[],ps=>by
  have:=jq N [] ps;unfold gA at this ⊢;change List.replicate (N.length+1-0) ű=ű::bo N [] ps;rw[←this];rfl
 |n::N,.v d::as,ps=>by have:=jq N as ps;unfold gA at this ⊢;rw[J1,J1,M7];show KG (Z (Sm.v d)::·) this
 |n::N,.ob a o::as,p::ps=>by have:=jq N as ps;unfold gA at this ⊢;rw[J1,J1,M7];show KG (Z (Sm.ob (Z p) o)::·) this
 |n::N,.ob _ _::as,[]=>by have:=jq N as [];unfold gA at this ⊢;rw[J1,J1,M7];show KG (ű::·) this
noncomputable def fR(k:Y Om->Prop):Y Sm->Y Addr->Nat->ai->Prop
 | [],_,_,_=>k []
 |.v _::as,ps,i,ρ=>fR k as ps (i+1) ρ
 |.ob _ _::as,p::ps,i,ρ=>∃o,ρ[i]?=Z (Z (.ob (Z p) o))/\fR (λos=>k (o::os)) as ps (i+1) ρ
 |.ob _ _::_,[],_,_=>False
noncomputable def jv:Y Sm->Nat
 | []=>0
 |.v _::as=>jv as
 |.ob _ _::as=>jv as+1
noncomputable def ei:Y Sm->Y V->Y Addr
 |.v _::as,_::vs=>ei as vs
 |.ob _ _::as,.ref p::vs=>p::ei as vs
 |_,_=>[]
section
variable{K:Â}{f H g u l:Hp}
theorem pQ:∀{as:Y Sm}{vs:Y V}{c:Y (Y Addr)},ArgM K f H as vs c->(ei as vs).length=jv as:=by
 intro as vs c h
 induction h with
 |nil=>rfl
 |v _ _ a=>show a
 |o _ _ a=>show KG (·+1) a
theorem nD:∀{as:Y Sm}{ps:Y Addr},(bg as ps).length=as.length
 | [],_=>rfl
 |.v d::as,ps=>by change (bg as ps).length+1=_;rw[nD];rfl
 |.ob _ o::as,p::ps=>by change (bg as ps).length+1=_;rw[nD];rfl
 |.ob _ _::as,[]=>by change (bg as []).length+1=_;rw[nD];rfl
theorem k8:∀{as:Y Sm}{vs:Y V}{a:Y (Y Addr)},ArgM K f H as vs a->∀{i:Nat}{x:Sm},(bg as (ei as vs))[i]?=Z (Z x)->
  (∃d v,x=.v d/\vs[i]?=Z v/\Rp K f d v)\/∃o p F,x=.ob (Z p) o/\vs[i]?=Z (.ref p)/\a[i]?=Z F/\OmS K f H o p F:=by
 intro as vs a h
 induction h with
 |nil=>intro i x h;simp[bg]at h
 | @v d _ _ _ _ r t c=>
  intro i x h
  cases i with
  |zero=>cases h;show .inl ⟨d,_,S,S,r⟩
  |succ i=>show c (i:=i) h
 | @o _ o p F _ _ _ r t c=>
  intro i x h
  cases i with
  |zero=>cases h;show .inr ⟨o,p,F,S,S,S,r⟩
  |succ i=>show c (i:=i) h
theorem xS:∀{a:Y (Y Addr)},a.flatten.Nodup->∀{i j:Nat}{F G:Y Addr},a[i]?=Z F->a[j]?=Z G->i≠j->∀b∈F,b∉G
 | [],_,i,j,F,G,h,_,_,_,_=>by simp at h
 |L::a,nd,i,j,F,G,r,t,c,b,p=>by
  let⟨x,w,v⟩:=KS.mp (show (L++a.flatten).Nodup from nd);intro o
  cases i with
  |zero=>
   cases r
   cases j with
   |zero=>show c S
   |succ j=>show v b p b (Og.mpr ⟨G,Kp (i:=j) (by simpa using t),o⟩) S
  |succ i=>
   cases j with
   |zero=>
    cases t;show v b o b (Og.mpr ⟨F,Kp (i:=i) (by simpa using r),p⟩) S
   |succ j=>show xS w (by simpa using r) (by simpa using t) (λe=>c (by rw[e])) b p o
theorem ql{N:Y Str}{as:Y Sm}{vs:Y V}{t:Y (Y Addr)}(sm:Same f H)(tb:TabF K f)(w:ArgM K f H as vs t)(nd:t.flatten.Nodup)(P:∀b∈t.flatten,f b=ű):EnvM K (bI H t.flatten) f H (start N vs) (gA N as (ei as vs)):=by
 have y:∀{i:Nat}{x:Sm},(gA N as (ei as vs))[i]?=Z (Z x)->(bg as (ei as vs))[i]?=Z (Z x):=λ{i x} h=>by
  unfold gA at h;rcases KL i (bg as (ei as vs)).length with c|c
  ·rwa [sg c]at h
  ·rw[JU c,LY]at h;split at h<;>cases h
 have J:∀{i:Nat}{v:V},vs[i]?=Z v->(start N vs)[i]?=Z (Z v):=λ{i v} h=>by unfold start;rw[sg (by rw[mn];show bj h),J4,h];rfl
 let⟨Q,U⟩:=w.len;refine⟨λi=>t.getD i [],sm,by unfold start gA;rw[wy,wy,mn,LK,LK,nD,Q],λi d h=>?_,λi a o h=>?_,λi a o h b B=>?_,λi j a T o I M O c b B=>?_,tb⟩
 ·rcases k8 w (y h)with⟨d',v,e,C,r⟩|⟨o,p,F,e,_⟩
  ·cases e;show⟨v,J C,r⟩
  ·cases e
 ·rcases k8 w (y h)with⟨d',v,e,C,r⟩|⟨I,p,F,e,C,E,r⟩
  ·cases e
  ·cases e;refine⟨p,J C,(λq e=>by cases e;rfl),?_⟩;rw[LI,E];show r
 ·rcases k8 w (y h)with⟨d',v,e,_⟩|⟨I,p,F,e,C,E,r⟩
  ·cases e
  ·rw[LI,E]at B;have G:b∈t.flatten:=Og.mpr ⟨F,Kp E,B⟩;show⟨wA G,P b G⟩
 ·rcases k8 w (y M)with⟨d',v,e,_⟩|⟨X,aw,R,e,_,z,_⟩
  ·cases e
  ·rcases k8 w (y O)with⟨d',v,e,_⟩|⟨ar,p2,am,e,_,A,_⟩
   ·cases e
   ·rw[LI,z]at B;rw[LI,A];show xS nd z A c b B
theorem qG{A:Nat->Y Addr}{ar:St}{ρ:ai}{k:Y Om->Prop}(E:EnvM' K l g u ar ρ A):∀{as:Y Sm}{vs:Y V}{I:Y (Y Addr)}{i:Nat}{k:Y Om->Prop},ArgM K f H as vs I->fR k as (ei as vs) i ρ->
  ∃os x,OutM K g u as vs os x/\k os/\x.flatten.Nodup/\(∀b∈x.flatten,l b=ű/\g b=ű)/\∀b∈x.flatten,∃j a o,i<=j/\j<i+as.length/\ρ[j]?=Z (Z (.ob a o))/\b∈A j:=by
 intro as vs I i k h
 induction h generalizing i k with
 |nil=>show λh=>⟨[],[],.nil,h,by simp,λb w=>(by cases w),λb w=>(by cases w)⟩
 |v r t P=>
  intro h;let⟨os,x,J,M,N,O,C⟩:=P (k:=k) (i:=i+1) h;refine⟨os,[]::x,.v J,M,by simpa using N,λb w=>O b (by simpa using w),λb w=>?_⟩;let⟨j,a,o,Q,R,B⟩:=C b (by simpa using w);show⟨j,a,o,(),by rw[J1];omega,B⟩
 | @o _ aw p F as vs I r t P=>
  intro h;let⟨y,G,h⟩:=(show ∃o,ρ[i]?=Z (Z (.ob (Z p) o))/\fR (λos=>k (o::os)) as (ei as vs) (i+1) ρ from h);let⟨os,x,J,M,N,O,C⟩:=P (k:=λos=>k (y::os)) (i:=i+1) h;let⟨q,e,T,am⟩:=E.ow i _ y G;cases T p S;refine⟨y::os,A i::x,.o am J,M,?_,λb w=>?_,λb w=>?_⟩
  ·refine KS.mpr ⟨am.nodup,N,λb w c U e=>?_⟩;subst e;let⟨j,a,o,Q,R,B,X⟩:=C b U;show E.dj i j _ a y o G B () b w X
  ·rcases Kj.mp (show b∈A i++x.flatten from w)with z|z
   ·show E.no i _ y G b z
   ·show O b z
  ·rcases Kj.mp (show b∈A i++x.flatten from w)with z|z
   ·show⟨i,_,y,J0 _,by rw[J1];omega,G,z⟩
   ·let⟨j,a,o,Q,R,B⟩:=C b z;show⟨j,a,o,(),by rw[J1];omega,B⟩
end
section
variable{P:Ä}{w:Å}{K:Â}{mg:Str->Ų Value}{base:Heap}
theorem Fun.okM{x qual:Str}{st:Ë}{f:Addr}{fd:É}{N ps:Y Str}{k:Nat}{sp:cJ}(F:Fun K x qual st f fd)(am:FnScope N ps (aQ st))(len:∀as R C,sp as R C->as.length=ps.length)
  (Qg:∀(O:Value)(A:È)(outer:Y ê)(s:À)(H:Hp)(E:XK)(as:Y Sm)(R:Sm->Y Om->Prop)(C:XD->Y Om->Prop)(qs:Y Addr),fd.code=O->Room k (A.deeper (ë qual (aQ st) s.heap.objs.size f O))->sp as R C->qs.length=jv as->
   ∃t,PSsM K (fW bt P w K mg base N qual (aQ st) f O A outer s H E).nox (cY st) t/\let ke:EndsM:={ nx:=λρ=>fR (R (.v .non)) as qs 0 ρ,rt:=λsm ρ=>fR (R sm) as qs 0 ρ };t ke (bo N as qs)):FnOk P w K mg base bt (k+1) f fd ps (lSpM K sp):=by
 refine F.okL am (λvs H Q E ⟨J,as,M,R,C,sm,tb,U,nd,hn,h,_⟩=>by rw[U.len.1];show len as R C h) (λO A outer s H vs Q E O0 hr ⟨J,as,M,R,C,sm,tb,U,nd,hn,h,kk⟩=>?_);let⟨t,ht,hq⟩:=Qg O A outer s H E as R C (ei as vs) O0 hr h (pQ U);dsimp only at hq;rw[←jq]at hq;have al:=len as R C h
 have nl:ps.length<=N.length:=by have:=KG List.length am.pre;rw[Kq]at this;omega
 have T:∀sm l p B v y,fR (R sm) as (ei as vs) 0 l->Gr J (bI H M.flatten) p B->EnvM K (bI H M.flatten) p B (y++[Z v]) (l++[Z sm])->Q v B:=λI l p B v y hk g V=>by
  let⟨fp,G⟩:=V
  have hl:y.length=l.length:=by have:=G.len;simpa using this
  let⟨os,O7,h1,h2,h3,h4,h5⟩:=qG (k:=R I) (G.take hl.symm) U hk
  have aw:(l++[Z I])[l.length]?=Z (Z I):=by rw[JU (J0 _),K3];rfl
  cases I with
  |v d=>
   let⟨u,ar,r⟩:=G.sl _ d aw;rw[←hl,JU (J0 _),K3]at ar;cases ar;show kk (.v d) os p B v [] O7 h2 g (.v r) h1 (by simpa using h3) (λb X=>h4 b (by simpa using X))
  |ob a o=>
   let⟨u,ar,Xz,r⟩:=G.ow _ a o aw;rw[←hl,JU (J0 _),K3]at ar;cases ar;refine kk (.ob a o) os p B _ (fp l.length) O7 h2 g (.o Xz r) h1 ?_ λb X=>?_
   ·refine KS.mpr ⟨r.nodup,h3,λb X c hc e=>?_⟩;subst e;let⟨j,a2,o2,_,_,j3,j4⟩:=h5 b hc;have hj:=bj j3;show G.dj _ j a a2 o o2 aw (by rw[sg hj];show j3) () b X j4
   ·rcases Kj.mp X with z|z
    ·show G.no _ a o aw b z
    ·show h4 b z
 have g0:Gr J (bI H M.flatten) J H:=⟨Same.refl _,vb,sm,λ_ _ _ h _=>h⟩;refine⟨lM K _ t,ht.ps S,J,bI H M.flatten,J,_,_,g0,ql sm tb U nd hn,hq,⟨λl p B y r g V=>?_,λI l p B v y r g V=>T I l p B v y r g V,λ_ _ _ _ h=>h.elim,λ_ _ _ _ h=>h.elim,λ_ _ _ _ _ _ _ _ h=>h.elim⟩⟩;show T (.v .non) l p B .non y r g (V.snocV .non)
theorem Fun.clM{x:Str}{st:Ë}{f:Addr}{a:É}{ps:Y Str}{n:Nat}{z:cJ}(F:Fun K x x st f a)(m:mg x=Z (.ref f))(H:FnOk P w K mg base bt n f a ps (lSpM K z))
  (b:oR st x x ps:=by intro _ _ _ _ _ _;first|show n6 λ_=>rfl|show iI λ_ _=>rfl|show lH λ_ _ _=>rfl|show us_4 λ_ _ _ _=>rfl|show us_0 S|show us_5 λ_ _ _ _ _=>rfl|show us_6 λ_ _ _ _ _ _=>rfl|show us_7 λ_ _ _ _ _ _ _=>rfl|show us_8 λ_ _ _ _ _ _ _ _=>rfl):ClM P w K mg base n x ps z:=⟨f,a,H,F.binds b,F.kp,m⟩
theorem ClM.mono{n m:Nat}{x:Str}{ps:Y Str}{z:cJ}(C:ClM P w K mg base n x ps z)(k:n<=m:=by decide):ClM P w K mg base m x ps z:=by let⟨f,a,F,r⟩:=C.ex;show⟨f,a,F.mono k,r⟩
end
section
variable{K:Â}{X:Cx}{e a b:Ã}{A J G:TX}{B l C y I:Õ}{x:Str}{i:Nat}
noncomputable def ownL(ρ:ai)(i:Nat)(k:Ų Addr->Y D->Prop):Prop:=match ρ[i]? with|some (Z (.ob a (.lst ds)))=>k a ds|_=>False
theorem ownL.get{ρ:ai}{i:Nat}{k:Ų Addr->Y D->Prop}(h:ownL ρ i k):∃a ds,ρ[i]?=Z (Z (.ob a (.lst ds)))/\k a ds:=by
 unfold ownL at h;split at h
 ·next a ds e=>show⟨a,ds,e,h⟩
 ·show h.elim
theorem StM.list{c o g H:Hp}{j w:St}{ρ v:ai}{p:XD->ai->Prop}{a:Ų Addr}{ds:Y D}(Q:StM K X c o g H j w ρ v p)(t:ρ[i]?=Z (Z (.ob a (.lst ds)))):∃q vs,j[i]?=Z (Z (.ref q))/\H q=Z (.lst vs)/\RpL K g ds vs /\
  ∀(f:Y D)(ws:Y V),RpL K g f ws->StM K X c o g (au H q (.lst ws)) j w (ρ.set i (Z (.ob a (.lst f)))) v p:=by
 have h:=bj t;let⟨q,vs,e,z,N,O,E,F⟩:=Q.E.list (i:=i) (a:=a) (ds:=ds) Q.g (by rw[sg h];show t);rw[sg (by rw[←Q.l];show h)]at e;refine⟨q,vs,e,z,E,λf ws r=>?_⟩;let⟨u,M⟩:=F f ws r;refine⟨M,by rw[Ki];show Q.l,?_,Q.x⟩;rw[List.set_append_left _ _ h]at u;show u
noncomputable def zg(i:Nat)(A:TX):bG:=λf ρ=>ownL ρ i λ_ _=>A ρ (xV λd c=>ownL c i λa ds=>ds.length<sizeLine/\NF (ds++[d]) λg=>f.nx (c.set i (Z (.ob a (.lst g))))) f.ex
theorem iM(i:Nat)(he:PX K X e A)(Q:((backTo C (starEach [e] X.env)).all (λx=>!x.1)&&(Ù C (Î [] X.env)).all (λx=>x.1.isSome)&&decide (([e]:Y Ã).length+([]:Y Ï).length+(if ([]:Y Ï).isEmpty then 0 else 1)<30))=ų)
  (h:starEach [e] X.env=(Ŵ,eval e X.env)::starEach [] X.env) (aw:X.N[i]?=Z x:=by rfl) (hv:b7 X.env.scope x:=by nofun) (hd:ad x:=by decide) (M:ap x:=by decide)
  (N:Ç (.Name x y) "append" X.env (eval (.Name x y) X.env)=eval (.Name x y) X.env:=by rfl) (O:(l.endLine==C.line)=ų:=by rfl) (hs:Ñ (.Call (.Attribute (.Name x y) "append" l) [e] [] C) ű B.line X.env=pure Ŵ:=by rfl) :
  PSM K X (.Expr (.Call (.Attribute (.Name x y) "append" l) [e] [] C) B) (zg i A):=
 ⟨λar=>(mM (gP LZ Oh Oi rf (pv i aw hv hd M) (cC (he.pe ar) pa_nil h) N Q O h ao) hs).imp λE σ H P=>by
  let⟨c,F,Φ,ρ,z,g,V,t,k⟩:=P;let⟨a,ds,ho,t⟩:=ownL.get t;have am:=eu g V k.ex;let⟨q,vs,u,hp,rl,_⟩:=am.list ho;refine⟨_,u,.inl ⟨S,vs,SqL.of hp⟩,c,F,Φ,[],ρ,[],_,z.ex,am,t,λs ρ1 f H1 v r j _=>?_⟩;let⟨d,rfl,r⟩:=r.get;let⟨a1,XA,T,hl,r⟩:=ownL.get r;let⟨q1,U,w,R,p,k1⟩:=j.list T;rw[u]at w;cases w;have o:=k1 _ _ (p.append (.one j.last))
  show⟨q,U,v,S,S,R,by rw[p.1];show hl,k.nx _ f _ σ r.get o.g o.env⟩⟩
noncomputable def AV(i:Nat)(J:TX):TX:=λρ R f=>ownL ρ i λ_ _=>J ρ (xV λn c=>match n with|.int n=>ownL c i λa ds=>∃j d,n=(j:Nat)/\j<2^62/\ds[j]?=Z d/\NF (ds.eraseIdx j) λg=>R (.v d) (c.set i (Z (.ob a (.lst g))))|_=>False) f
theorem RpL.eraseIdx{c:Hp}{ds:Y D}{vs:Y V}(h:RpL K c ds vs)(j:Nat):RpL K c (ds.eraseIdx j) (vs.eraseIdx j):=by rw[Mp,Mp];show (h.take j).append (h.drop (j+1))
theorem D8{j n:Nat}(h:j<n):ą (j:Int) n=Z j:=by unfold ą;simp;omega
theorem xk(i:Nat)(ha:PX K X a J)(U:((backTo C (starEach [a] X.env)).all (λx=>!x.1)&&(Ù C (Î [] X.env)).all (λx=>x.1.isSome)&&decide (([a]:Y Ã).length+([]:Y Ï).length+(if ([]:Y Ï).isEmpty then 0 else 1)<30))=ų)
  (p:starEach [a] X.env=(Ŵ,eval a X.env)::starEach [] X.env) (hN:X.N[i]?=Z x:=by rfl) (c:b7 X.env.scope x:=by nofun) (hd:ad x:=by decide) (N:ap x:=by decide)
  (O:Ç (.Name x y) "pop" X.env (eval (.Name x y) X.env)=eval (.Name x y) X.env:=by rfl) (P:(l.endLine==C.line)=ų:=by rfl):PX K X (.Call (.Attribute (.Name x y) "pop" l) [a] [] C) (AV i J):=
 ⟨λhK=>(gP LZ PySem.F.slot_list_pop PySem.F.type_list_pop A9 (pv i hN c hd N) (cC (ha.pe hK) pa_nil p) O U P p ao).imp λσ H Q T=>by
  let⟨h,M,Φ,τ,ρ,κ,R,aw,am,t,k⟩:=T;let⟨a,ds,ho,t⟩:=ownL.get t;let⟨q,vs,E,hp,rl,_⟩:=am.list ho;refine⟨_,E,.inl ⟨S,vs,SqL.of hp⟩,h,M,Φ,τ,ρ,κ,_,aw,am,t,λs ρ1 o H1 w r u f1=>?_⟩;let⟨n,rfl,r⟩:=r.get;have g:=u.last;let⟨n,rfl,r⟩:=gw r;obtain rfl:=g.i;let⟨a1,XA,TN,j,d,rfl,h62,hj,r⟩:=ownL.get r;have f:=u.pop am.lk;let⟨q1,Vw,F,ar,z,k1⟩:=f.list TN;rw[E]at F;cases F;let⟨v,c,rv⟩:=z.at hj;have S2:=k1 _ _ (z.eraseIdx j)
  show⟨q,Vw,_,j,v,S,S,ar,(),(),D8 (bj c),c,k _ _ o _ v r.get (S2.pushV rv) f1⟩⟩
noncomputable def EC(i:Nat)(A G:TX):bG:=λg ρ=>A ρ (xV λd c=>ownL c i λ_ _=>G c (xV λo f=>match o with|.int n=>ownL f i λa ds=>∃j,eX ds.length n=Z j/\NF (ds.set j d) λh=>g.nx (f.set i (Z (.ob a (.lst h))))|_=>False) g.ex) g.ex
theorem jw(i:Nat)(he:PX K X e A)(hk:PX K X b G)(hN:X.N[i]?=Z x:=by rfl)(hv:b7 X.env.scope x:=by nofun)(hd:ad x:=by decide)(am:ap x:=by decide)
  (ha:∀v,assign (.Subscript (.Name x y) b I) X.env v=(do
   let ov ←holding [v] (eval (.Name x y) X.env)
   let iv ←holding [v,ov] (eval b X.env)
   standAt I
   holding [v,ov,iv] (setItem ov iv v)
   release [v,ov,iv] []):=by intro _;rfl)
  (hs:ğ [.Subscript (.Name x y) b I] e B.line X.env=pure Ŵ:=by rfl) (hw:Ġ [.Subscript (.Name x y) b I] e X.env=pure ű:=by rfl)
  (h1:(Ê [.Subscript (.Name x y) b I] X.env).map (·.2)=[assign (.Subscript (.Name x y) b I) X.env]:=by rfl) :
  PSM K X (.Assign [.Subscript (.Name x y) b I] e B) (EC i A G):=
 ⟨λR=>(vU (he.pe R) (BI (pv i hN hv hd am) (hk.pe R) t6 ha) hs hw h1).imp λE σ H T=>by
  let⟨f,z,Φ,ρ,u,g,V,t,k⟩:=T;refine⟨f,z,Φ,[],ρ,[],_,u.ex,eu g V k.ex,t,λs p h H1 v r F _=>?_⟩;let⟨d,rfl,r⟩:=r.get;let⟨a1,XA,aw,r⟩:=ownL.get r;let⟨q,vs,P,_⟩:=F.list aw;refine⟨_,P,f,z,h,_,p,_,_,u.ex,F,r,λs2 ρ2 o H2 w c M _=>?_⟩;let⟨kk,rfl,c⟩:=c.get;let⟨rd,rk⟩:=M.last2;let⟨n,rfl,c⟩:=gw c;obtain rfl:=rk.i;let⟨a2,Vx,ar,j,hj,c⟩:=ownL.get c;let⟨q2,Vy,Q,U,O,k2⟩:=M.list ar;rw[P]at Q;cases Q;have N:=k2 _ _ (O.set rd j)
  show⟨q,Vy,n,j,S,S,U,by rw[O.1];show hj,k.nx _ o _ σ c.get N.g N.env⟩⟩
noncomputable def C7(i:Nat)(f:Int->Int->Int)(G A:TX):bG:=λh ρ=>(ownL ρ i λ_ _=>True)/\G ρ (xV λr c=>match r with|.int n=>ownL c i λa ds=>∃(j:Nat)(v:Int),n=(j:Int)/\ds[j]?=Z (.int v)/\A c (xV λd g=>match d with|.int m=>ownL g i λa2 o=>j<o.length/\NF (o.set j (.int (f v m))) λp=>h.nx (g.set i (Z (.ob a2 (.lst p))))|_=>False) h.ex|_=>False) h.ex
theorem w6{op:ñ}{f:Int->Int->Int}(i:Nat)(P:qB X op (tZ f))(hk:PX K X b G)(he:PX K X e A)(hN:X.N[i]?=Z x:=by rfl)(hv:b7 X.env.scope x:=by nofun)(hd:ad x:=by decide)(O0:ap x:=by decide)
  (ha:∀r p new,augStore b r p new=(do holding [new,r,p] (setItem r p new);release [new,r,p] [];pure .next):=by intros;rfl) :
  PSM K X (.AugAssign (.Subscript (.Name x y) b I) op e B) (C7 i f G A):=
 ⟨λN=>(Cw (pv i hN hv hd O0) (hk.pe N) (yx N) (he.pe N) P t6 ha).imp λE σ H OT=>by
  let⟨o,ar,Φ,ρ,U,g,V,⟨O,t⟩,k⟩:=OT;let⟨a,ds,O,_⟩:=ownL.get O;have am:=eu g V k.ex;let⟨q,vs,M,hp,rl,_⟩:=am.list O;refine⟨_,M,o,ar,Φ,[],ρ,[],_,U.ex,am,t,λs1 T Q H1 w c F _=>?_⟩;let⟨kk,rfl,c⟩:=c.get;have rk:=F.last;let⟨n,rfl,c⟩:=gw c;obtain rfl:=rk.i;let⟨a1,XA,TN,j,v,rfl,hj,c⟩:=ownL.get c;let⟨q1,Vw,e2,Qd,UD,_⟩:=F.list TN;rw[M]at e2;cases e2;let⟨u,hu,ru⟩:=UD.at hj;obtain rfl:=ru.i;refine⟨q,Vw,_,j,_,S,S,.of Qd,S,hu,o,ar,Q,_,T,_,_,U.ex,F,c,λs2 ρ2 R H2 z h aw _=>?_⟩;let⟨d,rfl,h⟩:=h.get;have rd:=aw.last;let⟨m,rfl,h⟩:=gw h;obtain rfl:=rd.i;let⟨a2,Vx,RJ,Xq,h⟩:=ownL.get h;let⟨q2,Vy,e3,P7,Tr,k2⟩:=aw.list RJ;rw[M]at e3;cases e3;have S3:=k2 _ _ (Tr.set (.int (f v m)) j)
  show⟨v,m,S,S,q,Vy,_,j,S,S,P7,nF (by rw[Tr.1];show Xq),k.nx _ R _ σ h.get S3.g S3.env⟩⟩
noncomputable def bx:Ų Sm->Ų Sm
 |some (.ob ű (.lst ds))=>Z (.v (.lst ds))
 |some (.ob ű (.map c))=>Z (.v (.map c))
 |x=>x
noncomputable def bp:Nat->ai->ai
 |_,[]=>[]
 |0,x::ρ=>bx x::ρ
 |i+1,x::ρ=>x::bp i ρ
theorem xP:∀(i:Nat)(ρ:ai),bp i ρ=(match ρ[i]? with
  |some (Z (.ob ű (.lst ds)))=>ρ.set i (Z (.v (.lst ds)))
  |some (Z (.ob ű (.map c)))=>ρ.set i (Z (.v (.map c)))
  |_=>ρ)
 |0,[]=>rfl
 |_+1,[]=>rfl
 |0,Z (.ob ű (.lst _))::_=>rfl
 |0,Z (.ob ű (.map _))::_=>rfl
 |0,Z (.ob ű (.mpT _))::_=>rfl
 |0,Z (.ob ű (.obj _ _))::_=>rfl
 |0,Z (.ob ű .ptr)::_=>rfl
 |0,Z (.ob ű (.tl _))::_=>rfl
 |0,Z (.ob ű (.pr _ _))::_=>rfl
 |0,Z (.ob (Z _) _)::_=>rfl
 |0,Z (.v _)::_=>rfl
 |0,ű::_=>rfl
 |i+1,x::ρ=>by
  change x::bp i ρ=_;rw[xP i ρ,Ot]
  match ρ[i]? with
  |some (Z (.ob ű (.lst _)))=>rfl
  |some (Z (.ob ű (.map _)))=>rfl
  |some (Z (.ob ű (.mpT _)))=>rfl
  |some (Z (.ob ű (.obj _ _)))=>rfl
  |some (Z (.ob ű .ptr))=>rfl
  |some (Z (.ob ű (.tl _)))=>rfl
  |some (Z (.ob ű (.pr _ _)))=>rfl
  |some (Z (.ob (Z _) _))=>rfl
  |some (Z (.v _))=>rfl
  |some ű=>rfl
  |none=>rfl
theorem Rp.map_of{g:Hp}{j:Y (aO×D)}{ws:Y (aO×V)}{p:Addr}(h:g p=Z (.dK ws))(r:Paired (fF K g) j ws):Rp K g (.map j) (.ref p):=by
 refine .map h ?_ ?_
 ·clear h
  induction r with
  |nil=>rfl
  |cons q _ f=>rw[Kk,Kk,f,q.1]
 ·clear h
  induction r with
  |nil=>intro i w d c;simp at c
  |cons q _ f=>
   intro i w d c hd
   cases i with
   |zero=>cases c;cases hd;show q.2
   |succ i=>show f i w d c hd
theorem EnvM.frz1f{P Q t H:Hp}{σ:St}{ρ:ai}{o:Om}{R:D}(E:EnvM K Q t H σ ρ)(g:Gr P Q t H){i:Nat}(T:ρ[i]?=Z (Z (.ob ű o)))
  (hr:∀p F,OmS K t H o p F->∃u,H p=Z u/\∀f,Same t f->f p=Z u->Rp K f R (.ref p)) (hs:o.solid=ų:=by rfl):∃f,Gr P Q f H/\EnvM K Q f H σ (ρ.set i (Z (.v R)))/\Same t f:=by
 let⟨fp,E⟩:=E;let⟨p,e,_,r⟩:=E.ow i ű _ T;have aw:=r.mem hs;have no:=E.no i ű _ T p aw;let⟨u,U,h2⟩:=hr p _ r;have O:=cR no.2 u
 have w:∀{j:Nat}{x:Sm},(ρ.set i (Z (Sm.v R)))[j]?=Z (Z x)->(j=i/\x=.v R)\/(j≠i/\ρ[j]?=Z (Z x)):=λ{j x} h=>by
  rcases iE h with⟨e,_,e1⟩|⟨e,h⟩
  ·cases e1;show .inl ⟨e,S⟩
  ·show .inr ⟨e,h⟩
 refine⟨au t p u,g.freeze no.1 no.2 U,⟨fp,λb u' am=>?_,by rw[Ki,E.len],λj d h=>?_,λj a o h=>?_,λj a o h b ar=>?_,λj k a a' o o' M N c=>?_,E.tb.same O⟩,O⟩
 ·by_cases c:b=p
  ·subst c;rw[aZ]at am;cases am;show U
  ·rw[aH c]at am;show E.fz b u' am
 ·rcases w h with⟨c,h⟩|⟨_,h⟩
  ·cases h;subst c;show⟨_,e,h2 _ O aZ⟩
  ·let⟨v,hv,rv⟩:=E.sl j d h;show⟨v,hv,rv.same O⟩
 ·rcases w h with⟨_,h⟩|⟨_,h⟩
  ·cases h
  ·let⟨q,hq,ha,rq⟩:=E.ow j a o h;show⟨q,hq,ha,rq.keep O λ_ _ _ h=>h⟩
 ·rcases w h with⟨_,h⟩|⟨c,h⟩
  ·cases h
  ·have:b≠p:=λz=>E.dj j i a ű o _ h T c b ar (by rw[z];show aw);rw[aH this];show E.no j a o h b ar
 ·rcases w M with⟨_,M⟩|⟨_,M⟩
  ·cases M
  rcases w N with⟨_,N⟩|⟨_,N⟩
  ·cases N
  show E.dj j k a a' o o' M N c
theorem EnvM.frz1{f h j H:Hp}{t:St}{ρ:ai}{o:Om}{r:D}(E:EnvM K h j H t ρ)(g:Gr f h j H){i:Nat}(v:ρ[i]?=Z (Z (.ob ű o)))
  (w:∀p F,OmS K j H o p F->∃u,H p=Z u/\∀c,Same j c->c p=Z u->Rp K c r (.ref p)) (z:o.solid=ų:=by rfl):∃c,Gr f h c H/\EnvM K h c H t (ρ.set i (Z (.v r))):=
 let ⟨c,g',E',_⟩:=E.frz1f g v w z
 ⟨c,g',E'⟩
theorem EnvM.frz{f j u H:Hp}{v:St}{ρ:ai}(E:EnvM K j u H v ρ)(g:Gr f j u H)(i:Nat):∃c,Gr f j c H/\EnvM K j c H v (bp i ρ):=by
 rw[xP];split
 ·next ds ho=>
  refine E.frz1 g ho λp F r=>?_;let⟨_,vs,o,t⟩:=r.lst_inv;show⟨_,o,λc s h=>(t.same s).lst h⟩
 ·next OW ho=>
  refine E.frz1 g ho λp F r=>?_;let⟨_,ws,o,t⟩:=r.map_inv;show⟨_,o,λc s h=>Rp.map_of h (nj (λ_ _ r=>⟨r.1,r.2.same s⟩) t)⟩
 ·show⟨u,g,E⟩
noncomputable def CG(i:Nat)(t:bG):bG:=λc ρ=>t c (bp i ρ)
theorem km{c:Y Ë}{t:bG}(i:Nat)(h:PSsM K X c t):PSsM K X c (CG i t):=⟨λv=>(h.ps v).imp λE z H r=>by
 let⟨j,p,w,ρ,o,g,V,t,k⟩:=r;let⟨f,g',u⟩:=V.frz g i
 show⟨j,p,f,bp i ρ,o,g',u,t,k⟩⟩
end
noncomputable def zM(z:cP):cJ:=λas R _=>∃ds,as=ds.map Sm.v/\z ds λd=>R (.v d) []
theorem vq{H:Hp}:bI H []=H:=funext λb=>JV (by simp)
theorem qS{K:Â}{a H:Hp}:∀{ds:Y D}{vs:Y V},RpL K a ds vs->ArgM K a H (ds.map Sm.v) vs (ds.map λ_=>[])
 | [],[],_=>.nil
 | [],_::_,h=>by cases h.1
 |_::_,[],h=>by cases h.1
 |d::ds,v::vs,h=>.v (h.2 0 v d S S) (qS ⟨by have:=h.1;simpa using this,λi u e f c=>h.2 (i+1) u e f c⟩)
theorem rT{a:Type}:∀(ds:Y a),(ds.map λ_=>([]:Y Addr)).flatten=[]
 | []=>rfl
 |_::ds=>by simp
theorem cK{K:Â}{z:cP}:∀vs H Q E,lSp K z vs H Q E->lSpM K (zM z) vs H Q E:=λvs H Q E h=>by
 let⟨p,ds,R,sm,tb,rl,l,k⟩:=h;refine⟨p,ds.map Sm.v,ds.map λ_=>[],λs os=>∃d,s=.v d/\R d,λ_ _=>False,sm,tb,qS rl,by rw[rT];show Ny,λb c=>(by rw[rT]at c;cases c),⟨ds,S,?_⟩,λs os a f v F t r g j x w u=>?_⟩
 ·have e:R=λd=>∃d',(Sm.v d:Sm)=.v d'/\R d':=funext λd=>propext ⟨λh=>⟨d,S,h⟩,λ⟨d',e,h⟩=>by cases e;show h⟩;rw[←e];show l
 ·let⟨d,rfl,r⟩:=r
  cases j with
  |v o=>
   rw[rT,vq]at g;show k d a f v r g o
noncomputable def pinned:Ų Sm->Ų Sm
 |some (.v d)=>Z (.v d)
 |some (.ob (Z p) o)=>Z (.ob (Z p) o)
 |_=>ű
noncomputable def jF(cap:Y (Ų Nat))(ρ:ai):ai:=cap.map λo=>o.bind λi=>pinned (ρ[i]?).join
noncomputable def iV:Y (Ų Nat)->ai->ai->(ai->Prop)->Prop
 | [],_,ρ,k=>k ρ
 |none::cap,_::ρc,ρ,k=>iV cap ρc ρ k
 |some i::cap,x::ρc,ρ,k=>match ρ[i]? with
  |some (Z (.ob (Z p) _))=>∃o,x=Z (.ob (Z p) o)/\iV cap ρc (bh ρ i o) k
  |_=>iV cap ρc ρ k
 |_::_,[],_,_=>False
noncomputable def gy(cap:Y (Ų Nat)):Y Nat:=cap.filterMap id
theorem qo{cap:Y (Ų Nat)}{j i:Nat}(h:cap[j]?=Z (Z i)):i∈gy cap:=Lk.mpr ⟨Z i,Kp h,S⟩
theorem nH:∀{cap:Y (Ų Nat)}{ρc ρ:ai}{k:ai->Prop},(gy cap).Nodup->iV cap ρc ρ k->∃g,k g/\g.length=ρ.length/\(∀(i:Nat)(x:Sm),g[i]?=Z (Z x)->(∃(j:Nat)(p:Addr)(a o:Om),cap[j]?=Z (Z i)/\ρ[i]?=Z (Z (.ob (Z p) a))/\ρc[j]?=Z (Z (.ob (Z p) o))/\x=.ob (Z p) o)\/(ρ[i]?=Z (Z x)/\∀(j:Nat)(p:Addr)(a:Om),cap[j]?=Z (Z i)->ρ[i]?≠Z (Z (.ob (Z p) a)))) /\
  ∀(j i:Nat)(p:Addr)(a:Om),cap[j]?=Z (Z i)->ρ[i]?=Z (Z (.ob (Z p) a))->∃o:Om,ρc[j]?=Z (Z (.ob (Z p) o))
 | [],ρc,ρ,k,_,h=>⟨ρ,h,S,λi x M=>.inr ⟨M,λj p a f=>(by simp at f)⟩,λj i p a f=>(by simp at f)⟩
 |none::cap,x::ρc,ρ,k,nd,h=>by
  let⟨g,w,z,A,B⟩:=nH (cap:=cap) (ρc:=ρc) (ρ:=ρ) (k:=k) nd h;refine⟨g,w,z,λi y C=>?_,λj i p a f u=>?_⟩
  ·rcases A i y C with⟨j,p,a,o,l,r,G,H⟩|⟨l,r⟩
   ·show .inl ⟨j+1,p,a,o,l,r,G,H⟩
   ·refine .inr ⟨l,λj p a f=>?_⟩
    cases j with
    |zero=>cases f
    |succ j=>show r j p a f
  ·cases j with
   |zero=>cases f
   |succ j=>show B j i p a f u
 |some v::cap,x::ρc,ρ,k,nd,h=>by
  let⟨J,I⟩:=Ko.mp (show (v::gy cap).Nodup from nd);have h':(match ρ[v]? with|some (Z (.ob (Z p) _))=>∃o,x=Z (.ob (Z p) o)/\iV cap ρc (bh ρ v o) k|_=>iV cap ρc ρ k):=h;by_cases t:∃p a,ρ[v]?=Z (Z (.ob (Z p) a))
  ·let⟨p,a,t⟩:=t;rw[t]at h';let⟨o,rfl,h'⟩:=h';let⟨g,w,z,A,B⟩:=nH I h';have ne:∀{j i:Nat},cap[j]?=Z (Z i)->i≠v:=λf e=>J (e▸qo f);refine⟨g,w,by rw[z,uJ],λi y C=>?_,λj i F E f u=>?_⟩
   ·rcases A i y C with⟨j,F,E,N,l,r,G,H⟩|⟨l,r⟩
    ·rw[kI (ne l)]at r;show .inl ⟨j+1,F,E,N,l,r,G,H⟩
    ·by_cases c:i=v
     ·subst c;rw[jU]at l;rw[t]at l;simp only at l;rw[KR (bj t)]at l;cases l;show .inl ⟨0,p,a,o,S,t,S,S⟩
     ·rw[kI c]at l r;refine .inr ⟨l,λj F E f=>?_⟩
      cases j with
      |zero=>cases f;show absurd S c
      |succ j=>show r j F E f
   ·cases j with
    |zero=>cases f;rw[t]at u;cases u;show⟨o,S⟩
    |succ j=>show B j i F E f (by rw[kI (ne f)];show u)
  ·have K:iV cap ρc ρ k:=by
    split at h'
    ·next p a e=>show absurd ⟨p,a,e⟩ t
    ·show h'
   let⟨g,w,z,A,B⟩:=nH I K;refine⟨g,w,z,λi y C=>?_,λj i p a f u=>?_⟩
   ·rcases A i y C with⟨j,p,a,o,l,r,G,H⟩|⟨l,r⟩
    ·show .inl ⟨j+1,p,a,o,l,r,G,H⟩
    ·refine .inr ⟨l,λj p a f=>?_⟩
     cases j with
     |zero=>cases f;show λe=>t ⟨p,a,e⟩
     |succ j=>show r j p a f
   ·cases j with
    |zero=>cases f;show absurd ⟨p,a,u⟩ t
    |succ j=>show B j i p a f u
 |none::_,[],_,_,_,h=>h.elim
 |some _::_,[],_,_,_,h=>h.elim
section
variable{K:Â}{X:Cx}{z H C A B:Hp}{c:St}{ρ:ai}{cap:Y (Ų Nat)}
theorem sD{i:Nat}{x:Sm}(h:(jF cap ρ)[i]?=Z (Z x)):∃j,cap[i]?=Z (Z j)/\ρ[j]?=Z (Z x)/\pinned (Z x)=Z x:=by
 unfold jF at h;rw[J4]at h
 cases e:cap[i]? with
 |none=>rw[e]at h;cases h
 |some o=>
  rw[e]at h
  cases o with
  |none=>cases h
  |some j=>
   have h':pinned (ρ[j]?).join=Z x:=Kh h
   cases f:(ρ[j]?).join with
   |none=>rw[f]at h';cases h'
   |some y=>
    rw[f]at h'
    cases y with
    |v d=>cases h';show⟨j,S,rp f,S⟩
    |ob a o=>
     cases a with
     |none=>cases h'
     |some p=>cases h';show⟨j,S,rp f,S⟩
theorem yn{i j:Nat}{v:V}(a:cap[i]?=Z (Z j))(e:c[j]?=Z (Z v)):(dM cap c)[i]?=Z (Z v):=by unfold dM;rw[J4,a];simp[e]
theorem EnvM.side{p:Addr}{u u':HO}(E:EnvM K z A H c ρ)(j:z p=Z u)(l:A p=ű):EnvM K (au z p u') A (au H p u') c ρ:=by
 let⟨g,E⟩:=E
 have ne:∀{i:Nat}{a:Ų Addr}{o:Om},ρ[i]?=Z (Z (.ob a o))->∀b∈g i,b≠p:=λh b f e=>by have:=(E.no _ _ _ h b f).1;rw[e,j]at this;cases this
 show⟨g,λb w e=>by rw[aH (cA e l)];show E.fz b w e,E.len,E.sl,λi a o h=>let ⟨q,e,ha,r⟩:=E.ow i a o h;⟨q,e,ha,r.keep (Same.refl _) λb f w t=>by rw[aH (ne h b f)];show t⟩,
  λi a o h b f=>by rw[aH (ne h b f)];show E.no i a o h b f,E.dj,E.tb⟩
structure StN(K:Â)(Φ0 z A H:Hp)(c τ:St)(ρ κ:ai):Prop where
 g:Gr Φ0 z A H
 l:ρ.length=c.length
 E:EnvM K z A H (c++τ) (ρ++κ)
noncomputable def nox:XD->ai->Prop:=λ_ _=>False
theorem StM.n{a z:Hp}{f:St}{e:ai}{g:XD->ai->Prop}(Q:StM K X a z A H c f ρ e g):StN K a z A H c f ρ e:=⟨Q.g,Q.l,Q.E⟩
theorem StN.m{a z:Hp}{f:St}{e:ai}(Q:StN K a z A H c f ρ e):StM K X a z A H c f ρ e nox:=⟨Q.g,Q.l,Q.E,λ_ _ _ _ _ _ _ _ h=>h.elim⟩
inductive lNm(K:Â)(t:TX)(c:St)(H:Hp)(Q:VK):Prop|mk (Φ0:Hp) (z:Hp) (A:Hp) (τ:St) (ρ:ai) (κ:ai) (R:Sm->ai->Prop) (_:StN K Φ0 z A H c τ ρ κ) (_:t ρ R nox) (_:∀sm ρ' B C v,R sm ρ'->StN K Φ0 z B C c (τ++[Z v]) ρ' (κ++[Z sm])->Same A B->Q v C)
inductive lNb(K:Â)(t:dD)(c:St)(H:Hp)(Q:Bool->Hp->Prop):Prop|mk (Φ0:Hp) (z:Hp) (A:Hp) (τ:St) (ρ:ai) (κ:ai) (R:Bool->ai->Prop) (_:StN K Φ0 z A H c τ ρ κ) (_:t ρ R nox) (_:∀b ρ' B C,R b ρ'->StN K Φ0 z B C c τ ρ' κ->Same A B->Q b C)
theorem lNm.m{t:TX}{Q:VK}(h:lNm K t c H Q):lXm K X t c H Q:=by let⟨a,z,A,l,ρ,j,R,U,t,k⟩:=h;show⟨a,z,A,l,ρ,j,R,nox,U.m,t,λsm e B C v r g f=>k sm e B C v r g.n f⟩
theorem lNb.m{t:dD}{Q:Bool->Hp->Prop}(h:lNb K t c H Q):lXb K X t c H Q:=by let⟨a,z,A,l,ρ,j,R,U,t,k⟩:=h;show⟨a,z,A,l,ρ,j,R,nox,U.m,t,λb e B C r g f=>k b e B C r g.n f⟩
noncomputable def v8(o:iK)(cap:Y (Ų Nat))(gd:fD)(j:dD)(l:TX):TX:=λρ R h=>o ρ (λds e=>ds.length<sizeLine/\∃I:Nat->Y D->ai->Prop,I 0 [] (jF cap e) /\
 (∀i d ys ρc,ds[i]?=Z d->I i ys ρc->gd d ρc λf=>j f (λb a=>(b=ų->l a (xV λy g=>I (i+1) (ys++[y]) g) nox)/\(b=Ŵ->I (i+1) ys a)) nox) /\
 ∀ys ρc,I ds.length ys ρc->iV cap ρc e λa=>R (.own ys) a) h
noncomputable def yC:dD:=λρ R _=>R ų ρ
structure PIfM(K:Â)(X:Cx)(ifs:List Ã)(t:dD):Prop where p:X.K=K->jL X ifs (lXb K X t)
theorem Am:PIfM K X [] yC:=⟨λ_ a s c H Q I e=>by let⟨f,z,A,j,ρ,h,R,g,U,t,k⟩:=e;show uZ a s c H Q I (k ų ρ A H t U (Same.refl _))⟩
end
section
variable{K:Â}{X:Cx}{M f w:Ã}{l:Y Ã}{scope:æ}{A:Õ}{N':Y Str}{cap:Y (Ų Nat)}{G:iK}{gd:fD}{O:dD}{N:TX}
theorem sJ{n:Nat}:∀{cap:Y (Ų Nat)},(gy cap).Nodup->∀{i j:Nat},cap[i]?=Z (Z n)->cap[j]?=Z (Z n)->i=j:=by
 intro cap
 induction cap with
 |nil=>intro _ i j h;simp at h
 |cons o cap r=>
  intro nd i j a c
  have e:(gy cap).Nodup:=by
   cases o with
   |none=>show nd
   |some m=>show (Ko.mp (show (m::gy cap).Nodup from nd)).2
  have one:∀{i:Nat},o=Z n->cap[i]?=Z (Z n)->False:=λ{i} p g=>by subst p;show (Ko.mp (show (n::gy cap).Nodup from nd)).1 (qo g)
  cases i with
  |zero=>cases j with
   |zero=>rfl
   |succ j=>show (one (by simpa using a) (by simpa using c)).elim
  |succ i=>cases j with
   |zero=>show (one (by simpa using c) (by simpa using a)).elim
   |succ j=>show KG Nat.succ (r e (by simpa using a) (by simpa using c))
theorem IV(Qh:(gy cap).Nodup){σ:St}{H:Hp}{Q:VK}{Φ0 H0 Φ:Hp}{ρ:ai}{R:Sm->ai->Prop}{Rx:XD->ai->Prop}{τ:St}{κ:ai}(am:StM K X Φ0 H0 Φ H σ τ ρ κ Rx)(t:v8 G cap gd O N ρ R Rx)
  (k:∀sm ρ' g H' v,R sm ρ'->StM K X Φ0 H0 g H' σ (τ++[Z v]) ρ' (κ++[Z sm]) Rx->Same Φ g->Q v H'):lW (lIM K X G) cap (lGM K gd) (lNb K O) (lNm K N) σ H Q:=by
 refine⟨Φ0,H0,Φ,τ,ρ,κ,_,Rx,am,t,λds P Φ1 H1 J PB S1 f1 Sd T hD=>?_⟩;let⟨hlen,I,h0,Qe,Rt⟩:=PB;let⟨fp,Ex⟩:=S1.E;have E:=Ex.take S1.l
 have up:∀{i:Nat}{x:Sm},P[i]?=Z (Z x)->(P++κ)[i]?=Z (Z x):=λh=>by rw[sg (bj h)];show h
 have ups:∀{i:Nat}{x:V},σ[i]?=Z (Z x)->(σ++τ)[i]?=Z (Z x):=λh=>by rw[sg (bj h)];show h
 let SF:Nat->Prop:=λi=>(∃j:Nat,cap[j]?=Z (Z i))/\∃p o,P[i]?=Z (Z (.ob (Z p) o))
 obtain⟨B,hB⟩:∃B:Y Addr,∀b,b∈B↔∃i,SF i/\b∈fp i:=by
  refine⟨((gy cap).filter λi=>match P[i]? with|some (Z (.ob (Z _) _))=>ų|_=>Ŵ).flatMap fp,λb=>?_⟩;rw[Mm];constructor
  ·rintro⟨i,hi,C⟩;let⟨hi,hp⟩:=Na.mp hi;refine⟨i,⟨?_,?_⟩,C⟩
   ·let⟨o,ho,e⟩:=Lk.mp hi
    cases o with
    |none=>cases e
    |some i'=>cases e;show MF ho
   ·split at hp
    ·next p o e=>show⟨p,o,e⟩
    ·cases hp
  ·rintro⟨i,⟨⟨j,hj⟩,p,o,hp⟩,C⟩;show⟨i,Na.mpr ⟨qo hj,by rw[hp]⟩,C⟩
 have hDB:T∉B:=λh=>by let⟨i,⟨_,p,o,ho⟩,C⟩:=(hB T).mp h;let⟨_,_,_,r⟩:=E.ow i _ o ho;let⟨u,hu,_⟩:=r.at T C;rw[hD]at hu;cases hu
 have U0:Φ1 T=ű:=S1.g.s.free hD
 have hDm:bI H1 B T=ű:=by rw[gD hDB];show hD
 have m2:∀{b:Addr}{u:HO},bI H1 B b=Z u->b≠T:=λh=>cA h hDm
 have C0:EnvM K (au (bI H1 B) T (.lst [])) Φ1 (au H1 T (.lst [])) (dM cap σ) (jF cap P):=by
  have no:∀{i:Nat}{a:Ų Addr}{o:Om},(jF cap P)[i]?=Z (Z (.ob a o))->∃j:Nat,cap[i]?=Z (Z j)/\P[j]?=Z (Z (.ob a o))/\SF j:=λ{i a o} h=>by
   let⟨j,U,aw,h3⟩:=sD h
   cases a with
   |none=>cases h3
   |some p=>show⟨j,U,aw,⟨i,U⟩,p,o,aw⟩
  have inB:∀{i j:Nat}{a:Ų Addr}{o:Om},P[j]?=Z (Z (.ob a o))->SF j->∀b∈fp j,b∈B/\b≠T:=λ{i j a o} h hl b C=>⟨(hB b).mpr ⟨j,hl,C⟩,λe=>hDB (e▸(hB b).mpr ⟨j,hl,C⟩)⟩;have cj:∀{i j n:Nat},cap[i]?=Z (Z n)->cap[j]?=Z (Z n)->i=j:=λU aw=>sJ Qh U aw;refine⟨λi=>match cap[i]? with|some (Z j)=>fp j|_=>[],λb u e=>?_,by unfold dM jF;rw[mn,mn],λi d h=>?_,λi a o h=>?_,λi a o h b C=>?_,λi j a a' o o' hi hj c b C Pc=>?_,S1.E.tb⟩
  ·rw[aH (cA e U0)];show S1.g.s b u e
  ·let⟨j,U,aw,_⟩:=sD h;let⟨v,hv,r⟩:=E.sl j d aw;show⟨v,yn U hv,r⟩
  ·let⟨j,U,aw,hl⟩:=no h;let⟨p,hp,ha,r⟩:=E.ow j a o aw;refine⟨p,yn U hp,ha,?_⟩;rw[U]
   show r.keep (Same.refl _) λb C u hu=>by rw[aH (inB (i:=i) aw hl b C).2];show hu
  ·let⟨j,U,aw,hl⟩:=no h;rw[U]at C;let⟨ar,z2⟩:=inB (i:=i) aw hl b C;show⟨by rw[aH z2];show wA ar,(E.no j a o aw b C).2⟩
  ·let⟨i',U,aw,_⟩:=no hi;let⟨j',h3,h4,_⟩:=no hj;rw[U]at C;rw[h3]at Pc;show E.dj i' j' a a' o o' aw h4 (λe=>c (by subst e;show cj U h3)) b C Pc
 refine⟨λi m σ' H'=>m=ds.length-i/\i<=ds.length/\∃(g:Hp)(ρc:ai)(vs:Y V)(ys:Y D),EnvM K (au (bI H1 B) T (.lst vs)) g H' σ' ρc/\Gr Φ1 (bI H1 B) g H'/\g T=ű/\H' T=Z (.lst vs)/\RpL K g ys vs/\ys.length<=i/\I i ys ρc,⟨ds.length,by simp,K1 _,Φ1,_,[],[],C0,⟨Same.refl _,λb u e=>by rw[aH (m2 e)];show (sA e).2,λb u e=>by rw[aH (cA e U0)];show S1.g.s b u e,λ_ _ _ h _=>h⟩,U0,aZ,.nil,K1 _,h0⟩,?_⟩;rintro i m σ' H' ⟨rfl,hi,g,ρc,vs,ys,Ei,gi,Vn,T8,TJ,Ux,hI⟩;by_cases Pf:i<ds.length
 ·refine .inr ⟨Sd.go i H' (gi.f.trans gi.s) Pf,λσ2 H2=>∃(g:Hp)(ρc:ai)(vs:Y V)(ys:Y D),EnvM K (au (bI H1 B) T (.lst vs)) g H2 σ2 ρc/\Gr Φ1 (bI H1 B) g H2/\g T=ű/\H2 T=Z (.lst vs)/\RpL K g ys vs/\ys.length<=i+1/\I (i+1) ys ρc,λσ2 H2 aw=>⟨ds.length-(i+1),(),S,Pf,aw⟩,λx H2 y=>?_⟩;let⟨Φ3,g3,rx⟩:=Sd.yl i g H' x H2 _ gi.f gi.s (bq Pf) y;have E3:=Ei.gr g3;refine⟨_,Φ3,ρc,_,_,E3,rx,Qe i _ ys ρc (bq Pf) hI,λρ1 σ3 t1 E4=>?_⟩;have Xl:Φ3 T=ű:=g3.o _ _ T8 Vn;have XB:=g3.h _ _ T8
  have gt:Gr Φ3 (au (bI H1 B) T (.lst vs)) Φ3 H2:=⟨Same.refl _,λb u e=>by
   by_cases c:b=T
   ·subst c;rw[aZ]at e;cases e;show XB
   ·rw[aH c]at e;show g3.h b u (gi.h b u e),g3.s,λ_ _ _ h _=>h⟩
  have join:∀{Φ5 H5:Hp},Gr Φ3 (au (bI H1 B) T (.lst vs)) Φ5 H5->Gr Φ1 (bI H1 B) Φ5 H5/\Φ5 T=ű/\H5 T=Z (.lst vs):=λ{Φ5 H5} g5=>by
   refine⟨⟨(gi.f.trans g3.f).trans g5.f,λb u e=>g5.h b u (by rw[aH (m2 e)];show e),g5.s,λb u U aw kk=>?_⟩,g5.o _ _ aZ Xl trivial,g5.h _ _ aZ⟩;have ar:=gi.o b u U aw kk;have z2:=g3.o b u (gi.h b u U) ar kk;show g5.o b u (by rw[aH (m2 U)];show U) z2 kk
  refine⟨Φ3,_,Φ3,[],ρ1,[],_,⟨gt,E4.len.symm,by rw[Ku,Ku];show E4⟩,t1,λb ρ2 Φ4 H4 rb S4 f4=>?_⟩
  cases b with
  |false=>
   refine rG ?_;let⟨j1,j2,j3⟩:=join S4.g;show⟨Φ4,ρ2,vs,ys,(S4.m (X:=X)).env,j1,j2,j3,(TJ.same g3.f).same f4,(),rb.2 S⟩
  |true=>
   refine ra ?_;refine⟨Φ3,_,Φ4,[],ρ2,[],_,S4,rb.1 S,λs ρ3 Φ5 H5 v rs S5' f5=>?_⟩;have S5:=S5'.m (X:=X);let⟨d,rfl,rs⟩:=rs.get;let⟨j1,j2,j3⟩:=join S5.g;have rl5:=(TJ.same g3.f).same (f4.trans f5);refine⟨vs,j3,by rw[TJ.1];omega,Φ5,ρ3,vs++[v],ys++[d],?_,?_,j2,aZ,rl5.append (.one S5.last),by rw[wy];show Nat.succ_le_succ Ux,rs⟩
   ·have:=S5.env.side (p:=T) (u:=.lst vs) (u':=.lst (vs++[v])) aZ j2;rw[zR]at this;show this
   ·show⟨j1.f,λb u e=>by rw[aH (m2 e)];show j1.h b u e,λb u e=>by rw[aH (cA e j2)];show j1.s b u e,λb u U aw kk=>j1.o b u U aw kk⟩
 ·have e:i=ds.length:=by omega
  subst e;refine .inl ⟨Sd.stop H' (gi.f.trans gi.s),?_⟩;let⟨ρ2,hR,Qy,h3,h4⟩:=nH Qh (Rt ys ρc hI);let⟨fc,Ec⟩:=Ei;have inj:∀{i j n:Nat},cap[i]?=Z (Z n)->cap[j]?=Z (Z n)->i=j:=λU aw=>sJ Qh U aw
  have ex:∀i,SF i->∃(j:Nat)(p:Addr)(o0 o:Om),cap[j]?=Z (Z i)/\P[i]?=Z (Z (.ob (Z p) o0))/\ρc[j]?=Z (Z (.ob (Z p) o)):=λi hl=>by let⟨⟨j,hj⟩,p,o0,ho⟩:=hl;let⟨o,h⟩:=h4 j i p o0 hj ho;show⟨j,p,o0,o,hj,ho,h⟩
  have cho:∀i,∃y:Ų (Om×Y Addr),(∀q,y=Z q->∃(j:Nat)(p:Addr)(o0:Om),cap[j]?=Z (Z i)/\P[i]?=Z (Z (.ob (Z p) o0))/\ρc[j]?=Z (Z (.ob (Z p) q.1))/\q.2=fc j)/\(y=ű↔¬ SF i):=λi=>by
   by_cases h:SF i
   ·let⟨j,p,o0,o,ar,z2,z3⟩:=ex i h;show⟨Z (o,fc j),λq hq=>by cases hq;show⟨j,p,o0,ar,z2,z3,S⟩,λe=>(by cases e),λn=>absurd h n⟩
   ·show⟨ű,λq hq=>(by cases hq),λ_=>h,λ_=>rfl⟩
  let⟨new,Vz⟩:=Classical.axiomOfChoice cho;have QL:=λi=>(Vz i).1;have Qa:=λi=>(Vz i).2
  have Dfc:∀{j:Nat}{a:Ų Addr}{o:Om},ρc[j]?=Z (Z (.ob a o))->∀b∈fc j,b≠T/\bI H1 B b=ű/\g b=ű:=λ{j a o} h b C=>by
   let⟨ar,z2⟩:=Ec.no j a o h b C
   have c:b≠T:=λe=>by rw[e,aZ]at ar;cases ar
   rw[aH c]at ar;show⟨c,ar,z2⟩
  have adr:∀{j i:Nat}{p:Addr}{o0 o:Om},P[i]?=Z (Z (.ob (Z p) o0))->ρc[j]?=Z (Z (.ob (Z p) o))->σ[i]?=Z (Z (.ref p))/\OmS K g H' o p (fc j):=λ{j i p o0 o} U aw=>by let⟨q1,e1,a1,_⟩:=E.ow i _ o0 U;let⟨q2,e2,a2,r⟩:=Ec.ow j _ o aw;cases a1 p S;cases a2 p S;show⟨e1,r⟩
  have lnt:∀{i:Nat},P.length<=i->new i=ű:=λ{i} c=>(Qa i).mpr λhl=>by
   let⟨_,p,o,ho⟩:=hl;have:=bj ho;omega
  have cs:∀{i:Nat}{x:Sm},(ρ2++κ)[i]?=Z (Z x)->(i<P.length/\ρ2[i]?=Z (Z x))\/(P.length<=i/\(P++κ)[i]?=Z (Z x)):=λ{i x} h=>by
   rcases KL i P.length with c|c
   ·rw[sg ()]at h;show .inl ⟨c,h⟩
   ·rw[JU (),Qy]at h;show .inr ⟨c,by rw[JU c];show h⟩
  have E2:EnvM' K H0 g H' (σ++τ) (ρ2++κ) (gH new fp):=by
   refine Ex.lend S1.g.h (B:=B) (λb C=>?_) (λi q hq b C=>(hB b).mpr ⟨i,(Classical.byContradiction λz=>by rw[(Qa i).mpr z]at hq;cases hq),C⟩) gi (by rw[wy,wy,Qy]) (λi d h=>?_) (λi a o h=>?_) (λi q hq=>?_) (λi q hq b C=>?_) λi j q r hq hr c b C Pc=>?_
   ·let⟨i,hl,Qf⟩:=(hB b).mp C;let⟨_,p,o,ho⟩:=id hl
    cases e:new i with
    |none=>show absurd hl ((Qa i).mp e)
    |some q=>show⟨i,_,o,q,e,up ho,Qf⟩
   ·rcases cs h with⟨_,h⟩|⟨_,h⟩
    ·rcases h3 i _ h with⟨_,_,_,_,_,_,_,z⟩|⟨z,_⟩
     ·cases z
     ·show up z
    ·show h
   ·rcases cs h with⟨_,h⟩|⟨c,h⟩
    ·rcases h3 i _ h with⟨j,p,o0,o',ar,z2,z3,z4⟩|⟨ar,z2⟩
     ·cases z4
      cases e:new i with
      |none=>show absurd ⟨⟨j,ar⟩,p,o0,z2⟩ ((Qa i).mp e)
      |some q=>
       let⟨j',p',o1,y1,y2,y3,y4⟩:=QL i q e;cases inj ar y1;rw[z3]at y3;cases y3;show .inr ⟨o0,q.2,S,up z2⟩
     ·refine .inl ⟨(Qa i).mpr λhl=>?_,up ar⟩;let⟨⟨j,hj⟩,p,o0,ho⟩:=hl;show z2 j p o0 hj ho
    ·show .inl ⟨lnt c,h⟩
   ·let⟨j,p,o0,ar,z2,z3,z4⟩:=QL i q hq;let⟨y1,y2⟩:=adr z2 z3;show⟨p,ups y1,by rw[z4];show y2⟩
   ·let⟨j,p,o0,ar,z2,z3,z4⟩:=QL i q hq;rw[z4]at C;show (Dfc z3 b C).2
   ·let⟨j1,p1,o1,ar,z2,z3,z4⟩:=QL i q hq;let⟨j2,p2,o2,y1,y2,y3,y4⟩:=QL j r hr;rw[z4]at C;rw[y4]at Pc;show Ec.dj j1 j2 _ _ _ _ z3 y3 (λe=>c (by rw[e,y1]at ar;cases ar;rfl)) b C Pc
  have B0:∀b∈B,H0 b=ű:=λb C=>by let⟨i,⟨_,p,o,ho⟩,Qf⟩:=(hB b).mp C;show (E.no i _ o ho b Qf).1
  have g0:=S1.g.lend gi B0
  have E3:=E2.snocG (sm:=.own ys) (F:=[T]) (.o (λq e=>by cases e) (.lst T8 TJ)) (λb C=>by rw[J3.mp C];show⟨S1.g.h.free hD,Vn⟩) λb C i a o ho Qf=>by
   rw[J3.mp C]at Qf;unfold gH at Qf
   cases e:new i with
   |some q=>
    rw[e]at Qf;let⟨j,p,o0,ar,z2,z3,z4⟩:=QL i q e;have Qf:T∈q.2:=Qf;rw[z4]at Qf;show (Dfc z3 T Qf).1 S
   |none=>
    rw[e]at Qf
    have old:(P++κ)[i]?=Z (Z (.ob a o)):=by
     rcases cs ho with⟨_,ho⟩|⟨_,ho⟩
     ·rcases h3 i _ ho with⟨j,p,o0,o',ar,z2,_⟩|⟨ar,_⟩
      ·show absurd ⟨⟨j,ar⟩,p,o0,z2⟩ ((Qa i).mp e)
      ·show up ar
     ·show ho
    let⟨_,_,_,r⟩:=Ex.ow i a o old;let⟨u,hu,_⟩:=r.at T Qf;rw[hD]at hu;cases hu
  rw[Kg,Kg]at E3;show k _ ρ2 g H' _ hR ⟨g0,by rw[Qy];show S1.l,E3,S1.x⟩ (f1.trans gi.f)
theorem Dq{i:Nat}{y:Str}{B u:Õ}(R:X.calm=ų)(ar:X.N.Nodup)(hy:X.N[i]?=Z y)(hx:gW X.env.scope y)(T:CompScope X.N X.env.scope scope N' cap)(am:(gy cap).Nodup)(hi:PIM K X M f G)
  (hg:∀(cl:Y (Str×Addr))(c:Y Addr)(C:Addr)(e:À)(a:Hp),PGM K (cV X scope N' cl C e a c) M gd) (ht:∀(cl:Y (Str×Addr))(c:Y Addr)(C:Addr)(e:À)(a:Hp),PIfM K (cV X scope N' cl C e a c) l O)
  (aw:∀(cl:Y (Str×Addr))(c:Y Addr)(C:Addr)(e:À)(a:Hp),PX K (cV X scope N' cl C e a c) w N) (U:Ñ (.ListComp w [⟨M,f,l,0⟩] scope A) (Z (.Name y B)) u.line X.env=pure ų:=by rfl)
  (hs:∀x,Ý f X.env x=pure x:=by intro _;rfl) (hf:X.fn y=ų\/X.env.scope.names.lookup y=Z .local:=by nofun) :
  PSM K X (.Assign [.Name y B] (.ListComp w [⟨M,f,l,0⟩] scope A) u) (jI i (v8 G cap gd O N)):=
 ⟨λo=>(Jk R ar hy hx T (hi.pi o) (λcl c C e a=>(hg cl c C e a).pg o) (λcl c C e a j s F H Q I h=>(ht cl c C e a).p o j s F H Q I (lNb.m h)) (λcl c C e a=>((aw cl c C e a).pe o).imp λ_ _ _ h=>lNm.m h) U hs hf).imp λE F H P=>by
  let⟨Φ0,a,Φ,ρ,De,g,V,t,k⟩:=P
  show IV am (eu g V k.ex) t λsm ρ1 p J v r z _=>k.nx _ p J _ r z.g (z.env1.store i)⟩
end
theorem cI{a:Y Addr}(h:a.length=0):a=[]:=Ln.mp h
theorem gc{c:Y Addr}(h:c.length=1):∃a,c=[a]:=by
 match c,h with
 | [a],_=>show⟨a,S⟩
section
variable{K:Â}{X:Cx}{a b:Ã}{c:Õ}{e tb:TX}
theorem kT(g:PX K X a e)(h:PX K X b tb)(j:qd b):PX K X (.Subscript a b c) (jM l8 e tb):=
 ⟨λf=>(vW (vL f) (g.pe f) (h.pe f) j).imp λ_ _ _=>ny⟩
end
section
variable{e:Type}[DecidableEq e]{K:Â}{j:Hp}
noncomputable def dZ(a:Y (e×D))(k:e):Ų D:=(a.find? λc=>decide (c.1=k)).map (·.2)
noncomputable def kH(c:Y (e×D))(k:e)(d:D):Y (e×D):=if c.any (λa=>decide (a.1=k)) then c.map (λa=>if a.1=k then (a.1,d) else a) else c++[(k,d)]
theorem tD:∀{f:Y (e×D)}{ws:Y (e×V)},Paired (fF K j) f ws->∀k,(dZ f k=ű/\eT ws k=ű)\/∃d v,dZ f k=Z d/\eT ws k=Z v/\Rp K j d v
 |_,_,.nil,k=>.inl ⟨S,S⟩
 |_,_,.cons (a:=x) (b:=y) (l₁:=l) r t,k=>by
  by_cases c:x.1=k
  ·refine .inr ⟨x.2,y.2,?_,?_,r.2⟩
   ·unfold dZ;rw[OF (by simpa using c)];rfl
   ·show n5 (by rw[←r.1];show c)
  ·have g:dZ (x::l) k=dZ l k:=by unfold dZ;rw[OG (by simpa using c)]
   rw[g,pq (by rw[←r.1];show c)];show tD t k
theorem xY:∀{c:Y (e×D)}{ws:Y (e×V)},Paired (fF K j) c ws->∀k,(ws.any λa=>decide (a.1=k))=c.any λa=>decide (a.1=k)
 |_,_,.nil,k=>rfl
 |_,_,.cons r t,k=>by rw[Mc,Mc,xY t k,r.1]
theorem xm{a c:Type}{F:a->c->Prop}{f:a->a}{g:c->c}(h:∀x y,F x y->F (f x) (g y)):∀{l:Y a}{m:Y c},Paired F l m->Paired F (l.map f) (m.map g)
 |_,_,.nil=>.nil
 |_,_,.cons r t=>.cons (h _ _ r) (xm h t)
theorem y8{a:Y (e×D)}{ws:Y (e×V)}(h:Paired (fF K j) a ws)(k:e){d:D}{v:V}(r:Rp K j d v):Paired (fF K j) (kH a k d) (ft ws k v):=by
 unfold kH ft;rw[xY h k];split
 ·refine xm (λx y q=>?_) h;rw[←q.1];split
  ·show⟨S,r⟩
  ·show q
 ·show ď h ⟨S,r⟩
theorem xO(a:Y (e×D))(k:e):(dZ a k).isSome=a.any λg=>decide (g.1=k):=by
 unfold dZ
 induction a with
 |nil=>rfl
 |cons x r f=>
  rw[Mc];by_cases c:x.1=k
  ·rw[OF (by simpa using c),Kw c];rfl
  ·rw[OG (by simpa using c),Kd c,f];rfl
theorem vQ{a:Y (e×D)}{k:e}{d:D}(h:dZ a k=ű):kH a k d=a++[(k,d)]:=by have:=xO a k;rw[h]at this;unfold kH;rw[←this];rfl
theorem Eh{a c:Type}{F:a->c->Prop}:∀{l:Y a}{m:Y c},Paired F l m->l.length=m.length:=M3
end
section
variable{K:Â}{X:Cx}{e a b B:Ã}{c l:TD}{f A C:Õ}{x:Str}{i:Nat}
noncomputable def FJ(o:Om):TX:=λρ R _=>R (.ob ű o) ρ
theorem wu:PX K X (.Dict [] [] f) (FJ (.map [])):=⟨λw=>pe_dnewK.imp λz H Q h=>by
 let⟨r,u,o,E,ρ,y,R,v,U,t,k⟩:=h;intro p g
 show k _ ρ o _ _ t (U.pushO (Gr.fresh U.g.s g _) (.map aZ .nil) λb j=>by rw[J3.mp j];show⟨g,U.g.s.free g⟩) (Same.refl _)⟩
theorem EnvM.dict{o p h H:Hp}{w:St}{ρ:ai}{a:Ų Addr}{y:Y (aO×D)}(E:EnvM K p h H w ρ)(g:Gr o p h H)(v:ρ[i]?=Z (Z (.ob a (.map y)))):∃q ws,w[i]?=Z (Z (.ref q))/\H q=Z (.dK ws)/\Paired (fF K h) y ws /\
  ∀(t:Y (aO×D))(j:Y (aO×V)),Paired (fF K h) t j->EnvM K p h (au H q (.dK j)) w (ρ.set i (Z (.ob a (.map t))))/\Gr o p h (au H q (.dK j)):=by
 let⟨I,E⟩:=E;let⟨q,e,_,r⟩:=E.ow i a _ v;have G:=r.mem;let⟨_,ws,J,M⟩:=r.map_inv;refine⟨q,ws,e,J,M,λt j P=>?_⟩
 have F:∀b u,H b=Z u->b∉I i->au H q (.dK j) b=Z u:=λb u e O=>by
  rw[aH λz=>O (by rw[z];show G)];show e
 show⟨⟨_,E.put v e F (F':=[q]) (.map aZ P) λb N=>.inl (by rw[J3.mp N];show G)⟩,E.grput g v F⟩
noncomputable def ownD(ρ:ai)(i:Nat)(k:Ų Addr->Y (aO×D)->Prop):Prop:=match ρ[i]? with|some (Z (.ob a (.map OW)))=>k a OW|_=>False
theorem ownD.get{ρ:ai}{i:Nat}{k:Ų Addr->Y (aO×D)->Prop}(h:ownD ρ i k):∃a g,ρ[i]?=Z (Z (.ob a (.map g)))/\k a g:=by
 unfold ownD at h;split at h
 ·next a ds e=>show⟨a,ds,e,h⟩
 ·show h.elim
noncomputable def tj(g:Bool)(i:Nat)(c:TD):dD:=λρ R _=>c (dc ρ) λd=>∃k,d=gh k/\ownD ρ i λ_ h=>R (g != (dZ h k).isSome) ρ
theorem Cn{j:Bool}{F:St}{H:Hp}{Q:Bool->Hp->Prop}(h:lXb K X (tj j i c) F H Q):lE K c F H λy p=>jk i F p λx G=>∃a o,x=.ref a/\DGet G a y o/\Q (j != o.isSome) G:=by
 let⟨aw,M,ar,τ,ρ,κ,R,Rx,am,t,k⟩:=h;refine⟨M,ar,dc ρ,_,am.env.toD,t,λd E p v r g U=>?_⟩;let⟨w,rfl,r⟩:=r;let⟨a,N,P,r⟩:=ownD.get r;cases qO U;have u:=am.gr g;let⟨q,ws,O,T,z,_⟩:=u.env.dict u.g P;refine⟨_,O,q,_,S,DGet.k T,?_⟩
 have e:(eT ws w).isSome=(dZ N w).isSome:=by rcases tD z w with⟨I,J⟩|⟨d,v,I,J,_⟩<;>rw[I,J]<;>rfl
 rw[e];show k _ ρ E p r u g.f
theorem jJ(b:Bool):(Ŵ != b)=b:=by cases b<;>rfl
theorem IR{t:TD}{u:St}{H:Hp}{Q p:VK}(h:lE K t u H Q)(y:∀v j,Q v j->p v j):lE K t u H p:=by let⟨w,F,ρ,R,E,t,k⟩:=h;show⟨w,F,ρ,R,E,t,λd o j v r g z=>y _ _ (k d o j v r g z)⟩
theorem Au{j:Nat}{p:St}{H:Hp}{Q o:VK}(h:jk j p H Q)(r:∀v g,Q v g->o v g):jk j p H o:=let ⟨v,e,q⟩:=h;⟨v,e,r _ _ q⟩
theorem xf(i:Nat)(J:X.A.units+64<ä)(y:PD K X e c)(u:X.N[i]?=Z x:=by rfl)(F:b7 X.env.scope x:=by nofun)(hd:ad x:=by decide)(h:ap x:=by decide)
  (E:behindInMarks .In (.Name x A)=Ŵ:=by rfl):PXB K X (.Compare e [.In] [.Name x A] f) (tj Ŵ i c):=
 ⟨λt=>(FQ (Bh () (y.pe t) (pv i u F hd h)) E).imp λM H Q j=>IR (Cn j) λv G q=>Au q λw I z=>by
  let⟨a,o,p,r,g⟩:=z;rw[jJ]at g
  show⟨a,o,p,r,_,S,g⟩⟩
noncomputable def Dn(i:Nat)(c:TD)(l:TD):bG:=λh ρ=>l (dc ρ) λd=>c (dc ρ) λkd=>∃k,kd=gh k/\ownD ρ i λa g=>g.length<sizeLine/\NF (kH g k d) λj=>h.nx (ρ.set i (Z (.ob a (.map j))))
theorem t7(i:Nat)(hu:X.A.units+64<ä)(U:PD K X e c)(T:PD K X B l)(am:X.N[i]?=Z x:=by rfl)(hv:b7 X.env.scope x:=by nofun)(hd:ad x:=by decide)(P:ap x:=by decide)
  (aw:Ñ B (Z (.Subscript (.Name x A) e C)) f.line X.env=pure Ŵ:=by rfl):PSM K X (.Assign [.Subscript (.Name x A) e C] B f) (λz ρ=>(ownD ρ i λ_ _=>True)/\Dn i c l z ρ):=
 ⟨λN=>(Fq () (pv i am hv hd P) (U.pe N) (T.pe N) aw).imp λE σ H Q=>by
  let⟨Φ0,F,Φ,ρ,z,g,V,⟨h,t⟩,k⟩:=Q;let⟨a,OW,h,_⟩:=ownD.get h;refine⟨F,Φ,dc ρ,_,V.toD,t,λd u H1 v r1 p rv=>?_⟩;have o:=V.gr p;let⟨q,ws,J,hq,rel,_⟩:=o.dict (g.trans p) h;refine⟨_,J,F,u,dc ρ,_,o.toD,r1,λkd y H2 w j r rw=>?_⟩;let⟨kk,rfl,j⟩:=j;let⟨a2,O,G,ar,j⟩:=ownD.get j;rw[h]at G;cases G;cases qO rw;let⟨q2,ws2,M,R,I,k2⟩:=(o.gr r).dict ((g.trans p).trans r) h;rw[J]at M;cases M;let⟨z1,z2⟩:=k2 _ _ (y8 I kk (rv.same r.f))
  show⟨q,_,S,DPut.k R (by rw[←Eh I];show ar),k.nx _ y _ σ j.get z2 z1⟩⟩
end
end L2
namespace L2
open PySem PySem.Spec PySem.W PyProof.Rows PySem.Calls
end L2
namespace L2
open PySem PySem.Spec PySem.W PyProof.Rows PySem.Calls
end L2
namespace L2
open PySem PySem.Spec PySem.W PyProof.Rows PySem.Calls
end L2
namespace L2
open PySem PySem.Spec PyProof.Rows
noncomputable def EK(r a:cB)(c tb e:TD):TD:=λρ R=>c ρ λx=>tb ρ λy=>r x y λz=>match z with
 |.bl k=>(k=ų->e ρ λw=>a y w R)/\(k=Ŵ->R (.bl Ŵ))
 |_=>False
section
variable{K:Â}{X:Cx}{a b c:Ã}{j tb f:TD}{e:Õ}
theorem FE{C z:Ċ}{r T:cB}(ho:OpD K X (Æ C) r)(PN:OpD K X (Æ z) T)(ha:PQ K X a j)(hb:PQ K X b tb)(hc:PQ K X c f)(hm:lastMarks [C,z] [b,c]=Ŵ) :
  PD K X (.Compare a [C,z] [b,c] e) (EK r T j tb f):=⟨λl=>(JF (ho.o l) (PN.o l) (ha.pe l) (hb.pe l) (hc.pe l) hm).imp λσ H Q h=>by
 let⟨u,Φ,ρ,R,E,t,k⟩:=h;refine⟨u,Φ,ρ,_,E,t,λdx G H1 x t1 O rx=>⟨u,G,ρ,_,E.gr O,t1,λN I H2 y t2 A U=>⟨I,dx,N,_,A.s,rx.gr A,U,t2,λd o ar v p P rr=>?_⟩⟩⟩;let⟨am,rfl,p⟩:=jm p;obtain rfl:=rr.b;refine⟨am,S,?_⟩;have g:=(O.trans A).trans P
 cases am with
 |false=>show ite_ff (k (.bl Ŵ) o ar _ (p.2 S) g (.bl _))
 |true=>
  refine ite_tt ⟨u,o,ρ,_,E.gr g,p.1 S,λdz J H4 w t4 B rw=>⟨J,N,dz,_,B.s,(U.gr P).gr B,rw,t4,λd5 M aw v5 r5 g5 F=>k d5 M aw v5 r5 ((g.trans B).trans g5) F⟩⟩⟩
end
noncomputable def stepI(lo st:Ų Int)(n:Nat):Y Nat:=ē (Ö lo ű st n).1 (Ö lo ű st n).2.1 (Ö lo ű st n).2.2
noncomputable def dW{a:Type}(xs:Y a)(lo st:Ų Int):Y a:=(stepI lo st xs.length).filterMap λk=>xs[k]?
theorem tM{xs:Y V}{ys:Y Value}(h:Vals xs ys):∀a:Y Nat,Vals (a.filterMap λk=>xs[k]?) (a.filterMap λk=>ys[k]?)
 | []=>.nil
 |k::a=>by
  have c:=tM h a;have j:=h.length
  cases e:xs[k]? with
  |none=>
   have f:ys[k]?=ű:=K6 (by have:=LO.mp e;omega);rw[Mn e,Mn f];show c
  |some x=>
   let⟨y,g,r⟩:=h.get e;rw[Lx e,Lx g];show .cons r c
theorem RpL.pick{K:Â}{H:Hp}{ds:Y D}{vs:Y V}(h:RpL K H ds vs):∀c:Y Nat,RpL K H (c.filterMap λk=>ds[k]?) (c.filterMap λk=>vs[k]?)
 | []=>.nil
 |k::c=>by
  have f:=RpL.pick h c
  cases e:vs[k]? with
  |none=>
   have a:ds[k]?=ű:=K6 (by have:=LO.mp e;have:=h.1;omega);rw[Mn e,Mn a];show f
  |some v=>
   have g:=bj e;have a:ds[k]?=Z (ds[k]'(by have:=h.1;omega)):=Km _;rw[Lx e,Lx a];show .cons (h.2 k v _ e a) f
theorem xT(a:Y Value)(lo st:Ų Int):ĥ a.toArray lo ű st=(dW a lo st).toArray:=by
 unfold ĥ dW stepI;rw[J2];congr 2
 funext k
 show List.getElem?_toArray
theorem Bs(a:Y Value)(lo st:Ų Int):(dW a lo st).length<=a.length:=by have h:=slicePick_size_le a.toArray lo ű st;rw[xT,J2,J2]at h;show h
section
variable{K:Â}{X:Cx}{e a lo sp:Ã}{j t:Õ}{g:TE}{f c:TO}
noncomputable def Jt(K:Â)(l o:Ų Int):V->Hp->VK->Prop:=λx H Q=>∃a xs,x=.ref a/\SqL K H a xs/\∀p,H p=ű->Q (.ref p) (au H p (.lst (dW xs l o)))
noncomputable def uk(K:Â)(g:TE)(f c:TO):TE:=λh H Q=>g h H λx p=>f h p λl r=>c h r λo u=>o≠Z 0/\Jt K l o x u Q
theorem G3(aw:PE X e g)(U:PO X (Z lo) f)(am:PO X (Z sp) c):PE X (.Subscript e (.Slice (Z lo) ű (Z sp) t) j) (uk X.K g f c):=by
 intro p s z H Q I h;refine Subscript_ (aI (aw p s z H _ I h) λv s1 O=>?_);let⟨x,E,J,r1,q1⟩:=O;refine wpAny_Slice (aI (U p s1 z E _ J q1) λvl s2 P=>?_);let⟨l,F,M,pl,q2⟩:=P;rw[evalPart_none];refine J5 (aI (am p s2 z F _ M q2) λvs w R=>?_);let⟨o,G,N,ps,q3⟩:=R;let⟨o0,a,xs,rfl,hx,q⟩:=q3;cases r1;have A:Inv X p z G { w with heap:=w.heap.push { cls:=.type "slice",data:=.fields #[vl,.none,vs] } }:=N.kept (t':=w.toks) λb ob q=>JW _ q;let⟨y,r,C,hz⟩:=A.list hx;have u:=r.length;refine tail_any (ops:=[.ref a,.ref w.heap.objs.size]) C.isList.typeIs NQ.lookup ?_ (by with_unfolding_all rfl);refine ĝ C.isList (Heap.IsSliceOf.new ..) pl .none ps o0 ?_ (by rw[J2]<;>omega);rw[xT];have B:=tM r (stepI l o xs.length);have hle:=Bs y l o
 have ar:(dW y l o)=(stepI l o xs.length).filterMap λk=>y[k]?:=by unfold dW;rw[←u]
 rw[←ar]at B;have T:=B.length;refine⟨.ref _,_,A.laid (t':=w.toks) (o:=.lst (dW xs l o)) (λb ob q=>JW _ q) (J0 _) ?_,S,q _ (A.hok.fresh (J0 _))⟩;show⟨by change (dW xs l o).length<=_;have:(dW xs l o).length=(dW y l o).length:=T;omega,_,0,B,Kb _ S⟩
end
section
variable{K:Â}{X:Cx}{a lo st:Ã}{f j:Õ}{h:TD}{c to:gN}
theorem IT{e:TE}{c g:TO}(p:X.K=K)(r:PE X a e)(o:PO X (Z lo) c)(l:PO X (Z st) g):PE X (.Subscript a (.Slice (Z lo) ű (Z st) j) f) (uk K e c g):=p▸G3 r o l
noncomputable def HK(t:TD)(c to:gN):TD:=λρ R=>t ρ λx=>c ρ λl=>to ρ λo=>o≠Z 0/\match x with
 |.lst ds=>NF (dW ds l o) λe=>R (.lst e)
 |_=>False
theorem BO(O:PQ K X a h)(P:POD K X (Z lo) c)(am:POD K X (Z st) to):PD K X (.Subscript a (.Slice (Z lo) ű (Z st) j) f) (HK h c to):=
 ⟨λr=>(IT r (O.pe r) (P.po r) (am.po r)).imp λσ H Q J=>by let⟨u,Φ,ρ,R,E,t,k⟩:=J;exact
  ⟨u,Φ,ρ,_,E,t,λN y H1 x ar v U=>⟨u,y,ρ,_,E.gr v,ar,λl z H2 aw w=>⟨u,z,ρ,_,(E.gr v).gr w,aw,λo Φ3 H3 G A=>by
   have g:=(v.trans w).trans A;have M:=(U.gr w).gr A;refine⟨G.1,?_⟩;have I:=G.2
   cases N with
   |lst ds=>
    let⟨a,vs,rfl,T,C⟩:=M.lst g.s
    have e:(stepI l o vs.length)=stepI l o ds.length:=by rw[C.1]
    refine⟨a,vs,S,.of T,λp B=>k _ _ _ _ I.get (g.trans (.new g.s B _)) ?_⟩;have F:=C.pick (stepI l o ds.length);rw[←e]at F;show (show RpL K _ (dW ds l o) (dW vs l o)by unfold dW;rw[←e];show F.same (cR (g.s.free B) _)).lst aZ
   |_=>show I.elim⟩⟩⟩⟩
end
end L2
namespace PySem.SeqAt
open AutoSeq1 (wpAny_loadPart')
open MeetsSeq MeetsSeq2 MeetsSeq3 SeqRoads2
theorem FA{M:ÿ}{A:È}{E:Value->À->Prop}{s:À}{a:Type}(r:Std.Legacy.Range)(b:a)(f:Nat->a->Sem (ForInStep a))(Q:a->À->Prop)(h:wpAny M A (forIn (List.range' r.start r.size r.step) b f) Q E s):wpAny M A (forIn r b f) Q E s:=by rw[Ō];show h
theorem tuple_indexAtX(l:Addr)(a:Array Value)(n:Nat)(v:Ų Addr)(sl:Array (Ų Value))(x:Value)(e:Value->Bool)(j:Nat)(J:j<a.size)
  (r:e a[j]=ų) (u:∀m (t:m<a.size),m<j->e a[m]=Ŵ) :
  Ň (Builtin.«tuple.index» ⟨[.ref l,x],[]⟩)
   (λA R s=>s.heap.get? l=Z { cls:=.type "tuple",dict:=v,data:=.seq a n,slots:=sl }/\(∀y,y∈a->EqAt A.in1 s y x (e y))/\R (.ok (.ret (.int j s.toks))) { s with toks:=s.toks+1 }):=
 .of_wp λprog w A R s h=>by
  let⟨F,g,d,G,os⟩:=s;let⟨E,B,h⟩:=h
  wp_walk using KZ E,FA,wpAny_forIn_list _ (λf b s'=>b.1=ű/\s'=⟨F,g,d,G,os⟩/\∃i,i<=j/\f=List.range' i (a.size-i) 1) _
  case turn=>
   rintro m f b s' ⟨z,rfl,i,C,o⟩
   have p:i<a.size:=by omega
   rw[show a.size-i=(a.size-i-1)+1 by omega,List.range'_succ]at o;injection o with h1 h2;subst h1
   have t:a[m]?=Z a[m]:=by simp[p]
   rw[t];refine JT (B _ (Array.getElem_mem p) prog w _ _ ?_);rcases KL m j with c|c
   ·rw[u m p c]
    wp_walk
    show⟨S,S,m+1,c,by rw[h2];congr 1⟩
   ·have:m=j:=by omega
    subst this;rw[r]
    wp_walk
    show⟨_,S,h⟩
  case fin=>
   rintro⟨H,I⟩ s' ⟨z,rfl,i,C,o⟩;exfalso;have:=KG List.length o;rw[List.length_range']at this
   have:a.size-i=0:=by simpa using this.symm
   omega
  case h=>
   show⟨S,S,0,K1 _,by simp[ŋ]⟩
end PySem.SeqAt
namespace L2
open PySem PySem.Spec PyProof.Rows
@[irreducible] noncomputable def my (x:D)(y:D)(R:D->Prop):Prop:=match x with
 |.tup ds=>ds.length<=1000/\∃(bs:Y Bool)(j:Nat),bs.length=ds.length/\(∀(i:Nat) d b,ds[i]?=Z d->bs[i]?=Z b->bS 39 d y=Z b)/\bs[j]?=Z ų/\(∀i,i<j->bs[i]?=Z Ŵ)/\R (.int (j:Int))
 |_=>False
section
variable{K:Â}{X:Cx}{a b:Ã}{l tb:TD}{f o:Õ}
open Classical in
theorem Fv(O:X.K=K)(hu:X.A.units+64<ä):iG X "tuple.index" (λx xs H Q=>∃A M E R y,Same A H/\xs=[y]/\RpQ K A H M x/\RpQ K A H E y/\my M E R/\∀d C H' v,R d->Gr A H C H'->Rp K C d v->Q v H'):=by
 intro pins s σ H x xs v us Q I rx rs ⟨A,M,E,R,y,sm,e,hx,hy,h,k⟩;subst e;let⟨u,rfl,ru⟩:=gZ rs;unfold my at h;let⟨ds,rfl,h⟩:=CM h;let⟨hl,bs,j,Xp,hb,hj,PL,r⟩:=h;let⟨a,vs,rfl,N,_,B⟩:=hx.tup sm;cases rx;let⟨p,rv,⟨⟨oc,od,odt,os⟩,ho,UR,n,P⟩,_⟩:=I.tuple (O▸N);cases UR;cases P;have l1:=Vals.length rv;have Xq:j<bs.length:=bj hj
 let e:Value->Bool:=λz=>decide (∃m:Nat,p[m]?=Z z/\bs[m]?=Z ų)
 have at_:∀(m:Nat) z,p[m]?=Z z->∃(w:V)(d:D)(b:Bool),RelV w z/\Rp K H d w/\ds[m]?=Z d/\bs[m]?=Z b/\bS 39 d E=Z b:=λm z g=>by
  have i0:m<p.length:=bj g
  have am:m<vs.length:=by omega
  have T:m<ds.length:=by rw[←B.1];show am
  have i3:m<bs.length:=by omega
  let⟨u',S8,r'⟩:=Vals.get (i:=m) (x:=vs[m]) rv (bq am);rw[g]at S8;cases S8;show⟨vs[m],ds[m],bs[m],r',(B.2 m _ _ (bq am) (bq T)).same sm,bq T,bq i3,hb m _ _ (bq T) (bq i3)⟩
 have J:∀(m t:Nat) z b G,p[m]?=Z z->p[t]?=Z z->bs[m]?=Z b->bs[t]?=Z G->b=G:=λm t z b G g Uz q q'=>by
  let⟨w,d,c,aw,U,_,ar,c1⟩:=at_ m z g;let⟨w',d',c',Xr,Xs,_,Vp,U1⟩:=at_ t z Uz;rw[q]at ar;rw[q']at Vp;cases ar;cases Vp;have:=aw.inj Xr;subst this;show uO O I (Same.refl H) 39 U Xs c1 U1
 have F:∀(m:Nat) z b,p[m]?=Z z->bs[m]?=Z b->e z=b:=λm z b g q=>by
  change decide (∃m:Nat,p[m]?=Z z/\bs[m]?=Z ų)=b
  cases b with
  |true=>show Kw ⟨m,g,q⟩
  |false=>show Kd λ⟨t,N,B⟩=>by cases J m t z _ _ g N q B
 have Vq:j<p.length:=by have:=B.1;omega
 refine LB Oj ⟨_,ho,S⟩ PySem.F.entry_tuple_index (PySem.F.args_tuple_index_2 _ _)
  (PySem.SeqAt.tuple_indexAtX a p.toArray n od os u e j (by simpa using Vq) ?_ ?_) ⟨ho,λz P=>?_,?_⟩
 ·simp only[ME];show F j _ ų (bq Vq) hj
 ·intro m g Pf;simp only[J2]at g;simp only[ME];show F m _ Ŵ (bq g) (PL m Pf)
 ·have Xt:z∈p:=by simpa using P
  let⟨m,g⟩:=MF Xt;let⟨w,d,b,aw,U,ar,q2,q3⟩:=at_ m z g;rw[F m z b g q2];show (pk O I (Same.refl H) 39 q3 U (hy.any sm) X.A.in1 z u (by change X.A.units+1+39<ä;omega) aw ru).1
 ·show⟨.int j,H,I.tok _,⟨_,S⟩,k _ A H _ r (.refl sm) (.int _)⟩
noncomputable def mH(l tb:TD):TD:=λρ R=>l ρ λx=>(match x with|.tup _=>True|_=>False)/\tb ρ λy=>my x y R
theorem xa(am:X.A.units+64<ä)(O:PQ K X a l)(P:PD K X b tb)(F:Ç a "index" X.env (eval a X.env)=eval a X.env:=by rfl)(J:((backTo o (starEach [b] X.env)).all (λx=>!x.1)&&(Ù o (Î [] X.env)).all (λx=>x.1.isSome)&&decide (([b]:Y Ã).length+([]:Y Ï).length+(if ([]:Y Ï).isEmpty then 0 else 1)<30))=ų)
  (z:starEach [b] X.env=(Ŵ,eval b X.env)::starEach [] X.env) (G:(f.endLine==o.line)=ų:=by rfl):PD K X (.Call (.Attribute a "index" f) [b] [] o) (mH l tb):=
 ⟨λh=>(gP PySem.F.plainAttrs_tuple Oj PySem.F.type_tuple_index (Fv h am) (O.pe h) (cC (P.pe h) pa_nil z) F J G z ao).imp λσ H Q I=>by let⟨w,Φ,ρ,R,E,t,k⟩:=I;show⟨w,Φ,ρ,_,E,t,λM p H1 x B c A=>by
  cases M with
  |tup ds=>
   let⟨a,vs,rfl,_,T,q2⟩:=A.tup c.s;refine⟨.inr (.inl ⟨S,.inl ⟨vs,c.s _ _ T⟩⟩),w,p,ρ,_,E.gr c,B.2,λN u H2 y aw e ar=>⟨u,.tup ds,N,R,y,e.s,S,A.gr e,.inl ar,aw,λd j C v r g U=>k d j C v r ((c.trans e).trans g) U⟩⟩
  |_=>show B.1.elim⟩⟩
end
end L2
namespace L2
open PySem PySem.Spec PyProof.Rows
section
variable{K:Â}{X:Cx}{e f:Ã}{p u:TX}{l c h o:Õ}{x:Str}{i:Nat}
noncomputable def IA(i:Nat)(p u:TX):bG:=λj ρ=>ownL ρ i λ_ _=>p ρ (xV λd r=>match d with|.int n=>u r (xV λt g=>ownL g i λa ds=>∃k:Nat,n=(k:Int)/\k<=ds.length/\ds.length<sizeLine/\NF (ds.take k++t::ds.drop k) λv=>j.nx (g.set i (Z (.ob a (.lst v))))) j.ex|_=>False) j.ex
theorem yf(i:Nat)(he:PX K X e p)(Ra:PX K X f u)
  (Pg:((backTo h (starEach [e,f] X.env)).all (λx=>!x.1)&&(Ù h (Î [] X.env)).all (λx=>x.1.isSome)&&decide (([e,f]:Y Ã).length+([]:Y Ï).length+(if ([]:Y Ï).isEmpty then 0 else 1)<30))=ų)
  (M:starEach [e,f] X.env=(Ŵ,eval e X.env)::starEach [f] X.env) (XE:starEach [f] X.env=(Ŵ,eval f X.env)::starEach [] X.env) (aw:(backTo h (starEach [f] X.env)).any (·.1)=Ŵ)
  (hN:X.N[i]?=Z x:=by rfl) (hv:b7 X.env.scope x:=by nofun) (hd:ad x:=by decide) (R:ap x:=by decide)
  (T:Ç (.Name x o) "insert" X.env (eval (.Name x o) X.env)=eval (.Name x o) X.env:=by rfl) (U:(c.endLine==h.line)=ų:=by rfl) (hs:Ñ (.Call (.Attribute (.Name x o) "insert" c) [e,f] [] h) ű l.line X.env=pure Ŵ:=by rfl) :
  PSM K X (.Expr (.Call (.Attribute (.Name x o) "insert" c) [e,f] [] h) l) (IA i p u):=
 ⟨λQ=>(mM (gP LZ PySem.F.slot_list_insert PySem.F.type_list_insert Jf (pv i hN hv hd R) (cC (he.pe Q) (cC (Ra.pe Q) pa_nil XE) M) T Pg U M aw) hs).imp λE σ H ar=>by
  let⟨A,J,Φ,ρ,I,g,V,t,k⟩:=ar;let⟨a,ds,ho,t⟩:=ownL.get t;have am:=eu g V k.ex;let⟨q,vs,P,hp,rl,_⟩:=am.list ho;refine⟨_,P,.inl ⟨S,vs,SqL.of hp⟩,A,J,Φ,[],ρ,[],_,I.ex,am,t,λs G C H1 v r S1 _=>?_⟩;let⟨d,rfl,r⟩:=r.get;let⟨n,rfl,r⟩:=gw r;refine⟨A,J,C,_,G,_,_,I.ex,S1,r,λs2 ρ2 F H2 w z N _=>?_⟩;let⟨d2,rfl,z⟩:=z.get;let⟨rd,rk⟩:=N.last2;obtain rfl:=rd.i;let⟨a2,Vx,RJ,j,rfl,hj,hl,z⟩:=ownL.get z;let⟨q2,Vy,y,P7,B,k2⟩:=N.list RJ;rw[P]at y;cases y;have O:=k2 _ _ ((B.take j).append (.cons rk (B.drop j)))
  show⟨q,Vy,_,j,w,S,S,S,P7,by rw[B.1];show hj,by rw[B.1];show hl,k.nx _ F _ σ z.get O.g O.env⟩⟩
end
section
variable{P:Ä}{w:Å}{H j:Hp}{h h' g f:Heap}
theorem HOk.keptT(x:HOk P w H h)(k:∀b u v,H b=Z v->h.get? b=Z u->h'.get? b=Z u):HOk P w H h':=λa o e=>
 (x a o e).stay (λb u c q=>by
  rcases c with rfl|c
  ·show k _ u o e q
  ·show k b u _ c q) (λ_ q=>q) (λ_ _ q=>q) λ_ _ _ q=>q
theorem Un.kept2{fs e:Y Addr}{x:Addr}{T:Ų Addr}(u:Un fs [] H j h g)(k:Kept e x T g f)(r:h.get? x=ű)(p:∀t,T=Z t->h.get? t=ű)(y:∀b∈e,b∈fs\/h.get? b=ű):Un fs [] H j h f where
 keep b o hb hn Wr hx:=by
  refine k.keep b o (u.keep b o hb hn Wr hx) (λz=>by rw[z,r]at hb;cases hb) (λz=>by rw[p b z.symm]at hb;cases hb) λz=>?_;rcases y b z with z|z
  ·show Wr z
  ·rw[z]at hb;cases hb
 slot b o hb hn Wr hx:=by
  let⟨sl,a⟩:=u.slot b o hb hn Wr hx;by_cases c:b∈e
  ·let⟨v,l⟩:=k.slot b _ a c;show⟨v,l⟩
  ·show⟨sl,k.keep b _ a (λz=>by rw[z,r]at hb;cases hb) (λz=>by rw[p b z.symm]at hb;cases hb) c⟩
 free:=u.free
 there b o hb hx:=by
  let⟨A,a⟩:=u.there b o hb hx;by_cases c:b∈e
  ·let⟨v,l⟩:=k.slot b _ a c;show⟨_,l⟩
  ·show⟨A,k.keep b _ a (λz=>by rw[z,r]at hb;cases hb) (λz=>by rw[p b z.symm]at hb;cases hb) c⟩
 tups:=u.tups
 frzs:=u.frzs
 tbls:=u.tbls
end
noncomputable def CXo(P:Ä)(w:Å):cM:=λouter H s E e s'=>∃(c T C:Addr)(f:Ų Addr)(a:Hp),e=.ref c/\Fly s'.heap c (Z T) .none (.ref C) f/\(s.heap.get? c=ű/\a c=ű)/\(s.heap.get? T=ű/\a T=ű) /\
 s'.os=s.os/\í s'.gens/\Un (cG outer) [] H a s.heap s'.heap/\HOk P w a s'.heap/\E (.ref C) f a
section
variable{X:Cx}{a:Y (Addr×Ð)}{c:St}{H:Hp}{s s':À}{E:XK}{e:Value}
theorem CXo.at(I:Inv X a c H s)(r:X.ex=[])(h:CXo X.prog X.w X.stack H s E e s'):∃(f T C:Addr)(j:Ų Addr)(g:Hp),e=.ref f/\Inv X a c g s'/\Fly s'.heap f (Z T) .none (.ref C) j/\(X.s₀.heap.get? f=ű/\g f=ű/\∀p∈X.pn++a,p.1≠f)/\(X.s₀.heap.get? T=ű/\g T=ű/\∀p∈X.pn++a,p.1≠T)/\E (.ref C) j g:=by
 let⟨f,T,C,j,g,w,F,⟨u,x⟩,⟨v,y⟩,B,l,un,hok,A⟩:=h
 have old:∀b,s.heap.get? b=ű->X.s₀.heap.get? b=ű:=λb l=>by
  cases q:X.s₀.heap.get? b with
  |none=>rfl
  |some o=>
   let⟨G,z⟩:=I.base.there b o q (by rw[r];simp);rw[l]at z;cases z
 show⟨f,T,C,j,g,w,I.call' (ch:=[]) B un hok l (λb z=>absurd z (by simp)),F,⟨old f u,x,λp t z=>by have:=(I.pin p t).1;rw[z,u]at this;cases this⟩,⟨old T v,y,λp t z=>by have:=(I.pin p t).1;rw[z,v]at this;cases this⟩,A⟩
end
section
variable{P:Ä}{w:Å}{K:Â}{mg:Str->Ų Value}{base:Heap}{N:Y Str}{qual:Str}{scope:æ}{f:Addr}{g:Value}{A:È}{outer:Y ê}{s s':À}{H a:Hp}{E:XK}{c:Y (Addr×Ð)}{h:St}
theorem va{o C:Addr}{T r:Ų Addr}(I:Inv (fW (CXo P w) P w K mg base N qual scope f g A outer s H E) c h a s')(F:Fly s'.heap o T .none (.ref C) r)(p:s.heap.get? o=ű/\a o=ű)(x:∀l,T=Z l->s.heap.get? l=ű/\a l=ű)(M:E (.ref C) r a) :
  (fW (CXo P w) P w K mg base N qual scope f g A outer s H E).xe (.ref o) s':=by
 have J:∀b∈cG (ë qual scope s.heap.objs.size f g::outer),a b=ű:=I.stkFree;refine Jn (base:=base) I.ok.frames I.stack S F λQ l G O B=>?_;have hsz:s.heap.objs.size<=s'.heap.objs.size:=I.sz;refine⟨o,l,C,r,a,S,G,p,⟨Lo (),I.hok.fresh O⟩,I.os,I.bare,?_,I.hok.keptT λb u v j q=>?_,M⟩
 ·refine (show Un (cG outer) [] H a s.heap s'.heap from I.base).kept2 B p.1 (λl e=>(x l e).1) λb j=>?_;let⟨env,t,y⟩:=Lk.mp j;rcases J9.mp t with rfl|t
  ·right;have:s.heap.objs.size=b:=Kh y;show Lo ()
  ·show .inl (Lk.mpr ⟨env,t,y⟩)
 ·refine B.keep b u q (λz=>by rw[z,p.2]at j;cases j) (λz=>by rw[(x b z.symm).2]at j;cases j) λz=>?_;rw[J b z]at j;cases j
end
noncomputable abbrev hJ:=Y D->(D->Prop)->(XD->Prop)->Prop
noncomputable def gQ(K:Â)(mg:Str->Ų Value)(z:hJ):Sp:=λvs H Q E=>∃e ds R W,Same e H/\TabF K e/\RpL K e ds vs/\z ds R W/\(∀d a c v,R d->Gr e H a c->Rp K a d v->Q v c) /\
 ∀f C g a c,W f->Gr e H a c->mg f.nm=Z (.ref C)->kn K c f.at_ g->E (.ref C) g c
structure ClX(P:Ä)(w:Å)(K:Â)(mg:Str->Option Value)(base:Heap)(n:Nat)(x:Str)(ps:List Str)(z:hJ):Prop where
 ex:∃(f:Addr)(fd:É),FnOk P w K mg base (CXo P w) n f fd ps (gQ K mg z)/\Binds K fd ps []/\Ü K (.ref f)=ų/\mg x=Z (.ref f)
section
variable{X:Cx}{CX:cM}{k:Nat}{f:Addr}{g:É}{ps:Y Str}{sp:Sp}{x:Str}{p a:Õ}{e:Ã}{c:Y Ã}{t:TA}
noncomputable def nX(CX:cM)(X:Cx)(E:XK)(j:St)(H:Hp):Prop:=∀(h:Y (Addr×Ð))(s:À)(e:Value)(s':À),Inv X h j H s->CX X.stack H s E e s'->X.xe e s'
noncomputable def Eg(CX:cM)(X:Cx)(sp:Sp)(t:TA):TE:=λj H Q=>t j H λvs h=>∃E,nX CX X E j h/\sp vs h Q E
theorem xi{j:Y (Addr×Ð)}{o:St}{H:Hp}{s:À}{Q:VK}{E:XK}{us:Y Value}{vs:Y V}(F:FnOk X.prog X.w X.K X.mg X.base CX k f g ps sp)(B:Room k X.A)(y:Binds X.K g ps [])(C:nX CX X E o H)
  (I:Inv X j o H s) (r:Vals vs us) (h:sp vs H Q E):wpAny (model X.prog X.w) X.A (call (.ref f) us) (EP X j o Q) X.xe s:=by
 have A:us.length=ps.length:=by rw[←r.length];show F.len _ _ _ _ h
 have v:=y s us I.kIn (by rw[Ku];show A);rw[Ku]at v;refine NZ (Mx (F.run X.A X.stack s H ⟨us,[]⟩ us vs Q E B I.env0 v r h) λres G l=>?_)
 cases res with
 |error z=>show C j s z G I l
 |ok w=>
  cases w with
  |ret u=>show I.after l
  |_=>show l.elim
theorem wW(F:FnOk X.prog X.w X.K X.mg X.base CX k f g ps sp)(G:Room k X.A)(A:Gl X x)(C:X.mg x=Z (.ref f))(B:Ü X.K (.ref f)=ų)(y:Binds X.K g ps [])
  (w:PA X (e::c) t) (v:(x==("__debug__":Str))=Ŵ) (z:starEach (e::c) X.env=(Ŵ,eval e X.env)::starEach c X.env) (u:(backTo a (starEach c X.env)).any (·.1)=Ŵ) :
  PE X (.Call (.Name x p) (e::c) [] a) (Eg CX X sp t):=by
 intro j s K H Q I h;refine L7 (js I A C ?_ v);refine NY (h₀:=X.base) I.ok.mod.kin B (aI (w a j s K H _ I h) λus N o=>?_) z u;let⟨vs,M,l,r,E,J,q⟩:=o;show⟨l.kIn,xi F G y J l r q⟩
end
section
variable{P:Ä}{w:Å}{K:Â}{mg:Str->Ų Value}{base:Heap}
theorem xZ:∀ds:Y D,jv (ds.map Sm.v)=0
 | []=>rfl
 |_::ds=>xZ ds
noncomputable def Jp(R:D->Prop):Sm->Prop|.v d=>R d|_=>False
theorem Fun.okX{x qual:Str}{st:Ë}{f:Addr}{J:É}{N ps:Y Str}{k:Nat}{sp:hJ}(F:Fun K x qual st f J)(am:FnScope N ps (aQ st))(len:∀ds R W,sp ds R W->ds.length=ps.length)
  (Qg:∀(y:Value)(A:È)(outer:Y ê)(s:À)(H:Hp)(E:XK)(ds:Y D)(R:D->Prop)(W:XD->Prop),J.code=y->Room k (A.deeper (ë qual (aQ st) s.heap.objs.size f y))->sp ds R W->
   ∃t,PSsM K (fW (CXo P w) P w K mg base N qual (aQ st) f y A outer s H E) (cY st) t/\t { nx:=λρ=>R .non,rt:=λsm ρ=>Jp R sm,ex:=λO ρ=>W O } (bo N (ds.map Sm.v) [])):FnOk P w K mg base (CXo P w) (k+1) f J ps (gQ K mg sp):=by
 let⟨oc,od,kV,doc,pm,an,y,ct,RP,rfl,lk,O0⟩:=F.ex;refine mB lk O0 am (λvs H Q E G=>?_) λA outer s H vs Q E hr G=>?_
 ·let⟨B,ds,R,W,_,_,rl,h,_⟩:=G;rw[rl.1];show len ds R W h
 ·let⟨B,ds,R,W,sm,tb,rl,h,kR,kW⟩:=G;let⟨t,ht,hq⟩:=Qg y A outer s H E ds R W S hr h;rw[←jq]at hq;have ar:ArgM K B H (ds.map Sm.v) vs (ds.map λ_=>[]):=qS rl
  have I:(ds.map λ_=>([]:Y Addr)).flatten=[]:=by rw[List.flatten_eq_nil_iff];intro l M;let⟨_,_,rfl⟩:=Lb.mp M;rfl
  have aw:ei (ds.map Sm.v) vs=[]:=Ln.mp (by rw[pQ ar];show xZ ds);have V:=ql (N:=N) sm tb ar (by rw[I];simp) (by rw[I];simp);rw[I,vq,aw]at V;refine⟨lM K _ t,ht.ps S,B,H,B,_,_,.refl sm,V,hq,⟨λe c p j r g V=>kR .non c p .non r g .non,λR5 e c p v j r g V=>?_,λ_ _ _ _ h=>h.elim,λ_ _ _ _ h=>h.elim,λO e c p j z s' pins hw g V st=>?_⟩⟩
  ·cases R5 with
   |v d=>
    let⟨fp,U⟩:=V
    have M:j.length=e.length:=by have:=U.len;simpa using this
    have Pq:(e++[Z (Sm.v d)])[e.length]?=Z (Z (.v d)):=by rw[JU (J0 _),K3];rfl
    let⟨u,hu,r2⟩:=U.sl _ d Pq;rw[←M,JU (J0 _),K3]at hu;cases hu;show kR d c p v r g r2
   |ob a o=>show r.elim
  ·let⟨aw,C,T,dx,e1,F',hm,ha,fa,fT⟩:=st.ex;subst e1;show va st.inv F' ⟨fa.1,fa.2.1⟩ (λX z=>⟨(fT X z).1,(fT X z).2.1⟩) (kW O C dx c p hw g hm ha)
theorem Fun.clX{x:Str}{st:Ë}{f:Addr}{c:É}{ps:Y Str}{n:Nat}{z:hJ}(F:Fun K x x st f c)(m:mg x=Z (.ref f))(H:FnOk P w K mg base (CXo P w) n f c ps (gQ K mg z))
  (b:∀(kV a h:Value)(g:Ų Addr)(e ct:Value)(us:Y Value),us.length=ps.length->Ę (ć x x (eI st) (cY st) (aQ st) .none kV a h g e ct) ⟨us,[]⟩=pure (ps.zip us)):ClX P w K mg base n x ps z:=⟨f,c,H,F.binds b,F.kp,m⟩
theorem ClX.mono{n m:Nat}{x:Str}{ps:Y Str}{z:hJ}(C:ClX P w K mg base n x ps z)(k:n<=m:=by decide):ClX P w K mg base m x ps z:=by let⟨f,a,F,r⟩:=C.ex;show⟨f,a,F.mono k,r⟩
end
noncomputable abbrev kK:Y Value:=[.type "ValueError",.type "Exception",.type "BaseException",.type "object"]
noncomputable abbrev excNames:Y Str:=["__init__","__setattr__","__getattribute__","__getattr__","at","__class__"]
inductive TailN(h:Heap):List Value->Prop where
 |base:TailN h kK
 |own {A:Addr} {c0:Value} {dd:Option Addr} {cd:ClassData} {sl:Array (Option Value)} {mA:Str->Option Value} {tl:List Value}:h.get? A=Z { cls:=c0,dict:=dd,data:=.cls cd,slots:=sl }->h.Ns cd.ns mA->(∀n∈excNames,mA n=ű)->TailN h tl->TailN h (.ref A::tl)
theorem TailN.tail{h:Heap}{e:Y Value}(T:TailN h e):OwnTail h kK e:=by
 induction T with
 |base=>show .base
 |own a b c _ f=>show .own a b (c _ (by simp)) f
theorem TailN.keeps{h h':Heap}{e:Y Value}(T:TailN h e)(k:∀b o,h.get? b=Z o->h'.get? b=Z o):TailN h' e:=by
 induction T with
 |base=>show .base
 |own a b c _ f=>show .own (k _ _ a) (b.keeps k) c f
structure ExcAt(h:Heap)(C:Addr)(init:Option Value):Prop where
 ex:∃nm q N bs bm sn sub ab col dd k0 k1 k2 k3 k5 mN,h.get? C=Z (Ò nm q C N bs bm ų sn sub ab col dd k0 k1 k2 k3 k5 "ValueError.__new__")/\h.Ns N mN/\mN "__init__"=init/\(∀n∈excNames,n≠"__init__"->mN n=ű)/\TailN h bm
theorem ObjOk.is{P:Ä}{w:Å}{H:Hp}{h:Heap}{a:Addr}{o:HO}(x:ObjOk P w H h a o):∃c,h.get? a=Z c:=by
 cases o with
 |lst xs=>let⟨_,_,_,_,e⟩:=x;show⟨_,e⟩
 |tup xs=>let⟨_,_,_,o,e,_⟩:=x;show⟨_,e⟩
 |dK g=>let⟨_,_,_,_,o,_,_,e,_⟩:=x;show⟨_,e⟩
 |dT g=>let⟨_,_,_,_,o,_,_,e,_⟩:=x;show⟨_,e⟩
 |set Q n=>let⟨o,_,_,_,e,_⟩:=x;show⟨_,e⟩
 |ins C j fs=>let⟨_,_,_,e,_⟩:=x;show⟨_,e⟩
 |own y=>let⟨_,e⟩:=x;show⟨_,e⟩
 |xd fs=>let⟨_,⟨_,_,_,e,_⟩,_⟩:=x;show⟨_,e⟩
 |rng lo l=>let⟨_,_,_,e⟩:=x;show⟨_,e⟩
 |frz c u=>let⟨e,_⟩:=x;show⟨_,e⟩
 |tbl ps=>rcases x with x|⟨_,_,_,_,_,_,_,_,_,_,x,_⟩<;>show⟨_,x⟩
 |met f y=>show⟨_,(show h.get? a=Z _ from x)⟩
 |ext p=>let⟨_,e,_⟩:=x;show e
theorem HOk.no{P:Ä}{w:Å}{H:Hp}{h:Heap}(x:HOk P w H h){a:Addr}(e:h.get? a=ű):H a=ű:=by
 cases q:H a with
 |none=>rfl
 |some o=>
  let⟨c,z⟩:=(x a o q).is;rw[e]at z;cases z
section
variable{X:Cx}{a:Y (Addr×Ð)}{c:St}{H:Hp}{s:À}{h':Heap}
theorem Inv.old(I:Inv X a c H s)(e:X.ex=[]){b:Addr}(f:s.heap.get? b=ű):X.s₀.heap.get? b=ű:=by
 cases q:X.s₀.heap.get? b with
 |none=>rfl
 |some o=>
  let⟨g,z⟩:=I.base.there b o q (by rw[e];simp);rw[f]at z;cases z
theorem Inv.more(I:Inv X a c H s)(k:∀b o,s.heap.get? b=Z o->h'.get? b=Z o):Inv X a c H { s with heap:=h' }:=
 I.call' (s':={ s with heap:=h' }) (ch:=[]) S (Un.kept k) (I.hok.kept k) I.bare (λb z=>absurd z (by simp))
end
noncomputable abbrev Cx.tried(X:Cx)(pn:Y (Addr×Ð))(xe:Value->À->Prop):Cx:={ X with pn:=pn,xe:=xe }
noncomputable abbrev Cx.held(X:Cx)(pn:Y (Addr×Ð))(e:Value):Cx:={ X with A:=X.A.mark (Z e),calm:=Ŵ,pn:=pn,xe:=λ_ _=>False }
section
variable{X:Cx}{f l:Y (Addr×Ð)}{g:St}{H:Hp}{s:À}{xe:Value->À->Prop}{e:Value}
theorem Cx.Ok.tried(o:X.Ok)(pn:Y (Addr×Ð))(xe:Value->À->Prop):(X.tried pn xe).Ok:=
 ⟨o.mod,o.kind,o.glob,o.blt,o.above,o.inj,o.has,o.cab,o.hd,o.frames,o.stk,o.exf,o.bs,o.bsz,o.noex,o.exfs,o.funs,o.frf⟩
theorem Cx.Ok.held(o:X.Ok)(pn:Y (Addr×Ð))(e:Value):(X.held pn e).Ok:=
 ⟨o.mod,o.kind,o.glob,o.blt,o.above,o.inj,o.has,o.cab,λh=>(by cases h),o.frames,o.stk,o.exf,o.bs,o.bsz,o.noex,o.exfs,o.funs,o.frf⟩
theorem Inv.tried(I:Inv X f g H s)(xe:Value->À->Prop):Inv (X.tried (X.pn++f) xe) [] g H s:=
 ⟨I.ok.tried _ _,I.os,I.bare,I.base,I.loc,I.cell,I.free,I.freeC,λp a=>I.pin p (by rw[Ku]at a;show a),I.hok,I.len⟩
theorem Inv.untried(ok:X.Ok)(I:Inv (X.tried (X.pn++f) xe) l g H s):Inv X f g H s:=
 ⟨ok,I.os,I.bare,I.base,I.loc,I.cell,I.free,I.freeC,λp a=>I.pin p (LA _ a),I.hok,I.len⟩
theorem Inv.held(I:Inv X f g H s)(e:Value):Inv (X.held (X.pn++f) e) [] g H s:=
 ⟨I.ok.held _ _,I.os,I.bare,I.base,I.loc,I.cell,I.free,I.freeC,λp a=>I.pin p (by rw[Ku]at a;show a),I.hok,I.len⟩
theorem Inv.unheld(ok:X.Ok)(I:Inv (X.held (X.pn++f) e) l g H s):Inv X f g H s:=
 ⟨ok,I.os,I.bare,I.base,I.loc,I.cell,I.free,I.freeC,λp a=>I.pin p (LA _ a),I.hok,I.len⟩
theorem Inv.knowX{a:Addr}{o:HO}(I:Inv X f g H s)(t:X.s₀.heap.get? a=ű)(j:H a=ű)(w:∀p∈X.pn++f,p.1≠a)(v:X.env.locals≠a)(u:∀x c,X.env.cells.lookup x=Z c->c≠a)(new:ObjOk X.prog X.w (au H a o) s.heap a o):Inv X f g (au H a o) s where
 ok:=I.ok
 os:=I.os
 bare:=I.bare
 base:=⟨I.base.keep,I.base.slot,λb r q n y=>by rw[aH (λz=>by rw[z,t]at q;cases q)];show I.base.free b r q n y,I.base.there,λb xs q=>by have:=I.base.tups b xs q;rw[aH (cA this j)];show this,λb r xs q=>by have:=I.base.frzs b r xs q;rw[aH (cA this j)];show this,λb ps q=>by have:=I.base.tbls b ps q;rw[aH (cA this j)];show this⟩
 loc:=I.loc
 cell:=I.cell
 free:=by rw[aH v];show I.free
 freeC x c h:=by rw[aH (u x c h)];show I.freeC x c h
 pin p h:=by let⟨a1,a2,a3⟩:=I.pin p h;show⟨a1,by rw[aH (w p h)];show a2,a3⟩
 hok:=I.hok.know j new
 len:=I.len
theorem CJ{h:Heap}{a:Addr}{m p:Str->Ų Value}(x:h.Ns a m)(y:h.Ns a p)(n:Str):m n=p n:=by let⟨o,A,z,u,hd,_,t⟩:=x;let⟨B,v,w,c,j,_,r⟩:=y;rw[u]at c;cases c;rw[hd]at j;cases j;rw[←t n,←r n]
theorem Inv.unname{i:Nat}{n:Str}{h':Heap}{m:Str->Ų Value}{v:Ų Value}{t':Nat}(I:Inv X f g H s)(M:X.N.Nodup)(N:X.N[i]?=Z n)(P:s.heap.Ns X.env.locals m)(Q:h'.Ns X.env.locals (λx=>if x=n then v else m x))(am:Heap.SameBut X.env.locals s.heap h'):Inv X f (g.set i ű) H { s with heap:=h',toks:=t' }:=by
 have old:X.s₀.heap.get? X.env.locals=ű:=Lo I.ok.above;have kp:∀b,b≠X.env.locals->h'.get? b=s.heap.get? b:=λb r=>am.2 b r;let⟨m0,B,O⟩:=I.loc;refine⟨I.ok,I.os,I.bare,⟨λb o q F G a=>?_,λb o q F G a=>?_,I.base.free,λb o q a=>?_,I.base.tups,I.base.frzs,I.base.tbls⟩,⟨_,Q,λj x w A t T=>?_⟩,λx c h=>?_,I.free,I.freeC,λp R=>?_,I.hok.keptT λb u w r q=>?_,by rw[Ki];show I.len⟩
 ·rw[kp b (λz=>by rw[z,old]at q;cases q)];show I.base.keep b o q F G a
 ·let⟨sl,z⟩:=I.base.slot b o q F G a;show⟨sl,(kp b (λz=>by rw[z,old]at q;cases q)).trans z⟩
 ·let⟨ar,z⟩:=I.base.there b o q a;show⟨ar,(kp b (λz=>by rw[z,old]at q;cases q)).trans z⟩
 ·have J:j≠i:=λz=>by rw[z]at t;simp[NU]at t
  rw[KD (KW J)]at t;let⟨u,aw,lk⟩:=O j x w A t T;have K:x≠n:=λz=>J ((NV (bj A) M).mp (by rw[A,N,z]));refine⟨u,aw,?_⟩;rcases lk with⟨E,y⟩|⟨E,c,y,U⟩
  ·refine .inl ⟨E,?_⟩;change (if x=n then v else m x)=Z u;rw[JV K,CJ P B x];show y
  ·refine .inr ⟨E,c,y,?_⟩;let⟨o,C,hd⟩:=U;show⟨o,(kp c (I.cne x c y)).trans C,hd⟩
 ·let⟨w,o,C,hd⟩:=I.cell x c h;show⟨w,o,(kp c (I.cne x c h)).trans C,hd⟩
 ·let⟨a1,a2,a3,a4⟩:=I.pin p R;show⟨(kp p.1 a3).trans a1,a2,a3,a4⟩
 ·show (kp b (λz=>by rw[z,I.free]at r;cases r)).trans q
theorem vn(ok:X.Ok){b:Addr}(h:b∈cG X.stack):b∈X.fs\/b=X.env.locals:=by
 rcases ok.stk with e|⟨e,j⟩
 ·rw[e]at h;show .inl h
 ·rw[e]at h;let⟨env,c,a⟩:=Lk.mp h;rcases J9.mp c with rfl|c
  ·rw[j]at a;show .inr (Kh a).symm
  ·show .inl (Lk.mpr ⟨env,c,a⟩)
theorem Inv.passed{A:Addr}{T:Ų Addr}{h':Heap}(I:Inv X f g H s)(k:Kept (cG X.stack) A T s.heap h')(J:X.s₀.heap.get? A=ű/\H A=ű/\∀p∈X.pn++f,p.1≠A)(G:∀r,T=Z r->X.s₀.heap.get? r=ű/\H r=ű/\∀p∈X.pn++f,p.1≠r)
  (de:∃o vs,s.heap.get? A=Z o/\o.data=.fields vs) (dT:∀r,T=Z r->∃o vs,s.heap.get? r=Z o/\o.data=.fields vs):Inv X f g H { s with heap:=h' }:=by
 have old:X.s₀.heap.get? X.env.locals=ű:=Lo I.ok.above
 have kd:∀b o,s.heap.get? b=Z o->(∀vs,o.data≠.fields vs)->∃sl,h'.get? b=Z { o with slots:=sl }:=λb o a hn=>by
  have t:b≠A:=λz=>by let⟨U,vs,E,F⟩:=de;rw[z,E]at a;cases a;show hn vs F
  have y:Z b≠T:=λz=>by let⟨U,vs,E,F⟩:=dT b z.symm;rw[E]at a;cases a;show hn vs F
  by_cases c:b∈cG X.stack
  ·show k.slot b o a c
  ·show⟨o.slots,k.keep b o a t y c⟩
 have P:∀b o,s.heap.get? b=Z o->X.s₀.heap.get? b≠ű->b≠A/\Z b≠T:=λb o a h0=>⟨λz=>h0 (by rw[z];show J.1),λz=>h0 (G b z.symm).1⟩;let⟨m,hm,hl⟩:=I.loc
 have Uz:h'.Ns X.env.locals m:=by let⟨o,es,ep,M,hd,hk,K⟩:=hm;let⟨sl,z⟩:=kd _ o M (λvs q=>by rw[hd]at q;cases q);show⟨_,es,ep,z,hd,hk,K⟩
 have cl:∀c v,s.heap.IsCell c v->h'.IsCell c v:=λc v hc=>by let⟨o,M,hd⟩:=hc;let⟨sl,z⟩:=kd _ o M (λvs q=>by rw[hd]at q;cases q);show⟨_,z,hd⟩
 refine⟨I.ok,I.os,I.bare,⟨λb o q am C B=>?_,λb o q am C B=>?_,I.base.free,λb o q B=>?_,I.base.tups,I.base.frzs,I.base.tbls⟩,⟨m,Uz,λj x w hj O hv=>?_⟩,λx c h=>?_,I.free,I.freeC,λp N=>?_,I.hok.keptT λb u w a q=>?_,I.len⟩
 ·have z:=I.base.keep b o q am C B;let⟨t,y⟩:=P b o z (by rw[q];simp);refine k.keep b o z t y λc=>?_;rcases vn I.ok c with c|c
  ·show C c
  ·rw[c,old]at q;cases q
 ·let⟨sl,z⟩:=I.base.slot b o q am C B;let⟨t,y⟩:=P b _ z (by rw[q];simp);by_cases c:b∈cG X.stack
  ·let⟨aw,ar⟩:=k.slot b _ z c;show⟨aw,ar⟩
  ·show⟨sl,k.keep b _ z t y c⟩
 ·let⟨U,z⟩:=I.base.there b o q B;let⟨t,y⟩:=P b _ z (by rw[q];simp);by_cases c:b∈cG X.stack
  ·let⟨aw,ar⟩:=k.slot b _ z c;show⟨_,ar⟩
  ·show⟨U,k.keep b _ z t y c⟩
 ·let⟨u,ru,lk⟩:=hl j x w hj O hv;refine⟨u,ru,?_⟩;rcases lk with⟨Q,R⟩|⟨Q,c,R,k3⟩
  ·show .inl ⟨Q,R⟩
  ·show .inr ⟨Q,c,R,cl c _ k3⟩
 ·let⟨w,O⟩:=I.cell x c h;show⟨w,cl c w O⟩
 ·let⟨a1,a2,a3,a4⟩:=I.pin p N;refine⟨k.keep p.1 p.2 a1 (J.2.2 p N) (λz=>(G p.1 z.symm).2.2 p N S) λc=>?_,a2,a3,a4⟩;rcases vn I.ok c with c|c
  ·show a4.1 c
  ·show a3 c
 ·refine k.keep b u q (λz=>by rw[z,J.2.1]at a;cases a) (λz=>by rw[(G b z.symm).2.1]at a;cases a) λc=>?_;rw[I.stkFree b c]at a;cases a
theorem B2{M:ÿ}{A:È}{E:Value->À->Prop}{Q:Unit->À->Prop}{i:Nat}{n:Str}{o:Õ}(I:Inv X f g H s)(w:X.N.Nodup)(c:X.N[i]?=Z n)(j:X.env.scope.names.lookup n=Z .local)(F:X.fn n=ų\/X.env.scope.names.lookup n=Z .local)
  (k:∀s',Inv X f (g.set i ű) H s'->Q Unit.unit s'):wpAny M A (do bindName X.env n .none;unbindBehindTheSuite X.env n o) Q E s:=by
 have J:(X.env.scope.kind==.class ||(X.env.scope.kind==.module&&X.env.locals != X.env.globals))=Ŵ:=by rw[I.ok.kind];rfl
 have x:X.env.kindOf n=Z .local:=j
 have C:i<g.length:=by rw[I.len];show bj c
 refine JT (wpAny_bindName (qa I w c (.inl j) (v:=.non) S (λK p=>?_) F));let⟨m,y,G⟩:=id p.loc;let⟨u,N,lk⟩:=G i n .non c (by rw[NU];simp[C]) (.inl j)
 have h:(m n).isSome=ų:=by
  rcases lk with⟨_,t⟩|⟨a,_⟩
  ·rw[t];rfl
  ·rcases a with a|a<;>(rw[x]at a;cases a)
 unfold unbindBehindTheSuite;refine M4 ?_;unfold unbindName;refine JT (wpAny_point (JT ?_));unfold deleteName;simp only[x,J];rw[JV 'b'];refine JT (wpAny_nsDel_keeps y λt v B z=>?_);rw[h];simp only[MK,Bool.not_true,NH,N8];refine J5 (wpAny_point ?_);have r:=p.unname (t':=K.toks) w c y B z;rw[List.set_set]at r;show k _ r
end
section
variable{M:ÿ}{A:È}{E:Value->À->Prop}{s:À}
noncomputable def ko(h:Heap)(C:Addr):Y Value:=match h.get? C with|some o=>(match o.data with|.cls cd=>cd.mro|_=>[])|none=>[]
theorem BS{e C D:Addr}{r:Ð}{i J:Ų Value}{Q:Bool->À->Prop}(B:ExcAt s.heap C i)(F:ExcAt s.heap D J)(H:s.heap.get? e=Z r)(v:r.cls=.ref C)(a:Q ((ko s.heap C).contains (.ref D)) s):wpAny M A (excMatches (.ref e) (.ref D)) Q E s:=by
 let⟨j,g,d,ar,os⟩:=s;let⟨nm,q,N,bs,c,sn,sub,ab,y,dd,k0,k1,k2,k3,k5,mN,l,c2,c3,c4,c5⟩:=B.ex;let⟨Xu,q',N',x,h,U,t,w,o,aw,K,O,P,R,am,T,p,d2,d3,d4,z⟩:=F.ex
 have I:ko j C=.ref C::c:=by unfold ko;rw[show j.get? C=_ from l]
 have a:Q ((Value.ref C::c).contains (.ref D)) ⟨j,g,d,ar,os⟩:=by rw[←I];show a
 have u:(Value.ref D::h).contains (.type "BaseException")=ų:=by rw[Mw,z.tail.hasType (X:="BaseException") (b:=ų) 'a',Nm]
 have f:=tc_notTuple;unfold excMatches
 repeat (first|(with_reducible refine Kv H ?_;rw[v])|with_reducible refine Kv p ?_|(with_reducible refine LH p ?_;rw[u])|(with_reducible refine LH l ?_)|wp_step)
 cases G:(Value.ref C::c).contains (.ref D)<;>(rw[G]at a;wp_walk;show a)
end
structure Exs(K:Â)(mg:Str->Option Value)(Pb:Str->Str->Bool)(names:List Str):Prop where
 cls:∀nm∈names,∀C,mg nm=Z (.ref C)->∀h:Heap,K.In h->∃i,ExcAt h C i
 sub:∀nm∈names,∀c∈names,∀C D,mg nm=Z (.ref C)->mg c=Z (.ref D)->∀h:Heap,K.In h->(ko h C).contains (.ref D)=Pb nm c
 inK:∀nm∈names,∀C,mg nm=Z (.ref C)->Ú K Á nm=Z (Z (.ref C))
structure PHM(K:Â)(X:Cx)(hs:List ï)(th:XD->EndsM->ai->Prop):Prop where
 ph:X.K=K->∀(pins:List (Addr×Ð))(s:À)(σ:St)(H:Hp)(D:Ends)(ea T C:Addr)(dx:Option Addr)(xd:XD)(Φ0 H0 Φ:Hp)(ρ:ai)(De:EndsM),Inv X pins σ H s->Fly s.heap ea (Z T) .none (.ref C) dx->X.mg xd.nm=Z (.ref C)->kn X.K H xd.at_ dx->
  (X.s₀.heap.get? ea=ű/\H ea=ű/\∀p∈X.pn++pins,p.1≠ea)->(X.s₀.heap.get? T=ű/\H T=ű/\∀p∈X.pn++pins,p.1≠T)->Gr Φ0 H0 Φ H->EnvM K H0 Φ H σ ρ->th xd De ρ->EndOkM K X Φ0 H0 De D->wpAny (model X.prog X.w) X.A (handleBy (.ref ea) X.env hs) (SP X pins D) X.xe s
theorem EnvM.unset{K:Â}{c f H:Hp}{g:St}{ρ:ai}(E:EnvM K c f H g ρ)(i:Nat):EnvM K c f H (g.set i ű) (ρ.set i ű):=by
 have l:=E.len;refine E.re id (by rw[Ki,Ki,l]) (λj x h=>?_) (λj k a p o r _ _ h=>h)
 have e:j≠i:=λz=>by rw[z]at h;simp[NU]at h
 rw[KD (KW e)]at h;show⟨h,KD (KW e)⟩
theorem uw{h h':Heap}{fs:Y Addr}{e T:Addr}(k:∀b o,h.get? b=Z o->b≠T->h'.get? b=Z o)(g:∃o vs,h.get? T=Z o/\o.data=.fields vs)(j:∀b∈fs,∀o,h.get? b=Z o->∀vs,o.data≠.fields vs):Kept fs e (Z T) h h' where
 keep b o hb _ b2 _:=k b o hb λz=>b2 (by rw[z])
 slot b o hb c:=⟨o.slots,k b o hb λz=>by
  let⟨l,vs,a,f⟩:=g;rw[z,a]at hb;cases hb
  show j T (z▸c) _ a vs f⟩
theorem Fly.note{h:Heap}{e T:Addr}{c cls:Value}{a:Ų Addr}(F:Fly h e (Z T) c cls a):∃o vs,h.get? T=Z o/\o.data=.fields vs:=by let⟨p,vs,_,_,_,_,_,_,j,l,f,g,_⟩:=F.ex;show⟨j,l,f,g⟩
theorem Fly.obj{h:Heap}{e:Addr}{T:Ų Addr}{c cls:Value}{a:Ų Addr}(F:Fly h e T c cls a):∃o vs,h.get? e=Z o/\o.data=.fields vs:=by let⟨j,vs,f,g,_⟩:=F.ex;show⟨j,vs,f,g⟩
section
variable{K:Â}{X:Cx}{j:Str->Str->Bool}{names:Y Str}
theorem uz{a:Y (Addr×Ð)}{h:St}{H:Hp}{s:À}(I:Inv X a h H s):∀b∈cG X.stack,∀o,s.heap.get? b=Z o->∀vs,o.data≠.fields vs:=λb e o g=>by let⟨_,l,c,f⟩:=I.stack.mem e;rw[g]at c;cases c;show f
theorem BL:PHM K X [] (λ_ _ _=>False):=⟨λ_ _ _ _ _ _ _ _ _ _ _ _ _ _ _ _ _ _ _ _ _ _ _ _ h=>h.elim⟩
theorem HH{R:Y ï}{th:XD->EndsM->ai->Prop}{c n:Str}{Da:Addr}{np TR:Õ}{Q:Ë}{RS:Y Ë}{tu:bG}(i:Nat)(Ex:Exs X.K X.mg j names)(hc:c∈names)(hg:Gl X c)(hm:X.mg c=Z (.ref Da))(hN:X.N.Nodup)(hs:∀pn e,PSsM K (X.held pn e) (Q::RS) tu)(hr:PHM K X R th)
  (hi:X.N[i]?=Z n:=by rfl) (SH:X.env.scope.names.lookup n=Z .local:=by rfl) (To:X.fn n=ų\/X.env.scope.names.lookup n=Z .local:=by first|show .inl S|show .inr S) (Py:ad c:=by decide) :
  PHM K X (.ExceptHandler (Z (.Name c np)) (Z n) (Q::RS) TR::R) (λE U ρ=>E.nm∈names/\(j E.nm c=ų->tu { nx:=λG=>U.nx (G.set i ű),rt:=U.rt,bk:=λG=>U.bk (G.set i ű),ct:=λG=>U.ct (G.set i ű) } (ρ.set i (Z (.v (.exc E.nm E.at_.toList)))))/\(j E.nm c=Ŵ->th E U ρ)):=
 ⟨λhK A s σ H D l T C dx E Φ0 H0 am ρ U I F Ua aw O fT g V t k=>by
  let⟨PM,t1,t2⟩:=t;let⟨oe,he,Sz,hdx,vs,hvs⟩:=F.live;let⟨iC,kC⟩:=Ex.cls E.nm PM C Ua s.heap I.kIn;let⟨iD,kD⟩:=Ex.cls c hc Da hm s.heap I.kIn;have Up:=Ex.sub E.nm PM c hc C Da Ua hm s.heap I.kIn;refine wpAny_handleBy_cons (codeAny_handlers_test (js (X:=X.held (X.pn++A) (.ref l)) (I.held (.ref l)) hg hm ?_ Py)) (by intro q;cases q);refine BS kC kD he Sz ?_;rw[Up]
  cases hb:j E.nm c with
  |false=>show hr.ph hK A s σ H D l T C dx E Φ0 H0 am ρ U I F Ua aw O fT g V (t2 hb) k
  |true=>
   refine codeAny_handlers_suite_as (rW F λh1 F1 k1 n1=>?_);have I1:Inv X A σ H { s with heap:=h1 }:=I.passed (uw k1 F.note (uz I)) O (λT' z=>by cases z;show fT) F.obj (λT' z=>by cases z;show F.note);refine qL I1 hN hi (.inl SH) (v:=.ref l) S (λs2 I2 PH=>?_) To;let⟨XG,ve2,Ra,M,S7,VC,_⟩:=F1.ex
   have Wu:l≠X.env.locals:=λz=>by let⟨m,⟨o',es,ep,PN,R3,_⟩,_⟩:=I1.loc;rw[z,show h1.get? X.env.locals=_ from PN]at Ra;cases Ra;rw[R3]at M;cases M
   have hec:∀x c,X.env.cells.lookup x=Z c->c≠l:=λx c h z=>by let⟨v,o',PN,R3⟩:=I1.cell x c h;rw[z,show h1.get? l=_ from Ra]at PN;cases PN;rw[R3]at M;cases M
   have he3:s2.heap.get? l=Z XG:=by
    let⟨a,sb,ha⟩:=PH;refine (sb.2 l ?_).trans Ra;rcases ha with rfl|ha
    ·show Wu
    ·show λz=>hec _ _ ha z.symm
   have new:ObjOk X.prog X.w (au H l (.ext (fm l C dx))) s2.heap l (.ext (fm l C dx)):=⟨⟨XG,ve2,he3,S7,VC,M⟩,⟨XG,he3⟩,λa b ⟨o,w,z1,z2⟩ kk=>⟨o,w,kk o z1,z2⟩⟩;have I3:=I2.knowX O.1 O.2.1 O.2.2 (KW Wu) hec new
   have PL:H0 l=ű:=by
    cases q:H0 l with
    |none=>rfl
    |some u=>have:=g.h _ _ q;rw[O.2.1]at this;cases this
   have hΦe:am l=ű:=by
    cases q:am l with
    |none=>rfl
    |some u=>have:=g.s _ _ q;rw[O.2.1]at this;cases this
   obtain⟨P,g2,r2⟩:∃P,Gr am H P (au H l (.ext (fm l C dx)))/\Rp K P (.exc E.nm E.at_.toList) (.ref l):=by
    have g1:Gr am H (au am l (.ext (fm l C dx))) (au H l (.ext (fm l C dx))):=(Gr.fresh g.s O.2.1 _).freeze O.2.1 hΦe aZ
    cases ha:E.at_ with
    |none=>
     rw[ha]at aw;have aw:dx=ű:=aw;subst aw;show⟨_,g1,.exc0 (hK▸Ex.inK E.nm PM C Ua) aZ⟩
    |some d=>
     rw[ha]at aw;let⟨p,v,rfl,hp,rv⟩:=aw
     have XH:p≠l:=λz=>by rw[z,O.2.1]at hp;cases hp
     have S9:au H l (.ext (fm l C (Z p))) p=Z (.xd [("at",v)]):=by rw[aH XH];show hp
     have rv':∀Ψ:Hp,Rp K Ψ d v:=λΨ=>(hK▸rv:Rp K (λ_=>ű) d v).same λb u z=>(by cases z)
     cases q:(au am l (.ext (fm l C (Z p)))) p with
     |some u=>
      have:=g1.s _ _ q;rw[S9]at this;cases this;show⟨_,g1,.exc1 (hK▸Ex.inK E.nm PM C Ua) aZ q (rv' _)⟩
     |none=>
      refine⟨au (au am l (.ext (fm l C (Z p)))) p (.xd [("at",v)]),⟨g1.f.trans (cR q _),g1.h,λb u z=>?_,λb u z1 z2 z3=>?_⟩,.exc1 (hK▸Ex.inK E.nm PM C Ua) (by rw[aH (KW XH)];show aZ) aZ (rv' _)⟩
      ·by_cases cb:b=p
       ·rw[cb,aZ]at z;cases z;rw[cb];show S9
       ·rw[aH cb]at z;show g1.s b u z
      ·by_cases cb:b=p
       ·rw[cb,hp]at z1;cases z1;show z3.elim
       ·rw[aH cb];show g1.o b u z1 z2 z3
   have V2:=((V.gr g2).snocV r2).store i
   have run:=(hs (X.pn++A) (.ref l)).ps hK [] s2 _ _ { nx:=λy B=>D.nx (y.set i ű) B,rt:=D.rt,bk:=λy B=>D.bk (y.set i ű) B,ct:=λy B=>D.ct (y.set i ű) B } (I3.held (.ref l))
    ⟨Φ0,H0,P,_,_,g.trans g2,V2,t1 hb,⟨λG N B y r g' V'=>k.nx _ N B _ r g' (V'.unset i),k.rt,λG N B y r g' V'=>k.bk _ N B _ r g' (V'.unset i),λG N B y r g' V'=>k.ct _ N B _ r g' (V'.unset i),λ_ _ _ _ _ _ _ _ h=>h.elim⟩⟩
   refine Lg run (λf s3 hf=>?_) λ_ _ h=>h.elim;have go:∀{y:St}{B:Hp},Inv (X.held (X.pn++A) (.ref l)) [] y B s3->(∀s',Inv X A (y.set i ű) B s'->SP X A D f s')->wpAny (model X.prog X.w) X.A (do bindName X.env n .none;unbindBehindTheSuite X.env n TR) (λ_ s'=>SP X A D f s') X.xe s3:=λ{y B} J kk=>B2 (Inv.unheld I.ok J) hN hi SH To kk
   cases f with
   |next=>let⟨y,B,J,q⟩:=hf;show go J λs' ar=>⟨_,B,ar,q⟩
   |brk=>let⟨y,B,J,q⟩:=hf;show go J λs' ar=>⟨_,B,ar,q⟩
   |cont=>let⟨y,B,J,q⟩:=hf;show go J λs' ar=>⟨_,B,ar,q⟩
   |ret u=>let⟨v,y,B,J,rv,q⟩:=hf;show go J λs' ar=>⟨v,_,B,ar,rv,q⟩⟩
theorem AB{r:Y Ë}{h₀:ï}{hs:Y ï}{pos:Õ}{tb:bG}{th:XD->EndsM->ai->Prop}(hb:∀pn xe,PSsM K (X.tried pn xe) r tb)(hh:PHM K X (h₀::hs) th)(VD:X.stack=X.env::X.outer)(RK:X.env.frame=Z X.env.locals) :
  PSM K X (.Try r (h₀::hs) [] [] pos) (λN ρ=>tb { N with ex:=λxd ρ1=>th xd N ρ1 } ρ):=⟨λhK=>by
 intro a s σ H D I OT;let⟨M,H0,Φ,ρ,N,g,V,t,k⟩:=OT;refine wpAny_Try_except ?_
 refine Lg ((hb (X.pn++a) (λe B=>wpAny (model X.prog X.w) X.A (ħ e X.env) (λ_ E=>wpAny (model X.prog X.w) X.A (Ť e ű) (λ_ G=>wpAny (model X.prog X.w) X.A (handleBy e X.env (h₀::hs)) (SP X a D) X.xe G) X.xe E) X.xe B)).ps hK [] s σ H D (I.tried _)
  ⟨M,H0,Φ,ρ,_,g,V,t,⟨k.nx,k.rt,k.bk,k.ct,λxd ρ' Φ' l c e s' Rh hth g' V' st=>?_⟩⟩) (λf s1 R=>?_) λ_ _ h=>h
 ·let⟨Q,C,T,dx,e1,F,Ua,Pq,aw,U⟩:=st.ex;subst e1;have w:Inv X a c l s':=Inv.untried I.ok st.inv;have am:X.s₀.heap.get? Q=ű/\l Q=ű/\∀p∈X.pn++a,p.1≠Q:=⟨aw.1,aw.2.1,λp A=>aw.2.2 p (LA _ A)⟩;have ar:∀o,T=Z o->X.s₀.heap.get? o=ű/\l o=ű/\∀p∈X.pn++a,p.1≠o:=λo z=>⟨(U o z).1,(U o z).2.1,λp A=>(U o z).2.2 p (LA _ A)⟩;have Qe:=w.stack;have y:=w.ok.frames;rw[VD]at Qe y;refine sX (base:=X.base) y Qe RK F λh1 P O n1 k1=>?_;rw[←VD]at k1;have I1:Inv X a c l { s' with heap:=h1 }:=w.passed k1 am ar F.obj (λo z=>by subst z;show F.note);have x:X.s₀.heap.get? P=ű/\l P=ű/\∀p∈X.pn++a,p.1≠P:=⟨Lo (J6 w.sz n1),w.hok.fresh n1,λp A z=>absurd (Ka (w.pin p A).1) (by rw[z];show Ng.mpr n1)⟩;refine rW (s:={ s' with heap:=h1 }) O λh2 F2 k2 n2=>?_;have I2:Inv X a c l { s' with heap:=h2 }:=I1.passed (uw k2 O.note (uz I1)) am (λo z=>by cases z;show x) O.obj (λo z=>by cases z;show O.note);show hh.ph hK a _ c l D Q P C dx xd M H0 Φ' ρ' N I2 F2 Ua Pq am x g' V' hth k
 ·cases f with
  |next=>let⟨c,l,J,q⟩:=R;show Nc ⟨c,l,Inv.untried I.ok J,q⟩
  |brk=>let⟨c,l,J,q⟩:=R;show⟨c,l,Inv.untried I.ok J,q⟩
  |cont=>let⟨c,l,J,q⟩:=R;show⟨c,l,Inv.untried I.ok J,q⟩
  |ret u=>let⟨v,c,l,J,rv,q⟩:=R;show⟨v,c,l,Inv.untried I.ok J,rv,q⟩⟩
end
section
variable{M:ÿ}{prog:Ä}{w:Å}{A:È}{E:Value->À->Prop}{h:Heap}{g:Array ă}{d:Š}{t:Nat}{os:ş}{a:Addr}{o:Ð}{nm q:Str}{C N:Addr}{bs e:Y Value}{G:Bool}{l:Y Str}{sub:Y Value}{B:Bool}{f:Ų Bool}{z:Ų Addr}{x v u r p:Ų Value}{c:String}{j:Str->Ų Value}{name:Str}
theorem Bm{y:Ų Value}{Q:Ų Value->À->Prop}(I:name∈excNames)(T:TailN h e)(O:ņ kK name=pure y)(K:Q y ⟨h,g,d,t,os⟩):wpAny M A (ņ e name) Q E ⟨h,g,d,t,os⟩:=by
 induction T with
 |base=>rw[O];show J5 K
 |own F H J _ P=>
  rw[Ŧ];refine JT (wpAny_classOwn_cls F H ?_);rw[J name I];show P
theorem iN{y:Ų Value}{Q:Ų Value->À->Prop}(J:name∈excNames)(H:h.get? C=Z (Ò nm q C N bs e G l sub B f z x v u r p c))(K:h.Ns N j)(I:j name=ű)(T:TailN h e)(F:ò (.type "ValueError") name=pure y)
  (O:Q y ⟨h,g,d,t,os⟩):wpAny M A (ò (.ref C) name) Q E ⟨h,g,d,t,os⟩:=by
 have P:ņ kK name=pure y:=by rw[typeLookup_eq,Lr.mroIs]at F;show F
 rw[typeLookup_eq];refine JT (ū H ?_);rw[Ŧ];refine JT (wpAny_classOwn_exc H K ?_);rw[I];show Bm J T P O
theorem Dc:ò (.type "ValueError") "__class__"=pure (Z (.builtin "object.__class__")):=by rw[Ŭ,ł];kernel_rfl
theorem Bv{R:Ŕ->À->Prop}(K:h.get? C=Z (Ò nm q C N bs e G l sub B f z x v u r p c))(T:TailN h e)(I:h.get? a=Z o)(H:o.cls=.ref C)(O:R (.ok (.ret (.ref C))) ⟨h,g,d,t,os⟩) :
  ã (model prog w) A (.call (.builtin "getset_descriptor.__get__") ⟨[.builtin "object.__class__",.ref a,.ref C],[]⟩) R ⟨h,g,d,t,os⟩:=by
 have y:(⟨h,g,d,t,os⟩:À).TypeIs (.builtin "object.__class__") "getset_descriptor":=M8
 have J:(Value.ref C::e).contains (.type (".".intercalate ("object.__class__".cutAt '.').dropLast))=ų:=by rw[F.owner_object_class,Mw,T.tail.hasType (X:="object") (b:=ų) 'a',Nm]
 refine MG F.slot_gs_get.plain F.entry_gs_get (F.slot_gs_get.check _ _ _ _ _ _ _ _ y (F.args_gs_get _ _ _) ?_)
 repeat (any_goals (first|assumption|(with_reducible refine Kv I ?_;rw[H])|(with_reducible refine LH K ?_;rw[J])|wp_step))
 refine⟨NJ _ 'a',codeAny_builtin F.entry_object_class ?_⟩
 repeat (any_goals (first|assumption|(with_reducible refine Kv I ?_;rw[H])|wp_step))
theorem xE{y:Value}{Q:Unit->À->Prop}(J:h.get? C=Z (Ò nm q C N bs e G l sub B f z x v u r p c))(T:TailN h e)(R:h.get? a=Z o)(K:o.cls=.ref C)(P:Q Unit.unit ⟨h,g,d,t,os⟩):wpAny M A (ð "BaseException.__getattribute__" ⟨[.ref a,y],[]⟩) Q E ⟨h,g,d,t,os⟩:=by
 have O:builtinKind "BaseException.__getattribute__"=Z .slot:=by lia
 have I:splitId "BaseException.__getattribute__"=Z ("BaseException","__getattribute__"):=by lia
 have H:(Value.ref C::e).contains (.type "BaseException")=ų:=by rw[Mw,T.tail.hasType (X:="BaseException") (b:=ų) 'a',Nm]
 have U:=F.args_bexc_ga (.ref a) y;simp only[ð,O,I];refine JT ?_;unfold Œ
 repeat (first|(with_reducible refine Kv R ?_;rw[K])|(with_reducible refine LH J ?_;rw[H])|wp_step)
 show P
theorem Dw{R:þ}{Q:Fin->À->Prop}(y:h.get? C=Z (Ò nm q C N bs e G l sub B f z x v u r p c))(K:h.Ns N j)(J:j "__class__"=ű)(T:TailN h e)(I:h.get? a=Z o)(H:o.cls=.ref C)(ar:Q (.done (.ret (.ref C))) ⟨h,g,d,t,os⟩) :
  wpAny (model prog w) A (Builtin.«object.__getattribute__» ⟨[.ref a,.str "__class__" R],[]⟩) Q E ⟨h,g,d,t,os⟩:=by
 have O:(⟨h,g,d,t,os⟩:À).TypeIs (.builtin "object.__class__") "getset_descriptor":=M8;have am:=M8;have U:=F.slot_gs_get.lookup;have X:=F.slot_gs_set.lookup
 have P:("__class__":Str)∈excNames:=by simp
 repeat (any_goals (first|assumption|(with_reducible refine Kv I ?_;rw[H])|with_reducible refine iN P y K J T Dc ?_|wp_step))
 refine Bv y T I H ?_
 repeat (any_goals (first|assumption|wp_step))
theorem Ad{tk:þ}{fill y:Bool}{Q:Value->À->Prop}(H:h.get? C=Z (Ò nm q C N bs e G l sub B f z x v u r p c))(J:h.Ns N j)(I:∀n∈excNames,n≠"__init__"->j n=ű)(T:TailN h e)(O:h.get? a=Z o)(K:o.cls=.ref C)(hq:Q (.ref C) ⟨h,g,d,t,os⟩) :
  wpAny (model prog w) A (getAttrBy (.ref a) (.str "__class__" tk) fill y) Q E ⟨h,g,d,t,os⟩:=by
 have f3:=K4.ga.bind (.ref a)
 have U:(y&&Ħ (Value.builtin "BaseException.__getattribute__"))=Ŵ:=by cases y<;>rfl
 have am:(Value.builtin "BaseException.__getattribute__"==Value.builtin "object.__getattribute__")=Ŵ:=by lia
 have Wv:(Ħ (Value.ref C)&&Value.builtin "BaseException.__getattribute__"==Value.builtin "object.__getattribute__")=Ŵ:=by rw[am];rfl
 have P:("__getattribute__":Str)∈excNames:=by simp
 have R:("__getattr__":Str)∈excNames:=by simp
 have X:=I "__getattribute__" P 'b';have ar:=I "__getattr__" R 'b';have aw:=I "__class__" (by simp) 'b'
 repeat (any_goals (first|assumption|(with_reducible refine Kv O ?_;rw[K])|with_reducible refine iN P H J X T K4.ga.lookup ?_|with_reducible refine iN R H J ar T K4.noGetattr ?_|wp_step))
 refine MG K4.ga.plain F.entry_bexc_ga (xE H T O K (Dw H J aw T O K ?_))
 repeat (any_goals (first|assumption|wp_step))
theorem Ee{Q:Ų Value->À->Prop}(F:h.get? C=Z (Ò nm q C N bs e G l sub B f z x v u r p c))(H:h.Ns N j)(y:∀n∈excNames,n≠"__init__"->j n=ű)(T:TailN h e)(J:h.get? a=Z o)(I:o.cls=.ref C)(K:Q (Z (.ref C)) ⟨h,g,d,t+1,os⟩) :
  wpAny (model prog w) A (getAttr? (.ref a) "__class__") Q E ⟨h,g,d,t,os⟩:=by
 unfold getAttr? getAttrBy?
 repeat (any_goals (first|assumption|with_reducible apply Ad F H y T J I|wp_step))
end
noncomputable def wR(a C:Addr)(h:Heap):Prop:=∃o,h.get? a=Z o/\o.cls=.ref C
theorem tY{K:Â}{a C:Addr}(v:∀h:Heap,K.In h->∃i,ExcAt h C i):KitX K (.ref a) (.ref C) (wR a C) where
 ty:=λM h _ p=>by let⟨o,r,u⟩:=p;show u▸(PySem.W.Looks.ld r).andThen .now
 it:=λ_ h X _=>by let⟨i,j⟩:=v h X;let⟨nm,q,N,bs,y,O,sub,x,f,l,B,F,G,H,I,J,c,_⟩:=j.ex;intro ar Q' aw s' k q;unfold isType loadHead;show JT (wpAny_loadPart (k _ _ c) (J5 q))
 ne:=λh U l OU n sl X P=>by
  let⟨i,j⟩:=v h X;let⟨nm,q,N,bs,y,O,sub,x,f,l,B,F,G,H,I,J,c,_⟩:=j.ex;refine Bool.eq_false_iff.mpr λq=>?_;have e:C=U:=Value.ref.inj (L3.mp q);rw[e,P]at c;have z:=KG Ð.data (Kh c);cases z
 ca:=λ{prog w A E Q s} X p k=>by let⟨o,r,u⟩:=p;let⟨i,j⟩:=v _ X;let⟨nm,q,N,bs,y,O,sub,x,f,l,B,F,G,H,I,J,c,R,c3,am,T⟩:=j.ex;let⟨hp,g,d,t,os⟩:=s;show Ee c R am T r u k
structure Isa(K:Â)(mg:Str->Option Value)(Pb:Str->Str->Bool)(names:List Str):Prop where
 own:∀nm∈names,∀c∈names,∀C D,mg nm=Z (.ref C)->mg c=Z (.ref D)->Ā K (.ref C) (.ref D)=Z (Pb nm c)
 val:∀nm∈names,∀C,mg nm=Z (.ref C)->Ā K (.ref C) (.type "ValueError")=Z ų
 mgK:∀nm∈names,∀C,Ú K Á nm=Z (Z (.ref C))->mg nm=Z (.ref C)
section
variable{K:Â}{X:Cx}{a:Ã}{j:TD}{f p:Õ}{e:Str->Str->Bool}{names:Y Str}
theorem xC{g:Y (Addr×Ð)}{z:St}{H x:Hp}{s:À}{nm:Str}{y:Y D}{v:V}(I:Inv X g z H s)(sm:Same x H)(r:Rp K x (.exc nm y) v):∃c C,v=.ref c/\Ú K Á nm=Z (Z (.ref C))/\wR c C s.heap:=by
 cases r with
 | @exc0 c C _ h l=>
  let⟨⟨o,vs,t,u,_⟩,_⟩:=(show ObjOk X.prog X.w H s.heap c (.ext (fm c C ű))from I.hok c _ (sm _ _ l));show⟨c,C,S,h,o,t,u⟩
 | @exc1 c C p _ w d h l A B=>
  let⟨⟨o,vs,t,u,_⟩,_⟩:=(show ObjOk X.prog X.w H s.heap c (.ext (fm c C (Z p)))from I.hok c _ (sm _ _ l));show⟨c,C,S,h,o,t,u⟩
noncomputable def HL(K:Â)(X:Cx):Y V->Hp->VK->Prop:=λvs H Q=>∃g nm l v c u C b,vs=[v,c]/\Same g H/\Rp K g (.exc nm l) v/\RelV c u/\Ú K Á nm=Z (Z (.ref C))/\(∀h:Heap,X.K.In h->∃i,ExcAt h C i)/\Ā X.K (.ref C) u=Z b/\Q (.bl b) H
theorem Aa{c:V}{u u':Value}(h:RelV c u)(h':RelV c u')(g:(∃D,c=.ref D)\/∃T,c=.ty T):u=u':=by
 rcases g with⟨D,rfl⟩|⟨T,rfl⟩
 ·cases (show u=Value.ref D from h);cases (show u'=Value.ref D from h');rfl
 ·cases (show u=Value.type T from h);cases (show u'=Value.type T from h');rfl
theorem wL:fv X (.builtin "isinstance") (λvs H Q=>(∃v c,vs=[v,c]/\((∃D,c=.ref D)\/∃T,c=.ty T))/\HL K X vs H Q):=by
 intro t s aw H vs us Q I g w;let⟨⟨R,A,B,G⟩,ar,nm,U,v,c,u,C,b,rfl,sm,r,O,x,F,y,q⟩:=w;cases B
 obtain⟨h,l,rfl,M,N⟩:∃h l,us=[h,l]/\RelV R h/\RelV A l:=by
  cases g with
  |cons a g=>cases g with
   |cons b g=>cases g;show⟨_,_,S,a,b⟩
 let⟨E,am,rfl,o,J⟩:=xC I sm r;rw[x]at o;cases o;cases (show h=Value.ref E from M);have:=Aa O N G;subst this;show PySem.W.kia_one (tY F) I.kIn J y (λz=>nomatch z) λP=>⟨.bl b,H,I.tok P,S,q⟩
noncomputable def qU(e:Str->Str->Bool)(names:Y Str)(c:Str)(t:TD):TD:=λρ R=>t ρ λd=>∃nm g,d=.exc nm g/\nm∈names/\R (.bl (e nm c))
theorem AL{c:Str}{D:Addr}{l:Õ}(J:Exs X.K X.mg e names)(x:Isa X.K X.mg e names)(hc:c∈names)(ar:Gl X c)(G:X.mg c=Z (.ref D))(hg:Gl X "isinstance")(U:X.mg "isinstance"=ű)(aw:PD K X a j)
  (F:starEach [a,.Name c l] X.env=(Ŵ,eval a X.env)::starEach [.Name c l] X.env) (z:starEach [.Name c l] X.env=(Ŵ,eval (.Name c l) X.env)::starEach [] X.env) (P:ad c:=by decide):PD K X (.Call (.Name "isinstance" p) [a,.Name c l] [] f) (qU e names c j):=
 ⟨λB=>(k7 (wL (K:=K)) hg U Nl (cC (aw.pe B) (cC (jZ (v:=.ref D) ar G S P) pa_nil z) F) 'b' 'b' F (bC z ao)).imp λσ H Q O=>by
  let⟨M,Φ,ρ,R,E,t,k⟩:=O;refine⟨M,Φ,ρ,_,E,t,λd o N v r g I=>?_⟩;let⟨nm,am,rfl,u,r⟩:=r
  obtain⟨C,y⟩:∃C,Ú K Á nm=Z (Z (.ref C)):=by
   cases I with
   |exc0 w _=>show⟨_,w⟩
   |exc1 w _ _ _=>show⟨_,w⟩
  have A:=x.mgK nm u C (B▸y)
  show⟨⟨v,.ref D,S,.inl ⟨D,S⟩⟩,o,nm,am,v,.ref D,.ref D,C,_,S,g.s,I,S,y,λh T=>J.cls nm u C A h T,x.own nm u c hc C D A G,k _ o N _ r g (.bl _)⟩⟩
theorem vR{c:Õ}(M:Exs X.K X.mg e names)(z:Isa X.K X.mg e names)(x:Gl X "ValueError")(y:X.mg "ValueError"=ű)(aw:Gl X "isinstance")(U:X.mg "isinstance"=ű)(ar:PD K X a j)
  (I:starEach [a,.Name "ValueError" c] X.env=(Ŵ,eval a X.env)::starEach [.Name "ValueError" c] X.env) (B:starEach [.Name "ValueError" c] X.env=(Ŵ,eval (.Name "ValueError" c) X.env)::starEach [] X.env):PD K X (.Call (.Name "isinstance" p) [a,.Name "ValueError" c] [] f) (qU (λ_ _=>ų) names "ValueError" j):=
 ⟨λG=>(k7 (wL (K:=K)) aw U Nl (cC (ar.pe G) (cC (jB (v:=.ty "ValueError") (u:=.type "ValueError") x y (by kernel_rfl) S) pa_nil B) I) 'b' 'b' I (bC B ao)).imp λσ H Q P=>by
  let⟨N,Φ,ρ,R,E,t,k⟩:=P;refine⟨N,Φ,ρ,_,E,t,λd l O v r g J=>?_⟩;let⟨nm,am,rfl,o,r⟩:=r
  obtain⟨C,A⟩:∃C,Ú K Á nm=Z (Z (.ref C)):=by
   cases J with
   |exc0 w _=>show⟨_,w⟩
   |exc1 w _ _ _=>show⟨_,w⟩
  have F:=z.mgK nm o C (G▸A)
  show⟨⟨v,.ty "ValueError",S,.inr ⟨_,S⟩⟩,l,nm,am,v,.ty "ValueError",.type "ValueError",C,_,S,g.s,J,S,A,λh T=>M.cls nm o C F h T,z.val nm o C F,k _ l O _ r g (.bl _)⟩⟩
end
section
variable{prog:Ä}{w:Å}{A:È}{E:Value->À->Prop}{h:Heap}{g:Array ă}{d:Š}{t:Nat}{os:ş}{a p:Addr}{o:Ð}{vs:Array Value}{v:Value}{nm q:Str}{C N:Addr}{bs l:Y Value}{r:Y Str}{sub:Y Value}{H:Bool}{e:Ų Bool}{G:Ų Addr}{B z y x u:Ų Value}{c:String}{f j:Str->Ų Value}
theorem we:ò (.type "ValueError") "at"=pure ű:=by rw[Ŭ,ł];kernel_rfl
theorem Hz{X:þ}{Q:Fin->À->Prop}(F:h.get? C=Z (Ò nm q C N bs l ų r sub H e G B z y x u c))(O:h.Ns N f)(K:f "at"=ű)(T:TailN h l)(J:h.get? a=Z o)(I:o.cls=.ref C)(hd:o.data=.fields vs)(R:o.dict=Z p)(M:h.Ns p j)(U:j "at"=Z v)(am:Q (.done (.ret v)) ⟨h,g,d,t,os⟩) :
  wpAny (model prog w) A (Builtin.«object.__getattribute__» ⟨[.ref a,.str "at" X],[]⟩) Q E ⟨h,g,d,t,os⟩:=by
 have P:("at":Str)∈excNames:=by simp
 unfold Builtin.«object.__getattribute__»
 repeat (first|(with_reducible refine Kv J ?_;rw[I])|with_reducible refine iN P F O K T we ?_|wp_step)
 rw[hd];change wpAny _ _ (instanceDict a Ŵ) _ _ _;unfold instanceDict
 repeat (first|(with_reducible refine Kv J ?_;rw[I])|with_reducible refine Kv F ?_|wp_step)
 rw[R];refine J5 ?_;unfold Builtin.ObjectAttr.inDict
 repeat (first|(with_reducible refine wpAny_nsGet M ?_;rw[U])|wp_step)
 show am
theorem Im{tk:þ}{fill I:Bool}{Q:Value->À->Prop}(J:h.get? C=Z (Ò nm q C N bs l ų r sub H e G B z y x u c))(M:h.Ns N f)(K:∀n∈excNames,n≠"__init__"->f n=ű)(T:TailN h l)(P:h.get? a=Z o)(O:o.cls=.ref C)(hd:o.data=.fields vs)(ar:o.dict=Z p)(X:h.Ns p j)(aw:j "at"=Z v)(hh:Ć v=pure v)(hq:Q v ⟨h,g,d,t,os⟩) :
  wpAny (model prog w) A (getAttrBy (.ref a) (.str "at" tk) fill I) Q E ⟨h,g,d,t,os⟩:=by
 have f3:=K4.ga.bind (.ref a)
 have hx0:(I&&Ħ (Value.builtin "BaseException.__getattribute__"))=Ŵ:=by cases I<;>rfl
 have U:(Value.builtin "BaseException.__getattribute__"==Value.builtin "object.__getattribute__")=Ŵ:=by lia
 have Wv:(Ħ (Value.ref C)&&Value.builtin "BaseException.__getattribute__"==Value.builtin "object.__getattribute__")=Ŵ:=by rw[U];rfl
 have R:("__getattribute__":Str)∈excNames:=by simp
 have am:("__getattr__":Str)∈excNames:=by simp
 have n1:=K "__getattribute__" R 'b';have n2:=K "__getattr__" am 'b';have n3:=K "at" (by simp) 'b'
 repeat (any_goals (first|assumption|(with_reducible refine Kv P ?_;rw[O])|with_reducible refine iN R J M n1 T K4.ga.lookup ?_|with_reducible refine iN am J M n2 T K4.noGetattr ?_|wp_step))
 refine MG K4.ga.plain F.entry_bexc_ga (xE J T P O (Hz J M n3 T P O hd ar X aw ?_))
 repeat (any_goals (first|assumption|wp_step))
theorem EH{F:Bool}{Q:Value->À->Prop}(K:h.get? C=Z (Ò nm q C N bs l ų r sub H e G B z y x u c))(M:h.Ns N f)(I:∀n∈excNames,n≠"__init__"->f n=ű)(T:TailN h l)(U:h.get? a=Z o)(O:o.cls=.ref C)(hd:o.data=.fields vs)(R:o.dict=Z p)(J:h.Ns p j)(am:j "at"=Z v)(P:Ć v=pure v)(X:Q v ⟨h,g,d,t+1,os⟩) :
  wpAny (model prog w) A (Ĺ (.ref a) "at" F) Q E ⟨h,g,d,t,os⟩:=by
 unfold Ĺ
 repeat (any_goals (first|assumption|with_reducible apply Im K M I T U O hd R J am P|wp_step))
end
section
variable{K:Â}{X:Cx}{a:Ã}{f:TD}{c:Õ}{h:Str->Str->Bool}{names:Y Str}
theorem FU:Ć .none=pure .none:=by rfl
theorem Ip(i:Int)(t:þ):Ć (.int i t)=pure (.int i t):=by rfl
noncomputable def kL:D->Prop|.non=>True|.int _=>True|_=>False
noncomputable def zV(names:Y Str)(t:TD):TD:=λρ R=>t ρ λd=>∃nm x,d=.exc nm [x]/\nm∈names/\kL x/\R x
theorem oS(ar:Exs X.K X.mg h names)(Is:Isa X.K X.mg h names)(ha:PD K X a f)(hb:Ç a "at" X.env (eval a X.env)=eval a X.env:=by rfl):PD K X (.Attribute a "at" c) (zV names f):=
 ⟨λam=>by
  intro A s σ H Q I OT;let⟨aw,U,ρ,R,E,t,k⟩:=OT;refine yc hb (aI (ha.pe am A s σ H _ I ⟨aw,U,ρ,_,E,t,λd l y v r g M=>(⟨l,d,r,g,M⟩:∃l d,(∃nm x,d=.exc nm [x]/\nm∈names/\kL x/\R x)/\Gr U H l y/\Rp K l d v)⟩) λu G PB=>?_);let⟨v,y,B,M,l,d,⟨nm,x,rfl,O,Tg,hR⟩,g,r⟩:=PB
  cases r with
  | @exc1 F C p _ w _ h0 h1 h2 P=>
   obtain rfl:u=Value.ref F:=M;have Ri:=Is.mgK nm O C (am▸h0);let⟨i,hc⟩:=ar.cls nm O C Ri G.heap B.kIn;let⟨Xu,q,N,bs,bm,sn,sub,ab,col,dd,k0,k1,k2,k3,k5,mN,c1,c2,c3,c4,c5⟩:=hc.ex;let⟨⟨o,vs,z1,z2,z3,z4⟩,_⟩:=(show ObjOk X.prog X.w y G.heap F (.ext (fm F C (Z p)))from B.hok F _ (g.s _ _ h1));let⟨T,n1,n2⟩:=(show ObjOk X.prog X.w y G.heap p (.xd [("at",w)])from B.hok p _ (g.s _ _ h2));have z:=n2 "at"
   have hl:([("at",w)]:Y (Str×V)).lookup ("at":Str)=Z w:=by rw[Kl,Kz]
   rw[hl]at z
   obtain⟨u',e1,J⟩:∃u',T "at"=Z u'/\RelV w u':=by
    cases q:T "at" with
    |none=>rw[q]at z;show z.elim
    |some u'=>rw[q]at z;show⟨u',S,z⟩
   have hh:Ć u'=pure u':=by
    cases P with
    |non=>cases (show u'=Value.none from J);show FU
    |int j=>let⟨t',e⟩:=(show ∃t,u'=Value.int j t from J);rw[e];show Ip j t'
    |_=>show Tg.elim
   let⟨hp,gg,dr,tk,os⟩:=G
   show EH c1 c2 c4 c5 z1 z2 z4 z3 n1.ns e1 hh ⟨w,y,B.tok _,J,k x l y w hR g P⟩⟩
end
open Builtin Builtin.ObjectAttr
section
variable{M:ÿ}{prog:Ä}{w:Å}{A:È}{E:Value->À->Prop}{h:Heap}{g:Array ă}{d:Š}{t:Nat}{os:ş}{x:Addr}{o:Ð}{vs:Array Value}{v:Value}{nm q:Str}{C N:Addr}{bs f:Y Value}{r:Y Str}{sub:Y Value}{I:Bool}{j:Ų Bool}{H:Ų Addr}{G F B z u:Ų Value}{a:String}{l:Str->Ų Value}
theorem Ae(self:Value){h:Heap}{f:Y Value}(T:TailN h f):refuseLoop self "__setattr__" f=pure Unit.unit:=by
 induction T with
 |base=>show Ly.passes self
 |own _ _ _ _ c=>rw[refuseLoop_ref];show c
theorem ID{c:Value}{Q:Unit->À->Prop}(p:h.get? C=Z (Ò nm q C N bs f ų r sub I j H G F B z u a))(T:TailN h f)(K:h.get? x=Z o)(y:o.cls=.ref C)(J:Q Unit.unit ⟨h,g,d,t,os⟩) :
  wpAny M A (ð "object.__setattr__" ⟨[.ref x,c,v],[]⟩) Q E ⟨h,g,d,t,os⟩:=by
 have e:(Value.ref C::f).contains (.type "object")=ų:=by rw[Mw,T.tail.hasType (X:="object") (b:=ų) 'a',Nm]
 have O:=Ly.args (.ref x) c v;simp only[ð,Ly.kind,Ly.split];refine JT ?_
 ·unfold Œ
  repeat (first|(with_reducible refine Kv K ?_;rw[y])|(with_reducible refine LH p ?_;rw[e])|wp_step)
  show J
structure Stored(h h':Heap)(x:Addr)(o:Ð)(p:Addr)(v:Value):Prop where
 at_:h'.get? x=Z { cls:=o.cls,dict:=Z p,data:=o.data,slots:=o.slots }
 ns:h'.Ns1 p (λy=>if y="at" then Z v else ű)
 new:h.objs.size<=p
 keep:∀b ob,b≠x->h.get? b=Z ob->h'.get? b=Z ob
theorem CW{tk:þ}{Q:Fin->À->Prop}(ar:h.get? C=Z (Ò nm q C N bs f ų r sub I j H G F B z u a))(hN:h.Ns N l)(Rb:l "at"=ű)(T:TailN h f)(K:h.get? x=Z o)(hc:o.cls=.ref C)(hd:o.data=.fields vs)(hp:o.dict=ű)
  (hq:∀h' p Ub,Stored h h' x o p v->Q (.done (.ret .none)) ⟨h',g,d,Ub,os⟩):wpAny (model prog w) A (Builtin.«object.__setattr__» ⟨[.ref x,.str "at" tk,v],[]⟩) Q E ⟨h,g,d,t,os⟩:=by
 have VH:=Ae (.ref x) T
 have hm:("at":Str)∈excNames:=by simp
 unfold Builtin.«object.__setattr__»
 repeat (first|rw[refuse_eq]|(rw[refuseLoop_ref,VH])|(with_reducible refine Kv K ?_;rw[hc])|with_reducible refine ū ar ?_|with_reducible refine iN hm ar hN Rb T we ?_|wp_step)
 rw[hp];change wpAny _ _ (if (!ų || !typeHasDict (Value.ref C))=ų then pure ű else match o.data with|Data.cls c=>pure ű|_=>_) _ _ _;rw[JV (by simp[typeHasDict]),hd];have X:(h.push { cls:=.type "dict",data:=.dict #[] }).get? x=Z o:=JW _ K;have am:x≠h.objs.size:=KA (Ka K);refine JT (wpAny_alloc' ?_);refine JT (wpAny_update' X ?_);refine J5 ?_;generalize O:((h.push { cls:=.type "dict",data:=.dict #[] }).update x λo=>{ cls:=o.cls,dict:=Z h.objs.size,data:=o.data,slots:=o.slots })=h2
 have gd:h2.get? h.objs.size=Z { cls:=.type "dict",data:=.dict #[] }:=by rw[←O];show (Heap.get?_update_ne _ _ _ _ am.symm).trans (Heap.get?_push_at S S)
 have gx:h2.get? x=Z { cls:=o.cls,dict:=Z h.objs.size,data:=o.data,slots:=o.slots }:=by
  rw[←O];refine LL _ X ?_;have RK:=(Heap.get?_some_iff.mp K).2;let⟨oc,od,R,RP⟩:=o;cases R<;>first|rfl|show RK
 have go:∀b y,b≠x->h.get? b=Z y->h2.get? b=Z y:=λb y P J=>by rw[←O];show (Heap.get?_update_ne _ _ _ _ P).trans (JW _ J)
 have nd:h2.Ns h.objs.size (λ_=>ű):=⟨_,#[],_,gd,S,λe he=>absurd he (by simp),λ_=>rfl⟩;change wpAny _ _ (storeInDict h.objs.size (.str "at" tk) "at" v) _ _ _;unfold storeInDict newKeyGuard;refine JT (J5 (JT (wpAny_nsSet1 (Heap.Ns1.of_empty nd) λh' U aw=>?_)));let⟨oD,esD,epD,WK,WM,WN⟩:=U.count (Within.cons "at" v Within.nil);refine JT (Ţ WK (by rw[WM];show ť (J6 WN (by rw[J1,K5,KP];omega))) ?_)
 wp_walk
 show hq h' h.objs.size _ ⟨(aw.2 x am).trans gx,U,J0 _,λb y P J=>(aw.2 b (KA (Ka J))).trans (go b y P J)⟩
theorem Ap{Q:Unit->À->Prop}(e:h.get? C=Z (Ò nm q C N bs f ų r sub I j H G F B z u a))(O:h.Ns N l)(K:∀n∈excNames,n≠"__init__"->l n=ű)(T:TailN h f)(J:h.get? x=Z o)(y:o.cls=.ref C)(hd:o.data=.fields vs)(R:o.dict=ű)
  (U:∀h' p c,Stored h h' x o p v->Q Unit.unit ⟨h',g,d,c,os⟩):wpAny (model prog w) A (ś (.ref x) "at" v) Q E ⟨h,g,d,t,os⟩:=by
 have aw:=Ly.slot.bind (.ref x)
 have P:("__setattr__":Str)∈excNames:=by simp
 have X:=K "__setattr__" P 'b';have ar:=K "at" (by simp) 'b';unfold ś callSpecial? specialOf
 repeat (any_goals (first|assumption|(with_reducible refine Kv J ?_;rw[y])|with_reducible refine iN P e O X T Ly.slot.lookup ?_|wp_step))
 refine MG Ly.slot.plain Ly.entry (ID e T J y (CW e O ar T J y hd R λh' p c am=>?_))
 repeat (any_goals (first|assumption|wp_step))
 show U h' p c am
end
end L2
namespace L2
open PySem PySem.Spec PyProof.Rows
noncomputable def eD(a C t:Addr)(c:Ų Addr):Heap->Prop:=λh=>∃sl,h.get? a=Z { cls:=.ref C,dict:=c,data:=.fields #[.ref t,.none,.none,.none,.bool Ŵ,.none],slots:=sl }
section
variable{X:Cx}{g:Y (Addr×Ð)}{j:St}{H:Hp}{s:À}{C t:Addr}
theorem Inv.stored{e p:Addr}{sl:Array (Ų Value)}{v:Value}{y:V}{h':Heap}{t':Nat}(I:Inv X g j H s)(r:H e=Z (.ext (eD e C t ű)))(am:Stored s.heap h' e { cls:=.ref C,dict:=ű,data:=.fields #[.ref t,.none,.none,.none,.bool Ŵ,.none],slots:=sl } p v)(Q:RelV y v) :
  Inv X g j (au (au H p (.xd [("at",y)])) e (.ext (eD e C t (Z p)))) { s with heap:=h',toks:=t' }:=by
 have x:H p=ű:=I.hok.fresh am.new
 have T:p≠e:=λz=>by rw[z,r]at x;cases x
 have K:∀b l,s.heap.get? b=Z l->b≠p:=λb l A z=>by subst z;show absurd (Ka A) (Ng.mpr am.new)
 have ne:∀{b:Addr},H b=ű->b≠e:=λ{b} A z=>by rw[z,r]at A;cases A
 refine I.un (h':=h') (t':=t') ⟨λb l q n _ _=>am.keep b l (ne n) q,λb l q n _ _=>⟨l.slots,am.keep b l (ne n) q⟩,λb l q n _=>?_,λb l q _=>?_,λb xs q=>?_,λb l xs q=>?_,λb xs q=>?_⟩ λb u q=>?_
 ·rw[aH (ne n),aH (K b l q)];show n
 ·by_cases c:b=e
  ·rw[c];show⟨_,am.at_⟩
  ·show⟨l,am.keep b l c q⟩
 ·rw[aH (λz=>by rw[z,r]at q;cases q),aH (λz=>by rw[z,x]at q;cases q)];show q
 ·rw[aH (λz=>by rw[z,r]at q;cases q),aH (λz=>by rw[z,x]at q;cases q)];show q
 ·rw[aH (λz=>by rw[z,r]at q;cases q),aH (λz=>by rw[z,x]at q;cases q)];show q
 ·by_cases c:b=e
  ·subst c;rw[aZ]at q;cases q;show⟨⟨sl,am.at_⟩,⟨_,am.at_⟩,λa U ⟨w,R⟩ O=>⟨w,O _ R⟩⟩
  ·rw[aH c]at q;by_cases F:b=p
   ·subst F;rw[aZ]at q;cases q;refine⟨_,am.ns,λf=>?_⟩;by_cases B:f="at"
    ·subst B;rw[Kl,Kz];change RelO (Z y) (if ("at":Str)="at" then Z v else ű);rw[JX S];show Q
    ·have:([("at",y)]:Y (Str×V)).lookup f=ű:=by
      rw[Kl]
      have:(f==("at":Str))=Ŵ:=by simpa using B
      rw[this];rfl
     rw[this];change RelO ű (if f="at" then Z v else ű);rw[JV B];trivial
   ·rw[aH F]at q
    have E:∀z u',H z=Z u'->u'≠.ext (eD e C t ű)->z≠e:=λz u' G M N=>by rw[N,r]at G;show M (Kh G).symm
    refine (I.hok b u q).stay (λz J h P=>am.keep z J ?_ P) (λz h=>?_) (λz xs h=>?_) (λz l J h=>?_)
    ·rcases h with rfl|h
     ·show c
     ·show λo=>by rw[o,r]at h;cases h
    ·rw[aH (λo=>by rw[o,r]at h;cases h),aH (λo=>by rw[o,x]at h;cases h)];show h
    ·rw[aH (λo=>by rw[o,r]at h;cases h),aH (λo=>by rw[o,x]at h;cases h)];show h
    ·rw[aH (λo=>by rw[o,r]at h;cases h),aH (λo=>by rw[o,x]at h;cases h)];show h
noncomputable def qt(C t:Addr):Sp:=λvs H Q _=>∃e v,vs=[.ref e,v]/\H e=Z (.ext (eD e C t ű))/\∀p,H p=ű->p≠e->Q .non (au (au H p (.xd [("at",v)])) e (.ext (eD e C t (Z p))))
noncomputable def uF(C t:Addr):TS:=λD j H=>∃e v,j=[Z (.ref e),Z v]/\H e=Z (.ext (eD e C t ű))/\∀p,H p=ű->p≠e->D.nx j (au (au H p (.xd [("at",v)])) e (.ext (eD e C t (Z p))))
theorem Dl{r G w J:Õ}{i:Ų Value}(F:X.N=[("self":Str),("at":Str)])(hC:∀h:Heap,X.K.In h->ExcAt h C i)(R:b7 X.env.scope "self")(T:b7 X.env.scope "at")(hs:Ñ (.Name "at" w) (Z (.Attribute (.Name "self" r) "at" G)) J.line X.env=pure Ŵ):PS X (.Assign [.Attribute (.Name "self" r) "at" G] (.Name "at" w) J) (uF C t):=by
 intro g s j H D I M;let⟨e,v,rfl,o,k⟩:=M;have A:PE X (.Name "at" w) (jk 1):=rO (by rw[F];rfl) T 'b' 'b';have B:PE X (.Name "self" r) (jk 0):=rO (by rw[F];rfl) R 'b' 'b';refine M9 (aI (A g s _ H (λy a=>y=v/\a=H) I ⟨v,S,S,S⟩) λu s1 O=>?_) hs;let⟨y,a,K,ry,e1,e2⟩:=O;subst e1;subst e2;refine aI (B g s1 _ a (λx c=>x=.ref e/\c=a) K ⟨_,S,S,S⟩) λov E P=>?_;let⟨x,c,f,rx,e3,e4⟩:=P;subst e3;subst e4;obtain rfl:ov=Value.ref e:=rx;let⟨nm,q,N,bs,bm,sn,sub,ab,col,dd,k0,k1,k2,k3,k5,mN,U,ar,c3,aw,c5⟩:=(hC E.heap f.kIn).ex;let⟨⟨sl,z1⟩,_⟩:=(show ObjOk X.prog X.w c E.heap e (.ext (eD e C t ű))from f.hok e _ o);let⟨hp,gg,dr,tk,os⟩:=E;refine Ap U ar aw c5 z1 S S S λh' p Q am=>?_;have l:c p=ű:=f.hok.fresh am.new;show⟨_,_,f.stored (t':=Q) o am ry,k p l (λz=>by rw[z,o]at l;cases l)⟩
end
section
variable{M:ÿ}{A:È}{E:Value->À->Prop}{s:À}{env:ê}{C:Addr}
theorem Ir{x:Sem Value}{Q:Flow->À->Prop}(z:A.handled=ű)
  (h:wpAny M A x (λv a=>∃e t j sl i,v=.ref e/\ExcAt a.heap C i/\a.heap.get? e=Z { cls:=.ref C,dict:=j,data:=.fields #[.ref t,.none,.none,.none,.bool Ŵ,.none],slots:=sl }/\E (.ref e) a) E s):wpAny M A (raiseStmt env (Z x) ű) Q E s:=by
 unfold raiseStmt;refine JT (Lg h (λv a c=>?_) λ_ _ x=>x);let⟨e,t,j,sl,i,rfl,u,y,w⟩:=c;let⟨nm,q,N,bs,o,U,sub,B,r,I,K,O,P,R,am,T,f,F,G,H,p⟩:=u.ex
 have l:(Value.ref C::o).contains (.type "BaseException")=ų:=by rw[Mw,p.tail.hasType (X:="BaseException") (b:=ų) 'a',Nm]
 let⟨J,g,d,ar,os⟩:=a
 repeat (first|with_reducible refine Kv y ?_|with_reducible refine Kv f ?_|(with_reducible refine LH f ?_;rw[l])|wp_step)
 show wpAny_raiseNew_none z w
end
section
variable{prog:Ä}{w:Å}{A:È}{E:Value->À->Prop}{h:Heap}{g:Array ă}{d:Š}{t:Nat}{os:ş}
variable{C c:Addr}{f:Ð}{a:Y Value}
theorem IF{Q:Fin->À->Prop}(O:ExcAt h C (Z (.ref c)))(G:h.get? c=Z f)(F:f.cls=.type "function")(B:a.length<=sizeLine)
  (am:∀h' e,Heap.MadeExcOf h h' e (.ref C) a->wpAny (model prog w) A (call (.ref c) (.ref e::a)) (λr s'=>r=.none/\Q (.done (.ret (.ref e))) s') E ⟨h',g,d,t,os⟩) :
  wpAny (model prog w) A (Builtin.«type.__call__» ⟨.ref C::a,[]⟩) Q E ⟨h,g,d,t,os⟩:=by
 let⟨nm,q,N,bs,I,sn,sub,X,M,aw,k0,k1,k2,k3,k5,mN,j,J,K,ar,u⟩:=O.ex
 repeat (first|with_reducible refine Kv j ?_|with_reducible refine wpAny_madeBy_exc j ?_|wp_step)
 refine codeAny_call_builtin_code (NJ _ Lr.quiet) (wpAny_check_new_subT Lr u.tail j ?_);refine codeAny_exc_new_subT Lr u.tail j ?_ B;change wpAny _ _ _ _ _ _;generalize p:((h.push { cls:=.type "tuple",data:=.seq a.toArray }).push { cls:=.ref C,data:=.fields #[.ref h.objs.size,.none,.none,.none,.bool Ŵ,.none] })=l
 have kp:∀b o,h.get? b=Z o->l.get? b=Z o:=λb o R=>by rw[←p];show JW _ (JW _ R)
 have z:l.get? (h.objs.size+1)=Z { cls:=.ref C,data:=.fields #[.ref h.objs.size,.none,.none,.none,.bool Ŵ,.none] }:=by rw[←p];heap_get
 have H:l.get? h.objs.size=Z { cls:=.type "tuple",data:=.seq a.toArray }:=by rw[←p];show JW _ (Heap.get?_push_at S S)
 have v:(Value.ref C::I).contains (.ref C)=ų:=by simp
 have y:=kp _ _ j;unfold Œ
 repeat (first|with_reducible refine Kv z ?_|(with_reducible refine LH y ?_;rw[v])|wp_step)
 change wpAny _ _ (ò (.ref C) _) _ _ _;refine wpAny_typeLookup_tail y (J.keeps kp) (u.keeps kp).tail Lr.mroIs Lr.init.lookup ?_;rw[K];refine Lz (JT ?_);unfold bindSpecial;refine JT (N9 (T:="function") ⟨_,kp _ _ G,F⟩ ?_);rw[JX 'b'];refine J5 (JT (Lg (am l (h.objs.size+1) ⟨kp,Lo (Oz _),h.objs.size,z,Lo (J0 _),H⟩) (λr s' U=>?_) λ_ _ x=>x));let⟨rfl,P⟩:=U
 wp_walk
 show P
theorem Ho{Q:Value->À->Prop}(l:ExcAt h C (Z (.ref c)))(u:h.get? c=Z f)(p:f.cls=.type "function")(o:a.length<=sizeLine)
  (y:∀h' e,Heap.MadeExcOf h h' e (.ref C) a->wpAny (model prog w) (A.under (.builtin "type.__call__" ⟨.ref C::a,[]⟩)) (call (.ref c) (.ref e::a)) (λr s'=>r=.none/\Q (.ref e) s') E ⟨h',g,d,t,os⟩) :
  wpAny (model prog w) A (call (.ref C) a) Q E ⟨h,g,d,t,os⟩:=by
 let⟨nm,q,N,bs,B,U,sub,z,v,F,J,K,M,O,P,R,j,_⟩:=id l.ex;have G:=tc_lookup;have H:=tc_bind (.ref C);have I:(⟨h,g,d,t,os⟩:À).TypeIs (.ref C) "type":=⟨_,j,S⟩;refine NZ (codeAny_of_tree ?_);change wpAny _ _ (callAny (.ref C) _) _ _ _
 repeat (any_goals (first|assumption|with_reducible refine Kv j ?_|wp_step))
 refine⟨S,?_⟩;refine codeAny_call_builtin_at (NJ _ 'a') entry_typeCall (wpAny_check_type_call_sub j (IF l u p o λh' e x=>?_));show y h' e x
end
section
variable{P:Ä}{w:Å}{K:Â}{mg:Str->Ų Value}{base:Heap}{CX:cM}{k:Nat}{qual:Str}{st:Ë}{f C t:Addr}{l:É}{i:Ų Value}{j g c a:Õ}
theorem zD(F:Fun K "__init__" qual st f l)(am:FnScope [("self":Str),("at":Str)] [("self":Str),("at":Str)] (aQ st))(z:cY st=[.Assign [.Attribute (.Name "self" j) "at" g] (.Name "at" c) a])(r:b7 (aQ st) "self")(u:b7 (aQ st) "at")
  (G:∀env,Ñ (.Name "at" c) (Z (.Attribute (.Name "self" j) "at" g)) a.line env=pure Ŵ) (y:∀h:Heap,K.In h->ExcAt h C i):FnOk P w K mg base CX (k+1) f l [("self":Str),("at":Str)] (qt C t):=by
 let⟨R,T,kV,x,U,N,J,ct,M,rfl,lk,p⟩:=F.ex;refine mB lk p am (λvs H Q E o=>?_) λA outer s H vs Q E O o=>⟨uF C t,?_,?_⟩
 ·let⟨e,v,rfl,_⟩:=o;rfl
 ·rw[z];show vz (Dl S y r u (G _))
 ·let⟨e,v,rfl,B,I⟩:=o;show⟨e,v,S,B,I⟩
end
section
variable{X:Cx}{l:Y (Addr×Ð)}{w:St}{H:Hp}{s:À}{K:Â}
noncomputable def j7(H:Hp)(e:Addr):Hp:=λb=>if b=e then ű else H b
theorem il{e b:Addr}(h:b≠e):j7 H e b=H b:=JV h
theorem ue{e:Addr}:j7 H e e=ű:=JX S
theorem oQ{e b:Addr}(h:H b=ű):j7 H e b=ű:=by unfold j7;split<;>first|rfl|show h
theorem Inv.drop{e:Addr}{t:Heap->Prop}(I:Inv X l w H s)(f:H e=Z (.ext t))(v:X.s₀.heap.get? e=ű):Inv X l w (j7 H e) s where
 ok:=I.ok
 os:=I.os
 bare:=I.bare
 base:=⟨I.base.keep,I.base.slot,λb j q n r=>oQ (I.base.free b j q n r),I.base.there,
  λb xs q=>by have:=I.base.tups b xs q;rw[il (λz=>by rw[z,f]at this;cases this)];show this,
  λb j xs q=>by have:=I.base.frzs b j xs q;rw[il (λz=>by rw[z,f]at this;cases this)];show this,
  λb ps q=>by have:=I.base.tbls b ps q;rw[il (λz=>by rw[z,f]at this;cases this)];show this⟩
 loc:=I.loc
 cell:=I.cell
 free:=oQ I.free
 freeC x c h:=oQ (I.freeC x c h)
 pin p h:=by let⟨a1,a2,a3⟩:=I.pin p h;show⟨a1,oQ a2,a3⟩
 hok b u q:=by
  have o:b≠e:=λz=>by rw[z,ue]at q;cases q
  rw[il o]at q;show (I.hok b u q).stay (λ_ _ _ q=>q) (λz a=>by rw[il (λg=>by rw[g,f]at a;cases a)];show a) (λz xs a=>by rw[il (λg=>by rw[g,f]at a;cases a)];show a) (λz j y a=>by rw[il (λg=>by rw[g,f]at a;cases a)];show a)
 len:=I.len
theorem CF{C f:Addr}{fd:É}{oI:Ð}{x:Str}{np OY pos:Õ}{arg:Ã}{ta:TD}{n:Nat}(Pn:X.calm=ų)(hex:X.ex=[])(hg:Gl X x)(hm:X.mg x=Z (.ref C))(hC:∀h:Heap,X.K.In h->ExcAt h C (Z (.ref f)))(hkp:Ü X.K (.ref C)=ų)
  (Tg:X.K.lookup f=Z oI) (VL:oI.cls=.type "function") (hF:∀t,FnOk X.prog X.w X.K X.mg X.base bt n f fd [("self":Str),("at":Str)] (qt C t)) (hb:Binds X.K fd [("self":Str),("at":Str)] []) (hr:Room (n+1) X.A) (ha:PD K X arg ta)
  (he:starEach [arg] X.env=(Ŵ,eval arg X.env)::starEach [] X.env) (Py:ad x:=by decide) :
  PSM K X (.Raise (Z (.Call (.Name x np) [arg] [] OY)) ű pos) (λT ρ=>ta (dc ρ) λd=>kL d/\T.ex ⟨x,Z d⟩ ρ):=⟨λhK=>by
 intro l s w H D I OT;let⟨Φ0,H0,Φ,ρ,T,g,V,t,k⟩:=OT;rw[arm_exec_Raise];refine JT (MJ ?_);refine Ir (C:=C) (I.ok.hd Pn) ?_;refine JT ?_;refine L7 (js I hg hm ?_ Py);have pa:=cC (ha.pe hK) pa_nil he;refine NY (h₀:=X.base) I.ok.mod.kin hkp (aI (pa OY l s w H (λvs B=>∃d A v,vs=[v]/\(kL d/\T.ex ⟨x,Z d⟩ ρ)/\Gr Φ H A B/\Rp K A d v) I ⟨_,Φ,dc ρ,_,V.toD,t,λd A B v r P rv=>⟨d,A,v,S,r,P,rv⟩⟩) λus s1 PB=>?_) he ao;let⟨vs,B,F,r,d,A,v,rfl,⟨XO,hx⟩,P,rv⟩:=PB;let⟨u,rfl,ru⟩:=gZ r;refine⟨F.kIn,?_⟩;have hCs:=hC s1.heap F.kIn;let⟨hp,gg,dr,tk,os⟩:=s1;refine Ho hCs (F.kIn _ _ Tg) VL (by change 1<=sizeLine;rw[KP];decide) λh' e M=>?_;let⟨G,t1,t2,t3⟩:=M.there;have I2:=F.more M.keeps;have ar:B e=ű:=F.hok.no M.new;have E:=F.old hex M.new
 have VN:∀p∈X.pn++l,p.1≠e:=λp S9 z=>by have:=(F.pin p S9).1;rw[z,show hp.get? e=ű from M.new]at this;cases this
 have SH:X.env.locals≠e:=λz=>by let⟨m,⟨o',es,ep,O,_⟩,_⟩:=F.loc;rw[z,show hp.get? e=ű from M.new]at O;cases O
 have XQ:∀y c,X.env.cells.lookup y=Z c->c≠e:=λy c hc z=>by let⟨w',o',O,_⟩:=F.cell y c hc;rw[z,show hp.get? e=ű from M.new]at O;cases O
 have U:=I2.knowX (o:=.ext (eD e C G ű)) E ar VN SH XQ ⟨⟨_,t1⟩,⟨_,t1⟩,λa b ⟨w',am⟩ kk=>⟨w',kk _ am⟩⟩;have r2:Vals [L2.V.ref e,v] [Value.ref e,u]:=.cons S (.cons ru .nil);have hB:=hb _ [Value.ref e,u] U.kIn S;rw[Ku]at hB;refine NZ (Mx ((hF G).run _ X.stack _ _ ⟨[Value.ref e,u],[]⟩ [Value.ref e,u] [L2.V.ref e,v] (λv' H'=>v'=.non/\∃p,au B e (.ext (eD e C G ű)) p=ű/\p≠e/\H'=au (au (au B e (.ext (eD e C G ű))) p (.xd [("at",v)])) e (.ext (eD e C G (Z p)))) E0 (hr.make C [u] []) (U.env0.make C [u] []) hB r2 ⟨e,v,S,aZ,λp Q N=>⟨S,p,Q,N,S⟩⟩) λres s' aw=>?_)
 cases res with
 |error z=>show aw.elim
 |ok fl=>
  cases fl with
  |ret u'=>
   let⟨v',H',J,ru',rfl,p,Q,N,rfl⟩:=U.after aw;cases (show u'=Value.none from ru')
   have SA:B p=ű:=by rw[aH N]at Q;show Q
   let⟨⟨sl,am⟩,_⟩:=(show ObjOk X.prog X.w _ s'.heap e (.ext (eD e C G (Z p)))from J.hok e _ aZ);have Jd:=J.drop aZ E
   have eH:j7 (au (au (au B e (.ext (eD e C G ű))) p (.xd [("at",v)])) e (.ext (eD e C G (Z p)))) e=au B p (.xd [("at",v)]):=by
    funext b
    by_cases R:b=e
    ·rw[R,ue,aH (KW N)];show ar.symm
    ·rw[il R,aH R];by_cases cp:b=p
     ·rw[cp,aZ,aZ]
     ·rw[aH cp,aH cp,aH R]
   rw[eH]at Jd;have gF:Gr A B A (au B p (.xd [("at",v)])):=Gr.fresh P.s SA _
   have rvf:Rp X.K (λ_=>ű) d v:=by
    cases rv with
    |non=>show .non
    |int j=>show .int j
    |_=>show XO.elim
   refine⟨S,JT (MJ (J5 ⟨e,G,Z p,sl,_,S,hC s'.heap J.kIn,am,?_⟩))⟩;refine k.ex ⟨x,Z d⟩ ρ A _ w _ _ l hx (g.trans (P.trans gF)) ((V.gr P).gr gF) ⟨Jd,e,C,ű,Z p,S,⟨_,_,am,S,S,S,S⟩,hm,⟨p,v,S,aZ,rvf⟩,⟨E,?_,VN⟩,λT' z=>(by cases z)⟩;rw[aH (KW N)];show ar
  |_=>show aw.elim⟩
end
section
variable{K:Â}{h:Heap}{N C:Addr}
noncomputable def AW(v:Value):Bool:=match v with|.str _ _=>ų|_=>Ŵ
noncomputable def oB(K:Â)(N:Addr):Bool:=match K.lookup N with
 |some ⟨_,_,.dict a _,_⟩=>a.toList.all λe=>AW e.key
 |_=>Ŵ
noncomputable def noName(K:Â)(N:Addr)(n:Str):Bool:=match Ú K N n with|some ű=>ų|_=>Ŵ
theorem noName.is{n:Str}(h:noName K N n=ų):Ú K N n=Z ű:=by
 unfold noName at h;split at h
 ·assumption
 ·cases h
theorem wx(X:K.In h)(e:oB K N=ų):∃t,h.Ns N t/\∀n r,Ú K N n=Z r->t n=r:=by
 unfold oB at e;split at e
 ·rename_i c d f u sl o
  have w:StrKeys f:=λg l=>by have p:=Kf.mp e g (Ě.mpr l);cases q:g.key<;>rw[q]at p<;>first|show⟨_,_,S⟩|cases p
  have G:h.Ns N (λn=>nsFind f n):=⟨_,f,u,X _ _ o,S,w,λ_=>rfl⟩;refine⟨_,G,λn r a=>?_⟩
  cases r with
  |none=>
   unfold Ú at a;rw[o]at a;dsimp only at a;split at a
   ·cases a
   ·rename_i j;change nsFind f n=ű;unfold nsFind findBy;rw[←NB,j];rfl
  |some v=>
   unfold Ú at a;rw[o]at a;dsimp only at a;split at a
   ·rename_i g j;cases a;change nsFind f n=Z g.val;unfold nsFind findBy;rw[←NB,j];rfl
   ·split at a<;>cases a
 ·cases e
noncomputable def isBmV(l:Y Value):Bool:=match l with
 | [.type a,.type b,.type c,.type d]=>a == "ValueError"&&b == "Exception"&&c == "BaseException"&&d == "object"
 |_=>Ŵ
theorem isBmV.is{l:Y Value}(h:isBmV l=ų):l=kK:=by
 unfold isBmV at h;split at h
 ·rw[Kc,Kc,Kc]at h;let⟨⟨⟨a,c⟩,e⟩,f⟩:=h;rw[eq_of_beq a,eq_of_beq c,eq_of_beq e,eq_of_beq f]
 ·cases h
noncomputable def refOf(v:Value):Ų Addr:=match v with|.ref A=>Z A|_=>ű
theorem refOf.is{v:Value}{A:Addr}(h:refOf v=Z A):v=.ref A:=by cases v<;>first|(cases h;rfl)|cases h
noncomputable def tailOk(K:Â):Y Value->Bool
 | []=>Ŵ
 |v::c=>(match refOf v with
  |some A=>(match K.lookup A with
   |some ⟨_,_,.cls a,_⟩=>oB K a.ns&&excNames.all (noName K a.ns)&&tailOk K c
   |_=>Ŵ)
  |none=>isBmV (v::c))
theorem tailOk.tail(X:K.In h):∀{l:Y Value},tailOk K l=ų->TailN h l
 | [],e=>by cases e
 |v::u,e=>by
  unfold tailOk at e;split at e
  ·rename_i A p;rw[refOf.is p];split at e
   ·rename_i c d r sl o;rw[Kc,Kc]at e;let⟨⟨a,f⟩,g⟩:=e;let⟨t,G,k⟩:=wx X a;show .own (X _ _ o) G (λn j=>k n ű (noName.is (Kf.mp f n j))) (tailOk.tail X g)
   ·cases e
  ·rw[isBmV.is e];show .base
noncomputable def clsOk(K:Â)(C:Addr):Bool:=match K.lookup C with
 |some ⟨.type t,_,.cls ⟨_,_,v::c,N,_,hd,_,_,_,_,a⟩,⟨[_,_,_,_,Z (.builtin b),_]⟩⟩=>
  t == "type"&&b == "ValueError.__new__"&&hd&&!a&&(v==.ref C)&&oB K N&&(excNames.all λn=>n == "__init__" ||noName K N n)&&tailOk K c&&(Ú K N "__init__").isSome
 |_=>Ŵ
noncomputable def jT(K:Â)(C:Addr):Ų (Ų Value):=match K.lookup C with
 |some ⟨_,_,.cls a,_⟩=>Ú K a.ns "__init__"
 |_=>ű
theorem clsOk.at(X:K.In h){i:Ų Value}(e:clsOk K C=ų)(f:jT K C=Z i):ExcAt h C i:=by
 unfold clsOk at e;split at e
 ·rename_i t r nm bs v p N q hd U sub o a g O P Q R b am j;unfold jT at f;rw[j]at f;simp only[Kc]at e;let⟨⟨⟨⟨⟨⟨⟨⟨u,w⟩,x⟩,y⟩,z⟩,A⟩,B⟩,E⟩,ar⟩:=e;let⟨T,G,k⟩:=wx X A;have F:=eq_of_beq u;have H:=eq_of_beq w;have J:=eq_of_beq z;subst F H J x
  have I:g=Ŵ:=by cases g<;>first|rfl|cases y
  subst I;refine⟨nm,q,N,bs,p,U,sub,o,a,r,O,P,Q,R,am,T,X _ _ j,G,k _ _ f,λn M l=>?_,tailOk.tail X E⟩;have:=Kf.mp B n M;rw[Ox]at this;rcases this with c|c
  ·show absurd (eq_of_beq c) l
  ·show k _ _ (noName.is c)
 ·cases e
theorem clsOk.some(e:clsOk K C=ų):∃i,jT K C=Z i:=by
 unfold clsOk at e;split at e
 ·rename_i t o nm bs v l N q hd y sub j a g p r u w b x f;simp only[Kc]at e;let⟨_,c⟩:=e;unfold jT;rw[f];show N6.mp c
 ·cases e
noncomputable def nT(K:Â)(C:Addr):Ų (Y Value):=match K.lookup C with
 |some o=>(match o.data with|.cls cd=>Z cd.mro|_=>ű)
 |none=>ű
theorem Jx(X:K.In h){l:Y Value}(e:nT K C=Z l):ko h C=l:=by
 unfold nT at e
 cases a:K.lookup C with
 |none=>rw[a]at e;cases e
 |some o=>
  rw[a]at e;unfold ko;rw[X _ _ a];let⟨c,d,f,sl⟩:=o;cases f<;>first|show Kh e|cases e
noncomputable def glbRef(K:Â)(nm:Str):Ų Addr:=match Ú K Á nm with
 |some (Z v)=>refOf v
 |_=>ű
theorem glbRef.is{nm:Str}(e:glbRef K nm=Z C):Ú K Á nm=Z (Z (.ref C)):=by
 unfold glbRef at e;split at e
 ·rename_i v a;rw[a,refOf.is e]
 ·cases e
noncomputable def pairOk(K:Â)(a:Str->Str->Bool)(nm:Str)(C:Addr)(c:Str):Bool:=match glbRef K c,nT K C with
 |some D,Z l=>(Ā K (.ref C) (.ref D)==Z (a nm c))&&(l.contains (.ref D)==a nm c)
 |_,_=>Ŵ
noncomputable def ka(K:Â)(a:Str->Str->Bool)(names:Y Str):Bool:=names.all λnm=>match glbRef K nm with
 |some C=>clsOk K C&&Ü K (.ref C)&&(Ā K (.ref C) (.type "ValueError")==Z ų)&&names.all (pairOk K a nm C)
 |none=>Ŵ
section
variable{a:Str->Str->Bool}{names:Y Str}{mg:Str->Ų Value}
theorem jr(e:ka K a names=ų){nm:Str}(j:nm∈names):∃C,Ú K Á nm=Z (Z (.ref C))/\clsOk K C=ų/\Ā K (.ref C) (.type "ValueError")=Z ų/\(∀c∈names,pairOk K a nm C c=ų)/\Ü K (.ref C)=ų:=by
 have:=Kf.mp e nm j;split at this
 ·rename_i C f;rw[Kc,Kc,Kc]at this;show⟨C,glbRef.is f,this.1.1.1,eq_of_beq this.1.2,λc g=>Kf.mp this.2 c g,this.1.1.2⟩
 ·cases this
theorem pairOk.is{nm c:Str}(e:pairOk K a nm C c=ų):∃D l,Ú K Á c=Z (Z (.ref D))/\nT K C=Z l/\Ā K (.ref C) (.ref D)=Z (a nm c)/\l.contains (.ref D)=a nm c:=by
 unfold pairOk at e;split at e
 ·rename_i D l f g;rw[Kc]at e;show⟨D,l,glbRef.is f,g,eq_of_beq e.1,eq_of_beq e.2⟩
 ·cases e
theorem FD(X:K.In h)(G:h.Ns Á mg)(e:ka K a names=ų):Exs K mg a names where
 cls nm hn C hm h' X':=by let⟨j,f,g,_⟩:=jr e hn;rw[ú X G f]at hm;cases hm;let⟨i,p⟩:=clsOk.some g;show⟨i,clsOk.at X' g p⟩
 sub nm hn c hc C D hm hd h' X':=by let⟨j,f,g,_,o,_⟩:=jr e hn;rw[ú X G f]at hm;cases hm;let⟨v,l,r,t,w,u⟩:=pairOk.is (o c hc);rw[ú X G r]at hd;cases hd;rw[Jx X' t];show u
 inK nm hn C hm:=by let⟨j,f,g,_⟩:=jr e hn;rw[ú X G f]at hm;cases hm;show f
theorem Ba(X:K.In h)(G:h.Ns Á mg)(e:ka K a names=ų):Isa K mg a names where
 own nm hn c hc C D hm hd:=by let⟨g,f,j,_,p,_⟩:=jr e hn;rw[ú X G f]at hm;cases hm;let⟨u,l,r,v,t,w⟩:=pairOk.is (p c hc);rw[ú X G r]at hd;cases hd;show t
 val nm hn C hm:=by let⟨g,f,j,o,_⟩:=jr e hn;rw[ú X G f]at hm;cases hm;show o
 mgK nm hn C hC:=ú X G hC
theorem kz(X:K.In h)(G:h.Ns Á mg)(e:ka K a names=ų){nm:Str}(g:nm∈names):∃D,mg nm=Z (.ref D):=by let⟨c,f,_⟩:=jr e g;show⟨c,ú X G f⟩
end
structure Rz1(P:Ä)(w:Å)(K:Â)(mg:Str->Option Value)(base:Heap)(x:Str):Prop where
 ex:∃C f fd oI,mg x=Z (.ref C)/\(∀h:Heap,K.In h->ExcAt h C (Z (.ref f)))/\Ü K (.ref C)=ų/\K.lookup f=Z oI/\oI.cls=.type "function"/\(∀t,FnOk P w K mg base bt 1 f fd [("self":Str),("at":Str)] (qt C t))/\Binds K fd [("self":Str),("at":Str)] []/\Ú K Á x=Z (Z (.ref C))
noncomputable def initOf(K:Â)(x:Str):Ų (Ų Value):=(glbRef K x).bind (jT K)
section
variable{a:Str->Str->Bool}{names:Y Str}{mg:Str->Ų Value}{P:Ä}{w:Å}{base:Heap}
theorem initOf.is{x:Str}{i:Ų Value}(c:initOf K x=Z i)(e:Ú K Á x=Z (Z (.ref C))):jT K C=Z i:=by
 have:glbRef K x=Z C:=by unfold glbRef;rw[e];rfl
 unfold initOf at c;rw[this]at c;show c
theorem nQ{q:Str}{st:Ë}{f:Addr}{y z A B:Õ}(X:K.In h)(G:h.Ns Á mg)(e:ka K a names=ų){x:Str}(U:x∈names)(T:initOf K x=Z (Z (.ref f)))
  {p:Value} {v:Ų Addr} {kV c l:Value} {j:Ų Addr} {g ct:Value} {r:Array (Ų Value)} (lk:K.lookup f=Z ⟨p,v,.func (ć "__init__" q (eI st) (cY st) (aQ st) .none kV c l j g ct),r⟩) (H:p=.type "function") (E:ā K g q=ų) (kp:Ü K (.ref f)=ų)
  (am:FnScope [("self":Str),("at":Str)] [("self":Str),("at":Str)] (aQ st)) (R:cY st=[.Assign [.Attribute (.Name "self" y) "at" z] (.Name "at" A) B]) (I:b7 (aQ st) "self") (J:b7 (aQ st) "at")
  (ar:∀env,Ñ (.Name "at" A) (Z (.Attribute (.Name "self" y) "at" z)) B.line env=pure Ŵ)
  (b:∀(kV c l:Value)(j:Ų Addr)(g ct:Value)(us:Y Value),us.length=2->Ę (ć "__init__" q (eI st) (cY st) (aQ st) .none kV c l j g ct) ⟨us,[]⟩=pure ([("self":Str),("at":Str)].zip us)):Rz1 P w K mg base x:=by
 let⟨C,o,O,_,_,Q⟩:=jr e U;have F:Fun K "__init__" q st f _:=⟨⟨p,v,kV,c,l,j,g,ct,r,S,lk,E⟩,kp⟩;have u:∀h':Heap,K.In h'->ExcAt h' C (Z (.ref f)):=λh' M=>clsOk.at M O (initOf.is T o);show⟨C,f,_,_,ú X G o,u,Q,lk,H,λt=>zD (k:=0) F am R I J ar u,F.binds b,o⟩
end
end
noncomputable abbrev nN:=Y D->(XD->Prop)->Prop
noncomputable def orX(z:cP)(r:nN):hJ:=λds R W=>z ds R\/r ds W
noncomputable def rB(r:nN):hJ:=λds _ W=>r ds W
section
variable{P:Ä}{w:Å}{K:Â}{mg:Str->Ų Value}{base:Heap}{n:Nat}{f:Addr}{a:É}{ps:Y Str}{z:cP}{r:nN}
theorem CN{CX:cM}{A:È}{c:Code}{outer:Y ê}{H:Hp}{s:À}{Q:VK}{E:XK}(h:ã (model P w) A c (CR bt outer P w H s Q E) s):ã (model P w) A c (CR CX outer P w H s Q E) s:=
 Mx h λres s' q=>by
  cases res with
  |error e=>show q.elim
  |ok g=>cases g<;>show q
theorem FnOk.orX(A:FnOk P w K mg base bt n f a ps (lSp K z))(B:FnOk P w K mg base (CXo P w) n f a ps (gQ K mg (rB r))):FnOk P w K mg base (CXo P w) n f a ps (gQ K mg (orX z r)):=by
 have g:∀{vs:Y V}{H:Hp}{Q:VK}{E:XK},gQ K mg (L2.orX z r) vs H Q E->lSp K z vs H Q E\/gQ K mg (rB r) vs H Q E:=λ{vs H Q E} h=>by
  let⟨y,ds,R,W,j,l,o,c,p,C⟩:=h;rcases c with c|c
  ·show .inl ⟨y,ds,R,j,l,o,c,p⟩
  ·show .inr ⟨y,ds,R,W,j,l,o,c,p,C⟩
 refine⟨λvs H Q E h=>?_,λe outer s H args us vs Q E v u t x F=>?_⟩
 ·rcases g h with h|h
  ·show A.len _ _ _ _ h
  ·show B.len _ _ _ _ h
 ·rcases g F with h|h
  ·show CN (A.run e outer s H args us vs Q E v u t x h)
  ·show B.run e outer s H args us vs Q E v u t x h
end
section
variable{K:Â}{X:Cx}{x:Str}{h j g:Õ}{arg:Ã}{a:TD}
noncomputable def Gp(x:Str)(a:TD):bG:=λc ρ=>a (dc ρ) λd=>kL d/\c.ex ⟨x,Z d⟩ ρ
theorem iu(Q:Rz1 X.prog X.w X.K X.mg X.base x)(e:X.calm=ų)(c:X.ex=[])(A:Gl X x)(B:Room 2 X.A)(y:PD K X arg a)(z:starEach [arg] X.env=(Ŵ,eval arg X.env)::starEach [] X.env)(l:ad x:=by decide) :
  PSM K X (.Raise (Z (.Call (.Name x h) [arg] [] j)) ű g) (Gp x a):=by
 let⟨C,f,E,F,o,p,r,t,u,v,w,_⟩:=Q.ex;show CF (n:=1) e c A o p r t u v w B y z l
theorem mC{o:Y ï}{y:XD->EndsM->ai->Prop}{c n:Str}{E:Õ}{l:Ë}{w:Y Ë}{z:bG}{t:Str->Str->Bool}{names:Y Str}(i:Nat)(A:Exs X.K X.mg t names)(u:∃v,X.mg c=Z (.ref v))(H:c∈names)(I:Gl X c)(G:X.N.Nodup)(N:∀pn e,PSsM K (X.held pn e) (l::w) z)(M:PHM K X o y)
  (J:X.N[i]?=Z n:=by rfl) (C:X.env.scope.names.lookup n=Z .local:=by rfl) (F:X.fn n=ų\/X.env.scope.names.lookup n=Z .local:=by first|show .inl S|show .inr S) (B:ad c:=by decide) :
  PHM K X (.ExceptHandler (Z (.Name c h)) (Z n) (l::w) E::o) (λp r ρ=>p.nm∈names/\(t p.nm c=ų->z { nx:=λf=>r.nx (f.set i ű),rt:=r.rt,bk:=λf=>r.bk (f.set i ű),ct:=λf=>r.ct (f.set i ű) } (ρ.set i (Z (.v (.exc p.nm p.at_.toList)))))/\(t p.nm c=Ŵ->y p r ρ)):=by
 let⟨v,u⟩:=u;show HH i A H I u G N M J C F B
end
section
variable{K:Â}{X:Cx}{a:Ã}{g:TD}{e p:Õ}{f:Str->Str->Bool}{names:Y Str}
theorem v9{c:Str}{h:Õ}(o:Exs X.K X.mg f names)(r:Isa X.K X.mg f names)(j:∃l,X.mg c=Z (.ref l))(y:c∈names)(w:Gl X c)(A:Gl X "isinstance")(v:X.mg "isinstance"=ű)(x:PD K X a g)
  (z:starEach [a,.Name c h] X.env=(Ŵ,eval a X.env)::starEach [.Name c h] X.env) (u:starEach [.Name c h] X.env=(Ŵ,eval (.Name c h) X.env)::starEach [] X.env) (t:ad c:=by decide):PD K X (.Call (.Name "isinstance" p) [a,.Name c h] [] e) (qU f names c g):=by
 let⟨l,j⟩:=j;show AL o r y w j A v x z u t
end
end L2
namespace L2
open PySem PySem.Spec PyProof.Rows
noncomputable def Gz:Fl->Ų D
 |.v d=>Z d
 |.l xs=>Z (.lst xs)
 |.al _=>ű
noncomputable def fL:Y (Str×Fl)->Ų (Y (Str×D))
 | []=>Z []
 |(f,x)::r=>match Gz x,fL r with
  |some d,Z ds=>Z ((f,d)::ds)
  |_,_=>ű
noncomputable def vH:Ų Sm->Ų Sl
 |some (.ob _ (.obj nm fs))=>(fL fs).map λds=>.v (.obj nm ds)
 |x=>qP x
noncomputable abbrev fU(ρ:ai):bE:=ρ.map vH
noncomputable def wc:HO->Bool
 |.lst _=>ų
 |.dK _=>ų
 |.dT _=>ų
 |.ins _ _ _=>ų
 |_=>Ŵ
theorem Jo{u:HO}(h:nZ u):wc u=ų:=by cases u<;>first|rfl|show h.elim
inductive NoL:D->Prop where
 |int (i:Int):NoL (.int i)
 |bl (b:Bool):NoL (.bl b)
 |str (x:Str):NoL (.str x)
 |non:NoL .non
 |tup {ds:List D}:(∀d∈ds,NoL d)->NoL (.tup ds)
noncomputable def eE(a H:Hp)(A:Y Addr):Hp:=λb=>match a b with
 |some u=>Z u
 |none=>if b∈A then H b else ű
noncomputable def iq(c a:Hp):Hp:=λb=>match c b with
 |some u=>Z u
 |none=>match a b with
  |some u=>if wc u then ű else Z u
  |none=>ű
section
variable{K:Â}{J H I t B:Hp}{G:St}{ρ:ai}{F:Nat->Y Addr}{A:Y Addr}{d:D}{v:V}{b:Addr}{u:HO}
theorem zi(h:t b=Z u):eE t H A b=Z u:=by unfold eE;rw[h]
theorem uc(a:b∈A)(h:H b=Z u)(s:Same t H):eE t H A b=Z u:=by
 unfold eE
 cases e:t b with
 |some w=>have:=s _ _ e;rw[h]at this;cases this;rfl
 |none=>simp only;rw[JX a];show h
theorem wq(h:eE t H A b=Z u):t b=Z u\/(b∈A/\H b=Z u):=by
 unfold eE at h
 cases e:t b with
 |some w=>rw[e]at h;show .inl h
 |none=>
  rw[e]at h;simp only at h;split at h
  ·next c=>show .inr ⟨c,h⟩
  ·cases h
theorem view_same:Same t (eE t H A):=λ_ _ h=>zi h
theorem tL(s:Same t H):Same (eE t H A) H:=λb u h=>(wq h).elim (s b u) (·.2)
theorem FX(h:t b=Z u):iq t B b=Z u:=by unfold iq;rw[h]
theorem Jv{vs:Y V}(s:Same t B)(h:B b=Z (.tup vs)):iq t B b=Z (.tup vs):=by
 unfold iq
 cases e:t b with
 |some w=>have:=s _ _ e;rw[h]at this;cases this;rfl
 |none=>simp only;rw[h];rfl
theorem jK(s:Same t H)(g:Gr (eE t H A) H B I):Gr t H (iq t B) I:=by
 refine⟨λb u e=>FX e,g.h,λb u e=>?_,λp u j h k=>?_⟩
 ·unfold iq at e
  cases c:t b with
  |some w=>rw[c]at e;cases e;show g.h _ _ (s _ _ c)
  |none=>
   rw[c]at e;simp only at e
   cases a:B b with
   |none=>rw[a]at e;cases e
   |some w=>
    rw[a]at e;simp only at e;split at e
    ·cases e
    ·cases e;show g.s _ _ a
 ·unfold iq;rw[h];simp only
  cases a:B p with
  |none=>rfl
  |some w=>
   have f:=g.s _ _ a;rw[g.h _ _ j]at f;cases f;simp only;rw[JX (Jo k)]
theorem Rp.thawN(s:Same t B)(f:NoL d)(r:Rp K B d v):Rp K (iq t B) d v:=by
 induction f generalizing v with
 |int i=>obtain rfl:=r.i;show .int i
 |bl b=>obtain rfl:=r.b;show .bl b
 |str x=>obtain rfl:=r.s;show .str x
 |non=>obtain rfl:=r.n;show .non
 |tup _ h=>
  cases r with
  |tup a c e=>show .tup (Jv s a) c λi v d g hd=>h d (Kp hd) (e i v d g hd)
noncomputable def oH:Ų (Ų Sm)->Bool
 |some (Z (.ob _ (.obj _ _)))=>ų
 |_=>Ŵ
noncomputable def iF(F:Nat->Y Addr)(ρ:ai):Y Addr:=(List.range ρ.length).flatMap λi=>if oH (ρ[i]?) then F i else []
theorem Fu{i:Nat}{a:Ų Addr}{nm:Str}{fs:Y (Str×Fl)}(h:ρ[i]?=Z (Z (.ob a (.obj nm fs))))(c:b∈F i):b∈iF F ρ:=by unfold iF;refine Mm.mpr ⟨i,Li.mpr (bj h),?_⟩;rw[h,JX (show oH (Z (Z (Sm.ob a (Om.obj nm fs))))=ų from rfl)];show c
theorem C2(h:b∈iF F ρ):∃i a nm fs,ρ[i]?=Z (Z (.ob a (.obj nm fs)))/\b∈F i:=by
 unfold iF at h;let⟨i,_,h⟩:=Mm.mp h;by_cases c:oH (ρ[i]?)=ų
 ·rw[JX c]at h;unfold oH at c;split at c
  ·next a nm fs e=>show⟨i,a,nm,fs,e,h⟩
  ·cases c
 ·rw[JV c]at h;cases h
theorem Eb{fs:Y (Str×Fl)}{ds:Y (Str×D)}{vs:Y (Str×V)}{E:Y Addr}(a:fL fs=Z ds)(h:FlsR K t H fs vs E)(C:Same t B)(x:∀b∈E,∀u,H b=Z u->B b=Z u) :
  vs.map (·.1)=ds.map (·.1)/\∀(i:Nat)(v:Str×V)(d:Str×D),vs[i]?=Z v->ds[i]?=Z d->Rp K B d.2 v.2:=by
 induction h generalizing ds with
 |nil=>cases a;show⟨S,λi v d g=>by simp at g⟩
 |v r _ j=>
  rename_i f o U c y z _;have a:(match Z o,fL c with|some d,Z ds=>Z ((f,d)::ds)|_,_=>ű)=Z ds:=a
  cases e:fL c with
  |none=>rw[e]at a;cases a
  |some M=>
   rw[e]at a;cases a;let⟨p,w⟩:=j e x;refine⟨by rw[Kk,Kk,p],λi v d g hd=>?_⟩
   cases i with
   |zero=>cases g;cases hd;show r.same C
   |succ i=>show w i v d g hd
 |l p w _ j=>
  rename_i f o T R c y z _;have a:(match Z (D.lst o),fL c with|some d,Z ds=>Z ((f,d)::ds)|_,_=>ű)=Z ds:=a
  cases e:fL c with
  |none=>rw[e]at a;cases a
  |some M=>
   rw[e]at a;cases a;let⟨O,P⟩:=j e λb N=>x b (JZ _ N);refine⟨by rw[Kk,Kk,O],λi v d g hd=>?_⟩
   cases i with
   |zero=>
    cases g;cases hd;have r:=w.same C;show .lst (x _ JY _ p) r.1 r.2
   |succ i=>show P i v d g hd
 |al _ j=>
  rename_i f Q c y z _;have a:(match (ű:Ų D),fL c with|some d,Z ds=>Z ((f,d)::ds)|_,_=>ű)=Z ds:=a;cases a
theorem EnvM'.view(E:EnvM' K J t H G ρ F):EnvD K J (eE t H (iF F ρ)) H G (fU ρ):=by
 have am:Same t (eE t H (iF F ρ)):=view_same
 have at_:∀{i:Nat}{x:Sl},(fU ρ)[i]?=Z (Z x)->∃y,ρ[i]?=Z (Z y)/\vH (Z y)=Z x:=λ{i x} h=>by
  rw[J4]at h
  cases e:ρ[i]? with
  |none=>rw[e]at h;cases h
  |some y=>
   rw[e]at h
   cases y with
   |none=>cases h
   |some y=>show⟨y,S,Kh h⟩
 have ow:∀{i:Nat}{o:Ow},(fU ρ)[i]?=Z (Z (.ob o))->∃a f p u,ρ[i]?=Z (Z (.ob a f))/\(∀nm fs,f≠.obj nm fs)/\G[i]?=Z (Z (.ref p))/\p∈F i/\H p=Z u/\OwR K t o u:=λ{i o} h=>by
  let⟨y,M,e⟩:=at_ h
  cases y with
  |v d=>cases e
  |ob a f=>
   let⟨p,N,_,r⟩:=E.ow i a f M;refine⟨a,f,p,?_⟩
   cases f with
   |lst ds=>let⟨_,vs,g,l⟩:=r.lst_inv;cases e;show⟨_,M,(λ_ _ z=>by cases z),N,r.mem,g,l⟩
   |map OW=>let⟨_,vs,g,l⟩:=r.map_inv;cases e;show⟨_,M,(λ_ _ z=>by cases z),N,r.mem,g,lV l⟩
   |mpT OW=>let⟨_,vs,g,l⟩:=r.mpT_inv;cases e;show⟨_,M,(λ_ _ z=>by cases z),N,r.mem,g,lV l⟩
   |obj nm fs=>
    have e:(fL fs).map (λds=>Sl.v (.obj nm ds))=Z (.ob o):=e
    cases P:fL fs with
    |none=>rw[P]at e;cases e
    |some ds=>rw[P]at e;cases e
   |ptr=>cases e
   |tl ps=>cases e
   |pr _ _=>cases e
 refine⟨tL E.fz,by rw[mn,E.len],λi d h=>?_,λi o h=>?_,λi j o w p hi hj si sj=>?_,E.tb.same am⟩
 ·let⟨y,M,e⟩:=at_ h
  cases y with
  |v d'=>cases e;let⟨v,N,r⟩:=E.sl i d M;show⟨v,N,r.same am⟩
  |ob a f=>
   cases f with
   |obj nm fs=>
    have e:(fL fs).map (λds=>Sl.v (.obj nm ds))=Z (.v d):=e
    cases P:fL fs with
    |none=>rw[P]at e;cases e
    |some ds=>
     rw[P]at e;cases e;let⟨p,N,_,r⟩:=E.ow i a _ M;let⟨C,dx,vs,qs,eF,c1,c2,c3,_⟩:=r.obj_inv;have aw:∀b∈F i,∀u,H b=Z u->eE t H (iF F ρ) b=Z u:=λb X u hu=>uc (Fu M X) hu E.fz;let⟨O,Q⟩:=Eb P c3 am λb X=>aw b (by rw[eF];show JZ _ X);show⟨.ref p,N,.obj c1 (aw p (by rw[eF];show JY) _ c2) O Q⟩
   |_=>cases e
 ·let⟨a,f,p,u,g,PL,l,R,h4,U⟩:=ow h;have n1:=E.no i a f g p R;refine⟨p,u,l,n1.1,?_,h4,?_⟩
  ·cases e:eE t H (iF F ρ) p with
   |none=>rfl
   |some w=>
    rcases wq e with z|⟨z,_⟩
    ·rw[n1.2]at z;cases z
    ·let⟨j,T,nm,fs,O,Q⟩:=C2 z
     have ar:i≠j:=λc=>by subst c;rw[g]at O;cases O;show PL _ _ S
     show absurd Q (E.dj i j a T f _ g O ar p R)
  ·cases o with
   |lst ds=>cases u with
    |lst vs=>show RpL.same am U
    |_=>show U.elim
   |_=>cases u<;>show U
 ·let⟨a,f,p1,u,g,_,l,R,_,_⟩:=ow hi;let⟨T,Xv,p2,u',O,_,Q,k3,_,_⟩:=ow hj;rw[si]at l;cases l;rw[sj]at Q;cases Q;rcases MA (i=j)with c|c
  ·show c
  ·show absurd k3 (E.dj i j a T f Xv g O c p R)
end
section
variable{K:Â}{X:Cx}{e:Ã}
noncomputable def IW(t:TD):TX:=λρ R _=>t (fU ρ) λd=>NoL d/\R (.v d) ρ
theorem oO{t:TD}(h:PD K X e t):PX K X e (IW t):=⟨λj=>(h.pe j).imp λz H Q f=>by
 let⟨o,a,x,A,ρ,y,R,u,U,t,k⟩:=f;let⟨w,E⟩:=U.env;refine⟨a,_,fU ρ,_,E.view,t,λd p c v r g l=>?_⟩;have g':=jK E.fz g
 show k _ ρ _ c v r.2 ((U.gr g').pushV (l.thawN (view_same.trans g.f) r.1)) g'.f⟩
noncomputable def Ft(t:cg):dD:=λρ R _=>t (fU ρ) λb=>R b ρ
theorem jy{t:cg}(h:PTD K X e t):PXB K X e (Ft t):=⟨λj=>(h.pt j).imp λx H Q f=>by
 let⟨l,a,v,y,ρ,w,R,p,U,t,k⟩:=f;let⟨u,E⟩:=U.env;refine⟨a,_,fU ρ,_,E.view,t,λb o c r g=>?_⟩;have g':=jK E.fz g
 show k b ρ _ c r (U.gr g') g'.f⟩
end
noncomputable def fH(f:Str)(x:Fl):Y (Str×Fl)->Y (Str×Fl)
 | []=>[(f,x)]
 |(g,y)::r=>if g=f then (g,x)::r else (g,y)::fH f x r
section
variable{K:Â}{a H j:Hp}{fs:Y (Str×Fl)}{vs:Y (Str×V)}{o:Y Addr}{f:Str}{ds p:Y D}{ws:Y V}{d:D}{v:V}
theorem FlsR.look(h:FlsR K a H fs vs o)(nd:o.Nodup)(w:fs.lookup f=Z (.l ds)):∃q ws,vs.lookup f=Z (.ref q)/\q∈o/\H q=Z (.lst ws)/\RpL K a ds ws /\
  ∀(j:Hp)(p:Y D)(x:Y V),(∀b∈o,b≠q->∀u,H b=Z u->j b=Z u)->j q=Z (.lst x)->RpL K a p x->FlsR K a j (fH f (.l p) fs) vs o:=by
 induction h with
 |nil=>cases w
 |v r t J=>
  rename_i g R X N O P;rw[Kl]at w
  cases c:f==g with
  |true=>rw[c]at w;cases w
  |false=>
   rw[c]at w;let⟨q,ws,E,C,F,G,I⟩:=J nd w;refine⟨q,ws,by rw[Kl,c];show E,C,F,G,λj p x y A B=>?_⟩;change FlsR K a j (if g=f then _ else _) _ _;rw[JV λe=>by rw[e,Kz]at c;cases c];show .v r (I j p x y A B)
 |l a1 a2 t J=>
  rename_i g R T Q N O P;rw[Ko]at nd;rw[Kl]at w
  cases c:f==g with
  |true=>
   rw[c]at w;cases w;refine⟨Q,T,by rw[Kl,c],JY,a1,a2,λj p x y A B=>?_⟩;change FlsR K a j (if g=f then _ else _) _ _;rw[JX (eq_of_beq c).symm];show .l A B (t.keep (Same.refl _) λb M u am=>y b (JZ _ M) (λz=>nd.1 (z▸M)) u am)
  |false=>
   rw[c]at w;let⟨q,ws,E,C,F,G,I⟩:=J nd.2 w;refine⟨q,ws,by rw[Kl,c];show E,JZ _ C,F,G,λj p x y A B=>?_⟩;change FlsR K a j (if g=f then _ else _) _ _;rw[JV λe=>by rw[e,Kz]at c;cases c];show .l (y Q JY (λz=>nd.1 (z▸C)) _ a1) a2 (I j p x (λb M=>y b (JZ _ M)) A B)
 |al t J=>
  rename_i g U N O P;rw[Kl]at w
  cases c:f==g with
  |true=>rw[c]at w;cases w
  |false=>
   rw[c]at w;let⟨q,ws,E,C,F,G,I⟩:=J nd w;refine⟨q,ws,by rw[Kl,c];show E,C,F,G,λj p x y A B=>?_⟩;change FlsR K a j (if g=f then _ else _) _ _;rw[JV λe=>by rw[e,Kz]at c;cases c];show .al (I j p x y A B)
noncomputable def iz(f:Str)(fs:Y (Str×Fl)):Bool:=match fs.lookup f with
 |none=>ų
 |some (.v _)=>ų
 |_=>Ŵ
theorem FlsR.setV(h:FlsR K a H fs vs o)(e:iz f fs=ų)(r:Rp K a d v):FlsR K a H (fH f (.v d) fs) (cN f v vs) o:=by
 induction h with
 |nil=>show .v r .nil
 |v B t u=>
  rename_i g A F w x y;change FlsR K a H (if g=f then _ else _) (if g=f then _ else _) _;by_cases c:g=f
  ·rw[JX c,JX c];show .v r t
  ·rw[JV c,JV c];refine .v B (u ?_);unfold iz at e ⊢;rw[Kl,show (f==g)=Ŵ from Oy λz=>c z.symm]at e;show e
 |l a1 a2 t u=>
  rename_i g A G E w x y;change FlsR K a H (if g=f then _ else _) (if g=f then _ else _) _;by_cases c:g=f
  ·subst c;unfold iz at e;rw[Kl,Kz]at e;cases e
  ·rw[JV c,JV c];refine .l a1 a2 (u ?_);unfold iz at e ⊢;rw[Kl,show (f==g)=Ŵ from Oy λz=>c z.symm]at e;show e
 |al t u=>
  rename_i g C w x y;change FlsR K a H (if g=f then _ else _) (if g=f then _ else _) _;by_cases c:g=f
  ·subst c;unfold iz at e;rw[Kl,Kz]at e;cases e
  ·rw[JV c,JV c];refine .al (u ?_);unfold iz at e ⊢;rw[Kl,show (f==g)=Ŵ from Oy λz=>c z.symm]at e;show e
theorem FlsR.setL{q:Addr}(h:FlsR K a H fs vs o)(u:fs.lookup f=ű)(E:H q=Z (.lst ws))(r:RpL K a ds ws):FlsR K a H (fH f (.l ds) fs) (cN f (.ref q) vs) (o++[q]):=by
 have tail:∀{g:Str}{y:Fl}{r:Y (Str×Fl)},List.lookup f ((g,y)::r)=ű->g≠f/\r.lookup f=ű:=λ{g y r} e=>by
  rw[Kl]at e
  cases c:f==g with
  |true=>rw[c]at e;cases e
  |false=>rw[c]at e;show⟨(λz=>by rw[z,Kz]at c;cases c),e⟩
 induction h with
 |nil=>show .l E r .nil
 |v F t w=>
  rename_i g C J x A B;let⟨c,u⟩:=tail u;change FlsR K a H (if g=f then _ else _) (if g=f then _ else _) _;rw[JV c,JV c];show .v F (w u)
 |l a1 a2 t w=>
  rename_i g C M I x A B;let⟨c,u⟩:=tail u;change FlsR K a H (if g=f then _ else _) (if g=f then _ else _) _;rw[JV c,JV c];show .l a1 a2 (w u)
 |al t w=>
  rename_i g G x A B;let⟨c,u⟩:=tail u;change FlsR K a H (if g=f then _ else _) (if g=f then _ else _) _;rw[JV c,JV c];show .al (w u)
theorem FlsR.len(h:FlsR K a H fs vs o):vs.length=fs.length:=by have:=KG List.length h.names;rwa [mn,mn]at this
end
section
variable{K:Â}{X:Cx}{h j c H:Hp}{l o:St}{ρ t:ai}{w:XD->ai->Prop}{a:Ų Addr}{nm f:Str}{fs:Y (Str×Fl)}{ds:Y D}{i:Nat}{C:Addr}
theorem EnvM.flist(E:EnvM K j c H l ρ)(g:Gr h j c H)(N:Ú K Á nm=Z (Z (.ref C)))(A:ρ[i]?=Z (Z (.ob a (.obj nm fs))))(U:fs.lookup f=Z (.l ds)):∃p y vs q ws,l[i]?=Z (Z (.ref p))/\H p=Z (.ins C y vs)/\vs.lookup f=Z (.ref q)/\H q=Z (.lst ws)/\RpL K c ds ws /\
  ∀(x:Y D)(v:Y V),RpL K c x v->EnvM K j c (au H q (.lst v)) l (ρ.set i (Z (.ob a (.obj nm (fH f (.l x) fs)))))/\Gr h j c (au H q (.lst v)):=by
 let⟨M,E⟩:=E;let⟨p,e,_,r⟩:=E.ow i a _ A;let⟨C',y,vs,qs,J,G,I,T,nd⟩:=r.obj_inv;rw[N]at G;cases G;rw[Ko]at nd;let⟨q,ws,l1,Q,l3,l4,l5⟩:=T.look nd.2 U
 have F:q∈M i:=by rw[J];show JZ _ Q
 have B:p≠q:=λz=>nd.1 (z▸Q);refine⟨p,y,vs,q,ws,e,I,l1,l3,l4,λx v am=>?_⟩
 have O:∀b u,H b=Z u->b∉M i->au H q (.lst v) b=Z u:=λb u e ar=>by
  rw[aH λz=>ar (by rw[z];show F)];show e
 refine⟨⟨_,E.put A e O (F':=p::qs) (.obj N ((aH B).trans I) (l5 _ x v (λb P R u aw=>by rw[aH R];show aw) aZ am) (Ko.mpr nd)) λb P=>.inl (by rw[J];show P)⟩,E.grput g A O⟩
theorem StM.flist(Q:StM K X h j c H l o ρ t w)(I:Ú K Á nm=Z (Z (.ref C)))(y:ρ[i]?=Z (Z (.ob a (.obj nm fs))))(J:fs.lookup f=Z (.l ds)):∃p x vs q ws,l[i]?=Z (Z (.ref p))/\H p=Z (.ins C x vs)/\vs.lookup f=Z (.ref q)/\H q=Z (.lst ws)/\RpL K c ds ws /\
  ∀(u:Y D)(g:Y V),RpL K c u g->StM K X h j c (au H q (.lst g)) l o (ρ.set i (Z (.ob a (.obj nm (fH f (.l u) fs))))) t w:=by
 have v:=bj y;let⟨p,x,vs,q,ws,e,A,B,E,F,G⟩:=Q.E.flist (i:=i) Q.g I (by rw[sg v];show y) J;rw[sg (by rw[←Q.l];show v)]at e;refine⟨p,x,vs,q,ws,e,A,B,E,F,λu g r=>?_⟩;let⟨z,M⟩:=G u g r;refine⟨M,by rw[Ki];show Q.l,?_,Q.x⟩;rw[List.set_append_left _ _ v]at z;show z
theorem EnvM.fsetV{d:D}{v:V}(E:EnvM K j c H l ρ)(g:Gr h j c H)(M:Ú K Á nm=Z (Z (.ref C)))(A:ρ[i]?=Z (Z (.ob a (.obj nm fs))))(Q:iz f fs=ų)(r:Rp K c d v):∃p x vs,l[i]?=Z (Z (.ref p))/\H p=Z (.ins C x vs)/\vs.length=fs.length /\
  EnvM K j c (au H p (.ins C x (cN f v vs))) l (ρ.set i (Z (.ob a (.obj nm (fH f (.v d) fs)))))/\Gr h j c (au H p (.ins C x (cN f v vs))):=by
 let⟨J,E⟩:=E;let⟨p,e,_,U⟩:=E.ow i a _ A;let⟨ar,x,vs,T,I,F,P,G,nd⟩:=U.obj_inv;rw[M]at F;cases F
 have O:p∈J i:=by rw[I];show JY
 have N:∀b u,H b=Z u->b∉J i->au H p (.ins C x (cN f v vs)) b=Z u:=λb u e R=>by
  rw[aH λz=>R (by rw[z];show O)];show e
 have B:=nd;rw[Ko]at B;refine⟨p,x,vs,e,P,G.len,⟨_,E.put A e N (F':=p::T) (.obj M aZ ((G.setV Q r).keep (Same.refl _) λb y u am=>by rw[aH (show b≠p from λz=>B.1 (by rw[←z];show y))];show am) nd) λb y=>.inl (by rw[I];show y)⟩,E.grput g A N⟩
end
noncomputable def Bf(ρ:ai)(i:Nat)(nm f:Str)(k:Ų Addr->Y (Str×Fl)->Y D->Prop):Prop:=∃a fs ds,ρ[i]?=Z (Z (.ob a (.obj nm fs)))/\fs.lookup f=Z (.l ds)/\k a fs ds
section
variable{K:Â}{X:Cx}{e a:Ã}{w:TX}{t:TD}{l j h u o:Õ}{x nm f:Str}{C:Addr}
noncomputable def yH(i:Nat)(nm f:Str)(t:TD):bG:=λc ρ=>Bf ρ i nm f λa fs ds=>t (fU ρ) λd=>NoL d/\ds.length<sizeLine/\NF (fH f (.l (ds++[d])) fs) λg=>c.nx (ρ.set i (Z (.ob a (.obj nm g))))
theorem qH(i:Nat)(c:Cls K C)(nA:NoAttr K C f)(P:Ú K Á nm=Z (Z (.ref C)))(he:PD K X e t)(Pg:((backTo u (starEach [e] X.env)).all (λx=>!x.1)&&(Ù u (Î [] X.env)).all (λx=>x.1.isSome)&&decide (([e]:Y Ã).length+([]:Y Ï).length+(if ([]:Y Ï).isEmpty then 0 else 1)<30))=ų)
  (F:starEach [e] X.env=(Ŵ,eval e X.env)::starEach [] X.env) (hN:X.N[i]?=Z x:=by rfl) (hv:b7 X.env.scope x:=by nofun) (hd:ad x:=by decide) (ar:ap x:=by decide)
  (B:Ç (.Name x j) f X.env (eval (.Name x j) X.env)=eval (.Name x j) X.env:=by rfl)
  (aw:Ç (.Attribute (.Name x j) f o) "append" X.env (eval (.Attribute (.Name x j) f o) X.env)=eval (.Attribute (.Name x j) f o) X.env:=by rfl) (O3:(h.endLine==u.line)=ų:=by rfl) (hs:Ñ (.Call (.Attribute (.Attribute (.Name x j) f o) "append" h) [e] [] u) ű l.line X.env=pure Ŵ:=by rfl) :
  PSM K X (.Expr (.Call (.Attribute (.Attribute (.Name x j) f o) "append" h) [e] [] u) l) (yH i nm f t):=
 ⟨λQ=>(mM (gP LZ Oh Oi rf (xN Q (pv i hN hv hd ar) B) (cC (he.pe Q) pa_nil F) aw Pg O3 F ao) hs).imp λE σ H OT=>by
  let⟨Φ0,U,Φ,ρ,De,g,V,⟨a0,Ru,ds0,T,R,t⟩,k⟩:=OT;have am:=eu g V k.ex;let⟨p,dx,vs,q,ws,M,N,O,h3,rl,_⟩:=am.flist P T R;let⟨fp,E0⟩:=id V;refine⟨_,M,p,C,dx,vs,.ref q,S,N,c,nA,O,.inl ⟨S,ws,SqL.of h3⟩,U,_,fU ρ,_,E0.view,t,λd Φ1 H1 v r A rv=>?_⟩;have S1:=am.gr (jK E0.fz A);let⟨p',dx',vs',q',Qi,y,I,J,Xh,z,k1⟩:=S1.flist P T R;rw[M]at y;cases y;rw[A.h _ _ N]at I;cases I;rw[O]at J;cases J;have G:=k1 _ _ (z.append (.one (rv.thawN (view_same.trans A.f) r.1)))
  show⟨q,Qi,v,S,S,Xh,by rw[z.1];show r.2.1,k.nx _ _ _ σ r.2.2.get G.g G.env⟩⟩
noncomputable def Js(i:Nat)(nm f:Str)(w:TX):bG:=λg ρ=>w ρ (xV λd c=>∃a fs,c[i]?=Z (Z (.ob a (.obj nm fs)))/\iz f fs=ų/\fs.length<1000/\NF (fH f (.v d) fs) λp=>g.nx (c.set i (Z (.ob a (.obj nm p))))) g.ex
theorem wQ(i:Nat)(c:Cls K C)(nA:NoAttr K C f)(R:Ú K Á nm=Z (Z (.ref C)))(U:PX K X e w)(am:X.N[i]?=Z x:=by rfl)(hv:b7 X.env.scope x:=by nofun)(hd:ad x:=by decide)(J:ap x:=by decide)
  (hs:Ñ e (Z (.Attribute (.Name x j) f o)) l.line X.env=pure Ŵ:=by rfl):PSM K X (.Assign [.Attribute (.Name x j) f o] e l) (Js i nm f w):=
 ⟨λz=>(uS (f:=f) (pv i am hv hd J) (U.pe z) hs).imp λE σ H M=>by
  let⟨A,I,Φ,ρ,F,g,V,t,k⟩:=M;refine⟨A,I,Φ,[],ρ,[],_,F.ex,eu g V k.ex,t,λs ρ1 B H1 v r y _=>?_⟩;let⟨d,rfl,a0,Ru,aw,T,ar,r⟩:=r.get;let⟨p,N,vs,O,P,Q,G,g'⟩:=y.env.fsetV (f:=f) y.g R aw T y.last
  show⟨_,O,p,C,N,vs,S,P,z▸c,z▸nA,by rw[Q];show ar,k.nx _ B _ σ r.get g' G⟩⟩
end
theorem FlsR.lookN{K:Â}{u H:Hp}{fs:Y (Str×Fl)}{vs:Y (Str×V)}{p:Y Addr}{f:Str}(h:FlsR K u H fs vs p)(a:fs.lookup f=ű):vs.lookup f=ű:=by
 have tail:∀{o:Type}{g:Str}{y:o}{r:Y (Str×o)},List.lookup f ((g,y)::r)=ű->(f==g)=Ŵ/\r.lookup f=ű:=λ{o g y r} e=>by
  rw[Kl]at e
  cases c:f==g with
  |true=>rw[c]at e;cases e
  |false=>rw[c]at e;show⟨S,e⟩
 induction h with
 |nil=>rfl
 |v r t j=>let⟨c,a⟩:=tail a;rw[Kl,c];show j a
 |l a1 a2 t j=>let⟨c,a⟩:=tail a;rw[Kl,c];show j a
 |al t j=>let⟨c,a⟩:=tail a;rw[Kl,c];show j a
structure MkM(P:Ä)(w:Å)(K:Â)(mg:Str->Option Value)(base:Heap)(n:Nat)(C:Addr)(ps:List Str)(z:cJ):Prop where
 ex:∃(f:Addr)(fd:É),FnOk P w K mg base bt n f fd ps (lSpM K z)/\Binds K fd ps []/\Mk K C f
section
variable{K:Â}{c:cH}{nm m:Str}
noncomputable def zo(i:Nat)(nm m:Str)(z:cJ)(c:cH):TX:=λρ R f=>(∃a fs,ρ[i]?=Z (Z (.ob a (.obj nm fs)))/\fs.lookup m=ű)/\c ρ (λas e=>CallM z R f (.s i::as) e) f
noncomputable def B1(nm:Str)(z:cJ)(c:cH):TX:=λρ R e=>c ρ (xaD λds a=>z (.ob ű (.obj nm [])::ds.map Sm.v) (λsm os=>match sm,os with|.v .non,[o]=>R (.ob ű o) a|_,_=>False) (λ_ _=>False)) e
theorem uY{a H:Hp}:∀{ds:Y D}{vs:Y V},RpL K a ds vs->ArgM K a H (ds.map Sm.v) vs (ds.map λ_=>[])
 | [],[],_=>.nil
 | [],_::_,h=>by cases h.1
 |_::_,[],h=>by cases h.1
 |d::ds,v::vs,h=>.v (h.2 0 v d S S) (uY ⟨by have:=h.1;simpa using this,λi f d' e hd=>h.2 (i+1) f d' e hd⟩)
theorem sT{g H:Hp}:∀{ds:Y D}{vs:Y V}{os:Y Om}{a:Y (Y Addr)},OutM K g H (ds.map Sm.v) vs os a->os=[]/\a.flatten=[]
 | [],_,_,_,.nil=>⟨S,S⟩
 |_::ds,_,_,_,.v h=>by let⟨e,f⟩:=sT (ds:=ds) h;show⟨e,by rw[KC,f];rfl⟩
theorem mZ{a e:Type}:∀(ds:Y a),(ds.map λ_=>([]:Y e)).flatten=[]
 | []=>rfl
 |_::ds=>by rw[Kk,KC,mZ ds];rfl
end
section
variable{K:Â}{y H F t A:Hp}{w:St}{ρ:ai}{l:Nat->Y Addr}{F':Y Addr}{o B:Om}{p:Addr}{d:D}{v:V}{i:Nat}{a:Ų Addr}
theorem EnvM'.put2(E:EnvM' K y t H w ρ l)(O:ρ[i]?=Z (Z (.ob a o)))(X:w[i]?=Z (Z (.ref p)))(am:∀b u,H b=Z u->b∉l i->F b=Z u)(aw:OmS K t F B p F')(R:∀b∈F',b∈l i\/(y b=ű/\t b=ű/\∀(j:Nat)(C:Ų Addr)(g:Om),ρ[j]?=Z (Z (.ob C g))->b∉l j)) :
  EnvM' K y t F w (ρ.set i (Z (.ob a B))) (λj=>if j=i then F' else l j):=by
 have Pf:=bj O
 have N:∀{j:Nat}{x:Sm},(ρ.set i (Z (Sm.ob a B)))[j]?=Z (Z x)->(j=i/\x=.ob a B)\/(j≠i/\ρ[j]?=Z (Z x)):=λ{j x} h=>by
  rcases iE h with⟨e,_,ar⟩|⟨e,h⟩
  ·cases ar;show .inl ⟨e,S⟩
  ·show .inr ⟨e,h⟩
 have T:∀b∈F',∀(j:Nat)(C:Ų Addr)(g:Om),ρ[j]?=Z (Z (.ob C g))->j≠i->b∉l j:=λb f j C g G c z=>by
  rcases R b f with h|⟨_,_,h⟩
  ·show E.dj j i C a g o G O c b z h
  ·show h j C g G z
 refine⟨λb u e=>am b u (E.fz b u e) λz=>?_,by rw[Ki,E.len],λj d h=>?_,λj C g h=>?_,λj C g h b f=>?_,λj k a1 a2 U g G I c b f M=>?_,E.tb⟩
 ·rw[(E.no i a o O b z).2]at e;cases e
 ·rcases N h with⟨_,h⟩|⟨_,h⟩
  ·cases h
  ·show E.sl j d h
 ·rcases N h with⟨c,h⟩|⟨c,h⟩
  ·cases h;subst c;let⟨q,e,Q,_⟩:=E.ow j a o O;rw[X]at e;cases e;show⟨p,X,Q,by rw[JX S];show aw⟩
  ·let⟨q,e,Q,r⟩:=E.ow j C g h;refine⟨q,e,Q,?_⟩;rw[JV c];show r.keep (Same.refl _) λb f u hu=>am b u hu λz=>E.dj j i C a g o h O c b f z
 ·rcases N h with⟨c,h⟩|⟨c,h⟩
  ·rw[JX c]at f;rcases R b f with z|⟨z1,z2,_⟩
   ·show E.no i a o O b z
   ·show⟨z1,z2⟩
  ·rw[JV c]at f;show E.no j C g h b f
 ·rcases N G with⟨P,G⟩|⟨P,G⟩
  ·rw[JX P]at f;rcases N I with⟨J,I⟩|⟨J,I⟩
   ·omega
   ·rw[JV J]at M;show T b f k a2 g I J M
  ·rw[JV P]at f;rcases N I with⟨J,I⟩|⟨J,I⟩
   ·rw[JX J]at M;show T b M j a1 U G P f
   ·rw[JV J]at M;show E.dj j k a1 a2 U g G I c b f M
theorem EnvM.fsetL{nm f:Str}{fs:Y (Str×Fl)}{ds:Y D}{C:Addr}{I:Ų Addr}(E:EnvM K y t H (w++[Z v]) (ρ++[Z (.ob I (.lst ds))]))(hl:ρ.length=w.length)(g:Gr A y t H)(hC:Ú K Á nm=Z (Z (.ref C)))(N:ρ[i]?=Z (Z (.ob a (.obj nm fs))))(T:fs.lookup f=ű):∃p G vs,w[i]?=Z (Z (.ref p))/\H p=Z (.ins C G vs)/\vs.length=fs.length /\
  EnvM K y t (au H p (.ins C G (cN f v vs))) w (ρ.set i (Z (.ob a (.obj nm (fH f (.l ds) fs)))))/\Gr A y t (au H p (.ins C G (cN f v vs))):=by
 let⟨l,E⟩:=E
 have P:(ρ++[Z (Sm.ob I (.lst ds))])[ρ.length]?=Z (Z (.ob I (.lst ds))):=by rw[JU (J0 _),K3];rfl
 let⟨q,eq,_,rq⟩:=E.ow _ _ _ P
 have ev:v=.ref q:=by rw[hl,JU (J0 _),K3]at eq;cases eq;rfl
 subst ev;let⟨am,ws,q1,q2⟩:=rq.lst_inv
 have hq:q∈l ρ.length:=by rw[am];show J3.mpr S
 have M:=E.no _ _ _ P q hq
 have up:∀{j:Nat}{x:Sm},ρ[j]?=Z (Z x)->(ρ++[Z (Sm.ob I (.lst ds))])[j]?=Z (Z x):=λh=>by rw[sg (bj h)];show h
 have J:∀(j:Nat)(a2:Ų Addr)(U:Om),ρ[j]?=Z (Z (.ob a2 U))->q∉l j:=λj a2 U hj z=>E.dj j ρ.length a2 I U _ (up hj) P (by have:=bj hj;omega) q z hq;have O:EnvM' K y t H w ρ l:=E.take hl;let⟨p,e,_,ro⟩:=O.ow i a _ N;let⟨C',G,vs,X,R,ar,c2,aw,nd⟩:=ro.obj_inv;rw[hC]at ar;cases ar
 have XR:p∈l i:=by rw[R];show JY
 have hH:∀b u,H b=Z u->b∉l i->au H p (.ins C G (cN f (.ref q) vs)) b=Z u:=λb u e hn=>by
  rw[aH λz=>hn (by rw[z];show XR)];show e
 have T6:=nd;rw[Ko]at T6
 have Xg:q∉p::X:=by rw[←R];show J i a _ N
 have Q:(p::(X++[q])).Nodup:=by rw[←List.cons_append,KS];show⟨nd,by simp,λb r c T z=>by rw[J3.mp T]at z;show Xg (z▸r)⟩
 refine⟨p,G,vs,e,c2,aw.len,⟨_,O.put2 N e hH (F':=p::(X++[q])) (.obj hC aZ ((aw.setL T q1 q2).keep (Same.refl _) λb r u hu=>?_) Q) λb r=>?_⟩,O.grput g N hH⟩
 ·rw[aH (show b≠p from λz=>?_)]
  ·show hu
  ·rw[Ko]at Q;show Q.1 (by rw[←z];show r)
 ·rw[←List.cons_append]at r;rcases Kj.mp r with r|r
  ·show .inl (by rw[R];show r)
  ·rw[J3.mp r];show .inr ⟨M.1,M.2,J⟩
end
section
variable{K:Â}{X:Cx}{e a:Ã}{j:TX}{t:TD}{h o l:Õ}{x nm f:Str}{C:Addr}
noncomputable def Bx(i:Nat)(nm f:Str)(j:TX):bG:=λg ρ=>j ρ (λs c=>match s with|.ob _ (.lst ds)=>(∃a fs,c[i]?=Z (Z (.ob a (.obj nm fs)))/\fs.lookup f=ű/\fs.length<1000/\NF (fH f (.l ds) fs) λp=>g.nx (c.set i (Z (.ob a (.obj nm p)))))|_=>False) g.ex
theorem rD(i:Nat)(c:Cls K C)(nA:NoAttr K C f)(P:Ú K Á nm=Z (Z (.ref C)))(am:PX K X e j)(Q:X.N[i]?=Z x:=by rfl)(aw:b7 X.env.scope x:=by nofun)(hd:ad x:=by decide)(G:ap x:=by decide)
  (ar:Ñ e (Z (.Attribute (.Name x o) f l)) h.line X.env=pure Ŵ:=by rfl):PSM K X (.Assign [.Attribute (.Name x o) f l] e h) (Bx i nm f j):=
 ⟨λw=>(uS (f:=f) (pv i Q aw hd G) (am.pe w) ar).imp λE σ H I=>by
  let⟨y,F,Φ,ρ,A,g,V,t,k⟩:=I;refine⟨y,F,Φ,[],ρ,[],_,A.ex,eu g V k.ex,t,λs ρ1 z H1 v r u _=>?_⟩;split at r
  ·next a1 ds=>
   let⟨a0,Ru,U,R,T,r⟩:=r;let⟨p,J,vs,M,N,O,B,g'⟩:=EnvM.fsetL (f:=f) u.E u.l u.g P U R;show⟨_,M,p,C,J,vs,S,N,w▸c,w▸nA,by rw[O];show T,k.nx _ z _ σ r.get g' B⟩
  ·show r.elim⟩
end
section
variable{P:Ä}{w:Å}{K:Â}{mg:Str->Ų Value}{base:Heap}{n m:Nat}{C:Addr}{ps:Y Str}
theorem MkM.mono{z:cJ}(M:MkM P w K mg base n C ps z)(k:n<=m:=by decide):MkM P w K mg base m C ps z:=by let⟨f,a,F,r⟩:=M.ex;show⟨f,a,F.mono k,r⟩
end
inductive lSpMX(K:Â)(mg:Str->Option Value)(sp:cJ)(vs:List V)(H:Hp)(Q:VK)(E:XK):Prop|mk (Φ:Hp) (as:List Sm) (Fs:List (List Addr)) (R:Sm->List Om->Prop) (Rx:XD->List Om->Prop) (_:Same Φ H) (_:TabF K Φ) (_:ArgM K Φ H as vs Fs) (_:Fs.flatten.Nodup) (_:(∀b∈Fs.flatten,Φ b=ű)) (_:sp as R Rx) (_:(∀sm os Φ' H' v F O7,R sm os->Gr Φ (bI H Fs.flatten) Φ' H'->ResM K Φ' H' sm v F->OutM K Φ' H' as vs os O7->(F++O7.flatten).Nodup->(∀b∈F++O7.flatten,bI H Fs.flatten b=ű/\Φ' b=ű)->Q v H')) (_:∀xd os C dx Φ' H' O7,Rx xd os->Gr Φ (bI H Fs.flatten) Φ' H'->OutM K Φ' H' as vs os O7->O7.flatten.Nodup->(∀b∈O7.flatten,bI H Fs.flatten b=ű/\Φ' b=ű)->mg xd.nm=Z (.ref C)->kn K H' xd.at_ dx->E (.ref C) dx H')
structure ClMX(P:Ä)(w:Å)(K:Â)(mg:Str->Option Value)(base:Heap)(n:Nat)(x:Str)(ps:List Str)(z:cJ):Prop where
 ex:∃(f:Addr)(fd:É),FnOk P w K mg base (CXo P w) n f fd ps (lSpMX K mg z)/\Binds K fd ps []/\Ü K (.ref f)=ų/\mg x=Z (.ref f)
structure MthMX(P:Ä)(w:Å)(K:Â)(mg:Str->Option Value)(base:Heap)(n:Nat)(C:Addr)(m:Str)(ps:List Str)(z:cJ):Prop where
 ex:∃(f:Addr)(fd:É),FnOk P w K mg base (CXo P w) n f fd ps (lSpMX K mg z)/\Binds K fd ps []/\Meth K C m f
section
variable{P:Ä}{w:Å}{K:Â}{mg:Str->Ų Value}{base:Heap}
theorem Fun.okMX{x qual:Str}{st:Ë}{f:Addr}{fd:É}{N ps:Y Str}{k:Nat}{sp:cJ}(F:Fun K x qual st f fd)(am:FnScope N ps (aQ st))(len:∀as R G,sp as R G->as.length=ps.length)
  (Qg:∀(ar:Value)(A:È)(outer:Y ê)(s:À)(H:Hp)(E:XK)(as:Y Sm)(R:Sm->Y Om->Prop)(G:XD->Y Om->Prop)(qs:Y Addr),fd.code=ar->Room k (A.deeper (ë qual (aQ st) s.heap.objs.size f ar))->sp as R G->qs.length=jv as->
   ∃t,PSsM K (fW (CXo P w) P w K mg base N qual (aQ st) f ar A outer s H E) (cY st) t/\let ke:EndsM:={ nx:=λρ=>fR (R (.v .non)) as qs 0 ρ,rt:=λsm ρ=>fR (R sm) as qs 0 ρ,ex:=λxd ρ=>fR (G xd) as qs 0 ρ };t ke (bo N as qs)):FnOk P w K mg base (CXo P w) (k+1) f fd ps (lSpMX K mg sp):=by
 let⟨oc,od,kV,doc,pm,an,ar,ct,RP,rfl,lk,O0⟩:=F.ex;refine mB lk O0 am (λvs H Q E OT=>?_) λA outer s H vs Q E hr OT=>?_
 ·let⟨U,as,X,R,G,sm,tb,O,nd,hn,h,_⟩:=OT;rw[O.len.1];show len as R G h
 ·let⟨U,as,X,R,G,sm,tb,O,nd,hn,h,kk,kx⟩:=OT;let⟨t,ht,hq⟩:=Qg ar A outer s H E as R G (ei as vs) S hr h (pQ O);dsimp only at hq;rw[←jq]at hq
  have aw:∀sm l p B v y,fR (R sm) as (ei as vs) 0 l->Gr U (bI H X.flatten) p B->EnvM K (bI H X.flatten) p B (y++[Z v]) (l++[Z sm])->Q v B:=λM l p B v y hk g V=>by
   let⟨fp,I⟩:=V
   have hl:y.length=l.length:=by have:=I.len;simpa using this
   let⟨os,O7,h1,h2,h3,h4,h5⟩:=qG (k:=R M) (I.take hl.symm) O hk
   have J:(l++[Z M])[l.length]?=Z (Z M):=by rw[JU (J0 _),K3];rfl
   cases M with
   |v d=>
    let⟨u,hu,r⟩:=I.sl _ d J;rw[←hl,JU (J0 _),K3]at hu;cases hu;show kk (.v d) os p B v [] O7 h2 g (.v r) h1 (by simpa using h3) (λb hb=>h4 b (by simpa using hb))
   |ob a o=>
    let⟨u,hu,Xz,r⟩:=I.ow _ a o J;rw[←hl,JU (J0 _),K3]at hu;cases hu;refine kk (.ob a o) os p B _ (fp l.length) O7 h2 g (.o Xz r) h1 ?_ λb hb=>?_
    ·refine KS.mpr ⟨r.nodup,h3,λb hb c hc e=>?_⟩;subst e;let⟨j,a2,o2,_,_,j3,j4⟩:=h5 b hc;have hj:=bj j3;show I.dj _ j a a2 o o2 J (by rw[sg hj];show j3) () b hb j4
    ·rcases Kj.mp hb with z|z
     ·show I.no _ a o J b z
     ·show h4 b z
  have g0:Gr U (bI H X.flatten) U H:=⟨Same.refl _,vb,sm,λ_ _ _ h _=>h⟩;refine⟨lM K _ t,ht.ps S,U,bI H X.flatten,U,_,_,g0,ql sm tb O nd hn,hq,⟨λl p B y r g V=>?_,λM l p B v y r g V=>aw M l p B v y r g V,λ_ _ _ _ h=>h.elim,λ_ _ _ _ h=>h.elim,λxd l p B y z s' pins hw g V st=>?_⟩⟩
  ·show aw (.v .non) l p B .non y r g (V.snocV .non)
  ·let⟨ea,C,T,dx,e1,F',hm,J,fa,fT⟩:=st.ex;subst e1;let⟨fp,I⟩:=V;let⟨os,O7,h1,h2,h3,h4,h5⟩:=qG (k:=G xd) I O hw;show va st.inv F' ⟨fa.1,fa.2.1⟩ (λT' z=>⟨(fT T' z).1,(fT T' z).2.1⟩) (kx xd os C dx p B O7 h2 g h1 h3 h4 hm J)
theorem Fun.clMX{x:Str}{st:Ë}{f:Addr}{a:É}{ps:Y Str}{n:Nat}{z:cJ}(F:Fun K x x st f a)(m:mg x=Z (.ref f))(H:FnOk P w K mg base (CXo P w) n f a ps (lSpMX K mg z))
  (b:oR st x x ps:=by intro _ _ _ _ _ _;first|show n6 λ_=>rfl|show iI λ_ _=>rfl|show lH λ_ _ _=>rfl|show us_4 λ_ _ _ _=>rfl|show us_0 S|show us_5 λ_ _ _ _ _=>rfl|show us_6 λ_ _ _ _ _ _=>rfl|show us_7 λ_ _ _ _ _ _ _=>rfl|show us_8 λ_ _ _ _ _ _ _ _=>rfl):ClMX P w K mg base n x ps z:=⟨f,a,H,F.binds b,F.kp,m⟩
theorem ClMX.mono{n m:Nat}{x:Str}{ps:Y Str}{z:cJ}(C:ClMX P w K mg base n x ps z)(k:n<=m:=by decide):ClMX P w K mg base m x ps z:=by let⟨f,a,F,r⟩:=C.ex;show⟨f,a,F.mono k,r⟩
theorem MthMX.mono{n m:Nat}{C:Addr}{x:Str}{ps:Y Str}{z:cJ}(M:MthMX P w K mg base n C x ps z)(k:n<=m:=by decide):MthMX P w K mg base m C x ps z:=by let⟨f,a,F,r⟩:=M.ex;show⟨f,a,F.mono k,r⟩
end
section
variable{X:Cx}{CX:cM}{k:Nat}{C f:Addr}{w:É}{ps:Y Str}{sp:Sp}{m:Str}{j g:Õ}{o e:Ã}{p:Y Ã}{t:TA}{v:TE}
noncomputable def GG(CX:cM)(X:Cx)(C:Addr)(m:Str)(sp:Sp)(v:TE)(t:TA):TE:=λc H Q=>v c H λx h=>∃a r fs,x=.ref a/\h a=Z (.ins C r fs)/\fs.lookup m=ű/\t c h λvs l=>∃E,nX CX X E c l/\sp (.ref a::vs) l Q E
theorem Hx{pl:Sem Bool}(T:PE X o v)(c:Cls X.K C)(B:Meth X.K C m f)(F:FnOk X.prog X.w X.K X.mg X.base CX k f w ps sp)(U:Room k X.A)(am:Binds X.K w ps [])(R:PA X (e::p) t)
  (O:starEach (e::p) X.env=(Ŵ,eval e X.env)::starEach p X.env) (M:(backTo g (starEach p X.env)).any (·.1)=Ŵ)
  (ar:eval (.Call (.Attribute o m j) (e::p) [] g) X.env=(do
   let ov ←eval o X.env
   standAt j.atName
   let (f,first) ←holding [ov] (getMethod ov m pl)
   callWith g f first (backTo g (starEach (e::p) X.env)) (Ù g (Î [] X.env)))) :
  PE X (.Call (.Attribute o m j) (e::p) [] g) (GG CX X C m sp v t):=by
 intro y s G H Q I h;refine PySem.W.methodCall_KW (pl:=pl) (aI (T y s G H _ I h) λu s1 K=>?_) ar;let⟨x,J,z,rx,a,dx,fs,ex,P,l,q⟩:=K;subst ex;obtain rfl:u=Value.ref a:=rx;refine EE z P c B l ?_;refine NY (first:=[.ref a]) (h₀:=X.base) I.ok.mod.kin B.kp (aI (R g y s1 G J _ z q) λus s2 N=>?_) O M;let⟨vs,H2,A,r,E,aw,q2⟩:=N;show⟨A.kIn,xi (us:=.ref a::us) (vs:=.ref a::vs) F U am aw A (.cons S r) q2⟩
end
section
variable{K:Â}{X:Cx}{e:Ã}{j:Y Ã}{h p l u:Õ}{o:cH}{C:Addr}{nm m x:Str}
theorem StM.lendX{z:cJ}{y H0 N H:Hp}{B τ ts:St}{ρ κ:ai}{R:Sm->ai->Prop}{J:XD->ai->Prop}{as:Y Ar}{G:Y Sm}{vs:Y V}{Q:VK}(hK:X.K=K)(ar:X.ex=[])(am:StM K X y H0 N H B (τ++ts) ρ (κ++dB as) J)(hl:κ.length=τ.length)(hr:eG ρ as=Z G)(hv:ArV B as vs ts)(hs:pO as=ų)
  (hz:z G (λsm os=>R sm (aU ρ as os)) (λt os=>J t (aU ρ as os))) (k:∀sm A a c v,R sm A->StM K X y H0 a c B (τ++[Z v]) A (κ++[Z sm]) J->Same N a->Q v c):∃E,nX (CXo X.prog X.w) X E B H/\lSpMX K X.mg z vs H Q E:=by
 let⟨O,g1,g2,g3,g4⟩:=am.lend hl hr hv hs
 refine⟨λcls M c=>∃t C a os f,J t (aU ρ as os)/\Gr N (bI H O.flatten) a c/\OutM K a c G vs os f/\f.flatten.Nodup/\(∀b∈f.flatten,bI H O.flatten b=ű/\a b=ű)/\cls=.ref C/\X.mg t.nm=Z (.ref C)/\kn K c t.at_ M,λw s e' s' I hx=>?_,
  N,G,O,_,_,am.g.s,am.E.tb,g1,g2,g3,hz,λsm os a c v F f r gr UC ho aw P=>k sm _ a c v r (g4 sm os a c v F f gr UC ho aw P) gr.f,λt os C M a c f h1 h2 h3 h4 h5 h6 h7=>⟨t,C,a,os,f,h1,h2,h3,h4,h5,S,h6,h7⟩⟩
 let⟨ea,T,C,M,c,e1,I',F',fa,fT,t,C',a,os,f,XS,g,ho,aw,P,ec,hm,ha⟩:=CXo.at I ar hx;cases ec;subst e1;have U:=g4 (.v .non) os a c .non [] f g (.v .non) ho (by simpa using aw) (λb hb=>P b (by simpa using hb));refine U.x t _ a c B _ s' w XS U.g (U.pop hl).env ⟨I',ea,C,Z T,M,S,F',hm,hK▸ha,fa,λT' z=>?_⟩;cases z;show fT
theorem Ez{n:Nat}{ps:Y Str}{z:cJ}(C:ClMX X.prog X.w K X.mg X.base n x ps z)(hr:Room n X.A)(hg:Gl X x)(c:X.ex=[])
  (aw:PXA K X (e::j) o) (he:starEach (e::j) X.env=(Ŵ,eval e X.env)::starEach j X.env) (I:(backTo h (starEach j X.env)).any (·.1)=Ŵ) (J:ad x:=by decide) :
  PX K X (.Call (.Name x p) (e::j) [] h) (tE z o):=⟨λa=>by
 let⟨f,ar,F,b,k,m⟩:=C.ex;refine (wW (a▸F:FnOk X.prog X.w X.K X.mg X.base (CXo X.prog X.w) n f ar ps (lSpMX K X.mg z)) hr hg m (a▸k) (a▸b) (aw.pa a) J he I).imp λσ H Q G=>?_;let⟨y,E,Φ,τ,ρ,κ,R,N,am,t,k⟩:=G;refine⟨y,E,Φ,τ,ρ,κ,_,N,am,t,λas ρ1 Φ1 H1 vs ts g hl hv P U=>?_⟩;let⟨Pk,M,T,g⟩:=g
 show P.lendX (R:=R) a c am.lk M hv T g λsm A w B v r O s'=>k sm A w B v r O (U.trans s')⟩
theorem pD(i:Nat){n:Nat}{ps:Y Str}{z:cJ}{pl:Sem Bool}(M:MthMX X.prog X.w K X.mg X.base n C m ps z)(hr:Room n X.A)(w:X.ex=[])(c:Cls K C)(hC:Ú K Á nm=Z (Z (.ref C)))
  (ha:PXA K X (e::j) o) (he:starEach (e::j) X.env=(Ŵ,eval e X.env)::starEach j X.env) (aw:(backTo h (starEach j X.env)).any (·.1)=Ŵ)
  (ht:eval (.Call (.Attribute (.Name x u) m l) (e::j) [] h) X.env=(do
   let ov ←eval (.Name x u) X.env
   standAt l.atName
   let (f,first) ←holding [ov] (getMethod ov m pl)
   callWith h f first (backTo h (starEach (e::j) X.env)) (Ù h (Î [] X.env))):=by rfl)
  (hN:X.N[i]?=Z x:=by rfl) (y:b7 X.env.scope x:=by nofun) (hd:ad x:=by decide) (U:ap x:=by decide) :
  PX K X (.Call (.Attribute (.Name x u) m l) (e::j) [] h) (zo i nm m z o):=⟨λg=>by
 let⟨f,fd,F,b,hm⟩:=M.ex;refine (Hx (pl:=pl) (pv i hN y hd U) (g▸c) (g▸hm) (g▸F:FnOk X.prog X.w X.K X.mg X.base (CXo X.prog X.w) n f fd ps (lSpMX K X.mg z)) hr (g▸b) (ha.pa g) he aw ht).imp λσ H Q ar=>?_;let⟨G,T,Φ,τ,ρ,κ,R,Rx,am,⟨⟨a,fs,ho,O⟩,t⟩,k⟩:=ar;let⟨fp,E⟩:=am.env;let⟨q,N,_,ro⟩:=E.ow i a _ ho;let⟨C',dx,vs,qs,eF,J,c2,c3,nd⟩:=ro.obj_inv;rw[hC]at J;cases J;refine⟨_,N,q,dx,vs,S,c2,c3.lookN O,G,T,Φ,τ,ρ,κ,_,Rx,am,t,λas ρ1 Φ1 H1 us ts A O y S1 f1=>?_⟩;let⟨Pk,R4,TM,A⟩:=A
 show StM.lendX (R:=R) (as:=.s i::as) g w S1 am.lk R4 (.s N y) TM A λsm I B P v r S' s'=>k sm I B P v r S' (f1.trans s')⟩
end
section
variable{K:Â}{X:Cx}{e:Ã}{a p:Õ}{C:Addr}{x:Str}
theorem Fb{n:Nat}{ps:Y Str}{z:cJ}(M:MkM X.prog X.w K X.mg X.base n C ps z)(hr:Room (n+1) X.A)(hg:Gl X x)(hm:X.mg x=Z (.ref C))(hC:Ú K Á x=Z (Z (.ref C)))
  (T:ad x:=by decide) :
  PX K X (.Call (.Name x p) [] [] a) (B1 x z xJ):=⟨λA=>by
 let⟨f,fd,F,b,mk⟩:=M.ex;refine (DQ (dvs:=[]) (ds:=[]) (E:=E0) (A▸mk) (A▸F:FnOk X.prog X.w X.K X.mg X.base bt n f fd ps (lSpM K z)) hr hg hm (A▸b) .nil mS T).imp λσ H Q P=>?_;let⟨Φ0,H0,B,τ,ρ,κ,R,Rx,am,t,k⟩:=P;have r1:z (.ob ű (.obj x [])::([]:Y D).map Sm.v) (λsm os=>match sm,os with|.v .non,[o]=>R (.ob ű o) ρ|_,_=>False) (λ_ _=>False):=t;have rl:RpL K B [] []:=.nil;intro y g w h Pe
 have old:∀b u,H b=Z u->au (au H g (.own y)) y (.ins C g []) b=Z u:=λb u e=>by rw[aH (cA e w),aH (cA e h)];show e
 refine⟨B,_,_,_,_,λb u e=>old b u (am.g.s b u e),am.E.tb,.o (.obj hC aZ .nil (by simp)) (uY rl),?_,λb l=>?_,r1,λsm os j G v F O r gr UC ho hn I=>?_⟩
 ·rw[KC,mZ];simp
 ·rw[KC,mZ,Ku,J3]at l;rw[l];show am.g.s.free w
 ·split at r
  ·next o=>
   cases UC with
   |v rv=>
    obtain rfl:=rv.n
    cases ho with
    |o ar U=>
     rename_i F' O;let⟨_,eF⟩:=sT (ds:=[]) U
     have aw:(([y]:Y Addr)::([]:Y D).map λ_=>([]:Y Addr)).flatten=[y]:=by rw[KC,mZ];rfl
     rw[aw]at gr I
     have up:∀b u,H b=Z u->bI (au (au H g (.own y)) y (.ins C g [])) [y] b=Z u:=λb u e=>by rw[gD λz=>cA e w (J3.mp z)];show old b u e
     have g':Gr B H j G:=⟨gr.f,λb u e=>gr.h b u (up b u e),gr.s,λb u h1 h2 k=>gr.o b u (up b u h1) h2 k⟩;refine⟨S,k _ ρ j G _ r (am.pushO g' ar λb l=>?_) gr.f⟩;let⟨N,z2⟩:=I b (by rw[MM,KC];show Kj.mpr (.inl l));refine⟨?_,z2⟩;by_cases c:b=y
     ·rw[c];show w
     ·rw[gD (by simpa using c),aH c]at N;by_cases J:b=g
      ·rw[J];show h
      ·rwa [aH J]at N
  ·show r.elim⟩
end
end L2
namespace Tx
open PySem
noncomputable abbrev L(x:Str):Y Nat:=x.cps.toList
theorem dR{x y:Str}(h:L x=L y):x=y:=Str.ext' (ľ.mp h)
theorem dO(x y:Str):L (x++y)=L x++L y:=by unfold L;rw[Str.cps_append,Array.toList_append]
theorem vE{c:Nat}:∀{x y a b:Y Nat},c∉x->c∉y->x++c::a=y++c::b->x=y/\a=b
 | [],[],a,b,_,_,h=>by cases h;show⟨S,S⟩
 | [],y::ys,a,b,_,f,h=>by cases h;show absurd JY f
 |x::xs,[],a,b,e,_,h=>by cases h;show absurd JY e
 |x::xs,y::ys,a,b,e,f,h=>by let⟨l,o⟩:=ON h;let⟨g,j⟩:=vE (λz=>e (JZ _ z)) (λz=>f (JZ _ z)) o;show⟨by rw[l,g],j⟩
theorem fN(s x y:Str)(r:Y Str):L (Str.join s (x::y::r))=L x++(L s++L (Str.join s (y::r))):=by change L (x++s++Str.join s (y::r))=_;rw[dO,dO,Kg]
theorem v7{c:Nat}:∀{xs ys:Y Str},xs≠[]->ys≠[]->(∀x∈xs,c∉L x)->(∀y∈ys,c∉L y)->Str.join ⟨#[c]⟩ xs=Str.join ⟨#[c]⟩ ys->xs=ys
 | [],_,h,_,_,_,_=>absurd S h
 |_,[],_,h,_,_,_=>absurd S h
 | [x],[y],_,_,_,_,h=>by rw[show x=y from h]
 | [x],y::l::ys,_,_,e,_,h=>by have a:L x=_:=(KG L h).trans (fN _ _ _ _);show absurd (a▸KH _ JY) (e x JY)
 |x::j::xs,[y],_,_,_,f,h=>by have a:L y=_:=(KG L h.symm).trans (fN _ _ _ _);show absurd (a▸KH _ JY) (f y JY)
 |x::j::xs,y::l::ys,_,_,e,f,h=>by
  have a:=KG L h;rw[fN,fN]at a;let⟨o,p⟩:=vE (e x JY) (f y JY) a;have:=v7 (xs:=j::xs) (ys:=l::ys) (by simp) (by simp) (λz g=>e z (JZ _ g)) (λz g=>f z (JZ _ g)) (dR p);rw[dR o,this]
theorem Bp{c:Nat}{ws:Y Str}(h:ws≠[])(a:∀w∈ws,c∉L w):Ì (Str.join ⟨#[c]⟩ ws) ⟨#[c]⟩=ws:=by
 refine v7 ?_ h (StrLaws.split_free _ c) a (StrLaws.join_split _ _);intro e;have:=L4 (Str.join ⟨#[c]⟩ ws) ⟨#[c]⟩;rw[e]at this;cases this
noncomputable def dQ(c:Nat):Bool:=97<=c&&c<=122
noncomputable def dq(c:Nat):Bool:=48<=c&&c<=57
noncomputable def bf(w:Str):Bool:=1<=w.length&&w.length<=12&&(L w).all dQ
noncomputable def cT(l:Y Nat):Bool:=1<=l.length&&l.length<=4&&l.all dq
noncomputable def gO(l:Y Nat):Ų Int:=match l with
 |45::r=>if cT r&&r.head? != Z 48 then Z (-(á r:Int)) else ű
 |_=>if cT l&&(l.head? != Z 48 ||l==[48]) then Z (á l:Int) else ű
noncomputable def br(w:Str):Ų Int:=gO (L w)
noncomputable def nstr(i:Int):Str:=Str.ofString (toString i)
theorem zw{m:Nat}(h:m<10):(Nat.digitChar m).toNat=48+m:=by
 have:∀m:Nat,m<10->(Nat.digitChar m).toNat=48+m:=by decide
 show this m h
noncomputable def dg(m:Nat):Y Nat:=(Nat.toDigits 10 m).map Ű
theorem mL{m:Nat}(h:m<10):dg m=[48+m]:=by
 unfold dg;rw[Nat.toDigits_of_lt_base h];change [(Nat.digitChar m).toNat]=_;rw[zw h]
theorem tK{m:Nat}(h:10<=m):dg m=dg (m/10)++[48+m % 10]:=by
 have a:m % 10<10:=Nat.mod_lt m 'b';have t:Nat.toDigits 10 (m/10)++Nat.toDigits 10 (m % 10)=Nat.toDigits 10 (10*(m/10)+m % 10):=Nat.toDigits_append_toDigits 'b' () a;rw[Nat.div_add_mod]at t;rw[←mL a];unfold dg;rw[←t,KU]
theorem GU:∀m:Nat,(dg m).all dq=ų:=by
 intro m
 induction m using Nat.strongRecOn with
 |_ m a=>
  by_cases h:m<10
  ·rw[mL h];simp[dq];omega
  ·rw[tK (),Nn,a (m/10) ()];simp[dq];omega
theorem rP:∀(k m:Nat),m<10^(k+1)->(dg m).length<=k+1
 |0,m,h=>by rw[mL (by simpa using h)];simp
 |k+1,m,h=>by
  by_cases c:m<10
  ·rw[mL c];simp
  ·rw[tK (),wy];have:=rP k (m/10) (by rw[Nat.pow_succ]at h;omega);simp;omega
theorem sS(m:Nat):L (nstr (m:Int))=dg m:=OL m
theorem uK(m:Nat):L (nstr (-((m+1:Nat):Int)))=45::dg (m+1):=by
 have e:toString (-((m+1:Nat):Int))="-"++toString (m+1):=rfl;unfold nstr L;rw[e,NK,String.toList_append,KU];change [45]++_=_;have:=OL (m+1);rw[NK]at this;have a:(toString (m+1)).toList.map Ű=dg (m+1):=this;rw[a];rfl
theorem sU(n:Int):(∃m:Nat,n=(m:Int))\/∃m:Nat,n = -((m+1:Nat):Int):=by
 rcases Int.lt_or_le n 0 with h|h
 ·show .inr ⟨(-n-1).toNat,()⟩
 ·show .inl ⟨n.toNat,()⟩
theorem ER(n:Int):∀c∈L (nstr n),c=45\/(48<=c/\c<=57):=by
 have hd:∀m,∀c∈dg m,48<=c/\c<=57:=λm c a=>by have:=Kf.mp (GU m) c a;simpa [dq] using this
 intro c a;rcases sU n with⟨m,rfl⟩|⟨m,rfl⟩
 ·rw[sS]at a;show .inr (hd m c a)
 ·rw[uK]at a;rcases J9.mp a with e|a
  ·show .inl e
  ·show .inr (hd _ c a)
theorem yM{n:Int}(h:n.natAbs<10000):(nstr n).length<=5:=by
 have e:(nstr n).length=(L (nstr n)).length:=by unfold L;rw[KQ];rfl
 rw[e];rcases sU n with⟨m,rfl⟩|⟨m,rfl⟩
 ·rw[sS];have:=rP 3 m ();omega
 ·rw[uK,J1];have:=rP 3 (m+1) ();omega
theorem GN{w:Str}{n:Int}(h:br w=Z n):intText? w=Z n/\w.length<=5:=by
 have e:w.length=(L w).length:=by unfold L;rw[KQ];rfl
 have g:∀{l:Y Nat},cT l=ų->1<=l.length/\l.length<=4/\NumText.AllDigits l:=λ{l} h=>by
  unfold cT at h;simp only[Kc,Kt]at h;refine⟨h.1.1,h.1.2,λc o=>?_⟩;have:=Kf.mp h.2 c o;simpa [dq] using this
 unfold br gO at h;split at h
 ·next r hr=>
  split at h
  ·next c=>
   cases h;let⟨a,j,f⟩:=g (LQ.mp c).1
   have p:w.length<=5:=by rw[e,hr,J1];omega
   show⟨intText_neg hr f (by intro z;rw[z]at a;cases a) (),p⟩
  ·cases h
 ·split at h
  ·next c=>
   cases h;let⟨a,j,f⟩:=g (LQ.mp c).1;show⟨intText_digits f (by intro z;have z:L w=[]:=z;rw[z]at a;cases a) (),()⟩
  ·cases h
noncomputable abbrev Tm:=Int×Str
noncomputable def bM:Y Str->Ų (Y Tm)
 | [a,b]=>match br a with
  |some n=>if bf b then Z [(n,b)] else ű
  |none=>ű
 |a::b::p::c=>match br a with
  |some n=>if bf b then (if p="+" then (bM c).map ((n,b)::·) else ű) else ű
  |none=>ű
 |_=>ű
noncomputable def du(ws:Y Str):Ų (Y Tm):=if ws=[("0":Str)] then Z [] else if ws.length % 3=2 then bM ws else ű
inductive Frm where
 |unk (x:Str) (l:Int) (m:Option Int)
 |row (ts:List Tm) (b:Int) (t:Bool)
 |worth (ts:List Tm) (s:Int)
noncomputable def ax(ws:Y Str)(i:Nat):Str:=ws.getD i ""
noncomputable def fZ(ws:Y Str):Ų Frm:=
 if (ws.length=4\/ws.length=6)/\ax ws 2="from"/\bf (ax ws 1)=ų then
  match br (ax ws 3)with
  |none=>ű
  |some l=>if ws.length=4 then Z (.unk (ax ws 1) l ű) else
   match br (ax ws 5)with
   |none=>ű
   |some m=>if ax ws 4="to" then Z (.unk (ax ws 1) l (Z m)) else ű
 else ű
noncomputable def fo(ws:Y Str):Ų Frm:=
 if 5<=ws.length/\ax ws (ws.length-3)="at"/\(ax ws (ws.length-2)="least"\/ax ws (ws.length-2)="most") then
  match du ((ws.drop 1).take (ws.length-4)),br (ax ws (ws.length-1))with
  |some a,Z b=>Z (.row a b (ax ws (ws.length-2) == "most"))
  |_,_=>ű
 else ű
noncomputable def iT(ws:Y Str):Ų Frm:=(du (ws.drop 1)).map λa=>.worth a (if ax ws 0="most" then 1 else -1)
noncomputable def mU(ws:Y Str):Ų Frm:=
 if ax ws 0="unknown" then fZ ws else if ax ws 0="row" then fo ws else if ax ws 0="most"\/ax ws 0="least" then iT ws else ű
noncomputable def cz(x:Str):Ų Frm:=mU (Ì x " ")
noncomputable def C6(w:Str):Prop:=∀c∈L w,33<=c/\c<=126
theorem GQ{w:Str}(h:bf w=ų):C6 w:=λc a=>by
 unfold bf at h;simp only[Kc]at h;have:=Kf.mp h.2 c a;simp[dQ]at this;omega
theorem pM{c:Nat}{s:Str}:∀{ws:Y Str},c∈L (Str.join s ws)->c∈L s\/∃w∈ws,c∈L w
 | [],h=>by cases h
 | [x],h=>.inr ⟨x,JY,h⟩
 |x::y::r,h=>by
  rw[fN]at h;rcases Kj.mp h with h|h
  ·show .inr ⟨x,JY,h⟩
  ·rcases Kj.mp h with h|h
   ·show .inl h
   ·rcases pM h with h|⟨w,a,h⟩
    ·show .inl h
    ·show .inr ⟨w,JZ _ a,h⟩
end Tx
namespace L2
open PySem PySem.Spec PyProof.Rows
theorem vM:∀l:Y (Str×þ),Vals ((l.map (·.1)).map V.str) (Ĥ l)
 | []=>.nil
 |(x,t)::l=>.cons ⟨t,S⟩ (vM l)
theorem xw(K:Â)(c:Hp):∀a:Y Str,RpL K c (a.map D.str) (a.map V.str)
 | []=>.nil
 |z::a=>.cons (.str z) (xw K c a)
noncomputable def yQ:V->Y V->Hp->VK->Prop:=λx vs H Q=>∃a b:Str,x=.str a/\vs=[.str b]/\(b.length==0)=Ŵ/\a.length+2<=sizeLine/\∀p,H p=ű->Q (.ref p) (au H p (.lst ((Ì a b).map V.str)))
section
variable{X:Cx}
theorem Gi:iG X "str.split" yQ:=by
 intro c s r H x vs v us Q I A z h;let⟨a,b,rfl,rfl,p,hsz,q⟩:=h;let⟨t,rfl⟩:=A;let⟨u,rfl,y⟩:=z.one;let⟨o,rfl⟩:=y
 have f:∀(l:Y (Str×þ))(k:Nat),l.map (·.1)=Ì a b->EP X c r Q (.ref s.heap.objs.size) { s with heap:=s.heap.push { cls:=.type "list",data:=.seq (Ĥ l).toArray },toks:=k }:=λl k e=>by
  have j:H s.heap.objs.size=ű:=I.hok.fresh (J0 _)
  have w:((Ì a b).map V.str).length<=sizeLine:=by rw[mn];show J6 (split_le a b) hsz
  refine⟨.ref s.heap.objs.size,au H s.heap.objs.size (.lst ((Ì a b).map V.str)),I.laid (t':=k) (λb u e=>JW _ e) (J0 _) ?_,S,q _ j⟩;show⟨w,Ĥ l,0,by rw[←e];show vM l,Kb _ S⟩
 have B:a.length<=sizeLine:=by omega
 have C:(Builtin.Str.partsBetween a (Builtin.Str.occurrences a b 0 a.length (a.length+1)) b.length).length<=sizeLine:=by
  rw[Nu];have:=StrLaws.occ_length_le a b 0 a.length (a.length+1);omega
 cases g:(decide (a.length<b.length) ||decide (Builtin.Str.strKind a<Builtin.Str.strKind b))
 ·cases j:(Builtin.Str.occurrences a b 0 a.length (a.length+1)).isEmpty
  ·refine LB Ol (MT _ _ _) NW (NM _ _) (meets_str_split_sep a b t o g p j B C) ?_;change EP X c r Q _ { s with toks:=_,heap:=s.heap.push { cls:=.type "list",data:=.seq (strsFrom s.toks (Builtin.Str.partsBetween a (Builtin.Str.occurrences a b 0 a.length (a.length+1)) b.length)).toArray } };rw[strsFrom_eq];show f (numbered s.toks _) _ ((numbered_texts _ _).trans ((JV (Nv g)).trans (JV (Nv j))).symm)
  ·show LB Ol (MT _ _ _) NW (NM _ _) (meets_str_split_not_found a b t o g p j)
    (f [(a,t)] s.toks ((JV (Nv g)).trans (JX j)).symm)
 ·show LB Ol (MT _ _ _) NW (NM _ _) (meets_str_split_cannot_occur a b t o g)
   (f [(a,t)] s.toks (JX g).symm)
noncomputable def AX:V->Y V->Hp->VK->Prop:=λx vs H Q=>∃a b:Str,x=.str a/\vs=[.str b]/\Q (.bl (ô a b)) H
theorem FZ:iG X "str.startswith" AX:=by intro c s l H x vs v us Q I g f h;let⟨a,b,rfl,rfl,q⟩:=h;let⟨t,rfl⟩:=g;let⟨u,rfl,e⟩:=f.one;let⟨j,rfl⟩:=e;show SC.startswith ⟨.bl _,H,I,S,q⟩
noncomputable def Co(K:Â):V->Y V->Hp->VK->Prop:=λx vs H Q=>∃(a:Str)(p:Addr)(c:Y Str),x=.str a/\vs=[.ref p]/\SqL K H p (c.map V.str)/\ŕ a c=ų/\Q (.str (å a c)) H
theorem A5:iG X "str.join" (Co X.K):=by intro a s A H x vs v us Q I j g h;let⟨o,p,z,rfl,rfl,c,hok,q⟩:=h;let⟨t,rfl⟩:=j;let⟨u,rfl,f⟩:=g.one;cases f;let⟨w,r,pl,y⟩:=I.list c;let⟨l,rfl,e⟩:=xp r;show SC.join pl.isList e hok λt' k=>⟨.str _,H,I.tok k,⟨t',S⟩,q⟩
end
section
variable{K:Â}{X:Cx}{a b:Ã}{j tb:TD}{f A C:Õ}{B e:Ã}{t:TD}
noncomputable def EL(j tb:TD):bc:=λρ R=>j ρ λx=>∃s,x=.str s/\tb ρ λy=>∃c,y=.str c/\(c.length==0)=Ŵ/\s.length+2<=sizeLine/\R ((Ì s c).map D.str)
theorem jE(J:PQ K X a j)(M:PD K X b tb)(I:((backTo A (starEach [b] X.env)).all (λx=>!x.1)&&(Ù A (Î [] X.env)).all (λx=>x.1.isSome)&&decide (([b]:Y Ã).length+([]:Y Ï).length+(if ([]:Y Ï).isEmpty then 0 else 1)<30))=ų)
  (v:starEach [b] X.env=(Ŵ,eval b X.env)::starEach [] X.env) (z:Ç a "split" X.env (eval a X.env)=eval a X.env:=by rfl) (F:(f.endLine==A.line)=ų:=by rfl):PF K X (.Call (.Attribute a "split" f) [b] [] A) (EL j tb):=
 ⟨λw=>(gP L5 PySem.F.slot_str_split PySem.F.type_str_split Gi (J.pe w) (cC (M.pe w) pa_nil v) z I F v ao).imp λσ H Q G=>by
  let⟨u,U,ρ,R,E,t,k⟩:=G;refine⟨u,U,ρ,_,E,t,λdx r aw x o h P=>?_⟩;let⟨s,rfl,o⟩:=o;cases P.str;refine⟨S,u,r,ρ,_,E.gr h,o,λdy ar H2 y T g am=>?_⟩;let⟨c,rfl,N,O,q⟩:=T;obtain rfl:=am.s
  show⟨s,c,S,S,N,O,λp l=>k _ _ _ p _ q ((h.trans g).trans (.fresh g.s l _)) ((h.trans g).h.free l) (g.s.free l) aZ (xw K _ _)⟩⟩
noncomputable def Fi(j tb:TD):TD:=λρ R=>j ρ λx=>∃s,x=.str s/\tb ρ λy=>∃c,y=.str c/\R (.bl (ô s c))
theorem Hd(G:PQ K X a j)(I:PD K X b tb)(z:((backTo A (starEach [b] X.env)).all (λx=>!x.1)&&(Ù A (Î [] X.env)).all (λx=>x.1.isSome)&&decide (([b]:Y Ã).length+([]:Y Ï).length+(if ([]:Y Ï).isEmpty then 0 else 1)<30))=ų)
  (o:starEach [b] X.env=(Ŵ,eval b X.env)::starEach [] X.env) (u:Ç a "startswith" X.env (eval a X.env)=eval a X.env:=by rfl) (v:(f.endLine==A.line)=ų:=by rfl):PD K X (.Call (.Attribute a "startswith" f) [b] [] A) (Fi j tb):=
 ⟨λr=>(gP L5 PySem.F.slot_str_startswith PySem.F.type_str_startswith FZ (G.pe r) (cC (I.pe r) pa_nil o) u z v o ao).imp λaw H Q w=>by
  let⟨l,O,ρ,R,E,t,k⟩:=w;refine⟨l,O,ρ,_,E,t,λU h am x g p J=>?_⟩;let⟨s,rfl,g⟩:=g;cases J.str;refine⟨S,l,h,ρ,_,E.gr p,g,λar P T y N F M=>?_⟩;let⟨c,rfl,q⟩:=N;obtain rfl:=M.s
  show⟨s,c,S,S,k _ _ _ _ q (p.trans F) (.bl _)⟩⟩
noncomputable def G0(j tb:TD):TD:=λρ R=>j ρ λx=>∃c,x=.str c/\tb ρ λy=>∃g:Y Str,y=.lst (g.map D.str)/\ŕ c g=ų/\R (.str (å c g))
theorem iA(M:PQ K X a j)(N:PD K X b tb)(J:((backTo A (starEach [b] X.env)).all (λx=>!x.1)&&(Ù A (Î [] X.env)).all (λx=>x.1.isSome)&&decide (([b]:Y Ã).length+([]:Y Ï).length+(if ([]:Y Ï).isEmpty then 0 else 1)<30))=ų)
  (r:starEach [b] X.env=(Ŵ,eval b X.env)::starEach [] X.env) (F:Ç a "join" X.env (eval a X.env)=eval a X.env:=by rfl) (G:(f.endLine==A.line)=ų:=by rfl):PD K X (.Call (.Attribute a "join" f) [b] [] A) (G0 j tb):=
 ⟨λw=>(gP L5 PySem.F.slot_str_join PySem.F.type_str_join A5 (M.pe w) (cC (N.pe w) pa_nil r) F J G r ao).imp λσ H Q I=>by
  let⟨o,ar,ρ,R,E,t,k⟩:=I;refine⟨o,ar,ρ,_,E,t,λdx h aw x g u P=>?_⟩;let⟨c,rfl,g⟩:=g;cases P.str;refine⟨S,o,h,ρ,_,E.gr u,g,λdy l z y T v am=>?_⟩;let⟨U,rfl,hok,q⟩:=T;let⟨p,vs,rfl,O,rl⟩:=(RpQ.lst v.s (.inl am));cases zq rl
  show⟨c,p,U,S,S,SqL.of O,hok,k _ l z _ q (u.trans v) (.str _)⟩⟩
noncomputable def Jq(g:Bool):cB:=λh l R=>∃(c:Nat)(y:Str),h=.str ⟨#[c]⟩/\l=.str y/\R (.bl (g != decide (c∈y.cps.toList)))
theorem nK:OpD K X (Æ .In) (Jq Ŵ):=⟨λM g s U H x y u v Q I w E l=>by
 let⟨F,G,J,R,sm,o,p,⟨c,z,rfl,rfl,h⟩,r⟩:=l;cases o.str;cases p.str;let⟨N,rfl⟩:=w;let⟨O,rfl⟩:=E;refine P.in_str ⟨.bl _,H,I,S,?_⟩;rw[StrLaws.found_one]
 show r _ F H _ (by rw[LM]at h;show h) (.refl sm) (.bl _)⟩
noncomputable def rN(x:Str):It:=⟨λi _=>i<x.cps.size,λi H v g=>g=H/\∃c,x.cps[i]?=Z c/\v=.str ⟨#[c]⟩,λi _=>x.cps.size<=i⟩
theorem DY{P:Ä}{w:Å}{K:Â}{B:Ã}(x:Str)(t:þ)(u:Addr):Turn P w K B (rN x) [u] u (λi h=>h.IsStrIter u "str_ascii_iterator" x t i) where
 mem:=by simp
 obj:=λi h st b l=>by
  have e:b=u:=by simpa using l
  subst e;let⟨o,e,c,d⟩:=st;show⟨o,e,λv z=>by rw[d]at z;cases z⟩
 keep:=λi h h' st k=>let ⟨o,ho,r⟩:=st;⟨o,k u (by simp) o ho,r⟩
 item:=by
  intro X Q R O T i g s ar H E I y st p;subst Q R O;have p:i<x.cps.size:=p;let⟨F,G,f2,J,M,N⟩:=y u (by simp)
  have U:x.cps[i]?=Z x.cps[i]:=by simp[p]
  refine wpAny_pyNext_ascii_item st U λh' am sb=>?_;have aw:Inv X g ar H { s with heap:=h',toks:=s.toks+1 }:=I.turned (λb o l e=>(sb.2 b l).trans e) F G J M N;let⟨o,e,c,d⟩:=id am;show⟨_,S,lu (s:={ s with heap:=h',toks:=s.toks+1 }) e c d 'b' ⟨.str ⟨#[x.cps[i]]⟩,H,aw,⟨_,S⟩,⟨S,_,U,S⟩,am,λb l=>(y b l).1⟩⟩
 done:=by
  intro X Q R O T i g s ar H E I y st p;subst Q R O;have p:x.cps.size<=i:=p;let⟨F,G,f2,J,M,N⟩:=y u (by simp);show wpAny_pyNext_ascii_end (I.ok.hd T) st (by simp[p]) λh' eb=>⟨S,I.turned (t':=s.toks) (λb o l e=>eb b o l e) F G J M N⟩
 self:=λ_ _ _ _ _ st h=>wpAny_pyIter_striter_ascii st h
noncomputable def BH(g:TE):TI:=λh H R=>g h H λx c=>∃z,x=.str z/\z.cps.all (·<128)=ų/\R (rN z) c
theorem FY{l:Ã}{r:TE}(F:PE X l r):PI X B l (BH r):=by
 intro c s J H R I h;refine aI (F c s J H _ I h) λv g w=>?_;let⟨x,u,p,G,z,rfl,y,q⟩:=w;let⟨t,rfl⟩:=G;refine wpAny_pyIter_ascii y ?_;refine⟨g.heap.objs.size,[g.heap.objs.size],_,_,u,S,p.kept (t':=g.toks) λb o e=>JW _ e,DY z t _,⟨_,Kb _ S,S,S⟩,λb E=>?_,q⟩
 have e:b=g.heap.objs.size:=by simpa using E
 subst e;show p.fpOk (J0 _) (p.hok.fresh (J0 _))
noncomputable def iU(c:Nat):Str:=⟨#[c]⟩
noncomputable def iR(x:Str):Y D:=x.cps.toList.map λc=>D.str (iU c)
theorem y6(o:Hp)(x:Str):SteadyD K (rN x) o (iR x):=by
 have h:(iR x).length=x.cps.size:=by unfold iR;rw[mn,KQ]
 refine⟨λi H s g=>(by rw[h]at g;show g),λi p H v r d u s hd y=>?_,λH s=>Mh h.symm⟩;let⟨rfl,c,l,rfl⟩:=y;unfold iR at hd;rw[J4,OI,l]at hd;cases hd;show⟨_,.refl s,.str _⟩
noncomputable def Fo(t:TD):bc:=λρ R=>t ρ λd=>∃x,d=.str x/\x.cps.all (·<128)=ų/\R (iR x)
theorem kE(h:PD K X e t):PID K X B e (Fo t):=⟨λu=>(FY (h.pe u)).imp λG H F p=>by
 let⟨l,z,ρ,R,E,t,k⟩:=p;refine⟨l,z,ρ,_,E,t,λd c o v r g y=>?_⟩;let⟨x,rfl,w,r⟩:=r;obtain rfl:=y.s
 show⟨x,S,w,k _ c o _ r g (y6 c x)⟩⟩
theorem yy{i:Int}(h:i.natAbs<2^1900):i.natAbs.log2<1920:=by
 by_cases c:i.natAbs=0
 ·rw[c];decide
 ·show Ks ((Nat.log2_lt c).mpr h) 'b'
noncomputable def Ha:cP:=λds R=>∃(x:Str)(n:Int),ds=[.str x]/\x.length<=640/\intText? x=Z n/\R (.int n)
theorem GZ:CallD K X (.type "int") Ha:=⟨λE c s F H xs us Q I w g=>by
 let⟨z,ds,R,sm,l,⟨x,n,rfl,p,o,h⟩,k⟩:=g;let⟨v,rfl,r⟩:=gm l;cases r.str;let⟨u,rfl,y⟩:=w.one;let⟨t,rfl⟩:=y
 show PySem.W.KIN.call_text o p ⟨.int n,H,I.tok _,⟨_,S⟩,k _ z H _ h (.refl sm) (.int n)⟩⟩
theorem tO{x y:Str}{c:þ}(h:Gl X x)(l:X.mg x=Z (.str y c))(hd:ad x:=by decide):PD K X (.Name x C) (wj (.str y)):=
 ⟨λr=>(jZ (v:=.str y) h l ⟨c,S⟩ hd).imp λu H Q g=>by
  let⟨p,o,ρ,R,E,t,k⟩:=g
  show k _ o H _ t (.refl E.fz) (.str y)⟩
end
noncomputable abbrev gB:=bE->(Str->Prop)->Prop
structure PJ(K:Â)(X:Cx)(e:Ã)(t:gB):Prop where
 pj:X.K=K->∀(pins:List (Addr×Ð))(s:À)(σ:St)(H0 Φ H:Hp)(ρ:bE)(R:Str->Prop)(Q:Str->Hp->Prop),Inv X pins σ H s->EnvD K H0 Φ H σ ρ->t ρ R->(∀y Φ' H',R y->Gr Φ H Φ' H'->Q y H')->
  wpAny (model X.prog X.w) X.A (eval e X.env) (λv s1=>∃y tk Φ' H',v=.str y tk/\Inv X pins σ H' s1/\Gr Φ H Φ' H'/\R y/\Q y H') X.xe s
structure PJs(K:Â)(X:Cx)(es:List Ã)(t:gB):Prop where
 pj:X.K=K->∀(pins:List (Addr×Ð))(s:À)(σ:St)(H0 Φ H:Hp)(ρ:bE)(R:Str->Prop)(Q:VK)(out:Str),Inv X pins σ H s->EnvD K H0 Φ H σ ρ->t ρ R->out.length+1000000*es.length<=sizeLine->(∀y Φ' H',R y->Gr Φ H Φ' H'->Q (.str (out++y)) H')->
  wpAny (model X.prog X.w) X.A (joinParts out (evalEach es X.env)) (EP X pins σ Q) X.xe s
section
variable{K:Â}{X:Cx}{e o:Ã}{f:Y Ã}{c:Õ}{t u:gB}{l:TD}
noncomputable def jC(x:Str):gB:=λ_ R=>R x
theorem iH{x:Str}{j}:PJ K X (.Constant (.str x) j c) (jC x):=⟨λF a s B C p H ρ R Q I E h k=>by
 refine Lg (vA a s B H (λv r=>v=.str x/\r=H) I ⟨S,S⟩) (λv G y=>?_) λ_ _ h=>h;let⟨J,g,w,z,rfl,rfl⟩:=y;let⟨A,rfl⟩:=z
 show⟨x,A,p,g,S,w,.refl E.fz,h,k _ p g h (.refl E.fz)⟩⟩
noncomputable def jV(t:TD):gB:=λρ R=>t ρ λd=>match d with|.str x=>x.length<=1000000/\R x|.int i=>i.natAbs<2^1900/\R (Tx.nstr i)|_=>False
theorem fQ(h:PD K X e l):PJ K X (.FormattedValue e (-1) ű c) (jV l):=⟨λJ p s O F C H ρ R Q I E M k=>by
 refine FormattedValue_plain (aI (h.pe J p s O H (λv z=>∃d a,Gr C H a z/\Rp K a d v/\(match d with|.str x=>x.length<=1000000/\R x|.int i=>i.natAbs<2^1900/\R (Tx.nstr i)|_=>False)) I ⟨F,C,ρ,_,E,M,λd a z v r g y=>⟨d,a,g,y,r⟩⟩) λv U G=>?_);let⟨T,w,A,y,d,j,g,B,r⟩:=G
 cases d with
 |str x=>
  obtain rfl:=B.s;let⟨N,rfl⟩:=y;show formatField_str (λt' P=>⟨x,t',j,w,S,A.tok _,g,r.2,k _ j w r.2 g⟩) (by have:=r.1;have:=KP;omega)
 |int i=>
  obtain rfl:=B.i;let⟨N,rfl⟩:=y;show formatField_int_small (yy r.1) ⟨Tx.nstr i,_,j,w,S,A.tok _,g,r.2,k _ j w r.2 g⟩
 |_=>show r.elim⟩
noncomputable def Gm(t:gB):gB:=λρ R=>t ρ λy=>y.length<=1000000/\R y
noncomputable def Hn(t u:gB):gB:=λρ R=>t ρ λy=>y.length<=1000000/\u ρ λz=>R (y++z)
theorem iS(a b:Str):(a++b).length=a.length+b.length:=by change (a.cps++b.cps).size=a.cps.size+b.cps.size;rw[Array.size_append]
theorem kZ(h:PJ K X e t):PJs K X [e] (Gm t):=⟨λB p s M z J H ρ R Q j I E G F k=>by
 refine joinParts_cons (Lg (h.pj B p s M z J H ρ _ (λy a=>y.length<=1000000/\Q (.str (j++y)) a) I E G λy w a r g=>⟨r.1,k y w a r.2 g⟩) (λv O C=>?_) λ_ _ h=>h);let⟨y,P,w,a,rfl,A,g,r,N,q⟩:=C
 have x:(j++y).length<=sizeLine:=by rw[iS];simp only[J1,K5]at F;omega
 show⟨x,joinParts_nil ⟨.str _,a,A.tok _,⟨_,S⟩,q⟩ x⟩⟩
theorem fb(h:PJ K X e t)(O:PJs K X f u):PJs K X (e::f) (Hn t u):=⟨λA a s B x ar H ρ R Q j I E am P k=>by
 refine joinParts_cons (Lg (h.pj A a s B x ar H ρ _ (λ_ _=>True) I E am λ_ _ _ _ _=>trivial) (λv U N=>?_) λ_ _ h=>h);let⟨y,tk,p,C,rfl,G,g,⟨aw,r⟩,_⟩:=N;rw[J1]at P
 have M:(j++y).length<=sizeLine:=by rw[iS];omega
 refine⟨M,O.pj A a U B x p C ρ _ Q (j++y) G (E.gr g) r (by rw[iS];omega) λz w F T J=>?_⟩;rw[PySem.Str.append_assoc]
 show k (y++z) w F T (g.trans J)⟩
noncomputable def En(t:gB):TD:=λρ R=>t ρ λy=>R (.str y)
theorem lh(h:PJs K X (e::o::f) t)(z:Nat.ble f.length 10=ų:=by rfl):PD K X (.JoinedStr (e::o::f) c) (En t):=⟨λx a s B H Q I w=>by
 let⟨v,A,ρ,R,E,t,k⟩:=w;refine JoinedStr_many ?_;refine h.pj x a s B v A H ρ _ Q Str.empty I E t ?_ λy j p r g=>?_
 ·have:=OK z;have:=KP;simp only[J1];change 0+_<=_;omega
 ·rw[PySem.Str.empty_append]
  show k _ j p _ r g (.str y)⟩
end
noncomputable def qk(lo st:Int)(n:Nat):It:=⟨λi _=>i<n,λi H x a=>a=H/\x=.int (lo+i*st),λi _=>n<=i⟩
theorem DP{P:Ä}{w:Å}{K:Â}{U:Ã}(a:Addr)(lo st:Int)(n:Nat):Turn P w K U (qk lo st n) [a] a (λi h=>ĉ h a (lo+(i:Nat)*st) ((n:Int)-(i:Nat)) st) where
 mem:=by simp
 obj:=λi h st b f=>by
  have e:b=a:=by simpa using f
  subst e
  show⟨_,st,λv z=>by
   have T:Data.fields _=Data.cell v:=z
   cases T⟩
 keep:=λi h h' st k=>k a (by simp) _ st
 item:=by
  intro X A F y B i c s J H E I j g C;subst A F y;let⟨l,p,O,r,u,x⟩:=j a (by simp);have W:=Ŝ (prog:=X.prog) (w:=X.w) (I.ok.hd B) a lo st n;refine W.item i s _ _ C g λv h' G Q g R=>?_;let⟨t,rfl⟩:=Q;have M:Inv X c J H { s with heap:=h',toks:=G }:=I.turned (λb o f e=>R b o (by simpa using f) e) l p r u x;show⟨_,S,lu (s:={ s with heap:=h',toks:=G }) (n:="range_iterator") g S S 'b' ⟨.int (lo+i*st),H,M,⟨t,S⟩,⟨S,S⟩,g,λb f=>(j b f).1⟩⟩
 done:=by intro X A F y B i c s J H E I j st C;subst A F y;let⟨l,p,O,r,u,x⟩:=j a (by simp);show ĵ (I.ok.hd B) st (by have:n<=i:=C;omega) λh' N=>⟨S,I.turned (t':=s.toks) (λb o f e=>N b o f e) l p r u x⟩
 self:=λ_ _ _ _ _ st h=>ķ st h
noncomputable def fM(lo a st:Int):Nat:=((a-lo+st-1)/st).toNat
noncomputable def i4(lo a st:Int):Y D:=(List.range (fM lo a st)).map λ(i:Nat)=>D.int (lo+(i:Int)*st)
section
variable{K:Â}{X:Cx}{f:Ã}
noncomputable def Fx(c:TA):TI:=λe H R=>c e H λvs a=>∃i j k:Int,vs=[.int i,.int j,.int k]/\(-(2^61)<=i/\i<2^61/\-(2^61)<=j/\j<2^61/\0<k/\k<=1000)/\R (qk i k (fM i j k)) a
theorem F0{i j k:Int}(e:0<k):Builtin.Range.rangeSize i j k=(fM i j k:Int):=by
 unfold Builtin.Range.rangeSize fM;rw[JX e];by_cases c:i<j
 ·rw[JX c,show j-i+k-1=(j-i-1)+1*k by omega,Int.add_mul_ediv_right _ _ ()];have:=Np (a:=j-i-1) (b:=k) () ();omega
 ·rw[JV c];have:(j-i+k-1)/k<1:=Int.ediv_lt_of_lt_mul e ();omega
theorem Dg{i j k:Int}(h:-(2^61)<=i/\i<2^61/\-(2^61)<=j/\j<2^61/\0<k/\k<=1000):Builtin.Range.small i j k=ų:=by
 have c:=Np (a:=j-i-1) (b:=k);have e:=Int.ediv_le_self k (a:=j-i-1);unfold Builtin.Range.small Builtin.Range.rangeSize;rw[JX (show k>0 by omega),JX (show k>0 by omega)];simp only[Builtin.Range.rangeFitsLong,Kc,Ox,Kt,L3];split<;>omega
theorem E8{a b c:Ã}{A:TA}{p l:Õ}(M:Gl X "range")(N:X.mg "range"=ű)(J:PA X [a,b,c] A)(O:starEach [a,b,c] X.env=[(Ŵ,eval a X.env),(Ŵ,eval b X.env),(Ŵ,eval c X.env)]:=by rfl)(z:starEach [b,c] X.env=[(Ŵ,eval b X.env),(Ŵ,eval c X.env)]:=by rfl) :
  PI X f (.Call (.Name "range" p) [a,b,c] [] l) (Fx A):=by
 intro g s B H R I h;refine Call_ (jo I M N boot_range (LF (aI (J l g s B H _ I h) λus w E=>?_) (by rw[O,z]) (by rw[z];rfl)));let⟨vs,y,C,Q,i,j,k,e,v,q⟩:=E;subst e
 cases Q with
 |cons r u=>
  cases u with
  |cons P u=>
   cases u with
   |cons U u=>
    cases u;let⟨t,rfl⟩:=r;let⟨t',rfl⟩:=P;let⟨T,rfl⟩:=U;refine call_range_3 () ?_ (.inl (PyProof.noPylong_small ()));have x:Inv X g B y { w with heap:=w.heap.push { cls:=.type "range",data:=.fields #[.int i t,.int j t',.int k T] },toks:=w.toks }:=C.kept λb o e=>JW _ e;refine ŏ (ō ..) (Dg v) ?_;refine⟨_,[_],_,_,y,S,x.kept (t':=w.toks) λb o e=>JW _ e,DP _ i k (fM i j k),?_,λb v=>?_,q⟩
    ·have F:i+((0:Nat):Int)*k=i:=by simp
     have G:((fM i j k:Nat):Int)-((0:Nat):Int)=Builtin.Range.rangeSize i j k:=by rw[F0 v.2.2.2.2.1];omega
     change ĉ _ _ (i+((0:Nat):Int)*k) (((fM i j k:Nat):Int)-((0:Nat):Int)) k;rw[F,G];show Kb _ S
    ·have e:=J3.mp v;subst e;show x.fpOk (J0 _) (x.hok.fresh (J0 _))
theorem Iz{l:Hp}{i j k:Int}{vs:Y V}(r:RpL K l [.int i,.int j,.int k] vs):vs=[.int i,.int j,.int k]:=by
 match vs,r with
 | [a,b,c],r=>
  have e:=r.2 0 a _ S S;have g:=r.2 1 b _ S S;have h:=r.2 2 c _ S S;obtain rfl:=e.i;obtain rfl:=g.i;obtain rfl:=h.i;rfl
 | [],r=>cases r.1
 | [_],r=>cases r.1
 | [_,_],r=>cases r.1
 |_::_::_::_::_,r=>cases r.1
theorem CO(g:Hp)(lo a st:Int):SteadyD K (qk lo st (fM lo a st)) g (i4 lo a st):=by
 have c:(i4 lo a st).length=fM lo a st:=by unfold i4;rw[mn,Me]
 refine⟨λi H s a=>(by rw[c]at a;show a),λi j H v l d p s hd y=>?_,λH s=>Mh c.symm⟩;let⟨rfl,rfl⟩:=y;unfold i4 at hd;rw[J4]at hd
 cases h:(List.range (fM lo a st))[i]? with
 |none=>rw[h]at hd;cases hd
 |some k=>
  rw[h]at hd;cases hd;let⟨o,e⟩:=KO.mp h;rw[List.getElem_range]at e;subst e;show⟨_,.refl s,.int _⟩
noncomputable def Ct(t:bc):bc:=λρ R=>t ρ λds=>∃i j k:Int,ds=[.int i,.int j,.int k]/\(-(2^61)<=i/\i<2^61/\-(2^61)<=j/\j<2^61/\0<k/\k<=1000)/\R (i4 i j k)
theorem Cq{a b c:Ã}{o:bc}{p l:Õ}(B:Gl X "range")(C:X.mg "range"=ű)(z:PAD K X [a,b,c] o)(F:starEach [a,b,c] X.env=[(Ŵ,eval a X.env),(Ŵ,eval b X.env),(Ŵ,eval c X.env)]:=by rfl)(x:starEach [b,c] X.env=[(Ŵ,eval b X.env),(Ŵ,eval c X.env)]:=by rfl) :
  PID K X f (.Call (.Name "range" p) [a,b,c] [] l) (Ct o):=⟨λy=>(E8 B C (z.pa y) F x).imp λM H I w=>by
 let⟨u,G,ρ,R,E,t,k⟩:=w;refine⟨u,G,ρ,_,E,t,λds h v vs r g rl J=>?_⟩;let⟨i,j,st,rfl,A,r⟩:=r;have e:=Iz rl;subst e
 show⟨i,j,st,S,A,k _ h v _ r g (CO h i j st)⟩⟩
end
end L2
open PySem
namespace L2
end L2
namespace L2
open PySem PySem.Spec PyProof.Rows
section
variable{K:Â}{X:Cx}{e:Ã}{c a:TD}
noncomputable def mI(c a:TD):TD:=λρ R=>c ρ R\/a ρ R
theorem uH(o:PD K X e c)(p:PD K X e a):PD K X e (mI c a):=⟨λh f s l H Q I r=>by
 let⟨g,j,ρ,R,E,t,k⟩:=r;rcases t with t|t
 ·show o.pe h f s l H Q I ⟨g,j,ρ,R,E,t,k⟩
 ·show p.pe h f s l H Q I ⟨g,j,ρ,R,E,t,k⟩⟩
end
variable{K:Â}{X:Cx}{t:bG}{G J:Õ}
section
variable{K:Â}{X:Cx}{e:Ã}{c:Y Ã}{a p:Õ}{h:bc}
noncomputable def HV(z:hJ)(h:bc):TX:=λρ R f=>h (fU ρ) λds=>z ds (λd=>NoL d/\R (.v d) ρ) (λg=>f g ρ)
theorem vf{n:Nat}{x:Str}{ps:Y Str}{z:hJ}(C:ClX X.prog X.w K X.mg X.base n x ps z)(hr:Room n X.A)(hg:Gl X x)(M:X.ex=[])
  (w:PAD K X (e::c) h) (he:starEach (e::c) X.env=(Ŵ,eval e X.env)::starEach c X.env) (P1:(backTo a (starEach c X.env)).any (·.1)=Ŵ) (Py:ad x:=by decide) :
  PX K X (.Call (.Name x p) (e::c) [] a) (HV z h):=⟨λu=>by
 let⟨f,fd,F,b,k,m⟩:=C.ex;refine (wW (u▸F:FnOk X.prog X.w X.K X.mg X.base (CXo X.prog X.w) n f fd ps (gQ K X.mg z)) hr hg m (u▸k) (u▸b) (w.pa u) Py he P1).imp λσ H Q OT=>?_;let⟨Φ0,aw,Φ,τ,ρ,κ,R,Rx,am,t,k⟩:=OT;let⟨fp,E⟩:=am.env;have P:=E.view;refine⟨aw,_,fU ρ,_,P,t,λds O H1 vs r g rl hl=>?_⟩;refine⟨λcls A l=>∃o C j,Rx o ρ/\Gr Φ H j l/\cls=.ref C/\X.mg o.nm=Z (.ref C)/\kn K l o.at_ A,λy s e' s' I hx=>?_,O,ds,_,_,g.s,(P.gr g).tb,rl,r,λd j l v ar B rv=>?_,λo C A j l hw B N w=>?_⟩
 ·let⟨ea,T,C,A,l,e1,I',F',fa,fT,o,C',j,XS,U,ec,N,w⟩:=CXo.at I M hx;cases ec;subst e1;refine am.x o ρ j l σ _ s' y XS (am.g.trans U) (am.gr U).env ⟨I',ea,C,Z T,A,S,F',N,u▸w,fa,λT' z=>?_⟩;cases z;show fT
 ·have g':=jK E.fz (g.trans B);show k _ ρ _ l v ar.2 ((am.gr g').pushV (rv.thawN (view_same.trans (g.trans B).f) ar.1)) g'.f
 ·have g':=jK E.fz (g.trans B)
  show⟨o,C,_,hw,g',S,N,w⟩⟩
end
section
variable{K:Â}{X:Cx}{a:Ã}{j:TD}{f p e:Õ}{c:Str->Str->Bool}{names:Y Str}
theorem uA{K:Â}{C:Addr}:∀{Ds:Y Addr}{bs:Y Bool},Ds.length=bs.length->(∀(i:Nat)(D:Addr)(b:Bool),Ds[i]?=Z D->bs[i]?=Z b->Ā K (.ref C) (.ref D)=Z b)->kitAny K (.ref C) (Ds.map Value.ref)=Z (bs.any id)
 | [],[],_,_=>rfl
 | [],_::_,h,_=>absurd h (by simp)
 |_::_,[],h,_=>absurd h (by simp)
 |D::Ds,b::bs,h,g=>by
  have r:=g 0 D b S S;have w:=uA (Ds:=Ds) (bs:=bs) (by simpa using h) λi l o u v=>g (i+1) l o u v;rw[Kk];unfold kitAny;rw[r]
  cases b with
  |true=>rfl
  |false=>show w
noncomputable def Fj(K:Â)(X:Cx):Y V->Hp->VK->Prop:=λvs H Q=>∃(l:Hp)(nm:Str)(o:Y D)(v:V)(g C:Addr)(Ds:Y Addr)(b:Bool),vs=[v,.ref g]/\H g=Z (.tup (Ds.map V.ref))/\Same l H/\Rp K l (.exc nm o) v/\Ú K Á nm=Z (Z (.ref C))/\(∀h:Heap,X.K.In h->∃i,ExcAt h C i)/\kitAny X.K (.ref C) (Ds.map Value.ref)=Z b/\Q (.bl b) H
theorem uu:∀{Ds:Y Addr}{us:Y Value},Vals (Ds.map V.ref) us->us=Ds.map Value.ref
 | [],_,.nil=>rfl
 |D::Ds,_,.cons r g=>by rw[Kk,uu g];show KG (·::_) r
theorem zZ:fv X (.builtin "isinstance") (Fj K X):=by
 intro A s σ H vs us Q I g B;let⟨Φ,nm,RL,v,h,C,Ds,b,rfl,M,sm,r,E,P,F,q⟩:=B
 obtain⟨l,u,rfl,T,U⟩:∃l u,us=[l,u]/\RelV v l/\RelV (.ref h) u:=by
  cases g with
  |cons a g=>cases g with
   |cons b g=>cases g;show⟨_,_,S,a,b⟩
 let⟨N,aw,rfl,w,R⟩:=xC I sm r;rw[E]at w;cases w;cases (show l=Value.ref N from T);cases (show u=Value.ref h from U);let⟨_,OU,am,o,y,⟨x,S7⟩,n,hd⟩:=(show ObjOk X.prog X.w H s.heap h (.tup (Ds.map V.ref))from I.hok h _ M);obtain rfl:=uu am
 have O:o=⟨.type "tuple",o.dict,.seq (Ds.map Value.ref).toArray n,o.slots⟩:=by cases o;dsimp only at x hd;rw[x,hd]
 rw[O]at y;show PySem.W.kia_tup (tY P) I.kIn R y F (λz=>nomatch z) λar=>⟨.bl b,H,I.tok ar,S,q⟩
noncomputable def EO(c:Str->Str->Bool)(names h:Y Str)(t:TD):TD:=λρ R=>t ρ λd=>∃nm g,d=.exc nm g/\nm∈names/\R (.bl ((h.map (c nm)).any id))
theorem mJ{u o l:Str}{B x w:Õ}{I:Nat}(Ex:Exs X.K X.mg c names)(M:Isa X.K X.mg c names)(O:∃D,X.mg u=Z (.ref D))(P:∃D,X.mg o=Z (.ref D))(am:∃D,X.mg l=Z (.ref D))(h1:u∈names)(h2:o∈names)(h3:l∈names)(g1:Gl X u)(g2:Gl X o)(g3:Gl X l)(hg:Gl X "isinstance")(UH:X.mg "isinstance"=ű)(ha:PD K X a j)
  (he:starEach [a,.Tuple [.Name u B,.Name o x,.Name l w] I e] X.env=(Ŵ,eval a X.env)::starEach [.Tuple [.Name u B,.Name o x,.Name l w] I e] X.env)
  (Ra:starEach [.Tuple [.Name u B,.Name o x,.Name l w] I e] X.env=(Ŵ,eval (.Tuple [.Name u B,.Name o x,.Name l w] I e) X.env)::starEach [] X.env)
  (hs1:starEach [.Name u B,.Name o x,.Name l w] X.env=(Ŵ,eval (.Name u B) X.env)::starEach [.Name o x,.Name l w] X.env:=by rfl) (PH:starEach [.Name o x,.Name l w] X.env=(Ŵ,eval (.Name o x) X.env)::starEach [.Name l w] X.env:=by rfl) (Wk:starEach [.Name l w] X.env=(Ŵ,eval (.Name l w) X.env)::starEach [] X.env:=by rfl)
  (d1:ad u:=by decide) (d2:ad o:=by decide) (d3:ad l:=by decide) :
  PD K X (.Call (.Name "isinstance" p) [a,.Tuple [.Name u B,.Name o x,.Name l w] I e] [] f) (EO c names [u,o,l] j):=by
 let⟨T,O⟩:=O;let⟨U,P⟩:=P;let⟨ar,am⟩:=am;refine⟨λhK=>(k7 (zZ (K:=K)) hg UH Nl (cC (ha.pe hK) (cC (pR (cC (jZ (v:=.ref T) g1 O S d1) (cC (jZ (v:=.ref U) g2 P S d2) (cC (jZ (v:=.ref ar) g3 am S d3) pa_nil Wk) PH) hs1)) pa_nil Ra) he) 'b' 'b' he (bC Ra ao)).imp λσ H Q OT=>?_⟩;let⟨H0,Φ,ρ,R,E,t,k⟩:=OT;refine⟨H0,Φ,ρ,_,E,t,λd y H1 v r g rv=>?_⟩;let⟨nm,RL,rfl,F,r⟩:=r
 obtain⟨C,QM⟩:∃C,Ú K Á nm=Z (Z (.ref C)):=by
  cases rv with
  |exc0 aw _=>show⟨_,aw⟩
  |exc1 aw _ _ _=>show⟨_,aw⟩
 have N:=M.mgK nm F C (hK▸QM);refine⟨by change 3<=sizeLine;decide,λtp VG=>?_⟩;have g5:Gr y H1 y (au H1 tp (.tup [.ref T,.ref U,.ref ar])):=.fresh g.s VG _;refine⟨y,nm,RL,v,tp,C,[T,U,ar],_,S,aZ,g5.s,rv,QM,λh Tf=>Ex.cls nm F C N h Tf,uA (bs:=[u,o,l].map (c nm)) S λi D b z A=>?_,k _ y _ _ r (g.trans g5) (.bl _)⟩
 match i,z,A with
 |0,z,A=>cases z;cases A;show M.own nm F u h1 C _ N O
 |1,z,A=>cases z;cases A;show M.own nm F o h2 C _ N P
 |2,z,A=>cases z;cases A;show M.own nm F l h3 C _ N am
end
section
variable{K:Â}{X:Cx}{lo w:Ã}{g j:TX}{o z x:Õ}
noncomputable def Dv(i:Nat)(g j:TX):TX:=λρ R e=>∃ds,ρ[i]?=Z (Z (.v (.lst ds)))/\g ρ (xV λk a=>match k with
 |.int l=>j a (xV λm c=>match m with
  |.int h=>NF (aT ds (Z l) (Z h)) λf=>R (.own f) c
  |_=>False) e
 |_=>False) e
theorem zF{y:Str}(i:Nat)(hy:X.N[i]?=Z y)(hl:PX K X lo g)(hh:PX K X w j)
  (hv:b7 X.env.scope y:=by nofun) (hd:ad y:=by decide) (O0:ap y:=by decide) :
  PX K X (.Subscript (.Name y x) (.Slice (Z lo) (Z w) ű z) o) (Dv i g j):=
 ⟨λN=>(vt (Hc N) (pv i hy hv hd O0) (pF (hl.pe N)) (pF (hh.pe N))).imp λσ H Q OT=>by
  let⟨B,U,O,τ,ρ,κ,R,ar,am,⟨ds,h1,t⟩,k⟩:=OT;let⟨fp,E⟩:=am.env;let⟨v0,s,r0⟩:=E.sl i _ h1
  obtain⟨q,ws,rfl,w1,w2⟩:∃q ws,v0=.ref q/\O q=Z (.lst ws)/\RpL K O ds ws:=by cases r0 with|lst a b c=>show⟨_,_,S,a,b,c⟩
  refine⟨.ref q,s,B,U,O,τ,ρ,κ,_,ar,am,t,λsm T P H1 v r aw f1=>?_⟩;let⟨kd,rfl,r⟩:=r.get;let⟨l,rfl,r⟩:=gw r;obtain rfl:=aw.last.i;refine⟨l,S,B,U,P,_,T,_,_,ar,aw.pop am.lk,r,λsm C A H2 v r M f2=>?_⟩;let⟨md,rfl,r⟩:=r.get;let⟨h,rfl,r⟩:=gw r;obtain rfl:=M.last.i;have r:NF (aT ds (Z l) (Z h)) λzs=>R (.own zs) C:=r;have r2:=NF.get r;let⟨fp2,I⟩:=M.env;have f:=f1.trans f2;refine⟨h,S,q,ws,S,SqL.of (I.fz _ _ (f _ _ w1)),λp F=>?_⟩
  have P7:A p=ű:=by
   cases e:A p with
   |none=>rfl
   |some u=>rw[I.fz _ _ e]at F;cases F
  show k _ C A _ _ r2 ((M.pop am.lk).pushO (.fresh I.fz F _) (.lst aZ ((w2.same f).cut (Z l) (Z h))) λb hb=>by rw[J3.mp hb];show⟨F,P7⟩) f⟩
end
noncomputable def tm:Ų Sm->Ų Sl
 |some (.ob _ (.lst ds))=>Z (.v (.lst ds))
 |some (.v d)=>Z (.v d)
 |_=>ű
noncomputable abbrev kX(ρ:ai):bE:=ρ.map tm
section
variable{K:Â}{l H f:Hp}{g:St}{ρ:ai}{c:Nat->Y Addr}
noncomputable def wV:Ų (Ų Sm)->Bool
 |some (Z (.ob _ (.lst _)))=>ų
 |_=>Ŵ
noncomputable def rh(c:Nat->Y Addr)(ρ:ai):Y Addr:=(List.range ρ.length).flatMap λi=>if wV (ρ[i]?) then c i else []
theorem EnvM'.viewL(E:EnvM' K l f H g ρ c):EnvD K l (eE f H (rh c ρ)) H g (kX ρ):=by
 have A:Same f (eE f H (rh c ρ)):=view_same
 have at_:∀{i:Nat}{x:Sl},(kX ρ)[i]?=Z (Z x)->∃y,ρ[i]?=Z (Z y)/\tm (Z y)=Z x:=λ{i x} h=>by
  rw[J4]at h
  cases e:ρ[i]? with
  |none=>rw[e]at h;cases h
  |some y=>
   rw[e]at h
   cases y with
   |none=>cases h
   |some y=>show⟨y,S,Kh h⟩
 have no:∀{i:Nat}{o:Ow},¬ (kX ρ)[i]?=Z (Z (.ob o)):=λ{i o} h=>by
  let⟨y,u,e⟩:=at_ h
  cases y with
  |v d=>cases e
  |ob a B=>cases B<;>cases e
 refine⟨tL E.fz,by rw[mn,E.len],λi d h=>?_,λi o h=>absurd h no,λi j o w p O P Q R=>absurd O no,E.tb.same A⟩;let⟨y,u,e⟩:=at_ h
 cases y with
 |v d'=>cases e;let⟨v,z,r⟩:=E.sl i d u;show⟨v,z,r.same A⟩
 |ob a B=>
  cases B with
  |lst ds=>
   cases e;let⟨p,z,_,r⟩:=E.ow i a _ u;let⟨I,vs,M,N⟩:=r.lst_inv;have F:p∈rh c ρ:=Mm.mpr ⟨i,Li.mpr (bj u),by rw[u,JX (show wV (Z (Z (Sm.ob a (Om.lst ds))))=ų from rfl),I];show JY⟩;have C:=N.same A;show⟨.ref p,z,.lst (uc F M E.fz) C.1 C.2⟩
  |_=>cases e
end
section
variable{K:Â}{X:Cx}{e:Ã}
noncomputable def zc(t:TD):TX:=λρ R _=>t (kX ρ) λd=>NoL d/\R (.v d) ρ
theorem Ej{t:TD}(h:PD K X e t):PX K X e (zc t):=⟨λj=>(h.pe j).imp λz H Q f=>by
 let⟨o,a,x,A,ρ,y,R,u,U,t,k⟩:=f;let⟨w,E⟩:=U.env;refine⟨a,_,kX ρ,_,E.viewL,t,λd p c v r g l=>?_⟩;have g':=jK E.fz g
 show k _ ρ _ c v r.2 ((U.gr g').pushV (l.thawN (view_same.trans g.f) r.1)) g'.f⟩
end
noncomputable def Gx:cB:=λa e R=>∃c y:Str,a=.str c/\e=.str y/\∀b:Bool,R (.bl b)
theorem HS{K:Â}{X:Cx}:OpD K X (Æ .NotIn) Gx:=⟨λA a s E H x y u v Q I l o e=>by
 let⟨p,r,w,R,sm,f,g,⟨c,z,rfl,rfl,h⟩,j⟩:=e;cases f.str;cases g.str;let⟨B,rfl⟩:=l;let⟨C,rfl⟩:=o
 show P.notIn_str ⟨.bl _,H,I,S,j _ p H _ (h _) (.refl sm) (.bl _)⟩⟩
section
variable{K:Â}{X:Cx}{a:Ã}{e:TD}{c f:Õ}
noncomputable def FG:V->Y V->Hp->VK->Prop:=λx vs H Q=>∃z:Str,x=.str z/\vs=[]/\(ì z).length<=sizeLine/\Q (.str (ì z)) H
theorem Fe:iG X "str.upper" FG:=by intro g s p H x vs v us Q I l j h;let⟨z,rfl,rfl,o,q⟩:=h;let⟨t,rfl⟩:=l;cases j;show SC.upper (by unfold Builtin.Str.tooLong;show Kd ()) ⟨.str _,H,I.tok _,⟨_,S⟩,q⟩
noncomputable def zf(e:TD):TD:=λρ R=>e ρ λx=>∃z,x=.str z/\(ì z).length<=sizeLine/\R (.str (ì z))
theorem BV(r:PQ K X a e)(h:Ç a "upper" X.env (eval a X.env)=eval a X.env:=by rfl)(j:(c.endLine==f.line)=ų:=by rfl):PD K X (.Call (.Attribute a "upper" c) [] [] f) (zf e):=
 ⟨λp=>(JB L5 PySem.F.slot_str_upper PySem.F.type_str_upper Fe (r.pe p) h j).imp λF H Q l=>by
  let⟨g,y,ρ,R,E,t,k⟩:=l;refine⟨g,y,ρ,_,E,t,λC A B x w o v=>?_⟩;let⟨z,rfl,u,q⟩:=w;cases v.str
  show⟨S,z,S,S,u,k _ _ _ _ q o (.str _)⟩⟩
end
section
variable{X:Cx}{e:Ã}{w tb:TE}{f C B A p o g:Õ}
noncomputable def PEk(X:Cx)(e:Ã)(t:TE):Prop:=∀(a:Y (Addr×Ð))(s:À)(c:St)(H:Hp)(Q:VK),0<s.toks->Inv X a c H s->t c H Q->wpAny (model X.prog X.w) X.A (eval e X.env) (EP X a c Q) X.xe s
noncomputable def qV(X:Cx)(st:Y Ë)(t:TS):Prop:=∀(a:Y (Addr×Ð))(s:À)(c:St)(H:Hp)(D:Ends),0<s.toks->Inv X a c H s->t D c H->wpAny (model X.prog X.w) X.A (execs st X.env) (SP X a D) X.xe s
theorem t9{i:Nat}{x:Str}(M:X.N[i]?=Z x)(Q:b7 X.env.scope x)(hd:(x==("__debug__":Str))=Ŵ)(F:(x==("__classdict__":Str))=Ŵ){j:Y (Addr×Ð)}{s:À}{E:St}{H:Hp}{v:V}(I:Inv X j E H s)(e:E[i]?=Z (Z v)) :
  wpAny (model X.prog X.w) X.A (eval (.Name x f) X.env) (λu R=>R=s/\RelV v u) X.xe s:=by
 let⟨m,P,N⟩:=I.loc;let⟨u,r,l⟩:=N i x v M e Q;have a:s=s/\RelV v u:=⟨S,r⟩;rcases l with⟨h,O⟩|⟨h,c,z,y⟩
 ·show Nb (wpAny_loadName_local I.ok.kind h P O a) hd
 ·rcases h with h|h
  ·show Nb (wpAny_loadName_cell I.ok.kind h z y a) hd
  ·show Nb (wpAny_loadName_free I.ok.kind h z y a F) hd
theorem A7{i n j:Nat}{x:Str}{a b:Y Ë}{t u:TS}(E:X.N[i]?=Z x)(O:b7 X.env.scope x)(hd:(x==("__debug__":Str))=Ŵ)(r:(x==("__classdict__":Str))=Ŵ)(F:qV X a t)(M:PSs X b u)
  {h:Y (Addr×Ð)} {s:À} {l:St} {H:Hp} {D:Ends} {m:Int} (I:Inv X h l H s) (e:l[i]?=Z (Z (.int m))) (y:m=(n:Int)->t D l H) (z:m≠(n:Int)->u D l H) :
  wpAny (model X.prog X.w) X.A (exec (.If (.Compare (.Name x C) [.Eq] [.Constant (.int (n:Int)) j B] A) a b f) X.env) (SP X h D) X.xe s:=by
 refine wpAny_If (M5 (aI (t9 E O hd r I e) λv P N=>Ő ?_));let⟨rfl,Q,rfl⟩:=N;refine eq_int (LC ?_)
 cases c:(m==(n:Int))with
 |true=>show F h _ l H D (Nat.succ_pos _) (I.tok _) (y (eq_of_beq c))
 |false=>show M h _ l H D (I.tok _) (z (K7.mp c))
theorem EN(y:PEk X e w):qV X [.Return (Z e) f] (vi w):=by intro a s c H D u I h;refine N4 (wpAny_Return_some (aI (y a s c H _ u I h) λv F r=>?_));let⟨x,j,l,E,z⟩:=r;show⟨x,c,j,l,E,z⟩
theorem A6{l:ñ}{r:R2}{a b:Ã}{z:TE}(U:bR X (Í l) r)(am:PEk X a z)(T:PE X b tb):PEk X (.BinOp a l b f) (g6 r z tb):=by intro c s j H Q R I h;refine wpAny_BinOp (aI (am c s j H _ R I h) λv s1 O=>?_);let⟨x,E,M,r1,ar⟩:=O;refine aI (T c s1 j E _ M ar) λu s2 P=>?_;let⟨y,F,N,r2,aw⟩:=P;show U c s2 j F x y v u Q N r1 r2 aw
noncomputable def GH(k:Nat)(a b:Str):TE:=λc H Q=>∃z:Str,c[k]?=Z (Z (.str z))/\z.length<=1048576/\Q (.str (õ z a b)) H
theorem IB{k j l:Nat}{x a b:Str}{c r:Õ}(P:X.N[k]?=Z x)(ar:b7 X.env.scope x)(hd:(x==("__debug__":Str))=Ŵ)(E:(x==("__classdict__":Str))=Ŵ)(O:(a==b)=Ŵ)(R:b.length<=14)
  (N:((backTo r (starEach [.Constant (.str a) j o,.Constant (.str b) l g] X.env)).all (λx=>!x.1)&&(Ù r (Î [] X.env)).all (λx=>x.1.isSome)&&decide (([.Constant (.str a) j o,.Constant (.str b) l g]:Y Ã).length+([]:Y Ï).length+(if ([]:Y Ï).isEmpty then 0 else 1)<30))=ų)
  (U:starEach [.Constant (.str a) j o,.Constant (.str b) l g] X.env=[(Ŵ,eval (.Constant (.str a) j o) X.env),(Ŵ,eval (.Constant (.str b) l g) X.env)])
  (F:Ç (.Name x p) "replace" X.env (eval (.Name x p) X.env)=eval (.Name x p) X.env) (M:(c.endLine==r.line)=ų) :
  PEk X (.Call (.Attribute (.Name x p) "replace" c) [.Constant (.str a) j o,.Constant (.str b) l g] [] r) (GH k a b):=by
 intro y s σ H Q h0 I h;let⟨z,aw,am,q⟩:=h;refine wpAny_Call_method_late F N M S (aI (t9 P ar hd E I aw) λv u T=>?_);let⟨rfl,tk,rfl⟩:=T;refine⟨"str","str.replace",L5,PySem.F.slot_str_replace,PySem.F.type_str_replace,MT _ _ _,(λa h=>by cases h),?_⟩;rw[U];refine M0 S (Calls.evalArgs_plain ?_);refine NC (show wpAny _ _ (eval (.Constant (.str a) j o) X.env) _ _ _ from NA ?_);refine NC (show wpAny _ _ (eval (.Constant (.str b) l g) X.env) _ _ _ from NA ?_);refine Calls.spliced_nil ?_;refine SC.replaceW (by change u.toks≠0;omega) (by change u.toks+1≠0;omega) (by change u.toks≠u.toks+1;omega) O am R λt' k=>?_;show⟨.str _,H,I.tok _,⟨t',S⟩,q⟩
end
section
variable{K:Â}{X:Cx}{e:Ã}{p tb:TX}{c A y w o l f:Õ}
structure PXk(K:Â)(X:Cx)(e:Ã)(t:TX):Prop where pe:X.K=K->PEk X e (lXm K X t)
structure PSsMk(K:Â)(X:Cx)(st:List Ë)(t:bG):Prop where ps:X.K=K->qV X st (lM K X t)
theorem PEk.imp{t t':TE}(h:PEk X e t)(k:∀g H Q,t' g H Q->t g H Q):PEk X e t':=λa s g H Q j I r=>h a s g H Q j I (k g H Q r)
noncomputable def Do(k:Nat)(a b:Str):TX:=λρ R _=>∃z:Str,ρ[k]?=Z (Z (.v (.str z)))/\z.length<=1048576/\R (.v (.str (õ z a b))) ρ
theorem Ih{h j:Nat}{x a b:Str}{g u:Õ}(k:Nat)(P:X.N[k]?=Z x)(aw:b7 X.env.scope x:=by nofun)(hd:ad x:=by decide)(B:ap x:=by decide)(N:(a==b)=Ŵ:=by decide)(T:b.length<=14:=by decide)
  (M:((backTo u (starEach [.Constant (.str a) h l,.Constant (.str b) j f] X.env)).all (λx=>!x.1)&&(Ù u (Î [] X.env)).all (λx=>x.1.isSome)&&decide (([.Constant (.str a) h l,.Constant (.str b) j f]:Y Ã).length+([]:Y Ï).length+(if ([]:Y Ï).isEmpty then 0 else 1)<30))=ų:=by rfl)
  (ar:starEach [.Constant (.str a) h l,.Constant (.str b) j f] X.env=[(Ŵ,eval (.Constant (.str a) h l) X.env),(Ŵ,eval (.Constant (.str b) j f) X.env)]:=by rfl)
  (C:Ç (.Name x o) "replace" X.env (eval (.Name x o) X.env)=eval (.Name x o) X.env:=by rfl) (F:(g.endLine==u.line)=ų:=by rfl) :
  PXk K X (.Call (.Attribute (.Name x o) "replace" g) [.Constant (.str a) h l,.Constant (.str b) j f] [] u) (Do k a b):=
 ⟨λ_=>(IB (k:=k) P aw hd B N T M ar C F).imp λσ H Q I=>by
  let⟨Φ0,H0,Φ,τ,ρ,κ,R,Rx,am,⟨z,hz,U,t⟩,k1⟩:=I;let⟨fp,E⟩:=am.env;let⟨v,O,r⟩:=E.sl k _ hz;obtain rfl:=r.s
  show⟨z,O,U,k1 _ ρ Φ H _ t (am.pushV (.str _)) (Same.refl _)⟩⟩
theorem EI{h:ñ}{r:cB}{a b:Ã}{j:TX}(x:OpD K X (Í h) r)(u:PXk K X a j)(v:PX K X b tb):PXk K X (.BinOp a h b c) (jM r j tb):=
 ⟨λg=>(A6 (x.o g) (u.pe g) (v.pe g)).imp λ_ _ _=>ny⟩
theorem zu(P:PXk K X e p):PSsMk K X [.Return (Z e) c] (kF p):=
 ⟨λO a s z H E N I M=>EN (P.pe O) a s z H E N I (by
  let⟨h,C,Q,ρ,B,g,V,t,k⟩:=M
  show⟨h,C,Q,[],ρ,[],_,B.ex,eu g V k.ex,t,λs u j F v r x _=>k.rt s u j F v z r x.g x.env1⟩)⟩
noncomputable def Cv(i n:Nat)(t u:bG):bG:=λa ρ=>∃m:Int,ρ[i]?=Z (Z (.v (.int m)))/\(m=(n:Int)->t a ρ)/\(m≠(n:Int)->u a ρ)
theorem Ac{n j:Nat}{x:Str}{a b:Y Ë}{t u:bG}(i:Nat)(T:X.N[i]?=Z x)(U:PSsMk K X a t)(ar:PSsM K X b u)
  (hv:b7 X.env.scope x:=by nofun) (hd:ad x:=by decide) (O:ap x:=by decide) :
  PSM K X (.If (.Compare (.Name x A) [.Eq] [.Constant (.int (n:Int)) j y] w) a b c) (Cv i n t u):=
 ⟨λC F s σ H E I P=>by
  let⟨h,B,M,ρ,z,g,V,⟨m,aw,R,am⟩,k⟩:=P;let⟨fp,N⟩:=id V;let⟨v,Q,r⟩:=N.sl i _ aw;obtain rfl:=r.i
  show A7 T hv hd O (U.ps C) (ar.ps C) I Q (λe=>⟨h,B,M,ρ,z,g,V,R e,k⟩) λe=>⟨h,B,M,ρ,z,g,V,am e,k⟩⟩
end
end L2
namespace Kx
open PySem L2
section
local macro_rules|`(tactic|rfl')=>`(tactic|dsimp only[bo,bg,aU,bh,bu,bp,bx,List.set])
variable{P:Ä}{w:Å}{K:Â}{mg:Str->Ų Value}{base:Heap}{n:Nat}{f:Addr}{G:É}
noncomputable def top(i:Nat):Ë:=PySem.Challenge.pw_cutyard_k08_first_amiss.main.body.getD i (.Pass ⟨0,0,0,0⟩)
noncomputable abbrev lP:Ë:=top 7
theorem Jy:FnScope ["row"] ["row"] (aQ lP):=by ac_rfl
noncomputable abbrev lB:Ë:=top 15
theorem Jz:FnScope ["word"] ["word"] (aQ lB):=by ac_rfl
noncomputable abbrev kY:Ë:=top 16
theorem qaw:FnScope ["word","figures"] ["word"] (aQ kY):=by ac_rfl
noncomputable abbrev nU:Ë:=top 17
theorem qaA:FnScope ["words","terms","place","number","name"] ["words"] (aQ nU):=by ac_rfl
noncomputable abbrev mQ:Ë:=top 18
theorem qaB:FnScope ["words","least","most"] ["words"] (aQ mQ):=by ac_rfl
noncomputable abbrev mX:Ë:=top 19
theorem qay:FnScope ["words","terms","number"] ["words"] (aQ mX):=by ac_rfl
noncomputable abbrev oP:Ë:=top 20
theorem qaC:FnScope ["words","terms"] ["words"] (aQ oP):=by ac_rfl
noncomputable abbrev nO:Ë:=top 21
theorem qav:FnScope ["line","words"] ["line"] (aQ nO):=by ac_rfl
noncomputable abbrev lN:Ë:=top 22
theorem qaz:FnScope ["terms","names","at","entries","came","number","name"] ["terms","names","at"] (aQ lN):=by ac_rfl
noncomputable abbrev k6:Ë:=top 23
theorem IC:FnScope ["entries"] ["entries"] (aQ k6):=by ac_rfl
noncomputable abbrev oa:Ë:=top 25
theorem qax:FnScope ["text","reading","lines","place","line","goal","sense","plan"] ["text"] (aQ oa):=by ac_rfl
noncomputable abbrev oq:Ë:=top 27
theorem BE:FnScope ["_law_told_here"] ["_law_told_here"] (aQ oq):=by ac_rfl
noncomputable abbrev ng:Ë:=top 28
theorem qan:FnScope ["_law_script","_law_seed","_law_cell","_law_rest"] ["_law_script"] (aQ ng):=by ac_rfl
noncomputable abbrev oU:Ë:=top 29
theorem qae:FnScope ["_law_pool_here","_law_many","_law_digit","_law_step","_law_mixed"] ["_law_pool_here","_law_many"] (aQ oU):=by ac_rfl
noncomputable abbrev nV:Ë:=top 30
theorem qah:FnScope ["_law_names_here","_law_name","_law_sign"] ["_law_names_here","_law_name"] (aQ nV):=by ac_rfl
noncomputable abbrev nR:Ë:=top 31
theorem qat:FnScope ["_law_pool_here","_law_size","_law_word_here","_law_k"] ["_law_pool_here","_law_size"] (aQ nR):=by ac_rfl
noncomputable abbrev pA:Ë:=top 32
theorem qaj:FnScope ["_law_pool_here","_law_count","_law_letters","_law_words","_law_manner","_law_shift","_law_base","_law_names_here","_law_k","_law_name","_law_at"] ["_law_pool_here","_law_count"] (aQ pA):=by ac_rfl
noncomputable abbrev nu:Ë:=top 33
theorem qak:FnScope ["_law_pool_here","_law_pick"] ["_law_pool_here"] (aQ nu):=by ac_rfl
noncomputable abbrev kO:Ë:=top 34
theorem qai:FnScope ["_law_pool_here","_law_names_here","_law_rows","_law_lines_here","_law_name","_law_numbers","_law_k","_law_words","_law_at","_law_kind"] ["_law_pool_here","_law_names_here","_law_rows"] (aQ kO):=by ac_rfl
noncomputable abbrev nC:Ë:=top 35
theorem qad:FnScope ["_law_pool_here","_law_lines_here","_law_name","_law_deed","_law_at","_law_to","_law_kind","_law_words","_law_numbers","_law_side","_law_spoil"] ["_law_pool_here","_law_lines_here","_law_name"] (aQ nC):=by ac_rfl
noncomputable abbrev lJ:Ë:=top 36
theorem qam:FnScope ["_law_line","_law_kind","_law_words","_law_numbers","_law_side","_law_spoil","_law_text"] ["_law_line"] (aQ lJ):=by ac_rfl
noncomputable abbrev oy:Ë:=top 37
theorem qal:FnScope ["_law_words","_law_spoil","_law_many","_law_place","_law_lawful","_law_other"] ["_law_words","_law_spoil"] (aQ oy):=by ac_rfl
noncomputable abbrev oN:Ë:=top 38
theorem qac:FnScope ["_law_text","_law_way","_law_pick","_law_words","_law_at","_law_some","_law_place","_law_signs","_law_sign"] ["_law_text","_law_way","_law_pick"] (aQ oN):=by ac_rfl
noncomputable abbrev pB:Ë:=top 39
theorem qap:FnScope ["_law_text","_law_spoil","_law_words","_law_bad"] ["_law_text","_law_spoil"] (aQ pB):=by ac_rfl
noncomputable abbrev nM:Ë:=top 40
theorem qaq:FnScope ["_law_words","_law_names_here","_law_at","_law_seen","_law_word_here"] ["_law_words","_law_names_here","_law_at"] (aQ nM):=by ac_rfl
noncomputable abbrev me:Ë:=top 41
theorem qag:FnScope ["_law_word_here","_law_body"] ["_law_word_here"] (aQ me):=by ac_rfl
noncomputable abbrev lx:Ë:=top 42
theorem CY:FnScope ["_law_word_here"] ["_law_word_here"] (aQ lx):=by ac_rfl
noncomputable abbrev oM:Ë:=top 43
theorem qar:FnScope ["_law_words","_law_k","_law_word_here"] ["_law_words"] (aQ oM):=by ac_rfl
noncomputable abbrev mr:Ë:=top 44
theorem qao:FnScope ["_law_line","_law_words","_law_many","_law_good","_law_kind","_law_some"] ["_law_line"] (aQ mr):=by ac_rfl
noncomputable abbrev mw:Ë:=top 45
theorem qaf:FnScope ["_law_lines_here","_law_names_here","_law_counts","_law_k","_law_line","_law_told_here","_law_kind","_law_words","_law_due_here"] ["_law_lines_here"] (aQ mw):=by ac_rfl
noncomputable abbrev kS:Ë:=top 46
theorem qas:FnScope ["_law_text","_law_told_here","_law_refusal","error","_law_parts"] ["_law_text"] (aQ kS):=by ac_rfl
noncomputable abbrev lZ:Ë:=top 47
theorem qau:FnScope ["_law_script","_law_pool_here","_law_names_here","_law_lines_here","_law_strange","_law_k","_law_text","_law_due_here"] ["_law_script"] (aQ lZ):=by ac_rfl
noncomputable abbrev n4:Ë:=iJ (top 24) 0
theorem Dx:FnScope ["self"] ["self"] (aQ n4):=by ac_rfl
noncomputable abbrev mE:Ë:=iJ (top 24) 1
theorem qaa:FnScope ["self","line","at","form"] ["self","line","at"] (aQ mE):=by ac_rfl
noncomputable abbrev oh:Ë:=iJ (top 24) 2
theorem Fk:FnScope ["self","form","at"] ["self","form","at"] (aQ oh):=by ac_rfl
noncomputable abbrev oo:Ë:=iJ (top 24) 3
theorem qab:FnScope ["self","form","at","entries","row"] ["self","form","at"] (aQ oo):=by ac_rfl
structure TxtReading(K:Â)(mg:Str->Option Value)(C:Addr):Prop where
 cl:Cls K C
 n_names:NoAttr K C "names"
 n_bounds:NoAttr K C "bounds"
 n_rows:NoAttr K C "rows"
 n_worth:NoAttr K C "worth"
 mgC:mg "Reading"=Z (.ref C)
 ns:Ú K Á "Reading"=Z (Z (.ref C))
noncomputable def cn:Y Str:=["YardError","NoName","Twice","TooGreat","NoText"]
noncomputable def eA:Str->Str->Bool:=λa b=>a==b ||b == "YardError"
noncomputable abbrev kr:Ë:=iJ (top 2) 0
theorem yO:FnScope ["self","at"] ["self","at"] (aQ kr):=by ac_rfl
noncomputable abbrev kJ:Ë:=iJ (top 3) 0
theorem yK:FnScope ["self","at"] ["self","at"] (aQ kJ):=by ac_rfl
noncomputable abbrev mf:Ë:=iJ (top 4) 0
theorem EB:FnScope ["self","at"] ["self","at"] (aQ mf):=by ac_rfl
noncomputable abbrev l0:Ë:=iJ (top 5) 0
theorem DS:FnScope ["self","at"] ["self","at"] (aQ l0):=by ac_rfl
theorem gL{a b:Int}(h:(a==b)=ų):a=b:=eq_of_beq h
theorem jh{a b:Int}(h:(a==b)=Ŵ):a≠b:=λe=>by subst e;rw[Kz]at h;cases h
open Tx
noncomputable def asc(w:Str):Prop:=w.cps.all (·<128)=ų/\w.length<=100000
theorem CD{w:Str}{i:Nat}{d:D}(h:(iR w)[i]?=Z d):∃c,d=.str (iU c)/\(L w)[i]?=Z c:=by unfold iR at h;rw[J4]at h;let⟨c,e,rfl⟩:=Lu.mp h;show⟨c,S,e⟩
theorem ki{R:Sm->Y Om->Prop}{a b:Bool}(q:R (.v (.bl a)) [])(h:b=a):R (.v (.bl b)) []:=by rw[h];show q
theorem uW{l:Y Nat}{a n:Nat}(e:l=(List.range n).map (a+·))(c:Nat):c∈l↔a<=c/\c<a+n:=by
 rw[e,Lb];constructor
 ·rintro⟨i,g,rfl⟩;have:=Li.mp g;omega
 ·show λh=>⟨c-a,Li.mpr (),()⟩
theorem yo(c:Nat):(Ŵ != decide (c∈("abcdefghijklmnopqrstuvwxyz":Str).cps.toList))=dQ c:=by rw[LM,Lw,Kt,uW (a:=97) (n:=26) 'a'];unfold dQ;rw[Kc,Kt,Kt];omega
theorem uh(c:Nat):(Ŵ != decide (c∈("0123456789":Str).cps.toList))=dq c:=by rw[LM,Lw,Kt,uW (a:=48) (n:=10) 'a'];unfold dq;rw[Kc,Kt,Kt];omega
theorem gq{w:Str}(h:w.length<=100000):w.length<=sizeLine:=by have:=KP;omega
theorem pz{n:Nat}(h:n<=100000):n<sizeLine:=by have:=KP;omega
theorem ef(w:Str):(L w).length=w.length:=by unfold L;rw[KQ];rfl
inductive z_is_name(ds:List D)(R:D->Prop):Prop|mk (w:Str) (_:ds=[.str w]) (_:asc w) (_:R (.bl (bf w)))
theorem Bi(F:Fun K "is_name" "is_name" lB f G)(t:mg "all"=ű)(o:∃g,mg "MOST_LETTERS"=Z (.int 12 g))(j:mg "len"=ű)(p:∃g,mg "LETTERS"=Z (.str "abcdefghijklmnopqrstuvwxyz" g)):FnOk P w K mg base bt (n+1) f G ["word"] (lSpM K (zM z_is_name)):=by
 refine F.okM Jz (λas R r h=>?_) (λx A outer s H E as R r B v y h l=>?_)
 ·let⟨_,rfl,w,rfl,_⟩:=h;rfl
 let⟨_,rfl,w,rfl,e,q⟩:=h;obtain rfl:=cI l
 refine⟨_,(aK (aJ (aM (PWD.td (cQ (aD iP (PD.q (bz bF S j J7 (aV (aa 0) aW ae) ae ao)) (PD.q ah) (aC _)) (ee (aD da (PD.q (bz bF S j J7 (aV (aa 0) aW ae) ae ao)) (PD.q (oA S o.choose_spec)) (aC _)))))) (ak (aL (ag oG))) aN)
   (ak (aL (ag (bz (ky S) S t Mb (aV (PD.q (PF.d (ic (k:=1) (N':=["sign"]) (cap:=[ű]) S (.ok (show fK ["word"] (aQ lB) _ ["sign"] [ű]=ų by lia)) 'a' (gI 'b') (kE (dv 0)) (λ_ _ _ _ _=>(gC (i:=0) (show List.Nodup (["sign"]:Y Str)by lia) S X9)) (λ_ _ _ _ _=>(c8 nK (aa 0) (PD.q (tO S p.choose_spec)) (by with_unfolding_all rfl)))))) aW dG) dG ao))))),?_⟩
 intro z;have sz:=gq e.2
 have no:¬ (1<=w.length/\w.length<=12)->bf w=Ŵ:=λh=>by
  unfold bf;rcases Nz.mp h with h|h
  ·rw[Kd h];rfl
  ·rw[Kd h,Bool.and_false];rfl
 refine⟨λρ=>(1<=w.length/\w.length<=12)/\ρ=[Z (.v (.str w))],?_,?_⟩
 ·refine⟨sz,λh=>⟨λ_=>?_,λh=>tf h⟩,λh=>⟨sz,λa=>?_,λa=>⟨⟨?_,?_⟩,S⟩⟩⟩
  ·show ki q (no (by have:=J8 h;omega)).symm
  ·show ki q (no (by have:=J8 a;omega)).symm
  ·have:=Ke h;omega
  ·have:=Ke a;omega
 rintro ρ ⟨⟨u,a⟩,rfl⟩;refine⟨w,S,e.1,?_⟩;refine i8 (f:=λc=>D.str (iU c)) (λc=>D.bl (dQ c)) (by rw[KQ];show pz e.2) (λc _=>⟨c,_,S,S,by rw[yo]⟩) ?_;refine⟨(L w).map dQ,by rw[L9];rfl,?_⟩;refine ki q ?_;unfold bf;rw[Kw u,Kw a];change ((L w).map dQ).all id=_;rw[Nk];rfl
theorem Jw(w:Str):ô w "-"=((L w).head?==Z 45):=by
 have a:("-":Str)=⟨#[45]⟩:=by decide
 have h:=PySem.StrLaws.subAt_one w 45 0;rw[a,Lw,L3,M1];refine Iff.trans ?_ h;unfold ô;rw[Kc,Kt]
noncomputable def ia(l:Y Nat):Y Nat:=match l with|45::r=>r|l=>l
theorem oC{l:Y Nat}(h:(l.head?==Z 45)=ų):∃r,l=45::r/\ia l=r:=by
 cases l with
 |nil=>cases h
 |cons a r=>
  have:a=45:=by simpa using h
  subst this;show⟨r,S,S⟩
theorem og{l:Y Nat}(h:(l.head?==Z 45)=Ŵ):ia l=l/\gO l=if cT l&&(l.head? != Z 48 ||l==[48]) then Z (á l:Int) else ű:=by
 unfold ia gO;constructor
 ·split
  ·next r=>simp at h
  ·rfl
 ·split
  ·next r=>simp at h
  ·rfl
theorem nY{l:Y Nat}(h:cT (ia l)=Ŵ):gO l=ű:=by
 cases c:l.head?==Z 45 with
 |true=>
  let⟨r,rfl,e⟩:=oC c;rw[e]at h;change (if cT r&&_ then _ else ű)=ű;rw[h];rfl
 |false=>
  let⟨e,a⟩:=og c;rw[e]at h;rw[a,h];rfl
theorem vg{l:Y Nat}(h:(ia l).head?=Z 48)(g:l≠[48]):gO l=ű:=by
 cases c:l.head?==Z 45 with
 |true=>
  let⟨r,rfl,e⟩:=oC c;rw[e]at h;change (if cT r&&r.head? != Z 48 then _ else ű)=ű;rw[h];simp
 |false=>
  let⟨e,a⟩:=og c;rw[e]at h;rw[a,h];simp[g]
theorem sC{l:Y Nat}(h:cT (ia l)=ų)(a:(ia l).head?≠Z 48\/l=[48]):∃n,gO l=Z n:=by
 cases c:l.head?==Z 45 with
 |true=>
  let⟨r,rfl,e⟩:=oC c;rw[e]at h a;refine⟨-(á r:Int),?_⟩;change (if cT r&&r.head? != Z 48 then _ else ű)=_;rcases a with a|a
  ·rw[h,bne_iff_ne.mpr a];rfl
  ·cases a
 |false=>
  let⟨e,g⟩:=og c;rw[e]at h a;refine⟨(á l:Int),?_⟩;rw[g,h,JX];rcases a with a|a
  ·rw[bne_iff_ne.mpr a];rfl
  ·rw[a];rfl
theorem yR(l:Y Nat):aT l (Z 1) ű=l.drop 1:=by
 unfold aT;rw[HT.sIx_none,show (Z (1:Int))=Z ((1:Nat):Int)from rfl,HT.sIx_nat];rw[K9 (by rw[Kr];omega)]
 cases l with
 |nil=>rfl
 |cons a r=>simp
noncomputable def bw(w:Str):Str:=if ((L w).head?==Z 45)=ų then cutS w (Z 1) ű else w
theorem ie(w:Str):L (bw w)=ia (L w):=by
 unfold bw
 cases c:(L w).head?==Z 45 with
 |true=>
  rw[JX S];let⟨r,e,a⟩:=oC c;rw[a];change (aT (L w) (Z 1) ű).toArray.toList=r;rw[yR,e];rfl
 |false=>rw[JV (by simp)];show (og c).1.symm
theorem tR{w:Str}(h:asc w):asc (bw w):=by
 have j:(bw w).length<=w.length:=by
  unfold bw;split
  ·show Cm _ _ _
  ·show J0 _
 refine⟨?_,by have:=h.2;omega⟩;rw[←MH,Kf];intro c a;have g:=h.1;rw[←MH,Kf]at g;refine g c ?_;have a:c∈L (bw w):=a;rw[ie]at a;unfold ia at a;split at a
 ·next r e=>
  change c∈L w;rw[e];show JZ _ a
 ·show a
noncomputable def qu:Ų Int->D
 |none=>.non
 |some n=>.int n
inductive z_number_form(ds:List D)(R:D->Prop):Prop|mk (w:Str) (_:ds=[.str w]) (_:asc w) (_:R (qu (br w)))
theorem vm{w:Str}(h:(w == "0")=ų):L w=[48]:=by have:=eq_of_beq h;subst this;decide
theorem GT(F:Fun K "number_form" "number_form" kY f G)(am:mg "int"=ű)(M:∃x,mg "MOST_FIGURES"=Z (.int 4 x))(U:mg "all"=ű)(y:mg "len"=ű)(O:∃x,mg "FIGURES"=Z (.str "0123456789" x)):FnOk P w K mg base bt (n+1) f G ["word"] (lSpM K (zM z_number_form)):=by
 refine F.okM qaw (λas R Q h=>?_) (λO1 A outer s H E as R Q qs O0 I h J=>?_)
 ·let⟨_,rfl,w,rfl,_⟩:=h;rfl
 let⟨_,rfl,w,rfl,C,q⟩:=h;obtain rfl:=cI J
 refine⟨_,(aK (aF (i:=1) qaw.nd S X9 (ag (pK (fi (PD.q (Hd (aa 0) aq (bZ aj) aj)) (λ_=>rfl)) (bH (aa 0) (bD (PD.q ah)) bO) (dv 0))))
   (aK (aJ (aM (PWD.td (cQ (aD iP (PD.q (bz bF S y J7 (aV (aa 1) aW ae) ae ao)) (PD.q ah) (aC _)) (ee (aD da (PD.q (bz bF S y J7 (aV (aa 1) aW ae) ae ao)) (PD.q (oA S M.choose_spec)) (aC _)))))) (ak (aL (ag bL))) aN)
   (aK (aJ (aM (ib (fi (PD.q (bz (ky S) S U Mb (aV (PD.q (PF.d (ic (k:=1) (N':=["sign"]) (cap:=[ű]) S (.ok (show fK ["word","figures"] (aQ kY) _ ["sign"] [ű]=ų by lia)) 'a' (gI 'b') (kE (dv 1)) (λ_ _ _ _ _=>(gC (i:=0) (show List.Nodup (["sign"]:Y Str)by lia) S X9)) (λ_ _ _ _ _=>(c8 nK (aa 0) (PD.q (tO S O.choose_spec)) (by with_unfolding_all rfl)))))) aW dG) dG ao)) (λ_=>rfl)))) (ak (aL (ag bL))) aN)
   (aK (aJ (aM (PWD.td (gv (aD (aX I.units) (PD.q (aS (aa 1))) (PD.q aq) (aC _)) (iZ (aD (fP I.units) (aa 0) (PD.q aq) (aC _)))))) (ak (aL (ag bL))) aN)
   (ak (aL (ag (df GZ S am KY (aV (aa 0) aW ae) ae ao)))))))),?_⟩
 intro ke;have sz:=gq C.2;have u:=tR C;have t:=gq u.2
 have v:gO (L w)=ű->R (.v .non) []:=λh=>by have:br w=ű:=h;rw[this]at q;show q
 refine⟨λρ=>ρ=[Z (.v (.str w)),Z (.v (.str (bw w)))],?_,?_⟩
 ·refine⟨_,S,_,S,?_⟩;rw[Jw];refine⟨λh=>⟨sz,_,S,?_⟩,λh=>?_⟩
  ·unfold bw;rw[JX h];rfl
  ·unfold bw;rw[h,JV (by simp)];rfl
 rintro ρ rfl
 have X:∀f:Str,cT (L f)=ų->1<=f.length/\f.length<=4:=λf h=>by unfold cT at h;simp only[Kc,Kt,ef]at h;show h.1
 refine⟨λρ=>(1<=(bw w).length/\(bw w).length<=4)/\ρ=[Z (.v (.str w)),Z (.v (.str (bw w)))],?_,?_⟩
 ·have j:¬ (1<=(bw w).length/\(bw w).length<=4)->R (.v .non) []:=λh=>v (nY (by
   rw[←ie]
   cases e:cT (L (bw w))with
   |false=>rfl
   |true=>show absurd (X _ e) h))
  refine⟨t,λh=>⟨λ_=>j ?_,λh=>tf h⟩,λh=>⟨t,λg=>j ?_,λg=>⟨⟨?_,?_⟩,S⟩⟩⟩
  ·have:=J8 h;omega
  ·have:=J8 g;omega
  ·have:=Ke h;omega
  ·have:=Ke g;omega
 rintro ρ ⟨⟨l1,l4⟩,rfl⟩;refine⟨λρ=>cT (L (bw w))=ų/\ρ=[Z (.v (.str w)),Z (.v (.str (bw w)))],⟨bw w,S,u.1,?_⟩,?_⟩
 ·refine i8 (f:=λc=>D.str (iU c)) (λc=>D.bl (dq c)) (by rw[KQ];show pz u.2) (λc _=>⟨c,_,S,S,by rw[uh]⟩) ?_;refine⟨(L (bw w)).map dq,by rw[L9];rfl,?_⟩
  have e:(((L (bw w)).map dq).all id)=(L (bw w)).all dq:=by rw[Nk];rfl
  have B:cT (L (bw w))=(L (bw w)).all dq:=by unfold cT;rw[ef,Kw l1,Kw l4];rfl
  refine⟨λh=>?_,λh=>?_⟩
  ·refine v (nY ?_);rw[←ie,B,←e];simpa using h
  ·refine⟨?_,S⟩;rw[B,←e];simpa using h
 rintro ρ ⟨l,rfl⟩
 have hd:∃c,(L (bw w)).head?=Z c:=by
  cases e:L (bw w)with
  |nil=>have:=ef (bw w);rw[e]at this;simp at this;omega
  |cons a r=>show⟨a,S⟩
 let⟨c,o⟩:=hd;have N:bT (bw w).cps.toList 0=Z c:=mh (i:=0) (by rw[←M1];show o) S;refine⟨λρ=>(c≠48\/L w=[48])/\ρ=[Z (.v (.str w)),Z (.v (.str (bw w)))],⟨t,c,N,λh=>⟨λg=>?_,λg=>⟨.inr ?_,S⟩⟩,λh=>⟨λg=>ff g,λ_=>⟨.inl λe=>?_,S⟩⟩⟩,?_⟩
 ·have e:=eq_of_beq h
  have T:c=48:=by
   have aw:L (⟨#[c]⟩:Str)=L "0":=KG L e;have:[c]=[48]:=aw.trans 'b';show Ou this
  refine v (vg (by rw[←ie,o,T]) λz=>?_);have:w="0":=dR (z.trans 'b');rw[this]at g;show ff g
 ·show vm (by simpa using g)
 ·subst e;show absurd h 'b'
 rintro ρ ⟨hw,rfl⟩;rw[ie]at l o;let⟨n,p⟩:=sC l (by rw[o];rcases hw with h|h;show .inl (λe=>h (Kh e));show .inr h);have p:br w=Z n:=p;let⟨ar,g⟩:=GN p;rw[p]at q;show⟨w,n,S,(),ar,q⟩
noncomputable def fB(t:Tm):D:=.tup [.int t.1,.str t.2]
noncomputable def zB:Ų (Y Tm)->D
 |none=>.non
 |some a=>.tup (a.map fB)
open Tx
inductive z_sum_form(ds:List D)(R:D->Prop):Prop|mk (ws:List Str) (_:ds=[.lst (ws.map D.str)]) (_:ws.length<=1000) (_:(∀w∈ws,asc w)) (_:R (zB (du ws)))
theorem xQ(ws:Y Str):bS 40 (.lst (ws.map D.str)) (.lst [.str "0"])=Z (decide (ws=[("0":Str)])):=by
 match ws with
 | []=>rfl
 | [w]=>
  change (if 1=1 then eK (bS 39) [.str w] [.str "0"] else Z Ŵ)=_;rw[JX S];change ((bS 39 (.str w) (.str "0")).bind λb=>(eK (bS 39) [] []).map (b&&·))=_;change Z ((w == "0")&&ų)=_;rw[Bool.and_true];congr 1;rw[Lw];simp
 |w::a::r=>
  change (if ((w::a::r).map D.str).length=1 then _ else Z Ŵ)=_;rw[JV (by simp)];simp
theorem yp{i:Nat}{ρ:bE}{d:D}{R:D->Prop}(h:ρ[i]?=Z (Z (.v d)))(k:R d):dm i ρ R:=by unfold dm;rw[h];show k
theorem vJ{d e:D}{b:Bool}{R:D->Prop}(h:bS 40 d e=Z b)(q:R (.bl b)):i5 d e R:=by unfold i5;rw[h];show q
noncomputable def iw(ws:Y Str)(N i:Nat)(a:Y Tm):Prop:=bM ws=if i=N then Z a else (if i=0\/ax ws (3*i-1)="+" then (bM (ws.drop (3*i))).map (a++·) else ű)
theorem mG{ws:Y Str}{i:Nat}{w:Str}(h:ws[i]?=Z w):ax ws i=w:=by unfold ax;rw[LI,h];rfl
theorem pJ{ws:Y Str}{i:Nat}{w:Str}(h:ws[i]?=Z w):ws.drop i=w::ws.drop (i+1):=by let⟨a,e⟩:=KO.mp h;rw[←e];show Lv a
theorem C5{ws:Y Str}{N i:Nat}{v:Y Tm}(A:ws.length+1=3*N)(B:i<N)(h:iw ws N i v):∃a b,ws[3*i]?=Z a/\ws[3*i+1]?=Z b/\(br a=ű->bM ws=ű)/\(bf b=Ŵ->bM ws=ű)/\(0<i->ax ws (3*i-1)≠"+"->bM ws=ű)/\∀n,br a=Z n->bf b=ų->(i=0\/ax ws (3*i-1)="+")->iw ws N (i+1) (v++[(n,b)]):=by
 have o:ws[3*i]?=Z (ws[3*i]'()):=Km ();have r:ws[3*i+1]?=Z (ws[3*i+1]'()):=Km ();generalize ws[3*i]'()=a at o;generalize ws[3*i+1]'()=b at r
 have hd:ws.drop (3*i)=a::b::ws.drop (3*i+2):=by rw[pJ o,pJ r]
 unfold iw at h;rw[JV (),hd]at h;refine⟨a,b,o,r,?_⟩;by_cases c:i+1=N
 ·have e:ws.drop (3*i+2)=[]:=OH ();rw[e]at h
  have u:bM [a,b]=match br a with|some n=>if bf b then Z [(n,b)] else ű|none=>ű:=rfl
  rw[u]at h;refine⟨λz=>?_,λz=>?_,λj g=>?_,λn j g y=>?_⟩
  ·rw[h,z];split<;>rfl
  ·rw[h,z];split
   ·cases br a<;>rfl
   ·rfl
  ·rw[h,JV (by intro z;rcases z with z|z;omega;show g z)]
  ·unfold iw;rw[JX c,h,JX y,j];change (if bf b=ų then Z [(n,b)] else ű).map _=_;rw[JX g];rfl
 ·have t:ws[3*i+2]?=Z (ws[3*i+2]'()):=Km ();generalize ws[3*i+2]'()=p at t;have e:ws.drop (3*i+2)=p::ws.drop (3*(i+1)):=pJ t;rw[e]at h
  have u:bM (a::b::p::ws.drop (3*(i+1)))=match br a with|some n=>if bf b then (if p="+" then (bM (ws.drop (3*(i+1)))).map ((n,b)::·) else ű) else ű|none=>ű:=by first|(rw[bM];rfl)|rw[bM]
  rw[u]at h;refine⟨λz=>?_,λz=>?_,λj g=>?_,λn j g y=>?_⟩
  ·rw[h,z];split<;>rfl
  ·rw[h,z];split
   ·cases br a<;>rfl
   ·rfl
  ·rw[h,JV (by intro z;rcases z with z|z;omega;show g z)]
  ·unfold iw;rw[JV c,h,JX y,j];change (if bf b=ų then (if p="+" then (bM (ws.drop (3*(i+1)))).map ((n,b)::·) else ű) else ű).map (v++·)=_;rw[JX g,show 3*(i+1)-1=3*i+2 by omega,mG t];by_cases l:p="+"
   ·rw[JX l,JX (.inr l),Option.map_map];congr 1
    funext x
    simp
   ·rw[JV l,JV (by intro z;rcases z with z|z;omega;show l z)];rfl
theorem ud{n N:Nat}(h:n+1=3*N):fM 0 (n:Int) 3=N:=by unfold fM;omega
theorem GI(F:Fun K "sum_form" "sum_form" nU f G)(kq:Cl P w K mg base n "number_form" ["word"] z_number_form)(r8:Cl P w K mg base n "is_name" ["word"] z_is_name)(eh:mg "range"=ű)(cx:mg "tuple"=ű)(I:mg "len"=ű):FnOk P w K mg base bt (n+1) f G ["words"] (lSpM K (zM z_sum_form)):=by
 refine F.okM qaA (λas R Rx h=>?_) (λO1 A outer s H E as R Rx qs O0 t h ar=>?_)
 ·let⟨_,rfl,ws,rfl,_⟩:=h;rfl
 let⟨_,rfl,ws,rfl,hl,T,q⟩:=h;obtain rfl:=cI ar
 refine⟨_,(aK (aJ (aM (aD (aX t.units) (aa 0) (PD.q (PF.d (bQ (af aq av aj)))) (aC _))) (ak (aL (ag (bB av)))) aN)
   (aK (aJ (aM (aD (fP t.units) (PD.q (aE cF (PD.q (bz bF S I J7 (aV (aa 0) aW ae) ae ao)) (PD.q ah))) (PD.q ah) (aC _))) (ak (aL (ag bL))) aN)
   (aG (aF (i:=1) qaA.nd S X9 (eO (bQ av)))
   (aG (eQ Le S (fh (Cq S eh (af ah (af (bz bF S I J7 (aV (aa 0) aW ae) ae ao) (af ah av aj) bK) aj))) (bY (i:=2) qaA.nd S X9) (aG (aF (i:=3) qaA.nd S X9 (ag (bX kq t S (af (bV (aa 0) (aa 2) (λ_ _=>rfl)) av aR) aR ao)))
   (aG (aF (i:=4) qaA.nd S X9 (ag (bV (aa 0) (PD.q (aE aY (aa 2) (PD.q ah))) (λ_ _=>rfl))))
   (aK (aJ (aM (PWD.td (cQ (aD fS (aa 3) (PD.q bL) (aC _)) (ee (ib (fi (PD.q (bX r8 t S (af (dv 4) av ae) ae ao)) (λ_=>rfl))))))) (ak (aL (ag bL))) aN)
   (aK (aJ (aM (PWD.td (gv (aD da (aa 2) (PD.q ah) (aC _)) (iZ (aD (fP t.units) (PD.q (bV (aa 0) (PD.q (aE fJ (aa 2) (PD.q ah))) (λ_ _=>rfl))) (PD.q aq) (aC _)))))) (ak (aL (ag bL))) aN)
   (ak (iM 1 (ag (bB (af (dv 3) (af (dv 4) av ae) ae))) (bZ dY) dY)))))))
   (ak (aL (ag (df hZ S cx KN (aV (aa 1) aW ae) ae ao)))))))),?_⟩
 intro ke;have at_:∀{i:Nat}{w:Str}{k:Int},ws[i]?=Z w->k=(i:Int)->bT (ws.map D.str) k=Z (.str w):=λh e=>ji h e;refine⟨λρ=>ws≠[("0":Str)]/\ρ=[Z (.v (.lst (ws.map D.str))),ű,ű,ű,ű],?_,?_⟩
 ·dsimp only[lR,xB,kj,dA,kP,l9,eN,dC,gX];refine yp (d:=.lst (ws.map D.str)) S ?_;refine vJ (xQ ws) ?_;refine⟨λh=>?_,λh=>⟨Ke h,S⟩⟩;have h:=J8 h;unfold du at q;rw[JX h]at q;show q
 rintro ρ ⟨aw,rfl⟩
 have X:du ws=if ws.length % 3=2 then bM ws else ű:=by unfold du;rw[JV aw]
 refine⟨λρ=>ws.length % 3=2/\ρ=[Z (.v (.lst (ws.map D.str))),ű,ű,ű,ű],?_,?_⟩
 ·have e:(((ws.map D.str).length:Nat):Int) % 3=((ws.length % 3:Nat):Int):=by rw[mn];omega
  refine⟨(by decide:(0:Int)<3),λh=>?_,λh=>⟨?_,S⟩⟩
  ·have o:ws.length % 3≠2:=λz=>by rw[e,z]at h;show ff h
   rw[X,JV o]at q;show q
  ·by_cases c:ws.length % 3=2
   ·show c
   ·exfalso;rw[e]at h
    have:(((ws.length % 3:Nat):Int)==2)=ų:=by simpa using h
    have:=gL this;omega
 rintro ρ ⟨h3,rfl⟩;rw[X,JX h3]at q;obtain⟨N,u⟩:∃N,ws.length+1=3*N:=⟨(ws.length+1)/3,()⟩
 have am:(((ws.map D.str).length:Nat):Int)=(ws.length:Int):=by rw[mn]
 refine⟨0,_,3,S,⟨'b','b',(),(),'b','b'⟩,?_⟩;refine⟨λi ρ=>∃(g:Y Tm)(x y B:Ų Sm),ρ=[Z (.v (.lst (ws.map D.str))),Z (.own (g.map fB)),x,y,B]/\g.length=i/\iw ws N i g,⟨[],_,_,_,S,S,?_⟩,?_,?_⟩
 ·unfold iw;rw[JV (),JX (.inl S),Nat.mul_zero,Mf];cases bM ws<;>rfl
 ·rintro i d ρ hd ⟨g,x,y,B,rfl,U,l⟩;unfold i4 at hd;rw[J4]at hd;let⟨j,hj,rfl⟩:=Lu.mp hd;let⟨C,J⟩:=KO.mp hj;rw[List.getElem_range]at J;subst J;rw[Me,am,ud u]at C;let⟨a,b,O,Q,n1,n2,n3,go⟩:=C5 u C l
  have v:bM ws=ű->R (.v .non) []:=λz=>by rw[z]at q;show q
  have aA:=T a (Kp O);have aB:=T b (Kp Q);refine⟨_,at_ O (),a,S,aA,?_⟩;refine⟨_,at_ Q (),?_⟩;refine⟨λρ=>∃n,br a=Z n/\bf b=ų/\ρ=[Z (.v (.lst (ws.map D.str))),Z (.own (g.map fB)),Z (.v (.int (0+(i:Int)*3))),Z (.v (.int n)),Z (.v (.str b))],?_,?_⟩
  ·cases e:br a with
   |none=>show⟨λ_=>⟨λ_=>v (n1 e),λh=>tf h⟩,λh=>tf h⟩
   |some n=>
    refine⟨λh=>ff h,λ_=>⟨b,S,aB,?_⟩⟩
    cases e2:bf b with
    |false=>show⟨λ_=>v (n2 e2),λh=>tf h⟩
    |true=>show⟨λh=>ff h,λ_=>⟨n,S,S,S⟩⟩
  rintro ρ ⟨n,hn,hb,rfl⟩;refine⟨λρ=>(i=0\/ax ws (3*i-1)="+")/\ρ=[Z (.v (.lst (ws.map D.str))),Z (.own (g.map fB)),Z (.v (.int (0+(i:Int)*3))),Z (.v (.int n)),Z (.v (.str b))],⟨λh=>?_,λh=>⟨λh=>ff h,λ_=>⟨.inl (by have:=Ke h;omega),S⟩⟩⟩,?_⟩
  ·have h:=J8 h;have r:ws[3*i-1]?=Z (ws[3*i-1]'()):=Km ();generalize ws[3*i-1]'()=p at r;have M:=mG r;refine⟨_,at_ r (),λo=>v (n3 () ?_),λo=>⟨.inr ?_,S⟩⟩
   ·rw[M];intro z;subst z;show ff o
   ·rw[M];show eq_of_beq (by simpa using o)
  rintro ρ ⟨r,rfl⟩;refine⟨ed (by rw[mn];omega),_,dX fB g (n,b),g++[(n,b)],_,_,_,S,by rw[wy,U];rfl,go n hn hb r⟩
 ·rintro ρ ⟨g,x,y,B,rfl,U,l⟩
  have e:(i4 0 (((ws.map D.str).length:Nat):Int) 3).length=N:=by unfold i4;rw[mn,Me,am,ud u]
  rw[e]at l;unfold iw at l;rw[JX S]at l;rw[l]at q;show q
open Tx
noncomputable def gE:Frm->D
 |.unk x l m=>.tup [.str "unknown",.str x,.tup [.int l,qu m]]
 |.row a b t=>.tup [.str "row",.tup (a.map fB),.int b,.bl t]
 |.worth a s=>.tup [.str "worth",.tup (a.map fB),.int s]
noncomputable def jz:Ų Frm->D
 |none=>.non
 |some f=>gE f
theorem cL{ws:Y Str}{k:Int}(i:Nat)(a:i<ws.length)(e:k=(i:Int)):bT (ws.map D.str) k=Z (.str (ax ws i)):=ji (by rw[mG (Km a)];show Km a) e
theorem mi{ws:Y Str}{i:Nat}(a:i<ws.length):ax ws i∈ws:=by rw[mG (Km a)];show LJ a
inductive z_unknown_form(ds:List D)(R:D->Prop):Prop|mk (ws:List Str) (_:ds=[.lst (ws.map D.str)]) (_:ws.length<=1000) (_:(∀w∈ws,asc w)) (_:R (jz (fZ ws)))
theorem qZ{a b:Str}(h:(!(a==b))=Ŵ):a=b:=eq_of_beq (by simpa using h)
theorem qA{a b:Str}(h:(!(a==b))=ų):a≠b:=λe=>by subst e;simp at h
theorem wz{n:Nat}:gn (.inl (n:Int)) [.inl 4,.inl 6]=decide (n=4\/n=6):=by rw[Lw,rK,Kt];simp;omega
theorem xy{b:Bool}(h:(ų != b)=ų):b=Ŵ:=by cases b<;>simp_all
theorem vP{b:Bool}(h:(ų != b)=Ŵ):b=ų:=by cases b<;>simp_all
theorem C3(F:Fun K "unknown_form" "unknown_form" mQ f G)(u:Cl P w K mg base n "number_form" ["word"] z_number_form)(C:Cl P w K mg base n "is_name" ["word"] z_is_name)(r:mg "len"=ű):FnOk P w K mg base bt (n+1) f G ["words"] (lSpM K (zM z_unknown_form)):=by
 refine F.okM qaB (λas R x h=>?_) (λJ A outer s H E as R x Q I c h v=>?_)
 ·let⟨_,rfl,ws,rfl,_⟩:=h;rfl
 let⟨_,rfl,ws,rfl,N,o,q⟩:=h;obtain rfl:=cI v
 refine⟨_,(aK (aJ (aM (PWD.td (cQ (aD kg (PD.q (bz bF S r J7 (aV (aa 0) aW ae) ae ao)) (PD.q (bB (af ah (af ah av aj) aj))) (by with_unfolding_all rfl)) (cQ (aD (fP c.units) (PD.q (aS (aa 0))) (PD.q aq) (aC _)) (ee (ib (fi (PD.q (bX C c S (af (aS (aa 0)) av aR) aR ao)) (λ_=>rfl)))))))) (ak (aL (ag bL))) aN)
   (aG (aF (i:=1) qaB.nd S X9 (ag (bX u c S (af (aS (aa 0)) av aR) aR ao)))
   (aK (aJ (aM (aD fS (aa 1) (PD.q bL) (aC _))) (ak (aL (ag bL))) aN)
   (aK (aJ (aM (aD (aX c.units) (PD.q (bz bF S r J7 (aV (aa 0) aW ae) ae ao)) (PD.q ah) (aC _))) (ak (aL (ag (bB (af aq (af (aS (aa 0)) (af (bB (af (dv 1) (af bL av aj) ae)) av dY) aR) aj))))) aN)
   (aG (aF (i:=2) qaB.nd S X9 (ag (bX u c S (af (aS (aa 0)) av aR) aR ao)))
   (aK (aJ (aM (PWD.td (cQ (aD (fP c.units) (PD.q (aS (aa 0))) (PD.q aq) (aC _)) (ee (aD fS (aa 2) (PD.q bL) (aC _)))))) (ak (aL (ag bL))) aN)
   (ak (aL (ag (bB (af aq (af (aS (aa 0)) (af (bB (af (dv 1) (af (dv 2) av ae) ae)) av dY) aR) aj))))))))))),?_⟩
 intro O
 have B:(((ws.map D.str).length:Nat):Int)=(ws.length:Int):=by rw[mn]
 have a:¬ ((ws.length=4\/ws.length=6)/\ax ws 2="from"/\bf (ax ws 1)=ų)->R (.v .non) []:=λh=>by unfold fZ at q;rw[JV h]at q;show q
 refine⟨λρ=>((ws.length=4\/ws.length=6)/\ax ws 2="from"/\bf (ax ws 1)=ų)/\ρ=[Z (.v (.lst (ws.map D.str))),ű,ű],?_,?_⟩
 ·refine⟨.inl _,[.inl 4,.inl 6],S,S,?_⟩;rw[B,wz];refine⟨λh=>⟨λ_=>a λz=>?_,λh=>tf h⟩,λh=>?_⟩
  ·show Ke (xy h) z.1
  have p:=J8 (vP h);refine⟨_,cL 2 () S,λj=>⟨λ_=>a λz=>qA j z.2.1,λh=>tf h⟩,λj=>?_⟩;refine⟨_,cL 1 () S,_,S,o _ (mi ()),?_⟩
  cases e:bf (ax ws 1)with
  |false=>show⟨λ_=>a λz=>(by rw[e]at z;cases z.2.2),λh=>tf h⟩
  |true=>show⟨λh=>ff h,λ_=>⟨⟨p,qZ j,S⟩,S⟩⟩
 rintro ρ ⟨t,rfl⟩;unfold fZ at q;rw[JX t]at q;have p:=t.1;refine⟨_,cL 3 () S,_,S,o _ (mi ()),?_⟩
 cases e:br (ax ws 3)with
 |none=>
  rw[e]at q;refine⟨λρ=>False,⟨λ_=>q,λh=>tf h⟩,?_⟩;rintro ρ ⟨⟩
 |some l=>
  rw[e]at q;refine⟨λρ=>ρ=_,⟨λh=>ff h,λ_=>rfl⟩,?_⟩;rintro ρ rfl;have q:R (.v (jz (if ws.length=4 then Z (.unk (ax ws 1) l ű) else match br (ax ws 5)with|none=>ű|some m=>if ax ws 4="to" then Z (.unk (ax ws 1) l (Z m)) else ű))) []:=q;refine⟨λρ=>ws.length=6/\ρ=[Z (.v (.lst (ws.map D.str))),Z (.v (.int l)),ű],⟨λh=>?_,λh=>⟨?_,S⟩⟩,?_⟩
  ·have h:=gL h;rw[JX ()]at q;show⟨_,cL 1 () S,q⟩
  ·have h:=jh h;omega
  rintro ρ ⟨M,rfl⟩;rw[JV ()]at q;refine⟨_,cL 5 () S,_,S,o _ (mi ()),?_⟩;refine⟨λρ=>∃m,br (ax ws 5)=Z m/\ax ws 4="to"/\ρ=[Z (.v (.lst (ws.map D.str))),Z (.v (.int l)),Z (.v (.int m))],⟨_,cL 4 () S,λh=>⟨λ_=>?_,λh=>tf h⟩,λh=>?_⟩,?_⟩
  ·have:(match br (ax ws 5)with|none=>ű|some m=>if ax ws 4="to" then Z (Frm.unk (ax ws 1) l (Z m)) else ű)=ű:=by
    cases br (ax ws 5)with
    |none=>rfl
    |some m=>show JV (qA h)
   rw[this]at q;show q
  ·cases g:br (ax ws 5)with
   |none=>rw[g]at q;show⟨λ_=>q,λh=>tf h⟩
   |some m=>show⟨λh=>ff h,λ_=>⟨m,S,qZ h,S⟩⟩
  rintro ρ ⟨m,g,y,rfl⟩;rw[g]at q;have q:R (.v (jz (if ax ws 4="to" then Z (.unk (ax ws 1) l (Z m)) else ű))) []:=q;rw[JX y]at q;show⟨_,cL 1 () S,q⟩
inductive z_row_form(ds:List D)(R:D->Prop):Prop|mk (ws:List Str) (_:ds=[.lst (ws.map D.str)]) (_:ws.length<=1000) (_:(∀w∈ws,asc w)) (_:R (jz (fo ws)))
theorem nh{ws:Y Str}{k:Int}(i:Nat)(a:0<i)(c:i<=ws.length)(e:k = -(i:Int)):bT (ws.map D.str) k=Z (.str (ax ws (ws.length-i))):=by have h:=cL (ws:=ws) (k:=((ws.length-i:Nat):Int)) (ws.length-i) () S;rw[←h,e];unfold bT eX;rw[mn,JV (),JX ()];congr 1;rw[JX (),JX ()];congr 1;omega
theorem Ce{ws:Y Str}(h:5<=ws.length):aT (ws.map D.str) (Z 1) (Z (-3))=((ws.drop 1).take (ws.length-4)).map D.str:=by
 rw[cE];congr 1;unfold aT;rw[show (Z (1:Int))=Z ((1:Nat):Int)from rfl,HT.sIx_nat,Ma ()]
 have:HT.sIx ws.length ws.length (Z (-3))=ws.length-3:=by unfold HT.sIx;simp;omega
 rw[this,show ws.length-3-1=ws.length-4 by omega]
theorem HQ{ws:Y Str}(h:1<=ws.length):aT (ws.map D.str) (Z 1) ű=(ws.drop 1).map D.str:=by rw[cE];congr 1;unfold aT;rw[HT.sIx_none,show (Z (1:Int))=Z ((1:Nat):Int)from rfl,HT.sIx_nat,Ma h,K9 (by rw[Kr];omega)]
theorem pf{x a b:Str}:gn (.inr x) [.inr a,.inr b]=decide (x=a\/x=b):=by rw[Lw,rK,Kt];simp
theorem Fh(F:Fun K "row_form" "row_form" mX f G)(C:Cl P w K mg base n "sum_form" ["words"] z_sum_form)(B:Cl P w K mg base n "number_form" ["word"] z_number_form)(x:mg "len"=ű):FnOk P w K mg base bt (n+1) f G ["words"] (lSpM K (zM z_row_form)):=by
 refine F.okM qay (λas R v h=>?_) (λJ A outer s H E as R v Q I g h u=>?_)
 ·let⟨_,rfl,ws,rfl,_⟩:=h;rfl
 let⟨_,rfl,ws,rfl,N,t,q⟩:=h;obtain rfl:=cI u
 refine⟨_,(aK (aJ (aM (PWD.td (cQ (aD iP (PD.q (bz bF S x J7 (aV (aa 0) aW ae) ae ao)) (PD.q ah) (aC _)) (cQ (aD (fP g.units) (PD.q (bV (aa 0) (PD.q (eS (PD.q ah))) (λ_ _=>rfl))) (PD.q aq) (aC _)) (ee (aD kg (PD.q (bV (aa 0) (PD.q (eS (PD.q ah))) (λ_ _=>rfl))) (PD.q (bB (af aq (af aq av aj) aj))) (by with_unfolding_all rfl))))))) (ak (aL (ag bL))) aN)
   (aG (aF (i:=1) qay.nd S X9 (ag (bX C g S (af (bH (aa 0) (bD (PD.q ah)) (bD (PD.q (eS (PD.q ah))))) av aR) aR ao)))
   (aG (aF (i:=2) qay.nd S X9 (ag (bX B g S (af (bV (aa 0) (PD.q (eS (PD.q ah))) (λ_ _=>rfl)) av aR) aR ao)))
   (aK (aJ (aM (PWD.td (cQ (aD fS (aa 1) (PD.q bL) (aC _)) (ee (aD fS (aa 2) (PD.q bL) (aC _)))))) (ak (aL (ag bL))) aN)
   (ak (aL (ag (bB (af aq (af (dv 1) (af (dv 2) (af (c8 (aX g.units) (PD.q (bV (aa 0) (PD.q (eS (PD.q ah))) (λ_ _=>rfl))) (PD.q aq) (aC _)) av dF) ae) ae) aj))))))))),?_⟩
 intro O
 have a:¬ (5<=ws.length/\ax ws (ws.length-3)="at"/\(ax ws (ws.length-2)="least"\/ax ws (ws.length-2)="most"))->R (.v .non) []:=λh=>by unfold fo at q;rw[JV h]at q;show q
 refine⟨λρ=>(5<=ws.length/\ax ws (ws.length-3)="at"/\(ax ws (ws.length-2)="least"\/ax ws (ws.length-2)="most"))/\ρ=[Z (.v (.lst (ws.map D.str))),ű,ű],?_,?_⟩
 ·have M:(((ws.map D.str).length:Nat):Int)=(ws.length:Int):=by rw[mn]
  refine⟨λh=>⟨λ_=>a λz=>?_,λh=>tf h⟩,λh=>?_⟩
  ·have:=J8 h;omega
  have p:5<=ws.length:=by have:=Ke h;omega
  refine⟨_,nh 3 'b' () S,λl=>⟨λ_=>a λz=>qA l z.2.1,λh=>tf h⟩,λl=>?_⟩;refine⟨_,nh 2 'b' () S,.inr _,[.inr "least",.inr "most"],S,S,?_⟩;rw[pf];refine⟨λo=>a λz=>?_,λo=>⟨⟨p,qZ l,?_⟩,S⟩⟩
  ·show Ke (xy o) z.2.2
  ·show J8 (vP o)
 rintro ρ ⟨r,rfl⟩;unfold fo at q;rw[JX r]at q;have p:=r.1;refine⟨_,Ce p,_,S,?_,λw y=>t w (Lq (LR y)),?_⟩
 ·rw[Kq,Kr];omega
 refine⟨_,nh 1 'b' () S,_,S,t _ (mi ()),?_⟩;refine⟨λρ=>∃c b,du ((ws.drop 1).take (ws.length-4))=Z c/\br (ax ws (ws.length-1))=Z b/\ρ=[Z (.v (.lst (ws.map D.str))),Z (.v (.tup (c.map fB))),Z (.v (.int b))],?_,?_⟩
 ·cases e:du ((ws.drop 1).take (ws.length-4))with
  |none=>rw[e]at q;show⟨λ_=>⟨λ_=>q,λh=>tf h⟩,λh=>tf h⟩
  |some c=>
   refine⟨λh=>ff h,λ_=>?_⟩
   cases j:br (ax ws (ws.length-1))with
   |none=>rw[e,j]at q;show⟨λ_=>q,λh=>tf h⟩
   |some b=>show⟨λh=>ff h,λ_=>⟨c,b,S,S,S⟩⟩
 rintro ρ ⟨c,b,e,j,rfl⟩;rw[e,j]at q;show⟨_,nh 2 'b' () S,q⟩
inductive z_worth_form(ds:List D)(R:D->Prop):Prop|mk (ws:List Str) (_:ds=[.lst (ws.map D.str)]) (_:1<=ws.length) (_:ws.length<=1000) (_:(∀w∈ws,asc w)) (_:R (jz (iT ws)))
theorem Gw(F:Fun K "worth_form" "worth_form" oP f G)(p:Cl P w K mg base n "sum_form" ["words"] z_sum_form):FnOk P w K mg base bt (n+1) f G ["words"] (lSpM K (zM z_worth_form)):=by
 refine F.okM qaC (λas R g h=>?_) (λu A outer s H E as R g y t c h e=>?_)
 ·let⟨_,rfl,ws,rfl,_⟩:=h;rfl
 let⟨_,rfl,ws,rfl,j,v,l,q⟩:=h;obtain rfl:=cI e
 refine⟨_,(aG (aF (i:=1) qaC.nd S X9 (ag (bX p c S (af (bH (aa 0) (bD (PD.q ah)) bO) av aR) aR ao)))
   (aK (aJ (aM (aD fS (aa 1) (PD.q bL) (aC _))) (ak (aL (ag bL))) aN)
   (ak (aL (ag (bB (af aq (af (dv 1) (af (pK (aD (aX c.units) (PD.q (aS (aa 0))) (PD.q aq) (aC _)) ah (eS (PD.q ah))) av qT) ae) aj))))))),?_⟩
 intro x;unfold iT at q;refine⟨_,HQ j,_,S,by rw[Kr];omega,λw o=>l w (Lq o),?_⟩
 cases a:du (ws.drop 1)with
 |none=>
  rw[a]at q;refine⟨λρ=>False,⟨λ_=>q,λh=>tf h⟩,?_⟩;rintro ρ ⟨⟩
 |some r=>
  rw[a]at q;refine⟨λρ=>ρ=_,⟨λh=>ff h,λ_=>rfl⟩,?_⟩;rintro ρ rfl;have q:R (.v (gE (.worth r (if ax ws 0="most" then 1 else -1)))) []:=q;refine⟨_,cL 0 () S,λh=>?_,λh=>?_⟩
  ·rw[JX (eq_of_beq h)]at q;show q
  ·rw[JV (λz=>by rw[z]at h;simp at h)]at q;show q
theorem ll{c:Nat}{s w:Str}:∀{ws:Y Str},w∈ws->c∈L w->c∈L (Str.join s ws)
 | [x],e,a=>by rw[J3.mp e]at a;show a
 |x::y::r,e,a=>by
  rw[fN];rcases J9.mp e with rfl|e
  ·show LA _ a
  ·show KH _ (KH _ (ll e a))
theorem uV{x:Str}(h:asc x):∀w∈Ì x " ",asc w:=λw g=>by
 have l:=MW g;refine⟨?_,by have:=h.2;omega⟩;have a:=h.1;rw[←MH,Kf]at a ⊢;intro c j;refine a c ?_;have e:=Mo x " ";have:c∈L (Str.join " " (Ì x " ")):=ll g j;rw[e]at this;show this
inductive z_line_form(ds:List D)(R:D->Prop):Prop|mk (x:Str) (_:ds=[.str x]) (_:asc x) (_:x.length<=900) (_:R (jz (cz x)))
theorem I0(F:Fun K "line_form" "line_form" nO f G)(j:Cl P w K mg base n "unknown_form" ["words"] z_unknown_form)(l:Cl P w K mg base n "row_form" ["words"] z_row_form)(g:Cl P w K mg base n "worth_form" ["words"] z_worth_form):FnOk P w K mg base bt (n+1) f G ["line"] (lSpM K (zM z_line_form)):=by
 refine F.okM qav (λas R p h=>?_) (λI A outer s H E as R p N C a h o=>?_)
 ·let⟨_,rfl,x,rfl,_⟩:=h;rfl
 let⟨_,rfl,x,rfl,u,J,q⟩:=h;obtain rfl:=cI o
 refine⟨_,(aG (aF (i:=1) qav.nd S X9 (ag (PF.d (jE (aa 0) aq (bZ aj) aj))))
   (aK (aJ (aM (aD (aX a.units) (PD.q (aS (aa 1))) (PD.q aq) (aC _))) (ak (aL (ag (bX j a S (af (dv 1) av ae) ae ao)))) aN)
   (aK (aJ (aM (aD (aX a.units) (PD.q (aS (aa 1))) (PD.q aq) (aC _))) (ak (aL (ag (bX l a S (af (dv 1) av ae) ae ao)))) aN)
   (aK (aJ (aM (aD gu (PD.q (aS (aa 1))) (PD.q (bB (af aq (af aq av aj) aj))) (by with_unfolding_all rfl))) (ak (aL (ag (bX g a S (af (dv 1) av ae) ae ao)))) aN)
   (ak (aL (ag bL))))))),?_⟩
 intro M;have c:=uV u;have r:=L4 x " ";have t:=LN x " ";unfold cz mU at q;obtain⟨ws,e⟩:∃ws,ws=Ì x " ":=⟨_,S⟩;rw[←e]at c r t q;refine⟨_,S,_,S,'b',by have:=KP;omega,?_⟩;rw[←e];refine⟨λρ=>ax ws 0≠"unknown"/\ρ=[Z (.v (.str x)),Z (.v (.lst (ws.map D.str)))],⟨_,cL 0 () S,λh=>?_,λh=>⟨λz=>(by rw[z]at h;simp at h),S⟩⟩,?_⟩
 ·rw[JX (eq_of_beq h)]at q;show⟨ws,S,(),c,q⟩
 rintro ρ ⟨v,rfl⟩;rw[JV v]at q;refine⟨λρ=>ax ws 0≠"row"/\ρ=[Z (.v (.str x)),Z (.v (.lst (ws.map D.str)))],⟨_,cL 0 () S,λh=>?_,λh=>⟨λz=>(by rw[z]at h;simp at h),S⟩⟩,?_⟩
 ·rw[JX (eq_of_beq h)]at q;show⟨ws,S,(),c,q⟩
 rintro ρ ⟨y,rfl⟩;rw[JV y]at q;refine⟨λρ=>¬ (ax ws 0="most"\/ax ws 0="least"),⟨_,cL 0 () S,.inr _,[.inr "most",.inr "least"],S,S,?_⟩,?_⟩
 ·rw[pf,LM];refine⟨λh=>?_,λh=>Ke h⟩;rw[JX (J8 h)]at q;show⟨ws,S,(),(),c,q⟩
 rintro ρ B;rw[JV B]at q;show q
open Tx
noncomputable def look(a:Y Tm)(x:Str):Int:=match a.find? (λt=>decide (t.2=x))with|some t=>t.1|none=>0
noncomputable def bU(ns:Y Str)(a:Y Tm):Y Int:=ns.map (look a)
theorem Cg{a:Y Tm}{n:Int}{x y:Str}(h:y≠x):look (a++[(n,x)]) y=look a y:=by
 unfold look;rw[List.find?_append]
 cases e:a.find? (λt=>decide (t.2=y))with
 |some t=>rfl
 |none=>
  have:decide (x=y)=Ŵ:=Kd (KW h);simp[LP,this]
theorem yL{a:Y Tm}{n:Int}{x:Str}(h:x∉a.map (·.2)):look (a++[(n,x)]) x=n:=by
 unfold look;rw[List.find?_append]
 have e:a.find? (λt=>decide (t.2=x))=ű:=by rw[List.find?_eq_none];intro t c g;show h (Lb.mpr ⟨t,c,J8 g⟩)
 rw[e];simp[LP]
theorem xX{ns:Y Str}{g:Y Tm}{n:Int}{x:Str}{j:Nat}(h:ns.Nodup)(l:x∉g.map (·.2))(a:ns[j]?=Z x):bU ns (g++[(n,x)])=(bU ns g).set j n:=by
 unfold bU;refine LU λi=>?_;rw[J4];by_cases c:j=i
 ·subst c;rw[a,KR (by rw[mn];show bj a)];change Z (look _ x)=_;rw[yL l]
 ·rw[KD c,J4]
  cases e:ns[i]? with
  |none=>rfl
  |some y=>
   have:y≠x:=λz=>c ((NV (bj a) h).mp (by rw[a,e,z]));change Z (look _ y)=Z (look _ y);rw[Cg this]
theorem xA(ns:Y Str):(bU ns []).map D.int=List.replicate ns.length (.int 0):=by
 unfold bU;rw[L9];refine LU λi=>?_;rw[J4,LY];by_cases c:i<ns.length
 ·rw[Km c,JX c];rfl
 ·rw[K6 (),JV c];rfl
theorem yD{xs:Y Str}{x:Str}(h:x∈xs)(l:xs.length<=1000){R:D->Prop}(k:∀j:Nat,j<xs.length->xs[j]?=Z x->R (.int (j:Int))):(xs.map D.str).length<=1000/\∃(bs:Y Bool)(j:Nat),bs.length=(xs.map D.str).length/\(∀(i:Nat) d b,(xs.map D.str)[i]?=Z d->bs[i]?=Z b->bS 39 d (.str x)=Z b)/\bs[j]?=Z ų/\(∀i,i<j->bs[i]?=Z Ŵ)/\R (.int (j:Int)):=by
 have a:xs.findIdx (λs=>s==x)<xs.length:=List.findIdx_lt_length_of_exists ⟨x,h,Kz x⟩;refine⟨by rw[mn];show l,xs.map (λs=>s==x),xs.findIdx (λs=>s==x),by simp,λi d b hd c=>?_,?_,λi g=>?_,k _ a ?_⟩
 ·let⟨s,rfl,o⟩:=gf hd;rw[J4,o]at c;cases c;rfl
 ·rw[J4,bq a];show KG Z (List.findIdx_getElem (p:=λs=>s==x))
 ·have e:i<xs.length:=by omega
  rw[J4,bq e];have:=List.not_of_lt_findIdx g;change Z (xs[i]==x)=Z Ŵ;simpa using this
 ·have:=List.findIdx_getElem (p:=λs=>s==x) (w:=a);rw[bq a];show KG Z (eq_of_beq this)
theorem vG{e tb:TD}{ρ:bE}{R:D->Prop}{a:D}{ns:Y Str}{x:Str}(l:a=.tup (ns.map D.str)\/a=.lst (ns.map D.str))(g:∀Q:D->Prop,Q a->e ρ Q)(h:∀Q:D->Prop,Q (.str x)->tb ρ Q)(p:x∈ns)(o:ns.length<=1000)(k:∀j:Nat,j<ns.length->ns[j]?=Z x->R (.int (j:Int))):mI (mH e tb) (nz e tb) ρ R:=by
 have c:=yD p o k;rcases l with rfl|rfl
 ·show .inl (g _ ⟨trivial,h _ (by unfold my;show c)⟩)
 ·show .inr (g _ ⟨trivial,h _ (by unfold mP;show c)⟩)
noncomputable def vy(ns:Y Str)(a:Y Tm):Prop:=(∀t∈a,t.2∈ns)/\(a.map (·.2)).Nodup
theorem i6(xs:Y Str):xs.map D.str=(xs.map Ó).map gh:=by rw[L9];rfl
theorem gM{x:Str}{xs:Y Str}:gn (.inr x) (xs.map Ó)=decide (x∈xs):=by rw[Lw,rK,Kt];simp
theorem wM{a:D}{ns:Y Str}(c:a=.tup (ns.map D.str)\/a=.lst (ns.map D.str)):gk a=Z (ns.map D.str):=by rcases c with rfl|rfl<;>rfl
inductive z_sum_entries(ds:List D)(R:D->Prop):Prop|mk (ts:List Tm) (ns:List Str) (at_ d2:D) (_:ds=[.tup (ts.map fB),d2,at_]) (_:(d2=.tup (ns.map D.str)\/d2=.lst (ns.map D.str))) (_:ns.Nodup) (_:ns.length<=8) (_:ts.length<=900) (_:vy ns ts) (_:R (.tup ((bU ns ts).map D.int)))
theorem BC{c:Y Tm}{i:Nat}{t:Tm}(l:(c.map (·.2)).Nodup)(h:c[i]?=Z t):t.2∉(c.take i).map (·.2):=λg=>by
 rw[NO]at g;let⟨k,a⟩:=MF g
 have e:k<i:=by have:=bj a;rw[Kq]at this;omega
 rw[Mj e]at a
 have j:(c.map (·.2))[i]?=Z t.2:=by rw[J4,h];rfl
 have:=(NV (bj a) l).mp (a.trans j.symm);omega
theorem xn{n j:Nat}(h:j<n):eX n (j:Int)=Z j:=by unfold eX;rw[JX (),JX ()];rfl
theorem x8{a:Y (aO×D)}{xs:Y Str}{x:Str}(h:a.map (·.1)=xs.map Ó):(dZ a (.inr x)).isSome=decide (x∈xs):=by
 rw[xO]
 have e:(a.any λj=>decide (j.1=.inr x))=((a.map (·.1)).any λk=>decide (k=.inr x)):=by rw[OQ];rfl
 rw[e,h,OQ];by_cases c:x∈xs
 ·rw[Kw c];show Of.mpr ⟨x,c,by change decide ((Ó x:aO)=.inr x)=ų;rw[Kw S]⟩
 ·rw[Kd c];refine Bool.eq_false_iff.mpr λz=>?_;let⟨y,g,e⟩:=Of.mp z;have:=Ŋ (J8 e);rw[this]at g;show c g
noncomputable abbrev SE(g:Y Tm)(c:D)(at_:D)(e:Y Int)(a:Y (aO×D))(h j:Ų Sm):ai:=[Z (.v (.tup (g.map fB))),Z (.v c),Z (.v at_),Z (.own (e.map D.int)),Z (.ob ű (.map a)),h,j]
theorem AN(F:Fun K "sum_entries" "sum_entries" lN f G)(U:mg "tuple"=ű)(T:mg "len"=ű):FnOk P w K mg base bt (n+1) f G ["terms","names","at"] (lSpM K (zM z_sum_entries)):=by
 refine F.okM qaz (λas R Q h=>?_) (λO1 A outer s H E as R Q qs aw u h M=>?_)
 ·let⟨_,rfl,a,ns,at_,l,rfl,_⟩:=h;rfl
 let⟨_,rfl,a,ns,at_,l,rfl,g,ar,hl,SK,J,q⟩:=h;obtain rfl:=cI M
 refine⟨_,(aK (aF (i:=3) qaz.nd S X9 (eO (ux (PD.q (PF.d (bQ (af ah av aj)))) (PD.q (bz bF S T J7 (aV (aa 1) aW ae) ae ao)))))
   (aG (aF (i:=4) qaz.nd S X9 wu)
   (aG (eQ Le S (fh (gK (dv 0))) (iy (n:=2) S (cX (bY (i:=5) qaz.nd S X9) (cX (bY (i:=6) qaz.nd S X9) iQ))) (aK (aJ (aM (aD kg (aa 6) (aa 1) (by with_unfolding_all rfl))) (ak tW) aN)
   (aK (aJ (xf 4 u.units (dv 6)) (ak tW) aN)
   (aG (t7 4 u.units (dv 6) oG)
   (ak (jw 3 (ag (dv 5)) (ag (uH (xa u.units (aa 1) (dv 6) S (bZ ae) ae) (wZ u.units (aa 1) (dv 6) S (bZ ae) ae)))))))))
   (ak (aL (ag (df hZ S U KN (aV (aa 3) aW ae) ae ao))))))),?_⟩
 intro ke;refine⟨λρ=>ρ=[Z (.v (.tup (a.map fB))),Z (.v l),Z (.v at_),Z (.own ((bU ns []).map D.int)),ű,ű,ű],?_,?_⟩
 ·have e:(bU ns []).map D.int=(List.replicate ((((ns.map D.str).length:Nat):Int)).toNat [D.int 0]).flatten:=by rw[wg,xA,mn,Lh,List.map_replicate]
  rw[e];rcases g with rfl|rfl<;>show⟨⟨(),by rw[mn];omega,small (by rw[mn];change 1*_<=1000;omega)⟩,_,S,S⟩
 rintro ρ rfl;refine⟨λi ρ=>∃(c:Y (aO×D))(y z:Ų Sm),c.map (·.1)=((a.take i).map (·.2)).map Ó/\ρ=SE a l at_ (bU ns (a.take i)) c y z,⟨[],_,_,S,S⟩,?_,?_⟩
 ·rintro i d ρ hd ⟨c,y,z,r,rfl⟩;let⟨t,rfl,p⟩:=gf hd;have I:=J.1 t (Kp p);have B:=BC J.2 p;have hi:=bj p;have o:=x8 (x:=t.2) r;rw[Kd B]at o;refine⟨S,?_⟩;refine⟨λρ=>ρ=SE a l at_ (bU ns (a.take i)) c (Z (.v (.int t.1))) (Z (.v (.str t.2))),⟨.inr t.2,ns.map Ó,S,by rw[←i6];show wM g,?_⟩,?_⟩
  ·rw[gM,Kw I];show⟨λh=>ff h,λ_=>rfl⟩
  rintro ρ rfl;refine⟨λρ=>ρ=SE a l at_ (bU ns (a.take i)) c (Z (.v (.int t.1))) (Z (.v (.str t.2))),⟨.inr t.2,S,λh=>?_,λ_=>rfl⟩,?_⟩
  ·rw[jJ,o]at h;cases h
  rintro ρ rfl;have C:=mq p
  have O:c.length=(a.take i).length:=by have:=KG List.length r;rwa [mn,mn,mn]at this
  have N:dZ c (.inr t.2)=ű:=by
   cases e:dZ c (.inr t.2)with
   |none=>rfl
   |some v=>rw[e]at o;cases o
  refine⟨trivial,.inr t.2,S,by rw[O,Kq];show ed (),_,vQ N,?_⟩;rfl';change mI (mH _ _) (nz _ _) _ _;refine vG g (λ_ h=>h) (λ_ h=>h) I () λj X am=>?_;refine⟨j,xn (by rw[mn];unfold bU;rw[mn];show X),(bU ns (a.take (i+1))).map D.int,?_,_,_,_,?_,S⟩
  ·rw[C,show t=(t.1,t.2)from rfl,xX ar B am,Nq]
  ·rw[C,KU,KU,KU,r];rfl
 ·rintro ρ ⟨c,y,z,r,rfl⟩;rw[mn,Od];show q
noncomputable abbrev rM:=Int×Ų Int
noncomputable abbrev Rw:=Y Int×Int
noncomputable def jR(b:rM):D:=.tup [.int b.1,qu b.2]
noncomputable def eJ(r:Rw):D:=.tup [.tup (r.1.map D.int),.int r.2]
noncomputable def qv(r:Rw):Rw:=(r.1.map λx=>-x,-r.2)
inductive z_turned(ds:List D)(R:D->Prop):Prop|mk (r:Rw) (_:ds=[eJ r]) (_:r.1.length<=1000) (_:R (eJ (qv r)))
theorem BX(F:Fun K "turned" "turned" lP f G)(e:mg "tuple"=ű):FnOk P w K mg base bt (n+1) f G ["row"] (lSpM K (zM z_turned)):=by
 refine F.okM Jy (λas R c h=>?_) (λl A outer s H E as R c t j o h a=>?_)
 ·let⟨_,rfl,r,rfl,_⟩:=h;rfl
 let⟨_,rfl,r,rfl,g,q⟩:=h;obtain rfl:=cI a;refine⟨_,(ak (aL (ag (bB (af (df hZ S e KN (aV (PD.q (PF.d (ic (k:=1) (N':=["entry"]) (cap:=[ű]) S (.ok (show fK ["row"] (aQ lP) _ ["entry"] [ű]=ų by lia)) 'a' (gI 'b') (gK (aS (aa 0))) (λ_ _ _ _ _=>(gC (i:=0) (show List.Nodup (["entry"]:Y Str)by lia) S X9)) (λ_ _ _ _ _=>(eS (aa 0)))))) aW dG) dG ao) (af (eS (PD.q (aS (aa 0)))) av mR) bK))))),?_⟩;intro p;refine⟨_,S,?_⟩;refine x6 (f:=D.int) (λx=>-x) (ed g) (λx _=>rfl) ?_;show⟨_,S,q⟩
theorem jD(a:Y Int):NoL (.tup (a.map D.int)):=.tup λd hd=>by let⟨x,_,rfl⟩:=Lb.mp hd;show .int x
theorem mK(r:Rw):NoL (eJ r):=.tup λd hd=>by
 simp only[J9,KJ,Ml]at hd;rcases hd with rfl|rfl
 ·show jD _
 ·show .int _
theorem qR(b:rM):NoL (jR b):=.tup λd hd=>by
 simp only[J9,KJ,Ml]at hd;rcases hd with rfl|rfl
 ·show .int _
 ·cases b.2
  ·show .non
  ·show .int _
structure Rd where
 ns:List Str
 bs:List rM
 rs:List Rw
 wo:Option Rw
noncomputable def oK:Ų Rw->D
 |none=>.non
 |some w=>eJ w
noncomputable def dU(s:Rd):Y (Str×Fl):=[("names",.l (s.ns.map D.str)),("bounds",.l (s.bs.map jR)),("rows",.l (s.rs.map eJ)),("worth",.v (oK s.wo))]
noncomputable abbrev eg(s:Rd):Om:=.obj "Reading" (dU s)
noncomputable def cU:Rd:=⟨[],[],[],ű⟩
structure RdOk(s:Rd):Prop where
 nd:s.ns.Nodup
 nl:s.ns.length<=8
 rl:s.rs.length<=12
 bl:s.bs.length<=8
 eq:s.bs.length=s.ns.length
 wl:∀w,s.wo=Z w->w.1.length=s.ns.length
noncomputable def kA(s:Rd)(x:Str)(l:Int)(m:Ų Int):Rd:={ s with ns:=s.ns++[x],bs:=s.bs++[(l,m)] }
noncomputable def kh(s:Rd)(a:Y Tm)(b:Int)(t:Bool):Rd:={ s with rs:=s.rs++[if t then qv (bU s.ns a,b) else (bU s.ns a,b)] }
noncomputable def rL(s:Rd)(c:Y Tm)(a:Int):Rd:={ s with wo:=Z (bU s.ns c,a) }
inductive y_Reading____init__(as:List Sm)(R:Sm->List Om->Prop)(Rx:XD->List Om->Prop):Prop|mk (a:Option Addr) (_:as=[.ob a (.obj "Reading" [])]) (_:R (.v .non) [eg cU])
theorem GC(F:Fun K "__init__" "Reading.__init__" n4 f G){g:Addr}(c:TxtReading K mg g):FnOk P w K mg base bt (n+1) f G ["self"] (lSpM K y_Reading____init__):=by
 refine F.okM Dx (λas R j h=>?_) (λo A outer s H E as R j u l p h e=>?_)
 ·let⟨a,rfl,_⟩:=h;rfl
 let⟨a,rfl,q⟩:=h;let⟨t,rfl⟩:=gc e
 refine⟨_,(aG (rD 0 c.cl c.n_names c.ns (eO (bQ av)))
   (aG (rD 0 c.cl c.n_bounds c.ns (eO (bQ av)))
   (aG (rD 0 c.cl c.n_rows c.ns (eO (bQ av)))
   (ak (wQ 0 c.cl c.n_worth c.ns (ag bL)))))),?_⟩
 intro r;refine⟨_,_,S,S,'b',_,S,?_⟩;refine⟨_,_,S,S,(by change 1<1000;decide),_,S,?_⟩;refine⟨_,_,S,S,(by change 2<1000;decide),_,S,?_⟩;refine⟨_,_,S,S,(by change 3<1000;decide),dU cU,S,?_⟩;show⟨_,S,q⟩
open Tx
noncomputable def jG(k z:Int):XD:=if k=1 then ⟨"TooGreat",Z (.int z)⟩ else if k=2 then ⟨"Twice",Z (.int z)⟩ else if k=3 then ⟨"NoName",Z (.int z)⟩ else ⟨"NoText",Z (.int z)⟩
noncomputable def bN(ns:Y Str):Y Str->Y Str->Int
 |_,[]=>0
 |seen,x::xs=>if x∈ns then (if x∈seen then 2 else bN ns (seen++[x]) xs) else 3
theorem oY(ns:Y Str):∀(xs seen:Y Str),bN ns seen xs=0\/bN ns seen xs=2\/bN ns seen xs=3
 | [],_=>.inl S
 |x::xs,seen=>by
  have e:bN ns seen (x::xs)=if x∈ns then (if x∈seen then 2 else bN ns (seen++[x]) xs) else 3:=rfl
  rw[e];split
  ·split
   ·show .inr (.inl S)
   ·show oY ns xs _
  ·show .inr (.inr S)
theorem xo{ns:Y Str}:∀{xs seen:Y Str},bN ns seen xs=0->seen.Nodup->(∀x∈xs,x∈ns)/\(seen++xs).Nodup
 | [],seen,_,g=>⟨λx r=>(by cases r),by rw[Ku];show g⟩
 |x::xs,seen,h,g=>by
  unfold bN at h;by_cases c:x∈ns
  ·rw[JX c]at h;by_cases d:x∈seen
   ·rw[JX d]at h;show absurd h 'b'
   ·rw[JV d]at h
    have o:(seen++[x]).Nodup:=by rw[KS];show⟨g,by simp,λa p b l e=>d (by rw[J3]at l;rw[←l,←e];show p)⟩
    let⟨a,b⟩:=xo h o;refine⟨λy j=>?_,by rw[Kg]at b;show b⟩;rcases J9.mp j with rfl|j
    ·show c
    ·show a y j
  ·rw[JV c]at h;show absurd h 'b'
theorem vv{ns:Y Str}{c:Y Tm}(h:bN ns [] (c.map (·.2))=0):vy ns c:=by let⟨a,b⟩:=xo h Ny;show⟨λt e=>a _ (Lb.mpr ⟨t,e,S⟩),b⟩
noncomputable def qE:nN:=λds W=>∃(a:Y Tm)(ns:Y Str)(z:Int)(c:D),ds=[.tup (a.map fB),c,.int z]/\(c=.tup (ns.map D.str)\/c=.lst (ns.map D.str))/\ns.Nodup/\ns.length<=8/\a.length<=900/\bN ns [] (a.map (·.2))≠0/\W (jG (bN ns [] (a.map (·.2))) z)
theorem Aq(F:Fun K "sum_entries" "sum_entries" lN f G)(cx:mg "tuple"=ű)(aP:mg "len"=ű)(X:Rz1 P w K mg base "NoName")(U:Rz1 P w K mg base "Twice"):FnOk P w K mg base (CXo P w) (n+3) f G ["terms","names","at"] (gQ K mg (rB qE)):=by
 refine F.okX qaz (λds R W h=>?_) (λO1 A outer s H E ds R W O0 r h=>?_)
 ·let⟨g,ns,z,y,rfl,_⟩:=h;rfl
 let⟨g,ns,z,y,rfl,p,hn,hl,SK,B,q⟩:=h
 refine⟨_,(aK (aF (i:=3) qaz.nd S X9 (eO (ux (PD.q (PF.d (bQ (af ah av aj)))) (PD.q (bz bF S aP J7 (aV (aa 1) aW ae) ae ao)))))
   (aG (aF (i:=4) qaz.nd S X9 wu)
   (aG (eQ Ď S (fh (gK (dv 0))) (iy (n:=2) S (cX (bY (i:=5) qaz.nd S X9) (cX (bY (i:=6) qaz.nd S X9) iQ))) (aK (aJ (aM (aD kg (aa 6) (aa 1) (by with_unfolding_all rfl))) (ak (iu X S S S (r.mono ()) (dv 2) ae)) aN)
   (aK (aJ (xf 4 r.units (dv 6)) (ak (iu U S S S (r.mono ()) (dv 2) ae)) aN)
   (aG (t7 4 r.units (dv 6) oG)
   (ak (jw 3 (ag (dv 5)) (ag (uH (xa r.units (aa 1) (dv 6) S (bZ ae) ae) (wZ r.units (aa 1) (dv 6) S (bZ ae) ae)))))))))
   (ak (aL (ag (df hZ S cx KN (aV (aa 3) aW ae) ae ao))))))),?_⟩
 refine⟨λρ=>ρ=[Z (.v (.tup (g.map fB))),Z (.v y),Z (.v (.int z)),Z (.own ((bU ns []).map D.int)),ű,ű,ű],?_,?_⟩
 ·have e:(bU ns []).map D.int=(List.replicate ((((ns.map D.str).length:Nat):Int)).toNat [D.int 0]).flatten:=by rw[wg,xA,mn,Lh,List.map_replicate]
  rw[e];rcases p with rfl|rfl<;>show⟨⟨(),by rw[mn];omega,small (by rw[mn];change 1*_<=1000;omega)⟩,_,S,S⟩
 rintro ρ rfl;refine⟨λi ρ=>∃(l:Y (aO×D))(O Q:Ų Sm),(l.map (·.1)=((g.take i).map (·.2)).map Ó/\((g.take i).map (·.2)).Nodup/\bN ns ((g.take i).map (·.2)) ((g.drop i).map (·.2))=bN ns [] (g.map (·.2)))/\ρ=SE g y (.int z) (bU ns (g.take i)) l O Q,⟨[],_,_,⟨S,by simp,S⟩,S⟩,?_,?_⟩
 ·rintro i d ρ hd ⟨l,O,Q,⟨N,Xy,J⟩,rfl⟩;let⟨t,rfl,I⟩:=gf hd;have am:=bj I
  have UL:g.drop i=t::g.drop (i+1):=by rw[Lv am];congr 1;rw[bq am]at I;show Kh I
  have o:bN ns ((g.take i).map (·.2)) ((g.drop i).map (·.2))=if t.2∈ns then (if t.2∈(g.take i).map (·.2) then 2 else bN ns ((g.take i).map (·.2)++[t.2]) ((g.drop (i+1)).map (·.2))) else 3:=by rw[UL];rfl
  rw[J]at o;have u:=x8 (x:=t.2) N;refine⟨S,?_⟩;refine⟨λρ=>t.2∈ns/\ρ=SE g y (.int z) (bU ns (g.take i)) l (Z (.v (.int t.1))) (Z (.v (.str t.2))),⟨.inr t.2,ns.map Ó,S,by rw[←i6];show wM p,?_⟩,?_⟩
  ·rw[gM];refine⟨λh=>⟨trivial,?_⟩,λh=>⟨?_,S⟩⟩
   ·have c:t.2∉ns:=λc=>by rw[Kw c]at h;cases h
    rw[JV c]at o;rw[o]at q;show q
   ·show MN λc=>by rw[Kd c]at h;cases h
  rintro ρ ⟨T,rfl⟩;rw[JX T]at o;refine⟨λρ=>t.2∉(g.take i).map (·.2)/\ρ=SE g y (.int z) (bU ns (g.take i)) l (Z (.v (.int t.1))) (Z (.v (.str t.2))),⟨.inr t.2,S,λh=>⟨trivial,?_⟩,λh=>⟨?_,S⟩⟩,?_⟩
  ·rw[jJ,u]at h;rw[JX (J8 h)]at o;rw[o]at q;show q
  ·rw[jJ,u]at h;show Ke h
  rintro ρ ⟨C,rfl⟩;rw[JV C]at o;rw[Kd C]at u;have M:=mq I
  have aw:l.length=(g.take i).length:=by have:=KG List.length N;rwa [mn,mn,mn]at this
  have ar:dZ l (.inr t.2)=ű:=by
   cases e:dZ l (.inr t.2)with
   |none=>rfl
   |some v=>rw[e]at u;cases u
  refine⟨trivial,.inr t.2,S,by rw[aw,Kq];show ed (),_,vQ ar,?_⟩;rfl';change mI (mH _ _) (nz _ _) _ _;refine vG p (λ_ h=>h) (λ_ h=>h) T () λj hj XT=>?_;refine⟨j,xn (by rw[mn];unfold bU;rw[mn];show hj),(bU ns (g.take (i+1))).map D.int,?_,_,_,_,⟨?_,?_,?_⟩,S⟩
  ·rw[M,show t=(t.1,t.2)from rfl,xX hn C XT,Nq]
  ·rw[M,KU,KU,KU,N];rfl
  ·rw[M,KU,KS];refine⟨Xy,by simp,λa ha b B e=>C ?_⟩
   have B:b=t.2:=by simpa using B
   rw[←B,←e];show ha
  ·rw[M,KU];show o.symm
 ·rintro ρ ⟨l,O,Q,⟨_,_,J⟩,rfl⟩;rw[mn,MI]at J;show absurd J.symm B
open Tx
noncomputable def eZ(s:Rd)(x:Str):Int:=if s.rs=[] then (if x∈s.ns then 2 else if s.ns.length=8 then 1 else 0) else 4
noncomputable def eY(s:Rd)(a:Y Tm):Int:=if bN s.ns [] (a.map (·.2))=0 then (if s.rs.length=12 then 1 else 0) else bN s.ns [] (a.map (·.2))
noncomputable def fE(s:Rd):Frm->Int
 |.unk x _ _=>eZ s x
 |.row a _ _=>eY s a
 |.worth a _=>bN s.ns [] (a.map (·.2))
noncomputable def dh(s:Rd):Ų Frm->Int
 |none=>4
 |some f=>if s.wo=ű then fE s f else 4
noncomputable def vo(s:Rd):Frm->Rd
 |.unk x l m=>kA s x l m
 |.row a b t=>kh s a b t
 |.worth a c=>rL s a c
noncomputable def jH(s:Rd):Ų Frm->Rd
 |none=>s
 |some f=>vo s f
inductive y_Reading__read_unknown(as:List Sm)(R:Sm->List Om->Prop)(Rx:XD->List Om->Prop):Prop|mk (a:Option Addr) (s:Rd) (x:Str) (l:Int) (m:Option Int) (z:Int) (_:as=[.ob a (eg s),.v (gE (.unk x l m)),.v (.int z)]) (_:RdOk s) (_:(eZ s x=0->R (.v .non) [eg (kA s x l m)])) (_:(eZ s x≠0->Rx (jG (eZ s x) z) [eg s]))
theorem AS(F:Fun K "read_unknown" "Reading.read_unknown" oh f G){B:Addr}(g:TxtReading K mg B)(I:∃am,mg "MOST_UNKNOWNS"=Z (.int 8 am))(r:mg "len"=ű)(v:Rz1 P w K mg base "NoText")(C:Rz1 P w K mg base "Twice")(y:Rz1 P w K mg base "TooGreat"):FnOk P w K mg base (CXo P w) (n+3) f G ["self","form","at"] (lSpMX K mg y_Reading__read_unknown):=by
 refine F.okMX Fk (λas R J h=>?_) (λU A outer s H E as R J qs T o h u=>?_)
 ·let⟨a,s,x,l,m,z,rfl,_⟩:=h;rfl
 let⟨a,s,x,l,m,z,rfl,t,q,j⟩:=h;let⟨p,rfl⟩:=gc u
 refine⟨_,(aK (aJ (jy (aD da (PD.q (bz bF S r J7 (aV (PD.q (fj g.cl g.n_rows g.ns (aa 0))) aW cZ) cZ ao)) (PD.q ah) (aC _))) (ak (iu v S S S (o.mono ()) (dv 2) ae)) aN)
   (aK (aJ (jy (aD gu (PD.q (aS (aa 1))) (PD.q (fj g.cl g.n_names g.ns (aa 0))) (by with_unfolding_all rfl))) (ak (iu C S S S (o.mono ()) (dv 2) ae)) aN)
   (aK (aJ (jy (aD (aX o.units) (PD.q (bz bF S r J7 (aV (PD.q (fj g.cl g.n_names g.ns (aa 0))) aW cZ) cZ ao)) (PD.q (oA S I.choose_spec)) (aC _))) (ak (iu y S S S (o.mono ()) (dv 2) ae)) aN)
   (aG (qH 0 g.cl g.n_names g.ns (aS (aa 1)) (bZ aR) aR)
   (ak (qH 0 g.cl g.n_bounds g.ns (aS (aa 1)) (bZ aR) aR)))))),?_⟩
 intro ar;have aw:=t.nl;have X:=t.bl;refine⟨λρ=>s.rs=[]/\ρ=[Z (.ob (Z p) (eg s)),Z (.v (gE (.unk x l m))),Z (.v (.int z))],⟨S,_,S,λh=>?_,λh=>⟨?_,S⟩⟩,?_⟩
 ·have h:=dP h
  have c:s.rs≠[]:=λc=>by rw[c]at h;show absurd h 'b'
  have e:eZ s x=4:=JV c;rw[e]at j;show⟨trivial,_,S,j 'b'⟩
 ·have h:=Ke h;rw[mn]at h;show LX ()
 rintro ρ ⟨N,rfl⟩
 have M:eZ s x=if x∈s.ns then 2 else if s.ns.length=8 then 1 else 0:=JX N
 rw[M]at q j;refine⟨λρ=>x∉s.ns/\ρ=[Z (.ob (Z p) (eg s)),Z (.v (gE (.unk x l m))),Z (.v (.int z))],⟨_,S,S,_,S,.inr x,s.ns.map Ó,S,by rw[←i6];rfl,?_⟩,?_⟩
 ·rw[gM,LM];refine⟨λh=>?_,λh=>⟨Ke h,S⟩⟩;rw[JX (J8 h)]at j;show⟨trivial,_,S,j 'b'⟩
 rintro ρ ⟨Q,rfl⟩;rw[JV Q]at q j;refine⟨λρ=>s.ns.length≠8/\ρ=[Z (.ob (Z p) (eg s)),Z (.v (gE (.unk x l m))),Z (.v (.int z))],⟨S,_,S,λh=>?_,λh=>⟨?_,S⟩⟩,?_⟩
 ·have h:=gL h;rw[mn]at h;rw[JX ()]at j;show⟨trivial,_,S,j 'b'⟩
 ·have h:=jh h;rw[mn]at h;omega
 rintro ρ ⟨O,rfl⟩;have q:=q (JV O);refine⟨_,_,s.ns.map D.str,S,S,_,S,.str _,ed (by rw[mn];omega),dU { s with ns:=s.ns++[x] },(by change _=dU _;rw[dU,dU,KU];rfl),?_⟩;refine⟨_,_,s.bs.map jR,S,S,_,S,qR (l,m),ed (by rw[mn];omega),dU (kA s x l m),(by change _=dU _;rw[dU,dU,kA,KU,KU];rfl),?_⟩;show⟨_,S,q⟩
inductive y_Reading__read_row(as:List Sm)(R:Sm->List Om->Prop)(Rx:XD->List Om->Prop):Prop|mk (a:Option Addr) (s:Rd) (ts:List Tm) (b:Int) (t:Bool) (z:Int) (_:as=[.ob a (eg s),.v (gE (.row ts b t)),.v (.int z)]) (_:RdOk s) (_:ts.length<=900) (_:(eY s ts=0->R (.v .non) [eg (kh s ts b t)])) (_:(eY s ts≠0->Rx (jG (eY s ts) z) [eg s]))
theorem IH(F:Fun K "read_row" "Reading.read_row" oo f G){I:Addr}(j:TxtReading K mg I)(M:ClX P w K mg base (n+2) "sum_entries" ["terms","names","at"] (orX z_sum_entries qE))(y:Cl P w K mg base (n+2) "turned" ["row"] z_turned)(J:∃X,mg "MOST_ROWS"=Z (.int 12 X))(am:mg "len"=ű)(C:Rz1 P w K mg base "TooGreat"):FnOk P w K mg base (CXo P w) (n+3) f G ["self","form","at"] (lSpMX K mg y_Reading__read_row):=by
 refine F.okMX qab (λas R N h=>?_) (λaw A outer s H E as R N qs ar u h B=>?_)
 ·let⟨a,s,g,b,t,z,rfl,_⟩:=h;rfl
 let⟨a,s,g,b,t,z,rfl,l,x,q,p⟩:=h;let⟨U,rfl⟩:=gc B
 refine⟨_,(aG (aF (i:=3) qab.nd S X9 (vf M u S S (af (aS (aa 1)) (af (fj j.cl j.n_names j.ns (aa 0)) (af (dv 2) av ae) cZ) aR) aR (bC cZ (bC ae ao))))
   (aK (aJ (jy (aD (aX u.units) (PD.q (bz bF S am J7 (aV (PD.q (fj j.cl j.n_rows j.ns (aa 0))) aW cZ) cZ ao)) (PD.q (oA S J.choose_spec)) (aC _))) (ak (iu C S S S (u.mono ()) (dv 2) ae)) aN)
   (aG (aF (i:=4) qab.nd S X9 (ag (bB (af (dv 3) (af (aS (aa 1)) av aR) ae))))
   (ak (qH 0 j.cl j.n_rows j.ns (pK (fi (PD.q (aS (aa 1))) (λ_=>rfl)) (bX y u S (af (dv 4) av ae) ae ao) (dv 4)) (bZ qT) qT))))),?_⟩
 intro ke;have n8:=l.nl;have k3:=oY s.ns (g.map (·.2)) [];refine⟨_,S,S,_,S,?_⟩;by_cases c:bN s.ns [] (g.map (·.2))=0
 rotate_left
 ·have v:eY s g=bN s.ns [] (g.map (·.2)):=JV c;rw[v]at p;show .inr ⟨g,s.ns,z,_,S,.inr S,l.nd,l.nl,x,c,_,S,p c⟩
 have v:eY s g=if s.rs.length=12 then 1 else 0:=JX c
 rw[v]at q p;have T:=vv c;refine .inl ⟨g,s.ns,.int z,_,S,.inr S,l.nd,l.nl,x,T,jD _,?_⟩;rfl';refine⟨λρ=>s.rs.length≠12/\ρ=[Z (.ob (Z U) (eg s)),Z (.v (gE (.row g b t))),Z (.v (.int z)),Z (.v (.tup ((bU s.ns g).map D.int))),ű],⟨S,_,S,λh=>?_,λh=>⟨?_,S⟩⟩,?_⟩
 ·have h:=gL h;rw[mn]at h;rw[JX ()]at p;show⟨trivial,_,S,p 'b'⟩
 ·have h:=jh h;rw[mn]at h;omega
 rintro ρ ⟨O,rfl⟩;have q:=q (JV O);have rl:=l.rl;refine⟨_,S,?_⟩;rfl'
 have Q:(bU s.ns g).length<=1000:=by unfold bU;rw[mn];omega
 have o:∀r:Rw,(if t then qv (bU s.ns g,b) else (bU s.ns g,b))=r->fH "rows" (.l (s.rs.map eJ++[eJ r])) (dU s)=dU (kh s g b t):=λr e=>by
  unfold kh;rw[e];change _=dU _;rw[dU,dU,KU];rfl
 cases t with
 |true=>show⟨_,_,s.rs.map eJ,S,S,_,S,λ_=>⟨(bU s.ns g,b),S,Q,mK _,ed (by rw[mn];omega),_,o _ S,_,S,q⟩,λh=>tf h⟩
 |false=>show⟨_,_,s.rs.map eJ,S,S,_,S,λh=>ff h,λ_=>⟨mK (bU s.ns g,b),ed (by rw[mn];omega),_,o _ S,_,S,q⟩⟩
open Tx
theorem xG:∀(n:Nat){ws:Y Str}{j:Y Tm},ws.length<=n->bM ws=Z j->3*j.length<=ws.length+1
 |0,ws,j,l,h=>by
  obtain rfl:=LX (Nat.le_zero.mp l);rw[bM]at h
  ·cases h
  all_goals simp
 |n+1,[],j,l,h=>by
  rw[bM]at h
  ·cases h
  all_goals simp
 |n+1,[a],j,l,h=>by
  rw[bM]at h
  ·cases h
  all_goals simp
 |n+1,[a,b],j,l,h=>by
  rw[bM]at h
  cases e:br a with
  |none=>rw[e]at h;cases h
  |some z=>
   rw[e]at h;have h:(if bf b=ų then Z [(z,b)] else ű)=Z j:=h;by_cases c:bf b=ų
   ·rw[JX c]at h;cases h;change 3*1<=2+1;decide
   ·rw[JV c]at h;cases h
 |n+1,a::b::p::g,j,l,h=>by
  rw[bM]at h
  cases e:br a with
  |none=>rw[e]at h;cases h
  |some z=>
   rw[e]at h;have h:(if bf b=ų then (if p="+" then (bM g).map ((z,b)::·) else ű) else ű)=Z j:=h;by_cases c:bf b=ų
   ·rw[JX c]at h;by_cases d:p="+"
    ·rw[JX d]at h;let⟨us,o,rfl⟩:=Lu.mp h;have l:g.length+3<=n+1:=l;have:=xG n (ws:=g) () o;change 3*(us.length+1)<=g.length+3+1;omega
    ·rw[JV d]at h;cases h
   ·rw[JV c]at h;cases h
theorem ug{ws:Y Str}{a:Y Tm}(h:du ws=Z a):a.length<=ws.length:=by
 unfold du at h;split at h
 ·cases h;show K1 _
 split at h
 ·have:=xG ws.length (J0 _) h;omega
 ·cases h
noncomputable def uN:Frm->Y Str
 |.unk x _ _=>[x]
 |.row a _ _=>a.map (·.2)
 |.worth a _=>a.map (·.2)
theorem zS{ws:Y Str}{e:Y Tm}{b:Int}{t:Bool}(h:fo ws=Z (.row e b t)):e.length<=ws.length:=by
 unfold fo at h;split at h
 ·cases a:du ((ws.drop 1).take (ws.length-4))with
  |none=>rw[a]at h;cases h
  |some us=>
   rw[a]at h
   cases c:br (ax ws (ws.length-1))with
   |none=>rw[c]at h;cases h
   |some n=>
    rw[c]at h;cases h;have:=ug a;rw[Kq,Kr]at this;omega
 ·cases h
theorem GD{ws:Y Str}{f:Frm}(h:fZ ws=Z f):∃x l m,f=.unk x l m:=by
 unfold fZ at h;split at h
 ·split at h
  ·cases h
  ·split at h
   ·cases h;show⟨_,_,_,S⟩
   ·split at h
    ·cases h
    ·split at h
     ·cases h;show⟨_,_,_,S⟩
     ·cases h
 ·cases h
theorem Ek{ws:Y Str}{f:Frm}(h:fo ws=Z f):∃a b t,f=.row a b t:=by
 unfold fo at h;split at h
 ·split at h
  ·cases h;show⟨_,_,_,S⟩
  ·cases h
 ·cases h
theorem Cb{ws:Y Str}{f:Frm}(h:iT ws=Z f):∃a c,f=.worth a c/\a.length<=ws.length:=by
 unfold iT at h;let⟨a,e,rfl⟩:=Lu.mp h;have:=ug e;rw[Kr]at this;show⟨a,_,S,()⟩
theorem wC{x:Str}{f:Frm}(e:x.length<=890)(h:cz x=Z f):(uN f).length<=900:=by
 have c:=LN x " ";unfold cz mU at h;split at h
 ·let⟨y,l,m,rfl⟩:=GD h;change 1<=900;decide
 split at h
 ·let⟨a,b,t,rfl⟩:=Ek h;have:=zS h;change (a.map _).length<=900;rw[mn];omega
 split at h
 ·let⟨a,j,rfl,g⟩:=Cb h;change (a.map _).length<=900;rw[mn];omega
 ·cases h
inductive y_Reading__read_line(as:List Sm)(R:Sm->List Om->Prop)(Rx:XD->List Om->Prop):Prop|mk (a:Option Addr) (s:Rd) (x:Str) (z:Int) (_:as=[.ob a (eg s),.v (.str x),.v (.int z)]) (_:RdOk s) (_:asc x) (_:x.length<=890) (_:(dh s (cz x)=0->R (.v .non) [eg (jH s (cz x))])) (_:(dh s (cz x)≠0->Rx (jG (dh s (cz x)) z) [eg s]))
theorem DX(F:Fun K "read_line" "Reading.read_line" mE f G){u:Addr}(e:TxtReading K mg u)(B:Cl P w K mg base (n+2) "line_form" ["line"] z_line_form)(M:ClX P w K mg base (n+2) "sum_entries" ["terms","names","at"] (orX z_sum_entries qE))(N:MthMX P w K mg base (n+2) u "read_unknown" ["self","form","at"] y_Reading__read_unknown)(J:MthMX P w K mg base (n+2) u "read_row" ["self","form","at"] y_Reading__read_row)(I:Rz1 P w K mg base "NoText"):FnOk P w K mg base (CXo P w) (n+3) f G ["self","line","at"] (lSpMX K mg y_Reading__read_line):=by
 refine F.okMX qaa (λas R O h=>?_) (λO1 A outer s H E as R O qs aw o h C=>?_)
 ·let⟨a,s,x,z,rfl,_⟩:=h;rfl
 let⟨a,s,x,z,rfl,p,U,T,q,j⟩:=h;let⟨X,rfl⟩:=gc C
 refine⟨_,(aG (aF (i:=3) qaa.nd S X9 (ag (bX B o S (af (dv 1) av ae) ae ao)))
   (aK (aJ (jy (PWD.td (cQ (aD fS (aa 3) (PD.q bL) (aC _)) (ee (aD uq (PD.q (fj e.cl e.n_worth e.ns (aa 0))) (PD.q bL) (aC _)))))) (ak (iu I S S S (o.mono ()) (dv 2) ae)) aN)
   (ak (aJ (aM (aD (aX o.units) (PD.q (aS (aa 3))) (PD.q aq) (aC _))) (ak (mF (pD 0 N o S e.cl e.ns (bA (ag (dv 3)) (bA (ag (dv 2)) bJ ae) ae) ae (bC ae ao)))) (ak (aJ (aM (aD (aX o.units) (PD.q (aS (aa 3))) (PD.q aq) (aC _))) (ak (mF (pD 0 J o S e.cl e.ns (bA (ag (dv 3)) (bA (ag (dv 2)) bJ ae) ae) ae (bC ae ao)))) (ak (wQ 0 e.cl e.n_worth e.ns (vp (bA (vf M o S S (af (aS (aa 3)) (af (fj e.cl e.n_names e.ns (aa 0)) (af (dv 2) av ae) cZ) aR) aR (bC cZ (bC ae ao))) (bA (ag (aS (aa 3))) bJ aR) bK)))))))))),?_⟩
 intro ke;refine⟨x,S,U,(),?_⟩
 cases v:cz x with
 |none=>
  rw[v]at j;rfl';refine⟨λ_=>False,⟨λ_=>⟨λ_=>⟨trivial,_,S,j (by change (4:Int)≠0;decide)⟩,λh=>tf h⟩,λh=>tf h⟩,λ_ z=>z.elim⟩
 |some f=>
  have y:=wC T v;rw[v]at q j;rfl';refine⟨λρ=>s.wo=ű/\ρ=[Z (.ob (Z X) (eg s)),Z (.v (.str x)),Z (.v (.int z)),Z (.v (gE f))],?_,?_⟩
  ·have es:∀(g:Frm),gE g≠.non:=λg=>by cases g<;>show λh=>by cases h
   cases r:s.wo with
   |none=>
    have wn:oK s.wo=.non:=by rw[r];rfl
    cases f<;>(refine⟨λh=>ff h,λ_=>⟨S,_,S,?_⟩⟩;rw[wn];show⟨λh=>ff h,λ_=>⟨S,S⟩⟩)
   |some w=>
    have wn:oK s.wo=eJ w:=by rw[r];rfl
    have Q:dh s (Z f)=4:=JV (by rw[r];show λh=>by cases h);rw[Q]at j;cases f<;>(refine⟨λh=>ff h,λ_=>⟨S,_,S,?_⟩⟩;rw[wn];show⟨λ_=>⟨trivial,_,S,j 'b'⟩,λh=>tf h⟩)
  rintro ρ ⟨r,rfl⟩;have am:dh s (Z f)=fE s f:=JX r;rw[am]at q j
  cases f with
  |unk nx nl nm=>
   show⟨_,S,λ_=>⟨⟨_,_,S,S⟩,_,S,S,_,s,_,_,_,z,S,p,λh=>⟨_,S,q h⟩,λh=>⟨_,S,j h⟩⟩,λh=>tf h⟩
  |row l nb nt=>
   have t:l.length<=900:=by have:(l.map (·.2)).length<=900:=y;rwa [mn]at this
   show⟨_,S,λh=>ff h,λ_=>⟨_,S,λ_=>⟨⟨_,_,S,S⟩,_,S,S,_,s,_,_,_,z,S,p,t,λh=>⟨_,S,q h⟩,λh=>⟨_,S,j h⟩⟩,λh=>tf h⟩⟩
  |worth l ar=>
   have t:l.length<=900:=by have:(l.map (·.2)).length<=900:=y;rwa [mn]at this
   refine⟨_,S,λh=>ff h,λ_=>⟨_,S,λh=>ff h,λ_=>⟨_,S,S,_,S,?_⟩⟩⟩;by_cases c:bN s.ns [] (l.map (·.2))=0
   rotate_left
   ·show .inr ⟨l,s.ns,z,_,S,.inr S,p.nd,p.nl,t,c,_,S,j c⟩
   refine .inl ⟨l,s.ns,.int z,_,S,.inr S,p.nd,p.nl,t,vv c,jD _,?_⟩;show⟨_,S,_,_,S,S,(by change 4<1000;decide),dU (rL s l ar),S,_,S,q c⟩
open Tx
inductive z_turned_numbers(ds:List D)(R:D->Prop):Prop|mk (es:List Int) (_:ds=[.tup (es.map D.int)]) (_:es.length<=1000) (_:R (.tup ((es.map λx=>-x).map D.int)))
theorem Ga(F:Fun K "turned_numbers" "turned_numbers" k6 f G)(e:mg "tuple"=ű):FnOk P w K mg base bt (n+1) f G ["entries"] (lSpM K (zM z_turned_numbers)):=by
 refine F.okM IC (λas R c h=>?_) (λo A outer s H E as R c t l p h a=>?_)
 ·let⟨_,rfl,g,rfl,_⟩:=h;rfl
 let⟨_,rfl,g,rfl,j,q⟩:=h;obtain rfl:=cI a;refine⟨_,(ak (aL (ag (df hZ S e KN (aV (PD.q (PF.d (ic (k:=1) (N':=["entry"]) (cap:=[ű]) S (.ok (show fK ["entries"] (aQ k6) _ ["entry"] [ű]=ų by lia)) 'a' (gI 'b') (gK (dv 0)) (λ_ _ _ _ _=>(gC (i:=0) (show List.Nodup (["entry"]:Y Str)by lia) S X9)) (λ_ _ _ _ _=>(eS (aa 0)))))) aW dG) dG ao)))),?_⟩;intro r;refine x6 (f:=D.int) (λx=>-x) (ed j) (λx _=>rfl) ?_;show q
noncomputable def iL(c:Int)(a:Y Int):Y Int:=if c = -1 then a.map λx=>-x else a
open Tx
noncomputable def cD(s:Rd)(n:Nat):Y Str->(Int×Nat) ⊕ Rd
 | []=>.inr s
 |x::xs=>if dh s (cz x)=0 then cD (jH s (cz x)) (n+1) xs else .inl (dh s (cz x),n)
theorem wU{s:Rd}{f:Ų Frm}(j:RdOk s)(g:dh s f=0):RdOk (jH s f):=by
 cases f with
 |none=>show absurd g (by change ¬ (4:Int)=0;decide)
 |some f=>
  by_cases p:s.wo=ű
  rotate_left
  ·rw[show dh s (Z f)=4 from JV p]at g;show absurd g 'b'
  rw[show dh s (Z f)=fE s f from JX p]at g
  cases f with
  |unk x l m=>
   have g:eZ s x=0:=g;unfold eZ at g;by_cases u:s.rs=[]
   ·rw[JX u]at g;by_cases r:x∈s.ns
    ·rw[JX r]at g;show absurd g 'b'
    ·rw[JV r]at g;by_cases y:s.ns.length=8
     ·rw[JX y]at g;show absurd g 'b'
     ·have C:=j.nl;have B:=j.bl;refine⟨?_,by change (s.ns++[x]).length<=8;rw[wy];change _+1<=8;omega,j.rl,?_,?_,λw h=>?_⟩
      ·change (s.ns++[x]).Nodup;rw[KS];show⟨j.nd,by simp,λa z b g e=>r (by rw[J3]at g;rw[←g,←e];show z)⟩
      ·change (s.bs++[(l,m)]).length<=8;rw[wy];have e:=j.eq;change _+1<=8;omega
      ·change (s.bs++[(l,m)]).length=(s.ns++[x]).length;rw[wy,wy,j.eq];rfl
      ·have h:s.wo=Z w:=h;rw[p]at h;cases h
   ·rw[JV u]at g;show absurd g 'b'
  |row o b t=>
   have g:eY s o=0:=g;unfold eY at g;by_cases c:bN s.ns [] (o.map (·.2))=0
   ·rw[JX c]at g;by_cases v:s.rs.length=12
    ·rw[JX v]at g;show absurd g 'b'
    ·have rl:=j.rl;show⟨j.nd,j.nl,by change (s.rs++[_]).length<=12;rw[wy];change _+1<=12;omega,j.bl,j.eq,j.wl⟩
   ·rw[JV c]at g;show absurd g c
  |worth o A=>
   refine⟨j.nd,j.nl,j.rl,j.bl,j.eq,λw h=>?_⟩;have h:Z (bU s.ns o,A)=Z w:=h;cases h;change (bU s.ns o).length=s.ns.length;unfold bU;rw[mn]
theorem w4{x:Str}(h:asc x):∀w∈Ì x "\n",asc w:=λw g=>by
 have l:=MW g;refine⟨?_,by have:=h.2;omega⟩;have a:=h.1;rw[←MH,Kf]at a ⊢;intro c j;refine a c ?_;have e:=Mo x "\n";have:c∈L (Str.join "\n" (Ì x "\n")):=ll g j;rw[e]at this;show this
noncomputable def mW(s:Rd)(c:Y Int)(a:Int):D:=.tup [.tup (s.ns.map D.str),.tup [.tup (s.bs.map jR),.tup (s.rs.map eJ),.tup ((iL a c).map D.int)],.int a]
structure LsOk(x:Str)(ls:List Str):Prop where
 as:asc x
 eq:Ì x "\n"=ls
 len:∀l∈ls,l.length<=890
 cnt:ls.length<=40000
inductive y_read_plan(as:List Sm)(R:Sm->List Om->Prop)(Rx:XD->List Om->Prop):Prop|mk (x:Str) (ls:List Str) (_:as=[.v (.str x)]) (_:LsOk x ls) (_:(∀s es sn,cD cU 1 ls=.inr s->s.wo=Z (es,sn)->RdOk s->R (.v (mW s es sn)) [])) (_:(∀s,cD cU 1 ls=.inr s->s.wo=ű->Rx (jG 4 (ls.length:Nat)) [])) (_:(∀k n,cD cU 1 ls=.inl (k,n)->Rx (jG k (n:Nat)) []))
noncomputable abbrev SP(x:D)(s:Rd)(a:Y Str)(c e g h j:Ų Sm):ai:=[Z (.v x),Z (.ob ű (eg s)),Z (.v (.lst (a.map D.str))),c,e,g,h,j]
theorem uC:RdOk cU:=⟨Ny,'b','b','b',S,λw h=>(by cases h)⟩
theorem Gg(F:Fun K "read_plan" "read_plan" oa f G){J:Addr}(a:TxtReading K mg J)(U:Cl P w K mg base (n+2) "turned_numbers" ["entries"] z_turned_numbers)(aw:MkM P w K mg base (n+1) J ["self"] y_Reading____init__)(PU:MthMX P w K mg base (n+2) J "read_line" ["self","line","at"] y_Reading__read_line)(ij:mg "enumerate"=ű)(M:mg "tuple"=ű)(aP:mg "len"=ű)(ar:Rz1 P w K mg base "NoText"):FnOk P w K mg base (CXo P w) (n+3) f G ["text"] (lSpMX K mg y_read_plan):=by
 refine F.okMX qax (λas R Rx h=>?_) (λO1 A outer s H E as R Rx qs O0 v h X=>?_)
 ·let⟨x,c,rfl,_⟩:=h;rfl
 let⟨x,c,rfl,u,q,qn,qx⟩:=h;obtain rfl:=cI X
 refine⟨_,(aG (aF (i:=1) qax.nd S X9 (Fb aw v S a.mgC a.ns))
   (aG (aF (i:=2) qax.nd S X9 (ag (PF.d (jE (aa 0) aq (bZ aj) aj))))
   (aG (eQ Ď S (fh (qw S ij (af (dv 2) av ae))) (iy (n:=2) S (cX (bY (i:=3) qax.nd S X9) (cX (bY (i:=4) qax.nd S X9) iQ))) (ak (mF (pD 1 PU v S a.cl a.ns (bA (ag (dv 4)) (bA (ag (aE aY (aa 3) (PD.q ah))) bJ cq) ae) ae (bC cq ao)))))
   (aK (aJ (jy (aD fS (PD.q (fj a.cl a.n_worth a.ns (aa 1))) (PD.q bL) (aC _))) (ak (iu ar S S S (v.mono ()) (bz bF S aP J7 (aV (aa 2) aW ae) ae ao) bK)) aN)
   (aG (aF (i:=5) qax.nd S X9 (oO (aS (PD.q (fj a.cl a.n_worth a.ns (aa 1))))))
   (aG (aF (i:=6) qax.nd S X9 (oO (aS (PD.q (fj a.cl a.n_worth a.ns (aa 1))))))
   (aK (aJ (aM (aD (aX v.units) (aa 6) (PD.q (eS (PD.q ah))) (aC _))) (ak (aF (i:=5) qax.nd S X9 (ag (bX U v S (af (dv 5) av ae) ae ao)))) aN)
   (aG (aF (i:=7) qax.nd S X9 (oO (bB (af (df hZ S M KN (aV (PD.q (fj a.cl a.n_bounds a.ns (aa 1))) aW cZ) cZ ao) (af (df hZ S M KN (aV (PD.q (fj a.cl a.n_rows a.ns (aa 1))) aW cZ) cZ ao) (af (dv 5) av ae) bK) bK))))
   (ak (aL (oO (bB (af (df hZ S M KN (aV (PD.q (fj a.cl a.n_names a.ns (aa 1))) aW cZ) cZ ao) (af (dv 7) (af (dv 6) av ae) ae) bK))))))))))))),?_⟩
 intro ke;have T:=u.as;have hcn:=u.cnt;refine⟨ű,S,?_⟩;rfl';refine⟨_,S,_,S,'b',by have:=KP;have:=T.2;omega,?_⟩;rw[u.eq];rfl';refine⟨λi ρ=>∃(s:Rd)(z B:Ų Sm),(RdOk s/\cD s (i+1) (c.drop i)=cD cU 1 c)/\ρ=SP (.str x) s c z B ű ű ű,⟨cU,_,_,⟨uC,S⟩,S⟩,?_,?_⟩
 ·rintro i d ρ hd ⟨s,z,B,⟨r,j⟩,rfl⟩;let⟨y,hy,rfl⟩:=nq hd;let⟨l,rfl,C⟩:=gf hy;have Q:=bj C;have am:=Kp C
  have UL:c.drop i=l::c.drop (i+1):=by rw[Lv Q];congr 1;rw[bq Q]at C;show Kh C
  have t:cD s (i+1) (c.drop i)=if dh s (cz l)=0 then cD (jH s (cz l)) (i+1+1) (c.drop (i+1)) else .inl (dh s (cz l),i+1):=by rw[UL];rfl
  rw[j]at t;refine⟨S,?_⟩;rfl';refine⟨⟨_,_,S,S⟩,_,S,S,_,s,l,(i:Int)+1,S,r,w4 T l (by rw[u.eq];show am),u.len l am,λh=>?_,λh=>?_⟩
  ·rw[JX h]at t;refine⟨_,_,_,⟨wU r h,t.symm⟩,S⟩
  ·rw[JV h]at t;have N:=qx _ _ t;rw[show ((i+1:Nat):Int)=(i:Int)+1 by omega]at N;show N
 rintro ρ ⟨s,z,B,⟨r,j⟩,rfl⟩;rw[kG,mn,MI]at j;have j:cD cU 1 c=.inr s:=j.symm
 have lL:(((c.map D.str).length:Nat):Int)=c.length:=by rw[mn]
 refine⟨λρ=>s.wo≠ű/\ρ=SP (.str x) s c z B ű ű ű,?_,?_⟩
 ·refine⟨S,_,S,?_⟩
  cases o:s.wo with
  |none=>
   refine⟨λ_=>⟨trivial,?_⟩,λh=>tf h⟩;rw[lL];show qn s j o
  |some w=>show⟨λh=>ff h,λ_=>⟨by simp,S⟩⟩
 rintro ρ ⟨o,rfl⟩;let⟨⟨p,I⟩,o⟩:=Option.ne_none_iff_exists'.mp o;have q:=q s p I j o r
 have Tb:p.length<=1000:=by have:p.length=s.ns.length:=r.wl _ o;have:=r.nl;omega
 have O:oK s.wo=eJ (p,I):=by rw[o];rfl
 refine⟨S,_,S,?_⟩;rw[O];refine⟨_,S,jD _,?_⟩;rfl';refine⟨S,_,S,?_⟩;rw[O];refine⟨_,S,.int _,?_⟩;rfl';refine⟨λρ=>ρ=SP (.str x) s c z B (Z (.v (.tup ((iL I p).map D.int)))) (Z (.v (.int I))) ű,⟨λh=>?_,λh=>?_⟩,?_⟩
 ·have h:=gL h;show⟨p,S,Tb,by unfold iL;rw[JX h];rfl⟩
 ·have h:=jh h;unfold iL;rw[JV h];rfl
 rintro ρ rfl;refine⟨S,_,S,S,_,S,?_,?_⟩
 ·refine .tup λd hd=>?_;simp only[J9,KJ,Ml]at hd;rcases hd with rfl|rfl|rfl
  ·refine .tup λe g=>?_;let⟨b,_,rfl⟩:=Lb.mp g;show qR b
  ·refine .tup λe g=>?_;let⟨b,_,rfl⟩:=Lb.mp g;show mK b
  ·show jD _
 rfl';refine⟨S,_,S,?_,q⟩;refine .tup λd hd=>?_;simp only[J9,KJ,Ml]at hd;rcases hd with rfl|rfl|rfl
 ·refine .tup λe g=>?_;let⟨b,_,rfl⟩:=Lb.mp g;show .str b
 ·refine .tup λd hd=>?_;simp only[J9,KJ,Ml]at hd;rcases hd with rfl|rfl|rfl
  ·refine .tup λe g=>?_;let⟨b,_,rfl⟩:=Lb.mp g;show qR b
  ·refine .tup λe g=>?_;let⟨b,_,rfl⟩:=Lb.mp g;show mK b
  ·show jD _
 ·show .int _
noncomputable def Pl(n:Nat)(o:Om):Prop:=∃(r sd c:Int),o=.lst [.int r,.int sd,.int c]/\0<=c/\c<=n
theorem Pl.mono{n m:Nat}{o:Om}(h:Pl n o)(j:n<=m):Pl m o:=by let⟨r,st,c,e,a,g⟩:=h;show⟨r,st,c,e,a,()⟩
theorem cu{z:Int}(h:z<2^64):z<2^9000:=by
 have a:(2:Nat)^64<=2^9000:=Nat.pow_le_pow_right 'b' ()
 have c:(2:Int)^64<=2^9000:=by exact_mod_cast a
 omega
inductive y__law_pool(as:List Sm)(R:Sm->List Om->Prop)(Rx:XD->List Om->Prop):Prop|mk (ns:List Int) (_:as=[.v (.fzl (ns.map D.int))]) (_:ns.length<=63) (_:∀o,Pl 0 o->R (.ob ű o) [])
theorem Ii(F:Fun K "_law_pool" "_law_pool" ng f G)(o:mg "len"=ű):FnOk P w K mg base bt (n+1) f G ["_law_script"] (lSpM K y__law_pool):=by
 refine F.okM qan (λas R l h=>?_) (λt A outer s H E as R l I p z h j=>?_)
 ·let⟨ns,rfl,_⟩:=h;rfl
 let⟨ns,rfl,u,q⟩:=h;obtain rfl:=cI j
 refine⟨_,(aG (aF (i:=1) qan.nd S X9 (ag ah))
   (aG (eQ Le S (fh (gK (bH (aa 0) bO (bD (PD.q ah))))) (bY (i:=2) qan.nd S X9) (ak (aF (i:=1) qan.nd S X9 (ag (aE cF (PD.q (aE aY (PD.q (aE aY (PD.q (aE fu (aa 1) (PD.q ah))) (PD.q (aE cF (aa 2) (PD.q ah))))) (PD.q ah))) (PD.q ah))))))
   (aG (aF (i:=3) qan.nd S X9 (ag ah))
   (aK (aJ (aM (PWD.td (gv (aD da (PD.q (bz bF S o J7 (aV (aa 0) aW ae) ae ao)) (PD.q ah) (aC _)) (iZ (aD zQ (PD.q (aS (aa 0))) (PD.q (aE uB (PD.q ah) (PD.q ah))) (aC _)))))) (ak (aF (i:=3) qan.nd S X9 (ag (aS (aa 0))))) aN)
   (ak (aL (eO (bQ (af (dv 3) (af (dv 1) (af ah av aj) ae) ae))))))))),?_⟩
 intro C;have e:∀r sd:Int,Pl 0 (.lst [.int r,.int sd,.int 0]):=λr sd=>⟨r,sd,0,S,(),()⟩;refine⟨(aT ns ű (Z 63)).map D.int,cE D.int ns ű (Z 63),?_⟩;refine⟨λi ρ=>∃(v:Int)(a:Ų Sm),ρ=[Z (.v (.fzl (ns.map D.int))),Z (.v (.int v)),a,ű],⟨_,_,S⟩,?_,?_⟩
 ·rintro i d ρ hd ⟨v,a,rfl⟩;let⟨x,rfl,B⟩:=gf hd;show⟨mm 'b' 'b',(by decide:(0:Int)<1000000007),(by decide:(0:Int)<2147483647),_,Z (.v (.int x)),S⟩
 rintro ρ ⟨v,a,rfl⟩;refine⟨λρ=>∃r:Int,ρ=[Z (.v (.fzl (ns.map D.int))),Z (.v (.int v)),a,Z (.v (.int r))],⟨λh=>?_,λh=>?_⟩,?_⟩
 ·have h:=dP h;let⟨y,g⟩:=FC (ns:=ns) (k:=0) 'b' (by rw[mn]at h;show h);show⟨_,g,⟨'b','b','b'⟩,λ_=>⟨_,g,_,S⟩,λ_=>⟨_,S⟩⟩
 ·show⟨λc=>(by cases c),λ_=>⟨_,S⟩⟩
 rintro ρ ⟨r,rfl⟩;show q _ (e r v)
inductive y__law_draw(as:List Sm)(R:Sm->List Om->Prop)(Rx:XD->List Om->Prop):Prop|mk (a:Option Addr) (o:Om) (z:Int) (n:Nat) (_:as=[.ob a o,.v (.int z)]) (_:Pl n o) (_:n<2^20) (_:0<z) (_:z<2^9000) (_:∀(x:Int)(o':Om),0<=x->x<z->Pl (n+1) o'->R (.v (.int x)) [o'])
theorem HF(F:Fun K "_law_draw" "_law_draw" oU f G) :FnOk P w K mg base bt (n+1) f G ["_law_pool_here","_law_many"] (lSpM K y__law_draw):=by
 refine F.okM qae (λas R j h=>?_) (λC A outer s H E as R j N B J h g=>?_)
 ·let⟨a,o,z,n,rfl,_⟩:=h;rfl
 let⟨a,o,z,n,rfl,v,I,e,x,q⟩:=h;let⟨y,rfl⟩:=gc g
 refine⟨_,(aK (aJ (aM (aD da (PD.q (aS (aa 0))) (PD.q ah) (aC _))) (aG (aF (i:=2) qae.nd S X9 (ag (aE cF (PD.q (aS (aa 0))) (aa 1))))
   (aG (jw 0 (ag (aE iW (PD.q (aS (aa 0))) (aa 1))) (ag ah))
   (ak (aL (ag (dv 2)))))) aN)
   (aG (w6 0 ui (ag ah) (ag ah))
   (aG (aF (i:=3) qae.nd S X9 (ag (aS (aa 0))))
   (aG (aF (i:=4) qae.nd S X9 (ag (aE fu (PD.q (aE aY (PD.q (aE aY (PD.q (aE aY (PD.q (aS (aa 0))) (PD.q (aE fu (PD.q (aE fu (PD.q ah) (aa 3))) (aa 3))))) (PD.q (aE fu (PD.q ah) (aa 3))))) (PD.q ah))) (PD.q ah))))
   (ak (aL (ag (aE cF (PD.q (aE cF (PD.q (aE fu (PD.q (aE cF (aa 4) (PD.q ah))) (PD.q ah))) (PD.q ah))) (aa 1))))))))),?_⟩
 intro M;let⟨r,st,c,rfl,l,u⟩:=v;refine⟨λρ=>ρ=[Z (.ob (Z y) (.lst [.int r,.int st,.int c])),Z (.v (.int z)),ű,ű,ű],⟨_,S,λh=>?_,λ_=>rfl⟩,?_⟩
 ·show⟨_,S,e,_,S,CDivB.of e x,_,S,_,S,_,S,q _ _ (Lj _ ()) (Lf _ e) ⟨_,st,c,S,l,()⟩⟩
 rintro ρ rfl;refine⟨trivial,2,c,S,S,(by change 2<3;decide),_,S,_,S,?_⟩
 have p:-(2^64)<c+1:=by omega
 have t:c+1<2^64:=by omega
 refine⟨_,S,jX 'b' 'b',mm p t,jX 'b' 'b',mm 'b' 'b',(by decide:(0:Int)<2147483647),mm 'b' 'b',(by decide:(0:Int)<1000000007),e,?_⟩;show⟨_,S,q _ _ (Lj _ ()) (Lf _ e) ⟨r,st,c+1,S,(),()⟩⟩
open Tx
theorem tJ{j:Type}[DecidableEq j]:∀{xs ys:Y j},xs.Nodup->(∀x∈xs,x∈ys)->xs.length<=ys.length
 | [],_,_,_=>K1 _
 |x::xs,ys,h,c=>by
  rw[Ko]at h;have:=tJ (ys:=ys.erase x) h.2 λy g=>(List.mem_erase_of_ne λe=>h.1 (by rw[←e];show g)).mpr (c y (JZ _ g));have a:=c x JY;rw[List.length_erase_of_mem a]at this;have l:=List.length_pos_of_mem a;rw[J1];omega
noncomputable def jb(w:Str):Prop:=(L w).all dQ=ų
noncomputable def bP(l:Y Nat):Str:=⟨l.toArray⟩
theorem pN(l:Y Nat):L (bP l)=l:=rfl
theorem rZ(w:Str):bP (L w)=w:=rfl
theorem oV(l m:Y Nat):bP l++bP m=bP (l++m):=by change (⟨l.toArray++m.toArray⟩:Str)=⟨(l++m).toArray⟩;rw[List.append_toArray]
theorem rY(l:Y Nat):(bP l).length=l.length:=rfl
theorem Ht{l m:Y Nat}(h:bP l=bP m):l=m:=by
 have:L (bP l)=L (bP m):=by rw[h]
 show this
theorem nm_iff{l:Y Nat}:bf (bP l)=ų↔1<=l.length/\l.length<=12/\l.all dQ=ų:=by unfold bf;rw[Kc,Kc,Kt,Kt,rY,pN,and_assoc]
theorem wY:("abcdefghijklmnopqrstuvwxyz":Str).cps.toList=(List.range 26).map (97+·):=by lia
theorem Jh{i c:Nat}(h:(L ("abcdefghijklmnopqrstuvwxyz":Str))[i]?=Z c):c=97+i/\i<26:=by
 have e:L ("abcdefghijklmnopqrstuvwxyz":Str)=(List.range 26).map (97+·):=wY;rw[e,J4]at h
 have a:i<26:=by
  rcases KL i 26 with c|c
  ·show c
  ·rw[K6 (by rw[Me];show c)]at h;cases h
 rw[Nt a]at h;cases h;show⟨S,a⟩
theorem Gk(c:Nat)(t:Y Nat):cutS (bP (c::t)) (Z 1) ű=bP t:=by
 unfold cutS
 have e:aT (bP (c::t)).cps.toList (Z 1) ű=t:=by change aT (c::t) (Z 1) ű=t;unfold aT HT.sIx;simp
 rw[e];rfl
theorem sO{i:Nat}(h:i<26):dQ (97+i)=ų:=by unfold dQ;simp;omega
inductive z__law_fresh(ds:List D)(R:D->Prop):Prop|mk (ns:List Str) (x:Str) (_:ds=[.lst (ns.map D.str),.str x]) (_:ns.length<=20) (_:bf x=ų) (_:∀y:Str,bf y=ų->y∉ns->R (.str y))
theorem zt(F:Fun K "_law_fresh" "_law_fresh" nV f G) :FnOk P w K mg base bt (n+1) f G ["_law_names_here","_law_name"] (lSpM K (zM z__law_fresh)):=by
 refine F.okM qah (λas R am h=>?_) (λO1 A outer s H E as R am qs O0 hr h Q=>?_)
 ·let⟨_,rfl,ns,x,rfl,_⟩:=h;rfl
 let⟨_,rfl,ns,x,rfl,hl,v,q⟩:=h;obtain rfl:=cI Q
 refine⟨_,(aG (eQ Le S (fh (kE aq)) (bY (i:=2) qah.nd S X9) (aK (aJ (aM (aD kg (aa 1) (aa 0) (by with_unfolding_all rfl))) (ak (aL (ag (dv 1)))) aN)
   (ak (aF (i:=1) qah.nd S X9 (ag (aE aY (aa 2) (PD.q (bH (aa 1) (bD (PD.q ah)) bO))))))))
   (ak (aL (ag (dv 1))))),?_⟩
 intro ke
 obtain⟨M,t,z⟩:∃c t,L x=c::t:=by
  cases h:L x with
  |nil=>
   have:1<=(L x).length:=(nm_iff.mp (by rw[rZ];show v)).1;rw[h]at this;simp at this
  |cons c t=>show⟨c,t,S⟩
 obtain rfl:x=bP (M::t):=by rw[←z];rfl
 have J:=nm_iff.mp v
 have u:∀i,i<26->bf (bP ((97+i)::t))=ų:=λi r=>by
  refine nm_iff.mpr ⟨by simp,J.2.1,?_⟩;have O:=J.2.2;rw[NN,Kc]at O ⊢;show⟨sO r,O.2⟩
 refine⟨_,S,'a',?_⟩;refine⟨λi ρ=>∃(c:Nat)(B:Ų Sm),ρ=[Z (.v (.lst (ns.map D.str))),Z (.v (.str (bP (c::t)))),B]/\bf (bP (c::t))=ų/\(0<i->c=96+i)/\∀j,1<=j->j<i->bP ((96+j)::t)∈ns,⟨M,_,S,v,λh=>absurd h (),λj o N=>absurd N ()⟩,?_,?_⟩
 ·rintro i d ρ hd ⟨c,B,rfl,p,I,l⟩;let⟨s,rfl,ar⟩:=CD hd;let⟨rfl,r⟩:=Jh ar;refine⟨λρ=>bP (c::t)∈ns/\ρ=[Z (.v (.lst (ns.map D.str))),Z (.v (.str (bP (c::t)))),Z (.v (.str (iU (97+i))))],⟨.inr _,_,S,by rw[←i6];rfl,?_⟩,?_⟩
  ·rw[gM];by_cases h:bP (c::t)∈ns
   ·rw[Kw h];show⟨λe=>ff e,λ_=>⟨h,S⟩⟩
   ·rw[Kd h];show⟨λ_=>q _ p h,λe=>tf e⟩
  ·rintro ρ ⟨X,rfl⟩;have U:(c::t).length<=12:=(nm_iff.mp p).2.1;refine⟨gq (by change (c::t).length<=100000;omega),bP t,Gk c t,?_⟩;refine⟨?_,?_⟩
   ·change 1+t.length<=sizeLine;have:=KP;simp only[J1]at U;omega
   have e:iU (97+i)++bP t=bP ((97+i)::t):=oV [97+i] t;rw[e];refine⟨97+i,_,S,u i r,λ_=>by omega,λj o N=>?_⟩;by_cases e:j=i
   ·subst e;rw[←I o];show X
   ·show l j o ()
 rintro ρ ⟨c,B,rfl,p,I,l⟩;exfalso
 have g:(iR ("abcdefghijklmnopqrstuvwxyz":Str)).length=26:=by lia
 rw[g]at l;have:=tJ (xs:=(List.range 25).map λj=>bP ((97+j)::t)) (ys:=ns) ?_ ?_
 ·rw[mn,Me]at this;omega
 ·refine List.Pairwise.map _ (λa b T e=>T ?_) (List.nodup_range (n:=25));have:=ON (Ht e);omega
 ·intro y aw;let⟨j,C,rfl⟩:=Lb.mp aw;have C:=Li.mp C;have:=l (j+1) () ()
  have e:96+(j+1)=97+j:=by omega
  rw[e]at this;show this
inductive y__law_word(as:List Sm)(R:Sm->List Om->Prop)(Rx:XD->List Om->Prop):Prop|mk (a:Option Addr) (o:Om) (n m:Nat) (_:as=[.ob a o,.v (.int (n:Nat))]) (_:Pl m o) (_:m+100<2^20) (_:n<=12) (_:∀(w:Str)(o':Om),jb w->w.length=n->Pl (m+n) o'->R (.v (.str w)) [o'])
theorem sQ{x:Int}(a:0<=x)(e:x<26):∃c,bT ("abcdefghijklmnopqrstuvwxyz":Str).cps.toList x=Z c/\dQ c=ų:=by let⟨k,rfl⟩:=Kn a;refine⟨97+k,?_,sO ()⟩;rw[wY];show mh (i:=k) (by rw[J4,Nt ()];rfl) S
theorem IS(F:Fun K "_law_word" "_law_word" nR f G)(u:ClM P w K mg base n "_law_draw" ["_law_pool_here","_law_many"] y__law_draw)(B:mg "range"=ű):FnOk P w K mg base bt (n+1) f G ["_law_pool_here","_law_size"] (lSpM K y__law_word):=by
 refine F.okM qat (λas R y h=>?_) (λT A outer s H E as R y qs am J h t=>?_)
 ·let⟨a,o,n,m,rfl,_⟩:=h;rfl
 let⟨a,o,n,m,rfl,I,X,ar,q⟩:=h;let⟨N,rfl⟩:=gc t
 refine⟨_,(aG (aF (i:=2) qat.nd S X9 (ag aq))
   (aG (eQ Le S (fh (oW S B (af (dv 1) av ae))) (bY (i:=3) qat.nd S X9) (ak (aF (i:=2) qat.nd S X9 (hX aY (ag (dv 2)) (kT (ag aq) (b0 u J S (b9 0 (bA (ag ah) bJ aj) ae) ae (bC aj ao)) (λ_ _=>rfl))))))
   (ak (aL (ag (dv 2)))))),?_⟩
 intro aw;refine⟨⟨(),()⟩,λi ρ=>∃(w:Str)(g:Om)(r:Ų Sm),ρ=[Z (.ob (Z N) g),Z (.v (.int (n:Nat))),Z (.v (.str w)),r]/\jb w/\w.length=i/\Pl (m+i) g,⟨"",o,_,S,by unfold jb;decide,S,I⟩,?_,?_⟩
 ·rintro i d ρ hd ⟨w,g,r,rfl,p,l,j⟩;let⟨U,rfl⟩:=jx hd;rfl';refine⟨⟨_,_,S⟩,_,S,S,_,_,26,_,S,j,(),'b',cu 'b',λx M O Q v=>?_⟩;rfl';let⟨c,C,z⟩:=sQ O Q;refine⟨gq 'b',c,C,?_⟩;have:=KP;refine⟨by change w.length+1<=sizeLine;omega,w++bP [c],M,_,S,?_,by rw[iS,l];rfl,v⟩;unfold jb at p ⊢
  have e:L (w++bP [c])=L w++[c]:=by rw[←rZ w,oV,pN,pN]
  rw[e,Nn,p];simpa using z
 rintro ρ ⟨w,g,r,rfl,p,l,j⟩;rw[jc,Lh]at l j;show⟨_,S,q w g p l j⟩
open Tx
noncomputable def NmOk(ns:Y Str):Prop:=ns.Nodup/\ns.length<=9/\∀x∈ns,bf x=ų
noncomputable def fY(z:Int):Prop:=z.natAbs<10000
inductive y__law_names(as:List Sm)(R:Sm->List Om->Prop)(Rx:XD->List Om->Prop):Prop|mk (a:Option Addr) (o:Om) (n m:Nat) (_:as=[.ob a o,.v (.int (n:Nat))]) (_:Pl m o) (_:m+1000<2^20) (_:n<=9) (_:∀(ns:List Str)(o':Om),NmOk ns->ns.length=n->Pl (m+200) o'->R (.own (ns.map D.str)) [o'])
noncomputable def WL:Y Str:=["from","to","at","least","most","row","unknown","o","minus"]
theorem zX:∀w∈WL,bf w=ų:=by lia
theorem gS{ns:Y Str}{k:Int}(c:0<=k)(e:k<ns.length):∃y∈ns,bT (ns.map D.str) k=Z (.str y):=by
 let⟨i,rfl⟩:=Kn c
 have a:i<ns.length:=by omega
 show⟨ns[i],LJ a,ji (i:=i) (Km a) S⟩
theorem xj{w:Str}{z:Int}(j:Nat)(h:z=(j:Int)):cutS w ű (Z z)=bP ((L w).take j):=by
 subst h;unfold cutS;change bP (aT (L w) ű (Z (j:Int)))=_
 have e:aT (L w) ű (Z (j:Int))=(L w).take j:=by unfold aT;rw[HT.sIx_nat,HT.sIx_none,Mf,OP,←List.take_eq_take_min]
 rw[e]
theorem HP{w:Str}{z:Int}(j:Nat)(h:z=(j:Int)):cutS w (Z z) ű=bP ((L w).drop j):=by
 subst h;unfold cutS;change bP (aT (L w) (Z (j:Int)) ű)=_
 have e:aT (L w) (Z (j:Int)) ű=(L w).drop j:=by
  unfold aT;rw[HT.sIx_nat,HT.sIx_none];rcases KL j (L w).length with c|c
  ·rw[Ma (),K9 (by rw[Kr];omega)]
  ·rw[Oc c,MI,List.take_nil,OH c]
 rw[e]
theorem xH{w:Str}(h:jb w)(j:Nat):((L w).take j).all dQ=ų:=Kf.mpr λc a=>Kf.mp h c (LR a)
theorem CU{w:Str}(h:jb w)(j:Nat):((L w).drop j).all dQ=ų:=Kf.mpr λc a=>Kf.mp h c (Lq a)
theorem AM{w:Str}(h:jb w)(a:1<=w.length)(c:w.length<=12):bf w=ų:=by rw[←rZ w];show nm_iff.mpr ⟨by rw[ef];show a,by rw[ef];show c,h⟩
theorem NmOk.snoc{ns:Y Str}{y:Str}(h:NmOk ns)(p:ns.length<9)(o:bf y=ų)(l:y∉ns):NmOk (ns++[y]):=by
 refine⟨?_,by rw[wy];change ns.length+1<=9;omega,λx c=>?_⟩
 ·rw[KS];refine⟨h.1,by simp,λa g b j e=>?_⟩;rw[J3.mp j]at e;show l (e▸g)
 ·rcases Kj.mp c with c|c
  ·show h.2.2 x c
  ·rw[J3.mp c];show o
noncomputable abbrev NS(g:Addr)(n:Nat)(o:Om)(e h:Int)(c:Str)(ns:Y Str)(j l a:Ų Sm):ai:=[Z (.ob (Z g) o),Z (.v (.int (n:Nat))),Z (.v (.str "abcdefghijklmnopqrstuvwxyz")),Z (.v (.tup (WL.map D.str))),Z (.v (.int e)),Z (.v (.int h)),Z (.v (.str c)),Z (.own (ns.map D.str)),j,l,a]
theorem DI(F:Fun K "_law_names" "_law_names" pA f G)(C:ClM P w K mg base n "_law_draw" ["_law_pool_here","_law_many"] y__law_draw)(aw:ClM P w K mg base n "_law_word" ["_law_pool_here","_law_size"] y__law_word)(se:Cl P w K mg base n "_law_fresh" ["_law_names_here","_law_name"] z__law_fresh)(eh:mg "range"=ű):FnOk P w K mg base bt (n+1) f G ["_law_pool_here","_law_count"] (lSpM K y__law_names):=by
 refine F.okM qaj (λas R Rx h=>?_) (λO1 A outer s H E as R Rx qs O0 p h O4=>?_)
 ·let⟨a,o,n,m,rfl,_⟩:=h;rfl
 let⟨a,o,n,m,rfl,hp,hm,hn,q⟩:=h;let⟨U,rfl⟩:=gc O4
 refine⟨_,(aG (aF (i:=2) qaj.nd S X9 (ag aq))
   (aG (aF (i:=3) qaj.nd S X9 (ag (bB (af aq (af aq (af aq (af aq (af aq (af aq (af aq (af aq (af aq av aj) aj) aj) aj) aj) aj) aj) aj) aj))))
   (aG (aF (i:=4) qaj.nd S X9 (b0 C p S (b9 0 (bA (ag ah) bJ aj) ae) ae (bC aj ao)))
   (aG (aF (i:=5) qaj.nd S X9 (b0 C p S (b9 0 (bA (ag ah) bJ aj) ae) ae (bC aj ao)))
   (aG (aF (i:=6) qaj.nd S X9 (b0 aw p S (b9 0 (bA (ag ah) bJ aj) ae) ae (bC aj ao)))
   (aG (aF (i:=7) qaj.nd S X9 (eO (bQ av)))
   (aG (eQ Le S (fh (oW S eh (af (dv 1) av ae))) (bY (i:=8) qaj.nd S X9) (aG (aF (i:=9) qaj.nd S X9 (b0 aw p S (b9 0 (bA (hX aY (ag ah) (b0 C p S (b9 0 (bA (ag ah) bJ aj) ae) ae (bC aj ao))) bJ cq) ae) ae (bC cq ao)))
   (aK (aJ (aM (aD (aX p.units) (aa 4) (PD.q ah) (aC _))) (ak (aF (i:=9) qaj.nd S X9 (ag (bV (aa 3) (PD.q (aE cF (PD.q (aE aY (aa 5) (aa 8))) (PD.q ah))) (λ_ _=>rfl))))) (ak (aJ (aM (aD (aX p.units) (aa 4) (PD.q ah) (aC _))) (ak (aF (i:=9) qaj.nd S X9 (ag (bH (aa 6) bO (bD (PD.q (aE aY (PD.q (aE cF (PD.q (aE aY (aa 5) (PD.q (aE fu (PD.q ah) (aa 8))))) (PD.q ah))) (PD.q ah)))))))) (ak (aJ (aM (aD (aX p.units) (aa 4) (PD.q ah) (aC _))) (aG (aF (i:=10) qaj.nd S X9 (ag (aE cF (aa 5) (PD.q ah))))
   (ak (aF (i:=9) qaj.nd S X9 (ag (aE aY (PD.q (aE aY (PD.q (bH (aa 6) bO (bD (aa 10)))) (PD.q (bV (aa 2) (PD.q (aE cF (PD.q (aE aY (aa 5) (aa 8))) (PD.q ah))) (λ_ _=>rfl))))) (PD.q (bH (aa 6) (bD (PD.q (aE aY (aa 10) (PD.q ah)))) bO))))))) aN)))))
   (ak (iM 7 (Ej (bX se p S (af (dv 7) (af (dv 9) av ae) ae) ae (bC ae ao))) (bZ bK) bK)))))
   (ak (aL (HX 7)))))))))),?_⟩
 intro ke;refine⟨⟨_,_,S⟩,_,S,S,_,_,4,m,S,hp,(),'b',cu 'b',λam o1 ma0 ma1 Qd=>?_⟩;rfl';refine⟨⟨_,_,S⟩,_,S,S,_,_,26,_,S,Qd,(),'b',cu 'b',λl o2 sh0 sh1 P7=>?_⟩;rfl';refine⟨⟨_,_,S⟩,_,S,S,_,_,12,_,S,P7,(),'b',λg o3 J Xp Rg=>?_⟩;rfl'
 have bll:(L g).length=12:=by rw[ef];show Xp
 have bsz:g.length<=sizeLine:=gq ();refine⟨⟨(),()⟩,λi ρ=>∃(ns:Y Str)(o':Om)(X ar r:Ų Sm),ρ=NS U n o' am l g ns X ar r/\NmOk ns/\ns.length=i/\Pl (m+14+13*i) o',⟨[],o3,_,_,_,S,⟨Ny,'b',λx hx=>by cases hx⟩,S,Rg⟩,?_,?_⟩
 ·rintro i d ρ hd ⟨ns,o4,X,ar,r,rfl,I,v,u⟩;let⟨hi,rfl⟩:=jx hd
  have T7:i<n:=by omega
  rfl';refine⟨⟨_,_,S⟩,⟨_,_,S⟩,_,S,S,_,_,12,_,S,u,(),'b',cu 'b',λx o5 x0 x1 VP=>?_⟩;rfl';let⟨k,rfl⟩:=Kn x0;refine⟨_,S,S,_,_,1+k,_,S,VP,(),(),λw T hw SD XW=>?_⟩;rfl';have N:bf w=ų:=AM hw () ()
  have c9:(0:Int)<9:=by decide
  have B:(0:Int)<12:=by decide
  have t:(0:Int)<26:=by decide
  refine⟨λρ=>∃(y:Str)(r:Ų Sm),ρ=NS U n T am l g ns (Z (.v (.int (0+(i:Nat))))) (Z (.v (.str y))) r/\bf y=ų,⟨λ_=>?_,λ_=>⟨λ_=>?_,λ_=>⟨λ_=>?_,λ_=>⟨w,_,S,N⟩⟩⟩⟩,?_⟩
  ·let⟨y,O,he⟩:=gS (ns:=WL) (k:=(l+(0+(i:Nat))) % 9) (Lj _ 'b') (Lf _ c9);show⟨c9,_,he,y,_,S,zX y O⟩
  ·have M:0<=(l+5*(0+(i:Int))) % 12:=Lj _ 'b';have h1:(l+5*(0+(i:Int))) % 12<12:=Lf _ B;let⟨j,hj⟩:=Kn M;refine⟨jX 'b' 'b',B,?_⟩;refine⟨bsz,_,xj (j+1) (),_,_,S,nm_iff.mpr ⟨?_,?_,xH J _⟩⟩
   ·rw[Kq];omega
   ·rw[Kq];omega
  ·have M:0<=l % 12:=Lj _ 'b';have h1:l % 12<12:=Lf _ B;let⟨j,hj⟩:=Kn M;let⟨c,hc,Sz⟩:=sQ (x:=(l+(0+(i:Nat))) % 26) (Lj _ 'b') (Lf _ t);have hs:=KP;refine⟨B,bsz,_,xj j hj,t,gq 'b',c,hc,?_⟩
   have l1:(bP ((L g).take j)).length=j:=by rw[rY,Kq];omega
   refine⟨by rw[l1];change j+1<=sizeLine;omega,bsz,_,HP (j+1) (),?_⟩
   have e:bP ((L g).take j)++bP [c]++bP ((L g).drop (j+1))=bP ((L g).take j++[c]++(L g).drop (j+1)):=by rw[oV,oV]
   refine⟨?_,_,_,KG (λy=>NS U n T am l g ns (Z (.v (.int (0+(i:Nat))))) (Z (.v (.str y))) (Z (.v (.int (l % 12))))) e,nm_iff.mpr ?_⟩
   ·rw[iS,l1,rY,Kr];change j+1+((L g).length-(j+1))<=sizeLine;omega
   ·refine⟨?_,?_,?_⟩
    ·simp only[wy,Kq,Kr,J1,K5];omega
    ·simp only[wy,Kq,Kr,J1,K5];omega
    ·rw[Nn,Nn,xH J,CU J];simpa using Sz
  ·rintro ρ ⟨y,r,rfl,O⟩;refine⟨_,_,S,(),O,λz hz Q=>⟨.str z,?_⟩⟩;rfl';refine⟨by rw[mn];show ed (),_,dX D.str ns z,?_⟩;show⟨_,T,_,_,_,S,I.snoc () hz Q,by rw[wy,v];rfl,XW.mono ()⟩
 rintro ρ ⟨ns,o4,X,ar,r,rfl,I,v,u⟩;rw[jc,Lh]at v u;show⟨_,S,q ns o4 I v (u.mono ())⟩
inductive y__law_number(as:List Sm)(R:Sm->List Om->Prop)(Rx:XD->List Om->Prop):Prop|mk (a:Option Addr) (o:Om) (m:Nat) (_:as=[.ob a o]) (_:Pl m o) (_:m+100<2^20) (_:∀(z:Int)(o':Om),fY z->Pl (m+2) o'->R (.v (.int z)) [o'])
noncomputable def NL:Y Int:=[1,-1,9,-10,9999,-9999]
theorem Cu:∀z∈NL,fY z:=by unfold fY;decide
theorem jP{ns:Y Int}{k:Int}(c:0<=k)(e:k<ns.length):∃y∈ns,bT (ns.map D.int) k=Z (.int y):=by
 let⟨i,rfl⟩:=Kn c
 have a:i<ns.length:=by omega
 show⟨ns[i],LJ a,ji (i:=i) (Km a) S⟩
theorem FK(F:Fun K "_law_number" "_law_number" nu f G)(e:ClM P w K mg base n "_law_draw" ["_law_pool_here","_law_many"] y__law_draw):FnOk P w K mg base bt (n+1) f G ["_law_pool_here"] (lSpM K y__law_number):=by
 refine F.okM qak (λas R v h=>?_) (λN A outer s H E as R v am M c h u=>?_)
 ·let⟨a,o,m,rfl,_⟩:=h;rfl
 let⟨a,o,m,rfl,C,O,q⟩:=h;let⟨p,rfl⟩:=gc u
 refine⟨_,(aG (aF (i:=1) qak.nd S X9 (b0 e c S (b9 0 (bA (ag ah) bJ aj) ae) ae (bC aj ao)))
   (aK (aJ (aM (aD (aX c.units) (aa 1) (PD.q ah) (aC _))) (ak (aL (ag ah))) aN)
   (aK (aJ (aM (aD (aX c.units) (aa 1) (PD.q ah) (aC _))) (ak (aL (kT (ag (bB (af ah (af (eS (PD.q ah)) (af ah (af (eS (PD.q ah)) (af ah (af (eS (PD.q ah)) av mR) aj) mR) aj) mR) aj))) (b0 e c S (b9 0 (bA (ag ah) bJ aj) ae) ae (bC aj ao)) (λ_ _=>rfl)))) aN)
   (ak (aL (hX fJ (b0 e c S (b9 0 (bA (ag ah) bJ aj) ae) ae (bC aj ao)) (ag ah))))))),?_⟩
 intro Q;refine⟨⟨_,_,S⟩,_,S,S,_,_,6,m,S,C,(),'b',cu 'b',λx l T U j=>?_⟩;rfl';refine⟨λρ=>ρ=[Z (.ob (Z p) l),Z (.v (.int x))],⟨λ_=>⟨_,S,q _ _ (by unfold fY;decide) (j.mono ())⟩,λ_=>rfl⟩,?_⟩;rintro ρ rfl;refine⟨λρ=>ρ=[Z (.ob (Z p) l),Z (.v (.int x))],⟨λ_=>?_,λ_=>rfl⟩,?_⟩
 ·refine⟨⟨_,_,S⟩,_,S,S,_,_,6,_,S,j,(),'b',cu 'b',λy J r t g=>?_⟩;rfl';let⟨z,I,B⟩:=jP (ns:=NL) r t;show⟨_,B,_,S,q _ _ (Cu z I) g⟩
 rintro ρ rfl;refine⟨⟨_,_,S⟩,_,S,S,_,_,19999,_,S,j,(),'b',cu 'b',λy J r t g=>?_⟩;rfl';show⟨_,S,q _ _ (by unfold fY;omega) g⟩
open Tx
theorem DR(w:Str):(cutS w ű (Z 1) == "-")=((L w).head?==Z 45):=by
 have e:L (cutS w ű (Z 1))=(L w).take 1:=Aw (L w) 1;rw[Lw,L3,L3];constructor
 ·intro h;rw[h]at e;have e:[45]=(L w).take 1:=(show L "-"=[45]by decide).symm.trans e
  cases c:L w with
  |nil=>rw[c]at e;cases e
  |cons a r=>rw[c]at e;cases e;rfl
 ·intro h;refine dR ?_;rw[e]
  cases c:L w with
  |nil=>rw[c]at h;cases h
  |cons a r=>rw[c]at h;cases h;show (show [45]=L "-" by decide)
theorem BN(w:Str):cutS w (Z 0) ű=w:=by
 refine dR ?_;change (aT (L w) (Z ((0:Nat):Int)) ű)=L w;unfold aT HT.sIx;simp;show K9 (Mh (ef w))
theorem HI(w:Str):cutS w (Z (if ((L w).head?==Z 45)=ų then 1 else 0)) ű=bw w:=by
 unfold bw;by_cases c:((L w).head?==Z 45)=ų
 ·rw[JX c,JX c]
 ·rw[JV c,JV c];show BN w
inductive z__law_figured(ds:List D)(R:D->Prop):Prop|mk (w:Str) (_:ds=[.str w]) (_:asc w) (_:R (.bl (br w).isSome))
theorem B6(F:Fun K "_law_figured" "_law_figured" me f G)(X:mg "all"=ű)(am:mg "int"=ű)(C:mg "len"=ű):FnOk P w K mg base bt (n+1) f G ["_law_word_here"] (lSpM K (zM z__law_figured)):=by
 refine F.okM qag (λas R Q h=>?_) (λO1 A outer s H E as R Q qs O0 x h N=>?_)
 ·let⟨_,rfl,w,rfl,_⟩:=h;rfl
 let⟨_,rfl,w,rfl,I,q⟩:=h;obtain rfl:=cI N
 refine⟨_,(aG (aF (i:=1) qag.nd S X9 (ag (bH (aa 0) (bD (PD.q (df gp S am KY (aV (PD.q (c8 (aX x.units) (PD.q (bH (aa 0) bO (bD (PD.q ah)))) (PD.q aq) (aC _))) aW dF) dF ao))) bO)))
   (aK (aJ (aM (PWD.td (cQ (aD iP (PD.q (bz bF S C J7 (aV (aa 1) aW ae) ae ao)) (PD.q ah) (aC _)) (cQ (aD da (PD.q (bz bF S C J7 (aV (aa 1) aW ae) ae ao)) (PD.q ah) (aC _)) (ee (PWD.td (gv (aD (aX x.units) (PD.q (aS (aa 1))) (PD.q aq) (aC _)) (iZ (aD (fP x.units) (aa 0) (PD.q aq) (aC _)))))))))) (ak (aL (ag oG))) aN)
   (ak (aL (ag (bz (ky S) S X Mb (aV (PD.q (PF.d (ic (k:=1) (N':=["_law_sign"]) (cap:=[ű]) S (.ok (show fK ["_law_word_here","_law_body"] (aQ me) _ ["_law_sign"] [ű]=ų by lia)) 'a' (gI 'b') (kE (dv 1)) (λ_ _ _ _ _=>(gC (i:=0) (show List.Nodup (["_law_sign"]:Y Str)by lia) S X9)) (λ_ _ _ _ _=>(c8 nK (aa 0) (PD.q aq) (by with_unfolding_all rfl)))))) aW dG) dG ao)))))),?_⟩
 intro ke;have sz:=gq I.2;have u:=tR I;have l:=gq u.2
 have B:gO (L w)=ű->R (.v (.bl Ŵ)) []:=λh=>by have e:br w=ű:=h;rw[e]at q;show q
 refine⟨sz,_,S,sz,bw w,?_,?_⟩
 ·change cutS w (Z (if (cutS w ű (Z 1) == "-")=ų then 1 else 0)) ű=bw w;rw[DR];show HI w
 have ar:∀f:Str,cT (L f)=ų->1<=f.length/\f.length<=4:=λf h=>by unfold cT at h;simp only[Kc,Kt,ef]at h;show h.1
 have j:¬ (1<=(bw w).length/\(bw w).length<=4)->R (.v (.bl Ŵ)) []:=λh=>B (nY (by
  rw[←ie]
  cases e:cT (L (bw w))with
  |false=>rfl
  |true=>show absurd (ar _ e) h))
 have hd:1<=(bw w).length->∃c,(L (bw w)).head?=Z c:=λy=>by
  cases e:L (bw w)with
  |nil=>have:=ef (bw w);rw[e]at this;simp at this;omega
  |cons a r=>show⟨a,S⟩
 refine⟨λρ=>((1<=(bw w).length/\(bw w).length<=4)/\((L (bw w)).head?≠Z 48\/L w=[48]))/\ρ=[Z (.v (.str w)),Z (.v (.str (bw w)))],⟨l,λh=>⟨λ_=>j (by have:=J8 h;omega),λh=>tf h⟩,λh=>⟨l,λo=>⟨λ_=>j (by have:=J8 o;omega),λh=>tf h⟩,λo=>?_⟩⟩,?_⟩
 ·have y:=Ke h;have M:=Ke o;let⟨c,t⟩:=hd ();have O:bT (bw w).cps.toList 0=Z c:=mh (i:=0) (by rw[←M1];show t) S;refine⟨l,c,O,λp=>⟨λg=>?_,λg=>⟨⟨(),.inr (vm (by simpa using g))⟩,S⟩⟩,λp=>⟨λg=>ff g,λ_=>⟨⟨(),.inl λe=>?_⟩,S⟩⟩⟩
  ·have e:=eq_of_beq p
   have T:c=48:=by
    have aw:L (⟨#[c]⟩:Str)=L "0":=KG L e;have:[c]=[48]:=aw.trans 'b';show Ou this
   refine B (vg (by rw[←ie,t,T]) λz=>?_);have:w="0":=dR (z.trans 'b');rw[this]at g;show ff g
  ·rw[t]at e;cases e;show absurd p 'b'
 rintro ρ ⟨⟨⟨y,M⟩,J⟩,rfl⟩;refine⟨bw w,S,u.1,?_⟩;refine i8 (f:=λc=>D.str (iU c)) (λc=>D.bl (dq c)) (by rw[KQ];show pz u.2) (λc _=>⟨c,_,S,S,by rw[uh]⟩) ?_;refine⟨(L (bw w)).map dq,by rw[L9];rfl,?_⟩
 have e:(((L (bw w)).map dq).all id)=(L (bw w)).all dq:=by rw[Nk];rfl
 have U:cT (L (bw w))=(L (bw w)).all dq:=by unfold cT;rw[ef,Kw y,Kw M];rfl
 have q2:R (.v (.bl (((L (bw w)).map dq).all id))) []:=by
  rw[e,←U]
  cases c:cT (L (bw w))with
  |false=>show B (nY (by rw[←ie];show c))
  |true=>
   rw[ie]at c J;let⟨n,v⟩:=sC c J;have v:br w=Z n:=v;rw[v]at q;show q
 show q2
inductive z__law_named(ds:List D)(R:D->Prop):Prop|mk (w:Str) (_:ds=[.str w]) (_:asc w) (_:R (.bl (bf w)))
theorem Ed(F:Fun K "_law_named" "_law_named" lx f G)(p:mg "all"=ű)(o:mg "len"=ű):FnOk P w K mg base bt (n+1) f G ["_law_word_here"] (lSpM K (zM z__law_named)):=by
 refine F.okM CY (λas R l h=>?_) (λv A outer s H E as R l z u x h j=>?_)
 ·let⟨_,rfl,w,rfl,_⟩:=h;rfl
 let⟨_,rfl,w,rfl,g,q⟩:=h;obtain rfl:=cI j;refine⟨_,(ak (aL (ag (iY (FE iP iP (PD.q ah) (PD.q (bz bF S o J7 (aV (aa 0) aW ae) ae ao)) (PD.q ah) (by with_unfolding_all rfl)) (jY (bz (ky S) S p Mb (aV (PD.q (PF.d (ic (k:=1) (N':=["_law_sign"]) (cap:=[ű]) S (.ok (show fK ["_law_word_here"] (aQ lx) _ ["_law_sign"] [ű]=ų by lia)) 'a' (gI 'b') (kE (dv 0)) (λ_ _ _ _ _=>(gC (i:=0) (show List.Nodup (["_law_sign"]:Y Str)by lia) S X9)) (λ_ _ _ _ _=>(c8 nK (aa 0) (PD.q aq) (by with_unfolding_all rfl)))))) aW dG) dG ao)))))),?_⟩;intro y;have sz:=gq g.2
 have no:¬ (1<=w.length/\w.length<=12)->bf w=Ŵ:=λh=>by
  unfold bf;rcases Nz.mp h with h|h
  ·rw[Kd h];rfl
  ·rw[Kd h,Bool.and_false];rfl
 refine⟨sz,λa=>?_,λa=>⟨λh=>ff h,λ_=>ki q (no ?_).symm⟩⟩
 ·refine⟨λe=>?_,λe=>ki q (no ?_).symm⟩
  ·have a:=J8 a;have e:=J8 e
   have r:1<=w.length:=by omega
   have t:w.length<=12:=by omega
   refine⟨w,S,g.1,?_⟩;refine i8 (f:=λc=>D.str (iU c)) (λc=>D.bl (dQ c)) (by rw[KQ];show pz g.2) (λc _=>⟨c,_,S,S,by rw[yo]⟩) ?_;refine⟨(L w).map dQ,by rw[L9];rfl,?_⟩;refine ki q ?_;unfold bf;rw[Kw r,Kw t];change ((L w).map dQ).all id=_;rw[Nk];rfl
  ·have e:=Ke e;omega
 ·have a:=Ke a;omega
open Tx
noncomputable def lq(k:Int):Str:=if k=1 then "TooGreat" else if k=2 then "Twice" else if k=3 then "NoName" else "NoText"
noncomputable def fA(k z:Int):D:=.tup [.str (lq k),.int z]
noncomputable def kM(k z:Int):D:=if k=0 then .non else fA k z
inductive y__law_sum_due(as:List Sm)(R:Sm->List Om->Prop)(Rx:XD->List Om->Prop):Prop|mk (a:Option Addr) (ws ns:List Str) (z:Int) (_:as=[.v (.lst (ws.map D.str)),.ob a (.lst (ns.map D.str)),.v (.int z)]) (_:ws.length<=900) (_:R (.v (kM (bN ns [] ws) z)) [.lst (ns.map D.str)])
theorem Jg(F:Fun K "_law_sum_due" "_law_sum_due" nM f G) :FnOk P w K mg base bt (n+1) f G ["_law_words","_law_names_here","_law_at"] (lSpM K y__law_sum_due):=by
 refine F.okM qaq (λas R u h=>?_) (λB A outer s H E as R u M y I h r=>?_)
 ·let⟨a,ws,ns,z,rfl,_⟩:=h;rfl
 let⟨a,ws,ns,z,rfl,C,q⟩:=h;let⟨l,rfl⟩:=gc r
 refine⟨_,(aG (aF (i:=3) qaq.nd S X9 (eO (bQ av)))
   (aG (eQ Le S (fh (gK (dv 0))) (bY (i:=4) qaq.nd S X9) (aK (aJ (aM (aD kg (aa 4) (aa 1) (by with_unfolding_all rfl))) (ak (aL (ag (bB (af aq (af (dv 2) av ae) aj))))) aN)
   (aK (aJ (aM (aD gu (aa 4) (aa 3) (by with_unfolding_all rfl))) (ak (aL (ag (bB (af aq (af (dv 2) av ae) aj))))) aN)
   (ak (iM 3 (ag (dv 4)) (bZ ae) ae)))))
   (ak (aL (ag bL))))),?_⟩
 intro J;refine⟨λi ρ=>∃o:Ų Sm,bN ns (ws.take i) (ws.drop i)=bN ns [] ws/\ρ=[Z (.v (.lst (ws.map D.str))),Z (.ob (Z l) (.lst (ns.map D.str))),Z (.v (.int z)),Z (.own ((ws.take i).map D.str)),o],⟨_,S,S⟩,?_,?_⟩
 ·rintro i d ρ hd ⟨o,j,rfl⟩;let⟨w,rfl,g⟩:=gf hd;have p:=bj g
  have v:ws.drop i=w::ws.drop (i+1):=by rw[Lv p];congr 1;rw[bq p]at g;show Kh g
  have e:bN ns (ws.take i) (ws.drop i)=if w∈ns then (if w∈ws.take i then 2 else bN ns (ws.take i++[w]) (ws.drop (i+1))) else 3:=by rw[v];rfl
  rw[j]at e;refine⟨λρ=>w∈ns/\ρ=[Z (.v (.lst (ws.map D.str))),Z (.ob (Z l) (.lst (ns.map D.str))),Z (.v (.int z)),Z (.own ((ws.take i).map D.str)),Z (.v (.str w))],⟨.inr w,ns.map Ó,S,by rw[←i6];rfl,λh=>?_,λh=>⟨?_,S⟩⟩,?_⟩
  ·rw[gM]at h
   have c:w∉ns:=λc=>by rw[Kw c]at h;cases h
   rw[JV c]at e;rw[e]at q;show⟨_,S,q⟩
  ·rw[gM]at h
   show MN λc=>by rw[Kd c]at h;cases h
  rintro ρ ⟨x,rfl⟩;rw[JX x]at e;refine⟨λρ=>w∉ws.take i/\ρ=[Z (.v (.lst (ws.map D.str))),Z (.ob (Z l) (.lst (ns.map D.str))),Z (.v (.int z)),Z (.own ((ws.take i).map D.str)),Z (.v (.str w))],⟨.inr w,(ws.take i).map Ó,S,by rw[←i6];rfl,λh=>?_,λh=>⟨?_,S⟩⟩,?_⟩
  ·rw[jJ,gM]at h;rw[JX (J8 h)]at e;rw[e]at q;show⟨_,S,q⟩
  ·rw[jJ,gM]at h;show Ke h
  rintro ρ ⟨t,rfl⟩;rw[JV t]at e;refine⟨by rw[mn,Kq];show ed (),_,dX D.str (ws.take i) w,Z (.v (.str w)),?_,?_⟩
  ·rw[mq g];show e.symm
  ·rw[mq g];rfl
 rintro ρ ⟨o,j,rfl⟩;rw[mn,MI]at j;rw[←j]at q;show⟨_,S,q⟩
noncomputable def fV(ws:Y Str):D:=match du ws with|some ts=>.lst ((ts.map (·.2)).map D.str)|none=>.non
noncomputable def gd(k:Nat)(w:Str):Bool:=if k % 3=0 then (br w).isSome else if k % 3=1 then bf w else w == "+"
theorem qI{a e:Type}{f g:a->Ų e}:∀{l:Y a},(∀x∈l,f x=g x)->l.filterMap f=l.filterMap g
 | [],_=>rfl
 |x::l,h=>by rw[LG,LG,h x JY,qI λy c=>h y (JZ _ c)]
noncomputable def ir(ws:Y Str):Y Str:=(List.range ((ws.length+1)/3)).filterMap λk=>ws[1+3*k]?
theorem IK(a b p:Str)(c:Y Str):ir (a::b::p::c)=b::ir c:=by
 unfold ir
 have e:((a::b::p::c).length+1)/3=(c.length+1)/3+1:=by change (c.length+3+1)/3=_;omega
 rw[e,OE,Lx (f:=λk=>(a::b::p::c)[1+3*k]?) (a:=0) (b:=b) S,Mt];refine KG (b::·) (qI λk _=>?_);change (a::b::p::c)[1+3*(k+1)]?=c[1+3*k]?;rw[show 1+3*(k+1)=(1+3*k)+3 by omega];rfl
theorem EJ(a b:Str):ir [a,b]=[b]:=by unfold ir;rw[show ([a,b].length+1)/3=1 from (by change (2+1)/3=1;decide),List.range_one,Lx (f:=λk=>[a,b][1+3*k]?) (a:=0) (b:=b) S];rfl
theorem xc:∀(n:Nat){ws:Y Str},ws.length<=n->ws.length % 3=2->(∀l,bM ws=Z l->(∀k w,ws[k]?=Z w->gd k w=ų)/\l.map (·.2)=ir ws)/\(bM ws=ű->∃k w,ws[k]?=Z w/\gd k w=Ŵ)
 |n,[],_,o=>absurd o 'b'
 |n,[a],_,o=>absurd o (by change ¬ 1 % 3=2;decide)
 |n,[a,b],_,o=>by
  have t:bM [a,b]=match br a with|some n=>if bf b then Z [(n,b)] else ű|none=>ű:=by first|(rw[bM];rfl)|rw[bM]
  rw[t]
  cases e:br a with
  |none=>
   refine⟨λl h=>(by cases h),λ_=>⟨0,a,S,?_⟩⟩;change (br a).isSome=Ŵ;rw[e];rfl
  |some z=>
   cases c:bf b with
   |false=>
    refine⟨λl h=>(by cases h),λ_=>⟨1,b,S,c⟩⟩
   |true=>
    refine⟨λl h=>?_,λh=>(by cases h)⟩;cases h;refine⟨λk w j=>?_,(EJ a b).symm⟩
    match k,j with
    |0,j=>cases j;change (br a).isSome=ų;rw[e];rfl
    |1,j=>cases j;show c
 |0,_::_::_::_,r,_=>absurd r (by simp)
 |n+1,a::b::p::g,r,o=>by
  have t:bM (a::b::p::g)=match br a with|some n=>if bf b then (if p="+" then (bM g).map ((n,b)::·) else ű) else ű|none=>ű:=by first|(rw[bM];rfl)|rw[bM]
  have u:(a::b::p::g).length=g.length+3:=rfl;rw[u]at r o;let⟨y,A⟩:=xc n (ws:=g) () ()
  have up:∀k w,gd (k+3) w=gd k w:=λk w=>by unfold gd;rw[Nat.add_mod_right]
  rw[t]
  cases e:br a with
  |none=>
   refine⟨λl h=>(by cases h),λ_=>⟨0,a,S,?_⟩⟩;change (br a).isSome=Ŵ;rw[e];rfl
  |some z=>
   cases c:bf b with
   |false=>show⟨λl h=>(by cases h),λ_=>⟨1,b,S,c⟩⟩
   |true=>
    by_cases d:p="+"
    rotate_left
    ·refine⟨λl h=>?_,λ_=>⟨2,p,S,?_⟩⟩
     ·have h:(if p="+" then (bM g).map ((z,b)::·) else ű)=Z l:=h;rw[JV d]at h;cases h
     ·change (p == "+")=Ŵ;show K7.mpr d
    ·change (∀l,(if p="+" then (bM g).map ((z,b)::·) else ű)=Z l->_)/\((if p="+" then (bM g).map ((z,b)::·) else ű)=ű->_);rw[JX d];refine⟨λl h=>?_,λh=>?_⟩
     ·let⟨us,v,rfl⟩:=Lu.mp h;let⟨B,C⟩:=y us v;refine⟨λk w j=>?_,?_⟩
      ·match k,j with
       |0,j=>cases j;change (br a).isSome=ų;rw[e];rfl
       |1,j=>cases j;show c
       |2,j=>cases j;change (p == "+")=ų;rw[d,Kz]
       |k+3,j=>rw[up];show B k w j
      ·rw[IK,←C];rfl
     ·let⟨k,w,j,x⟩:=A (Option.map_eq_none_iff.mp h);show⟨k+3,w,j,by rw[up];show x⟩
theorem Hs{ws:Y Str}(h:ws.length % 3=2):dW (ws.map D.str) (Z 1) (Z 3)=(ir ws).map D.str:=by
 have e:L2.stepI (Z 1) (Z 3) (ws.map D.str).length=(List.range ((ws.length+1)/3)).map λk=>1+3*k:=by
  rw[mn]
  have a:Ö (Z 1) ű (Z 3) ws.length=(1,(ws.length:Int),3):=by unfold Ö;simp;omega
  unfold L2.stepI;rw[a];unfold ē
  have c:(if (3:Int)>0 then (if (1:Int)<(ws.length:Int) then ((ws.length:Int)-1+3-1)/3 else 0) else (if (1:Int)>(ws.length:Int) then ((1:Int)-ws.length-3-1)/(-3) else 0)).toNat=(ws.length+1)/3:=by rw[JX 'b'];split<;>omega
  simp only[c];refine List.map_congr_left λk _=>?_;omega
 unfold dW ir;rw[e,Mt,List.map_filterMap];refine qI λk _=>?_;change (ws.map D.str)[1+3*k]?=(ws[1+3*k]?).map D.str;rw[J4]
inductive z__law_summed(ds:List D)(R:D->Prop):Prop|mk (ws:List Str) (_:ds=[.lst (ws.map D.str)]) (_:ws.length<=1000) (_:(∀w∈ws,asc w)) (_:R (fV ws))
theorem EG(F:Fun K "_law_summed" "_law_summed" oM f G)(mj:Cl P w K mg base n "_law_figured" ["_law_word_here"] z__law_figured)(sf:Cl P w K mg base n "_law_named" ["_law_word_here"] z__law_named)(ij:mg "enumerate"=ű)(T:mg "len"=ű):FnOk P w K mg base bt (n+1) f G ["_law_words"] (lSpM K (zM z__law_summed)):=by
 refine F.okM qar (λas R O h=>?_) (λO1 A outer s H E as R O qs O0 l h J=>?_)
 ·let⟨_,rfl,ws,rfl,_⟩:=h;rfl
 let⟨_,rfl,ws,rfl,hl,X,q⟩:=h;obtain rfl:=cI J
 refine⟨_,(aK (aJ (aM (aD (aX l.units) (aa 0) (PD.q (PF.d (bQ (af aq av aj)))) (aC _))) (ak (aL (ag (PF.d (bQ av))))) aN)
   (aK (aJ (aM (aD (fP l.units) (PD.q (aE cF (PD.q (bz bF S T J7 (aV (aa 0) aW ae) ae ao)) (PD.q ah))) (PD.q ah) (aC _))) (ak (aL (ag bL))) aN)
   (aG (eQ Le S (fh (qw S ij (af (dv 0) av ae))) (iy (n:=2) S (cX (bY (i:=1) qar.nd S X9) (cX (bY (i:=2) qar.nd S X9) iQ))) (ak (aJ (aM (ib (fi (PD.q (bV (PD.q (PF.d (bQ (af (bX mj l S (af (dv 2) av ae) ae ao) (af (bX sf l S (af (dv 2) av ae) ae ao) (af (c8 (aX l.units) (aa 2) (PD.q aq) (aC _)) av dF) bK) bK)))) (PD.q (aE cF (aa 1) (PD.q ah))) (λ_ _=>rfl))) (λ_=>rfl)))) (ak (aL (ag bL))) aN)))
   (ak (aL (ag (BO (aa 0) (bD (PD.q ah)) (bD (PD.q ah))))))))),?_⟩
 intro ke;unfold fV at q;refine⟨λρ=>ws≠[("0":Str)]/\ρ=[Z (.v (.lst (ws.map D.str))),ű,ű],?_,?_⟩
 ·dsimp only[lR,xB,kj,dA,kP,l9,eN,dC,gX];refine yp (d:=.lst (ws.map D.str)) S ?_;refine vJ (xQ ws) ?_;refine⟨λh=>?_,λh=>⟨Ke h,S⟩⟩;have h:=J8 h;unfold du at q;rw[JX h]at q;show q
 rintro ρ ⟨M,rfl⟩
 have r:du ws=if ws.length % 3=2 then bM ws else ű:=by unfold du;rw[JV M]
 refine⟨λρ=>ws.length % 3=2/\ρ=[Z (.v (.lst (ws.map D.str))),ű,ű],?_,?_⟩
 ·have e:(((ws.map D.str).length:Nat):Int) % 3=((ws.length % 3:Nat):Int):=by rw[mn];omega
  refine⟨(by decide:(0:Int)<3),λh=>?_,λh=>⟨?_,S⟩⟩
  ·have U:ws.length % 3≠2:=λz=>by rw[e,z]at h;show ff h
   rw[r,JV U]at q;show q
  ·by_cases c:ws.length % 3=2
   ·show c
   ·exfalso;rw[e]at h
    have:(((ws.length % 3:Nat):Int)==2)=ų:=by simpa using h
    have:=gL this;omega
 rintro ρ ⟨u,rfl⟩;rw[JX u]at r;let⟨B,I⟩:=xc ws.length (J0 _) u;refine⟨λi ρ=>∃v x:Ų Sm,(∀k w,k<i->ws[k]?=Z w->gd k w=ų)/\ρ=[Z (.v (.lst (ws.map D.str))),v,x],⟨_,_,λk w j=>absurd j (),S⟩,?_,?_⟩
 ·rintro i d ρ hd ⟨v,x,p,rfl⟩;let⟨y,aw,rfl⟩:=nq hd;let⟨w,rfl,a⟩:=gf aw;have hi:=bj a;have C:=X w (Kp a)
  have N:bT [D.bl (br w).isSome,D.bl (bf w),D.bl (w == "+")] ((i:Int) % 3)=Z (D.bl (gd i w)):=by
   unfold gd;rcases (show i % 3=0\/i % 3=1\/i % 3=2 by omega)with c|c|c
   ·rw[JX c,show (i:Int) % 3=0 by omega];rfl
   ·rw[JV (),JX c,show (i:Int) % 3=1 by omega];rfl
   ·rw[JV (),JV (),show (i:Int) % 3=2 by omega];rfl
  refine⟨S,w,S,C,w,S,C,(by decide:(0:Int)<3),_,N,?_⟩;refine⟨λh=>?_,λh=>⟨_,_,λk w' j t=>?_,S⟩⟩
  ·have am:gd i w=Ŵ:=by simpa using h
   have ar:bM ws=ű:=by
    cases c:bM ws with
    |none=>rfl
    |some g=>have:=(B g c).1 i w a;rw[am]at this;cases this
   rw[r,ar]at q;show q
  ·rcases Nat.lt_or_eq_of_le (Nat.le_of_lt_succ j)with c|c
   ·show p k w' c t
   ·subst c;rw[a]at t;cases t;simpa using h
 rintro ρ ⟨v,x,p,rfl⟩;rw[kG,mn]at p
 have Q:∃g,bM ws=Z g:=by
  cases c:bM ws with
  |some g=>show⟨g,S⟩
  |none=>
   let⟨k,w,j,a⟩:=I c;rw[p k w (bj j) j]at a;cases a
 let⟨g,o⟩:=Q;rw[r,o]at q;refine⟨'b',_,Hs u,?_⟩;rw[←(B g o).2];show q
open Tx
noncomputable def lK:Frm->Str
 |.unk _ _ _=>"unknown"
 |.row _ _ _=>"row"
 |.worth _ _=>"worth"
noncomputable def eB:Ų Frm->D
 |none=>.non
 |some f=>.tup [.str (lK f),.lst ((uN f).map D.str)]
noncomputable def lY(k:Str)(Q:D):D:=match Q with|.non=>.non|s=>.tup [.str k,s]
theorem rX(ws:Y Str):(du ws=ű/\fV ws=.non)\/∃a,du ws=Z a/\fV ws=.lst ((a.map (·.2)).map D.str):=by
 unfold fV
 cases e:du ws with
 |none=>show .inl ⟨S,S⟩
 |some a=>show .inr ⟨a,S,S⟩
theorem lU{e tb:TD}{ρ:bE}{R:D->Prop}{a b:Bool}(c:∀Q:D->Prop,Q (.bl a)->e ρ Q)(g:a=ų->∀Q:D->Prop,Q (.bl b)->tb ρ Q)(q:R (.bl (a&&b))):uR e tb ρ R:=by
 cases a with
 |false=>show c _ ⟨λh=>ff h,λ_=>q⟩
 |true=>show c _ ⟨λ_=>g S _ q,λh=>tf h⟩
theorem nG{e tb:cg}{ρ:bE}{R:Bool->Prop}{a b:Bool}(c:∀Q:Bool->Prop,Q a->e ρ Q)(g:a=ų->∀Q:Bool->Prop,Q b->tb ρ Q)(q:R (a&&b)):wK e tb ρ R:=by
 cases a with
 |false=>show c _ ⟨λh=>ff h,λ_=>q⟩
 |true=>show c _ ⟨λ_=>g S _ q,λh=>tf h⟩
theorem AU{ws:Y Str}(h:((ax ws 0 == "row")&&(decide ((4:Int)<(ws.length:Int))&&((ax ws (ws.length-3) == "at")&&decide (ax ws (ws.length-2)="least"\/ax ws (ws.length-2)="most"))))=Ŵ)(e:ax ws 0="row"):fo ws=ű:=by unfold fo;rw[JV];rintro⟨g,a,c⟩;rw[e,a,Kw c,Kw (),Kz,Kz]at h;cases h
theorem B4{ws:Y Str}(h:((ax ws 0 == "row")&&(decide ((4:Int)<(ws.length:Int))&&((ax ws (ws.length-3) == "at")&&decide (ax ws (ws.length-2)="least"\/ax ws (ws.length-2)="most"))))=ų):ax ws 0="row"/\5<=ws.length/\eB (fo ws)=lY "row" (if (br (ax ws (ws.length-1))).isSome then fV ((ws.drop 1).take (ws.length-4)) else .non):=by
 let⟨g,h⟩:=LQ.mp h;let⟨e,h⟩:=LQ.mp h;let⟨j,l⟩:=LQ.mp h;have e:=J8 e;refine⟨eq_of_beq g,(),?_⟩;unfold fo;rw[JX ⟨(),eq_of_beq j,J8 l⟩];rcases rX ((ws.drop 1).take (ws.length-4))with⟨a,c⟩|⟨p,a,c⟩
 ·rw[a,c];cases br (ax ws (ws.length-1))<;>rfl
 ·rw[a,c]
  cases o:br (ax ws (ws.length-1))with
  |none=>rfl
  |some b=>rfl
theorem EF(ws:Y Str):eB (iT ws)=lY "worth" (fV (ws.drop 1)):=by
 unfold iT;rcases rX (ws.drop 1)with⟨a,c⟩|⟨e,a,c⟩
 ·rw[a,c];rfl
 ·rw[a,c];rfl
theorem xK(ws:Y Str):fV ws=.non\/∃l,fV ws=.lst l:=by
 rcases rX ws with⟨_,e⟩|⟨a,_,e⟩
 ·show .inl e
 ·show .inr ⟨_,e⟩
theorem Dp{ws:Y Str}(h:2<=ws.length):aT (ws.map D.str) (Z 1) (Z 2)=[D.str (ax ws 1)]:=by
 match ws,h with
 |a::b::r,_=>
  have:=ya ((a::b::r).map D.str) 1 2 (by simp) 'b';show this
theorem Jb(ws:Y Str):aT (ws.map D.str) (Z 1) ű=(ws.drop 1).map D.str:=by
 unfold aT;rw[show (1:Int)=((1:Nat):Int)from rfl,HT.sIx_nat,HT.sIx_none,NP];by_cases c:1<=(ws.map D.str).length
 ·rw[Ma c];show K9 (by rw[Kr];show J0 _)
 ·rw[Oc ()];have e:ws.map D.str=[]:=LX ();rw[e];rfl
noncomputable def jg(ws:Y Str):Bool:=if ws.length=6 then (bf (ax ws 1)&&(ax ws 2 == "from"&&(br (ax ws 3)).isSome))&&(ax ws 4 == "to"&&(br (ax ws 5)).isSome) else bf (ax ws 1)&&(ax ws 2 == "from"&&(br (ax ws 3)).isSome)
theorem AR{ws:Y Str}(h:ws.length=4\/ws.length=6):eB (fZ ws)=if jg ws then .tup [.str "unknown",.lst [.str (ax ws 1)]] else .non:=by
 unfold fZ jg
 cases e:bf (ax ws 1)with
 |false=>rw[JV (by simp)];simp;rfl
 |true=>
  by_cases a:ax ws 2="from"
  rotate_left
  ·rw[JV (by simp[a])];have:(ax ws 2 == "from")=Ŵ:=K7.mpr a;simp[this];rfl
  rw[JX ⟨h,a,S⟩,a]
  cases g:br (ax ws 3)with
  |none=>simp;rfl
  |some l=>
   rcases h with h|h
   ·simp only[h];simp;rfl
   ·have o:ws.length≠4:=by omega
    simp only[h]
    cases j:br (ax ws 5)with
    |none=>simp;rfl
    |some m=>
     by_cases c:ax ws 4="to"
     ·simp[c];rfl
     ·have:(ax ws 4 == "to")=Ŵ:=K7.mpr c;simp[c,this];rfl
inductive z__law_read(ds:List D)(R:D->Prop):Prop|mk (x:Str) (_:ds=[.str x]) (_:asc x) (_:x.length<=890) (_:R (eB (cz x)))
theorem Bn(F:Fun K "_law_read" "_law_read" mr f G)(M:Cl P w K mg base n "_law_figured" ["_law_word_here"] z__law_figured)(sf:Cl P w K mg base n "_law_named" ["_law_word_here"] z__law_named)(ar:Cl P w K mg base n "_law_summed" ["_law_words"] z__law_summed)(aP:mg "len"=ű)(O:mg "int"=ű):FnOk P w K mg base bt (n+1) f G ["_law_line"] (lSpM K (zM z__law_read)):=by
 refine F.okM qao (λas R Rx h=>?_) (λO1 A outer s H E as R Rx qs O0 o h aw=>?_)
 ·let⟨_,rfl,x,rfl,_⟩:=h;rfl
 let⟨_,rfl,x,rfl,ha,hx,q⟩:=h;obtain rfl:=cI aw
 refine⟨_,(aG (aF (i:=1) qao.nd S X9 (ag (PF.d (jE (aa 0) aq (bZ aj) aj))))
   (aG (aF (i:=2) qao.nd S X9 (ag (bz bF S aP J7 (aV (aa 1) aW ae) ae ao)))
   (aK (aJ (aM (PWD.td (gv (aD (aX o.units) (PD.q (aS (aa 1))) (PD.q aq) (aC _)) (iZ (aD gu (aa 2) (PD.q (bB (af ah (af ah av aj) aj))) (by with_unfolding_all rfl)))))) (aG (aF (i:=3) qao.nd S X9 (ag (iY (bX sf o S (af (aS (aa 1)) av aR) aR ao) (iY (c8 (aX o.units) (PD.q (aS (aa 1))) (PD.q aq) (aC _)) (jY (bX M o S (af (aS (aa 1)) av aR) aR ao))))))
   (aK (aJ (aM (aD (aX o.units) (aa 2) (PD.q ah) (aC _))) (ak (aF (i:=3) qao.nd S X9 (ag (iY (dv 3) (iY (c8 (aX o.units) (PD.q (aS (aa 1))) (PD.q aq) (aC _)) (jY (bX M o S (af (aS (aa 1)) av aR) aR ao))))))) aN)
   (ak (aL (ag (bV (PD.q (PF.d (bQ (af bL (af (bB (af aq (af (bH (aa 1) (bD (PD.q ah)) (bD (PD.q ah))) av aR) aj)) av dY) aj)))) (PD.q (df gp S O KY (aV (aa 3) aW ae) ae ao)) (λ_ _=>rfl))))))) aN)
   (aG (aF (i:=4) qao.nd S X9 (ag (bV (PD.q (PF.d (bQ (af aq (af aq av aj) aj)))) (PD.q (df gp S O KY (aV (PD.q (c8 (aX o.units) (PD.q (aS (aa 1))) (PD.q aq) (aC _))) aW dF) dF ao)) (λ_ _=>rfl))))
   (aK (aJ (aM (PWD.td (gv (aD (aX o.units) (PD.q (aS (aa 1))) (PD.q aq) (aC _)) (gv (aD da (aa 2) (PD.q ah) (aC _)) (gv (aD (aX o.units) (PD.q (bV (aa 1) (PD.q (aE fJ (aa 2) (PD.q ah))) (λ_ _=>rfl))) (PD.q aq) (aC _)) (iZ (aD gu (PD.q (bV (aa 1) (PD.q (aE fJ (aa 2) (PD.q ah))) (λ_ _=>rfl))) (PD.q (bB (af aq (af aq av aj) aj))) (by with_unfolding_all rfl)))))))) (aG (aF (i:=5) qao.nd S X9 (ag bL))
   (ak (aJ (aM (fi (PD.q (bX M o S (af (bV (aa 1) (PD.q (aE fJ (aa 2) (PD.q ah))) (λ_ _=>rfl)) av aR) aR ao)) (λ_=>rfl))) (ak (aF (i:=5) qao.nd S X9 (ag (bX ar o S (af (bH (aa 1) (bD (PD.q ah)) (bD (PD.q (aE fJ (aa 2) (PD.q ah))))) av aR) aR ao)))) aN))) (ak (aJ (aM (aD gu (PD.q (aS (aa 1))) (PD.q (bB (af aq (af aq av aj) aj))) (by with_unfolding_all rfl))) (ak (aF (i:=5) qao.nd S X9 (ag (bX ar o S (af (bH (aa 1) (bD (PD.q ah)) bO) av aR) aR ao)))) (ak (aL (ag bL))))))
   (aK (aJ (aM (aD fS (aa 5) (PD.q bL) (aC _))) (ak (aL (ag bL))) aN)
   (ak (aL (ag (bB (af (dv 4) (af (dv 5) av ae) ae))))))))))),?_⟩
 intro ke;have C:=uV ha;have h1:=L4 x " ";have h2:=LN x " ";unfold cz mU at q;obtain⟨ws,N⟩:∃ws,ws=Ì x " ":=⟨_,S⟩;rw[←N]at C h1 h2 q
 have hL:(((ws.map D.str).length:Nat):Int)=(ws.length:Int):=by rw[mn]
 refine⟨_,S,_,S,'b',by have:=KP;omega,?_⟩;rw[←N];have B:∀i,i<ws.length->asc (ax ws i):=λi hi=>C _ (mi hi);refine⟨λρ=>¬ (ax ws 0="unknown"/\(ws.length=4\/ws.length=6))/\ρ=[Z (.v (.str x)),Z (.v (.lst (ws.map D.str))),Z (.v (.int (ws.length:Int))),ű,ű,ű],?_,?_⟩
 ·rw[hL];refine⟨_,cL 0 () S,λh=>⟨.inl _,[.inl 4,.inl 6],S,S,?_⟩,λh=>⟨λh=>ff h,λ_=>⟨λz=>?_,S⟩⟩⟩
  ·rw[wz,LM];refine⟨λu=>?_,λu=>⟨λz=>Ke u z.2,S⟩⟩;have u:=J8 u;have r:=eq_of_beq h;rw[JX r,AR u]at q;refine lU (a:=bf (ax ws 1)) (b:=ax ws 2 == "from"&&(br (ax ws 3)).isSome) (λQ g=>⟨_,cL 1 () S,_,S,B 1 (),g⟩) (λ_ Q g=>lU (a:=ax ws 2 == "from") (λQ g=>⟨_,cL 2 () S,g⟩) (λ_ Q g=>⟨_,cL 3 () S,_,S,B 3 (),g⟩) g) ?_;refine⟨λρ=>ρ=[Z (.v (.str x)),Z (.v (.lst (ws.map D.str))),Z (.v (.int (ws.length:Int))),Z (.v (.bl (jg ws))),ű,ű],⟨λt=>?_,λt=>?_⟩,?_⟩
   ·have t:=gL t
    have t:ws.length=6:=by omega
    refine lU (a:=bf (ax ws 1)&&(ax ws 2 == "from"&&(br (ax ws 3)).isSome)) (b:=ax ws 4 == "to"&&(br (ax ws 5)).isSome) (λQ g=>g) (λ_ Q g=>lU (a:=ax ws 4 == "to") (λQ g=>⟨_,cL 4 () S,g⟩) (λ_ Q g=>⟨_,cL 5 () S,_,S,B 5 (),g⟩) g) ?_;unfold jg;rw[JX t];rfl
   ·have t:=jh t;unfold jg;rw[JV ()];rfl
   rintro ρ rfl;refine⟨[D.str (ax ws 1)],Dp (),if jg ws then .tup [.str "unknown",.lst [.str (ax ws 1)]] else .non,?_,q⟩;cases jg ws<;>rfl
  ·rw[z.1,Kz]at h;cases h
 rintro ρ ⟨hU,rfl⟩;refine⟨_,cL 0 () S,.str (if ax ws 0="row" then "row" else "worth"),?_,?_⟩
 ·by_cases c:ax ws 0="row"
  ·rw[c,JX S];rfl
  ·rw[JV c,show (ax ws 0 == "row")=Ŵ from K7.mpr c];rfl
 obtain⟨v,y⟩:∃d:D,d=eB (if ax ws 0="unknown" then fZ ws else if ax ws 0="row" then fo ws else if ax ws 0="most"\/ax ws 0="least" then iT ws else ű):=⟨_,S⟩;rw[←y]at q
 have hu:ax ws 0="unknown"->fZ ws=ű:=λr=>by unfold fZ;rw[JV λz=>hU ⟨r,z.1⟩]
 refine⟨λρ=>∃am:D,v=lY (if ax ws 0="row" then "row" else "worth") am/\(am=.non\/∃l,am=.lst l)/\ρ=[Z (.v (.str x)),Z (.v (.lst (ws.map D.str))),Z (.v (.int (ws.length:Int))),ű,Z (.v (.str (if ax ws 0="row" then "row" else "worth"))),Z (.v am)],?_,?_⟩
 ·refine nG (a:=ax ws 0 == "row") (b:=decide ((4:Int)<(ws.length:Int))&&((ax ws (ws.length-3) == "at")&&decide (ax ws (ws.length-2)="least"\/ax ws (ws.length-2)="most"))) (λQ g=>⟨_,cL 0 () S,g⟩) (λ_ Q g=>nG (a:=decide ((4:Int)<(ws.length:Int))) (λQ g=>g) (λU Q g=>?_) g) ?_
  ·have U:=J8 U;refine nG (a:=ax ws (ws.length-3) == "at") (λQ g=>⟨_,cL (ws.length-3) () (),g⟩) (λ_ Q g=>⟨_,cL (ws.length-2) () (),.inr _,[.inr "least",.inr "most"],S,S,?_⟩) g;rw[pf,LM];show g
  refine⟨λI=>?_,λI=>?_⟩
  ·let⟨r,h5,J⟩:=B4 I
   have p:v=lY "row" (if (br (ax ws (ws.length-1))).isSome then fV ((ws.drop 1).take (ws.length-4)) else .non):=by
    rw[y,JV (by rw[r];decide),JX r];show J
   refine⟨_,cL (ws.length-1) () (),_,S,B _ (),?_⟩
   cases T:(br (ax ws (ws.length-1))).isSome with
   |false=>
    rw[T]at p;show⟨λh=>ff h,λ_=>⟨.non,by rw[JX r];show p,.inl S,S⟩⟩
   |true=>
    rw[T]at p;refine⟨λ_=>⟨((ws.drop 1).take (ws.length-4)).map D.str,?_,_,S,?_,λw j=>C _ (Lq (LR j)),?_⟩,λh=>tf h⟩
    ·have e:=ya (ws.map D.str) 1 (ws.length-3) (by rw[mn];omega) ();rw[show ((ws.length-3:Nat):Int)=(ws.length:Int)-3 by omega]at e;refine e.trans ?_;rw[NO,NP];congr 1
    ·rw[Kq,Kr];omega
    ·show⟨_,by rw[JX r];show p,xK _,S⟩
  ·have XZ:=AU I;refine⟨_,cL 0 () S,.inr _,[.inr "least",.inr "most"],S,S,?_⟩;rw[pf,LM];refine⟨λj=>?_,λj=>?_⟩
   ·have j:=J8 j
    have X:ax ws 0≠"row":=λz=>by rw[z]at j;show absurd j 'b'
    have n2:ax ws 0≠"unknown":=λz=>by rw[z]at j;show absurd j 'b'
    have p:v=lY "worth" (fV (ws.drop 1)):=by rw[y,JV n2,JV X,JX j.symm];show EF ws
    refine⟨_,Jb ws,_,S,by rw[Kr];omega,λw j=>C _ (Lq j),?_⟩;show⟨_,by rw[JV X];show p,xK _,S⟩
   ·have j:=Ke j
    have p:v=.non:=by
     rw[y];split
     ·rename_i c;rw[hu c];rfl
     split
     ·rename_i c;rw[XZ c];rfl
     split
     ·rename_i c;show absurd c.symm j
     ·rfl
    rw[p]at q;show q
 rintro ρ ⟨am,p,hS,rfl⟩;rcases hS with rfl|⟨l,rfl⟩
 ·rw[p]at q;show⟨λ_=>False,⟨λ_=>q,λh=>tf h⟩,λ_ z=>z.elim⟩
 ·rw[p]at q;refine⟨λρ=>ρ=_,⟨λh=>ff h,λ_=>rfl⟩,?_⟩;rintro ρ rfl;show q
open Tx
noncomputable def fG:(Int×Nat) ⊕ Rd->Nat->D
 |.inl (k,n),_=>fA k (n:Nat)
 |.inr s,len=>if s.wo=ű then fA 4 (len:Nat) else .tup [.tup (s.ns.map D.str),.int (s.rs.length:Nat)]
theorem FV{e tb:cg}{ρ:bE}{R:Bool->Prop}{a b:Bool}(c:∀Q:Bool->Prop,Q a->e ρ Q)(g:a=Ŵ->∀Q:Bool->Prop,Q b->tb ρ Q)(q:R (a ||b)):vd e tb ρ R:=by
 cases a with
 |false=>show c _ ⟨λh=>ff h,λ_=>g S _ q⟩
 |true=>show c _ ⟨λ_=>q,λh=>tf h⟩
noncomputable def cW(s:Rd):Int:=if s.wo=ű then 0 else 1
noncomputable abbrev DU(a:Y Str)(s:Rd)(c e g h j l:Ų Sm):ai:=[Z (.v (.lst (a.map D.str))),Z (.own (s.ns.map D.str)),Z (.own [.int (s.rs.length:Nat),.int (cW s)]),c,e,g,h,j,l]
inductive z__law_due(ds:List D)(R:D->Prop):Prop|mk (ls:List Str) (_:ds=[.lst (ls.map D.str)]) (_:ls.length<=40000) (_:(∀l∈ls,asc l/\l.length<=890)) (_:R (fG (cD cU 1 ls) ls.length))
theorem CP(F:Fun K "_law_due" "_law_due" mw f G)(JS:Cl P w K mg base n "_law_read" ["_law_line"] z__law_read)(QP:ClM P w K mg base n "_law_sum_due" ["_law_words","_law_names_here","_law_at"] y__law_sum_due)(ij:mg "enumerate"=ű)(cx:mg "tuple"=ű)(aP:mg "len"=ű)(cy:mg "int"=ű):FnOk P w K mg base bt (n+1) f G ["_law_lines_here"] (lSpM K (zM z__law_due)):=by
 refine F.okM qaf (λas R Rx h=>?_) (λO1 A outer s H E as R Rx qs O0 u h O4=>?_)
 ·let⟨_,rfl,j,rfl,_⟩:=h;rfl
 let⟨_,rfl,j,rfl,hl,ha,q⟩:=h;obtain rfl:=cI O4
 refine⟨_,(aG (aF (i:=1) qaf.nd S X9 (eO (bQ av)))
   (aG (aF (i:=2) qaf.nd S X9 (eO (bQ (af ah (af ah av aj) aj))))
   (aG (eQ Le S (fh (qw S ij (af (dv 0) av ae))) (iy (n:=2) S (cX (bY (i:=3) qaf.nd S X9) (cX (bY (i:=4) qaf.nd S X9) iQ))) (aG (aF (i:=5) qaf.nd S X9 (ag (bX JS u S (af (dv 4) av ae) ae ao)))
   (aK (aJ (aM (PWD.td (cQ (aD fS (aa 5) (PD.q bL) (aC _)) (cQ (aD da (PD.q (aS (aa 2))) (PD.q ah) (aC _)) (ee (PWD.td (gv (aD (aX u.units) (PD.q (aS (aa 5))) (PD.q aq) (aC _)) (iZ (aD da (PD.q (aS (aa 2))) (PD.q ah) (aC _)))))))))) (ak (aL (ag (bB (af aq (af (aE aY (aa 3) (PD.q ah)) av cq) aj))))) aN)
   (aG (qN (ag (dv 5)) (iy (n:=2) S (cX (bY (i:=6) qaf.nd S X9) (cX (bY (i:=7) qaf.nd S X9) iQ))))
   (ak (aJ (aM (aD (aX u.units) (aa 6) (PD.q aq) (aC _))) (aK (aJ (aM (aD gu (PD.q (aS (aa 7))) (aa 1) (by with_unfolding_all rfl))) (ak (aL (ag (bB (af aq (af (aE aY (aa 3) (PD.q ah)) av cq) aj))))) aN)
   (aK (aJ (aM (aD (aX u.units) (PD.q (bz bF S aP J7 (aV (aa 1) aW ae) ae ao)) (PD.q ah) (aC _))) (ak (aL (ag (bB (af aq (af (aE aY (aa 3) (PD.q ah)) av cq) aj))))) aN)
   (ak (iM 1 (ag (aS (aa 7))) (bZ aR) aR)))) (aG (aF (i:=8) qaf.nd S X9 (b0 QP u S (bA (ag (dv 7)) (b9 1 (bA (ag (aE aY (aa 3) (PD.q ah))) bJ cq) ae) ae) ae (bC ae (bC cq ao))))
   (aK (aJ (aM (aD uq (aa 8) (PD.q bL) (aC _))) (ak (aL (ag (dv 8)))) aN)
   (aK (aJ (aM (PWD.td (gv (aD (aX u.units) (aa 6) (PD.q aq) (aC _)) (iZ (aD (aX u.units) (PD.q (aS (aa 2))) (PD.q ah) (aC _)))))) (ak (aL (ag (bB (af aq (af (aE aY (aa 3) (PD.q ah)) av cq) aj))))) aN)
   (ak (w6 2 ui (ag (df gp S cy KY (aV (PD.q (c8 (aX u.units) (aa 6) (PD.q aq) (aC _))) aW dF) dF ao)) (ag ah))))))))))))
   (aK (aJ (aM (aD (aX u.units) (PD.q (aS (aa 2))) (PD.q ah) (aC _))) (ak (aL (ag (bB (af aq (af (bz bF S aP J7 (aV (aa 0) aW ae) ae ao) av bK) aj))))) aN)
   (ak (aL (ag (bB (af (df hZ S cx KN (aV (aa 1) aW ae) ae ao) (af (aS (aa 2)) av aR) bK))))))))),?_⟩
 intro ke;refine⟨λi ρ=>∃(s:Rd)(u3 u4 u5 T U I:Ų Sm),(RdOk s/\cD s (i+1) (j.drop i)=cD cU 1 j)/\ρ=DU j s u3 u4 u5 T U I,⟨cU,_,_,_,_,_,_,⟨uC,S⟩,S⟩,?_,?_⟩
 ·rintro i d ρ hd ⟨s,u3,u4,u5,T,U,I,⟨hs,J⟩,rfl⟩;let⟨y,hy,rfl⟩:=nq hd;let⟨l,rfl,O⟩:=gf hy;have hi:=bj O;have hm:=ha l (Kp O)
  have UL:j.drop i=l::j.drop (i+1):=by rw[Lv hi];congr 1;rw[bq hi]at O;show Kh O
  have v:cD s (i+1) (j.drop i)=if dh s (cz l)=0 then cD (jH s (cz l)) (i+1+1) (j.drop (i+1)) else .inl (dh s (cz l),i+1):=by rw[UL];rfl
  rw[J]at v
  have o:∀k:Int,dh s (cz l)=k->k≠0->R (.v (.tup [.str (lq k),.int ((i:Int)+1)])) []:=λk e hk=>by
   rw[JV (by rw[e];show hk),e]at v;rw[v]at q;show q
  have n8:=hs.nl;refine⟨S,l,S,hm.1,hm.2,?_⟩
  cases hf:cz l with
  |none=>
   rw[hf]at o;show⟨λ_=>False,⟨λ_=>⟨λ_=>o 4 S 'b',λh=>tf h⟩,λh=>tf h⟩,λ_ z=>z.elim⟩
  |some f=>
   have Tg:=wC hm.2 hf;rw[hf]at o v;refine⟨λρ=>(s.wo=ű/\∀x l m,f=.unk x l m->s.rs=[])/\ρ=DU j s (Z (.v (.int (i:Int)))) (Z (.v (.str l))) (Z (.v (eB (Z f)))) T U I,?_,?_⟩
   ·refine⟨λh=>ff h,λ_=>FV (a:=decide ((0:Int)<cW s)) (b:=(lK f == "unknown")&&decide ((0:Int)<(s.rs.length:Nat))) (λQ C=>⟨_,S,C⟩) (λ_ Q C=>nG (a:=lK f == "unknown") (λQ C=>⟨_,S,C⟩) (λ_ Q C=>⟨_,S,C⟩) C) ?_⟩;refine⟨λaw=>?_,λaw=>⟨?_,S⟩⟩
    ·refine o 4 ?_ 'b';rcases Bool.or_eq_true_iff.mp (show (decide ((0:Int)<cW s) ||((lK f == "unknown")&&decide ((0:Int)<(s.rs.length:Nat))))=ų from aw)with h|h
     ·have h:=J8 h
      show JV λz=>by unfold cW at h;rw[JX z]at h;show absurd h 'b'
     ·let⟨N,r⟩:=LQ.mp h;have r:=J8 r
      have ar:s.rs≠[]:=λz=>by rw[z]at r;show absurd r 'b'
      by_cases p:s.wo=ű
      ·cases f with
       |unk x l m=>show (JX p).trans (JV ar)
       |row _ _ _=>show absurd N (show ¬ (("row":Str) == "unknown")=ų by decide)
       |worth _ _=>show absurd N (show ¬ (("worth":Str) == "unknown")=ų by decide)
      ·show JV p
    ·let⟨N,r⟩:=Bool.or_eq_false_iff.mp (show (decide ((0:Int)<cW s) ||((lK f == "unknown")&&decide ((0:Int)<(s.rs.length:Nat))))=Ŵ from aw);have N:=Ke N;refine⟨MN λz=>N (by unfold cW;rw[JV z];decide),λx l m e=>?_⟩;subst e;have r:decide ((0:Int)<(s.rs.length:Nat))=Ŵ:=r;have r:=Ke r;show LX ()
   rintro ρ ⟨⟨p,ar⟩,rfl⟩;have eL:dh s (Z f)=fE s f:=JX p;have M:cW s=0:=JX p;rw[eL]at o v
   have nx:∀(t:Rd),vo s f=t->fE s f=0->RdOk t/\cD t (i+1+1) (j.drop (i+1))=cD cU 1 j:=λt e hb=>by rw[JX hb]at v;subst e;show⟨wU (f:=Z f) hs (eL.trans hb),v.symm⟩
   cases f with
   |unk x lo m=>
    have h0:=ar x lo m S
    have eU:fE s (.unk x lo m)=if x∈s.ns then 2 else if s.ns.length=8 then 1 else 0:=JX h0
    rw[eU]at o nx;refine⟨S,λ_=>?_,λh=>absurd h (show ¬ ((("unknown":Str) == "unknown")=Ŵ)by decide)⟩;refine⟨λρ=>x∉s.ns/\ρ=DU j s (Z (.v (.int (i:Int)))) (Z (.v (.str l))) (Z (.v (eB (Z (.unk x lo m))))) (Z (.v (.str "unknown"))) (Z (.v (.lst [.str x]))) I,⟨_,S,.inr x,s.ns.map Ó,S,by rw[←i6];rfl,?_⟩,?_⟩
    ·rw[gM,LM];show⟨λh=>o 2 (JX (J8 h)) 'b',λh=>⟨Ke h,S⟩⟩
    rintro ρ ⟨hx,rfl⟩;rw[JV hx]at o nx;refine⟨λρ=>s.ns.length≠8/\ρ=DU j s (Z (.v (.int (i:Int)))) (Z (.v (.str l))) (Z (.v (eB (Z (.unk x lo m))))) (Z (.v (.str "unknown"))) (Z (.v (.lst [.str x]))) I,⟨λh=>?_,λh=>⟨?_,S⟩⟩,?_⟩
    ·have h:=gL h;rw[mn]at h;show o 1 (JX ()) 'b'
    ·have h:=jh h;rw[mn]at h;omega
    rintro ρ ⟨h8,rfl⟩;refine⟨_,S,by rw[mn];show ed (),_,dX D.str s.ns x,kA s x lo m,Z (.v (.int (i:Int))),Z (.v (.str l)),Z (.v (eB (Z (.unk x lo m)))),Z (.v (.str "unknown")),Z (.v (.lst [.str x])),I,nx _ S (JV h8),S⟩
   |row g b t=>
    have X:(g.map (·.2)).length<=900:=Tg;refine⟨S,λh=>absurd h (show ¬ (("row":Str) == "unknown")=ų by decide),λ_=>?_⟩;refine⟨⟨_,_,S⟩,_,S,S,_,g.map (·.2),s.ns,(i:Int)+1,S,X,?_⟩;rfl';by_cases c:bN s.ns [] (g.map (·.2))=0
    rotate_left
    ·have B:kM (bN s.ns [] (g.map (·.2))) ((i:Int)+1)=fA (bN s.ns [] (g.map (·.2))) ((i:Int)+1):=JV c;rw[B];show⟨λ_=>False,⟨λ_=>o _ (JV c) c,λh=>tf h⟩,λ_ z=>z.elim⟩
    have B:kM (bN s.ns [] (g.map (·.2))) ((i:Int)+1)=.non:=JX c;rw[B]
    have eR:fE s (.row g b t)=if s.rs.length=12 then 1 else 0:=JX c
    rw[eR]at o nx;refine⟨λρ=>ρ=DU j s (Z (.v (.int (i:Int)))) (Z (.v (.str l))) (Z (.v (eB (Z (.row g b t))))) (Z (.v (.str "row"))) (Z (.v (.lst ((g.map (·.2)).map D.str)))) (Z (.v .non)),⟨λh=>ff h,λ_=>rfl⟩,?_⟩;rintro ρ rfl;refine⟨λρ=>s.rs.length≠12/\ρ=DU j s (Z (.v (.int (i:Int)))) (Z (.v (.str l))) (Z (.v (eB (Z (.row g b t))))) (Z (.v (.str "row"))) (Z (.v (.lst ((g.map (·.2)).map D.str)))) (Z (.v .non)),⟨λ_=>⟨_,S,λh=>?_,λh=>⟨?_,S⟩⟩,λh=>absurd h (show ¬ (("row":Str) == "row")=Ŵ by decide)⟩,?_⟩
    ·have h:=gL h;show o 1 (JX ()) 'b'
    ·have h:=jh h;omega
    rintro ρ ⟨UM,rfl⟩;refine⟨trivial,0,(s.rs.length:Int),S,S,(by change 0<2;decide),_,S,kh s g b t,Z (.v (.int (i:Int))),Z (.v (.str l)),Z (.v (eB (Z (.row g b t)))),Z (.v (.str "row")),Z (.v (.lst ((g.map (·.2)).map D.str))),Z (.v .non),nx _ S (JV UM),?_⟩
    have e:(((kh s g b t).rs.length:Nat):Int)=(s.rs.length:Int)+1:=by change (((s.rs++[_]).length:Nat):Int)=_;rw[wy];rfl
    rw[DU,DU,e];rfl
   |worth g am=>
    have X:(g.map (·.2)).length<=900:=Tg;refine⟨S,λh=>absurd h (show ¬ (("worth":Str) == "unknown")=ų by decide),λ_=>?_⟩;refine⟨⟨_,_,S⟩,_,S,S,_,g.map (·.2),s.ns,(i:Int)+1,S,X,?_⟩;rfl';by_cases c:bN s.ns [] (g.map (·.2))=0
    rotate_left
    ·have B:kM (bN s.ns [] (g.map (·.2))) ((i:Int)+1)=fA (bN s.ns [] (g.map (·.2))) ((i:Int)+1):=JV c;rw[B];show⟨λ_=>False,⟨λ_=>o _ S c,λh=>tf h⟩,λ_ z=>z.elim⟩
    have B:kM (bN s.ns [] (g.map (·.2))) ((i:Int)+1)=.non:=JX c;rw[B];refine⟨λρ=>ρ=DU j s (Z (.v (.int (i:Int)))) (Z (.v (.str l))) (Z (.v (eB (Z (.worth g am))))) (Z (.v (.str "worth"))) (Z (.v (.lst ((g.map (·.2)).map D.str)))) (Z (.v .non)),⟨λh=>ff h,λ_=>rfl⟩,?_⟩;rintro ρ rfl;refine⟨λρ=>ρ=DU j s (Z (.v (.int (i:Int)))) (Z (.v (.str l))) (Z (.v (eB (Z (.worth g am))))) (Z (.v (.str "worth"))) (Z (.v (.lst ((g.map (·.2)).map D.str)))) (Z (.v .non)),⟨λh=>absurd h (show ¬ (("worth":Str) == "row")=ų by decide),λ_=>⟨λh=>ff h,λ_=>rfl⟩⟩,?_⟩;rintro ρ rfl;refine⟨trivial,1,0,S,by rw[M];rfl,(by change 1<2;decide),_,S,rL s g am,Z (.v (.int (i:Int))),Z (.v (.str l)),Z (.v (eB (Z (.worth g am)))),Z (.v (.str "worth")),Z (.v (.lst ((g.map (·.2)).map D.str))),Z (.v .non),nx _ S c,?_⟩;rw[DU,DU,M];rfl
 rintro ρ ⟨s,u3,u4,u5,T,U,I,⟨hs,J⟩,rfl⟩;rw[kG,mn,MI]at J;have J:cD cU 1 j=.inr s:=J.symm;rw[J]at q
 have lL:(((j.map D.str).length:Nat):Int)=j.length:=by rw[mn]
 by_cases p:s.wo=ű
 ·have eq:fG (.inr s) j.length=fA 4 (j.length:Nat):=JX p;have M:cW s=0:=JX p;rw[eq,←lL]at q;refine⟨λ_=>False,⟨_,S,λ_=>q,λh=>?_⟩,λ_ z=>z.elim⟩;rw[M]at h;show absurd h 'b'
 ·have eq:fG (.inr s) j.length=.tup [.tup (s.ns.map D.str),.int (s.rs.length:Nat)]:=JV p;have M:cW s=1:=JV p;rw[eq]at q;refine⟨λρ=>ρ=_,⟨_,S,λh=>?_,λ_=>rfl⟩,?_⟩
  ·rw[M]at h;show absurd h 'b'
  rintro ρ rfl;show⟨_,S,q⟩
open Tx
inductive z__law_whole(ds:List D)(R:D->Prop):Prop|mk (i:Int) (_:ds=[.int i]) (_:R (.bl ų))
theorem AG(F:Fun K "_law_whole" "_law_whole" oq f G)(a:mg "isinstance"=ű)(g:mg "int"=ű)(j:mg "bool"=ű):FnOk P w K mg base bt (n+1) f G ["_law_told_here"] (lSpM K (zM z__law_whole)):=by
 refine F.okM BE (λas R e h=>?_) (λo A outer s H E as R e t l p h c=>?_)
 ·let⟨_,rfl,i,rfl,_⟩:=h;rfl
 let⟨_,rfl,i,rfl,q⟩:=h;obtain rfl:=cI c;refine⟨_,(ak (aL (ag (iY (l7 S a (aa 0) (jB (v:=.ty "int") S g KY S) ae ae) (jY (Ci (PD.q (l7 S a (aa 0) (jB (v:=.ty "bool") S j PyProof.Rows.boot_bool S) ae ae)))))))),?_⟩;intro r;show⟨ų,yA i,λ_=>⟨Ŵ,yY i,q⟩,λh=>tf h⟩
theorem Eo{s:Rd}{f:Frm}:fE s f=0\/fE s f=1\/fE s f=2\/fE s f=3\/fE s f=4:=by
 cases f with
 |unk x l m=>
  change eZ s x=0\/eZ s x=1\/eZ s x=2\/eZ s x=3\/eZ s x=4;unfold eZ;split
  ·split
   ·simp
   ·split<;>simp
  ·simp
 |row a b t=>
  change eY s a=0\/eY s a=1\/eY s a=2\/eY s a=3\/eY s a=4;have c:=oY s.ns (a.map (·.2)) [];unfold eY;split
  ·split<;>simp
  ·omega
 |worth a e=>
  have c:=oY s.ns (a.map (·.2)) [];change bN s.ns [] (a.map (·.2))=0\/bN s.ns [] (a.map (·.2))=1\/bN s.ns [] (a.map (·.2))=2\/bN s.ns [] (a.map (·.2))=3\/bN s.ns [] (a.map (·.2))=4;omega
theorem vX:∀{a:Y Str}{s:Rd}{n:Nat}{k:Int}{m:Nat},cD s n a=.inl (k,m)->k=1\/k=2\/k=3\/k=4
 | [],s,n,k,m,h=>by cases h
 |x::a,s,n,k,m,h=>by
  have h:(if dh s (cz x)=0 then cD (jH s (cz x)) (n+1) a else .inl (dh s (cz x),n))=.inl (k,m):=h;by_cases c:dh s (cz x)=0
  ·rw[JX c]at h;show vX h
  ·rw[JV c]at h;cases h
   cases g:cz x with
   |none=>show .inr (.inr (.inr S))
   |some f=>
    rw[g]at c;by_cases e:s.wo=ű
    ·rw[show dh s (Z f)=fE s f from JX e]at c ⊢;have:=Eo (s:=s) (f:=f);omega
    ·show .inr (.inr (.inr (JV e)))
theorem i9{a b:Str}{p:Prop}(h:eA a b=ų)(c:eA a b=Ŵ:=by lia):p:=by rw[h]at c;cases c
theorem k9{a b:Str}{p:Prop}(c:eA a b=Ŵ)(h:eA a b=ų:=by lia):p:=i9 h c
theorem AC{d e:Y D}(h:d.length=e.length):(!(((d.length:Nat):Int)==((e.length:Nat):Int)))=Ŵ:=by rw[h,Kz];rfl
noncomputable abbrev ju(x:Str)(t r e p:Ų Sm):ai:=[Z (.v (.str x)),t,r,e,p]
inductive z__law_told(ds:List D)(R:D->Prop):Prop|mk (x:Str) (ls:List Str) (_:ds=[.str x]) (_:LsOk x ls) (_:R (fG (cD cU 1 ls) ls.length))
theorem AO(F:Fun K "_law_told" "_law_told" kS f G)(aw:ClMX P w K mg base n "read_plan" ["text"] y_read_plan)(X:Cl P w K mg base n "_law_whole" ["_law_told_here"] z__law_whole)(t:mg "len"=ű)(g:mg "isinstance"=ű)(U:mg "ValueError"=ű)(Q:mg "tuple"=ű)(eM:mg "all"=ű)(c:Exs K mg eA cn)(e:Isa K mg eA cn)(I:∃D,mg "NoText"=Z (.ref D))(J:∃D,mg "NoName"=Z (.ref D))(C:∃D,mg "Twice"=Z (.ref D))(B:∃D,mg "TooGreat"=Z (.ref D))(am:∃D,mg "YardError"=Z (.ref D)):FnOk P w K mg base bt (n+1) f G ["_law_text"] (lSpM K (zM z__law_told)):=by
 refine F.okM qas (λas R Rx h=>?_) (λO1 A outer s H E as R Rx qs O0 u h ar=>?_)
 ·let⟨_,rfl,x,l,rfl,_⟩:=h;rfl
 let⟨_,rfl,x,l,rfl,hl,q⟩:=h;obtain rfl:=cI ar
 refine⟨_,(aG (aF (i:=1) qas.nd S X9 (ag bL))
   (aG (aF (i:=2) qas.nd S X9 (ag bL))
   (aK (AB (λ_ _=>(ak (aF (i:=1) qas.nd S X9 (Ez aw u S S (bA (ag (dv 0)) bJ ae) ae ao)))) (mC 3 c I 'a' S qas.nd (λ_ _=>(ak (aF (i:=2) qas.nd S X9 (ag (bB (af aq (af (oS c e (dv 3)) (af (mJ c e J C B 'a' 'a' 'a' S S S S g (dv 3) ae dY) (af (v9 c e am 'a' S S g (dv 3) ae ae) av bK) bK) cZ) aj)))))) (mC 3 c J 'a' S qas.nd (λ_ _=>(ak (aF (i:=2) qas.nd S X9 (ag (bB (af aq (af (oS c e (dv 3)) (af (mJ c e I C B 'a' 'a' 'a' S S S S g (dv 3) ae dY) (af (v9 c e am 'a' S S g (dv 3) ae ae) av bK) bK) cZ) aj)))))) (mC 3 c C 'a' S qas.nd (λ_ _=>(ak (aF (i:=2) qas.nd S X9 (ag (bB (af aq (af (oS c e (dv 3)) (af (mJ c e I J B 'a' 'a' 'a' S S S S g (dv 3) ae dY) (af (vR c e S U S g (dv 3) ae ae) av bK) bK) cZ) aj)))))) (mC 3 c B 'a' S qas.nd (λ_ _=>(ak (aF (i:=2) qas.nd S X9 (ag (bB (af aq (af (oS c e (dv 3)) (af (mJ c e I J C 'a' 'a' 'a' S S S S g (dv 3) ae dY) (af (vR c e S U S g (dv 3) ae ae) av bK) bK) cZ) aj)))))) BL)))) S S)
   (aK (aJ (aM (aD fS (aa 2) (PD.q bL) (aC _))) (aK (aJ (aM (PWD.td (cQ (ib (fi (PD.q (l7 S g (aa 1) (jB (v:=.ty "tuple") S Q KN S) ae ae)) (λ_=>rfl))) (cQ (aD (fP u.units) (PD.q (bz bF S t J7 (aV (aa 1) aW ae) ae ao)) (PD.q ah) (aC _)) (cQ (ib (fi (PD.q (l7 S g (PD.q (aS (aa 1))) (jB (v:=.ty "tuple") S Q KN S) aR ae)) (λ_=>rfl))) (ee (aD (fP u.units) (PD.q (bz bF S t J7 (aV (PD.q (aS (aa 1))) aW aR) aR ao)) (PD.q ah) (aC _)))))))) (ak (aL (ag bL))) aN)
   (aG (aF (i:=4) qas.nd S X9 (ag (PF.d (bQ (af (aS (aa 1)) (af (aS (PD.q (aS (aa 1)))) (af (aS (PD.q (aS (aa 1)))) (af (aS (PD.q (aS (aa 1)))) av aR) aR) aR) aR)))))
   (aK (aJ (aM (PWD.td (cQ (ib (fi (PD.q (bz (ky S) S eM Mb (aV (PD.q (PF.d (ic (k:=1) (N':=["_law_part"]) (cap:=[ű]) S (.ok (show fK ["_law_text","_law_told_here","_law_refusal","error","_law_parts"] (aQ kS) _ ["_law_part"] [ű]=ų by lia)) 'a' (gI 'b') (gK (dv 4)) (λ_ _ _ _ _=>(gC (i:=0) (show List.Nodup (["_law_part"]:Y Str)by lia) S X9)) (λ_ _ _ _ _=>(l7 S g (aa 0) (jB (v:=.ty "tuple") S Q KN S) ae ae))))) aW dG) dG ao)) (λ_=>rfl))) (ee (aD (fP u.units) (PD.q (bz bF S t J7 (aV (PD.q (aS (aa 4))) aW aR) aR ao)) (PD.q (bz bF S t J7 (aV (PD.q (aS (aa 4))) aW aR) aR ao)) (aC _)))))) (ak (aL (ag bL))) aN)
   (ak (aL (ag (bB (af (aS (aa 4)) (af (bz bF S t J7 (aV (PD.q (aS (aa 4))) aW aR) aR ao) av bK) aR)))))))) aN)
   (aK (aJ (aM (PWD.td (cQ (ib (fi (PD.q (bX X u S (af (aS (aa 2)) av aR) aR ao)) (λ_=>rfl))) (cQ (fi (PD.q (aS (aa 2))) (λ_=>rfl)) (ee (ib (fi (PD.q (aS (aa 2))) (λ_=>rfl)))))))) (ak (aL (ag bL))) aN)
   (ak (aL (ag (bH (aa 2) bO (bD (PD.q ah))))))))))),?_⟩
 intro ke;refine⟨λρ=>(∃(s:Rd)(j:Y Int)(p:Int),fG (cD cU 1 l) l.length=.tup [.tup (s.ns.map D.str),.int (s.rs.length:Nat)]/\j.length=s.bs.length/\ρ=ju x (Z (.v (mW s j p))) (Z (.v .non)) ű ű)\/∃(k z:Int)(N O:Bool),fG (cD cU 1 l) l.length=fA k z/\N=Ŵ/\O=ų/\ρ=ju x (Z (.v .non)) (Z (.v (.tup [.str (lq k),.int z,.bl N,.bl O]))) ű ű,?_,?_⟩
 ·refine⟨_,S,S,x,l,S,hl,λs j p r M T=>?_,λs r M=>?_,λk n r=>?_⟩
  ·show .inl ⟨s,j,p,by rw[r];show JV (by rw[M];simp),by rw[T.eq];show T.wl _ M,S⟩
  ·have o:fG (cD cU 1 l) l.length=fA 4 (l.length:Nat):=by rw[r];show JX M
   show⟨(show ("NoText":Str)∈cn by lia),λ_=>⟨_,.int _,S,(show ("NoText":Str)∈cn by lia),trivial,_,_,S,(show ("NoText":Str)∈cn by lia),_,_,S,(show ("NoText":Str)∈cn by lia),.inr ⟨4,_,_,_,o,(by lia:((["NoName","Twice","TooGreat"]:Y Str).map (eA "NoText")).any id=Ŵ),(by lia:eA "NoText" "YardError"=ų),S⟩⟩,λh=>k9 (a:="NoText") (b:="NoText") h⟩
  ·have o:fG (cD cU 1 l) l.length=fA k (n:Nat):=by rw[r];rfl
   rcases vX r with rfl|rfl|rfl|rfl
   ·show⟨(show ("TooGreat":Str)∈cn by lia),λh=>i9 (a:="TooGreat") (b:="NoText") h,λ_=>⟨(show ("TooGreat":Str)∈cn by lia),λh=>i9 (a:="TooGreat") (b:="NoName") h,λ_=>⟨(show ("TooGreat":Str)∈cn by lia),λh=>i9 (a:="TooGreat") (b:="Twice") h,λ_=>⟨(show ("TooGreat":Str)∈cn by lia),λ_=>⟨_,.int _,S,(show ("TooGreat":Str)∈cn by lia),trivial,_,_,S,(show ("TooGreat":Str)∈cn by lia),_,_,S,(show ("TooGreat":Str)∈cn by lia),.inr ⟨1,_,_,_,o,(by lia:((["NoText","NoName","Twice"]:Y Str).map (eA "TooGreat")).any id=Ŵ),(by lia:ų=ų),S⟩⟩,λh=>k9 (a:="TooGreat") (b:="TooGreat") h⟩⟩⟩⟩
   ·show⟨(show ("Twice":Str)∈cn by lia),λh=>i9 (a:="Twice") (b:="NoText") h,λ_=>⟨(show ("Twice":Str)∈cn by lia),λh=>i9 (a:="Twice") (b:="NoName") h,λ_=>⟨(show ("Twice":Str)∈cn by lia),λ_=>⟨_,.int _,S,(show ("Twice":Str)∈cn by lia),trivial,_,_,S,(show ("Twice":Str)∈cn by lia),_,_,S,(show ("Twice":Str)∈cn by lia),.inr ⟨2,_,_,_,o,(by lia:((["NoText","NoName","TooGreat"]:Y Str).map (eA "Twice")).any id=Ŵ),(by lia:ų=ų),S⟩⟩,λh=>k9 (a:="Twice") (b:="Twice") h⟩⟩⟩
   ·show⟨(show ("NoName":Str)∈cn by lia),λh=>i9 (a:="NoName") (b:="NoText") h,λ_=>⟨(show ("NoName":Str)∈cn by lia),λ_=>⟨_,.int _,S,(show ("NoName":Str)∈cn by lia),trivial,_,_,S,(show ("NoName":Str)∈cn by lia),_,_,S,(show ("NoName":Str)∈cn by lia),.inr ⟨3,_,_,_,o,(by lia:((["NoText","Twice","TooGreat"]:Y Str).map (eA "NoName")).any id=Ŵ),(by lia:eA "NoName" "YardError"=ų),S⟩⟩,λh=>k9 (a:="NoName") (b:="NoName") h⟩⟩
   ·show⟨(show ("NoText":Str)∈cn by lia),λ_=>⟨_,.int _,S,(show ("NoText":Str)∈cn by lia),trivial,_,_,S,(show ("NoText":Str)∈cn by lia),_,_,S,(show ("NoText":Str)∈cn by lia),.inr ⟨4,_,_,_,o,(by lia:((["NoName","Twice","TooGreat"]:Y Str).map (eA "NoText")).any id=Ŵ),(by lia:eA "NoText" "YardError"=ų),S⟩⟩,λh=>k9 (a:="NoText") (b:="NoText") h⟩
 rintro ρ (⟨s,j,p,o,Tb,rfl⟩|⟨k,z,N,O,o,rfl,rfl,rfl⟩)
 ·rw[o]at q;refine⟨λ_=>False,⟨λ_=>?_,λh=>tf h⟩,λ_ z=>z.elim⟩;refine⟨λρ=>ρ=ju x (Z (.v (mW s j p))) (Z (.v .non)) ű ű,⟨ų,S,λh=>ff h,λ_=>⟨λh=>ff h,λ_=>⟨_,S,ų,S,λh=>ff h,λ_=>⟨_,S,λh=>ff h,λ_=>rfl⟩⟩⟩⟩,?_⟩;rintro ρ rfl;refine⟨_,S,_,S,_,S,_,S,_,S,_,S,_,S,?_⟩
  have ln:(iL p j).length=j.length:=by unfold iL;split;show mn _;rfl
  have q2:R (.v (.tup [.tup (s.ns.map D.str),.int (((s.rs.map eJ).length:Nat):Int)])) []:=by rw[mn];show q
  refine⟨λρ=>ρ=ju x (Z (.v (mW s j p))) (Z (.v .non)) ű (Z (.v (.lst ([s.ns.map D.str,s.bs.map jR,s.rs.map eJ,(iL p j).map D.int].map D.tup)))),?_,?_⟩
  ·refine i8 (f:=D.tup) (xs:=[s.ns.map D.str,s.bs.map jR,s.rs.map eJ,(iL p j).map D.int]) (λ_=>D.bl ų) (by change 4<sizeLine;decide) (λy _=>⟨ų,yB _,S⟩) ?_;refine⟨[ų,ų,ų,ų],S,λh=>ff h,λ_=>⟨_,S,_,S,λh=>?_,λ_=>rfl⟩⟩;rw[AC (by rw[mn,mn,ln,Tb])]at h;show ff h
  rintro ρ rfl;show⟨_,S,_,S,q2⟩
 ·rw[o]at q;refine⟨λρ=>ρ=ju x (Z (.v .non)) (Z (.v (.tup [.str (lq k),.int z,.bl Ŵ,.bl ų]))) ű ű,⟨λh=>ff h,λ_=>rfl⟩,?_⟩;rintro ρ rfl;refine⟨λρ=>ρ=ju x (Z (.v .non)) (Z (.v (.tup [.str (lq k),.int z,.bl Ŵ,.bl ų]))) ű ű,⟨_,S,z,S,λh=>ff h,λ_=>⟨_,S,λh=>ff h,λ_=>⟨_,S,λh=>ff h,λ_=>rfl⟩⟩⟩,?_⟩;rintro ρ rfl;show⟨_,S,q⟩
open Tx
structure Gn where
 kd:Str
 ws:List Str
 ns:List Int
 sd:Str
 sp:Int
noncomputable def bW(g:Gn):D:=.tup [.str g.kd,.lst (g.ws.map .str),.lst (g.ns.map .int),.str g.sd,.int g.sp]
structure GnOk(g:Gn):Prop where
 kd:g.kd="unknown"/\1<=g.ws.length/\1<=g.ns.length\/(g.kd="row"\/g.kd="worth")/\g.ns.length=4
 wl:g.ws.length<=4
 wn:∀w∈g.ws,bf w=ų
 nn:∀n∈g.ns,fY n
 sd:g.sd=""\/g.sd="least"\/g.sd="most"
 sp:0<=g.sp/\g.sp<2^40
noncomputable def mY(n:Nat)(a:Y Gn):Prop:=a.length<=n/\∀g∈a,GnOk g
inductive y__law_lines(as:List Sm)(R:Sm->List Om->Prop)(Rx:XD->List Om->Prop):Prop|mk (a:Option Addr) (o:Om) (ns:List Str) (n m:Nat) (_:as=[.ob a o,.v (.lst (ns.map D.str)),.v (.int (n:Nat))]) (_:Pl m o) (_:m+1000<2^20) (_:NmOk ns) (_:n<=13) (_:∀(gs:List Gn)(o':Om),mY 23 gs->Pl (m+400) o'->R (.v (.lst (gs.map bW))) [o'])
theorem C9{c:Type}(xs:Y c)(a b:Nat):(aT xs (Z (a:Int)) (Z (b:Int))).length<=b-a:=by unfold aT;rw[HT.sIx_nat,HT.sIx_nat];refine J6 (List.length_take_le _ _) ?_;omega
theorem j5{c:Type}{xs:Y c}{a b:Ų Int}{x:c}(h:x∈aT xs a b):x∈xs:=Lq (LR h)
theorem iX{c:Type}{P:c->Prop}{xs:Y c}{x:c}(h:∀y∈xs,P y)(e:P x):∀y∈xs++[x],P y:=λy a=>by
 rcases Kj.mp a with a|a
 ·show h y a
 ·rw[J3.mp a];show e
theorem vh{k:Nat}{a:Y Gn}{g:Gn}(h:a.length=k/\∀g∈a,GnOk g)(c:GnOk g):(a++[g]).length=k+1/\∀g'∈a++[g],GnOk g':=⟨by rw[wy,h.1];rfl,iX h.2 c⟩
noncomputable abbrev LS(c:Addr)(o:Om)(ns:Y Str)(n:Nat)(a:Y Gn)(e g h j l p:Ų Sm):ai:=[Z (.ob (Z c) o),Z (.v (.lst (ns.map D.str))),Z (.v (.int (n:Nat))),Z (.own (a.map bW)),e,g,h,j,l,p]
theorem Ep(F:Fun K "_law_lines" "_law_lines" kO f G)(Pt:ClM P w K mg base n "_law_number" ["_law_pool_here"] y__law_number)(ar:ClM P w K mg base n "_law_draw" ["_law_pool_here","_law_many"] y__law_draw)(eh:mg "range"=ű)(aP:mg "len"=ű):FnOk P w K mg base bt (n+1) f G ["_law_pool_here","_law_names_here","_law_rows"] (lSpM K y__law_lines):=by
 refine F.okM qai (λas R Rx h=>?_) (λO1 A outer s H E as R Rx qs O0 u h O4=>?_)
 ·let⟨a,o,ns,n,m,rfl,_⟩:=h;rfl
 let⟨a,o,ns,n,m,rfl,hp,hm,QM,hn,q⟩:=h;let⟨U,rfl⟩:=gc O4
 refine⟨_,(aG (aF (i:=3) qai.nd S X9 (eO (bQ av)))
   (aG (eQ Le S (fh (gK (dv 1))) (bY (i:=4) qai.nd S X9) (aG (aF (i:=5) qai.nd S X9 (Jr (bA (b0 Pt u S (b9 0 bJ ae) ae ao) bJ bK)))
   (aK (aJ (sR (aX u.units) (b0 ar u S (b9 0 (bA (ag ah) bJ aj) ae) ae (bC aj ao)) (ag ah) (aC _)) (ak (iM 5 (b0 Pt u S (b9 0 bJ ae) ae ao) (bZ bK) bK)) aN)
   (km 5 (ak (iM 3 (ag (bB (af aq (af (PF.d (bQ (af (dv 4) av ae))) (af (dv 5) (af aq (af ah av aj) aj) ae) Gd) aj))) (bZ dY) dY))))))
   (aG (eQ Le S (fh (oW S eh (af (aE aY (aa 2) (PD.q ah)) av cq))) (bY (i:=6) qai.nd S X9) (aG (aF (i:=7) qai.nd S X9 (ag (PF.d (bQ av))))
   (aK (aJ (PXW.toB (Es (sR da (b0 ar u S (b9 0 (bA (ag ah) bJ aj) ae) ae (bC aj ao)) (ag ah) (aC _)) (Cj (aM (aD da (PD.q (bz bF S aP J7 (aV (aa 1) aW ae) ae ao)) (PD.q ah) (aC _)))))) (aG (aF (i:=8) qai.nd S X9 (b0 ar u S (b9 0 (bA (ag (bz bF S aP J7 (aV (aa 1) aW ae) ae ao)) bJ bK) ae) ae (bC bK ao)))
   (ak (aF (i:=7) qai.nd S X9 (vV (zF 1 S (ag (dv 8)) (hX aY (ag (aE aY (aa 8) (PD.q ah))) (b0 ar u S (b9 0 (bA (ag ah) bJ aj) ae) ae (bC aj ao)))))))) aN)
   (aG (Dq (i:=5) (N':=["_law_i","_law_pool_here"]) (cap:=[ű,Z 0]) S qai.nd S X9 (.ok (show fK ["_law_pool_here","_law_names_here","_law_rows","_law_lines_here","_law_name","_law_numbers","_law_k","_law_words","_law_at","_law_kind"] (aQ kO) _ ["_law_i","_law_pool_here"] [ű,Z 0]=ų by lia)) 'a' (fh (oW S eh (af ah av aj))) (λ_ _ _ _ _=>(bY (i:=0) (show List.Nodup (["_law_i","_law_pool_here"]:Y Str)by lia) S X9)) (λ_ _ _ _ _=>Am) (λ_ _ _ _ _=>(b0 Pt u S (b9 1 bJ ae) ae ao)))
   (aG (aF (i:=9) qai.nd S X9 (ag aq))
   (aK (aJ (aM (aD (aX u.units) (aa 6) (aa 2) (aC _))) (ak (aF (i:=9) qai.nd S X9 (ag aq))) aN)
   (km 5 (ak (iM 3 (vp (bA (ag (dv 9)) (bA (ag (dv 7)) (bA (ag (dv 5)) (bA (kT (ag (bB (af aq (af aq av aj) aj))) (b0 ar u S (b9 0 (bA (ag ah) bJ aj) ae) ae (bC aj ao)) (λ_ _=>rfl)) (bA (ag ah) bJ aj) aR) ae) ae) ae)) (bZ dY) dY)))))))))
   (km 3 (ak (aL (ag (dv 3)))))))),?_⟩
 intro ke;have hl:=QM.2.1;refine⟨λi ρ=>∃(l:Y Gn)(r:Om)(X N:Ų Sm),ρ=LS U r ns n l X N ű ű ű ű/\(l.length=i/\∀g∈l,GnOk g)/\Pl (m+5*i) r,⟨[],o,_,_,S,⟨S,λg hg=>by cases hg⟩,hp⟩,?_,?_⟩
 ·rintro i d ρ hd ⟨l,o1,X,N,rfl,B,C⟩;let⟨x,rfl,hx⟩:=gf hd;have hxm:=Kp hx;have hi:i<ns.length:=bj hx;rfl';refine⟨⟨_,_,S⟩,_,S,S,_,_,_,S,C,(),λz o2 J O=>?_⟩;rfl';refine⟨λρ=>∃(p:Y Int)(r:Om),ρ=LS U r ns n l (Z (.v (.str x))) (Z (.own (p.map D.int))) ű ű ű ű/\1<=p.length/\(∀z∈p,fY z)/\Pl (m+5*i+5) r,?_,?_⟩
  ·refine⟨⟨_,_,S⟩,_,S,S,_,_,2,_,S,O,(),'b',cu 'b',λy M y0 y1 t=>?_⟩;rfl';refine⟨λ_=>?_,λ_=>?_⟩
   ·refine⟨⟨_,_,S⟩,_,S,S,_,_,_,S,t,(),λz2 am Vl Q=>?_⟩;rfl';show⟨by change 1<sizeLine;have:=KP;omega,_,S,[z,z2],am,S,by change 1<=2;omega,λy I=>by rcases J9.mp I with rfl|I;show J;rw[J3.mp I];show Vl,Q.mono ()⟩
   ·show⟨[z],M,S,by change 1<=1;omega,λy I=>by rw[J3.mp I];show J,t.mono ()⟩
  rintro ρ ⟨p,M,rfl,VR,hzs,t⟩;refine⟨by rw[mn];show ed (),_,dX bW l ⟨"unknown",[x],p,"",0⟩,?_⟩;refine⟨_,M,_,_,S,vh B ⟨.inl ⟨S,by change 1<=1;omega,VR⟩,by change 1<=4;omega,λw hw=>by rw[J3.mp hw];show QM.2.2 x hxm,hzs,.inl S,by change (0:Int)<=0/\(0:Int)<2^40;decide⟩,t.mono ()⟩
 rintro ρ ⟨l,o1,X,N,rfl,B,C⟩;rw[mn]at B C;refine⟨⟨(),()⟩,λi ρ=>∃(l:Y Gn)(r:Om)(N u6 u7 T u9:Ų Sm),ρ=LS U r ns n l X N u6 u7 T u9/\(l.length=ns.length+i/\∀g∈l,GnOk g)/\Pl (m+45+20*i) r,⟨l,o1,_,_,_,_,_,S,B,C.mono ()⟩,?_,?_⟩
 ·rintro i d ρ hd ⟨l,o1,N,u6,u7,T,u9,rfl,B,C⟩;let⟨hi,rfl⟩:=jx hd
  have T7:i<n+1:=by omega
  refine⟨λρ=>∃(ws:Y Str)(r:Om)(T:Ų Sm),ρ=LS U r ns n l X N (Z (.v (.int (0+(i:Nat))))) (Z (.v (.lst (ws.map D.str)))) T u9/\ws.length<=3/\(∀w∈ws,bf w=ų)/\Pl (m+45+20*i+3) r,?_,?_⟩
  ·refine⟨⟨_,_,S⟩,_,S,S,_,_,3,_,S,C,(),'b',cu 'b',λx o2 x0 x1 O=>?_⟩;rfl'
   have Ue:∀w∈([]:Y Str),bf w=ų:=λw hw=>by cases hw
   refine⟨λ_=>⟨λh=>?_,λ_=>⟨[],o2,_,S,by change 0<=3;omega,Ue,O.mono ()⟩⟩,λ_=>⟨λc=>(by cases c),λ_=>⟨[],o2,_,S,by change 0<=3;omega,Ue,O.mono ()⟩⟩⟩;have h:=dP h;rw[mn]at h;refine⟨⟨_,_,S⟩,_,S,S,_,_,_,_,S,O,(),by rw[mn];show h,cu (by rw[mn];omega),λy M y0 y1 t=>?_⟩;rfl';refine⟨_,S,?_⟩;refine⟨⟨_,_,S⟩,_,S,S,_,_,3,_,S,t,(),'b',cu 'b',λv am v0 v1 Q=>?_⟩;rfl';let⟨y,rfl⟩:=Kn y0;let⟨v,rfl⟩:=Kn v0
   have e:(y:Int)+1+v=((y+1+v:Nat):Int):=by omega
   refine⟨_,cE D.str ns _ _,aT ns _ _,am,_,S,?_,λw hw=>QM.2.2 w (j5 hw),Q.mono ()⟩;rw[e];show J6 (C9 _ _ _) ()
  rintro ρ ⟨ws,o2,T,rfl,SD,SJ,O⟩;rfl';refine⟨⟨'b','b'⟩,by have:=KP;change 4<sizeLine;omega,λj ys ρc=>∃(p:Y Int)(r:Om)(x:Ų Sm),ys=p.map D.int/\p.length=j/\(∀z∈p,fY z)/\Pl (m+45+20*i+3+2*j) r/\ρc=[x,Z (.ob (Z U) r)],⟨[],o2,_,S,S,(λz J=>by cases J),O,S⟩,?_,?_⟩
  ·rintro j d ys ρc hd ⟨p,M,x,rfl,aw,J,t,rfl⟩;let⟨hj,rfl⟩:=jx hd;have hj':j<4:=hj;refine⟨λ_=>?_,λc=>by cases c⟩;refine⟨⟨_,_,S⟩,_,S,S,_,_,_,S,t,(),λz am hz4 Q=>?_⟩;rfl';show⟨p++[z],am,_,(by rw[KU];rfl),by rw[wy,aw];rfl,iX J hz4,Q.mono (),S⟩
  ·rintro ys ρc ⟨p,M,x,rfl,aw,J,t,rfl⟩;have aw:p.length=4:=aw;refine⟨M,S,?_⟩;refine⟨λρ=>∃kd:Str,ρ=LS U M ns n l X (Z (.own (p.map D.int))) (Z (.v (.int (0+(i:Nat))))) (Z (.v (.lst (ws.map D.str)))) T (Z (.v (.str kd)))/\(kd="row"\/kd="worth"),⟨λ_=>⟨_,S,.inr S⟩,λ_=>⟨_,S,.inl S⟩⟩,?_⟩;rintro ρ ⟨kd,rfl,hkd⟩;refine⟨⟨_,_,S⟩,_,S,S,_,_,2,_,S,t,(),'b',cu 'b',λv am v0 v1 Q=>?_⟩;rfl';let⟨y,I,he⟩:=gS (ns:=["least","most"]) v0 v1;refine⟨_,he,by rw[mn];show ed (),_,dX bW l ⟨kd,ws,p,y,0⟩,?_⟩;show⟨_,am,_,_,_,_,_,S,vh B ⟨.inr ⟨hkd,aw⟩,by change ws.length<=4;omega,SJ,J,by simp only[J9,KJ,Ml]at I;show .inr I,by change (0:Int)<=0/\(0:Int)<2^40;decide⟩,Q.mono ()⟩
 rintro ρ ⟨l,o1,N,u6,u7,T,u9,rfl,B,C⟩;rw[jc]at B C;show⟨_,S,q l o1 ⟨(),B.2⟩ (C.mono ())⟩
open Tx
inductive y__law_changed(as:List Sm)(R:Sm->List Om->Prop)(Rx:XD->List Om->Prop):Prop|mk (a:Option Addr) (o:Om) (gs:List Gn) (x:Str) (m k:Nat) (_:as=[.ob a o,.v (.lst (gs.map bW)),.v (.str x)]) (_:Pl m o) (_:m+1000<2^20) (_:mY k gs) (_:k<=30) (_:bf x=ų) (_:∀(gs':List Gn)(o':Om),mY (k+1) gs'->Pl (m+6) o'->R (.v (.lst (gs'.map bW))) [o'])
theorem rm{a:Y Gn}{k:Int}(e:0<=k)(h:k<a.length):∃g∈a,bT (a.map bW) k=Z (bW g):=by
 let⟨i,rfl⟩:=Kn e
 have c:i<a.length:=by omega
 show⟨a[i],LJ c,ji (i:=i) (Km c) S⟩
theorem kU{a:Type}(xs:Y a)(b:Nat):(aT xs ű (Z (b:Int))).length<=b:=by unfold aT;rw[HT.sIx_nat,HT.sIx_none];refine J6 (List.length_take_le _ _) ?_;omega
theorem uU{a:Type}(xs:Y a)(b:Nat):(aT xs (Z (b:Int)) ű).length<=xs.length-b:=by unfold aT;rw[HT.sIx_nat,HT.sIx_none,Kq,Kr];omega
theorem Dj{a:Type}(xs:Y a)(b:Nat):(aT xs ű (Z (b:Int))).length=min b xs.length:=by unfold aT;rw[HT.sIx_nat,HT.sIx_none,Mf,Kq];omega
noncomputable abbrev CS(e:Addr)(o:Om)(c:Y Gn)(x:Str)(a at_ to:Int)(g:Gn):ai:=[Z (.ob (Z e) o),Z (.v (.lst (c.map bW))),Z (.v (.str x)),Z (.v (.int a)),Z (.v (.int at_)),Z (.v (.int to)),Z (.v (.str g.kd)),Z (.v (.lst (g.ws.map D.str))),Z (.v (.lst (g.ns.map D.int))),Z (.v (.str g.sd)),Z (.v (.int g.sp))]
theorem IL(F:Fun K "_law_changed" "_law_changed" nC f G)(Q:ClM P w K mg base n "_law_draw" ["_law_pool_here","_law_many"] y__law_draw)(aP:mg "len"=ű)(su:mg "list"=ű):FnOk P w K mg base bt (n+1) f G ["_law_pool_here","_law_lines_here","_law_name"] (lSpM K y__law_changed):=by
 refine F.okM qad (λas R Rx h=>?_) (λO1 A outer s H E as R Rx qs O0 r h O4=>?_)
 ·let⟨a,o,e,x,m,k,rfl,_⟩:=h;rfl
 let⟨a,o,e,x,m,k,rfl,hp,hm,C,hk,hx,q⟩:=h;let⟨J,rfl⟩:=gc O4
 refine⟨_,(aG (aF (i:=3) qad.nd S X9 (b0 Q r S (b9 0 (bA (ag ah) bJ aj) ae) ae (bC aj ao)))
   (aK (aJ (aM (PWD.td (cQ (aD (aX r.units) (PD.q (bz bF S aP J7 (aV (aa 1) aW ae) ae ao)) (PD.q ah) (aC _)) (ee (aD (aX r.units) (aa 3) (PD.q ah) (aC _)))))) (km 1 (ak (aL (ag (dv 1))))) aN)
   (aG (aF (i:=4) qad.nd S X9 (b0 Q r S (b9 0 (bA (ag (bz bF S aP J7 (aV (aa 1) aW ae) ae ao)) bJ bK) ae) ae (bC bK ao)))
   (aG (aF (i:=5) qad.nd S X9 (b0 Q r S (b9 0 (bA (ag (bz bF S aP J7 (aV (aa 1) aW ae) ae ao)) bJ bK) ae) ae (bC bK ao)))
   (aG (qN (ag (bV (aa 1) (aa 4) (λ_ _=>rfl))) (iy (n:=5) S (cX (bY (i:=6) qad.nd S X9) (cX (bY (i:=7) qad.nd S X9) (cX (bY (i:=8) qad.nd S X9) (cX (bY (i:=9) qad.nd S X9) (cX (bY (i:=10) qad.nd S X9) iQ)))))))
   (aK (aJ (aM (aD iP (aa 3) (PD.q ah) (aC _))) (aG (aF (i:=10) qad.nd S X9 (hX aY (hX aY (ag ah) (b0 Q r S (b9 0 (bA (ag ah) bJ aj) ae) ae (bC aj ao))) (hX fu (ag ah) (b0 Q r S (b9 0 (bA (ag (aE uB (PD.q ah) (PD.q ah))) bJ cq) ae) ae (bC cq ao)))))
   (ak (aL (ag (aE aY (PD.q (aE aY (PD.q (bH (aa 1) bO (bD (aa 4)))) (PD.q (PF.d (bQ (af (bB (af (dv 6) (af (dv 7) (af (dv 8) (af (dv 9) (af (dv 10) av ae) ae) ae) ae) ae)) av dY)))))) (PD.q (bH (aa 1) (bD (PD.q (aE aY (aa 4) (PD.q ah)))) bO))))))) aN)
   (aK (aJ (aM (aD (aX r.units) (aa 3) (PD.q ah) (aC _))) (ak (aL (ag (aE aY (PD.q (aE aY (PD.q (bH (aa 1) bO (bD (aa 5)))) (PD.q (PF.d (bQ (af (bV (aa 1) (aa 4) (λ_ _=>rfl)) av aR)))))) (PD.q (bH (aa 1) (bD (aa 5)) bO)))))) aN)
   (aK (aJ (aM (aD (aX r.units) (aa 3) (PD.q ah) (aC _))) (aG (aF (i:=1) qad.nd S X9 (eO (GP S su (aa 1) ae)))
   (aG (jw 1 (ag (bV (aa 1) (aa 5) (λ_ _=>rfl))) (ag (dv 4)))
   (aG (jw 1 (ag (bB (af (dv 6) (af (dv 7) (af (dv 8) (af (dv 9) (af (dv 10) av ae) ae) ae) ae) ae))) (ag (dv 5)))
   (km 1 (ak (aL (ag (dv 1)))))))) aN)
   (aK (aJ (aM (aD (aX r.units) (aa 3) (PD.q ah) (aC _))) (ak (aL (ag (aE aY (PD.q (bH (aa 1) bO (bD (aa 4)))) (PD.q (bH (aa 1) (bD (PD.q (aE aY (aa 4) (PD.q ah)))) bO)))))) aN)
   (aK (aJ (aM (aD (aX r.units) (aa 3) (PD.q ah) (aC _))) (ak (aL (ag (aE aY (aa 1) (PD.q (PF.d (bQ (af (bV (aa 1) (aa 4) (λ_ _=>rfl)) av aR)))))))) aN)
   (aK (aJ (aM (PWD.td (cQ (aD (aX r.units) (aa 6) (PD.q aq) (aC _)) (ee (aD da (PD.q (bz bF S aP J7 (aV (aa 7) aW ae) ae ao)) (PD.q ah) (aC _)))))) (ak (aF (i:=7) qad.nd S X9 (ag (bH (PD.q (aE aY (PD.q (aS (PD.q (bV (aa 1) (aa 5) (λ_ _=>rfl))))) (PD.q (PF.d (bQ (af (dv 2) av ae)))))) bO (bD (PD.q ah)))))) (ak (aJ (aM (aD (aX r.units) (aa 3) (PD.q ah) (aC _))) (ak (aF (i:=7) qad.nd S X9 (ag (bV (PD.q (PF.d (bQ (af (aE aY (PD.q (aE aY (PD.q (bH (aa 7) bO (bD (PD.q ah)))) (PD.q (PF.d (bQ (af (dv 2) av ae)))))) (PD.q (bH (aa 7) bO (bD (PD.q ah))))) (af (aE aY (PD.q (aE aY (PD.q (bH (aa 7) bO (bD (PD.q ah)))) (PD.q (bH (aa 7) bO (bD (PD.q ah)))))) (PD.q (PF.d (bQ (af (dv 2) av ae))))) av cq) cq)))) (PD.q (aE cF (aa 4) (PD.q ah))) (λ_ _=>rfl))))) (ak (aF (i:=7) qad.nd S X9 (ag (aE aY (aa 7) (PD.q (bH (aa 7) bO (bD (PD.q ah)))))))))))
   (ak (aL (ag (aE aY (PD.q (aE aY (PD.q (bH (aa 1) bO (bD (aa 4)))) (PD.q (PF.d (bQ (af (bB (af (dv 6) (af (dv 7) (af (dv 8) (af (dv 9) (af (dv 10) av ae) ae) ae) ae) ae)) av dY)))))) (PD.q (bH (aa 1) (bD (PD.q (aE aY (aa 4) (PD.q ah)))) bO))))))))))))))))),?_⟩
 intro ke;have hlen:=C.1;refine⟨⟨_,_,S⟩,_,S,S,_,_,9,_,S,hp,(),'b',cu 'b',λI o1 de0 de1 Qd=>?_⟩;rfl';refine⟨λρ=>0<e.length/\ρ=[Z (.ob (Z J) o1),Z (.v (.lst (e.map bW))),Z (.v (.str x)),Z (.v (.int I)),ű,ű,ű,ű,ű,ű,ű],?_,?_⟩
 ·have same:=q e o1 ⟨(),C.2⟩ (Qd.mono ());refine⟨λ_=>⟨λ_=>⟨_,S,same⟩,λc=>(by cases c)⟩,λh=>⟨λ_=>⟨_,S,same⟩,λ_=>⟨?_,S⟩⟩⟩;rw[mn]at h;rcases MQ e.length with c|c
  ·rw[c]at h;cases h
  ·show c
 rintro ρ ⟨hl,rfl⟩;have X:(((e.map bW).length:Nat):Int)<2^9000:=cu (by rw[mn];omega)
 have U:0<(((e.map bW).length:Nat):Int):=by rw[mn];omega
 refine⟨⟨_,_,S⟩,_,S,S,_,_,_,_,S,Qd,(),U,X,λat_ o2 a0 a1 P7=>?_⟩;rfl';refine⟨⟨_,_,S⟩,_,S,S,_,_,_,_,S,P7,(),U,X,λto z t0 t1 N=>?_⟩;rfl';rw[mn]at a1 t1;let⟨g,hg,he⟩:=rm a0 a1;have p:=C.2 g hg;let⟨i,rfl⟩:=Kn a0;let⟨j,rfl⟩:=Kn t0;have hs:=KP;have i1:(aT e ű (Z (i:Int))).length<=i:=kU e i;have i2:(aT e (Z ((i:Int)+1)) ű).length<=e.length-(i+1):=uU e (i+1);have j1:(aT e ű (Z (j:Int))).length<=j:=kU e j;have j2:(aT e (Z (j:Int)) ű).length<=e.length-j:=uU e j
 have VS:∀{xs ys:Y Gn}{g':Gn},(∀y∈xs,GnOk y)->GnOk g'->(∀y∈ys,GnOk y)->∀y∈xs++[g']++ys,GnOk y:=λh1 M O y l=>by
  rcases Kj.mp l with l|l
  ·show iX h1 M y l
  ·show O y l
 have am:∀{a b:Ų Int},∀y∈aT e a b,GnOk y:=λy l=>C.2 y (j5 l)
 have put:∀(g':Gn)(ar:Om),GnOk g'->Pl (m+6) ar->kF (xD (dA jd (dA jd (jO (dm 1) jQ (j9 (dm 4))) (kP (l9 (eN (pW (eN (iO 6) (eN (iO 7) (eN (iO 8) (eN (iO 9) (eN (iO 10) gX)))))) gX)))) (jO (dm 1) (j9 (dA jd (dm 4) (dC (D.int 1)))) jQ))) ke (CS J ar e x I i j g'):=λg' ar Vo RM=>by refine⟨_,cE bW e _ _,?_⟩;refine⟨by rw[mn];change _+1<=sizeLine;omega,_,dX bW _ g',?_⟩;refine⟨_,cE bW e _ _,?_⟩;refine⟨by rw[mn,mn,wy];change _+1+_<=sizeLine;omega,_,gG bW _ _,?_⟩;show⟨_,S,q _ ar ⟨by rw[wy,wy];change _+1+_<=_;omega,VS am Vo am⟩ RM⟩
 refine⟨_,he,S,λρ=>ρ=CS J z e x I i j g,⟨λ_=>?_,λ_=>rfl⟩,?_⟩
 ·refine⟨⟨_,_,S⟩,_,S,S,_,_,64,_,S,N,(),'b',cu 'b',λu ar u0 u1 RM=>?_⟩;rfl';refine⟨⟨_,_,S⟩,⟨'b','b','b'⟩,_,S,S,_,_,_,_,S,RM,(),'b',cu 'b',λv o5 v0 v1 VP=>?_⟩;rfl';have v1:v<1000000000:=v1;refine⟨jX 'b' 'b',?_⟩;show put ⟨g.kd,g.ws,g.ns,g.sd,1+u+100*v⟩ o5 ⟨p.kd,p.wl,p.wn,p.nn,p.sd,by change 0<=1+u+100*v/\1+u+100*v<1099511627776;omega⟩ (VP.mono ())
 rintro ρ rfl;refine⟨λρ=>ρ=CS J z e x I i j g,⟨λ_=>?_,λ_=>rfl⟩,?_⟩
 ·refine⟨_,cE bW e _ _,_,he,?_⟩;refine⟨by rw[mn];change _+1<=sizeLine;omega,_,dX bW _ g,?_⟩;refine⟨_,cE bW e _ _,?_⟩;refine⟨by rw[mn,mn,wy];change _+1+_<=sizeLine;omega,_,gG bW _ _,?_⟩;show⟨_,S,q _ z ⟨by rw[wy,wy];change _+1+_<=_;omega,VS am p am⟩ (N.mono ())⟩
 rintro ρ rfl;refine⟨λρ=>ρ=CS J z e x I i j g,⟨λ_=>?_,λ_=>rfl⟩,?_⟩
 ·refine⟨_,S,?_⟩;rfl';let⟨B,X1,Wz⟩:=rm t0 t1;refine⟨_,Wz,?_⟩;rfl';refine⟨i,nF (by rw[mn];omega),(e.set i B).map bW,Nq.symm,?_⟩;refine⟨j,nF (by rw[mn,Ki];omega),((e.set i B).set j g).map bW,Nq.symm,?_⟩;refine⟨_,S,q _ z ⟨by rw[Ki,Ki];omega,λy l=>?_⟩ (N.mono ())⟩;rcases MO l with l|rfl
  ·rcases MO l with l|rfl
   ·show C.2 y l
   ·show C.2 _ X1
  ·show p
 rintro ρ rfl;refine⟨λρ=>ρ=CS J z e x I i j g,⟨λ_=>?_,λ_=>rfl⟩,?_⟩
 ·refine⟨_,cE bW e _ _,_,cE bW e _ _,?_⟩;refine⟨by rw[mn,mn];omega,_,gG bW _ _,?_⟩;refine⟨_,S,q _ z ⟨by rw[wy];omega,λy l=>?_⟩ (N.mono ())⟩;rcases Kj.mp l with l|l<;>show am y l
 rintro ρ rfl;refine⟨λρ=>ρ=CS J z e x I i j g,⟨λ_=>?_,λ_=>rfl⟩,?_⟩
 ·refine⟨_,he,?_⟩;refine⟨by rw[mn];change _+1<=sizeLine;omega,_,dX bW e g,?_⟩;show⟨_,S,q _ z ⟨by rw[wy];change _+1<=_;omega,iX C.2 p⟩ (N.mono ())⟩
 rintro ρ rfl;refine⟨λρ=>∃ws:Y Str,ρ=CS J z e x I i j ⟨g.kd,ws,g.ns,g.sd,g.sp⟩/\GnOk ⟨g.kd,ws,g.ns,g.sd,g.sp⟩,?_,?_⟩
 ·have mk:∀ws:Y Str,(g.kd="unknown"->1<=ws.length)->ws.length<=4->(∀w∈ws,bf w=ų)->GnOk ⟨g.kd,ws,g.ns,g.sd,g.sp⟩:=λws h1 h4 t=>⟨p.kd.elim (λh=>.inl ⟨h.1,h1 h.1,h.2.2⟩) .inr,h4,t,p.nn,p.sd,p.sp⟩;let⟨B,X1,Wz⟩:=rm t0 t1;have VT:=C.2 B X1;have jl:=VT.wl;have gl:=p.wl;have one:(aT (B.ws++[x]) ű (Z 1)).length=1:=(Dj (B.ws++[x]) 1).trans (by rw[wy];change min 1 (_+1)=1;omega);have aw:_/\_/\_:=⟨(show B.ws.length+1<=sizeLine by omega),mk _ (λ_=>Mh one.symm) (by rw[one];omega) λw t=>iX VT.wn hx w (j5 t),trivial⟩;have c1:(aT g.ws ű (Z 1)).length<=1:=kU g.ws 1;have c2:(aT g.ws ű (Z 2)).length<=2:=kU g.ws 2;have T:∀{a b:Ų Int},∀w∈aT g.ws a b,bf w=ų:=λw t=>p.wn w (j5 t);refine⟨λ_=>⟨λ_=>?_,λc=>(by cases c)⟩,λVs=>⟨λ_=>?_,λO=>?_⟩⟩
  ·refine⟨_,Wz,_,S,⟨by rw[mn];show aw.1,_,dX D.str B.ws x,?_⟩⟩;show⟨_,cE D.str _ _ _,_,S,aw.2.1⟩
  ·refine⟨_,Wz,_,S,⟨by rw[mn];show aw.1,_,dX D.str B.ws x,?_⟩⟩;show⟨_,cE D.str _ _ _,_,S,aw.2.1⟩
  ·have nk:g.kd="unknown"->∀n:Nat,1<=n:=λh=>by rw[h]at Vs;show absurd Vs 'b'
   have O:=O;rw[mn]at O
   have gl3:g.ws.length<=3:=by have:=Ke O;omega
   have wa:∀w∈aT g.ws ű (Z 2)++[x]++aT g.ws ű (Z 1),bf w=ų:=λw t=>(Kj.mp t).elim (iX T hx w) (T w);have wb:∀w∈aT g.ws ű (Z 2)++aT g.ws ű (Z 1)++[x],bf w=ų:=iX (λw t=>(Kj.mp t).elim (T w) (T w)) hx;refine⟨λ_=>?_,λ_=>?_⟩
   ·refine⟨_,cE D.str g.ws _ _,by rw[mn];change _+1<=sizeLine;omega,_,dX D.str _ x,?_⟩;refine⟨_,cE D.str g.ws _ _,by rw[mn,mn,wy];change _+1+_<=sizeLine;omega,_,gG D.str _ _,?_⟩;refine⟨_,cE D.str g.ws _ _,_,cE D.str g.ws _ _,by rw[mn,mn];omega,_,gG D.str _ _,?_⟩;refine⟨by rw[mn,wy];change _+_+1<=sizeLine;omega,_,dX D.str _ x,?_⟩;refine⟨by change (0:Int)<2;decide,?_⟩
    have M:(i:Int) % 2=0\/(i:Int) % 2=1:=by omega
    rcases M with M|M
    ·show⟨_,KG (bT _) M,_,S,mk _ (λh=>nk h _) (by rw[wy,wy];change _+1+_<=4;omega) wa⟩
    ·show⟨_,KG (bT _) M,_,S,mk _ (λh=>nk h _) (by rw[wy,wy];change _+_+1<=4;omega) wb⟩
   ·refine⟨_,cE D.str g.ws _ _,by rw[mn,mn];omega,_,gG D.str _ _,?_⟩;show⟨_,S,mk _ (λh=>nk h _) (by rw[wy];omega) λw t=>(Kj.mp t).elim (p.wn w) (T w)⟩
 rintro ρ ⟨ws,rfl,Vo⟩;show put _ z Vo (N.mono ())
open Tx
theorem GR{x:Str}(h:bf x=ų):x.length<=12:=by unfold bf at h;rw[Kc,Kc,Kt,Kt]at h;show h.1.2
theorem big{z:Int}(h:fY z):z.natAbs<2^1900:=Ks (show z.natAbs<2^20 by unfold fY at h;omega) (Nat.pow_le_pow_right 'b' 'b')
theorem n0{s:Str}{a:Y Str}(B:Nat)(c:∀z∈a,z.length<=B)(e:a.length*B+a.length*s.length<=16777216):ŕ s a=ų:=by unfold ŕ;rw[PySem.StrLaws.joinFits (B:=B) c e];rfl
noncomputable def As(n:Nat)(x:Str):Prop:=(∀c∈L x,c<128)/\x.length<=n
section
variable{n m k:Nat}{x y s:Str}
theorem As.asc(h:As n x)(e:n<=100000):asc x:=⟨by rw[←MH,Kf];show λc a=>Kw (h.1 c a),by have:=h.2;omega⟩
theorem As.wid(h:As n x)(a:n<=m):As m x:=⟨h.1,J6 h.2 a⟩
theorem As.app(h:As m x)(k:As n y):As (m+n) (x++y):=⟨λc a=>by rw[dO]at a;show (Kj.mp a).elim (h.1 c) (k.1 c),by rw[iS];show Mg h.2 k.2⟩
theorem As.six(h:As n x)(a:n<=1000000:=by decide):x.length<=1000000:=J6 h.2 a
theorem As.nm(h:bf x=ų):As 12 x:=⟨λc a=>by have:=(GQ h c a).2;omega,GR h⟩
theorem As.num{z:Int}(h:fY z):As 5 (nstr z):=⟨λc a=>by have:=ER z c a;omega,yM h⟩
theorem As.lit(h:((L x).all (λc=>decide (c<128))&&decide (x.length<=n))=ų:=by lia):As n x:=by rw[Kc,Kt,Kf]at h;show⟨λc a=>J8 (h.1 c a),h.2⟩
theorem As.join(a:As k s):∀{xs:Y Str},(∀x∈xs,As n x)->As (xs.length*(n+k)) (Str.join s xs)
 | [],_=>⟨λc g=>absurd (show c∈([]:Y Nat)from g) KJ,K1 _⟩
 | [x],h=>(h x JY).wid (by change n<=1*(n+k);omega)
 |x::y::r,h=>by
  have l:=As.join a (xs:=y::r) λz j=>h z (JZ _ j);have e:Str.join s (x::y::r)=x++(s++Str.join s (y::r)):=dR (by rw[fN,dO,dO]);rw[e];show ((h x JY).app (a.app l)).wid (by simp only[J1];rw[Oa (r.length+1)];omega)
end
theorem xM{a c e:Type}(f:a×c->e):∀(xs:Y a)(ys:Y c)(h:e->D),List.zipWith (λx y=>h (f (x,y))) xs ys=((xs.zip ys).map f).map h
 | [],_,_=>rfl
 |_::_,[],_=>rfl
 |x::xs,y::ys,h=>KG (h (f (x,y))::·) (xM f xs ys h)
inductive z__law_plain(ds:List D)(R:D->Prop):Prop|mk (g:Gn) (_:ds=[bW g]) (_:GnOk g) (_:∀t:Str,As 130 t->R (.str t))
theorem Er(F:Fun K "_law_plain" "_law_plain" lJ f G)(M:mg "len"=ű)(sr:mg "zip"=ű):FnOk P w K mg base bt (n+1) f G ["_law_line"] (lSpM K (zM z__law_plain)):=by
 refine F.okM qam (λas R U h=>?_) (λO1 A outer s H E as R U qs O0 I h T=>?_)
 ·let⟨_,rfl,g,rfl,_⟩:=h;rfl
 let⟨_,rfl,g,rfl,e,q⟩:=h;obtain rfl:=cI T
 refine⟨_,(aG (qN (ag (dv 0)) (iy (n:=5) S (cX (bY (i:=1) qam.nd S X9) (cX (bY (i:=2) qam.nd S X9) (cX (bY (i:=3) qam.nd S X9) (cX (bY (i:=4) qam.nd S X9) (cX (bY (i:=5) qam.nd S X9) iQ)))))))
   (aK (aJ (aM (aD (aX I.units) (aa 1) (PD.q aq) (aC _))) (aG (aF (i:=6) qam.nd S X9 (ag (lh (fb iH (fb (fQ (aS (aa 2))) (fb iH (kZ (fQ (aS (aa 3))))))))))
   (aK (aJ (aM (aD da (PD.q (bz bF S M J7 (aV (aa 3) aW ae) ae ao)) (PD.q ah) (aC _))) (ak (aF (i:=6) qam.nd S X9 (ag (lh (fb (fQ (dv 6)) (fb iH (kZ (fQ (aS (aa 3)))))))))) aN)
   (ak (aL (ag (dv 6)))))) aN)
   (aG (aF (i:=6) qam.nd S X9 (ag (iA (PD.q aq) (PF.d (ic (k:=2) (N':=["_law_number_here","_law_word_here"]) (cap:=[ű,ű]) S (.ok (show fK ["_law_line","_law_kind","_law_words","_law_numbers","_law_side","_law_spoil","_law_text"] (aQ lJ) _ ["_law_number_here","_law_word_here"] [ű,ű]=ų by lia)) 'a' (Cr (n:=2) (um (gI 'b') (um (gI 'b') zb))) (A2 S sr (af (dv 3) (af (dv 2) av ae) ae)) (λ_ _ _ _ _=>(zk (n:=2) S (yk (gC (i:=0) (show List.Nodup (["_law_number_here","_law_word_here"]:Y Str)by lia) S X9) (yk (gC (i:=1) (show List.Nodup (["_law_number_here","_law_word_here"]:Y Str)by lia) S X9) Dy)))) (λ_ _ _ _ _=>(lh (fb (fQ (dv 0)) (fb iH (kZ (fQ (dv 1))))))))) (bZ dG) dG)))
   (aK (aJ (aM (aD (aX I.units) (PD.q (bz bF S M J7 (aV (aa 2) aW ae) ae ao)) (PD.q ah) (aC _))) (ak (aF (i:=6) qam.nd S X9 (ag aq))) aN)
   (aK (aJ (aM (aD (aX I.units) (aa 1) (PD.q aq) (aC _))) (ak (aL (ag (lh (fb iH (fb (fQ (dv 6)) (fb iH (fb (fQ (dv 4)) (fb iH (kZ (fQ (aS (aa 3))))))))))))) aN)
   (ak (aL (ag (lh (fb (fQ (dv 4)) (fb iH (kZ (fQ (dv 6)))))))))))))),?_⟩
 intro ke;have nn:=e.nn
 have sd:As 5 g.sd:=by rcases e.sd with h|h|h<;>rw[h]<;>show .lit
 refine⟨S,λρ=>(g.kd="row"\/g.kd="worth")/\g.ns.length=4/\ρ=[Z (.v (bW g)),Z (.v (.str g.kd)),Z (.v (.lst (g.ws.map D.str))),Z (.v (.lst (g.ns.map D.int))),Z (.v (.str g.sd)),Z (.v (.int g.sp)),ű],⟨λh=>?_,λh=>?_⟩,?_⟩
 ·have hu:g.kd="unknown":=eq_of_beq h
  let⟨_,hw1,hn1⟩:=e.kd.resolve_right λh=>by rcases h.1 with h|h<;>rw[hu]at h<;>show absurd h 'b'
  let⟨w,J,ar⟩:=gS (ns:=g.ws) (k:=0) 'b' ();let⟨z,j,ez⟩:=jP (ns:=g.ns) (k:=0) 'b' ();have l:=As.nm (e.wn w J);have u:=As.num (nn z j)
  have o:("unknown ":Str).length<=1000000:=by decide
  have B:(" from ":Str).length<=1000000:=by decide
  have C:(" to ":Str).length<=1000000:=by decide
  have v:=(As.lit (n:=8) (x:="unknown ")).app (l.app ((As.lit (n:=6) (x:=" from ")).app u));refine⟨o,_,ar,l.six,l.six,B,_,ez,big (nn z j),u.six,?_⟩;refine⟨λρ=>∃t:Str,As 60 t/\ρ=[Z (.v (bW g)),Z (.v (.str g.kd)),Z (.v (.lst (g.ws.map D.str))),Z (.v (.lst (g.ns.map D.int))),Z (.v (.str g.sd)),Z (.v (.int g.sp)),Z (.v (.str t))],⟨λa=>?_,λ_=>⟨_,v.wid 'b',S⟩⟩,?_⟩
  ·have a:=dP a;rw[mn]at a;let⟨y,O,aw⟩:=jP (ns:=g.ns) (k:=1) 'b' a;have N:=As.num (nn y O);show⟨v.six,v.six,C,_,aw,big (nn y O),N.six,_,(v.app ((As.lit (n:=4) (x:=" to ")).app N)).wid 'b',S⟩
  rintro ρ ⟨t,c,rfl⟩;show q t (c.wid 'b')
 ·show⟨e.kd.elim (λa=>by rw[a.1]at h;show absurd h 'b') (·.1),e.kd.elim (λa=>by rw[a.1]at h;show absurd h 'b') (·.2),S⟩
 rintro ρ ⟨hk,hl,rfl⟩;let⟨Q,r,X⟩:=jP (ns:=g.ns) (k:=3) 'b' ();have a3:=As.num (nn Q r);have wl:=e.wl
 have o:(" ":Str).length<=1000000:=by decide
 refine⟨_,S,_,_,S,S,?_⟩;refine HR (λ(z:Int)(w:Str)=>D.str (nstr z++(" "++w))) (ed ()) (λz j w J=>?_) ?_
 ·have u:=As.num (nn z j);have l:=As.nm (e.wn w J);show⟨S,big (nn z j),u.six,o,l.six,l.six,S⟩
 have zl:(g.ns.zip g.ws).length<=4:=by rw[List.length_zip];omega
 have am:∀t∈(g.ns.zip g.ws).map λp=>nstr p.1++(" "++p.2),As 18 t:=λt c=>by let⟨p,hp,rfl⟩:=Lb.mp c;let⟨h1,a⟩:=Ms (show (p.1,p.2)∈g.ns.zip g.ws from hp);show (As.num (nn _ h1)).app ((As.lit (n:=1) (x:=" ")).app (As.nm (e.wn _ a)))
 have jt:As 84 (å " + " ((g.ns.zip g.ws).map λp=>nstr p.1++(" "++p.2))):=by rw[show å " + " ((g.ns.zip g.ws).map λp=>nstr p.1++(" "++p.2))=Str.join " + " _ from Ll _ _];refine (As.join (As.lit (n:=3) (x:=" + ")) am).wid ?_;rw[mn];omega
 refine⟨(g.ns.zip g.ws).map λp=>nstr p.1++(" "++p.2),KG D.lst (xM (λp:Int×Str=>nstr p.1++(" "++p.2)) _ _ D.str),n0 18 (λz j=>(am z j).2) (by rw[mn];change _+_*3<=_;omega),?_⟩;refine⟨λρ=>∃t:Str,As 84 t/\ρ=[Z (.v (bW g)),Z (.v (.str g.kd)),Z (.v (.lst (g.ws.map D.str))),Z (.v (.lst (g.ns.map D.int))),Z (.v (.str g.sd)),Z (.v (.int g.sp)),Z (.v (.str t))],⟨λ_=>⟨_,As.lit,S⟩,λ_=>⟨_,jt,S⟩⟩,?_⟩;rintro ρ ⟨t,c,rfl⟩
 have B:("row ":Str).length<=1000000:=by decide
 have C:(" at ":Str).length<=1000000:=by decide
 have s1:=sd.app ((As.lit (n:=1) (x:=" ")).app c);have s2:=(As.lit (n:=4) (x:="row ")).app (c.app ((As.lit (n:=4) (x:=" at ")).app (sd.app ((As.lit (n:=1) (x:=" ")).app a3))));refine⟨λρ=>ρ=[Z (.v (bW g)),Z (.v (.str g.kd)),Z (.v (.lst (g.ws.map D.str))),Z (.v (.lst (g.ns.map D.int))),Z (.v (.str g.sd)),Z (.v (.int g.sp)),Z (.v (.str t))],⟨λ_=>?_,λ_=>rfl⟩,?_⟩
 ·show⟨B,c.six,c.six,C,sd.six,sd.six,o,_,X,big (nn Q r),a3.six,q _ (s2.wid 'b')⟩
 rintro ρ rfl;show⟨sd.six,sd.six,o,c.six,c.six,q _ (s1.wid 'b')⟩
open Tx
noncomputable def wt(ws:Y Str):Nat:=(ws.map λw=>w.length+1).sum
noncomputable def Ws(n:Nat)(ws:Y Str):Prop:=(∀w∈ws,∀c∈L w,c<128)/\wt ws<=n
theorem je(a b:Y Str):wt (a++b)=wt a+wt b:=by unfold wt;rw[KU,List.sum_append]
theorem Fc(ws:Y Str)(a b:Ų Int):wt (aT ws a b)<=wt ws:=by
 have c:∀(l:Y Str)(k:Nat),wt (l.take k)<=wt l/\wt (l.drop k)<=wt l:=λl k=>by have e:=je (l.take k) (l.drop k);rw[MB]at e;omega
 unfold aT;show J6 (c _ _).1 (c _ _).2
theorem gb:∀ws:Y Str,ws.length<=wt ws
 | []=>K1 _
 |w::ws=>by have:=gb ws;change ws.length+1<=w.length+1+wt ws;omega
theorem uM:∀{ws:Y Str}{w:Str},w∈ws->w.length<=wt ws
 |x::ws,w,h=>by
  change w.length<=x.length+1+wt ws;rcases J9.mp h with rfl|h
  ·omega
  ·have:=uM h;omega
theorem p7{s:Str}(a:s.length=1):∀{ws:Y Str},ws≠[]->(Str.join s ws).length+1=wt ws
 | [w],_=>rfl
 |x::y::r,_=>by
  have c:=p7 a (ws:=y::r) (by simp);have e:Str.join s (x::y::r)=x++(s++Str.join s (y::r)):=dR (by rw[fN,dO,dO]);rw[e,iS,iS,a];change _=x.length+1+wt (y::r);omega
section
variable{n m:Nat}{ws vs:Y Str}{x:Str}
theorem Ws.cut(h:Ws n ws)(a b:Ų Int):Ws n (aT ws a b):=⟨λw c=>h.1 w (j5 c),J6 (Fc ws a b) h.2⟩
theorem Ws.app(h:Ws n ws)(k:Ws m vs):Ws (n+m) (ws++vs):=⟨λw a=>(Kj.mp a).elim (h.1 w) (k.1 w),by rw[je];show Mg h.2 k.2⟩
theorem Ws.one(h:As n x):Ws (n+1) [x]:=⟨λw a=>by rw[J3.mp a];show h.1,by change x.length+1+0<=n+1;have:=h.2;omega⟩
theorem Ws.wid(h:Ws n ws)(k:n<=m):Ws m ws:=⟨h.1,J6 h.2 k⟩
theorem Ws.mem(h:Ws n ws)(a:x∈ws):As n x:=⟨h.1 x a,J6 (uM a) h.2⟩
theorem Ws.join(h:Ws n ws):As n (Str.join " " ws):=by
 rcases OM ws with e|⟨_,_,e⟩
 ·rw[e];show⟨λc a=>absurd (show c∈([]:Y Nat)from a) KJ,K1 _⟩
 ·have g:ws≠[]:=by rw[e];simp
  refine⟨λc a=>?_,by have:=p7 (s:=" ") 'b' g;have:=h.2;omega⟩;rcases pM a with a|⟨w,j,a⟩
  ·have:c∈([32]:Y Nat):=a;rw[J3.mp this];decide
  ·show h.1 w j c a
theorem Ws.split(h:As n x):Ws (n+1) (Ì x " ")/\Ì x " "≠[]:=by
 have e:=Mo x " ";have a:Ì x " "≠[]:=N3 (L4 x " ");refine⟨⟨λw j c g=>h.1 c ?_,by have:=p7 (s:=" ") 'b' a;rw[e]at this;have:=h.2;omega⟩,a⟩;have:=ll (s:=" ") j g;rw[e]at this;show this
end
noncomputable def OA:Y Str:=["most","least"]
noncomputable def OB:Y Str:=["from"]
noncomputable def OC:Y Str:=["to"]
noncomputable def OD:Y Str:=["at"]
noncomputable def OS:Y Str:=["from","to","at","least","most"]
theorem Jl:∀o∈OS,As 5 o:=λo a=>by simp only[OS,J9,KJ,Ml]at a;rcases a with rfl|rfl|rfl|rfl|rfl<;>show .lit
inductive z__law_out_of_form(ds:List D)(R:D->Prop):Prop|mk (ws:List Str) (sp:Int) (_:ds=[.lst (ws.map D.str),.int sp]) (_:Ws 140 ws) (_:ws≠[]) (_:31<=sp) (_:sp<=38) (_:∀vs:List Str,Ws 300 vs->R (.lst (vs.map D.str)))
theorem E7(F:Fun K "_law_out_of_form" "_law_out_of_form" oy f G)(y:mg "len"=ű)(z:mg "int"=ű):FnOk P w K mg base bt (n+1) f G ["_law_words","_law_spoil"] (lSpM K (zM z__law_out_of_form)):=by
 refine F.okM qal (λas R am h=>?_) (λO1 A outer s H E as R am qs aw r h N=>?_)
 ·let⟨_,rfl,ws,sp,rfl,_⟩:=h;rfl
 let⟨_,rfl,ws,sp,rfl,t,O,U,X,q⟩:=h;obtain rfl:=cI N
 refine⟨_,(aK (aJ (aM (PWD.td (cQ (aD (aX r.units) (aa 1) (PD.q ah) (aC _)) (ee (aD (aX r.units) (aa 1) (PD.q ah) (aC _)))))) (aG (aF (i:=2) qal.nd S X9 (ag (aE fJ (PD.q (bz bF S y J7 (aV (aa 0) aW ae) ae ao)) (PD.q ah))))
   (aK (aJ (aM (aD (aX r.units) (aa 1) (PD.q ah) (aC _))) (ak (aF (i:=2) qal.nd S X9 (ag ah))) aN)
   (aK (aJ (aM (aD gu (PD.q (aS (aa 0))) (PD.q (bB (af aq (af aq av aj) aj))) (by with_unfolding_all rfl))) (ak (aF (i:=2) qal.nd S X9 (ag ah))) aN)
   (ak (aL (ag (bH (aa 0) bO (bD (aa 2))))))))) aN)
   (aK (aJ (aM (aD (aX r.units) (aa 1) (PD.q ah) (aC _))) (aG (aF (i:=3) qal.nd S X9 (ag (aE aY (PD.q ah) (PD.q (df gp S z KY (aV (PD.q (c8 (aX r.units) (PD.q (aS (aa 0))) (PD.q aq) (aC _))) aW dF) dF ao)))))
   (ak (aL (ag (aE aY (PD.q (bH (aa 0) bO (bD (aa 3)))) (PD.q (bH (aa 0) (bD (PD.q (aE aY (aa 3) (PD.q ah)))) bO))))))) aN)
   (aG (aF (i:=3) qal.nd S X9 (ag ah))
   (aG (aF (i:=4) qal.nd S X9 (ag (bB (af aq (af aq av aj) aj))))
   (aK (aJ (aM (aD (aX r.units) (PD.q (aS (aa 0))) (PD.q aq) (aC _))) (aG (aF (i:=3) qal.nd S X9 (ag (aE aY (PD.q ah) (PD.q (aE fu (PD.q ah) (PD.q (df gp S z KY (aV (PD.q (iY (c8 (aX r.units) (PD.q (bz bF S y J7 (aV (aa 0) aW ae) ae ao)) (PD.q ah) (aC _)) (jY (c8 da (aa 1) (PD.q ah) (aC _))))) aW xb) xb ao)))))))
   (ak (aF (i:=4) qal.nd S X9 (ag (bH (PD.q (bB (af aq (af aq av aj) aj))) (bD (PD.q (aE fJ (PD.q (aE iW (aa 3) (PD.q ah))) (PD.q ah)))) (bD (PD.q (aE iW (aa 3) (PD.q ah))))))))) (ak (aJ (aM (aD (aX r.units) (PD.q (aS (aa 0))) (PD.q aq) (aC _))) (aG (aF (i:=3) qal.nd S X9 (ag (aE aY (PD.q (aE fJ (PD.q (bz bF S y J7 (aV (aa 0) aW ae) ae ao)) (PD.q ah))) (PD.q (aE cF (aa 1) (PD.q ah))))))
   (ak (aF (i:=4) qal.nd S X9 (ag (bV (PD.q (bB (af (bB (af aq av aj)) (af (dv 4) av ae) dY))) (PD.q (aE cF (aa 1) (PD.q ah))) (λ_ _=>rfl)))))) aN)))
   (aG (aF (i:=5) qal.nd S X9 (ag (bV (PD.q (bB (af aq (af aq (af aq (af aq (af aq av aj) aj) aj) aj) aj))) (PD.q (aE fJ (aa 1) (PD.q ah))) (λ_ _=>rfl))))
   (aK (aJ (aM (aD gu (aa 5) (aa 4) (by with_unfolding_all rfl))) (ak (aF (i:=5) qal.nd S X9 (ag (bV (PD.q (bB (af aq (af aq av aj) aj))) (PD.q (df gp S z KY (aV (PD.q (c8 gu (PD.q aq) (aa 4) (by with_unfolding_all rfl))) aW dF) dF ao)) (λ_ _=>rfl))))) aN)
   (ak (aL (ag (aE aY (PD.q (aE aY (PD.q (bH (aa 0) bO (bD (aa 3)))) (PD.q (PF.d (bQ (af (dv 5) av ae)))))) (PD.q (bH (aa 0) (bD (PD.q (aE aY (aa 3) (PD.q ah)))) bO))))))))))))),?_⟩
 intro C;have B:=J6 (gb ws) t.2;let⟨M,ar,x⟩:=gS (ns:=ws) (k:=0) 'b' (by have:=Nw.mpr O;omega);have hs:=KP;have len:∀(a b:Ų Int),(aT ws a b).length<=140:=λa b=>J6 (gb _) (t.cut a b).2
 have put:∀(p:Int)(o:Str)(I J:Ų Sm),As 5 o->kF (xD (dA jd (dA jd (jO (dm 0) jQ (j9 (dm 3))) (kP (l9 (eN (iO 5) gX)))) (jO (dm 0) (j9 (dA jd (dm 3) (dC (D.int 1)))) jQ))) C [Z (.v (.lst (ws.map D.str))),Z (.v (.int sp)),I,Z (.v (.int p)),J,Z (.v (.str o))]:=λp o I J v=>by
  refine⟨_,cE D.str ws _ _,by rw[mn];have:=len ű (Z p);change _+1<=sizeLine;omega,_,dX D.str _ o,?_⟩;refine⟨_,cE D.str ws _ _,by rw[mn,mn,wy];have:=len ű (Z p);have:=len (Z (p+1)) ű;change _+1+_<=sizeLine;omega,_,gG D.str _ _,?_⟩;show q _ ((((t.cut ű (Z p)).app (Ws.one v)).app (t.cut (Z (p+1)) ű)).wid 'b')
 refine⟨λρ=>(sp≠31/\sp≠33)/\ρ=[Z (.v (.lst (ws.map D.str))),Z (.v (.int sp)),ű,ű,ű,ű],?_,?_⟩
 ·have A:uo (jI 2 (xD (dA (i7 λi j=>D.int (i-j)) (kQ uD (eN (dm 0) gX)) (dC (D.int 1))))) (mCut (lR (xB (kj (dA i5 (dm 1) (dC (D.int 33))))) (jI 2 (xD (dC (D.int 2)))) rV) (mCut (lR (xB (kj (dA (p8 Ŵ) (dA l8 (dm 0) (dC (D.int 0))) (pW (eN (dC (D.str "most")) (eN (dC (D.str "least")) gX)))))) (jI 2 (xD (dC (D.int 1)))) rV) (kF (xD (jO (dm 0) jQ (j9 (dm 2))))))) { nx:=λρ=>(sp≠31/\sp≠33)/\ρ=[Z (.v (.lst (ws.map D.str))),Z (.v (.int sp)),ű,ű,ű,ű],rt:=C.rt } [Z (.v (.lst (ws.map D.str))),Z (.v (.int sp)),ű,ű,ű,ű]:=by refine⟨λρ=>∃m:Int,ρ=[Z (.v (.lst (ws.map D.str))),Z (.v (.int sp)),Z (.v (.int m)),ű,ű,ű],⟨λ_=>⟨_,S⟩,λ_=>⟨_,S⟩⟩,?_⟩;rintro ρ ⟨m,rfl⟩;refine⟨λρ=>∃m:Int,ρ=[Z (.v (.lst (ws.map D.str))),Z (.v (.int sp)),Z (.v (.int m)),ű,ű,ű],⟨_,x,.inr M,[.inr "most",.inr "least"],S,S,λ_=>⟨_,S⟩,λ_=>⟨_,S⟩⟩,?_⟩;rintro ρ ⟨m,rfl⟩;show⟨_,cE D.str ws _ _,q _ ((t.cut ű (Z m)).wid 'b')⟩
  show⟨λ_=>⟨λ_=>A,λc=>(by cases c)⟩,λu=>⟨λ_=>A,λg=>⟨⟨λe=>(by rw[e]at u;cases u),λe=>(by rw[e]at g;cases g)⟩,S⟩⟩⟩
 rintro ρ ⟨⟨n1,n3⟩,rfl⟩;refine⟨λρ=>sp≠32/\ρ=[Z (.v (.lst (ws.map D.str))),Z (.v (.int sp)),ű,ű,ű,ű],⟨λ_=>?_,λu=>⟨λe=>(by rw[e]at u;cases u),S⟩⟩,?_⟩
 ·refine⟨_,x,_,cE D.str ws _ _,_,cE D.str ws _ _,?_⟩;generalize (1:Int)+(if (M==("unknown":Str))=ų then 1 else 0)=p;refine⟨by rw[mn,mn];have:=len ű (Z p);have:=len (Z (p+1)) ű;omega,_,gG D.str _ _,?_⟩;show q _ (((t.cut ű (Z p)).app (t.cut (Z (p+1)) ű)).wid 'b')
 rintro ρ ⟨n2,rfl⟩;refine⟨λρ=>∃(p:Int)(l:Y Str),(l=OA\/l=OB\/l=OC\/l=OD)/\ρ=[Z (.v (.lst (ws.map D.str))),Z (.v (.int sp)),ű,Z (.v (.int p)),Z (.v (.tup (l.map D.str))),ű],?_,?_⟩
 ·refine⟨_,x,λ_=>?_,λ_=>⟨_,x,λ_=>?_,λ_=>⟨0,_,.inl S,S⟩⟩⟩
  ·refine lU (λQ h=>h) (λ_ Q h=>h) ?_;generalize ((((ws.map D.str).length:Nat):Int)==6&&decide ((35:Int)<sp))=b
   cases b with
   |false=>show⟨jX 'b' 'b',.of 'b' (cu 'b'),.of 'b' (cu 'b'),[.str "from"],S,2,OB,.inr (.inl S),S⟩
   |true=>show⟨jX 'b' 'b',.of 'b' (cu 'b'),.of 'b' (cu 'b'),[.str "to"],S,4,OC,.inr (.inr (.inl S)),S⟩
  ·have g:sp % 2=0\/sp % 2=1:=by omega
   refine⟨by change (0:Int)<2;decide,by change (0:Int)<2;decide,?_⟩;rcases g with g|g
   ·show⟨_,KG (bT _) g,_,OD,.inr (.inr (.inr S)),S⟩
   ·show⟨_,KG (bT _) g,_,OA,.inl S,S⟩
 rintro ρ ⟨p,l,hl,rfl⟩;let⟨o,v,T⟩:=gS (ns:=OS) (k:=sp-34) () (by change sp-34<5;omega);refine⟨_,T,?_⟩;refine⟨λρ=>∃o:Str,As 5 o/\ρ=[Z (.v (.lst (ws.map D.str))),Z (.v (.int sp)),ű,Z (.v (.int p)),Z (.v (.tup (l.map D.str))),Z (.v (.str o))],⟨.inr o,l.map .inr,S,(by change Z (l.map D.str)=Z ((l.map Ó).map gh);rw[L9];rfl),λ_=>?_,λ_=>⟨_,Jl o v,S⟩⟩,?_⟩
 ·refine⟨.inr "at",l.map .inr,S,(by change Z (l.map D.str)=Z ((l.map Ó).map gh);rw[L9];rfl),?_⟩;generalize (Ŵ != gn (.inr ("at":Str)) (l.map .inr))=b
  cases b with
  |false=>show⟨_,S,"at",.lit,S⟩
  |true=>show⟨_,S,"from",.lit,S⟩
 rintro ρ ⟨o,v,rfl⟩;show put p o _ _ v
open Tx
theorem As.cutS{n:Nat}{x:Str}(h:As n x)(a b:Ų Int):As n (cutS x a b):=by
 have e:L (L2.cutS x a b)=aT (L x) a b:=rfl;refine⟨λc g=>h.1 c (j5 (by rw[←e];show g)),?_⟩;rw[←ef,e];have:=h.2;rw[←ef]at this;unfold aT;rw[Kq,Kr];omega
theorem As.rep{x:Str}(h:As 1 x)(b:Bool):As 1 (di x (Int.toNat (if b=ų then 1 else 0))):=by
 cases b with
 |false=>show⟨λc a=>absurd (show c∈([]:Y Nat)from a) KJ,K1 _⟩
 |true=>
  have e:L (di x 1)=L x++[]:=rfl;rw[Ku]at e;rw[show di x (Int.toNat (if ų=ų then 1 else 0))=x from dR e];show h
noncomputable def SM:Y Str:=["12345","-0","07","+5","1a","","-","abcdefghijklm","Ab","at","to","from","least","most","row","unknown","+","0","5","-5","x","minus"]
theorem BK:∀w∈SM,As 139 w:=λw a=>by
 have h:(SM.all λw=>(L w).all (λc=>decide (c<128))&&decide (w.length<=139))=ų:=by lia
 show As.lit (Kf.mp h w a)
noncomputable def SG:Str:=⟨#[32,10,33,35,36,38,39,40,41,42,43,44,45,46,47,48,49,50,51,52,53,54,55,56,57,58,59,60,61,62,63,64,65,66,67,68,69,70,71,72,73,74,75,76,77,78,79,80,81,82,83,84,85,86,87,88,89,90,91,93,94,95,97,98,99,100,101,102,103,104,105,106,107,108,109,110,111,112,113,114,115,116,117,118,119,120,121,122,123,124,125,126]⟩
theorem yU:As 100 SG:=As.lit
theorem Ws.put{n m:Nat}{ws:Y Str}{y:Str}(h:Ws n ws)(i:Nat)(g:As m y):Ws (n+(m+1)) (ws.set i y):=by
 refine⟨λw e=>?_,?_⟩
 ·rcases MO e with e|rfl
  ·show h.1 w e
  ·show g.1
 ·have c:∀(l:Y Str)(j:Nat),wt (l.set j y)<=wt l+(y.length+1):=λl=>by
   induction l with
   |nil=>intro j;show K1 _
   |cons a l o=>
    intro j
    cases j with
    |zero=>change y.length+1+wt l<=a.length+1+wt l+(y.length+1);omega
    |succ j=>have:=o j;change a.length+1+wt (l.set j y)<=a.length+1+wt l+(y.length+1);omega
  have:=c ws i;have:=h.2;have:=g.2;omega
theorem Ws.ins{n m:Nat}{ws:Y Str}{y:Str}(h:Ws n ws)(i:Nat)(c:As m y):Ws (n+(m+1)) (ws.take i++y::ws.drop i):=by
 have e:=je (ws.take i) (ws.drop i);rw[MB]at e;refine⟨λw a=>?_,?_⟩
 ·rcases Kj.mp a with a|a
  ·show h.1 w (LR a)
  ·rcases J9.mp a with rfl|a
   ·show c.1
   ·show h.1 w (Lq a)
 ·rw[je];change wt (ws.take i)+(y.length+1+wt (ws.drop i))<=_;have:=h.2;have:=c.2;omega
theorem Ws.del{n:Nat}{ws:Y Str}(h:Ws n ws)(i:Nat):Ws n (ws.eraseIdx i):=by
 have e:=je (ws.take i) (ws.drop i);rw[MB]at e;have c:=je ((ws.drop i).take 1) ((ws.drop i).drop 1);rw[MB,List.drop_drop]at c;rw[Mp];refine⟨λw a=>?_,by rw[je];have:=h.2;omega⟩;rcases Kj.mp a with a|a
 ·show h.1 w (LR a)
 ·show h.1 w (Lq a)
noncomputable abbrev AP(x:Str)(c p:Int)(ws:Y Str)(a:Nat)(e:Y Str):ai:=[Z (.v (.str x)),Z (.v (.int c)),Z (.v (.int p)),Z (.own (ws.map D.str)),Z (.v (.int (a:Nat))),Z (.v (.lst (e.map D.str))),ű,ű,ű]
theorem tw{ws:Y Str}{a:Nat}(h:a<ws.length):(ws.map D.str)[a]?=Z (.str ws[a]):=by rw[J4,Km h];rfl
theorem qy{a:Type}(f:a->D):∀(l:Y a)(i:Nat),(l.map f).eraseIdx i=(l.eraseIdx i).map f
 | [],_=>rfl
 |_::_,0=>rfl
 |x::l,i+1=>KG (f x::·) (qy f l i)
theorem sy{a:Type}(f:a->D)(l:Y a)(i:Nat)(y:a):(l.map f).take i++f y::(l.map f).drop i=(l.take i++y::l.drop i).map f:=by rw[KU,Kk,NO,NP]
theorem Bd{w:Str}{k:Int}(e:0<=k)(g:k<w.length):∃c∈L w,bT w.cps.toList k=Z c:=by
 let⟨i,rfl⟩:=Kn e
 have a:i<(L w).length:=by rw[ef];omega
 show⟨(L w)[i],LJ a,mh (Km a) S⟩
theorem FP{z:Str}(a:z.length<=1)(b:Bool):-(2^62)<=(if b=ų then (1:Int) else 0)/\(if b=ų then (1:Int) else 0)<2^62/\z.length*Int.toNat (if b=ų then (1:Int) else 0)<=sizeLine/\z.length<=sizeLine:=by
 have:=KP
 cases b with
 |false=>show⟨'b','b',K1 _,()⟩
 |true=>show⟨'b','b',by change z.length*1<=_;omega,()⟩
inductive z__law_any_place(ds:List D)(R:D->Prop):Prop|mk (x:Str) (way pick:Int) (_:ds=[.str x,.int way,.int pick]) (_:As 139 x) (_:0<=pick) (_:∀t:Str,As 300 t->R (.str t))
theorem Fn(F:Fun K "_law_any_place" "_law_any_place" oN f G)(B:mg "len"=ű)(cy:mg "int"=ű):FnOk P w K mg base bt (n+1) f G ["_law_text","_law_way","_law_pick"] (lSpM K (zM z__law_any_place)):=by
 refine F.okM qac (λas R Rx h=>?_) (λO1 A outer s H E as R Rx qs O0 v h O4=>?_)
 ·let⟨_,rfl,x,g,pick,rfl,_⟩:=h;rfl
 let⟨_,rfl,x,g,pick,rfl,u,ar,q⟩:=h;obtain rfl:=cI O4
 refine⟨_,(aG (aF (i:=3) qac.nd S X9 (eO (jE (aa 0) aq (bZ aj) aj)))
   (aG (aF (i:=4) qac.nd S X9 (ag (aE cF (aa 2) (PD.q (bz bF S B J7 (aV (aa 3) aW ae) ae ao)))))
   (aG (aF (i:=2) qac.nd S X9 (ag (aE iW (aa 2) (PD.q (bz bF S B J7 (aV (aa 3) aW ae) ae ao)))))
   (aG (aF (i:=5) qac.nd S X9 (ag (PF.d (bQ (af aq (af aq (af aq (af aq (af aq (af aq (af aq (af aq (af aq (af aq (af aq (af aq (af aq (af aq (af aq av aj) aj) aj) aj) aj) aj) aj) aj) aj) aj) aj) aj) aj) aj) aj)))))
   (aG (aF (i:=5) qac.nd S X9 (ag (aE aY (aa 5) (PD.q (PF.d (bQ (af aq (af aq (af aq (af aq (af aq (af aq (af aq (af (bV (aa 3) (PD.q (aE cF (aa 2) (PD.q (bz bF S B J7 (aV (aa 3) aW ae) ae ao)))) (λ_ _=>rfl)) av aR) aj) aj) aj) aj) aj) aj) aj)))))))
   (aK (aJ (aM (aD (aX v.units) (aa 1) (PD.q ah) (aC _))) (ak (jw 3 (ag (bV (aa 5) (PD.q (aE cF (PD.q (aE iW (aa 2) (PD.q ah))) (PD.q ah))) (λ_ _=>rfl))) (ag (dv 4)))) aN)
   (aK (aJ (aM (aD (aX v.units) (aa 1) (PD.q ah) (aC _))) (ak (yf 3 (ag (aE aY (aa 4) (PD.q (aE cF (aa 2) (PD.q ah))))) (ag (bV (aa 5) (PD.q (aE cF (PD.q (aE iW (aa 2) (PD.q ah))) (PD.q ah))) (λ_ _=>rfl))) (xt cq aR) cq aR (bC aR ao))) aN)
   (aK (aJ (aM (aD (aX v.units) (aa 1) (PD.q ah) (aC _))) (ak (mF (xk 3 (ag (dv 4)) (bZ ae) ae))) aN)
   (aK (aJ (aM (aD (aX v.units) (aa 1) (PD.q ah) (aC _))) (ak (iM 3 (xk 3 (ag (dv 4)) (bZ ae) ae) (bZ bK) bK)) aN)
   (aK (aJ (aM (aD (aX v.units) (aa 1) (PD.q ah) (aC _))) (ak (yf 3 (ag (dv 4)) (ag (bV (aa 3) (aa 4) (λ_ _=>rfl))) (xt ae aR) ae aR (bC aR ao))) aN)
   (aK (aJ (aM (aD da (aa 1) (PD.q ah) (aC _))) (aG (aF (i:=6) qac.nd S X9 (ag (aE cF (aa 2) (PD.q (aE aY (PD.q (bz bF S B J7 (aV (aa 0) aW ae) ae ao)) (PD.q ah))))))
   (aG (aF (i:=7) qac.nd S X9 (ag aq))
   (aG (aF (i:=7) qac.nd S X9 (ag (aE aY (aa 7) (PD.q aq))))
   (aG (aF (i:=8) qac.nd S X9 (ag (bV (aa 7) (PD.q (aE cF (PD.q (aE iW (aa 2) (PD.q ah))) (PD.q (bz bF S B J7 (aV (aa 7) aW ae) ae ao)))) (λ_ _=>rfl))))
   (ak (aL (ag (aE aY (PD.q (aE aY (PD.q (bH (aa 0) bO (bD (aa 6)))) (PD.q (aE fu (aa 8) (PD.q (df gp S cy KY (aV (PD.q (c8 (fP v.units) (aa 1) (PD.q ah) (aC _))) aW dF) dF ao)))))) (PD.q (bH (aa 0) (bD (PD.q (aE aY (aa 6) (PD.q (df gp S cy KY (aV (PD.q (c8 iP (aa 1) (PD.q ah) (aC _))) aW dF) dF ao))))) bO)))))))))) aN)
   (km 3 (ak (aL (ag (iA (PD.q aq) (dv 3) (bZ ae) ae)))))))))))))))),?_⟩
 intro ke;have hs:=KP;have xl:=u.2;let⟨j,U⟩:=Ws.split u;have TM:=LN x " ";obtain⟨ws,X⟩:∃ws,ws=Ì x " ":=⟨_,S⟩;rw[←X]at j U TM;have hn:0<ws.length:=Nw.mpr U
 have y:(0:Int)<((ws.map D.str).length:Nat):=by rw[mn];omega
 have Q:(((ws.map D.str).length:Nat):Int)<2^9000:=cu (by rw[mn];omega);refine⟨_,S,_,S,'b',(),?_⟩;rw[←X];let⟨a,ha⟩:=Kn (Lj pick (by omega:(((ws.map D.str).length:Nat):Int)≠0));have t:=Lf pick y;rw[ha,mn]at t
 have t:a<ws.length:=by omega
 obtain⟨p,hp⟩:∃p,p=pick/(((ws.map D.str).length:Nat):Int):=⟨_,S⟩
 have ar:0<=p:=by rw[hp];show Np ar ()
 let⟨r,T,ek⟩:=gS (ns:=ws) (k:=p % (((ws.map D.str).length:Nat):Int)) (Lj _ ()) (by have:=Lf p y;rw[mn]at this ⊢;show this);refine⟨y,.of y Q,?_⟩;rfl';rw[ha,←hp];refine⟨y,_,ek,?_⟩;refine⟨by change 15+8<=sizeLine;omega,((SM++[r]).map D.str),S,?_⟩;have sm:∀o∈SM++[r],As 140 o:=iX (λo am=>(BK o am).wid 'b') (j.mem T);have aw:CDivB p 7:=.of 'b' (cu 'b')
 have J:(0:Int)<23:=by decide
 let⟨o,am,eo⟩:=gS (ns:=SM++[r]) (k:=p/7 % 23) (Lj _ 'b') (Lf _ J);have so:=sm o am;have n140:=J6 (gb ws) j.2;refine⟨λρ=>∃vs:Y Str,ρ=AP x g p vs a (SM++[r])/\Ws 300 vs/\(1<=g->vs=ws),⟨λh=>?_,λ_=>⟨ws,S,j.wid 'b',λ_=>rfl⟩⟩,?_⟩
 ·refine⟨aw,J,_,eo,a,nF (by rw[mn];show t),_,Nq.symm,ws.set a o,S,(j.put a so).wid 'b',λM=>?_⟩;have:=eq_of_beq h;omega
 rintro ρ ⟨vs,rfl,l,e⟩;refine⟨λρ=>∃vs:Y Str,ρ=AP x g p vs a (SM++[r])/\Ws 300 vs/\(2<=g->vs=ws),⟨λh=>?_,λh=>⟨vs,S,l,λh2=>e ()⟩⟩,?_⟩
 ·have h:=eq_of_beq h;rw[e ()];obtain⟨k,hk,O⟩:∃k:Nat,(a:Int)+p % 2=(k:Int)/\k<=ws.length:=⟨a+(p % 2).toNat,(),()⟩;refine⟨by change (0:Int)<2;decide,aw,J,_,eo,k,hk,by rw[mn];show O,by rw[mn];omega,_,sy _ _ _ _,_,S,(j.ins k so).wid 'b',λM=>by omega⟩
 rintro ρ ⟨vs,rfl,l,e⟩;refine⟨λρ=>∃vs:Y Str,ρ=AP x g p vs a (SM++[r])/\Ws 300 vs/\(3<=g->vs=ws),⟨λh=>?_,λh=>⟨vs,S,l,λh2=>e ()⟩⟩,?_⟩
 ·have h:=eq_of_beq h;rw[e ()];refine⟨a,_,S,(),tw t,_,qy _ _ _,ws.eraseIdx a,S,(j.del a).wid 'b',λM=>by omega⟩
 rintro ρ ⟨vs,rfl,l,e⟩;refine⟨λρ=>∃vs:Y Str,ρ=AP x g p vs a (SM++[r])/\Ws 300 vs/\(4<=g->vs=ws),⟨λh=>?_,λh=>⟨vs,S,l,λh2=>e ()⟩⟩,?_⟩
 ·have h:=eq_of_beq h;rw[e ()];refine⟨a,_,S,(),tw t,_,qy _ _ _,?_⟩;refine⟨by rw[mn];have:=gb (ws.eraseIdx a);have:=(j.del a).2;omega,_,dX D.str _ _,_,S,((j.del a).app (Ws.one (j.mem (LJ t)))).wid 'b',λM=>by omega⟩
 rintro ρ ⟨vs,rfl,l,e⟩;refine⟨λρ=>∃vs:Y Str,ρ=AP x g p vs a (SM++[r])/\Ws 300 vs,⟨λh=>?_,λh=>⟨vs,S,l⟩⟩,?_⟩
 ·have h:=eq_of_beq h;rw[e ()];show⟨_,ji (i:=a) (Km t) S,a,S,by rw[mn];omega,by rw[mn];omega,_,sy _ _ _ _,_,S,(j.ins a (j.mem (LJ t))).wid 'b'⟩
 rintro ρ ⟨vs,rfl,l⟩;refine⟨λρ=>ρ=AP x g p vs a (SM++[r]),⟨λh=>?_,λh=>rfl⟩,?_⟩
 ·have x1:(0:Int)<((x.length:Nat):Int)+1:=by omega
  let⟨pl,P1⟩:=Kn (Lj p (by omega:((x.length:Nat):Int)+1≠0))
  have l1:SG.length=92:=by lia
  have X3:CDivB p 211:=.of 'b' (cu 'b')
  have g0:(0:Int)<((SG.length:Nat):Int):=by rw[l1];decide
  refine⟨(),x1,J6 (show _<=100 by lia) (),?_⟩;let⟨c,N,hc⟩:=Bd (w:=SG) (Lj (p/211) ()) (Lf (p/211) g0)
  have C:SG.length<=sizeLine:=by omega
  refine⟨X3,C,g0,C,c,hc,?_⟩;have I:As 1 (⟨#[c]⟩:Str):=⟨λd hd=>by rw[J3.mp (show d∈[c]from hd)];show yU.1 c N,J0 _⟩;refine⟨(),_,S,FP I.2 _,_,S,J6 (Mg (As.cutS u _ _).2 (As.rep I _).2) (),?_⟩;refine⟨(),_,S,J6 (Mg ((As.cutS u _ _).app (As.rep I _)).2 (As.cutS u _ _).2) (),?_⟩;show q _ ((((As.cutS u _ _).app (As.rep I _)).app (As.cutS u _ _)).wid 'b')
 rintro ρ rfl;refine⟨_,S,vs,S,n0 300 (λz hz=>(l.mem hz).2) (by have:=J6 (gb vs) l.2;change _+_*1<=_;omega),?_⟩;have ej:å " " vs=Str.join " " vs:=Ll _ _;rw[ej];show q _ l.join
open Tx
theorem As.repl{n:Nat}{x y z:Str}(h:As n x)(l:∀c∈L z,c<128):As (n+(n+1)*z.length) (õ x y z):=by
 unfold õ;split
 ·show h.wid (MD _ _)
 ·have e:=PySem.StrLaws.glued_between_self x y (x.length+1);have o:=PySem.StrLaws.occ_length_le x y 0 x.length (x.length+1);have r:=h.2;refine⟨λc a=>?_,?_⟩
  ·rw[Ll]at a e;rcases pM a with a|⟨w,g,a⟩
   ·show l c a
   ·refine h.1 c ?_;have:=ll (s:=y) g a;rw[e]at this;show this
  ·have j:=KG Str.length e;rw[size_glued,Nu,Nat.add_sub_cancel]at j;rw[size_glued,Nu,Nat.add_sub_cancel];have p:(Builtin.Str.occurrences x y 0 x.length (x.length+1)).length*z.length<=(n+1)*z.length:=Nr _ ();omega
theorem As.repN{m:Nat}{x:Str}(h:As m x):∀k:Nat,As (k*m) (di x k)
 |0=>⟨λc a=>absurd (show c∈([]:Y Nat)from a) KJ,K1 _⟩
 |k+1=>by
  have e:di x (k+1)=x++di x k:=dR (by rw[dO];rfl);rw[e,Oa,Nat.add_comm];show h.app (As.repN h k)
theorem vI{z:Str}{k:Int}(a:z.length<=100)(c:0<=k)(e:k<=8):-(2^62)<=k/\k<2^62/\z.length*k.toNat<=sizeLine/\z.length<=sizeLine:=by
 have:=KP;refine⟨(),(),?_,()⟩;have:z.length*k.toNat<=100*8:=Nat.mul_le_mul a ();omega
theorem Cy(b:Bool):0<=(if b=ų then (1:Int) else 0)/\(if b=ų then (1:Int) else 0)<=8:=by cases b<;>decide
theorem As.up{x:Str}(h:As 1 x):As 3 (ì x):=by
 have j:=h.2;rcases MQ x.length with c|c
 ·have:x="":=dR (Ln.mp (by rw[ef];show c));rw[this];show .lit
 ·have g:(L x).length=1:=by rw[ef];omega
  let⟨d,hd⟩:=List.length_eq_one_iff.mp g;have:x=⟨#[d]⟩:=dR hd;have a:d<128:=h.1 d (by rw[hd];show J3.mpr S);rw[this]
  have e:((List.range 128).all λd=>(L (ì ⟨#[d]⟩)).all (λc=>decide (c<128))&&decide ((ì ⟨#[d]⟩).length<=3))=ų:=by lia
  show .lit (Kf.mp e d (Li.mpr a))
noncomputable def BD:Y Str:=["12345","-0","07","+5","1a","1_2","","--1","-","abcdefghijklm","Ab"]
theorem yq:∀w∈BD,As 13 w:=λw a=>by
 have h:(BD.all λw=>(L w).all (λc=>decide (c<128))&&decide (w.length<=13))=ų:=by lia
 show As.lit (Kf.mp h w a)
noncomputable abbrev gJ(x:Str)(s:Int)(ws:Y Str):ai:=[Z (.v (.str x)),Z (.v (.int s)),Z (.v (.lst (ws.map D.str))),Z (.v (.lst (BD.map D.str)))]
inductive z__law_spoilt(ds:List D)(R:D->Prop):Prop|mk (x:Str) (sp:Int) (_:ds=[.str x,.int sp]) (_:As 139 x) (_:0<=sp) (_:∀t:Str,As 880 t->R (.str t))
theorem Hw(F:Fun K "_law_spoilt" "_law_spoilt" pB f G)(O:Cl P w K mg base n "_law_any_place" ["_law_text","_law_way","_law_pick"] z__law_any_place)(N:Cl P w K mg base n "_law_out_of_form" ["_law_words","_law_spoil"] z__law_out_of_form)(ar:mg "int"=ű):FnOk P w K mg base bt (n+1) f G ["_law_text","_law_spoil"] (lSpM K (zM z__law_spoilt)):=by
 refine F.okM qap (λas R am h=>?_) (λO1 A outer s H E as R am qs O0 e h Q=>?_)
 ·let⟨_,rfl,x,sp,rfl,_⟩:=h;rfl
 let⟨_,rfl,x,sp,rfl,c,X,q⟩:=h;obtain rfl:=cI Q
 refine⟨_,(aK (aJ (aM (aD da (PD.q (aE cF (aa 1) (PD.q ah))) (PD.q ah) (aC _))) (ak (aL (ag (bX O e S (af (dv 0) (af (aE cF (aa 1) (PD.q ah)) (af (aE iW (aa 1) (PD.q ah)) av cq) cq) ae) ae (bC cq (bC cq ao)))))) aN)
   (aG (aF (i:=1) qap.nd S X9 (ag (aE cF (aa 1) (PD.q ah))))
   (aG (aF (i:=2) qap.nd S X9 (ag (PF.d (jE (aa 0) aq (bZ aj) aj))))
   (aG (aF (i:=3) qap.nd S X9 (ag (PF.d (bQ (af aq (af aq (af aq (af aq (af aq (af aq (af aq (af aq (af aq (af aq (af aq av aj) aj) aj) aj) aj) aj) aj) aj) aj) aj) aj)))))
   (aK (aJ (aM (aD da (aa 1) (PD.q ah) (aC _))) (ak (aL (ag (iA (PD.q aq) (bX N e S (af (dv 2) (af (dv 1) av ae) ae) ae (bC ae ao)) (bZ bK) bK)))) aN)
   (aK (aJ (aM (aD da (aa 1) (PD.q ah) (aC _))) (ak (aL (ag (iA (PD.q aq) (aE aY (PD.q (PF.d (bQ (af (aS (aa 2)) (af (bV (aa 3) (PD.q (aE fJ (aa 1) (PD.q ah))) (λ_ _=>rfl)) av aR) aR)))) (PD.q (bH (aa 2) (bD (PD.q ah)) bO))) (bZ cq) cq)))) aN)
   (aK (aJ (aM (aD da (aa 1) (PD.q ah) (aC _))) (ak (aL (ag (iA (PD.q aq) (aE aY (PD.q (bH (aa 2) bO (bD (PD.q (eS (PD.q ah)))))) (PD.q (PF.d (bQ (af (bV (aa 3) (PD.q (aE fJ (aa 1) (PD.q ah))) (λ_ _=>rfl)) av aR))))) (bZ cq) cq)))) aN)
   (aK (Ac 1 S (zu (EI aY (Ih 0 S) (ag (aE fu (PD.q aq) (PD.q (df gp S ar KY (aV (PD.q (c8 HS (PD.q aq) (aa 0) (by with_unfolding_all rfl))) aW dF) dF ao)))))) aN)
   (aK (aJ (aM (aD (aX e.units) (aa 1) (PD.q ah) (aC _))) (ak (aL (ag (aE aY (aa 0) (PD.q aq))))) aN)
   (aK (aJ (aM (aD (aX e.units) (aa 1) (PD.q ah) (aC _))) (ak (aL (ag aq))) aN)
   (aK (aJ (aM (aD (aX e.units) (aa 1) (PD.q ah) (aC _))) (ak (aL (ag (aE aY (PD.q (BV (PD.q (bH (aa 0) bO (bD (PD.q ah)))))) (PD.q (bH (aa 0) (bD (PD.q ah)) bO)))))) aN)
   (aK (aJ (aM (aD (aX e.units) (aa 1) (PD.q ah) (aC _))) (ak (aL (ag (iA (PD.q aq) (bH (aa 2) (bD (PD.q ah)) bO) (bZ aR) aR)))) aN)
   (aK (aJ (aM (aD (aX e.units) (aa 1) (PD.q ah) (aC _))) (ak (aL (ag (iA (PD.q aq) (aE aY (PD.q (PF.d (bQ (af (aS (aa 2)) (af aq av aj) aR)))) (PD.q (bH (aa 2) (bD (PD.q ah)) bO))) (bZ cq) cq)))) aN)
   (aK (aJ (aM (aD (aX e.units) (aa 1) (PD.q ah) (aC _))) (ak (aL (ag (aE aY (PD.q aq) (aa 0))))) aN)
   (ak (aL (ag (aE aY (aa 0) (PD.q (aE fu (PD.q aq) (aa 1))))))))))))))))))))),?_⟩
 intro ke;have hs:=KP;have xl:=c.2;let⟨a,j⟩:=Ws.split c;have U:=LN x " "
 have u:(0:Int)<100:=by decide
 obtain⟨s,T⟩:∃s,s=sp % 100:=⟨_,S⟩
 have s0:0<=s:=by omega
 obtain⟨ws,r⟩:∃ws,ws=Ì x " ":=⟨_,S⟩
 have g:∀vs:Y Str,Ws 880 vs->ŕ " " vs=ų/\R (.v (.str (å " " vs))) []:=λvs h=>by have hl:=J6 (gb vs) h.2;refine⟨n0 880 (λz hz=>(h.mem hz).2) (by change _+_*1<=_;omega),?_⟩;rw[show å " " vs=Str.join " " vs from Ll _ _];show q _ h.join
 refine⟨λρ=>s<=38/\ρ=[Z (.v (.str x)),Z (.v (.int sp)),ű,ű],⟨u,λ_=>?_,λh=>⟨?_,S⟩⟩,?_⟩
 ·show⟨by change (0:Int)<8;decide,.of 'b' (cu 'b'),x,_,_,S,c,Np X 'b',λt ht=>q t (ht.wid 'b')⟩
 ·have:=Ke h;omega
 rintro ρ ⟨s38,rfl⟩;refine⟨u,_,S,_,S,'b',(),?_⟩;rw[←r]at a j U;have I:=J6 (gb ws) a.2;let⟨M,o,B⟩:=gS (ns:=ws) (k:=0) 'b' (by have:=Nw.mpr j;omega);have a0:=a.mem o;have bd:∀k:Int,0<=k->k<11->∃y∈BD,bT (BD.map D.str) k=Z (.str y):=λk aw h1=>gS (ns:=BD) aw h1;have ej:∀vs:Y Str,å " " vs=Str.join " " vs:=λvs=>Ll _ _;rw[←r];refine⟨λρ=>s<=30/\ρ=gJ x s ws,⟨λh=>?_,λh=>⟨?_,by rw[T];rfl⟩⟩,?_⟩
 ·have h:=J8 h;show⟨_,S,ws,sp % 100,S,a,j,(),(),λvs hv=>⟨vs,S,g vs (hv.wid 'b')⟩⟩
 ·have:=Ke h;omega
 rintro ρ ⟨s30,rfl⟩;refine⟨λρ=>s<=19/\ρ=gJ x s ws,⟨λh=>?_,λh=>⟨?_,S⟩⟩,?_⟩
 ·have h:=J8 h;let⟨y,p,l⟩:=bd (s-20) () ();have J:=J6 (gb _) (a.cut (Z 2) ű).2;refine⟨_,S,_,B,_,l,_,cE D.str ws _ _,by rw[mn];change 2+_<=_;omega,_,gG D.str [M,y] _,_,S,g _ ?_⟩;show (((Ws.one a0).app (Ws.one (yq y p))).app (a.cut (Z 2) ű)).wid 'b'
 ·have:=Ke h;omega
 rintro ρ ⟨s19,rfl⟩;refine⟨λρ=>s<=8/\ρ=gJ x s ws,⟨λh=>?_,λh=>⟨?_,S⟩⟩,?_⟩
 ·have h:=J8 h;let⟨y,p,l⟩:=bd (s-9) () ();have J:=J6 (gb _) (a.cut ű (Z (-1))).2;refine⟨_,S,_,cE D.str ws _ _,_,l,by rw[mn];change (aT ws ű (Z (-1))).length+1<=_;omega,_,dX D.str _ y,_,S,g _ ?_⟩;show ((a.cut ű (Z (-1))).app (Ws.one (yq y p))).wid 'b'
 ·have:=Ke h;omega
 rintro ρ ⟨s8,rfl⟩;refine⟨λρ=>ρ=gJ x s ws,⟨_,S,λh=>?_,λh=>rfl⟩,?_⟩
 ·have v:As 600 (õ x " + " " - "):=(c.repl (y:=" + ") (z:=" - ") (As.lit (n:=3)).1).wid 'b';refine⟨x,S,()," + ",x,S,S,λb=>?_⟩;have a2:=(As.lit (n:=2) (x:=" +")).repN (Int.toNat (if b=ų then 1 else 0));have C:=Cy b;refine⟨vI 'b' C.1 C.2,_,S,?_⟩
  have m2:(Int.toNat (if b=ų then 1 else 0))*2<=20:=by omega
  show⟨J6 (Mg v.2 a2.2) (),q _ ((v.app a2).wid ())⟩
 rintro ρ rfl;refine⟨λρ=>ρ=gJ x s ws,⟨λh=>?_,λh=>rfl⟩,?_⟩
 ·show⟨by change x.length+2<=sizeLine;omega,q _ ((c.app (As.lit (n:=2))).wid 'b')⟩
 rintro ρ rfl;refine⟨λρ=>ρ=gJ x s ws,⟨λh=>?_,λh=>rfl⟩,?_⟩
 ·show q _ As.lit
 rintro ρ rfl;refine⟨λρ=>ρ=gJ x s ws,⟨λh=>?_,λh=>rfl⟩,?_⟩
 ·have a1:As 1 (cutS x ű (Z 1)):=⟨(c.cutS ű (Z 1)).1,by rw[←ef];show kU (L x) 1⟩;have a2:=c.cutS (Z 1) ű;show⟨(),_,S,_,S,J6 a1.up.2 (),(),_,S,J6 (Mg a1.up.2 a2.2) (),q _ ((a1.up.app a2).wid 'b')⟩
 rintro ρ rfl;refine⟨λρ=>ρ=gJ x s ws,⟨λh=>?_,λh=>rfl⟩,?_⟩
 ·show⟨_,S,_,cE D.str ws _ _,_,S,g _ ((a.cut (Z 1) ű).wid 'b')⟩
 rintro ρ rfl;refine⟨λρ=>ρ=gJ x s ws,⟨λh=>?_,λh=>rfl⟩,?_⟩
 ·have J:=J6 (gb _) (a.cut (Z 1) ű).2;refine⟨_,S,_,B,_,cE D.str ws _ _,by rw[mn];change 2+_<=_;omega,_,gG D.str [M,""] _,_,S,g _ ?_⟩;show (((Ws.one a0).app (Ws.one (As.lit (n:=0)))).app (a.cut (Z 1) ű)).wid 'b'
 rintro ρ rfl;refine⟨λρ=>ρ=gJ x s ws,⟨λh=>?_,λh=>rfl⟩,?_⟩
 ·show⟨by change 1+x.length<=sizeLine;omega,q _ (((As.lit (n:=1)).app c).wid 'b')⟩
 rintro ρ rfl;have a2:=(As.lit (n:=1) (x:=" ")).repN s.toNat
 have m2:s.toNat*1<=20:=by omega
 show⟨vI 'b' s0 s8,_,S,J6 (Mg xl a2.2) (),q _ ((c.app a2).wid ())⟩
open Tx
theorem xq{s:Str}:∀{a b:Y Str},a≠[]->b≠[]->Str.join s (a++b)=Str.join s a++(s++Str.join s b)
 | [x],y::r,_,_=>dR (by change L (Str.join s (x::y::r))=_;rw[fN,dO,dO];rfl)
 |x::c::a,b,_,h=>by
  have j:=xq (s:=s) (a:=c::a) (b:=b) (by simp) h;have e:Str.join s ((x::c::a)++b)=x++(s++Str.join s ((c::a)++b)):=dR (by change L (Str.join s (x::c::(a++b)))=_;rw[fN,dO,dO];rfl);have g:Str.join s (x::c::a)=x++(s++Str.join s (c::a)):=dR (by rw[fN,dO,dO]);rw[e,j,g];show dR (by simp only[dO,Kg])
theorem yj{s:Str}(f:Str->Y Str)(a:∀x,f x≠[])(c:∀x,Str.join s (f x)=x):∀{xs:Y Str},xs≠[]->xs.flatMap f≠[]/\Str.join s (xs.flatMap f)=Str.join s xs
 | [x],_=>by rw[NX,List.flatMap_nil,Ku];show⟨a x,c x⟩
 |x::y::r,_=>by let⟨e,g⟩:=yj f a c (xs:=y::r) (by simp);rw[NX];refine⟨λh=>e (List.append_eq_nil_iff.mp h).2,?_⟩;rw[xq (a x) e,g,c];show dR (by rw[fN,dO,dO])
theorem Fw{xs:Y Str}(e:xs≠[]):Ì (Str.join "\n" xs) "\n" = xs.flatMap λx=>Ì x "\n":=by let⟨g,h⟩:=yj (s:="\n") (λx=>Ì x "\n") (λx=>N3 (L4 x "\n")) (λx=>Mo x "\n") e;rw[←h];refine Bp (c:=10) g λw a=>?_;let⟨x,j,a⟩:=Mm.mp a;show PySem.StrLaws.split_free x 10 w a
theorem vk{m:Nat}{f:Str->Y Str}:∀{xs:Y Str},(∀x∈xs,(f x).length<=m)->(xs.flatMap f).length<=xs.length*m
 | [],_=>K1 _
 |x::xs,h=>by
  have c:=vk (f:=f) (xs:=xs) λy a=>h y (JZ _ a);have:=h x JY;rw[NX,wy,J1,Oa];omega
theorem IQ{xs:Y Str}(a:xs.length<=26)(h:∀x∈xs,As 880 x):∃t,LsOk (Str.join "\n" xs) t:=by
 rcases OM xs with e|⟨_,_,e⟩
 ·rw[e];refine⟨[("":Str)],⟨As.asc (n:=0) ⟨λc p=>absurd (show c∈([]:Y Nat)from p) KJ,K1 _⟩ 'b',?_,λl a=>?_,'b'⟩⟩
  ·change Ì "" "\n" = [("":Str)];decide +kernel
  ·rw[J3.mp a];decide
 have j:xs≠[]:=by rw[e];simp
 have o:=As.join (As.lit (n:=1) (x:="\n")) h;refine⟨_,⟨o.asc ?_,Fw j,λl a=>?_,?_⟩⟩
 ·have:xs.length*(880+1)<=26*881:=Nr _ a;omega
 ·let⟨x,g,r⟩:=Mm.mp a;show J6 (MW r) (J6 (h x g).2 'b')
 ·refine J6 (vk (m:=882) λx g=>?_) (J6 (Nr _ a) 'b');have:=LN x "\n";have:=(h x g).2;omega
theorem xu{f:D->D->Ų Bool}:∀{xs:Y D},(∀x∈xs,f x x=Z ų)->eK f xs xs=Z ų
 | [],_=>rfl
 |x::xs,h=>by change ((f x x).bind λb=>(eK f xs xs).map (b&&·))=_;rw[h x JY,xu λy a=>h y (JZ _ a)];rfl
theorem qM{n:Nat}{xs:Y D}(h:∀x∈xs,bS n x x=Z ų):bS (n+1) (.tup xs) (.tup xs)=Z ų:=xu h
theorem sL{n:Nat}(i:Int):bS (n+1) (.int i) (.int i)=Z ų:=by change Z (i==i)=_;rw[Kz]
theorem wI{n:Nat}(i:Str):bS (n+1) (.str i) (.str i)=Z ų:=by change Z (i==i)=_;rw[Kz]
theorem zN(r:(Int×Nat) ⊕ Rd)(n:Nat):bS 40 (fG r n) (fG r n)=Z ų:=by
 have a:∀k z:Int,bS 40 (fA k z) (fA k z)=Z ų:=λk z=>qM λx c=>by
  simp only[J9,KJ,Ml]at c;rcases c with rfl|rfl
  ·show wI _
  ·show sL _
 cases r with
 |inl k=>show a _ _
 |inr s=>
  change bS 40 (if s.wo=ű then fA 4 (n:Nat) else .tup [.tup (s.ns.map D.str),.int (s.rs.length:Nat)]) (if s.wo=ű then fA 4 (n:Nat) else .tup [.tup (s.ns.map D.str),.int (s.rs.length:Nat)])=Z ų;split
  ·show a _ _
  ·refine qM λx c=>?_;simp only[J9,KJ,Ml]at c;rcases c with rfl|rfl
   ·refine qM λy e=>?_;let⟨z,_,rfl⟩:=Lb.mp e;show wI z
   ·show sL _
theorem uv{d:D}{R:D->Prop}(h:bS 40 d d=Z ų)(q:R (.bl ų)):i5 d d R:=by unfold i5;rw[h];show q
theorem tV{i:Nat}{ρ:bE}{d:D}{R:D->Prop}(h:ρ[i]?=Z (Z (.v d)))(k:R d):dm i ρ R:=by unfold dm;rw[h];show k
theorem He{k:Nat}(c:1<=k)(e:k<=12):bf (di "z" k)=ų:=by
 have a:((List.range 13).all λk=>decide (k=0) ||bf (di "z" k))=ų:=by lia
 have:=Kf.mp a k (Li.mpr ());rw[Kd (by omega:¬ k=0),Bool.false_or]at this;show this
noncomputable def CA:Y Int:=[0,1,2,3,3,4,7,8,8,9]
noncomputable def CB:Y Int:=[0,1,2,2,3,4,12,13]
theorem GL:∀z∈CA,0<=z/\z<=9:=by decide
theorem CV:∀z∈CB,0<=z/\z<=13:=by decide
noncomputable abbrev LW(ns:Y Int)(o:Om)(a:Y Str)(c:Y Gn)(w:Str)(e:Ų Sm):ai:=[Z (.v (.fzl (ns.map D.int))),Z (.ob ű o),Z (.v (.lst (a.map D.str))),Z (.v (.lst (c.map bW))),Z (.v (.str w)),e,ű,ű]
noncomputable abbrev sp_law:=wD
noncomputable abbrev HJ:=xh
theorem yF(F:Fun K "law" "law" lZ f G)(RV:ClM P w K mg base n "_law_pool" ["_law_script"] y__law_pool)(Rv:ClM P w K mg base n "_law_names" ["_law_pool_here","_law_count"] y__law_names)(Ry:ClM P w K mg base n "_law_lines" ["_law_pool_here","_law_names_here","_law_rows"] y__law_lines)(se:Cl P w K mg base n "_law_fresh" ["_law_names_here","_law_name"] z__law_fresh)(JI:Cl P w K mg base n "_law_due" ["_law_lines_here"] z__law_due)(I:ClM P w K mg base n "_law_draw" ["_law_pool_here","_law_many"] y__law_draw)(QQ:ClM P w K mg base n "_law_changed" ["_law_pool_here","_law_lines_here","_law_name"] y__law_changed)(JR:Cl P w K mg base n "_law_spoilt" ["_law_text","_law_spoil"] z__law_spoilt)(yt:Cl P w K mg base n "_law_told" ["_law_text"] z__law_told)(JJ:Cl P w K mg base n "_law_plain" ["_law_line"] z__law_plain)(eh:mg "range"=ű):FnOk P w K mg base bt (n+1) f G ["_law_script"] (lSpM K (zM HJ)):=by
 refine F.okM qau (λas R Rx h=>?_) (λO1 A outer s H E as R Rx qs O0 a h O4=>?_)
 ·let⟨_,rfl,ns,rfl,_⟩:=h;rfl
 let⟨_,rfl,ns,rfl,C,q⟩:=h;obtain rfl:=cI O4
 refine⟨_,(aG (aF (i:=1) qau.nd S X9 (b0 RV a S (bA (ag (dv 0)) bJ ae) ae ao))
   (aG (aF (i:=2) qau.nd S X9 (vV (b0 Rv a S (b9 1 (bA (kT (ag (bB (af ah (af ah (af ah (af ah (af ah (af ah (af ah (af ah (af ah (af ah av aj) aj) aj) aj) aj) aj) aj) aj) aj) aj))) (b0 I a S (b9 1 (bA (ag ah) bJ aj) ae) ae (bC aj ao)) (λ_ _=>rfl)) bJ aR) ae) ae (bC aR ao))))
   (aG (aF (i:=3) qau.nd S X9 (b0 Ry a S (b9 1 (bA (ag (dv 2)) (bA (kT (ag (bB (af ah (af ah (af ah (af ah (af ah (af ah (af ah (af ah av aj) aj) aj) aj) aj) aj) aj) aj))) (b0 I a S (b9 1 (bA (ag ah) bJ aj) ae) ae (bC aj ao)) (λ_ _=>rfl)) bJ aR) ae) ae) ae (bC ae (bC aR ao))))
   (aG (aF (i:=4) qau.nd S X9 (Az se a S (bA (ag (dv 2)) (bA (hX fu (ag aq) (hX aY (ag ah) (b0 I a S (b9 1 (bA (ag ah) bJ aj) ae) ae (bC aj ao)))) bJ cq) ae) ae (bC cq ao)))
   (aG (eQ Le S (DD S eh (bA (b0 I a S (b9 1 (bA (ag ah) bJ aj) ae) ae (bC aj ao)) bJ bK)) (bY (i:=5) qau.nd S X9) (ak (aF (i:=3) qau.nd S X9 (b0 QQ a S (b9 1 (bA (ag (dv 3)) (bA (ag (dv 4)) bJ ae) ae) ae) ae (bC ae (bC ae ao))))))
   (aG (aF (i:=6) qau.nd S X9 (ag (iA (PD.q aq) (PF.d (ic (k:=1) (N':=["_law_line"]) (cap:=[ű]) S (.ok (show fK ["_law_script","_law_pool_here","_law_names_here","_law_lines_here","_law_strange","_law_k","_law_text","_law_due_here"] (aQ lZ) _ ["_law_line"] [ű]=ų by lia)) 'a' (gI 'b') (gK (dv 3)) (λ_ _ _ _ _=>(gC (i:=0) (show List.Nodup (["_law_line"]:Y Str)by lia) S X9)) (λ_ _ _ _ _=>(bX JR a S (af (bX JJ a S (af (dv 0) av ae) ae ao) (af (aS (aa 0)) av aR) bK) bK (bC aR ao))))) (bZ dG) dG)))
   (aG (aF (i:=7) qau.nd S X9 (ag (bX JI a S (af (PF.d (jE (aa 6) aq (bZ aj) aj)) av bK) bK ao)))
   (ak (aL (ag (iY (c8 (aX a.units) (PD.q (bX yt a S (af (dv 6) av ae) ae ao)) (aa 7) (aC _)) (jY (c8 (aX a.units) (PD.q (bX yt a S (af (dv 6) av ae) ae ao)) (aa 7) (aC _)))))))))))))),?_⟩
 intro ke;refine⟨_,S,S,ns,S,C,λo hp=>?_⟩;rfl';refine⟨⟨_,_,S⟩,⟨_,_,S⟩,_,S,S,_,_,10,0,S,hp,'b','b',cu 'b',λx o1 x0 x1 Qd=>?_⟩;rfl';let⟨z,N,am⟩:=jP (ns:=CA) x0 x1;let⟨aw,z9⟩:=GL z N;let⟨k,rfl⟩:=Kn aw;refine⟨_,am,_,S,S,_,_,k,_,S,Qd,'b',(),λO o2 hn VO P7=>?_⟩;rfl';refine⟨⟨_,_,S⟩,⟨_,_,S⟩,_,S,S,_,_,8,_,S,P7,'b','b',cu 'b',λy o3 y0 y1 Rg=>?_⟩;rfl';let⟨z,N,am⟩:=jP (ns:=CB) y0 y1;let⟨aw,z13⟩:=CV z N;let⟨m,rfl⟩:=Kn aw;refine⟨_,am,_,S,S,_,_,O,m,_,S,Rg,'b',hn,(),λe o4 j RM=>?_⟩;rfl';refine⟨⟨_,_,S⟩,_,S,S,_,_,12,_,S,RM,'b','b',cu 'b',λv o5 v0 v1 VP=>?_⟩;rfl';have hs:=KP;have n9:=hn.2.1
 have zl:("z":Str).length=1:=by decide
 refine⟨⟨(),(),by rw[zl];omega,by rw[zl];omega⟩,_,S,O,_,S,(),He () (),λw hw _=>?_⟩;refine⟨⟨_,_,S⟩,_,S,S,_,_,4,_,S,VP,'b','b',cu 'b',λu o6 u0 u1 XW=>?_⟩;refine⟨⟨(),()⟩,λi ρ=>∃(e:Y Gn)(o':Om)(ar:Ų Sm),ρ=LW ns o' O e w ar/\mY (23+i) e/\Pl (700+6*i) o',⟨e,o6,_,S,j,XW.mono 'b'⟩,?_,?_⟩
 ·rintro i d ρ hd ⟨e,o7,ar,rfl,j,B⟩;let⟨hi,rfl⟩:=jx hd
  have T7:i<4:=by omega
  refine⟨⟨_,_,S⟩,_,S,S,_,_,e,w,_,23+i,S,B,(),j,(),hw,λT o8 Vk U=>?_⟩;rfl';show⟨T,o8,_,S,Vk,U.mono ()⟩
 rintro ρ ⟨e,o7,ar,rfl,j,B⟩;rw[jc]at j
 have hgl:e.length<=26:=by have:=j.1;omega
 refine⟨_,S,by rw[mn];omega,λ_ d=>∃t:Str,As 880 t/\d=.str t,λi d hd=>?_,λzs UN C=>?_⟩
 ·let⟨g,rfl,hg⟩:=gf hd;have RN:=j.2 g (Kp hg);show⟨g,S,RN,λt ht=>⟨_,S,t,g.sp,S,ht.wid 'b',RN.sp.1,λt2 h2=>⟨t2,h2,S⟩⟩⟩
 let⟨xs,rfl,M⟩:=ye (f:=D.str) (P:=As 880) C
 have X:xs.length<=26:=by rw[mn,mn]at UN;omega
 let⟨r,p⟩:=IQ X M;have ej:å "\n" xs = Str.join "\n" xs:=Ll _ _;refine⟨xs,S,n0 880 (λz C=>(M z C).2) (by change _+_*1<=_;omega),?_⟩;rw[ej];have M:=p.as.2;refine⟨_,S,_,S,'b',(),_,KG (λl:Y Str=>[D.lst (l.map D.str)]) p.eq,p.cnt,λl hl=>⟨w4 p.as l (by rw[p.eq];show hl),p.len l hl⟩,?_⟩;have Q:=zN (cD cU 1 r) r.length;have c:∀J:D->Prop,J (fG (cD cU 1 r) r.length)->z__law_told [.str (Str.join "\n" xs)] J:=λJ h=>⟨_,r,S,p,h⟩;generalize fG (cD cU 1 r) r.length=o9 at Q c ⊢;refine c _ (tV S (uv Q ⟨λ_=>c _ (tV S (uv Q q)),λh=>tf h⟩))
end
theorem all_mk{l:PySem.W.OpenLaw}{w:Å}{K:PySem.W.Frag}{h:Heap}{mg:Str->Ų Value}{fa:Addr}{c:Addr}(X:K.In h)(G:h.Ns Á mg)(hfa:mg "law"=Z (.ref fa))

  (Pz:PySem.W.nsIn K Á "Reading"=Z (Z (.ref c)))
  (a1:Has K lP "turned")
  (a2:Has K lB "is_name")
  (a3:Has K kY "number_form")
  (a4:Has K nU "sum_form")
  (a5:Has K mQ "unknown_form")
  (a6:Has K mX "row_form")
  (a7:Has K oP "worth_form")
  (a8:Has K nO "line_form")
  (a9:Has K lN "sum_entries")
  (a10:Has K k6 "turned_numbers")
  (a11:Has K oa "read_plan")
  (a12:Has K oq "_law_whole")
  (a13:Has K ng "_law_pool")
  (a14:Has K oU "_law_draw")
  (a15:Has K nV "_law_fresh")
  (a16:Has K nR "_law_word")
  (a17:Has K pA "_law_names")
  (a18:Has K nu "_law_number")
  (a19:Has K kO "_law_lines")
  (a20:Has K nC "_law_changed")
  (a21:Has K lJ "_law_plain")
  (a22:Has K oy "_law_out_of_form")
  (a23:Has K oN "_law_any_place")
  (a24:Has K pB "_law_spoilt")
  (a25:Has K nM "_law_sum_due")
  (a26:Has K me "_law_figured")
  (a27:Has K lx "_law_named")
  (a28:Has K oM "_law_summed")
  (a29:Has K mr "_law_read")
  (a30:Has K mw "_law_due")
  (a31:Has K kS "_law_told")
  (a32:Has K lZ "law")
  (X5:HasM K n4 c "__init__" "Reading.__init__")
  (X6:HasM K mE c "read_line" "Reading.read_line")
  (X7:HasM K oh c "read_unknown" "Reading.read_unknown")
  (X8:HasM K oo c "read_row" "Reading.read_row")
  (R6:PySem.W.plainGet K c Str.empty=ų) (R7:PySem.W.hasDictIn K c=ų) (R8:PySem.W.plainOver K c=ų) (R9:PySem.W.findIn K (.ref c) "__setattr__"=Z (Z (.builtin "object.__setattr__"))) (Sa:PySem.W.makesIn K c=ų) (Sb:PySem.W.keepIn K (.ref c)=ų)
  (QF:PySem.W.findIn K (.ref c) "names"=Z ű)
  (Qo:PySem.W.findIn K (.ref c) "bounds"=Z ű)
  (QR:PySem.W.findIn K (.ref c) "rows"=Z ű)
  (QG:PySem.W.findIn K (.ref c) "worth"=Z ű)
  (TY:PySem.W.nsIn K Á "tuple"=Z ű)
  (VY:PySem.W.nsIn K Á "all"=Z ű)
  {QH:þ} (QS:PySem.W.nsIn K Á "MOST_LETTERS"=Z (Z (.int 12 QH)))
  (VZ:PySem.W.nsIn K Á "len"=Z ű)
  {Se:þ} (SN:PySem.W.nsIn K Á "LETTERS"=Z (Z (.str "abcdefghijklmnopqrstuvwxyz" Se)))
  (V0:PySem.W.nsIn K Á "int"=Z ű)
  {QI:þ} (QT:PySem.W.nsIn K Á "MOST_FIGURES"=Z (Z (.int 4 QI)))
  {Sf:þ} (SO:PySem.W.nsIn K Á "FIGURES"=Z (Z (.str "0123456789" Sf)))
  (TZ:PySem.W.nsIn K Á "range"=Z ű)
  (RW:PySem.W.nsIn K Á "enumerate"=Z ű)
  (Rz:PySem.W.nsIn K Á "isinstance"=Z ű)
  (y_bool:PySem.W.nsIn K Á "bool"=Z ű)
  (UP:PySem.W.nsIn K Á "list"=Z ű)
  (V5:PySem.W.nsIn K Á "zip"=Z ű)
  (RA:PySem.W.nsIn K Á "ValueError"=Z ű)
  {Qp:þ} (QJ:PySem.W.nsIn K Á "MOST_UNKNOWNS"=Z (Z (.int 8 Qp)))
  {RB:þ} (RX:PySem.W.nsIn K Á "MOST_ROWS"=Z (Z (.int 12 RB)))
  (f:ka K eA cn=ų)
  {Rj P5:Addr} {Sg Sh:Ų Addr} {Si Sj Sk QU Sn:Value} {So:Array (Ų Value)} (Rk:PySem.W.nsIn K Á "NoName"=Z (Z (.ref Rj))) (Rl:PySem.W.findIn K (.ref Rj) "__init__"=Z (Z (.ref P5))) (Qq:K.lookup P5=Z ⟨.type "function",Sg,.func (PySem.W.fnOf "__init__" "NoName.__init__" (eI kr) (cY kr) (aQ kr) .none Si Sj Sk Sh QU Sn),So⟩) (Qr:PySem.W.codeIn K QU "NoName.__init__"=ų) (Qs:PySem.W.keepIn K (.ref P5)=ų) (Qt:initOf K "NoName"=Z (Z (.ref P5)))
  {RY Qk:Addr} {SR SS:Ų Addr} {SU SV SW Rm SX:Value} {SY:Array (Ų Value)} (RZ:PySem.W.nsIn K Á "Twice"=Z (Z (.ref RY))) (R0:PySem.W.findIn K (.ref RY) "__init__"=Z (Z (.ref Qk))) (QV:K.lookup Qk=Z ⟨.type "function",SR,.func (PySem.W.fnOf "__init__" "Twice.__init__" (eI kJ) (cY kJ) (aQ kJ) .none SU SV SW SS Rm SX),SY⟩) (QW:PySem.W.codeIn K Rm "Twice.__init__"=ų) (QX:PySem.W.keepIn K (.ref Qk)=ų) (QY:initOf K "Twice"=Z (Z (.ref Qk)))
  {Rn P6:Addr} {Sq Sr:Ų Addr} {Ss Su Sv QZ Sw:Value} {Sx:Array (Ų Value)} (Ro:PySem.W.nsIn K Á "NoText"=Z (Z (.ref Rn))) (Rq:PySem.W.findIn K (.ref Rn) "__init__"=Z (Z (.ref P6))) (Qu:K.lookup P6=Z ⟨.type "function",Sq,.func (PySem.W.fnOf "__init__" "NoText.__init__" (eI l0) (cY l0) (aQ l0) .none Ss Su Sv Sr QZ Sw),Sx⟩) (Qv:PySem.W.codeIn K QZ "NoText.__init__"=ų) (Qw:PySem.W.keepIn K (.ref P6)=ų) (Qx:initOf K "NoText"=Z (Z (.ref P6)))
  {QC Pp:Addr} {RC RD:Ų Addr} {RE RF RG Ql RH:Value} {RI:Array (Ų Value)} (QD:PySem.W.nsIn K Á "TooGreat"=Z (Z (.ref QC))) (QE:PySem.W.findIn K (.ref QC) "__init__"=Z (Z (.ref Pp))) (PV:K.lookup Pp=Z ⟨.type "function",RC,.func (PySem.W.fnOf "__init__" "TooGreat.__init__" (eI mf) (cY mf) (aQ mf) .none RE RF RG RD Ql RH),RI⟩) (PY:PySem.W.codeIn K Ql "TooGreat.__init__"=ų) (PZ:PySem.W.keepIn K (.ref Pp)=ų) (P0:initOf K "TooGreat"=Z (Z (.ref Pp))) :
  ∃fd:É,(∀(s:À)(v:Value),đ s fd ⟨[v],[]⟩ [("_law_script",v)])/\∀base:Heap,K.In base->base.Ns Á mg->FnOk l.prog w K mg base bt 8 fa fd ["_law_script"] (sp_law K):=by
 let⟨f1,d1,F1,m1,_⟩:=a1.fn X G;let⟨f2,d2,F2,m2,_⟩:=a2.fn X G;let⟨f3,d3,F3,m3,_⟩:=a3.fn X G;let⟨f4,d4,F4,m4,_⟩:=a4.fn X G;let⟨f5,d5,F5,m5,_⟩:=a5.fn X G;let⟨f6,d6,F6,m6,_⟩:=a6.fn X G;let⟨f7,d7,F7,m7,_⟩:=a7.fn X G;let⟨f8,d8,F8,m8,_⟩:=a8.fn X G;let⟨f9,d9,F9,m9,_⟩:=a9.fn X G;let⟨f10,d10,r,m10,_⟩:=a10.fn X G;let⟨f11,d11,t,m11,_⟩:=a11.fn X G;let⟨f12,d12,u,m12,_⟩:=a12.fn X G;let⟨f13,d13,x,m13,_⟩:=a13.fn X G;let⟨f14,d14,y,m14,_⟩:=a14.fn X G;let⟨f15,d15,z,m15,_⟩:=a15.fn X G;let⟨f16,d16,A,m16,_⟩:=a16.fn X G;let⟨f17,d17,B,m17,_⟩:=a17.fn X G;let⟨f18,d18,C,m18,_⟩:=a18.fn X G;let⟨f19,d19,E,m19,_⟩:=a19.fn X G;let⟨f20,d20,F,m20,_⟩:=a20.fn X G;let⟨f21,d21,H,m21,_⟩:=a21.fn X G;let⟨f22,d22,I,m22,_⟩:=a22.fn X G;let⟨f23,d23,J,m23,_⟩:=a23.fn X G;let⟨f24,d24,M,m24,_⟩:=a24.fn X G;let⟨f25,d25,N,m25,_⟩:=a25.fn X G;let⟨f26,d26,O,m26,_⟩:=a26.fn X G;let⟨f27,d27,Q,m27,_⟩:=a27.fn X G;let⟨f28,d28,R,m28,_⟩:=a28.fn X G;let⟨f29,d29,am,m29,_⟩:=a29.fn X G;let⟨f30,d30,T,m30,_⟩:=a30.fn X G;let⟨f31,d31,U,m31,_⟩:=a31.fn X G;let⟨f32,d32,F32,m32,_,_,_,e⟩:=a32.fn X G;let⟨f33,d33,X5,i33,k33,ar⟩:=X5;have b33:=ar.bd (ps:=["self"]);let⟨f34,d34,X6,i34,k34,aw⟩:=X6;have b34:=aw.bd (ps:=["self","line","at"]);let⟨f35,d35,X7,i35,k35,F35⟩:=X7;have b35:=F35.bd (ps:=["self","form","at"]);let⟨f36,d36,X8,i36,k36,F36⟩:=X8;have b36:=F36.bd (ps:=["self","form","at"]);cases hfa.symm.trans m32;refine⟨d32,λs v=>by rw[e];show .of_eq S,λbase _ _=>?_⟩;have j:=La X G TY;have eM:=La X G VY;have Ph:∃g,mg "MOST_LETTERS"=Z (.int 12 g):=⟨_,Mr X G QS⟩;have a:=La X G VZ;have Qm:∃g,mg "LETTERS"=Z (.str "abcdefghijklmnopqrstuvwxyz" g):=⟨_,Mr X G SN⟩;have o:=La X G V0;have Pj:∃g,mg "MOST_FIGURES"=Z (.int 4 g):=⟨_,Mr X G QT⟩;have Qn:∃g,mg "FIGURES"=Z (.str "0123456789" g):=⟨_,Mr X G SO⟩;have eh:=La X G TZ;have ij:=La X G RW;have dS:=La X G Rz;have r9:=La X G y_bool;have su:=La X G UP;have sr:=La X G V5;have pC:=La X G RA;have Pd:∃g,mg "MOST_UNKNOWNS"=Z (.int 8 g):=⟨_,Mr X G QJ⟩;have PR:∃g,mg "MOST_ROWS"=Z (.int 12 g):=⟨_,Mr X G RX⟩;have OR:TxtReading K mg c:=⟨⟨R6,R7,R8,R9⟩,QF,Qo,QR,QG,Mr X G Pz,Pz⟩;have Ex:=FD X G f;have Is:=Ba X G f;have Po:=kz X G f (nm:="YardError") 'a';have Px:=kz X G f (nm:="NoName") 'a';have P4:=kz X G f (nm:="Twice") 'a';have O9:=kz X G f (nm:="TooGreat") 'a';have Pw:=kz X G f (nm:="NoText") 'a';have QO:Rz1 l.prog w K mg base "NoName":=nQ X G f 'a' Qt Qq S Qr Qs yO S X9 X9 (λ_=>rfl) (λ_ _ _ _ _ _=>iI λ_ _=>rfl);have P2:Rz1 l.prog w K mg base "Twice":=nQ X G f 'a' QY QV S QW QX yK S X9 X9 (λ_=>rfl) (λ_ _ _ _ _ _=>iI λ_ _=>rfl);have O5:Rz1 l.prog w K mg base "NoText":=nQ X G f 'a' Qx Qu S Qv Qw DS S X9 X9 (λ_=>rfl) (λ_ _ _ _ _ _=>iI λ_ _=>rfl);have O8:Rz1 l.prog w K mg base "TooGreat":=nQ X G f 'a' P0 PV S PY PZ EB S X9 X9 (λ_=>rfl) (λ_ _ _ _ _ _=>iI λ_ _=>rfl);have H1:=BX (P:=l.prog) (w:=w) (mg:=mg) (base:=base) (n:=0) F1 j;have Q1:=F1.cl m1 (H1.imp cK);have H2:=Bi (P:=l.prog) (w:=w) (mg:=mg) (base:=base) (n:=0) F2 eM Ph a Qm;have Q2:=F2.cl m2 (H2.imp cK);have H3:=GT (P:=l.prog) (w:=w) (mg:=mg) (base:=base) (n:=0) F3 o Pj eM a Qn;have Q3:=F3.cl m3 (H3.imp cK);have H4:=GI (n:=1) F4 Q3.mono Q2.mono eh j a;have Q4:=F4.cl m4 (H4.imp cK);have H5:=C3 (n:=1) F5 Q3.mono Q2.mono a;have Q5:=F5.cl m5 (H5.imp cK);have H6:=Fh (n:=2) F6 Q4.mono Q3.mono a;have Q6:=F6.cl m6 (H6.imp cK);have H7:=Gw (n:=2) F7 Q4.mono;have Q7:=F7.cl m7 (H7.imp cK);have H8:=I0 (n:=3) F8 Q5.mono Q6.mono Q7.mono;have Q8:=F8.cl m8 (H8.imp cK);have H9:=AN (P:=l.prog) (w:=w) (mg:=mg) (base:=base) (n:=2) F9 j a;have Q9:=F9.cl m9 (H9.imp cK);have HX9:=Aq (P:=l.prog) (w:=w) (mg:=mg) (base:=base) (n:=0) F9 j a QO P2;have U9:=F9.clX m9 ((H9.imp cK).orX HX9) <|λ_ _ _ _ _ _=>lH λ_ _ _=>rfl;have WZ:=Ga (P:=l.prog) (w:=w) (mg:=mg) (base:=base) (n:=0) r j;have Q10:=r.cl m10 (WZ.imp cK);have H12:=AG (P:=l.prog) (w:=w) (mg:=mg) (base:=base) (n:=0) u dS o r9;have Q12:=u.cl m12 (H12.imp cK);have H13:=Ii (P:=l.prog) (w:=w) (mg:=mg) (base:=base) (n:=0) x a;have R13:=x.clM m13 H13;have H14:=HF (P:=l.prog) (w:=w) (mg:=mg) (base:=base) (n:=0) y;have p:=y.clM m14 H14;have H15:=zt (P:=l.prog) (w:=w) (mg:=mg) (base:=base) (n:=0) z;have Q15:=z.cl m15 (H15.imp cK);have H16:=IS (n:=1) A p.mono eh;have R16:=A.clM m16 H16;have H17:=DI (n:=2) B p.mono R16.mono Q15.mono eh;have R17:=B.clM m17 H17;have H18:=FK (n:=1) C p.mono;have R18:=C.clM m18 H18;have H19:=Ep (n:=2) E R18.mono p.mono eh a;have R19:=E.clM m19 H19;have H20:=IL (n:=1) F p.mono a su;have R20:=F.clM m20 H20;have H21:=Er (P:=l.prog) (w:=w) (mg:=mg) (base:=base) (n:=0) H a sr;have Q21:=H.cl m21 (H21.imp cK);have H22:=E7 (P:=l.prog) (w:=w) (mg:=mg) (base:=base) (n:=0) I a o;have Q22:=I.cl m22 (H22.imp cK);have H23:=Fn (P:=l.prog) (w:=w) (mg:=mg) (base:=base) (n:=0) J a o;have Q23:=J.cl m23 (H23.imp cK);have H24:=Hw (n:=1) M Q23.mono Q22.mono o;have Q24:=M.cl m24 (H24.imp cK);have H25:=Jg (P:=l.prog) (w:=w) (mg:=mg) (base:=base) (n:=0) N;have R25:=N.clM m25 H25;have H26:=B6 (P:=l.prog) (w:=w) (mg:=mg) (base:=base) (n:=0) O eM o a;have Q26:=O.cl m26 (H26.imp cK);have H27:=Ed (P:=l.prog) (w:=w) (mg:=mg) (base:=base) (n:=0) Q eM a;have Q27:=Q.cl m27 (H27.imp cK);have H28:=EG (n:=1) R Q26.mono Q27.mono ij a;have Q28:=R.cl m28 (H28.imp cK);have H29:=Bn (n:=2) am Q26.mono Q27.mono Q28.mono a o;have Q29:=am.cl m29 (H29.imp cK);have H30:=CP (n:=3) T Q29.mono R25.mono ij j a o;have Q30:=T.cl m30 (H30.imp cK);have H33:=GC (P:=l.prog) (w:=w) (mg:=mg) (base:=base) (n:=0) ar OR;have R33:=MkM.mk ⟨_,_,H33,b33,⟨Sa,X5,i33,Sb⟩⟩;have H35:=AS (P:=l.prog) (w:=w) (mg:=mg) (base:=base) (n:=0) F35 OR Pd a O5 P2 O8;have R35:=MthMX.mk ⟨_,_,H35,b35,⟨X7,i35,k35⟩⟩;have H36:=IH (P:=l.prog) (w:=w) (mg:=mg) (base:=base) (n:=1) F36 OR U9.mono Q1.mono PR a O8;have R36:=MthMX.mk ⟨_,_,H36,b36,⟨X8,i36,k36⟩⟩;have H34:=DX (P:=l.prog) (w:=w) (mg:=mg) (base:=base) (n:=2) aw OR Q8.mono U9.mono R35.mono R36.mono O5;have R34:=MthMX.mk ⟨_,_,H34,b34,⟨X6,i34,k34⟩⟩;have H11:=Gg (P:=l.prog) (w:=w) (mg:=mg) (base:=base) (n:=3) t OR Q10.mono R33.mono R34.mono ij j a O5;have R11:=t.clMX m11 H11;have H31:=AO (P:=l.prog) (w:=w) (mg:=mg) (base:=base) (n:=6) U R11.mono Q12.mono a dS pC j eM Ex Is Pw Px P4 O9 Po;have Q31:=U.cl m31 (H31.imp cK);have H32:=yF (n:=7) F32 R13.mono R17.mono R19.mono Q15.mono Q30.mono p.mono R20.mono Q24.mono Q31.mono Q21.mono eh;show (H32.imp cK).imp Jc
theorem walk{l:PySem.W.OpenLaw}{q:Ä}{c:Y Str}{v:(Str->Ų Value)->Heap->Prop}{g:Å->Heap->Prop}{d:DefRec}{K:Ļ->PySem.W.Frag}(E:l.most=Z 63)(r:d.params.defaults=[])(e:PyProof.Rows.importsNone q=ų)
  (B:∀(w:Å)(h:Heap),g w h->(K w.params).In h) (y:∀w:Å,PySem.W.nsIn (K w.params) Á "least_grown"=Z ű/\PySem.W.nsIn (K w.params) Á "greatest_first"=Z ű)
  (F:∀(w:Å)(mg:Str->Ų Value)(j:Addr)(h:Heap),(K w.params).In h->h.Ns Á mg->mg d.name=Z (.ref j)->
   ∃o:É,(∀(s:À)(u:Value),đ s o ⟨[u],[]⟩ [("_law_script",u)])/\∀base:Heap,(K w.params).In base->base.Ns Á mg->FnOk l.prog w (K w.params) mg base bt 8 j o ["_law_script"] (sp_law (K w.params))) :
  PySem.W.WalkO q c v g l.row.toRowW d [] (λf vs=>PySem.call f vs):=
 L2.walk_of (n:=63) (k:=8) (x:="_law_script") (CX:=λ_=>bt) (sp:=λw=>sp_law (K w.params)) E 'b' r e ⟨S,'b','b'⟩ B F (λw H a ns C _ A=>⟨a,ns,S,A,C,(λt p=>by rw[Ge (y w)]at p;cases p),λ_=>rfl⟩) λ_ _ _ _ _ z=>z
end Kx
namespace Kx
open PySem PySem.W L2
noncomputable def KK:Params->Frag:=λP=>
 (nat_lit 2,⟨.none,ű,(.dict #[] 0),#[]⟩) ::
 (nat_lit 3,⟨(.type "dict"),ű,(.dict #[dE P "__name__" 165 ((.str "law_cutyard_k08_first_amiss" 480)),dE P "__doc__" 166 (.none),dE P "__package__" 167 (.none),dE P "__loader__" 168 ((.builtin "__main__.__loader__#opaque")),dE P "__spec__" 169 (.none),dE P "__annotations__" 170 ((.ref 6)),dE P "__builtins__" 171 ((.ref 4)),dE P "__file__" 173 ((.str "/claim/cut.py" 172)),dE P "__cached__" 174 (.none),dE P "YardError" 206 ((.ref 24)),dE P "NoName" 231 ((.ref 44)),dE P "Twice" 256 ((.ref 63)),dE P "TooGreat" 281 ((.ref 82)),dE P "NoText" 306 ((.ref 101)),dE P "turned" 314 ((.ref 108)),dE P "MOST_UNKNOWNS" 316 ((.int 8 315)),dE P "MOST_ROWS" 318 ((.int 12 317)),dE P "LETTERS" 322 ((.str "abcdefghijklmnopqrstuvwxyz" 321)),dE P "FIGURES" 324 ((.str "0123456789" 323)),dE P "MOST_LETTERS" 326 ((.int 12 325)),dE P "MOST_FIGURES" 328 ((.int 4 327)),dE P "is_name" 334 ((.ref 113)),dE P "number_form" 340 ((.ref 118)),dE P "sum_form" 351 ((.ref 125)),dE P "unknown_form" 360 ((.ref 132)),dE P "row_form" 369 ((.ref 139)),dE P "worth_form" 377 ((.ref 146)),dE P "line_form" 385 ((.ref 153)),dE P "sum_entries" 398 ((.ref 160)),dE P "turned_numbers" 404 ((.ref 165)),dE P "Reading" 465 ((.ref 203)),dE P "read_plan" 479 ((.ref 214)),dE P "_law_whole" 488 ((.ref 221)),dE P "_law_pool" 498 ((.ref 228)),dE P "_law_draw" 509 ((.ref 235)),dE P "_law_fresh" 518 ((.ref 242)),dE P "_law_word" 528 ((.ref 249)),dE P "_law_names" 545 ((.ref 256)),dE P "_law_number" 553 ((.ref 263)),dE P "_law_lines" 559 ((.ref 268)),dE P "_law_changed" 576 ((.ref 275)),dE P "_law_plain" 582 ((.ref 280)),dE P "_law_out_of_form" 594 ((.ref 287)),dE P "_law_any_place" 609 ((.ref 294)),dE P "_law_spoilt" 619 ((.ref 301)),dE P "_law_sum_due" 630 ((.ref 308)),dE P "_law_figured" 636 ((.ref 313)),dE P "_law_named" 642 ((.ref 318)),dE P "_law_summed" 651 ((.ref 325)),dE P "_law_read" 663 ((.ref 332)),dE P "_law_due" 678 ((.ref 339)),dE P "_law_told" 684 ((.ref 344)),dE P "law" 690 ((.ref 349))] 53),#[]⟩) ::
 (nat_lit 15,⟨(.type "tuple"),ű,(.seq #[(.type "ValueError")] 0),#[]⟩) ::
 (nat_lit 22,⟨(.type "tuple"),ű,(.seq #[] 0),#[]⟩) ::
 (nat_lit 23,⟨(.type "dict"),ű,(.dict #[dE P "__module__" 196 ((.str "cutyard.errors" 187)),dE P "__firstlineno__" 200 ((.int 2 199)),dE P "__static_attributes__" 201 ((.ref 22)),dE P "__weakref__" 203 ((.ref 25)),dE P "__doc__" 204 (.none)] 3),#[]⟩) ::
 (nat_lit 24,⟨(.type "type"),ű,(.cls ⟨"YardError",[(.type "ValueError")],[(.ref 24),(.type "ValueError"),(.type "Exception"),(.type "BaseException"),(.type "object")],23,"YardError",ų,[],[(.ref 44),(.ref 63),(.ref 82),(.ref 101)],Ŵ,ű,Ŵ⟩),#[(Z (.ref 15)),ű,(Z (.str "YardError" 189)),(Z (.str "YardError" 197)),(Z (.builtin "ValueError.__new__")),(Z (.bool ų))]⟩) ::
 (nat_lit 25,⟨(.type "getset_descriptor"),ű,(.fields #[(.str "__weakref__" 202),(.ref 24),(.builtin "ExceptionGroup.__weakref__"),.none]),#[]⟩) ::
 (nat_lit 28,⟨(.type "tuple"),ű,(.seq #[(.ref 24)] 0),#[]⟩) ::
(nat_lit 40,cO "__init__" 219 "NoName.__init__" 220 221 6 2 3 35 181 36 (.ref 37) (.ref 38) 39 224 225) ::
 (nat_lit 41,fO kr "__init__" "NoName.__init__" "cutyard.errors" 187 40) ::
 (nat_lit 42,⟨(.type "tuple"),ű,(.seq #[(.str "at" 227)] 0),#[]⟩) ::
 (nat_lit 43,⟨(.type "dict"),ű,(.dict #[dE P "__module__" 214 ((.str "cutyard.errors" 187)),dE P "__firstlineno__" 218 ((.int 4 217)),dE P "__init__" 226 ((.ref 41)),dE P "__static_attributes__" 228 ((.ref 42)),dE P "__doc__" 229 (.none)] 2),#[]⟩) ::
 (nat_lit 44,⟨(.type "type"),ű,(.cls ⟨"NoName",[(.ref 24)],[(.ref 44),(.ref 24),(.type "ValueError"),(.type "Exception"),(.type "BaseException"),(.type "object")],43,"NoName",ų,[],[],Ŵ,ű,Ŵ⟩),#[(Z (.ref 28)),ű,(Z (.str "NoName" 207)),(Z (.str "NoName" 215)),(Z (.builtin "ValueError.__new__")),(Z (.bool ų))]⟩) ::
 (nat_lit 47,⟨(.type "tuple"),ű,(.seq #[(.ref 24)] 0),#[]⟩) ::
(nat_lit 59,cO "__init__" 244 "Twice.__init__" 245 246 10 2 3 54 181 55 (.ref 56) (.ref 57) 58 249 250) ::
 (nat_lit 60,fO kJ "__init__" "Twice.__init__" "cutyard.errors" 187 59) ::
 (nat_lit 61,⟨(.type "tuple"),ű,(.seq #[(.str "at" 252)] 0),#[]⟩) ::
 (nat_lit 62,⟨(.type "dict"),ű,(.dict #[dE P "__module__" 239 ((.str "cutyard.errors" 187)),dE P "__firstlineno__" 243 ((.int 8 242)),dE P "__init__" 251 ((.ref 60)),dE P "__static_attributes__" 253 ((.ref 61)),dE P "__doc__" 254 (.none)] 2),#[]⟩) ::
 (nat_lit 63,⟨(.type "type"),ű,(.cls ⟨"Twice",[(.ref 24)],[(.ref 63),(.ref 24),(.type "ValueError"),(.type "Exception"),(.type "BaseException"),(.type "object")],62,"Twice",ų,[],[],Ŵ,ű,Ŵ⟩),#[(Z (.ref 47)),ű,(Z (.str "Twice" 232)),(Z (.str "Twice" 240)),(Z (.builtin "ValueError.__new__")),(Z (.bool ų))]⟩) ::
 (nat_lit 66,⟨(.type "tuple"),ű,(.seq #[(.ref 24)] 0),#[]⟩) ::
(nat_lit 78,cO "__init__" 269 "TooGreat.__init__" 270 271 14 2 3 73 181 74 (.ref 75) (.ref 76) 77 274 275) ::
 (nat_lit 79,fO mf "__init__" "TooGreat.__init__" "cutyard.errors" 187 78) ::
 (nat_lit 80,⟨(.type "tuple"),ű,(.seq #[(.str "at" 277)] 0),#[]⟩) ::
 (nat_lit 81,⟨(.type "dict"),ű,(.dict #[dE P "__module__" 264 ((.str "cutyard.errors" 187)),dE P "__firstlineno__" 268 ((.int 12 267)),dE P "__init__" 276 ((.ref 79)),dE P "__static_attributes__" 278 ((.ref 80)),dE P "__doc__" 279 (.none)] 2),#[]⟩) ::
 (nat_lit 82,⟨(.type "type"),ű,(.cls ⟨"TooGreat",[(.ref 24)],[(.ref 82),(.ref 24),(.type "ValueError"),(.type "Exception"),(.type "BaseException"),(.type "object")],81,"TooGreat",ų,[],[],Ŵ,ű,Ŵ⟩),#[(Z (.ref 66)),ű,(Z (.str "TooGreat" 257)),(Z (.str "TooGreat" 265)),(Z (.builtin "ValueError.__new__")),(Z (.bool ų))]⟩) ::
 (nat_lit 85,⟨(.type "tuple"),ű,(.seq #[(.ref 24)] 0),#[]⟩) ::
(nat_lit 97,cO "__init__" 294 "NoText.__init__" 295 296 18 2 3 92 181 93 (.ref 94) (.ref 95) 96 299 300) ::
 (nat_lit 98,fO l0 "__init__" "NoText.__init__" "cutyard.errors" 187 97) ::
 (nat_lit 99,⟨(.type "tuple"),ű,(.seq #[(.str "at" 302)] 0),#[]⟩) ::
 (nat_lit 100,⟨(.type "dict"),ű,(.dict #[dE P "__module__" 289 ((.str "cutyard.errors" 187)),dE P "__firstlineno__" 293 ((.int 16 292)),dE P "__init__" 301 ((.ref 98)),dE P "__static_attributes__" 303 ((.ref 99)),dE P "__doc__" 304 (.none)] 2),#[]⟩) ::
 (nat_lit 101,⟨(.type "type"),ű,(.cls ⟨"NoText",[(.ref 24)],[(.ref 101),(.ref 24),(.type "ValueError"),(.type "Exception"),(.type "BaseException"),(.type "object")],100,"NoText",ų,[],[],Ŵ,ű,Ŵ⟩),#[(Z (.ref 85)),ű,(Z (.str "NoText" 282)),(Z (.str "NoText" 290)),(Z (.builtin "ValueError.__new__")),(Z (.bool ų))]⟩) ::
(nat_lit 107,cO "turned" 309 "turned" 310 311 21 1 3 104 181 105 .none .none 106 312 313) ::
 (nat_lit 108,fO lP "turned" "turned" "cutyard.rows" 307 107) ::
(nat_lit 112,cO "is_name" 329 "is_name" 330 331 30 1 3 109 181 110 .none .none 111 332 333) ::
 (nat_lit 113,fO lB "is_name" "is_name" "cutyard.texts" 319 112) ::
(nat_lit 117,cO "number_form" 335 "number_form" 336 337 34 1 3 114 181 115 .none .none 116 338 339) ::
 (nat_lit 118,fO kY "number_form" "number_form" "cutyard.texts" 319 117) ::
(nat_lit 124,cO "sum_form" 341 "sum_form" 342 343 43 1 3 119 181 120 (.ref 121) (.ref 122) 123 349 350) ::
 (nat_lit 125,fO nU "sum_form" "sum_form" "cutyard.texts" 319 124) ::
(nat_lit 131,cO "unknown_form" 352 "unknown_form" 353 354 58 1 3 126 181 127 (.ref 128) (.ref 129) 130 358 359) ::
 (nat_lit 132,fO mQ "unknown_form" "unknown_form" "cutyard.texts" 319 131) ::
(nat_lit 138,cO "row_form" 361 "row_form" 362 363 70 1 3 133 181 134 (.ref 135) (.ref 136) 137 367 368) ::
 (nat_lit 139,fO mX "row_form" "row_form" "cutyard.texts" 319 138) ::
(nat_lit 145,cO "worth_form" 370 "worth_form" 371 372 78 1 3 140 181 141 (.ref 142) (.ref 143) 144 375 376) ::
 (nat_lit 146,fO oP "worth_form" "worth_form" "cutyard.texts" 319 145) ::
(nat_lit 152,cO "line_form" 378 "line_form" 379 380 83 1 3 147 181 148 (.ref 149) (.ref 150) 151 383 384) ::
 (nat_lit 153,fO nO "line_form" "line_form" "cutyard.texts" 319 152) ::
(nat_lit 159,cO "sum_entries" 386 "sum_entries" 387 388 92 3 3 154 181 155 (.ref 156) (.ref 157) 158 396 397) ::
 (nat_lit 160,fO lN "sum_entries" "sum_entries" "cutyard.texts" 319 159) ::
(nat_lit 164,cO "turned_numbers" 399 "turned_numbers" 400 401 103 1 3 161 181 162 .none .none 163 402 403) ::
 (nat_lit 165,fO k6 "turned_numbers" "turned_numbers" "cutyard.texts" 319 164) ::
(nat_lit 178,cO "__init__" 417 "Reading.__init__" 418 419 107 1 3 173 181 174 (.ref 175) (.ref 176) 177 421 422) ::
 (nat_lit 179,fO n4 "__init__" "Reading.__init__" "cutyard.texts" 319 178) ::
(nat_lit 185,cO "read_line" 424 "Reading.read_line" 425 426 113 3 3 180 181 181 (.ref 182) (.ref 183) 184 431 432) ::
 (nat_lit 186,fO mE "read_line" "Reading.read_line" "cutyard.texts" 319 185) ::
(nat_lit 192,cO "read_unknown" 434 "Reading.read_unknown" 435 436 124 3 3 187 181 188 (.ref 189) (.ref 190) 191 440 441) ::
 (nat_lit 193,fO oh "read_unknown" "Reading.read_unknown" "cutyard.texts" 319 192) ::
(nat_lit 199,cO "read_row" 443 "Reading.read_row" 444 445 134 3 3 194 181 195 (.ref 196) (.ref 197) 198 451 452) ::
 (nat_lit 200,fO oo "read_row" "Reading.read_row" "cutyard.texts" 319 199) ::
 (nat_lit 201,⟨(.type "tuple"),ű,(.seq #[(.str "bounds" 454),(.str "names" 455),(.str "rows" 456),(.str "worth" 457)] 0),#[]⟩) ::
 (nat_lit 202,⟨(.type "dict"),ű,(.dict #[dE P "__module__" 412 ((.str "cutyard.texts" 319)),dE P "__firstlineno__" 416 ((.int 105 415)),dE P "__init__" 423 ((.ref 179)),dE P "read_line" 433 ((.ref 186)),dE P "read_unknown" 442 ((.ref 193)),dE P "read_row" 453 ((.ref 200)),dE P "__static_attributes__" 458 ((.ref 201)),dE P "__dict__" 460 ((.ref 204)),dE P "__weakref__" 462 ((.ref 205)),dE P "__doc__" 463 (.none)] 4),#[]⟩) ::
 (nat_lit 203,⟨(.type "type"),ű,(.cls ⟨"Reading",[(.type "object")],[(.ref 203),(.type "object")],202,"Reading",ų,[],[],Ŵ,ű,Ŵ⟩),#[ű,ű,(Z (.str "Reading" 405)),(Z (.str "Reading" 413)),(Z (.builtin "object.__new__")),(Z (.bool ų))]⟩) ::
 (nat_lit 204,⟨(.type "getset_descriptor"),ű,(.fields #[(.str "__dict__" 459),(.ref 203),(.builtin "function.__dict__"),(.builtin "function.__dict__#set")]),#[]⟩) ::
 (nat_lit 205,⟨(.type "getset_descriptor"),ű,(.fields #[(.str "__weakref__" 461),(.ref 203),(.builtin "ExceptionGroup.__weakref__"),.none]),#[]⟩) ::
(nat_lit 213,cO "read_plan" 466 "read_plan" 467 468 140 1 3 208 181 209 (.ref 210) (.ref 211) 212 477 478) ::
 (nat_lit 214,fO oa "read_plan" "read_plan" "cutyard.texts" 319 213) ::
(nat_lit 220,cO "_law_whole" 482 "_law_whole" 483 484 154 1 3 215 181 216 (.ref 217) (.ref 218) 219 486 487) ::
 (nat_lit 221,fO oq "_law_whole" "_law_whole" "law_cutyard_k08_first_amiss" 480 220) ::
(nat_lit 227,cO "_law_pool" 489 "_law_pool" 490 491 156 1 3 222 181 223 (.ref 224) (.ref 225) 226 496 497) ::
 (nat_lit 228,fO ng "_law_pool" "_law_pool" "law_cutyard_k08_first_amiss" 480 227) ::
(nat_lit 234,cO "_law_draw" 499 "_law_draw" 500 501 164 2 3 229 181 230 (.ref 231) (.ref 232) 233 507 508) ::
 (nat_lit 235,fO oU "_law_draw" "_law_draw" "law_cutyard_k08_first_amiss" 480 234) ::
(nat_lit 241,cO "_law_fresh" 510 "_law_fresh" 511 512 173 2 3 236 181 237 (.ref 238) (.ref 239) 240 516 517) ::
 (nat_lit 242,fO nV "_law_fresh" "_law_fresh" "law_cutyard_k08_first_amiss" 480 241) ::
(nat_lit 248,cO "_law_word" 519 "_law_word" 520 521 179 2 3 243 181 244 (.ref 245) (.ref 246) 247 526 527) ::
 (nat_lit 249,fO nR "_law_word" "_law_word" "law_cutyard_k08_first_amiss" 480 248) ::
(nat_lit 255,cO "_law_names" 529 "_law_names" 530 531 184 2 3 250 181 251 (.ref 252) (.ref 253) 254 543 544) ::
 (nat_lit 256,fO pA "_law_names" "_law_names" "law_cutyard_k08_first_amiss" 480 255) ::
(nat_lit 262,cO "_law_number" 546 "_law_number" 547 548 202 1 3 257 181 258 (.ref 259) (.ref 260) 261 551 552) ::
 (nat_lit 263,fO nu "_law_number" "_law_number" "law_cutyard_k08_first_amiss" 480 262) ::
(nat_lit 267,cO "_law_lines" 554 "_law_lines" 555 556 209 3 3 264 181 265 .none .none 266 557 558) ::
 (nat_lit 268,fO kO "_law_lines" "_law_lines" "law_cutyard_k08_first_amiss" 480 267) ::
(nat_lit 274,cO "_law_changed" 560 "_law_changed" 561 562 227 3 3 269 181 270 (.ref 271) (.ref 272) 273 574 575) ::
 (nat_lit 275,fO nC "_law_changed" "_law_changed" "law_cutyard_k08_first_amiss" 480 274) ::
(nat_lit 279,cO "_law_plain" 577 "_law_plain" 578 579 255 1 3 276 181 277 .none .none 278 580 581) ::
 (nat_lit 280,fO lJ "_law_plain" "_law_plain" "law_cutyard_k08_first_amiss" 480 279) ::
(nat_lit 286,cO "_law_out_of_form" 583 "_law_out_of_form" 584 585 268 2 3 281 181 282 (.ref 283) (.ref 284) 285 592 593) ::
 (nat_lit 287,fO oy "_law_out_of_form" "_law_out_of_form" "law_cutyard_k08_first_amiss" 480 286) ::
(nat_lit 293,cO "_law_any_place" 595 "_law_any_place" 596 597 291 3 3 288 181 289 (.ref 290) (.ref 291) 292 607 608) ::
 (nat_lit 294,fO oN "_law_any_place" "_law_any_place" "law_cutyard_k08_first_amiss" 480 293) ::
(nat_lit 300,cO "_law_spoilt" 610 "_law_spoilt" 611 612 314 2 3 295 181 296 (.ref 297) (.ref 298) 299 617 618) ::
 (nat_lit 301,fO pB "_law_spoilt" "_law_spoilt" "law_cutyard_k08_first_amiss" 480 300) ::
(nat_lit 307,cO "_law_sum_due" 620 "_law_sum_due" 621 622 341 3 3 302 181 303 (.ref 304) (.ref 305) 306 628 629) ::
 (nat_lit 308,fO nM "_law_sum_due" "_law_sum_due" "law_cutyard_k08_first_amiss" 480 307) ::
(nat_lit 312,cO "_law_figured" 631 "_law_figured" 632 633 350 1 3 309 181 310 .none .none 311 634 635) ::
 (nat_lit 313,fO me "_law_figured" "_law_figured" "law_cutyard_k08_first_amiss" 480 312) ::
(nat_lit 317,cO "_law_named" 637 "_law_named" 638 639 355 1 3 314 181 315 .none .none 316 640 641) ::
 (nat_lit 318,fO lx "_law_named" "_law_named" "law_cutyard_k08_first_amiss" 480 317) ::
(nat_lit 324,cO "_law_summed" 643 "_law_summed" 644 645 357 1 3 319 181 320 (.ref 321) (.ref 322) 323 649 650) ::
 (nat_lit 325,fO oM "_law_summed" "_law_summed" "law_cutyard_k08_first_amiss" 480 324) ::
(nat_lit 331,cO "_law_read" 652 "_law_read" 653 654 366 1 3 326 181 327 (.ref 328) (.ref 329) 330 661 662) ::
 (nat_lit 332,fO mr "_law_read" "_law_read" "law_cutyard_k08_first_amiss" 480 331) ::
(nat_lit 338,cO "_law_due" 664 "_law_due" 665 666 386 1 3 333 181 334 (.ref 335) (.ref 336) 337 676 677) ::
 (nat_lit 339,fO mw "_law_due" "_law_due" "law_cutyard_k08_first_amiss" 480 338) ::
(nat_lit 343,cO "_law_told" 679 "_law_told" 680 681 410 1 3 340 181 341 .none .none 342 682 683) ::
 (nat_lit 344,fO kS "_law_told" "_law_told" "law_cutyard_k08_first_amiss" 480 343) ::
(nat_lit 348,cO "law" 685 "law" 686 687 433 1 3 345 181 346 .none .none 347 688 689) ::
 (nat_lit 349,fO lZ "law" "law" "law_cutyard_k08_first_amiss" 480 348)::[]
end Kx
noncomputable def PySem.W.Fast.tw12692376326397994385:=PySem.Challenge.pw_cutyard_k08_first_amiss
theorem PySem.W.Fast.te12692376326397994385:PySem.Challenge.pw_cutyard_k08_first_amiss=PySem.W.Fast.tw12692376326397994385:=rfl
noncomputable def PySem.W.Fast.tw5385739360559341639:=Kx.KK
theorem PySem.W.Fast.te5385739360559341639:Kx.KK=PySem.W.Fast.tw5385739360559341639:=rfl
structure PySem.W.Fast:Prop where(tw10155283420237959988 tw10437389198462600719 tw1046666693621729094 tw1049773132917848706 tw10960019107400486920 tw10993182139142219031 tw110027511507660800 tw11080694742355536644 tw11314247692433548716 tw1136902215914785539 tw11470841067511284411 tw11696900015342728540 tw11830938911468847037 tw1197333951492946580 tw12173374083055881941 tw12652858281586455056 tw12775136178402117802 tw12820276808816029443 tw12872647659016247176 tw12959688986150931322 tw13016955786524906935 tw13094478912325725201 tw13126238509914026916 tw1315493023198317870 tw13864462571127000594 tw13893077565877552811 tw1403162865397440311 tw1404644180598318575 tw14068974918628328455 tw14282160398873705366 tw14360568324816677061 tw14506686346814431662 tw14664175973531772964 tw14873114403878261428 tw14990002396885969036 tw15287160868809693290 tw15590955001166739421 tw15645935381322477480 tw15797293219409619248 tw15879863856137815448 tw16465439047740638523 tw1650869409725241242 tw16859969170789566488 tw16967578817180670043 tw17126732228719348520 tw17364720701955543323 tw17615841269727626745 tw17876172496940685693 tw18070122068990151027 tw18411696671344291042 tw1916807677969469031 tw1988751493627579979 tw1998012722017735708 tw2276748948841400584 tw2533916500546141505 tw2649211208666846383 tw2656159491658244016 tw2891806352574806449 tw3278123926791344366 tw390420410200087803 tw4018377279920937662 tw4266813203594058832 tw4376316834538503434 tw4545564242576372609 tw4551490792833188597 tw4708833045807187626 tw4764271078231607919 tw4853898972392276856 tw5064025635337130436 tw5153582712306364658 tw5495532128224351281 tw55005005828310923 tw5767328938574210148 tw5807638341194426938 tw5844327878977628003 tw5912502691941912399 tw6132237171333092794 tw6407633575014234603 tw6414803423355482713 tw6613685778775945103 tw7009998256640314798 tw7158882467497889005 tw7195383066884276313 tw7269718601337643587 tw7282474357352712238 tw728971017915158173 tw7492968551301242705 tw7834015155558029330 tw7931020974017203487 tw7959562010158457333 tw7984301507337361263 tw8126797530875442112 tw8326312029526989394 tw8495490671649031755 tw8624403350354894844 tw8874888980421111418 tw908466994222589270 tw910745177842435118 tw9273359370464118900 tw9358051771397140261 tw9369295756493263642 tw9403962594883430067 tw9534239885751102711 tw9838139227684076354:True)
end
open PySem PySem.W PyProof.Rows
set_option maxRecDepth 100000 in
set_option maxHeartbeats 0 in
theorem PySem.Challenge.cw_cutyard_k08_first_amiss_holds : PySem.Challenge.rw_cutyard_k08_first_amiss.Holds := by
 w_on;o_law;o_head (kHook Kx.KK (2::3::15::22::23::24::25::28::40::41::42::43::44::47::59::60::61::62::63::66::78::79::80::81::82::85::97::98::99::100::101::107::108::112::113::117::118::124::125::131::132::138::139::145::146::152::153::159::160::164::165::178::179::185::186::192::193::199::200::201::202::203::204::205::213::214::220::221::227::228::234::235::241::242::248::249::255::256::262::263::267::268::274::275::279::280::286::287::293::294::300::301::307::308::312::313::317::318::324::325::331::332::338::339::343::344::348::349::[]) (λ_=>by kernel_rfl));(case hw=>w_witness2)
 k_fill
 refine Kx.walk (l:=PySem.Challenge.rw_cutyard_k08_first_amiss) rfl rfl (by decide +kernel) (λw h Y=>kIn_of Y) (λw=>⟨?N1,?N2⟩) ?F
 (case N1=>k_is);(case N2=>k_is)
 case F=>
  intro w mg fa h KX G Ri;refine' Kx.all_mk KX G Ri ?Pz ?_ ?_ ?_ ?_ ?_ ?_ ?_ ?_ ?_ ?_ ?_ ?_ ?_ ?_ ?_ ?_ ?_ ?_ ?_ ?_ ?_ ?_ ?_ ?_ ?_ ?_ ?_ ?_ ?_ ?_ ?_ ?_ ?_ ?_ ?_ ?_ ?_ ?_ ?_ ?_ ?_ ?_ ?_ ?_ ?_ ?_ ?_ ?_ ?_ ?_ ?_ ?_ ?_ ?_ ?_ ?_ ?_ ?_ ?_ ?_ ?_ ?_ ?_ ?SQ ?Rk ?Rl ?Qq ?Qr ?Qs ?Qt ?RZ ?R0 ?QV ?QW ?QX ?QY ?Ro ?Rq ?Qu ?Qv ?Qw ?Qx ?QD ?QE ?PV ?PY ?PZ ?P0
  (case Rk=>k_is);(case Rl=>k_is);(case Qq=>k_is);(case Qr=>k_is);(case Qs=>k_is);(case Qt=>kernel_rfl)
  (case RZ=>k_is);(case R0=>k_is);(case QV=>k_is);(case QW=>k_is);(case QX=>k_is);(case QY=>kernel_rfl)
  (case Ro=>k_is);(case Rq=>k_is);(case Qu=>k_is);(case Qv=>k_is);(case Qw=>k_is);(case Qx=>kernel_rfl)
  (case QD=>k_is);(case QE=>k_is);(case PV=>k_is);(case PY=>k_is);(case PZ=>k_is);(case P0=>kernel_rfl)
  (case SQ=>kernel_rfl)
  (case Pz=>k_is)
  all_goals first|(refine' L2.Has.of ?a ?l ?c;(case a=>k_is);(case l=>k_is);(case c=>k_is))|(refine' L2.HasM.of ?a ?i ?l ?c ?k;(case a=>k_is);(case i=>k_is);(case l=>k_is);(case c=>k_is);(case k=>k_is))|k_is|skip

