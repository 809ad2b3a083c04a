import PyProof.Rows.All
import Wide.All
import OpenK.AllK
import Wide.FinOn
import Lean
import PyProof.EqAt
import PyProof.EqKinds
import PyProof.TupleCall
import PyProof.NeKinds
import KE.KLam
import KE.KMinKey
import KE.KSortTup
import PyProof.AutoListH
import PyProof.MeetsStr
import PyProof.StrLawsJoin
import PyProof.FitsReplace
import PyProof.Rows.TupDisplay
import PyProof.ListRange
import PyProof.ZipIter
import PyProof.ListNew
import KE.KSortKey
import PyProof.AttrMissSeq
import KE.KDictOf
import PyProof.StationsW
import PyProof.ExcClass2
import PyProof.ExcInit
import KE.KDictAnyGet
import PyProof.ExcBaseAll.ValueError
import PyProof.RulesAs
import PyProof.NsDelKeeps
import PyProof.ExcAttrAll.ValueError
import PyProof.IsiBase
import KE.KIsAll
import PyProof.InstStoreFacts
import PyProof.Rows.SetFrom
import PyProof.SetRoads
import PyProof.StrLawsChain
import PyProof.StrLawsTight
import PyProof.Rows.StrItems
import PyProof.Rows.StrSplitCount
import KE.KIntText
import PyProof.StrCalls2
import PyProof.StrLoop
import PyProof.StrWalks
import PyProof.StrOps
import PyProof.StrLawsIn
import PyProof.Rows.FStr
import PyProof.Rows.StrSplitAre
import PyProof.CallStr
import PyProof.IsiNone
import PyProof.Rows.Range3
import PyProof.Rows.ChunkLeaf
import PySem.Challenge.RW_cutyard_k59_whole_seating
open PySem.W (instObj methodObj Frag lookIn InstAt plainGet hasDictIn findIn handedIn plainOver takerIn makesIn typeIn emptyDict keepIn callWith_K isFn cellsFrom_some fnOf codeIn kIn_of mg_of nsIn envX kla_obj kla_fn tabObj codeHdIn mg_none_of km_in_of)
set_option Elab.async false
set_option linter.all false
set_option maxRecDepth 100000
noncomputable section
open List renaming length_map->LC,getElem?_append_left->LF,getElem?_append_right->LH,getD_eq_getElem?_getD->LJ,length_append->LL,getElem?_map->LN,mem_cons_of_mem->LO,mem_cons_self->LQ,size_toArray->LR,mem_singleton->LV,length_cons->LX,mem_map->LY,mem_cons->L0,mem_append_right->L3,length_range->L4,map_cons->L5,getElem?_eq_some_iff->L9,append_assoc->Ma,mem_of_getElem?->Mb,length_set->Mc,mem_append->Mf,map_map->Mg,mem_range->Mi,getElem?_eq_none->Mn,getElem?_range->Mp,getElem?_set_ne->Mq,length_take->Ms,getElem?_set_self->Mt,nodup_cons->MB,mem_filter->MF,nodup_append->MI,sum_cons->MJ,getElem?_of_mem->MK,append_nil->ML,map_append->MM,flatten_cons->MN,length_nil->MP,getElem?_eq_getElem->MT,replicate_succ->MV,length_replicate->MW,take_length->M3,find?_cons_of_neg->M4,eraseIdx_eq_take_drop_succ->Ng,ext_getElem?->Nj,getElem?_eq_none_iff->Nm,getElem?_zip_eq_some->Nn,all_eq_true->Nr,getElem?_replicate->Nw,length_eq_zero_iff->Nz,find?_cons_of_pos->NG,not_mem_nil->NI,mem_iff_getElem?->NK,mem_append_left->NM,getElem?_take_of_lt->NN,map_congr_left->NV,countP_eq_length_filter->NX,zipWith_cons_cons->NY,idxOf_lt_length_of_mem->N1,any_cons->N4,take_add_one->N7,pairwise_map->N8,length_drop->Oa,mem_filterMap->Og,foldl_cons->Oi,find?_cons->Oj,take_of_length_le->Ot,getElem_inj->OA,of_mem_zip->OF,drop_eq_getElem_cons->OG,sum_append->OH,range_succ->OI,pairwise_iff_getElem->OK,getElem?_drop->OQ,getElem?_cons_succ->O0,filter_cons_of_pos->O1,filter_cons_of_neg->O2,lookup_cons->Pb,take_succ_eq_append_getElem->Pc,map_zipWith->Pe,length_filter_le->Pk,nil_append->Pq,map_nil->Pw,forIn_cons->Px,countP_map->PM,eq_nil_of_length_eq_zero->PR,filterMap_cons->PU,length_zipWith->PV,nodup_nil->PY,drop_zero->P1,filterMap_map->P6,lookup_append->P8,getElem_idxOf->Qd,pairwise_cons->Qe,flatMap_cons->Qk,mem_of_find?_eq_some->Qn,zipWith_map->Qv,nodup_range->Qw,any_eq_true->Qx,mem_flatten->Qy,length_erase_of_mem->QC,filterMap_cons_some->QD,filterMap_cons_none->QE,mem_flatMap->QF,map_zip_eq_zipWith->QG,length_zip->QI,length_pos_of_mem->QL,filter_eq_nil_iff->QO,forIn_nil->QP,getElem?_zipWith->QQ,mem_of_mem_erase->QS,all_cons->QV
open PySem renaming wpAny_bind->LD,wpAny_pure->LP,boot_len->L8,wpAny_holding->Mv,mem_of_lookup->MD,codeAny_builtin->MQ,wpAny_mono->MZ,wpAny_loadPart'->M0,wpAny_newObj_type->M5,wpAny_seqItems->M7,wpAny_field->M9,wpAny_callSpecial?_slot->Ny,sizeLine_eq->ND,wpAny_call_entry->NH,call_meets->NO,wpAny_truthy_bool->NS,plainId_quiet->NU,wpAny_tryCatch->NW,wpAny_setField_rec->NZ,wpAny_passesOwn->N3,wpAny_pyIter_list->N6,wpAny_Call_Name_kw->Oh,wpAny_pyNext_list_item->Oq,wpAny_pyNext_list_end->Ou,codeAny_mono->Ov,wpAny_typeOf->Ox,wpAny_letGo->OE,wpAny_rule->OW,wpAny_pyNext_tuple_item->OY,wpAny_pyNext_tuple_end->O4,wpAny_standAt->O9,wpAny_newList->Pa,wpAny_execs_nil->Po,wpAny_updateSeq_pair->Py,call_isinstance->PB,tupleKind_room_in1->P7,wpAny_pyIter_tuple->P9,wpAny_onRaise->Qf,typeIs_int->Qm,wpAny_eqBool_int->Qp,noFill_tuple_add->Qq,wpAny_ite_false->QH,wpAny_updateSeq->QJ,wpAny_of_eq->QK,Shared->À,starEach->Á,mainGlobals->Ã,model->Ä,Expr->Å,Program->Æ,World->Ç,Around->É,assignEach->Ê,Stmt->Ë,compareOp->Ì,FuncData->Í,binaryOp->Î,foldedSetIterable->Ï,swapsWith->Ð,backTo->Ñ,attributeBase->Ò,IsPair->Õ,Keyword->Ö,sysModules->Ø,bootBuiltins->Ù,cellsFrom->Ú,keywordEach->Û,codeAny->Þ,rawInt->ß,pyNext->à,Scope->â,cLine->ã,swapsWithSole->æ,swappedStores->ç,sliceBounds->è,getItem->é,getattributeRaised->ê,builtinsNs->ë,backToKw->ì,IsZip->î,Operator->ò,Env->ó,IsPart->õ,letOwnedTupleGo->ø,recursionLimit->ù,valueAt->ú,Tok->þ,callerA->Ā,bindName->ā,IntMulOk->Ą,tupleKind->Ĉ,seqItems?->ĉ,seqIndex?->Ċ,scanBound->ċ,PassesOwn->Ď,Arguments->ď,subscripted->Đ,isCodeTable->đ,IsRangeIter->Ē,BindsTo->ė,wpAny_runValue->ę,wpAny_call->Ě,wpAny_bindName->ě,typeLookup->Ĝ,newFunctionEnv->ĝ,getAttr?->Ğ,compEnvC->ğ,bindArgs->Ġ,atKey->ġ,Result->ģ,wpAny_binaryOp_repeat_ref->Ħ,seq_tuple_add->Ī,field->Į,bindL->į,bindC->Ĵ,CmpOp->Ļ,wpAny_pyNext_range_end->ł,wpAny_pyIter_tupleiter->Ń,wpAny_pyIter_rangeiter->ń,seqIndex_neg->Ņ,pyIter->ņ,concat_meets->Ň,Params->ŋ,ItemsOf->Ō,wpAny_pyIter_listiter->Ő,unsupported->ő,seqIndex_of->Œ,GenState->Ŕ,wpAny_pyIter_range->ś,typeIs_str->Ŝ,sub_AttributeError->ŝ,stored->Ş,wpAny_sequenceKey->ţ,slot_list_getitem->Ť,collect->ť,Model->ū,Meets->Ŭ,wpAny_pyIter_zip->Ů,wpAny_Dict_empty->ů,stored_length_le->Ű,storeName->ű,wpAny_specialOf->ŵ,pushCells_keeps->Ŷ,isinstance_true->ŷ,codeAny_of_tree->Ÿ,am_miss_of_fast->Ź
open PySem.Heap renaming get?_push_of_some->LK,get?_push_size->LS,lt_size->LU,size_push->Mz,get?_none_of_le->Nd,get?_push_ne->O3
open Nat renaming le_refl->LM,ne_of_lt->LZ,le_trans->L6,lt_of_lt_of_le->Me,lt_succ_of_lt->Mr,lt_or_ge->Mu,le_of_lt->MC,zero_le->ME,lt_irrefl->MY,sub_self->M8,lt_succ_self->Np,ne_of_gt->NC,lt_of_le_of_lt->NJ,pow_le_pow_right->NR,add_sub_cancel_left->Of,mul_le_mul_right->OC,mul_le_mul->OX,le_succ->O5,le_add_right->Pd,add_sub_add_right->Pg,mul_comm->Pu,pow_lt_pow_right->PN,mul_add_mod_self_right->Qg,le_succ_of_le->Qj,lt_trans->Qr,pow_add->QM,le_of_eq->QW,succ_mul->QY,sub_zero->QZ,pow_succ->Q0
open PyProof.Rows renaming boot_tuple->LW,slot_tuple_getitem->MX,callWith_type1->Na,get?_update_seq->OJ,assignInOrder_cons->ON,boot_sorted->OV,boot_sum->Ph,boot_abs->Pj,boot_dict->QN,boot_str->QT,seqObj->È,IsTup->ä,envOfC->ï,AllBare->ö,News->Ĥ,subscriptTail->ī,listUpdate_at->Ĭ,subscriptTail_builtinR->ō,listItems_at->Ŏ,IntsAre->ŏ,entry_tuple_getitem->Ś,args_tuple_getitem->Š,entry_list_sort->Ż
open Classical renaming byContradiction->Mh,propDecidable->ÿ
open PySem.PassesOwn renaming never->Mj
open Bool renaming false_ne_true->Ml,false_eq_true->Nb,and_eq_true->Nq,or_false->QU,true->ž,false->β
open Ne renaming symm->Mo
open Option.some renaming inj->Mw
open Int renaming mul_zero->MA,toNat_natCast->MG,le_of_lt->MS,zero_add->MU,mul_assoc->M6,lt_or_le->Nf,le_refl->Ni,zero_mul->Nt,one_mul->Nu,mul_nonneg->Nv,eq_ofNat_of_zero_le->NA,eq_of_mul_eq_mul_left->NL,mul_comm->NP,mul_eq_zero->NQ,mul_ediv_cancel_left->Oc,ediv_mul_cancel->Od,emod_lt_of_pos->Oo,natAbs_neg->Oy,natAbs_mul->Oz,emod_nonneg->OM,eq_one_of_dvd_one->Pn,mul_le_mul_of_nonneg_right->PH,gcd_pos_of_ne_zero_right->P2,add_mul->P4,neg_mul->P5,eq_of_mul_eq_mul_right->Qh,mul_neg_of_pos_of_neg->Qo,add_zero->QA,ediv_one->QX
open PySem.Around renaming under_plainId->MO,under->ē,frames_deeper->Ę
open PySem.W renaming mg_none_of->Nc,Frag->Â,nsIn->Ü,emptyDict->á,findIn->å,keepIn->í,codeHdIn->ñ,instObj->ô,tabObj->ü,codeIn->ý,kas_rev->ă,hasDictIn->Č,fnOf->č,plainGet->Ģ,plainOver->ĵ,methodObj->Ķ,kas_tail3->ķ,kas_place->ĸ,kas_count->Ĺ,kla_obj->ň,kas_descPart->Ŋ,mg_of->œ,takerIn->ŧ,makesIn->Ũ,kas_bin->ũ
open PySem.F renaming plain_min_loop->Nh,slot_tuple_iterator_next->N5,called_set->Ob,plainAttrs_list->Oe,slot_tuple_mul->OB,slot_tuple_getattribute->OL,args_tuple_add_2->OO,slot_list_getattribute->OR,entry_tuple_add->OZ,slot_tuple_add->O6,entry_min_loop->O8,slot_int_rmul->Pt,slot_zip_next->Pz,args_tuple_iterator_next_1->PZ,entry_tuple_iterator_next->Qa,args_tuple_mul_2->Qb,entry_tuple_mul->Qi,slot_list_append->Qt,type_list_append->Qu,slot_tuple_index->Qz,slot_dict_get->QR
open Array renaming length_toList->Nl,getElem?_toList->Pf,getD_eq_getD_getElem?->Qc,getD->Ć,size_append->ľ,getElem_mem->Ł,toList->Ţ,ext'->Ŵ
open PySem.Heap.SameBut renaming update->NB
open PyProof.Rows.F renaming plain_set_update_loop->N0,entry_set_update_loop->OT
open PySem.Paired renaming length->OD,snoc->ĕ
open PySem.AutoSeq1 renaming sub_tuple_tuple->OP,idx_int->Qs
open Decidable renaming em->OS
open List.Pairwise renaming imp_of_mem->OU,imp->Ql
open Option renaming map_eq_some_iff->O7,isSome_some->ĩ,isSome_map->ĭ,getD_none->ļ,bind_some->Ľ,none->š,map->ŭ,some->Z,none->ż
open False renaming elim->Ó
open Sum renaming inr->Ô,inl->û
open True renaming intro->Ý
open Or renaming inr->ð
open PySem.Walks renaming list->Ă,range->Ŧ
open PySem.Calls renaming Name_function_global->ą,call_function_entry->ć
open Sum.inr renaming inj->Ĕ
open PySem.Code renaming isFrame->Ė,quiet_builtin->ĺ,frames->ų
open Array.Perm renaming refl->ĥ
open PyProof.Rows.SortSt renaming mk'->ħ
open Prod renaming ext->Ĩ
open Sum.inl renaming inj->ŕ
open Std.Legacy.Range renaming size->Ŗ,forIn_eq_forIn_range'->ŗ
open PySem.W.KasFin renaming intro->Ř
open PySem.IsRange renaming new->ř
open PySem.Shared renaming heap->ş
open PySem.W.WShape renaming has->Ū
open PySem.Txt renaming slice_le->Ų
open PySem.W.WData renaming int->ź
abbrev Y:=List
abbrev Ž:=Option
theorem O{α:Sort _}{a:α}:a=a:=rfl
local macro_rules|`(())=>`(by omega)
local macro_rules|`('b')=>`(by decide)
local macro_rules|`('a')=>`(by decide +kernel)
local macro_rules|`(tactic|show $e)=>`(tactic|exact $e)
section
open Lean
def cV9:Nat->Term->MacroM (TSyntax `rcasesPat)
 |0,_=>Macro.throwUnsupported
 |n+1,t=>do match t with
  |`($x:ident)=>`(rcasesPat|$x:ident)
  |`(_)=>`(rcasesPat|_)
  |`(⟨$ps,*⟩)=>do
   let qs←ps.getElems.mapM fun p=>do
    let q←cV9 n p
    `(Lean.Parser.Tactic.rcasesPatLo|$q:rcasesPat)
   `(rcasesPat|⟨$qs,*⟩)
  |_=>Macro.throwUnsupported
end
local macro_rules|`(tactic|let $p:term:=$e)=>do
 let q←cV9 99 p
 `(tactic|obtain $q:rcasesPat:=$e)
abbrev ad(x:PySem.Str):Prop:=(x==("__classdict__":PySem.Str))=false
abbrev ab(x:PySem.Str):Prop:=(x==("__debug__":PySem.Str))=false
abbrev LG:=@if_neg
abbrev LI:=@if_pos
abbrev L7:=@decide_eq_false
abbrev Md:=@decide_eq_true
abbrev Mm:=@of_decide_eq_true
abbrev MH:=@beq_self_eq_true
abbrev MR:=@congrArg
abbrev Nk:=@beq_eq_false_iff_ne
abbrev NT:=@if_true
abbrev N9:=@if_false
abbrev Ol:=@of_decide_eq_false
abbrev Pp:=@beq_iff_eq
abbrev P0:=@or_false
abbrev QB:=@decide_eq_decide
local macro_rules|`(tactic|ac_rfl)=>`(tactic|exact⟨rfl,rfl,rfl,by decide +kernel,rfl,by decide +kernel,by decide +kernel⟩)
local macro_rules|`(tactic|lia)=>`(tactic|decide +kernel)
local macro_rules|`(tactic|nofun)=>`(tactic|first|exact Or.inl rfl|exact Or.inr (Or.inl rfl)|exact Or.inr (Or.inr rfl)|exact .inr rfl|assumption)
theorem Zg{c:Sort _}{a:c}{b:Prop}:a=a\/b:=.inl rfl
abbrev Zh:PySem.Str:="_law_pool_here"
abbrev Zi:PySem.Str:="_law_offers_here"
abbrev Zj:PySem.Str:="_law_guests"
abbrev Zk:PySem.Str:="_law_told"
abbrev Zl:PySem.Str:="_law_script"
abbrev Zm:PySem.Str:="_law_group_here"
abbrev Zn:PySem.Str:="_law_size"
abbrev Zo:PySem.Str:="_law_seats"
abbrev Zp:PySem.Str:="_law_next"
abbrev Zq:PySem.Str:="_law_offer"
abbrev Zr:PySem.Str:="_law_many"
abbrev Zs:PySem.Str:="_law_k"
abbrev Zt:PySem.Str:="_law_count"
abbrev Zu:PySem.Str:="_law_way"
abbrev Zv:PySem.Str:="_law_whole"
abbrev Zw:PySem.Str:="_law_rows"
abbrev Zx:PySem.Str:="_law_offers"
abbrev Zy:PySem.Str:="_law_asking"
abbrev Zz:PySem.Str:="_law_row_of"
abbrev ZA:PySem.Str:="_law_prices"
abbrev ZC:PySem.Str:="_law_names"
abbrev ZD:PySem.Str:="_law_sized"
abbrev ZE:PySem.Str:="_law_taken"
abbrev ZF:PySem.Str:="_law_group"
abbrev ZG:PySem.Str:="_law_at"
abbrev ZH:PySem.Str:="_law_most"
abbrev ZI:PySem.Str:="_law_pool"
abbrev ZJ:PySem.Str:="_law_wide"
namespace L2
open PySem PySem.Spec PyProof.Rows
abbrev ai:=Sum Int Str
def jE:ai->Value->Bool
 |.inl k,v=>Value.isInt k v
 |.inr x,v=>Value.isStrOf x v
def IF(w:Ç):ai->Int
 |.inl k=>hashInt k
 |.inr x=>hashStr w x
def gU:∀{k:ai}{v:Value},jE k v=ž->(∃i t,k=û i/\v=Value.int i t)\/(∃x t,k=Ô x/\v=Value.str x t)
 |.inl i,v,h=>by let⟨t,e⟩:=Value.isInt_shape (k:=i) (v:=v) h;show .inl ⟨i,t,O,e⟩
 |.inr x,v,h=>by let⟨t,e⟩:=Value.isStrOf_shape (x:=x) (v:=v) h;show .inr ⟨x,t,O,e⟩
def BY(i:Int)(t:þ):jE (.inl i) (.int i t)=ž:=by simp[jE,Value.isInt]
def DR(x:Str)(t:þ):jE (.inr x) (.str x t)=ž:=by simp[jE,Value.isStrOf]
def AI(a b:Int):decide ((û a:ai)=û b)=(a==b):=by
 by_cases e:a=b
 ·subst e;simp
 ·have h:¬ (û a:ai)=û b:=λq=>e (ŕ q);rw[L7 h];show (Nk.mpr e).symm
def Bu(a b:Str):decide ((Ô a:ai)=Ô b)=decide (a=b):=by
 by_cases e:a=b
 ·subst e;simp
 ·have h:¬ (Ô a:ai)=Ô b:=λq=>e (Ĕ q);rw[L7 h,L7 e]
def Dk(a:Int)(b:Str):decide ((û a:ai)=Ô b)=β:=L7 (λq=>nomatch q)
def IR(a:Str)(b:Int):decide ((Ô a:ai)=û b)=β:=L7 (λq=>nomatch q)
noncomputable def bK(prog:Æ)(w:Ç):PySem.KeyKind prog w ai where
 is:=jE
 hash:=IF w
 inj:=λv a b g f=>by
  rcases gU g with⟨i,t,rfl,rfl⟩|⟨x,t,rfl,rfl⟩
  ·rcases gU f with⟨j,u,rfl,e⟩|⟨y,u,rfl,e⟩
   ·injection e with e1 _;rw[e1]
   ·show nomatch e
  ·rcases gU f with⟨j,u,rfl,e⟩|⟨y,u,rfl,e⟩
   ·show nomatch e
   ·injection e with e1 _;rw[e1]
 byValue:=λk v h=>by rcases gU h with⟨i,t,rfl,rfl⟩|⟨x,t,rfl,rfl⟩<;>rfl
 pyHash:=λc h=>by
  rcases gU c with⟨i,t,rfl,rfl⟩|⟨x,t,rfl,rfl⟩
  ·show wpAny_pyHash_int h
  ·show wpAny_pyHash_str h
 eqBool:=λl c h=>by
  rcases gU l with⟨i,t,rfl,rfl⟩|⟨x,t,rfl,rfl⟩
  ·rcases gU c with⟨j,u,rfl,rfl⟩|⟨y,u,rfl,rfl⟩
   ·rw[AI]at h;show Qp h
   ·rw[Dk]at h;show SeqAt.EqAt.int_str i t y u _ _ _ _ h
  ·rcases gU c with⟨j,u,rfl,rfl⟩|⟨y,u,rfl,rfl⟩
   ·rw[IR]at h;show SeqAt.EqAt.str_int x t j u _ _ _ _ h
   ·rw[Bu]at h;show wpAny_eqBool_str h
 «strs»:=λk x t v h=>by
  rcases gU h with⟨i,u,rfl,e⟩|⟨y,u,rfl,e⟩
  ·show nomatch e
  ·injection e with e1 _;subst e1;cases v<;>rfl
def FJ(prog:Æ)(w:Ç)(i:Int)(t:þ):(bK prog w).is (.inl i) (.int i t)=ž:=BY i t
def JF(prog:Æ)(w:Ç)(x:Str)(t:þ):(bK prog w).is (.inr x) (.str x t)=ž:=DR x t
inductive V where
 |non|bl (b:Bool)|int (i:Int)|str (x:Str)|byt (b:Array UInt8)|flt (b:UInt64)|ref (a:Addr)|ty (n:String)
 deriving DecidableEq
noncomputable def RelV:V->Value->Prop
 |.non,u=>u=Value.none
 |.bl b,u=>u=Value.bool b
 |.int i,u=>∃t,u=Value.int i t
 |.str x,u=>∃t,u=Value.str x t
 |.byt b,u=>∃t,u=Value.bytes b t
 |.flt b,u=>∃t,u=Value.float b t
 |.ref a,u=>u=Value.ref a
 |.ty n,u=>u=Value.type n
abbrev Vals:Y V->Y Value->Prop:=Paired RelV
def Vals.length{xs:Y V}{a:Y Value}(r:Vals xs a):xs.length=a.length:=OD r
theorem Vals.get:∀{xs:Y V}{a:Y Value}{i:Nat}{x:V},Vals xs a->xs[i]?=Z x->∃u,a[i]?=Z u/\RelV x u
 |_,_,_,_,.nil,e=>by simp at e
 |_,_,0,_,.cons r _,e=>by simp at e;subst e;show⟨_,O,r⟩
 |_,_,i+1,x,.cons _ t,e=>by let⟨u,c,f⟩:=Vals.get (i:=i) (x:=x) t (by simpa using e);show⟨u,by simpa using c,f⟩
theorem Vals.set{x:V}{u:Value}(r:RelV x u):∀{xs:Y V}{a:Y Value}(i:Nat),Vals xs a->Vals (xs.set i x) (a.set i u)
 |_,_,_,.nil=>.nil
 |_,_,0,.cons _ t=>.cons r t
 |_,_,i+1,.cons q t=>.cons q (Vals.set r i t)
theorem Vals.append:∀{xs ys:Y V}{a c:Y Value},Vals xs a->Vals ys c->Vals (xs++ys) (a++c)
 |_,_,_,_,.nil,s=>s
 |_,_,_,_,.cons r t,s=>.cons r (Vals.append t s)
theorem Vals.take:∀{xs:Y V}{a:Y Value}(n:Nat),Vals xs a->Vals (xs.take n) (a.take n)
 |_,_,0,_=>.nil
 |_,_,_+1,.nil=>.nil
 |_,_,n+1,.cons r t=>.cons r (Vals.take n t)
theorem Vals.drop:∀{xs:Y V}{a:Y Value}(n:Nat),Vals xs a->Vals (xs.drop n) (a.drop n)
 |_,_,0,r=>r
 |_,_,_+1,.nil=>.nil
 |_,_,n+1,.cons _ t=>Vals.drop n t
def Vals.none_of:∀{xs:Y V}{a:Y Value}{i:Nat},Vals xs a->xs[i]?=ż->a[i]?=ż:=λ{xs a i} r e=>by
 have c:=r.length;have f:xs.length<=i:=Nm.mp e;show Nm.mpr ()
def RelO:Ž V->Ž Value->Prop
 |some v,Z u=>RelV v u
 |none,ż=>True
 |_,_=>False
def KV{a:Type}:Y (a×V)->Y (a×Value)->Prop:=Paired λ(p:a×V)(q:a×Value)=>p.1=q.1/\RelV p.2 q.2
def kV:ai->V
 |.inl i=>.int i
 |.inr x=>.str x
inductive HO where
  |lst (xs:List V)
  |tup (xs:List V)
  |dK (Rc:List (ai×V))|dT (Rc:List (List ai×V))
  |set (S:Int->Bool) (n:Nat)
  |ins (C dx:Addr) (fs:List (Str×V))
  |own (x:Addr)
  |xd (fs:List (Str×V))
  |met (f x:Addr)
  |rng (lo hi:Int)
  |frz (o:Obj) (u:HO)
  |tbl (ps:Array Value)
  |ext (φ:Heap->Prop)
abbrev Hp:=Addr->Ž HO
def au(H:Hp)(a:Addr)(o:HO):Hp:=λb=>if b=a then Z o else H b
def aW{H:Hp}{a:Addr}{o:HO}:au H a o a=Z o:=by unfold au;rw[LI O]
def aE{H:Hp}{a b:Addr}{o:HO}(h:b≠a):au H a o b=H b:=by unfold au;rw[LG h]
def FM{H:Hp}{a b:Addr}{o u:HO}(h:H a=Z o)(h':H b=Z u)(d:o≠u):a≠b:=by intro e;subst e;rw[h]at h';show d (Mw h')
def bN{H:Hp}{a b:Addr}{o:HO}(h:H a=Z o)(h':H b=ż):a≠b:=by intro e;subst e;rw[h]at h';cases h'
def IsTupD(h:Heap)(a:Addr)(items:Array Value):Prop:=∃o,h.get? a=Z o/\(o.cls=.type "tuple"/\o.dict=ż)/\∃n,o.data=.seq items n
def IsTupD.tup{h:Heap}{a:Addr}{items:Array Value}(x:IsTupD h a items):ä h a items:=let ⟨o,e,c,d⟩:=x;⟨o,e,c.1,d⟩
def IsTupD.lt{h:Heap}{a:Addr}{items:Array Value}(x:IsTupD h a items):a<h.objs.size:=x.tup.lt
def IsTupD.new(h:Heap)(items:Array Value):IsTupD (h.push { cls:=.type "tuple",data:=.seq items }) h.objs.size items:=⟨_,LS _ O,⟨O,O⟩,_,O⟩
section
variable(P:Æ)(w:Ç)
noncomputable def ObjOk(H:Hp)(h:Heap)(a:Addr):HO->Prop
 |.lst xs=>xs.length<=sizeLine/\∃(its:Y Value)(n:Nat),Vals xs its/\h.get? a=Z { cls:=.type "list",data:=.seq its.toArray n }
 |.tup xs=>xs.length<=sizeLine/\∃its:Y Value,Vals xs its/\IsTupD h a its.toArray
 |.dK g=>g.length<=sizeLine/\(a==Ø)=β/\∃j,KV g j/\h.DictOf (bK P w) a j
 |.dT g=>g.length<=sizeLine/\(a==Ø)=β/\∃xs:Y (Y ai×Addr×Value),
   Paired (λ(p:Y ai×V)(q:Y ai×Addr×Value)=>p.1=q.1/\H q.2.1=Z (.tup (p.1.map kV))/\RelV p.2 q.2.2) g xs /\
   ∃o m A,h.get? a=Z o/\o.ExactDict/\o.data=.dict m A/\m.toList=xs.map (entryOfKey (Ĉ (bK P w)))/\(xs.map (·.1)).Nodup
 |.set S n=>h.SetOf (intKind P w) a S n
 |.ins C dx fs=>H dx=Z (.own a)/\fs.length<=1000/\dx≠a/\h.get? a=Z (ô C dx) /\
   ∃e,h.Ns1 dx e/\(∀f,RelO (fs.lookup f) (e f))/\PySem.Within e (fs.map (·.1))
 |.own _=>∃o,h.get? a=Z o
 |.xd fs=>∃e,h.Ns1 a e/\∀f,RelO (fs.lookup f) (e f)
 |.rng lo B=>∃t u v,h.get? a=Z { cls:=.type "range",data:=.fields #[.int lo t,.int B u,.int 1 v] }
 |.frz o u=>h.get? a=Z o/\ObjOk H h a u
 |.tbl ps=>h.get? a=Z { cls:=.none,data:=.fields #[] }\/∃(c:Addr)(o:Obj)(j:Array Value)(x y:Value)(q:Str)(t t':þ),ps=#[x,y,.str q t]/\H c=Z (.frz o (.own a)) /\
   h.get? a=Z { cls:=.none,data:=.fields #[x,y,.ref c] }/\o.data=.fields j/\j[1]?=Z (.str q t')
 |.met f x=>h.get? a=Z (Ķ (.ref f) (.ref x))
 |.ext l=>l h/\(∃o,h.get? a=Z o)/\∀r z:Heap,l r->(∀o,r.get? a=Z o->z.get? a=Z o)->l z
def HOk(H:Hp)(h:Heap):Prop:=∀a o,H a=Z o->ObjOk P w H h a o
end
section
variable{P:Æ}{w:Ç}{H H':Hp}{h h':Heap}{a:Addr}{o:HO}
theorem ObjOk.lt(x:ObjOk P w H h a o):a<h.objs.size:=by
 cases o with
 |lst xs=>let⟨_,_,_,_,e⟩:=x;show LU e
 |tup xs=>let⟨_,_,_,p⟩:=x;show p.lt
 |dK c=>let⟨_,_,_,_,o,_,_,e,_⟩:=x;show LU e
 |dT c=>let⟨_,_,_,_,o,_,_,e,_⟩:=x;show LU e
 |set S n=>let⟨o,_,_,_,e,_⟩:=x;show LU e
 |ins C dx fs=>let⟨_,_,_,e,_⟩:=x;show LU e
 |own y=>let⟨_,e⟩:=x;show LU e
 |xd fs=>let⟨_,⟨_,_,_,e,_⟩,_⟩:=x;show LU e
 |rng lo g=>let⟨_,_,_,e⟩:=x;show LU e
 |frz ob u=>let⟨e,_⟩:=x;show LU e
 |tbl ps=>rcases x with x|⟨_,_,_,_,_,_,_,_,_,_,x,_⟩<;>show LU x
 |met f y=>show LU (show h.get? a=Z _ from x)
 |ext j=>let⟨_,⟨_,e⟩,_⟩:=x;show LU e
theorem Paired.mapP{e g:Type}{F G:e->g->Prop}:∀{l₁:Y e}{c:Y g},Paired F l₁ c->(∀a b,F a b->G a b)->Paired G l₁ c
 |_,_,.nil,_=>.nil
 |_,_,.cons r t,f=>.cons (f _ _ r) (Paired.mapP t f)
def ObjOk.stay(x:ObjOk P w H h a o)(k:∀b u,(b=a\/H b=Z (.own a))->h.get? b=Z u->h'.get? b=Z u)
  (K:∀b,H b=Z (.own a)->H' b=Z (.own a)) (L:∀b xs,H b=Z (.tup xs)->H' b=Z (.tup xs)) (J:∀b o u,H b=Z (.frz o u)->H' b=Z (.frz o u)):ObjOk P w H' h' a o:=by
 induction o with
 |lst xs=>let⟨z,its,n,r,e⟩:=x;show⟨z,its,n,r,k _ _ (.inl O) e⟩
 |tup xs=>let⟨z,its,r,ob,e,c⟩:=x;show⟨z,its,r,ob,k _ _ (.inl O) e,c⟩
 |dK E=>let⟨z,y,B,r,ob,j,g,e,c⟩:=x;show⟨z,y,B,r,ob,j,g,k _ _ (.inl O) e,c⟩
 |dT E=>
  let⟨z,y,xs,r,ob,j,g,e,c⟩:=x;show⟨z,y,xs,Paired.mapP r λp q z=>⟨z.1,L _ _ z.2.1,z.2.2⟩,ob,j,g,k _ _ (.inl O) e,c⟩
 |set S n=>let⟨ob,j,g,t,e,c⟩:=x;show⟨ob,j,g,t,k _ _ (.inl O) e,c⟩
 |ins C dx fs=>
  let⟨d,z,ne,e,m,⟨A,j,g,l,c⟩,r⟩:=x;show⟨K _ d,z,ne,k _ _ (.inl O) e,m,⟨A,j,g,k _ _ (.inr d) l,c⟩,r⟩
 |own y=>let⟨ob,e⟩:=x;show⟨ob,k _ _ (.inl O) e⟩
 |xd fs=>let⟨m,⟨A,j,g,e,c⟩,r⟩:=x;show⟨m,⟨A,j,g,k _ _ (.inl O) e,c⟩,r⟩
 |rng lo N=>let⟨t,u,v,e⟩:=x;show⟨t,u,v,k _ _ (.inl O) e⟩
 |frz ob u M=>let⟨e,q⟩:=x;show⟨k _ _ (.inl O) e,M q⟩
 |tbl ps=>
  rcases x with x|⟨c,o,B,y,z,q,t,t',F,l,G,I⟩
  ·show .inl (k a _ (.inl O) x)
  ·show .inr ⟨c,o,B,y,z,q,t,t',F,J _ _ _ l,k a _ (.inl O) G,I⟩
 |met f y=>
  have e:h.get? a=Z (Ķ (.ref f) (.ref y)):=x;change h'.get? a=Z (Ķ (.ref f) (.ref y));show k a _ (.inl O) e
 |ext U=>let⟨p,⟨o,e⟩,st⟩:=x;show⟨st _ _ p λo q=>k _ _ (.inl O) q,⟨o,k _ _ (.inl O) e⟩,st⟩
def HOk.lt(x:HOk P w H h)(e:H a=Z o):a<h.objs.size:=(x a o e).lt
def HOk.fresh(x:HOk P w H h)(e:h.objs.size<=a):H a=ż:=by
 cases q:H a with
 |none=>rfl
 |some u=>show absurd (Me (x.lt q) e) (MY _)
def HOk.kept(x:HOk P w H h)(k:∀b u,h.get? b=Z u->h'.get? b=Z u):HOk P w H h':=λa o e=>
 (x a o e).stay (λb u _ q=>k b u q) (λ_ q=>q) (λ_ _ q=>q) λ_ _ _ q=>q
def HOk.laid(x:HOk P w H h)(k:∀b u,h.get? b=Z u->h'.get? b=Z u)(hp:h.objs.size<=a)(new:ObjOk P w (au H a o) h' a o):HOk P w (au H a o) h':=λb u e=>by
 have f:=x.fresh hp;by_cases g:b=a
 ·subst g;rw[aW]at e;cases e;show new
 ·rw[aE g]at e
  show (x b u e).stay (λc v _ q=>k c v q) (λc q=>by rwa[aE (bN q f)]) (λc xs q=>by rwa[aE (bN q f)]) λc ob j q=>by rwa[aE (bN q f)]
end
def Rd(H:Hp)(a:Addr)(u:HO):Prop:=H a=Z u\/∃o,H a=Z (.frz o u)
def Rd.ok{P:Æ}{w:Ç}{H:Hp}{h:Heap}{a:Addr}{u:HO}(r:Rd H a u)(x:HOk P w H h):ObjOk P w H h a u:=by
 rcases r with r|⟨o,r⟩
 ·show x a u r
 ·let⟨_,q⟩:=x a _ r;show q
def lR:Ž HO->Prop
 |some (.lst _)=>True
 |some (.dK _)=>True
 |some (.dT _)=>True
 |some (.set _ _)=>True
 |some (.ins _ _ _)=>True
 |some (.ext _)=>True
 |_=>False
section
variable{P:Æ}{w:Ç}{H:Hp}{h h':Heap}{x e:Addr}{o':HO}
def HOk.write(ok:HOk P w H h)(a:lR (H x))(o:e=x\/H e=Z (.own x))(k:∀b u,b≠e->h.get? b=Z u->h'.get? b=Z u)(A:∃u,h'.get? e=Z u)
  (new:ObjOk P w (au H x o') h' x o'):HOk P w (au H x o') h':=λb u q=>by
 have m:∀c y,H c=Z (.own y)->c≠x:=λc y r z=>by subst z;rw[r]at a;show a
 have B:∀c xs,H c=Z (.tup xs)->c≠x:=λc xs r z=>by subst z;rw[r]at a;show a
 have C:∀c ob l,H c=Z (.frz ob l)->c≠x:=λc ob l r z=>by subst z;rw[r]at a;show a
 by_cases g:b=x
 ·subst g;rw[aW]at q;cases q;show new
 ·rw[aE g]at q;by_cases f:b=e
  ·have p:H b=Z (.own x):=by
    rcases o with z|z
    ·show absurd (f.trans z) g
    ·rwa[f]
   rw[q]at p;cases p;let⟨v,E⟩:=A;show⟨v,by rwa[f]⟩
  ·refine (ok b u q).stay (λc v j r=>k c v ?_ r) (λc r=>by rwa[aE (m c b r)]) (λc xs r=>by rwa[aE (B c xs r)]) λc ob l r=>by rwa[aE (C c ob l r)]
   rcases j with rfl|j
   ·show f
   ·rintro rfl;rcases o with z|z
    ·show m c b j z
    ·rw[j]at z;cases z;show g O
end
structure Un(fs ex:List Addr)(H H':Hp)(h h':Heap):Prop where
 keep:∀b o,h.get? b=Z o->H b=ż->b∉fs->b∉ex->h'.get? b=Z o
 slot:∀b o,h.get? b=Z o->H b=ż->b∈fs->b∉ex->∃sl,h'.get? b=Z { o with slots:=sl }
 free:∀b o,h.get? b=Z o->H b=ż->b∉ex->H' b=ż
 there:∀b o,h.get? b=Z o->b∉ex->∃o',h'.get? b=Z o'
 tups:∀b xs,H b=Z (.tup xs)->H' b=Z (.tup xs)
 frzs:∀b o u,H b=Z (.frz o u)->H' b=Z (.frz o u)
 tbls:∀b ps,H b=Z (.tbl ps)->H' b=Z (.tbl ps)
section
variable{fs ex:Y Addr}{H f:Hp}{h c h':Heap}{a x e:Addr}{o:HO}
def Un.any(u:Un fs ex H f h c){b:Addr}{ob:Obj}(q:h.get? b=Z ob)(n:H b=ż)(j:b∉ex):∃sl,c.get? b=Z { ob with slots:=sl }:=by
 by_cases g:b∈fs
 ·show u.slot b ob q n g j
 ·show⟨ob.slots,u.keep b ob q n g j⟩
def Un.kept(k:∀b u,h.get? b=Z u->h'.get? b=Z u):Un fs ex H H h h':=
 ⟨λb ob q _ _ _=>k b ob q,λb ob q _ _ _=>⟨ob.slots,k b ob q⟩,λ_ _ _ n _=>n,λb ob q _=>⟨ob,k b ob q⟩,λ_ _ q=>q,λ_ _ _ q=>q,λ_ _ q=>q⟩
def Un.refl:Un fs ex H H h h:=Un.kept λ_ _ q=>q
def Un.laid(k:∀b u,h.get? b=Z u->h'.get? b=Z u)(hp:h.objs.size<=a)(g:H a=ż):Un fs ex H (au H a o) h h' where
 keep:=λb u q _ _ _=>k b u q
 slot:=λb u q _ _ _=>⟨u.slots,k b u q⟩
 free:=λb u q n _=>by rwa[aE (LZ (Me (LU q) hp))]
 there:=λb u q _=>⟨u,k b u q⟩
 tups:=λb xs q=>by rwa[aE (bN q g)]
 frzs:=λb u xs q=>by rwa[aE (bN q g)]
 tbls:=λb ps q=>by rwa[aE (bN q g)]
def Un.write(g:lR (H x))(w:e=x\/H e=Z (.own x))(k:∀b u,b≠e->h.get? b=Z u->h'.get? b=Z u)(v:∃u,h'.get? e=Z u):Un fs ex H (au H x o) h h':=by
 have p:∀b,H b=ż->b≠x:=λb n z=>by subst z;rw[n]at g;show g
 have m:∀b,H b=ż->b≠e:=λb n z=>by
  subst z;rcases w with r|r
  ·show p b n r
  ·rw[n]at r;cases r
 have j:∀b u,H b=Z u->¬ lR (Z u)->b≠x:=λb u q nm z=>by subst z;rw[q]at g;show nm g
 refine⟨λb u q n _ _=>k b u (m b n) q,λb u q n _ _=>⟨u.slots,k b u (m b n) q⟩,λb u q n _=>by rwa[aE (p b n)],λb u q _=>?_,
  λb xs q=>by rwa[aE (j b _ q λz=>z)],λb u xs q=>by rwa[aE (j b _ q λz=>z)],λb ps q=>by rwa[aE (j b _ q λz=>z)]⟩
 by_cases l:b=e
 ·subst l;show v
 ·show⟨u,k b u l q⟩
end
def oU(h:Heap)(H:Hp):Y Addr:=(List.range h.objs.size).filter λa=>(H a).isSome
def gX(h:Heap)(H:Hp):Heap:=PySem.W.hideAll h (oU h H)
def C4(h:Heap)(H:Hp):(gX h H).objs.size=h.objs.size:=PySem.W.hideAll_size _ _
def Bh{h:Heap}{H:Hp}{b:Addr}{o:Obj}(e:h.get? b=Z o)(n:H b=ż):(gX h H).get? b=Z o:=
 PySem.W.hideAll_get _ e λa=>by have q:(H b).isSome=ž:=(MF.mp a).2;rw[n]at q;simp at q
def Hd{h:Heap}{H:Hp}{b:Addr}{o:Obj}(e:(gX h H).get? b=Z o):h.get? b=Z o/\H b=ż:=by
 have a:h.get? b=Z o:=PySem.W.of_hideAll (oU h H) e;refine⟨a,?_⟩
 cases q:H b with
 |none=>rfl
 |some x=>
  have c:b∈oU h H:=MF.mpr ⟨Mi.mpr (LU a),by simp[q]⟩;have z:(gX h H).get? b=ż:=PySem.W.hideAll_none (oU h H) c;rw[z]at e;cases e
def i7(g h:Heap)(L:Addr):Y (Addr×Obj):=(List.range h.objs.size).filterMap λa=>if a=L\/(g.get? a).isSome=ž then ż else (h.get? a).map λo=>(a,o)
def oK{g h:Heap}{L a:Addr}{o:Obj}(e:a≠L)(f:g.get? a=ż)(c:h.get? a=Z o):(a,o)∈i7 g h L:=
 Og.mpr ⟨a,Mi.mpr (LU c),by simp[e,f,c]⟩
def Ai{g h:Heap}{L:Addr}{p:Addr×Obj}(hp:p∈i7 g h L):p.1≠L/\g.get? p.1=ż/\h.get? p.1=Z p.2:=by
 let⟨b,_,e⟩:=Og.mp hp;split at e
 ·cases e
 ·rename_i a
  cases q:h.get? b with
  |none=>rw[q]at e;simp at e
  |some u=>
   rw[q]at e;simp only[Option.map_some,Option.some.injEq]at e;subst e;refine⟨λz=>a (.inl z),?_,q⟩;change g.get? b=ż
   cases r:g.get? b with
   |none=>rfl
   |some v=>show (a (.inr (by simp[r]))).elim
def zb{g h:Heap}{L:Addr}:Ĥ g L h (i7 g h L):=λp hp=>let ⟨a,b,c⟩:=Ai hp;⟨c,a,b⟩
structure Mod(K:Â)(mg:Str->Option Value)(base:Heap):Prop where
 kin:K.In base
 glob:base.Ns Ã mg
 blt:∃mb,base.Ns ë mb/\∀x:Str,x≠"__name__"->mb x=Ù x
 nolimit:base.NoLimit
 bmod:∃bm ob,mg "__builtins__"=Z (.ref bm)/\bm≠ë/\base.get? bm=Z ob/\ob.cls=.type "module"/\ob.dict=Z ë/\ob.data=.plain
 seer:base.NoSeer
 dig:∃mc,base.Ns cStatics mc/\mc "sys.int_max_str_digits"=ż
structure Cx where
 prog:Æ
 w:Ç
 K:Â
 mg:Str->Option Value
 base:Heap
 A:É
 N:List Str
 s₀:À
 H₀:Hp
 env:ó
 outer:List ó
 stack:List ó
 ex:List Addr
 fn:Str->Bool
 calm:Bool
 pn:List (Addr×Obj)
 xe:Value->À->Prop
def fJ(l:Y ó):Y Addr:=l.filterMap (·.frame)
abbrev Cx.fs(X:Cx):Y Addr:=fJ X.outer
def du(a:â)(x:Str):Prop:=a.names.lookup x=Z .local\/a.names.lookup x=Z .cell\/a.names.lookup x=Z .free
def eL(a:â)(x:Str):Prop:=a.names.lookup x=Z .local\/a.names.lookup x=Z .cell
def CW(env:ó)(h:Heap)(m:Str->Ž Value)(x:Str)(u:Value):Prop:=
 (env.kindOf x=Z .local/\m x=Z u)\/((env.kindOf x=Z .cell\/env.kindOf x=Z .free)/\∃c,env.cells.lookup x=Z c/\h.IsCell c (Z u))
structure Cx.Ok(X:Cx):Prop where
 mod:Mod X.K X.mg X.base
 kind:X.env.scope.kind=.function
 glob:X.env.globals=Ã
 blt:X.env.builtins=ë
 above:X.s₀.heap.objs.size<=X.env.locals
 inj:∀x y c,X.env.cells.lookup x=Z c->X.env.cells.lookup y=Z c->x=y
 has:∀x,(X.env.kindOf x=Z .cell\/X.env.kindOf x=Z .free)->∃c,X.env.cells.lookup x=Z c
 cab:∀x c,X.fn x=ž->X.env.cells.lookup x=Z c->X.s₀.heap.objs.size<=c
 hd:X.calm=ž->X.A.handled=ż
 frames:X.A.frames=Z X.stack
 stk:X.stack=X.outer\/(X.stack=X.env::X.outer/\X.env.frame=Z X.env.locals)
 exf:∀b∈X.ex,b≠X.env.locals/\∀x c,X.env.cells.lookup x=Z c->c≠b
 bs:∀b o,X.base.get? b=Z o->X.s₀.heap.get? b=Z o/\X.H₀ b=ż
 bsz:X.base.objs.size<=X.s₀.heap.objs.size
 noex:∀b o,X.base.get? b=Z o->b∉X.ex
 exfs:∀b∈X.ex,b∉X.fs
 funs:X.s₀.heap.FunFrames X.base X.outer
 frf:∀b∈X.fs,X.H₀ b=ż
structure Inv(X:Cx)(pins:List (Addr×Obj))(σ:List (Option V))(H:Hp)(s:À):Prop where
 ok:X.Ok
 os:s.os=X.s₀.os
 bare:ö s.gens
 base:Un X.fs X.ex X.H₀ H X.s₀.heap s.heap
 loc:∃m,s.heap.Ns X.env.locals m/\∀(i:Nat)(x:Str)(v:V),X.N[i]?=Z x->σ[i]?=Z (Z v)->du X.env.scope x->∃u,RelV v u/\CW X.env s.heap m x u
 cell:∀x c,X.env.cells.lookup x=Z c->∃v,s.heap.IsCell c v
 free:H X.env.locals=ż
 freeC:∀x c,X.env.cells.lookup x=Z c->H c=ż
 pin:∀p∈X.pn++pins,s.heap.get? p.1=Z p.2/\H p.1=ż/\p.1≠X.env.locals/\p.1∉X.fs/\∀v,p.2.data≠.cell v
 hok:HOk X.prog X.w H s.heap
 len:σ.length=X.N.length
section
variable{X:Cx}{f:Y (Addr×Obj)}{g:Y (Ž V)}{H H':Hp}{s:À}{h':Heap}
def Cx.Ok.nofr(ok:X.Ok){b:Addr}{o:Obj}(e:X.base.get? b=Z o):b∉X.fs:=λa=>by have:=(ok.funs.mem a).1;rw[e]at this;cases this
def Inv.bs(I:Inv X f g H s):∀b o,X.base.get? b=Z o->s.heap.get? b=Z o/\H b=ż:=λb o e=>
 ⟨I.base.keep b o (I.ok.bs b o e).1 (I.ok.bs b o e).2 (I.ok.nofr e) (I.ok.noex b o e),I.base.free b o (I.ok.bs b o e).1 (I.ok.bs b o e).2 (I.ok.noex b o e)⟩
def Inv.bk(I:Inv X f g H s):∀b o,X.base.get? b=Z o->s.heap.get? b=Z o:=λb o e=>(I.bs b o e).1
def Inv.mod(I:Inv X f g H s):Mod X.K X.mg X.base:=I.ok.mod
def Inv.kIn(I:Inv X f g H s):X.K.In s.heap:=I.ok.mod.kin.keeps I.bk
def Inv.nolimit(I:Inv X f g H s):s.heap.NoLimit:=I.ok.mod.nolimit.keeps I.bk
def Inv.lt(I:Inv X f g H s):X.env.locals<s.heap.objs.size:=let ⟨_,hn,_⟩:=I.loc;hn.lt
def Inv.sz(I:Inv X f g H s):X.s₀.heap.objs.size<=s.heap.objs.size:=L6 I.ok.above (MC I.lt)
def Inv.nofs(I:Inv X f g H s){a:Addr}(h:s.heap.objs.size<=a):a∉X.fs:=λc=>by let⟨_,o,e,_⟩:=I.ok.funs.mem c;show absurd (Me (LU e) (L6 I.sz h)) (MY _)
def Inv.cne(I:Inv X f g H s):∀x c,X.env.cells.lookup x=Z c->c≠X.env.locals:=λx c e z=>by let⟨v,o,a,hd⟩:=I.cell x c e;let⟨m,⟨o',p,l,h,j,_⟩,_⟩:=I.loc;rw[z,h]at a;cases a;rw[j]at hd;cases hd
theorem Inv.funs(I:Inv X f g H s):s.heap.FunFrames X.base X.outer:=by
 have all:∀(l:Y ó),(∀b∈fJ l,b∈X.fs)->X.s₀.heap.FunFrames X.base l->s.heap.FunFrames X.base l:=by
  intro l
  induction l with
  |nil=>intro _ _;trivial
  |cons env r w=>
   intro j hl;let⟨m,⟨L,o,h,p,u,hd⟩,v⟩:=hl;have a:L∈X.fs:=j L (by unfold fJ;rw[PU,h];show LQ);let⟨sl,e⟩:=I.base.slot L o u (I.ok.frf L a) a λz=>I.ok.exfs L z a;show⟨m,⟨L,_,h,p,e,hd⟩,w (λb c=>j b (by unfold fJ;rw[PU,h];show LO _ c)) v⟩
 show all X.outer (λ_ c=>c) I.ok.funs
def Inv.stack(I:Inv X f g H s):s.heap.FunFrames X.base X.stack:=by
 rcases I.ok.stk with e|⟨e,a⟩
 ·rw[e];show I.funs
 ·rw[e];let⟨m,c,_⟩:=I.loc;refine .cons (by rw[I.ok.kind];decide) a c ?_ I.funs;show Nd (L6 I.ok.bsz I.ok.above)
def Inv.stkSub(I:Inv X f g H s):∀b∈fJ X.stack,b∈X.env.locals::X.fs:=λb a=>by
 rcases I.ok.stk with e|⟨e,c⟩
 ·rw[e]at a;show LO _ a
 ·rw[e]at a;unfold fJ at a;rw[PU,c]at a;show a
def Inv.stkFree(I:Inv X f g H s):∀b∈fJ X.stack,H b=ż:=λb a=>by
 rcases L0.mp (I.stkSub b a)with e|a
 ·rw[e];show I.free
 ·let⟨_,o,c,_⟩:=I.ok.funs.mem a;show I.base.free b o c (I.ok.frf b a) λz=>I.ok.exfs b z a
def Inv.step{g':Array Ŕ}{t':Nat}{d':Drawn}{ch:Y Addr}(I:Inv X f g H s)
  (A:∀b∈ch,(b∈X.ex\/X.s₀.heap.objs.size<=b)/\b≠X.env.locals/\(∀x c,X.env.cells.lookup x=Z c->c≠b)/\∀p∈X.pn++f,p.1≠b)
  (keep:∀b o,b≠X.env.locals->b∉X.fs->b∉ch->s.heap.get? b=Z o->H b=ż->h'.get? b=Z o)
  (slot:∀b o,b≠X.env.locals->b∈X.fs->b∉ch->s.heap.get? b=Z o->H b=ż->∃sl,h'.get? b=Z { o with slots:=sl }) (free:∀b o,b∉ch->s.heap.get? b=Z o->H b=ż->H' b=ż)
  (there:∀b o,b∉ch->s.heap.get? b=Z o->∃o',h'.get? b=Z o')
  (tups:∀b xs,H b=Z (.tup xs)->H' b=Z (.tup xs)) (frzs:∀b o u,H b=Z (.frz o u)->H' b=Z (.frz o u)) (tbls:∀b ps,H b=Z (.tbl ps)->H' b=Z (.tbl ps))
  (ns:∀m,s.heap.Ns X.env.locals m->h'.Ns X.env.locals m) (hok:HOk X.prog X.w H' h') (N:ö g') :
  Inv X f g H' { s with heap:=h',gens:=g',drawn:=d',toks:=t' }:=by
 have C:∀b o,X.s₀.heap.get? b=Z o->b≠X.env.locals:=λb o e=>LZ (Me (LU e) I.ok.above)
 have E:∀b o,X.s₀.heap.get? b=Z o->b∉X.ex->b∉ch:=λb o e a w=>by
  rcases (A b w).1 with z|z
  ·show a z
  ·show absurd (Me (LU e) z) (MY _)
 have h:∀x c,X.env.cells.lookup x=Z c->∀v,s.heap.IsCell c v->h'.IsCell c v:=λx c e v K=>by
  let⟨o,y,hd⟩:=K;have B:c∉ch:=λz=>(A c z).2.2.1 x c e O;by_cases G:c∈X.fs
  ·let⟨sl,q⟩:=slot c o (I.cne x c e) G B y (I.freeC x c e);show⟨_,q,hd⟩
  ·show⟨o,keep c o (I.cne x c e) G B y (I.freeC x c e),hd⟩
 refine⟨I.ok,I.os,N,⟨λb o e n w a=>?_,λb o e n w a=>?_,λb o e n a=>?_,λb o e a=>?_,λb xs e=>tups b xs (I.base.tups b xs e),λb o xs e=>frzs b o xs (I.base.frzs b o xs e),λb ps e=>tbls b ps (I.base.tbls b ps e)⟩,?_,λx c e=>?_,?_,λx c e=>?_,λp hp=>?_,hok,I.len⟩
 ·show keep b o (C b o e) w (E b o e a) (I.base.keep b o e n w a) (I.base.free b o e n a)
 ·let⟨sl,j⟩:=I.base.slot b o e n w a;let⟨L,F⟩:=slot b _ (C b o e) w (E b o e a) j (I.base.free b o e n a);show⟨L,F⟩
 ·let⟨o',j⟩:=I.base.there b o e a;show free b o' (E b o e a) j (I.base.free b o e n a)
 ·let⟨o',j⟩:=I.base.there b o e a;show there b o' (E b o e a) j
 ·let⟨m,U,hl⟩:=I.loc;refine⟨m,ns m U,λi x v j F M=>?_⟩;let⟨u,r,l⟩:=hl i x v j F M;refine⟨u,r,?_⟩;rcases l with l|⟨k,c,e,z⟩
  ·show .inl l
  ·show .inr ⟨k,c,e,h x c e _ z⟩
 ·let⟨v,z⟩:=I.cell x c e;show⟨v,h x c e v z⟩
 ·let⟨m,⟨o,_,_,y,_⟩,_⟩:=I.loc;show free _ o (λz=>(A _ z).2.1 O) y I.free
 ·let⟨v,o,y,hd⟩:=I.cell x c e;show free c o (λz=>(A c z).2.2.1 x c e O) y (I.freeC x c e)
 ·let⟨e,n,ne,J,d⟩:=I.pin p hp;have B:p.1∉ch:=λz=>(A p.1 z).2.2.2 p hp O;show⟨keep p.1 p.2 ne J B e n,free p.1 p.2 B e n,ne,J,d⟩
def Inv.un{t':Nat}(I:Inv X f g H s)(u:Un X.fs [] H H' s.heap h')(hok:HOk X.prog X.w H' h'):Inv X f g H' { s with heap:=h',toks:=t' }:=by
 let⟨m,⟨o,y,x,h,r⟩,_⟩:=id I.loc;let⟨sl,p⟩:=u.any h I.free (by simp)
 show I.step (g':=s.gens) (d':=s.drawn) (ch:=[]) (λ_ z=>nomatch z) (λb o _ a _ e n=>u.keep b o e n a (by simp)) (λb o _ a _ e n=>u.slot b o e n a (by simp)) (λb o _ e n=>u.free b o e n (by simp)) (λb o _ e=>u.there b o e (by simp)) u.tups u.frzs u.tbls (λA v=>by
  let⟨o',j,l,c,w⟩:=v;rw[h]at c;cases c
  show⟨_,j,l,p,w⟩) hok I.bare
def Inv.call{g':Array Ŕ}{t':Nat}{d':Drawn}{ch:Y Addr}(I:Inv X f g H s)(u:Un (fJ X.stack) ch H H' s.heap h')(hok:HOk X.prog X.w H' h')(B:ö g')
  (l:∀b∈ch,(b∈X.ex\/X.s₀.heap.objs.size<=b)/\b≠X.env.locals/\(∀x c,X.env.cells.lookup x=Z c->c≠b)/\∀p∈X.pn++f,p.1≠b) :
  Inv X f g H' { s with heap:=h',gens:=g',drawn:=d',toks:=t' }:=by
 let⟨m,⟨o,G,F,v,r⟩,_⟩:=id I.loc;let⟨sl,h⟩:=u.any v I.free λz=>(l _ z).2.1 O
 show I.step (ch:=ch) l (λb o h A a e n=>u.keep b o e n (λz=>(L0.mp (I.stkSub b z)).elim h A) a) (λb o _ _ a e n=>u.any e n a) (λb o a e n=>u.free b o e n a) (λb o a e=>u.there b o e a) u.tups u.frzs u.tbls (λJ C=>by
  let⟨o',w,y,j,E⟩:=C;rw[v]at j;cases j
  show⟨_,w,y,h,E⟩) hok B
def Inv.turned{t':Nat}{a:Addr}(I:Inv X f g H s)(k:∀b o,b≠a->s.heap.get? b=Z o->h'.get? b=Z o)(G:H a=ż)(l:a≠X.env.locals)
  (A:a∈X.ex\/X.s₀.heap.objs.size<=a) (B:∀x c,X.env.cells.lookup x=Z c->c≠a) (C:∀p∈X.pn++f,p.1≠a):Inv X f g H { s with heap:=h',toks:=t' }:=by
 have j:∀b u,H b=Z u->b≠a:=λb u e z=>by rw[z,G]at e;cases e
 refine I.step (g':=s.gens) (d':=s.drawn) (ch:=[a]) (λb E=>?_) (λb o _ _ h e _=>k b o (λz=>h (by simp[z])) e) (λb o _ _ h e _=>⟨o.slots,k b o (λz=>h (by simp[z])) e⟩) (λ_ _ _ _ n=>n)
  (λb o h e=>⟨o,k b o (λz=>h (by simp[z])) e⟩) (λ_ _ e=>e) (λ_ _ _ e=>e) (λb ps e=>e) (λm F=>?_) (λb u e=>?_) I.bare
 ·have e:b=a:=by simpa using E
  subst e;show⟨A,l,B,C⟩
 ·let⟨o,y,w,J,r⟩:=F;show⟨o,y,w,k _ o (Mo l) J,r⟩
 ·refine (I.hok b u e).stay (λc v h q=>k c v ?_ q) (λ_ q=>q) (λ_ _ q=>q) λ_ _ _ q=>q;rcases h with z|z
  ·rw[z];show j b u e
  ·show j c _ z
def Inv.tok(I:Inv X f g H s)(t:Nat):Inv X f g H { s with toks:=t }:=I.un (h':=s.heap) (t':=t) Un.refl I.hok
def Inv.kept{t':Nat}(I:Inv X f g H s)(k:∀b u,s.heap.get? b=Z u->h'.get? b=Z u):Inv X f g H { s with heap:=h',toks:=t' }:=I.un (Un.kept k) (I.hok.kept k)
def Inv.laid{a:Addr}{o:HO}{t':Nat}(I:Inv X f g H s)(k:∀b u,s.heap.get? b=Z u->h'.get? b=Z u)(hp:s.heap.objs.size<=a)(new:ObjOk X.prog X.w (au H a o) h' a o) :
  Inv X f g (au H a o) { s with heap:=h',toks:=t' }:=I.un (Un.laid k hp (I.hok.fresh hp)) (I.hok.laid k hp new)
def Inv.write{x e:Addr}{o:HO}{t':Nat}(I:Inv X f g H s)(h:lR (H x))(c:e=x\/H e=Z (.own x))(k:∀b u,b≠e->s.heap.get? b=Z u->h'.get? b=Z u)(a:∃u,h'.get? e=Z u)
  (new:ObjOk X.prog X.w (au H x o) h' x o):Inv X f g (au H x o) { s with heap:=h',toks:=t' }:=I.un (Un.write h c k a) (I.hok.write h c k a new)
def Inv.pins_of{a:Y (Addr×Obj)}(I:Inv X f g H s)(h:∀p∈a,s.heap.get? p.1=Z p.2/\H p.1=ż/\p.1≠X.env.locals/\p.1∉X.fs/\∀v,p.2.data≠.cell v):Inv X a g H s:=
 ⟨I.ok,I.os,I.bare,I.base,I.loc,I.cell,I.free,I.freeC,λp hp=>(Mf.mp hp).elim (λz=>I.pin p (NM _ z)) (h p),I.hok,I.len⟩
def vm{N:Y Str}(h:N.Nodup){i j:Nat}{x:Str}(a:N[i]?=Z x)(b:N[j]?=Z x):i=j:=by let⟨l,c⟩:=L9.mp a;let⟨m,e⟩:=L9.mp b;show (OA h).mp (c.trans e.symm)
def w6{M:ū}{A:É}{E:Value->À->Prop}{i:Nat}{x:Str}{v:V}{u:Value}{Q:Unit->À->Prop}(I:Inv X f g H s)(hN:X.N.Nodup)(a_:X.N[i]?=Z x)(F:eL X.env.scope x)(r:RelV v u)
  (h:∀s',Inv X f (g.set i (Z v)) H s'->(∃a,Heap.SameBut a s.heap s'.heap/\(a=X.env.locals\/X.env.cells.lookup x=Z a))->Q Unit.unit s') (hf:X.fn x=ž\/X.env.scope.names.lookup x=Z .local:=by nofun):wpAny M A (ű X.env x u) Q E s:=by
 let⟨m,U,hl⟩:=id I.loc
 have Xy:(X.env.scope.kind==.class ||(X.env.scope.kind==.module&&X.env.locals != X.env.globals))=β:=by rw[I.ok.kind];rfl
 have J:i<g.length:=by rw[I.len];show (L9.mp a_).1
 have cne:=I.cne
 have B:∀{a:Addr}{h':Heap},(∃o,s.heap.get? a=Z o/\H a=ż)->Heap.SameBut a s.heap h'->HOk X.prog X.w H h':=λ{a h'} ha l b ob e=>by
  let⟨_,_,S5⟩:=ha;refine (I.hok b ob e).stay (λc R C q=>(l.2 c ?_).trans q) (λ_ q=>q) (λ_ _ q=>q) λ_ _ _ q=>q;rintro rfl;rcases C with rfl|C
  ·rw[S5]at e;cases e
  ·rw[S5]at C;cases C
 rcases F with K|K
 ·refine wpAny_storeName_local K U (λh' be l=>?_) Xy;let⟨oL,_,_,Uo,_⟩:=id U;refine h _ ⟨I.ok,I.os,I.bare,⟨λb o e n L F=>?_,λb o e n L F=>?_,I.base.free,λb o e F=>?_,I.base.tups,I.base.frzs,I.base.tbls⟩,⟨_,be,λj y v' w G T=>?_⟩,λy c e=>?_,I.free,I.freeC,λp hp=>?_,B ⟨oL,Uo,I.free⟩ l,by simpa using I.len⟩ ⟨_,l,.inl O⟩
  ·show (l.2 b (LZ (Me (LU e) I.ok.above))).trans (I.base.keep b o e n L F)
  ·let⟨sl,w⟩:=I.base.slot b o e n L F;show⟨sl,(l.2 b (LZ (Me (LU e) I.ok.above))).trans w⟩
  ·let⟨o',w⟩:=I.base.there b o e F;show⟨o',(l.2 b (LZ (Me (LU e) I.ok.above))).trans w⟩
  ·by_cases N:j=i
   ·subst N;rw[a_]at w;cases w;rw[Mt J]at G;cases G;show⟨u,r,.inl ⟨K,by simp⟩⟩
   ·rw[Mq (Mo N)]at G;let⟨u',r',q⟩:=hl j y v' w G T;refine⟨u',r',?_⟩;rcases q with⟨k,e⟩|⟨k,c,e,z⟩
    ·refine .inl ⟨k,?_⟩;have:y≠x:=λe=>N (vm hN w (e▸a_));simp[this,e]
    ·show .inr ⟨k,c,e,z.sameBut l (cne y c e)⟩
  ·let⟨R,z⟩:=I.cell y c e;show⟨R,z.sameBut l (cne y c e)⟩
  ·let⟨e,n,ne,am,d⟩:=I.pin p hp;show⟨(l.2 p.1 ne).trans e,n,ne,am,d⟩
 ·have S:X.fn x=ž:=by
   rcases hf with z|z
   ·show z
   ·rw[z]at K;cases K
  let⟨c,C⟩:=I.ok.has x (.inl K);let⟨R,z⟩:=I.cell x c C;refine wpAny_storeName_cell I.ok.kind K C z (λh' Up l=>?_);let⟨oc,T8,XA⟩:=id z;refine h { s with heap:=h' } ⟨I.ok,I.os,I.bare,⟨λb o e n L F=>?_,λb o e n L F=>?_,I.base.free,λb o e F=>?_,I.base.tups,I.base.frzs,I.base.tbls⟩,⟨m,U.sameBut l (Mo (cne x c C)),λj y v' w G T=>?_⟩,λy P e=>?_,I.free,I.freeC,λp hp=>?_,B ⟨oc,T8,I.freeC x c C⟩ l,by simpa using I.len⟩ ⟨c,l,.inr C⟩
  ·show (l.2 b (LZ (Me (LU e) (I.ok.cab x c S C)))).trans (I.base.keep b o e n L F)
  ·let⟨sl,w⟩:=I.base.slot b o e n L F;show⟨sl,(l.2 b (LZ (Me (LU e) (I.ok.cab x c S C)))).trans w⟩
  ·let⟨o',w⟩:=I.base.there b o e F;show⟨o',(l.2 b (LZ (Me (LU e) (I.ok.cab x c S C)))).trans w⟩
  ·by_cases N:j=i
   ·subst N;rw[a_]at w;cases w;rw[Mt J]at G;cases G;show⟨u,r,.inr ⟨.inl K,c,C,Up⟩⟩
   ·rw[Mq (Mo N)]at G;let⟨u',r',q⟩:=hl j y v' w G T;refine⟨u',r',?_⟩;rcases q with q|⟨k,P,e,z'⟩
    ·show .inl q
    ·refine .inr ⟨k,P,e,z'.sameBut l ?_⟩;rintro rfl;show N (vm hN w (I.ok.inj _ _ _ e C▸a_))
  ·by_cases UG:P=c
   ·subst UG;show⟨_,Up⟩
   ·let⟨w2,z2⟩:=I.cell y P e;show⟨w2,z2.sameBut l UG⟩
  ·let⟨e,n,ne,am,d⟩:=I.pin p hp;refine⟨(l.2 p.1 ?_).trans e,n,ne,am,d⟩;intro q;rw[q,T8]at e;have q':oc=p.2:=Mw e;show d R (by rwa[←q'])
def jG{M:ū}{A:É}{E:Value->À->Prop}{i:Nat}{x:Str}{v:V}{u:Value}{Q:Unit->À->Prop}(I:Inv X f g H s)(e:X.N.Nodup)(l:X.N[i]?=Z x)(m:eL X.env.scope x)(r:RelV v u)
  (h:∀a,Inv X f (g.set i (Z v)) H a->Q Unit.unit a) (j:X.fn x=ž\/X.env.scope.names.lookup x=Z .local:=by nofun):wpAny M A (ű X.env x u) Q E s:=
 w6 I e l m r (λa c _=>h a c) j
def Inv.call'{a:À}{ch:Y Addr}(I:Inv X f g H s)(l:a.os=s.os)(u:Un (fJ X.stack) ch H H' s.heap a.heap)(hok:HOk X.prog X.w H' a.heap)(j:ö a.gens)
  (h:∀b∈ch,(b∈X.ex\/X.s₀.heap.objs.size<=b)/\b≠X.env.locals/\(∀x c,X.env.cells.lookup x=Z c->c≠b)/\∀p∈X.pn++f,p.1≠b):Inv X f g H' a:=by
 let⟨h',g',d',t',o'⟩:=a;have e:o'=s.os:=l;subst e;show I.call (g':=g') (t':=t') (d':=d') u hok j h
end
abbrev XK:=Value->Ž Addr->Hp->Prop
abbrev St:=Y (Ž V)
abbrev VK:=V->Hp->Prop
abbrev TE:=St->Hp->VK->Prop
abbrev TT:=St->Hp->(Bool->Hp->Prop)->Prop
abbrev TA:=St->Hp->(Y V->Hp->Prop)->Prop
structure Ends where
 nx:St->Hp->Prop
 rt:VK
 bk:St->Hp->Prop:=λ_ _=>False
 ct:St->Hp->Prop:=λ_ _=>False
abbrev TS:=Ends->St->Hp->Prop
def EP(X:Cx)(a:Y (Addr×Obj))(e:St)(Q:VK)(u:Value)(c:À):Prop:=∃v H',Inv X a e H' c/\RelV v u/\Q v H'
def TP(X:Cx)(a:Y (Addr×Obj))(e:St)(Q:Bool->Hp->Prop)(b:Bool)(c:À):Prop:=∃H',Inv X a e H' c/\Q b H'
def AP(X:Cx)(a:Y (Addr×Obj))(g:St)(Q:Y V->Hp->Prop)(f:Y Value)(e:À):Prop:=∃c H',Inv X a g H' e/\Vals c f/\Q c H'
def SP(X:Cx)(c:Y (Addr×Obj))(D:Ends)(f:Flow)(e:À):Prop:=
 match f with
 |.next=>∃a H',Inv X c a H' e/\D.nx a H'
 |.brk=>∃a H',Inv X c a H' e/\D.bk a H'
 |.cont=>∃a H',Inv X c a H' e/\D.ct a H'
 |.ret u=>∃v a H',Inv X c a H' e/\RelV v u/\D.rt v H'
def PE(X:Cx)(e:Å)(t:TE):Prop:=
 ∀(a:Y (Addr×Obj))(s:À)(c:St)(H:Hp)(Q:VK),Inv X a c H s->t c H Q->wpAny (Ä X.prog X.w) X.A (eval e X.env) (EP X a c Q) X.xe s
def PT(X:Cx)(e:Å)(t:TT):Prop:=
 ∀(a:Y (Addr×Obj))(s:À)(c:St)(H:Hp)(Q:Bool->Hp->Prop),Inv X a c H s->t c H Q->wpAny (Ä X.prog X.w) X.A (isTrue e X.env (eval e X.env)) (TP X a c Q) X.xe s
def PW(X:Cx)(e:Å)(t:TT):Prop:=
 ∀(c:Sem Value)(a:Y (Addr×Obj))(s:À)(f:St)(H:Hp)(Q:Bool->Hp->Prop),Inv X a f H s->t f H Q->wpAny (Ä X.prog X.w) X.A (isTrue e X.env c) (TP X a f Q) X.xe s
def PW.pt{X:Cx}{e:Å}{t:TT}(h:PW X e t):PT X e t:=h _
def PA(X:Cx)(e:Y Å)(t:TA):Prop:=
 ∀(pos:Pos)(a:Y (Addr×Obj))(s:À)(c:St)(H:Hp)(Q:Y V->Hp->Prop),Inv X a c H s->t c H Q->wpAny (Ä X.prog X.w) X.A (spliced (Ñ pos (Á e X.env))) (AP X a c Q) X.xe s
def PS(X:Cx)(st:Ë)(t:TS):Prop:=
 ∀(a:Y (Addr×Obj))(s:À)(c:St)(H:Hp)(D:Ends),Inv X a c H s->t D c H->wpAny (Ä X.prog X.w) X.A (exec st X.env) (SP X a D) X.xe s
def PSs(X:Cx)(st:Y Ë)(t:TS):Prop:=
 ∀(a:Y (Addr×Obj))(s:À)(c:St)(H:Hp)(D:Ends),Inv X a c H s->t D c H->wpAny (Ä X.prog X.w) X.A (execs st X.env) (SP X a D) X.xe s
def ay{e:Type}{t:Sem e}{Q c:e->À->Prop}{M:ū}{A:É}{E:Value->À->Prop}{s:À}(h:wpAny M A t Q E s)(f:∀a s,Q a s->c a s):wpAny M A t c E s:=MZ h f λ_ _ x=>x
section
variable{X:Cx}
def jW(i:Nat):TE:=λa H Q=>∃v,a[i]?=Z (Z v)/\Q v H
def tC(v:V):TE:=λ_ H Q=>Q v H
def K8{i:Nat}{x:Str}{pos:Pos}(p:X.N[i]?=Z x)(z:du X.env.scope x)(hd:ab x:=by decide)(o:ad x:=by decide):PE X (.Name x pos) (jW i):=by
 intro f s A H Q I h;let⟨v,e,h⟩:=h;let⟨m,y,hl⟩:=I.loc;let⟨u,r,l⟩:=hl i x v p e z;have fin:EP X f A Q u s:=⟨v,H,I,r,h⟩;rcases l with⟨a,w⟩|⟨a,c,j,g⟩
 ·show wpAny_Name (wpAny_loadName_local I.ok.kind a y w fin) hd
 ·rcases a with a|a
  ·show wpAny_Name (wpAny_loadName_cell I.ok.kind a j g fin) hd
  ·show wpAny_Name (wpAny_loadName_free I.ok.kind a j g fin o) hd
def KB{i j pos}:PE X (.Constant (.int i) j pos) (tC (.int i)):=λ_ _ _ H _ I h=>wpAny_Constant_int ⟨.int i,H,I.tok _,⟨_,O⟩,h⟩
def Lc{b j pos}:PE X (.Constant (.bool b) j pos) (tC (.bl b)):=λ_ _ _ H _ I h=>Constant_bool ⟨.bl b,H,I,O,h⟩
def EW{j pos}:PE X (.Constant .none j pos) (tC .non):=λ_ _ _ H _ I h=>Constant_none ⟨.non,H,I,O,h⟩
def DN{x j pos}:PE X (.Constant (.str x) j pos) (tC (.str x)):=λ_ _ _ H _ I h=>Calls.Constant_str ⟨.str x,H,I.tok _,⟨_,O⟩,h⟩
def Gl(X:Cx)(x:Str):Prop:=X.env.kindOf x=Z .globalImplicit
def rm{E:Value->À->Prop}{a:Y (Addr×Obj)}{s:À}{f:St}{H:Hp}{x:Str}{u:Value}{pos:Pos}{Q:Value->À->Prop}(I:Inv X a f H s)(c:Gl X x)(e:X.mg x=Z u)(h:Q u s)
  (hd:ab x:=by decide):wpAny (Ä X.prog X.w) X.A (eval (.Name x pos) X.env) Q E s:=
 ą I.ok.kind c (Calls.loadGlobal_global (by rw[I.ok.glob];show I.mod.glob.keeps I.bk) e h) hd
def hV{E:Value->À->Prop}{a:Y (Addr×Obj)}{s:À}{m:St}{H:Hp}{x:Str}{u:Value}{pos:Pos}{Q:Value->À->Prop}(I:Inv X a m H s)(f:Gl X x)(g:X.mg x=ż)(l:Ù x=Z u)(h:Q u s)
  (j:x≠"__name__":=by decide) (hd:ab x:=by decide):wpAny (Ä X.prog X.w) X.A (eval (.Name x pos) X.env) Q E s:=by
 let⟨o,c,e⟩:=I.mod.blt;show ą I.ok.kind f (Calls.loadGlobal_builtin (by rw[I.ok.glob];show I.mod.glob.keeps I.bk) g (by rw[I.ok.blt];show c.keeps I.bk) ((e x j).trans l) h) hd
def GN{x:Str}{v:V}{u:Value}{pos:Pos}(a:Gl X x)(c:X.mg x=Z u)(r:RelV v u)(hd:ab x:=by decide):PE X (.Name x pos) (tC v):=
 λ_ _ _ H _ I h=>rm I a c ⟨v,H,I,r,h⟩ hd
def iB{x:Str}{v:V}{u:Value}{pos:Pos}(a:Gl X x)(c:X.mg x=ż)(f:Ù x=Z u)(r:RelV v u)(e:x≠"__name__":=by decide)(hd:ab x:=by decide):PE X (.Name x pos) (tC v):=
 λ_ _ _ H _ I h=>hV I a c f ⟨v,H,I,r,h⟩ e hd
variable{a b:Å}{g tb:TE}{pos:Pos}
noncomputable def PC(X:Cx)(j:Ļ)(a b:Å)(t:TE):Prop:=
 ∀(c:Y (Addr×Obj))(s:À)(h:St)(H:Hp)(Q:VK),Inv X c h H s->t h H Q->
  wpAny (Ä X.prog X.w) X.A (eval a X.env) (λv e=>wpAny (Ä X.prog X.w) X.A (eval b X.env) (λu f=>wpAny (Ä X.prog X.w) X.A (Ì j v u) (EP X c h Q) X.xe f) X.xe e) X.xe s
def tB(t:TE):TT:=λf H Q=>t f H λx e=>∃c,x=.bl c/\Q c e
def wj{j:Ļ}{t:TE}(h:PC X j a b t)(f:behindInMarks j b=β:=by first|show nobehind _ 'b' 'b'|rfl):PT X (.Compare a [j] [b] pos) (tB t):=by intro e s z H Q I r;refine wpAny_isTrue_Compare1 (ay (h e s z H _ I r) λv A f=>ay f λu B p=>ay p λc C o=>?_) f;let⟨x,l,m,y,w⟩:=o;let⟨d,rfl,q⟩:=w;cases y;show NS ⟨l,m,q⟩
variable{o p:TT}{f:Y Å}
def Fd(t u:TT):TT:=λh H Q=>t h H λc e=>if c=ž then u h e Q else Q β e
def Kb(t u:TT):TT:=λh H Q=>t h H λc e=>if c=ž then Q ž e else u h e Q
def CD(t:TT):TT:=λh H Q=>t h H λc e=>Q (!c) e
def Ca(l:PT X a o):PW X (.BoolOp .And [a] pos) o:=by
 intro u j s m H Q I h;refine isTrue_and (ay (l j s m H Q I h) λc r e=>?_)
 cases c with
 |true=>show isTrue_and_nil e
 |false=>show e
def Jv(l:PT X a o):PW X (.BoolOp .Or [a] pos) o:=by
 intro u j s m H Q I h;refine isTrue_or (ay (l j s m H Q I h) λc r e=>?_)
 cases c with
 |false=>show isTrue_or_nil e
 |true=>show e
def CH(v:PT X a o)(w:PW X (.BoolOp .And (b::f) pos) p):PW X (.BoolOp .And (a::b::f) pos) (Fd o p):=by
 intro y e s r H Q I h;refine isTrue_and (ay (v e s r H _ I h) λc x u=>?_);let⟨j,l,m⟩:=u
 cases c with
 |true=>show w y e x r j Q l m
 |false=>show⟨j,l,m⟩
def Bv(v:PT X a o)(w:PW X (.BoolOp .Or (b::f) pos) p):PW X (.BoolOp .Or (a::b::f) pos) (Kb o p):=by
 intro y e s r H Q I h;refine isTrue_or (ay (v e s r H _ I h) λc x u=>?_);let⟨j,l,m⟩:=u
 cases c with
 |true=>show⟨j,l,m⟩
 |false=>show w y e x r j Q l m
def HC(l:PT X a o):PT X (.UnaryOp .Not a pos) (CD o):=by intro e s m H Q I h;show isTrue_not (l e s m H (λc j=>Q (!c) j) I h)
def HZ(g tb:TE):TE:=λh H Q=>g h H λx e=>∃c,x=.bl c/\if c=ž then tb h e Q else Q (.bl β) e
def J7(g:TE):TE:=λh H Q=>g h H λx e=>∃c,x=.bl c/\Q (.bl (!c)) e
def HQ{op}{t:TE}(h:PE X a t):PE X (.BoolOp op [a] pos) t:=λc s j H Q I e=>BoolOp_one (h c s j H Q I e)
def Ey(w:PE X a g)(y:PE X (.BoolOp .And (b::f) pos) tb):PE X (.BoolOp .And (a::b::f) pos) (HZ g tb):=by
 intro e s r H Q I h;refine BoolOp_and (ay (w e s r H _ I h) λv A u=>?_);let⟨x,l,m,z,j⟩:=u;let⟨c,rfl,j⟩:=j;cases z;refine NS ?_
 cases c with
 |true=>show y e A r l Q m j
 |false=>show⟨.bl β,l,m,O,j⟩
def KR(u:PE X a g):PE X (.UnaryOp .Not a pos) (J7 g):=by intro e s y H Q I h;refine UnaryOp_ (ay (u e s y H _ I h) λv z r=>?_);let⟨x,l,m,w,j⟩:=r;let⟨c,rfl,j⟩:=j;cases w;show not_of (NS ⟨.bl (!c),l,m,O,j⟩)
def Do(t:TT)(g tb:TE):TE:=λe H Q=>t e H λc h=>if c=ž then g e h Q else tb e h Q
def FI{c:Å}(y:PT X c o)(w:PE X a g)(x:PE X b tb):PE X (.IfExp c a b pos) (Do o g tb):=by
 intro e s j H Q I h;refine wpAny_IfExp (ay (y e s j H _ I h) λd u v=>?_);let⟨l,m,r⟩:=v
 cases d with
 |true=>show w e u j l Q m r
 |false=>show x e u j l Q m r
end
def SqL(K:Â)(H:Hp)(a:Addr)(xs:Y V):Prop:=
 Rd H a (.lst xs) \/
  ∃(o:Obj)(its:Array Value)(n:Nat),K.lookup a=Z o/\o.cls=.type "list"/\o.dict=ż/\o.data=.seq its n/\its.size<=sizeLine/\Vals xs its.toList
def SqT(K:Â)(H:Hp)(a:Addr)(xs:Y V):Prop:=
 Rd H a (.tup xs) \/
  ∃(o:Obj)(its:Array Value)(n:Nat),K.lookup a=Z o/\o.cls=.type "tuple"/\o.data=.seq its n/\its.size<=sizeLine/\Vals xs its.toList
def Hz:Value->Ž V
 |.none=>Z .non
 |.bool b=>Z (.bl b)
 |.int i _=>Z (.int i)
 |.str x _=>Z (.str x)
 |.bytes b _=>Z (.byt b)
 |.float b _=>Z (.flt b)
 |.ref a=>Z (.ref a)
 |.type n=>Z (.ty n)
 |_=>ż
def RelV.abs{x:V}{u:Value}(r:RelV x u):Hz u=Z x:=by
 cases x with
 |non=>cases r;rfl
 |bl _=>cases r;rfl
 |int _=>let⟨t,rfl⟩:=r;rfl
 |str _=>let⟨t,rfl⟩:=r;rfl
 |byt _=>let⟨t,rfl⟩:=r;rfl
 |flt _=>let⟨t,rfl⟩:=r;rfl
 |ref _=>cases r;rfl
 |ty _=>cases r;rfl
def RelV.inj{x y:V}{u:Value}(r:RelV x u)(q:RelV y u):x=y:=Mw (r.abs.symm.trans q.abs)
theorem Vals.inj:∀{xs ys:Y V}{a:Y Value},Vals xs a->Vals ys a->xs=ys
 |_,_,_,.nil,.nil=>rfl
 |_,_,_,.cons r t,.cons c t'=>by rw[r.inj c,Vals.inj t t']
section
variable{X:Cx}{c:Y (Addr×Obj)}{f:St}{H:Hp}{s:À}{a:Addr}{xs ys:Y V}
def SqL.of{K:Â}(h:H a=Z (.lst xs)):SqL K H a xs:=.inl (.inl h)
def SqT.of{K:Â}(h:H a=Z (.tup xs)):SqT K H a xs:=.inl (.inl h)
def Inv.list(I:Inv X c f H s)(h:SqL X.K H a xs):∃its:Y Value,Vals xs its/\PlainL s.heap a its.toArray/\xs.length<=sizeLine:=by
 rcases h with h|⟨o,its,n,j,g,hd,l,m,r⟩
 ·let⟨z,its,n,r,e⟩:=h.ok I.hok;show⟨its,r,⟨_,n,e,O,O,O⟩,z⟩
 ·refine⟨its.toList,r,⟨o,n,I.kIn a o j,g,hd,by simpa using l⟩,?_⟩;have e:=r.length;simp only[Nl]at e;omega
def Inv.tuple(I:Inv X c f H s)(h:SqT X.K H a xs):∃its:Y Value,Vals xs its/\ä s.heap a its.toArray/\xs.length<=sizeLine:=by
 rcases h with h|⟨o,its,n,j,g,l,m,r⟩
 ·let⟨z,its,r,p⟩:=h.ok I.hok;show⟨its,r,p.tup,z⟩
 ·refine⟨its.toList,r,⟨o,I.kIn a o j,g,n,by simpa using l⟩,?_⟩;have e:=r.length;simp only[Nl]at e;omega
def Inv.list_inj(I:Inv X c f H s)(h:SqL X.K H a xs)(h':SqL X.K H a ys):xs=ys:=by
 let⟨its,r,⟨o,n,e,_,_,d⟩,_⟩:=I.list h;let⟨Ru,j,⟨o',l,g,_,_,d'⟩,_⟩:=I.list h';rw[e]at g;cases g;rw[d]at d';injection d' with d1 _
 have:its=Ru:=by simpa using MR Ţ d1
 subst this;show r.inj j
def Inv.tuple_inj(I:Inv X c f H s)(h:SqT X.K H a xs)(h':SqT X.K H a ys):xs=ys:=by
 let⟨its,r,⟨o,e,_,n,d⟩,_⟩:=I.tuple h;let⟨Ru,j,⟨o',g,_,l,d'⟩,_⟩:=I.tuple h';rw[e]at g;cases g;rw[d]at d';injection d' with d1 _
 have:its=Ru:=by simpa using MR Ţ d1
 subst this;show r.inj j
end
abbrev Cx.wish(X:Cx)(E:Value->À->Prop):Cx:={ X with xe:=E }
abbrev Cx.nox(X:Cx):Cx:=X.wish λ_ _=>False
def Cx.Ok.wish{X:Cx}(ok:X.Ok)(E:Value->À->Prop):(X.wish E).Ok:=
 ⟨ok.mod,ok.kind,ok.glob,ok.blt,ok.above,ok.inj,ok.has,ok.cab,ok.hd,ok.frames,ok.stk,ok.exf,ok.bs,ok.bsz,ok.noex,ok.exfs,ok.funs,ok.frf⟩
def Cx.Ok.unwish{X:Cx}{E:Value->À->Prop}(ok:(X.wish E).Ok):X.Ok:=
 ⟨ok.mod,ok.kind,ok.glob,ok.blt,ok.above,ok.inj,ok.has,ok.cab,ok.hd,ok.frames,ok.stk,ok.exf,ok.bs,ok.bsz,ok.noex,ok.exfs,ok.funs,ok.frf⟩
section
variable{X:Cx}{a:Y (Addr×Obj)}{c:St}{H:Hp}{s:À}{E:Value->À->Prop}
def Inv.wish(I:Inv X a c H s)(E:Value->À->Prop):Inv (X.wish E) a c H s:=⟨I.ok.wish E,I.os,I.bare,I.base,I.loc,I.cell,I.free,I.freeC,I.pin,I.hok,I.len⟩
def Inv.unwish(I:Inv (X.wish E) a c H s):Inv X a c H s:=⟨I.ok.unwish,I.os,I.bare,I.base,I.loc,I.cell,I.free,I.freeC,I.pin,I.hok,I.len⟩
theorem SP.unwish{D:Ends}{f:Flow}{g:À}(h:SP (X.wish E) a D f g):SP X a D f g:=by
 cases f with
 |next=>let⟨e,H',I,q⟩:=h;show⟨e,H',I.unwish,q⟩
 |brk=>let⟨e,H',I,q⟩:=h;show⟨e,H',I.unwish,q⟩
 |cont=>let⟨e,H',I,q⟩:=h;show⟨e,H',I.unwish,q⟩
 |ret u=>let⟨v,e,H',I,r,q⟩:=h;show⟨v,e,H',I.unwish,r,q⟩
def PSs.nox{st:Y Ë}{t:TS}(h:PSs X.nox st t):PSs X st t:=λa s c H D I e=>
 MZ (h a s c H D (I.wish _) e) (λ_ _ q=>q.unwish) λ_ _ z=>Ó z
end
section
variable{X:Cx}{st:Ë}{j:Y Ë}{t u:TS}{e:Å}{g:TE}{pos:Pos}
def AJ:TS:=λD a H=>D.nx a H
def Kq(t u:TS):TS:=λD a H=>t { D with nx:=u D } a H
def pss_nil:PSs X [] AJ:=λ_ _ a H _ I h=>Po ⟨a,H,I,h⟩
def jf(m:PS X st t)(o:PSs X j u):PSs X (st::j) (Kq t u):=by
 intro a s r H D I h;refine wpAny_execs_cons (ay (m a s r H { D with nx:=u D } I h) λf p q=>?_)
 cases f with
 |next=>
  let⟨c,H',l,q⟩:=q;show o a p c H' D l q
 |ret v=>show q
 |brk=>show q
 |cont=>show q
def p5(c:PS X st t):PSs X [st] t:=by
 intro a s l H D I h;refine wpAny_execs_cons (ay (c a s l H D I h) λf m q=>?_)
 cases f with
 |next=>show Po q
 |ret v=>show q
 |brk=>show q
 |cont=>show q
def Inv.quiet{a:Y (Addr×Obj)}{c:St}{H:Hp}{s:À}(I:Inv X a c H s):interactive X.env=β:=by simp[interactive,I.ok.kind]
def Bq(g:TE):TS:=λD a H=>g a H λ_ c=>D.nx a c
def mf(o:PE X e g)(p:Ð e ż pos.line X.env=pure β:=by rfl):PS X (.Expr e pos) (Bq g):=by intro a s c H D I h;show wpAny_Expr_any (ay (o a s c H _ I h) λv y m=>by let⟨x,f,l,w,r⟩:=m;show⟨c,f,l,r⟩) I.quiet p
def Je(g:TE):TS:=λD a H=>g a H D.rt
def vX(o:PE X e g):PS X (.Return (Z e) pos) (Je g):=by intro a s c H D I h;show wpAny_Return_some (ay (o a s c H _ I h) λv w m=>by let⟨x,f,l,r,p⟩:=m;show⟨x,c,f,l,r,p⟩)
def Ag(c:TT)(t u:TS):TS:=λD a H=>c a H λb f=>if b=ž then t D a f else u D a f
def xH{c:Å}{a b:Y Ë}{v:TT}(z:PT X c v)(x:PSs X a t)(y:PSs X b u):PS X (.If c a b pos) (Ag v t u):=by
 intro f s l H D I h;refine wpAny_If (ay (z f s l H _ I h) λd r w=>?_);let⟨m,o,p⟩:=w
 cases d with
 |true=>show x f r l m D o p
 |false=>show y f r l m D o p
def Be:TS:=λ_ _ _=>False
def ps_never:PS X st Be:=λ_ _ _ _ _ _ h=>h.elim
end
abbrev TG:=V->St->Hp->(St->Hp->Prop)->Prop
abbrev eU:=Y V->St->Hp->(St->Hp->Prop)->Prop
def PG(X:Cx)(a:Å)(t:TG):Prop:=
 ∀(c:Y (Addr×Obj))(s:À)(f:St)(H:Hp)(v:V)(u:Value)(Q:St->Hp->Prop),Inv X c f H s->RelV v u->t v f H Q->
  wpAny (Ä X.prog X.w) X.A (assign a X.env u) (λ_ g=>∃e H',Inv X c e H' g/\Q e H') X.xe s
noncomputable def PGs(X:Cx)(ts:Y Å)(t:eU):Prop:=
 ∀(a:Y (Addr×Obj))(s:À)(g:St)(H:Hp)(f:Y V)(e:Y Value)(Q:St->Hp->Prop),Inv X a g H s->Vals f e->t f g H Q->
  wpAny (Ä X.prog X.w) X.A (assignInOrder ((Ê ts X.env).map (·.2)) e) (λ_ h=>∃c H',Inv X a c H' h/\Q c H') X.xe s
abbrev mi:=V->V->V->Hp->(Hp->Prop)->Prop
def rZ(X:Cx)(t:mi):Prop:=
 ∀(a:Y (Addr×Obj))(s:À)(e:St)(H:Hp)(o i v:V)(ov c u:Value)(Q:Hp->Prop),Inv X a e H s->RelV o ov->RelV i c->RelV v u->t o i v H Q->
  wpAny (Ä X.prog X.w) X.A (setItem ov c u) (λ_ f=>∃H',Inv X a e H' f/\Q H') X.xe s
abbrev kn:=V->V->Hp->VK->Prop
def lK(X:Cx)(e:ò)(t:kn):Prop:=
 ∀(a:Y (Addr×Obj))(s:À)(c:St)(H:Hp)(x y:V)(v u:Value)(Q:VK),Inv X a c H s->RelV x v->RelV y u->t x y H Q->
  wpAny (Ä X.prog X.w) X.A (inplaceOp e v u) (EP X a c Q) X.xe s
section
variable{X:Cx}{pos:Pos}
def h9(i:Nat):TG:=λv a H Q=>Q (a.set i (Z v)) H
def vF{i:Nat}{x:Str}(e:X.N.Nodup)(g:X.N[i]?=Z x)(j:eL X.env.scope x)(f:X.fn x=ž\/X.env.scope.names.lookup x=Z .local:=by nofun):PG X (.Name x pos) (h9 i):=by intro a s m H v u Q I r h;show wpAny_assign_Name (jG I e g j r (λl c=>⟨_,H,c,h⟩) f)
def AG:eU:=λa c H Q=>a=[]/\Q c H
def Af(t:TG)(u:eU):eU:=λc e H Q=>∃v r,c=v::r/\t v e H λa H'=>u r a H' Q
def pgs_nil:PGs X [] AG:=by intro a s c H g f Q I r h;let⟨e,h⟩:=h;subst e;cases r;show assignInOrder_nil ⟨c,H,I,h⟩
def yT{e:Å}{c:Y Å}{t:TG}{u:eU}(o:PG X e t)(p:PGs X c u)
  (w:(Ê (e::c) X.env).map (·.2)=assign e X.env::(Ê c X.env).map (·.2):=by rfl):PGs X (e::c) (Af t u):=by
 intro a s A H E B Q I r h;let⟨v,C,m,h⟩:=h;subst m
 cases r with
 |cons r y=>
  rw[w];refine ON (ay (o a s A H _ _ _ I r h) λ_ z l=>?_);let⟨f,g,j,x⟩:=l;show p a z f g _ _ Q j y x
def qd(K:Â)(n:Nat)(t:eU):TG:=λv c H Q=>∃a xs,v=.ref a/\SqT K H a xs/\xs.length=n/\t xs c H Q
def KD{f:Y Å}{k:Nat}{t:eU}{n:Nat}(x:X.calm=ž)(h:PGs X f t)
  (y:(Ê f X.env).length=n:=by rfl) (p:(Ê f X.env).findIdx? (·.1)=ż:=by rfl):PG X (.Tuple f k pos) (qd X.K n t):=by
 intro c s l H v u Q I r g;let⟨a,xs,w,hq,hl,g⟩:=g;subst w;cases r;let⟨its,j,z,B⟩:=I.tuple hq;refine assign_Tuple_tuple (I.ok.hd x) z (by simp[y,←hl,j.length]) p λh' A=>?_;have m:Inv X c l H { s with heap:=h' }:=I.kept (t':=s.toks) λb o e=>A b o (LZ (LU e)) e;show h c _ l H xs _ Q m (by simpa using j) g
def FX(to g:TE)(t:mi):TG:=λv a H Q=>to a H λo c=>g a c λi e=>t o i v e λf=>Q a f
def A2{o i:Å}{to f:TE}{t:mi}(F:PE X o to)(E:PE X i f)(G:rZ X t)
  (C:∀v,assign (.Subscript o i pos) X.env v=(do
   let ov ←holding [v] (eval o X.env)
   let c ←holding [v,ov] (eval i X.env)
   standAt pos
   holding [v,ov,c] (setItem ov c v)
   release [v,ov,c] []):=by intro _;rfl):PG X (.Subscript o i pos) (FX to f t):=by
 intro a s e H v u Q I r h;rw[C];refine LD (Mv (ay (F a s e H _ I h) λov U A=>?_));let⟨x,g,m,M,J⟩:=A;refine LD (Mv (ay (E a U e g _ m J) λc P z=>?_));let⟨y,j,p,N,K⟩:=z;refine LD (O9 (LD (Mv (ay (G a P e j x y v ov c u _ p M N r K) λ_ R B=>?_))));let⟨l,w,L⟩:=B;show wpAny_release ⟨e,l,w,L⟩
def i6(e:TE)(g:TG):TS:=λD a H=>e a H λx c=>g x a c D.nx
def tH{c e:Å}{f:TE}{g:TG}(r:PE X e f)(u:PG X c g)(w:æ [c] e pos.line X.env=pure β:=by rfl)(y:ç [c] e X.env=pure ż:=by rfl)
  (p:(Ê [c] X.env).map (·.2)=[assign c X.env]:=by rfl):PS X (.Assign [c] e pos) (i6 f g):=by
 intro a s j H D I h;refine wpAny_Assign_stores (ay (r a s j H _ I h) λv B o=>?_) w y;let⟨x,l,m,A,z⟩:=o;rw[p];show ay (u a B j l x v _ m A z) λ_ C q=>q
def tJ{i:Nat}{x:Str}{e:Å}{f:TE}{a:Pos}(o:X.N.Nodup)(u:X.N[i]?=Z x)(z:eL X.env.scope x)(p:PE X e f)(w:Ð e (Z (.Name x a)) pos.line X.env=pure β:=by rfl)(r:X.fn x=ž\/X.env.scope.names.lookup x=Z .local:=by nofun) :
  PS X (.Assign [.Name x a] e pos) (i6 f (h9 i)):=by
 intro c s C H D I h;refine wpAny_Assign_Name (ay (p c s C H _ I h) λv E m=>?_) w;let⟨y,g,j,B,A⟩:=m;show jG j o u z B (λF l=>⟨_,g,l,A⟩) r
def CV(i:Nat)(f:TE)(g:kn):TS:=λD a H=>∃x,a[i]?=Z (Z x)/\f a H λy c=>g x y c λz e=>D.nx (a.set i (Z z)) e
def FT{i:Nat}{x:Str}{e:Å}{E:TE}{A:ò}{F:kn}{g:Pos}(S:X.N.Nodup)(C:X.N[i]?=Z x)(p:eL X.env.scope x)(U:PE X e E)(ho:lK X A F)(be:X.fn x=ž\/X.env.scope.names.lookup x=Z .local:=by nofun) :
  PS X (.AugAssign (.Name x g) A e pos) (CV i E F):=by
 intro a s G H D I h;let⟨v,R,h⟩:=h;let⟨m,hn,hl⟩:=I.loc
 have B:du X.env.scope x:=by rcases p with k|k;show .inl k;show .inr (.inl k)
 let⟨u,r,l⟩:=hl i x v C R B;refine wpAny_AugAssign_Name ?_
 have go:wpAny (Ä X.prog X.w) X.A (eval e X.env) (λw j=>wpAny (Ä X.prog X.w) X.A (inplaceOp A u w) (λr o=>wpAny (Ä X.prog X.w) X.A (ű X.env x r) (λ_=>SP X a D .next) X.xe o) X.xe j) X.xe s:=by refine ay (U a s G H _ I h) λw s1 P=>?_;let⟨y,J,L,r1,q1⟩:=P;refine ay (ho a s1 G J v y u w _ L r r1 q1) λz s2 a_=>?_;let⟨zv,K,M,r2,q2⟩:=a_;show jG M S C p r2 (λs3 N=>⟨_,K,N,q2⟩) be
 rcases l with⟨f,am⟩|⟨f,c,T,Q⟩
 ·show wpAny_loadName_local I.ok.kind f hn am go
 ·rcases f with f|f
  ·show wpAny_loadName_cell I.ok.kind f T Q go
  ·rcases p with k|k
   ·have:X.env.scope.names.lookup x=Z .free:=f;rw[k]at this;cases this
   ·have:X.env.scope.names.lookup x=Z .free:=f;rw[k]at this;cases this
def Kr(to u r:TE)(l:V->V->Hp->VK->Prop)(p:kn)(m:mi):TS:=λD a H=>to a H λo c=>u a c λi e=>l o i e λx f=>r a f λy g=>p x y g λz h=>m o i z h λj=>D.nx a j
def sT(X:Cx)(t:V->V->Hp->VK->Prop):Prop:=
 ∀(a:Y (Addr×Obj))(s:À)(e:St)(H:Hp)(o i:V)(ov c:Value)(Q:VK),Inv X a e H s->RelV o ov->RelV i c->t o i H Q->
  wpAny (Ä X.prog X.w) X.A (é ov c) (EP X a e Q) X.xe s
def Bn{o i e:Å}{to x w:TE}{j:V->V->Hp->VK->Prop}{m:kn}{l:mi}{p:ò}{S:Pos}(ho:PE X o to)(hi:PE X i x)(hg:sT X j)(he:PE X e w)(hp:lK X p m)(hs:rZ X l)
  (am:∀ov c new,augStore i ov c new=(do holding [new,ov,c] (setItem ov c new);release [new,ov,c] [];pure .next):=by intros;rfl):PS X (.AugAssign (.Subscript o i S) p e pos) (Kr to x w j m l):=by
 intro a s f H D I h;refine wpAny_AugAssign_SubscriptAny (ay (ho a s f H _ I h) λov s1 Q=>?_) am;let⟨y,A,J,r,q1⟩:=Q;refine ay (hi a s1 f A _ J q1) λc s2 P=>?_;let⟨z,B,K,u,q2⟩:=P;refine ay (hg a s2 f B y z ov c _ K r u q2) λg s3 R=>?_;let⟨x3,C,L,r3,q3⟩:=R;refine ay (he a s3 f C _ L q3) λv s4 T=>?_;let⟨x4,E,M,r4,q4⟩:=T;refine ay (hp a s4 f E x3 x4 g v _ M r3 r4 q4) λnew s5 U=>?_;let⟨x5,F,N,r5,q5⟩:=U
 show ay (hs a s5 f F y z x5 ov c new _ N r u r5 q5) λ_ s6 be=>by let⟨G,a_,q6⟩:=be;show⟨f,G,a_,q6⟩
def rL(f:Int->Int->Int):kn:=λx y H Q=>∃i j,x=.int i/\y=.int j/\Q (.int (f i j)) H
def y3:lK X .Add (rL λi j=>i+j):=by intro a s l H x y v u Q I f g h;let⟨i,j,c,e,q⟩:=h;subst c;subst e;let⟨t,rfl⟩:=f;let⟨t',rfl⟩:=g;show iadd_int ⟨.int _,H,I.tok _,⟨_,O⟩,q⟩
end
section
variable{X:Cx}{pos:Pos}
def GT(c:TT)(tb:TS):TS:=λD a H=>∃W:Nat->St->Hp->Prop,(∃m,W m a H)/\∀m a H,W m a H->
 c a H λb f=>if b=ž then ∃N:St->Hp->Prop,(∀e H',N e H'->∃g,g<m/\W g e H')/\tb { D with nx:=N,ct:=N,bk:=D.nx } a f else D.nx a f
def Ed{c:Å}{j:Y Ë}{F:TT}{tb:TS}(hp:Ď (Ä X.prog X.w) X.A X.env X.xe)(L:PT X c F)(K:PSs X j tb):PS X (.While c j [] pos) (GT F tb):=by
 intro a s T H D I h;let⟨W,⟨M,R⟩,m⟩:=h;refine wpAny_While (codeAny_whileLoop (λn am=>∃o H',Inv X a o H' am/\W n o H') ?_ M ⟨T,H,I,R⟩);rintro n P ⟨g,A,G,S⟩;refine N3 hp (ay (L a P g A _ G (m n g A S)) λb Q J=>?_);let⟨B,C,p⟩:=J
 cases b with
 |true=>
  let⟨N,E,p⟩:=p;rw[LI O];refine N3 hp (ay (K a Q g B _ C p) λf U r=>?_)
  cases f with
  |next=>
   let⟨e,l,u,y⟩:=r;let⟨x,w,z⟩:=E e l y;show⟨x,w,e,l,u,z⟩
  |cont=>
   let⟨e,l,u,y⟩:=r;let⟨x,w,z⟩:=E e l y;show⟨x,w,e,l,u,z⟩
  |brk=>show r
  |ret v=>show r
 |false=>
  rw[LG Ml];show Po ⟨g,B,C,p⟩
end
structure It where
 go:Nat->Hp->Prop
 yld:Nat->Hp->V->Hp->Prop
 stop:Nat->Hp->Prop
def FpOk(X:Cx)(a:Y (Addr×Obj))(H:Hp)(b:Addr):Prop:=
 H b=ż/\b≠X.env.locals/\b∉X.fs/\(b∈X.ex\/X.s₀.heap.objs.size<=b)/\(∀x c,X.env.cells.lookup x=Z c->c≠b)/\∀p∈X.pn++a,p.1≠b
def Inv.fpOk{X:Cx}{a:Y (Addr×Obj)}{h:St}{H H':Hp}{s:À}{b:Addr}(I:Inv X a h H s)(f:s.heap.objs.size<=b)(g:H' b=ż):FpOk X a H' b:=by
 refine⟨g,NC (Me I.lt f),I.nofs f,.inr (L6 I.sz f),λx c e z=>?_,λp hp z=>?_⟩
 ·let⟨v,q⟩:=I.cell x c e;show absurd (Me q.lt (by rwa[z])) (MY _)
 ·show absurd (Me (LU (I.pin p hp).1) (by rwa[z])) (MY _)
structure Turn(P:Æ)(w:Ç)(K:Â)(tg:Å)(J:It)(fp:List Addr)(it:Addr)(tn:Nat->Heap->Prop):Prop where
 mem:it∈fp
 obj:∀i h,tn i h->∀b∈fp,∃o,h.get? b=Z o/\∀v,o.data≠.cell v
 keep:∀i h h',tn i h->(∀b∈fp,∀o,h.get? b=Z o->h'.get? b=Z o)->tn i h'
 item:∀(X:Cx),X.prog=P->X.w=w->X.K=K->X.calm=ž->∀(i:Nat)(pins:List (Addr×Obj))(s:À)(σ:St)(H:Hp)(E:Value->À->Prop),Inv X pins σ H s->(∀b∈fp,FpOk X pins H b)->tn i s.heap->J.go i H->
  wpAny (Ä P w) X.A (à (.ref it)) (λr s1=>∃u,r=Z u /\
   wpAny (Ä P w) X.A (ø tg (.ref it) u) (λ_ s2=>∃x H',Inv X pins σ H' s2/\RelV x u/\J.yld i H x H'/\tn (i+1) s2.heap/\∀b∈fp,H' b=ż) E s1) E s
 done:∀(X:Cx),X.prog=P->X.w=w->X.K=K->X.calm=ž->∀(i:Nat)(pins:List (Addr×Obj))(s:À)(σ:St)(H:Hp)(E:Value->À->Prop),Inv X pins σ H s->(∀b∈fp,FpOk X pins H b)->tn i s.heap->J.stop i H->
  wpAny (Ä P w) X.A (à (.ref it)) (λr s1=>r=ż/\Inv X pins σ H s1) E s
 self:∀(A:É)(i:Nat)(s:À)(Q:Value->À->Prop)(E:Value->À->Prop),tn i s.heap->Q (.ref it) s->wpAny (Ä P w) A (ņ (.ref it)) Q E s
abbrev TI:=St->Hp->(It->Hp->Prop)->Prop
def vG(X:Cx)(a:Y (Addr×Obj))(l:St)(j:Å)(R:It->Hp->Prop)(h:Value)(f:À):Prop:=
 ∃(e:Addr)(c:Y Addr)(g:Nat->Heap->Prop)(J:It)(H':Hp),h=.ref e/\Inv X a l H' f/\Turn X.prog X.w X.K j J c e g/\g 0 f.heap/\(∀b∈c,FpOk X a H' b)/\R J H'
def PI(X:Cx)(f iter:Å)(g:TI):Prop:=
 ∀(a:Y (Addr×Obj))(s:À)(c:St)(H:Hp)(R:It->Hp->Prop),Inv X a c H s->g c H R->
  wpAny (Ä X.prog X.w) X.A (eval iter X.env) (λv e=>wpAny (Ä X.prog X.w) X.A (ņ v) (vG X a c f R) X.xe e) X.xe s
def ou{M:ū}{A:É}{E:Value->À->Prop}{s:À}{e:Å}{c:Addr}{u:Value}{o:Obj}{n:String}{f:Array Value}{Q:Unit->À->Prop}(l:s.heap.get? c=Z o)(g:o.cls=.type n)(hd:o.data=.fields f)
  (j:["enumerate","zip","dict_itemiterator","dict_reverseitemiterator","odict_iterator","itertools.zip_longest","itertools.pairwise"].contains n=β) (a:Q Unit.unit s):wpAny M A (ø e (.ref c) u) Q E s:=by
 unfold ø
 cases e<;>first
  |show LP a
  |(cases u<;>first
   |show LP a
   |(refine LD (wpAny_load l ?_)
     rw [g, hd];change wpAny M A (if (["enumerate", "zip", "dict_itemiterator", "dict_reverseitemiterator", "odict_iterator", "itertools.zip_longest", "itertools.pairwise"].contains n&&f[0]?==Z (ß _)) = ž then _ else _) Q E s;rw [LG (by intro h; rw [j, Bool.false_and]at h; cases h)]
     show LP a))
def r8(K:Â)(a:Addr):It:=
 ⟨λi H=>∃xs x,SqL K H a xs/\xs[i]?=Z x,λi H x H'=>H'=H/\∀xs,SqL K H a xs->xs[i]?=Z x,λi H=>∃xs,SqL K H a xs/\xs.length<=i⟩
def qI(K:Â)(a:Addr):It:=
 ⟨λi H=>∃xs x,SqT K H a xs/\xs[i]?=Z x,λi H x H'=>H'=H/\∀xs,SqT K H a xs->xs[i]?=Z x,λi H=>∃xs,SqT K H a xs/\xs.length<=i⟩
def lY(lo:Int)(n:Nat):It:=⟨λi _=>i<n,λi H x H'=>H'=H/\x=.int (lo+i),λi _=>n<=i⟩
def Ge{P:Æ}{w:Ç}{K:Â}{tg:Å}(a j:Addr):Turn P w K tg (r8 K a) [j] j (λi h=>h.IsListIter j a i) where
 mem:=by simp
 obj:=λi h st b g=>by
  have e:b=j:=by simpa using g
  subst e;let⟨o,e,c,d⟩:=st;show⟨o,e,λv z=>by rw[d]at z;cases z⟩
 keep:=λi h h' st k=>st.at λo e=>k j (by simp) o e
 item:=by
  intro X F J C N i f s Q H E I l st G;subst F J C;let⟨xs,x,hq,a_⟩:=G;let⟨its,L,p,be⟩:=I.list hq;let⟨u,T,am⟩:=L.get a_;let⟨m,r,S,y,A,B⟩:=l j (by simp);refine Oq st p.isList (x:=u) (by simpa using T) λh' M sb=>?_;have R:Inv X f Q H { s with heap:=h' }:=I.turned (t':=s.toks) (λb o g e=>(sb.2 b g).trans e) m r y A B;let⟨o,e,c,d⟩:=id M;show⟨u,O,ou (s:={ s with heap:=h' }) e c d 'b' ⟨x,H,R,am,⟨O,λys U=>by rwa[I.list_inj U hq]⟩,M,λb g=>(l b g).1⟩⟩
 done:=by
  intro X F J C N i f s Q H E I l st G;subst F J C;let⟨xs,hq,a_⟩:=G;let⟨its,L,p,be⟩:=I.list hq;let⟨m,r,S,y,A,B⟩:=l j (by simp);have hl:=L.length;show Ou (I.ok.hd N) st p.isList (by simp;omega) λh' eb=>⟨O,I.turned (t':=s.toks) (λb o g e=>eb b o g e) m r y A B⟩
 self:=λ_ _ _ _ _ st h=>Ő st h
def Au{P:Æ}{w:Ç}{K:Â}{tg:Å}(a j:Addr):Turn P w K tg (qI K a) [j] j (λi h=>h.IsTupleIter j a i) where
 mem:=by simp
 obj:=λi h st b g=>by
  have e:b=j:=by simpa using g
  subst e;let⟨o,e,c,d⟩:=st;show⟨o,e,λv z=>by rw[d]at z;cases z⟩
 keep:=λi h h' st k=>st.at λo e=>k j (by simp) o e
 item:=by
  intro X F J C N i f s Q H E I l st G;subst F J C;let⟨xs,x,hq,a_⟩:=G;let⟨its,L,p,be⟩:=I.tuple hq;let⟨u,T,am⟩:=L.get a_;let⟨m,r,S,y,A,B⟩:=l j (by simp);refine OY st (show s.heap.IsTuple a its.toArray from p) (x:=u) (by simpa using T) λh' M sb=>?_;have R:Inv X f Q H { s with heap:=h' }:=I.turned (t':=s.toks) (λb o g e=>(sb.2 b g).trans e) m r y A B;let⟨o,e,c,d⟩:=id M;show⟨u,O,ou (s:={ s with heap:=h' }) e c d 'b' ⟨x,H,R,am,⟨O,λys U=>by rwa[I.tuple_inj U hq]⟩,M,λb g=>(l b g).1⟩⟩
 done:=by
  intro X F J C N i f s Q H E I l st G;subst F J C;let⟨xs,hq,a_⟩:=G;let⟨its,L,p,be⟩:=I.tuple hq;let⟨m,r,S,y,A,B⟩:=l j (by simp);have hl:=L.length;show O4 (I.ok.hd N) st (show s.heap.IsTuple a its.toArray from p) (by simp;omega) λh' eb=>⟨O,I.turned (t':=s.toks) (λb o g e=>eb b o g e) m r y A B⟩
 self:=λ_ _ _ _ _ st h=>Ń st h
def Hq{P:Æ}{w:Ç}{K:Â}{U:Å}(a:Addr)(lo:Int)(n:Nat):Turn P w K U (lY lo n) [a] a (λi h=>Ē h a (lo+(i:Nat)*1) ((n:Int)-(i:Nat)) 1) where
 mem:=by simp
 obj:=λi h st b f=>by
  have e:b=a:=by simpa using f
  subst e
  show⟨_,st,λv z=>by
   have Q:Data.fields _=Data.cell v:=z
   cases Q⟩
 keep:=λi h h' st k=>k a (by simp) _ st
 item:=by
  intro X x B u y i c s G H E I g st A;subst x B u;let⟨j,l,L,m,p,r⟩:=g a (by simp);have W:=Ŧ (prog:=X.prog) (w:=X.w) (I.ok.hd y) a lo 1 n;refine W.item i s _ _ A st λv h' F M C N=>?_;let⟨t,rfl⟩:=M;have J:Inv X c G H { s with heap:=h',toks:=F }:=I.turned (λb o f e=>N b o (by simpa using f) e) j l m p r;refine⟨_,O,ou (s:={ s with heap:=h',toks:=F }) (n:="range_iterator") C O O 'b' ⟨.int (lo+i),H,J,⟨t,?_⟩,⟨O,O⟩,C,λb f=>(g b f).1⟩⟩;rw[Int.mul_one]
 done:=by intro X x B u y i c s G H E I g st A;subst x B u;let⟨j,l,L,m,p,r⟩:=g a (by simp);show ł (I.ok.hd y) st (by have:n<=i:=A;omega) λh' eb=>⟨O,I.turned (t':=s.toks) (λb o f e=>eb b o f e) j l m p r⟩
 self:=λ_ _ _ _ _ st h=>ń st h
section
variable{X:Cx}{c:Å}
def yS{f:Y (Addr×Obj)}{j:St}{H:Hp}{s:À}{R:It->Hp->Prop}{E:Value->À->Prop}{lo a:Int}{t u v:þ}{h:Nat}(I:Inv X f j H s)(p:-(2^62)<=lo)(r:lo<2^62)(w:-(2^62)<=a)(x:a<2^62)
  (q:R (lY lo (a-lo).toNat) H):wpAny (Ä X.prog X.w) X.A (ņ (.ref s.heap.objs.size)) (vG X f j c R) E { s with heap:=s.heap.push { cls:=.type "range",data:=.fields #[.int lo t,.int a u,.int 1 v] },toks:=h }:=by
 refine ś (ř ..) (small_one p r w x) ?_;have g:Inv X f j H { s with heap:=s.heap.push { cls:=.type "range",data:=.fields #[.int lo t,.int a u,.int 1 v] },toks:=h }:=I.kept λb o e=>LK _ e
 refine⟨(s.heap.push { cls:=.type "range",data:=.fields #[.int lo t,.int a u,.int 1 v] }).objs.size,[(s.heap.push { cls:=.type "range",data:=.fields #[.int lo t,.int a u,.int 1 v] }).objs.size],_,_,H,O,
  g.kept (t':=h) λb o e=>LK _ e,Hq _ lo (a-lo).toNat,?_,λb y=>?_,q⟩
 ·have l:lo+((0:Nat):Int)*1=lo:=by simp
  have m:(((a-lo).toNat:Nat):Int)-((0:Nat):Int)=Builtin.Range.rangeSize lo a 1:=by rw[rangeSize_one];split<;>omega
  change Ē _ _ (lo+((0:Nat):Int)*1) ((((a-lo).toNat:Nat):Int)-((0:Nat):Int)) 1;rw[l,m];show LS _ O
 ·have e:b=(s.heap.push { cls:=.type "range",data:=.fields #[.int lo t,.int a u,.int 1 v] }).objs.size:=by simpa using y
  subst e;show g.fpOk (LM _) (g.hok.fresh (LM _))
def Dx(e:TA):TI:=λg H R=>e g H λf a=>∃j:Int,f=[.int j]/\-(2^62)<=j/\j<2^62/\R (lY 0 j.toNat) a
def Dm(e:TA):TI:=λg H R=>e g H λf a=>∃i j:Int,f=[.int i,.int j]/\(-(2^62)<=i/\i<2^62/\-(2^62)<=j/\j<2^62)/\R (lY i (j-i).toNat) a
def CG{a:Å}{l:TA}{p pos:Pos}(v:Gl X "range")(w:X.mg "range"=ż)(u:PA X [a] l)(x:Á [a] X.env=[(β,eval a X.env)]:=by rfl):PI X c (.Call (.Name "range" p) [a] [] pos) (Dx l):=by
 intro f s B H R I h;refine Call_ (hV I v w boot_range (Na (ay (u pos f s B H _ I h) λF E o=>?_) x O));let⟨G,C,m,z,g⟩:=o;let⟨j,e,g,y,q⟩:=g;subst e
 cases z with
 |cons r A=>
  cases A;let⟨t,rfl⟩:=r;show call_range_1 (yS m () () g y (by simpa using q))
def Gg{a b:Å}{o:TA}{p pos:Pos}(w:Gl X "range")(x:X.mg "range"=ż)(v:PA X [a,b] o)(y:Á [a,b] X.env=[(β,eval a X.env),(β,eval b X.env)]:=by rfl)(m:Á [b] X.env=[(β,eval b X.env)]:=by rfl) :
  PI X c (.Call (.Name "range" p) [a,b] [] pos) (Dm o):=by
 intro f s F H R I h;refine Call_ (hV I w x boot_range (Na (ay (v pos f s F H _ I h) λK J ⟨L,G,u,E,g⟩=>?_) (by rw[y,m]) (by rw[m];rfl)));let⟨i,j,e,⟨g,z,A,B⟩,q⟩:=g;subst e
 cases E with
 |cons r l=>
  cases l with
  |cons C l=>
   cases l;let⟨t,rfl⟩:=r;let⟨t',rfl⟩:=C;show call_range_2 (yS u g z A B q)
noncomputable def IS(o:TI)(g:TG)(tb:TS):TS:=λD a H=>o a H λJ j=>∃W:Nat->Nat->St->Hp->Prop,(∃m,W 0 m a j)/\∀i m a H,W i m a H->
 (J.stop i H/\D.nx a H)\/(J.go i H/\∃N:St->Hp->Prop,(∀e H',N e H'->∃h,h<m/\W (i+1) h e H')/\∀x H',J.yld i H x H'->g x a H' λf l=>tb { D with nx:=N,ct:=N,bk:=D.nx } f l)
def lx(a:Y Addr)(h:Heap):Y (Addr×Obj):=a.filterMap λb=>(h.get? b).map λo=>(b,o)
def mR{a:Y Addr}{h:Heap}{b:Addr}{o:Obj}(f:b∈a)(e:h.get? b=Z o):(b,o)∈lx a h:=Og.mpr ⟨b,f,by rw[e];rfl⟩
def G2{a:Y Addr}{h:Heap}{p:Addr×Obj}(hp:p∈lx a h):p.1∈a/\h.get? p.1=Z p.2:=by
 let⟨b,g,e⟩:=Og.mp hp
 cases q:h.get? b with
 |none=>rw[q]at e;cases e
 |some o=>
  rw[q]at e;have f:(b,o)=p:=Mw e;subst f;show⟨g,q⟩
def Inv.pinned{a:Y (Addr×Obj)}{j:St}{H:Hp}{s:À}{f:Y Addr}(I:Inv X a j H s)(u:∀b∈f,FpOk X a H b)(w:∀b∈f,∃o,s.heap.get? b=Z o/\∀v,o.data≠.cell v):Inv X (a++lx f s.heap) j H s:=
 I.pins_of λp hp=>(Mf.mp hp).elim (λz=>I.pin p (L3 _ z)) λz=>by let⟨h,e⟩:=G2 z;let⟨l,m,r,_⟩:=u p.1 h;let⟨o,g,d⟩:=w p.1 h;rw[e]at g;cases g;show⟨e,l,m,r,d⟩
def Inv.unpinned{a f:Y (Addr×Obj)}{e:St}{H:Hp}{s:À}(I:Inv X (a++f) e H s):Inv X a e H s:=I.pins_of λp hp=>I.pin p (L3 _ (NM _ hp))
def uP{iter:Å}{A:Y Ë}{wi:TI}{g:TG}{tb:TS}{pos:Pos}(hp:Ď (Ä X.prog X.w) X.A X.env X.xe)(hc:X.calm=ž)(hi:PI X c iter wi)(hg:PG X c g)(w:PSs X A tb)
  (hs:∀x,Ï iter X.env x=pure x:=by intro _;rfl):PS X (.For c iter A [] pos) (IS wi g tb):=by
 intro a s σ H D I h;refine wpAny_For (ay (hi a s σ H _ I h) λv s1 h1=>ay h1 λWJ s2 h2=>?_) hs;let⟨it,C,tn,J,H2,e,I2,T,Uq,am,W,⟨m0,w0⟩,K⟩:=h2;subst e;have a_:∀{H':Hp},(∀b∈C,H' b=ż)->∀b∈C,FpOk X a H' b:=λhn b w=>⟨hn b w,(am b w).2⟩;refine codeAny_forLoop_any (λn s'=>∃i y H',Inv X a y H' s'/\tn i s'.heap/\(∀b∈C,H' b=ż)/\W i n y H') ?_ m0 ⟨0,σ,H2,I2,Uq,λb w=>(am b w).1,w0⟩;rintro n s3 ⟨i,z,L,be,G,E,w3⟩;rcases K i n z L w3 with⟨stop,qn⟩|⟨go,N,hN,step⟩
 ·refine N3 hp (ay (T.done X O O O hc i a s3 z L X.xe be (a_ E) G stop) λr s4 Rb=>?_);let⟨Q,I4⟩:=Rb;subst Q;show Po ⟨z,L,I4,qn⟩
 ·refine N3 hp (ay (T.item X O O O hc i a s3 z L X.xe be (a_ E) G go) λr s4 RL=>?_);let⟨u,Q,h4⟩:=RL;subst Q;refine N3 hp (ay h4 λ_ s5 So=>?_);let⟨x,U,I5,r5,y5,P,WK⟩:=So;have M:=I5.pinned (a_ WK) (T.obj _ _ P);refine N3 hp (ay (hg _ s5 z U x u _ M r5 (step x U y5)) λ_ s6 VF=>?_);let⟨S,H6,I6,q6⟩:=VF;refine N3 hp (ay (w _ s6 S H6 _ I6 q6) λf R B=>?_)
  have again:∀{j:St}{l:Hp},Inv X (a++lx C s5.heap) j l R->N j l->∃m,m<n/\∃i y H',Inv X a y H' R/\tn i R.heap/\(∀b∈C,H' b=ż)/\W i m y H':=λ{j l} p F=>by let⟨m',hm,w7⟩:=hN j l F;refine⟨m',hm,i+1,j,l,p.unpinned,T.keep _ _ _ P λb w o e=>(p.pin (b,o) (L3 _ (L3 _ (mR w e)))).1,λb w=>?_,w7⟩;let⟨o,e,d⟩:=T.obj _ _ P b w;show (p.pin (b,o) (L3 _ (L3 _ (mR w e)))).2.1
  cases f with
  |next=>let⟨j,l,p,F⟩:=B;show again p F
  |cont=>let⟨j,l,p,F⟩:=B;show again p F
  |brk=>let⟨j,l,p,B⟩:=B;show⟨j,l,p.unpinned,B⟩
  |ret v=>let⟨x7,j,l,p,r7,B⟩:=B;show⟨x7,j,l,p.unpinned,r7,B⟩
end
abbrev R2:=V->V->Hp->VK->Prop
def bG(X:Cx)(f:Value->Value->Sem Value)(r:R2):Prop:=
 ∀(a:Y (Addr×Obj))(s:À)(c:St)(H:Hp)(x y:V)(v u:Value)(Q:VK),Inv X a c H s->RelV x v->RelV y u->r x y H Q->
  wpAny (Ä X.prog X.w) X.A (f v u) (EP X a c Q) X.xe s
def qY(X:Cx)(f:Value->Sem Value)(r:V->Hp->VK->Prop):Prop:=
 ∀(a:Y (Addr×Obj))(s:À)(c:St)(H:Hp)(x:V)(v:Value)(Q:VK),Inv X a c H s->RelV x v->r x H Q->
  wpAny (Ä X.prog X.w) X.A (f v) (EP X a c Q) X.xe s
def eA(X:Cx)(f:Value)(r:Y V->Hp->VK->Prop):Prop:=
 ∀(a:Y (Addr×Obj))(s:À)(e:St)(H:Hp)(xs:Y V)(c:Y Value)(Q:VK),Inv X a e H s->Vals xs c->r xs H Q->
  wpAny (Ä X.prog X.w) X.A (call f c) (EP X a e Q) X.xe s
def EM(X:Cx)(r:V->Hp->(Bool->Hp->Prop)->Prop):Prop:=
 ∀(a:Y (Addr×Obj))(s:À)(c:St)(H:Hp)(x:V)(v:Value)(Q:Bool->Hp->Prop),Inv X a c H s->RelV x v->r x H Q->
  wpAny (Ä X.prog X.w) X.A (truthy v) (TP X a c Q) X.xe s
def iE(r:R2)(f tb:TE):TE:=λa H Q=>f a H λx c=>tb a c λy e=>r x y e Q
def G6(r:V->Hp->VK->Prop)(c:TE):TE:=λe H Q=>c e H λx a=>r x a Q
def rI(C:Int->Int->Prop)(g:Int->Int->V):R2:=λx y H Q=>∃i j,x=.int i/\y=.int j/\C i j/\Q (g i j) H
def gp(g:Int->Int->V):R2:=λx y H Q=>∃i j,x=.int i/\y=.int j/\Q (g i j) H
def rU(g:Int->V):V->Hp->VK->Prop:=λx H Q=>∃i,x=.int i/\Q (g i) H
section
variable{X:Cx}{a b:Å}{c tb:TE}{pos:Pos}
def ql(B:PE X a c)(C:PE X b tb){e:Y (Addr×Obj)}{s:À}{j:St}{H:Hp}{R:V->V->Hp->Prop}(I:Inv X e j H s)
  (h:c j H λx p=>tb j p λy g=>R x y g) {Q:Value->À->Prop} {f:Value->Value->Sem Value}
  (E:∀v u o x y g,Inv X e j g o->RelV x v->RelV y u->R x y g->wpAny (Ä X.prog X.w) X.A (f v u) Q X.xe o) :
  wpAny (Ä X.prog X.w) X.A (eval a X.env) (λv l=>wpAny (Ä X.prog X.w) X.A (eval b X.env) (λu m=>wpAny (Ä X.prog X.w) X.A (f v u) Q X.xe m) X.xe l) X.xe s:=by
 refine ay (B e s j H _ I h) λv L A=>?_;let⟨x,p,r,J,F⟩:=A;refine ay (C e L j p _ r F) λu o z=>?_;let⟨y,g,w,K,G⟩:=z;show E v u o x y g w J K G
def yt{f:ò}{r:R2}(o:bG X (Î f) r)(l:PE X a c)(m:PE X b tb):PE X (.BinOp a f b pos) (iE r c tb):=by intro e s A H Q I h;show wpAny_BinOp (ql l m I h λv u z x y g j p w q=>o e z A g x y v u Q j p w q)
def K9{f:UnaryOp}{r:V->Hp->VK->Prop}(p:qY X (unaryOp f) r)(o:PE X a c):PE X (.UnaryOp f a pos) (G6 r c):=by intro e s g H Q I h;show UnaryOp_ (ay (o e s g H _ I h) λv y m=>by let⟨x,j,l,w,u⟩:=m;show p e y g j x v Q l w u)
def kW{f:Value->Value->Sem Value}{C:Int->Int->Prop}{g:Int->Int->Int}
  (rule:∀(i j:Int)(t u:þ)(s:À)(Q:Value->À->Prop)(E:Value->À->Prop),C i j->Q (.int (g i j) s.toks) { s with toks:=s.toks+1 }->wpAny (Ä X.prog X.w) X.A (f (.int i t) (.int j u)) Q E s) :
  bG X f (rI C λi j=>.int (g i j)):=by
 intro e s p H x y v u Q I m o h;let⟨i,j,rfl,rfl,l,q⟩:=h;let⟨t,rfl⟩:=m;let⟨t',rfl⟩:=o;show rule i j t t' s _ _ l ⟨.int (g i j),H,I.tok _,⟨_,O⟩,q⟩
def zB{f:Value->Value->Sem Value}{g:Int->Int->Int}
  (rule:∀(i j:Int)(t u:þ)(s:À)(Q:Value->À->Prop)(E:Value->À->Prop),Q (.int (g i j) s.toks) { s with toks:=s.toks+1 }->wpAny (Ä X.prog X.w) X.A (f (.int i t) (.int j u)) Q E s) :
  bG X f (gp λi j=>.int (g i j)):=by
 intro e s o H x y v u Q I l m h;let⟨i,j,rfl,rfl,q⟩:=h;let⟨t,rfl⟩:=l;let⟨t',rfl⟩:=m;show rule i j t t' s _ _ ⟨.int (g i j),H,I.tok _,⟨_,O⟩,q⟩
def n4{f:Value->Value->Sem Value}{g:Int->Int->Bool}
  (rule:∀(i j:Int)(t u:þ)(s:À)(Q:Value->À->Prop)(E:Value->À->Prop),Q (.bool (g i j)) s->wpAny (Ä X.prog X.w) X.A (f (.int i t) (.int j u)) Q E s) :
  bG X f (gp λi j=>.bl (g i j)):=by
 intro e s o H x y v u Q I l m h;let⟨i,j,rfl,rfl,q⟩:=h;let⟨t,rfl⟩:=l;let⟨t',rfl⟩:=m;show rule i j t t' s _ _ ⟨.bl (g i j),H,I,O,q⟩
def yj(i j:Int):Prop:=0<=j/\j<=1000000/\i.natAbs<2^64
def E7:bG X (Î .Add) (gp λi j=>.int (i+j)):=zB λ_ _ _ _ _ _ _ q=>add_int q
def HA:bG X (Î .Sub) (gp λi j=>.int (i-j)):=zB λ_ _ _ _ _ _ _ q=>sub_int q
def B5:bG X (Î .Mod) (rI (λ_ j=>0<j) λi j=>.int (i % j)):=kW λi j _ _ _ _ _ e q=>by have f:(0:Int)<j:=e;show mod_int' () (by rwa[Int.fmod_eq_emod_of_nonneg i ()])
def Fi:bG X (Î .Pow) (rI yj λi j=>.int (i^j.toNat)):=kW λ_ _ _ _ _ _ _ e q=>pow_int_small e.1 e.2.1 e.2.2 q
def HM{f:Value->Sem Value}{g:Int->Int}
  (rule:∀(i:Int)(t:þ)(s:À)(Q:Value->À->Prop)(E:Value->À->Prop),Q (.int (g i) s.toks) { s with toks:=s.toks+1 }->wpAny (Ä X.prog X.w) X.A (f (.int i t)) Q E s) :
  qY X f (rU λi=>.int (g i)):=by
 intro e s l H x v Q I j h;let⟨i,rfl,q⟩:=h;let⟨t,rfl⟩:=j;show rule i t s _ _ ⟨.int (g i),H,I.tok _,⟨_,O⟩,q⟩
def Kz:qY X (unaryOp .USub) (rU λi=>.int (-i)):=HM λ_ _ _ _ _ q=>neg_int q
end
section
variable{X:Cx}{a b:Å}{f tb:TE}{pos:Pos}
def o7{c:Y (Addr×Obj)}{h:St}{H:Hp}{s:À}{Q:VK}{k g:Bool}(I:Inv X c h H s)(q:Q (.bl k) H)(e:k=g):EP X c h Q (.bool g) s:=by subst e;show⟨.bl k,H,I,O,q⟩
def Ax:bG X (Ì .Lt) (gp λi j=>.bl (decide (i<j))):=n4 λ_ _ _ _ _ _ _ q=>lt_int q
def Hj:bG X (Ì .LtE) (gp λi j=>.bl (decide (i<=j))):=n4 λ_ _ _ _ _ _ _ q=>le_int q
def En:bG X (Ì .Gt) (gp λi j=>.bl (decide (j<i))):=n4 λ_ _ _ _ _ _ _ q=>gt_int q
def Ex:bG X (Ì .GtE) (gp λi j=>.bl (decide (j<=i))):=n4 λ_ _ _ _ _ _ _ q=>ge_int q
def Br:bG X (Ì .Is) (λx y H Q=>y=.non/\Q (.bl (decide (x=.non))) H):=by
 intro c s j H x y v u Q I e g h;let⟨rfl,q⟩:=h;cases g;refine is_none_gen (o7 I q ?_)
 cases x<;>first
  |(cases e;rfl)
  |(let⟨t,rfl⟩:=e;rfl)
def Ib:bG X (Ì .IsNot) (λx y H Q=>y=.non/\Q (.bl (!decide (x=.non))) H):=by
 intro c s j H x y v u Q I e g h;let⟨rfl,q⟩:=h;cases g;refine isnot_none_gen (o7 I q ?_)
 cases x<;>first
  |(cases e;rfl)
  |(let⟨t,rfl⟩:=e;rfl)
def aY(b:Å){c:Ļ}(h:c≠.In:=by decide)(j:c≠.NotIn:=by decide):behindInMarks c b=β:=by
 have e:(c==Ļ.In)=β:=by cases c<;>first|rfl|show absurd O h
 have g:(c==Ļ.NotIn)=β:=by cases c<;>first|rfl|show absurd O j
 cases b<;>simp[behindInMarks,e,g]
def Gu{e:Ļ}{r:R2}(p:bG X (Ì e) r)(l:PE X a f)(m:PE X b tb)(o:behindInMarks e b=β):PE X (.Compare a [e] [b] pos) (iE r f tb):=by intro c s B H Q I h;show wpAny_Compare1 (ql l m I h λv u A x y g j w z q=>p c A B g x y v u Q j w z q) o
def sx(t:TE):TT:=λc H Q=>t c H λx H'=>∃k,x=.bl k/\Q k H'
def wu{j:Ļ}{r:R2}(G:bG X (Ì j) r)(C:PE X a f)(E:PE X b tb)(F:behindInMarks j b=β):PT X (.Compare a [j] [b] pos) (sx (iE r f tb)):=by
 intro g s l H Q I h
 refine wpAny_isTrue_Compare1 (ay (C g s l H _ I h) λv P ⟨x,m,w,M,J⟩=>ay (E g P l m _ w J) λu R ⟨y,o,A,N,K⟩=>
  ay (G g R l o x y v u _ A M N K) λc S ⟨z,p,B,U,k,e,L⟩=>?_) F
 subst e;cases U;show NS ⟨p,B,L⟩
noncomputable def qg(K:Â)(x:V)(H:Hp)(k:Bool):Prop:=
 match x with
 |.non=>k=β
 |.bl b=>k=b
 |.int i=>k=(i != 0)
 |.str y=>y.length<=sizeLine/\k=((y.length:Int) != 0)
 |.byt y=>y.size<=sizeLine/\k=((y.size:Int) != 0)
 |.ref p=>(∃xs,SqL K H p xs/\k=!xs.isEmpty)\/(∃xs,SqT K H p xs/\k=!xs.isEmpty)\/∃c,H p=Z (.dK c)/\k=!c.isEmpty
 |_=>False
def Kp{g:Type}{c:Y (g×V)}{e:Y (g×Value)}(r:KV c e):(!e.isEmpty)=!c.isEmpty:=by cases r<;>rfl
def wU{xs:Y V}{its:Y Value}(r:Vals xs its):(!its.toArray.isEmpty)=!xs.isEmpty:=by cases r<;>simp
def iy:(sizeLine:Nat)<2^63:=by rw[ND];decide
def BE:EM X (λx H Q=>∃k,qg X.K x H k/\Q k H):=by
 intro A s F H x v Q I l h;let⟨k,e,q⟩:=h;have hl:=iy;have E:sizeLine=16777216:=ND
 cases x with
 |non=>
  cases l;have c:k=β:=e;subst c;show truthy_none ⟨H,I,q⟩
 |bl b=>
  cases l;have c:k=b:=e;subst c;show NS ⟨H,I,q⟩
 |int i=>
  let⟨t,rfl⟩:=l;have c:k=(i != 0):=e;subst c;show PySem.P.truthy_int ⟨H,I,q⟩
 |str y=>
  let⟨t,rfl⟩:=l;obtain⟨C,c⟩:y.length<=sizeLine/\k=((y.length:Int) != 0):=e;subst c;show PySem.P.truthy_str () ⟨H,I.tok _,q⟩
 |byt y=>
  let⟨t,rfl⟩:=l;obtain⟨C,c⟩:y.size<=sizeLine/\k=((y.size:Int) != 0):=e;subst c;show PySem.W.truthy_bytes () ⟨H,I.tok _,q⟩
 |ref p=>
  cases l;have c:(∃xs,SqL X.K H p xs/\k=!xs.isEmpty)\/(∃xs,SqT X.K H p xs/\k=!xs.isEmpty)\/∃j,H p=Z (.dK j)/\k=!j.isEmpty:=e;rcases c with⟨xs,o,c⟩|⟨xs,o,c⟩|⟨j,o,c⟩
  ·subst c;let⟨its,r,w,z⟩:=I.list o;have g:=r.length;show wpAny_truthy_list w.isList (by simp only[LR];omega) ⟨H,I.tok _,by rwa[wU r]⟩
  ·subst c;let⟨its,r,w,z⟩:=I.tuple o;have g:=r.length;show truthy_tuple w (by simp only[LR];omega) ⟨H,I.tok _,by rwa[wU r]⟩
  ·subst c;obtain⟨z,B,u,r,m⟩:j.length<=sizeLine/\(p==Ø)=β/\∃u,KV j u/\s.heap.DictOf (bK X.prog X.w) p u:=I.hok p _ o;have g:j.length=u.length:=OD r;show wpAny_truthy_dict B m () ⟨H,I.tok _,by rwa[Kp r]⟩
 |_=>show (show False from e).elim
def JT(o:PE X a f)(p:∀c,isTrue a X.env c=(do let v ←c;standAt a.pos;holding [v] (truthy v))) :
  PT X a (λg H Q=>f g H λx H'=>∃k,qg X.K x H' k/\Q k H'):=by
 intro e s g H Q I h;show isTrue_plain (ay (o e s g H _ I h) λv w m=>by let⟨x,j,l,u,r⟩:=m;show BE e w g j x v Q l u r) (p _)
def JA:bG X (Î .Add) (λx y H Q=>∃i j,x=.str i/\y=.str j/\i.length+j.length<=sizeLine/\Q (.str (i++j)) H):=by intro c s o H x y v u Q I g l h;let⟨i,j,rfl,rfl,e,q⟩:=h;let⟨t,rfl⟩:=g;let⟨t',rfl⟩:=l;show add_str (λt' m=>⟨.str (i++j),H,I.tok _,⟨_,O⟩,q⟩) e
def ib{x:V}{c:Y Value}(r:Vals [x] c):∃u,c=[u]/\RelV x u:=by
 cases r with
 |cons e g=>cases g;show⟨_,O,e⟩
def rh{x y:V}{c:Y Value}(r:Vals [x,y] c):∃u e,c=[u,e]/\RelV x u/\RelV y e:=by
 cases r with
 |cons g h=>
  cases h with
  |cons j l=>cases l;show⟨_,_,O,g,j⟩
def HX:eA X (.builtin "abs") (λxs H Q=>∃i,xs=[.int i]/\Q (.int (if i<0 then -i else i)) H):=by intro c s j H xs g Q I r h;let⟨i,rfl,q⟩:=h;let⟨u,rfl,t,rfl⟩:=ib r;show call_abs_int λu e=>⟨.int (if i<0 then -i else i),H,I.tok _,⟨_,O⟩,q⟩
def EF(g:X.calm=ž):eA X (.builtin "min") (λxs H Q=>∃i j,xs=[.int i,.int j]/\Q (.int (if j<i then j else i)) H):=by
 intro e s p H xs m Q I r h;let⟨i,j,rfl,q⟩:=h;let⟨u,o,rfl,⟨t,rfl⟩,⟨t',rfl⟩⟩:=rh r;refine min_two_ints (I.ok.hd g) λh' l k=>⟨_,H,I.kept k,?_,q⟩;by_cases c:j<i
 ·rw[LI c,LI c];show⟨_,O⟩
 ·rw[LG c,LG c];show⟨_,O⟩
end
structure ObjM(h:Heap)(x dx C:Addr)(mA:Str->Option Value):Prop where
 obj:h.get? x=Z (ô C dx)
 ns:h.Ns1 dx mA
 ne:dx≠x
def Jc{h:Heap}{dx:Addr}{f:Str->Ž Value}(n:h.Ns1 dx f):∃g,h.get? dx=Z g/\∀name,lookIn name g=Z (f name):=by
 let⟨o,c,v,r,hd,m,_,p⟩:=n;refine⟨o,r,λname=>?_⟩;have e:=p name;unfold nsFind findBy at e;rw[←Array.find?_toList]at e;unfold lookIn;rw[hd];dsimp only;split
 ·rename_i y q;rw[q]at e;show MR Z e
 ·rename_i q;rw[q]at e
  have a:c.toList.any (·.refKey)=β:=by rw[List.any_eq_false];intro y u;let⟨z,t,j⟩:=m y (Array.mem_toList_iff.mp u);simp[DictEntry.refKey,j]
  have l:¬ c.toList.any (·.refKey)=ž:=by rw[a];show Ml
  rw[LG l];show MR Z e
def ObjM.look{h:Heap}{x dx C:Addr}{c:Str->Ž Value}(I:ObjM h x dx C c):∃a,InstAt h x (ô C dx) C (Z a)/\∀name,lookIn name a=Z (c name):=
 let ⟨a,ho,hl⟩:=Jc I.ns
 ⟨a,⟨I.obj,O,O,ho⟩,hl⟩
section
variable{prog:Æ}{w:Ç}{A:É}{E:Value->À->Prop}{s:À}{K:Â}{x dx C f:Addr}{c:Str->Ž Value}{name:Str}{v:Value}
def Eh{a:Bool}{Q:Value->À->Prop}(X:K.In s.heap)(I:ObjM s.heap x dx C c)(j:Ģ K C name=ž)(hh:Č K C=ž)
  (g:å K (.ref C) name=Z ż) (l:c name=Z v) (e:handedIn v=ž) (h:Q v { s with toks:=s.toks+1 }) :
  wpAny (Ä prog w) A (getAttr (.ref x) name a) Q E s:=by
 let⟨m,J,hl⟩:=I.look;show PySem.W.get_value X J (PySem.W.plainGet_of j).1 (PySem.W.findObj_own hh g O (by rw[hl,l])) e h
def Fu{ns:Y Str}{Q:Unit->À->Prop}(X:K.In s.heap)(I:ObjM s.heap x dx C c)
  (B:å K (.ref C) "__setattr__"=Z (Z (.builtin "object.__setattr__"))) (hp:ĵ K C=ž) (F:ŧ K C name=Z ż) (hh:Č K C=ž)
  (G:PySem.Within c ns) (hsz:ns.length<=sizeLine)
  (h:∀h',ObjM h' x dx C (λy=>if y=name then Z v else c y)->Heap.SameBut dx s.heap h'->Q Unit.unit { s with heap:=h',toks:=s.toks+2 }) :
  wpAny (Ä prog w) A (setAttr (.ref x) name v) Q E s:=by
 let⟨N,J,hl⟩:=I.look;refine PySem.W.set_plain X J B (PySem.W.osa_open (s:={ s with toks:=s.toks+1 }) (r:=ż) X J hp F λb=>?_);let⟨L,z,o⟩:=PySem.W.any_some hh;have H:s.heap.get? x=Z ⟨.ref C,Z dx,.plain,#[]⟩:=I.obj;refine LD (LP (LD (LD (wpAny_loadPart H (LD (PySem.W.Looks.here (s:={ s with toks:=s.toks+1 }) (PySem.W.looks_clsIn X z) ?_))))));rw[o];refine LP (a:=Z dx) (LD (LP (LD ?_)));refine wpAny_nsSet1 (s:={ s with toks:=s.toks+1 }) I.ns λh' m l=>?_;let⟨M,u,p,j,g,e⟩:=m.count (PySem.Within.cons name v G);refine LD (wpAny_lookBehind j (by rw[g];show pastItsLine_dict (L6 e (by rw[LX];omega))) ?_);show LP (h _ ⟨(l.2 _ (Mo I.ne)).trans I.obj,m,I.ne⟩ l)
def A7{R:ģ->À->Prop}{e:Y Value}{a:Y (Str×Value)}(X:K.In s.heap)(m:Ũ K C=ž)
  (l:å K (.ref C) "__init__"=Z (Z (.ref f))) (j:typeIn K (.ref f)=Z (.type "function"))
  (h:Þ (Ä prog w) (A.under (.builtin "type.__call__" ⟨.ref C::e,a⟩)) (.call (.ref f) ⟨.ref (s.heap.objs.size+1)::e,a⟩) (PySem.W.InitBack (s.heap.objs.size+1) R)
   { s with heap:=(s.heap.push á).push (ô C s.heap.objs.size) }) :
  Þ (Ä prog w) A (.call (.ref C) ⟨e,a⟩) R s:=by
 let⟨hh,g,d,t,os⟩:=s;show PySem.W.make_core (PySem.W.makes_of X m) (PySem.W.looks_findIn X l) (λself=>PySem.W.bind_fn X self j) (.inl O) h
end
def cM(f:Str)(v:V):Y (Str×V)->Y (Str×V)
 | []=>[(f,v)]
 |(g,x)::r=>if g=f then (g,v)::r else (g,x)::cM f v r
theorem yr(f g:Str)(v:V):∀fs:Y (Str×V),(cM f v fs).lookup g=if g=f then Z v else fs.lookup g
 | []=>by
  change List.lookup g [(f,v)]=_;by_cases h:g=f
  ·have a:(g==f)=ž:=Pp.mpr h;simp only[List.lookup,a,LI h]
  ·have a:(g==f)=β:=Nk.mpr h;simp only[List.lookup,a,LG h]
 |(k,x)::r=>by
  have j:=yr f g v r;rw[show cM f v ((k,x)::r)=(if k=f then (k,v)::r else (k,x)::cM f v r)from rfl];by_cases c:k=f
  ·rw[LI c];by_cases h:g=k
   ·have a:(g==k)=ž:=Pp.mpr h;simp only[List.lookup,a,LI (h.trans c)]
   ·have a:(g==k)=β:=Nk.mpr h;simp only[List.lookup,a,LG (λe:g=f=>h (e.trans c.symm))]
  ·rw[LG c];by_cases h:g=k
   ·have a:(g==k)=ž:=Pp.mpr h;simp only[List.lookup,a,LG (λe:g=f=>c (h.symm.trans e))]
   ·have a:(g==k)=β:=Nk.mpr h;simp only[List.lookup,a];show j
theorem qH(f:Str)(v:V):∀fs:Y (Str×V),f∈(cM f v fs).map (·.1)/\∀g,g∈fs.map (·.1)->g∈(cM f v fs).map (·.1)
 | []=>⟨by simp[cM],λg h=>by simp at h⟩
 |(k,x)::r=>by
  let⟨c,j⟩:=qH f v r;rw[show cM f v ((k,x)::r)=(if k=f then (k,v)::r else (k,x)::cM f v r)from rfl];by_cases a:k=f
  ·rw[LI a];subst a;show⟨by simp,λg h=>by simpa using h⟩
  ·rw[LG a];refine⟨?_,λg h=>?_⟩
   ·rw[L5];show LO _ c
   ·rw[L5]at h ⊢;rcases L0.mp h with e|e
    ·show L0.mpr (.inl e)
    ·show LO _ (j g e)
theorem wX(f:Str)(v:V):∀fs:Y (Str×V),(cM f v fs).length<=fs.length+1
 | []=>by simp[cM]
 |(k,x)::r=>by
  have c:=wX f v r;rw[show cM f v ((k,x)::r)=(if k=f then (k,v)::r else (k,x)::cM f v r)from rfl];by_cases a:k=f
  ·rw[LI a,LX,LX];omega
  ·rw[LG a,LX,LX];omega
def RelO.some_of{v:V}{o:Ž Value}(r:RelO (Z v) o):∃u,o=Z u/\RelV v u:=by
 cases o with
 |none=>show (show False from r).elim
 |some u=>show⟨u,O,r⟩
def K2{v:V}{u:Value}(r:RelV v u):handedIn u=ž:=by
 cases v with
 |non=>cases (show u=Value.none from r);rfl
 |bl b=>cases (show u=Value.bool b from r);rfl
 |int i=>let⟨t,e⟩:=(show ∃t,u=Value.int i t from r);cases e;rfl
 |str x=>let⟨t,e⟩:=(show ∃t,u=Value.str x t from r);cases e;rfl
 |byt b=>let⟨t,e⟩:=(show ∃t,u=Value.bytes b t from r);cases e;rfl
 |flt b=>let⟨t,e⟩:=(show ∃t,u=Value.float b t from r);cases e;rfl
 |ref a=>cases (show u=Value.ref a from r);rfl
 |ty n=>cases (show u=Value.type n from r);rfl
section
variable{P:Æ}{w:Ç}{H:Hp}{h:Heap}{a C dx:Addr}{fs:Y (Str×V)}
def yB(hok:HOk P w H h)(e:H a=Z (.ins C dx fs)):∃c,ObjM h a dx C c/\(∀f,RelO (fs.lookup f) (c f))/\PySem.Within c (fs.map (·.1))/\fs.length<=1000/\H dx=Z (.own a):=by let⟨d,z,ne,ob,c,n,r,q⟩:=(show ObjOk P w H h a (.ins C dx fs)from hok a _ e);show⟨c,⟨ob,n,ne⟩,r,q,z,d⟩
end
structure Cls(K:Â)(C:Addr):Prop where
 pg:Ģ K C Str.empty=ž
 hd:Č K C=ž
 po:ĵ K C=ž
 sa:å K (.ref C) "__setattr__"=Z (Z (.builtin "object.__setattr__"))
def Cls.get{K:Â}{C:Addr}(c:Cls K C)(f:Str):Ģ K C f=ž:=c.pg
def NoAttr(K:Â)(C:Addr)(f:Str):Prop:=å K (.ref C) f=Z ż
def NoAttr.taker{K:Â}{C:Addr}{f:Str}(n:NoAttr K C f):ŧ K C f=Z ż:=by unfold ŧ;rw[show å K (.ref C) f=Z ż from n];rfl
section
variable{X:Cx}{j:Y (Addr×Obj)}{m:St}{H:Hp}{s:À}{a C dx:Addr}{fs:Y (Str×V)}{f:Str}{v:V}{A:É}{E:Value->À->Prop}
def CL{b:Bool}{Q:Value->À->Prop}(I:Inv X j m H s)(e:H a=Z (.ins C dx fs))(c:Cls X.K C)(n:NoAttr X.K C f)(l:fs.lookup f=Z v)
  (h:∀u p,Inv X j m H p->RelV v u->Q u p):wpAny (Ä X.prog X.w) A (getAttr (.ref a) f b) Q E s:=by
 let⟨x,U,r,_,_,_⟩:=yB I.hok e;let⟨u,w,g⟩:=RelO.some_of (v:=v) (o:=x f) (by rw[←l];show r f);show Eh I.kIn U (c.get f) c.hd n w (K2 g) (h u _ (I.tok _) g)
def JR{y:V}{u:Value}{Q:Unit->À->Prop}(I:Inv X j m H s)(e:H a=Z (.ins C dx fs))(c:Cls X.K C)(n:NoAttr X.K C f)(hl:fs.length<1000)(L:RelV y u)
  (h:∀w,Inv X j m (au H a (.ins C dx (cM f y fs))) w->Q Unit.unit w):wpAny (Ä X.prog X.w) A (setAttr (.ref a) f u) Q E s:=by
 let⟨p,U,r,B,_,J⟩:=yB I.hok e
 have K:(fs.map (·.1)).length<=sizeLine:=by rw[LC,ND];omega
 refine Fu I.kIn U c.sa c.po n.taker c.hd B K λh' l sb=>h _ ?_
 have hd:∃o,h'.get? dx=Z o:=let ⟨o,_,_,e',_⟩:=l.ns;⟨o,e'⟩
 refine I.write (x:=a) (e:=dx) (by rw[e];show Ý) (.inr J) (λb q F z=>(sb.2 b F).trans z) hd ?_;refine⟨by rwa[aE U.ne],?_,U.ne,l.obj,_,l.ns,λg=>?_,λg G=>?_⟩
 ·have:=wX f y fs;omega
 ·change RelO ((cM f y fs).lookup g) (if g=f then Z u else p g);rw[yr];by_cases q:g=f
  ·rwa[LI q,LI q]
  ·rw[LG q,LG q];show r g
 ·by_cases q:g=f
  ·rw[q];show (qH f y fs).1
  ·refine (qH f y fs).2 g (B g λz=>G ?_);change (if g=f then Z u else p g)=ż;rwa[LG q]
def Inv.made(I:Inv X j m H s):Inv X j m (au (au H s.heap.objs.size (.own (s.heap.objs.size+1))) (s.heap.objs.size+1) (.ins C s.heap.objs.size []))
  { s with heap:=(s.heap.push á).push (ô C s.heap.objs.size) }:=by
 have c:(s.heap.push á).get? s.heap.objs.size=Z á:=LS s.heap O
 have h:((s.heap.push á).push (ô C s.heap.objs.size)).get? (s.heap.objs.size+1)=Z (ô C s.heap.objs.size):=by
  have:=LS (s.heap.push á) (o:=ô C s.heap.objs.size) O
  rwa [Mz]at this
 have l:(s.heap.push á).Ns s.heap.objs.size (λ_=>ż):=⟨á,#[],_,c,O,(λe p=>absurd p (by simp)),λ_=>rfl⟩;have g:=I.laid (a:=s.heap.objs.size) (o:=.own (s.heap.objs.size+1)) (h':=s.heap.push á) (t':=s.toks) (λb u q=>LK _ q) (LM _) ⟨_,c⟩;refine g.laid (a:=s.heap.objs.size+1) (o:=.ins C s.heap.objs.size []) (t':=s.toks) (λb u q=>LK _ q) (QW (Mz _ _)) ?_;have ne:s.heap.objs.size≠s.heap.objs.size+1:=LZ (Np _);refine⟨by rw[aE ne,aW],ME _,ne,h,λ_=>ż,(Heap.Ns1.of_empty l).at λo q=>LK _ q,λ_=>Ý,λy r=>absurd rfl r⟩
def DV{prog:Æ}{w:Ç}{env:ó}{e:Å}{f:Str}{pos:Pos}{s:À}{Q:Value->À->Prop}(g:Ò e f env (eval e env)=eval e env)
  (h:wpAny (Ä prog w) A (eval e env) (λo c=>wpAny (Ä prog w) A (getAttr o f ž) Q E c) E s):wpAny (Ä prog w) A (eval (.Attribute e f pos) env) Q E s:=
 Attribute_any_ h (by rw[arm_eval_Attribute,g])
end
def zh(K:Â)(e:TE)(f:Str):TE:=λg H Q=>e g H λx c=>∃a C dx fs v,x=.ref a/\c a=Z (.ins C dx fs)/\Cls K C/\NoAttr K C f/\fs.lookup f=Z v/\Q v c
def JG(K:Â)(h j:TE)(f:Str):TS:=λD c H=>j c H λy g=>h c g λx e=>∃a C dx fs,x=.ref a/\e a=Z (.ins C dx fs)/\Cls K C/\NoAttr K C f/\fs.length<1000 /\
 D.nx c (au e a (.ins C dx (cM f y fs)))
section
variable{X:Cx}{o e g:Å}{f:Str}{pos j:Pos}{m p:TE}
def Cd(F:PE X e m)(E:Ò e f X.env (eval e X.env)=eval e X.env):PE X (.Attribute e f pos) (zh X.K m f):=by intro r s K H Q I h;refine DV E (ay (F r s K H _ I h) λu L A=>?_);let⟨x,w,y,J,a,C,dx,fs,v,ex,B,c,n,l,q⟩:=A;subst ex;obtain rfl:u=Value.ref a:=J;show CL y B c n l λN M z G=>⟨v,w,z,G,q⟩
def mL(F:PE X o m)(J:PE X g p)(G:Ð g (Z (.Attribute o f j)) pos.line X.env=pure β):PS X (.Assign [.Attribute o f j] g pos) (JG X.K m p f):=by intro r s v H D I h;refine plainObj_wpAny_Assign_Attribute (ay (J r s v H _ I h) λu N ⟨y,w,z,M,q⟩=>ay (F r N v w _ z q) λov P ⟨x,U,A,L,a,C,dx,fs,ex,E,c,n,l,K⟩=>?_) G;subst ex;obtain rfl:ov=Value.ref a:=L;show JR A E c n l M λQ B=>⟨v,_,B,K⟩
end
structure Room(k:Nat)(A:É):Prop where
 hd:A.handled=ż
 dp:A.depth+3*k+5<ù
 un:A.units+16*k+200<ã
def Room.mono{j k:Nat}{A:É}(r:Room k A)(h:j<=k):Room j A:=⟨r.hd,by have:=r.dp;omega,by have:=r.un;omega⟩
def Room.deeper{k:Nat}{A:É}(r:Room (k+1) A)(env:ó):Room k (A.deeper env):=
 ⟨r.hd,by have:=r.dp;change A.depth+1+3*k+5<_;omega,by have:=r.un;change A.units+3+16*k+200<_;omega⟩
def J4{A:É}{C:Addr}{c:Y Value}{a:Y (Str×Value)}:(A.under (.builtin "type.__call__" ⟨.ref C::c,a⟩)).depth=A.depth+1:=by
 first|rfl|simp[ē,Code.weight,Code.isCreation,Code.isGuard,Code.isCaller,ų,Ė,guardIds]
def AD{A:É}{C:Addr}{c:Y Value}{a:Y (Str×Value)}:(A.under (.builtin "type.__call__" ⟨.ref C::c,a⟩)).units=A.units+1:=by
 first|rfl|simp[ē,Code.cUnits,ų,Ė]
def Room.make{k:Nat}{A:É}(r:Room (k+1) A)(C:Addr)(c:Y Value)(a:Y (Str×Value)):Room k (A.under (.builtin "type.__call__" ⟨.ref C::c,a⟩)):=
 ⟨r.hd,by have:=r.dp;rw[J4];omega,by have:=r.un;rw[AD];omega⟩
def Room.depth{k:Nat}{A:É}(r:Room k A):A.depth<ù:=by have:=r.dp;omega
def Room.units{k:Nat}{A:É}(r:Room k A):A.units+64<ã:=by have:=r.un;omega
def FQ:TA:=λ_ H Q=>Q [] H
def D6(f:TE)(g:TA):TA:=λa H Q=>f a H λx c=>g a c λxs e=>Q (x::xs) e
section
variable{X:Cx}{e:Å}{a:Y Å}{c:TE}{t:TA}{pos:Pos}
def pa_nil:PA X [] FQ:=λ_ _ _ _ H Q I h=>Calls.spliced_nil ⟨[],H,I,.nil,h⟩
def dR(v:PE X e c)(w:PA X a t)(y:Á (e::a) X.env=(β,eval e X.env)::Á a X.env:=by rfl):PA X (e::a) (D6 c t):=by
 intro pos f s g H Q I h;rw[y];change wpAny _ _ (spliced ((β,eval e X.env)::Ñ pos (Á a X.env))) _ _ s;refine Calls.spliced_cons (ay (v f s g H _ I h) λu E r=>?_);let⟨x,j,m,B,z⟩:=r
 show ay (w pos f E g j _ m z) λG F p=>by let⟨xs,l,o,C,A⟩:=p;show⟨x::xs,l,o,.cons B C,A⟩
def Jz(t:TA):TE:=λg H Q=>t g H λxs f=>xs.length<=sizeLine/\∀p,f p=ż->Q (.ref p) (au f p (.tup xs))
def CO(t:TA):TE:=λg H Q=>t g H λxs f=>xs.length<=sizeLine/\∀p,f p=ż->Q (.ref p) (au f p (.lst xs))
def vL{x1}(h:PA X a t):PE X (.Tuple a x1 pos) (Jz t):=by
 intro f s p H Q I hq;refine wpAny_Tuple_spliced (ay (h pos f s p H _ I hq) λo g ⟨xs,j,l,r,z,q⟩=>⟨by rwa[←r.length],?_⟩);have m:j g.heap.objs.size=ż:=l.hok.fresh (LM _);refine⟨.ref g.heap.objs.size,au j g.heap.objs.size (.tup xs),l.laid (t':=g.toks) (λb u e=>LK _ e) (LM _) ?_,O,q _ m⟩;show⟨z,o,r,⟨_,LS _ O,⟨O,O⟩,_,O⟩⟩
def EI(h:PA X a t):PE X (.List a pos) (CO t):=by
 intro f s p H Q I hq;refine wpAny_List_spliced (ay (h pos f s p H _ I hq) λo g ⟨xs,j,l,r,z,q⟩=>⟨by rwa[←r.length],?_⟩);have m:j g.heap.objs.size=ż:=l.hok.fresh (LM _);refine⟨.ref g.heap.objs.size,au j g.heap.objs.size (.lst xs),l.laid (t':=g.toks) (λb u e=>LK _ e) (LM _) ?_,O,q _ m⟩;show⟨z,o,0,r,LS _ O⟩
end
abbrev Sp:=Y V->Hp->VK->XK->Prop
abbrev dA:=Y ó->Hp->À->XK->Value->À->Prop
structure Env0(P:Æ)(w:Ç)(K:Â)(mg:Str->Option Value)(base:Heap)(A:É)(outer:List ó)(s:À)(H:Hp):Prop where
 frames:A.frames=Z outer
 mod:Mod K mg base
 bs:∀b o,base.get? b=Z o->s.heap.get? b=Z o/\H b=ż
 bsz:base.objs.size<=s.heap.objs.size
 funs:s.heap.FunFrames base outer
 frf:∀b∈fJ outer,H b=ż
 hok:HOk P w H s.heap
 bare:ö s.gens
def CE(outer:Y ó)(P:Æ)(w:Ç)(H:Hp)(s:À)(Q:VK)(u:Value)(a:À):Prop:=
 ∃v H',a.os=s.os/\ö a.gens/\Un (fJ outer) [] H H' s.heap a.heap/\HOk P w H' a.heap/\RelV v u/\Q v H'
def CR(CX:dA)(outer:Y ó)(P:Æ)(w:Ç)(H:Hp)(s:À)(Q:VK)(E:XK)(r:ģ)(a:À):Prop:=
 match r with
 |.ok (.ret u)=>CE outer P w H s Q u a
 |.ok _=>False
 |.error e=>CX outer H s E e a
structure FnOk(P:Æ)(w:Ç)(K:Â)(mg:Str->Option Value)(base:Heap)(CX:dA)(k:Nat)(f:Addr)(fd:Í)(ps:List Str)(sp:Sp):Prop where
 len:∀vs H Q E,sp vs H Q E->vs.length=ps.length
 run:∀(A:É)(outer:List ó)(s:À)(H:Hp)(args:Args)(us:List Value)(vs:List V)(Q:VK)(E:XK),Room k A->Env0 P w K mg base A outer s H->ė s fd args (ps.zip us)->Vals vs us->sp vs H Q E->
  Þ (Ä P w) A (.call (.ref f) args) (CR CX outer P w H s Q E) s
def FnOk.mono{P:Æ}{w:Ç}{K:Â}{mg:Str->Ž Value}{base:Heap}{CX:dA}{j k:Nat}{f:Addr}{a:Í}{ps:Y Str}{sp:Sp}(F:FnOk P w K mg base CX j f a ps sp)(h:j<=k) :
  FnOk P w K mg base CX k f a ps sp:=⟨F.len,λA outer s H args e g Q E c=>F.run A outer s H args e g Q E (c.mono h)⟩
def FnOk.imp{P:Æ}{w:Ç}{K:Â}{mg:Str->Ž Value}{base:Heap}{CX:dA}{k:Nat}{f:Addr}{e:Í}{ps:Y Str}{sp c:Sp}(F:FnOk P w K mg base CX k f e ps sp)
  (h:∀a H Q E,c a H Q E->sp a H Q E):FnOk P w K mg base CX k f e ps c:=
 ⟨λa H Q E q=>F.len a H Q E (h _ _ _ _ q),λA outer s H args p a Q E l j g o m=>F.run A outer s H args p a Q E l j g o (h _ _ _ _ m)⟩
def Env0.make{P:Æ}{w:Ç}{K:Â}{mg:Str->Ž Value}{base:Heap}{A:É}{outer:Y ó}{s:À}{H:Hp}(e:Env0 P w K mg base A outer s H)(C:Addr)(c:Y Value)(a:Y (Str×Value)) :
  Env0 P w K mg base (A.under (.builtin "type.__call__" ⟨.ref C::c,a⟩)) outer s H:=⟨by first|show e.frames|(simpa [ē,Code.envs,Ė,pushEnvs] using e.frames),e.mod,e.bs,e.bsz,e.funs,e.frf,e.hok,e.bare⟩
section
variable{X:Cx}{a:Y (Addr×Obj)}{c:St}{H:Hp}{s e:À}
def Inv.env0(I:Inv X a c H s):Env0 X.prog X.w X.K X.mg X.base X.A X.stack s H:=
 ⟨I.ok.frames,I.ok.mod,I.bs,L6 I.ok.bsz I.sz,I.stack,I.stkFree,I.hok,I.bare⟩
def Inv.after{Q:VK}{u:Value}(I:Inv X a c H s)(h:CE X.stack X.prog X.w H s Q u e):EP X a c Q u e:=by let⟨v,H',os,bare,un,hok,r,q⟩:=h;let⟨hh,g,d,t,f⟩:=e;obtain rfl:f=s.os:=os;show⟨v,H',I.call (h':=hh) (g':=g) (d':=d) (t':=t) (ch:=[]) un hok bare (λb z=>absurd z (by simp)),r,q⟩
end
def D0(sp:Sp)(dvs:Y V)(E:XK)(t:TA):TE:=λe H Q=>t e H λc a=>sp (c++dvs) a Q E
def Et(C:Addr)(sp:Sp)(dvs:Y V)(E:XK)(t:TA):TE:=λf H Q=>t f H λe a=>∀x dx,a x=ż->a dx=ż->dx≠x->
 sp (.ref x::(e++dvs)) (au (au a dx (.own x)) x (.ins C dx [])) (λv c=>v=.non/\Q (.ref x) c) E
def Binds(K:Â)(c:Í)(ps:Y Str)(ds:Y Value):Prop:=
 ∀(s:À)(a:Y Value),K.In s.heap->(a++ds).length=ps.length->ė s c ⟨a,[]⟩ (ps.zip (a++ds))
def Binds.all{K:Â}{c:Í}{ps:Y Str}(h:∀a:Y Value,a.length=ps.length->Ġ c ⟨a,[]⟩=pure (ps.zip a)):Binds K c ps []:=λs a _ hl=>by rw[ML]at hl ⊢;show .of_eq (h a hl)
def iT(CX:dA)(X:Cx)(E:XK):Prop:=∀(a:Y (Addr×Obj))(f:St)(H:Hp)(s:À)(e:Value)(c:À),Inv X a f H s->CX X.stack H s E e c->X.xe e c
section
variable{X:Cx}{CX:dA}{k:Nat}{f C:Addr}{c:Í}{ps:Y Str}{sp:Sp}{dvs:Y V}{ds:Y Value}{E:XK}{x:Str}{p pos:Pos}{e:Å}{a:Y Å}{t:TA}
def K1{g:Y (Addr×Obj)}{m:St}{H:Hp}{s:À}{Q:VK}{j:Y Value}{l:Y V}(F:FnOk X.prog X.w X.K X.mg X.base CX k f c ps sp)(y:Room k X.A)(w:Binds X.K c ps ds)(hd:Vals dvs ds)(z:iT CX X E)
  (I:Inv X g m H s) (r:Vals l j) (h:sp (l++dvs) H Q E):wpAny (Ä X.prog X.w) X.A (call (.ref f) j) (EP X g m Q) X.xe s:=by
 have o:Vals (l++dvs) (j++ds):=r.append hd
 have hl:(j++ds).length=ps.length:=by rw[←o.length];show F.len _ _ _ _ h
 refine Ě (Ov (F.run X.A X.stack s H ⟨j,[]⟩ (j++ds) (l++dvs) Q E y I.env0 (w s j I.kIn hl) o h) λr A hq=>?_)
 cases r with
 |error e=>show z g m H s e A I hq
 |ok v=>
  cases v with
  |ret u=>show I.after hq
  |next=>show Ó hq
  |brk=>show Ó hq
  |cont=>show Ó hq
def wG(F:FnOk X.prog X.w X.K X.mg X.base CX k f c ps sp)(A:Room k X.A)(w:Gl X x)(z:X.mg x=Z (.ref f))(y:í X.K (.ref f)=ž)(u:Binds X.K c ps ds)(hd:Vals dvs ds)(B:iT CX X E)
  (o:PA X (e::a) t) (m:ab x:=by decide) (v:Á (e::a) X.env=(β,eval e X.env)::Á a X.env:=by rfl) (l:(Ñ pos (Á a X.env)).any (·.1)=β:=by rfl) :
  PE X (.Call (.Name x p) (e::a) [] pos) (D0 sp dvs E t):=by
 intro g s G H Q I h;refine Oh (rm I w z ?_ m);refine callWith_K (h₀:=X.base) I.ok.mod.kin y (ay (o pos g s G H _ I h) λL K ⟨M,J,j,r,q⟩=>⟨j.kIn,?_⟩) v l;show K1 F A u hd B j r q
structure Mk(K:Â)(C f:Addr):Prop where
 makes:Ũ K C=ž
 init:å K (.ref C) "__init__"=Z (Z (.ref f))
 fn:isFn K (.ref f)=ž
 kp:í K (.ref C)=ž
def GI{g:Y (Addr×Obj)}{w:St}{H:Hp}{s:À}{Q:VK}{j:Y Value}{o:Y V}(M:Mk X.K C f)(F:FnOk X.prog X.w X.K X.mg X.base CX k f c ps sp)(K:Room (k+1) X.A)(J:Binds X.K c ps ds)(hd:Vals dvs ds)
  (L:iT CX X E) (I:Inv X g w H s) (r:Vals o j)
  (h:∀x dx,H x=ż->H dx=ż->dx≠x->sp (.ref x::(o++dvs)) (au (au H dx (.own x)) x (.ins C dx [])) (λv z=>v=.non/\Q (.ref x) z) E) :
  wpAny (Ä X.prog X.w) X.A (call (.ref C) j) (EP X g w Q) X.xe s:=by
 have hq:=h (s.heap.objs.size+1) s.heap.objs.size (I.hok.fresh (O5 _)) (I.hok.fresh (LM _)) (LZ (Np _));have m:=Inv.made (C:=C) I;have y:Vals (V.ref (s.heap.objs.size+1)::(o++dvs)) (Value.ref (s.heap.objs.size+1)::(j++ds)):=.cons O (r.append hd)
 have hl:(Value.ref (s.heap.objs.size+1)::j++ds).length=ps.length:=by have e:=y.length;rw[F.len _ _ _ _ hq]at e;show e.symm
 refine Ě (A7 (f:=f) I.kIn M.makes M.init (Pp.mp M.fn) (Ov (F.run _ X.stack _ _ ⟨Value.ref (s.heap.objs.size+1)::j,[]⟩ (Value.ref (s.heap.objs.size+1)::(j++ds)) _ _ E (K.make C j [])
  (m.env0.make C j []) (J _ (Value.ref (s.heap.objs.size+1)::j) m.kIn hl) y hq) λr P l=>?_))
 cases r with
 |error e=>show L g w _ _ e P m l
 |ok G=>
  cases G with
  |ret u=>
   let⟨v,H',A,U,B,N⟩:=m.after l;subst B;show⟨U,⟨V.ref (s.heap.objs.size+1),H',A,O,N⟩⟩
  |next=>show Ó l
  |brk=>show Ó l
  |cont=>show Ó l
def Ec(M:Mk X.K C f)(F:FnOk X.prog X.w X.K X.mg X.base CX k f c ps sp)(z:Room (k+1) X.A)(w:Gl X x)(y:X.mg x=Z (.ref C))(u:Binds X.K c ps ds)(hd:Vals dvs ds)(A:iT CX X E)
  (o:PA X (e::a) t) (m:ab x:=by decide) (v:Á (e::a) X.env=(β,eval e X.env)::Á a X.env:=by rfl) (l:(Ñ pos (Á a X.env)).any (·.1)=β:=by rfl) :
  PE X (.Call (.Name x p) (e::a) [] pos) (Et C sp dvs E t):=by
 intro g s B H Q I h;refine Oh (rm I w y ?_ m);refine callWith_K (h₀:=X.base) I.ok.mod.kin M.kp (ay (o pos g s B H _ I h) λK J ⟨L,G,j,r,q⟩=>⟨j.kIn,?_⟩) v l;show GI M F z u hd A j r q
end
structure FnScope(N P:List Str)(sc:â):Prop where
 kind:sc.kind=.function
 co:sc.isCoroutine=β
 gen:sc.isGenerator=β
 nd:N.Nodup
 pre:N.take P.length=P
 par:∀x∈P,sc.names.lookup x=Z .local\/sc.names.lookup x=Z .cell
 nofree:∀y∈sc.names,y.2≠.free
theorem xO{kindOf:Str->Ž NameKind}{x:Str}:∀{binds:Y (Str×Value)}{m:Str->Ž Value},(∀v,(x,v)∉binds)->į kindOf binds m x=m x
 | [],_,_=>rfl
 |(n,v)::r,m,h=>by
  unfold į;rw[xO λw a=>h w (LO _ a)];split
  ·have:x≠n:=by rintro rfl;show h v LQ
   simp[this]
  ·rfl
theorem vK{kindOf:Str->Ž NameKind}{x:Str}:∀{binds:Y (Str×Value)}{m:Str->Ž Value},(∀v,(x,v)∉binds)->Ĵ kindOf binds m x=m x
 | [],_,_=>rfl
 |(n,v)::r,m,h=>by
  unfold Ĵ;rw[vK λw a=>h w (LO _ a)];split
  ·rfl
  ·have:x≠n:=by rintro rfl;show h v LQ
   simp[this]
theorem zi{kindOf:Str->Ž NameKind}{x:Str}{v:Value}:∀{P:Y Str}{a:Y Value}{i:Nat}{m:Str->Ž Value},P.Nodup->P[i]?=Z x->a[i]?=Z v->kindOf x=Z .local->
  į kindOf (P.zip a) m x=Z v
 | [],_,_,_,_,h,_,_=>by simp at h
 |_::_,[],_,_,_,_,h,_=>by simp at h
 |p::P,w::a,0,m,nd,c,e,f=>by
  simp at c e;subst c;subst e;change į kindOf ((p,w)::P.zip a) m p=_;unfold į;rw[xO λv g=>(MB.mp nd).1 (OF g).1,LI f];simp
 |p::P,w::a,i+1,m,nd,c,e,f=>by change į kindOf ((p,w)::P.zip a) m x=_;unfold į;show zi (i:=i) (MB.mp nd).2 (by simpa using c) (by simpa using e) f
theorem xE{kindOf:Str->Ž NameKind}{x:Str}{v:Value}:∀{P:Y Str}{a:Y Value}{i:Nat}{m:Str->Ž Value},P.Nodup->P[i]?=Z x->a[i]?=Z v->kindOf x≠Z .local->
  Ĵ kindOf (P.zip a) m x=Z v
 | [],_,_,_,_,h,_,_=>by simp at h
 |_::_,[],_,_,_,_,h,_=>by simp at h
 |p::P,w::a,0,m,nd,c,e,f=>by
  simp at c e;subst c;subst e;change Ĵ kindOf ((p,w)::P.zip a) m p=_;unfold Ĵ;rw[vK λv g=>(MB.mp nd).1 (OF g).1,LG f];simp
 |p::P,w::a,i+1,m,nd,c,e,f=>by change Ĵ kindOf ((p,w)::P.zip a) m x=_;unfold Ĵ;show xE (i:=i) (MB.mp nd).2 (by simpa using c) (by simpa using e) f
def start(N:Y Str)(a:Y V):St:=a.map Z++List.replicate (N.length-a.length) ż
noncomputable def gq(CX:dA)(P:Æ)(w:Ç)(K:Â)(mg:Str->Ž Value)(base:Heap)(N:Y Str)(qual:Str)(scope:â)(f:Addr)(a:Value)(A:É)(outer:Y ó)(s:À)(H:Hp)(E:XK):Cx where
 prog:=P
 w:=w
 K:=K
 mg:=mg
 base:=base
 A:=A.deeper (ï qual scope s.heap.objs.size f a)
 N:=N
 s₀:=s
 H₀:=H
 env:=ï qual scope s.heap.objs.size f a
 outer:=outer
 stack:=ï qual scope s.heap.objs.size f a::outer
 ex:=[]
 calm:=ž
 fn:=λ_=>ž
 pn:=[]
 xe:=λe h=>wpAny (Ä P w) (A.deeper (ï qual scope s.heap.objs.size f a)) (leaving (ï qual scope s.heap.objs.size f a) e) (λ_ c=>CX outer H s E e c) (λg c=>CX outer H s E g c) h
def tD{a:â}{n:Nat}{x:Str}(h:a.names.lookup x=Z .cell):∃c,(Ú n a.names []).lookup x=Z c:=by have q:=cellsFrom_some a.names n [] (.inl h);show Option.isSome_iff_exists.mp q
def Hb{CX:dA}{P:Æ}{w:Ç}{K:Â}{mg:Str->Ž Value}{base:Heap}{N ps:Y Str}{qual:Str}{scope:â}{f:Addr}{B:Value}{A:É}{outer:Y ó}{s M:À}{H:Hp}{E:XK}{I:Y Value}{m:Y V}
  (S:FnScope N ps scope) (hd:A.handled=ż) (j:Env0 P w K mg base A outer s H) (hl:m.length=ps.length) (r:Vals m I)
  (x:InCallC s s.heap.objs.size (į (ï qual scope s.heap.objs.size f B).kindOf (ps.zip I) λ_=>ż) (Ú (s.heap.objs.size+1) scope.names []) (Ĵ (ï qual scope s.heap.objs.size f B).kindOf (ps.zip I) λ_=>ż) M) :
  Inv (gq CX P w K mg base N qual scope f B A outer s H E) [] (start N m) H M:=by
 have R:ps.length<=N.length:=by have:=MR List.length S.pre;rw[Ms]at this;omega
 let⟨G,U,rfl,J⟩:=x.done;have F:∀b:Addr,b∉(gq CX P w K mg base N qual scope f B A outer s H E).ex:=λb z=>absurd (show b∈([]:Y Addr)from z) (by simp)
 refine⟨⟨j.mod,S.kind,O,O,LM _,λy z c G g=>?_,λy l=>?_,λy c _ h=>?_,λ_=>hd,Ę j.frames,.inr ⟨O,O⟩,λb z=>absurd z (F b),j.bs,j.bsz,λb _ _=>F b,λb z=>absurd z (F b),j.funs,j.frf⟩,
  rfl,j.bare,Un.kept J,⟨_,x.toInCall.ns,λi y v G g T=>?_⟩,λy c h=>⟨_,x.cell y c h⟩,j.hok.fresh (LM _),λy c h=>?_,λp hp=>absurd (show p∈([]:Y (Addr×Obj))from hp) (by simp),j.hok.kept J,?_⟩
 ·show name_of_addr x.apart (MD G) (MD g)
 ·have l:scope.names.lookup y=Z .cell\/scope.names.lookup y=Z .free:=l;rcases l with l|l
  ·show tD l
  ·show absurd O (S.nofree _ (MD l))
 ·show MC (x.above y c (MD h))
 ·have C:i<m.length:=by
   unfold start at g;by_cases C:i<m.length
   ·show C
   ·rw[LH (by simpa using C)]at g;rw[Nw]at g;split at g<;>cases g
  have am:m[i]?=Z v:=by
   unfold start at g;rw[LF (by simpa using C),LN]at g
   cases e:m[i]? with
   |none=>rw[e]at g;cases g
   |some a=>rw[e]at g;cases g;rfl
  let⟨u,L,Q⟩:=r.get am
  have hp:ps[i]?=Z y:=by rwa[←S.pre,NN ()]
  have o:ps.Nodup:=by rw[←S.pre];show S.nd.sublist (List.take_sublist _ _)
  refine⟨u,Q,?_⟩;rcases S.par y (Mb hp)with k|k
  ·show .inl ⟨k,zi o hp L k⟩
  ·let⟨c,e⟩:=tD (n:=s.heap.objs.size+1) k;refine .inr ⟨.inl k,c,e,?_⟩;have q:=x.cell y c e;rw[xE o hp L (by change scope.names.lookup y≠_;rw[k];decide)]at q;show q
 ·show j.hok.fresh (MC (x.above y c (MD h)))
 ·unfold start;change _=N.length;rw[LL,LC,MW];omega
def vn{CX:dA}{P:Æ}{w:Ç}{K:Â}{mg:Str->Ž Value}{base:Heap}{k:Nat}{f:Addr}{name qual:Str}{a:ď}{c:Y Ë}{scope:â}{a_ kV m pm j ct oc:Value}{M od:Ž Addr}
  {be:Array (Ž Value)} {N ps:Y Str} {sp:Sp} (lk:K.lookup f=Z ⟨oc,od,.func (č name qual a c scope a_ kV m pm M j ct),be⟩) (X:ý K j qual=ž) (S:FnScope N ps scope)
  (len:∀g H Q E,sp g H Q E->g.length=ps.length)
  (T:∀(A:É)(outer:Y ó)(s:À)(H:Hp)(g:Y V)(Q:VK)(E:XK),Room k (A.deeper (ï qual scope s.heap.objs.size f j))->sp g H Q E->
   ∃t,PSs (gq CX P w K mg base N qual scope f j A outer s H E) c t/\t { nx:=λ_ H'=>Q .non H',rt:=Q } (start N g) H) :
  FnOk P w K mg base CX (k+1) f (č name qual a c scope a_ kV m pm M j ct) ps sp:=by
 refine⟨len,λA outer s H args us g Q E z p hb r L=>?_⟩;have hl:=len _ _ _ _ L;have G:K.In s.heap:=p.mod.kin.keeps λb o e=>(p.bs b o e).1;have B:s.heap.NoLimit:=p.mod.nolimit.keeps λb o e=>(p.bs b o e).1
 have am:∀y∈ps.zip us,scope.names.lookup y.1=Z .local\/(scope.names.lookup y.1=Z .cell/\((Ú (s.heap.objs.size+1) scope.names []).lookup y.1).isSome=ž):=λU hy=>by
  let⟨n,v⟩:=U;rcases S.par n (OF hy).1 with q|q
  ·show .inl q
  ·show .inr ⟨q,cellsFrom_some _ _ _ (.inl q)⟩
 refine codeAny_call_function z.depth (G _ _ lk) O S.co S.gen O (PySem.W.codeRec_of G X) (hb _ _ _ _ ?_);refine wpAny_newFunctionEnv_cells S.kind am λenv he R x=>?_;subst he;refine⟨B.keeps x.toInCall.keep,codeAny_func ?_⟩;let⟨t,ht,hq⟩:=T A outer s H g Q E (z.deeper _) L;have I:Inv (gq CX P w K mg base N qual scope f j A outer s H E) [] (start N g) H R:=Hb S z.hd p hl r x;refine MZ (ht [] R (start N g) H _ I hq) (λfl F l=>?_) λe F l=>l
 have fin:∀{h:St}{H':Hp}{v:V}{u:Value},Inv (gq CX P w K mg base N qual scope f j A outer s H E) [] h H' F->RelV v u->Q v H'->CE outer P w H s Q u F:=
  λ{h H' v u} J C q=>⟨v,H',J.os,J.bare,J.base,J.hok,C,q⟩
 cases fl with
 |ret u=>
  let⟨v,h,H',J,C,q⟩:=l;show fin J C q
 |next=>
  let⟨h,H',J,q⟩:=l;show fin (v:=V.non) (u:=Value.none) J O q
 |brk=>
  let⟨_,_,_,q⟩:=l;show Ó q
 |cont=>
  let⟨_,_,_,q⟩:=l;show Ó q
section
variable{X:Cx}{x:Str}{p pos:Pos}{e:Å}{a:Y Å}{t:TA}{id T:String}{r:Y V->Hp->VK->Prop}
def xr(r:Y V->Hp->VK->Prop)(t:TA):TE:=λg H Q=>t g H λf c=>r f c Q
def oM(v:eA X (.builtin id) r)(y:Gl X x)(z:X.mg x=ż)(B:Ù x=Z (.builtin id))(u:PA X (e::a) t)(A:x≠"__name__":=by decide)(o:ab x:=by decide)
  (w:Á (e::a) X.env=(β,eval e X.env)::Á a X.env:=by rfl) (m:(Ñ pos (Á a X.env)).any (·.1)=β:=by rfl):PE X (.Call (.Name x p) (e::a) [] pos) (xr r t):=by
 intro c s f H Q I h;refine Oh (hV I y z B ?_ A o);show PyProof.Rows.callWith_builtin1 (ay (u pos c s f H _ I h) λG F l=>by let⟨J,g,j,E,C⟩:=l;show v c F f g J G Q j E C) w m
def rG(v:eA X (.type T) r)(y:Gl X x)(z:X.mg x=ż)(B:Ù x=Z (.type T))(u:PA X (e::a) t)(A:x≠"__name__":=by decide)(o:ab x:=by decide)
  (w:Á (e::a) X.env=(β,eval e X.env)::Á a X.env:=by rfl) (m:(Ñ pos (Á a X.env)).any (·.1)=β:=by rfl):PE X (.Call (.Name x p) (e::a) [] pos) (xr r t):=by
 intro c s f H Q I h;refine Oh (hV I y z B ?_ A o);show Na (ay (u pos c s f H _ I h) λG F l=>by let⟨J,g,j,E,C⟩:=l;show v c F f g J G Q j E C) w m
end
end L2
namespace HT
open PySem PyProof.Rows
section
variable{prog:Æ}{w:Ç}{A:É}{E:Value->À->Prop}{s:À}
def cat_tup{t b:Addr}{c a:Y Value}{Q:Value->À->Prop}(B:ä s.heap t c.toArray)(z:ä s.heap b a.toArray)(u:c≠[])
  (x:a=[]->Q (.ref t) s) (y:a≠[]->Q (.ref s.heap.objs.size) { s with heap:=s.heap.push { cls:=.type "tuple",data:=.seq (c++a).toArray } })
  (hsz:c.length+a.length<=sizeLine):wpAny (Ä prog w) A (Î .Add (.ref t) (.ref b)) Q E s:=by
 let⟨⟨cls,p,data,sl⟩,h,r,n,hd⟩:=id B;let⟨⟨C,m,data2,o⟩,g,l,v,f⟩:=id z;simp only at r hd l f;subst r hd l f
 have e:c.toArray++a.toArray=(c++a).toArray:=by simp
 by_cases j:a=[]
 ·show Ň ⟨_,h,O⟩ ⟨_,g,O⟩ Qq Ī O6 OZ (OO _ _)
   (tuple_addW1 t b c.toArray a.toArray n v p m sl o (by simpa using u) (by simp[j])) ⟨h,g,x j⟩
 ·refine Ň ⟨_,h,O⟩ ⟨_,g,O⟩ Qq Ī O6 OZ (OO _ _)
   (tuple_addW2 t b c.toArray a.toArray n v p m sl o (by simpa using u) (by simpa using j) (by rwa[LR,LR])) ⟨h,g,?_⟩
  rw[e];show y j
def sIx(n d:Nat):Ž Int->Nat
 |none=>d
 |some v=>if v<0 then (v+(n:Int)).toNat else min v.toNat n
def sIx_nat(n d k:Nat):sIx n d (Z (k:Int))=min k n:=by change (if (k:Int)<0 then ((k:Int)+(n:Int)).toNat else min (k:Int).toNat n)=min k n;rw[LG (),MG]
def Lh(n d:Nat)(hd:d<=n)(o:Ž Int):sIx n d o<=n:=by
 cases o with
 |none=>show hd
 |some v=>
  change (if v<0 then (v+(n:Int)).toNat else min v.toNat n)<=n;by_cases a:v<0
  ·rw[LI a];omega
  ·rw[LG a];show Nat.min_le_right _ _
def x9(v:Int)(n d:Nat):(if v<0 then max (v+(n:Int)) 0 else min v (n:Int))=((sIx n d (Z v):Nat):Int):=by
 change (if v<0 then max (v+(n:Int)) 0 else min v (n:Int))=(((if v<0 then (v+(n:Int)).toNat else min v.toNat n):Nat):Int);by_cases a:v<0
 ·simp only[LI a];omega
 ·simp only[LG a];omega
def JB(lo a:Ž Int)(n:Nat):Builtin.Slice.sliceAdjust lo a 1 (n:Int)=(((sIx n 0 lo:Nat):Int),((sIx n n a:Nat):Int)):=by
 have c:¬ ((1:Int)<0):=by omega
 unfold Builtin.Slice.sliceAdjust;simp only[c,N9];refine Ĩ ?_ ?_
 ·cases lo with
  |none=>rfl
  |some v=>show x9 v n 0
 ·cases a with
  |none=>rfl
  |some v=>show x9 v n n
def K0(i j:Nat):Builtin.Slice.slicePlaces (i:Int) (j:Int) 1=j-i:=by
 unfold Builtin.Slice.slicePlaces
 have a:(1:Int)>0:=by omega
 simp only[a,NT,QX];split<;>omega
def yb{v:Value}{o:Ž Int}{Q:Ž Int->À->Prop}(p:õ v o)(h:Q o s):wpAny (Ä prog w) A (Builtin.Slice.slicePartIndex v) Q E s:=by
 cases p with
 |none=>show slicePart_none h
 |int i t=>show slicePart_int h
def xZ{sl:Addr}{f g:Value}{lo a:Ž Int}{n:Nat}{Q:Int×Int×Nat->À->Prop}(j:s.heap.IsSliceOf sl f g .none)(l:õ f lo)(m:õ g a)
  (h:Q (((sIx n 0 lo:Nat):Int),1,sIx n n a-sIx n 0 lo) s):wpAny (Ä prog w) A (Builtin.Slice.sliceApplied (.ref sl) (pure (n:Int))) Q E s:=by
 let⟨os,c,o,e⟩:=id j;unfold Builtin.Slice.sliceApplied Builtin.Slice.sliceFields;refine LD (LD (M9 c e (x:=f) O (LD (M9 c e (x:=g) O (LD (M9 c e (x:=.none) O (LP ?_)))))));refine LD (slicePart_none ?_);change wpAny _ _ (if ((1:Int)==0)=ž then _ else _) _ _ s;rw[LG 'b'];refine LD (yb l (LD (yb m (LD (LP ?_)))));change wpAny _ _ (match Builtin.Slice.sliceAdjust lo a 1 (n:Int)with|(lo,a)=>pure (lo,(1:Int),Builtin.Slice.slicePlaces lo a 1)) _ _ s;rw[JB lo a n];change wpAny _ _ (pure (((sIx n 0 lo:Nat):Int),(1:Int),Builtin.Slice.slicePlaces ((sIx n 0 lo:Nat):Int) ((sIx n n a:Nat):Int) 1)) _ _ s;rw[K0];show LP h
def KI(xs:Array Value)(i k:Nat):((List.range k).filterMap λ(m:Nat)=>xs[((i:Int)+(m:Int)*1).toNat]?).toArray=((xs.toList.drop i).take k).toArray:=by
 have e:(λ(m:Nat)=>xs[((i:Int)+(m:Int)*1).toNat]?)=λm=>xs[i+m]?:=by
  funext m
  have:((i:Int)+(m:Int)*1).toNat=i+m:=by omega
  rw[this]
 rw[e];have:=pick_run xs i k;rw[P6]at this;have a:((λx=>xs[x]?) ∘ λx=>i+x)=λm=>xs[i+m]?:=rfl;rw[a]at this;rw[this]
def getItem_tuple_cut{t sl:Addr}{items:Array Value}{g j:Value}{lo a:Ž Int}{Q:Value->À->Prop}(e:ä s.heap t items)(f:s.heap.IsSliceOf sl g j .none)(v:õ g lo)(x:õ j a)
  (u:¬ (sIx items.size 0 lo=0/\sIx items.size items.size a=items.size))
  (h:Q (.ref s.heap.objs.size) { s with heap:=s.heap.push { cls:=.type "tuple",data:=.seq ((items.toList.drop (sIx items.size 0 lo)).take (sIx items.size items.size a-sIx items.size 0 lo)).toArray } })
  (hsz:items.size<=sizeLine):wpAny (Ä prog w) A (é (.ref t) (.ref sl)) Q E s:=by
 have c:sizeOk (.seq ((items.toList.drop (sIx items.size 0 lo)).take (sIx items.size items.size a-sIx items.size 0 lo)).toArray):=by change ((items.toList.drop (sIx items.size 0 lo)).take (sIx items.size items.size a-sIx items.size 0 lo)).toArray.size<=sizeLine;rw[LR,Ms,Oa,Nl];omega
 have z:sIx items.size items.size a<=items.size:=Lh _ _ (LM _) a;let⟨os,o,p,y⟩:=id f;have r:s.TypeIs (.ref sl) "slice":=⟨os,o,p⟩;unfold é
 try with_reducible refine Mv ?_
 first|refine LD (LP ?_)|skip
 refine LD (ţ e.typeIs 'b' ?_)
 refine LD (Ny (name:=Str.ofString "__getitem__") e.typeIs MX
  (NH MX e.typeIs Ś ?_ (Š _ _)))
 change wpAny _ _ (Builtin.Tuple.tupleItemsOf (.ref t) >>= _) _ _ s;refine LD (tupleItemsOf_ e ?_);refine LD (Ox r ?_);rw[LI 'b'];refine LD (xZ f v x ?_)
 have l:¬ ((((sIx items.size 0 lo:Nat):Int)==0&&(1:Int)==1&&(sIx items.size items.size a-sIx items.size 0 lo)==items.size)=ž):=by
  intro q;rw[Nq,Nq]at q;have B:((sIx items.size 0 lo:Nat):Int)=0:=eq_of_beq q.1.1;have C:sIx items.size items.size a-sIx items.size 0 lo=items.size:=eq_of_beq q.2;show u ⟨(),()⟩
 change wpAny _ _ (if (((sIx items.size 0 lo:Nat):Int)==0&&(1:Int)==1&&(sIx items.size items.size a-sIx items.size 0 lo)==items.size)=ž then _ else _) _ _ s;rw[LG l,KI]
 first
  |show LD (m:=Builtin.Tuple.tupleExact _) (M5 (LP ⟨_,O,LP h⟩) c)
  |show LD (m:=Builtin.Tuple.tupleExact _) (M5 (LD (LP (LP ⟨_,O,LP h⟩))) c)
  |show LD (LD (m:=Builtin.Tuple.tupleExact _) (M5 (LP (LP ⟨_,O,LP h⟩)) c))
  |show LD (LD (m:=Builtin.Tuple.tupleExact _) (M5 (LP ⟨_,O,LP h⟩) c))
end
end HT
namespace L2
open PySem PySem.Spec PyProof.Rows
abbrev TO:=St->Hp->(Ž Int->Hp->Prop)->Prop
def PO(X:Cx)(e:Ž Å)(t:TO):Prop:=
 ∀(a:Y (Addr×Obj))(s:À)(c:St)(H:Hp)(Q:Ž Int->Hp->Prop),Inv X a c H s->t c H Q->
  wpAny (Ä X.prog X.w) X.A (evalPart e X.env) (λu f=>∃o H',Inv X a c H' f/\õ u o/\Q o H') X.xe s
def IA:TO:=λ_ H Q=>Q ż H
def Bw(t:TE):TO:=λc H Q=>t c H λx a=>∃i,x=.int i/\Q (Z i) a
section
variable{X:Cx}{e:Å}{f:TE}{lo c:Ž Å}{tl g:TO}{pos j:Pos}
def po_none:PO X ż IA:=by intro a s l H Q I h;rw[evalPart_none];show LP ⟨ż,H,I,.none,h⟩
def BP(h:PE X e f):PO X (Z e) (Bw f):=by intro a s w H Q I p;rw[evalPart_some];refine ay (h a s w H _ I p) λu y o=>?_;let⟨x,l,m,v,r⟩:=o;let⟨i,rfl,q⟩:=r;let⟨t,rfl⟩:=v;show⟨Z i,l,m,.int i t,q⟩
noncomputable def SlR(X:Cx)(r:V->Ž Int->Ž Int->Hp->VK->Prop):Prop:=
 ∀(a:Y (Addr×Obj))(s:À)(m:St)(H:Hp)(x:V)(v h l:Value)(lo c:Ž Int)(sl:Addr)(Q:VK),Inv X a m H s->RelV x v->s.heap.IsSliceOf sl h l .none->õ h lo->õ l c->r x lo c H Q->
  ∃T id,Ĝ (.type T) "__getitem__"=pure (Z (.builtin id))/\s.TypeIs v T/\wpAny (Ä X.prog X.w) X.A (é v (.ref sl)) (EP X a m Q) X.xe s
def SlR.or{r p:V->Ž Int->Ž Int->Hp->VK->Prop}(h:SlR X r)(h':SlR X p):SlR X (λx lo c H Q=>r x lo c H Q\/p x lo c H Q):=by
 intro a s z H x v w y lo c sl Q I u l m o q;rcases q with q|q
 ·show h a s z H x v w y lo c sl Q I u l m o q
 ·show h' a s z H x v w y lo c sl Q I u l m o q
def D3(r:V->Ž Int->Ž Int->Hp->VK->Prop)(f:TE)(tl g:TO):TE:=λa H Q=>f a H λx h=>tl a h λl m=>g a m λu o=>r x l u o Q
def FC{r:V->Ž Int->Ž Int->Hp->VK->Prop}(L:SlR X r)(J:PE X e f)(hl:PO X lo tl)(N:PO X c g):PE X (.Subscript e (.Slice lo c ż j) pos) (D3 r f tl g):=by
 intro a s o H Q I h;refine Subscript_ (ay (J a s o H _ I h) λv am ⟨x,z,B,be,R⟩=>?_);refine wpAny_Slice (ay (hl a am o z _ B R) λp s2 ⟨l,A,C,a_,S⟩=>ay (N a s2 o A _ C S) λw m ⟨u,y,E,P,U⟩=>?_);rw[evalPart_none];refine LP ?_;have F:Inv X a o y { m with heap:=m.heap.push { cls:=.type "slice",data:=.fields #[p,w,.none] } }:=E.kept (t':=m.toks) λb ob q=>LK _ q;let⟨T,id,G,M,K⟩:=L a { m with heap:=m.heap.push { cls:=.type "slice",data:=.fields #[p,w,.none] } } o y x v p w l u m.heap.objs.size Q F be (Heap.IsSliceOf.new ..) a_ P U;change wpAny (Ä X.prog X.w) X.A (ī e (.Slice lo c ż j) v (.ref m.heap.objs.size)) (EP X a o Q) X.xe { m with heap:=m.heap.push { cls:=.type "slice",data:=.fields #[p,w,.none] } };show tail_any (ops:=[.ref m.heap.objs.size,v]) M G K (by with_unfolding_all rfl)
def iC(xs:Y V)(lo c:Ž Int):Y V:=(xs.drop (HT.sIx xs.length 0 lo)).take (HT.sIx xs.length xs.length c-HT.sIx xs.length 0 lo)
def vx(xs:Y V)(lo c:Ž Int):(iC xs lo c).length<=xs.length:=by unfold iC;rw[Ms,Oa];omega
def yQ(K:Â):V->Ž Int->Ž Int->Hp->VK->Prop:=λx lo c H Q=>∃a xs,x=.ref a/\SqT K H a xs /\
 ¬ (HT.sIx xs.length 0 lo=0/\HT.sIx xs.length xs.length c=xs.length)/\∀p,H p=ż->Q (.ref p) (au H p (.tup (iC xs lo c)))
def sl_tup:SlR X (yQ X.K):=by
 intro p s G H x v E F lo c sl Q I B u z A h;let⟨a,xs,rfl,w,C,q⟩:=h;cases B;let⟨its,r,m,y⟩:=I.tuple w
 have l:its.toArray.size=xs.length:=by rw[LR];show r.length.symm
 refine⟨"tuple",_,MX.lookup,m.typeIs,?_⟩;refine HT.getItem_tuple_cut m u z A (by rwa[l]) ?_ (by rwa[l]);rw[l];refine⟨.ref s.heap.objs.size,_,I.laid (t':=s.toks) (o:=.tup (iC xs lo c)) (λb ob q=>LK _ q) (LM _) ?_,O,q _ (I.hok.fresh (LM _))⟩;show⟨L6 (vx xs lo c) y,_,(r.drop (HT.sIx xs.length 0 lo)).take (HT.sIx xs.length xs.length c-HT.sIx xs.length 0 lo),IsTupD.new _ _⟩
def EL(K:Â):R2:=λx y H Q=>∃a b xs ys,x=.ref a/\y=.ref b/\SqT K H a xs/\SqT K H b ys/\xs≠[]/\xs.length+ys.length<=sizeLine /\
 (ys=[]->Q (.ref a) H)/\(ys≠[]->∀p,H p=ż->Q (.ref p) (au H p (.tup (xs++ys))))
def Vals.nil_iff{xs:Y V}{a:Y Value}(r:Vals xs a):a=[]↔xs=[]:=by
 cases r with
 |nil=>simp
 |cons _ _=>simp
def Ji:bG X (Î .Add) (EL X.K):=by intro p s M H x y v u Q I G J h;let⟨a,b,xs,ys,rfl,rfl,r,A,B,L,E,F⟩:=h;cases G;cases J;let⟨its,m,C,_⟩:=I.tuple r;let⟨K,l,j,_⟩:=I.tuple A;refine HT.cat_tup C j (λz=>B (m.nil_iff.mp z)) (λz=>⟨.ref a,H,I,O,E (l.nil_iff.mp z)⟩) (λz=>?_) (by rwa[←m.length,←l.length]);refine⟨.ref s.heap.objs.size,_,I.laid (t':=s.toks) (o:=.tup (xs++ys)) (λb ob q=>LK _ q) (LM _) ?_,O,F (λw=>z (l.nil_iff.mpr w)) _ (I.hok.fresh (LM _))⟩;show⟨by rwa[LL],_,m.append l,IsTupD.new _ _⟩
end
def gc(n:Nat)(i:Int):Ž Nat:=if 0<=i then (if i<n then Z i.toNat else ż) else if -(n:Int)<=i then Z (i+n).toNat else ż
def bD{a:Type}(xs:Y a)(i:Int):Ž a:=(gc xs.length i).bind λj=>xs[j]?
def vD{n:Nat}{i:Int}{j:Nat}(h:gc n i=Z j):Ċ i n=Z j/\j<n/\-(n:Int)<=i/\i<n:=by
 unfold gc at h;by_cases h0:0<=i
 ·rw[LI h0]at h;by_cases a:i<n
  ·rw[LI a]at h;have e:i.toNat=j:=Mw h;show⟨by rw[Œ h0 a,e],(),(),a⟩
  ·rw[LG a]at h;cases h
 ·rw[LG h0]at h;by_cases a:-(n:Int)<=i
  ·rw[LI a]at h;have e:(i+n).toNat=j:=Mw h;show⟨by rw[Ņ () a,e],(),a,()⟩
  ·rw[LG a]at h;cases h
def p6{a:Type}{xs:Y a}{i:Int}{v:a}(h:bD xs i=Z v):∃j,Ċ i xs.length=Z j/\xs[j]?=Z v/\j<xs.length/\-(xs.length:Int)<=i/\i<xs.length:=by
 unfold bD at h
 cases e:gc xs.length i with
 |none=>rw[e]at h;cases h
 |some j=>
  rw[e]at h;let⟨c,f,g,l⟩:=vD e;show⟨j,c,h,f,g,l⟩
def JW{a:Type}{xs:Y a}{j:Nat}{v:a}(h:xs[j]?=Z v):bD xs (j:Int)=Z v:=by
 have c:j<xs.length:=(L9.mp h).1
 have e:gc xs.length (j:Int)=Z j:=by unfold gc;rw[LI (),LI ()];simp
 unfold bD;rwa[e]
def wz(b:Å):Prop:=∀o i,Đ b β o i=operate [o,i] (é o i)
def l8(X:Cx)(r:R2):Prop:=
 ∀(e a:Å)(c:Y (Addr×Obj))(s:À)(f:St)(H:Hp)(x y:V)(v u:Value)(Q:VK),Inv X c f H s->RelV x v->RelV y u->r x y H Q->
  Đ a β v u=operate [v,u] (é v u)->wpAny (Ä X.prog X.w) X.A (ī e a v u) (EP X c f Q) X.xe s
noncomputable def tm(X:Cx)(id:String)(r:V->Y V->Hp->VK->Prop):Prop:=
 ∀(a:Y (Addr×Obj))(s:À)(e:St)(H:Hp)(x:V)(xs:Y V)(v:Value)(c:Y Value)(Q:VK),Inv X a e H s->RelV x v->Vals xs c->r x xs H Q->
  wpAny (Ä X.prog X.w) X.A (call (.builtin id) (v::c)) (EP X a e Q) X.xe s
section
variable{X:Cx}{a b:Å}{C tb:TE}{pos:Pos}
def EB{r:R2}(l:l8 X r)(g:PE X a C)(j:PE X b tb)(m:wz b):PE X (.Subscript a b pos) (iE r C tb):=by intro c s z H Q I h;show Subscript_ (ql g j I h λv u w x y e f o p q=>l a b c w z e x y v u Q f o p q (m _ _))
def Dn(K:Â):R2:=λx y H Q=>∃p xs i v,x=.ref p/\y=.int i/\SqL K H p xs/\bD xs i=Z v/\Q v H
def Dg(K:Â):R2:=λx y H Q=>∃p xs i v,x=.ref p/\y=.int i/\SqT K H p xs/\bD xs i=Z v/\Q v H
def JL:R2:=λx y H Q=>∃z i c,x=.str z/\y=.int i/\z.length<=sizeLine/\bD z.cps.toList i=Z c/\Q (.str ⟨#[c]⟩) H
def x6:l8 X (Dn X.K):=by
 intro m l c s B H x y v u Q I L M h A;let⟨p,xs,i,z,rfl,rfl,hq,K,q⟩:=h;cases L;let⟨t,rfl⟩:=M;let⟨its,r,g,R⟩:=I.list hq;let⟨j,e,F,U,G,J⟩:=p6 K;let⟨w,o,E⟩:=r.get F;have hl:=r.length;have P:=iy;have fin:EP X c B Q w s:=⟨z,H,I,E,q⟩;by_cases h0:0<=i
 ·have f:i.toNat=j:=by rw[Œ h0 J]at e;show Mw e
  show item_listR g.isList h0 () (by rw[f];simpa using o) fin A
 ·have f:(i+(its.toArray.size:Int)).toNat=j:=by rw[Ņ () G]at e;rw[LR,←hl];show Mw e
  show ō (x:=w) g.isList.typeIs Ť.lookup
   (wpAny_getItem_list_neg (Q:=λr N=>r=w/\EP X c B Q r N) g.isList () (by rw[LR]<;>omega) () (by rw[f];simpa using o) ⟨O,fin⟩) A
def Bp:l8 X (Dg X.K):=by
 intro f e c s l H x y v u Q I F G h E;let⟨p,xs,i,z,rfl,rfl,hq,B,q⟩:=h;cases F;let⟨t,rfl⟩:=G;let⟨its,r,g,P⟩:=I.tuple hq;let⟨j,K,A,L,M,N⟩:=p6 B;let⟨w,o,m⟩:=r.get A;have hl:=r.length;have U:=iy;have fin:EP X c l Q w s:=⟨z,H,I,m,q⟩
 show ō (x:=w) g.typeIs slot_tuple_getitem.lookup
  (getItem_tuple (j:=j) (Q:=λr J=>r=w/\EP X c l Q r J) g () () (by rwa[LR,←hl]) (by simpa using o) ⟨O,fin⟩) E
def EJ:l8 X JL:=by
 intro f e l s L H x y v u Q I E F h B;let⟨z,i,c,rfl,rfl,K,A,q⟩:=h;let⟨t,rfl⟩:=E;let⟨t',rfl⟩:=F;let⟨j,g,p,G,r,w⟩:=p6 A
 have hl:z.cps.toList.length=z.length:=by simp[Str.length]
 rw[hl]at g r w;have J:=iy
 show tail_any (Ŝ s z t) slot_str_getitem.lookup (getItem_str (c:=c) (by
  have m:decide (i < -(2^63:Int))=β:=L7 ();have o:decide (i≥2^63)=β:=L7 ()
  rw[m,o,QU]) (by rw[g];simpa using p) ⟨.str ⟨#[c]⟩,H,I.tok _,⟨_,O⟩,q⟩) B
def A5(its:Y Value)(n j:Nat)(u:Value):Obj.mapSeq (·.setIfInBounds j u) { cls:=.type "list",data:=.seq its.toArray n }={ cls:=.type "list",data:=.seq (its.set j u).toArray n }:=by simp[Obj.mapSeq]
def Inv.lst{c:Y (Addr×Obj)}{f:St}{H:Hp}{s:À}{p:Addr}{xs:Y V}(I:Inv X c f H s)(h:H p=Z (.lst xs)) :
  ∃(its:Y Value)(n:Nat),Vals xs its/\s.heap.get? p=Z { cls:=.type "list",data:=.seq its.toArray n }/\xs.length<=sizeLine:=by
 let⟨z,its,n,r,e⟩:=I.hok p _ h;show⟨its,n,r,e,z⟩
def Inv.lstUpd{c:Y (Addr×Obj)}{l:St}{H:Hp}{s:À}{p:Addr}{xs ys:Y V}{its Ru:Y Value}{n g:Nat}{f:Obj->Obj}(I:Inv X c l H s)(h:H p=Z (.lst xs))
  (o:s.heap.get? p=Z { cls:=.type "list",data:=.seq its.toArray n }) (j:f { cls:=.type "list",data:=.seq its.toArray n }={ cls:=.type "list",data:=.seq Ru.toArray g }) (r:Vals ys Ru) (v:ys.length<=sizeLine) (t:Nat) :
  Inv X c l (au H p (.lst ys)) { s with heap:=s.heap.update p f,toks:=t }:=by
 have e:(s.heap.update p f).get? p=Z { cls:=.type "list",data:=.seq Ru.toArray g }:=by
  rw[Heap.get?_update_self f o (by rw[j]<;>rfl),j]
 refine I.write (x:=p) (e:=p) (by rw[h];trivial) (.inl O) (λb u m q=>(Heap.get?_update_other _ _ (Mo m)).trans q) ⟨_,e⟩ ?_;show⟨v,Ru,g,r,e⟩
def KS:V->V->V->Hp->(Hp->Prop)->Prop:=λo i v H Q=>∃p xs k j,o=.ref p/\i=.int k/\H p=Z (.lst xs)/\gc xs.length k=Z j/\Q (au H p (.lst (xs.set j v)))
def zF:rZ X KS:=by
 intro c s B H o i v ov J u Q I z y A h;let⟨p,xs,k,j,rfl,rfl,hp,x,q⟩:=h;cases z;let⟨t,rfl⟩:=y;let⟨its,n,r,g,G⟩:=I.lst hp;let⟨e,E,m,w⟩:=vD x;have hl:=r.length;have F:=iy
 have l:Inv X c B (au H p (.lst (xs.set j v))) { s with heap:=s.heap.update p (Obj.mapSeq (·.setIfInBounds j u)) }:=
  I.lstUpd hp g (A5 its n j u) (r.set A j) (by rwa[Mc]) s.toks
 by_cases h0:0<=k
 ·have f:k.toNat=j:=by rw[Œ h0 w]at e;show Mw e
  show PySem.W.ki_setAt g h0 () (by rwa[LR,←hl]) (by rw[f];show⟨_,l,q⟩)
 ·have f:(k+(its.toArray.size:Int)).toNat=j:=by rw[Ņ () m]at e;rw[LR,←hl];show Mw e
  show PySem.W.ki_setBack g () (by rwa[LR,←hl]) () (by rw[f];show⟨_,l,q⟩)
def F0(lo c:Ž Int)(n:Nat):(è lo c ż n).1=((HT.sIx n 0 lo:Nat):Int)/\(è lo c ż n).2.1=((HT.sIx n n c:Nat):Int)/\(è lo c ż n).2.2=1:=by
 refine⟨?_,?_,O⟩
 ·cases lo with
  |none=>simp[è,HT.sIx]
  |some i=>
   simp only[è,HT.sIx,ļ,show (1:Int)>0 by decide,NT];by_cases h:i<0
   ·simp only[h,NT]<;>omega
   ·simp only[h,N9]<;>omega
 ·cases c with
  |none=>simp[è,HT.sIx]
  |some i=>
   simp only[è,HT.sIx,ļ,show (1:Int)>0 by decide,NT];by_cases h:i<0
   ·simp only[h,NT]<;>omega
   ·simp only[h,N9]<;>omega
def As(its:Y Value)(lo c:Ž Int):slicePick its.toArray lo c ż=((its.drop (HT.sIx its.length 0 lo)).take (HT.sIx its.length its.length c-HT.sIx its.length 0 lo)).toArray:=by let⟨e,f,g⟩:=F0 lo c its.toArray.size;unfold slicePick;rw[e,f,g];simp only[sliceRange_one,pick_run,LR]<;>rfl
def xx(K:Â):V->Ž Int->Ž Int->Hp->VK->Prop:=λx lo c H Q=>∃a xs,x=.ref a/\SqL K H a xs/\∀p,H p=ż->Q (.ref p) (au H p (.lst (iC xs lo c)))
def sl_list:SlR X (xx X.K):=by
 intro g s A H x v y z lo e sl Q I w j p u h;let⟨a,xs,rfl,l,q⟩:=h;cases w;let⟨its,r,f,m⟩:=I.list l;have c:=r.length;refine⟨"list",_,Ť.lookup,f.isList.typeIs,?_⟩;refine wpAny_getItem_list_slice f.isList j p u .none (by simp) ?_ (by rw[LR]<;>omega);rw[As,←c];refine⟨.ref s.heap.objs.size,_,I.laid (t':=s.toks) (o:=.lst (iC xs lo e)) (λb ob q=>LK _ q) (LM _) ?_,O,q _ (I.hok.fresh (LM _))⟩;show⟨L6 (vx xs lo e) m,_,0,(r.drop (HT.sIx xs.length 0 lo)).take (HT.sIx xs.length xs.length e-HT.sIx xs.length 0 lo),LS _ O⟩
def gP:V->Bool
 |.non=>ž
 |.bl _=>ž
 |.int _=>ž
 |.str _=>ž
 |_=>β
def gE:V->V->Bool
 |.non,.non=>ž
 |.bl a,.bl b=>a==b
 |.bl a,.int b=>(if a then 1 else 0)==b
 |.int a,.bl b=>a==(if b then 1 else 0)
 |.int a,.int b=>a==b
 |.str a,.str b=>a==b
 |_,_=>β
def Hn{A:É}{s:À}{y x:V}{u v:Value}(f:RelV y u)(c:RelV x v)(g:gP y=ž)(e:gP x=ž):SeqAt.EqAt A s u v (gE y x):=by
 cases y with
 |non=>
  cases f
  cases x with
  |non=>cases c;show SeqAt.EqAt.same _
  |bl b=>cases c;show SeqAt.EqAt.none_bool b
  |int b=>let⟨t,rfl⟩:=c;show SeqAt.EqAt.none_int b t
  |str b=>let⟨t,rfl⟩:=c;show SeqAt.EqAt.none_str b t
  |_=>show absurd (show β=ž from e) Ml
 |bl a=>
  cases f
  cases x with
  |non=>cases c;show SeqAt.EqAt.bool_none a
  |bl b=>cases c;show SeqAt.EqAt.bool_bool a b
  |int b=>let⟨t,rfl⟩:=c;show SeqAt.EqAt.bool_int a b t
  |str b=>let⟨t,rfl⟩:=c;show SeqAt.EqAt.bool_str a b t
  |_=>show absurd (show β=ž from e) Ml
 |int a=>
  let⟨t',rfl⟩:=f
  cases x with
  |non=>cases c;show SeqAt.EqAt.int_none a t'
  |bl b=>cases c;show SeqAt.EqAt.int_bool a t' b
  |int b=>let⟨t,rfl⟩:=c;show SeqAt.EqAt.int_int a t' b t
  |str b=>let⟨t,rfl⟩:=c;show SeqAt.EqAt.int_str a t' b t
  |_=>show absurd (show β=ž from e) Ml
 |str a=>
  let⟨t',rfl⟩:=f
  cases x with
  |non=>cases c;show SeqAt.EqAt.str_none a t'
  |bl b=>cases c;show SeqAt.EqAt.str_bool a t' b
  |int b=>let⟨t,rfl⟩:=c;show SeqAt.EqAt.str_int a t' b t
  |str b=>let⟨t,rfl⟩:=c;show SeqAt.EqAt.str_str a t' b t
  |_=>show absurd (show β=ž from e) Ml
 |_=>show absurd (show β=ž from g) Ml
def eC(x:V)(u:Value):Bool:=match u with
 |.none=>gE .non x
 |.bool b=>gE (.bl b) x
 |.int i _=>gE (.int i) x
 |.str z _=>gE (.str z) x
 |_=>β
def zp{x y:V}{u:Value}(r:RelV y u)(f:gP y=ž):eC x u=gE y x:=by
 cases y with
 |non=>cases r;rfl
 |bl b=>cases r;rfl
 |int i=>let⟨t,rfl⟩:=r;rfl
 |str z=>let⟨t,rfl⟩:=r;rfl
 |_=>show absurd (show β=ž from f) Ml
theorem kK{x:V}:∀{xs:Y V}{c:Y Value},Vals xs c->xs.all gP=ž->c.any (eC x)=xs.any λy=>gE y x
 |_,_,.nil,_=>rfl
 |y::xs,u::c,.cons r t,f=>by rw[QV,Nq]at f;rw[N4,N4,zp r f.1,kK t f.2]
theorem kH{A:É}{s:À}{x:V}{v:Value}(h:RelV x v)(g:gP x=ž):∀{xs:Y V}{e:Y Value},Vals xs e->xs.all gP=ž->∀u∈e,SeqAt.EqAt A s u v (eC x u)
 |_,_,.nil,_=>λu c=>by cases c
 |y::xs,u::e,.cons r t,f=>λj c=>by
  rw[QV,Nq]at f;rcases L0.mp c with rfl|c
  ·rw[zp r f.1];show Hn r h f.1 g
  ·show kH h g t f.2 j c
def ig(x:V)(xs:Y V):Bool:=xs.any λy=>gE y x
def ux(K:Â)(c:Bool):R2:=λx y H Q=>∃p xs,y=.ref p/\(SqL K H p xs\/SqT K H p xs)/\gP x=ž/\xs.all gP=ž/\Q (.bl (if c then !ig x xs else ig x xs)) H
def Jb:bG X (Ì .In) (ux X.K β):=by
 intro g s o H x y v u Q I j m h;let⟨p,xs,rfl,hq,f,fs,q⟩:=h;cases m;rcases hq with hq|hq
 ·let⟨its,r,e,l⟩:=I.list hq;refine SeqAt.in_listAt (eC x) e.isList (λw c=>kH j f r fs w (by simpa using c)) ⟨.bl _,H,I,O,?_⟩;rwa[show its.toArray.any (eC x)=its.any (eC x)by simp,kK r fs]
 ·let⟨its,r,e,l⟩:=I.tuple hq;refine SeqAt.in_tupleAt (eC x) e (λw c=>kH j f r fs w (by simpa using c)) ⟨.bl _,H,I,O,?_⟩;rwa[show its.toArray.any (eC x)=its.any (eC x)by simp,kK r fs]
def HK:bG X (Ì .NotIn) (ux X.K ž):=by
 intro g s o H x y v u Q I j m h;let⟨p,xs,rfl,hq,f,fs,q⟩:=h;cases m;rcases hq with hq|hq
 ·let⟨its,r,e,l⟩:=I.list hq;refine SeqAt.notIn_listAt (eC x) e.isList (λw c=>kH j f r fs w (by simpa using c)) ⟨.bl _,H,I,O,?_⟩;rwa[show its.toArray.any (eC x)=its.any (eC x)by simp,kK r fs]
 ·let⟨its,r,e,l⟩:=I.tuple hq;refine SeqAt.notIn_tupleAt (eC x) e (λw c=>kH j f r fs w (by simpa using c)) ⟨.bl _,H,I,O,?_⟩;rwa[show its.toArray.any (eC x)=its.any (eC x)by simp,kK r fs]
def qw:eA X (.builtin "len") (λxs H Q=>∃p ys,xs=[.ref p]/\(SqL X.K H p ys\/SqT X.K H p ys)/\Q (.int ys.length) H):=by
 intro g s v H xs o Q I r h;let⟨p,ys,rfl,hq,q⟩:=h;let⟨u,rfl,l⟩:=ib r;cases l;have m:=iy;rcases hq with hq|hq
 ·let⟨its,f,e,j⟩:=I.list hq;have c:=f.length;show Calls.call_len_list e.isList (by simp only[LR]<;>omega) ⟨.int ys.length,H,I.tok _,⟨s.toks+1,by rw[LR,c]⟩,q⟩
 ·let⟨its,f,e,j⟩:=I.tuple hq;have c:=f.length;show len_tuple e (by simp only[LR]<;>omega) ⟨.int ys.length,H,I.tok _,⟨s.toks+1,by rw[LR,c]⟩,q⟩
def DI:eA X (.builtin "len") (λxs H Q=>∃z,xs=[.str z]/\z.length<=sizeLine/\Q (.int z.length) H):=by
 intro c s j H xs g Q I r h;let⟨z,rfl,f,q⟩:=h;let⟨u,rfl,t,rfl⟩:=ib r;have e:=iy;show len_str () ⟨.int z.length,H,I.tok _,⟨_,O⟩,q⟩
def rM:eA X (.type "tuple") (λxs H Q=>∃p ys,xs=[.ref p]/\((SqL X.K H p ys/\∀l,H l=ż->Q (.ref l) (au H l (.tup ys)))\/(SqT X.K H p ys/\Q (.ref p) H))):=by
 intro c s w H xs z Q I r h;let⟨p,ys,rfl,h⟩:=h;let⟨u,rfl,y⟩:=ib r;cases y;rcases h with⟨hq,q⟩|⟨hq,q⟩
 ·let⟨its,g,f,v⟩:=I.list hq;have m:=g.length;refine call_tuple_list f.isList (λh' kp=>?_) (by simp only[LR]<;>omega);have j:Inv X c w H { s with heap:=h' }:=I.kept (t':=s.toks) kp
  have x:Inv X c w (au H h'.objs.size (.tup ys)) { s with heap:=h'.push { cls:=.type "tuple",data:=.seq its.toArray } }:=
   j.laid (t':=s.toks) (λb o e=>LK _ e) (LM _) (show ObjOk X.prog X.w _ _ _ (.tup ys)from ⟨v,its,g,IsTupD.new _ _⟩)
  show⟨.ref h'.objs.size,_,x,O,q _ (j.hok.fresh (LM _))⟩
 ·let⟨its,g,f,v⟩:=I.tuple hq;show call_tuple_same f ⟨.ref p,H,I,O,q⟩
noncomputable def t7(K:Â)(T:String)(x:V)(H:Hp):Prop:=match x with
 |.str _=>T="str"
 |.int _=>T="int"
 |.ref p=>(T="list"/\∃xs,SqL K H p xs)\/(T="tuple"/\((∃xs,H p=Z (.tup xs))\/∃o,K.lookup p=Z o/\o.cls=.type "tuple"/\o.dict=ż)) \/
   (T="dict"/\((∃c,H p=Z (.dK c))\/∃c,H p=Z (.dT c)))\/(T="set"/\∃S n,H p=Z (.set S n))
 |_=>False
def Ew{h:Y (Addr×Obj)}{w:St}{H:Hp}{s:À}{T:String}{x:V}{v:Value}(I:Inv X h w H s)(r:RelV x v)(j:t7 X.K T x H) :
  s.TypeIs v T/\∀a,v=.ref a->∃ob,s.heap.get? a=Z ob/\ob.dict=ż:=by
 cases x with
 |str z=>
  let⟨t,rfl⟩:=r;cases (show T="str" from j);show⟨Ŝ s z t,λ_ e=>nomatch e⟩
 |int i=>
  let⟨t,rfl⟩:=r;cases (show T="int" from j);show⟨Qm s i t,λ_ e=>nomatch e⟩
 |ref p=>
  cases r;rcases j with⟨rfl,xs,hq⟩|⟨rfl,⟨xs,f⟩|⟨o,f,u,hd⟩⟩|⟨rfl,f⟩|⟨rfl,S,n,f⟩
  ·let⟨its,_,l,_⟩:=I.list hq;refine⟨l.isList.typeIs,λa e=>?_⟩;cases e;let⟨o,n,e,c,hd,_⟩:=l;show⟨o,e,hd⟩
  ·let⟨_,_,_,o,e,⟨c,hd⟩,_⟩:=I.hok p _ f;refine⟨⟨o,e,c⟩,λa g=>?_⟩;cases g;show⟨o,e,hd⟩
  ·refine⟨⟨o,I.kIn p o f,u⟩,λa e=>?_⟩;cases e;show⟨o,I.kIn _ o f,hd⟩
  ·have z:∃o,s.heap.get? p=Z o/\o.ExactDict:=by
    rcases f with⟨m,f⟩|⟨m,f⟩
    ·let⟨_,_,_,_,o,_,_,e,ex,_⟩:=I.hok p _ f;show⟨o,e,ex⟩
    ·let⟨_,_,_,_,o,_,_,e,ex,_⟩:=I.hok p _ f;show⟨o,e,ex⟩
   let⟨o,e,ex⟩:=z;refine⟨⟨o,e,ex.1⟩,λa g=>?_⟩;cases g;show⟨o,e,ex.2.1⟩
  ·let⟨o,_,_,_,e,ex,_⟩:=I.hok p _ f;refine⟨⟨o,e,ex.1⟩,λa g=>?_⟩;cases g;show⟨o,e,ex.2.1⟩
 |_=>show Ó j
def G8(K:Â)(T:String)(r:V->Y V->Hp->VK->Prop)(to:TE)(t:TA):TE:=λe H Q=>to e H λx c=>t7 K T x c/\t e c λxs f=>r x xs f Q
variable{o e:Å}{g:Y Å}{to:TE}{t:TA}{name:Str}{m B:Pos}{T id:String}{r:V->Y V->Hp->VK->Prop}
def j5(S:PlainAttrs T)(slot:Slot T name id)(f:typeOf (.builtin id)=pure (.type "method_descriptor"))(a_:tm X id r)(P:PE X o to)(N:PA X (e::g) t)
  (A:Ò o name X.env (eval o X.env)=eval o X.env:=by rfl)
  (G:((Ñ B (Á (e::g) X.env)).all (λx=>!x.1)&&(ì B (Û [] X.env)).all (λx=>x.1.isSome)
   && decide ((e::g).length+([]:Y Ö).length+(if ([]:Y Ö).isEmpty then 0 else 1)<30))=ž:=by rfl)
  (E:(m.endLine==B.line)=ž:=by rfl) (R:Á (e::g) X.env=(β,eval e X.env)::Á g X.env:=by rfl) (K:(Ñ B (Á g X.env)).any (·.1)=β:=by rfl) :
  PE X (.Call (.Attribute o name m) (e::g) [] B) (G8 X.K T r to t):=by
 intro c s j H Q I h;refine wpAny_Call_method_late A G E O (ay (P c s j H _ I h) λv s1 J=>?_);let⟨x,w,l,u,ty,U⟩:=J;let⟨L,M⟩:=Ew l u ty;refine⟨T,id,S,slot,f,L,M,?_⟩;have p:=N B c s1 j w _ l U;rw[R]at p ⊢;refine Calls.callWith_builtin (by change (β ||(Ñ B (Á g X.env)).any (·.1))=β;rw[K]<;>rfl) (Calls.evalArgs_plain ?_)
 show ay p λus s2 F=>by let⟨vs,y,z,am,be⟩:=F;show a_ c s2 j y x vs v us Q z u am be
end
noncomputable def sX(X:Cx)(id:String)(r:V->Y V->Hp->VK->Prop):Prop:=
 ∀(a:Y (Addr×Obj))(s:À)(e:St)(H:Hp)(x:V)(xs:Y V)(v:Value)(c:Y Value)(Q:VK),Inv X a e H s->RelV x v->Vals xs c->r x xs H Q->
  wpAny (Ä X.prog X.w) X.A (call (.builtin id) (v::c)) (EP X a e Q) X.xe s
def Vals.one:∀{x:V}{a:Y Value},Vals [x] a->∃u,a=[u]/\RelV x u
 |_,_,.cons r .nil=>⟨_,O,r⟩
theorem Vals.eraseIdx:∀{xs:Y V}{a:Y Value}(i:Nat),Vals xs a->Vals (xs.eraseIdx i) (a.eraseIdx i)
 |_,_,_,.nil=>.nil
 |_,_,0,.cons _ t=>t
 |_,_,i+1,.cons r t=>.cons r (Vals.eraseIdx i t)
theorem Vals.rep{xs:Y V}{a:Y Value}(h:Vals xs a):∀k:Nat,Vals (List.replicate k xs).flatten (List.replicate k a).flatten
 |0=>.nil
 |k+1=>by rw[MV,MV,MN,MN];show Vals.append h (Vals.rep h k)
theorem uS{a:Type}:∀(l:Y a)(i:Nat),(l.eraseIdx i).length<=l.length
 | [],_=>LM _
 |_::_,0=>O5 _
 |_::r,i+1=>Nat.succ_le_succ (uS r i)
theorem rH(its:Y Value):∀(k:Nat)(a:Y Value),
  List.foldl (λf g=>f++g) a.toArray (List.replicate k its.toArray)=(a++(List.replicate k its).flatten).toArray
 |0,a=>by simp
 |k+1,a=>by
  have e:a.toArray++its.toArray=(a++its).toArray:=by simp
  have c:(a++its)++(List.replicate k its).flatten=a++(List.replicate (k+1) its).flatten:=by rw[MV,MN,Ma]
  rw[←c,←rH its k (a++its),←e,MV,Oi]
section
variable{X:Cx}{a:Y (Addr×Obj)}{c:St}{H:Hp}{s:À}{l:Addr}{xs ys:Y V}
def Inv.lset{its Ru:Y Value}{n:Nat}{f:Array Value->Array Value}{t':Nat}(I:Inv X a c H s)(g:H l=Z (.lst xs))
  (e:s.heap.get? l=Z { cls:=.type "list",data:=.seq its.toArray n }) (j:f its.toArray=Ru.toArray) (o:Vals ys Ru) (p:ys.length<=sizeLine) :
  Inv X a c (au H l (.lst ys)) { s with heap:=s.heap.update l (Obj.mapSeq f),toks:=t' }:=by
 have q:=PySem.IsL.update e f;rw[j]at q;refine I.write (x:=l) (e:=l) (by rw[g];show trivial) (.inl O) (λr u h m=>(Heap.get?_update_other s.heap (Obj.mapSeq f) (Mo h)).trans m) ⟨_,q⟩ ?_;show⟨p,Ru,_,o,q⟩
def Inv.lnew{its:Y Value}{t':Nat}(I:Inv X a c H s)(e:Vals ys its)(f:ys.length<=sizeLine) :
  Inv X a c (au H s.heap.objs.size (.lst ys)) { s with heap:=s.heap.push { cls:=.type "list",data:=.seq its.toArray },toks:=t' }:=
 I.laid (λ_ _ q=>LK _ q) (LM _) ⟨f,its,0,e,LS _ O⟩
def Inv.fresh(I:Inv X a c H s):H s.heap.objs.size=ż:=I.hok.fresh (LM _)
def Inv.lstM(I:Inv X a c H s)(f:H l=Z (.lst xs)):xs.length<=sizeLine/\∃(its:Y Value)(n:Nat),Vals xs its/\xs.length=its.length/\s.heap.get? l=Z { cls:=.type "list",data:=.seq its.toArray n }:=by let⟨z,its,n,r,e⟩:=I.hok l _ f;show⟨z,its,n,r,r.length,e⟩
def uu{n:Nat}(h:n<=sizeLine):Builtin.List.listTooLong n=β:=by unfold Builtin.List.listTooLong;show L7 ()
end
section
variable{X:Cx}
def EO:V->Y V->Hp->VK->Prop:=λx a H Q=>∃l xs y,x=.ref l/\a=[y]/\H l=Z (.lst xs)/\xs.length<sizeLine/\Q .non (au H l (.lst (xs++[y])))
def se:sX X "list.append" EO:=by intro c s w H x p v o Q I j g h;let⟨l,xs,y,rfl,rfl,a,m,q⟩:=h;cases j;let⟨u,rfl,f⟩:=g.one;let⟨z,its,n,r,hl,e⟩:=I.lstM a;refine NO F.slot_list_append ⟨_,e,O⟩ F.entry_list_append (F.args_list_append_2 _ _) (PySem.list_append l its.toArray n u (by rw[LR];omega)) ⟨e,?_⟩;refine⟨.non,_,I.lset (Ru:=its++[u]) a e (by simp) (r.append (.cons f .nil)) ?_,O,q⟩;rw[LL,List.length_singleton];omega
def xP:V->Y V->Hp->VK->Prop:=λx c H Q=>∃l b xs a,x=.ref l/\c=[.ref b]/\H l=Z (.lst xs)/\H b=Z (.lst a)/\xs.length+a.length<=sizeLine/\Q .non (au H l (.lst (xs++a)))
def JU:sX X "list.extend" xP:=by
 intro f s L H x G v E Q I A y h;let⟨l,b,xs,K,rfl,rfl,c,m,C,q⟩:=h;cases A;let⟨u,rfl,w⟩:=y.one;cases w;let⟨z,its,n,r,hl,e⟩:=I.lstM c;let⟨J,a,o,p,B,j⟩:=I.lstM m
 have hsz:its.toArray.size+a.toArray.size<=sizeLine:=by rw[LR,LR];omega
 have g:¬ (!its.toArray.isEmpty&&Builtin.List.listTooLong (its.toArray.size+a.toArray.size))=ž:=by rw[uu hsz,Bool.and_false];show Ml
 refine NO F.slot_list_extend ⟨_,e,O⟩ F.entry_list_extend (F.args_list_extend_2 _ _)
  (AutoSeq1.list_extend_list_list_0 l its.toArray n b a.toArray o g (by rw[LR];omega) ()) ⟨e,j,?_⟩
 refine⟨.non,_,I.lset (Ru:=its++a) c e (by simp) (r.append p) ?_,O,q⟩;rw[LL];omega
def K3:V->Y V->Hp->VK->Prop:=λx a H Q=>∃l xs i k y,x=.ref l/\a=[.int i]/\H l=Z (.lst xs)/\-(2^63)<=i/\i<2^63/\Ċ i xs.length=Z k/\xs[k]?=Z y/\Q y (au H l (.lst (xs.eraseIdx k)))
def BC:sX X "list.pop" K3:=by
 intro c s J H x G v E Q I A p h;let⟨l,xs,i,k,y,rfl,rfl,a,g,j,B,m,q⟩:=h;cases A;let⟨u,rfl,o⟩:=p.one;let⟨t,rfl⟩:=o;let⟨z,its,n,r,hl,e⟩:=I.lstM a;let⟨w,C,f⟩:=r.get m
 refine NO F.slot_list_pop ⟨_,e,O⟩ F.entry_list_pop (F.args_list_pop_2 _ _)
  (MeetsSeq.list_pop_at l its.toArray n i t k w (fitsIndex_both g j) (by rwa[LR,←hl]) (by rwa[←Pf]) (by rw[LR];omega)) ⟨e,?_⟩
 refine⟨y,_,I.lset (Ru:=its.eraseIdx k) a e ?_ (r.eraseIdx k) ?_,f,q⟩
 ·change its.toArray.eraseIdxIfInBounds k=(its.eraseIdx k).toArray;rw[List.eraseIdxIfInBounds_toArray]
 ·have:=uS xs k;omega
def IT:R2:=λx y H Q=>∃l b xs a,x=.ref l/\y=.ref b/\H l=Z (.lst xs)/\H b=Z (.lst a)/\xs.length+a.length<=sizeLine/\∀p,H p=ż->Q (.ref p) (au H p (.lst (xs++a)))
def Kv:bG X (Î .Add) IT:=by
 intro c s G H x y v u Q I p w h;let⟨l,b,xs,F,rfl,rfl,m,j,B,q⟩:=h;cases p;cases w;let⟨z,its,n,r,hl,e⟩:=I.lstM m;let⟨E,a,C,o,A,f⟩:=I.lstM j;refine PySem.P.add_list e f ?_ (by rw[LR,LR];omega)
 have g:its.toArray++a.toArray=(its++a).toArray:=by simp
 rw[g];show⟨.ref _,_,I.lnew (t':=s.toks) (r.append o) (by rw[LL];omega),O,q _ I.fresh⟩
def Jw:R2:=λx y H Q=>∃l k xs,x=.ref l/\y=.int k/\H l=Z (.lst xs)/\-(2^63)<=k/\k<2^63/\xs.length*k.toNat<=sizeLine /\
 ∀p,H p=ż->Q (.ref p) (au H p (.lst (List.replicate k.toNat xs).flatten))
def p8{c:Type}(xs:Y c)(k:Nat):(List.replicate k xs).flatten.length=k*xs.length:=by
 induction k with
 |zero=>simp
 |succ k a=>rw[MV,MN,LL,a,QY,Nat.add_comm]
def IL:bG X (Î .Mult) Jw:=by
 intro j s am H x y v u Q I J K h;let⟨l,k,xs,rfl,rfl,G,C,E,M,q⟩:=h;cases J;let⟨t,rfl⟩:=K;let⟨z,its,n,r,hl,e⟩:=I.lstM G
 have c:its.toArray.size*k.toNat<=sizeLine:=by rwa[LR,←hl]
 have o:¬ its.toArray.size*k.toNat>(2^63-1)/8:=by
  have:(sizeLine:Nat)<=(2^63-1)/8:=by decide
  omega
 have A:¬ (!Builtin.List.listFitsIndex k)=ž:=by rw[fitsIndex_both C E];show Ml
 have w:¬ Builtin.List.listTooLong (its.toArray.size*k.toNat)=ž:=by rw[uu c];show Ml
 have p:List.foldl (λf g=>f++g) #[] (List.replicate (if its.toArray.isEmpty=ž then 0 else k.toNat) its.toArray)=(List.replicate k.toNat its).flatten.toArray:=by
  have B:∀m:Nat,List.foldl (λf g=>f++g) #[] (List.replicate m its.toArray)=(List.replicate m its).flatten.toArray:=λm=>by have:=rH its m [];rw[Pq]at this;show this
  rw[B]
  cases its with
  |nil=>simp
  |cons a N=>rw[LG (by simp)]
 refine Ħ (T:="list") (U:="int") 'b' ⟨_,e,O⟩ (λL=>Qm L k t) noFill_list_mul F.fills_int_mul Pt repeat_list F.slot_int_index.lookup
  (NO Pt (Qm s k t) F.entry_int_rmul (F.args_int_rmul_2 _ _) (int___rmul___int_list k t l its.toArray n)
   ⟨e,O,⟨_,e,O⟩,NO F.slot_list_mul ⟨_,e,O⟩ F.entry_list_mul (F.args_list_mul_2 _ _) (AutoListH.list___mul___list_int_3 l its.toArray n k t A o w) ⟨e,?_⟩⟩)
 rw[p];show⟨.ref _,_,I.lnew (t':=s.toks) (r.rep k.toNat) (by rwa[p8,Pu]),O,q _ I.fresh⟩
end
end L2
namespace Att
open PySem PySem.W PySem.Calls PyProof.Rows
def Gd{P:ŋ}{h:Heap}:∀(ns:Y Int)(c:Y Value),WellAll P h c (ns.map ź)->ŏ c ns:=by
 intro ns
 induction ns with
 |nil=>
  intro c w;rw[Pw]at w;cases w;show .nil
 |cons n ns e=>
  intro c w;rw[L5]at w
  cases w with
  |cons a b=>
   cases a;show .cons _ _ (e _ b)
def EX{l:OpenLaw}{n:Nat}(y:l.most=Z n){P:ŋ}{h:Heap}{args:Y WData}{vals:Y Value}
  (j:l.row.toRowW.claim.pre args=ž) (u:WellAll P h vals args) :
  ∃a o ns,vals=[Value.ref a]/\args=[WData.list (ns.map ź)]/\h.get? a=Z { cls:=.type "list",data:=.seq o.toArray }/\ŏ o ns/\ns.length<=n:=by
 have g:WShape.hasAll [] args [.list .int]=ž:=(pre_splitW j).1;have m:l.pre.holds [] { args:=args }=ž:=(pre_splitW j).2;let⟨d,r,rfl,v,w⟩:=hasAllW_cons g;obtain rfl:=hasAllW_nil w;let⟨xs,rfl,x⟩:=hasW_list v;let⟨ns,rfl⟩:=items_int x
 have c:ns.length<=n:=by
  unfold OpenLaw.pre at m
  have e:(WTm.not (.lt (.lit (.int (n:Int))) (.len (.arg 0)))).holds [] { args:=[.list (ns.map .int)] }=ž:=by have e:=(holds_andW m).1;rw[y]at e;show e
  have f:=condW_of e (w_not (w_lt w_lit (w_len_list (w_arg O))));rw[LC]at f;refine Nat.le_of_not_lt λq=>?_
  have A:(n:Int)<((ns.length:Nat):Int):=by omega
  first
   |(rw[Md A]at f;show absurd f 'b')
   |(simp at f;omega)
 cases u with
 |cons B C=>
  cases C
  cases B with
  |list z p=>show⟨_,_,ns,O,O,z,Gd ns _ p,c⟩
def FP(l:OpenLaw)(args:Y WData):l.row.toRowW.claim.post args (.bool ž) args=ž:=
 postW_of (r:=l.row.toRowW) (X:=(ž==ž))
  (show Ū [] (.bool ž) .bool=ž by first|rfl|decide|simp[Ū,WShape.arms,WShape.armsAll])
  (show (WTm.eq .res (.lit (.bool ž))).value [] { args:=args,res:=Z (.bool ž),after:=args }=Z (.bool (ž==ž))from w_eq_bool (w_res O) w_lit) O
def attach_call{l:OpenLaw}{n:Nat}{q:Æ}{e:Y Str}{y:(Str->Ž Value)->Heap->Prop}{z:Ç->Heap->Prop}{d:DefRec}
  (R:l.most=Z n) (J:d.params.defaults=[])
  (call:∀(w:Ç)(s₀ c:À)(mg x:Str->Ž Value)(m:Addr)(o:Obj)(pm u g:Value)(a:Addr)(j:Y Value)(ns:Y Int),
   Ground q e [] y w s₀ mg x c.heap->z w c.heap->
   c.heap.get? m=Z o->o.data=.func (docDef d.name d.params d.body d.scope pm u g)->c.heap.CodeRec u d.name->mg d.name=Z (.ref m)->
   c.heap.get? a=Z { cls:=.type "list",data:=.seq j.toArray }->ŏ j ns->ns.length<=n->c.gens=#[]->
   Þ (Ä l.prog w) Ā (.call (.ref m) ⟨[.ref a],[]⟩) (λr v=>r=.ok (.ret (.bool ž))/\OldK c.heap v.heap/\v.os=c.os/\ö v.gens) c) :
  WalkO q e y z l.row.toRowW d [] (λf j=>PySem.call f j):=by
 intro w s₀ c mg x G am m o pm u g K kV S hd C A F U args vals as E B T I P;obtain rfl:K=.none:=Dflts.none A J;obtain rfl:kV=.none:=Dflts.noKw A;let⟨a,j,ns,rfl,rfl,H,h,p⟩:=EX R E I;refine enter_call (Ov (call w s₀ c mg x m o pm u g a j ns G am S (fd_plain hd) C F H h p U) λr v hq=>?_);let⟨rfl,L,M,N⟩:=hq;show⟨.inl ⟨.bool ž,.bool ž,[],O,λ_=>rfl,.bool ž,FP l _,λ_=>⟨List.Pairwise.nil,λ_ Q=>(nomatch Q)⟩⟩,L,M,N⟩
section
def noObjs(h:Heap):Heap:={ h with objs:=#[] }
def noObjs_get(h:Heap)(b:Addr):(noObjs h).get? b=ż:=by
 cases e:(noObjs h).get? b with
 |none=>rfl
 |some o=>show absurd (LU e) (Nat.not_lt_zero _)
def fr_all{h:Heap}{L:Addr}{m:Str->Ž Value}(n:h.Ns L m):Fr (noObjs h) L h m:=
 ⟨n,λb o e=>(by rw[noObjs_get]at e;cases e),ME _⟩
end
end Att
namespace L2
open PySem PySem.Spec PyProof.Rows
theorem zq:∀{a:Y Value}{ns:Y Int},ŏ a ns->Vals (ns.map V.int) a
 |_,_,.nil=>.nil
 |_,_,.cons n t h=>.cons ⟨t,O⟩ (zq h)
end L2
/- THE LAST WO (shape; LID, My.* are yours):
   My.Adr: a structure of WQ addresses that your layer names (classes, Vl); My.Txt K t: a structure (Prop) of WQ equations over K;
   My.txt_mk : {K} {implicit addresses ..} (e1 : nsIn K mainGlobals "law" = some (some (.ref f))) (e2 : K.lookup f = some ⟨oc, od, .func (fnOf "law" "law" params body scope dV kV doc pm an Rj ct), sl⟩) (e3 : codeIn K Rj "law" = true) .. : ∃t, My.Txt K t
set_option maxRecDepth 100000 in
set_option maxHeartbeats 0 in
theorem PySem.Challenge.cw_LID_holds : PySem.Challenge.rw_LID.Holds := by
 w_on;o_law;k_head;(case hw=>w_witness2)
 k_fill
 refine L2.walk_of (l:=PySem.Challenge.rw_LID) (n:=63) (k:=40) (x:="script") (CX:=λw=>..) (sp:=λ_=>My.sp_law) O 'b' O ⟨O,'b','b'⟩ (λw h U=>kIn_of U) ?F ?S ?C
 case F=>
  intro w mg fa h KX G UL
  have T:∃t,My.Txt (L2.KOf KX) t:=by
   dsimp only[L2.KOf]                          -- K must stand as «<heap const> w.params» for k_is;refine' My.txt_mk ?e1 ?e2 ?e3 ..
   (case e1=>PySem.W.k_is)                    -- in WQ order: a name-> its address-> its object-> its parts
   (case e2=>PySem.W.k_is)
   ..
  let⟨t,T⟩:=T;have e0:=UL.symm.trans (œ KX G T.law);cases e0                                       -- fa is WQ law's own address
  show⟨_,λs u=>.of_eq O,λbase kb nb=>My.law_fn T kb nb⟩     -- if «.of_eq O» comes too early: refine' ⟨_,?b,λbase kb nb=>My.law_fn T kb nb⟩;show λs u=>.of_eq O
 case S=>show λw H a ns hl hO hS=>..
 case C=>show ..
(WQ tactic k_is has no namespace: write k_is) -/
namespace L2
open PySem PySem.Spec PyProof.Rows
def JO(s:Ë)(j:Nat):Ë:=match s with
 |.ClassDef _ _ _ a _ _ _ _ _ _ _=>a.getD j (.Pass ⟨0,0,0,0⟩)
 |_=>.Pass ⟨0,0,0,0⟩
def fV(s:Ë):ď:=match s with
 |.FunctionDef _ a _ _ _ _ _ _ _ _=>a
 |_=>{ posonlyargs:=[],args:=[],vararg:=ż,kwonlyargs:=[],kw_defaults:=[],kwarg:=ż,defaults:=[] }
def ee(s:Ë):Y Ë:=match s with
 |.FunctionDef _ _ b _ _ _ _ _ _ _=>b
 |_=>[]
def av(s:Ë):â:=match s with
 |.FunctionDef _ _ _ _ _ _ a _ _ _=>a
 |_=>{ kind:=.function,names:=[],isGenerator:=β,isCoroutine:=β }
abbrev aH:dA:=λ_ _ _ _ _ _=>False
abbrev E0:XK:=λ_ _ _=>False
def nJ{X:Cx}:iT aH X E0:=λ_ _ _ _ _ _ _ h=>h.elim
structure Fun(K:Â)(x qual:Str)(st:Ë)(f:Addr)(fd:Í):Prop where
 ex:∃(oc:Value)(od:Option Addr)(kV doc pm:Value)(an:Option Addr)(Rj ct:Value)(Tr:Array (Option Value)),
  fd=č x qual (fV st) (ee st) (av st) .none kV doc pm an Rj ct/\K.lookup f=Z ⟨oc,od,.func fd,Tr⟩/\ý K Rj qual=ž
 kp:í K (.ref f)=ž
section
variable{P:Æ}{w:Ç}{K:Â}{mg:Str->Ž Value}{base:Heap}
def Fun.ok{x qual:Str}{st:Ë}{f:Addr}{e:Í}{N ps:Y Str}{k:Nat}{sp:Sp}(F:Fun K x qual st f e)(S:FnScope N ps (av st))(len:∀a H Q E,sp a H Q E->a.length=ps.length)
  (g:∀(c:Value)(A:É)(outer:Y ó)(s:À)(H:Hp)(a:Y V)(Q:VK)(E:XK),Room k (A.deeper (ï qual (av st) s.heap.objs.size f c))->sp a H Q E->
   ∃t,PSs (gq aH P w K mg base N qual (av st) f c A outer s H E).nox (ee st) t/\t { nx:=λ_ H'=>Q .non H',rt:=Q } (start N a) H):FnOk P w K mg base aH (k+1) f e ps sp:=by
 let⟨u,v,kV,m,pm,r,c,ct,p,rfl,lk,j⟩:=F.ex;refine vn lk j S len λA outer s H a Q E o l=>?_;let⟨t,h,q⟩:=g c A outer s H a Q E o l;show⟨t,h.nox,q⟩
def Fun.binds{x qual:Str}{st:Ë}{f:Addr}{j:Í}{ps:Y Str}(F:Fun K x qual st f j)
  (h:∀(kV a pm:Value)(e:Ž Addr)(c ct:Value)(g:Y Value),g.length=ps.length->Ġ (č x qual (fV st) (ee st) (av st) .none kV a pm e c ct) ⟨g,[]⟩=pure (ps.zip g)):Binds K j ps []:=by
 let⟨o,p,kV,a,pm,e,c,ct,m,rfl,lk,l⟩:=F.ex;show .all (h kV a pm e c ct)
def rn{x qual:Str}{st:Ë}{f:Addr}{j:Value}{m g:Ž Addr}{h:Array (Ž Value)}{kV a pm e ct:Value}(l:K.lookup f=Z ⟨j,m,.func (č x qual (fV st) (ee st) (av st) .none kV a pm g e ct),h⟩)
  (c:ý K e qual=ž) (k:í K (.ref f)=ž):Fun K x qual st f (č x qual (fV st) (ee st) (av st) .none kV a pm g e ct):=⟨⟨j,m,kV,a,pm,g,e,ct,h,O,l,c⟩,k⟩
end
def bo{n:Nat}(h:n<=1000):n<sizeLine:=NJ h 'b'
section
variable{X:Cx}
def pv(i:Nat){x:Str}{pos:Pos}(c:X.N[i]?=Z x:=by rfl)(e:du X.env.scope x:=by nofun)(hd:ab x:=by decide)
  (a:ad x:=by decide):PE X (.Name x pos) (jW i):=K8 c e hd a
end
def nj{A B:Prop}(h:B):if β=ž then A else B:=by rwa[LG Ml]
def nZ{A B:Prop}(h:A):if ž=ž then A else B:=by rwa[LI O]
def Same(H H':Hp):Prop:=∀b o,H b=Z o->H' b=Z o
def Same.refl(H:Hp):Same H H:=λ_ _ h=>h
def Same.trans{H e f:Hp}(a:Same H e)(b:Same e f):Same H f:=λc o h=>b c o (a c o h)
def Same.free{H H':Hp}(e:Same H H'){l:Addr}(h:H' l=š):H l=š:=by
 cases q:H l with
 |none=>rfl
 |some o=>
  rw[e l o q]at h;cases h
def Same.seq{K:Â}{H H':Hp}{a:Addr}{xs:Y V}(e:Same H H')(h:SqL K H a xs):SqL K H' a xs:=by
 rcases h with (h|⟨o,h⟩)|h
 ·show .inl (.inl (e _ _ h))
 ·show .inl (.inr ⟨o,e _ _ h⟩)
 ·show .inr h
section
variable{a:Type}[DecidableEq a]
def dm(c:Y (a×V))(k:a):Ž V:=(c.find? λe=>decide (e.1=k)).map (·.2)
def eB(e:Y (a×V))(k:a)(v:V):Y (a×V):=
 if (e.any λc=>decide (c.1=k))=ž then e.map (λc=>if c.1=k then (c.1,v) else c) else e++[(k,v)]
def pF{p:a×V}{r:Y (a×V)}{k:a}(e:p.1=k):dm (p::r) k=Z p.2:=by simp[dm,Oj,e]
def ot{p:a×V}{r:Y (a×V)}{k:a}(e:¬ p.1=k):dm (p::r) k=dm r k:=by simp[dm,Oj,e]
theorem vp(k:a):∀c:Y (a×V),(c.any λf=>decide (f.1=k))=(dm c k).isSome
 | []=>rfl
 |p::r=>by
  rw[N4];by_cases e:p.1=k
  ·simp only[pF e,Md e,Bool.true_or,ĩ]
  ·rw[ot e,L7 e,Bool.false_or];show vp k r
def zR(c:Y (a×V))(k:a)(v:V):(eB c k v).length<=c.length+1:=by
 unfold eB;split
 ·rw[LC];omega
 ·rw[LL,LX,MP];omega
def RelO.isSome_eq{o:Ž V}{u:Ž Value}(r:RelO o u):o.isSome=u.isSome:=by
 cases o with
 |none=>cases u with
  |none=>rfl
  |some _=>show (show False from r).elim
 |some _=>cases u with
  |none=>show (show False from r).elim
  |some _=>rfl
def KV.val{f:Y (a×V)}{j:Y (a×Value)}(r:KV f j)(k:a):RelO (dm f k) (ú j k):=by
 unfold KV at r
 induction r with
 |nil=>show Ý
 | @cons p q ps qs h t m=>
  let⟨g,l⟩:=h;by_cases e:p.1=k
  ·have c:q.1=k:=g.symm.trans e
   have b:ú (q::qs) k=Z q.2:=by simp[ú,Oj,c]
   rwa[pF e,b]
  ·have c:¬ q.1=k:=λz=>e (g.trans z)
   have b:ú (q::qs) k=ú qs k:=by simp[ú,Oj,c]
   rwa[ot e,b]
theorem KV.any{e:Y (a×V)}{f:Y (a×Value)}(r:KV e f)(k:a):(e.any λc=>decide (c.1=k))=f.any λc=>decide (c.1=k):=by
 unfold KV at r
 induction r with
 |nil=>rfl
 |cons h t g=>rw[N4,N4,g,h.1]
def KV.repl{g:Y (a×V)}{j:Y (a×Value)}(r:KV g j)(k:a){y:V}{u:Value}(o:RelV y u) :
  KV (g.map λc=>if c.1=k then (c.1,y) else c) (j.map λc=>if c.1=k then (c.1,u) else c):=by
 unfold KV at r ⊢
 induction r with
 |nil=>show .nil
 | @cons p q ps qs h t m=>
  rw[L5,L5];refine .cons ?_ m;let⟨f,l⟩:=h;by_cases e:p.1=k
  ·rw[LI e,LI (f.symm.trans e)];show⟨f,o⟩
  ·rw[LG e,LG (λz=>e (f.trans z))];show⟨f,l⟩
def KV.put{f:Y (a×V)}{c:Y (a×Value)}(r:KV f c)(k:a){y:V}{u:Value}(g:RelV y u):KV (eB f k y) (Ş c k u):=by
 unfold eB Ş;rw[r.any k];by_cases e:(c.any λh=>decide (h.1=k))=ž
 ·rw[LI e,LI e];show r.repl k g
 ·rw[LG e,LG e];show ĕ r ⟨O,g⟩
def KV.length{c:Y (a×V)}{e:Y (a×Value)}(r:KV c e):c.length=e.length:=OD r
end
def ju{P:Æ}{w:Ç}{k:ai}{u:Value}(r:RelV (kV k) u):(bK P w).is k u=ž:=by
 cases k with
 |inl i=>let⟨t,e⟩:=(show ∃t,u=Value.int i t from r);subst e;show FJ P w i t
 |inr x=>let⟨t,e⟩:=(show ∃t,u=Value.str x t from r);subst e;show JF P w x t
theorem ze{P:Æ}{w:Ç}:∀{a:Y ai}{c:Y Value},Vals (a.map kV) c->ItemsAre (bK P w) a c
 | [],_,r=>by rw[Pw]at r;cases r;show .nil
 |k::a,_,r=>by
  rw[L5]at r
  cases r with
  |cons h t=>show .cons (ju h) (ze t)
abbrev KT(H:Hp):Y (Y ai×V)->Y (Y ai×Addr×Value)->Prop:=Paired λp q=>p.1=q.1/\H q.2.1=Z (.tup (p.1.map kV))/\RelV p.2 q.2.2
def KT.val{H:Hp}{c:Y (Y ai×V)}{xs:Y (Y ai×Addr×Value)}(r:KT H c xs)(k:Y ai):RelO (dm c k) ((ġ xs k).map (·.2)):=by
 induction r with
 |nil=>show Ý
 | @cons p q ps qs h t j=>
  let⟨f,_,g⟩:=h;by_cases e:p.1=k
  ·have a:q.1=k:=f.symm.trans e
   have b:ġ (q::qs) k=Z q.2:=by simp[ġ,Oj,a]
   rwa[pF e,b]
  ·have a:¬ q.1=k:=λz=>e (f.trans z)
   have b:ġ (q::qs) k=ġ qs k:=by simp[ġ,Oj,a]
   rwa[ot e,b]
def KT.repl{H:Hp}{f:Y (Y ai×V)}{xs:Y (Y ai×Addr×Value)}(r:KT H f xs)(k:Y ai){y:V}{u:Value}(m:RelV y u) :
  KT H (f.map λc=>if c.1=k then (c.1,y) else c) (xs.map (putAt k u)):=by
 induction r with
 |nil=>show .nil
 | @cons p q ps qs h t l=>
  rw[L5,L5];refine .cons ?_ l;let⟨a,g,j⟩:=h;unfold putAt;by_cases e:p.1=k
  ·rw[LI e,LI (a.symm.trans e)];show⟨a,g,m⟩
  ·rw[LG e,LG (λz=>e (a.trans z))];show⟨a,g,j⟩
def KT.put{H:Hp}{a:Y (Y ai×V)}{xs:Y (Y ai×Addr×Value)}(r:KT H a xs)(k:Y ai){b:Addr}{y:V}{u:Value}(f:H b=Z (.tup (k.map kV)))(c:RelV y u) :
  KT H (eB a k y) (storedH xs k b u):=by
 have e:(a.any λg=>decide (g.1=k))=(ġ xs k).isSome:=by rw[vp,(r.val k).isSome_eq,ĭ]
 unfold eB storedH;rw[e];by_cases q:(ġ xs k).isSome=ž
 ·rw[LI q,LI q];show r.repl k c
 ·rw[LG q,LG q];show ĕ r ⟨O,f,c⟩
def KT.keeps{H H':Hp}{a:Y (Y ai×V)}{xs:Y (Y ai×Addr×Value)}(r:KT H a xs)(c:∀b ys,H b=Z (.tup ys)->H' b=Z (.tup ys)):KT H' a xs:=
 Paired.mapP r λ_ _ z=>⟨z.1,c _ _ z.2.1,z.2.2⟩
section
variable{P:Æ}{w:Ç}{H:Hp}{h:Heap}{a:Addr}
def uh{u:HO}(ok:HOk P w H h)(e:Rd H a u):ObjOk P w H h a u:=e.ok ok
def oP{c:Y (ai×V)}(ok:HOk P w H h)(e:Rd H a (.dK c)):c.length<=sizeLine/\(a==Ø)=β/\∃f,KV c f/\h.DictOf (bK P w) a f:=
 show ObjOk P w H h a (.dK c)from uh ok e
def vQ{c:Y (ai×V)}(ok:HOk P w H h)(e:H a=Z (.dK c)):c.length<=sizeLine/\(a==Ø)=β/\∃f,KV c f/\h.DictOf (bK P w) a f:=oP ok (.inl e)
def oz{c:Y ai}(ok:HOk P w H h)(e:H a=Z (.tup (c.map kV))):(Ĉ (bK P w)).is h c a:=by let⟨_,its,r,o,f,⟨g,_⟩,n,j⟩:=(show ObjOk P w H h a (.tup (c.map kV))from ok a _ e);show⟨o,its.toArray,n,f,g,j,by simpa using ze r⟩
def pd{f:Y (Y ai×V)}(ok:HOk P w H h)(e:Rd H a (.dT f)):f.length<=sizeLine/\(a==Ø)=β /\
  ∃xs,KT H f xs/\h.DictOfH (Ĉ (bK P w)) a xs:=by
 let⟨z,y,xs,r,o,j,g,u,v,A,B,C⟩:=(show ObjOk P w H h a (.dT f)from uh ok e);refine⟨z,y,xs,r,o,j,g,u,v,A,B,λx c=>?_,C⟩
 have all:∀{l:Y (Y ai×V)}{m:Y (Y ai×Addr×Value)},KT H l m->∀x∈m,(Ĉ (bK P w)).is h x.1 x.2.1:=by
  intro l m q
  induction q with
  |nil=>intro x c;show nomatch c
  | @cons p q ps qs hq t E=>
   intro x c;rcases L0.mp c with e|c
   ·subst e;show oz ok (by rw[←hq.1];show hq.2.1)
   ·show E x c
 show all r x c
def nr{c:Y (Y ai×V)}(ok:HOk P w H h)(e:H a=Z (.dT c)):c.length<=sizeLine/\(a==Ø)=β /\
  ∃xs,KT H c xs/\h.DictOfH (Ĉ (bK P w)) a xs:=pd ok (.inl e)
end
def DGet(H:Hp)(a:Addr)(y:V)(r:Ž V):Prop:=
 (∃c k,Rd H a (.dK c)/\y=kV k/\r=dm c k)\/∃c k b,Rd H a (.dT c)/\y=.ref b/\H b=Z (.tup (k.map kV))/\r=dm c k
def DPut(H:Hp)(a:Addr)(y v:V)(H':Hp):Prop:=
 (∃c k,H a=Z (.dK c)/\y=kV k/\c.length<sizeLine/\H'=au H a (.dK (eB c k v))) \/
 ∃c k b,H a=Z (.dT c)/\y=.ref b/\H b=Z (.tup (k.map kV))/\c.length<sizeLine/\H'=au H a (.dT (eB c k v))
def DGet.k{H:Hp}{a:Addr}{c:Y (ai×V)}{k:ai}(e:H a=Z (.dK c)):DGet H a (kV k) (dm c k):=.inl ⟨c,k,.inl e,O,O⟩
def DGet.t{H:Hp}{a b:Addr}{c:Y (Y ai×V)}{k:Y ai}(e:H a=Z (.dT c))(eb:H b=Z (.tup (k.map kV))):DGet H a (.ref b) (dm c k):=.inr ⟨c,k,b,.inl e,O,eb,O⟩
def DPut.k{H:Hp}{a:Addr}{c:Y (ai×V)}{k:ai}{v:V}(e:H a=Z (.dK c))(hl:c.length<sizeLine):DPut H a (kV k) v (au H a (.dK (eB c k v))):=.inl ⟨c,k,e,O,hl,O⟩
def DPut.t{H:Hp}{a b:Addr}{c:Y (Y ai×V)}{k:Y ai}{v:V}(e:H a=Z (.dT c))(eb:H b=Z (.tup (k.map kV)))(hl:c.length<sizeLine) :
  DPut H a (.ref b) v (au H a (.dT (eB c k v))):=.inr ⟨c,k,b,e,O,eb,hl,O⟩
section
variable{X:Cx}{f:Y (Addr×Obj)}{j:St}{H:Hp}{s:À}{a:Addr}{y v:V}{u r:Value}{o:Ž V}{A:É}{E:Value->À->Prop}
def Inv.big(I:Inv X f j H s):Ø<s.heap.objs.size:=by have h:Ã<s.heap.objs.size:=(I.mod.glob.keeps I.bk).lt;show Qr 'b' h
def DB{Q:Value->À->Prop}(L:A.units+1<ã)(I:Inv X f j H s)(g:DGet H a y (Z v))(F:RelV y u)(h:∀m G,Inv X f j H G->RelV v m->Q m G) :
  wpAny (Ä X.prog X.w) A (é (.ref a) u) Q E s:=by
 rcases g with⟨J,k,e,B,l⟩|⟨J,k,b,e,B,eb,l⟩
 ·subst B;let⟨z,hd,M,c,x⟩:=oP I.hok e;let⟨m,C,w⟩:=RelO.some_of (v:=v) (o:=ú M k) (by rw[l];show c.val k);show wpAny_getItem_of (ju F) x.mapOf C (h m _ (I.tok _) w)
 ·subst B;cases (show u=Value.ref b from F);let⟨z,hd,xs,c,x⟩:=pd I.hok e;let⟨m,C,w⟩:=RelO.some_of (v:=v) (o:=(ġ xs k).map (·.2)) (by rw[l];show c.val k);let⟨p,hp,K⟩:=O7.mp C;refine wpAny_getItem_heap (P7 L) (oz I.hok eb) x hp ?_;rw[K];show h m _ (I.tok _) w
def EK{Q:Value->À->Prop}(C:A.units+1<ã)(I:Inv X f j H s)(g:DGet H a y o)(w:RelV y u)(h:∀x,Inv X f j H x->Q (.bool o.isSome) x) :
  wpAny (Ä X.prog X.w) A (Ì .In u (.ref a)) Q E s:=by
 rcases g with⟨B,k,e,p,l⟩|⟨B,k,b,e,p,eb,l⟩
 ·subst p;let⟨z,hd,F,c,m⟩:=oP I.hok e;refine wpAny_in_of (ju w) hd m.mapOf ?_;rw[←(c.val k).isSome_eq,←l];show h _ (I.tok _)
 ·subst p;cases (show u=Value.ref b from w);let⟨z,hd,xs,c,m⟩:=pd I.hok e;refine wpAny_in_heap (P7 C) (oz I.hok eb) hd m ?_;have q:=(c.val k).isSome_eq;rw[ĭ]at q;rw[←q,←l];show h _ (I.tok _)
def y6{h':Heap}{t':Nat}{ob:HO}(I:Inv X f j H s)(l:lR (H a))(h:Heap.SameBut a s.heap h')(g:∃q,h'.get? a=Z q)(new:ObjOk X.prog X.w (au H a ob) h' a ob) :
  Inv X f j (au H a ob) { s with heap:=h',toks:=t' }:=
 I.write (x:=a) (e:=a) l (.inl O) (λb q c z=>(h.2 b c).trans z) g new
def Gy{P:Æ}{w:Ç}{H':Hp}{h':Heap}{c:Y (ai×V)}{g:Y (ai×Value)}(z:c.length<=sizeLine)(hd:(a==Ø)=β)(e:KV c g)(h:h'.DictOf (bK P w) a g) :
  ObjOk P w H' h' a (.dK c):=⟨z,hd,g,e,h⟩
def Ba{H':Hp}{Q:Unit->À->Prop}(be:A.units+1<ã)(I:Inv X f j H s)(g:DPut H a y v H')(K:RelV y u)(J:RelV v r)(h:∀L,Inv X f j H' L->Q Unit.unit L) :
  wpAny (Ä X.prog X.w) A (setItem (.ref a) u r) Q E s:=by
 rcases g with⟨p,k,e,C,l,B⟩|⟨p,k,b,e,C,eb,l,B⟩
 ·subst C B;let⟨z,hd,am,m,x⟩:=vQ I.hok e
  have G:am.length<=sizeLine:=by rwa[←m.length]
  have hl:(eB p k v).length<=sizeLine:=by have:=zR p k v;omega
  refine wpAny_setItem_pairs (hsz:=G) (ju K) x λh' w F=>h _ ?_
  have U:∃q,h'.get? a=Z q:=let ⟨q,_,_,hq,_⟩:=w;⟨q,hq⟩
  show y6 I (by rw[e];show Ý) F U (Gy hl hd (m.put k J) w)
 ·subst C B;cases (show u=Value.ref b from K);let⟨z,hd,xs,m,x⟩:=nr I.hok e
  have G:xs.length<=sizeLine:=by rwa[←OD m]
  have hl:(eB p k v).length<=sizeLine:=by have:=zR p k v;omega
  refine wpAny_setItem_heap (hsz:=G) (P7 be) (oz I.hok eb) x λh' w F=>h _ ?_;let⟨q,a_,N,hq,P,R,S,_,T⟩:=w;refine y6 I (by rw[e];show Ý) F ⟨q,hq⟩ ⟨hl,hd,_,(m.put k eb J).keeps λc ys M=>?_,q,a_,N,hq,P,R,S,T⟩;rwa[aE (FM M e (λz=>nomatch z))]
end
def qN(i:Å):Prop:=∀ov a,Đ i β ov a=operate [ov,a] (é ov a)
def DF{prog:Æ}{w:Ç}{A:É}{E:Value->À->Prop}{s:À}{env:ó}{c a:Å}{pos:Pos}{T id:String}{Q:Value->À->Prop}
  (hl:Ĝ (.type T) "__getitem__"=pure (Z (.builtin id))) (u:qN a)
  (h:wpAny (Ä prog w) A (eval c env) (λo g=>wpAny (Ä prog w) A (eval a env) (λi e=>e.TypeIs o T/\wpAny (Ä prog w) A (é o i) Q E e) E g) E s) :
  wpAny (Ä prog w) A (eval (.Subscript c a pos) env) Q E s:=by
 refine Subscript_ (MZ h (λo g l=>MZ l (λi e f=>?_) λ_ _ x=>x) λ_ _ x=>x);let⟨p,f⟩:=f;unfold ī;refine LD ?_;rw[getitemInPython_of_ne p.not_modules];refine LD (ŵ p hl ?_)
 have fin:wpAny (Ä prog w) A (Đ a β o i) (λr j=>wpAny (Ä prog w) A (letTemporaryGo c o r >>= λ_=>pure r) Q E j) E e:=by rw[u o i];show wpAny_operating (MZ f (λr j m=>LD (wpAny_letTemporaryGo (LP m))) λ_ _ x=>x)
 first
  |show LP (LD fin)
  |show LD (LP (LD fin))
  |show LD fin
def DT{X:Cx}{c:Y (Addr×Obj)}{j:St}{H:Hp}{s:À}{a:Addr}{y:V}{o:Ž V}(I:Inv X c j H s)(g:DGet H a y o):s.TypeIs (.ref a) "dict":=by
 rcases g with⟨h,k,e,_,_⟩|⟨h,k,b,e,_,_,_⟩
 ·let⟨_,_,l,_,f⟩:=oP I.hok e;show f.typeIs
 ·let⟨_,_,xs,_,f⟩:=pd I.hok e;show f.typeIs
def B9(td g:TE):TE:=λe H Q=>td e H λx f=>g e f λy c=>∃a v,x=.ref a/\DGet c a y (Z v)/\Q v c
def IU(g td:TE):TE:=λe H Q=>g e H λy f=>td e f λx c=>∃a o,x=.ref a/\DGet c a y o/\Q (.bl o.isSome) c
def Cs(td l j:TE):TS:=λD c H=>j c H λv f=>td c f λx g=>l c g λy h=>∃a e,x=.ref a/\DPut h a y v e/\D.nx c e
section
variable{X:Cx}{o i c:Å}{pos e:Pos}{td f j:TE}
def Jp(G:X.A.units+1<ã)(E:PE X o td)(C:PE X i f)(F:qN i):PE X (.Subscript o i pos) (B9 td f):=by intro l s p H Q I h;refine DF PySem.F.slot_dict_getitem.lookup F (ay (E l s p H _ I h) λu N ⟨x,r,z,L,J⟩=>ay (C l N p r _ z J) λU P ⟨y,w,m,M,a,v,ex,g,K⟩=>?_);subst ex;obtain rfl:u=Value.ref a:=L;show⟨DT m g,DB G m g M λS R A B=>⟨v,w,A,B,K⟩⟩
def vB(C:X.A.units+1<ã)(A:PE X i f)(B:PE X o td):PC X .In i o (IU f td):=by intro l s m H Q I h;refine ay (A l s m H _ I h) λL K ⟨y,p,v,J,E⟩=>ay (B l K m p _ v E) λu M ⟨x,r,w,G,a,ov,ex,g,F⟩=>?_;subst ex;obtain rfl:u=Value.ref a:=G;show EK C w g J λN z=>⟨.bl ov.isSome,r,z,O,F⟩
def zO(K:X.A.units+1<ã)(G:PE X o td)(F:PE X i f)(L:PE X c j)(J:Ð c (Z (.Subscript o i e)) pos.line X.env=pure β) :
  PS X (.Assign [.Subscript o i e] c pos) (Cs td f j):=by
 intro l s m H D I h;refine wpAny_Assign_Subscript (ay (L l s m H _ I h) λr S ⟨v,p,A,P,M⟩=>ay (G l S m p _ A M) λu T ⟨x,w,B,Q,N⟩=>ay (F l T m w _ B N) λbe am ⟨y,U,C,R,a,z,ex,g,a_⟩=>?_) J;subst ex;obtain rfl:u=Value.ref a:=Q;show Ba K C g R P λs4 E=>⟨m,z,E,a_⟩
end
def HY{P:Æ}{w:Ç}{H:Hp}(h:Heap)(a:Ø<h.objs.size):ObjOk P w H (h.push { cls:=.type "dict",data:=.dict #[] }) h.objs.size (.dK []):=
 ⟨ME _,Nk.mpr (Mo (LZ a)),[],.nil,Heap.DictOf.new h⟩
def AN{P:Æ}{w:Ç}{H:Hp}(h:Heap)(a:Ø<h.objs.size):ObjOk P w H (h.push { cls:=.type "dict",data:=.dict #[] }) h.objs.size (.dT []):=
 ⟨ME _,Nk.mpr (Mo (LZ a)),[],.nil,_,#[],0,LS _ O,⟨O,O,O⟩,O,O,PY⟩
def Eb:TE:=λ_ H Q=>∀p,H p=ż->Q (.ref p) (au H p (.dK []))
def Cp:TE:=λ_ H Q=>∀p,H p=ż->Q (.ref p) (au H p (.dT []))
section
variable{X:Cx}{pos:Pos}
def pe_dnewK:PE X (.Dict [] [] pos) Eb:=λc s e H Q I h=>
 ů ⟨.ref s.heap.objs.size,_,I.laid (a:=s.heap.objs.size) (o:=.dK []) (t':=s.toks) (λ_ _ q=>LK _ q) (LM _) (HY s.heap I.big),O,h _ (I.hok.fresh (LM _))⟩
def pe_dnewT:PE X (.Dict [] [] pos) Cp:=λc s e H Q I h=>
 ů ⟨.ref s.heap.objs.size,_,I.laid (a:=s.heap.objs.size) (o:=.dT []) (t':=s.toks) (λ_ _ q=>LK _ q) (LM _) (AN s.heap I.big),O,h _ (I.hok.fresh (LM _))⟩
end
end L2
set_option maxHeartbeats 4000000
namespace L2
open PySem PySem.Spec PyProof.Rows
def IG{env:ó}(names:Y (Str×NameKind))(v:∀x∈names,x.2=.free->∃c,env.cells.lookup x.1=Z c):∀f:Y (Str×Addr),
  ∃cl:Y (Str×Addr),(forIn names f (λ(x:Str×NameKind) o=>if (x.2==.free)=ž then do let a ←cellOf env x.1;pure (ForInStep.yield ((x.1,a)::o)) else pure (ForInStep.yield o)):Sem (Y (Str×Addr)))=pure cl /\
   (∀p∈cl,p∈f\/env.cells.lookup p.1=Z p.2)/\(∀p∈f,p∈cl)/\∀x,(x,NameKind.free)∈names->∃c,(x,c)∈cl:=by
 induction names with
 |nil=>intro f;show⟨f,O,λp hp=>.inl hp,λ_ hp=>hp,λx g=>by simp at g⟩
 |cons n r y=>
  intro f;let⟨n,k⟩:=n;have w:∀x∈r,x.2=.free->∃c,env.cells.lookup x.1=Z c:=λx g=>v x (LO _ g);by_cases m:k=.free
  ·subst m;let⟨c,u⟩:=v (n,.free) LQ O;let⟨cl,e,j,h,l⟩:=y w ((n,c)::f);refine⟨cl,?_,λp hp=>?_,λp hp=>h p (LO _ hp),λx g=>?_⟩
   ·rw[Px,←e]
    have q:cellOf env n=pure c:=by unfold cellOf;rw[u]
    simp[q]
   ·rcases j p hp with z|z
    ·rcases L0.mp z with rfl|z
     ·show .inr u
     ·show .inl z
    ·show .inr z
   ·rcases L0.mp g with z|z
    ·cases z;show⟨c,h _ LQ⟩
    ·show l x z
  ·let⟨cl,e,j,h,l⟩:=y w f;refine⟨cl,?_,j,h,λx g=>?_⟩
   ·rw[Px,←e]
    have q:(k==NameKind.free)=β:=by simpa using m
    simp[q]
   ·rcases L0.mp g with z|z
    ·cases z;show absurd O m
    ·show l x z
def Ay{cl:Y (Str×Addr)}{cells:Y (Str×Addr)}(h:∀p∈cl,cells.lookup p.1=Z p.2):∀x c,cl.lookup x=Z c->cells.lookup x=Z c:=λx c e=>h (x,c) (MD e)
def Bc{cl:Y (Str×Addr)}{x:Str}{c:Addr}:(x,c)∈cl->∃a,cl.lookup x=Z a:=by
 induction cl with
 |nil=>intro h;simp at h
 |cons p r f=>
  intro h;rw[Pb]
  cases e:x==p.1 with
  |true=>show⟨_,O⟩
  |false=>
   rcases L0.mp h with z|z
   ·subst z;simp at e
   ·show f z
def rD{scope:â}{env:ó}(h:∀x∈scope.names,x.2=.free->∃c,env.cells.lookup x.1=Z c) :
  ∃cl,closureFor scope env=pure cl/\(∀x c,cl.lookup x=Z c->env.cells.lookup x=Z c)/\∀x,(x,NameKind.free)∈scope.names->∃c,cl.lookup x=Z c:=by
 let⟨cl,e,a,_,f⟩:=IG (env:=env) scope.names h [];refine⟨cl,?_,Ay λp hp=>(a p hp).elim (λz=>by simp at z) id,λx j=>?_⟩
 ·unfold closureFor;simp only;rw[←e];simp
 ·let⟨c,g⟩:=f x j;show Bc g
theorem qA{env:ó}:∀{names:Y (Str×NameKind)}{x:Str}{k:NameKind},
  (names.map λ(n,k)=>if (k==NameKind.free&&env.scope.kind==.function&&env.kindOf n==Z .cell) then (n,NameKind.cell) else (n,k)).lookup x=Z k->(k=.cell\/k=.free)->(x,NameKind.free)∈names\/(x,NameKind.cell)∈names
 | [],_,_,h,_=>by simp at h
 |(n,k)::r,x,j,h,c=>by
  have g:=@qA env r x j;have h:List.lookup x ((if (k==NameKind.free&&env.scope.kind==.function&&env.kindOf n==Z .cell)=ž then (n,NameKind.cell) else (n,k))::_)=_:=h;by_cases a:(k==NameKind.free&&env.scope.kind==.function&&env.kindOf n==Z .cell)=ž
  ·rw[LI a]at h
   have kf:k=.free:=by simp only[Nq,Pp]at a;show a.1.1
   rw[Pb]at h
   cases e:x==n with
   |true=>
    have:x=n:=by simpa using e
    subst this;subst kf;show .inl LQ
   |false=>
    simp only[e]at h;show (g h c).imp (LO _) (LO _)
  ·rw[LG a]at h;rw[Pb]at h
   cases e:x==n with
   |true=>
    have f:k=j:=by simpa [e] using h
    have:x=n:=by simpa using e
    subst this;subst f;rcases c with rfl|rfl
    ·show .inr LQ
    ·show .inl LQ
   |false=>
    simp only[e]at h;show (g h c).imp (LO _) (LO _)
noncomputable def bU(X:Cx)(scope:â)(N':Y Str)(cl:Y (Str×Addr))(C:Addr)(e:À)(a:Hp)(c:Y Addr):Cx where
 prog:=X.prog
 w:=X.w
 K:=X.K
 mg:=X.mg
 base:=X.base
 A:=X.A
 N:=N'
 s₀:=e
 H₀:=a
 env:=ğ scope cl C X.env
 outer:=X.stack
 stack:=X.stack
 ex:=c
 fn:=λx=>scope.names.lookup x==Z .cell
 calm:=X.calm
 pn:=[]
 xe:=λ_ _=>False
def dG(cap:Y (Ž Nat))(a:St):St:=cap.map λo=>o.bind λi=>(a[i]?).join
structure CompScope(N:List Str)(sc scope:â)(N':List Str)(cap:List (Option Nat)):Prop where
 kind:scope.kind=.function
 cel:∀x∈scope.names,x.2=.cell->scope.names.lookup x.1=Z .cell
 names:∀x∈scope.names,x.2=.local->scope.names.lookup x.1=Z .local
 free:∀x∈scope.names,x.2=.free->sc.names.lookup x.1=Z .cell
 fst:∀x∈scope.names,x.2=.free->scope.names.lookup x.1=Z .free
 nd:N'.Nodup
 len:cap.length=N'.length
 at_:∀p∈cap.zip N',∀i,p.1=Z i->N[i]?=Z p.2/\(p.2,NameKind.free)∈scope.names
noncomputable def jO(X:Cx)(e:Y Å)(t:TT):Prop:=
 ∀(a:Y (Addr×Obj))(s:À)(f:St)(H:Hp)(Q:Bool->Hp->Prop),Inv X a f H s->t f H Q->
  wpAny (Ä X.prog X.w) X.A (forIn e ž λc r=>if r=ž then do let ok ←isTrue c X.env (eval c X.env);pure (ForInStep.yield ok) else pure (ForInStep.yield r)) (TP X a f Q) X.xe s
def Cw:TT:=λ_ H Q=>Q ž H
def FA{X:Cx}:jO X [] Cw:=λ_ _ _ H _ I h=>wpAny_tests_nil ⟨H,I,h⟩
def Ga{X:Cx}{c:Å}{t:TT}(h:PT X c t):jO X [c] t:=λa s f H Q I e=>wpAny_tests_one (h a s f H Q I e)
noncomputable def gO(w:TI)(cap:Y (Ž Nat))(g:TG)(u:TT)(v:TE):TE:=λp H Q=>w p H λJ h=>∀D,h D=ż->∃W:Nat->Nat->St->Hp->Prop,(∃m,W 0 m (dG cap p) (au h D (.lst []))) /\
 ∀i m e H',W i m e H'->(J.stop i H'/\Q (.ref D) H')\/(J.go i H'/\∃N:St->Hp->Prop,(∀f c,N f c->∃o,o<m/\W (i+1) o f c) /\
  ∀x c,J.yld i H' x c->g x e c λa r=>u a r λb j=>if b=ž then v a j λy l=>∃ys,l D=Z (.lst ys)/\ys.length<sizeLine/\N a (au l D (.lst (ys++[y]))) else N a j)
def IK{prog:Æ}{w:Ç}{A:É}{R:ģ->À->Prop}{s:À}{z a iter:Å}{C:Y Å}{scope:â}{pos:Pos}{J y:Value}{env:ó}(I:Nat->À->Prop)
  (H:∀n s,I n s->wpAny (Ä prog w) A (à J) (λr e=>match r with
   |none=>R (.ok .next) e
   |some v=>wpAny (Ä prog w) A (ø a J v) (λ_ f=>wpAny (Ä prog w) A (assign a env v) (λ_ o=>
     wpAny (Ä prog w) A (forIn C ž λc r=>if r=ž then do let ok ←isTrue c env (eval c env);pure (ForInStep.yield ok) else pure (ForInStep.yield r)) (λok g=>
      if ok=ž then wpAny (Ä prog w) A (eval z env) (λx p=>
       wpAny (Ä prog w) A (call (.builtin "list.append") [y,x]) (λ_ u=>∃m,m<n/\I m u) (λ_ _=>False) p) (λ_ _=>False) g
      else ∃m,m<n/\I m g) (λ_ _=>False) o) (λ_ _=>False) f) (λ_ _=>False) e) (λ_ _=>False) s)
  (n:Nat) (h:I n s):Þ (Ä prog w) A (.compLoop (.ListComp z [⟨a,iter,C,0⟩] scope pos) 0 J y env) R s:=by
 refine codeAny_loop O I (λn s K=>?_) n h;change wpAny _ A ((compTurn (.ListComp z [⟨a,iter,C,0⟩] scope pos) 0 J y env).onRaise (λx=>do noteFrame x env;theTreesLotGoes x)) _ _ s;refine wpAny_noted ?_;rw[compTurn_list];refine LD (O9 (LD (MZ (H n s K) (λr e j=>?_) λ_ _ h'=>h'.elim)))
 cases r with
 |none=>show LP j
 |some v=>
  refine LD (MZ j (λ_ f B=>?_) λ_ _ h'=>h'.elim);refine LD (MZ B (λ_ o E=>LD (MZ E (λok g l=>?_) λ_ _ h'=>h'.elim)) λ_ _ h'=>h'.elim)
  cases ok with
  |false=>show LP ⟨O,l⟩
  |true=>
   show LD (LD (MZ l (λx p F=>LD (MZ F (λ_ u G=>LP (LP ⟨O,G⟩)) λ_ _ h'=>h'.elim)) λ_ _ h'=>h'.elim))
section
variable{X:Cx}{l B iter:Å}{f:Y Å}{scope:â}{pos:Pos}{N':Y Str}{cap:Y (Ž Nat)}{K:TI}{g:TG}{G:TT}{F:TE}
theorem mj:∀(names:Y (Str×NameKind))(n:Nat)(a:Y (Str×Addr)),Ú n names a=Ú n names []++a
 | [],_,_=>rfl
 |(x,k)::r,n,a=>by
  unfold Ú;split
  ·rw[mj r (n+1) ((x,n)::a),mj r (n+1) [(x,n)],Ma];rfl
  ·show mj r n a
theorem sP:∀(names:Y (Str×NameKind))(n:Nat){x:Str}{c:Addr},(x,c)∈Ú n names []->(x,NameKind.cell)∈names
 | [],_,_,_,h=>by simp[Ú]at h
 |(y,k)::r,n,x,c,h=>by
  unfold Ú at h;split at h
  ·rename_i a;rw[mj]at h;rcases Mf.mp h with h|h
   ·show LO _ (sP r _ h)
   ·have e:=LV.mp h;cases e
    have:k=.cell:=by simpa using a
    subst this;show LQ
  ·show LO _ (sP r _ h)
def Ke{M:ū}{A:É}{E:Value->À->Prop}{s:À}{globals:Addr}{cl:Y (Str×Addr)}{qual:Str}{outer:ó}{Q:ó->À->Prop}
  (c:∀h',h'.Ns s.heap.objs.size (λ_=>ż)->(∀b o,s.heap.get? b=Z o->h'.get? b=Z o)->CellsOk h' (s.heap.objs.size+1) (Ú (s.heap.objs.size+1) scope.names [])->
   Q { scope:=scope,locals:=s.heap.objs.size,globals:=globals,cells:=Ú (s.heap.objs.size+1) scope.names []++cl,qual:=qual,func:=ż,code:=outer.code,frame:=outer.frame,builtins:=outer.builtins } { s with heap:=h' }) :
  wpAny M A (ĝ scope globals cl [] qual ż .none (Z outer)) Q E s:=by
 simp only[ĝ,ĩ,NT];refine LD (wpAny_alloc ?_);refine LD (wpAny_layCells _ (λname kind cells=>by cases a:kind==NameKind.cell<;>simp[a]) _ _ _ _ ?_);have ok:=cellsFrom_ok scope.names (s.heap.push { cls:=.type "dict",data:=.dict #[] }) (s.heap.objs.size+1) [] ⟨λ_ _ h=>(nomatch h),List.Pairwise.nil⟩ (by rw[Mz];show LM _);rw[Mz]at ok;rw[show ({ s with heap:=s.heap.push { cls:=.type "dict",data:=.dict #[] } }:À).heap.objs.size=s.heap.objs.size+1 from Mz ..,mj];refine LD ?_;rw[QP];show LP (LP (c _ ((Heap.Ns.new s.heap (.type "dict")).keeps (Ŷ _ _)) (λb o e=>Ŷ _ _ b o (LK _ e)) ok))
def AM{M:Y (Addr×Obj)}{N:St}{H:Hp}{s Q:À}{cl A:Y (Str×Addr)}{C:Addr}{fp:Y Addr}{m:Str->Ž Value}(S:CompScope X.N X.env.scope scope N' cap)(I:Inv X M N H s)
  (RU:∀x c,cl.lookup x=Z c->X.env.cells.lookup x=Z c) (S8:∀x,(x,NameKind.free)∈scope.names->∃c,cl.lookup x=Z c) (E:s.heap.objs.size<=C) (Ts:Q.os=s.os) (hg:Q.gens=s.gens)
  (be:∀b o,s.heap.get? b=Z o->Q.heap.get? b=Z o) (hn:Q.heap.Ns C m) (WS:∀b∈fp,FpOk X M H b) (U:∀b∈fp,b<s.heap.objs.size) (hw:CellsOk Q.heap (C+1) A) (hwm:∀x c,(x,c)∈A->(x,NameKind.cell)∈scope.names) (Uc:∀x,(x,NameKind.cell)∈scope.names->∃c,A.lookup x=Z c) :
  Inv (bU X scope N' (A++cl) C s H fp) [] (dG cap N) H Q:=by
 have P:∀x c,(A++cl).lookup x=Z c->((x,c)∈A/\C<c)\/(A.lookup x=ż/\X.env.cells.lookup x=Z c):=λx c h=>by
  rw[P8]at h
  cases e:A.lookup x with
  |none=>rw[e]at h;show .inr ⟨O,RU x c (by simpa using h)⟩
  |some R=>
   rw[e]at h
   have:R=c:=by simpa using h
   subst this;show .inl ⟨MD e,(hw.empty _ _ (MD e)).2⟩
 have L:∀x c,X.env.cells.lookup x=Z c->c<s.heap.objs.size:=λx c h=>by let⟨v,q⟩:=I.cell x c h;show q.lt
 have VL:∀x,(x,NameKind.free)∈scope.names->∃c,(A++cl).lookup x=Z c/\X.env.cells.lookup x=Z c:=λx w=>by
  let⟨c,hc⟩:=S8 x w;refine⟨c,?_,RU x c hc⟩;rw[P8]
  cases e:A.lookup x with
  |none=>simpa using hc
  |some R=>
   have a1:=S.cel _ (hwm x R (MD e)) O;have a2:=S.fst _ w O;have a1:scope.names.lookup x=Z .cell:=a1;have a2:scope.names.lookup x=Z .free:=a2;rw[a1]at a2;cases a2
 refine⟨⟨I.ok.mod,S.kind,I.ok.glob,I.ok.blt,E,λx y c h1 a=>?_,λx w=>?_,λx c w h=>?_,I.ok.hd,I.ok.frames,.inl O,
   λb J=>⟨LZ (Me (U b J) E),λx c e=>?_⟩,I.bs,L6 I.ok.bsz I.sz,λb o e J=>?_,λb J hf=>?_,I.stack,I.stkFree⟩,
  Ts,by rw[hg];show I.bare,Un.kept be,⟨m,hn,λi x v h1 a h3=>?_⟩,λx c e=>?_,I.hok.fresh E,λx c e=>?_,λp hp=>absurd (show p∈([]:Y (Addr×Obj))from hp) (by simp),I.hok.kept be,?_⟩
 ·rcases P x c h1 with⟨a1,a2⟩|⟨_,a2⟩<;>rcases P y c a with⟨b1,b2⟩|⟨_,b2⟩
  ·show name_of_addr hw.apart a1 b1
  ·show absurd (L y c b2) (Nat.not_lt.mpr (L6 E (MC a2)))
  ·show absurd (L x c a2) (Nat.not_lt.mpr (L6 E (MC b2)))
  ·show I.ok.inj x y c a2 b2
 ·have q:(x,NameKind.free)∈scope.names\/(x,NameKind.cell)∈scope.names:=by
   rcases w with w|w
   ·show qA w (.inl O)
   ·show qA w (.inr O)
  rcases q with q|q
  ·let⟨c,h,_⟩:=VL x q;show⟨c,h⟩
  ·let⟨c,h⟩:=Uc x q;show⟨c,by change (A++cl).lookup x=_;rw[P8,h];rfl⟩
 ·have w:(scope.names.lookup x==Z .cell)=ž:=w
  have w:scope.names.lookup x=Z .cell:=by simpa using w
  let⟨R,h'⟩:=Uc x (MD w);rcases P x c h with⟨_,a2⟩|⟨a1,_⟩
  ·show L6 E (MC a2)
  ·rw[h']at a1;cases a1
 ·rcases P x c e with⟨_,a2⟩|⟨_,a2⟩
  ·show λz=>absurd (U b J) (Nat.not_lt.mpr (L6 E (by rw[←z];show MC a2)))
  ·show (WS b J).2.2.2.2.1 x c a2
 ·rcases (WS b J).2.2.2.1 with z|z
  ·show I.ok.noex b o e z
  ·show absurd (Me (LU e) (L6 I.ok.bsz z)) (MY _)
 ·rcases L0.mp (I.stkSub b hf)with z|z
  ·show (WS b J).2.1 z
  ·show (WS b J).2.2.1 z
 ·have a:(cap.map λo=>o.bind λi=>(N[i]?).join)[i]?=Z (Z v):=a;rw[LN]at a
  cases ec:cap[i]? with
  |none=>rw[ec]at a;cases a
  |some o=>
   rw[ec]at a
   have a:(o.bind λi=>(N[i]?).join)=Z v:=by simpa using a
   cases o with
   |none=>cases a
   |some j=>
    have a:(N[j]?).join=Z v:=a
    have hj:N[j]?=Z (Z v):=by
     cases ej:N[j]? with
     |none=>rw[ej]at a;cases a
     |some y=>rw[ej]at a;show MR Z a
    have hz:(cap.zip N')[i]?=Z (Z j,x):=by rw[Nn];show⟨ec,h1⟩
    let⟨q1,q2⟩:=S.at_ _ (Mb hz) j O;let⟨mx,hnx,hl⟩:=I.loc;have kc:=S.free _ q2 O;let⟨u,r,lk⟩:=hl j x v q1 hj (.inr (.inl kc));refine⟨u,r,?_⟩;rcases lk with⟨k1,_⟩|⟨_,c,e,z⟩
    ·have:X.env.scope.names.lookup x=Z .local:=k1;rw[kc]at this;cases this
    ·let⟨R,Up,TV⟩:=VL x q2;rw[e]at TV;cases TV
     have a_:(ğ scope (A++cl) C X.env).kindOf x=Z .cell\/(ğ scope (A++cl) C X.env).kindOf x=Z .free\/(ğ scope (A++cl) C X.env).kindOf x=Z .local:=by
      rcases h3 with z|z|z
      ·show .inr (.inr z)
      ·show .inl z
      ·show .inr (.inl z)
     rcases a_ with a_|a_|a_
     ·show .inr ⟨.inl a_,c,Up,let ⟨o,am,hd⟩:=z;⟨o,be c o am,hd⟩⟩
     ·show .inr ⟨.inr a_,c,Up,let ⟨o,am,hd⟩:=z;⟨o,be c o am,hd⟩⟩
     ·exfalso;have kl:(relabel scope X.env).names.lookup x=Z .local:=a_;have ml:=MD kl;let⟨⟨n,k⟩,hm,T⟩:=LY.mp ml;have T:(if (k==NameKind.free&&X.env.scope.kind==.function&&X.env.kindOf n==Z .cell)=ž then (n,NameKind.cell) else (n,k))=(x,NameKind.local):=T;split at T
      ·cases T
      ·cases T;have a1:=S.names _ hm O;have a3:scope.names.lookup x=Z .free:=S.fst _ q2 O;have a1:scope.names.lookup x=Z .local:=a1;rw[a3]at a1;cases a1
 ·rcases P x c e with⟨a1,_⟩|⟨_,a2⟩
  ·show⟨ż,(hw.empty x c a1).1⟩
  ·let⟨v,o,am,hd⟩:=I.cell x c a2;show⟨v,o,be c o am,hd⟩
 ·rcases P x c e with⟨_,a2⟩|⟨_,a2⟩
  ·show I.hok.fresh (L6 E (MC a2))
  ·show I.freeC x c a2
 ·change (dG cap N).length=N'.length;unfold dG;rw[LC,S.len]
def wV{A:Y (Addr×Obj)}{σ:St}{j:Hp}{H:À}{it:Addr}{z:Y Addr}{tn:Nat->Heap->Prop}{J:It}{cl:Y (Str×Addr)}{RR:Value->Addr->ģ->À->Prop}{E:Value->À->Prop}(Ro:X.calm=ž)(S:CompScope X.N X.env.scope scope N' cap)
  (hg:∀(cl:Y (Str×Addr))(C:Addr)(s0:À)(H0:Hp),PG (bU X scope N' cl C s0 H0 z) B g) (ht:∀(cl:Y (Str×Addr))(C:Addr)(s0:À)(H0:Hp),jO (bU X scope N' cl C s0 H0 z) f G) (he:∀(cl:Y (Str×Addr))(C:Addr)(s0:À)(H0:Hp),PE (bU X scope N' cl C s0 H0 z) l F)
  (I2:Inv X A σ j H) (T:Turn X.prog X.w X.K B J z it tn) (Uq:tn 0 H.heap) (f2:∀b∈z,FpOk X A j b)
  (RU:∀x c,cl.lookup x=Z c->X.env.cells.lookup x=Z c) (S8:∀x,(x,NameKind.free)∈scope.names->∃c,cl.lookup x=Z c)
  {P:V->Hp->Prop}
  (w:∀D,j D=ż->∃W:Nat->Nat->St->Hp->Prop,(∃m,W 0 m (dG cap σ) (au j D (.lst []))) /\
   ∀i m L H',W i m L H'->(J.stop i H'/\P (.ref D) H')\/(J.go i H'/\∃N:St->Hp->Prop,(∀σ2 j,N σ2 j->∃m',m'<m/\W (i+1) m' σ2 j) /\
    ∀x j,J.yld i H' x j->g x L j λa_ H3=>G a_ H3 λb H4=>if b=ž then F a_ H4 λy U=>∃ys,U D=Z (.lst ys)/\ys.length<sizeLine/\N a_ (au U D (.lst (ys++[y]))) else N a_ H4))
  (hRR:∀D C H' s' m',X.env.locals≠C->X.s₀.heap.objs.size<=C->(∀x c,X.env.cells.lookup x=Z c->c≠C)->(∀p∈X.pn++A,p.1≠C)->H' C=ż->s'.heap.Ns C m'->Inv X A σ H' s'->P (.ref D) H'->RR (.ref D) C (.ok .next) s') :
  wpAny (Ä X.prog X.w) X.A (newList []) (λacc I=>wpAny (Ä X.prog X.w) X.A (ĝ scope X.env.globals cl [] X.env.qual ż .none (Z X.env)) (λVM s₄=>
   Þ (Ä X.prog X.w) X.A (.compStart (.ListComp l [⟨B,iter,f,0⟩] scope pos) 0 (.ref it) acc { VM with scope:=relabel scope X.env }) (RR acc VM.locals) s₄) E I) E H:=by
 refine M5 ?_ (by change 0<=sizeLine;decide);have be:Inv X A σ (au j H.heap.objs.size (.lst [])) { H with heap:=H.heap.push { cls:=.type "list",data:=.seq ([]:Y Value).toArray } }:=I2.lnew (t':=H.toks) .nil (by change 0<=sizeLine;decide);have k3:∀b o,H.heap.get? b=Z o->(H.heap.push { cls:=.type "list",data:=.seq ([]:Y Value).toArray }).get? b=Z o:=λb o e=>LK _ e;have z3:(H.heap.push { cls:=.type "list",data:=.seq ([]:Y Value).toArray }).objs.size=H.heap.objs.size+1:=Mz ..;have hD0:j H.heap.objs.size=ż:=I2.fresh;generalize hs3:({ H with heap:=H.heap.push { cls:=.type "list",data:=.seq ([]:Y Value).toArray } }:À)=s3 at be ⊢
 have eh3:s3.heap=H.heap.push { cls:=.type "list",data:=.seq ([]:Y Value).toArray }:=by rw[←hs3]
 have eo3:s3.os=H.os:=by rw[←hs3]
 generalize hDD:H.heap.objs.size=D at be hD0 z3 ⊢;rw[←eh3]at k3 z3;have live:∀b∈z,∃o,H.heap.get? b=Z o/\∀v,o.data≠.cell v:=λb a=>T.obj 0 _ Uq b a
 have XI:∀b∈z,b<D:=λb a=>by let⟨o,e,_⟩:=live b a;rw[←hDD];show LU e
 have f3:∀b∈z,FpOk X A (au j D (.lst [])) b:=λb a=>⟨by rw[aE (LZ (XI b a))];show (f2 b a).1,(f2 b a).2⟩;refine Ke λh4 hn4 k4 ok4=>?_;generalize hnw:Ú (s3.heap.objs.size+1) scope.names []=nw at ok4 ⊢;have st4:tn 0 h4:=T.keep 0 _ _ Uq λb _ o e=>k4 b o (k3 b o e)
 have I4:Inv (bU X scope N' (nw++cl) s3.heap.objs.size s3 (au j D (.lst [])) z) [] (dG cap σ) (au j D (.lst [])) { s3 with heap:=h4 }:=
  AM S be RU S8 (LM _) O O k4 hn4 f3 (λb a=>by rw[z3];show Mr (XI b a)) ok4 (λx c h=>sP _ _ (hnw▸h)) λx h=>hnw▸tD (S.cel _ h O)
 let⟨W,⟨m0,w0⟩,turn⟩:=w D hD0
 have XJ:∀{H':Hp},(∀b∈z,H' b=ż)->∀b∈z,FpOk (bU X scope N' (nw++cl) s3.heap.objs.size s3 (au j D (.lst [])) z) [] H' b:=λhn b a=>
  ⟨hn b a,LZ (by change b<s3.heap.objs.size;rw[z3];show Mr (XI b a)),λhf=>I4.ok.exfs b a hf,.inl a,λx c e=>(I4.ok.exf b a).2 x c e,λp hp=>absurd (show p∈([]:Y (Addr×Obj))from hp) (by simp)⟩
 have am:∀I:À,I={ s3 with heap:=h4 }->
   Þ (Ä X.prog X.w) X.A (.compLoop (.ListComp l [⟨B,iter,f,0⟩] scope pos) 0 (.ref it) (.ref D) (ğ scope (nw++cl) s3.heap.objs.size X.env)) (RR (.ref D) s3.heap.objs.size) I:=by
  rintro I rfl
  refine IK (λn s'=>∃i L H',Inv (bU X scope N' (nw++cl) s3.heap.objs.size s3 (au j D (.lst [])) z) [] L H' s'/\tn i s'.heap/\(∀b∈z,H' b=ż)/\W i n L H') ?_ m0
   ⟨0,dG cap σ,au j D (.lst []),I4,st4,λb a=>(f3 b a).1,w0⟩
  rintro n s5 ⟨i,Q,U,I5,Vk,WK,w5⟩;rcases turn i n Q U w5 with⟨stop,qn⟩|⟨go,N,hN,step⟩
  ·refine ay (T.done (bU X scope N' (nw++cl) s3.heap.objs.size s3 (au j D (.lst [])) z) O O O Ro i [] s5 Q U _ I5 (XJ WK) Vk stop) λr s6 Rb=>?_;let⟨hr,I6⟩:=Rb;subst hr;let⟨m6,hn6,_⟩:=I6.loc;have un:Un (fJ X.stack) z (au j D (.lst [])) U s3.heap s6.heap:=I6.base;refine hRR D s3.heap.objs.size U s6 m6 (LZ be.lt) be.sz (λx c e=>?_) (λp hp=>?_) I6.free hn6 ?_ qn
   ·let⟨v,q⟩:=be.cell x c e;show LZ q.lt
   ·show LZ (LU (be.pin p hp).1)
   ·show be.call' I6.os un I6.hok I6.bare λb a=>⟨(f3 b a).2.2.2.1,(f3 b a).2.1,(f3 b a).2.2.2.2.1,(f3 b a).2.2.2.2.2⟩
  ·refine ay (T.item (bU X scope N' (nw++cl) s3.heap.objs.size s3 (au j D (.lst [])) z) O O O Ro i [] s5 Q U (λ_ _=>False) I5 (XJ WK) Vk go) λr s6 RL=>?_;let⟨u,hr,h6⟩:=RL;subst hr;refine ay h6 λ_ s7 So=>?_;let⟨x,H7,I7,r7,y7,XM,fr7⟩:=So;have I7':=I7.pinned (XJ fr7) (T.obj _ _ XM);refine ay (hg _ _ _ _ _ s7 Q H7 x u _ I7' r7 (step x H7 y7)) λ_ s8 VF=>?_;let⟨R,H8,I8,q8⟩:=VF;refine ay (ht _ _ _ _ _ s8 R H8 _ I8 q8) λb s9 XB=>?_;let⟨H9,I9,q9⟩:=XB
   have again:∀{M:St}{H9:Hp}{s9:À},Inv (bU X scope N' (nw++cl) s3.heap.objs.size s3 (au j D (.lst [])) z) ([]++lx z s7.heap) M H9 s9->N M H9->∃m,m<n/\∃i L H',Inv (bU X scope N' (nw++cl) s3.heap.objs.size s3 (au j D (.lst [])) z) [] L H' s9/\tn i s9.heap/\(∀b∈z,H' b=ż)/\W i m L H':=λ{M H9 s9} I9 n9=>by let⟨m',hm,w9⟩:=hN M H9 n9;refine⟨m',hm,i+1,M,H9,I9.unpinned,T.keep _ _ _ XM λb a o e=>(I9.pin (b,o) (L3 _ (L3 _ (mR a e)))).1,λb a=>?_,w9⟩;let⟨o,e,d⟩:=T.obj _ _ XM b a;show (I9.pin (b,o) (L3 _ (L3 _ (mR a e)))).2.1
   cases b with
   |false=>
    rw[LG 'b']at q9 ⊢;show again I9 q9
   |true=>
    rw[LI O]at q9 ⊢;refine ay (he _ _ _ _ _ s9 R H9 _ I9 q9) λyv s10 XC=>?_;let⟨y,XN,I10,r10,ys,XO,XQ,q10⟩:=XC;refine ay (se _ s10 R XN (.ref D) [y] (.ref D) [yv] (λ_ H'=>N R H') I10 O (.cons r10 .nil) ⟨D,ys,y,O,O,XO,XQ,q10⟩) λ_ s11 hq6=>?_;let⟨_,H11,I11,_,q11⟩:=hq6;show again I11 q11
 show codeAny_compStart_list (am _ O) (T.self _ 0 _ _ _ st4 (am _ O))
def yN(A:X.calm=ž)(S:CompScope X.N X.env.scope scope N' cap)(hi:PI X B iter K)
  (hg:∀(cl:Y (Str×Addr))(a:Y Addr)(C:Addr)(m:À)(j:Hp),PG (bU X scope N' cl C m j a) B g) (ht:∀(cl:Y (Str×Addr))(a:Y Addr)(C:Addr)(m:À)(j:Hp),jO (bU X scope N' cl C m j a) f G)
  (he:∀(cl:Y (Str×Addr))(a:Y Addr)(C:Addr)(m:À)(j:Hp),PE (bU X scope N' cl C m j a) l F) (hs:∀x,Ï iter X.env x=pure x:=by intro _;rfl) :
  PE X (.ListComp l [⟨B,iter,f,0⟩] scope pos) (gO K cap g G F):=by
 intro c s r H Q I h;let⟨cl,a_,z,E⟩:=rD (scope:=scope) (env:=X.env) λx hx hf=>I.ok.has x.1 (.inl (S.free x hx hf));rw[eval_ListComp];refine wpAny_comprehension_free (use:=ż) O hs a_ S.kind S.names (ay (hi c s r H _ I h) λv s1 be=>ay be λWJ s2 am=>?_);let⟨it,a,tn,J,H2,e,y,T,M,U,w⟩:=am;subst e;refine wV (RR:=λp C=>compPost (Ä X.prog X.w) X.A X.xe ż (EP X c r Q) p C) A S (λcl=>hg cl a) (λcl=>ht cl a) (λcl=>he cl a) y T M U z E (P:=Q) w ?_;intro D C H' s' m' hL hz L R hC hn u q;refine⟨m',hn,λh' N=>⟨.ref D,H',u.turned (t':=s'.toks) (λb o hb e=>(N.2 b hb).trans e) hC (Mo hL) (.inr hz) L R,O,q⟩⟩
def qJ{i:Nat}{y:Str}{m R:Pos}(Ro:X.calm=ž)(hN:X.N.Nodup)(hy:X.N[i]?=Z y)(N:eL X.env.scope y)(S:CompScope X.N X.env.scope scope N' cap)(hi:PI X B iter K)
  (hg:∀(cl:Y (Str×Addr))(j:Y Addr)(C:Addr)(u:À)(r:Hp),PG (bU X scope N' cl C u r j) B g) (ht:∀(cl:Y (Str×Addr))(j:Y Addr)(C:Addr)(u:À)(r:Hp),jO (bU X scope N' cl C u r j) f G)
  (he:∀(cl:Y (Str×Addr))(j:Y Addr)(C:Addr)(u:À)(r:Hp),PE (bU X scope N' cl C u r j) l F) (UN:Ð (.ListComp l [⟨B,iter,f,0⟩] scope pos) (Z (.Name y m)) R.line X.env=pure ž:=by rfl)
  (hs:∀x,Ï iter X.env x=pure x:=by intro _;rfl) (M:X.fn y=ž\/X.env.scope.names.lookup y=Z .local:=by nofun) :
  PS X (.Assign [.Name y m] (.ListComp l [⟨B,iter,f,0⟩] scope pos) R) (i6 (gO K cap g G F) (h9 i)):=by
 intro c s am H D I h;let⟨cl,XR,RU,S8⟩:=rD (scope:=scope) (env:=X.env) λx N M=>I.ok.has x.1 (.inl (S.free x N M));rw[exec_Assign_Name_used _ _ _ _ UN];refine LD (O9 (LD ?_));change wpAny _ X.A (do let _ ←comprehension (.ListComp l [⟨B,iter,f,0⟩] scope pos) scope X.env _ (newList []) β (eval iter X.env) (Z (assign (.Name y m) X.env))) _ _ s
 refine LD (MZ (wpAny_comprehension_free (use:=Z (assign (.Name y m) X.env)) (Q:=λ_ p=>SP X c D .next p) O hs XR S.kind S.names
  (ay (hi c s am H _ I h) λv s1 h1=>ay h1 λWJ s2 h2=>?_)) (λ_ p hq=>LP (LP hq)) λ_ _ e=>e)
 let⟨it,j,tn,J,H2,e,I2,T,Uq,f2,w⟩:=h2;subst e;refine wV (RR:=λE C=>compPost (Ä X.prog X.w) X.A X.xe (Z (assign (.Name y m) X.env)) (λ_ p=>SP X c D .next p) E C) Ro S (λcl=>hg cl j) (λcl=>ht cl j) (λcl=>he cl j) I2 T Uq f2 RU S8 (P:=λv H'=>D.nx (am.set i (Z v)) H') w ?_;intro a_ C H' p m' be hz U XS hC hn I' q;change wpAny _ X.A (assign (.Name y m) X.env (.ref a_)) _ _ p;refine wpAny_assign_Name (w6 (v:=.ref a_) I' hN hy N O (λTq A UO=>?_) M);let⟨a,sb,ha⟩:=UO
 have L:C≠a:=by
  rcases ha with z|z
  ·rw[z];show Mo be
  ·show Mo (U y a z)
 refine⟨m',hn.sameBut sb L,λh' Ur=>?_⟩;show⟨_,H',A.turned (t':=Tq.toks) (λb o hb e=>(Ur.2 b hb).trans e) hC (Mo be) (.inr hz) U XS,q⟩
end
open AutoSeq1 (wpAny_loadPart')
def Inv.turnedL{X:Cx}{a:Y (Addr×Obj)}{l:St}{H:Hp}{s:À}{h':Heap}{ch:Y Addr}{t':Nat}(I:Inv X a l H s)(k:∀b o,b∉ch->s.heap.get? b=Z o->h'.get? b=Z o)(g:∀b∈ch,FpOk X a H b) :
  Inv X a l H { s with heap:=h',toks:=t' }:=by
 have j:∀b u,H b=Z u->b∉ch:=λb u e z=>by rw[(g b z).1]at e;cases e
 refine I.step (g':=s.gens) (d':=s.drawn) (ch:=ch) (λb h=>⟨(g b h).2.2.2.1,(g b h).2.1,(g b h).2.2.2.2.1,(g b h).2.2.2.2.2⟩) (λb o _ _ f e _=>k b o f e) (λb o _ _ f e _=>⟨o.slots,k b o f e⟩) (λ_ _ _ _ n=>n)
  (λb o f e=>⟨o,k b o f e⟩) (λ_ _ e=>e) (λ_ _ _ e=>e) (λb ps e=>e) (λm x=>?_) (λb u e=>?_) I.bare
 ·let⟨o,w,p,y,r⟩:=x;show⟨o,w,p,k _ o (λz=>(g _ z).2.1 O) y,r⟩
 ·refine (I.hok b u e).stay (λc v f q=>k c v ?_ q) (λ_ q=>q) (λ_ _ q=>q) λ_ _ _ q=>q;rcases f with z|z
  ·rw[z];show j b u e
  ·show j c _ z
def SqI(b:Bool)(h:Heap)(c a:Addr)(i:Nat):Prop:=match b with|true=>h.IsListIter c a i|false=>h.IsTupleIter c a i
def SqO(b:Bool)(h:Heap)(a:Addr)(its:Array Value):Prop:=match b with|true=>h.IsList a its|false=>h.IsTuple a its
def SqB(K:Â)(b:Bool)(H:Hp)(a:Addr)(xs:Y V):Prop:=match b with|true=>SqL K H a xs|false=>SqT K H a xs
def dW(b:Bool)(a:Addr):Obj:=match b with
 |true=>{ cls:=.type "list_iterator",data:=.fields #[.ref a,.int 0 0] }
 |false=>{ cls:=.type "tuple_iterator",data:=.fields #[.ref a,.int 0 0] }
def SqI.at{b:Bool}{h h':Heap}{c a:Addr}{i:Nat}(x:SqI b h c a i)(k:∀o,h.get? c=Z o->h'.get? c=Z o):SqI b h' c a i:=by cases b<;>(let⟨o,e,r⟩:=x;show⟨o,k o e,r⟩)
def SqO.at{b:Bool}{h h':Heap}{a:Addr}{its:Array Value}(x:SqO b h a its)(k:∀o,h.get? a=Z o->h'.get? a=Z o):SqO b h' a its:=by cases b<;>(let⟨o,e,r⟩:=x;show⟨o,k o e,r⟩)
def SqI.obj{b:Bool}{h:Heap}{c a:Addr}{i:Nat}(x:SqI b h c a i):∃o,h.get? c=Z o/\∀v,o.data≠.cell v:=by cases b<;>(let⟨o,e,_,d⟩:=x;show⟨o,e,λv z=>by rw[d]at z;cases z⟩)
def SqI.lt{b:Bool}{h:Heap}{c a:Addr}{i:Nat}(x:SqI b h c a i):c<h.objs.size:=by let⟨o,e,_⟩:=x.obj;show LU e
def SqO.lt{b:Bool}{h:Heap}{a:Addr}{its:Array Value}(x:SqO b h a its):a<h.objs.size:=by cases b<;>(let⟨o,e,_⟩:=x;show LU e)
def Inv.sqb{X:Cx}{c:Y (Addr×Obj)}{g:St}{H:Hp}{s:À}{b:Bool}{a:Addr}{xs:Y V}(I:Inv X c g H s)(h:SqB X.K b H a xs):∃its:Y Value,Vals xs its/\SqO b s.heap a its.toArray/\xs.length<=sizeLine:=by
 cases b with
 |true=>let⟨its,f,p,e⟩:=I.list h;show⟨its,f,p.isList,e⟩
 |false=>let⟨its,f,p,e⟩:=I.tuple h;show⟨its,f,p,e⟩
def Inv.sqb_inj{X:Cx}{c:Y (Addr×Obj)}{e:St}{H:Hp}{s:À}{b:Bool}{a:Addr}{xs ys:Y V}(I:Inv X c e H s)(h:SqB X.K b H a xs)(h':SqB X.K b H a ys):xs=ys:=by
 cases b with
 |true=>show I.list_inj h h'
 |false=>show I.tuple_inj h h'
def SqB.same{K:Â}{b:Bool}{H H':Hp}{a:Addr}{xs:Y V}(e:Same H H')(h:SqB K b H a xs):SqB K b H' a xs:=by
 cases b with
 |true=>show e.seq h
 |false=>
  rcases h with (h|⟨o,h⟩)|h
  ·show .inl (.inl (e _ _ h))
  ·show .inl (.inr ⟨o,e _ _ h⟩)
  ·show .inr h
section
variable{prog:Æ}{w:Ç}{A:É}{E:Value->À->Prop}{s:À}
def oJ{b:Bool}{a:Addr}{its:Array Value}{Q:Value->À->Prop}(h:SqO b s.heap a its)(q:Q (.ref s.heap.objs.size) { s with heap:=s.heap.push (dW b a) }):wpAny (Ä prog w) A (ņ (.ref a)) Q E s:=by
 cases b with
 |true=>show N6 h q
 |false=>show P9 h q
def oo{b:Bool}{h:Heap}{c a:Addr}(e:h.get? c=Z (dW b a)):SqI b h c a 0:=by cases b<;>show⟨_,e,O,O⟩
def qv{b:Bool}{e a:Addr}{i:Nat}{its:Array Value}{x:Value}{Q:Value->À->Prop}(c:SqI b s.heap e a i)(hl:SqO b s.heap a its)(h:its[i]?=Z x)
  (g:∀h',SqI b h' e a (i+1)->Heap.SameBut e s.heap h'->Q x { s with heap:=h' }):wpAny (Ä prog w) A (Builtin.SmallTypes.nextOf (.ref e)) Q E s:=by
 cases b with
 |true=>show wpAny_nextOf_list_item c hl h g
 |false=>
  have c:s.heap.IsTupleIter e a i:=c;let⟨o,f,m,hd⟩:=id c;let⟨ol,j,_,p,l⟩:=hl;unfold Builtin.SmallTypes.nextOf;refine LD (Ny (name:=Str.ofString "__next__") c.typeIs N5 (NH N5 c.typeIs Qa ?_ (PZ _)));change wpAny _ _ (Į (.ref e) 0 >>= _) _ _ s;refine LD (M9 f hd (x:=.ref a) O ?_);change wpAny _ _ (if (Value.ref a==Value.none)=ž then _ else _) _ _ s;rw[LG (show ¬ ((Value.ref a==Value.none)=ž)from Ml)];change wpAny _ _ (Į (.ref e) 1 >>= _) _ _ s;refine LD (M9 f hd (x:=.int i 0) O ?_);change wpAny _ _ (ĉ (.ref a) >>= _) _ _ s;refine LD (M7 j l ?_);simp only[MG,h];refine LD (wpAny_setField f hd (by simp) (LP ⟨x,O,LP (g _ ?_ (NB ..))⟩));show⟨_,Heap.get?_update_self _ f (Obj.isFreed_of_fields (Obj.data_mapFields hd _)),(Obj.cls_mapFields ..).trans m,by rw[Obj.data_mapFields hd];simp[ß]⟩
def uW{b:Bool}{f a:Addr}{i:Nat}{its:Array Value}{Q:Value->À->Prop}(hh:A.handled=ż)(c:SqI b s.heap f a i)(hl:SqO b s.heap a its)(j:its[i]?=ż)
  (h:∀h' e,Heap.ExtBut f s.heap h'->(∃o,h'.get? e=Z o/\o.cls=.type "StopIteration")->E (.ref e) { s with heap:=h' }):wpAny (Ä prog w) A (Builtin.SmallTypes.nextOf (.ref f)) Q E s:=by
 cases b with
 |true=>show wpAny_nextOf_list_end hh c hl j h
 |false=>
  have c:s.heap.IsTupleIter f a i:=c;let⟨o,g,r,hd⟩:=id c;let⟨ol,l,_,u,p⟩:=hl;unfold Builtin.SmallTypes.nextOf;refine LD (Ny (name:=Str.ofString "__next__") c.typeIs N5 (NH N5 c.typeIs Qa ?_ (PZ _)));change wpAny _ _ (Į (.ref f) 0 >>= _) _ _ s;refine LD (M9 g hd (x:=.ref a) O ?_);change wpAny _ _ (if (Value.ref a==Value.none)=ž then _ else _) _ _ s;rw[LG (show ¬ ((Value.ref a==Value.none)=ž)from Ml)];change wpAny _ _ (Į (.ref f) 1 >>= _) _ _ s;refine LD (M9 g hd (x:=.int i 0) O ?_);change wpAny _ _ (ĉ (.ref a) >>= _) _ _ s;refine LD (M7 l p ?_);simp only[MG,j];refine LD (OW (LD (wpAny_setField g hd (by simp) ?_)));change wpAny _ _ (newExc (.type "StopIteration") [] >>= _) _ _ _;refine LD ?_;simp only[newExc,newTuple];refine LD (M5 ?_ (by size_fits));refine LD (m:=firstArgMember _ _) (QK (a:=Value.none) (by first|rfl|(simp only[firstArgMember];rfl)) ?_);refine M5 ?_ (by size_fits);simp only[raiseNew];refine LD (wpAny_handled ?_)
  first|rw[show A.in1.handled=ż from hh]|rw[hh]
  refine LD (LP (wpAny_throw ?_));show h _ _ (((NB ..).extBut.push _).push _) ⟨_,LS _ O,O⟩
end
end L2
namespace L2
open PySem PySem.Spec PyProof.Rows
open AutoSeq1 (wpAny_loadPart')
structure ZAp(z TI TO i1 i2:Addr):Prop where
 a1:TI≠z
 a2:TO≠z
 a3:i1≠z
 a4:i2≠z
 a5:TI≠TO
 a6:TI≠i1
 a7:TI≠i2
 a8:TO≠i1
 a9:TO≠i2
 a0:i1≠i2
def SqI.but{b:Bool}{h h':Heap}{f a c:Addr}{i:Nat}(x:SqI b h f a i)(s:Heap.SameBut c h h')(n:f≠c):SqI b h' f a i:=x.at λo e=>(s.2 f n).trans e
def SqO.but{b:Bool}{h h':Heap}{a c:Addr}{its:Array Value}(x:SqO b h a its)(s:Heap.SameBut c h h')(n:a≠c):SqO b h' a its:=x.at λo e=>(s.2 a n).trans e
def SqO.ne{b:Bool}{h:Heap}{a c:Addr}{its:Array Value}{o:Obj}(x:SqO b h a its)(e:h.get? c=Z o)(j:o.cls≠.type "list")(l:o.cls≠.type "tuple"):a≠c:=λz=>by
 subst z;cases b<;>(let⟨o',g,f,_⟩:=x;rw[e]at g;cases g)
 ·show l f
 ·show j f
def SqO.ne_it{b f:Bool}{h:Heap}{a g l:Addr}{its:Array Value}{i:Nat}(x:SqO b h a its)(y:SqI f h g l i):a≠g:=by cases f<;>(let⟨o,e,c,_⟩:=y;show x.ne e (by rw[c];simp) (by rw[c];simp))
section
variable{prog:Æ}{w:Ç}{A:É}{E:Value->À->Prop}{s:À}
def pL{c z t a b:Addr}(h:c∉[z,t,a,b]):c≠z/\c≠t/\c≠a/\c≠b:=by simpa using h
def md(z t u a b:Addr):z∈[z,t,u,a,b]/\t∈[z,t,u,a,b]/\u∈[z,t,u,a,b]/\a∈[z,t,u,a,b]/\b∈[z,t,u,a,b]:=by simp
def uT{z t u a b x:Addr}(h:x∈[z,u,a,b]):x∈[z,t,u,a,b]:=(List.Sublist.cons₂ z (.cons t (.refl _))).subset h
def A3{b1 H:Bool}{z TI TO g h p l:Addr}{K L:Nat}{xs ys:Array Value}{x y a b:Value}{Q:Value->À->Prop}(D:ZAp z TI TO g h)
  (j:î s.heap z TI TO .none) (Ud:Õ s.heap TI (.ref g) (.ref h)) (UP:Õ s.heap TO a b) (n1:p≠TO) (n2:l≠TO)
  (h1:SqI b1 s.heap g p K) (h2:SqI H s.heap h l L) (am:SqO b1 s.heap p xs) (a_:SqO H s.heap l ys) (hx:xs[K]?=Z x) (hy:ys[L]?=Z y)
  (hQ:∀h',î h' z TI TO (ß s.heap.objs.size)->Õ h' TO x y->SqI b1 h' g p (K+1)->SqI H h' h l (L+1)->Õ h' s.heap.objs.size x y->h'.objs.size=s.heap.objs.size+1->
   (∀c o,c∉[z,TO,g,h]->s.heap.get? c=Z o->h'.get? c=Z o)->Q (.ref s.heap.objs.size) { s with heap:=h' }) :
  wpAny (Ä prog w) A (Builtin.«zip.__next__» ⟨[.ref z],[]⟩) (λfin s'=>∃v,fin=.done (.ret v)/\Q v s') E s:=by
 have P:p≠z:=am.ne j (by simp) (by simp);have R:l≠z:=a_.ne j (by simp) (by simp);have C:l≠g:=a_.ne_it h1;change wpAny _ _ (Į (.ref z) 2 >>= _) _ _ _;refine LD (M9 j O (x:=.bool β) O ?_);change wpAny _ _ (Į (.ref z) 3 >>= _) _ _ _;refine LD (M9 j O (x:=.ref TI) O (LD (M7 Ud O ?_)));change wpAny _ _ (Builtin.SmallTypes.ownedTupleIsFree (.ref z) >>= _) _ _ _;refine LD ?_;unfold Builtin.SmallTypes.ownedTupleIsFree;refine LD (M9 j O (x:=.none) O (LP ?_));simp only[NT];refine LD (OW (LD (M9 j O (x:=.ref TO) O (LD (NZ j (by simp) λg1 X m=>?_)))));replace X:î g1 z TI TO .ellipsis:=X;refine LD ?_;simp only[List.zipIdx_cons,List.zipIdx_nil,Px,QP];refine LD (LD (Qf ?_));change wpAny _ _ (Builtin.SmallTypes.nextOf (.ref g) >>= _) _ _ _;refine LD (qv (h1.but m D.a3) (am.but m P) hx λg2 p2 r=>LP ?_);have t2:Õ g2 TO a b:=r.extBut _ _ D.a8 (m.extBut _ _ D.a2 UP);refine LD (M7 t2 O (LD (Py t2 λg3 U u=>LD (OE (LP ?_)))));replace U:Õ g3 TO x b:=U;refine LD (LD (Qf ?_));change wpAny _ _ (Builtin.SmallTypes.nextOf (.ref h) >>= _) _ _ _;refine LD (qv (((h2.but m D.a4).but r D.a0.symm).but u D.a9.symm) (((a_.but m R).but r C).but u n2) hy λg4 p4 F=>LP ?_);have t4:Õ g4 TO x b:=F.extBut _ _ D.a9 U;refine LD (M7 t4 O (LD (Py t4 λf M G=>LD (OE (LP (LP ?_))))));replace M:Õ f TO x y:=M;refine LD (M7 M O (LD (wpAny_newTuple ?_)))
 have sz:f.objs.size=s.heap.objs.size:=by rw[G.1,F.1,u.1,r.1,m.1]
 have z5:î f z TI TO .ellipsis:=G.extBut _ _ D.a2.symm (F.extBut _ _ D.a4.symm (u.extBut _ _ D.a2.symm (r.extBut _ _ D.a3.symm X)))
 have k5:∀c o,c∉[z,TO,g,h]->s.heap.get? c=Z o->f.get? c=Z o:=λc o J e=>by let⟨I,c2,c3,c4⟩:=pL J;show G.extBut _ _ c2 (F.extBut _ _ c4 (u.extBut _ _ c2 (r.extBut _ _ c3 (m.extBut _ _ I e))))
 have q1:SqI b1 f g p (K+1):=((p2.but u D.a8.symm).but F D.a0).but G D.a8.symm;have q2:SqI H f h l (L+1):=p4.but G D.a9.symm;change wpAny _ _ (Builtin.SmallTypes.ownedTupleHandOut (.ref z) (.ref f.objs.size) >>= _) _ _ _;refine LD ?_;unfold Builtin.SmallTypes.ownedTupleHandOut;have z6:î (f.push { cls:=.type "tuple",data:=.seq #[x,y] }) z TI TO .ellipsis:=LK _ z5;refine LD (NZ z6 (by simp) λg7 be S=>?_);replace be:î g7 z TI TO (ß f.objs.size):=be;refine NZ be (by simp) λB N T=>?_;replace N:î B z TI TO (ß f.objs.size):=N;have up:∀c o,c≠z->f.get? c=Z o->B.get? c=Z o:=λc o I e=>T.extBut _ _ I (S.extBut _ _ I (LK _ e));have zl:f.objs.size≠z:=NC (LU z5);have t8:Õ B f.objs.size x y:=T.extBut _ _ zl (S.extBut _ _ zl (LS _ O))
 have e8:B.objs.size=f.objs.size+1:=by rw[T.1,S.1,Mz]
 rw[sz]at N t8 e8;refine LP ⟨_,O,?_⟩;change Q (.ref f.objs.size) _;rw[sz];show hQ B N (up _ _ D.a2 M) (q1.at λo e=>up _ o D.a3 e) (q2.at λo e=>up _ o D.a4 e) t8 e8 λc o J e=>up c o (pL J).1 (k5 c o J e)
def CI{b1 X:Bool}{z TI TO p v F B:Addr}{R S:Nat}{xs ys:Array Value}{a b:Value}{Q:Fin->À->Prop}(hh:A.handled=ż)(D:ZAp z TI TO p v)
  (l:î s.heap z TI TO .none) (Ud:Õ s.heap TI (.ref p) (.ref v)) (UP:Õ s.heap TO a b) (n1:F≠TO) (n2:B≠TO)
  (M:SqI b1 s.heap p F R) (h2:SqI X s.heap v B S) (I:SqO b1 s.heap F xs) (H:SqO X s.heap B ys) (Ss:xs[R]?=ż\/ys[S]?=ż)
  (hE:∀h' e,(∀c o,c∉[z,TO,p,v]->s.heap.get? c=Z o->h'.get? c=Z o)->(∃o,h'.get? e=Z o/\o.cls=.type "StopIteration")->E (.ref e) { s with heap:=h' }) :
  wpAny (Ä prog w) A (Builtin.«zip.__next__» ⟨[.ref z],[]⟩) Q E s:=by
 have y:F≠z:=I.ne l (by simp) (by simp);have T:B≠z:=H.ne l (by simp) (by simp);have C:B≠p:=H.ne_it M;change wpAny _ _ (Į (.ref z) 2 >>= _) _ _ _;refine LD (M9 l O (x:=.bool β) O ?_);change wpAny _ _ (Į (.ref z) 3 >>= _) _ _ _;refine LD (M9 l O (x:=.ref TI) O (LD (M7 Ud O ?_)));change wpAny _ _ (Builtin.SmallTypes.ownedTupleIsFree (.ref z) >>= _) _ _ _;refine LD ?_;unfold Builtin.SmallTypes.ownedTupleIsFree;refine LD (M9 l O (x:=.none) O (LP ?_));simp only[NT];refine LD (OW (LD (M9 l O (x:=.ref TO) O (LD (NZ l (by simp) λg1 G f=>?_)))));replace G:î g1 z TI TO .ellipsis:=G;refine LD ?_;simp only[List.zipIdx_cons,List.zipIdx_nil,Px,QP];refine LD (LD (Qf ?_));change wpAny _ _ (Builtin.SmallTypes.nextOf (.ref p) >>= _) _ _ _
 cases P:xs[R]? with
 |none=>
  refine LD (uW hh (M.but f D.a3) (I.but f y) P λL e g a_=>?_);let⟨U,j,r⟩:=a_;have z2:î L z TI TO .ellipsis:=g _ _ D.a3.symm G
  have K:e≠z:=λq=>by subst q;rw[z2]at j;cases j;simp at r
  refine NZ z2 (by simp) λg3 _ m=>hE g3 e (λc o N q=>?_) ⟨U,m.extBut _ _ K j,r⟩;let⟨u,be,J,am⟩:=pL N;show m.extBut _ _ u (g _ _ J (f.extBut _ _ u q))
 |some x=>
  have hy:ys[S]?=ż:=by
   rcases Ss with h|h
   ·rw[P]at h;cases h
   ·show h
  refine LD (qv (M.but f D.a3) (I.but f y) P λL p2 g=>LP ?_);have t2:Õ L TO a b:=g.extBut _ _ D.a8 (f.extBut _ _ D.a2 UP);refine LD (M7 t2 O (LD (Py t2 λg3 t3 m=>LD (OE (LP ?_)))));refine LD (LD (Qf ?_));change wpAny _ _ (Builtin.SmallTypes.nextOf (.ref v) >>= _) _ _ _;refine LD (uW hh (((h2.but f D.a4).but g D.a0.symm).but m D.a9.symm) (((H.but f T).but g C).but m n2) hy λg4 e s4 a_=>?_);let⟨U,j,r⟩:=a_;have z4:î g4 z TI TO .ellipsis:=s4 _ _ D.a4.symm (m.extBut _ _ D.a2.symm (g.extBut _ _ D.a3.symm G))
  have K:e≠z:=λq=>by subst q;rw[z4]at j;cases j;simp at r
  refine NZ z4 (by simp) λg5 _ s5=>hE g5 e (λc o N q=>?_) ⟨U,s5.extBut _ _ K j,r⟩;let⟨u,be,J,am⟩:=pL N;show s5.extBut _ _ u (s4 _ _ am (m.extBut _ _ be (g.extBut _ _ J (f.extBut _ _ u q))))
def AU(b1 f:Bool)(a c:Addr)(xs ys:Array Value) :
  Ŭ (Builtin.«zip.__new__» ⟨[.type "zip",.ref a,.ref c],[]⟩) (λ_ R s=>SqO b1 s.heap a xs/\SqO f s.heap c ys /\
   R (.ok (.ret (.ref (s.heap.objs.size+4)))) { s with heap:=((((s.heap.push (dW b1 a)).push (dW f c)).push { cls:=.type "tuple",data:=.seq #[.ref s.heap.objs.size,.ref (s.heap.objs.size+1)] }).push { cls:=.type "tuple",data:=.seq #[.none,.none] }).push { cls:=.type "zip",data:=.fields #[.none,.bool β,.bool β,.ref (s.heap.objs.size+2),.ref (s.heap.objs.size+3)] } }):=
 .of_wp λprog w A R s h=>by
  let⟨hp,g,d,m,os⟩:=s;let⟨r,p,h⟩:=h;have v:=sub_zip;have j:SqO b1 (ş ⟨hp,g,d,m,os⟩) a xs:=r;have l:SqO f (ş ⟨hp.push (dW b1 a),g,d,m,os⟩) c ys:=SqO.at p λo e=>LK _ e
  wp_walk using oJ j,oJ l
  have u:(hp.push (dW b1 a)).objs.size=hp.objs.size+1:=Mz ..
  have x:((hp.push (dW b1 a)).push (dW f c)).objs.size=hp.objs.size+2:=by rw[Mz,u]
  refine⟨_,O,?_⟩;simp only[Mz];show h
def By{b1 e:Bool}{a f:Addr}{xs ys:Array Value}{Q:Value->À->Prop}(J:SqO b1 s.heap a xs)(I:SqO e s.heap f ys)
  (h:∀h',î h' (s.heap.objs.size+4) (s.heap.objs.size+2) (s.heap.objs.size+3) .none->Õ h' (s.heap.objs.size+2) (.ref s.heap.objs.size) (.ref (s.heap.objs.size+1))->Õ h' (s.heap.objs.size+3) .none .none->
   SqI b1 h' s.heap.objs.size a 0->SqI e h' (s.heap.objs.size+1) f 0->(∀c o,s.heap.get? c=Z o->h'.get? c=Z o)->Q (.ref (s.heap.objs.size+4)) { s with heap:=h' }) :
  wpAny (Ä prog w) A (call (.type "zip") [.ref a,.ref f]) Q E s:=by
 refine callType_new F.called_zip 'b' (F.typeCall_zip_2 _ _) (F.newCall_zip_2 _ _) (λobj=>F.args_object_init_3 obj _ _) F.entry_zip_new (AU b1 e a f xs ys) ⟨J,I,?_⟩
 have U:(dW b1 a).isFreed=β:=by cases b1<;>rfl
 have P:(dW e f).isFreed=β:=by cases e<;>rfl
 have G:(s.heap.push (dW b1 a)).objs.size=s.heap.objs.size+1:=Mz ..
 have z:((s.heap.push (dW b1 a)).push (dW e f)).objs.size=s.heap.objs.size+2:=by rw[Mz,G]
 generalize u:(s.heap.push (dW b1 a)).push (dW e f)=g at z ⊢
 have K:g.get? s.heap.objs.size=Z (dW b1 a):=by rw[←u];show LK _ (LS _ U)
 have L:g.get? (s.heap.objs.size+1)=Z (dW e f):=by rw[←u,←G];show LS _ P
 have R:∀c o,s.heap.get? c=Z o->g.get? c=Z o:=λc o q=>by rw[←u];show LK _ (LK _ q)
 generalize v:g.push { cls:=.type "tuple",data:=.seq #[.ref s.heap.objs.size,.ref (s.heap.objs.size+1)] }=j
 have H:j.objs.size=s.heap.objs.size+3:=by rw[←v,Mz,z]
 have M:Õ j (s.heap.objs.size+2) (.ref s.heap.objs.size) (.ref (s.heap.objs.size+1)):=by rw[←v,←z];show LS _ O
 have y:∀c o,g.get? c=Z o->j.get? c=Z o:=λc o q=>by rw[←v];show LK _ q
 generalize x:j.push { cls:=.type "tuple",data:=.seq #[.none,.none] }=l
 have S:l.objs.size=s.heap.objs.size+4:=by rw[←x,Mz,H]
 have N:Õ l (s.heap.objs.size+3) .none .none:=by rw[←x,←H];show LS _ O
 have r:∀c o,j.get? c=Z o->l.get? c=Z o:=λc o q=>by rw[←x];show LK _ q
 generalize m:l.push { cls:=.type "zip",data:=.fields #[.none,.bool β,.bool β,.ref (s.heap.objs.size+2),.ref (s.heap.objs.size+3)] }=C
 have B:î C (s.heap.objs.size+4) (s.heap.objs.size+2) (s.heap.objs.size+3) .none:=by rw[←m,←S];show LS _ O
 have p:∀c o,l.get? c=Z o->C.get? c=Z o:=λc o q=>by rw[←m];show LK _ q
 change _/\_;show⟨⟨_,B,O⟩,h _ B (p _ _ (r _ _ M)) (p _ _ N) (oo (p _ _ (r _ _ (y _ _ K)))) (oo (p _ _ (r _ _ (y _ _ L)))) λc o q=>p _ _ (r _ _ (y _ _ (R _ _ q)))⟩
def IM{b1 j:Bool}{z TI TO e f g h:Addr}{l m:Nat}{xs ys:Array Value}{x y a b:Value}{Q:Ž Value->À->Prop}(D:ZAp z TI TO e f)
  (r:î s.heap z TI TO .none) (C:Õ s.heap TI (.ref e) (.ref f)) (B:Õ s.heap TO a b) (T:g≠TO) (U:h≠TO)
  (N:SqI b1 s.heap e g l) (am:SqI j s.heap f h m) (v:SqO b1 s.heap g xs) (u:SqO j s.heap h ys) (R:xs[l]?=Z x) (S:ys[m]?=Z y)
  (P:∀h',î h' z TI TO (ß s.heap.objs.size)->Õ h' TO x y->SqI b1 h' e g (l+1)->SqI j h' f h (m+1)->Õ h' s.heap.objs.size x y->h'.objs.size=s.heap.objs.size+1->
   (∀c o,c∉[z,TO,e,f]->s.heap.get? c=Z o->h'.get? c=Z o)->Q (Z (.ref s.heap.objs.size)) { s with heap:=h' }):wpAny (Ä prog w) A (à (.ref z)) Q E s:=by
 have p:s.TypeIs (.ref z) "zip":=⟨_,r,O⟩;unfold à
 show LD (wpAny_attempt (Ny (name:=Str.ofString "__next__") p Pz (NH Pz p F.entry_zip_next
  (A3 D r C B T U N am v u R S λh' G H I J K L M=>LP (P h' G H I J K L M)) (F.args_zip_next_1 _))))
def AF{b1 l:Bool}{z TI TO f g h j:Addr}{r u:Nat}{xs ys:Array Value}{a b:Value}{Q:Ž Value->À->Prop}(hh:A.handled=ż)(D:ZAp z TI TO f g)
  (p:î s.heap z TI TO .none) (C:Õ s.heap TI (.ref f) (.ref g)) (B:Õ s.heap TO a b) (N:h≠TO) (U:j≠TO)
  (G:SqI b1 s.heap f h r) (H:SqI l s.heap g j u) (x:SqO b1 s.heap h xs) (v:SqO l s.heap j ys) (y:xs[r]?=ż\/ys[u]?=ż)
  (I:∀h',(∀c o,c∉[z,TO,f,g]->s.heap.get? c=Z o->h'.get? c=Z o)->Q ż { s with heap:=h' }):wpAny (Ä prog w) A (à (.ref z)) Q E s:=by
 have m:s.TypeIs (.ref z) "zip":=⟨_,p,O⟩;unfold à;refine LD (wpAny_attempt (Ny (name:=Str.ofString "__next__") m Pz (NH Pz m F.entry_zip_next (CI hh D p C B N U G H x v y λh' e L K=>?_) (F.args_zip_next_1 _))));let⟨o,M,J⟩:=K;show LD (wpAny_isInstance (T:="StopIteration") (b:=ž) ⟨o,M,J⟩ isSubtype_stop (LP (I _ L)))
end
def Inv.sqb_ne{X:Cx}{g:Y (Addr×Obj)}{m:St}{H:Hp}{s:À}{b:Bool}{a c:Addr}{xs:Y V}(I:Inv X g m H s)(h:SqB X.K b H a xs)(f:FpOk X g H c):a≠c:=λz=>by
 subst z
 have l:∀o,X.K.lookup a=Z o->False:=λo e=>by
  have j:=I.mod.kin a o e;rcases f.2.2.2.1 with q|q
  ·show I.ok.noex a o j q
  ·show absurd (Me (LU j) (L6 I.ok.bsz q)) (MY _)
 cases b with
 |true=>
  rcases h with (h|⟨o,h⟩)|⟨o,_,_,h,_⟩
  ·rw[f.1]at h;cases h
  ·rw[f.1]at h;cases h
  ·show l o h
 |false=>
  rcases h with (h|⟨o,h⟩)|⟨o,_,_,h,_⟩
  ·rw[f.1]at h;cases h
  ·rw[f.1]at h;cases h
  ·show l o h
noncomputable def qP(K:Â)(b1:Bool)(a1:Addr)(a:Bool)(a2:Addr):It:=
 ⟨λi H=> ∃xs ys x y, SqB K b1 H a1 xs /\ SqB K a H a2 ys /\ xs[i]? = Z x /\ ys[i]? = Z y,
  λi H v H'=> ∃t x y, H t = ż /\ v = .ref t /\ H' = au H t (.tup [x, y]) /\ (∀xs, SqB K b1 H a1 xs-> xs[i]? = Z x) /\ ∀ys, SqB K a H a2 ys-> ys[i]? = Z y,
  λi H=> ∃xs ys, SqB K b1 H a1 xs /\ SqB K a H a2 ys /\ (xs.length <= i \/ ys.length <= i)⟩
def E9{P:Æ}{w:Ç}{K:Â}{es:Y Å}{k:Nat}{pos:Pos}(b1 b2:Bool)(a1 a2 z TI TO g j:Addr)(D:ZAp z TI TO g j) :
  Turn P w K (.Tuple es k pos) (qP K b1 a1 b2 a2) [z,TI,TO,g,j] z (λi h=>î h z TI TO .none/\Õ h TI (.ref g) (.ref j)/\(∃a b,Õ h TO a b)/\SqI b1 h g a1 i/\SqI b2 h j a2 i) where
 mem:=LQ
 obj:=λi h st c f=>by
  let⟨p,m,⟨a,b,r⟩,A,B⟩:=st;simp only[L0,NI,P0]at f;rcases f with rfl|rfl|rfl|rfl|rfl
  ·show⟨_,p,λv q=>by have F:Data.fields _=Data.cell v:=q;cases F⟩
  ·show⟨_,m,λv q=>by have F:Data.seq _ _=Data.cell v:=q;cases F⟩
  ·show⟨_,r,λv q=>by have F:Data.seq _ _=Data.cell v:=q;cases F⟩
  ·show A.obj
  ·show B.obj
 keep:=λi h h' st k=>by
  let⟨p,m,⟨a,b,r⟩,A,B⟩:=st;have M:=md z TI TO g j;show⟨k z M.1 _ p,k TI M.2.1 _ m,⟨a,b,k TO M.2.2.1 _ r⟩,A.at λo q=>k g M.2.2.2.1 o q,B.at λo q=>k j M.2.2.2.2 o q⟩
 item:=by
  intro X T am S f i l s σ H E I C st be;subst T am S;let⟨xs,ys,x,y,G,J,hx,hy⟩:=be;let⟨p,m,⟨a,b,r⟩,A,B⟩:=st;let⟨UR,Q,p1,_⟩:=I.sqb G;let⟨RP,R,p2,_⟩:=I.sqb J;let⟨u,hu,ru⟩:=Q.get hx;let⟨v,hv,rv⟩:=R.get hy;refine IM D p m r (I.sqb_ne G (C TO (md z TI TO g j).2.2.1)) (I.sqb_ne J (C TO (md z TI TO g j).2.2.1)) A B p1 p2 (x:=u) (y:=v) (by simpa using hu) (by simpa using hv) λh' z1 z2 z3 z4 z5 z6 N=>?_;refine⟨.ref s.heap.objs.size,O,wpAny_letOwnedTupleGo_zip z1 λg2 zz L=>?_⟩;have zn:H s.heap.objs.size=ż:=I.fresh
  have I1:Inv X l σ (au H s.heap.objs.size (.tup [x,y])) { s with heap:=s.heap.push { cls:=.type "tuple",data:=.seq #[u,v] },toks:=s.toks }:=
   I.laid (λc o q=>LK _ q) (LM _) ⟨by change 2<=sizeLine;decide,[u,v],.cons ru (.cons rv .nil),_,LS _ O,⟨O,O⟩,0,O⟩
  have lts:∀c∈[z,TI,TO,g,j],c<s.heap.objs.size:=λc f=>by
   simp only[L0,NI,P0]at f;rcases f with rfl|rfl|rfl|rfl|rfl
   ·show LU p
   ·show LU m
   ·show LU r
   ·show A.lt
   ·show B.lt
  have f1:∀c∈[z,TI,TO,g,j],FpOk X l (au H s.heap.objs.size (.tup [x,y])) c:=λc f=>⟨by rw[aE (LZ (lts c f))];show (C c f).1,(C c f).2⟩;have I2:=I1.turnedL (h':=g2) (ch:=[z,TI,TO,g,j]) (t':=s.toks) (λc o f q=>?_) f1
  ·refine⟨.ref s.heap.objs.size,_,I2,O,⟨s.heap.objs.size,x,y,zn,O,O,λVo a_=>by rwa[I.sqb_inj a_ G],λys' a_=>by rwa[I.sqb_inj a_ J]⟩,
    ⟨zz,L.extBut _ _ D.a1 (N TI _ (by simp[D.a1,D.a5,D.a6,D.a7]) m),⟨_,_,L.extBut _ _ D.a2 z2⟩,z3.but L D.a3,z4.but L D.a4⟩,λc f=>(f1 c f).1⟩
  ·have U:c≠z:=λe=>f (e▸LQ);refine (L.2 c U).trans ?_;rcases Heap.get?_push_cases q with⟨e,e'⟩|F
   ·subst e;subst e';show z5
   ·show N c o (λe=>f (uT e)) F
 done:=by
  intro X T am S f i l s σ H E I C st be;subst T am S;let⟨xs,ys,G,J,Ss⟩:=be;let⟨p,m,⟨a,b,r⟩,A,B⟩:=st;let⟨UR,Q,p1,_⟩:=I.sqb G;let⟨RP,R,p2,_⟩:=I.sqb J;have l1:=Q.length;have l2:=R.length
  have he:UR.toArray[i]?=ż\/RP.toArray[i]?=ż:=by
   rcases Ss with q|q
   ·show .inl (by simp;omega)
   ·show .inr (by simp;omega)
  refine AF (I.ok.hd f) D p m r (I.sqb_ne G (C TO (md z TI TO g j).2.2.1)) (I.sqb_ne J (C TO (md z TI TO g j).2.2.1)) A B p1 p2 he λh' N=>⟨O,?_⟩;refine I.turnedL (ch:=[z,TI,TO,g,j]) (t':=s.toks) (λc o f q=>N c o (λe=>f (uT e)) q) C
 self:=λ_ _ _ _ _ st h=>Ů st.1 h
def Km(n:Nat):ZAp (n+4) (n+2) (n+3) n (n+1):=
 ⟨(by omega:n+2≠n+4),(by omega:n+3≠n+4),(by omega:n≠n+4),(by omega:n+1≠n+4),(by omega:n+2≠n+3),(by omega:n+2≠n),(by omega:n+2≠n+1),(by omega:n+3≠n),(by omega:n+3≠n+1),(by omega:n≠n+1)⟩
end L2
namespace L2
open PySem PySem.Spec PyProof.Rows
section
variable{X:Cx}
def Az:bG X (Î .Mult) (rI Ą λi j=>.int (i*j)):=kW λ_ _ _ _ _ _ _ a q=>mul_int q a
def CDivB(i j:Int):Prop:=0<j/\j.natAbs.log2<9000
def C6:bG X (Î .FloorDiv) (rI CDivB λi j=>.int (i/j)):=kW λi j _ _ _ _ _ a q=>by have c:(0:Int)<j:=a.1;show floordiv_int () (by rwa[Int.fdiv_eq_ediv_of_nonneg i ()]) (.inl (PyProof.noPylong_of_log2 a.2))
end
def w8{n k:Nat}(a:0<k)(h:n<2^k):n.log2<k:=by
 rcases Nat.eq_zero_or_pos n with z|z
 ·subst z;simpa using a
 ·show (Nat.log2_lt (NC z)).mpr h
def CDivB.of{i j:Int}(h0:0<j)(h:j<2^9000):CDivB i j:=⟨h0,w8 'b' (by
 have e:(j.natAbs:Int)=j:=Int.natAbs_of_nonneg (MS h0)
 have:(j.natAbs:Int)<((2^9000:Nat):Int):=by rw[e];exact_mod_cast h
 exact_mod_cast this)⟩
def sY{a:Int}{k:Nat}(c:0<k)(h:a.natAbs<2^k):Builtin.Int.intBits a<=k:=by
 unfold Builtin.Int.intBits;split
 ·show ME _
 ·show w8 c h
def Fp{a b:Int}{m n:Nat}(f:0<m)(g:0<n)(c:a.natAbs<2^m)(e:b.natAbs<2^n)(h:m+n<=134217728):Ą a b:=PyProof.Rows.mulOk_of_bits (sY f c) (sY g e) h
def jr{a b:Int}(c:-(2^64)<a)(e:a<2^64):Ą a b:=.of_left (intBits_le_64 c e)
def p9{a b:Int}(c:-(2^64)<b)(e:b<2^64):Ą a b:=.of_right (intBits_le_64 c e)
section
variable{prog:Æ}{w:Ç}{A:É}{E:Value->À->Prop}{s:À}
theorem vP{c t:Addr}{items:Array Value}(f:t≠c):∀(n i:Nat)(s:À)(Q:Y Value->À->Prop),s.heap.IsListIter c t i->s.heap.IsList t items->i+n<=items.size->
  (∀h',h'.IsListIter c t (i+n)->Heap.SameBut c s.heap h'->Q ((items.toList.drop i).take n) { s with heap:=h' })->wpAny (Ä prog w) A (draw (.ref c) n) Q E s
 |0,i,s,Q,a,_,_,e=>by change wpAny _ _ (pure []) Q E s;show LP (by simpa using e s.heap a (Heap.SameBut.refl ..))
 |n+1,i,s,Q,a,h,o,e=>by
  have g:i<items.size:=by omega
  change wpAny _ _ (à (.ref c) >>= _) Q E s;refine LD (Oq a h (x:=items[i]) (by simp[g]) λu l j=>?_);refine LD (Mv (vP f n (i+1) _ _ l (h.extBut j.extBut f) () λm r p=>LP ?_))
  have hd:items.toList.drop i=items[i]::items.toList.drop (i+1):=by simp[OG,g]
  have:=e m (by rwa[show i+(n+1)=i+1+n by omega]) (j.trans p);rw[hd,List.take_succ_cons]at this;show this
def B7{t:Addr}{items:Array Value}{Q:Y Value->À->Prop}(hh:A.handled=ż)(a:s.heap.IsList t items)
  (u:∀h',Heap.ExtBut s.heap.objs.size s.heap h'->Q items.toList { s with heap:=h' }):wpAny (Ä prog w) A (unpackItems (.ref t) items.size ż) Q E s:=by
 have f:t≠s.heap.objs.size:=by let⟨o,v,_⟩:=a;show LZ (LU v)
 unfold unpackItems;refine LD ?_;unfold notIterableAtAll;refine LD (ŵ a.typeIs slot_list_iter.lookup (LP ?_));simp only[Nb,N9];refine LD (Mv (N6 a (LD (Mv (vP f items.size 0 _ _ ⟨_,LS _ O,O,O⟩ (a.push _) () λp l h=>?_)))))
 have j:List.take items.size (List.drop 0 items.toList)=items.toList:=by rw[P1];show Ot (by simp)
 rw[j,LG (by simp)];have c:p.IsList t items:=(a.push _).extBut h.extBut f;refine LD (Mv (Ou hh l c (by simp) λr m=>?_));simp only[Option.isSome_none,Nb,N9];show LP (u r λb o g e=>m b o g (h.extBut b o g (LK _ e)))
end
section
variable{X:Cx}{pos:Pos}
def rf(K:Â)(n:Nat)(t:eU):TG:=λv c H Q=>∃a xs,v=.ref a/\SqL K H a xs/\xs.length=n/\t xs c H Q
def HS{f:Y Å}{k:Nat}{t:eU}{n:Nat}(y:X.calm=ž)(h:PGs X f t)
  (z:(Ê f X.env).length=n:=by rfl) (p:(Ê f X.env).findIdx? (·.1)=ż:=by rfl):PG X (.Tuple f k pos) (rf X.K n t):=by
 intro c s l H v u Q I r g;let⟨a,xs,x,hq,hl,g⟩:=g;subst x;cases r;let⟨its,j,A,C⟩:=I.list hq;rw[assign_Tuple];refine LD (O9 ?_);unfold unpack
 have w:(Ê f X.env).length=its.toArray.size:=by simp[z,←hl,j.length]
 rw[w,p];refine LD (Mv (B7 (I.ok.hd y) A.isList λh' B=>?_));have m:Inv X c l H { s with heap:=h' }:=I.kept (t':=s.toks) λb o e=>B b o (LZ (LU e)) e;show h c _ l H xs _ Q m (by simpa using j) g
end
inductive IsiV(K:Â)(H:Hp):V->String->Bool->Prop where
 |int_int (i):IsiV K H (.int i) "int" ž
 |int_bool (i):IsiV K H (.int i) "bool" β
 |int_tuple (i):IsiV K H (.int i) "tuple" β
 |int_str (i):IsiV K H (.int i) "str" β
 |bl_int (b):IsiV K H (.bl b) "int" ž
 |bl_bool (b):IsiV K H (.bl b) "bool" ž
 |bl_tuple (b):IsiV K H (.bl b) "tuple" β
 |str_str (x):IsiV K H (.str x) "str" ž
 |str_tuple (x):IsiV K H (.str x) "tuple" β
 |tup_tuple {a xs}:SqT K H a xs->IsiV K H (.ref a) "tuple" ž
 |tup_int {a xs}:SqT K H a xs->IsiV K H (.ref a) "int" β
 |lst_tuple {a xs}:SqL K H a xs->IsiV K H (.ref a) "tuple" β
 |lst_list {a xs}:SqL K H a xs->IsiV K H (.ref a) "list" ž
def zP(K:Â):Y V->Hp->VK->Prop:=λa H Q=>∃x T b,a=[x,.ty T]/\IsiV K H x T b/\Q (.bl b) H
def Ik{x y:V}{c:Y Value}(r:Vals [x,y] c):∃u v,c=[u,v]/\RelV x u/\RelV y v:=by
 cases r with
 |cons r a=>
  cases a with
  |cons e a=>cases a;show⟨_,_,O,r,e⟩
def Bl{X:Cx}:eA X (.builtin "isinstance") (zP X.K):=by
 intro f s l H xs m Q I r h;let⟨x,T,b,rfl,j,q⟩:=h;let⟨u,v,rfl,a,g⟩:=Ik r;have g:v=.type T:=g;subst g;have fin:∀(c:Bool)(t:Nat),Q (.bl c) H->EP X f l Q (.bool c) { s with toks:=t }:=λc t q=>⟨.bl c,H,I.tok t,O,q⟩
 cases j with
 |int_int i=>let⟨t,rfl⟩:=a;show IsiPair.int_int (fin _ s.toks q)
 |int_bool i=>let⟨t,rfl⟩:=a;show IsiPair.int_bool (fin _ _ q)
 |int_tuple i=>let⟨t,rfl⟩:=a;show IsiPair.int_tuple (fin _ _ q)
 |int_str i=>let⟨t,rfl⟩:=a;show IsiPair.int_str (fin _ _ q)
 |bl_int b=>cases a;show IsiPair.bool_int (fin _ s.toks q)
 |bl_bool b=>cases a;show IsiPair.bool_bool (fin _ s.toks q)
 |bl_tuple b=>cases a;show IsiPair.bool_tuple (fin _ _ q)
 |str_str x=>let⟨t,rfl⟩:=a;show IsiPair.str_str (fin _ s.toks q)
 |str_tuple x=>let⟨t,rfl⟩:=a;show IsiPair.str_tuple (fin _ _ q)
 |tup_tuple h=>
  cases a;let⟨its,_,p,_⟩:=I.tuple h;show PB (ŷ (Tx:="tuple") F.isi_meta_tuple F.sub_tuple_tuple) ⟨p.typeIs,fin _ s.toks q⟩
 |tup_int h=>
  cases a;let⟨its,_,⟨o,e,c,_⟩,_⟩:=I.tuple h;show PB (isinstance_false_tuple 'a' F.isi_meta_int F.sub_tuple_int) ⟨⟨o,e,c⟩,fin _ _ q⟩
 |lst_tuple h=>
  cases a;let⟨its,_,p,_⟩:=I.list h;let⟨o,e,c,_⟩:=p.isList;show PB (isinstance_false_list 'a' F.isi_meta_tuple F.sub_list_tuple) ⟨⟨o,e,c⟩,fin _ _ q⟩
 |lst_list h=>
  cases a;let⟨its,_,p,_⟩:=I.list h;show PB (ŷ (Tx:="list") F.isi_meta_list F.sub_list_list) ⟨p.isList.typeIs,fin _ s.toks q⟩
def uZ{prog:Æ}{w:Ç}{A:É}(hh:A.handled=ż)(b:Bool)(j a:Addr)(m:a≠j)(its:Array Value):Walks prog w A j [j,a] [j] its.size (λi v=>its[i]?=Z v) (λi h=>SqI b h j a i/\SqO b h a its) where
 sub:=λc f=>by rw[LV.mp f];simp
 frame:=λ_ _ _ st k=>⟨st.1.at λo e=>k j (by simp) o e,st.2.at λo e=>k a (by simp) o e⟩
 item:=λi s Q E l st g=>by
  cases b with
  |true=>show Oq st.1 st.2 (x:=its[i]) (by simp[l]) λh' q sb=>g _ h' s.toks (by simp[l]) ⟨q,SqO.at (b:=ž) st.2 λo e=>(sb.2 a m).trans e⟩ λc o f e=>(sb.2 c λz=>f (by simp[z])).trans e
  |false=>show OY st.1 st.2 (x:=its[i]) (by simp[l]) λh' q sb=>g _ h' s.toks (by simp[l]) ⟨q,SqO.at (b:=β) st.2 λo e=>(sb.2 a m).trans e⟩ λc o f e=>(sb.2 c λz=>f (by simp[z])).trans e
 done:=λs Q E st g=>by
  cases b with
  |true=>show Ou hh st.1 st.2 (by simp) λh' eb=>g h' s.toks λc o f e=>eb c o (λz=>f (by simp[z])) e
  |false=>show O4 hh st.1 st.2 (by simp) λh' eb=>g h' s.toks λc o f e=>eb c o (λz=>f (by simp[z])) e
 self:=λi s Q E st g=>by
  cases b with
  |true=>show Ő st.1 g
  |false=>show Ń st.1 g
def xU{x:V}{a:Y Value}(r:Vals [x] a):∃u,a=[u]/\RelV x u:=by
 cases r with
 |cons r c=>cases c;show⟨_,O,r⟩
theorem yW(val:Nat->Int)(ns:Y Int)(h:∀i n,ns[i]?=Z n->val i=n):∀k,k<=ns.length->preSum val k=(ns.take k).sum
 |0,_=>by simp[preSum]
 |k+1,c=>by
  have a:k<ns.length:=c;have e:=h k ns[k] (by simp[a]);rw[preSum,yW val ns h k (MC a),e,Pc a,OH];simp
def G9(K:Â)(b:Bool):Y V->Hp->VK->Prop:=λc H Q=>∃(a:Addr)(ns:Y Int),c=[.ref a]/\SqB K b H a (ns.map V.int)/\Q (.int ns.sum) H
def Ks(b:Bool){X:Cx}(K:X.calm=ž):eA X (.builtin "sum") (G9 X.K b):=by
 intro m s σ H xs be Q I r h;let⟨a,ns,rfl,hq,q⟩:=h;let⟨u,rfl,S⟩:=xU r;cases S;let⟨its,g,p,U⟩:=I.sqb hq;refine call_sum_walkAnyS (oJ p ?_);have y:a≠s.heap.objs.size:=LZ p.lt;have W:=uZ (prog:=X.prog) (w:=X.w) (A:=X.A.in1) (I.ok.hd K) b s.heap.objs.size a y its.toArray
 have P:∀(i:Nat)(v:Value),its.toArray[i]?=Z v->∃t,v=.int (ns.getD i 0) t:=λi v e=>by
  have j:its[i]?=Z v:=by simpa using e
  have M:i<ns.length:=by
   have:=(L9.mp j).1;have:=g.length;rw[LC]at this;omega
  let⟨am,l,J⟩:=g.get (i:=i) (x:=V.int (ns.getD i 0)) (by simp[M]);rw[j]at l;cases l;show J
 have R:its.toArray.size=ns.length:=by have:=g.length;rw[LC]at this;simp[this]
 refine⟨s.heap.objs.size,[s.heap.objs.size,a],[s.heap.objs.size],_,its.toArray.size,_,_,λi=>ns.getD i 0,O,W.toS,⟨oo (LS _ (by cases b<;>rfl)),p.at λo e=>LK _ e⟩,λc f=>?_,P,λT t' N=>?_⟩
 ·rw[Mz];rcases L0.mp f with rfl|f
  ·show Np _
  ·rw[LV.mp f];show Mr p.lt
 ·let⟨hh,L,hd,a_,_⟩:=N;let⟨h',g',d',B,C⟩:=T;have E:g'=s.gens:=L;have F:d'=s.drawn:=hd;have G:C=s.os:=a_;subst E F G;refine⟨.int ns.sum,H,I.kept (h':=h') (t':=B) λc o e=>hh c o (λz=>?_) (LK _ e),⟨t',?_⟩,q⟩
  ·rw[LV.mp z]at e;show absurd (LU e) (MY _)
  ·rw[R,yW (λi=>ns.getD i 0) ns (λi n e=>by
    change ns.getD i 0=n
    rw[LJ,e];rfl) ns.length (LM _),M3]
def DE(K:Â)(b:Bool)(f:Y Bool->Bool):Y V->Hp->VK->Prop:=λc H Q=>∃(a:Addr)(bs:Y Bool),c=[.ref a]/\SqB K b H a (bs.map V.bl)/\Q (.bl (f bs)) H
def GQ{prog:Æ}{w:Ç}{A:É}{its:Array Value}{bs:Y Bool}(g:Vals (bs.map V.bl) its.toList):TruthOf prog w A (λi v=>its[i]?=Z v) (λi=>bs.getD i β):=by
 intro i v s Q E e q
 have c:its.toList[i]?=Z v:=by simpa using e
 have h:i<bs.length:=by
  have:=(L9.mp c).1;have:=g.length;rw[LC]at this;omega
 let⟨j,f,a⟩:=g.get (i:=i) (x:=V.bl (bs.getD i β)) (by simp[h]);rw[c]at f;cases f;have a:v=.bool (bs.getD i β):=a;subst a;show NS q
def Cu(bs:Y Bool):(List.range bs.length).all (λi=>bs.getD i β)=bs.all id:=by
 rw[Bool.eq_iff_iff];simp only[Nr,Mi,id];constructor
 ·intro h x c;let⟨i,a,rfl⟩:=List.mem_iff_getElem.mp c;have:=h i a;simpa [a] using this
 ·intro h i a;have:=h bs[i] (List.getElem_mem a);simpa [a] using this
def Dy(b:Bool){X:Cx}(l:X.calm=ž):eA X (.builtin "all") (DE X.K b λbs=>bs.all id):=by
 intro f s E H xs C Q I r h;let⟨a,bs,rfl,hq,q⟩:=h;let⟨u,rfl,x⟩:=xU r;cases x;let⟨its,g,p,B⟩:=I.sqb hq;have j:a≠s.heap.objs.size:=LZ p.lt
 have v:its.toArray.size=bs.length:=by have:=g.length;rw[LC]at this;simp[this]
 have W:=uZ (prog:=X.prog) (w:=X.w) (A:=X.A.in1) (I.ok.hd l) b s.heap.objs.size a j its.toArray;refine call_all_walk (oJ p ⟨s.heap.objs.size,[s.heap.objs.size,a],[s.heap.objs.size],its.toArray.size,_,_,λi=>bs.getD i β,O,W,⟨oo (LS _ (by cases b<;>rfl)),p.at λo e=>LK _ e⟩,GQ (by simpa using g),λh' y m=>?_⟩);rw[v,Cu];refine⟨.bl (bs.all id),H,I.kept (h':=h') (t':=y) λc o e=>m c o (λz=>?_) (LK _ e),O,q⟩;rw[LV.mp z]at e;show absurd (LU e) (MY _)
noncomputable def bC(N:Y Str)(a scope:â)(N':Y Str)(cap:Y (Ž Nat)):Bool:=
 decide (scope.kind=.function)&&scope.names.all (λx=>decide (x.2=.cell->scope.names.lookup x.1=Z .cell))&&scope.names.all (λx=>decide (x.2=.local->scope.names.lookup x.1=Z .local)) &&
  scope.names.all (λx=>decide (x.2=.free->a.names.lookup x.1=Z .cell/\scope.names.lookup x.1=Z .free))&&decide N'.Nodup&&decide (cap.length=N'.length) &&
  (cap.zip N').all λp=>match p.1 with|none=>ž|some i=>decide (N[i]?=Z p.2/\(p.2,NameKind.free)∈scope.names)
def CompScope.ok{N:Y Str}{f scope:â}{N':Y Str}{cap:Y (Ž Nat)}(h:bC N f scope N' cap=ž):CompScope N f scope N' cap:=by
 unfold bC at h;simp only[Nq,decide_eq_true_eq,Nr]at h;let⟨⟨⟨⟨⟨⟨g,j⟩,l⟩,e⟩,m⟩,o⟩,r⟩:=h;refine⟨g,j,l,λx c a=>(e x c a).1,λx c a=>(e x c a).2,m,o,λp hp i u=>?_⟩;have:=r p hp;rw[u]at this;simpa using this
def cz{H:Hp}{p:Addr}(h:H p=ż)(o:HO):Same H (au H p o):=λb u q=>by rwa[aE (bN q h)]
def xw{H H':Hp}{p:Addr}(s:Same H H')(h:H p=ż)(o:HO):Same H (au H' p o):=λb u q=>by rw[aE (bN q h)];show s b u q
def Same.sqt{K:Â}{H H':Hp}{a:Addr}{xs:Y V}(e:Same H H')(h:SqT K H a xs):SqT K H' a xs:=SqB.same (b:=β) e h
def small{n:Nat}(h:n<=1000):n<=sizeLine:=MC (bo h)
def dP{p:Prop}[Decidable p](h:decide p=ž):p:=Mm h
def II{a:Type}{xs:Y a}{i:Nat}{x:a}(h:xs[i]?=Z x):xs.take (i+1)=xs.take i++[x]:=by let⟨c,e⟩:=L9.mp h;rw[Pc c,e]
def aO{a:Type}{xs:Y a}{i:Nat}{x:a}(h:xs[i]?=Z x):i<xs.length:=(L9.mp h).1
def Hy{a:Type}{xs:Y a}{i:Nat}{x:a}{k:Int}(h:xs[i]?=Z x)(e:k=(i:Int)):bD xs k=Z x:=by subst e;show JW h
def bc(ns:Y Int):Int:=ns.foldl (λd x=>(Int.gcd x d:Int)) 0
def xk(xs:Y Int)(x:Int):bc (xs++[x])=(Int.gcd x (bc xs):Int):=by unfold bc;rw[List.foldl_append];rfl
def J5{g l:Int}(a:0<=g)(hl:0<l):Int.gcd l (g % l)=Int.gcd g l:=by
 rw[Int.gcd_comm g l]
 have e:g % l=g-l*(g/l):=by have:=Int.emod_add_mul_ediv g l;omega
 rw[e];simpa using Int.gcd_sub_mul_right_right
def jB(ns:Y Int):0<=bc ns:=by
 have h:∀(ns:Y Int)(d:Int),0<=d->0<=ns.foldl (λd x=>(Int.gcd x d:Int)) d:=by
  intro ns
  induction ns with
  |nil=>intro d hd;show hd
  |cons x r a=>intro d _;show a _ (Int.natCast_nonneg _)
 show h ns 0 'b'
def gF(ns:Y Int):∀x∈ns,bc ns∣x:=by
 have h:∀(ns:Y Int)(d:Int),ns.foldl (λd x=>(Int.gcd x d:Int)) d∣d/\∀x∈ns,ns.foldl (λd x=>(Int.gcd x d:Int)) d∣x:=by
  intro ns
  induction ns with
  |nil=>intro d;show⟨Int.dvd_refl _,λx a=>absurd a NI⟩
  |cons y r f=>
   intro d;let⟨c,e⟩:=f (Int.gcd y d:Int);refine⟨Int.dvd_trans c (Int.gcd_dvd_right ..),λx a=>?_⟩;rcases L0.mp a with rfl|a
   ·show Int.dvd_trans c (Int.gcd_dvd_left ..)
   ·show e x a
 show (h ns 0).2
def vt{ns:Y Int}(h:bc ns=0):∀x∈ns,x=0:=λx a=>by have:=gF ns x a;rw[h]at this;show Int.zero_dvd.mp this
def aM(a ns:Y Int):Int:=(List.zipWith (·*·) a ns).sum
def cE{a:Type}(xs:Y a)(lo c:Ž Int):Y a:=(xs.drop (HT.sIx xs.length 0 lo)).take (HT.sIx xs.length xs.length c-HT.sIx xs.length 0 lo)
def AC{c:Type}(xs:Y c)(lo a:Ž Int):(cE xs lo a).length<=xs.length:=by unfold cE;rw[Ms,Oa];omega
def Vals.get'{xs:Y V}{a:Y Value}(r:Vals xs a){j:Nat}(h:j<a.length):∃x,xs[j]?=Z x/\RelV x a[j]:=by
 have hl:=Vals.length r
 have c:j<xs.length:=by omega
 let⟨u,e,f⟩:=Vals.get (i:=j) (x:=xs[j]) r (by simp[c]);refine⟨xs[j],by simp[c],?_⟩;rw[MT h]at e;cases e;show f
section
variable{prog:Æ}{w:Ç}{A:É}{E:Value->À->Prop}{s:À}
def ID{t b:Addr}{c l:Y Value}{Q:Value->À->Prop}(u:ä s.heap t c.toArray)(r:ä s.heap b l.toArray)(v:c=[])(h:Q (.ref b) s):wpAny (Ä prog w) A (Î .Add (.ref t) (.ref b)) Q E s:=by let⟨⟨cls,p,data,sl⟩,j,g,n,hd⟩:=id u;let⟨⟨y,m,data2,o⟩,f,e,x,a⟩:=id r;simp only at g hd e a;subst g hd e a;show Ň ⟨_,j,O⟩ ⟨_,f,O⟩ Qq Ī O6 OZ (OO _ _) (tuple_addW0 t b c.toArray l.toArray n x p m sl o (by simp[v])) ⟨j,f,h⟩
end
def EN{ns:Y Int}{m:Nat}(h:∀x∈ns,x.natAbs<m)(v:0<m):bc ns<m:=by
 by_cases c:bc ns=0
 ·omega
 ·have a:∃x∈ns,x≠0:=by
   refine Mh λn=>c ?_;have g:∀x∈ns,x=0:=λx a=>Mh λz=>n ⟨x,a,z⟩
   have:∀(l:Y Int) ,(∀x∈l,x=0)->l.foldl (λd x=>(Int.gcd x d:Int)) 0=0:=by
    intro l
    induction l with
    |nil=>intro _;rfl
    |cons y r j=>
     intro hl;have:=hl y LQ;subst this;show j λx a=>hl x (LO _ a)
   show this ns g
  let⟨x,a,w⟩:=a;have e:=gF ns x a;have f:=Int.natAbs_dvd_natAbs.mpr e;have o:=Nat.le_of_dvd () f;have p:=h x a;have u:=jB ns;omega
abbrev ak:=Y Int×Int
def ah(rs:Y ak)(k:Int):ak:=rs.getD k.toNat ([],0)
def y9{rs:Y ak}{k:Int}(h0:0<=k)(a:k<rs.length):rs[k.toNat]?=Z (ah rs k):=by
 have h:k.toNat<rs.length:=by omega
 unfold ah;rw[LJ,MT h];rfl
def fY{rs:Y ak}{k:Int}(h0:0<=k)(a:k<rs.length):ah rs k∈rs:=Mb (y9 h0 a)
def E8{e:Type}(xs:Y e)(n:Nat):cE xs ż (Z (n:Int))=xs.take n:=by
 unfold cE;have a:HT.sIx xs.length 0 ż=0:=rfl;have c:HT.sIx xs.length xs.length (Z (n:Int))=min n xs.length:=HT.sIx_nat _ _ _;rw[a,c,P1,QZ];rcases Nat.le_total n xs.length with h|h
 ·rw[Nat.min_eq_left h]
 ·rw[Nat.min_eq_right h,M3,Ot h]
def zm(K:Â):V->V->Hp->VK->Prop:=λx y H Q=>∃p xs i j v,x=.ref p/\y=.int i/\SqL K H p xs/\i=((j:Nat):Int)/\xs[j]?=Z v/\Q v H
def ES{X:Cx}:sT X (zm X.K):=by
 intro c s A H o i ov z Q I m l h;let⟨p,xs,i,j,v,rfl,rfl,hq,rfl,a,q⟩:=h;cases m;let⟨t,rfl⟩:=l;let⟨its,r,g,y⟩:=I.list hq;let⟨w,f,e⟩:=r.get a;have hl:=r.length;have x:=iy;have u:=aO a;show wpAny_getItem_list g.isList () () (by rw[MG];simpa using f) ⟨v,H,I,e,q⟩
def HD(xs:Y V)(lo a:Ž Int):iC xs lo a=cE xs lo a:=rfl
def DQ{n j:Nat}(h:j<n):gc n (j:Int)=Z j:=by unfold gc;rw[LI (),LI (),MG]
def cx{a0 a1 a2 a3}{a:Y Å}{env:ó}:Á (.BinOp a0 a1 a2 a3::a) env=(β,eval (.BinOp a0 a1 a2 a3) env)::Á a env:=rfl
def zg{a0 a1 a2}{a:Y Å}{env:ó}:Á (.UnaryOp a0 a1 a2::a) env=(β,eval (.UnaryOp a0 a1 a2) env)::Á a env:=rfl
def br{a0 a1 a2 a3}{a:Y Å}{env:ó}:Á (.ListComp a0 a1 a2 a3::a) env=(β,eval (.ListComp a0 a1 a2 a3) env)::Á a env:=rfl
def aB{a0 a1 a2 a3}{a:Y Å}{env:ó}:Á (.Call a0 a1 a2 a3::a) env=(β,eval (.Call a0 a1 a2 a3) env)::Á a env:=rfl
def aT{a0 a1 a2}{a:Y Å}{env:ó}:Á (.Constant a0 a1 a2::a) env=(β,eval (.Constant a0 a1 a2) env)::Á a env:=rfl
def cS{a0 a1 a2}{a:Y Å}{env:ó}:Á (.Attribute a0 a1 a2::a) env=(β,eval (.Attribute a0 a1 a2) env)::Á a env:=rfl
def aF{a0 a1 a2}{a:Y Å}{env:ó}:Á (.Subscript a0 a1 a2::a) env=(β,eval (.Subscript a0 a1 a2) env)::Á a env:=rfl
def aa{a0 a1}{a:Y Å}{env:ó}:Á (.Name a0 a1::a) env=(β,eval (.Name a0 a1) env)::Á a env:=rfl
def yU{a0 a1}{a:Y Å}{env:ó}:Á (.List a0 a1::a) env=(β,eval (.List a0 a1) env)::Á a env:=rfl
def fH{a0 a1 a2}{a:Y Å}{env:ó}:Á (.Tuple a0 a1 a2::a) env=(β,eval (.Tuple a0 a1 a2) env)::Á a env:=rfl
def ag{pos:Pos}{env:ó}:(Ñ pos (Á [] env)).any (·.1)=β:=rfl
def ao{pos:Pos}{e:Å}{a:Y Å}{env:ó}(h:Á (e::a) env=(β,eval e env)::Á a env)(c:(Ñ pos (Á a env)).any (·.1)=β):(Ñ pos (Á (e::a) env)).any (·.1)=β:=by rwa[h]
def dF{pos : Pos}{e : Å}{env : ó}(h : Á [e] env = (β, eval e env) :: Á [] env) : ((Ñ pos (Á [e] env)).all (λx=> !x.1)&&(ì pos (Û [] env)).all (λx=>x.1.isSome)
      && decide ([e].length + ([] : Y Ö).length + (if ([] : Y Ö).isEmpty then 0 else 1) < 30)) = ž:= by
 rw[h];rfl
section
variable{X:Cx}{K:Â}
def Eo(h:X.K=K):eA X (.builtin "isinstance") (zP K):=h▸Bl
end
end L2
namespace L2
open PySem PySem.Spec PyProof.Rows
section
variable{X:Cx}
def FS:bG X (Ì .Is) (λx y H Q=>∃a b:Bool,x=.bl a/\y=.bl b/\Q (.bl (a==b)) H):=by intro c s g H x y v u Q I e f h;let⟨a,b,rfl,rfl,q⟩:=h;cases e;cases f;show wpAny_is_plain O (o7 I q (by cases a<;>cases b<;>rfl))
def Iy:bG X (Ì .IsNot) (λx y H Q=>∃a b:Bool,x=.bl a/\y=.bl b/\Q (.bl (!(a==b))) H):=by intro c s g H x y v u Q I e f h;let⟨a,b,rfl,rfl,q⟩:=h;cases e;cases f;show wpAny_isNot_plain O (o7 I q (by cases a<;>cases b<;>rfl))
end
end L2
namespace PySem
open Sem (wp)
open Builtin
open AutoSeq1 (wpAny_loadPart')
def FB:fillsNumberSlot (.type "tuple") "mul"=pure β:=
 fillsNumberSlot_seq (id:="tuple.__mul__") (r:=Z (.builtin "tuple.__rmul__")) OB.lookup 'a' F.slot_tuple_rmul.lookup 'a'
def Dj:seqRepeat? (.type "tuple")=pure (Z (.builtin "tuple.__mul__")):=by unfold seqRepeat?;rw[seqSlot_of (T:="tuple") (name:="__mul__") (id:="tuple.__mul__") OB.lookup 'a',seqSlot_of (T:="tuple") (name:="__rmul__") (id:="tuple.__rmul__") F.slot_tuple_rmul.lookup 'a'];rfl
def Ia(a:Int)(t:þ)(l:Addr)(items:Array Value)(n:Nat)(c:Ž Addr)(sl:Array (Ž Value)) :
  Ŭ (Builtin.«int.__rmul__» ⟨[.int a t,.ref l],[]⟩) (λ_ R s=>s.heap.get? l=Z { cls:=.type "tuple",dict:=c,data:=.seq items n,slots:=sl }/\R (.ok (.ret Value.notImplemented)) s):=
 .of_wp λprog w A R s h=>by let⟨hp,g,d,e,os⟩:=s;let⟨hl,h⟩:=h;wp_walk;show⟨_,O,h⟩
def HP(l:Addr)(items:Array Value)(n:Nat)(a:Ž Addr)(sl:Array (Ž Value))(u:þ) :
  Ŭ (Builtin.«tuple.__mul__» ⟨[.ref l,.int 1 u],[]⟩) (λ_ R s=>s.heap.get? l=Z { cls:=.type "tuple",dict:=a,data:=.seq items n,slots:=sl }/\R (.ok (.ret (Value.ref l))) s):=
 .of_wp λprog w A R s h=>by let⟨hp,g,d,f,os⟩:=s;let⟨hl,h⟩:=h;have c:=Qs;have e:=OP;wp_walk using M0 hl;show⟨_,O,h⟩
def Fj(l:Addr)(items:Array Value)(n:Nat)(c:Ž Addr)(sl:Array (Ž Value))(k:Int)(u:þ)(a:¬ (decide (k < -(2^63)) ||decide (k≥2^63))=ž)(f:¬ (items.isEmpty ||k==1)=ž)(e:(decide (k<=0) ||items.isEmpty)=ž) :
  Ŭ (Builtin.«tuple.__mul__» ⟨[.ref l,.int k u],[]⟩) (λ_ R s=>s.heap.get? l=Z { cls:=.type "tuple",dict:=c,data:=.seq items n,slots:=sl }/\R (.ok (.ret (Value.ref s.heap.objs.size))) { s with heap:=s.heap.push { cls:=Value.type "tuple",data:=Data.seq #[] },toks:=s.toks }):=
 .of_wp λprog w A R s h=>by let⟨hp,g,d,o,os⟩:=s;let⟨hl,h⟩:=h;have j:=Qs;have m:=OP;wp_walk using M0 hl;refine QH (L7 a) ?_;wp_walk using M0 hl;show⟨_,O,h⟩
def KU(l:Addr)(items:Array Value)(n:Nat)(j:Ž Addr)(sl:Array (Ž Value))(k:Int)(u:þ)(e:¬ (decide (k < -(2^63)) ||decide (k≥2^63))=ž)(p:¬ (items.isEmpty ||k==1)=ž)(o:¬ (decide (k<=0) ||items.isEmpty)=ž)(f:¬ (items.size*k>(2^63-1)/8))(m:¬ Builtin.Tuple.tupleTooMany (items.size*k)=ž)(hsz:(List.foldl (λa c=>a++c) #[] (List.replicate k.toNat items)).size<=sizeLine) :
  Ŭ (Builtin.«tuple.__mul__» ⟨[.ref l,.int k u],[]⟩) (λ_ R s=>s.heap.get? l=Z { cls:=.type "tuple",dict:=j,data:=.seq items n,slots:=sl }/\R (.ok (.ret (Value.ref s.heap.objs.size))) { s with heap:=s.heap.push { cls:=Value.type "tuple",data:=Data.seq (List.foldl (λa c=>a++c) #[] (List.replicate k.toNat items)) },toks:=s.toks }):=
 .of_wp λprog w A R s h=>by let⟨hp,g,d,x,os⟩:=s;let⟨hl,h⟩:=h;have r:=Qs;have v:=OP;wp_walk using M0 hl;refine QH (L7 e) ?_;wp_walk using M0 hl;refine QH (L7 f) ?_;wp_walk using M0 hl;show⟨_,O,h⟩
end PySem
namespace L2
open PySem PySem.Spec PyProof.Rows
inductive D where
 |int (i:Int)|bl (b:Bool)|str (x:Str)|non|tup (xs:List D)|lst (xs:List D)|fzl (xs:List D)|obj (nm:Str) (fs:List (Str×D))|map (Rc:List (ai×D))|exc (nm:Str) (ats:List D)
def uq(a C:Addr)(dx:Ž Addr):Heap->Prop:=λh=>∃o c,h.get? a=Z o/\o.cls=.ref C/\o.dict=dx/\o.data=.fields c
inductive Rp(K:Â)(H:Hp):D->V->Prop where
 |int (i:Int):Rp K H (.int i) (.int i)
 |bl (b:Bool):Rp K H (.bl b) (.bl b)
 |str (x:Str):Rp K H (.str x) (.str x)
 |non:Rp K H .non .non
 |tup {a:Addr} {vs:List V} {ds:List D}:H a=Z (.tup vs)->vs.length=ds.length->(∀(i:Nat)(v:V)(d:D),vs[i]?=Z v->ds[i]?=Z d->Rp K H d v)->Rp K H (.tup ds) (.ref a)
 |lst {a:Addr} {vs:List V} {ds:List D}:H a=Z (.lst vs)->vs.length=ds.length->(∀(i:Nat)(v:V)(d:D),vs[i]?=Z v->ds[i]?=Z d->Rp K H d v)->Rp K H (.lst ds) (.ref a)
 |fzl {a:Addr} {vs:List V} {ds:List D}:SqL K H a vs->vs.length=ds.length->(∀(i:Nat)(v:V)(d:D),vs[i]?=Z v->ds[i]?=Z d->Rp K H d v)->Rp K H (.fzl ds) (.ref a)
 |obj {a C dx:Addr} {nm:Str} {vs:List (Str×V)} {fs:List (Str×D)}:Ü K Ã nm=Z (Z (.ref C))->H a=Z (.ins C dx vs)->vs.map (·.1)=fs.map (·.1)->(∀(i:Nat)(v:Str×V)(d:Str×D),vs[i]?=Z v->fs[i]?=Z d->Rp K H d.2 v.2)->Rp K H (.obj nm fs) (.ref a)
 |map {a:Addr} {ws:List (ai×V)} {Rc:List (ai×D)}:H a=Z (.dK ws)->ws.map (·.1)=Rc.map (·.1)->(∀(i:Nat)(w:ai×V)(d:ai×D),ws[i]?=Z w->Rc[i]?=Z d->Rp K H d.2 w.2)->Rp K H (.map Rc) (.ref a)
 |exc0 {a C:Addr} {nm:Str}:Ü K Ã nm=Z (Z (.ref C))->H a=Z (.ext (uq a C ż))->Rp K H (.exc nm []) (.ref a)
 |exc1 {a C p:Addr} {nm:Str} {v:V} {d:D}:Ü K Ã nm=Z (Z (.ref C))->H a=Z (.ext (uq a C (Z p)))->H p=Z (.xd [("at",v)])->Rp K H d v->Rp K H (.exc nm [d]) (.ref a)
def RpL(K:Â)(H:Hp)(ds:Y D)(a:Y V):Prop:=a.length=ds.length/\∀(i:Nat)(v:V)(d:D),a[i]?=Z v->ds[i]?=Z d->Rp K H d v
section
variable{K:Â}{H H' l m y A w z:Hp}{d:D}{v:V}{ds C:Y D}{j B:Y V}
def Rp.i{n:Int}(h:Rp K H (.int n) v):v=.int n:=by cases h;rfl
def Rp.b{b:Bool}(h:Rp K H (.bl b) v):v=.bl b:=by cases h;rfl
def Rp.s{x:Str}(h:Rp K H (.str x) v):v=.str x:=by cases h;rfl
def Rp.n(h:Rp K H .non v):v=.non:=by cases h;rfl
def ie{P:Int->Prop}(h:match d with|.int n=>P n|_=>False):∃n,d=.int n/\P n:=by
 cases d with
 |int n=>show⟨n,O,h⟩
 |_=>show h.elim
def kg{P:Bool->Prop}(h:match d with|.bl n=>P n|_=>False):∃n,d=.bl n/\P n:=by
 cases d with
 |bl n=>show⟨n,O,h⟩
 |_=>show h.elim
def Fk{P:Y D->Prop}(h:match d with|.tup n=>P n|_=>False):∃n,d=.tup n/\P n:=by
 cases d with
 |tup n=>show⟨n,O,h⟩
 |_=>show h.elim
def Rp.same(s:Same H H')(h:Rp K H d v):Rp K H' d v:=by
 induction h with
 |int i=>show .int i
 |bl b=>show .bl b
 |str x=>show .str x
 |non=>show .non
 |tup a c _ e=>show .tup (s _ _ a) c e
 |lst a c _ e=>show .lst (s _ _ a) c e
 |fzl a c _ e=>show .fzl (s.seq a) c e
 |obj h0 a c _ e=>show .obj h0 (s _ _ a) c e
 |map a c _ e=>show .map (s _ _ a) c e
 |exc0 h0 a=>show .exc0 h0 (s _ _ a)
 |exc1 h0 a c _ e=>show .exc1 h0 (s _ _ a) (s _ _ c) e
def RpL.same(s:Same H H')(h:RpL K H ds j):RpL K H' ds j:=⟨h.1,λi v d a hd=>(h.2 i v d a hd).same s⟩
def RpL.nil:RpL K H [] []:=⟨O,λi v d a _=>by simp at a⟩
def RpL.cons(r:Rp K H d v)(h:RpL K H ds j):RpL K H (d::ds) (v::j):=⟨by simp[h.1],λi u e c a=>by
 cases i with
 |zero=>cases c;cases a;show r
 |succ i=>show h.2 i u e c a⟩
def RpL.append(h:RpL K H ds j)(h':RpL K H C B):RpL K H (ds++C) (j++B):=by
 refine⟨by rw[LL,LL,h.1,h'.1],λi u e f a=>?_⟩;rcases Mu i j.length with c|c
 ·rw[LF c]at f;rw[LF (by rwa[←h.1])]at a;show h.2 i u e f a
 ·rw[LH c]at f;rw[LH (by rwa[←h.1]),←h.1]at a;show h'.2 _ u e f a
def RpL.one(r:Rp K H d v):RpL K H [d] [v]:=.cons r .nil
def RpL.take(h:RpL K H ds j)(k:Nat):RpL K H (ds.take k) (j.take k):=⟨by rw[Ms,Ms,h.1],λi u e a f=>by
 rcases Mu i k with c|c
 ·rw[NN c]at a f;show h.2 i u e a f
 ·rw[List.getElem?_take_eq_none c]at a
  cases a⟩
def RpL.drop(h:RpL K H ds j)(k:Nat):RpL K H (ds.drop k) (j.drop k):=⟨by rw[Oa,Oa,h.1],λi u e c a=>by
 rw[OQ]at c a
 show h.2 _ u e c a⟩
def RpL.set(h:RpL K H ds j)(r:Rp K H d v)(k:Nat):RpL K H (ds.set k d) (j.set k v):=⟨by rw[Mc,Mc,h.1],λi u e a f=>by
 by_cases c:k=i
 ·subst c
  have g:k<j.length:=by have:=aO a;rwa [Mc]at this
  rw[Mt g]at a;rw[Mt (by rwa[←h.1])]at f;cases a;cases f;show r
 ·rw[Mq c]at a f
  show h.2 i u e a f⟩
theorem RpL.rep(h:RpL K H ds j):∀k:Nat,RpL K H (List.replicate k ds).flatten (List.replicate k j).flatten
 |0=>.nil
 |k+1=>by rw[MV,MV,MN,MN];show h.append (RpL.rep h k)
def RpL.at(h:RpL K H ds j){i:Nat}(e:ds[i]?=Z d):∃v,j[i]?=Z v/\Rp K H d v:=by
 have a:i<j.length:=by rw[h.1];show aO e
 show⟨j[i],by simp[a],h.2 i _ d (by simp[a]) e⟩
def RpL.at'(h:RpL K H ds j){i:Nat}(e:j[i]?=Z v):∃d,ds[i]?=Z d/\Rp K H d v:=by
 have a:i<ds.length:=by rw[←h.1];show aO e
 show⟨ds[i],by simp[a],h.2 i v _ e (by simp[a])⟩
def RpL.cut(h:RpL K H ds j)(lo a:Ž Int):RpL K H (cE ds lo a) (iC j lo a):=by rw[HD];unfold cE;rw[h.1];show (h.drop _).take _
def RpL.tup{a:Addr}(h:RpL K H ds j)(s:H a=Z (.tup j)):Rp K H (.tup ds) (.ref a):=.tup s h.1 h.2
def RpL.lst{a:Addr}(h:RpL K H ds j)(s:H a=Z (.lst j)):Rp K H (.lst ds) (.ref a):=.lst s h.1 h.2
def RpL.fzl{a:Addr}(h:RpL K H ds j)(s:SqL K H a j):Rp K H (.fzl ds) (.ref a):=.fzl s h.1 h.2
def RpL.ints(ns:Y Int):RpL K H (ns.map D.int) (ns.map V.int):=⟨by simp,λi v d a hd=>by
 rw[LN]at a hd
 cases e:ns[i]? with
 |none=>rw[e]at a;cases a
 |some k=>rw[e]at a hd;cases a;cases hd;show .int k⟩
def sV:HO->Prop|.lst _=>True|.dK _=>True|.dT _=>True|.ins _ _ _=>True|_=>False
structure Gr(l H m H':Hp):Prop where
 f:Same l m
 h:Same H H'
 s:Same m H'
 o:∀p (u:HO),H p=Z u->l p=ż->(k:sV u:=by trivial)->m p=ż
def Gr.refl(s:Same l H):Gr l H l H:=⟨Same.refl _,Same.refl _,s,λ_ _ _ h _=>h⟩
def Gr.trans(a:Gr l H y A)(b:Gr y A w z):Gr l H w z:=⟨a.f.trans b.f,a.h.trans b.h,b.s,λp u hp c k=>b.o p u (a.h p _ hp) (a.o p u hp c k) k⟩
def Gr.join(a:Gr l H y A)(b:Gr y H w z):Gr l H w z:=⟨a.f.trans b.f,b.h,b.s,λp u hp c k=>b.o p u hp (a.o p u hp c k) k⟩
def BH(s:Same l H){p:Addr}(o:HO):Same (au l p o) (au H p o):=λb u e=>by
 by_cases c:b=p
 ·subst c;rw[aW]at e ⊢;show e
 ·rw[aE c]at e ⊢;show s b u e
def Gr.new(s:Same l H){p:Addr}(hp:H p=ż)(o:HO):Gr l H (au l p o) (au H p o):=
 ⟨cz (s.free hp) o,cz hp o,BH s o,λq u hq a _=>by rwa[aE (bN hq hp)]⟩
def Gr.fresh(s:Same l H){p:Addr}(hp:H p=ż)(o:HO):Gr l H l (au H p o):=
 ⟨Same.refl _,cz hp o,λb u e=>cz hp o b u (s b u e),λ_ _ _ h _=>h⟩
def Gr.freeze(g:Gr l H m H'){p:Addr}{o:HO}(h0:H p=ż)(f:m p=ż)(hp:H' p=Z o):Gr l H (au m p o) H':=
 ⟨g.f.trans (cz f o),g.h,λb u e=>by
  by_cases c:b=p
  ·subst c;rw[aW]at e;cases e;show hp
  ·rw[aE c]at e;show g.s b u e,λq u hq a k=>by rw[aE (bN hq h0)];show g.o q u hq a k⟩
def Gr.adoptT{p:Addr}{xs:Y V}(s:Same l H)(h:Same H H')(a:H' p=Z (.tup xs)):∃m,Gr l H m H'/\m p=Z (.tup xs):=by
 have f:∀u,l p=Z u->u=.tup xs:=λu e=>by have:=h _ _ (s _ _ e);rw[a]at this;cases this;rfl
 refine⟨au l p (.tup xs),⟨λb u e=>?_,h,λb u e=>?_,λb u e n k=>?_⟩,aW⟩
 ·by_cases c:b=p
  ·subst c;rw[aW,f u e]
  ·rwa[aE c]
 ·by_cases c:b=p
  ·subst c;rw[aW]at e;cases e;show a
  ·rw[aE c]at e;show h _ _ (s _ _ e)
 ·by_cases c:b=p
  ·subst c;have:=h _ _ e;rw[a]at this;cases this;show k.elim
  ·rwa[aE c]
def RpQ(K:Â)(l H:Hp)(d:D)(v:V):Prop:=Rp K l d v\/∃a j ds,d=.lst ds/\v=.ref a/\H a=Z (.lst j)/\RpL K l ds j
def RpQ.gr(g:Gr l H m H')(h:RpQ K l H d v):RpQ K m H' d v:=by
 rcases h with h|⟨a,j,ds,e,c,f,o⟩
 ·show .inl (h.same g.f)
 ·show .inr ⟨a,j,ds,e,c,g.h _ _ f,o.same g.f⟩
def RpQ.lst(s:Same l H)(h:RpQ K l H (.lst ds) v):∃a j,v=.ref a/\H a=Z (.lst j)/\RpL K l ds j:=by
 rcases h with h|⟨a,j,ds,e,g,c,f⟩
 ·cases h with|lst c f h3=>show⟨_,_,O,s _ _ c,f,h3⟩
 ·cases e;show⟨a,j,g,c,f⟩
def RpQ.fzl(s:Same l H)(h:RpQ K l H (.fzl ds) v):∃a j,v=.ref a/\SqL K H a j/\RpL K l ds j:=by
 rcases h with h|⟨a,j,ds,e,g,c,f⟩
 ·cases h with|fzl c f h3=>show⟨_,_,O,s.seq c,f,h3⟩
 ·cases e
def RpQ.tup(s:Same l H)(h:RpQ K l H (.tup ds) v):∃a j,v=.ref a/\SqT K H a j/\l a=Z (.tup j)/\RpL K l ds j:=by
 rcases h with h|⟨a,j,ds,e,g,c,f⟩
 ·cases h with|tup c f h3=>show⟨_,_,O,.of (s _ _ c),c,f,h3⟩
 ·cases e
def RpQ.int{i:Int}(h:RpQ K l H (.int i) v):v=.int i:=by
 rcases h with h|⟨a,j,ds,e,_⟩
 ·obtain rfl:=h.i;rfl
 ·cases e
def RpQ.bl{i:Bool}(h:RpQ K l H (.bl i) v):v=.bl i:=by
 rcases h with h|⟨a,j,ds,e,_⟩
 ·obtain rfl:=h.b;rfl
 ·cases e
def RpQ.str{i:Str}(h:RpQ K l H (.str i) v):v=.str i:=by
 rcases h with h|⟨a,j,ds,e,_⟩
 ·obtain rfl:=h.s;rfl
 ·cases e
def RpQ.non(h:RpQ K l H .non v):v=.non:=by
 rcases h with h|⟨a,j,ds,e,_⟩
 ·obtain rfl:=h.n;rfl
 ·cases e
def dQ:D->Ž (Y D)
 |.lst ds=>Z ds
 |.tup ds=>Z ds
 |.fzl ds=>Z ds
 |_=>ż
def RpQ.seq(s:Same l H)(h:RpQ K l H d v)(e:dQ d=Z ds):∃a j,v=.ref a/\(SqL K H a j\/SqT K H a j)/\RpL K l ds j:=by
 cases d with
 |lst ds=>cases e;let⟨a,j,e,c,f⟩:=h.lst s;show⟨a,j,e,.inl (.of c),f⟩
 |tup ds=>cases e;let⟨a,j,e,c,_,f⟩:=h.tup s;show⟨a,j,e,.inr c,f⟩
 |fzl ds=>cases e;let⟨a,j,e,c,f⟩:=h.fzl s;show⟨a,j,e,.inl c,f⟩
 |_=>cases e
def Rp.seq(h:Rp K l d v)(e:dQ d=Z ds):∃(b:Bool)(a:Addr)(j:Y V),v=.ref a/\SqB K b l a j/\RpL K l ds j:=by
 cases d with
 |lst ds=>cases e;cases h with|lst h1 h2 h3=>show⟨ž,_,_,O,SqL.of h1,h2,h3⟩
 |tup ds=>cases e;cases h with|tup h1 h2 h3=>show⟨β,_,_,O,SqT.of h1,h2,h3⟩
 |fzl ds=>cases e;cases h with|fzl h1 h2 h3=>show⟨ž,_,_,O,h1,h2,h3⟩
 |_=>cases e
end
inductive Ow where|lst (xs:List D)|dct (ks:List ai)|dcT (ks:List (List ai))
inductive Sl where|v (d:D)|ob (o:Ow)
abbrev Sl.own(xs:Y D):Sl:=.ob (.lst xs)
abbrev Sl.dct(a:Y ai):Sl:=.ob (.dct a)
abbrev Sl.dcT(a:Y (Y ai)):Sl:=.ob (.dcT a)
def OwR(K:Â)(f:Hp):Ow->HO->Prop
 |.lst ds,.lst e=>RpL K f ds e
 |.dct c,.dK a=>a.map (·.1)=c
 |.dcT c,.dT a=>a.map (·.1)=c
 |_,_=>False
def OwR.k{K:Â}{e:Hp}{o:Ow}{u:HO}(r:OwR K e o u):sV u:=by
 cases o with
 |lst ds=>
  cases u with
  |lst f=>show Ý
  |_=>show r.elim
 |dct c=>
  cases u with
  |dK a=>show Ý
  |_=>show r.elim
 |dcT c=>
  cases u with
  |dT a=>show Ý
  |_=>show r.elim
theorem OwR.same{K:Â}{c a:Hp}{o:Ow}{u:HO}(r:OwR K c o u)(s:Same c a):OwR K a o u:=by
 cases o with
 |lst ds=>
  cases u with
  |lst g=>show (show RpL K c ds g from r).same s
  |_=>show r.elim
 |dct f=>
  cases u with
  |dK e=>show r
  |_=>show r.elim
 |dcT f=>
  cases u with
  |dT e=>show r
  |_=>show r.elim
abbrev bh:=Y (Ž Sl)
def ur:FuncBody->Ž Pos
 |.stmts b=>(match b.getLast? with
  |some (.Return (Z (.Call _ _ a _)) _)=>a.findSome? λk=>(match k.value with|.Lambda _ _ _ pos=>Z pos|_=>ż)
  |_=>ż)
 |_=>ż
noncomputable def ja(K:Â)(x:Str):Ž (Addr×Array Value):=match Ü K Ã x with
 |some (Z (.ref f))=>(match K.lookup f with
  |some ⟨_,_,.func a,_⟩=>(match a.code with
   |.ref c=>(match K.lookup c with
    |some ⟨_,_,.fields e,_⟩=>(match (e[11]?:Ž Value),ur a.body with
     |some (.ref P),Z pos=>Z (P,#[ß pos.line,ß pos.col,.str (a.qualname++".<locals>."++"<lambda>") 0])
     |_,_=>ż)
    |_=>ż)
   |_=>ż)
  |_=>ż)
 |_=>ż
def bY(K:Â):Y (Addr×Array Value):=(["least_grown","greatest_first"]:Y Str).filterMap (ja K)
def TabF(K:Â)(a:Hp):Prop:=∀t∈bY K,a t.1=Z (.tbl t.2)
def TabF.same{K:Â}{c a:Hp}(h:TabF K c)(s:Same c a):TabF K a:=λt e=>s _ _ (h t e)
structure EnvD(K:Â)(H0 Φ H:Hp)(σ:St)(ρ:bh):Prop where
 fz:Same Φ H
 len:σ.length=ρ.length
 sl:∀(i:Nat)(d:D),ρ[i]?=Z (Z (.v d))->∃v,σ[i]?=Z (Z v)/\Rp K Φ d v
 ow:∀(i:Nat)(o:Ow),ρ[i]?=Z (Z (.ob o))->∃p u,σ[i]?=Z (Z (.ref p))/\H0 p=ż/\Φ p=ż/\H p=Z u/\OwR K Φ o u
 ne:∀(i j:Nat)(o w:Ow)(p:Addr),ρ[i]?=Z (Z (.ob o))->ρ[j]?=Z (Z (.ob w))->σ[i]?=Z (Z (.ref p))->σ[j]?=Z (Z (.ref p))->i=j
 tb:TabF K Φ
section
variable{K:Â}{m H H' f C:Hp}{a:St}{ρ:bh}{d:D}{v:V}{ds B:Y D}{A F:Y V}
def EnvD.owl(E:EnvD K m f H a ρ)(i:Nat)(ds:Y D)(h:ρ[i]?=Z (Z (.own ds))):∃p A,a[i]?=Z (Z (.ref p))/\m p=ż/\f p=ż/\H p=Z (.lst A)/\RpL K f ds A:=by
 let⟨p,u,e,h0,c,hp,r⟩:=E.ow i _ h
 cases u with
 |lst A=>show⟨p,A,e,h0,c,hp,r⟩
 |_=>show (show False from r).elim
def EnvD.gr(E:EnvD K m f H a ρ)(g:Gr f H C H'):EnvD K m C H' a ρ:=
 ⟨g.s,E.len,λi d h=>let ⟨v,e,r⟩:=E.sl i d h;⟨v,e,r.same g.f⟩,
  λi ds h=>let ⟨p,A,e,h0,hn,hp,r⟩:=E.ow i ds h;⟨p,A,e,h0,g.o p _ hp hn r.k,g.h _ _ hp,r.same g.f⟩,E.ne,E.tb.same g.f⟩
def ei{o:Type}{l:Y o}{i j:Nat}{x y:o}(h:(l.set i x)[j]?=Z y):(j=i/\i<l.length/\y=x)\/(j≠i/\l[j]?=Z y):=by
 by_cases c:i=j
 ·subst c
  have g:i<l.length:=by have:=aO h;rwa [Mc]at this
  rw[Mt g]at h;cases h;show .inl ⟨O,g,O⟩
 ·rw[Mq c]at h;show .inr ⟨λe=>c e.symm,h⟩
def EnvD.set(E:EnvD K m f H a ρ)(r:Rp K f d v)(i:Nat):EnvD K m f H (a.set i (Z v)) (ρ.set i (Z (.v d))):=by
 have nn:∀{j:Nat}{x:Ž V},j≠i->a[j]?=Z x->(a.set i (Z v))[j]?=Z x:=λc h=>by rwa[Mq (Mo c)]
 refine⟨E.fz,by rw[Mc,Mc,E.len],λj e h=>?_,λj ds h=>?_,λj k ds B p l o w y=>?_,E.tb⟩
 ·rcases ei h with⟨rfl,I,g⟩|⟨c,h⟩
  ·cases g;show⟨v,by rw[Mt (by rwa[E.len])],r⟩
  ·let⟨u,J,L⟩:=E.sl j e h;show⟨u,nn c J,L⟩
 ·rcases ei h with⟨rfl,I,g⟩|⟨c,h⟩
  ·cases g
  ·let⟨p,A,e,q⟩:=E.ow j ds h;show⟨p,A,nn c e,q⟩
 ·rcases ei l with⟨rfl,_,g⟩|⟨z,l⟩
  ·cases g
  rcases ei o with⟨rfl,_,g⟩|⟨G,o⟩
  ·cases g
  rw[Mq (Mo z)]at w;rw[Mq (Mo G)]at y;show E.ne j k ds B p l o w y
def EnvD.setOb(E:EnvD K m f H a ρ){p:Addr}{o:Ow}{u:HO}(r:OwR K f o u)(h0:m p=ż)(Q:f p=ż)(hp:H p=Z u)(J:∀(j:Nat)(w:Ow),ρ[j]?=Z (Z (.ob w))->a[j]?≠Z (Z (.ref p)))(i:Nat):EnvD K m f H (a.set i (Z (.ref p))) (ρ.set i (Z (.ob o))):=by
 have nn:∀{j:Nat}{x:Ž V},j≠i->a[j]?=Z x->(a.set i (Z (.ref p)))[j]?=Z x:=λc h=>by rwa[Mq (Mo c)]
 refine⟨E.fz,by rw[Mc,Mc,E.len],λj e h=>?_,λj ds h=>?_,λj k ds B q P M y l=>?_,E.tb⟩
 ·rcases ei h with⟨rfl,U,g⟩|⟨c,h⟩
  ·cases g
  ·let⟨u,R,S⟩:=E.sl j e h;show⟨u,nn c R,S⟩
 ·rcases ei h with⟨rfl,U,g⟩|⟨c,h⟩
  ·cases g;show⟨p,u,by rw[Mt (by rwa[E.len])],h0,Q,hp,r⟩
  ·let⟨p,A,e,q⟩:=E.ow j ds h;show⟨p,A,nn c e,q⟩
 ·rcases ei P with⟨g,hl,_⟩|⟨N,L⟩
  ·rcases ei M with⟨I,_,_⟩|⟨G,z⟩
   ·rw[g,I]
   ·rw[g,Mt (by rwa[E.len])]at y;cases y;rw[Mq (Mo G)]at l;show absurd l (J k _ z)
  ·rw[Mq (Mo N)]at y;rcases ei M with⟨I,hl,_⟩|⟨G,z⟩
   ·rw[I,Mt (by rwa[E.len])]at l;cases l;show absurd y (J j _ L)
   ·rw[Mq (Mo G)]at l;show E.ne j k _ _ q L z y l
def EnvD.putOb(E:EnvD K m f H a ρ){i:Nat}{p:Addr}{o o':Ow}{u:HO}(l:ρ[i]?=Z (Z (.ob o)))(I:a[i]?=Z (Z (.ref p)))(r:OwR K f o' u):EnvD K m f (au H p u) a (ρ.set i (Z (.ob o'))):=by
 let⟨T,A,e,h0,J,hp,_⟩:=E.ow i _ l;rw[I]at e;cases e;have S:=aO l;refine⟨λb u e=>?_,by rw[Mc,E.len],λj e h=>?_,λj fs h=>?_,λj k fs gs q y G P Q=>?_,E.tb⟩
 ·rw[aE (bN e J)];show E.fz b u e
 ·rcases ei h with⟨rfl,_,w⟩|⟨c,h⟩
  ·cases w
  ·show E.sl j e h
 ·rcases ei h with⟨rfl,_,w⟩|⟨c,h⟩
  ·cases w;show⟨p,u,I,h0,J,aW,r⟩
  ·let⟨q,R,e,M,N,U,am⟩:=E.ow j fs h;refine⟨q,R,e,M,N,?_,am⟩;rwa[aE λz=>c (E.ne j i fs o p h l (by rw[e,z]) I)]
 ·have g:∀{j:Nat}{fs:Ow},(ρ.set i (Z (.ob o')))[j]?=Z (Z (.ob fs))->∃gs,ρ[j]?=Z (Z (.ob gs)):=λ{j fs} h=>by
   rcases ei h with⟨rfl,_,_⟩|⟨_,h⟩
   ·show⟨o,l⟩
   ·show⟨fs,h⟩
  let⟨L,y⟩:=g y;let⟨x,G⟩:=g G;show E.ne j k L x q y G P Q
def EnvD.setOwn(E:EnvD K m f H a ρ){p:Addr}(r:RpL K f ds A)(h0:m p=ż)(e:f p=ż)(hp:H p=Z (.lst A))(c:∀(j:Nat)(w:Ow),ρ[j]?=Z (Z (.ob w))->a[j]?≠Z (Z (.ref p)))(i:Nat):EnvD K m f H (a.set i (Z (.ref p))) (ρ.set i (Z (.own ds))):=E.setOb (o:=.lst ds) (u:=.lst A) r h0 e hp c i
def EnvD.put(E:EnvD K m f H a ρ){i:Nat}{p:Addr}(c:ρ[i]?=Z (Z (.own ds)))(e:a[i]?=Z (Z (.ref p)))(r:RpL K f B F):EnvD K m f (au H p (.lst F)) a (ρ.set i (Z (.own B))):=E.putOb (o':=.lst B) (u:=.lst F) c e r
def EnvD.weak{c:bh}(E:EnvD K m f H a ρ)(hl:c.length=ρ.length)(e:∀(i:Nat) x,c[i]?=Z (Z x)->ρ[i]?=Z (Z x)):EnvD K m f H a c:=
 ⟨E.fz,by rw[E.len,hl],λi d h=>E.sl i d (e i _ h),λi ds h=>E.ow i ds (e i _ h),λi j ds B p g l=>E.ne i j ds B p (e i _ g) (e j _ l),E.tb⟩
end
inductive NF{α:Type}(x:α)(R:α->Prop):Prop|mk (y:α) (_:x=y) (_:R y)
def NF.get{a:Type}{x:a}{R:a->Prop}(h:NF x R):R x:=by let⟨_,rfl,h⟩:=h;show h
abbrev TD:=bh->(D->Prop)->Prop
abbrev aP:=bh->(Y D->Prop)->Prop
abbrev bT:=bh->(Bool->Prop)->Prop
inductive lE(K:Â)(t:TD)(σ:St)(H:Hp)(Q:VK):Prop|mk (H0:Hp) (Φ:Hp) (ρ:bh) (R:D->Prop) (_:EnvD K H0 Φ H σ ρ) (_:t ρ R) (_:∀d Φ' H' v,R d->Gr Φ H Φ' H'->Rp K Φ' d v->Q v H')
inductive lQ(K:Â)(t:TD)(σ:St)(H:Hp)(Q:VK):Prop|mk (H0:Hp) (Φ:Hp) (ρ:bh) (R:D->Prop) (_:EnvD K H0 Φ H σ ρ) (_:t ρ R) (_:∀d Φ' H' v,R d->Gr Φ H Φ' H'->RpQ K Φ' H' d v->Q v H')
inductive lF(K:Â)(t:aP)(σ:St)(H:Hp)(Q:VK):Prop|mk (H0:Hp) (Φ:Hp) (ρ:bh) (R:List D->Prop) (_:EnvD K H0 Φ H σ ρ) (_:t ρ R) (_:∀ds Φ' H' p vs,R ds->Gr Φ H Φ' H'->H p=ż->Φ' p=ż->H' p=Z (.lst vs)->RpL K Φ' ds vs->Q (.ref p) H')
inductive lA(K:Â)(n:Nat)(t:aP)(σ:St)(H:Hp)(Q:List V->Hp->Prop):Prop|mk (H0:Hp) (Φ:Hp) (ρ:bh) (R:List D->Prop) (_:EnvD K H0 Φ H σ ρ) (_:t ρ R) (_:∀ds Φ' H' vs,R ds->Gr Φ H Φ' H'->RpL K Φ' ds vs->ds.length=n->Q vs H')
inductive lT(K:Â)(t:bT)(σ:St)(H:Hp)(Q:Bool->Hp->Prop):Prop|mk (H0:Hp) (Φ:Hp) (ρ:bh) (R:Bool->Prop) (_:EnvD K H0 Φ H σ ρ) (_:t ρ R) (_:∀b Φ' H',R b->Gr Φ H Φ' H'->Q b H')
structure PD(K:Â)(X:Cx)(e:Å)(t:TD):Prop where pe:X.K=K->PE X e (lE K t)
structure PQ(K:Â)(X:Cx)(e:Å)(t:TD):Prop where pe:X.K=K->PE X e (lQ K t)
structure PF(K:Â)(X:Cx)(e:Å)(t:aP):Prop where pe:X.K=K->PE X e (lF K t)
structure PAD(K:Â)(X:Cx)(es:List Å)(t:aP):Prop where pa:X.K=K->PA X es (lA K es.length t)
structure PTD(K:Â)(X:Cx)(e:Å)(t:bT):Prop where pt:X.K=K->PT X e (lT K t)
structure PWD(K:Â)(X:Cx)(e:Å)(t:bT):Prop where pw:X.K=K->PW X e (lT K t)
def PE.imp{X:Cx}{e:Å}{t t':TE}(h:PE X e t)(k:∀c H Q,t' c H Q->t c H Q):PE X e t':=λa s c H Q I f=>h a s c H Q I (k c H Q f)
def PT.imp{X:Cx}{e:Å}{t t':TT}(h:PT X e t)(k:∀c H Q,t' c H Q->t c H Q):PT X e t':=λa s c H Q I f=>h a s c H Q I (k c H Q f)
def PW.imp{X:Cx}{e:Å}{t t':TT}(h:PW X e t)(k:∀c H Q,t' c H Q->t c H Q):PW X e t':=λg a s c H Q I f=>h g a s c H Q I (k c H Q f)
def PA.imp{X:Cx}{e:Y Å}{t t':TA}(h:PA X e t)(k:∀c H Q,t' c H Q->t c H Q):PA X e t':=λpos a s c H Q I f=>h pos a s c H Q I (k c H Q f)
def PS.imp{X:Cx}{e:Ë}{t t':TS}(h:PS X e t)(k:∀D c H,t' D c H->t D c H):PS X e t':=λa s c H D I f=>h a s c H D I (k D c H f)
def PSs.imp{X:Cx}{e:Y Ë}{t t':TS}(h:PSs X e t)(k:∀D c H,t' D c H->t D c H):PSs X e t':=λa s c H D I f=>h a s c H D I (k D c H f)
section
variable{K:Â}{X:Cx}{e a b c:Å}{m:Y Å}{pos:Pos}{t l tb:TD}{tf:aP}{tl:aP}{w z:bT}
def PD.q(h:PD K X e t):PQ K X e t:=⟨λp=>(h.pe p).imp λy H Q o=>by let⟨j,x,ρ,R,E,t,k⟩:=o;show⟨j,x,ρ,R,E,t,λd f H' v r g u=>k d f H' v r g (.inl u)⟩⟩
def n6(t:aP):TD:=λρ R=>t ρ λds=>R (.lst ds)
def PF.d(h:PF K X e tf):PD K X e (n6 tf):=⟨λu=>(h.pe u).imp λB H Q o=>by let⟨j,x,ρ,R,E,t,k⟩:=o;show⟨j,x,ρ,_,E,t,λds y H' p A r g h0 f hp v=>
 k (.lst ds) _ H' _ r (g.freeze h0 f hp) ((v.same (cz f _)).lst aW)⟩⟩
def wA(i:Nat):TD:=λρ R=>match ρ[i]? with|some (Z (.v d))=>R d|_=>False
def t9(i:Nat):TD:=λρ R=>match ρ[i]? with|some (Z (.v d))=>R d|some (Z (.ob (.lst ds)))=>R (.lst ds)|_=>False
def dv(i:Nat){x:Str}(j:X.N[i]?=Z x:=by rfl)(o:du X.env.scope x:=by nofun)(hd:ab x:=by decide)
  (g:ad x:=by decide):PD K X (.Name x pos) (wA i):=⟨λ_=>(pv i j o hd g).imp λy H Q f=>by
 let⟨u,p,ρ,R,E,t,k⟩:=f;unfold wA at t;split at t
 ·next d h=>
  let⟨v,e,r⟩:=E.sl i d h;show⟨v,e,k d p H v t (.refl E.fz) r⟩
 ·show t.elim⟩
def ae(i:Nat){x:Str}(o:X.N[i]?=Z x:=by rfl)(u:du X.env.scope x:=by nofun)(hd:ab x:=by decide)
  (j:ad x:=by decide):PQ K X (.Name x pos) (t9 i):=⟨λ_=>(pv i o u hd j).imp λB H Q g=>by
 let⟨A,f,ρ,R,E,t,k⟩:=g;unfold t9 at t;split at t
 ·next d h=>
  let⟨v,e,r⟩:=E.sl i d h;show⟨v,e,k d f H v t (.refl E.fz) (.inl r)⟩
 ·next ds h=>
  let⟨p,y,e,_,_,hp,r⟩:=E.owl i ds h;show⟨_,e,k _ f H _ t (.refl E.fz) (.inr ⟨p,y,ds,O,O,hp,r⟩)⟩
 ·show t.elim⟩
def dC(d:D):TD:=λ_ R=>R d
def mJ{v:V}{d:D}(h:PE X e (tC v))(r:∀f,Rp K f d v):PD K X e (dC d):=⟨λ_=>h.imp λo H Q g=>by let⟨j,f,ρ,R,E,t,k⟩:=g;show k d f H v t (.refl E.fz) (r f)⟩
def ax{i j}:PD K X (.Constant (.int i) j pos) (dC (.int i)):=mJ KB λ_=>.int i
def eP{i j}:PD K X (.Constant (.bool i) j pos) (dC (.bl i)):=mJ Lc λ_=>.bl i
def bQ{i j}:PD K X (.Constant (.str i) j pos) (dC (.str i)):=mJ DN λ_=>.str i
def gH{j}:PD K X (.Constant .none j pos) (dC .non):=mJ EW λ_=>.non
abbrev cJ:=D->D->(D->Prop)->Prop
inductive lR2(K:Â)(r:cJ)(x:V)(y:V)(H:Hp)(Q:VK):Prop|mk (Φ:Hp) (dx:D) (dy:D) (R:D->Prop) (_:Same Φ H) (_:RpQ K Φ H dx x) (_:RpQ K Φ H dy y) (_:r dx dy R) (_:∀d Φ' H' v,R d->Gr Φ H Φ' H'->Rp K Φ' d v->Q v H')
structure OpD(K:Â)(X:Cx)(f:Value->Value->Sem Value)(r:cJ):Prop where o:X.K=K->bG X f (lR2 K r)
def jk(r:cJ)(l tb:TD):TD:=λρ R=>l ρ λx=>tb ρ λy=>r x y R
def oh{r:cJ}{B:St}{H:Hp}{Q:VK}(h:lE K (jk r l tb) B H Q):iE (lR2 K r) (lQ K l) (lQ K tb) B H Q:=by let⟨u,M,ρ,R,E,t,k⟩:=h;show⟨u,M,ρ,_,E,t,λdx o N x J A G=>⟨u,o,ρ,_,E.gr A,J,λC p U y L f I=>⟨p,dx,C,R,f.s,G.gr f,I,L,λd j H' v r g F=>k d j H' v r ((A.trans f).trans g) F⟩⟩⟩
def aN{g:ò}{r:cJ}(o:OpD K X (Î g) r)(h:PQ K X a l)(j:PQ K X b tb):PD K X (.BinOp a g b pos) (jk r l tb):=
 ⟨λf=>(yt (o.o f) (h.pe f) (j.pe f)).imp λ_ _ _=>oh⟩
def tL{g:Ļ}{r:cJ}(p:OpD K X (Ì g) r)(h:PQ K X a l)(j:PQ K X b tb)(o:behindInMarks g b=β):PD K X (.Compare a [g] [b] pos) (jk r l tb):=
 ⟨λf=>(Gu (p.o f) (h.pe f) (j.pe f) o).imp λ_ _ _=>oh⟩
def zf(t:TD):bT:=λρ R=>t ρ λd=>match d with|.bl b=>R b|_=>False
def AL{r:cJ}{j:St}{H:Hp}{Q:Bool->Hp->Prop}(h:lT K (zf (jk r l tb)) j H Q):sx (iE (lR2 K r) (lQ K l) (lQ K tb)) j H Q:=by let⟨o,u,ρ,R,E,t,k⟩:=h;refine oh ⟨o,u,ρ,_,E,t,λd f H' v r g p=>?_⟩;let⟨b,rfl,r⟩:=kg r;obtain rfl:=p.b;show⟨b,O,k b f H' r g⟩
def aX{g:Ļ}{r:cJ}(p:OpD K X (Ì g) r)(h:PQ K X a l)(j:PQ K X b tb)(o:behindInMarks g b=β):PTD K X (.Compare a [g] [b] pos) (zf (jk r l tb)):=
 ⟨λf=>(wu (p.o f) (h.pe f) (j.pe f) o).imp λ_ _ _=>AL⟩
abbrev sM:=D->(D->Prop)->Prop
def uB(r:sM)(l:TD):TD:=λρ R=>l ρ λx=>r x R
def Di:sM:=λx R=>match x with|.int i=>R (.int (-i))|_=>False
def lZ(u:PQ K X a l):PD K X (.UnaryOp .USub a pos) (uB Di l):=⟨λr=>(K9 Kz (u.pe r)).imp λA H Q o=>by let⟨h,y,ρ,R,E,t,k⟩:=o;show⟨h,y,ρ,_,E,t,λdx g j x f p v=>by
 let⟨i,rfl,f⟩:=ie f
 show⟨i,v.int,k _ g j _ f p (.int _)⟩⟩⟩
def Cb:sM:=λx R=>match x with|.bl i=>R (.bl (!i))|_=>False
def Kj(u:PQ K X a l):PD K X (.UnaryOp .Not a pos) (uB Cb l):=⟨λr=>(KR (u.pe r)).imp λA H Q o=>by let⟨h,y,ρ,R,E,t,k⟩:=o;show⟨h,y,ρ,_,E,t,λdx g j x f p v=>by
 let⟨i,rfl,f⟩:=kg f
 show⟨i,v.bl,k _ g j _ f p (.bl _)⟩⟩⟩
noncomputable def wH:D->(Bool->Prop)->Prop:=λd R=>match d with
 |.int i=>R (i != 0)|.bl b=>R b|.non=>R β|.str x=>x.length<=sizeLine/\R ((x.length:Int) != 0)|.lst ds=>R (!ds.isEmpty)|.tup ds=>R (!ds.isEmpty)|.fzl ds=>R (!ds.isEmpty)|.obj _ _=>False|.map _=>False|.exc _ _=>False
def sr{g:Hp}{ds:Y D}{f:Y V}(h:RpL K g ds f):(!ds.isEmpty)=!f.isEmpty:=by have:=h.1;cases ds<;>cases f<;>simp_all
def Df{o H:Hp}{d:D}{v:V}{R:Bool->Prop}(s:Same o H)(h:RpQ K o H d v)(t:wH d R):∃k,qg K v H k/\R k:=by
 cases d with
 |int i=>rw[h.int];show⟨_,O,t⟩
 |bl i=>rw[h.bl];show⟨_,O,t⟩
 |non=>rw[h.non];show⟨_,O,t⟩
 |str i=>rw[h.str];show⟨_,⟨t.1,O⟩,t.2⟩
 |lst ds=>let⟨a,j,rfl,f,g⟩:=h.lst s;show⟨_,.inl ⟨j,.of f,O⟩,by rwa[←sr g]⟩
 |tup ds=>let⟨a,j,rfl,f,_,g⟩:=h.tup s;show⟨_,.inr (.inl ⟨j,f,O⟩),by rwa[←sr g]⟩
 |fzl ds=>let⟨a,j,rfl,f,g⟩:=h.fzl s;show⟨_,.inl ⟨j,f,O⟩,by rwa[←sr g]⟩
 |obj C fs=>show t.elim
 |map p=>show t.elim
 |exc _ _=>show t.elim
def JS(t:TD):bT:=λρ R=>t ρ λd=>wH d R
def gG(y:PQ K X a l)(A:∀f,isTrue a X.env f=(do let v ←f;standAt a.pos;holding [v] (truthy v))):PTD K X a (JS l):=
 ⟨λj=>(JT (y.pe j) A).imp λG H Q r=>by let⟨o,F,ρ,R,E,t,k⟩:=r;show⟨o,F,ρ,_,E,t,λd g p v C h B=>by
  let⟨b,u,x⟩:=Df h.s B C;rw[j]
  show⟨b,u,k b g p x h⟩⟩⟩
def Ao(t u:bT):bT:=λρ R=>t ρ λc=>(c=ž->u ρ R)/\(c=β->R β)
def Em(t u:bT):bT:=λρ R=>t ρ λc=>(c=ž->R ž)/\(c=β->u ρ R)
def K5(t:bT):bT:=λρ R=>t ρ λc=>R (!c)
def PWD.td(h:PWD K X e w):PTD K X e w:=⟨λf=>(h.pw f).pt⟩
def sW(g:PTD K X a w):PWD K X (.BoolOp .And [a] pos) w:=⟨λf=>Ca (g.pt f)⟩
def iQ(g:PTD K X a w):PWD K X (.BoolOp .Or [a] pos) w:=⟨λf=>Jv (g.pt f)⟩
def sE(v:PTD K X a w)(x:PWD K X (.BoolOp .And (b::m) pos) z):PWD K X (.BoolOp .And (a::b::m) pos) (Ao w z):=
 ⟨λo=>(CH (v.pt o) (x.pw o)).imp λA H Q u=>by let⟨j,y,ρ,R,E,t,k⟩:=u;show⟨j,y,ρ,_,E,t,λc f p r g=>by
  cases c with
  |true=>rw[LI O];show⟨j,f,ρ,R,E.gr g,r.1 O,λb h H' rb g'=>k b h H' rb (g.trans g')⟩
  |false=>rw[LG 'b'];show k _ f p (r.2 O) g⟩⟩
def gN(v:PTD K X a w)(x:PWD K X (.BoolOp .Or (b::m) pos) z):PWD K X (.BoolOp .Or (a::b::m) pos) (Em w z):=
 ⟨λo=>(Bv (v.pt o) (x.pw o)).imp λA H Q u=>by let⟨j,y,ρ,R,E,t,k⟩:=u;show⟨j,y,ρ,_,E,t,λc f p r g=>by
  cases c with
  |true=>rw[LI O];show k _ f p (r.1 O) g
  |false=>rw[LG 'b'];show⟨j,f,ρ,R,E.gr g,r.2 O,λb h H' rb g'=>k b h H' rb (g.trans g')⟩⟩⟩
def gK(u:PTD K X a w):PTD K X (.UnaryOp .Not a pos) (K5 w):=
 ⟨λp=>(HC (u.pt p)).imp λx H Q o=>by let⟨h,v,ρ,R,E,t,k⟩:=o;show⟨h,v,ρ,_,E,t,λc f j r g=>k _ f j r g⟩⟩
def Bf(t u:TD):TD:=λρ R=>t ρ λc=>match c with|.bl c=>(c=ž->u ρ R)/\(c=β->R (.bl β))|_=>False
def wM{op}(h:PD K X a l):PD K X (.BoolOp op [a] pos) l:=⟨λf=>HQ (h.pe f)⟩
def xT(x:PD K X a l)(y:PD K X (.BoolOp .And (b::m) pos) tb):PD K X (.BoolOp .And (a::b::m) pos) (Bf l tb):=
 ⟨λo=>(Ey (x.pe o) (y.pe o)).imp λF H Q u=>by let⟨j,C,ρ,R,E,t,k⟩:=u;show⟨j,C,ρ,_,E,t,λc f p v r g B=>by
  let⟨c,rfl,r⟩:=kg r;obtain rfl:=B.b;refine⟨c,O,?_⟩
  cases c with
  |true=>rw[LI O];show⟨j,f,ρ,R,E.gr g,r.1 O,λb h H' v rb g' A=>k b h H' v rb (g.trans g') A⟩
  |false=>rw[LG 'b'];show k _ f p _ (r.2 O) g (.bl _)⟩⟩
def DP(t:bT)(u v:TD):TD:=λρ R=>t ρ λc=>(c=ž->u ρ R)/\(c=β->v ρ R)
def rK(A:PTD K X c w)(x:PD K X a l)(y:PD K X b tb):PD K X (.IfExp c a b pos) (DP w l tb):=
 ⟨λo=>(FI (A.pt o) (x.pe o) (y.pe o)).imp λF H Q u=>by let⟨j,B,ρ,R,E,t,k⟩:=u;show⟨j,B,ρ,_,E,t,λc h C r g=>by
  cases c with
  |true=>rw[LI O];show⟨j,h,ρ,R,E.gr g,r.1 O,λb f H' v rb g' p=>k b f H' v rb (g.trans g') p⟩
  |false=>rw[LG 'b'];show⟨j,h,ρ,R,E.gr g,r.2 O,λb f H' v rb g' p=>k b f H' v rb (g.trans g') p⟩⟩⟩
def yJ:aP:=λ_ R=>R []
def zG(t:TD)(u:aP):aP:=λρ R=>t ρ λd=>u ρ λds=>R (d::ds)
def aj:PAD K X [] yJ:=⟨λ_=>pa_nil.imp λj H Q f=>by let⟨h,g,ρ,R,E,t,k⟩:=f;show k [] g H [] t (.refl E.fz) .nil O⟩
def af(y:PD K X e t)(A:PAD K X m tl)(B:Á (e::m) X.env=(β,eval e X.env)::Á m X.env):PAD K X (e::m) (zG t tl):=
 ⟨λp=>(dR (y.pe p) (A.pa p) B).imp λL H Q x=>by let⟨j,G,ρ,R,E,t,k⟩:=x;show⟨j,G,ρ,_,E,t,λd f I v r g F=>⟨j,f,ρ,_,E.gr g,r,λds h u J C o rl hl=>
  k _ h u _ C (g.trans o) (.cons (F.same o.f) rl) (by rw[LX,LX,hl])⟩⟩⟩
def FG(t:aP):TD:=λρ R=>t ρ λds=>R (.tup ds)
def D5(t:aP):aP:=t
def pW{n:Nat}(h:Nat.ble n 1000=ž):n<=sizeLine:=L6 (Nat.le_of_ble_eq_true h) 'b'
def bO{x1}(h:PAD K X m tl)(o:Nat.ble m.length 1000=ž:=by rfl):PD K X (.Tuple m x1 pos) (FG tl):=
 ⟨λu=>(vL (h.pa u)).imp λB H Q j=>by let⟨f,v,ρ,R,E,t,k⟩:=j;show⟨f,v,ρ,_,E,t,λds x y A r g rl hl=>⟨by rw[rl.1,hl];show pW o,λp hp=>
  k _ _ _ _ r (g.trans (.new g.s hp _)) ((rl.same (cz (g.s.free hp) _)).tup aW)⟩⟩⟩
def fw(h:PAD K X m tl)(o:Nat.ble m.length 1000=ž:=by rfl):PF K X (.List m pos) (D5 tl):=
 ⟨λu=>(EI (h.pa u)).imp λB H Q j=>by let⟨f,x,ρ,R,E,t,k⟩:=j;show⟨f,x,ρ,_,E,t,λds y A v r g rl hl=>⟨by rw[rl.1,hl];show pW o,λp hp=>
  k _ _ _ p v r (g.trans (.fresh g.s hp _)) (g.h.free hp) (g.s.free hp) aW rl⟩⟩⟩
end
end L2
namespace L2
open PySem PySem.Spec PyProof.Rows PySem.Builtin PySem.Builtin.Str
section
variable{X:Cx}
def fX(z:Str)(lo a:Ž Int):Str:=⟨(cE z.cps.toList lo a).toArray⟩
def wB(z:Str)(lo c:Ž Int):Txt.slice z lo c=fX z lo c:=by
 have key:strSliceIndices lo c 1 z.length=(List.range (HT.sIx z.length z.length c-HT.sIx z.length 0 lo)).map λk=>HT.sIx z.length 0 lo+k:=by
  have f:∀(i:Int)(d:Nat),max 0 (min (if i<0 then i+(z.length:Int) else i) (z.length:Int))=(HT.sIx z.length d (Z i):Int):=λi d=>by change max 0 (min (if i<0 then i+(z.length:Int) else i) (z.length:Int))=((if i<0 then (i+(z.length:Int)).toNat else min i.toNat z.length:Nat):Int);split<;>omega
  have o:strSliceIndices lo c 1 z.length=sliceRange (HT.sIx z.length 0 lo:Int) (HT.sIx z.length z.length c:Int) 1:=by cases lo<;>cases c<;>simp only[strSliceIndices,show (1:Int)>0 by decide,NT,f _ 0,f _ z.length]<;>rfl
  rw[o];unfold sliceRange;simp only[show (1:Int)>0 by decide,NT]
  have p:(if (HT.sIx z.length 0 lo:Int)<(HT.sIx z.length z.length c:Int) then ((HT.sIx z.length z.length c:Int)-(HT.sIx z.length 0 lo:Int)+1-1)/1 else 0).toNat=HT.sIx z.length z.length c-HT.sIx z.length 0 lo:=by
   split
   ·rw[QX];omega
   ·omega
  rw[p];refine NV λk _=>?_;omega
 have g:HT.sIx z.length z.length c<=z.length:=by
  cases c with
  |none=>show LM _
  |some i=>
   change (if i<0 then (i+(z.length:Int)).toNat else min i.toNat z.length)<=z.length;split<;>omega
 have u:HT.sIx z.length 0 lo<=z.length:=by
  cases lo with
  |none=>show ME _
  |some i=>
   change (if i<0 then (i+(z.length:Int)).toNat else min i.toNat z.length)<=z.length;split<;>omega
 have pick:(strSliceIndices lo c 1 z.length).filterMap (z.cps[·]?)=cE z.cps.toList lo c:=by
  rw[key];unfold cE
  have e:z.cps.toList.length=z.length:=by rw[Nl];rfl
  rw[e];generalize HT.sIx z.length 0 lo=a;generalize v:HT.sIx z.length z.length c=b at g;refine Nj λj=>?_;rw[P6]
  have:∀m,m<=b-a->((List.range m).filterMap ((λx=>z.cps[x]?) ∘ λk=>a+k))=(z.cps.toList.drop a).take m:=by
   intro m
   induction m with
   |zero=>intro _;simp
   |succ m r=>
    intro y;rw[OI,List.filterMap_append,r ()]
    have l:a+m<z.cps.size:=by unfold Str.length at g;omega
    have w:z.cps.toList.drop a=z.cps.toList.drop a:=rfl
    have hl:m<(z.cps.toList.drop a).length:=by rw[Oa,e];unfold Str.length;omega
    rw[N7,OQ];congr 1;simp[l]
  rw[this _ (LM _)]
 unfold Txt.slice fX;split
 ·next h=>
  have hl:(strSliceIndices lo c 1 z.length).length=z.length:=by simpa using h
  have e:z.cps.toList.length=z.length:=by rw[Nl];rfl
  have:cE z.cps.toList lo c=z.cps.toList:=by
   rw[key,LC,L4]at hl;unfold cE;rw[e]
   have:HT.sIx z.length 0 lo=0:=by omega
   rw[this,P1,Ot (by rw[e];omega)]
  rw[this]
 ·rw[pick]
def uH(z:Str)(lo a:Ž Int):(fX z lo a).length<=z.length:=by rw[←wB];show Ų z lo a
def zu:V->Ž Int->Ž Int->Hp->VK->Prop:=λx lo a H Q=>∃z,x=.str z/\z.length<=sizeLine/\Q (.str (fX z lo a)) H
def vY{v:Value}{o:Ž Int}(h:õ v o):∃p:Ž (Int×þ),v=partValue p/\p.map (·.1)=o:=by
 cases h with
 |none=>show⟨ż,O,O⟩
 |int i t=>show⟨Z (i,t),O,O⟩
def CA:SlR X zu:=by
 intro e s G H x v C E lo B sl Q I A p w y h;let⟨z,rfl,r,q⟩:=h;let⟨t,rfl⟩:=A;let⟨a,rfl,rfl⟩:=vY w;let⟨c,rfl,rfl⟩:=vY y;refine⟨"str",_,F.slot_str_getitem.lookup,Ŝ _ _ _,?_⟩
 have f:s.heap.IsSlice sl a c ż:=by let⟨o,m,g,j⟩:=p;show⟨o,m,g,j⟩
 refine wpAny_getItem_str_slice (l:=a) (u:=c) (st:=ż) f O (post_val_or_str ⟨?_,λt' k=>?_⟩)
 ·show L6 (Ų z _ _) r
 ·refine⟨.str (fX z (a.map (·.1)) (c.map (·.1))),H,?_,⟨t',?_⟩,q⟩
  ·show I.tok _
  ·rw[←wB];rfl
def eK(z:Str)(n:Nat):Str:=⟨((List.replicate n z.cps.toList).flatten).toArray⟩
def Co(z:Str):eK z 1=z:=by unfold eK;simp
theorem yZ:∀(n:Nat)(x a:Array Nat),(List.replicate n x).foldl (·++·) a=a++((List.replicate n x.toList).flatten).toArray
 |0,x,a=>by simp
 |n+1,x,a=>by rw[MV,Oi,yZ n x (a++x),MV,MN];apply Ŵ;simp
def jg(z:Str)(n:Nat):(eK z n).length=z.length*n:=by unfold eK Str.length;simp[Pu]
def CU:R2:=λx y H Q=>∃z k,x=.str z/\y=.int k/\-(2^62)<=k/\k<2^62/\z.length*k.toNat<=sizeLine/\z.length<=sizeLine/\Q (.str (eK z k.toNat)) H
def JE:bG X (Î .Mult) CU:=by
 intro j s G H x y v u Q I r w h;let⟨z,k,rfl,rfl,A,B,m,C,q⟩:=h;let⟨t,rfl⟩:=r;let⟨t',rfl⟩:=w;refine P.mul_str (by rw[L7 (),L7 ()];rfl) (λl a=>?_) (λl a=>?_) ?_
 ·intro F
  have p:0<k:=by omega
  have o:((z.length:Int))*k<=2^24:=by have:((z.length*k.toNat:Nat):Int)<=(sizeLine:Int):=Int.ofNat_le.mpr m;rw[Int.natCast_mul,Int.toNat_of_nonneg ()]at this;show this
  have E:(z.length:Int)<=(2^63-1)/k:=(Int.le_ediv_iff_mul_le p).mpr (Int.le_trans o 'b');omega
 ·unfold tooLong;show L7 ()
 ·by_cases c:k<1
  ·rw[LI c]
   have e:k.toNat=0:=by omega
   rw[e]at q;show⟨'b',.str Str.empty,H,I.tok _,⟨_,O⟩,q⟩
  ·rw[LG c];by_cases a:(k==1 ||z.length==0)=ž
   ·rw[LI a]
    have e:eK z k.toNat=z:=by
     rw[Bool.or_eq_true]at a;rcases a with a|a
     ·have:=eq_of_beq a;subst this;show Co z
     ·have g:z.cps.toList=[]:=by have:=eq_of_beq a;unfold Str.length at this;show Nz.mp (by rwa[Nl])
      unfold eK;rw[g]
      have f:z.cps=#[]:=by apply Ŵ;rw[g]
      apply Str.ext';rw[f];simp
    rw[e]at q;show⟨.str z,H,I,⟨t,O⟩,q⟩
   ·rw[LG a]
    have e:(⟨(List.replicate k.toNat z.cps).foldl (·++·) #[]⟩:Str)=eK z k.toNat:=by rw[yZ];unfold eK;simp
    rw[e];refine⟨by rwa[jg],.str (eK z k.toNat),H,I.tok _,⟨_,O⟩,q⟩
end
def Bo:R2:=λx y H Q=>∃a b xs ys,x=.ref a/\y=.ref b/\H a=Z (.tup xs)/\H b=Z (.tup ys)/\xs.length+ys.length<=sizeLine/\∀p H',Same H H'->H' p=Z (.tup (xs++ys))->Q (.ref p) H'
def Hu{X:Cx}:bG X (Î .Add) Bo:=by
 intro c s A H x y v u Q I l m h;let⟨a,b,xs,ys,rfl,rfl,g,f,o,q⟩:=h;by_cases j:xs=[]
 ·subst j;cases l;cases m;let⟨its,z,r,_⟩:=I.tuple (SqT.of g);let⟨B,C,w,_⟩:=I.tuple (SqT.of f);show ID r w (z.nil_iff.mpr O) ⟨.ref b,H,I,O,q b H (Same.refl H) f⟩
 ·refine Ji c s A H _ _ v u Q I l m ⟨a,b,xs,ys,O,O,SqT.of g,SqT.of f,j,o,λe=>?_,λ_ p hp=>q p _ (cz hp _) aW⟩;subst e;show q a H (Same.refl H) (by rwa[ML])
def GL:R2:=λx y H Q=>∃(a:Addr)(k:Int)(xs:Y V),x=.ref a/\y=.int k/\H a=Z (.tup xs)/\xs≠[]/\0<=k/\k<=1000/\k.toNat*xs.length<=1000/\∀p H',Same H H'->H' p=Z (.tup (List.replicate k.toNat xs).flatten)->Q (.ref p) H'
def GV{X:Cx}:bG X (Î .Mult) GL:=by
 intro l s σ H x y v u Q I rx ry h;let⟨a,k,xs,rfl,rfl,R,S,h0,h1,be,q⟩:=h;cases rx;let⟨t,rfl⟩:=ry;let⟨its,r,am,_⟩:=I.tuple (SqT.of R);have M:its≠[]:=λz=>S (r.nil_iff.mp z);have hl:=r.length
 have f:its.toArray.isEmpty=β:=by cases its with|nil=>show absurd O M|cons _ _=>rfl
 let⟨⟨cls,m,data,sl⟩,c,K,n,hd⟩:=id am;simp only at K hd;subst K hd
 refine Ħ (T:="tuple") (U:="int") 'b' ⟨_,c,O⟩ (λs'=>Qm s' k t) FB F.fills_int_mul Pt Dj F.slot_int_index.lookup
  (NO Pt (Qm s k t) F.entry_int_rmul (F.args_int_rmul_2 _ _) (Ia k t a its.toArray n m sl)
   ⟨c,O,⟨_,c,O⟩,?_⟩)
 have C:List.foldl (λx1 x2=>x1++x2) #[] (List.replicate k.toNat its.toArray)=(List.replicate k.toNat its).flatten.toArray:=by have:=rH its k.toNat [];rw[Pq]at this;show this
 have E:¬ (decide (k < -(2^63)) ||decide (k≥2^63))=ž:=by rw[L7 (),L7 ()];show Ml
 by_cases J:k=1
 ·subst J;refine NO OB ⟨_,c,O⟩ Qi (Qb _ _) (HP a its.toArray n m sl t) ⟨c,?_⟩;refine⟨.ref a,H,I,O,q a H (Same.refl H) ?_⟩;change H a=Z (.tup (List.replicate 1 xs).flatten);rwa[List.replicate_one,MN,List.flatten_nil,ML]
 ·have G:¬ (its.toArray.isEmpty ||k==1)=ž:=by rw[f,Nk.mpr J];show Ml
  have j:∀ys:Y V,∀B:Y Value,ys.length<=sizeLine->Vals ys B->EP X l σ Q (.ref s.heap.objs.size) { s with heap:=s.heap.push { cls:=Value.type "tuple",data:=Data.seq B.toArray },toks:=s.toks }\/¬ (∀p H',Same H H'->H' p=Z (.tup ys)->Q (.ref p) H'):=λys B A rr=>by
   by_cases L:∀p H',Same H H'->H' p=Z (.tup ys)->Q (.ref p) H'
   ·refine .inl ⟨.ref s.heap.objs.size,_,I.laid (t':=s.toks) (o:=.tup ys) (λb ob z=>LK _ z) (LM _) ?_,O,L _ _ (cz (I.hok.fresh (LM _)) _) aW⟩;show⟨A,_,rr,IsTupD.new _ _⟩
   ·show .inr L
  by_cases P:k=0
  ·subst P;refine NO OB ⟨_,c,O⟩ Qi (Qb _ _) (Fj a its.toArray n m sl 0 t E G O) ⟨c,?_⟩;rcases j [] [] (ME _) .nil with z|z
   ·show z
   ·show absurd q z
  ·have N:¬ (decide (k<=0) ||its.toArray.isEmpty)=ž:=by rw[f,L7 ()];show Ml
   have g:its.length*k.toNat<=1000:=by rwa[←hl,Pu]
   have w:(its.toArray.size:Int)*k<=1000:=by
    rw[LR]
    have e:k=((k.toNat:Nat):Int):=by omega
    rw[e]
    exact_mod_cast g
   have hs:(1000:Int)<=((sizeLine:Nat):Int):=by exact_mod_cast small (LM 1000)
   have a_:(List.replicate k.toNat its).flatten.length<=1000:=by rwa[p8,Pu]
   refine NO OB ⟨_,c,O⟩ Qi (Qb _ _) (KU a its.toArray n m sl k t E G N () (by unfold Builtin.Tuple.tupleTooMany;rw[L7 ()];show Ml) (by rw[C,LR];show small a_)) ⟨c,?_⟩;rw[C];rcases j (List.replicate k.toNat xs).flatten (List.replicate k.toNat its).flatten (by rw[p8];show small be) (r.rep k.toNat)with z|z
   ·show z
   ·show absurd q z
end L2
namespace L2
open PySem PySem.Spec PyProof.Rows
section
variable{K:Â}{X:Cx}{e a b:Å}
noncomputable def K4:cJ:=λx y R=>match x,y with
 |.int i,.int j=>R (.int (i+j))
 |.str i,.str j=>i.length+j.length<=sizeLine/\R (.str (i++j))
 |.lst xs,.lst ys=>xs.length+ys.length<=sizeLine/\NF (xs++ys) λc=>R (.lst c)
 |.tup xs,.tup ys=>xs.length+ys.length<=sizeLine/\NF (xs++ys) λc=>R (.tup c)
 |_,_=>False
def cg:OpD K X (Î .Add) K4:=⟨λS c s A H x y v u Q I w z M=>by
 let⟨L,dx,m,R,sm,o,r,h,k⟩:=M
 cases dx with
 |int i=>
  cases m with
  |int j=>cases o.int;cases r.int;show E7 c s A H _ _ v u Q I w z ⟨i,j,O,O,k _ L H _ h (.refl sm) (.int _)⟩
  |_=>show h.elim
 |str i=>
  cases m with
  |str j=>cases o.str;cases r.str;show JA c s A H _ _ v u Q I w z ⟨i,j,O,O,h.1,k _ L H _ h.2 (.refl sm) (.str _)⟩
  |_=>show h.elim
 |lst xs=>
  cases m with
  |lst ys=>
   let⟨a,C,rfl,G,f⟩:=o.lst sm;let⟨b,E,rfl,J,l⟩:=r.lst sm;show Kv c s A H _ _ v u Q I w z ⟨a,b,C,E,O,O,G,J,by rw[f.1,l.1];show h.1,λp hp=>k _ _ _ _ h.2.get (.new sm hp _) (((f.append l).same (cz (sm.free hp) _)).lst aW)⟩
  |_=>show h.elim
 |tup xs=>
  cases m with
  |tup ys=>
   let⟨a,C,rfl,G,N,f⟩:=o.tup sm;let⟨b,E,rfl,J,B,l⟩:=r.tup sm
   show Hu c s A H _ _ v u Q I w z ⟨a,b,C,E,O,O,sm _ _ N,sm _ _ B,by rw[f.1,l.1];show h.1,λp H' P q=>by
    let⟨F,g,U⟩:=Gr.adoptT sm P q
    show k _ F H' _ h.2.get g (((f.append l).same g.f).tup U)⟩
  |_=>show h.elim
 |_=>show h.elim⟩
def zI(C:Int->Int->Prop)(g:Int->Int->D):cJ:=λx y R=>match x,y with|.int i,.int j=>C i j/\R (g i j)|_,_=>False
def jv(g:Int->Int->D):cJ:=λx y R=>match x,y with|.int i,.int j=>R (g i j)|_,_=>False
def oN{f:Value->Value->Sem Value}{C:Int->Int->Prop}{g:Int->Int->Int}(h:bG X f (rI C λi j=>.int (g i j))):OpD K X f (zI C λi j=>.int (g i j)):=
 ⟨λB c s A H x y v u Q I r w l=>by
  let⟨z,dx,m,R,sm,o,p,q,k⟩:=l
  cases dx with
  |int i=>
   cases m with
   |int j=>cases o.int;cases p.int;show h c s A H _ _ v u Q I r w ⟨i,j,O,O,q.1,k _ z H _ q.2 (.refl sm) (.int _)⟩
   |_=>show q.elim
  |_=>show q.elim⟩
def AX{f:Value->Value->Sem Value}{g:Int->Int->Int}(h:bG X f (gp λi j=>.int (g i j))):OpD K X f (jv λi j=>.int (g i j)):=
 ⟨λB c s A H x y v u Q I r w l=>by
  let⟨z,dx,m,R,sm,o,p,q,k⟩:=l
  cases dx with
  |int i=>
   cases m with
   |int j=>cases o.int;cases p.int;show h c s A H _ _ v u Q I r w ⟨i,j,O,O,k _ z H _ q (.refl sm) (.int _)⟩
   |_=>show q.elim
  |_=>show q.elim⟩
def nC{f:Value->Value->Sem Value}{g:Int->Int->Bool}(h:bG X f (gp λi j=>.bl (g i j))):OpD K X f (jv λi j=>.bl (g i j)):=
 ⟨λB c s A H x y v u Q I r w l=>by
  let⟨z,dx,m,R,sm,o,p,q,k⟩:=l
  cases dx with
  |int i=>
   cases m with
   |int j=>cases o.int;cases p.int;show h c s A H _ _ v u Q I r w ⟨i,j,O,O,k _ z H _ q (.refl sm) (.bl _)⟩
   |_=>show q.elim
  |_=>show q.elim⟩
def gv:OpD K X (Î .Sub) (jv λi j=>.int (i-j)):=AX HA
def kU:OpD K X (Î .FloorDiv) (zI CDivB λi j=>.int (i/j)):=oN C6
def g6:OpD K X (Î .Mod) (zI (λ_ j=>0<j) λi j=>.int (i % j)):=oN B5
def ue:OpD K X (Î .Pow) (zI yj λi j=>.int (i^j.toNat)):=oN Fi
def gD:OpD K X (Ì .Lt) (jv λi j=>.bl (decide (i<j))):=nC Ax
def wN:OpD K X (Ì .LtE) (jv λi j=>.bl (decide (i<=j))):=nC Hj
def jb:OpD K X (Ì .Gt) (jv λi j=>.bl (decide (j<i))):=nC En
def CP:OpD K X (Ì .GtE) (jv λi j=>.bl (decide (j<=i))):=nC Ex
noncomputable def Kl:cJ:=λx y R=>match x,y with
 |.int i,.int j=>Ą i j/\R (.int (i*j))
 |.lst xs,.int k=>(-(2^63)<=k/\k<2^63/\xs.length*k.toNat<=sizeLine)/\NF (List.replicate k.toNat xs).flatten λc=>R (.lst c)
 |.tup xs,.int k=>(xs≠[]/\0<=k/\k<=1000/\k.toNat*xs.length<=1000)/\NF (List.replicate k.toNat xs).flatten λc=>R (.tup c)
 |.str z,.int k=>(-(2^62)<=k/\k<2^62/\z.length*k.toNat<=sizeLine/\z.length<=sizeLine)/\NF (eK z k.toNat) λy=>R (.str y)
 |_,_=>False
def cW:OpD K X (Î .Mult) Kl:=⟨λU c s B H x y v u Q I r w G=>by
 let⟨F,dx,l,R,sm,m,o,h,k⟩:=G
 cases dx with
 |int i=>
  cases l with
  |int j=>cases m.int;cases o.int;show Az c s B H _ _ v u Q I r w ⟨i,j,O,O,h.1,k _ F H _ h.2 (.refl sm) (.int _)⟩
  |_=>show h.elim
 |lst xs=>
  cases l with
  |int j=>
   let⟨a,A,rfl,E,f⟩:=m.lst sm;cases o.int;show IL c s B H _ _ v u Q I r w ⟨a,j,A,O,O,E,h.1.1,h.1.2.1,by rw[f.1];show h.1.2.2,λp hp=>k _ _ _ _ h.2.get (.new sm hp _) (((f.rep _).same (cz (sm.free hp) _)).lst aW)⟩
  |_=>show h.elim
 |tup xs=>
  cases l with
  |int j=>
   let⟨a,A,rfl,E,L,f⟩:=m.tup sm;cases o.int;have J:A≠[]:=λe=>h.1.1 (Nz.mp (by rw[←f.1,e];rfl))
   show GV c s B H _ _ v u Q I r w ⟨a,j,A,O,O,sm _ _ L,J,h.1.2.1,h.1.2.2.1,by rw[f.1];show h.1.2.2.2,λp H' N q=>by
    let⟨C,g,M⟩:=Gr.adoptT sm N q
    show k _ C H' _ h.2.get g (((f.rep _).same g.f).tup M)⟩
  |_=>show h.elim
 |str z=>
  cases l with
  |int j=>
   cases m.str;cases o.int;show JE c s B H _ _ v u Q I r w ⟨z,j,O,O,h.1.1,h.1.2.1,h.1.2.2.1,h.1.2.2.2,k _ F H _ h.2.get (.refl sm) (.str _)⟩
  |_=>show h.elim
 |_=>show h.elim⟩
end
def fg(f:D->D->Ž Bool):Y D->Y D->Ž Bool
 | [],[]=>Z ž
 |x::xs,y::ys=>(f x y).bind λb=>(fg f xs ys).map (b&&·)
 |_,_=>Z β
noncomputable def cf:Nat->D->D->Ž Bool
 |_,.int i,.int j=>Z (i==j)
 |_,.bl i,.bl j=>Z (i==j)
 |_,.str i,.str j=>Z (i==j)
 |_,.non,.non=>Z ž
 |n+1,.tup xs,.tup ys=>fg (cf n) xs ys
 |n+1,.lst xs,.lst ys=>if xs.length=ys.length then fg (cf n) xs ys else Z β
 |_,_,_=>ż
theorem jX{f:D->D->Ž Bool}:∀{xs ys:Y D}{b:Bool},fg f xs ys=Z b->∃g:Nat->Bool,(∀(j:Nat)(x y:D),xs[j]?=Z x->ys[j]?=Z y->f x y=Z (g j))/\b=((List.range (min xs.length ys.length)).all g&&xs.length==ys.length)
 | [],[],b,h=>by cases h;show⟨λ_=>ž,λj x y l=>by simp at l,by simp⟩
 | [],_::_,b,h=>by cases h;show⟨λ_=>ž,λj x y l=>by simp at l,by simp⟩
 |_::_,[],b,h=>by cases h;show⟨λ_=>ž,λj x y _ A=>by simp at A,by simp⟩
 |x::xs,y::ys,b,h=>by
  unfold fg at h
  cases e:f x y with
  |none=>rw[e]at h;cases h
  |some c=>
   cases a:fg f xs ys with
   |none=>rw[e,a]at h;cases h
   |some B=>
    rw[e,a]at h;cases h;let⟨g,w,z⟩:=jX a;refine⟨λj=>match j with|0=>c|j+1=>g j,λj u v m o=>?_,?_⟩
    ·cases j with
     |zero=>cases m;cases o;show e
     |succ j=>show w j u v m o
    ·have r:min (x::xs).length (y::ys).length=min xs.length ys.length+1:=by simp only[LX];omega
     have p:((x::xs).length==(y::ys).length)=(xs.length==ys.length):=by simp
     rw[r,p,List.range_succ_eq_map,QV,List.all_map,z,Bool.and_assoc];rfl
section
variable{K:Â}{X:Cx}{l:Y (Addr×Obj)}{o:St}{f H:Hp}{s:À}
def DJ{n:Nat}{g:Nat->Bool}(h:∀j,j<n->g j=ž):(List.range n).all g=ž:=by rw[Nr];intro j a;show h j (Mi.mp a)
def aS{a:Type}{xs:Y a}{j:Nat}(h:j<xs.length):xs[j]?=Z xs[j]:=by simp[h]
inductive CmV:Nat->D->D->Bool->Prop
 |int {n:Nat} (i j:Int):CmV n (.int i) (.int j) (i==j)
 |bl {n:Nat} (i j:Bool):CmV n (.bl i) (.bl j) (i==j)
 |str {n:Nat} (i j:Str):CmV n (.str i) (.str j) (i==j)
 |non {n:Nat}:CmV n .non .non ž
 |tup {n:Nat} {xs ys:List D} {b:Bool} (h:fg (cf n) xs ys=Z b):CmV (n+1) (.tup xs) (.tup ys) b
 |lst {n:Nat} {xs ys:List D} {b:Bool} (h:(if xs.length=ys.length then fg (cf n) xs ys else Z β)=Z b):CmV (n+1) (.lst xs) (.lst ys) b
def gW{n:Nat}{d e:D}{b:Bool}(h:cf n d e=Z b):CmV n d e b:=by
 unfold cf at h;split at h
 ·cases h;show .int _ _
 ·cases h;show .bl _ _
 ·cases h;show .str _ _
 ·cases h;show .non
 ·show .tup h
 ·show .lst h
 ·cases h
def xX(G:X.K=K)(I:Inv X l o H s)(sm:Same f H):∀(n:Nat){d e:D}{b:Bool}{v:V},cf n d e=Z b->Rp K f d v->Rp K f e v->b=ž:=by
 intro n
 induction n using Nat.strongRecOn with
 |ind n F=>
  intro d e b v h u w
  have all:∀{m:Nat}{xs ys:Y D}{c:Y V}{b:Bool},m<n->fg (cf m) xs ys=Z b->RpL K f xs c->RpL K f ys c->b=ž:=λ{m xs ys c b} E h p r=>by
   let⟨g,C,B⟩:=jX h;have L:=p.1;have M:=r.1;rw[B,DJ λj J=>?_]
   ·simp;omega
   ·have y:j<c.length:=by omega
    have z:j<xs.length:=by omega
    have A:j<ys.length:=by omega
    show F m E (C j _ _ (aS z) (aS A)) (p.2 j _ _ (aS y) (aS z)) (r.2 j _ _ (aS y) (aS A))
  cases gW h with
  |int i j=>obtain rfl:=u.i;cases w;show MH i
  |bl i j=>obtain rfl:=u.b;cases w;show MH i
  |str i j=>obtain rfl:=u.s;cases w;show MH i
  |non=>rfl
  |tup h=>
   cases u with| @tup a c xs h1 p h3=>cases w with| @tup _ ws ys k1 r k3=>
   have x:c=ws:=I.tuple_inj (.of (sm _ _ h1)) (.of (sm _ _ k1));subst x;show all (Np _) h ⟨p,h3⟩ ⟨r,k3⟩
  |lst h=>
   cases u with| @lst a c xs h1 p h3=>cases w with| @lst _ ws ys k1 r k3=>
   have x:c=ws:=by rw[h1]at k1;cases k1;rfl
   subst x;rw[LI (p.symm.trans r)]at h;show all (Np _) h ⟨p,h3⟩ ⟨r,k3⟩
open PySem.SeqAt in
def qb(hK:X.K=K)(I:Inv X l o H s)(sm:Same f H):∀(n:Nat){d e:D}{b:Bool}{x y:V},cf n d e=Z b->Rp K f d x->Rp K f e y->
  ∀(A:É)(u v:Value),A.units+n<ã->RelV x u->RelV y v->EqAt A s u v b/\RcAt A s u v b/\RcNeAt A s u v (!b):=by
 intro n
 induction n using Nat.strongRecOn with
 |ind n ih=>
  intro d e b x y h p r A u v hu N a_
  have w:∀{m:Nat}{xs ys:Y D}{J L:Y V}{its Ru:Y Value}{g:Nat->Bool},m+1=n->(∀(j:Nat)(x y:D),xs[j]?=Z x->ys[j]?=Z y->cf m x y=Z (g j))->RpL K f xs J->RpL K f ys L->Vals J its->Vals L Ru->∀j (j1:j<its.toArray.size) (j2:j<Ru.toArray.size),EqAt A.in1 s its.toArray[j] Ru.toArray[j] (g j):=λ{m xs ys J L its Ru g} hm T C E z B j j1 j2=>by
   have l1:=Vals.length z;have l2:=Vals.length B;have m1:=C.1;have m2:=E.1;simp only[LR]at j1 j2;let⟨x,hx,p⟩:=Vals.get' z j1;let⟨y,hy,r⟩:=Vals.get' B j2
   have i1:j<xs.length:=by omega
   have i2:j<ys.length:=by omega
   show (ih m () (T j _ _ (aS i1) (aS i2)) (C.2 j x _ hx (aS i1)) (E.2 j y _ hy (aS i2)) A.in1 _ _ (by change A.units+1+m<ã;omega) p r).1
  have M:A.units<ã:=by omega
  cases gW h with
  |int i j=>obtain rfl:=p.i;obtain rfl:=r.i;let⟨t,rfl⟩:=N;let⟨t',rfl⟩:=a_;show⟨EqAt.int_int i t j t',RcAt.int_int i t j t',RcNeAt.int_int i t j t'⟩
  |bl i j=>obtain rfl:=p.b;obtain rfl:=r.b;cases N;cases a_;show⟨EqAt.bool_bool i j,RcAt.bool_bool i j,RcNeAt.bool_bool i j⟩
  |str i j=>obtain rfl:=p.s;obtain rfl:=r.s;let⟨t,rfl⟩:=N;let⟨t',rfl⟩:=a_;show⟨EqAt.str_str i t j t',RcAt.str_str i t j t',RcNeAt.str_str i t j t'⟩
  |non=>obtain rfl:=p.n;obtain rfl:=r.n;cases N;cases a_;show⟨EqAt.same _,RcAt.none_none,RcNeAt.none_none⟩
  | @tup n xs ys b q=>
   have U:=p;have be:=r
   cases p with| @tup a J _ h1 C h3=>cases r with| @tup c L _ k1 E k3=>
   cases N;cases a_;let⟨g,T,hb⟩:=jX q;let⟨its,z,F,_⟩:=I.sqb (b:=β) (show SqT X.K H a J from .of (sm _ _ h1));let⟨Ru,B,G,_⟩:=I.sqb (b:=β) (show SqT X.K H c L from .of (sm _ _ k1));have l1:=Vals.length z;have l2:=Vals.length B;have S:=w O T ⟨C,h3⟩ ⟨E,k3⟩ z B;have R:=RcAt.tuples (e:=g) F G M S;have P:=RcNeAt.tuples (e:=g) F G M S
   have am:((List.range (min its.toArray.size Ru.toArray.size)).all g&&its.toArray.size==Ru.toArray.size)=b:=by rw[hb];simp only[LR];rw[←l1,←l2,C,E]
   rw[am]at R P;refine⟨?_,R,P⟩;by_cases Q:a=c
   ·subst Q;rw[xX hK I sm (n+1) h U be];show EqAt.same _
   ·show EqAt.of_refs Q R
  | @lst n xs ys b q=>
   have U:=p;have be:=r
   cases p with| @lst a J _ h1 C h3=>cases r with| @lst c L _ k1 E k3=>
   cases N;cases a_;let⟨its,z,F,_⟩:=I.sqb (b:=ž) (show SqL X.K H a J from SqL.of (sm _ _ h1));let⟨Ru,B,G,_⟩:=I.sqb (b:=ž) (show SqL X.K H c L from SqL.of (sm _ _ k1));have l1:=Vals.length z;have l2:=Vals.length B
   have fin:RcAt A s (.ref a) (.ref c) b/\RcNeAt A s (.ref a) (.ref c) (!b):=by
    by_cases hl:xs.length=ys.length
    ·rw[LI hl]at q;let⟨g,T,hb⟩:=jX q;have S:=w O T ⟨C,h3⟩ ⟨E,k3⟩ z B
     have hsz:its.toArray.size=Ru.toArray.size:=by simp;omega
     have R:=RcAt.lists (e:=g) F G hsz M S;have P:=RcNeAt.lists (e:=g) F G hsz M S
     have am:(List.range its.toArray.size).all g=b:=by
      have e1:min xs.length ys.length=its.length:=by omega
      have e2:(xs.length==ys.length)=ž:=by simp[hl]
      rw[hb,e1,e2,Bool.and_true,LR]
     rw[am]at R P;show⟨R,P⟩
    ·rw[LG hl]at q;cases q
     have hsz:(its.toArray.size != Ru.toArray.size)=ž:=by simp;omega
     show⟨RcAt.lists_lengths F G hsz M,RcNeAt.lists_lengths F G hsz M⟩
   refine⟨?_,fin.1,fin.2⟩;by_cases Q:a=c
   ·subst Q;rw[xX hK I sm (n+1) h U be];show EqAt.same _
   ·show EqAt.of_refs Q fin.1
end
def vT:cJ:=λx y R=>match cf 40 x y with|some b=>R (.bl b)|none=>False
def mB:cJ:=λx y R=>match cf 40 x y with|some b=>R (.bl (!b))|none=>False
section
variable{K:Â}{X:Cx}
def RpQ.any{c H:Hp}{d:D}{v:V}(h:RpQ K c H d v)(s:Same c H):Rp K H d v:=by
 rcases h with h|⟨a,l,ds,e,f,g,j⟩
 ·show h.same s
 ·subst e f;show (j.same s).lst g
def cV(p:X.A.units+64<ã):OpD K X (Ì .Eq) vT:=⟨λe a s r H x y u v Q I j l c=>by
 let⟨m,dx,o,R,sm,f,g,h,k⟩:=c;unfold vT at h;split at h
 ·next b hb=>show (qb e I (Same.refl H) 40 hb (f.any sm) (g.any sm) X.A u v () j l).2.1 X.prog X.w _ _ ⟨.bl b,H,I,O,k _ m H _ h (.refl sm) (.bl b)⟩
 ·show h.elim⟩
def jo(p:X.A.units+64<ã):OpD K X (Ì .NotEq) mB:=⟨λe a s r H x y u v Q I j l c=>by
 let⟨m,dx,o,R,sm,f,g,h,k⟩:=c;unfold mB at h;split at h
 ·next b hb=>show (qb e I (Same.refl H) 40 hb (f.any sm) (g.any sm) X.A u v () j l).2.2 X.prog X.w _ _ ⟨.bl (!b),H,I,O,k _ m H _ h (.refl sm) (.bl _)⟩
 ·show h.elim⟩
def oZ:D->Bool
 |.non=>ž
 |_=>β
def xf(c:Bool):cJ:=λx y R=>match y with|.non=>R (.bl (oZ x != c))|.bl b=>(match x with|.bl a=>R (.bl ((a==b) != c))|_=>False)|_=>False
def vj{g H:Hp}{d:D}{v:V}(h:RpQ K g H d v):decide (v=V.non)=oZ d:=by
 cases d with
 |int i=>rw[h.int];rfl
 |bl i=>rw[h.bl];rfl
 |str i=>rw[h.str];rfl
 |non=>rw[h.non];rfl
 |tup ds=>rcases h with h|⟨a, c, ds, e, _⟩
          · cases h; rfl
          · cases e
 |lst ds=>rcases h with h|⟨a, c, ds, e, f, _⟩
          · cases h; rfl
          · rw [f]; rfl
 |fzl ds=>rcases h with h|⟨a, c, ds, e, _⟩
          · cases h; rfl
          · cases e
 |obj C fs=>rcases h with h|⟨a, c, ds, e, _⟩
            · cases h; rfl
            · cases e
 |map j=>rcases h with h|⟨a, c, ds, e, _⟩
         · cases h; rfl
         · cases e
 |exc _ _=>rcases h with h|⟨a, c, ds, e, _⟩
           · cases h<;>rfl
           · cases e
def mz:OpD K X (Ì .Is) (xf β):=⟨λr c s m H x y u v Q I g j o=>by
 let⟨l,dx,p,R,sm,e,f,h,k⟩:=o
 cases p with
 |non=>
  cases f.non;refine Br c s m H _ _ u v Q I g j ⟨O,?_⟩;rw[vj e];have h':R (.bl (oZ dx != β)):=h;rw[Bool.bne_false]at h';show k _ l H _ h' (.refl sm) (.bl _)
 |bl b=>
  cases f.bl;let⟨a,rfl,h⟩:=kg h;cases e.bl;have h':R (.bl ((a==b) != β)):=h;rw[Bool.bne_false]at h';show FS c s m H _ _ u v Q I g j ⟨a,b,O,O,k _ l H _ h' (.refl sm) (.bl _)⟩
 |_=>show h.elim⟩
def wJ:OpD K X (Ì .IsNot) (xf ž):=⟨λr c s m H x y u v Q I g j o=>by
 let⟨l,dx,p,R,sm,e,f,h,k⟩:=o
 cases p with
 |non=>
  cases f.non;refine Ib c s m H _ _ u v Q I g j ⟨O,?_⟩;rw[vj e];have h':R (.bl (oZ dx != ž)):=h;rw[Bool.bne_true]at h';show k _ l H _ h' (.refl sm) (.bl _)
 |bl b=>
  cases f.bl;let⟨a,rfl,h⟩:=kg h;cases e.bl;have h':R (.bl ((a==b) != ž)):=h;rw[Bool.bne_true]at h';show Iy c s m H _ _ u v Q I g j ⟨a,b,O,O,k _ l H _ h' (.refl sm) (.bl _)⟩
 |_=>show h.elim⟩
end
end L2
namespace HT
open PySem PySem.Spec PyProof.Rows
def getItem_tuple_all{prog:Æ}{w:Ç}{A:É}{E:Value->À->Prop}{s:À}{t sl:Addr}{items:Array Value}{j l:Value}{lo e:Ž Int}{Q:Value->À->Prop}(a:ä s.heap t items)(f:s.heap.IsSliceOf sl j l .none)(u:õ j lo)(v:õ l e)
  (g:sIx items.size 0 lo=0/\sIx items.size items.size e=items.size) (h:Q (.ref t) s):wpAny (Ä prog w) A (é (.ref t) (.ref sl)) Q E s:=by
 let⟨os,m,o,x⟩:=id f;have r:s.TypeIs (.ref sl) "slice":=⟨os,m,o⟩;unfold é
 try with_reducible refine Mv ?_
 first|refine LD (LP ?_)|skip
 refine LD (ţ a.typeIs 'b' ?_)
 refine LD (Ny (name:=Str.ofString "__getitem__") a.typeIs MX
  (NH MX a.typeIs Ś ?_ (Š _ _)))
 change wpAny _ _ (Builtin.Tuple.tupleItemsOf (.ref t) >>= _) _ _ s;refine LD (tupleItemsOf_ a ?_);refine LD (Ox r ?_);rw[LI 'b'];refine LD (xZ f u v ?_)
 have p:(((sIx items.size 0 lo:Nat):Int)==0&&(1:Int)==1&&(sIx items.size items.size e-sIx items.size 0 lo)==items.size)=ž:=by rw[g.1,g.2];simp
 change wpAny _ _ (if (((sIx items.size 0 lo:Nat):Int)==0&&(1:Int)==1&&(sIx items.size items.size e-sIx items.size 0 lo)==items.size)=ž then _ else _) _ _ s;rw[LI p];refine LD (show wpAny _ _ (typeOf (.ref t) >>= λc=>pure (c==.type "tuple")) _ _ s from LD (Ox a.typeIs (LP ?_)));rw[LI 'b'];show LD (OW (LP ⟨_,O,LP h⟩))
end HT
namespace L2
open PySem PySem.Spec PyProof.Rows
section
variable{K:Â}{X:Cx}{e a b c:Å}{m:Y Å}{pos J:Pos}{t B tb:TD}{tl:aP}
noncomputable def qM:cJ:=λx y R=>match y with
 |.int i=>(match x with
  |.lst ds=>∃d,bD ds i=Z d/\R d
  |.tup ds=>∃d,bD ds i=Z d/\R d
  |.fzl ds=>∃d,bD ds i=Z d/\R d
  |.str z=>z.length<=sizeLine/\∃c,bD z.cps.toList i=Z c/\R (.str ⟨#[c]⟩)
  |_=>False)
 |_=>False
def qh{l:Hp}{ds:Y D}{g:Y V}{d:D}{i:Int}(h:RpL K l ds g)(e:bD ds i=Z d):∃v,bD g i=Z v/\Rp K l d v:=by
 unfold bD at e ⊢;rw[h.1]
 cases f:gc ds.length i with
 |none=>rw[f]at e;cases e
 |some j=>
  rw[f,Ľ]at e;rw[Ľ];show h.at e
def C3(P:X.K=K):l8 X (lR2 K qM):=by
 intro g f j s U H x y v u Q I L M ⟨N,dx,T,R,sm,G,S,h,k⟩ F;let⟨i,rfl,h⟩:=ie h;cases S.int
 cases dx with
 |lst ds=>
  let⟨d,l,o⟩:=h;let⟨a,E,rfl,A,C⟩:=G.lst sm;let⟨w,r,p⟩:=qh C l;show x6 g f j s U H _ _ v u Q I L M ⟨a,E,i,w,O,O,.of A,r,k _ N H _ o (.refl sm) p⟩ F
 |tup ds=>
  let⟨d,l,o⟩:=h;let⟨a,E,rfl,A,_,C⟩:=G.tup sm;let⟨w,r,p⟩:=qh C l;show Bp g f j s U H _ _ v u Q I L M ⟨a,E,i,w,O,O,P▸A,r,k _ N H _ o (.refl sm) p⟩ F
 |fzl ds=>
  let⟨d,l,o⟩:=h;let⟨a,E,rfl,A,C⟩:=G.fzl sm;let⟨w,r,p⟩:=qh C l;show x6 g f j s U H _ _ v u Q I L M ⟨a,E,i,w,O,O,P▸A,r,k _ N H _ o (.refl sm) p⟩ F
 |str z=>
  let⟨h0,c,l,o⟩:=h;cases G.str;show EJ g f j s U H _ _ v u Q I L M ⟨z,i,c,O,O,h0,l,k _ N H _ o (.refl sm) (.str _)⟩ F
 |_=>show h.elim
def bB(g:PQ K X a B)(h:PQ K X b tb)(j:wz b):PD K X (.Subscript a b pos) (jk qM B tb):=
 ⟨λf=>(EB (C3 f) (g.pe f) (h.pe f) j).imp λ_ _ _=>oh⟩
abbrev je:=bh->(Ž Int->Prop)->Prop
def aD{i:Int}{j:þ}{p:Pos}(f:PQ K X a B):PD K X (.Subscript a (.Constant (.int i) j p) pos) (jk qM B (dC (.int i))):=bB f (PD.q ax) λ_ _=>rfl
inductive lO(K:Â)(t:je)(σ:St)(H:Hp)(Q:Option Int->Hp->Prop):Prop|mk (H0:Hp) (Φ:Hp) (ρ:bh) (R:Option Int->Prop) (_:EnvD K H0 Φ H σ ρ) (_:t ρ R) (_:∀o Φ' H',R o->Gr Φ H Φ' H'->Q o H')
structure POD(K:Â)(X:Cx)(e:Option Å)(t:je):Prop where po:X.K=K->PO X e (lO K t)
def FZ:je:=λ_ R=>R ż
def ET(t:TD):je:=λρ R=>t ρ λd=>match d with|.int i=>R (Z i)|_=>False
def PO.imp{o:Ž Å}{t t':TO}(h:PO X o t)(k:∀g H Q,t' g H Q->t g H Q):PO X o t':=λf s g H Q I j=>h f s g H Q I (k g H Q j)
def oO:POD K X ż FZ:=⟨λ_=>po_none.imp λj H Q f=>by let⟨h,g,ρ,R,E,t,k⟩:=f;show k ż g H t (.refl E.fz)⟩
def oQ(h:PQ K X e t):POD K X (Z e) (ET t):=⟨λp=>(BP (h.pe p)).imp λx H Q o=>by let⟨j,w,ρ,R,E,t,k⟩:=o;show⟨j,w,ρ,_,E,t,λd f l v r g u=>by
 let⟨i,rfl,r⟩:=ie r
 show⟨i,u.int,k _ f l r g⟩⟩⟩
variable{lo A:Ž Å}{to C:je}
def yK(K:Â):V->Ž Int->Ž Int->Hp->VK->Prop:=λx lo A H Q=>∃a xs,x=.ref a/\SqT K H a xs/\(HT.sIx xs.length 0 lo=0/\HT.sIx xs.length xs.length A=xs.length)/\Q (.ref a) H
def sl_all:SlR X (yK X.K):=by
 intro j s G H x v E F lo A sl Q I w l p u h;let⟨a,xs,rfl,o,y,q⟩:=h;cases w;let⟨its,r,g,z⟩:=I.tuple o
 have f:its.toArray.size=xs.length:=by rw[LR];show r.length.symm
 refine⟨"tuple",_,MX.lookup,g.typeIs,?_⟩;show HT.getItem_tuple_all g l p u (by rwa[f]) ⟨.ref a,H,I,O,q⟩
def Jo{g:Type}{xs:Y g}{l h:Ž Int}(f:HT.sIx xs.length 0 l=0/\HT.sIx xs.length xs.length h=xs.length):cE xs l h=xs:=by unfold cE;rw[f.1,f.2,P1,QZ,M3]
def AY(x:D)(l h:Ž Int)(R:D->Prop):Prop:=match x with
 |.lst ds=>NF (cE ds l h) λf=>R (.lst f)
 |.fzl ds=>NF (cE ds l h) λf=>R (.lst f)
 |.tup ds=>NF (cE ds l h) λf=>R (.tup f)
 |.str z=>z.length<=sizeLine/\NF (fX z l h) λy=>R (.str y)
 |_=>False
def BO(t:TD)(to C:je):TD:=λρ R=>t ρ λx=>to ρ λl=>C ρ λh=>AY x l h R
def oj(P:PQ K X a B)(hl:POD K X lo to)(hh:POD K X A C):PD K X (.Subscript a (.Slice lo A ż J) pos) (BO B to C):=
 ⟨λv=>(FC (v▸sl_list.or (sl_tup.or (sl_all.or CA)):SlR X (λx lo A H Q=>xx K x lo A H Q\/yQ K x lo A H Q\/yK K x lo A H Q\/zu x lo A H Q)) (P.pe v) (hl.po v) (hh.po v)).imp λσ H Q a_=>by let⟨w,am,ρ,R,E,t,k⟩:=a_;exact
  ⟨w,am,ρ,_,E,t,λdx G H1 x U y T=>⟨w,G,ρ,_,E.gr y,U,λl I H2 be F=>⟨w,I,ρ,_,(E.gr y).gr F,be,λh Φ3 H3 o L=>by
   have g:=(y.trans F).trans L;have u:=T.gr (F.trans L)
   cases dx with
   |lst ds=>
    let⟨a,f,rfl,r,j⟩:=u.lst g.s;show .inl ⟨a,f,O,.of r,λp hp=>k _ _ _ _ o.get (g.trans (.new g.s hp _)) (((j.cut l h).same (cz (g.s.free hp) _)).lst aW)⟩
   |fzl ds=>
    let⟨a,f,rfl,r,j⟩:=u.fzl g.s;show .inl ⟨a,f,O,r,λp hp=>k _ _ _ _ o.get (g.trans (.new g.s hp _)) (((j.cut l h).same (cz (g.s.free hp) _)).lst aW)⟩
   |tup ds=>
    let⟨a,f,rfl,r,S,j⟩:=u.tup g.s;by_cases M:HT.sIx f.length 0 l=0/\HT.sIx f.length f.length h=f.length
    ·refine .inr (.inr (.inl ⟨a,f,O,r,M,?_⟩));have e:cE ds l h=ds:=Jo (by rwa[←j.1]);have N:=o.get;rw[e]at N;show k _ _ _ _ N g (j.tup S)
    ·show .inr (.inl ⟨a,f,O,r,M,λp hp=>k _ _ _ _ o.get (g.trans (.new g.s hp _)) (((j.cut l h).same (cz (g.s.free hp) _)).tup aW)⟩)
   |str z=>
    cases u.str;show .inr (.inr (.inr ⟨z,O,o.1,k _ _ _ _ o.2.get g (.str _)⟩))
   |_=>show o.elim⟩⟩⟩⟩
abbrev bJ:=Y D->(D->Prop)->Prop
inductive lSp(K:Â)(sp:bJ)(vs:List V)(H:Hp)(Q:VK)(E_:XK):Prop|mk (Φ:Hp) (ds:List D) (R:D->Prop) (_:Same Φ H) (_:TabF K Φ) (_:RpL K Φ ds vs) (_:sp ds R) (_:∀d Φ' H' v,R d->Gr Φ H Φ' H'->Rp K Φ' d v->Q v H')
def nR(sp:bJ)(t:aP):TD:=λρ R=>t ρ λds=>sp ds R
variable{CX:dA}{k:Nat}{f:Addr}{G:Í}{ps:Y Str}{sp:bJ}{x:Str}{p:Pos}{E:XK}
def CM(F:FnOk X.prog X.w X.K X.mg X.base CX k f G ps (lSp K sp))(P:Room k X.A)(M:Gl X x)(a_:X.mg x=Z (.ref f))(N:í X.K (.ref f)=ž)(I:Binds X.K G ps [])(S:iT CX X E)
  (z:PAD K X (e::m) tl) (L:Á (e::m) X.env=(β,eval e X.env)::Á m X.env) (u:(Ñ pos (Á m X.env)).any (·.1)=β) (w:ab x:=by decide) :
  PD K X (.Call (.Name x p) (e::m) [] pos) (nR sp tl):=
 ⟨λy=>(wG F P M a_ N I .nil S (z.pa y) w L u).imp λσ H Q o=>by let⟨l,be,ρ,R,E,t,k⟩:=o;show⟨l,be,ρ,_,E,t,λds j am vs r g rl _=>⟨j,ds,R,g.s,E.tb.same g.f,by rwa[ML],r,λd h H' v T g' U=>k d h H' v T (g.trans g') U⟩⟩⟩
def kP(K:Â)(h H:Hp)(ds:Y D)(g:Y V):Prop:=g.length=ds.length/\∀(i:Nat)(v:V)(d:D),g[i]?=Z v->ds[i]?=Z d->RpQ K h H d v
inductive lAQ(K:Â)(t:aP)(σ:St)(H:Hp)(Q:List V->Hp->Prop):Prop|mk (H0:Hp) (Φ:Hp) (ρ:bh) (R:List D->Prop) (_:EnvD K H0 Φ H σ ρ) (_:t ρ R) (_:∀ds Φ' H' vs,R ds->Gr Φ H Φ' H'->kP K Φ' H' ds vs->Q vs H')
structure PAQ(K:Â)(X:Cx)(m:List Å)(t:aP):Prop where pa:X.K=K->PA X m (lAQ K t)
def aG:PAQ K X [] yJ:=⟨λ_=>pa_nil.imp λo H Q g=>by let⟨l,j,ρ,R,E,t,k⟩:=g;show k [] j H [] t (.refl E.fz) ⟨O,λi v d h _=>by simp at h⟩⟩
def aI(I:PQ K X e t)(L:PAQ K X m tl)(M:Á (e::m) X.env=(β,eval e X.env)::Á m X.env):PAQ K X (e::m) (zG t tl):=
 ⟨λw=>(dR (I.pe w) (L.pa w) M).imp λU H Q F=>by let⟨l,P,ρ,R,E,t,k⟩:=F;show⟨l,P,ρ,_,E,t,λd h S v r g am=>⟨l,h,ρ,_,E.gr g,r,λds j z T N o rl=>
  k _ j z _ N (g.trans o) ⟨by simp[rl.1],λi u d y hd=>by
   cases i with
   |zero=>cases y;cases hd;show am.gr o
   |succ i=>show rl.2 i u d y hd⟩⟩⟩⟩
inductive lC(K:Â)(r:bJ)(vs:List V)(H:Hp)(Q:VK):Prop|mk (Φ:Hp) (ds:List D) (R:D->Prop) (_:Same Φ H) (_:kP K Φ H ds vs) (_:r ds R) (_:∀d Φ' H' v,R d->Gr Φ H Φ' H'->Rp K Φ' d v->Q v H')
structure CallD(K:Â)(X:Cx)(f:Value)(r:bJ):Prop where c:X.K=K->eA X f (lC K r)
def bu{id:String}{r:bJ}(F:CallD K X (.builtin id) r)(L:Gl X x)(M:X.mg x=ż)(a_:Ù x=Z (.builtin id))(z:PAQ K X (e::m) tl)
  (I:Á (e::m) X.env=(β,eval e X.env)::Á m X.env) (w:(Ñ pos (Á m X.env)).any (·.1)=β) (N:x≠"__name__":=by decide) (y:ab x:=by decide):PD K X (.Call (.Name x p) (e::m) [] pos) (nR r tl):=
 ⟨λl=>(oM (F.c l) L M a_ (z.pa l) N y I w).imp λam H Q u=>by let⟨o,T,ρ,R,E,t,k⟩:=u;show⟨o,T,ρ,_,E,t,λds j U be r g rl=>⟨j,ds,R,g.s,rl,r,λd h H' v P g' S=>k d h H' v P (g.trans g') S⟩⟩⟩
def bW{T:String}{r:bJ}(F:CallD K X (.type T) r)(L:Gl X x)(M:X.mg x=ż)(a_:Ù x=Z (.type T))(z:PAQ K X (e::m) tl)
  (I:Á (e::m) X.env=(β,eval e X.env)::Á m X.env) (w:(Ñ pos (Á m X.env)).any (·.1)=β) (N:x≠"__name__":=by decide) (y:ab x:=by decide):PD K X (.Call (.Name x p) (e::m) [] pos) (nR r tl):=
 ⟨λl=>(rG (F.c l) L M a_ (z.pa l) N y I w).imp λσ H Q u=>by let⟨o,U,ρ,R,E,t,k⟩:=u;show⟨o,U,ρ,_,E,t,λds j be am r g rl=>⟨j,ds,R,g.s,rl,r,λd h H' v P g' S=>k d h H' v P (g.trans g') S⟩⟩⟩
def eX{l H:Hp}{d:D}{j:Y V}(h:kP K l H [d] j):∃v,j=[v]/\RpQ K l H d v:=by
 let⟨o,g⟩:=h
 match j,o,g with
 | [v],_,g=>show⟨v,O,g 0 v d O O⟩
def Jx{l H:Hp}{d e:D}{j:Y V}(h:kP K l H [d,e] j):∃v w,j=[v,w]/\RpQ K l H d v/\RpQ K l H e w:=by
 let⟨o,g⟩:=h
 match j,o,g with
 | [v,w],_,g=>show⟨v,w,O,g 0 v d O O,g 1 w e O O⟩
def Dr:bJ:=λds R=>match ds with| [.lst xs]=>R (.int xs.length)| [.tup xs]=>R (.int xs.length)| [.fzl xs]=>R (.int xs.length)| [.str z]=>z.length<=sizeLine/\R (.int z.length)|_=>False
def bL:CallD K X (.builtin "len") Dr:=⟨λL g s F H xs w Q I u M=>by
 let⟨y,ds,R,sm,hl,h,k⟩:=M
 match ds,h with
 | [.lst xs],h=>
  let⟨v,rfl,r⟩:=eX hl;let⟨a,o,rfl,j,l⟩:=r.lst sm;show qw g s F H _ w Q I u ⟨a,o,O,.inl (.of j),by rw[l.1];show k _ y H _ h (.refl sm) (.int _)⟩
 | [.tup xs],h=>
  let⟨v,rfl,r⟩:=eX hl;let⟨a,o,rfl,j,_,l⟩:=r.tup sm;show qw g s F H _ w Q I u ⟨a,o,O,.inr (L▸j),by rw[l.1];show k _ y H _ h (.refl sm) (.int _)⟩
 | [.fzl xs],h=>
  let⟨v,rfl,r⟩:=eX hl;let⟨a,o,rfl,j,l⟩:=r.fzl sm;show qw g s F H _ w Q I u ⟨a,o,O,.inl (L▸j),by rw[l.1];show k _ y H _ h (.refl sm) (.int _)⟩
 | [.str z],h=>
  let⟨v,rfl,r⟩:=eX hl;cases r.str
  show DI g s F H _ w Q I u ⟨z,O,h.1,k _ y H _ h.2 (.refl sm) (.int _)⟩⟩
def GE:bJ:=λds R=>match ds with| [.int i]=>R (.int (if i<0 then -i else i))|_=>False
def tO:CallD K X (.builtin "abs") GE:=⟨λy g s w H xs o Q I l j=>by
 let⟨u,ds,R,sm,hl,h,k⟩:=j
 match ds,h with
 | [.int i],h=>
  let⟨v,rfl,r⟩:=eX hl;cases r.int
  show HX g s w H _ o Q I l ⟨i,O,k _ u H _ h (.refl sm) (.int _)⟩⟩
def JK:bJ:=λds R=>match ds with| [.int i,.int j]=>R (.int (if j<i then j else i))|_=>False
def BV(o:X.calm=ž):CallD K X (.builtin "min") JK:=⟨λM g s L H xs z Q I y l=>by
 let⟨F,ds,R,sm,hl,h,k⟩:=l
 match ds,h with
 | [.int i,.int j],h=>
  let⟨v,w,rfl,r,u⟩:=Jx hl;cases r.int;cases u.int
  show EF o g s L H _ z Q I y ⟨i,j,O,k _ F H _ h (.refl sm) (.int _)⟩⟩
def C8{l:Hp}{ns:Y Int}{g:Y V}(h:RpL K l (ns.map D.int) g):g=ns.map V.int:=by
 refine Nj λi=>?_;rw[LN]
 cases e:ns[i]? with
 |none=>
  have:=Nm.mp e;rw[Mn (by rwa[h.1,LC])];rfl
 |some n=>
  let⟨v,j,r⟩:=h.at (i:=i) (d:=.int n) (by rw[LN,e];rfl);obtain rfl:=r.i;rw[j];rfl
def Du{l:Hp}{bs:Y Bool}{g:Y V}(h:RpL K l (bs.map D.bl) g):g=bs.map V.bl:=by
 refine Nj λi=>?_;rw[LN]
 cases e:bs[i]? with
 |none=>
  have:=Nm.mp e;rw[Mn (by rwa[h.1,LC])];rfl
 |some n=>
  let⟨v,j,r⟩:=h.at (i:=i) (d:=.bl n) (by rw[LN,e];rfl);obtain rfl:=r.b;rw[j];rfl
def RpQ.sqb{l H:Hp}{d:D}{v:V}{ds:Y D}(s:Same l H)(h:RpQ K l H d v)(e:dQ d=Z ds):∃(q:Bool)(a:Addr)(j:Y V),v=.ref a/\SqB K q H a j/\RpL K l ds j:=by
 let⟨a,j,o,g,r⟩:=h.seq s e;rcases g with g|g
 ·show⟨ž,a,j,o,g,r⟩
 ·show⟨β,a,j,o,g,r⟩
def AS:bJ:=λds R=>match ds with| [d]=>∃ns:Y Int,dQ d=Z (ns.map D.int)/\R (.int ns.sum)|_=>False
def pY(u:X.calm=ž):CallD K X (.builtin "sum") AS:=⟨λo g s L H xs z Q I y l=>by
 let⟨F,ds,R,sm,hl,h,k⟩:=l
 match ds,h with
 | [d],⟨ns,e,h⟩=>
  let⟨v,rfl,r⟩:=eX hl;let⟨q,a,M,rfl,j,w⟩:=r.sqb sm e;rw[C8 w]at j
  show Ks q u g s L H _ z Q I y ⟨a,ns,O,o▸j,k _ F H _ h (.refl sm) (.int _)⟩⟩
def Kt(f:Y Bool->Bool):bJ:=λds R=>match ds with| [d]=>∃bs:Y Bool,dQ d=Z (bs.map D.bl)/\R (.bl (f bs))|_=>False
def La(u:X.calm=ž):CallD K X (.builtin "all") (Kt λbs=>bs.all id):=⟨λo g s L H xs z Q I y l=>by
 let⟨F,ds,R,sm,hl,h,k⟩:=l
 match ds,h with
 | [d],⟨ns,e,h⟩=>
  let⟨v,rfl,r⟩:=eX hl;let⟨q,a,M,rfl,j,w⟩:=r.sqb sm e;rw[Du w]at j
  show Dy q u g s L H _ z Q I y ⟨a,ns,O,o▸j,k _ F H _ h (.refl sm) (.bl _)⟩⟩
def DC:bJ:=λds R=>match ds with| [.lst xs]=>R (.tup xs)| [.tup xs]=>R (.tup xs)| [.fzl xs]=>R (.tup xs)|_=>False
def bZ:CallD K X (.type "tuple") DC:=⟨λz g s y H xs w Q I u F=>by
 let⟨M,ds,R,sm,hl,h,k⟩:=F
 match ds,h with
 | [.lst xs],h=>
  let⟨v,rfl,r⟩:=eX hl;let⟨a,o,rfl,j,l⟩:=r.lst sm;show rM g s y H _ w Q I u ⟨a,o,O,.inl ⟨.of j,λp hp=>k _ _ _ _ h (.new sm hp _) ((l.same (cz (sm.free hp) _)).tup aW)⟩⟩
 | [.fzl xs],h=>
  let⟨v,rfl,r⟩:=eX hl;let⟨a,o,rfl,j,l⟩:=r.fzl sm;show rM g s y H _ w Q I u ⟨a,o,O,.inl ⟨z▸j,λp hp=>k _ _ _ _ h (.new sm hp _) ((l.same (cz (sm.free hp) _)).tup aW)⟩⟩
 | [.tup xs],h=>
  let⟨v,rfl,r⟩:=eX hl;let⟨a,o,rfl,j,L,l⟩:=r.tup sm
  show rM g s y H _ w Q I u ⟨a,o,O,.inr ⟨z▸j,k _ M H _ h (.refl sm) (l.tup L)⟩⟩⟩
noncomputable def lh(d:D)(T:String):Ž Bool:=match d with
 |.int _=>if T="int" then Z ž else if T="bool" then Z β else if T="tuple" then Z β else if T="str" then Z β else ż
 |.bl _=>if T="int" then Z ž else if T="bool" then Z ž else if T="tuple" then Z β else ż
 |.str _=>if T="str" then Z ž else if T="tuple" then Z β else ż
 |.tup _=>if T="tuple" then Z ž else if T="int" then Z β else ż
 |.lst _=>if T="tuple" then Z β else if T="list" then Z ž else ż
 |_=>ż
end
structure SteadyD(K:Â)(J:It)(Φ:Hp)(ds:List D):Prop where
 go:∀i H,Same Φ H->i<ds.length->J.go i H
 yl:∀i Φ2 H x H2 d,Same Φ Φ2->Same Φ2 H->ds[i]?=Z d->J.yld i H x H2->∃Φ3,Gr Φ2 H Φ3 H2/\Rp K Φ3 d x
 stop:∀H,Same Φ H->J.stop ds.length H
section
variable{K:Â}{f:Hp}{ds g:Y D}{c j:Y V}{a:Addr}
def Hv(h:SqL K f a c)(r:RpL K f ds c):SteadyD K (r8 K a) f ds:=
 ⟨λi H s p=>⟨c,c[i]'(by rwa[r.1]),s.seq h,aS _⟩,λi l H x o d m s hd y=>by
  let⟨e,y⟩:=y;subst e
  show⟨l,.refl s,(r.2 i x d (y c ((m.trans s).seq h)) hd).same m⟩,λH s=>⟨c,s.seq h,by rw[r.1];show LM _⟩⟩
def IE(h:SqT K f a c)(r:RpL K f ds c):SteadyD K (qI K a) f ds:=
 ⟨λi H s p=>⟨c,c[i]'(by rwa[r.1]),s.sqt h,aS _⟩,λi l H x o d m s hd y=>by
  let⟨e,y⟩:=y;subst e
  show⟨l,.refl s,(r.2 i x d (y c ((m.trans s).sqt h)) hd).same m⟩,λH s=>⟨c,s.sqt h,by rw[r.1];show LM _⟩⟩
def dX(lo:Int)(n:Nat):Y D:=(List.range n).map λi=>D.int (lo+(i:Nat))
def eS(lo:Int)(n:Nat):(dX lo n).length=n:=by unfold dX;simp
def gk{lo:Int}{n i:Nat}{d:D}(h:(dX lo n)[i]?=Z d):i<n/\d=.int (lo+(i:Nat)):=by
 have e:i<n:=by have:=aO h;rwa [eS]at this
 unfold dX at h;rw[LN,Mp e]at h;cases h;show⟨e,O⟩
def xG{lo:Int}{n:Nat}:SteadyD K (lY lo n) f (dX lo n):=
 ⟨λi H s l=>by rw[eS]at l;show l,λi h H x m d o s hd y=>by
  let⟨e,y⟩:=y;subst e y;rw[(gk hd).2]
  show⟨h,.refl s,.int _⟩,λH s=>by rw[eS];show LM n⟩
def Rp.pair{H:Hp}{t:Addr}{d e:D}{x y:V}(h:H t=Z (.tup [x,y]))(l:Rp K H d x)(m:Rp K H e y):Rp K H (.tup [d,e]) (.ref t):=(RpL.cons l (.one m)).tup h
def eD(ds g:Y D):Y D:=List.zipWith (λx y=>.tup [x,y]) ds g
def xW(ds g:Y D):(eD ds g).length=min ds.length g.length:=by unfold eD;simp
def Lb{i:Nat}{d:D}(h:(eD ds g)[i]?=Z d):∃x y,ds[i]?=Z x/\g[i]?=Z y/\d=.tup [x,y]:=by
 unfold eD at h;rw[QQ]at h
 cases e:ds[i]? with
 |none=>rw[e]at h;cases h
 |some x=>
  cases l:g[i]? with
  |none=>rw[e,l]at h;cases h
  |some y=>rw[e,l]at h;cases h;show⟨x,y,O,O,O⟩
def JX{b1 w:Bool}{a1 a2:Addr}(h:SqB K b1 f a1 c)(l:SqB K w f a2 j)(m:RpL K f ds c)(o:RpL K f g j):SteadyD K (qP K b1 a1 w a2) f (eD ds g):=
 ⟨λi H s B=>by
  rw[xW]at B
  have C:i<c.length:=by rw[m.1];omega
  have E:i<j.length:=by rw[o.1];omega
  show⟨c,j,c[i],j[i],SqB.same s h,SqB.same s l,aS C,aS E⟩,λi I H x J d r s hd y=>by
  let⟨t,u,v,z,e,A,F,G⟩:=y;subst e A;let⟨p,q,hp,hq,rfl⟩:=Lb hd;have sn:=r.trans (cz (s.free z) (.tup [u,v]))
  show⟨_,.new s z _,.pair aW ((m.2 i u p (F c (SqB.same (r.trans s) h)) hp).same sn) ((o.2 i v q (G j (SqB.same (r.trans s) l)) hq).same sn)⟩,λH s=>by
  rw[xW]
  show⟨c,j,SqB.same s h,SqB.same s l,by rw[m.1,o.1];omega⟩⟩
end
inductive lI(K:Â)(t:aP)(σ:St)(H:Hp)(R':It->Hp->Prop):Prop|mk (H0:Hp) (Φ:Hp) (ρ:bh) (R:List D->Prop) (_:EnvD K H0 Φ H σ ρ) (_:t ρ R) (_:∀ds Φ' H' J,R ds->Gr Φ H Φ' H'->SteadyD K J Φ' ds->R' J H')
structure PID(K:Â)(X:Cx)(tg e:Å)(t:aP):Prop where pi:X.K=K->PI X tg e (lI K t)
def PI.imp{X:Cx}{f e:Å}{t t':TI}(h:PI X f e t)(k:∀c H R,t' c H R->t c H R):PI X f e t':=λa s c H R I g=>h a s c H R I (k c H R g)
section
variable{K:Â}{X:Cx}{f e a b:Å}{c:Y Å}{pos p:Pos}{t:TD}{tl:aP}
def xA{c:Y Å}{k:Nat}{t:eU}{n:Nat}(j:X.K=K)(l:X.calm=ž)(h:PGs X c t)(m:(Ê c X.env).length=n)(g:(Ê c X.env).findIdx? (·.1)=ż):PG X (.Tuple c k pos) (qd K n t):=j▸KD l h m g
def zy{c:Y Å}{k:Nat}{t:eU}{n:Nat}(j:X.K=K)(l:X.calm=ž)(h:PGs X c t)(m:(Ê c X.env).length=n)(g:(Ê c X.env).findIdx? (·.1)=ż):PG X (.Tuple c k pos) (rf K n t):=j▸HS l h m g
def Gc(t:aP):aP:=λρ R=>t ρ λds=>match ds with| [.int j]=>(-(2^62)<=j/\j<2^62)/\R (dX 0 j.toNat)|_=>False
def Cr(t:aP):aP:=λρ R=>t ρ λds=>match ds with| [.int i,.int j]=>(-(2^62)<=i/\i<2^62/\-(2^62)<=j/\j<2^62)/\R (dX i (j-i).toNat)|_=>False
def RpL.one_inv{l:Hp}{d:D}{j:Y V}(h:RpL K l [d] j):∃v,j=[v]/\Rp K l d v:=by
 let⟨m,g⟩:=h
 match j,m,g with
 | [v],_,g=>show⟨v,O,g 0 v d O O⟩
def RpL.two_inv{l:Hp}{d e:D}{j:Y V}(h:RpL K l [d,e] j):∃v w,j=[v,w]/\Rp K l d v/\Rp K l e w:=by
 let⟨m,g⟩:=h
 match j,m,g with
 | [v,w],_,g=>show⟨v,w,O,g 0 v d O O,g 1 w e O O⟩
def fv(x:Gl X "range")(y:X.mg "range"=ż)(w:PAD K X [a] tl)(z:Á [a] X.env=[(β,eval a X.env)]:=by rfl):PID K X f (.Call (.Name "range" p) [a] [] pos) (Gc tl):=
 ⟨λu=>(CG x y (w.pa u) z).imp λI H F o=>by let⟨l,C,ρ,R,E,t,k⟩:=o;show⟨l,C,ρ,_,E,t,λds h m G r g B _=>by
  match ds,r with
  | [.int j],r=>
   let⟨v,rfl,A⟩:=B.one_inv;obtain rfl:=A.i
   show⟨j,O,r.1.1,r.1.2,k _ h m _ r.2 g xG⟩⟩⟩
def vN(z:Gl X "range")(A:X.mg "range"=ż)(y:PAD K X [a,b] tl)(B:Á [a,b] X.env=[(β,eval a X.env),(β,eval b X.env)]:=by rfl)(o:Á [b] X.env=[(β,eval b X.env)]:=by rfl):PID K X f (.Call (.Name "range" p) [a,b] [] pos) (Cr tl):=
 ⟨λx=>(Gg z A (y.pa x) B o).imp λM H J u=>by let⟨l,I,ρ,R,E,t,k⟩:=u;show⟨l,I,ρ,_,E,t,λds h m L r g G _=>by
  match ds,r with
  | [.int i,.int j],r=>
   let⟨v,w,rfl,C,F⟩:=G.two_inv;obtain rfl:=C.i;obtain rfl:=F.i
   show⟨i,j,O,r.1,k _ h m _ r.2 g xG⟩⟩⟩
end
abbrev cD:=D->bh->(bh->Prop)->Prop
abbrev eZ:=Y D->bh->(bh->Prop)->Prop
inductive lG(K:Â)(g:cD)(v:V)(σ:St)(H:Hp)(Q:St->Hp->Prop):Prop|mk (H0:Hp) (Φ:Hp) (ρ:bh) (d:D) (R:bh->Prop) (_:EnvD K H0 Φ H σ ρ) (_:Rp K Φ d v) (_:g d ρ R) (_:∀ρ' σ',R ρ'->EnvD K H0 Φ H σ' ρ'->Q σ' H)
inductive lGs(K:Â)(g:eZ)(vs:List V)(σ:St)(H:Hp)(Q:St->Hp->Prop):Prop|mk (H0:Hp) (Φ:Hp) (ρ:bh) (ds:List D) (R:bh->Prop) (_:EnvD K H0 Φ H σ ρ) (_:RpL K Φ ds vs) (_:g ds ρ R) (_:∀ρ' σ',R ρ'->EnvD K H0 Φ H σ' ρ'->Q σ' H)
structure PGD(K:Â)(X:Cx)(e:Å)(g:cD):Prop where pg:X.K=K->PG X e (lG K g)
structure PGDs(K:Â)(X:Cx)(es:List Å)(g:eZ):Prop where pg:X.K=K->PGs X es (lGs K g)
def PG.imp{X:Cx}{e:Å}{t t':TG}(h:PG X e t)(k:∀v c H Q,t' v c H Q->t v c H Q):PG X e t':=λa s c H v u Q I r f=>h a s c H v u Q I r (k v c H Q f)
def PGs.imp{X:Cx}{e:Y Å}{t t':eU}(h:PGs X e t)(k:∀v c H Q,t' v c H Q->t v c H Q):PGs X e t':=λa s c H v u Q I r f=>h a s c H v u Q I r (k v c H Q f)
section
variable{K:Â}{X:Cx}{e:Å}{a:Y Å}{pos:Pos}{g:cD}{gs:eZ}
def qD(i:Nat):cD:=λd ρ R=>R (ρ.set i (Z (.v d)))
def bf{i:Nat}{x:Str}(f:X.N.Nodup)(j:X.N[i]?=Z x)(l:eL X.env.scope x)(h:X.fn x=ž\/X.env.scope.names.lookup x=Z .local:=by nofun):PGD K X (.Name x pos) (qD i):=
 ⟨λ_=>(vF f j l h).imp λv p H Q c=>by let⟨m,o,ρ,d,R,E,r,g,k⟩:=c;show k _ _ g (E.set r i)⟩
def pT:eZ:=λds ρ R=>match ds with| []=>R ρ|_=>False
def nD(t:cD)(u:eZ):eZ:=λds ρ R=>match ds with|d::r=>t d ρ λc=>u r c R| []=>False
def kz:PGDs K X [] pT:=⟨λ_=>pgs_nil.imp λv j H Q c=>by
 let⟨f,h,ρ,ds,R,E,r,g,k⟩:=c
 cases ds with
 |nil=>show⟨Nz.mp r.1,k _ _ g E⟩
 |cons=>show g.elim⟩
def fA(w:PGD K X e g)(x:PGDs K X a gs)(z:(Ê (e::a) X.env).map (·.2)=assign e X.env::(Ê a X.env).map (·.2):=by rfl):PGDs K X (e::a) (nD g gs):=
 ⟨λl=>(yT (w.pg l) (x.pg l) z).imp λc C H Q p=>by
  let⟨j,m,ρ,ds,R,E,r,g,k⟩:=p
  cases ds with
  |nil=>show g.elim
  |cons d ds=>
   cases c with
   |nil=>show absurd r.1 (by simp)
   |cons v c=>
    refine⟨v,c,O,j,m,ρ,d,_,E,r.2 0 v d O O,g,λh B g' o=>⟨j,m,h,ds,R,o,⟨by have:=r.1;simpa using this,λi u f A y=>r.2 (i+1) u f A y⟩,g',k⟩⟩⟩
end
def dZ(cap:Y (Ž Nat))(ρ:bh):bh:=cap.map λo=>o.bind λi=>(ρ[i]?).join
def BG{a:Type}{o:Ž (Ž a)}{x:a}(h:o.join=Z x):o=Z (Z x):=by
 cases o with
 |none=>cases h
 |some o=>cases o with
  |none=>cases h
  |some y=>cases h;rfl
def kr{a:Type}{cap:Y (Ž Nat)}{l:Y (Ž a)}{i:Nat}{x:a}(h:(cap.map λo=>o.bind λi=>(l[i]?).join)[i]?=Z (Z x)):∃j,cap[i]?=Z (Z j)/\l[j]?=Z (Z x):=by
 rw[LN]at h
 cases e:cap[i]? with
 |none=>rw[e]at h;cases h
 |some o=>
  rw[e]at h
  cases o with
  |none=>cases h
  |some j=>show⟨j,O,BG (by simpa using h)⟩
def EnvD.cap{K:Â}{m x H:Hp}{f:St}{ρ:bh}{cap:Y (Ž Nat)}(E:EnvD K m x H f ρ)(inj:∀i j k:Nat,cap[i]?=Z (Z k)->cap[j]?=Z (Z k)->i=j):EnvD K m x H (dG cap f) (dZ cap ρ):=by
 have st:∀{i j:Nat}{v:V},cap[i]?=Z (Z j)->f[j]?=Z (Z v)->(dG cap f)[i]?=Z (Z v):=λg l=>by unfold dG;rw[LN,g];simp[l]
 have ts:∀{i j:Nat}{v:V},cap[i]?=Z (Z j)->(dG cap f)[i]?=Z (Z v)->f[j]?=Z (Z v):=λg l=>by let⟨w,a,c⟩:=kr l;rw[g]at a;cases a;show c
 refine⟨E.fz,by unfold dG dZ;simp,λi d h=>?_,λi ds h=>?_,λi j ds y p A B C F=>?_,E.tb⟩
 ·let⟨j,a,c⟩:=kr h;let⟨v,e,r⟩:=E.sl j d c;show⟨v,st a e,r⟩
 ·let⟨j,a,c⟩:=kr h;let⟨p,G,e,q⟩:=E.ow j ds c;show⟨p,G,st a e,q⟩
 ·let⟨u,a,c⟩:=kr A;let⟨w,o,z⟩:=kr B;have:=E.ne u w ds y p c z (ts a C) (ts o F);subst this;show inj i j u a o
structure GK(k:Nat)(g:cD):Prop where p:∀d ρ R,g d ρ R->g d ρ λρ1=>ρ1.length=ρ.length/\ρ1.drop k=ρ.drop k/\R ρ1
structure GKs(k:Nat)(g:eZ):Prop where p:∀ds ρ R,g ds ρ R->g ds ρ λρ1=>ρ1.length=ρ.length/\ρ1.drop k=ρ.drop k/\R ρ1
def B2{k i:Nat}(h:i<k):GK k (qD i):=⟨λd ρ R r=>⟨by simp,by rw[List.drop_set_of_lt h],r⟩⟩
def GZ{k:Nat}:GKs k pT:=⟨λds ρ R r=>by
 cases ds with
 |nil=>show⟨O,O,r⟩
 |cons=>show r⟩
def CT{t:cD}{u:eZ}(c:∀d ρ R a,(∀x,R x->a x)->t d ρ R->t d ρ a)(e:∀d ρ R a,(∀x,R x->a x)->u d ρ R->u d ρ a):∀d ρ R a,(∀x,R x->a x)->nD t u d ρ R->nD t u d ρ a:=by
 intro ds ρ R a h r
 cases ds with
 |nil=>show r
 |cons d ds=>show c d ρ _ _ (λx f=>e ds x _ _ h f) r
structure GM(k:Nat)(g:cD):Prop where
 k:GK k g
 m:∀d ρ R R',(∀x,R x->R' x)->g d ρ R->g d ρ R'
structure GMs(k:Nat)(g:eZ):Prop where
 k:GKs k g
 m:∀d ρ R R',(∀x,R x->R' x)->g d ρ R->g d ρ R'
def bA{k i:Nat}(h:i<k):GM k (qD i):=⟨B2 h,λd ρ R a h r=>h _ r⟩
def lJ{k:Nat}:GMs k pT:=⟨GZ,λds ρ R a h r=>by
 cases ds with
 |nil=>show h _ r
 |cons=>show r⟩
def gy{k:Nat}{t:cD}{u:eZ}(a:GM k t)(c:GMs k u):GMs k (nD t u):=⟨⟨λds ρ R r=>by
 cases ds with
 |nil=>show r
 |cons d ds=>
  have h:t d ρ λf=>u ds f R:=r;refine a.m _ _ _ _ (λg q=>?_) (a.k.p d ρ _ h)
  show c.m _ _ _ _ (λj e=>⟨e.1.trans q.1,e.2.1.trans q.2.1,e.2.2⟩) (c.k.p ds g R q.2.2)⟩,CT a.m c.m⟩
def tN:bT:=λ_ R=>R ž
structure PIfD(K:Â)(X:Cx)(ifs:List Å)(t:bT):Prop where p:X.K=K->jO X ifs (lT K t)
def qF{K:Â}{X:Cx}:PIfD K X [] tN:=⟨λ_ a s f H Q I c=>by let⟨g,e,ρ,R,E,t,k⟩:=c;show FA a s f H Q I (k ž e H t (.refl E.fz))⟩
def gR{K:Â}{X:Cx}{c:Å}{t:bT}(h:PTD K X c t):PIfD K X [c] t:=⟨λa=>Ga (h.pt a)⟩
def EnvD.side{K:Â}{a f H:Hp}{g:St}{ρ:bh}{p:Addr}{o u:HO}(E:EnvD K a f H g ρ)(h0:a p=Z u)(j:f p=ż):EnvD K a f (au H p o) g ρ:=
 ⟨λb w e=>by rw[aE (bN e j)];show E.fz b w e,E.len,E.sl,λi ds h=>by
  let⟨q,r,e,c,l,v,m⟩:=E.ow i ds h
  show⟨q,r,e,c,l,by rwa[aE λz=>by rw[z,h0]at c;cases c],m⟩,E.ne,E.tb⟩
def EnvD.base{K:Â}{a f H:Hp}{g:St}{ρ:bh}{p:Addr}{u:HO}(E:EnvD K a f H g ρ)(hp:H p=ż):EnvD K (au a p u) f H g ρ:=
 ⟨E.fz,E.len,E.sl,λi ds h=>by
  let⟨q,m,e,o,j,c,l⟩:=E.ow i ds h
  show⟨q,m,e,by rwa[aE (bN c hp)],j,c,l⟩,E.ne,E.tb⟩
noncomputable def sS(f:aP)(cap:Y (Ž Nat))(g:cD)(c:bT)(e:TD):aP:=λρ R=>f ρ λds=>ds.length<sizeLine/\∃P:Nat->Ž D->Prop,
 (∀i d,ds[i]?=Z d->g d (dZ cap ρ) λa=>c a λb=>(b=ž->e a λy=>P i (Z y))/\(b=β->P i ż))/\∀ys:Y (Ž D),ys.length=ds.length->(∀i y,ys[i]?=Z y->P i y)->R (ys.filterMap id)
def KG(ys:Y (Ž D))(y:D):(ys++[Z y]).filterMap id=ys.filterMap id++[y]:=by simp
def A6(ys:Y (Ž D)):(ys++[ż]).filterMap id=ys.filterMap id:=by simp
def KO(ys:Y (Ž D)):(ys.filterMap id).length<=ys.length:=List.length_filterMap_le _ _
def uQ{f:Type}{ys:Y f}{y:f}{P:Nat->f->Prop}{n:Nat}(hl:ys.length=n)(h:∀i z,ys[i]?=Z z->P i z)(g:P n y):∀i z,(ys++[y])[i]?=Z z->P i z:=by
 intro i z a;rcases Mu i ys.length with c|c
 ·rw[LF c]at a;show h i z a
 ·rw[LH c]at a
  have h0:i-ys.length=0:=by
   rcases Nat.eq_zero_or_pos (i-ys.length)with e|e
   ·show e
   ·rw[Mn (by simp only[LX,MP];omega)]at a;cases a
  rw[h0]at a;cases a
  have:i=n:=by omega
  subst this;show g
def fb(k:Nat)(cap:Y (Ž Nat)):Bool:=(cap.take k).all (·.isNone)&&decide ((cap.filterMap id).Nodup)
def Es{k:Nat}{cap:Y (Ž Nat)}(h:fb k cap=ž){i:Nat}(a:i<k){o:Ž Nat}(e:cap[i]?=Z o):o=ż:=by
 unfold fb at h;rw[Nq]at h;have:=Nr.mp h.1 o (Mb (i:=i) (by rwa[NN a]))
 cases o with
 |none=>rfl
 |some _=>cases this
def wI{k:Nat}{cap:Y (Ž Nat)}(h:fb k cap=ž):∀i j n:Nat,cap[i]?=Z (Z n)->cap[j]?=Z (Z n)->i=j:=by
 unfold fb at h;rw[Nq]at h;have nd:=Mm h.2;clear h
 induction cap with
 |nil=>intro i j n a;simp at a
 |cons o cap p=>
  intro i j n a c
  have f:(cap.filterMap id).Nodup:=by
   cases o with
   |none=>simpa using nd
   |some m=>have e : (Z m :: cap).filterMap id = m :: cap.filterMap id:= rfl
            rw [e]at nd; show (MB.mp nd).2
  have one:∀{i:Nat},o=Z n->cap[i]?=Z (Z n)->False:=λ{i} l g=>by
   subst l;have e:(Z n::cap).filterMap id=n::cap.filterMap id:=rfl;rw[e]at nd;show (MB.mp nd).1 (Og.mpr ⟨Z n,Mb g,O⟩)
  cases i with
  |zero=>cases j with
   |zero=>rfl
   |succ j=>show (one (by simpa using a) (by simpa using c)).elim
  |succ i=>cases j with
   |zero=>show (one (by simpa using c) (by simpa using a)).elim
   |succ j=>show MR Nat.succ (p f i j n (by simpa using a) (by simpa using c))
section
variable{K:Â}{X:Cx}{r iter l:Å}{A:Y Å}{scope:â}{pos:Pos}{N':Y Str}{cap:Y (Ž Nat)}{f:aP}{g:cD}{w:bT}{a:TD}
def uv{k:Nat}(RC:fb k cap=ž)(hk:GM k g){σ:St}{H:Hp}{Q:VK}{U Φ:Hp}{ρ:bh}{R W:Y D->Prop}(E:EnvD K U Φ H σ ρ)(t:f ρ W)
  (conv:∀ds,W ds->ds.length<sizeLine/\∃P:Nat->Ž D->Prop,(∀i d,ds[i]?=Z d->g d (dZ cap ρ) λz=>w z λb=>(b=ž->a z λy=>P i (Z y))/\(b=β->P i ż))/\∀ys:Y (Ž D),ys.length=ds.length->(∀i y,ys[i]?=Z y->P i y)->R (ys.filterMap id))
  (kk:∀ds h H' p C,R ds->Gr Φ H h H'->H p=ż->h p=ż->H' p=Z (.lst C)->RpL K h ds C->Q (.ref p) H'):gO (lI K f) cap (lG K g) (lT K w) (lE K a) σ H Q:=by
 refine⟨U,Φ,ρ,W,E,t,λds F H1 J hW am S B hD=>?_⟩
 let⟨hlen,P,hp,hr⟩:=conv ds hW
 have E1:=E.gr am;have L:F B=ż:=am.s.free hD;have C0:EnvD K (au U B (.lst [])) F (au H1 B (.lst [])) (dG cap σ) (dZ cap ρ):=((E1.base (u:=.lst []) hD).side (o:=.lst []) aW L).cap (wI RC);refine⟨λi m σ' H'=>m=ds.length-i/\i<=ds.length/\∃(h:Hp)(C:Y V)(ys:Y (Ž D)),EnvD K (au U B (.lst [])) h H' σ' (dZ cap ρ)/\Gr F H1 h H'/\h B=ż/\H' B=Z (.lst C)/\RpL K h (ys.filterMap id) C/\ys.length=i/\∀j y,ys[j]?=Z y->P j y,⟨ds.length,by simp,ME _,F,[],[],C0,.fresh am.s hD _,L,aW,.nil,O,λj y hj=>by simp at hj⟩,?_⟩;rintro i m σ' H' ⟨rfl,hi,h,C,ys,Ei,G,hDi,WZ,Us,be,hy⟩;by_cases Rl:i<ds.length
 ·refine .inr ⟨S.go i H' (G.f.trans G.s) Rl,λσ2 T=>∃(h:Hp)(C:Y V)(ys:Y (Ž D)),EnvD K (au U B (.lst [])) h T σ2 (dZ cap ρ)/\Gr F H1 h T/\h B=ż/\T B=Z (.lst C)/\RpL K h (ys.filterMap id) C/\ys.length=i+1/\∀j y,ys[j]?=Z y->P j y,λσ2 T h2=>⟨ds.length-(i+1),(),O,Rl,h2⟩,λx T y=>?_⟩;let⟨N,I,rx⟩:=S.yl i h H' x T _ G.f G.s (aS Rl) y;have E3:=Ei.gr I;refine⟨_,N,dZ cap ρ,_,_,E3,rx,hk.k.p _ _ _ (hp i _ (aS Rl)),λz σ3 Rb E4=>?_⟩;let⟨Se,Vr,t1⟩:=Rb
  have wk:∀(j:Nat) x,(dZ cap ρ)[j]?=Z (Z x)->z[j]?=Z (Z x):=λj x hj=>by
   rcases Mu j k with c|c
   ·let⟨n,h1,_⟩:=kr hj;cases Es RC c h1
   ·have e1:(dZ cap ρ)[j]?=((dZ cap ρ).drop k)[j-k]?:=by rw[OQ];congr 1;omega
    have e2:z[j]?=(z.drop k)[j-k]?:=by rw[OQ];congr 1;omega
    rwa[e2,Vr,←e1]
  have hD3:N B=ż:=I.o _ _ WZ hDi;refine⟨_,N,z,_,E4,t1,λb a_ H4 rb M=>?_⟩;have E5:=(E4.gr M);have UX:=M.h _ _ (I.h _ _ WZ);have hD4:a_ B=ż:=M.o _ _ (I.h _ _ WZ) hD3
  cases b with
  |false=>
   refine nj ?_;refine⟨a_,C,ys++[ż],E5.weak Se.symm wk,(G.trans I).trans M,hD4,UX,?_,by rw[LL,be];rfl,uQ be hy (rb.2 O)⟩;rw[A6];show (Us.same I.f).same M.f
  |true=>
   refine nZ ?_;refine⟨_,a_,z,_,E5,rb.1 O,λd Φ5 H5 v rd g5 rv=>?_⟩;have E6:=E5.gr g5;have X1:=g5.h _ _ UX;have X2:Φ5 B=ż:=g5.o _ _ UX hD4;have gg:=((G.trans I).trans M).trans g5;refine⟨C,X1,?_,Φ5,C++[v],ys++[Z d],(E6.weak Se.symm wk).side aW X2,?_,X2,aW,?_,by rw[LL,be];rfl,uQ be hy rd⟩
   ·have:=KO ys;rw[Us.1];omega
   ·show⟨gg.f,xw gg.h hD _,λb u e=>by rw[aE (bN e X2)];show gg.s b u e,λp u hp hn k=>gg.o p u hp hn k⟩
   ·rw[KG];show (((Us.same I.f).same M.f).same g5.f).append (.one rv)
 ·have e:i=ds.length:=by omega
  subst e;show .inl ⟨S.stop H' (G.f.trans G.s),kk _ h H' B C (hr ys be hy) (am.trans G) (am.h.free hD) hDi WZ Us⟩
def yu{k:Nat}(e:fb k cap=ž)(j:GM k g){c:St}{H:Hp}{Q:VK}(h:lF K (sS f cap g w a) c H Q):gO (lI K f) cap (lG K g) (lT K w) (lE K a) c H Q:=by let⟨o,p,ρ,R,E,t,m⟩:=h;show uv e j E t (λds h=>h) m
def jF{k:Nat}(o:X.calm=ž)(S:CompScope X.N X.env.scope scope N' cap)(m:fb k cap=ž)(y:GM k g)(v:PID K X r iter f)
  (u:∀(cl:Y (Str×Addr))(e:Y Addr)(C:Addr)(h:À)(c:Hp),PGD K (bU X scope N' cl C h c e) r g) (B:∀(cl:Y (Str×Addr))(e:Y Addr)(C:Addr)(h:À)(c:Hp),PIfD K (bU X scope N' cl C h c e) A w)
  (p:∀(cl:Y (Str×Addr))(e:Y Addr)(C:Addr)(h:À)(c:Hp),PD K (bU X scope N' cl C h c e) l a) (z:∀x,Ï iter X.env x=pure x:=by intro _;rfl):PF K X (.ListComp l [⟨r,iter,A,0⟩] scope pos) (sS f cap g w a):=
 ⟨λj=>(yN o S (v.pi j) (λcl e C h c=>(u cl e C h c).pg j) (λcl e C h c=>(B cl e C h c).p j) (λcl e C h c=>(p cl e C h c).pe j) z).imp λ_ _ _=>yu m y⟩
def ny(f:aP)(cap:Y (Ž Nat))(g:cD)(a:TD):aP:=λρ R=>f ρ λds=>ds.length<sizeLine/\∃P:Nat->D->Prop,
 (∀i d,ds[i]?=Z d->g d (dZ cap ρ) λc=>a c (P i))/\∀ys:Y D,ys.length=ds.length->(∀i y,ys[i]?=Z y->P i y)->R ys
def J3(P:Nat->D->Prop):Nat->Ž D->Prop:=λi o=>match o with|some y=>P i y|none=>False
theorem yp{P:Nat->D->Prop}:∀(ys:Y (Ž D)),(∀(i:Nat) y,ys[i]?=Z y->∃z,y=Z z)->∃c:Y D,ys=c.map Z
 | [],_=>⟨[],O⟩
 |y::ys,h=>by let⟨z,rfl⟩:=h 0 y O;let⟨c,rfl⟩:=yp (P:=P) ys λi y e=>h (i+1) y e;show⟨z::c,O⟩
def GP{ds:Y D}{ρ:bh}{R:Y D->Prop}(h:ds.length<sizeLine/\∃P:Nat->D->Prop,(∀i d,ds[i]?=Z d->g d (dZ cap ρ) λc=>a c (P i))/\∀ys:Y D,ys.length=ds.length->(∀i y,ys[i]?=Z y->P i y)->R ys){k:Nat}(u:GM k g) :
  ds.length<sizeLine/\∃P:Nat->Ž D->Prop,(∀i d,ds[i]?=Z d->g d (dZ cap ρ) λc=>tN c λb=>(b=ž->a c λy=>P i (Z y))/\(b=β->P i ż))/\∀ys:Y (Ž D),ys.length=ds.length->(∀i y,ys[i]?=Z y->P i y)->R (ys.filterMap id):=by
 let⟨h0,P,o,p⟩:=h;refine⟨h0,J3 P,λi d hd=>u.m _ _ _ _ (λc q=>⟨λ_=>q,λe=>by cases e⟩) (o i d hd),λys hl m=>?_⟩
 let⟨j,rfl⟩:=yp (P:=P) ys λi y e=>by
  have:=m i y e
  cases y with
  |none=>show this.elim
  |some z=>show⟨z,O⟩
 rw[P6]
 have e:j.filterMap (id ∘ Z)=j:=by simp
 rw[e];refine p j (by simpa using hl) λi y e=>?_;show m i (Z y) (by rw[LN,e];rfl)
def rX{k:Nat}(j:fb k cap=ž)(c:GM k g){e:St}{H:Hp}{Q:VK}(h:lF K (ny f cap g a) e H Q):gO (lI K f) cap (lG K g) (lT K tN) (lE K a) e H Q:=by let⟨o,p,ρ,R,E,t,m⟩:=h;show uv j c E t (λds h=>GP h c) m
def de{k:Nat}(o:X.calm=ž)(S:CompScope X.N X.env.scope scope N' cap)(m:fb k cap=ž)(y:GM k g)(v:PID K X r iter f)
  (u:∀(cl:Y (Str×Addr))(e:Y Addr)(C:Addr)(h:À)(c:Hp),PGD K (bU X scope N' cl C h c e) r g)
  (p:∀(cl:Y (Str×Addr))(e:Y Addr)(C:Addr)(h:À)(c:Hp),PD K (bU X scope N' cl C h c e) l a) (z:∀x,Ï iter X.env x=pure x:=by intro _;rfl):PF K X (.ListComp l [⟨r,iter,[],0⟩] scope pos) (ny f cap g a):=
 ⟨λj=>(yN o S (v.pi j) (λcl e C h c=>(u cl e C h c).pg j) (λcl e C h c=>(qF (K:=K)).p j) (λcl e C h c=>(p cl e C h c).pe j) z).imp λ_ _ _=>rX m y⟩
end
structure EndsD where
 nx:bh->Prop
 rt:D->Prop
 bk:bh->Prop:=λ_=>False
 ct:bh->Prop:=λ_=>False
abbrev cu:=EndsD->bh->Prop
def pX(K:Â)(f g:Hp)(P:bh->Prop)(Q:St->Hp->Prop):Prop:=∀c a H' e,P c->Gr f g a H'->EnvD K g a H' e c->Q e H'
structure EndOk(K:Â)(Φ0 H0:Hp)(De:EndsD)(E:Ends):Prop where
 nx:pX K Φ0 H0 De.nx E.nx
 rt:∀d Φ' H' v,De.rt d->Gr Φ0 H0 Φ' H'->Rp K Φ' d v->E.rt v H'
 bk:pX K Φ0 H0 De.bk E.bk
 ct:pX K Φ0 H0 De.ct E.ct
inductive lS(K:Â)(t:cu)(E:Ends)(σ:St)(H:Hp):Prop|mk (Φ0:Hp) (H0:Hp) (Φ:Hp) (ρ:bh) (De:EndsD) (_:Gr Φ0 H0 Φ H) (_:EnvD K H0 Φ H σ ρ) (_:t De ρ) (_:EndOk K Φ0 H0 De E)
structure PSD(K:Â)(X:Cx)(st:Ë)(t:cu):Prop where ps:X.K=K->PS X st (lS K t)
structure PSsD(K:Â)(X:Cx)(st:List Ë)(t:cu):Prop where ps:X.K=K->PSs X st (lS K t)
section
variable{K:Â}{X:Cx}{st:Ë}{l:Y Ë}{t u:cu}{e a:Å}{f:TD}{tf:aP}{pos:Pos}{o:bT}
def Iw:cu:=λc ρ=>c.nx ρ
def JD(t u:cu):cu:=λc ρ=>t { c with nx:=u c } ρ
def HW(t u:cu):cu:=λg ρ=>∃I:bh->Prop,t { g with nx:=I } ρ/\∀c,I c->u g c
def dz:PSsD K X [] Iw:=⟨λ_=>pss_nil.imp λE m H c=>by let⟨j,r,h,ρ,p,g,V,t,k⟩:=c;show k.nx ρ h H m t g V⟩
def aU(x:PSD K X st t)(y:PSsD K X l u):PSsD K X (st::l) (JD t u):=⟨λp=>(jf (x.ps p) (y.ps p)).imp λE B H v=>by let⟨c,m,z,ρ,r,g,V,t,k⟩:=v;exact
 ⟨c,m,z,ρ,_,g,V,t,⟨λj h H' A t' g' w=>⟨c,m,h,j,r,g',w,t',k⟩,k.rt,k.bk,k.ct⟩⟩⟩
def fP(y:PSD K X st t)(z:PSsD K X l u):PSsD K X (st::l) (HW t u):=⟨λr=>(jf (y.ps r) (z.ps r)).imp λE C H w=>by let⟨h,p,A,ρ,v,g,V,⟨I,t,c⟩,k⟩:=w;exact
 ⟨h,p,A,ρ,_,g,V,t,⟨λj m H' B t' g' x=>⟨h,p,m,j,v,g',x,c j t',k⟩,k.rt,k.bk,k.ct⟩⟩⟩
def aQ(c:PSD K X st t):PSsD K X [st] t:=⟨λg=>p5 (c.ps g)⟩
def Gq:cu:=λ_ _=>False
def sF:PSD K X st Gq:=⟨λ_=>ps_never.imp λE r H c=>by let⟨h,m,p,ρ,j,g,V,t,k⟩:=c;show t⟩
def kS(i:Nat)(f:TD):cu:=λc ρ=>f ρ λd=>c.nx (ρ.set i (Z (.v d)))
def G0{i:Nat}{E:Ends}{m:St}{H:Hp}(h:lS K (kS i f) E m H):i6 (lE K f) (h9 i) E m H:=by let⟨z,p,y,ρ,A,g,V,t,k⟩:=h;show⟨p,y,ρ,_,V,t,λd c w v r j x=>k.nx _ c w _ r (g.trans j) ((V.gr j).set x i)⟩
def bz{i:Nat}{x:Str}{c:Pos}(h:X.N.Nodup)(p:X.N[i]?=Z x)(v:eL X.env.scope x)(j:PD K X e f)(r:Ð e (Z (.Name x c)) pos.line X.env=pure β:=by rfl)(m:X.fn x=ž\/X.env.scope.names.lookup x=Z .local:=by nofun) :
  PSD K X (.Assign [.Name x c] e pos) (kS i f):=⟨λg=>(tJ h p v (j.pe g) r m).imp λ_ _ _=>G0⟩
def uw(i:Nat)(tf:aP):cu:=λc ρ=>tf ρ λds=>c.nx (ρ.set i (Z (.own ds)))
def Ef{i:Nat}{E:Ends}{m:St}{H:Hp}(h:lS K (uw i tf) E m H):lF K tf m H λv H'=>h9 i v m H' E.nx:=by let⟨F,x,C,ρ,G,g,V,t,k⟩:=h;refine⟨x,C,ρ,_,V,t,λds c y p J r w hp B hl rl=>k.nx _ c y _ r (g.trans w) ((V.gr w).setOwn rl (g.h.free hp) B hl (λj I A z=>?_) i)⟩;let⟨q,L,e,_,_,hq,_⟩:=V.ow j _ A;rw[e]at z;cases z;rw[hp]at hq;cases hq
def vC{i:Nat}{x:Str}{c:Pos}(j:X.N.Nodup)(r:X.N[i]?=Z x)(w:eL X.env.scope x)(m:PF K X e tf)(v:Ð e (Z (.Name x c)) pos.line X.env=pure β:=by rfl)(p:X.fn x=ž\/X.env.scope.names.lookup x=Z .local:=by nofun) :
  PSD K X (.Assign [.Name x c] e pos) (uw i tf):=⟨λg=>(tJ j r w (m.pe g) v p).imp λ_ _ _ h=>Ef h⟩
def GO(f:TD):cu:=λc ρ=>f ρ λ_=>c.nx ρ
def iV(x:PD K X e f)(y:Ð e ż pos.line X.env=pure β:=by rfl):PSD K X (.Expr e pos) (GO f):=
 ⟨λw=>(mf (x.pe w) y).imp λE B H p=>by let⟨A,j,z,ρ,C,g,V,t,k⟩:=p;show⟨j,z,ρ,_,V,t,λd c m v r h F=>k.nx _ c m B r (g.trans h) (V.gr h)⟩⟩
def EU(f:TD):cu:=λc ρ=>f ρ c.rt
def bq(x:PD K X e f):PSD K X (.Return (Z e) pos) (EU f):=
 ⟨λw=>(vX (x.pe w)).imp λE C H m=>by let⟨A,h,z,ρ,B,g,V,t,k⟩:=m;show⟨h,z,ρ,_,V,t,λd c j v r p y=>k.rt d c j v r (g.trans p) y⟩⟩
def DH(c:bT)(t u:cu):cu:=λg ρ=>c ρ λb=>(b=ž->t g ρ)/\(b=β->u g ρ)
def c9{c:Å}{a b:Y Ë}(A:PTD K X c o)(y:PSsD K X a t)(z:PSsD K X b u):PSD K X (.If c a b pos) (DH o t u):=
 ⟨λv=>(xH (A.pt v) (y.ps v) (z.ps v)).imp λE F H x=>by let⟨h,p,B,ρ,w,g,V,t,k⟩:=x;show⟨p,B,ρ,_,V,t,λc j C r m=>by
  cases c with
  |true=>refine nZ ?_;show⟨h,p,j,ρ,w,g.trans m,V.gr m,r.1 O,k⟩
  |false=>refine nj ?_;show⟨h,p,j,ρ,w,g.trans m,V.gr m,r.2 O,k⟩⟩⟩
def DD(f:TD)(g:cD):cu:=λc ρ=>f ρ λd=>g d ρ c.nx
def Ij{c:Å}{x:cD}(F:PD K X e f)(G:PGD K X c x)(I:æ [c] e pos.line X.env=pure β:=by rfl)(J:ç [c] e X.env=pure ż:=by rfl)
  (C:(Ê [c] X.env).map (·.2)=[assign c X.env]:=by rfl):PSD K X (.Assign [c] e pos) (DD f x):=
 ⟨λy=>(tH (F.pe y) (G.pg y) I J C).imp λE Q H A=>by let⟨U,p,N,ρ,P,g,V,t,k⟩:=A;show⟨p,N,ρ,_,V,t,λd h z v r w M=>⟨p,h,ρ,d,_,V.gr w,M,r,λj m L B=>k.nx j h z m L (g.trans w) B⟩⟩⟩
def BK(c:bT)(tb:cu):cu:=λp ρ=>∃I:Nat->bh->Prop,(∃m,I m ρ)/\∀m g,I m g->c g λb=>(b=ž->tb { p with nx:=λh=>∃j,j<m/\I j h,ct:=λh=>∃j,j<m/\I j h,bk:=p.nx } g)/\(b=β->p.nx g)
def uo{c:Å}{w:Y Ë}{tb:cu}(hp:Ď (Ä X.prog X.w) X.A X.env X.xe)(be:PTD K X c o)(U:PSsD K X w tb):PSD K X (.While c w [] pos) (BK o tb):=
 ⟨λQ=>(Ed hp (be.pt Q) (U.ps Q)).imp λE R H T=>by
  let⟨x,A,Φ,ρ,De,g,V,⟨I,⟨m,h0⟩,hw⟩,k⟩:=T;refine⟨λm R H=>∃p j,Gr x A p H/\EnvD K A p H R j/\I m j,⟨m,Φ,ρ,g,V,h0⟩,?_⟩;rintro m P H' ⟨p,j,g',L,am⟩;refine⟨A,p,j,_,L,hw m j am,λb F S r G=>?_⟩
  cases b with
  |false=>refine nj ?_;show k.nx j F S P (r.2 O) (g'.trans G) (L.gr G)
  |true=>
   refine nZ ?_;refine⟨λv C=>∃B,B<m/\∃p j,Gr x A p C/\EnvD K A p C v j/\I B j,λv C h=>h,x,A,F,j,_,g'.trans G,L.gr G,r.1 O,⟨?_,k.rt,k.nx,?_⟩⟩
   ·rintro z y C v ⟨B,a_,J⟩ N M;show⟨B,a_,y,z,N,M,J⟩
   ·rintro z y C v ⟨B,a_,J⟩ N M
    show⟨B,a_,y,z,N,M,J⟩⟩
def Ko(m:aP)(j:cD)(tb:cu):cu:=λg ρ=>m ρ λds=>∃I:Nat->bh->Prop,I 0 ρ/\(∀i d c,ds[i]?=Z d->I i c->j d c λh=>tb { g with nx:=I (i+1),ct:=I (i+1),bk:=g.nx } h)/\∀c,I ds.length c->g.nx c
def iq{tg iter:Å}{B:Y Ë}{ti:aP}{gd:cD}{tb:cu}(hp:Ď (Ä X.prog X.w) X.A X.env X.xe)(hc:X.calm=ž)(hi:PID K X tg iter ti)(hg:PGD K X tg gd)(hb:PSsD K X B tb)
  (hs:∀x,Ï iter X.env x=pure x:=by intro _;rfl):PSD K X (.For tg iter B [] pos) (Ko ti gd tb):=
 ⟨λam=>(uP hp hc (hi.pi am) (hg.pg am) (hb.ps am) hs).imp λE σ H Rb=>by
  let⟨T,C,Φ,ρ,De,g,V,t,k⟩:=Rb;refine⟨C,Φ,ρ,_,V,t,λds F H1 J RL g1 S=>?_⟩;let⟨I,h0,RG,Ss⟩:=RL;refine⟨λi m σ H'=>m=ds.length-i/\i<=ds.length/\∃c h,Gr T C c H'/\Same F c/\EnvD K C c H' σ h/\I i h,⟨ds.length,by simp,ME _,F,ρ,g.trans g1,Same.refl _,V.gr g1,h0⟩,?_⟩;rintro i m σ' H' ⟨rfl,hi,c,h,g',Q,a_,hI⟩;by_cases be:i<ds.length
  ·refine .inr ⟨S.go i H' (Q.trans a_.fz) be,λU M=>∃c h,Gr T C c M/\Same F c/\EnvD K C c M U h/\I (i+1) h,λU M h2=>⟨ds.length-(i+1),(),O,be,h2⟩,λx M y=>?_⟩;let⟨G,z,rx⟩:=S.yl i c H' x M _ Q a_.fz (aS be) y;refine⟨C,G,h,_,_,a_.gr z,rx,RG i _ h (aS be) hI,λρ2 σ3 t2 V3=>?_⟩;refine⟨G,C,G,ρ2,_,?_,V3,t2,⟨?_,?_,?_,?_⟩⟩
   ·show⟨Same.refl _,(g'.trans z).h,z.s,λp u hp hn _=>hn⟩
   ·intro w j N L R A P;show⟨j,w,(g'.trans z).join A,(Q.trans z.f).trans A.f,P,R⟩
   ·intro d j N v r A rv;show k.rt d j N v r ((g'.trans z).join A) rv
   ·intro w j N L R A P;show k.nx w j N L R ((g'.trans z).join A) P
   ·intro w j N L R A P;show⟨j,w,(g'.trans z).join A,(Q.trans z.f).trans A.f,P,R⟩
  ·have e:i=ds.length:=by omega
   subst e
   show .inl ⟨S.stop H' (Q.trans a_.fz),k.nx h c H' σ' (Ss h hI) g' a_⟩⟩
end
section
variable{K:Â}{X:Cx}{j iter c e:Å}{l:Y Å}{scope:â}{pos B F:Pos}{N':Y Str}{cap:Y (Ž Nat)}{z:aP}{g:cD}{A:bT}{a:TD}{i:Nat}{y:Str}
def xv{tf:aP}{E:Ends}{m:St}{H:Hp}(f:∀{m:St}{H:Hp}{Q:VK},lF K tf m H Q->gO (lI K z) cap (lG K g) (lT K A) (lE K a) m H Q)(h:lS K (kS i (n6 tf)) E m H):i6 (gO (lI K z) cap (lG K g) (lT K A) (lE K a)) (h9 i) E m H:=by let⟨J,v,G,ρ,L,w,V,t,x⟩:=h;show f ⟨v,G,ρ,_,V,t,λds I H' p M r u h0 o hp C=>x.nx _ _ H' _ r (w.trans (u.freeze h0 o hp)) ((V.gr (u.freeze h0 o hp)).set ((C.same (cz o _)).lst aW) i)⟩
def zx{k:Nat}(u:X.calm=ž)(w:X.N.Nodup)(N:X.N[i]?=Z y)(M:eL X.env.scope y)(S:CompScope X.N X.env.scope scope N' cap)(r:fb k cap=ž)(J:GM k g)(I:PID K X j iter z)
  (H:∀(cl:Y (Str×Addr))(m:Y Addr)(C:Addr)(o:À)(f:Hp),PGD K (bU X scope N' cl C o f m) j g)
  (E:∀(cl:Y (Str×Addr))(m:Y Addr)(C:Addr)(o:À)(f:Hp),PD K (bU X scope N' cl C o f m) c a) (v:Ð (.ListComp c [⟨j,iter,[],0⟩] scope pos) (Z (.Name y B)) F.line X.env=pure ž:=by rfl)
  (L:∀x,Ï iter X.env x=pure x:=by intro _;rfl) (G:X.fn y=ž\/X.env.scope.names.lookup y=Z .local:=by nofun) :
  PSD K X (.Assign [.Name y B] (.ListComp c [⟨j,iter,[],0⟩] scope pos) F) (kS i (n6 (ny z cap g a))):=
 ⟨λp=>(qJ u w N M S (I.pi p) (λcl m C o f=>(H cl m C o f).pg p) (λcl m C o f=>(qF (K:=K)).p p) (λcl m C o f=>(E cl m C o f).pe p) v L G).imp λ_ _ _ h=>xv (λq=>rX r J q) h⟩
def qL{k:Nat}(u:X.calm=ž)(w:X.N.Nodup)(U:X.N[i]?=Z y)(N:eL X.env.scope y)(S:CompScope X.N X.env.scope scope N' cap)(r:fb k cap=ž)(J:GM k g)(I:PID K X j iter z)
  (H:∀(cl:Y (Str×Addr))(m:Y Addr)(C:Addr)(o:À)(f:Hp),PGD K (bU X scope N' cl C o f m) j g) (M:∀(cl:Y (Str×Addr))(m:Y Addr)(C:Addr)(o:À)(f:Hp),PIfD K (bU X scope N' cl C o f m) l A)
  (E:∀(cl:Y (Str×Addr))(m:Y Addr)(C:Addr)(o:À)(f:Hp),PD K (bU X scope N' cl C o f m) c a) (v:Ð (.ListComp c [⟨j,iter,l,0⟩] scope pos) (Z (.Name y B)) F.line X.env=pure ž:=by rfl)
  (L:∀x,Ï iter X.env x=pure x:=by intro _;rfl) (G:X.fn y=ž\/X.env.scope.names.lookup y=Z .local:=by nofun) :
  PSD K X (.Assign [.Name y B] (.ListComp c [⟨j,iter,l,0⟩] scope pos) F) (kS i (n6 (sS z cap g A a))):=
 ⟨λp=>(qJ u w U N S (I.pi p) (λcl m C o f=>(H cl m C o f).pg p) (λcl m C o f=>(M cl m C o f).p p) (λcl m C o f=>(E cl m C o f).pe p) v L G).imp λ_ _ _ h=>xv (λq=>yu r J q) h⟩
def IB{f h r H:Hp}{p:Addr}{o:HO}(g:Gr f h r H)(h0:h p=ż)(m:r p=ż):Gr f h r (au H p o):=
 ⟨g.f,xw g.h h0 _,λb u e=>by rw[aE (bN e m)];show g.s b u e,λp u hp m k=>g.o p u hp m k⟩
def ud(i:Nat)(a:TD):cu:=λf ρ=>match ρ[i]? with|some (Z (.ob (.lst ds)))=>a ρ λd=>ds.length<sizeLine/\NF (ds++[d]) λh=>f.nx (ρ.set i (Z (.own h)))|_=>False
def su{f h m:Pos}{x:Str}(i:Nat)(T:PD K X e a)(N:((Ñ h (Á [e] X.env)).all (λx=>!x.1)&&(ì h (Û [] X.env)).all (λx=>x.1.isSome)&&decide (([e]:Y Å).length+([]:Y Ö).length+(if ([]:Y Ö).isEmpty then 0 else 1)<30))=ž)
  (C:Á [e] X.env=(β,eval e X.env)::Á [] X.env) (S:X.N[i]?=Z x:=by rfl) (am:du X.env.scope x:=by nofun) (hd:ab x:=by decide) (Q:ad x:=by decide)
  (L:Ò (.Name x m) "append" X.env (eval (.Name x m) X.env)=eval (.Name x m) X.env:=by rfl) (M:(f.endLine==h.line)=ž:=by rfl) (be:Ð (.Call (.Attribute (.Name x m) "append" f) [e] [] h) ż pos.line X.env=pure β:=by rfl) :
  PSD K X (.Expr (.Call (.Attribute (.Name x m) "append" f) [e] [] h) pos) (ud i a):=
 ⟨λR=>(mf (j5 Oe Qt Qu se (pv i S am hd Q) (dR (T.pe R) pa_nil C) L N M C ag) be).imp λE σ H P=>by
  let⟨Φ0,J,Φ,ρ,De,g,V,t,k⟩:=P;unfold ud at t;split at t
  ·next ds ho=>
   let⟨p,I,G,h0,U,hp,rl⟩:=V.owl i ds ho;refine⟨_,G,.inl ⟨O,I,SqL.of hp⟩,J,Φ,ρ,_,V,t,λd w H1 v r o rv=>?_⟩;have a_:=o.h _ _ hp;have u:=o.o _ _ hp U;refine⟨p,I,v,O,O,a_,by rw[rl.1];show r.1,k.nx _ w _ σ r.2.get (IB (g.trans o) h0 u) ((V.gr o).put ho G ((rl.same o.f).append (.one rv)))⟩
  ·show t.elim⟩
def uE(i:Nat)(f:Int->Int->Int)(a:TD):cu:=λh ρ=>match ρ[i]? with|some (Z (.v (.int n)))=>a ρ λd=>(match d with|.int m=>h.nx (ρ.set i (Z (.v (.int (f n m)))))|_=>False)|_=>False
def Kd{x:Str}{C:ò}{f:Int->Int->Int}{h:Pos}(i:Nat)(L:lK X C (rL f))(P:X.N.Nodup)(S:X.N[i]?=Z x)(T:eL X.env.scope x)(Q:PD K X e a)
  (R:X.fn x=ž\/X.env.scope.names.lookup x=Z .local:=by nofun):PSD K X (.AugAssign (.Name x h) C e pos) (uE i f a):=
 ⟨λa_=>(FT P S T (Q.pe a_) L R).imp λE σ H J=>by
  let⟨be,G,U,ρ,am,g,V,t,k⟩:=J;unfold uE at t;split at t
  ·next n ho=>
   let⟨v,N,r⟩:=V.sl i _ ho;obtain rfl:=r.i;refine⟨_,N,G,U,ρ,_,V,t,λd p I w o u M=>?_⟩;let⟨m,rfl,o⟩:=ie o;obtain rfl:=M.i;show⟨n,m,O,O,k.nx _ p I _ o (g.trans u) ((V.gr u).set (.int _) i)⟩
  ·show t.elim⟩
end
def iJ(N:Y Str)(ds:Y D):bh:=ds.map (λd=>Z (.v d))++List.replicate (N.length-ds.length) ż
def we{K:Â}{f H:Hp}{N:Y Str}{ds:Y D}{m:Y V}(sm:Same f H)(tb:TabF K f)(r:RpL K f ds m):EnvD K H f H (start N m) (iJ N ds):=by
 have own:∀{i:Nat}{x:Sl},(iJ N ds)[i]?=Z (Z x)->∃d,ds[i]?=Z d/\x=.v d:=λ{i x} h=>by
  unfold iJ at h;rcases Mu i (ds.map λd=>Z (Sl.v d)).length with c|c
  ·rw[LF c,LN]at h
   cases e:ds[i]? with
   |none=>rw[e]at h;cases h
   |some d=>rw[e]at h;cases h;show⟨d,O,O⟩
  ·rw[LH c,Nw]at h;split at h
   ·cases h
   ·cases h
 refine⟨sm,by unfold start iJ;simp[r.1],λi d h=>?_,λi o h=>?_,λi j o fs p h=>?_,tb⟩
 ·let⟨d',g,a⟩:=own h;cases a;let⟨v,l,u⟩:=r.at g;refine⟨v,?_,u⟩;unfold start;rw[LF (by rw[LC];show aO l),LN,l];rfl
 ·let⟨d',g,a⟩:=own h;cases a
 ·let⟨d',g,a⟩:=own h;cases a
section
variable{P:Æ}{w:Ç}{K:Â}{mg:Str->Ž Value}{base:Heap}
def Fun.okD{x qual:Str}{st:Ë}{f:Addr}{j:Í}{N ps:Y Str}{k:Nat}{sp:bJ}(F:Fun K x qual st f j)(S:FnScope N ps (av st))(len:∀ds R,sp ds R->ds.length=ps.length)
  (m:∀(a:Value)(A:É)(outer:Y ó)(s:À)(H:Hp)(E:XK)(ds:Y D)(R:D->Prop),Room k (A.deeper (ï qual (av st) s.heap.objs.size f a))->sp ds R->
   ∃t,PSsD K (gq aH P w K mg base N qual (av st) f a A outer s H E).nox (ee st) t/\t { nx:=λ_=>R .non,rt:=R } (iJ N ds)):FnOk P w K mg base aH (k+1) f j ps (lSp K sp):=by
 refine F.ok S (λu H Q E ⟨c,ds,R,sm,tb,rl,h,_⟩=>by rw[rl.1];show len ds R h) (λa A outer s H u Q E o ⟨c,ds,R,sm,tb,rl,h,l⟩=>?_);let⟨t,p,hq⟩:=m a A outer s H E ds R o h;show⟨lS K t,p.ps O,c,H,c,iJ N ds,_,.refl sm,we sm tb rl,hq,⟨λv e H' y r g V=>l .non e H' .non r g .non,l,λ_ _ _ _ h=>h.elim,λ_ _ _ _ h=>h.elim⟩⟩
end
def xy(K:Â)(b:Bool)(a:Addr):It:=match b with|true=>r8 K a|false=>qI K a
section
variable{K:Â}{X:Cx}{f e a b:Å}{j:Y Å}{pos p z:Pos}{t m:TD}{tl:aP}
def Kc{l:Å}{tl:TE}(B:X.K=K)(hl:PE X l tl):PI X f l (λw H R=>tl w H λx r=>∃q a,x=.ref a/\(∃xs,SqB K q r a xs)/\R (xy K q a) r):=by
 subst B;intro g s w H R I h;refine ay (hl g s w H _ I h) λv c A=>?_;let⟨x,r,u,G,F⟩:=A;let⟨bb,a,e,⟨xs,hq⟩,q⟩:=F;subst e;cases G
 have y:∀b∈[c.heap.objs.size],FpOk X g r b:=λb C=>by
  have e:b=c.heap.objs.size:=by simpa using C
  subst e;show u.fpOk (LM _) (u.hok.fresh (LM _))
 cases bb with
 |true=>
  let⟨its,J,p,E⟩:=u.list hq;refine N6 p.isList ?_;show⟨c.heap.objs.size,[c.heap.objs.size],_,_,r,O,u.kept (t':=c.toks) λb o e=>LK _ e,Ge a _,⟨_,LS _ O,O,O⟩,y,q⟩
 |false=>
  let⟨its,J,p,E⟩:=u.tuple hq;refine P9 (show c.heap.IsTuple a its.toArray from p) ?_;show⟨c.heap.objs.size,[c.heap.objs.size],_,_,r,O,u.kept (t':=c.toks) λb o e=>LK _ e,Au a _,⟨_,LS _ O,O,O⟩,y,q⟩
def IQ{c:Hp}{ds:Y D}{g:Y V}{a:Addr}{q:Bool}(h:SqB K q c a g)(r:RpL K c ds g):SteadyD K (xy K q a) c ds:=by
 cases q with
 |true=>show Hv h r
 |false=>show IE h r
def yq(t:TD):aP:=λρ R=>t ρ λd=>match d with|.lst ds=>R ds|.tup ds=>R ds|.fzl ds=>R ds|_=>False
def A1{d:D}{R:Y D->Prop}(h:match d with|.lst ds=>R ds|.tup ds=>R ds|.fzl ds=>R ds|_=>False):∃ds,dQ d=Z ds/\R ds:=by
 cases d with
 |lst ds=>show⟨ds,O,h⟩
 |tup ds=>show⟨ds,O,h⟩
 |fzl ds=>show⟨ds,O,h⟩
 |_=>show h.elim
def bI(h:PD K X e t):PID K X f e (yq t):=⟨λo=>(Kc o (h.pe o)).imp λI H G x=>by let⟨u,F,ρ,R,E,t,k⟩:=x;show⟨u,F,ρ,_,E,t,λd c w v r g B=>by
 let⟨ds,y,r⟩:=A1 r;let⟨q,a,C,rfl,l,A⟩:=B.seq y
 show⟨q,a,O,⟨C,SqB.same g.s l⟩,k _ c w _ r g (IQ l A)⟩⟩⟩
def Fq{a b:Å}{m:TA}{j:Y Å}{k:Nat}(L:X.K=K)(N:Gl X "zip")(P:X.mg "zip"=ż)(M:PA X [a,b] m)(Q:Á [a,b] X.env=[(β,eval a X.env),(β,eval b X.env)])(A:Á [b] X.env=[(β,eval b X.env)]) :
  PI X (.Tuple j k z) (.Call (.Name "zip" p) [a,b] [] pos) (λx H R=>m x H λB l=>∃b1 v a1 a2 xs ys,B=[.ref a1,.ref a2]/\SqB K b1 l a1 xs/\SqB K v l a2 ys/\R (qP K b1 a1 v a2) l):=by
 subst L;intro g s x H R I h;refine Call_ (hV I N P boot_zip (Na (ay (M pos g s x H _ I h) λus w ⟨B,l,o,r1,am⟩=>?_) (by rw[Q,A]) (by rw[A];rfl)));let⟨b1,v,S,T,xs,ys,e,F,G,q⟩:=am;subst e
 cases r1 with
 |cons r y=>
  cases y with
  |cons r' y=>
   cases y;cases r;cases r';let⟨UR,WT,U,_⟩:=o.sqb F;let⟨RP,WU,be,_⟩:=o.sqb G;refine By U be λh' C z2 z3 z4 z5 a_=>Ů C ?_;have E:Inv X g x l { w with heap:=h' }:=o.kept (t':=w.toks) a_;have J:∀c,w.heap.objs.size<=c->FpOk X g l c:=λc u=>o.fpOk u (o.hok.fresh u);generalize w.heap.objs.size=n at *;refine⟨n+4,[n+4,n+2,n+3,n,n+1],_,_,l,O,E,E9 b1 v S T (n+4) (n+2) (n+3) n (n+1) (Km n),⟨C,z2,⟨_,_,z3⟩,z4,z5⟩,λc u=>J c ?_,q⟩;simp only[L0,NI,P0]at u;rcases u with rfl|rfl|rfl|rfl|rfl
   ·show Pd _ _
   ·show Pd _ _
   ·show Pd _ _
   ·show LM _
   ·show Pd _ _
def KC(t:aP):aP:=λρ R=>t ρ λds=>match ds with| [d,e]=>∃xs ys,dQ d=Z xs/\dQ e=Z ys/\R (eD xs ys)|_=>False
def lN{c:Y Å}{C:Nat}(J:Gl X "zip")(L:X.mg "zip"=ż)(I:PAD K X [a,b] tl)(M:Á [a,b] X.env=[(β,eval a X.env),(β,eval b X.env)]:=by rfl)(A:Á [b] X.env=[(β,eval b X.env)]:=by rfl):PID K X (.Tuple c C z) (.Call (.Name "zip" p) [a,b] [] pos) (KC tl):=
 ⟨λu=>(Fq u J L (I.pa u) M A).imp λσ H R' B=>by let⟨x,Φ,ρ,R,E,t,k⟩:=B;show⟨x,Φ,ρ,_,E,t,λds h y vs r g U _=>by
  match ds,r with
  | [d,e],⟨xs,ys,N,a_,r⟩=>
   let⟨v,w,rfl,S,T⟩:=U.two_inv;let⟨P,a1,am,rfl,l,F⟩:=S.seq N;let⟨Q,a2,be,rfl,o,G⟩:=T.seq a_
   show⟨P,Q,a1,a2,am,be,O,SqB.same g.s l,SqB.same g.s o,k _ h y _ r g (JX l o F G)⟩⟩⟩
variable{gs:eZ}
def uc(n:Nat)(t:eZ):cD:=λd ρ R=>match d with|.tup ds=>ds.length=n/\t ds ρ R|.lst ds=>ds.length=n/\t ds ρ R|_=>False
def PG.or{f:Å}{t t':TG}(h:PG X f t)(h':PG X f t'):PG X f (λv l H Q=>t v l H Q\/t' v l H Q):=by
 intro c s l H v u Q I r g;rcases g with g|g
 ·show h c s l H v u Q I r g
 ·show h' c s l H v u Q I r g
def jQ{k n:Nat}(u:X.calm=ž)(h:PGDs K X j gs)(w:(Ê j X.env).length=n:=by rfl)(o:(Ê j X.env).findIdx? (·.1)=ż:=by rfl):PGD K X (.Tuple j k pos) (uc n gs):=
 ⟨λc=>((xA c u (h.pg c) w o).or (zy c u (h.pg c) w o)).imp λv A H Q y=>by
  let⟨l,x,ρ,d,R,E,r,g,k⟩:=y
  cases d with
  |tup ds=>cases r with|tup h1 h2 h3=>show .inl ⟨_,_,O,.of (E.fz _ _ h1),by rw[h2];show g.1,l,x,ρ,ds,R,E,⟨h2,h3⟩,g.2,k⟩
  |lst ds=>cases r with|lst h1 h2 h3=>show .inr ⟨_,_,O,.of (E.fz _ _ h1),by rw[h2];show g.1,l,x,ρ,ds,R,E,⟨h2,h3⟩,g.2,k⟩
  |_=>show g.elim⟩
def kT{k n:Nat}{t:eZ}(h:GMs k t):GM k (uc n t):=⟨⟨λd ρ R r=>by
 cases d with
 |tup ds=>show⟨r.1,h.k.p ds ρ R r.2⟩
 |lst ds=>show⟨r.1,h.k.p ds ρ R r.2⟩
 |_=>show r⟩,λd ρ R c g r=>by
 cases d with
 |tup ds=>show⟨r.1,h.m ds ρ R c g r.2⟩
 |lst ds=>show⟨r.1,h.m ds ρ R c g r.2⟩
 |_=>show r⟩
def DZ{o H:Hp}{d:D}{v:V}{T:String}{r:Bool}(s:Same o H)(h:RpQ K o H d v)(e:lh d T=Z r):IsiV K H v T r:=by
 have sp:∀{c:Prop}[Decidable c]{x:Bool}{y:Ž Bool},(if c then Z x else y)=Z r->(c/\x=r)\/y=Z r:=λ{c _ x y} h=>by
  by_cases l:c
  ·rw[LI l]at h;cases h;show .inl ⟨l,O⟩
  ·rw[LG l]at h;show .inr h
 cases d with
 |int i=>
  cases h.int;rcases sp e with⟨rfl,rfl⟩|e
  ·show .int_int _
  rcases sp e with⟨rfl,rfl⟩|e
  ·show .int_bool _
  rcases sp e with⟨rfl,rfl⟩|e
  ·show .int_tuple _
  rcases sp e with⟨rfl,rfl⟩|e
  ·show .int_str _
  cases e
 |bl i=>
  cases h.bl;rcases sp e with⟨rfl,rfl⟩|e
  ·show .bl_int _
  rcases sp e with⟨rfl,rfl⟩|e
  ·show .bl_bool _
  rcases sp e with⟨rfl,rfl⟩|e
  ·show .bl_tuple _
  cases e
 |str i=>
  cases h.str;rcases sp e with⟨rfl,rfl⟩|e
  ·show .str_str _
  rcases sp e with⟨rfl,rfl⟩|e
  ·show .str_tuple _
  cases e
 |non=>cases e
 |tup ds=>
  let⟨a,w,rfl,g,_,u⟩:=h.tup s;rcases sp e with⟨rfl,rfl⟩|e
  ·show .tup_tuple g
  rcases sp e with⟨rfl,rfl⟩|e
  ·show .tup_int g
  cases e
 |lst ds=>
  let⟨a,w,rfl,g,u⟩:=h.lst s;rcases sp e with⟨rfl,rfl⟩|e
  ·show .lst_tuple (.of g)
  rcases sp e with⟨rfl,rfl⟩|e
  ·show .lst_list (.of g)
  cases e
 |fzl ds=>cases e
 |obj C fs=>cases e
 |map A=>cases e
 |exc _ _=>cases e
def JI(T:String)(t:TD):TD:=λρ R=>t ρ λd=>∃r,lh d T=Z r/\R (.bl r)
def iO{T:String}{h:Str}{c:Pos}(F:Gl X "isinstance")(G:X.mg "isinstance"=ż)(C:PQ K X a t)(B:PE X (.Name h c) (tC (.ty T)))
  (w:Á [a,.Name h c] X.env=(β,eval a X.env)::Á [.Name h c] X.env) (o:Á [.Name h c] X.env=(β,eval (.Name h c) X.env)::Á [] X.env):PD K X (.Call (.Name "isinstance" p) [a,.Name h c] [] pos) (JI T t):=
 ⟨λu=>(oM (Eo u) F G boot_isinstance (dR (C.pe u) (dR B pa_nil o) w) 'b' 'b' w (ao o ag)).imp λN H Q A=>by let⟨x,M,ρ,R,E,t,k⟩:=A;show⟨x,M,ρ,_,E,t,λd l y v r g L=>by
  let⟨J,I,r⟩:=r
  show⟨v,T,J,O,DZ g.s L I,k _ l y _ r g (.bl _)⟩⟩⟩
def Ds(i:Int):lh (.int i) "int"=Z ž:=rfl
def FK(i:Int):lh (.int i) "bool"=Z β:=rfl
def kZ(xs:Y D):lh (.tup xs) "tuple"=Z ž:=rfl
end
def dH{a:Type}{f:a->D}{ns:Y a}{i:Nat}{x:D}(h:(ns.map f)[i]?=Z x):∃k,x=f k/\ns[i]?=Z k:=by
 rw[LN]at h
 cases e:ns[i]? with
 |none=>rw[e]at h;cases h
 |some k=>rw[e]at h;cases h;show⟨k,O,O⟩
def df{a:Type}{f:a->D}{ns:Y a}{i:Nat}{n:a}{k:Int}(h:ns[i]?=Z n)(e:k=(i:Int)):bD (ns.map f) k=Z (f n):=Hy (by rw[LN,h];rfl) e
def wF{ns:Y Int}{k:Int}(h0:0<=k)(h:k<(ns.length:Int)):∃v:Int,bD (ns.map D.int) k=Z (.int v):=by
 have a:k.toNat<ns.length:=by omega
 show⟨_,df (aS a) ()⟩
def vU:bJ:=λds R=>∃ns:Y Int,ds=[.fzl (ns.map D.int)]/\ns.length<=63/\R (.bl ž)
def v5(K:Â):Sp:=λc H Q _=>∃(a:Addr)(ns:Y Int),c=[.ref a]/\SqL K H a (ns.map V.int)/\ns.length<=63/\TabF K H/\∀H',Q (.bl ž) H'
def GJ{K:Â}:∀c H Q E,v5 K c H Q E->lSp K vU c H Q E:=by rintro c H Q E ⟨a,ns,rfl,e,hl,tb,q⟩;refine⟨H,[.fzl (ns.map D.int)],λd=>d=.bl ž,Same.refl _,tb,.one ((RpL.ints ns).fzl e),⟨ns,O,hl,O⟩,λd h H' v r g f=>?_⟩;subst r;obtain rfl:=f.b;show q _
def ba(r:ak):D:=.tup [.tup (r.1.map D.int),.int r.2]
def bM(s:Int×Int):D:=.tup [.int s.1,.int s.2]
def ye{c e:Type}(f:c->e)(xs:Y c)(lo a:Ž Int):cE (xs.map f) lo a=(cE xs lo a).map f:=by unfold cE;rw[LC,List.map_take,List.map_drop]
section
variable{g:cD}{a:TD}{ρ:bh}{R:Y D->Prop}
def Ic{ds:Y D}(h:Y D)(o:h.length=ds.length)(f:ds.length<sizeLine)(Q:Nat->D->Prop)(j:∀i y,Q i y->h[i]?=Z y)(l:∀i d,ds[i]?=Z d->g d ρ λe=>a e (Q i))(k:R h) :
  ds.length<sizeLine/\∃P:Nat->D->Prop,(∀i d,ds[i]?=Z d->g d ρ λe=>a e (P i))/\∀ys:Y D,ys.length=ds.length->(∀i y,ys[i]?=Z y->P i y)->R ys:=by
 refine⟨f,Q,l,λys hl m=>?_⟩
 have:ys=h:=by
  refine Nj λi=>?_;rcases Mu i ys.length with c|c
  ·rw[aS c,j i _ (m i _ (aS c))]
  ·rw[Mn c,Mn ()]
 rwa[this]
def gz{j:Type}{f:j->D}{xs:Y j}(h:j->D)(l:xs.length<sizeLine)(o:∀x∈xs,g (f x) ρ λc=>a c λy=>y=h x)(k:R (xs.map h)) :
  (xs.map f).length<sizeLine/\∃P:Nat->D->Prop,(∀i d,(xs.map f)[i]?=Z d->g d ρ λc=>a c (P i))/\∀ys:Y D,ys.length=(xs.map f).length->(∀i y,ys[i]?=Z y->P i y)->R ys:=by
 refine Ic (xs.map h) (by simp) (by rwa[LC]) (λi=>match xs[i]? with|some x=>λy=>y=h x|none=>λ_=>False) (λi y q=>?_) (λi d hd=>?_) k
 ·rw[LN]
  cases e:xs[i]? with
  |none=>rw[e]at q;show q.elim
  |some x=>rw[e]at q;rw[q];rfl
 ·let⟨x,rfl,m⟩:=dH hd
  have e:(match xs[i]? with|some x=>λy=>y=h x|none=>λ_=>False:D->Prop)=λy=>y=h x:=by rw[m]
  rw[e];show o x (Mb m)
def j6{lo:Int}{n:Nat}(h:Nat->D)(e:n<sizeLine)(j:∀i,i<n->g (.int (lo+(i:Nat))) ρ λc=>a c λy=>y=h i)(k:R ((List.range n).map h)) :
  (dX lo n).length<sizeLine/\∃P:Nat->D->Prop,(∀i d,(dX lo n)[i]?=Z d->g d ρ λc=>a c (P i))/\∀ys:Y D,ys.length=(dX lo n).length->(∀i y,ys[i]?=Z y->P i y)->R ys:=
 gz (f:=λi:Nat=>D.int (lo+(i:Nat))) (xs:=List.range n) h (by rwa[L4]) (λx l=>j x (Mi.mp l)) k
def Hk{c e:Type}(f:c->D)(h:e->D)(xs:Y c)(ys:Y e):eD (xs.map f) (ys.map h)=(List.zip xs ys).map λp=>.tup [f p.1,h p.2]:=by unfold eD;rw[Qv,QG];rfl
def rB{e j:Type}{f:e->D}{h:j->D}{xs:Y e}{ys:Y j}(w:e->j->D)(m:xs.length<sizeLine)(o:∀x∈xs,∀y∈ys,g (.tup [f x,h y]) ρ λc=>a c λz=>z=w x y)(k:R (List.zipWith w xs ys)) :
  (eD (xs.map f) (ys.map h)).length<sizeLine/\∃P:Nat->D->Prop,(∀i d,(eD (xs.map f) (ys.map h))[i]?=Z d->g d ρ λc=>a c (P i))/\∀l:Y D,l.length=(eD (xs.map f) (ys.map h)).length->(∀i y,l[i]?=Z y->P i y)->R l:=by
 rw[Hk];refine gz (λp:e×j=>w p.1 p.2) ?_ (λp hp=>o p.1 (OF hp).1 p.2 (OF hp).2) ?_
 ·rw[QI];omega
 ·rwa[QG]
end
end L2
namespace L2
def ff{p:Prop}(h:β=ž):p:=by cases h
def tf{p:Prop}(h:ž=β):p:=by cases h
end L2
namespace L2
end L2
namespace L2
def gu{a:Type}(f:a->D)(c:Y a)(d:a):c.map f++[f d]=(c++[d]).map f:=by simp
def yc{c:Type}(f:c->D)(a fs:Y c):a.map f++fs.map f=(a++fs).map f:=by simp
end L2
namespace L2
open PySem PySem.Spec PyProof.Rows
section
variable{g:cD}{a:TD}{ρ:bh}{R:Y D->Prop}
def iA{j:Type}{f:j->D}{xs:Y j}(h:j->Int)(e:xs.length<sizeLine)(l:∀x∈xs,g (f x) ρ λc=>a c λy=>y=.int (h x))(k:R ((xs.map h).map D.int)) :
  (xs.map f).length<sizeLine/\∃P:Nat->D->Prop,(∀i d,(xs.map f)[i]?=Z d->g d ρ λc=>a c (P i))/\∀ys:Y D,ys.length=(xs.map f).length->(∀i y,ys[i]?=Z y->P i y)->R ys:=
 gz (λx=>D.int (h x)) e l (by rw[Mg]at k;show k)
end
def Bz{n:Nat}{g g':Nat->Bool}(h:∀j,j<n->g j=g' j):(List.range n).all g=(List.range n).all g':=by rw[Bool.eq_iff_iff,Nr,Nr];show⟨λq j a=>(h j (Mi.mp a))▸q j a,λq j a=>(h j (Mi.mp a)).symm▸q j a⟩
section
variable{K:Â}{X:Cx}{h:Y (Addr×Obj)}{l:St}{f H:Hp}{s:À}
def Cq(U:X.K=K)(I:Inv X h l H s)(sm:Same f H):∀(n:Nat){d d' e:D}{b o:Bool}{v:V},Rp K f d v->Rp K f d' v->cf n d e=Z b->cf n d' e=Z o->b=o:=by
 intro n
 induction n using Nat.strongRecOn with
 |ind n T=>
  intro d d' e b o v w x B p
  have z:∀{m:Nat}{xs y ys:Y D}{r:Y V}{b o:Bool},m<n->RpL K f xs r->RpL K f y r->fg (cf m) xs ys=Z b->fg (cf m) y ys=Z o->b=o:=λ{m xs y ys r b o} S L M B p=>by
   let⟨g,R,Q⟩:=jX B;let⟨g',a_,N⟩:=jX p;have am:=L.1;have l2:=M.1
   have P:xs.length=y.length:=by omega
   rw[Q,N,P];congr 1;refine Bz λj be=>?_
   have E:j<r.length:=by omega
   have F:j<xs.length:=by omega
   have G:j<y.length:=by omega
   have J:j<ys.length:=by omega
   show T m S (L.2 j _ _ (aS E) (aS F)) (M.2 j _ _ (aS E) (aS G)) (R j _ _ (aS F) (aS J)) (a_ j _ _ (aS G) (aS J))
  cases gW B with
  |int i j=>obtain rfl:=w.i;cases x;cases gW p;rfl
  |bl i j=>obtain rfl:=w.b;cases x;cases gW p;rfl
  |str i j=>obtain rfl:=w.s;cases x;cases gW p;rfl
  |non=>obtain rfl:=w.n;cases x;cases gW p;rfl
  |tup u=>cases gW p with|tup q2=>
   cases w with| @tup a r xs a1 a2 a3=>cases x with| @tup _ ws ys b1 b2 b3=>
   have A:r=ws:=I.tuple_inj (.of (sm _ _ a1)) (.of (sm _ _ b1));subst A;show z (Np _) ⟨a2,a3⟩ ⟨b2,b3⟩ u q2
  | @lst _ xs C b u=>cases gW p with| @lst _ ys C o q2=>
   cases w with| @lst a r _ a1 a2 a3=>cases x with| @lst _ ws _ b1 b2 b3=>
   have A:r=ws:=by rw[a1]at b1;cases b1;rfl
   subst A;by_cases c:xs.length=C.length
   ·rw[LI c]at u;rw[LI ()]at q2;show z (Np _) ⟨a2,a3⟩ ⟨b2,b3⟩ u q2
   ·rw[LG c]at u;rw[LG ()]at q2;rw[u]at q2;cases q2;rfl
end
section
variable{K:Â}{X:Cx}
def AW(h:X.K=K):sT X (zm K):=h▸ES
end
section
variable{K:Â}{X:Cx}{l H:Hp}{a e:Å}{m:Y Å}{o:TD}{tl:aP}{C:Addr}{j:Str}{pos p:Pos}
theorem zk{g:Str}{d:D}:∀{r:Y (Str×V)}{fs:Y (Str×D)},r.map (·.1)=fs.map (·.1)->(∀(i:Nat)(v:Str×V)(e:Str×D),r[i]?=Z v->fs[i]?=Z e->Rp K l e.2 v.2)->fs.lookup g=Z d->∃v,r.lookup g=Z v/\Rp K l d v
 | [],[],_,_,h=>by cases h
 | [],_::_,h,_,_=>by cases h
 |_::_,[],h,_,_=>by cases h
 |(x,v)::r,(y,f)::fs,h,z,hl=>by
  rw[L5,L5]at h;let⟨w,A⟩:=List.cons.inj h;have w:x=y:=w;subst w;rw[Pb]at hl ⊢
  cases c:g==x with
  |true=>
   rw[c]at hl;cases hl;show⟨v,O,z 0 _ _ O O⟩
  |false=>
   rw[c]at hl;show zk A (λi u e E B=>z (i+1) u e E B) hl
def EA(nm:Str)(f:Str)(t:TD):TD:=λρ R=>t ρ λx=>match x with|.obj nm' fs=>nm'=nm/\∃d,fs.lookup f=Z d/\R d|_=>False
def HN{c:TE}(f:X.K=K)(h:PE X a c)(g:Ò a j X.env (eval a X.env)=eval a X.env):PE X (.Attribute a j pos) (zh K c j):=f▸Cd h g
def cR{nm:Str}(c:Cls K C)(L:NoAttr K C j)(F:Ü K Ã nm=Z (Z (.ref C)))(G:PQ K X a o)(I:Ò a j X.env (eval a X.env)=eval a X.env:=by rfl):PD K X (.Attribute a j pos) (EA nm j o):=
 ⟨λu=>(HN u (G.pe u) I).imp λU H Q y=>by let⟨w,l,ρ,R,E,t,k⟩:=y;show⟨w,l,ρ,_,E,t,λd h x v r g f=>by
  cases d with
  |obj N fs=>
   let⟨rfl,d,hl,r⟩:=r;rcases f with f|⟨_,_,_,e,_⟩
   ·cases f with
    |obj h0 z A B=>
     rw[F]at h0;cases h0;let⟨v,J,M⟩:=zk A B hl;show⟨_,_,_,_,v,O,g.s _ _ z,c,L,J,k d h x v r g M⟩
   ·cases e
  |_=>show r.elim⟩⟩
def xC(C:Addr)(ns:Y Str):Sp:=λf H Q _=>∃(x dx:Addr)(c:Y V),f=.ref x::c/\c.length=ns.length/\H x=Z (.ins C dx [])/\∀H':Hp,(∀b,b≠x->H' b=H b)->H' x=Z (.ins C dx (ns.zip c))->Q .non H'
def Bb(nm:Str)(ns:Y Str)(t:aP):TD:=λρ R=>t ρ λds=>ds.length=ns.length/\R (.obj nm (ns.zip ds))
variable{CX:dA}{k:Nat}{f:Addr}{w:Í}{ps ns:Y Str}{x:Str}{E:XK}
theorem qW{c:Type}:∀{ns:Y Str}{xs:Y c},xs.length=ns.length->(ns.zip xs).map (·.1)=ns
 | [],[],_=>rfl
 |n::ns,y::xs,h=>by change n::(ns.zip xs).map (·.1)=_;rw[qW (by simpa using h)]
def yd(hC:Ü K Ã x=Z (Z (.ref C)))(M:Mk K C f)(F:FnOk X.prog X.w X.K X.mg X.base CX k f w ps (xC C ns))(hr:Room (k+1) X.A)(hg:Gl X x)(hm:X.mg x=Z (.ref C))(hb:Binds X.K w ps [])(hx:iT CX X E)
  (ha:PAD K X (e::m) tl) (he:Á (e::m) X.env=(β,eval e X.env)::Á m X.env) (am:(Ñ pos (Á m X.env)).any (·.1)=β) (Sh:ab x:=by decide) :
  PD K X (.Call (.Name x p) (e::m) [] pos) (Bb x ns tl):=
 ⟨λN=>(Ec (show Mk X.K C f from N▸M) F hr hg hm hb .nil hx (ha.pa N) Sh he am).imp λσ H Q be=>by let⟨U,l,ρ,R,E,t,k⟩:=be;show⟨U,l,ρ,_,E,t,λds h J B r g rl _=>by
  intro y z I L Ri;rw[ML]
  have P:B.length=ns.length:=by rw[rl.1];show r.1
  refine⟨y,z,B,O,P,aW,λH' X6 G=>⟨O,?_⟩⟩;have fy:=g.s.free I;have fdy:=g.s.free L
  have A:∀b u,J b=Z u->H' b=Z u:=λb u e=>by
   have S:b≠y:=bN e I;have n2:b≠z:=bN e L;rwa[X6 b S,aE S,aE n2]
  have T:Same h (au h y (.ins C z (ns.zip B))):=cz fy _
  have g2:Gr h J (au h y (.ins C z (ns.zip B))) H':=⟨T,A,λb u e=>by
   by_cases c:b=y
   ·subst c;rw[aW]at e;cases e;show G
   ·rw[aE c]at e;show A b u (g.s b u e),λq u hq hn _=>by rwa[aE (bN hq I)]⟩
  refine k _ _ H' _ r.2 (g.trans g2) (.obj (dx:=z) hC aW ?_ λi v d a_ hd=>?_)
  ·rw[qW P,qW r.1]
  ·rw[Nn]at a_ hd
   show (rl.2 i v.2 d.2 a_.2 hd.2).same T⟩⟩
end
section
variable{prog:Æ}{w:Ç}{A:É}{E:Value->À->Prop}{s:À}
def GG{Q:Y Value->À->Prop}{r:Addr}{a b c:Int}{t u v:þ}{n:Nat}(hh:A.handled=ż)(B:IsRange s.heap r a b c t u v)(I:Builtin.Range.small a b c=ž)
  (L:Builtin.Range.rangeSize a b c=n) (z:n<=2^24)
  (J:∀h' j g,(∀b o',s.heap.get? b=Z o'->h'.get? b=Z o')->Ō (λi v=>∃t,v=.int (a+i*c) t) g n->Q g.toList { s with heap:=h',toks:=j }) :
  wpAny (Ä prog w) A (ť (.ref r)) Q E s:=by
 unfold ť;refine LD (ę (MQ F.entry_proto_collect ?_));rw[MO F.plain_proto_collect _];change wpAny _ A.in1 (newList [] >>= λl=>again (.builtin "list.__iadd__" ⟨[l,.ref r],[]⟩)) _ _ s;refine LD (M5 ?_);refine LP ⟨NU F.plain_list_iadd _,MQ F.entry_list_iadd ?_⟩;rw[MO F.plain_list_iadd _];change wpAny _ A.in1 (Builtin.List.listExtendWith (.ref s.heap.objs.size) (.ref r) (.ref s.heap.objs.size)) _ _ _;have K:(s.heap.push { cls:=.type "list",data:=.seq ([]:Y Value).toArray }).get? s.heap.objs.size=Z { cls:=.type "list",data:=.seq #[] 0 }:=LS _ O
 have G:∀(h':Heap)(j:Nat)(g:Array Value)(m:Nat),(∀b o,b≠s.heap.objs.size->(s.heap.push { cls:=.type "list",data:=.seq ([]:Y Value).toArray }).get? b=Z o->h'.get? b=Z o)->
   h'.get? s.heap.objs.size=Z { cls:=.type "list",dict:=ż,data:=.seq g m,slots:=#[] }->Ō (λi v=>∃t,v=.int (a+i*c) t) g n->wpAny (Ä prog w) A (match Value.ref s.heap.objs.size with
   |Value.ref a=>do
    match (←load a).data with
     |Data.seq xs _=>pure xs.toList
     |_=>ő "internal:collect"
   |_=>ő "internal:collect") Q E { s with heap:=h',toks:=j }:=λh' j g m y x p=>by
  change wpAny _ A (load s.heap.objs.size >>= _) _ _ _;refine LD (wpAny_load x ?_);refine LP ?_;show J h' j g (λb o H=>y b o (LZ (LU H)) (LK _ H)) p
 refine MZ (wpAny_extend_range (A:=A) (R:=λr C=>r=.ok (.ret (.ref s.heap.objs.size))/\∃h' j g m,C={ s with heap:=h',toks:=j }/\(∀b o,b≠s.heap.objs.size->(s.heap.push { cls:=.type "list",data:=.seq ([]:Y Value).toArray }).get? b=Z o->h'.get? b=Z o)/\h'.get? s.heap.objs.size=Z { cls:=.type "list",dict:=ż,data:=.seq g m,slots:=#[] }/\Ō (λi v=>∃t,v=.int (a+i*c) t) g n)
  (s:={ s with heap:=s.heap.push { cls:=.type "list",data:=.seq ([]:Y Value).toArray } }) hh (LK _ B) I L z _ _ 0 K λh' j g m y x p=>⟨O,h',j,g,m,O,y,x,p⟩) (λfin C h=>?_) (λe C h=>?_)
 ·cases fin with
  |done f=>
   let⟨e,h',j,g,m,rfl,y,x,p⟩:=h;cases e;show G h' j g m y x p
  |again m=>show⟨h.1,Ov h.2 λr M B=>by
    let⟨rfl,h',j,g,m,rfl,y,x,p⟩:=B
    show G h' j g m y x p⟩
 ·show absurd h.1 (by simp)
def EZ{Q₁:Value->À->Prop}{r:Addr}{a b c:Int}{t u v:þ}{n:Nat}(hh:A.handled=ż)(o:IsRange s.heap r a b c t u v)(p:Builtin.Range.small a b c=ž)
  (B:Builtin.Range.rangeSize a b c=n) (g:n<=2^24)
  (h:∀(h':Heap)(l:Nat)(f:Array Value),(∀b o',s.heap.get? b=Z o'->h'.get? b=Z o')->Ō (λi v=>∃t,v=.int (a+i*c) t) f n->Q₁ (.ref h'.objs.size) { s with heap:=h'.push { cls:=.type "tuple",data:=.seq f },toks:=l }) :
  Þ (Ä prog w) A (.call (.builtin "tuple.__new__") ⟨[.type "tuple",.ref r],[]⟩) (wants Q₁ E) s:=by
 refine Ÿ ?_;change wpAny _ A.in1 (do checkBuiltinCall "tuple.__new__" ⟨[.type "tuple",.ref r],[]⟩;again (.builtin "tuple.__new__" ⟨[.type "tuple",.ref r],[]⟩)) _ _ s;refine LD (QK (F.newCall_tuple_1 _) (LP ⟨NU F.plain_tuple_new _,MQ F.entry_tuple_new ?_⟩));rw[MO F.plain_tuple_new _];have C:=sub_tuple_self;have j:=init_tuple_lookup;have z:=madeHere_tuple;have x:s.TypeIs (.ref r) "range":=⟨_,o,O⟩
 wp_walk using Ox x,GG (A:=A.in1) hh o p B g
 intro h' l f y m;change wpAny _ _ (Builtin.Tuple.tupleExact f.toList.toArray >>= λv=>ret v) _ _ _;unfold Builtin.Tuple.tupleExact;refine LD (M5 ?_ (by change f.toList.toArray.size<=sizeLine;simp only[Array.toArray_toList];rw[m.1,ND];omega));refine LP ?_
 have e:f.toList.toArray=f:=by simp
 rw[e];show h h' l f y m
def Cv{Q:Value->À->Prop}{r:Addr}{a b c:Int}{t u v:þ}{n:Nat}(hh:A.handled=ż)(y:IsRange s.heap r a b c t u v)(l:Builtin.Range.small a b c=ž)
  (x:Builtin.Range.rangeSize a b c=n) (h:n<=2^24)
  (o:∀(h':Heap)(j:Nat)(g:Array Value),(∀b o',s.heap.get? b=Z o'->h'.get? b=Z o')->Ō (λi v=>∃t,v=.int (a+i*c) t) g n->Q (.ref h'.objs.size) { s with heap:=h'.push { cls:=.type "tuple",data:=.seq g },toks:=j }) :
  wpAny (Ä prog w) A (call (.type "tuple") [.ref r]) Q E s:=by
 refine callType_codes (Q₁:=λobj e=>e.TypeIs obj "tuple"/\Q obj e) F.called_tuple (F.typeCall_tuple_1 _) F.entry_object_init
  (EZ hh y l x h λh' j g p m=>⟨⟨_,LS _ O,O⟩,o h' j g p m⟩) λobj e f=>?_
 show⟨f.1,F.args_object_init_2 obj _,object_init_meets F.called_tuple.init.lookup F.called_tuple.made 'b' prog w A.in1 _ e ⟨f.1,O,f.2⟩⟩
end
section
variable{K:Â}{X:Cx}{a:Å}{pos p c f:Pos}{tl:aP}
def DY(t:TA):TE:=λh H Q=>t h H λg e=>∃j:Int,g=[.int j]/\∀r,e r=ż->Q (.ref r) (au e r (.rng 0 j))
def G5{u:TA}(x:Gl X "range")(y:X.mg "range"=ż)(w:PA X [a] u)(z:Á [a] X.env=[(β,eval a X.env)]:=by rfl):PE X (.Call (.Name "range" p) [a] [] pos) (DY u):=by
 intro g s E H R I h;refine Call_ (hV I x y boot_range (Na (ay (w pos g s E H _ I h) λG l v=>?_) z O));let⟨J,F,m,B,A⟩:=v;let⟨j,e,q⟩:=A;subst e
 cases B with
 |cons r C=>
  cases C;let⟨t,rfl⟩:=r;refine call_range_1 ⟨.ref l.heap.objs.size,_,m.laid (a:=l.heap.objs.size) (o:=.rng 0 j) (t':=l.toks+1+1) (λb o e=>LK _ e) (LM _) ⟨_,_,_,LS _ O⟩,O,q _ (m.hok.fresh (LM _))⟩
def gC(n:Nat):Y V:=(List.range n).map λi=>V.int (i:Nat)
def pJ(n:Nat):(gC n).length=n:=by unfold gC;simp
theorem uN{e g:Type}{F:e->g->Prop}:∀{xs:Y e}{ys:Y g},xs.length=ys.length->(∀(i:Nat) x y,xs[i]?=Z x->ys[i]?=Z y->F x y)->Paired F xs ys
 | [],[],_,_=>.nil
 |x::xs,y::ys,hl,h=>.cons (h 0 x y O O) (uN (by simpa using hl) λi u v j l=>h (i+1) u v j l)
def wQ{n i:Nat}{v:V}(h:(gC n)[i]?=Z v):v=.int (i:Nat):=by
 have e:i<n:=by have:=aO h;rwa [pJ]at this
 unfold gC at h;rw[LN,Mp e]at h;cases h;rfl
def HF(E:X.calm=ž):eA X (.type "tuple") (λxs H Q=>∃p j,xs=[.ref p]/\H p=Z (.rng 0 j)/\-(2^62)<=j/\j<=1000/\∀l,H l=ż->Q (.ref l) (au H l (.tup (gC j.toNat)))):=by
 intro g s B H xs R Q I r h;let⟨p,j,rfl,hp,N,P,q⟩:=h;let⟨u,rfl,U⟩:=ib r;cases U;let⟨t,u,v,G⟩:=(show ObjOk X.prog X.w H s.heap p (.rng 0 j)from I.hok p _ hp)
 have F:Builtin.Range.rangeSize 0 j 1=(j.toNat:Int):=by rw[rangeSize_one];split<;>omega
 refine Cv (I.ok.hd E) G (small_one 'b' 'b' N ()) F () λh' w m kp A=>?_;have z:Inv X g B H { s with heap:=h',toks:=w }:=I.kept (t':=w) kp
 have J:Vals (gC j.toNat) m.toList:=uN (by rw[pJ,Nl,A.1]) λi x y L M=>by rw[wQ L];let⟨t,rfl⟩:=A.2 i y (by simpa using M);show⟨t,by simp⟩
 have C:Inv X g B (au H h'.objs.size (.tup (gC j.toNat))) { s with heap:=h'.push { cls:=.type "tuple",data:=.seq m },toks:=w }:=
  z.laid (t':=w) (λb o e=>LK _ e) (LM _) (show ObjOk X.prog X.w _ _ _ (.tup (gC j.toNat))from ⟨by rw[pJ,ND];omega,m.toList,J,by simpa using IsTupD.new _ _⟩)
 show⟨.ref h'.objs.size,_,C,O,q _ (z.hok.fresh (LM _))⟩
def Ck(t:aP):TD:=λρ R=>t ρ λds=>match ds with| [.int j]=>(-(2^62)<=j/\j<=1000)/\R (.tup (dX 0 j.toNat))|_=>False
def Cz{g:Hp}(n:Nat):RpL K g (dX 0 n) (gC n):=⟨by rw[pJ,eS],λi v d e hd=>by
 rw[wQ e,(gk hd).2,MU]
 show .int _⟩
def xJ(x:X.calm=ž)(z:Gl X "tuple")(e:X.mg "tuple"=ż)(y:Gl X "range")(h:X.mg "range"=ż)(C:PAD K X [a] tl)(F:Á [a] X.env=[(β,eval a X.env)]:=by rfl) :
  PD K X (.Call (.Name "tuple" p) [.Call (.Name "range" c) [a] [] f] [] pos) (Ck tl):=
 ⟨λB=>(rG (HF x) z e boot_tuple (dR (G5 y h (C.pa B) F) pa_nil aB) 'b' 'b' aB ag).imp λU H Q w=>by let⟨u,J,ρ,R,E,t,k⟩:=w;show⟨u,J,ρ,_,E,t,λds L M N r g rl _=>by
  match ds,r with
  | [.int j],r=>
   let⟨v,rfl,I⟩:=rl.one_inv;obtain rfl:=I.i;refine⟨j,O,λG m=>⟨G,j,O,aW,r.1.1,r.1.2,λl hl=>?_⟩⟩;have o:=Gr.fresh g.s m (.rng 0 j);have A:=Gr.new o.s hl (.tup (gC j.toNat))
   show k _ _ _ _ r.2 ((g.trans o).trans A) ((Cz _).tup aW)⟩⟩
end
noncomputable def lP(X:Cx)(A:É)(scope:â)(N':Y Str)(cl:Y (Str×Addr))(f:Addr)(qual:Str)(c:Value)(a:À)(e:Hp):Cx where
 prog:=X.prog
 w:=X.w
 K:=X.K
 mg:=X.mg
 base:=X.base
 A:=A.deeper (envX qual scope a.heap.objs.size f c cl)
 N:=N'
 s₀:=a
 H₀:=e
 env:=envX qual scope a.heap.objs.size f c cl
 outer:=X.stack
 stack:=envX qual scope a.heap.objs.size f c cl::X.stack
 ex:=[]
 fn:=λ_=>β
 calm:=ž
 pn:=[]
 xe:=λ_ _=>False
section
variable{X:Cx}{A:É}{scope:â}{p:Str}{r:Y Str}{cap:Y (Ž Nat)}{cl:Y (Str×Addr)}{f m:Addr}{qual name:Str}{C pm F:Value}{l:Y (Addr×Obj)}{h:St}{H:Hp}{s w:À}{v:V}{u:Value}{a:ď}{g:Å}{B:TE}{Q:VK}{E:Value->À->Prop}
def Ce(Vt:∀y∈scope.names,y.2≠.cell)(S:CompScope X.N X.env.scope scope (p::r) (ż::cap))(Rz:scope.names.lookup p=Z .local)(hA:A.frames=Z X.stack)(hh:A.handled=ż)(I:Inv X l h H s)
  (L:∀x c,cl.lookup x=Z c->X.env.cells.lookup x=Z c) (be:∀x,(x,NameKind.free)∈scope.names->∃c,cl.lookup x=Z c) (Ts:w.os=s.os) (hg:w.gens=s.gens)
  (a_:∀b o,s.heap.get? b=Z o->w.heap.get? b=Z o) (hn:w.heap.Ns s.heap.objs.size (λy=>List.lookup y [(p,u)])) (rv:RelV v u) :
  Inv (lP X A scope (p::r) cl f qual C s H) [] ((dG (ż::cap) h).set 0 (Z v)) H w:=by
 have P:∀b:Addr,b∉(lP X A scope (p::r) cl f qual C s H).ex:=λb z=>absurd (show b∈([]:Y Addr)from z) (by simp)
 refine⟨⟨I.ok.mod,S.kind,O,O,LM _,λx y c K G=>I.ok.inj x y c (L x c K) (L y c G),λx J=>?_,λx c J _=>absurd J (by change ¬ (β=ž);decide),λ_=>hh,Ę hA,.inr ⟨O,O⟩,
   λb M=>absurd M (P b),I.bs,L6 I.ok.bsz I.sz,λb o e M=>absurd M (P b),λb M hf=>absurd M (P b),I.stack,I.stkFree⟩,
  Ts,by rw[hg];show I.bare,Un.kept a_,⟨_,hn,λi x N K G h3=>?_⟩,λx c e=>?_,I.hok.fresh (LM _),λx c e=>I.freeC x c (L x c e),λp hp=>absurd (show p∈([]:Y (Addr×Obj))from hp) (by simp),I.hok.kept a_,?_⟩
 ·have J:scope.names.lookup x=Z .cell\/scope.names.lookup x=Z .free:=J;rcases J with J|J
  ·show absurd O (Vt _ (MD J))
  ·show be x (MD J)
 ·rcases ei G with⟨rfl,_,e1⟩|⟨c0,G⟩
  ·cases e1;have K:(p::r)[0]?=Z x:=K;cases K;show⟨u,rv,.inl ⟨Rz,by simp⟩⟩
  ·have G:((ż::cap).map λo=>o.bind λi=>(h[i]?).join)[i]?=Z (Z N):=G;rw[LN]at G
   cases R:(ż::cap)[i]? with
   |none=>rw[R]at G;cases G
   |some o=>
    rw[R]at G
    have G:(o.bind λi=>(h[i]?).join)=Z N:=by simpa using G
    cases o with
    |none=>cases G
    |some j=>
     have G:(h[j]?).join=Z N:=G
     have hj:h[j]?=Z (Z N):=by
      cases ej:h[j]? with
      |none=>rw[ej]at G;cases G
      |some y=>rw[ej]at G;show MR Z G
     have hz:((ż::cap).zip (p::r))[i]?=Z (Z j,x):=by rw[Nn];show⟨R,K⟩
     let⟨q1,U⟩:=S.at_ _ (Mb hz) j O;let⟨mx,hnx,hl⟩:=I.loc;have kc:=S.free _ U O;let⟨u',r',lk⟩:=hl j x N q1 hj (.inr (.inl kc));refine⟨u',r',?_⟩;rcases lk with⟨k1,_⟩|⟨_,c,e,z⟩
     ·have:X.env.scope.names.lookup x=Z .local:=k1;rw[kc]at this;cases this
     ·let⟨m,am⟩:=be x U;have:=L x m am;rw[e]at this;cases this;show .inr ⟨.inr (S.fst _ U O),c,am,let ⟨o,T,hd⟩:=z;⟨o,a_ c o T,hd⟩⟩
 ·let⟨v,o,T,hd⟩:=I.cell x c (L x c e);show⟨v,o,a_ c o T,hd⟩
 ·change ((dG (ż::cap) h).set 0 (Z v)).length=(p::r).length;rw[Mc];unfold dG;rw[LC,S.len]
def ER(L:∀y∈scope.names,y.2≠.cell)(S:CompScope X.N X.env.scope scope (p::r) (ż::cap))(R:scope.names.lookup p=Z .local)(hA:A.frames=Z X.stack)(hh:A.handled=ż)(be:A.depth<ù)(I:Inv X l h H s)
  (N:∀x c,cl.lookup x=Z c->X.env.cells.lookup x=Z c) (T:∀x,(x,NameKind.free)∈scope.names->∃c,cl.lookup x=Z c)
  (ho:s.heap.get? f=Z (ň name qual a g scope cl pm m F)) (P:s.heap.CodeRec (.ref m) qual)
  (U:Ġ (kla_fn name qual a g scope cl pm (.ref m) F) ⟨[u],[]⟩=pure [(p,u)]) (X7:scope.isCoroutine=β) (am:scope.isGenerator=β)
  (hb:PE (lP X A scope (p::r) cl f qual (.ref m) s H) g B) (rv:RelV v u) (hq:B ((dG (ż::cap) h).set 0 (Z v)) H Q) :
  wpAny (Ä X.prog X.w) A (call (.ref f) [u]) (EP X l h Q) E s:=by
 refine Ě (PySem.W.kla_callFunE be ho O X7 am O P ?_);rw[U];refine LP (wpAny_newFunctionEnv L (λy hy=>by rwa[show y=(p,u)by simpa using hy]) (λj Ut K=>⟨I.nolimit.fresh _ K,?_⟩) S.kind);have G:∀b o,s.heap.get? b=Z o->j.get? b=Z o:=λb o e=>K.extBut b o (LZ (LU e)) (LK _ e);change Þ _ _ (.expr g (envX qual scope s.heap.objs.size f (.ref m) cl)) _ _
 have M:Inv (lP X A scope (p::r) cl f qual (.ref m) s H) [] ((dG (ż::cap) h).set 0 (Z v)) H { s with heap:=j,toks:=s.toks+1 }:=
  Ce L S R hA hh I N T O O G Ut rv
 refine PySem.W.kla_codeExpr (MZ (hb [] _ _ H Q M hq) (λu' s' a_=>?_) λ_ _ z=>z.elim);let⟨x,H',J,r',q⟩:=a_;show⟨x,H',I.call' (ch:=[]) J.os J.base J.hok J.bare (λb z=>absurd z (by simp)),r',q⟩
end
section
variable{X:Cx}{A:É}{a:Y (Addr×Obj)}{l:St}{H:Hp}{s:À}{g:ď}{j:Å}{scope:â}{pos:Pos}{c P:Addr}{m:þ}{Q:Value->À->Prop}{E:Value->À->Prop}
def Inv.bat(I:Inv X a l H s){ps:Array Value}(r:s.heap.get? P=Z (ü ps)):Ã≠P/\s.heap.BuiltinsAt X.mg P:=by
 have G:=I.mod.glob.keeps I.bk
 have u:Ã≠P:=λq=>by let⟨o,z,y,e,hd,_⟩:=G;rw[q,r]at e;cases e;cases hd
 let⟨x,ob,b1,v,f,p,w,h⟩:=I.mod.bmod;have f:=I.bk _ _ f;refine⟨u,x,ob,b1,v,λq=>?_,λq=>?_,f,p,w,h⟩
 ·let⟨o,z,y,e,hd,_⟩:=G;rw[q,e]at f;cases f;rw[hd]at h;cases h
 ·rw[q,r]at f;cases f;cases p
def Inv.tabbed(I:Inv X a l H s){ps:Array Value}(r:H P=Z (.tbl ps)){f:Addr}{h':Heap}{o:Obj}{B:Array Value}{x y:Value}{q:Str}{t t':þ}(N:Nat)(v:ps=#[x,y,.str q t])
  (p:Heap.ExtBut P s.heap h') (C:s.heap.objs.size<=f) (G:h'.get? f=Z o) (hd:o.data=.fields B) (M:B[1]?=Z (.str q t')) (F:h'.get? P=Z (ü #[x,y,.ref f])) :
  Inv X a l (au H f (.frz o (.own P))) { s with heap:=h',toks:=N }:=by
 have L:H f=ż:=I.hok.fresh C
 have J:∀b,H b=ż->b≠P:=λb e z=>by rw[z,r]at e;cases e
 have up:∀b u,H b=Z u->au H f (.frz o (.own P)) b=Z u:=λb u e=>by rwa[aE (bN e L)]
 have lt:∀b ob,s.heap.get? b=Z ob->b≠f:=λb ob e=>LZ (Me (LU e) C);refine I.un ⟨λb ob e n _ _=>p b ob (J b n) e,λb ob e n _ _=>⟨ob.slots,p b ob (J b n) e⟩,λb ob e n _=>by rwa[aE (lt b ob e)],λb ob e _=>?_,λb xs e=>up _ _ e,λb ob u e=>up _ _ e,λb R e=>up _ _ e⟩ λb u e=>?_
 ·by_cases h:b=P
  ·subst h;show⟨_,F⟩
  ·show⟨ob,p b ob h e⟩
 ·by_cases h:b=f
  ·subst h;rw[aW]at e;cases e;show⟨G,o,G⟩
  ·rw[aE h]at e;by_cases hp:b=P
   ·subst hp;rw[r]at e;cases e;show .inr ⟨f,o,B,x,y,q,t,t',v,aW,F,hd,M⟩
   ·refine (I.hok b u e).stay (λd w K q=>p d w ?_ q) (λd q=>up _ _ q) (λd xs q=>up _ _ q) λd ob w q=>up _ _ q;rcases K with z|z
    ·rwa[z]
    ·intro U;rw[U,r]at z;cases z
def DW(be:H P=Z (.tbl #[ß pos.line,ß pos.col,.str (X.env.qual++"<lambda>") m]))(R:X.env.code=.ref c)(hC:ñ X.K c P=ž)(UZ:defaultsOf g X.env=([],[]))(I:Inv X a l H s)
  (S5:∀x∈scope.names,x.2=.free->X.env.scope.names.lookup x.1=Z .cell)
  (h:∀(f p:Addr)(cl:Y (Str×Addr))(pm w:Value)(o:Obj)(B:Array Value)(t':þ)(H':Hp)(N:À),(∀x c,cl.lookup x=Z c->X.env.cells.lookup x=Z c)->(∀x,(x,NameKind.free)∈scope.names->∃c,cl.lookup x=Z c)->
   (H'=H\/∃b u,H b=ż/\(∀xs,u≠.lst xs)/\H'=au H b u)->Inv X a l H' N->N.heap.get? f=Z (ň "<lambda>" (X.env.qual++"<lambda>") g j scope cl pm p w)->FpOk X a H' f->
   H' p=Z (.frz o (.own P))->o.data=.fields B->B[1]?=Z (.str (X.env.qual++"<lambda>") t')->s.heap.objs.size<=f->Q (.ref f) N) :
  wpAny (Ä X.prog X.w) A (eval (.Lambda g j scope pos) X.env) Q E s:=by
 have C:=PySem.W.codeHd_of_K I.kIn hC;let⟨cl,a_,T,U⟩:=rD (scope:=scope) (env:=X.env) λx M hf=>I.ok.has x.1 (.inl (S5 x M hf));have G:=I.mod.glob.keeps I.bk;refine PySem.W.kla_eval UZ ?_;rcases (show ObjOk X.prog X.w H s.heap P (.tbl _)from I.hok P _ be)with am|⟨p,o,B,x,y,q,t,t',e1,e2,S,e4,e5⟩
 ·let⟨X8,K⟩:=I.bat am;refine PySem.W.kla_makeFunction (mg:=X.mg) a_ I.ok.glob G R C am (show TriplesOk []from trivial) O X8 K λp w h' r M J Rl X9 L=>?_;let⟨c2,o,B,t',e,ho,hd,hv⟩:=X9;cases e;have v:=I.tabbed be r O M J ho hd hv (by simpa using L);have F:Inv X a l _ { s with heap:=h'.push (ň "<lambda>" (X.env.qual++"<lambda>") g j scope cl ((X.mg "__name__").getD .none) p w),toks:=r }:=v.kept (t':=r) λb u e=>LK _ e;refine h h'.objs.size p cl _ w o B t' _ _ T U (.inr ⟨p,_,I.hok.fresh J,λxs z=>(by cases z),O⟩) F (LS _ O) (v.fpOk (LM _) (v.hok.fresh (LM _))) aW hd hv (L6 J (MC Rl))
 ·cases e1;let⟨_,K⟩:=I.bat S;refine PySem.W.kla_makeFunctionHit (cv:=.ref p) (mg:=X.mg) a_ I.ok.glob G R C S (show TriplesOk [.int _ _,.int _ _,_]from trivial) (by simp[codeAmong,ß]) K λw h' r hk hsz=>?_;have v:Inv X a l H { s with heap:=h',toks:=r }:=I.kept (t':=r) hk;have F:Inv X a l H { s with heap:=h'.push (ň "<lambda>" (X.env.qual++"<lambda>") g j scope cl ((X.mg "__name__").getD .none) p w),toks:=r }:=v.kept (t':=r) λb u e=>LK _ e;show h h'.objs.size p cl _ w o B t' H _ T U (.inl O) F (LS _ O) (v.fpOk (LM _) (v.hok.fresh (LM _))) e2 e4 e5 hsz
end
def FpOk.to{X:Cx}{a:Y (Addr×Obj)}{H H':Hp}{b:Addr}(h:FpOk X a H b)(c:H' b=ż):FpOk X a H' b:=⟨c,h.2⟩
section
variable{X:Cx}{a:Y (Addr×Obj)}{g:St}{H:Hp}{xs:Y V}{l S I f:Addr}{m:Obj}{kf:Nat->Int}{G:Hp->Prop}{R:ģ->À->Prop}{B:Y (Str×Value)}
def HE(hh:X.A.handled=ż)(W2:∀v,m.data≠.cell v)(fS:FpOk X a H S)(fI:FpOk X a H I)(ff:FpOk X a H f)(U0:S≠I)(W3:S≠f)(VS:I≠f)(VT:l≠I)
  (hG:∀H',G H'->H' l=Z (.lst xs))
  (am:∀(i:Nat)(x:V)(u:Value)(s:À)(H':Hp)(pl:Y (Addr×Obj)),xs[i]?=Z x->RelV x u->G H'->s.heap.get? f=Z m->Inv X pl g H' s->
   wpAny (Ä X.prog X.w) X.A.in1 (call (.ref f) [u]) (EP X pl g λv N=>v=.int (kf i)/\G N) (λ_ _=>False) s)
  (hR:∀i x u s H',xs[i]?=Z x->RelV x u->(∀j,j<xs.length->kf i<=kf j/\(j<i->kf i<kf j))->G H'->Inv X a g H' s->R (.ok (.ret u)) s) :
  ∀(r j i:Nat)(s:À)(H':Hp)(x:V)(J:Value)(tb:þ)(c:Nat),xs.length-(j+1)=r->j+1<=xs.length->G H'->Inv X a g H' s->H' S=ż->H' I=ż->H' f=ż->
   s.heap.get? S=Z (È "list" #[J,.int (kf i) tb] c)->s.heap.IsListIter I l (j+1)->s.heap.get? f=Z m->xs[i]?=Z x->RelV x J->i<=j->(∀E,E<=j->kf i<=kf E/\(E<i->kf i<kf E))->
   Þ (Ä X.prog X.w) X.A (.builtin "min.loop" ⟨[.ref I,.ref f,.ref S],B⟩) R s:=by
 have SI:(toString "min"++toString ".loop":String)="min.loop":=by decide
 intro r
 induction r with
 |zero=>
  intro j i s H' x J tb c hr hj Q a_ nS nI nf U T of hx rv VU Sr
  have Ta:j+1=xs.length:=by omega
  let⟨hz,its,n,SU,e1,e2⟩:=a_.lstM (hG H' Q);have W:=Ă (prog:=X.prog) (w:=X.w) (A:=X.A.in1) hh I l VT its.toArray
  have hsz:its.toArray.size=xs.length:=by rw[LR,e1]
  refine MQ O8 ?_;rw[MO Nh _];change wpAny _ X.A.in1 (ĉ (.ref S) >>= _) _ _ _;refine LD (M7 U O ?_);change wpAny _ X.A.in1 (tryCatch (à (.ref I)) _ >>= _) _ _ _;refine LD (NW (W.done _ _ _ ⟨by rwa[hsz,←Ta],⟨_,e2,O,_,O⟩⟩ λh' M K=>?_));have oS':=K S _ (by simpa using U0) U;have be:=NB h' S (Obj.mapSeq λ_=>(#[]:Array Value));change wpAny _ X.A.in1 (updateSeq S (λ_=>#[]) >>= _) _ _ _;refine LD ?_;refine QJ oS' O (LD (OE (LP ?_)));have I1:=a_.turnedL (ch:=[I]) (h':=h') (t':=M) (λb o C e=>K b o C e) (λb C=>by rw[LV.mp C];show fI.to nI);have I2:=I1.turnedL (ch:=[S]) (h':=h'.update S (Obj.mapSeq λ_=>(#[]:Array Value))) (t':=M) (λb o C e=>(be.2 b (λz=>C (by simp[z]))).trans e) (λb C=>by rw[LV.mp C];show fS.to nS);show hR i x J _ H' hx rv (λE Vp=>Sr E ()) Q I2
 |succ r ih=>
  intro j i s H' x J tb c hr hj Q a_ nS nI nf U T of hx rv VU Sr
  have Rl:j+1<xs.length:=by omega
  let⟨hz,its,n,SU,e1,e2⟩:=a_.lstM (hG H' Q);have W:=Ă (prog:=X.prog) (w:=X.w) (A:=X.A.in1) hh I l VT its.toArray
  have hsz:its.toArray.size=xs.length:=by rw[LR,e1]
  refine MQ O8 ?_;rw[MO Nh _];change wpAny _ X.A.in1 (ĉ (.ref S) >>= _) _ _ _;refine LD (M7 U O ?_);change wpAny _ X.A.in1 (tryCatch (à (.ref I)) _ >>= _) _ _ _;refine LD (NW (W.item (j+1) _ _ _ (by rwa[hsz]) ⟨T,⟨_,e2,O,_,O⟩⟩ λv h' M hP Tw K=>?_))
  have hv:its[j+1]?=Z v:=by simpa using hP
  obtain⟨y,hy⟩:∃y,xs[j+1]?=Z y:=⟨_,aS Rl⟩;let⟨v',SV,ry⟩:=SU.get hy;rw[hv]at SV;cases SV;let⟨Uu,U1,T8,Uv⟩:=id Tw.1;have I1:Inv X a g H' { s with heap:=h',toks:=M }:=a_.turnedL (ch:=[I]) (h':=h') (t':=M) (λb o C e=>K b o C e) (λb C=>by rw[LV.mp C];show fI.to nI)
  have I2:Inv X (a++[(S,È "list" #[J,.int (kf i) tb] c),(I,Uu),(f,m)]) g H' { s with heap:=h',toks:=M }:=I1.pins_of λp hp=>by
   rcases Mf.mp hp with hp|hp
   ·show I1.pin p (L3 _ hp)
   ·simp only[L0,NI,P0]at hp;rcases hp with rfl|rfl|rfl
    ·show⟨K S _ (by simpa using U0) U,nS,fS.2.1,fS.2.2.1,λv z=>by cases z⟩
    ·show⟨U1,nI,fI.2.1,fI.2.2.1,λv z=>by rw[Uv]at z;cases z⟩
    ·show⟨K f _ (by simpa using VS.symm) of,nf,ff.2.1,ff.2.2.1,W2⟩
  change wpAny _ X.A.in1 (tryCatch (holding [v] (call (.ref f) [v])) _ >>= _) _ _ _;refine LD (NW (Mv (MZ (am (j+1) y v _ H' _ hy ry Q (K f _ (by simpa using VS.symm) of) I2) (λu L he=>?_) λ_ _ hF=>hF.elim)));let⟨v2,N,I3,r3,rfl,g2⟩:=he;let⟨F,rfl⟩:=(show ∃t,u=Value.int (kf (j+1)) t from r3);have pS:=I3.pin (S,È "list" #[J,.int (kf i) tb] c) (L3 _ (L3 _ (by simp)));have pI:=I3.pin (I,Uu) (L3 _ (L3 _ (by simp)));have pf:=I3.pin (f,m) (L3 _ (L3 _ (by simp)));have I4:Inv X a g N L:=I3.unpinned;have UT:L.heap.IsListIter I l (j+1+1):=⟨Uu,pI.1,T8,Uv⟩;change wpAny _ X.A.in1 (tryCatch (holding [v,.int (kf (j+1)) F] (richCompare .Lt (.int (kf (j+1)) F) (.int (kf i) tb) >>= _)) _ >>= _) _ _ _;refine LD (NW (Mv (LD (CmpOf.ints_lt (prog:=X.prog) (w:=X.w) (A:=X.A.in1) (P:=λi v=>∃t,v=.int (kf i) t) kf (λi v h=>h) (j+1) i _ _ _ _ _ ⟨F,O⟩ ⟨tb,O⟩ ?_))));refine LD (Mv (NS ?_));refine LD (OE (LP ?_));by_cases Tj:kf (j+1)<kf i
  ·have be:=NB L.heap S (Obj.mapSeq λ_=>#[v,.int (kf (j+1)) F]);obtain⟨c2,SW⟩:∃c2,(L.heap.update S (Obj.mapSeq λ_=>#[v,.int (kf (j+1)) F])).get? S=Z (È "list" #[v,.int (kf (j+1)) F] c2):=⟨_,OJ pS.1 λ_=>#[v,.int (kf (j+1)) F]⟩;simp only[Tj,decide_true,NT];refine LD ?_;refine QJ pS.1 O (LD (OE ?_));rw[SI];have I5:=I4.turnedL (ch:=[S]) (h':=L.heap.update S (Obj.mapSeq λ_=>#[v,.int (kf (j+1)) F])) (t':=L.toks) (λb o C e=>(be.2 b (λz=>C (by simp[z]))).trans e) (λb C=>by rw[LV.mp C];show fS.to pS.2.1);refine LP ⟨NU Nh _,ih (j+1) (j+1) _ N y v F c2 () Rl g2 I5 pS.2.1 pI.2.1 pf.2.1 SW ⟨Uu,(be.2 I U0.symm).trans pI.1,T8,Uv⟩ ((be.2 f W3.symm).trans pf.1) hy ry (LM _) λE Vp=>?_⟩;by_cases e:E=j+1
   ·subst e;show⟨(),λ_=>by omega⟩
   ·have W4:=Sr E ();have RD:=W4.1;show⟨(),λ_=>by omega⟩
  ·simp only[Tj,decide_false,Nb,N9];refine LD (OE ?_);rw[SI];refine LP ⟨NU Nh _,ih (j+1) i L N x J tb c () Rl g2 I4 pS.2.1 pI.2.1 pf.2.1 pS.1 UT pf.1 hx rv () λE Vp=>?_⟩;by_cases e:E=j+1
   ·subst e;show⟨(),λ_=>by omega⟩
   ·show Sr E ()
end
def FE(a v u:Value):argsOk "min" ⟨[a],[(Str.ofString "key",v),(Str.ofString "default",u)]⟩:=by unfold argsOk;kernel_rfl
section
variable{X:Cx}{a:Y (Addr×Obj)}{c:St}{H:Hp}{xs:Y V}{l f:Addr}{g:Obj}{kf:Nat->Int}{G:Hp->Prop}{s:À}{Q:Value->À->Prop}{E:Value->À->Prop}
def Jq(hh:X.A.handled=ż)(W2:∀v,g.data≠.cell v)(ff:FpOk X a H f)(a_:Inv X a c H s)(g0:G H)(of:s.heap.get? f=Z g)
  (hG:∀H',G H'->H' l=Z (.lst xs))
  (r:∀(i:Nat)(x:V)(u:Value)(s:À)(H':Hp)(pl:Y (Addr×Obj)),xs[i]?=Z x->RelV x u->G H'->s.heap.get? f=Z g->Inv X pl c H' s->
   wpAny (Ä X.prog X.w) X.A.in1 (call (.ref f) [u]) (EP X pl c λv L=>v=.int (kf i)/\G L) (λ_ _=>False) s)
  (hQ0:xs=[]->∀s,Inv X a c H s->Q .none s)
  (hQ:∀i x u s H',xs[i]?=Z x->RelV x u->(∀j,j<xs.length->kf i<=kf j/\(j<i->kf i<kf j))->G H'->Inv X a c H' s->Q u s) :
  wpAny (Ä X.prog X.w) X.A (call (.builtin "min") [.ref l] [(Str.ofString "key",.ref f),(Str.ofString "default",.none)]) Q E s:=by
 have SI:(toString "min"++toString ".loop":String)="min.loop":=by decide
 let⟨hz,its,n,SU,e1,be⟩:=a_.lstM (hG H g0);have Vu:s.heap.IsList l its.toArray:=⟨_,be,O,_,O⟩;refine kmk_tree PySem.F.kind_min PySem.F.plain_min PySem.F.entry_min (FE _ _ _) ?_;change wpAny _ X.A.in1 (Builtin.Builtins.bindParams "min" ["key","default"] 0 ⟨[],[(Str.ofString "key",.ref f),(Str.ofString "default",.none)]⟩ >>= _) _ _ s;refine LD (QK (show Builtin.Builtins.bindParams "min" ["key","default"] 0 ⟨[],[(Str.ofString "key",.ref f),(Str.ofString "default",.none)]⟩=pure [Z (.ref f),Z .none]from rfl) ?_);refine LD (LP ?_);refine LD (N6 Vu ?_);refine LD (Pa ?_ (ME _));rw[SI];generalize am:s.heap.push { cls:=.type "list_iterator",data:=.fields #[.ref l,.int 0 0] }=h
 have k1:∀b o,s.heap.get? b=Z o->h.get? b=Z o:=λb o e=>by rw[←am];show LK _ e
 have z1:h.objs.size=s.heap.objs.size+1:=by rw[←am];show Mz ..
 have gI:h.get? s.heap.objs.size=Z { cls:=.type "list_iterator",data:=.fields #[.ref l,.int 0 0] }:=by rw[←am];show LS _ O
 have R:Inv X a c H { s with heap:=h }:=a_.kept (t':=s.toks) k1;have I2:Inv X a c H { s with heap:=h.push (È "list" #[] 0) }:=R.kept (t':=s.toks) λb o e=>LK _ e;have P:FpOk X a H s.heap.objs.size:=a_.fpOk (LM _) a_.fresh;have F:FpOk X a H h.objs.size:=R.fpOk (LM _) R.fresh;have gS:(h.push (È "list" #[] 0)).get? h.objs.size=Z (È "list" #[] 0):=LS _ O;have I:=LK (È "list" #[] 0) gI
 have S:h.objs.size≠s.heap.objs.size:=by rw[z1];show Nat.succ_ne_self _
 have VS:s.heap.objs.size≠f:=NC (LU of);have W3:h.objs.size≠f:=NC (by rw[z1];show Mr (LU of));have VT:l≠s.heap.objs.size:=LZ (LU be);have of2:=LK (È "list" #[] 0) (k1 _ _ of);have J:=LK (È "list" #[] 0) (k1 _ _ be);have W:=Ă (prog:=X.prog) (w:=X.w) (A:=X.A.in1) hh s.heap.objs.size l VT its.toArray
 have hsz:its.toArray.size=xs.length:=by rw[LR,e1]
 refine LP ⟨NU Nh _,?_⟩;refine MQ O8 ?_;rw[MO Nh _];change wpAny _ X.A.in1 (ĉ (.ref h.objs.size) >>= _) _ _ _;refine LD (M7 gS O ?_);change wpAny _ X.A.in1 (tryCatch (à (.ref s.heap.objs.size)) _ >>= _) _ _ _
 cases xs with
 |nil=>
  refine LD (NW (W.done _ _ _ ⟨by rw[hsz];show⟨_,I,O,O⟩,⟨_,J,O,_,O⟩⟩ λh' C B=>?_));have M:=I2.turnedL (ch:=[s.heap.objs.size]) (h':=h') (t':=C) (λb o m e=>B b o m e) (λb m=>by rwa[LV.mp m]);show LD (OW (LP (hQ0 O _ M)))
 |cons x0 xs=>
  refine LD (NW (W.item 0 _ _ _ (by rw[hsz];show Nat.succ_pos _) ⟨⟨_,I,O,O⟩,⟨_,J,O,_,O⟩⟩ λv h' C hP Tw B=>?_))
  have hv:its[0]?=Z v:=by simpa using hP
  let⟨v',SV,ry⟩:=SU.get (i:=0) (x:=x0) O;rw[hv]at SV;cases SV;let⟨T,U1,T8,Uv⟩:=id Tw.1;have M:Inv X a c H { s with heap:=h',toks:=C }:=I2.turnedL (ch:=[s.heap.objs.size]) (h':=h') (t':=C) (λb o m e=>B b o m e) (λb m=>by rwa[LV.mp m]);have W5:=B f _ (by simpa using VS.symm) of2;have oS3:=B h.objs.size _ (by simpa using S) gS
  have I4:Inv X (a++[(h.objs.size,È "list" #[] 0),(s.heap.objs.size,T),(f,g)]) c H { s with heap:=h',toks:=C }:=M.pins_of λp hp=>by
   rcases Mf.mp hp with hp|hp
   ·show M.pin p (L3 _ hp)
   ·simp only[L0,NI,P0]at hp;rcases hp with rfl|rfl|rfl
    ·show⟨oS3,F.1,F.2.1,F.2.2.1,λv z=>by cases z⟩
    ·show⟨U1,P.1,P.2.1,P.2.2.1,λv z=>by rw[Uv]at z;cases z⟩
    ·show⟨W5,ff.1,ff.2.1,ff.2.2.1,W2⟩
  change wpAny _ X.A.in1 (tryCatch (holding [v] (call (.ref f) [v])) _ >>= _) _ _ _;refine LD (NW (Mv (MZ (r 0 x0 v _ H _ O ry g0 W5 I4) (λu K he=>?_) λ_ _ hF=>hF.elim)));let⟨v2,L,N,r3,rfl,g2⟩:=he;let⟨y,rfl⟩:=(show ∃t,u=Value.int (kf 0) t from r3);have pS:=N.pin (h.objs.size,È "list" #[] 0) (L3 _ (L3 _ (by simp)));have pI:=N.pin (s.heap.objs.size,T) (L3 _ (L3 _ (by simp)));have pf:=N.pin (f,g) (L3 _ (L3 _ (by simp)));have I6:Inv X a c L K:=N.unpinned;have s1:=NB K.heap h.objs.size (Obj.mapSeq λ_=>#[v,.int (kf 0) y]);obtain⟨U,SW⟩:∃U,(K.heap.update h.objs.size (Obj.mapSeq λ_=>#[v,.int (kf 0) y])).get? h.objs.size=Z (È "list" #[v,.int (kf 0) y] U):=⟨_,OJ pS.1 λ_=>#[v,.int (kf 0) y]⟩;change wpAny _ X.A.in1 (updateSeq h.objs.size (λ_=>#[v,.int (kf 0) y]) >>= _) _ _ _;refine LD ?_;refine QJ pS.1 O ?_;rw[SI];have I7:=I6.turnedL (ch:=[h.objs.size]) (h':=K.heap.update h.objs.size (Obj.mapSeq λ_=>#[v,.int (kf 0) y])) (t':=K.toks) (λb o m e=>(s1.2 b (λz=>m (by simp[z]))).trans e) (λb m=>by rw[LV.mp m];show F.to pS.2.1);refine LP ⟨NU Nh _,HE (kf:=kf) (G:=G) hh W2 F P ff S W3 VS VT hG r hQ _ 0 0 _ L x0 v y U O (Nat.succ_le_succ (ME _)) g2 I7 pS.2.1 pI.2.1 pf.2.1 SW ⟨T,(s1.2 _ S.symm).trans pI.1,T8,Uv⟩ ((s1.2 f W3.symm).trans pf.1) O ry (LM _) λj' Vp=>?_⟩
  have e:j'=0:=by omega
  subst e;show⟨Ni _,λz=>absurd z (MY _)⟩
end
noncomputable def Fn(tl:TD)(cap:Y (Ž Nat))(tb:TD):TD:=λρ R=>tl ρ λd=>match d with
 |.lst ds=>∃kf:Nat->Int,(∀i e,ds[i]?=Z e->tb ((dZ (ż::cap) ρ).set 0 (Z (.v e))) λr=>r=.int (kf i))/\(ds=[]->R .non) /\
   ∀i e,ds[i]?=Z e->(∀j,j<ds.length->kf i<=kf j/\(j<i->kf i<kf j))->R e
 |_=>False
section
variable{K:Â}{X:Cx}{l m:Å}{tl tb:TD}{scope:â}{p:Str}{r:Y Str}{cap:Y (Ž Nat)}{h:ď}{np pos w B E C:Pos}{c P:Addr}{j:Nat}
def C5(hr:Room 1 X.A)(hg:Gl X "min")(hm:X.mg "min"=ż)(hl:PQ K X l tl)(S:CompScope X.N X.env.scope scope (p::r) (ż::cap))(RC:fb 1 (ż::cap)=ž)
  (Rz:scope.names.lookup p=Z .local) (X7:scope.isCoroutine=β) (UY:scope.isGenerator=β) (UZ:defaultsOf h X.env=([],[]))
  (SH:∀(qual:Str)(cl:Y (Str×Addr))(pm cd Tg u:Value),Ġ (kla_fn "<lambda>" qual h m scope cl pm cd Tg) ⟨[u],[]⟩=pure [(p,u)])
  (S9:X.env.code=.ref c) (hC:ñ X.K c P=ž) (ht:(P,#[ß w.line,ß w.col,.str (X.env.qual++"<lambda>") 0])∈bY K)
  (hb:∀(A:É)(cl:Y (Str×Addr))(f:Addr)(cd:Value)(s0:À)(H0:Hp),PD K (lP X A scope (p::r) cl f (X.env.qual++"<lambda>") cd s0 H0) m tb)
  (he:Á [l] X.env=[(β,eval l X.env)]) (Vt:∀y∈scope.names,y.2≠.cell:=by decide) :
  PD K X (.Call (.Name "min" np) [l] [⟨Z "key",.Lambda h m scope w,B⟩,⟨Z "default",.Constant .none j E,C⟩] pos) (Fn tl cap tb):=⟨λhK=>by
 subst hK;intro be s σ H Q I ⟨H0,Φ,ρ,R,V,t,k⟩;refine Oh (hV I hg hm boot_min ?_)
 have U:Ñ pos (Á [l] X.env)=(β,eval l X.env)::Ñ pos (Á [] X.env):=by rw[he];rfl
 refine callWith_kw (ay (dR (hl.pe O) pa_nil (by rw[he];rfl) pos be s σ H (λvs T=>∃x ds F,vs=[x]/\Gr Φ H F T/\RpQ X.K F T (.lst ds) x/\∃kf:Nat->Int,(∀i e,ds[i]?=Z e->tb ((dZ (ż::cap) ρ).set 0 (Z (.v e))) λr=>r=.int (kf i))/\(ds=[]->R .non) /\
   ∀i e,ds[i]?=Z e->(∀j,j<ds.length->kf i<=kf j/\(j<i->kf i<kf j))->R e) I ⟨H0,Φ,ρ,_,V,t,λd F T v r g rv=>?_⟩) λus s1 ⟨vs,T,I1,r1,q1⟩=>?_) U (by rw[U];rfl)
 ·cases d with
  |lst ds=>show⟨v,ds,F,O,g,rv,r⟩
  |_=>show r.elim
 ·let⟨x,ds,F,rfl,J,rq,kf,W6,Yc,hk3⟩:=q1;let⟨a,xs,rfl,hxs,rl⟩:=rq.lst J.s
  cases r1 with
  |cons r rr=>
  cases rr;cases r;have V1:=V.gr J;have hP:=J.s _ _ (V1.tb _ ht);refine kws_cons (DW hP S9 hC UZ I1 S.free λf c' cl pm Tg o vs t' H2 s2 RU S8 hH I2 of ff hc Uv hv hsz=>?_);refine kws_cons (Constant_none (kws_nil ?_));change wpAny _ X.A (call (.builtin "min") [.ref a] [(Str.ofString "key",.ref f),(Str.ofString "default",.none)]) _ _ _
  have L:Gr F T F H2:=by
   rcases hH with rfl|⟨b,u,WW,_,rfl⟩
   ·show .refl J.s
   ·show .fresh J.s WW _
  refine Jq (kf:=kf) (G:=λH'=>∃am,Gr F H2 am H') hr.hd (λv z=>by cases z) ff I2 ⟨F,.refl L.s⟩ of (λH' RL=>by let⟨am,g'⟩:=RL;show g'.h _ _ (L.h _ _ hxs)) (λi x u s3 H3 pl hx ru ⟨N,M⟩ W5 a_=>?_) (λYd s3 a_=>?_) λi x u s3 H3 hx ru Sr ⟨N,M⟩ a_=>?_
  ·let⟨e,Uw,re⟩:=rl.at' hx;have XX:=M.h _ _ hc;let⟨o3,_⟩:=(show ObjOk X.prog X.w H3 s3.heap c' (.frz o (.own P))from a_.hok c' _ XX);have V3:=((V1.gr L).gr M).cap (wI RC)
   refine ER Vt S Rz (show X.A.in1.frames=Z X.stack from I.ok.frames) (show X.A.in1.handled=ż from hr.hd) (show X.A.in1.depth<ù from hr.depth) a_ RU S8 W5 ⟨c',o,vs,t',O,o3,Uv,hv⟩ (SH _ _ _ _ _ u) X7 UY ((hb _ _ _ _ _ _).pe O) ru
    ⟨H0,N,_,_,V3.set (re.same (L.f.trans M.f)) 0,W6 i e Uw,λd Φ4 H4 v r g4 rv=>?_⟩
   subst r;obtain rfl:=rv.i;show⟨O,Φ4,M.trans g4⟩
  ·have hd:ds=[]:=by have:=rl.1;rw[Yd]at this;show Nz.mp this.symm
   show⟨.non,H2,a_,O,k .non F H2 .non (Yc hd) (J.trans L) .non⟩
  ·let⟨e,Uw,re⟩:=rl.at' hx
   show⟨x,H3,a_,ru,k e N H3 x (hk3 i e Uw λj hj=>Sr j (by rwa[rl.1])) ((J.trans L).trans M) (re.same (L.f.trans M.f))⟩⟩
end
structure LamT(K:Â)(q:Str)(fd:Í)(c P:Addr)(lp:Pos):Prop where
 code:fd.code=.ref c
 hd:ñ K c P=ž
 tab:(P,#[ß lp.line,ß lp.col,.str (q++".<locals>."++"<lambda>") 0])∈bY K
section
variable{P:Æ}{w:Ç}{K:Â}{mg:Str->Ž Value}{base:Heap}
def Fun.okL{x qual:Str}{st:Ë}{f:Addr}{e:Í}{N ps:Y Str}{k:Nat}{sp:Sp}(F:Fun K x qual st f e)(S:FnScope N ps (av st))(len:∀a H Q E,sp a H Q E->a.length=ps.length)
  (g:∀(c:Value)(A:É)(outer:Y ó)(s:À)(H:Hp)(a:Y V)(Q:VK)(E:XK),e.code=c->Room k (A.deeper (ï qual (av st) s.heap.objs.size f c))->sp a H Q E->
   ∃t,PSs (gq aH P w K mg base N qual (av st) f c A outer s H E).nox (ee st) t/\t { nx:=λ_ H'=>Q .non H',rt:=Q } (start N a) H):FnOk P w K mg base aH (k+1) f e ps sp:=by
 let⟨u,v,kV,m,pm,r,c,ct,p,rfl,lk,j⟩:=F.ex;refine vn lk j S len λA outer s H a Q E o l=>?_;let⟨t,h,q⟩:=g c A outer s H a Q E O o l;show⟨t,h.nox,q⟩
def Fun.okDL{x qual:Str}{st:Ë}{f:Addr}{c:Í}{N ps:Y Str}{k:Nat}{sp:bJ}(F:Fun K x qual st f c)(S:FnScope N ps (av st))(len:∀ds R,sp ds R->ds.length=ps.length)
  (m:∀(a:Value)(A:É)(outer:Y ó)(s:À)(H:Hp)(E:XK)(ds:Y D)(R:D->Prop),c.code=a->Room k (A.deeper (ï qual (av st) s.heap.objs.size f a))->sp ds R->
   ∃t,PSsD K (gq aH P w K mg base N qual (av st) f a A outer s H E).nox (ee st) t/\t { nx:=λ_=>R .non,rt:=R } (iJ N ds)):FnOk P w K mg base aH (k+1) f c ps (lSp K sp):=by
 refine F.okL S (λv H Q E ⟨e,ds,R,sm,tb,rl,h,_⟩=>by rw[rl.1];show len ds R h) (λa A outer s H v Q E o p ⟨e,ds,R,sm,tb,rl,h,l⟩=>?_);let⟨t,u,hq⟩:=m a A outer s H E ds R o p h;show⟨lS K t,u.ps O,e,H,e,iJ N ds,_,.refl sm,we sm tb rl,hq,⟨λy j H' z r g V=>l .non j H' .non r g .non,l,λ_ _ _ _ h=>h.elim,λ_ _ _ _ h=>h.elim⟩⟩
end
def yV{K:Â}{x:Str}{f c P:Addr}{g:Í}{u j:Value}{v m:Ž Addr}{sl p:Array (Ž Value)}{o:Array Value}{pos:Pos}(a:Ü K Ã x=Z (Z (.ref f)))(l:K.lookup f=Z ⟨u,v,.func g,sl⟩)
  (e:g.code=.ref c) (r:K.lookup c=Z ⟨j,m,.fields o,p⟩) (h:(o[11]?:Ž Value)=Z (.ref P)) (hp:ur g.body=Z pos) :
  ja K x=Z (P,#[ß pos.line,ß pos.col,.str (g.qualname++".<locals>."++"<lambda>") 0]):=by
 unfold ja;simp only[a,l,e,r,h,hp]
def AH{K:Â}{c P:Addr}{o:Obj}(h:K.lookup c=Z o)(v:ñ [(c,o)] c P=ž):ñ K c P=ž:=by
 have e:List.lookup c [(c,o)]=Z o:=by simp
 unfold ñ at v ⊢;rw[h];rw[e]at v;show v
def yI{K:Â}{x:Str}(a:Ü K Ã x=Z ż):ja K x=ż:=by unfold ja;simp only[a]
def vg{K:Â}{t:Addr×Array Value}(a:ja K "least_grown"=Z t)(c:ja K "greatest_first"=ż):bY K=[t]:=by unfold bY;simp[a,c]
def jj(K:Â):Hp:=λb=>((bY K).find? λu=>u.1==b).map λu=>HO.tbl u.2
def Bi{P:Æ}{w:Ç}{K:Â}{mg am:Str->Ž Value}{CX:dA}{k:Nat}{T a:Addr}{fd:Í}{x:Str}{sp:Sp}{f:À}{G:Y Value}{ns:Y Int}
  (KX:K.In f.heap) (Ut:f.heap.Ns Ã mg) (J:f.heap.Ns ë am) (WX:∀x:Str,x≠"__name__"->am x=Ù x) (Ye:f.heap.NoLimit)
  (U:∃I ob,mg "__builtins__"=Z (.ref I)/\I≠ë/\f.heap.get? I=Z ob/\ob.cls=.type "module"/\ob.dict=Z ë/\ob.data=.plain) (R:f.heap.NoSeer) (X:∃j,f.heap.Ns cStatics j/\j "sys.int_max_str_digits"=ż) (hg:f.gens=#[])
  (N:f.heap.get? a=Z { cls:=.type "list",data:=.seq G.toArray }) (hi:ŏ G ns) (hl:ns.length<=sizeLine) (hr:Room k Ā)
  (F:∀base:Heap,K.In base->base.Ns Ã mg->FnOk P w K mg base CX k T fd [x] sp) (SH:∀(s:À)(u:Value),ė s fd ⟨[u],[]⟩ [(x,u)])
  (L:∀t∈bY K,f.heap.get? t.1=Z (ü #[])/\K.lookup t.1=ż/\đ f.heap t.1) (U2:∀t∈bY K,∀u∈bY K,t.1=u.1->t=u)
  (TZ:∀H:Hp,SqL K H a (ns.map V.int)->TabF K H->sp [.ref a] H (λv _=>v=.bl ž) λ_ _ _=>False)
  (Yf:∀H e l,CX [] H f (λ_ _ _=>False) e l->False) :
  Þ (Ä P w) Ā (.call (.ref T) ⟨[.ref a],[]⟩) (λr l=>r=.ok (.ret (.bool ž))/\OldK f.heap l.heap/\l.os=f.os/\ö l.gens) f:=by
 have rv:=zq hi;have Yg:=hi.length
 have C:∀H:Hp,SqL K H a (ns.map V.int)->TabF K H->(∀b u,H b=Z u->(b=a/\K.lookup a=ż/\u=.frz { cls:=.type "list",data:=.seq G.toArray } (.lst (ns.map V.int)))\/∃t∈bY K,t.1=b/\u=.tbl t.2)->
   Þ (Ä P w) Ā (.call (.ref T) ⟨[.ref a],[]⟩) (λr l=>r=.ok (.ret (.bool ž))/\OldK f.heap l.heap/\l.os=f.os/\ö l.gens) f:=by
  intro H hS Yh Q
  have hok:HOk P w H f.heap:=λb u e=>by
   rcases Q b u e with⟨rfl,_,rfl⟩|⟨t,g,rfl,rfl⟩
   ·show⟨N,by rwa[LC],G,_,rv,N⟩
   ·show .inl (L t g).1
  have a_:∀{b:Addr}{o:Obj},f.heap.get? b=Z o->H b=ż->(gX f.heap H).get? b=Z o:=λe n=>Bh e n
  have S:∀{b:Addr}{o:Obj},f.heap.get? b=Z o->(o={ cls:=.type "list",data:=.seq G.toArray }->False)->(o=ü #[]->False)->H b=ż:=λ{b o} e n1 n2=>by
   cases q:H b with
   |none=>rfl
   |some u=>
    rcases Q b u q with⟨rfl,_,_⟩|⟨t,g,rfl,_⟩
    ·rw[N]at e;cases e;show (n1 O).elim
    ·rw[(L t g).1]at e;cases e;show (n2 O).elim
  have B:∀{b:Addr}{m:Str->Ž Value},f.heap.Ns b m->(gX f.heap H).Ns b m:=λ{b m} Rb=>by let⟨o,es,ep,e,d,r⟩:=Rb;show⟨o,es,ep,a_ e (S e (λz=>by rw[z]at d;cases d) λz=>by rw[z]at d;cases d),d,r⟩
  have M:K.In (gX f.heap H):=λb o e=>a_ (KX b o e) (by
   cases q:H b with
   |none=>rfl
   |some u=>
    rcases Q b u q with⟨rfl,z,_⟩|⟨t,g,rfl,_⟩
    ·rw[z]at e;cases e
    ·rw[(L t g).2.1]at e;cases e)
  have hM:Mod K mg (gX f.heap H):=⟨M,B Ut,⟨am,B J,WX⟩,let ⟨j,p,A⟩:=Ye;⟨j,B p,A⟩,let ⟨I,ob,b1,b2,b3,b4,b5,b6⟩:=U;⟨I,ob,b1,b2,a_ b3 (S b3 (λz=>by rw[z]at b6;cases b6) λz=>by rw[z]at b6;cases b6),b4,b5,b6⟩,
   ⟨let ⟨j,p,A⟩:=R.statics;⟨j,B p,A⟩,let ⟨j,p,A⟩:=R.mods;⟨j,B p,A⟩,let ⟨j,p,A⟩:=R.imp;⟨j,B p,A⟩,let ⟨m1,I,ob,n1,b1,b3,b4,b5⟩:=R.main;⟨m1,I,ob,B n1,b1,a_ b3 (S b3 (λz=>by rw[z]at b5;cases b5) λz=>by rw[z]at b5;cases b5),b4,b5⟩⟩,let ⟨j,p,A⟩:=X;⟨j,B p,A⟩⟩
  have e0:Env0 P w K mg (gX f.heap H) Ā [] f H:=⟨O,hM,λb o e=>Hd e,QW (C4 _ _),trivial,λb J=>absurd (show b∈([]:Y Addr)from J) (by simp),hok,.of_eq hg⟩;refine Ov ((F _ M (B Ut)).run Ā [] f H ⟨[.ref a],[]⟩ [.ref a] [.ref a] _ _ hr e0 (SH f (.ref a)) (.cons O .nil) (TZ H hS Yh)) λr l h=>?_
  cases r with
  |error e=>show (Yf H e l h).elim
  |ok fl=>
   cases fl with
   |next=>show Ó h
   |brk=>show Ó h
   |cont=>show Ó h
   |ret u=>
    let⟨v,H',os,bare,un,VW,r',q⟩:=h;have q':v=.bl ž:=q;subst q';obtain rfl:u=Value.bool ž:=r';refine⟨O,⟨λb o e=>?_,λb o e=>un.there b o e (by simp)⟩,os,bare⟩
    cases q:H b with
    |none=>show .inl (un.keep b o e q (by intro z;show absurd (show b∈([]:Y Addr)from z) (by simp)) (by simp))
    |some u=>
     rcases Q b u q with⟨rfl,_,rfl⟩|⟨t,g,rfl,rfl⟩
     ·let⟨e1,_⟩:=hok b _ q;let⟨e2,_⟩:=VW b _ (un.frzs b _ _ q);rw[e]at e1;cases e1;show .inl e2
     ·rw[(L t g).1]at e;cases e;rcases (show ObjOk P w H' l.heap t.1 (.tbl t.2)from VW t.1 _ (un.tbls t.1 _ q))with z|⟨c,oc,us,y,z,qq,t1,t2,_,_,z3,_⟩
      ·show .inl z
      ·show .inr (.inl ⟨(L t g).2.2,O,#[],#[y,z,.ref c],O,by simpa using z3⟩)
 have VX:∀t∈bY K,jj K t.1=Z (.tbl t.2):=λt g=>by
  unfold jj
  cases e:(bY K).find? λu=>u.1==t.1 with
  |none=>have:=List.find?_eq_none.mp e t g;simp at this
  |some u=>
   have p:=List.find?_some e;have A:=Qn e;have h3:u=t:=U2 u A t g (by simpa using p);rw[h3];rfl
 have E:∀b u,jj K b=Z u->∃t∈bY K,t.1=b/\u=.tbl t.2:=λb u h=>by
  unfold jj at h
  cases e:(bY K).find? λu=>u.1==b with
  |none=>rw[e]at h;cases h
  |some t=>
   rw[e]at h;cases h;show⟨t,Qn e,by simpa using List.find?_some e,O⟩
 have naT:∀t∈bY K,t.1≠a:=λt g z=>by have:=(L t g).1;rw[z,N]at this;cases this
 cases be:K.lookup a with
 |some o=>
  have e:=KX a o be;rw[N]at e;cases e;show C (jj K) (.inr ⟨_,G.toArray,_,be,O,O,O,by rwa[LR,Yg],by simpa using rv⟩) VX λb u z=>.inr (E b u z)
 |none=>
  refine C (λb=>if b=a then Z (.frz { cls:=.type "list",data:=.seq G.toArray } (.lst (ns.map V.int))) else jj K b) (.inl (.inr ⟨{ cls:=.type "list",data:=.seq G.toArray },LI O⟩)) (λt g=>?_) λb u z=>?_
  ·change (if t.1=a then _ else jj K t.1)=_;rw[LG (naT t g)];show VX t g
  ·by_cases J:b=a
   ·have z':=(LI J).symm.trans z;cases z';show .inl ⟨J,be,O⟩
   ·have z':=(LG J).symm.trans z;show .inr (E b u z')
def walk_ofT{l:PySem.W.OpenLaw}{n k:Nat}{q:Æ}{j:Y Str}{a_:(Str->Ž Value)->Heap->Prop}{r:Ç->Heap->Prop}{d:DefRec}{K:ŋ->Â}{CX:Ç->dA}{sp:Ç->Sp}{x:Str}
  (hn:l.most=Z n) (L:n<=sizeLine) (M:d.params.defaults=[]) (Q:importsNone q=ž) (hr:Room k Ā)
  (X:∀(w:Ç)(h:Heap),r w h->(K w.params).In h)
  (U:∀(w:Ç)(h:Heap),r w h->∀t∈bY (K w.params),h.get? t.1=Z (ü #[])/\(K w.params).lookup t.1=ż/\đ h t.1) (E:∀(w:Ç),∀t∈bY (K w.params),∀u∈bY (K w.params),t.1=u.1->t=u)
  (F:∀(w:Ç)(mg:Str->Ž Value)(p:Addr)(h:Heap),(K w.params).In h->h.Ns Ã mg->mg d.name=Z (.ref p)->
   ∃y:Í,(∀(s:À)(u:Value),ė s y ⟨[u],[]⟩ [(x,u)]) /\
    ∀base:Heap,(K w.params).In base->base.Ns Ã mg->FnOk l.prog w (K w.params) mg base (CX w) k p y [x] (sp w))
  (C:∀(w:Ç)(H:Hp)(a:Addr)(ns:Y Int),ns.length<=n->SqL (K w.params) H a (ns.map V.int)->TabF (K w.params) H->sp w [.ref a] H (λv _=>v=.bl ž) λ_ _ _=>False)
  (P:∀(w:Ç)(H:Hp)(s:À)(e:Value)(z:À),CX w [] H s (λ_ _ _=>False) e z->False) :
  PySem.W.WalkO q j a_ r l.row.toRowW d [] (λf B=>PySem.call f B):=by
 refine Att.attach_call hn M λw s₀ m mg mb p o pm cd R a B ns G be ho hd Rr I J g c hg=>?_;have A:=X w _ be;let⟨y,am,S⟩:=F w mg p _ A G.T.g I;show Bi A G.T.g G.T.b G.T.builtins G.T.nolimit G.T.bmain (G.T.seer Q) G.T.nodigits hg J g (L6 c L) hr S am (U w _ be) (E w) (λH T N=>C w H a ns c T N) λH e z=>P w H m e z
end L2
namespace L2
open PySem PySem.W PyProof.Rows
def Go{c:Type}(f:Nat->Nat->Bool)(N:Nat)(P:c->Prop):KasT c->Prop
 |.ret a=>P a
 |.ask i j k=>i<N/\j<N/\Go f N P (k (f i j))
theorem Go.bind{e m:Type}{f:Nat->Nat->Bool}{N:Nat}{P:e->Prop}{l:m->Prop}{g:e->KasT m}:∀{t:KasT e},Go f N P t->(∀a,P a->Go f N l (g a))->Go f N l (t.bind g)
 |.ret a,h,c=>c a h
 |.ask i j k,h,c=>⟨h.1,h.2.1,Go.bind (t:=k (f i j)) h.2.2 c⟩
theorem Go.imp{g:Type}{f:Nat->Nat->Bool}{N:Nat}{P e:g->Prop}:∀{t:KasT g},Go f N P t->(∀a,P a->e a)->Go f N e t
 |.ret a,h,c=>c a h
 |.ask i j k,h,c=>⟨h.1,h.2.1,Go.imp (t:=k (f i j)) h.2.2 c⟩
theorem Go.wp{e:Type}{f:Nat->Nat->Bool}{N:Nat}{P:e->Prop}{c:Nat->Nat->(Bool->À->Prop)->À->Prop}{Q:e->À->Prop}{s:À}
  (g:∀i j (C:Bool->À->Prop),i<N->j<N->C (f i j) s->c i j C s) (hq:∀a,P a->Q a s):∀{t:KasT e},Go f N P t->t.kasWp c Q s
 |.ret a,h=>hq a h
 |.ask i j k,h=>g i j _ h.1 h.2.1 (Go.wp g hq (t:=k (f i j)) h.2.2)
section
variable{key:Nat->Int}{N:Nat}{p:Array Nat}
def Ky(key:Nat->Int)(p:Array Nat)(i:Nat):Int:=key (p.getD i 0)
abbrev fk(key:Nat->Int):Nat->Nat->Bool:=λi j=>decide (key i<key j)
def gM(key:Nat->Int)(p:Array Nat)(n:Nat):Prop:=∀i,i+1<n->Ky key p i<Ky key p (i+1)
def sO(key:Nat->Int)(p:Array Nat)(n:Nat):Prop:=∀i,i+1<n->Ky key p (i+1)<Ky key p i
structure Pm(key:Nat->Int)(N:Nat)(p:Array Nat):Prop where
 sz:p.size=N
 pm:p.Perm (List.range N).toArray
def u0{p:Array Nat}{i:Nat}(h:i<p.size):p[i]?=Z (p.getD i 0):=by simp[Ć,h]
def Pm.lt(h:Pm key N p)(g:0<N)(i:Nat):p.getD i 0<N:=by
 by_cases c:i<p.size
 ·have a:p.getD i 0∈p:=by
   have e:p.getD i 0=p[i]:=by simp[Ć,c]
   rw[e];show Ł c
  have f:=(h.pm.mem_iff).mp a;simpa using f
 ·have e:p.getD i 0=0:=by simp[Ć,c]
  rwa[e]
def Pm.inj(h:Pm key N p){i j:Nat}(o:i<N)(r:j<N)(e:p.getD i 0=p.getD j 0):i=j:=by
 have nd:p.toList.Nodup:=by have:=h.pm.toList;show this.nodup_iff.mpr (by simpa using Qw)
 have a:p.toList[i]?=Z (p.getD i 0):=by rw[Pf];show u0 (by rwa[h.sz])
 have c:p.toList[j]?=Z (p.getD j 0):=by rw[Pf];show u0 (by rwa[h.sz])
 let⟨l,f⟩:=L9.mp a;let⟨m,g⟩:=L9.mp c;show (OA nd).mp (f.trans (e.trans g.symm))
variable(a:∀i j,i<N->j<N->key i=key j->i=j)
include a
def Pm.ne(h:Pm key N p){i j:Nat}(f:i<N)(g:j<N)(c:i≠j):Ky key p i≠Ky key p j:=λe=>
 c (h.inj f g (a _ _ (h.lt () i) (h.lt () j) e))
theorem qz(h:Pm key N p):∀f n,1<=n->n+f<=N->gM key p n->Go (fk key) N (λm=>n<=m/\m<=n+f/\gM key p m/\(m<n+f->Ky key p m<Ky key p (m-1))) (kas_asc p f n)
 |0,n,_,_,g=>⟨LM _,LM _,g,λh=>absurd h ()⟩
 |f+1,n,w,x,g=>by
  refine⟨h.lt () n,h.lt () (n-1),?_⟩;by_cases c:key (p.getD n 0)<key (p.getD (n-1) 0)
  ·simp only[fk,Md c,NT];show⟨LM _,(),g,λ_=>c⟩
  ·simp only[fk,L7 c,Nb,N9];have u:=h.ne a (i:=n) (j:=n-1) () () ()
   have o:Ky key p (n-1)<Ky key p n:=by have v:¬ Ky key p n<Ky key p (n-1):=c;omega
   refine (qz h f (n+1) () () λi y=>?_).imp λm l=>⟨(),(),l.2.2.1,λz=>l.2.2.2 ()⟩;by_cases e:i+1=n
   ·have r:n-1=i:=by omega
    rw[r]at o;rwa[e]
   ·show g i ()
theorem uI(h:Pm key N p):∀f n,1<=n->n+f<=N->sO key p n->Go (fk key) N (λr=>r.1=p/\n<=r.2.1/\r.2.1<=n+f/\r.2.2=0/\sO key p r.2.1) (kas_desc f p n 0)
 |0,n,_,_,g=>⟨O,LM _,LM _,O,g⟩
 |f+1,n,w,x,g=>by
  refine⟨h.lt () n,h.lt () (n-1),?_⟩;have v:=h.ne a (i:=n) (j:=n-1) () () ();by_cases c:key (p.getD n 0)<key (p.getD (n-1) 0)
  ·simp only[fk,Md c,NT];rw[LG ()];refine (uI h f (n+1) () () λi y=>?_).imp λr m=>⟨m.1,(),(),m.2.2.2⟩;by_cases e:i+1=n
   ·have u:n-1=i:=by omega
    rw[e];have l:Ky key p n<Ky key p (n-1):=c;rw[u]at l;show l
   ·show g i ()
  ·simp only[fk,L7 c,Nb,N9];refine⟨h.lt () (n-1),h.lt () n,?_⟩
   have o:key (p.getD (n-1) 0)<key (p.getD n 0):=by
    have l:¬ Ky key p n<Ky key p (n-1):=c;change Ky key p (n-1)<Ky key p n;omega
   simp only[Md o,NT];show⟨O,LM _,by change n<=n+(f+1);omega,O,g⟩
omit a in
def Pm.rev(h:Pm key N p){n:Nat}:Pm key N (ă p 0 n):=⟨by unfold ă;rw[mirror_size];show h.sz,(mirror_perm ..).trans h.pm⟩
omit a in
def vi(h:Pm key N p){n i:Nat}(f:n<=N):Ky key (ă p 0 n) i=if i<n then Ky key p (n-1-i) else Ky key p i:=by
 have e:=getElem?_mirror (xs:=p) (i:=0) (j:=n) (by rwa[h.sz]) ((n-0)/2) () i
 have g:∀(q:Array Nat)(k:Nat),q.getD k 0=(q[k]?).getD 0:=λq k=>by simp[Qc]
 unfold Ky ă;rw[g,e];by_cases c:i<n
 ·rw[LI c];by_cases d:(0<=i/\i<0+(n-0)/2)\/(n-(n-0)/2<=i/\i<n)
  ·rw[LI d,g];congr 3;omega
  ·rw[LG d,g];congr 3;omega
 ·rw[LG c,LG (),g]
def AA(h:Pm key N p){n:Nat}(f:1<=n)(c:n<=N)(hd:sO key p n):Go (fk key) N (λr=>1<=r.1/\r.1<=N/\Pm key N r.2/\gM key r.2 r.1) (ķ n N p):=by
 unfold ķ
 have g:gM key (ă p 0 n) n:=λi j=>by
  rw[vi h c,vi h c,LI (),LI j];have:=hd (n-1-(i+1)) ()
  have e:n-1-(i+1)+1=n-1-i:=by omega
  rw[e]at this;show this
 show (qz a h.rev (N-n) n f () g).bind λm l=>⟨(),(),h.rev,l.2.2.1⟩
def Ig(h:Pm key N p)(E:1<=N):Go (fk key) N (λr=>1<=r.1/\r.1<=N/\Pm key N r.2/\gM key r.2 r.1) (Ĺ N p):=by
 unfold Ĺ;refine (qz a h (N-1) 1 () () λi l=>absurd l ()).bind λn w=>?_;let⟨m,F,g,y⟩:=w;by_cases c:(n==N)=ž
 ·rw[LI c];show⟨m,(),h,g⟩
 ·rw[LG c];have B:n≠N:=λe=>c (by simp[e]);by_cases d:n>1
  ·rw[LI d];refine⟨h.lt () 0,h.lt () (n-1),?_⟩
   have up:∀k,0<k->k<n->Ky key p 0<Ky key p k:=by
    intro k
    induction k with
    |zero=>intro z;omega
    |succ k A=>
     intro _ j;have v:=g k j;by_cases e:k=0
     ·subst e;show v
     ·have:=A () ();omega
   have o:key (p.getD 0 0)<key (p.getD (n-1) 0):=up (n-1) () ();simp only[fk,Md o,NT];show⟨m,(),h,g⟩
  ·rw[LG d]
   have f:n=1:=by omega
   subst f;unfold Ŋ;have u:=y ();refine (uI a h (N-(1+1)) (1+1) () () λi l=>?_).bind λr x=>?_
   ·have e:i=0:=by omega
    subst e;show u
   ·let⟨f,G,H,C,hd⟩:=x;rw[LG (),f];show AA a h () () hd
theorem sU(h:Pm key N p){k:Nat}(y:k<N)(u:gM key p k):∀f l r,l<=r->r<=k->r-l<=f->(∀i,i<l->Ky key p i<Ky key p k)->(∀i,r<=i->i<k->Ky key p k<Ky key p i)->
  Go (fk key) N (λm=>m<=k/\(∀i,i<m->Ky key p i<Ky key p k)/\∀i,m<=i->i<k->Ky key p k<Ky key p i) (ĸ p k f l r)
 |0,l,r,A,B,C,g,o=>⟨(),g,λi v=>o i ()⟩
 |f+1,l,r,A,B,C,g,o=>by
  have mono:∀i j,i<j->j<k->Ky key p i<Ky key p j:=by
   intro i j
   induction j with
   |zero=>intro z;omega
   |succ j E=>
    intro G x;have:=u j x;by_cases e:i=j
    ·subst e;show this
    ·have:=E () ();omega
  unfold ĸ;by_cases c:l≥r
  ·rw[LI c];show⟨(),g,λi v=>o i ()⟩
  ·rw[LG c];refine⟨h.lt () k,h.lt () _,?_⟩;have F:=h.ne a (i:=k) (j:=(l+r)/2) () () ();by_cases d:key (p.getD k 0)<key (p.getD ((l+r)/2) 0)
   ·simp only[fk,Md d,NT];refine sU h y u f l ((l+r)/2) () () () g λi v w=>?_;have d':Ky key p k<Ky key p ((l+r)/2):=d;by_cases e:i=(l+r)/2
    ·rw[e];show d'
    ·have:=mono ((l+r)/2) i () w;omega
   ·simp only[fk,L7 d,Nb,N9];refine sU h y u f ((l+r)/2+1) r () () () (λi v=>?_) o;have d':¬ Ky key p k<Ky key p ((l+r)/2):=d;by_cases e:i=(l+r)/2
    ·rw[e];omega
    ·have:=mono i ((l+r)/2) () ();omega
omit a in
def Pm.bub(h:Pm key N p){k d:Nat}:Pm key N (bubble p k d):=⟨by rw[bubble_size];show h.sz,(bubble_perm ..).trans h.pm⟩
theorem vz:∀f (p:Array Nat) k,Pm key N p->k+f=N->1<=k->gM key p k->Go (fk key) N (λq=>Pm key N q/\gM key q N) (ũ f p k)
 |0, p, k, h, e, _, m=>⟨h, by have : k = N:= by omega
                              subst this; show m⟩
 |f+1,p,k,h,e,B,m=>by
  unfold ũ;refine (sU a h () m k 0 k () () () (λi o=>absurd o ()) λi o z=>absurd o ()).bind λl hl=>?_;let⟨C,x,y⟩:=hl;refine vz f _ (k+1) h.bub () () λi o=>?_
  have g:∀(q:Array Nat)(k:Nat),q.getD k 0=(q[k]?).getD 0:=λq k=>by simp[Qc]
  have w:∀j,Ky key (bubble p k (k-l)) j=if j=l then Ky key p k else if l<j/\j<=k then Ky key p (j-1) else Ky key p j:=λj=>by
   have e:=getElem?_bubble (xs:=p) (src:=k) (by rw[h.sz];omega) (k-l) () j
   have r:k-(k-l)=l:=by omega
   rw[r]at e;unfold Ky;rw[g,e];by_cases c:j=l
   ·rw[LI c,LI c,g]
   ·rw[LG c,LG c];by_cases d:l<j/\j<=k
    ·rw[LI d,LI d,g]
    ·rw[LG d,LG d,g]
  rw[w,w];by_cases u:i=l
  ·subst u;rw[LI O,LG (),LI ()];show y _ () ()
  ·rw[LG u];by_cases v:i+1=l
   ·rw[LI v,LG ()];show x i ()
   ·rw[LG v];by_cases A:l<i
    ·rw[LI (),LI ()];have:=m (i-1) ()
     have r:i-1+1=i:=by omega
     rw[r]at this;show this
    ·rw[LG (),LG ()];show m i ()
def AZ(g:1<=N):Go (fk key) N (λq=>Pm key N q/\gM key q N) (kas_sort N):=by
 unfold kas_sort;have h0:Pm key N (List.toArray (List.range N)):=⟨by simp,ĥ _⟩;refine (Ig a h0 g).bind λr h=>?_;let⟨j,l,hp,f⟩:=h;by_cases c:r.1<N
 ·rw[LI c]
  have e:max r.1 1=r.1:=by omega
  rw[e];show vz a (N-r.1) r.2 r.1 hp () j f
 ·rw[LG c]
  have e:r.1=N:=by omega
  rw[e]at f;show⟨hp,f⟩
end
end L2
namespace L2
open PySem PySem.Spec PySem.W PyProof.Rows PySem.Calls
section
variable{prog:Æ}{w:Ç}{A:É}{E:Value->À->Prop}{s:À}{h₀:Heap}{L a:Addr}{m:Str->Ž Value}{g:Y (Addr×Obj)}{f:Y Value}
def xa{n:Nat}{P:PySem.Fin->À->Prop}(F:Fr h₀ L s.heap m)(N:Ĥ h₀ L s.heap g)(o:s.heap.get? a=Z (È "list" f.toArray n))(u:a≠L)(r:h₀.get? a=ż)(j:∀p∈g,p.1≠a)
  (R:f.length<2) (h:∀h' c,Fr h₀ L h' m->Ĥ h₀ L h' ((a,È "list" f.toArray c)::g)->P (.done (.ret .none)) { s with heap:=h' }) :
  wpAny (Ä prog w) A (Builtin.«list.sort» ⟨[.ref a],[]⟩) P E s:=by
 have S:a<s.heap.objs.size:=LU o;have H:=NB s.heap a (Obj.mapSeq λ_=>(#[]:Array Value));obtain⟨z,B⟩:∃z,(s.heap.update a (Obj.mapSeq λ_=>(#[]:Array Value))).get? a=Z (È "list" #[] z):=⟨_,OJ o λ_=>#[]⟩;have J:Fr h₀ L (((s.heap.update a (Obj.mapSeq λ_=>(#[]:Array Value))).push (È "tuple" f.toArray 0)).push (È "list" #[] 0)) m:=((kas_fr F H u r).push _).push _
 have K:Ĥ h₀ L (((s.heap.update a (Obj.mapSeq λ_=>(#[]:Array Value))).push (È "tuple" f.toArray 0)).push (È "list" #[] 0)) g:=
  (kas_news N H j).grown λb x e=>LK _ (LK _ e)
 have v:(((s.heap.update a (Obj.mapSeq λ_=>(#[]:Array Value))).push (È "tuple" f.toArray 0)).push (È "list" #[] 0)).get? a=Z (È "list" #[] z):=LK _ (LK _ B);rw[list_sort_plain];refine LD (Ŏ o O ?_);refine LD (Ĭ o O ?_ (by rw[LR,ND];omega) (ME _));refine LD (seqEpoch_at B O ?_);refine LD (wpAny_newTuple ?_ (by change f.length<=_;rw[ND];omega));refine LD (Pa ?_ (ME _));refine Mv ?_;change wpAny (Ä prog w) A _ P E { s with heap:=((s.heap.update a (Obj.mapSeq λ_=>(#[]:Array Value))).push (È "tuple" f.toArray 0)).push (È "list" #[] 0) };dsimp only
 have C:f.toArray.size<2:=by rw[LR];omega
 rw[LI C,LI C];refine LD (LP ?_);refine LD (QK (show (pure Unit.unit:StateT SortSt Sem Unit).run (ħ general' (f.toArray.zip f.toArray) #[] 7 ż)=pure (Unit.unit,ħ general' (f.toArray.zip f.toArray) #[] 7 ż)from rfl) ?_);dsimp only
 have U:(arrOf (ħ general' (f.toArray.zip f.toArray) #[] 7 ż)).map (·.2)=f.toArray:=by
  change (f.toArray.zip f.toArray).map (·.2)=f.toArray
  have key:∀l:Y Value,(l.zip l).map (·.2)=l:=by
   intro l
   induction l with
   |nil=>rfl
   |cons x t Q=>rw[List.zip_cons_cons,L5,Q]
  apply Array.toList_inj.mp;simp[key]
 rw[U];generalize ((s.heap.update a (Obj.mapSeq λ_=>(#[]:Array Value))).push (È "tuple" f.toArray 0)).push (È "list" #[] 0)=G at *;have I:=NB G a (Obj.mapSeq λ_=>f.toArray);obtain⟨y,M⟩:∃y,(G.update a (Obj.mapSeq λ_=>f.toArray)).get? a=Z (È "list" f.toArray y):=⟨_,OJ v λ_=>f.toArray⟩;refine LD (seqEpoch_at v O ?_);refine LD (Ĭ v O ?_ (ME _) (by rw[LR,ND];omega));simp only[bne_self_eq_false,Nb,N9];refine LP (h _ y (kas_fr J I u r) λp hp=>?_);rcases L0.mp hp with rfl|hp
 ·show⟨M,u,r⟩
 ·show kas_news K I j p hp
def BS{l:Addr}{Q:Value->À->Prop}(F:Fr h₀ L s.heap m)(N:Ĥ h₀ L s.heap g)(hl:s.heap.IsList l f.toArray)(u:f.length<2)
  (h:∀D h' c,Fr h₀ L h' m->Ĥ h₀ L h' ((D,È "list" f.toArray c)::g)->s.heap.objs.size<=D->Q (.ref D) { s with heap:=h' }) :
  wpAny (Ä prog w) A (call (.builtin "sorted") [.ref l]) Q E s:=by
 refine ć kind_sorted plain_sorted entry_sorted (args_sorted1 _) ?_;unfold Builtin.«sorted»;refine LD (m:=checkCount "sorted" 1 1 _) (LP ?_);refine LD (collect_list hl ?_ (by rw[ND];omega));refine LD (Pa ?_ (by rw[ND];omega))
 have hsz:((s.heap.push (È "list" #[] 0)).update s.heap.objs.size (Obj.mapSeq (·++f.toArray))).objs.size=s.heap.objs.size+1:=by rw[Heap.size_update,size_push']
 have j:(((s.heap.push (È "list" #[] 0)).update s.heap.objs.size (Obj.mapSeq (·++f.toArray))).push (È "list" f.toArray 0)).get? (s.heap.objs.size+1)=Z (È "list" f.toArray 0):=by rw[←hsz];show LS _ O
 have keep:∀b o,s.heap.get? b=Z o->(((s.heap.push (È "list" #[] 0)).update s.heap.objs.size (Obj.mapSeq (·++f.toArray))).push (È "list" f.toArray 0)).get? b=Z o:=λb o q=>by have e:b<s.heap.objs.size:=LU q;rwa[O3 _ _ _ (by rw[hsz];show LZ (Mr e)),Heap.get?_update_ne _ _ _ _ (LZ e),O3 _ _ _ (LZ e)]
 have r:L<s.heap.objs.size:=F.ns.lt;change wpAny _ _ _ _ _ { s with heap:=((s.heap.push (È "list" #[] 0)).update s.heap.objs.size (Obj.mapSeq (·++f.toArray))).push (È "list" f.toArray 0) };rw[hsz];refine LD (Mv (NH slot_list_sort ⟨_,j,O⟩ Ż ?body (args_list_sort _)))
 case body=>
  refine xa (s:={ s with heap:=((s.heap.push (È "list" #[] 0)).update s.heap.objs.size (Obj.mapSeq (·++f.toArray))).push (È "list" f.toArray 0) })
   (F.kept keep) (N.grown keep) j (NC (Mr r)) (Nd (L6 F.above (Qj (MC r))))
   (λp hp=>LZ (Mr (LU (N p hp).1))) u λh' c F' N'=>?_
  show⟨_,O,LP ⟨_,O,h _ h' c F' N' (O5 _)⟩⟩
def GA{x y:Addr}{a1 a2 b1 p:Int}{G H I J:þ}{Q:Bool->À->Prop}(C:ä s.heap x #[.int a1 G,.int a2 H])(F:ä s.heap y #[.int b1 I,.int p J])
  (h:Q (decide (a1<b1)) s) (B:a1=b1->a2=p):wpAny (Ä prog w) A (keyLt' (tuples' ž) (.ref x) (.ref y)) Q E s:=by
 let⟨K,l,_,n,j⟩:=C;let⟨M,o,_,k,r⟩:=F;refine kat_lt l j o r ?_;refine kat_cons (Qp ?_);by_cases c:a1=b1
 ·subst c;have u:=B O;subst u
  have e:(a1==a1)=ž:=by simp
  rw[e];refine kat_yes (kat_cons (Qp ?_))
  have v:(a2==a2)=ž:=by simp
  rw[v];refine kat_yes (kat_nil ?_)
  have z:decide (a1<a1)=β:=by simp
  rw[z]at h;show h
 ·have e:(a1==b1)=β:=by simpa using c
  rw[e];refine kat_no ?_;change wpAny _ _ (oneLt' ž _ _) _ _ _;show kat_lt_int h
end
end L2
namespace L2
open PySem PySem.Spec PySem.W PyProof.Rows PySem.Calls
def HOk.there{P:Æ}{w:Ç}{H:Hp}{h:Heap}{a:Addr}{o:HO}(x:HOk P w H h)(e:H a=Z o):∃ob,h.get? a=Z ob:=by
 have x:=x a o e
 cases o with
 |lst xs=>let⟨_,_,_,_,e⟩:=x;show⟨_,e⟩
 |tup xs=>let⟨_,_,_,ob,e,_⟩:=x;show⟨_,e⟩
 |dK c=>let⟨_,_,_,_,o,_,_,e,_⟩:=x;show⟨_,e⟩
 |dT c=>let⟨_,_,_,_,o,_,_,e,_⟩:=x;show⟨_,e⟩
 |set S n=>let⟨o,_,_,_,e,_⟩:=x;show⟨_,e⟩
 |ins C dx fs=>let⟨_,_,_,e,_⟩:=x;show⟨_,e⟩
 |own y=>let⟨_,e⟩:=x;show⟨_,e⟩
 |xd fs=>let⟨_,⟨_,_,_,e,_⟩,_⟩:=x;show⟨_,e⟩
 |rng lo g=>let⟨_,_,_,e⟩:=x;show⟨_,e⟩
 |frz ob u=>let⟨e,_⟩:=x;show⟨_,e⟩
 |tbl ps=>rcases x with x|⟨_,_,_,_,_,_,_,_,_,_,x,_⟩<;>show⟨_,x⟩
 |met f y=>show⟨_,(show h.get? a=Z _ from x)⟩
 |ext j=>let⟨_,⟨_,e⟩,_⟩:=x;show⟨_,e⟩
def Inv.listNew{X:Cx}{f:Y (Addr×Obj)}{x:St}{H:Hp}{s:À}{h':Heap}{m:Str->Ž Value}{a:Addr}{l:Y V}{its:Y Value}{c:Nat}(I:Inv X f x H s)(E:s.heap.Ns X.env.locals m)(y:h'.Ns X.env.locals m)
  (keep:∀b o,b≠X.env.locals->s.heap.get? b=Z o->h'.get? b=Z o) (r:s.heap.get? a=ż) (A:h'.get? a=Z (È "list" its.toArray c)) (G:Vals l its) (F:l.length<=sizeLine) :
  H a=ż/\Inv X f x (au H a (.lst l)) { s with heap:=h' }:=by
 have g:H a=ż:=by
  cases e:H a with
  |none=>rfl
  |some o=>let⟨ob,q⟩:=I.hok.there e;rw[r]at q;cases q
 refine⟨g,I.step (H':=au H a (.lst l)) (h':=h') (g':=s.gens) (t':=s.toks) (d':=s.drawn) (ch:=[]) (λb z=>absurd z (by simp)) (λb o h _ _ e _=>keep b o h e) (λb o h _ _ e _=>⟨o.slots,keep b o h e⟩) (λb o _ e n=>?_) (λb o _ e=>?_)
  (λb xs e=>by rwa[aE (bN e g)]) (λb o u e=>by rwa[aE (bN e g)]) (λb ps e=>by rwa[aE (bN e g)]) (λK B=>?_) (λb u e=>?_) I.bare⟩
 ·have j:b≠a:=λz=>by rw[z,r]at e;cases e
  rwa[aE j]
 ·by_cases h:b=X.env.locals
  ·let⟨o',_,_,J,_⟩:=y;show⟨o',by rwa[h]⟩
  ·show⟨o,keep b o h e⟩
 ·rwa[B.eq_nsMap,←E.eq_nsMap]
 ·by_cases j:b=a
  ·subst j;rw[aW]at e;cases e;show⟨F,its,c,G,A⟩
  ·rw[aE j]at e
   refine (I.hok b u e).stay (λd v C q=>keep d v ?_ q) (λd q=>by rwa[aE (bN q g)]) (λd xs q=>by rwa[aE (bN q g)]) λd ob w q=>by rwa[aE (bN q g)]
   rcases C with z|z
   ·rw[z];intro p;rw[p,I.free]at e;cases e
   ·intro p;rw[p,I.free]at z;cases z
theorem vf{h:Heap}:∀{its:Y Value},(∀v∈its,∃(x:Addr)(a b:Int)(t t':þ),v=.ref x/\ä h x #[.int a t,.int b t'])->∃fs,KatTups h its fs/\fs.length=its.length/\∀v∈fs,∃(i:Int)(t:þ),v=Value.int i t
 | [],_=>⟨[],.nil,O,λv e=>by simp at e⟩
 |v::its,e=>by
  let⟨fs,g,j,l⟩:=vf (its:=its) λf c=>e f (LO _ c);let⟨x,a,b,t,t',rfl,o,p,m,n,hd⟩:=e v LQ;refine⟨.int a t::fs,.cons p m hd O g,by simp[j],λf c=>?_⟩;rcases L0.mp c with rfl|c
  ·show⟨a,t,O⟩
  ·show l f c
theorem rR{a:Y V}{its:Y Value}(r:Vals a its):∀l:Y Nat,Vals (l.map λi=>a.getD i .non) (l.map λi=>its.getD i .none)
 | []=>.nil
 |i::l=>by
  refine .cons ?_ (rR r l);change RelV (a.getD i .non) (its.getD i .none);rw[LJ,LJ]
  cases e:a[i]? with
  |none=>rw[r.none_of e];rfl
  |some v=>let⟨u,c,f⟩:=r.get e;rwa[c]
abbrev jV(p:Int×Int):D:=.tup [.int p.1,.int p.2]
def BN:bJ:=λds R=>match ds with
 | [.lst c]=>∃ps:Y (Int×Int),c=ps.map jV/\ps.length<64/\(∀(i j:Nat)(p q:Int×Int),ps[i]?=Z p->ps[j]?=Z q->p.1=q.1->i=j)/\∀qs:Y (Int×Int),qs.Perm ps->qs.Pairwise (λa b=>a.1<b.1)->R (.lst (qs.map jV))
 |_=>False
def jI{a:Type}(d:a)(l:Y a):(List.range l.length).map (λi=>l.getD i d)=l:=by
 refine Nj λi=>?_;rw[LN];by_cases h:i<l.length
 ·rw[Mp h];change Z (l.getD i d)=_;rw[LJ,MT h];rfl
 ·rw[Mn (by rw[L4];omega),Mn ()];rfl
section
variable{K:Â}{X:Cx}
def vS:CallD K X (.builtin "sorted") BN:=⟨λhK a_ s σ H xs us Q I rr Rb=>by
 let⟨Φ,ds,R,sm,hl,h,k⟩:=Rb;subst hK
 match ds,h with
 | [.lst es],⟨ps,Ti,Ym,V6,hR⟩=>
  subst Ti;let⟨v,rfl,r⟩:=eX hl;let⟨a,M,rfl,q1,q2⟩:=r.lst sm
  cases rr with
  |cons r0 rr=>
  cases rr;cases r0;let⟨hz,its,n,SU,e1,e2⟩:=I.lstM q1
  have lv:M.length=ps.length:=by rw[q2.1,LC]
  have tp:∀(i:Nat)(p:Int×Int),ps[i]?=Z p->∃(x:Addr)(t t':þ),its[i]?=Z (.ref x)/\ä s.heap x #[.int p.1 t,.int p.2 t']:=λi p hp=>by
   let⟨v,B,rv⟩:=q2.at (i:=i) (d:=jV p) (by rw[LN,hp];rfl)
   cases rv with
   | @tup x ws _ E G L=>
    let⟨u,hu,ru⟩:=SU.get B;cases (show u=Value.ref x from ru)
    match ws,G,E,L with
    | [y,z],_,E,L=>
     have r1:=L 0 y (.int p.1) O O;have r2:=L 1 z (.int p.2) O O;obtain rfl:=r1.i;obtain rfl:=r2.i;let⟨Ru,P,p',_⟩:=I.tuple (.of (sm _ _ E))
     cases P with
     |cons a1 P=>
     cases P with
     |cons a2 P=>
     cases P;let⟨t,rfl⟩:=a1;let⟨t',rfl⟩:=a2;show⟨x,t,t',hu,p'⟩
  let⟨m,hm,U3⟩:=id I.loc;have F:=Att.fr_all hm;have N:Ĥ (Att.noObjs s.heap) X.env.locals s.heap (i7 (Att.noObjs s.heap) s.heap X.env.locals):=zb;have U:∀{h':Heap}{l:Y (Addr×Obj)},Ĥ (Att.noObjs s.heap) X.env.locals h' l->(∀q∈i7 (Att.noObjs s.heap) s.heap X.env.locals,q∈l)->∀b o,b≠X.env.locals->s.heap.get? b=Z o->h'.get? b=Z o:=λN' hs b o hL e=>(N' (b,o) (hs _ (oK hL (Att.noObjs_get _ _) e))).1
  have Yn:∀{x:Addr}{us:Array Value},ä s.heap x us->x≠X.env.locals:=λ{x us} RL z=>by let⟨o,S,_,n,hd⟩:=RL;let⟨o',es,ep,RY,TV,_⟩:=hm;rw[z,RY]at S;cases S;rw[TV]at hd;cases hd
  have fin:∀(l:Y Nat)(A:Addr)(h':Heap)(c:Nat),l.Perm (List.range ps.length)->(l.map λi=>ps.getD i (0,0)).Pairwise (λa b=>a.1<b.1)->s.heap.get? A=ż->h'.Ns X.env.locals m->(∀b o,b≠X.env.locals->s.heap.get? b=Z o->h'.get? b=Z o)->
    h'.get? A=Z (È "list" (l.map λi=>its.getD i .none).toArray c)->EP X a_ σ Q (.ref A) { s with heap:=h' }:=λl A h' c hp hs hD Ux keep V5=>by
   have rp:=rR SU l
   have ll:l.length=ps.length:=by rw[hp.length_eq,L4]
   let⟨hn,I2⟩:=I.listNew hm Ux keep hD V5 rp (by rwa[LC,ll,←lv]);have sn:=cz (sm.free hn) (.lst (l.map λi=>M.getD i .non))
   have rl:RpL X.K Φ ((l.map λi=>ps.getD i (0,0)).map jV) (l.map λi=>M.getD i .non):=by
    refine⟨by simp,λi v d B hd=>?_⟩;rw[LN]at B hd;rw[LN]at hd
    cases e:l[i]? with
    |none=>rw[e]at B;cases B
    |some j=>
     rw[e]at B hd;cases B;cases hd;have J:j<ps.length:=Mi.mp (hp.mem_iff.mp (Mb e));refine q2.2 j _ _ ?_ ?_
     ·change M[j]?=Z (M.getD j .non);rw[LJ,aS (show j<M.length by omega)];rfl
     ·change (ps.map jV)[j]?=Z (jV (ps.getD j (0,0)));rw[LN,LJ,aS J];rfl
   have pq:(l.map λi=>ps.getD i (0,0)).Perm ps:=by have:=hp.map λi=>ps.getD i (0,0);rw[jI]at this;show this
   show⟨.ref A,_,I2,O,k _ _ _ _ (hR _ pq hs) (.new sm hn _) ((rl.same sn).lst aW)⟩
  have Vu:s.heap.IsList a its.toArray:=⟨_,e2,O,_,O⟩;by_cases c2:its.length<2
  ·refine BS F N Vu c2 λA h' c F' N' Tn=>?_;refine fin (List.range ps.length) A h' c (.refl _) ?_ (Nd Tn) F'.ns (U N' λq hq=>LO _ hq) ?_
   ·rw[jI]
    match ps,(show ps.length<2 by omega)with
    | [],_=>show .nil
    | [p],_=>show List.pairwise_singleton _ _
   ·have:(List.range ps.length).map (λi=>its.getD i Value.none)=its:=by rw[←lv,e1];show jI _ its
    rw[this];show (N' _ LQ).1
  ·have lp:its.length=ps.length:=by omega
   refine kat_sorted F N Vu () () λA d1 h' F' N' Rl=>?_;have keep:=U N' λq hq=>LO _ hq
   have hD:s.heap.get? A=ż:=by
    cases e:s.heap.get? A with
    |none=>rfl
    |some o=>
     have nL:=(N' _ LQ).2.1;show absurd (Rl _ (oK nL (Att.noObjs_get _ _) e)) (MY _)
   have be:∀(i:Nat)(p:Int×Int),ps[i]?=Z p->∃(x:Addr)(t t':þ),its[i]?=Z (.ref x)/\ä h' x #[.int p.1 t,.int p.2 t']:=λi p hp=>by
    let⟨x,t,t',E,G⟩:=tp i p hp;have nL:=Yn G;let⟨o,S,r⟩:=G;show⟨x,t,t',E,o,keep _ _ nL S,r⟩
   let⟨fs,k1,k2,k3⟩:=vf (h:=h') (its:=its) λv B=>by
    let⟨i,w⟩:=MK B
    have Yp:i<ps.length:=by have:=aO w;omega
    let⟨x,t,t',E,G⟩:=be i _ (aS Yp);rw[w]at E;cases E;show⟨x,_,_,t,t',O,G⟩
   refine kat_kind (s:={ s with heap:=h' }) (T:=.type "int") k1 () (λv B=>by let⟨i,t,rfl⟩:=k3 v B;show Looks.of_pure O) 'b' ?_;change KasT.kasWp (kas_ask _ _ _ (tuples' ž) its) (kas_sort its.length) _ _
   have hk:∀i j,i<its.length->j<its.length->(λi=>(ps.getD i (0,0)).1) i=(λi=>(ps.getD i (0,0)).1) j->i=j:=λi j w J e=>by
    have g:∀i,i<ps.length->ps[i]?=Z (ps.getD i (0,0)):=λi w=>by rw[LJ,aS w];rfl
    show V6 i j _ _ (g i ()) (g j ()) e
   refine Go.wp (f:=fk λi=>(ps.getD i (0,0)).1) (N:=its.length) (λi j C w J hC=>?_) (λp hp=>?_) (AZ (key:=λi=>(ps.getD i (0,0)).1) hk ())
   ·have g:∀i,i<ps.length->ps[i]?=Z (ps.getD i (0,0)):=λi w=>by rw[LJ,aS w];rfl
    let⟨x,t1,t2,x1,x2⟩:=be i _ (g i ());let⟨y,u1,u2,y1,y2⟩:=be j _ (g j ())
    have ex:its.getD i Value.none=.ref x:=by rw[LJ,x1];rfl
    have ey:its.getD j Value.none=.ref y:=by rw[LJ,y1];rfl
    unfold kas_ask;rw[ex,ey]
    show GA x2 y2 hC λe=>by have:=V6 i j _ _ (g i ()) (g j ()) e;rw[this]
   ·let⟨U4,Yq⟩:=hp;refine Ř F' N' (.head λq hq=>LZ (Rl q hq)) λG c F2 N2=>?_
    have hp:p.toList.Perm (List.range ps.length):=by have:=U4.pm.toList;rw[←lp];simpa using this
    refine fin p.toList A G c hp ?_ hD F2.ns (U N2 λq hq=>LO _ hq) (N2 _ LQ).1
    have up:∀j i,i<j->j<its.length->Ky (λi=>(ps.getD i (0,0)).1) p i<Ky (λi=>(ps.getD i (0,0)).1) p j:=by
     intro j
     induction j with
     |zero=>intro i w;omega
     |succ j ih=>
      intro i w J;have L:=Yq j J;by_cases e:i=j
      ·subst e;show L
      ·have:=ih i () ();omega
    rw[OK];intro i j w J VU;rw[LC]at w J
    have Rz:p.toList.length=its.length:=by rw[Nl];show U4.sz
    have am:=up j i VU ()
    have gd:∀i (w:i<p.toList.length),p.getD i 0=p.toList[i]:=λi w=>by
     have:i<p.size:=by simpa using w
     simp[Ć,this]
    unfold Ky at am;rw[gd i w,gd j J]at am
    simpa using am⟩
end
end L2
namespace L2
open PySem PySem.Spec PyProof.Rows
def cH:ai->D
 |.inl i=>.int i
 |.inr s=>.str s
def jH{K:Â}{a:Hp}{k:ai}{v:V}(r:Rp K a (cH k) v):v=kV k:=by
 cases k with
 |inl i=>obtain rfl:=r.i;rfl
 |inr s=>obtain rfl:=r.s;rfl
def vW{K:Â}{a H:Hp}{k:ai}{v:V}(r:RpQ K a H (cH k) v):v=kV k:=by
 cases k with
 |inl i=>show RpQ.int r
 |inr s=>show RpQ.str r
def my{K:Â}{g:Hp}{a:Y ai}{c:Y V}(r:RpL K g (a.map cH) c):c=a.map kV:=by
 refine Nj λi=>?_;rw[LN]
 cases h:a[i]? with
 |none=>
  have j:=Nm.mp h;show Mn (by rwa[r.1,LC])
 |some k=>
  let⟨v,e,f⟩:=r.at (i:=i) (d:=cH k) (by rw[LN,h];rfl);rw[e,jH f];rfl
def gL(k:ai)(a:Y ai):Bool:=a.any λj=>decide (j=k)
def zL(k:ai)(a:Y ai):gL k a=ž↔k∈a:=by unfold gL;rw[Qx];show⟨λ⟨j,c,e⟩=>Mm e▸c,λh=>⟨k,h,Md O⟩⟩
def nh(k:ai):gP (kV k)=ž:=by cases k<;>rfl
def GF(j k:ai):gE (kV j) (kV k)=decide (j=k):=by
 cases j with
 |inl a=>
  cases k with
  |inl b=>change (a==b)=_;by_cases h:a=b<;>simp[h]
  |inr b=>change β=_;simp
 |inr a=>
  cases k with
  |inl b=>change β=_;simp
  |inr b=>change (a==b)=_;by_cases h:a=b<;>simp[h]
def yL(k:ai)(a:Y ai):ig (kV k) (a.map kV)=gL k a:=by unfold ig gL;rw[List.any_map];show List.any_congr O λj=>GF j k
def zH(a:Bool):cJ:=λdx e R=>∃(k:ai)(c:Y ai),dx=cH k/\dQ e=Z (c.map cH)/\R (.bl (a != gL k c))
section
variable{K:Â}{X:Cx}
def rY:OpD K X (Ì .In) (zH β):=⟨λm c s E H x y u v Q I A B g=>by
 let⟨C,dx,F,R,sm,o,p,⟨k,f,rfl,e,h⟩,w⟩:=g;cases vW o;let⟨a,G,rfl,q,rl⟩:=p.seq sm e;cases my rl;refine Jb c s E H _ _ u v Q I A B ⟨a,_,O,by rwa[m],nh k,?_,?_⟩
 ·rw[Nr];intro z r;let⟨j,_,rfl⟩:=LY.mp r;show nh j
 ·have l:(if β=ž then !ig (kV k) (f.map kV) else ig (kV k) (f.map kV))=(β != gL k f):=by rw[yL];simp
  rw[l]
  show w _ C H _ h (.refl sm) (.bl _)⟩
def wx:OpD K X (Ì .NotIn) (zH ž):=⟨λm c s E H x y u v Q I A B g=>by
 let⟨C,dx,F,R,sm,o,p,⟨k,f,rfl,e,h⟩,w⟩:=g;cases vW o;let⟨a,G,rfl,q,rl⟩:=p.seq sm e;cases my rl;refine HK c s E H _ _ u v Q I A B ⟨a,_,O,by rwa[m],nh k,?_,?_⟩
 ·rw[Nr];intro z r;let⟨j,_,rfl⟩:=LY.mp r;show nh j
 ·have l:(if ž=ž then !ig (kV k) (f.map kV) else ig (kV k) (f.map kV))=(ž != gL k f):=by rw[yL];simp
  rw[l]
  show w _ C H _ h (.refl sm) (.bl _)⟩
end
section
variable{K:Â}{X:Cx}
def IH(d:D):TD:=λ_ R=>R d
def yf{x:Str}{i:Int}{a:þ}{pos:Pos}(e:Gl X x)(f:X.mg x=Z (.int i a))(hd:ab x:=by decide):PD K X (.Name x pos) (IH (.int i)):=
 ⟨λj=>(GN (v:=.int i) e f ⟨a,O⟩ hd).imp λl H Q c=>by
  let⟨h,g,ρ,R,E,t,k⟩:=c
  show k _ g H _ t (.refl E.fz) (.int i)⟩
end
end L2
namespace L2
open PySem PySem.Spec PySem.W PyProof.Rows PySem.Calls
end L2
namespace L2
open PySem PySem.Spec PyProof.Rows
structure Cl(P:Æ)(w:Ç)(K:Â)(mg:Str->Option Value)(base:Heap)(n:Nat)(x:Str)(ps:List Str)(z:bJ):Prop where
 ex:∃(f:Addr)(fd:Í),FnOk P w K mg base aH n f fd ps (lSp K z)/\Binds K fd ps []/\í K (.ref f)=ž/\mg x=Z (.ref f)
section
variable{P:Æ}{w:Ç}{K:Â}{mg:Str->Ž Value}{base:Heap}{n m:Nat}{x:Str}{ps:Y Str}{z:bJ}{X:Cx}{e:Å}{o:Y Å}{pos p:Pos}{tl:aP}{st:Ë}{f:Addr}{j:Í}{h:Heap}
def Cl.mono(C:Cl P w K mg base n x ps z)(k:n<=m:=by decide):Cl P w K mg base m x ps z:=by let⟨f,j,F,r⟩:=C.ex;show⟨f,j,F.mono k,r⟩
def Cl.of(F:Fun K x x st f j)(b:Binds K j ps [])(m:mg x=Z (.ref f))(H:FnOk P w K mg base aH n f j ps (lSp K z)):Cl P w K mg base n x ps z:=⟨f,j,H,b,F.kp,m⟩
def aK(C:Cl X.prog X.w K X.mg X.base n x ps z)(v:Room n X.A)(u:Gl X x)
  (l:PAD K X (e::o) tl) (r:Á (e::o) X.env=(β,eval e X.env)::Á o X.env) (a:(Ñ pos (Á o X.env)).any (·.1)=β) (c:ab x:=by decide) :
  PD K X (.Call (.Name x p) (e::o) [] pos) (nR z tl):=⟨λg=>by
 subst g;let⟨f,j,F,b,k,m⟩:=C.ex
 show (CM F v u m k b nJ l r a c).pe O⟩
def dE(P:ŋ)(x:Str)(n:Nat)(v:Value):DictEntry:=⟨PyData.keyHash P x,.str x n,v⟩
noncomputable def cO(n:Str)(a:Nat)(q:Str)(b c:Nat)(l m:Int)(k:Int)(r:Nat)(g:Int)(t:Nat)(x y:Value)(z:Nat)(i:Int)(d:Nat):Obj:=⟨.type "code",ż,.fields #[.str n a,.str q b,.str "/claim/cut.py" c,.int l 0,.int m 0,.int 0 0,.int 0 0,.int k 0,.ref r,.bool ž,.int g 0,.ref t,.none,x,y,.ref z,.int i 0,.int l 0,.str "/claim/cut.py" d],#[]⟩
def fO(s:Ë)(n q m:Str)(i c:Nat):Obj:=⟨.type "function",ż,.func (č n q (fV s) (ee s) (av s) .none .none .none (.str m i) ż (.ref c) .none),#[]⟩
def Has(K:Â)(s:Ë)(x:Str):Prop:=∃f m i c,Ü K Ã x=Z (Z (.ref f))/\K.lookup f=Z (fO s x x m i c)/\ý K (.ref c) x=ž
def Has.of{s:Ë}{m:Str}{i c:Nat}(a:Ü K Ã x=Z (Z (.ref f)))(l:K.lookup f=Z (fO s x x m i c))(k:ý K (.ref c) x=ž):Has K s x:=⟨f,m,i,c,a,l,k⟩
def Has.fn(a:Has K st x)(X:K.In h)(G:h.Ns Ã mg):∃f j,Fun K x x st f j/\mg x=Z (.ref f)/\∃m i c,j=č x x (fV st) (ee st) (av st) .none .none .none (.str m i) ż (.ref c) .none:=by let⟨f,m,i,c,a,l,k⟩:=a;show⟨f,_,rn l k (by unfold í;simp only[l];rfl),œ X G a,m,i,c,O⟩
def rA{A:Type}{p:Y A->Prop}(h:∀a0,p [a0]):∀a:Y A,a.length=1->p a
 | [a0],_=>h a0
def tK{A:Type}{p:Y A->Prop}(h:∀a0 a1,p [a0,a1]):∀a:Y A,a.length=2->p a
 | [a0,a1],_=>h a0 a1
def qR{A:Type}{p:Y A->Prop}(h:∀a0 a1 a2,p [a0,a1,a2]):∀a:Y A,a.length=3->p a
 | [a0,a1,a2],_=>h a0 a1 a2
def qo{A:Type}{p:Y A->Prop}(h:∀a0 a1 a2 a3,p [a0,a1,a2,a3]):∀a:Y A,a.length=4->p a
 | [a0,a1,a2,a3],_=>h a0 a1 a2 a3
def rF{A:Type}{p:Y A->Prop}(h:∀a0 a1 a2 a3 a4,p [a0,a1,a2,a3,a4]):∀a:Y A,a.length=5->p a
 | [a0,a1,a2,a3,a4],_=>h a0 a1 a2 a3 a4
inductive HasM(K:Â)(st:Ë)(C:Addr)(m q:Str):Prop|mk (f:Addr) (j:Í) (_:å K (.ref C) m=Z (Z (.ref f))) (_:isFn K (.ref f)=ž) (_:í K (.ref f)=ž) (_:Fun K m q st f j)
def HasM.of{C:Addr}{m q:Str}{y:Value}{A v:Ž Addr}{u:Array (Ž Value)}{kV g pm r ct:Value}(a:å K (.ref C) m=Z (Z (.ref f)))(i:isFn K (.ref f)=ž)(l:K.lookup f=Z ⟨y,A,.func (č m q (fV st) (ee st) (av st) .none kV g pm v r ct),u⟩)(c:ý K r q=ž)(k:í K (.ref f)=ž):HasM K st C m q:=⟨f,_,a,i,k,rn l c k⟩
abbrev tq(st:Ë)(x q:Str)(ps:Y Str):Prop:=∀(kV a pm:Value)(l:Ž Addr)(g ct:Value)(c:Y Value),c.length=ps.length->Ġ (č x q (fV st) (ee st) (av st) .none kV a pm l g ct) ⟨c,[]⟩=pure (ps.zip c)
def Fun.bd{q:Str}(F:Fun K x q st f j)(b:tq st x q ps:=by intro _ _ _ _ _ _;first|show rA λ_=>rfl|show tK λ_ _=>rfl|show qR λ_ _ _=>rfl|show qo λ_ _ _ _=>rfl|show us_0 O|show rF λ_ _ _ _ _=>rfl|show us_6 λ_ _ _ _ _ _=>rfl|show us_7 λ_ _ _ _ _ _ _=>rfl|show us_8 λ_ _ _ _ _ _ _ _=>rfl):Binds K j ps []:=F.binds b
def Fun.cl(F:Fun K x x st f j)(m:mg x=Z (.ref f))(H:FnOk P w K mg base aH n f j ps (lSp K z))
  (b:tq st x x ps:=by intro _ _ _ _ _ _;first|show rA λ_=>rfl|show tK λ_ _=>rfl|show qR λ_ _ _=>rfl|show qo λ_ _ _ _=>rfl|show us_0 O|show rF λ_ _ _ _ _=>rfl|show us_6 λ_ _ _ _ _ _=>rfl|show us_7 λ_ _ _ _ _ _ _=>rfl|show us_8 λ_ _ _ _ _ _ _ _=>rfl):Cl P w K mg base n x ps z:=.of F (F.binds b) m H
end
section
variable{P:Æ}{w:Ç}{H:Hp}{h:Heap}{a:Addr}{o:HO}
def HOk.know(x:HOk P w H h)(f:H a=ż)(new:ObjOk P w (au H a o) h a o):HOk P w (au H a o) h:=λb u e=>by
 by_cases g:b=a
 ·subst g;rw[aW]at e;cases e;show new
 ·rw[aE g]at e
  show (x b u e).stay (λc v _ q=>q) (λc q=>by rwa[aE (bN q f)]) (λc xs q=>by rwa[aE (bN q f)]) λc ob j q=>by rwa[aE (bN q f)]
end
end L2
namespace L2
open PySem PySem.Spec PySem.W PyProof.Rows PySem.Calls
end L2
namespace L2
open PySem PySem.Spec PyProof.Rows
end L2
namespace L2
open PySem PySem.W PyProof.Rows
def oi{c:Type}(f:Nat->Nat->Bool):KasT c->c
 |.ret a=>a
 |.ask i j k=>oi f (k (f i j))
theorem Go.run{c:Type}{f:Nat->Nat->Bool}{N:Nat}{P:c->Prop}:∀{t:KasT c},Go f N P t->Go f N (λa=>a=oi f t/\P a) t
 |.ret a,h=>⟨O,h⟩
 |.ask i j k,h=>⟨h.1,h.2.1,Go.run (t:=k (f i j)) h.2.2⟩
section
variable{N:Nat}{p:Array Nat}{f:Nat->Nat->Bool}
abbrev k0:Nat->Int:=λ_=>0
theorem qt(h:Pm k0 N p):∀g n,1<=n->n+g<=N->Go f N (λm=>n<=m/\m<=n+g) (kas_asc p g n)
 |0,n,_,_=>⟨LM _,LM _⟩
 |g+1,n,a,c=>by
  refine⟨h.lt () n,h.lt () (n-1),?_⟩
  cases f (p.getD n 0) (p.getD (n-1) 0)with
  |true=>show⟨LM _,()⟩
  |false=>show (qt h g (n+1) () ()).imp λm e=>⟨(),()⟩
def Pm.revs(h:Pm k0 N p){i n:Nat}:Pm k0 N (ă p i n):=⟨by unfold ă;rw[mirror_size];show h.sz,(mirror_perm ..).trans h.pm⟩
theorem nv:∀g (p:Array Nat) n q,Pm k0 N p->1<=n->n+g<=N->Go f N (λr=>Pm k0 N r.1/\n<=r.2.1/\r.2.1<=n+g) (kas_desc g p n q)
 |0,p,n,q,h,_,_=>⟨h,LM _,LM _⟩
 |g+1,p,n,q,h,e,j=>by
  refine⟨h.lt () n,h.lt () (n-1),?_⟩
  cases f (p.getD n 0) (p.getD (n-1) 0)with
  |true=>
   simp only[NT];by_cases c:q>0
   ·rw[LI c];show (nv g _ (n+1) 0 h.revs () ()).imp λr a=>⟨a.1,(),()⟩
   ·rw[LG c];show (nv g _ (n+1) 0 h () ()).imp λr a=>⟨a.1,(),()⟩
  |false=>
   simp only[Nb,N9];refine⟨h.lt () (n-1),h.lt () n,?_⟩
   cases f (p.getD (n-1) 0) (p.getD n 0)with
   |true=>show⟨h,LM _,by change n<=n+(g+1);omega⟩
   |false=>show (nv g _ (n+1) (q+1) h () ()).imp λr a=>⟨a.1,(),()⟩
def xn(h:Pm k0 N p){n:Nat}(a:1<=n)(c:n<=N):Go f N (λr=>1<=r.1/\r.1<=N/\Pm k0 N r.2) (ķ n N p):=by unfold ķ;show (qt h.revs (N-n) n a ()).bind λm e=>⟨(),(),h.revs⟩
def FU(h:Pm k0 N p)(o:1<=N):Go f N (λr=>1<=r.1/\r.1<=N/\Pm k0 N r.2) (Ĺ N p):=by
 unfold Ĺ;refine (qt h (N-1) 1 () ()).bind λn g=>?_;let⟨a,u⟩:=g
 have part:∀{p:Array Nat},Pm k0 N p->n<N->Go f N (λr=>1<=r.1/\r.1<=N/\Pm k0 N r.2) (Ŋ n N p):=λ{p} h j=>by
  unfold Ŋ;refine (nv (N-(n+1)) p (n+1) 0 h () ()).bind λr l=>?_;let⟨hp,v,w⟩:=l;by_cases c:r.2.2>0
  ·rw[LI c];show xn hp.revs () ()
  ·rw[LG c];show xn hp () ()
 by_cases c:(n==N)=ž
 ·rw[LI c];show⟨a,(),h⟩
 ·rw[LG c];have m:n≠N:=λe=>c (by simp[e]);by_cases d:n>1
  ·rw[LI d];refine⟨h.lt () 0,h.lt () (n-1),?_⟩
   cases f (p.getD 0 0) (p.getD (n-1) 0)with
   |true=>show⟨a,(),h⟩
   |false=>
    simp only[Nb,N9];show part h.revs ()
  ·rw[LG d];show part h ()
theorem rC(h:Pm k0 N p){k:Nat}(a:k<N):∀g l r,l<=r->r<=k->Go f N (λm=>m<=k) (ĸ p k g l r)
 |0,l,r,e,j=>by change l<=k;omega
 |g+1,l,r,e,j=>by
  unfold ĸ;by_cases c:l≥r
  ·rw[LI c];change l<=k;omega
  ·rw[LG c];refine⟨h.lt () k,h.lt () _,?_⟩
   cases f (p.getD k 0) (p.getD ((l+r)/2) 0)with
   |true=>show rC h a g l ((l+r)/2) () ()
   |false=>show rC h a g ((l+r)/2+1) r () ()
theorem zK:∀g (p:Array Nat) k,Pm k0 N p->k+g=N->1<=k->Go f N (Pm k0 N) (ũ g p k)
 |0,p,k,h,_,_=>h
 |g+1,p,k,h,e,a=>by unfold ũ;show (rC h () k 0 k () ()).bind λl hl=>zK g _ (k+1) h.bub () ()
def Gk(a:1<=N):Go f N (λq=>q=oi f (kas_sort N)/\Pm k0 N q) (kas_sort N):=by
 refine Go.run ?_;unfold kas_sort;have h0:Pm k0 N (List.toArray (List.range N)):=⟨by simp,ĥ _⟩;refine (FU h0 a).bind λr e=>?_;let⟨g,h,hp⟩:=e;by_cases c:r.1<N
 ·rw[LI c];show zK _ r.2 _ hp () ()
 ·rwa[LG c]
end
end L2
namespace L2
open PySem PySem.Spec PySem.W PyProof.Rows PySem.Calls
section
variable{prog:Æ}{w:Ç}{A:É}{E:Value->À->Prop}{s:À}{h₀:Heap}{L:Addr}{m:Str->Ž Value}{e:Y (Addr×Obj)}{a:Y Value}
def AE{l:Addr}{Q:Y Value->À->Prop}(hl:ä s.heap l a.toArray)
  (h:Q a { s with heap:=(s.heap.push (È "list" #[] 0)).update s.heap.objs.size (Obj.mapSeq (·++a.toArray)) }) (hsz:a.length<=sizeLine) :
  wpAny (Ä prog w) A (ť (.ref l)) Q E s:=by
 let⟨o,g,f,n,hd⟩:=id hl;unfold ť;refine LD (ę (MQ entry_proto_collect' ?_));change wpAny _ _ (do again (.builtin "list.__iadd__" ⟨[←newList [],.ref l],[]⟩)) _ _ s;refine LD (Pa (LP ⟨ĺ _ 'a',MQ entry_list_iadd' ?_⟩));change wpAny _ _ (Builtin.List.listExtendWith (.ref s.heap.objs.size) (.ref l) (.ref s.heap.objs.size)) _ _ { s with heap:=s.heap.push (È "list" #[] 0) };unfold Builtin.List.listExtendWith;have c:(s.heap.push (È "list" #[] 0)).get? l=Z o:=LK _ g;refine LD (Ox (T:="tuple") ⟨o,c,f⟩ ?_)
 have j:(Value.type "tuple"==Value.type "tuple")=ž:=by rfl
 rw[LI (by rw[j];simp)];refine LD (Ŏ c hd ?_);refine LD (Ŏ (xs:=#[]) (n:=0) (LS _ O) O ?_);rw[LG (by simp)];refine LD (Ĭ (xs:=#[]) (n:=0) (LS _ O) O ?_ (ME _) (by change (#[]++a.toArray).size<=sizeLine+1;simp only[ľ,LR,MP];omega));refine LP ?_
 change wpAny (Ä prog w) A (do
   let o ←load s.heap.objs.size
   match o.data with
   |.seq xs _=>pure xs.toList
   |_=>ő "internal:collect") Q E { s with heap:=(s.heap.push (È "list" #[] 0)).update s.heap.objs.size (Obj.mapSeq (·++a.toArray)) }
 refine LD (wpAny_load (OJ (LS _ O) _) ?_);change wpAny _ _ (pure ((#[]:Array Value)++a.toArray).toList) Q E _;rw[show ((#[]:Array Value)++a.toArray).toList=a by simp];show LP h
def DG{l:Addr}{Q:Value->À->Prop}(F:Fr h₀ L s.heap m)(N:Ĥ h₀ L s.heap e)(hl:ä s.heap l a.toArray)(H:a.length<64)
  (I:a.length<2->∀D h' c,Fr h₀ L h' m->Ĥ h₀ L h' ((D,È "list" a.toArray c)::e)->s.heap.objs.size<=D->Q (.ref D) { s with heap:=h' })
  (h:2<=a.length->∀D f h',Fr h₀ L h' m->Ĥ h₀ L h' ((D,È "list" #[] f)::e)->(∀q∈e,q.1<D)->
   wpAny (Ä prog w) A.in1.in1 (keyKind' a.toArray) (λC z=>(kas_sort a.length).kasWp (kas_ask prog w A.in1.in1 C a) (λp u=>KasFin h₀ L m D f (p.toList.map λi=>a.getD i Value.none) (λB=>Q (.ref D) B) u) z) (λ_ _=>False) { s with heap:=h' }) :
  wpAny (Ä prog w) A (call (.builtin "sorted") [.ref l]) Q E s:=by
 refine ć kind_sorted plain_sorted entry_sorted (args_sorted1 _) ?_;unfold Builtin.«sorted»;refine LD (m:=checkCount "sorted" 1 1 _) (LP ?_);refine LD (AE hl ?_ (by rw[ND];omega));refine LD (Pa ?_ (by rw[ND];omega))
 have hsz:((s.heap.push (È "list" #[] 0)).update s.heap.objs.size (Obj.mapSeq (·++a.toArray))).objs.size=s.heap.objs.size+1:=by rw[Heap.size_update,size_push']
 have r:(((s.heap.push (È "list" #[] 0)).update s.heap.objs.size (Obj.mapSeq (·++a.toArray))).push (È "list" a.toArray 0)).get? (s.heap.objs.size+1)=Z (È "list" a.toArray 0):=by rw[←hsz];show LS _ O
 have keep:∀b o,s.heap.get? b=Z o->(((s.heap.push (È "list" #[] 0)).update s.heap.objs.size (Obj.mapSeq (·++a.toArray))).push (È "list" a.toArray 0)).get? b=Z o:=λb o q=>by have j:b<s.heap.objs.size:=LU q;rwa[O3 _ _ _ (by rw[hsz];show LZ (Mr j)),Heap.get?_update_ne _ _ _ _ (LZ j),O3 _ _ _ (LZ j)]
 have g:L<s.heap.objs.size:=F.ns.lt;change wpAny _ _ _ _ _ { s with heap:=((s.heap.push (È "list" #[] 0)).update s.heap.objs.size (Obj.mapSeq (·++a.toArray))).push (È "list" a.toArray 0) };rw[hsz];refine LD (Mv (NH slot_list_sort ⟨_,r,O⟩ Ż ?body (args_list_sort _)))
 case body=>
  by_cases v:a.length<2
  ·refine xa (s:={ s with heap:=((s.heap.push (È "list" #[] 0)).update s.heap.objs.size (Obj.mapSeq (·++a.toArray))).push (È "list" a.toArray 0) })
    (F.kept keep) (N.grown keep) r (NC (Mr g)) (Nd (L6 F.above (Qj (MC g))))
    (λp hp=>LZ (Mr (LU (N p hp).1))) v λh' c F' N'=>?_
   show⟨_,O,LP ⟨_,O,I v _ h' c F' N' (O5 _)⟩⟩
  ·refine kat_list_sort (s:={ s with heap:=((s.heap.push (È "list" #[] 0)).update s.heap.objs.size (Obj.mapSeq (·++a.toArray))).push (È "list" a.toArray 0) })
    (F.kept keep) (N.grown keep) r (NC (Mr g)) (Nd (L6 F.above (Qj (MC g))))
    (λp hp=>LZ (Mr (LU (N p hp).1))) () H λf h' F' N'=>?_
   refine MZ (h () _ f h' F' N' λq hq=>Mr (LU (N q hq).1)) (λC z y=>?_) λ_ _ x=>x;rw[kat_ask_eq O]at y ⊢;show kas_wp_mono y λp u G=>G.mono λB hq=>⟨_,O,LP ⟨_,O,hq⟩⟩
end
def ir(ps:Y Int):Y Int:=if ps.length<2 then ps else (oi (fk λi=>ps.getD i 0) (kas_sort ps.length)).toList.map λi=>ps.getD i 0
def Ie:bJ:=λds R=>match ds with
 | [.tup a]=>∃ps:Y Int,a=ps.map D.int/\ps.length<64/\((ir ps).Perm ps->R (.lst ((ir ps).map D.int)))
 |_=>False
section
variable{K:Â}{X:Cx}
def Jh:CallD K X (.builtin "sorted") Ie:=⟨λhK A s σ H xs us Q I a_ Rb=>by
 let⟨Φ,ds,R,sm,hl,h,k⟩:=Rb;subst hK
 match ds,h with
 | [.tup es],⟨ps,Ti,Ym,hR⟩=>
  subst Ti;let⟨v,rfl,r⟩:=eX hl;let⟨a,y,rfl,q1,_,M⟩:=r.tup sm
  cases a_ with
  |cons r0 a_=>
  cases a_;cases r0;let⟨its,E,Vu,hz⟩:=I.tuple q1
  have lv:y.length=ps.length:=by rw[M.1,LC]
  have P:∀(i:Nat)(p:Int),ps[i]?=Z p->∃t:þ,its[i]?=Z (.int p t):=λi p hp=>by
   let⟨v,x,rv⟩:=M.at (i:=i) (d:=.int p) (by rw[LN,hp];rfl);obtain rfl:=rv.i;let⟨u,hu,ru⟩:=E.get x;let⟨t,rfl⟩:=ru;show⟨t,hu⟩
  let⟨m,hm,U3⟩:=id I.loc;have F:=Att.fr_all hm;have N:Ĥ (Att.noObjs s.heap) X.env.locals s.heap (i7 (Att.noObjs s.heap) s.heap X.env.locals):=zb;have B:∀{h':Heap}{l:Y (Addr×Obj)},Ĥ (Att.noObjs s.heap) X.env.locals h' l->(∀q∈i7 (Att.noObjs s.heap) s.heap X.env.locals,q∈l)->∀b o,b≠X.env.locals->s.heap.get? b=Z o->h'.get? b=Z o:=λN' J b o hL e=>(N' (b,o) (J _ (oK hL (Att.noObjs_get _ _) e))).1
  have fin:∀(l:Y Nat)(w:Addr)(h':Heap)(c:Nat),l.Perm (List.range ps.length)->ir ps=(l.map λi=>ps.getD i 0)->s.heap.get? w=ż->h'.Ns X.env.locals m->(∀b o,b≠X.env.locals->s.heap.get? b=Z o->h'.get? b=Z o)->
    h'.get? w=Z (È "list" (l.map λi=>its.getD i .none).toArray c)->EP X A σ Q (.ref w) { s with heap:=h' }:=λl w h' c hp J G Ux keep V5=>by
   have rp:=rR E l
   have ll:l.length=ps.length:=by rw[hp.length_eq,L4]
   let⟨hn,I2⟩:=I.listNew hm Ux keep G V5 rp (by rwa[LC,ll,←lv]);have sn:=cz (sm.free hn) (.lst (l.map λi=>y.getD i .non))
   have rl:RpL X.K Φ ((l.map λi=>ps.getD i 0).map D.int) (l.map λi=>y.getD i .non):=by
    refine⟨by simp,λi v d x hd=>?_⟩;rw[LN]at x hd;rw[LN]at hd
    cases e:l[i]? with
    |none=>rw[e]at x;cases x
    |some j=>
     rw[e]at x hd;cases x;cases hd;have am:j<ps.length:=Mi.mp (hp.mem_iff.mp (Mb e));refine M.2 j _ _ ?_ ?_
     ·change y[j]?=Z (y.getD j .non);rw[LJ,aS (show j<y.length by omega)];rfl
     ·change (ps.map D.int)[j]?=Z (D.int (ps.getD j 0));rw[LN,LJ,aS am];rfl
   have pq:(l.map λi=>ps.getD i 0).Perm ps:=by have:=hp.map λi=>ps.getD i 0;rw[jI]at this;show this
   rw[←J]at rl pq;show⟨.ref w,_,I2,O,k _ _ _ _ (hR pq) (.new sm hn _) ((rl.same sn).lst aW)⟩
  have e1:y.length=its.length:=E.length
  have L:its.length=ps.length:=by omega
  refine DG F N Vu () (λc2 w h' c F' N' Tn=>?_) λc2 w d1 h' F' N' U=>?_
  ·refine fin (List.range ps.length) w h' c (.refl _) ?_ (Nd Tn) F'.ns (B N' λq hq=>LO _ hq) ?_
   ·rw[jI];unfold ir;rw[LI ()]
   ·have:(List.range ps.length).map (λi=>its.getD i Value.none)=its:=by rw[←L];show jI _ its
    rw[this];show (N' _ LQ).1
  ·have keep:=B N' λq hq=>LO _ hq
   have G:s.heap.get? w=ż:=by
    cases e:s.heap.get? w with
    |none=>rfl
    |some o=>
     have nL:=(N' _ LQ).2.1;show absurd (U _ (oK nL (Att.noObjs_get _ _) e)) (MY _)
   refine kas_kind (s:={ s with heap:=h' }) (T:=.type "int") () (λv x=>by
    let⟨i,z⟩:=MK x
    have Yp:i<ps.length:=by have:=aO z;omega
    let⟨t,be⟩:=P i _ (aS Yp);rw[z]at be;cases be
    show Looks.of_pure O) 'b' 'b' ?_
   change KasT.kasWp (kas_ask _ _ _ oneType' its) (kas_sort its.length) _ _;refine Go.wp (f:=fk λi=>ps.getD i 0) (N:=its.length) (λi j C z am hC=>?_) (λp hp=>?_) (Gk ())
   ·have g:∀i,i<ps.length->ps[i]?=Z (ps.getD i 0):=λi z=>by rw[LJ,aS z];rfl
    let⟨t1,x1⟩:=P i _ (g i ());let⟨u1,y1⟩:=P j _ (g j ())
    have ex:its.getD i Value.none=.int (ps.getD i 0) t1:=by rw[LJ,x1];rfl
    have ey:its.getD j Value.none=.int (ps.getD j 0) u1:=by rw[LJ,y1];rfl
    unfold kas_ask;rw[ex,ey];change wpAny _ _ (oneLt' ž _ _) _ _ _;show kat_lt_int hC
   ·let⟨hr,U4⟩:=hp;refine Ř F' N' (.head λq hq=>LZ (U q hq)) λh2 c F2 S=>?_
    have hp:p.toList.Perm (List.range ps.length):=by have:=U4.pm.toList;rw[←L];simpa using this
    refine fin p.toList w h2 c hp ?_ G F2.ns (B S λq hq=>LO _ hq) (S _ LQ).1;unfold ir
    rw[LG (),←L,←hr]⟩
end
end L2
namespace L2
open PySem PySem.Spec PySem.W PyProof.Rows PySem.Calls
def EH:Ĝ (.type "list") "keys"=pure ż:=Ź 'a'
def FV:Ĝ (.type "tuple") "keys"=pure ż:=Ź 'a'
section
variable{prog:Æ}{w:Ç}{A:É}{E:Value->À->Prop}{s:À}
def Ea{a:Addr}{o:Obj}{xs:Array Value}{k:Nat}{Q:Ž Value->À->Prop}(r:s.heap.get? a=Z o)(p:o.cls=.type "list")(l:o.data=.seq xs k)(hd:o.dict=ż)(x:A.handled=ż)
  (h:∀h' u,(∀b o,s.heap.get? b=Z o->h'.get? b=Z o)->Q ż { s with heap:=h',toks:=u }):wpAny (Ä prog w) A (Ğ (.ref a) "keys") Q E s:=by
 let⟨c,dct,v,sl⟩:=o;simp only at p l hd;subst p l hd;let⟨hp,g,d,u,os⟩:=s;have m:∀f,(⟨hp,g,d,f,os⟩:À).TypeIs (.ref a) "list":=λ_=>⟨_,r,O⟩;have y:=ŝ;have z:=OR.lookup;have B:=OR.bind (.ref a);have C:=am_list_getattr_none;unfold Ğ getAttrBy? getAttrBy
 repeat (any_goals (first|assumption|show m _|((with_reducible show wpAny _ _ (call (Value.builtin "list.__getattribute__") _ _) _ _ _);refine NO OR (m _) am_entry_list_getattribute (F.args_list_getattribute_2 _ _) (meets_getattribute_miss_list a xs k sl "keys" _ EH 'a' (by size_fits)) ⟨r,x,λh' f e j=>?_⟩)|wp_step))
 let⟨t',H,G⟩:=j.there;change wpAny _ _ (ê _ _ _ _ _ _ _) _ _ _;unfold ê
 repeat (any_goals (first|assumption|wp_step))
 show h _ _ j.keeps
def Hm{a:Addr}{o:Obj}{xs:Array Value}{k:Nat}{Q:Ž Value->À->Prop}(r:s.heap.get? a=Z o)(p:o.cls=.type "tuple")(l:o.data=.seq xs k)(hd:o.dict=ż)(x:A.handled=ż)
  (h:∀h' u,(∀b o,s.heap.get? b=Z o->h'.get? b=Z o)->Q ż { s with heap:=h',toks:=u }):wpAny (Ä prog w) A (Ğ (.ref a) "keys") Q E s:=by
 let⟨c,dct,v,sl⟩:=o;simp only at p l hd;subst p l hd;let⟨hp,g,d,u,os⟩:=s;have m:∀f,(⟨hp,g,d,f,os⟩:À).TypeIs (.ref a) "tuple":=λ_=>⟨_,r,O⟩;have y:=ŝ;have z:=OL.lookup;have B:=OL.bind (.ref a);have C:=am_tuple_getattr_none;unfold Ğ getAttrBy? getAttrBy
 repeat (any_goals (first|assumption|show m _|((with_reducible show wpAny _ _ (call (Value.builtin "tuple.__getattribute__") _ _) _ _ _);refine NO OL (m _) am_entry_tuple_getattribute (F.args_tuple_getattribute_2 _ _) (meets_getattribute_miss_tuple a xs k sl "keys" _ FV 'a' (by size_fits)) ⟨r,x,λh' f e j=>?_⟩)|wp_step))
 let⟨t',H,G⟩:=j.there;change wpAny _ _ (ê _ _ _ _ _ _ _) _ _ _;unfold ê
 repeat (any_goals (first|assumption|wp_step))
 show h _ _ j.keeps
end
end L2
namespace L2
open PySem PySem.Spec PySem.W PyProof.Rows PySem.Calls
def yw:entryFor table "dict.update.loop"=Z Builtin.«dict.update.loop»:=entryFor_of_tree (by kernel_rfl)
def nG:plainId "dict.update.loop"=ž:=by lia
section
variable{prog:Æ}{w:Ç}{A:É}{E:Value->À->Prop}{s:À}
def ItB(b:Bool)(h:Heap)(a l:Addr)(xs:Array Value)(i:Nat):Prop:=match b with
 |true=>h.IsListIter a l i/\h.IsList l xs
 |false=>h.IsTupleIter a l i/\h.IsTuple l xs
def ItB.keep{b:Bool}{h h':Heap}{f l:Addr}{xs:Array Value}{i:Nat}(x:ItB b h f l xs i)(k:∀c o,c=f\/c=l->h.get? c=Z o->h'.get? c=Z o):ItB b h' f l xs i:=by
 cases b with
 |true=>let⟨⟨o,e,r⟩,⟨g,a,j⟩⟩:=x;show⟨⟨o,k _ _ (.inl O) e,r⟩,⟨g,k _ _ (.inr O) a,j⟩⟩
 |false=>let⟨⟨o,e,r⟩,⟨g,a,j⟩⟩:=x;show⟨⟨o,k _ _ (.inl O) e,r⟩,⟨g,k _ _ (.inr O) a,j⟩⟩
def ItB.item{b:Bool}{a l:Addr}{xs:Array Value}{i:Nat}{v:Value}{Q:Ž Value->À->Prop}(x:ItB b s.heap a l xs i)(g:a≠l)(j:xs[i]?=Z v)
  (h:∀h',ItB b h' a l xs (i+1)->Heap.SameBut a s.heap h'->Q (Z v) { s with heap:=h' }):wpAny (Ä prog w) A (à (.ref a)) Q E s:=by
 cases b with
 |true=>
  refine Oq x.1 x.2 j λh' y sb=>h h' ⟨y,?_⟩ sb;let⟨e,c,f⟩:=x.2;show⟨e,(sb.2 _ (Mo g)).trans c,f⟩
 |false=>
  refine OY x.1 x.2 j λh' y sb=>h h' ⟨y,?_⟩ sb;let⟨e,c,f⟩:=x.2;show⟨e,(sb.2 _ (Mo g)).trans c,f⟩
def ItB.fin{b:Bool}{a l:Addr}{xs:Array Value}{i:Nat}{Q:Ž Value->À->Prop}(hh:A.handled=ż)(x:ItB b s.heap a l xs i)(e:xs[i]?=ż)
  (c:∀h',Heap.ExtBut a s.heap h'->Q ż { s with heap:=h' }):wpAny (Ä prog w) A (à (.ref a)) Q E s:=by
 cases b with
 |true=>show Ou hh x.1 x.2 e c
 |false=>show O4 hh x.1 x.2 e c
end
section
variable{prog:Æ}{w:Ç}{K:Type}[DecidableEq K]{knd:KeyKind prog w K}{A:É}
def PrsAt(knd:KeyKind prog w K)(h:Heap)(d e:Addr)(xs:Y Value)(pr:Y (K×Value)):Prop:=
 xs.length=pr.length/\∀(j:Nat)(x:Value)(p:K×Value),xs[j]?=Z x->pr[j]?=Z p->∃a c,x=.ref a/\a≠d/\a≠e/\ä h a #[c,p.2]/\knd.is p.1 c=ž
def PrsAt.keep{h h':Heap}{d e:Addr}{xs:Y Value}{pr:Y (K×Value)}(x:PrsAt knd h d e xs pr)(k:∀c o,c≠d->c≠e->h.get? c=Z o->h'.get? c=Z o):PrsAt knd h' d e xs pr:=
 ⟨x.1,λj v p y z=>by
  let⟨a,B,l,f,g,⟨o,m,r⟩,u⟩:=x.2 j v p y z
  show⟨a,B,l,f,g,⟨o,k _ _ f g m,r⟩,u⟩⟩
def jL(c:Y (K×Value))(pr:Y (K×Value)):Y (K×Value):=pr.foldl (λa p=>Ş a p.1 p.2) c
theorem vI{b:Bool}{d g l:Addr}{xs:Y Value}{pr:Y (K×Value)}{res:Value}(hh:A.handled=ż)(y:d≠g)(v:d≠l)(nil:g≠l):∀(n i:Nat)(z:Int)(t:þ)(s:À)(f:Y (K×Value))(R:ģ->À->Prop),i+n=xs.length->
  ItB b s.heap g l xs.toArray i->s.heap.DictOf knd d f->PrsAt knd s.heap d g xs pr->f.length+n<=sizeLine->
  (∀h' G,(∀c o,c≠d->c≠g->s.heap.get? c=Z o->h'.get? c=Z o)->h'.DictOf knd d (jL f (pr.drop i))->R (.ok (.ret res)) { s with heap:=h',toks:=G })->
  Þ (Ä prog w) A (.builtin "dict.update.loop" ⟨[.ref d,.ref g,.int z t,res],[]⟩) R s
 |0,i,z,t,s,f,R,be,C,B,p,hz,k=>by
  refine MQ yw ?_;rw[MO nG _];unfold Builtin.«dict.update.loop»;change wpAny _ _ (à (.ref g) >>= _) _ _ _;refine LD (C.fin hh (by simp;omega) λh' eb=>?_);dsimp only;change wpAny _ _ (Builtin.Dict.addKeywords d [] >>= _) _ _ _;refine LD (LP (LP ?_));have e:pr.drop i=[]:=List.drop_eq_nil_of_le (by have:=p.1;omega);have:=k h' s.toks (λc o h j e=>eb c o j e);rw[e]at this;show this (B.extBut eb y)
 |n+1,i,z,t,s,f,R,be,C,B,p,hz,k=>by
  refine MQ yw ?_;rw[MO nG _];unfold Builtin.«dict.update.loop»;change wpAny _ _ (à (.ref g) >>= _) _ _ _
  have I:i<xs.length:=by omega
  have J:i<pr.length:=by have:=p.1;omega
  let⟨a,M,S,n1,n2,T,am⟩:=p.2 i xs[i] pr[i] (MT I) (MT J);refine LD (C.item nil (by simp[I];show S) λh Q F=>?_);have E:∀c o,c≠g->s.heap.get? c=Z o->h.get? c=Z o:=λc o u e=>(F.2 c u).trans e;let⟨o,ho,u,m,hd⟩:=id T;have H:=E _ _ n2 ho;dsimp only;refine LD (Mv ?_);refine LD (NW ?_);unfold Builtin.Dict.pairItems;refine LD (Ox (T:="tuple") ⟨o,H,u⟩ ?_);rw[LI (by rfl)];refine LD (M7 H hd (LP ?_));change wpAny _ _ (holding [M,pr[i].2] (dictSet d M pr[i].2)) _ _ _
  have a_:h.DictOf knd d f:=by let⟨o,X,U,e,r⟩:=B;show⟨o,X,U,E _ _ y e,r⟩
  refine Mv (wpAny_dictSet_pairs (s:={ s with heap:=h }) am a_ (λj P x=>?_) ());refine LP ⟨NU nG _,?_⟩;have L:∀c o,c≠d->c≠g->s.heap.get? c=Z o->j.get? c=Z o:=λc o h j e=>(x.2 c h).trans (E c o j e);refine vI hh y v nil n (i+1) _ _ { s with heap:=j,toks:=s.toks+1 } _ R () (Q.keep λc o u e=>(x.2 c (by rcases u with rfl|rfl;show Mo y;show Mo v)).trans e) P (p.keep L) ?_ λh' G kk N=>?_
  ·have:=Ű f pr[i].1 pr[i].2;omega
  ·refine k h' G (λc o h j e=>kk c o h j (L c o h j e)) ?_;rw[OG J];show N
end
end L2
namespace L2
open PySem PySem.Spec PyProof.Rows
inductive Fl where|v (d:D)|l (xs:List D)|al (p:Addr)
inductive Om where|lst (xs:List D)|map (Rc:List (ai×D))|mpT (Rc:List (List ai×D))|obj (nm:Str) (fs:List (Str×Fl))|ptr|tl (ps:List (Addr×Option (List D)))|pr (xs:List D) (d:D)
def Om.solid:Om->Bool
 |.ptr=>β
 |.tl _=>β
 |.pr _ _=>β
 |_=>ž
inductive Sm where|v (d:D)|ob (a:Option Addr) (o:Om)
abbrev Sm.own(xs:Y D):Sm:=.ob ż (.lst xs)
abbrev ar:=Y (Ž Sm)
def cU{c:Type}(K:Â)(e:Hp)(a:c×D)(b:c×V):Prop:=a.1=b.1/\Rp K e a.2 b.2
inductive FlsR(K:Â)(Φ H:Hp):List (Str×Fl)->List (Str×V)->List Addr->Prop where
 |nil:FlsR K Φ H [] [] []
 |v {f:Str} {d:D} {v:V} {fs:List (Str×Fl)} {vs:List (Str×V)} {qs:List Addr}:Rp K Φ d v->FlsR K Φ H fs vs qs->FlsR K Φ H ((f,.v d)::fs) ((f,v)::vs) qs
 |l {f:Str} {ds:List D} {ws:List V} {q:Addr} {fs:List (Str×Fl)} {vs:List (Str×V)} {qs:List Addr}:H q=Z (.lst ws)->RpL K Φ ds ws->FlsR K Φ H fs vs qs->FlsR K Φ H ((f,.l ds)::fs) ((f,.ref q)::vs) (q::qs)
 |al {f:Str} {p:Addr} {fs:List (Str×Fl)} {vs:List (Str×V)} {qs:List Addr}:FlsR K Φ H fs vs qs->FlsR K Φ H ((f,.al p)::fs) ((f,.ref p)::vs) qs
inductive TlS(K:Â)(Φ H:Hp):List (Addr×Option (List D))->List Addr->Prop where
 |nil:TlS K Φ H [] []
 |ptr {q:Addr} {ps:List (Addr×Option (List D))} {F:List Addr}:TlS K Φ H ps F->TlS K Φ H ((q,ż)::ps) F
 |own {q:Addr} {ds:List D} {ws:List V} {ps:List (Addr×Option (List D))} {F:List Addr}:H q=Z (.lst ws)->RpL K Φ ds ws->TlS K Φ H ps F->TlS K Φ H ((q,Z ds)::ps) (q::F)
inductive OmS(K:Â)(Φ H:Hp):Om->Addr->List Addr->Prop where
 |lst {ds:List D} {vs:List V} {p:Addr}:H p=Z (.lst vs)->RpL K Φ ds vs->OmS K Φ H (.lst ds) p [p]
 |map {Rc:List (ai×D)} {ws:List (ai×V)} {p:Addr}:H p=Z (.dK ws)->Paired (cU K Φ) Rc ws->OmS K Φ H (.map Rc) p [p]
 |mpT {Rc:List (List ai×D)} {ws:List (List ai×V)} {p:Addr}:H p=Z (.dT ws)->Paired (cU K Φ) Rc ws->OmS K Φ H (.mpT Rc) p [p]
 |obj {nm:Str} {fs:List (Str×Fl)} {C dx:Addr} {vs:List (Str×V)} {p:Addr} {qs:List Addr}:Ü K Ã nm=Z (Z (.ref C))->H p=Z (.ins C dx vs)->FlsR K Φ H fs vs qs->(p::qs).Nodup->OmS K Φ H (.obj nm fs) p (p::qs)
 |ptr {p:Addr}:OmS K Φ H .ptr p []
 |tl {ps:List (Addr×Option (List D))} {p:Addr} {F:List Addr}:Φ p=Z (.tup (ps.map λq=>V.ref q.1))->TlS K Φ H ps F->F.Nodup->OmS K Φ H (.tl ps) p F
 |pr {ds:List D} {d:D} {p q:Addr} {v:V} {ws:List V}:Φ p=Z (.tup [.ref q,v])->H q=Z (.lst ws)->RpL K Φ ds ws->Rp K Φ d v->OmS K Φ H (.pr ds d) p [q]
section
variable{K:Â}{H H' a c:Hp}{fs:Y (Str×Fl)}{f:Y (Str×V)}{qs F:Y Addr}{o:Om}{p:Addr}
theorem oX{e g:Type}{F G:e->g->Prop}(h:∀x y,F x y->G x y):∀{l:Y e}{m:Y g},Paired F l m->Paired G l m
 |_,_,.nil=>.nil
 |_,_,.cons r t=>.cons (h _ _ r) (oX h t)
def FlsR.keep(s:Same a c)(h:FlsR K a H fs f qs)(k:∀b∈qs,∀u,H b=Z u->H' b=Z u):FlsR K c H' fs f qs:=by
 induction h with
 |nil=>show .nil
 |v r _ e=>show .v (r.same s) (e k)
 |l g j _ e=>show .l (k _ LQ _ g) (j.same s) (e λb m=>k b (LO _ m))
 |al _ e=>show .al (e k)
def FlsR.at(h:FlsR K a H fs f qs):∀b∈qs,∃m,H b=Z (.lst m):=by
 induction h with
 |nil=>intro b e;cases e
 |v r _ g=>show g
 |l j u _ g=>
  intro b e;rcases L0.mp e with rfl|e
  ·show⟨_,j⟩
  ·show g b e
 |al _ g=>show g
def TlS.keep{ps:Y (Addr×Ž (Y D))}(s:Same a c)(h:TlS K a H ps F)(k:∀b∈F,∀u,H b=Z u->H' b=Z u):TlS K c H' ps F:=by
 induction h with
 |nil=>show .nil
 |ptr _ e=>show .ptr (e k)
 |own g j _ e=>show .own (k _ LQ _ g) (j.same s) (e λb l=>k b (LO _ l))
def TlS.at{ps:Y (Addr×Ž (Y D))}(h:TlS K a H ps F):∀b∈F,∃l,H b=Z (.lst l):=by
 induction h with
 |nil=>intro b e;cases e
 |ptr _ g=>show g
 |own j m _ g=>
  intro b e;rcases L0.mp e with rfl|e
  ·show⟨_,j⟩
  ·show g b e
theorem OmS.keep(s:Same a c)(h:OmS K a H o p F)(k:∀b∈F,∀u,H b=Z u->H' b=Z u):OmS K c H' o p F:=by
 cases h with
 |lst e g=>show .lst (k _ LQ _ e) (g.same s)
 |map e g=>show .map (k _ LQ _ e) (oX (λ_ _ r=>⟨r.1,r.2.same s⟩) g)
 |mpT e g=>show .mpT (k _ LQ _ e) (oX (λ_ _ r=>⟨r.1,r.2.same s⟩) g)
 |obj h0 e g j=>show .obj h0 (k _ LQ _ e) (g.keep s λb m=>k b (LO _ m)) j
 |ptr=>show .ptr
 |tl e g j=>show .tl (s _ _ e) (g.keep s k) j
 |pr e g j l=>show .pr (s _ _ e) (k _ LQ _ g) (j.same s) (l.same s)
def OmS.mem(h:OmS K a H o p F)(e:o.solid=ž:=by rfl):p∈F:=by cases h<;>first|show LQ|cases e
theorem OmS.at(h:OmS K a H o p F):∀b∈F,∃u,H b=Z u/\sV u:=by
 intro b g
 cases h with
 |lst e j=>rw[LV.mp g];show⟨_,e,trivial⟩
 |map e j=>rw[LV.mp g];show⟨_,e,trivial⟩
 |mpT e j=>rw[LV.mp g];show⟨_,e,trivial⟩
 |obj h0 e j m=>
  rcases L0.mp g with rfl|g
  ·show⟨_,e,trivial⟩
  ·let⟨r,l⟩:=j.at b g;show⟨_,l,trivial⟩
 |ptr=>cases g
 |tl e j m=>
  let⟨r,l⟩:=j.at b g;show⟨_,l,trivial⟩
 |pr e j m v=>rw[LV.mp g];show⟨_,j,trivial⟩
def OmS.lst_inv{ds:Y D}(h:OmS K a H (.lst ds) p F):F=[p]/\∃f,H p=Z (.lst f)/\RpL K a ds f:=by
 cases h with
 |lst e g=>show⟨O,_,e,g⟩
def OmS.map_inv{e:Y (ai×D)}(h:OmS K a H (.map e) p F):F=[p]/\∃g,H p=Z (.dK g)/\Paired (cU K a) e g:=by
 cases h with
 |map j l=>show⟨O,_,j,l⟩
def OmS.mpT_inv{e:Y (Y ai×D)}(h:OmS K a H (.mpT e) p F):F=[p]/\∃g,H p=Z (.dT g)/\Paired (cU K a) e g:=by
 cases h with
 |mpT j l=>show⟨O,_,j,l⟩
def OmS.gr(g:Gr a H c H')(h:OmS K a H o p F):OmS K c H' o p F:=h.keep g.f λb _ u e=>g.h b u e
end
structure EnvM'(K:Â)(H0 Φ H:Hp)(σ:St)(ρ:ar)(fp:Nat->List Addr):Prop where
 fz:Same Φ H
 len:σ.length=ρ.length
 sl:∀(i:Nat)(d:D),ρ[i]?=Z (Z (.v d))->∃v,σ[i]?=Z (Z v)/\Rp K Φ d v
 ow:∀(i:Nat)(a:Option Addr)(o:Om),ρ[i]?=Z (Z (.ob a o))->∃p,σ[i]?=Z (Z (.ref p))/\(∀q,a=Z q->q=p)/\OmS K Φ H o p (fp i)
 no:∀(i:Nat)(a:Option Addr)(o:Om),ρ[i]?=Z (Z (.ob a o))->∀b∈fp i,H0 b=ż/\Φ b=ż
 dj:∀(i j:Nat)(a a':Option Addr)(o o':Om),ρ[i]?=Z (Z (.ob a o))->ρ[j]?=Z (Z (.ob a' o'))->i≠j->∀b∈fp i,b∉fp j
 tb:TabF K Φ
def EnvM(K:Â)(a e H:Hp)(f:St)(ρ:ar):Prop:=∃c,EnvM' K a e H f ρ c
section
variable{K:Â}{w H H' f B G:Hp}{l I:St}{ρ C:ar}{A:Nat->Y Addr}{F F':Y Addr}{o o':Om}{p:Addr}{d:D}{v:V}{i:Nat}{a:Ž Addr}
def EnvM.fz(E:EnvM K w f H l ρ):Same f H:=let ⟨_,E⟩:=E;E.fz
def EnvM.tb(E:EnvM K w f H l ρ):TabF K f:=let ⟨_,E⟩:=E;E.tb
def EnvM.len(E:EnvM K w f H l ρ):l.length=ρ.length:=let ⟨_,E⟩:=E;E.len
def EnvM.sl(E:EnvM K w f H l ρ)(h:ρ[i]?=Z (Z (.v d))):∃v,l[i]?=Z (Z v)/\Rp K f d v:=let ⟨_,E⟩:=E;E.sl i d h
def EnvM'.gr(E:EnvM' K w f H l ρ A)(g:Gr f H B H'):EnvM' K w B H' l ρ A:=
 ⟨g.s,E.len,λi d h=>let ⟨v,e,r⟩:=E.sl i d h;⟨v,e,r.same g.f⟩,λi a o h=>let ⟨p,e,ha,r⟩:=E.ow i a o h;⟨p,e,ha,r.gr g⟩,
  λi a o h b c=>by
   let⟨p,_,_,r⟩:=E.ow i a o h;let⟨u,j,k⟩:=r.at b c
   show⟨(E.no i a o h b c).1,g.o b u j (E.no i a o h b c).2 k⟩,E.dj,E.tb.same g.f⟩
def EnvM.gr(E:EnvM K w f H l ρ)(g:Gr f H B H'):EnvM K w B H' l ρ:=let ⟨A,E⟩:=E;⟨A,E.gr g⟩
def EnvM.re(m:Nat->Nat)(E:EnvM K w f H l ρ)(hl:I.length=C.length)(h:∀(i:Nat)(x:Sm),C[i]?=Z (Z x)->ρ[m i]?=Z (Z x)/\I[i]?=l[m i]?)
  (inj:∀(i j:Nat)(a g:Ž Addr)(o o':Om),C[i]?=Z (Z (.ob a o))->C[j]?=Z (Z (.ob g o'))->m i=m j->i=j):EnvM K w f H I C:=by
 let⟨A,E⟩:=E;refine⟨λi=>A (m i),E.fz,hl,λi d hd=>?_,λi a o u=>?_,λi a o u=>E.no _ a o (h i _ u).1,λi j a g o o' y z c=>E.dj _ _ a g o o' (h i _ y).1 (h j _ z).1 λe=>c (inj i j a g o o' y z e),E.tb⟩
 ·let⟨v,e,r⟩:=E.sl _ d (h i _ hd).1;show⟨v,by rwa[(h i _ hd).2],r⟩
 ·let⟨p,e,r⟩:=E.ow _ a o (h i _ u).1;show⟨p,by rwa[(h i _ u).2],r⟩
def EnvM.take{m:St}{h:ar}(E:EnvM K w f H (l++m) (ρ++h))(hl:ρ.length=l.length):EnvM K w f H l ρ:=
 E.re id hl.symm (λi x g=>by
  have c:=aO g
  show⟨by rwa[id,LF c],by rw[id,LF ()]⟩) λi j _ _ _ _ _ _ e=>e
def EnvM'.take{m:St}{g:ar}(E:EnvM' K w f H (l++m) (ρ++g) A)(hl:ρ.length=l.length):EnvM' K w f H l ρ A:=by
 have up:∀{i:Nat}{x:Sm},ρ[i]?=Z (Z x)->(ρ++g)[i]?=Z (Z x):=λh=>by rwa[LF (aO h)]
 have c:∀{i:Nat}{x:Sm}{y:Ž V},ρ[i]?=Z (Z x)->(l++m)[i]?=Z y->l[i]?=Z y:=λh e=>by rwa [LF (by rw[←hl];show aO h)]at e
 show⟨E.fz,hl.symm,λi d h=>let ⟨v,e,r⟩:=E.sl i d (up h);⟨v,c h e,r⟩,λi a o h=>let ⟨p,e,r⟩:=E.ow i a o (up h);⟨p,c h e,r⟩,λi a o h=>E.no i a o (up h),λi j a u o o' z J=>E.dj i j a u o o' (up z) (up J),E.tb⟩
def EnvM.store{v:V}{x:Sm}(E:EnvM K w f H (l++[Z v]) (ρ++[Z x]))(i:Nat):EnvM K w f H (l.set i (Z v)) (ρ.set i (Z x)):=by
 have hl:l.length=ρ.length:=by have:=E.len;simpa using this
 refine E.re (λj=>if j=i then ρ.length else j) (by rw[Mc,Mc,hl]) (λj y g=>?_) λj k a z o o' g m e=>?_
 ·by_cases c:j=i
  ·subst c
   have h:j<ρ.length:=by have:=aO g;rwa [Mc]at this
   rw[Mt h]at g;cases g;rw[LI O,Mt (),LH (LM _),LH (),M8,hl,M8];show⟨O,O⟩
  ·rw[Mq (Mo c)]at g;have h:=aO g;rw[LG c,Mq (Mo c),LF h,LF ()];show⟨g,O⟩
 ·have u:j<ρ.length:=by have:=aO g;rwa [Mc]at this
  have r:k<ρ.length:=by have:=aO m;rwa [Mc]at this
  have e:(if j=i then ρ.length else j)=(if k=i then ρ.length else k):=e;split at e<;>split at e<;>omega
def EnvM.snocV(E:EnvM K w f H l ρ)(r:Rp K f d v):EnvM K w f H (l++[Z v]) (ρ++[Z (.v d)]):=by
 let⟨A,E⟩:=E
 have g:∀{i:Nat}{a:Ž Addr}{o:Om},(ρ++[Z (Sm.v d)])[i]?=Z (Z (.ob a o))->ρ[i]?=Z (Z (.ob a o)):=λ{i a o} h=>by
  rcases Mu i ρ.length with c|c
  ·rwa [LF c]at h
  ·rw[LH c]at h
   cases e:i-ρ.length with
   |zero=>rw[e]at h;cases h
   |succ n=>rw[e]at h;cases h
 refine⟨A,E.fz,by rw[LL,LL,E.len];rfl,λi d' h=>?_,λi a o h=>?_,λi a o h=>E.no i a o (g h),λi j a x o o' m y=>E.dj i j a x o o' (g m) (g y),E.tb⟩
 ·rcases Mu i ρ.length with c|c
  ·rw[LF c]at h;let⟨u,e,r⟩:=E.sl i d' h;show⟨u,by rwa[LF (by rw[E.len];show c)],r⟩
  ·rw[LH c]at h
   cases e:i-ρ.length with
   |zero=>
    rw[e]at h;cases h;show⟨v,by rw[LH (by rwa[E.len]),E.len,e];rfl,r⟩
   |succ n=>rw[e]at h;cases h
 ·let⟨p,e,r⟩:=E.ow i a o (g h);have m:=aO (g h);show⟨p,by rwa[LF (by rw[E.len];show m)],r⟩
def EnvM.snocO(E:EnvM K w f H l ρ)(be:Same w H)(g:Gr f H B H')(am:OmS K B H' o p F)(Q:∀b∈F,H b=ż/\B b=ż):EnvM K w B H' (l++[Z (.ref p)]) (ρ++[Z (.ob ż o)]):=by
 let⟨A,E⟩:=E
 have a_:∀b∈F,∀(i:Nat)(a:Ž Addr)(o:Om),ρ[i]?=Z (Z (.ob a o))->b∉A i:=λb m i a o h z=>by let⟨q,_,_,r⟩:=E.ow i a o h;let⟨u,T,_⟩:=r.at b z;rw[(Q b m).1]at T;cases T
 have M:=E.gr g
 have L:∀{i:Nat}{x:Sm},(ρ++[Z (Sm.ob ż o)])[i]?=Z (Z x)->(i<ρ.length/\ρ[i]?=Z (Z x))\/(i=ρ.length/\x=.ob ż o):=λ{i x} h=>by
  rcases Mu i ρ.length with c|c
  ·rw[LF c]at h;show .inl ⟨c,h⟩
  ·rw[LH c]at h
   cases e:i-ρ.length with
   |zero=>rw[e]at h;cases h;show .inr ⟨(),O⟩
   |succ n=>rw[e]at h;cases h
 refine⟨λi=>if i=ρ.length then F else A i,M.fz,by rw[LL,LL,E.len];rfl,λi d h=>?_,λi a o' h=>?_,λi a o' h b m=>?_,λi j a R U X N y c b m J=>?_,M.tb⟩
 ·rcases L h with⟨c,h⟩|⟨_,h⟩
  ·let⟨v,e,r⟩:=M.sl i d h;show⟨v,by rwa[LF (by rw[E.len];show c)],r⟩
  ·cases h
 ·rcases L h with⟨c,h⟩|⟨c,h⟩
  ·let⟨q,e,r⟩:=M.ow i a o' h;show⟨q,by rwa[LF (by rw[E.len];show c)],by rwa[LG ()]⟩
  ·cases h;subst c;refine⟨p,by rw[LH (by rw[E.len];show LM _),E.len,M8];rfl,(λq e=>by cases e),by rwa[LI O]⟩
 ·rcases L h with⟨c,h⟩|⟨c,h⟩
  ·rw[LG ()]at m;show M.no i a o' h b m
  ·rw[LI c]at m;show⟨be.free (Q b m).1,(Q b m).2⟩
 ·rcases L N with⟨S,N⟩|⟨S,N⟩
  ·rw[LG ()]at m;rcases L y with⟨P,y⟩|⟨P,y⟩
   ·rw[LG ()]at J;show E.dj i j a R U X N y c b m J
   ·rw[LI P]at J;show a_ b J i a U N m
  ·rw[LI S]at m;rcases L y with⟨P,y⟩|⟨P,y⟩
   ·rw[LG ()]at J;show a_ b m j R X y J
   ·omega
def EnvM'.put(E:EnvM' K w f H l ρ A)(P:ρ[i]?=Z (Z (.ob a o)))(am:l[i]?=Z (Z (.ref p)))(U:∀b u,H b=Z u->b∉A i->H' b=Z u)(hO:OmS K f H' o' p F')(T:∀b∈F',b∈A i\/(H b=ż/\w b=ż/\f b=ż)) :
  EnvM' K w f H' l (ρ.set i (Z (.ob a o'))) (λj=>if j=i then F' else A j):=by
 have Rl:=aO P
 have a_:∀{j:Nat}{x:Sm},(ρ.set i (Z (Sm.ob a o')))[j]?=Z (Z x)->(j=i/\x=.ob a o')\/(j≠i/\ρ[j]?=Z (Z x)):=λ{j x} h=>by
  rcases ei h with⟨e,_,e1⟩|⟨e,h⟩
  ·cases e1;show .inl ⟨e,O⟩
  ·show .inr ⟨e,h⟩
 have X:∀b∈F',∀(j:Nat)(y:Ž Addr)(m:Om),ρ[j]?=Z (Z (.ob y m))->j≠i->b∉A j:=λb g j y m J c z=>by
  rcases T b g with h|⟨h,_⟩
  ·show E.dj j i y a m o J P c b z h
  ·let⟨q,_,_,r⟩:=E.ow j y m J;let⟨u,R,_⟩:=r.at b z;rw[h]at R;cases R
 refine⟨λb u e=>U b u (E.fz b u e) λz=>?_,by rw[Mc,E.len],λj d h=>?_,λj y m h=>?_,λj y m h b g=>?_,λj k a1 a2 be m J L c b g N=>?_,E.tb⟩
 ·rw[(E.no i a o P b z).2]at e;cases e
 ·rcases a_ h with⟨_,h⟩|⟨_,h⟩
  ·cases h
  ·show E.sl j d h
 ·rcases a_ h with⟨c,h⟩|⟨c,h⟩
  ·cases h;subst c;let⟨q,e,S,_⟩:=E.ow j a o P;rw[am]at e;cases e;show⟨p,am,S,by rwa[LI O]⟩
  ·let⟨q,e,S,r⟩:=E.ow j y m h;refine⟨q,e,S,?_⟩;rw[LG c];show r.keep (Same.refl _) λb g u R=>U b u R λz=>E.dj j i y a m o h P c b g z
 ·rcases a_ h with⟨c,h⟩|⟨c,h⟩
  ·rw[LI c]at g;rcases T b g with z|⟨_,z⟩
   ·show E.no i a o P b z
   ·show z
  ·rw[LG c]at g;show E.no j y m h b g
 ·rcases a_ J with⟨Q,J⟩|⟨Q,J⟩
  ·rw[LI Q]at g;rcases a_ L with⟨M,L⟩|⟨M,L⟩
   ·omega
   ·rw[LG M]at N;show X b g k a2 m L M N
  ·rw[LG Q]at g;rcases a_ L with⟨M,L⟩|⟨M,L⟩
   ·rw[LI M]at N;show X b N j a1 be J Q g
   ·rw[LG M]at N;show E.dj j k a1 a2 be m J L c b g N
def EnvM'.grput(E:EnvM' K w f H l ρ A)(g:Gr G w f H)(h:ρ[i]?=Z (Z (.ob a o)))(c:∀b u,H b=Z u->b∉A i->H' b=Z u):Gr G w f H':=
 ⟨g.f,λb u e=>c b u (g.h b u e) (λz=>by rw[(E.no i a o h b z).1]at e;cases e),λb u e=>c b u (g.s b u e) (λz=>by rw[(E.no i a o h b z).2]at e;cases e),λp u j m k=>g.o p u j m k⟩
def EnvM.list{ds:Y D}(E:EnvM K w f H l ρ)(g:Gr G w f H)(h:ρ[i]?=Z (Z (.ob a (.lst ds)))):∃q j,l[i]?=Z (Z (.ref q))/\H q=Z (.lst j)/\w q=ż/\f q=ż/\RpL K f ds j /\
  ∀(m:Y D)(c:Y V),RpL K f m c->EnvM K w f (au H q (.lst c)) l (ρ.set i (Z (.ob a (.lst m))))/\Gr G w f (au H q (.lst c)):=by
 let⟨A,E⟩:=E;let⟨q,e,_,r⟩:=E.ow i a _ h;have hq:=r.mem;have h0:=E.no i a _ h q hq;let⟨_,j,J,L⟩:=r.lst_inv;refine⟨q,j,e,J,h0.1,h0.2,L,λm c y=>?_⟩
 have x:∀b u,H b=Z u->b∉A i->au H q (.lst c) b=Z u:=λb u e N=>by
  rwa[aE λz=>N (by rw[z];show hq)]
 show⟨⟨_,E.put h e x (F':=[q]) (.lst aW y) λb M=>.inl (by rwa[LV.mp M])⟩,E.grput g h x⟩
end
def wO:Ž Sm->Ž Sl
 |some (.v d)=>Z (.v d)
 |some (.ob _ (.lst xs))=>Z (.own xs)
 |some (.ob _ (.map a))=>Z (.dct (a.map (·.1)))
 |some (.ob _ (.mpT a))=>Z (.dcT (a.map (·.1)))
 |_=>ż
abbrev cC(ρ:ar):bh:=ρ.map wO
theorem rW{c:Type}{K:Â}{e:Hp}:∀{a:Y (c×D)}{b:Y (c×V)},Paired (cU K e) a b->b.map (·.1)=a.map (·.1)
 |_,_,.nil=>rfl
 |_,_,.cons r t=>by rw[L5,L5,rW t,r.1]
def EnvM.toD{K:Â}{G C H:Hp}{F:St}{ρ:ar}(E:EnvM K G C H F ρ):EnvD K G C H F (cC ρ):=by
 let⟨N,E⟩:=E
 have at_:∀{i:Nat}{x:Sl},(cC ρ)[i]?=Z (Z x)->∃y,ρ[i]?=Z (Z y)/\wO (Z y)=Z x:=λ{i x} h=>by
  rw[LN]at h
  cases e:ρ[i]? with
  |none=>rw[e]at h;cases h
  |some y=>
   rw[e]at h
   cases y with
   |none=>cases h
   |some y=>show⟨y,O,Mw h⟩
 have ow:∀{i:Nat}{o:Ow},(cC ρ)[i]?=Z (Z (.ob o))->∃a f p u,ρ[i]?=Z (Z (.ob a f))/\F[i]?=Z (Z (.ref p))/\p∈N i/\H p=Z u/\OwR K C o u:=λ{i o} h=>by
  let⟨y,m,e⟩:=at_ h
  cases y with
  |v d=>cases e
  |ob a f=>
   let⟨p,A,_,r⟩:=E.ow i a f m;refine⟨a,f,p,?_⟩
   cases f with
   |lst ds=>let⟨_,J,g,l⟩:=r.lst_inv;cases e;show⟨_,m,A,r.mem,g,l⟩
   |map L=>let⟨_,J,g,l⟩:=r.map_inv;cases e;show⟨_,m,A,r.mem,g,rW l⟩
   |mpT L=>let⟨_,J,g,l⟩:=r.mpT_inv;cases e;show⟨_,m,A,r.mem,g,rW l⟩
   |obj nm fs=>cases e
   |ptr=>cases e
   |tl ps=>cases e
   |pr ds d=>cases e
 refine⟨E.fz,by rw[LC,E.len],λi d h=>?_,λi o h=>?_,λi j o w p Q R U X=>?_,E.tb⟩
 ·let⟨y,m,e⟩:=at_ h
  cases y with
  |v d'=>cases e;show E.sl i d m
  |ob a f=>cases f<;>cases e
 ·let⟨a,f,p,u,g,l,z,a_,P⟩:=ow h;show⟨p,u,l,(E.no i a f g p z).1,(E.no i a f g p z).2,a_,P⟩
 ·let⟨a,f,be,u,g,l,z,_,_⟩:=ow Q;let⟨M,B,am,u',S,I,T,_,_⟩:=ow R;rw[U]at l;cases l;rw[X]at I;cases I;rcases OS (i=j)with c|c
  ·show c
  ·show absurd T (E.dj i j a M f B g S c p z)
def HU(h:Heap)(e:Addr)(c:Array Value)(T:Ž Addr)(f:Value):Prop:=match T with
 |none=>c[1]?=Z .none
 |some T=>c[1]?=Z (.ref T)/\T≠e/\∃a ts,h.get? T=Z a/\a.data=.fields ts/\ts[3]?=Z f
structure Fly(h:Heap)(e:Addr)(T:Option Addr)(fl cls:Value)(dx:Option Addr):Prop where
 ex:∃oe vs,h.get? e=Z oe/\oe.data=.fields vs/\oe.cls=cls/\oe.dict=dx/\HU h e vs T fl
structure XD where
 nm:Str
 at_:Option D
def Jd(K:Â)(H:Hp)(at_:Ž D)(dx:Ž Addr):Prop:=match at_ with
 |none=>dx=ż
 |some d=>∃p v,dx=Z p/\H p=Z (.xd [("at",v)])/\Rp K (λ_=>ż) d v
structure XSt(X:Cx)(pins:List (Addr×Obj))(σ:St)(H:Hp)(xd:XD)(e:Value)(s:À):Prop where
 inv:Inv X pins σ H s
 ex:∃(ea C:Addr)(T dx:Option Addr),e=.ref ea/\Fly s.heap ea T .none (.ref C) dx/\X.mg xd.nm=Z (.ref C)/\Jd X.K H xd.at_ dx/\(X.s₀.heap.get? ea=ż/\H ea=ż/\∀p∈X.pn++pins,p.1≠ea)/\∀T',T=Z T'->X.s₀.heap.get? T'=ż/\H T'=ż/\∀p∈X.pn++pins,p.1≠T'
def XeOk(K:Â)(X:Cx)(h j:Hp)(o:XD->ar->Prop):Prop:=∀m f c H' g e l a,o m f->Gr h j c H'->EnvM K j c H' g f->XSt X a g H' m e l->X.xe e l
structure StM(K:Â)(X:Cx)(Φ0 H0 Φ H:Hp)(σ τ:St)(ρ κ:ar)(Rx:XD->ar->Prop):Prop where
 g:Gr Φ0 H0 Φ H
 l:ρ.length=σ.length
 E:EnvM K H0 Φ H (σ++τ) (ρ++κ)
 x:XeOk K X Φ0 H0 Rx
inductive Ar where|t (s:Sm)|s (i:Nat)
abbrev TX:=ar->(Sm->ar->Prop)->(XD->ar->Prop)->Prop
abbrev fZ:=ar->(Bool->ar->Prop)->(XD->ar->Prop)->Prop
abbrev eQ:=ar->(Y Ar->ar->Prop)->(XD->ar->Prop)->Prop
def dr(as:Y Ar):ar:=as.filterMap λa=>match a with|.t s=>Z (Z s)|.s _=>ż
inductive ArV(σ:St):List Ar->List V->St->Prop where
 |nil:ArV σ [] [] []
 |t {s:Sm} {v:V} {as:List Ar} {vs:List V} {ts:St}:ArV σ as vs ts->ArV σ (.t s::as) (v::vs) (Z v::ts)
 |s {i:Nat} {v:V} {as:List Ar} {vs:List V} {ts:St}:σ[i]?=Z (Z v)->ArV σ as vs ts->ArV σ (.s i::as) (v::vs) ts
inductive lXm(K:Â)(X:Cx)(t:TX)(σ:St)(H:Hp)(Q:VK):Prop|mk (Φ0:Hp) (H0:Hp) (Φ:Hp) (τ:St) (ρ:ar) (κ:ar) (R:Sm->ar->Prop) (Rx:XD->ar->Prop) (_:StM K X Φ0 H0 Φ H σ τ ρ κ Rx) (_:t ρ R Rx) (_:∀sm ρ' Φ' H' v,R sm ρ'->StM K X Φ0 H0 Φ' H' σ (τ++[Z v]) ρ' (κ++[Z sm]) Rx->Same Φ Φ'->Q v H')
inductive lXb(K:Â)(X:Cx)(t:fZ)(σ:St)(H:Hp)(Q:Bool->Hp->Prop):Prop|mk (Φ0:Hp) (H0:Hp) (Φ:Hp) (τ:St) (ρ:ar) (κ:ar) (R:Bool->ar->Prop) (Rx:XD->ar->Prop) (_:StM K X Φ0 H0 Φ H σ τ ρ κ Rx) (_:t ρ R Rx) (_:∀b ρ' Φ' H',R b ρ'->StM K X Φ0 H0 Φ' H' σ τ ρ' κ Rx->Same Φ Φ'->Q b H')
inductive lXa(K:Â)(X:Cx)(n:Nat)(t:eQ)(σ:St)(H:Hp)(Q:List V->Hp->Prop):Prop|mk (Φ0:Hp) (H0:Hp) (Φ:Hp) (τ:St) (ρ:ar) (κ:ar) (R:List Ar->ar->Prop) (Rx:XD->ar->Prop) (_:StM K X Φ0 H0 Φ H σ τ ρ κ Rx) (_:t ρ R Rx) (_:∀as ρ' Φ' H' vs ts,R as ρ'->as.length=n->ArV σ as vs ts->StM K X Φ0 H0 Φ' H' σ (τ++ts) ρ' (κ++dr as) Rx->Same Φ Φ'->Q vs H')
structure PX(K:Â)(X:Cx)(e:Å)(t:TX):Prop where pe:X.K=K->PE X e (lXm K X t)
structure PXB(K:Â)(X:Cx)(e:Å)(t:fZ):Prop where pt:X.K=K->PT X e (lXb K X t)
structure PXA(K:Â)(X:Cx)(es:List Å)(t:eQ):Prop where pa:X.K=K->PA X es (lXa K X es.length t)
section
variable{K:Â}{X:Cx}{a m f x H H':Hp}{l j ts:St}{ρ c z:ar}{y:XD->ar->Prop}{d:D}{v:V}
def StM.gr(S:StM K X a m f H l j ρ c y)(g:Gr f H x H'):StM K X a m x H' l j ρ c y:=⟨S.g.trans g,S.l,S.E.gr g,S.x⟩
def StM.env(S:StM K X a m f H l j ρ c y):EnvM K m f H l ρ:=S.E.take S.l
def StM.lk(S:StM K X a m f H l j ρ c y):c.length=j.length:=by have:=S.E.len;rw[LL,LL]at this;have:=S.l;omega
def StM.pop(S:StM K X a m f H l (j++ts) ρ (c++z) y)(hl:c.length=j.length):StM K X a m f H l j ρ c y:=⟨S.g,S.l,by
 have E:=S.E;rw[←Ma,←Ma]at E
 show E.take (by rw[LL,LL,S.l,hl]),S.x⟩
def StM.pushV(S:StM K X a m f H l j ρ c y)(r:Rp K f d v):StM K X a m f H l (j++[Z v]) ρ (c++[Z (.v d)]) y:=⟨S.g,S.l,by
 rw[←Ma,←Ma]
 show S.E.snocV r,S.x⟩
def StM.pushO{o:Om}{p:Addr}{F:Y Addr}(S:StM K X a m f H l j ρ c y)(g:Gr f H x H')(h:OmS K x H' o p F)(e:∀b∈F,H b=ż/\x b=ż):StM K X a m x H' l (j++[Z (.ref p)]) ρ (c++[Z (.ob ż o)]) y:=⟨S.g.trans g,S.l,by
 rw[←Ma,←Ma]
 show S.E.snocO S.g.h g h e,S.x⟩
def StM.at(S:StM K X a m f H l j ρ c y){i:Nat}(h:c[i]?=Z (Z (.v d))):∃v,j[i]?=Z (Z v)/\Rp K f d v:=by have g:=aO h;let⟨v,e,r⟩:=S.E.sl (i:=ρ.length+i) (d:=d) (by rwa[LH (),Of]);rw[S.l,LH (),Of]at e;show⟨v,e,r⟩
def StM.last(S:StM K X a m f H l (j++[Z v]) ρ (c++[Z (.v d)]) y):Rp K f d v:=by
 have hl:=S.lk;rw[LL,LL]at hl
 have hl:c.length=j.length:=by simpa using hl
 let⟨u,e,r⟩:=S.at (i:=c.length) (d:=d) (by rw[LH (LM _),M8];rfl);rw[hl,LH (LM _),M8]at e;cases e;show r
def StM.last2{e:D}{w:V}(S:StM K X a m f H l ((j++[Z v])++[Z w]) ρ ((c++[Z (.v d)])++[Z (.v e)]) y):Rp K f d v/\Rp K f e w:=by
 refine⟨?_,S.last⟩;have hl:=S.lk;simp only[LL,LX,MP]at hl
 have hl:c.length=j.length:=by omega
 show (S.pop (by simp only[LL,LX,MP];omega)).last
end
section
variable{K:Â}{X:Cx}{e a b c:Å}{f:Y Å}{pos p:Pos}{t l tb:TX}{m:eQ}
def xD(t:TD):TX:=λρ R _=>t (cC ρ) λd=>R (.v d) ρ
def aA{t:TD}(h:PD K X e t):PX K X e (xD t):=⟨λw=>(h.pe w).imp λC H Q u=>by
 let⟨z,o,y,E,ρ,B,R,A,S,t,k⟩:=u
 show⟨o,y,cC ρ,_,S.env.toD,t,λd j H' v r g x=>k _ ρ j H' v r ((S.gr g).pushV x) g.f⟩⟩
def xF(t:aP):TX:=λρ R _=>t (cC ρ) λds=>R (.own ds) ρ
def hX{t:aP}(h:PF K X e t):PX K X e (xF t):=⟨λv=>(h.pe v).imp λF H Q u=>by
 let⟨A,o,z,G,ρ,E,R,B,S,t,k⟩:=u
 show⟨o,z,cC ρ,_,S.env.toD,t,λds j H' p C r g h0 x hp y=>k _ ρ j H' _ r (S.pushO g (.lst hp y) λb w=>by rw[LV.mp w];show⟨h0,x⟩) g.f⟩⟩
def xB(t:bT):fZ:=λρ R _=>t (cC ρ) λb=>R b ρ
def dD{t:bT}(h:PTD K X e t):PXB K X e (xB t):=⟨λv=>(h.pt v).imp λA H Q u=>by
 let⟨x,o,w,B,ρ,z,R,y,S,t,k⟩:=u
 show⟨o,w,cC ρ,_,S.env.toD,t,λb j H' r g=>k b ρ j H' r (S.gr g) g.f⟩⟩
def xV(k:D->ar->Prop):Sm->ar->Prop:=λs ρ=>match s with|.v d=>k d ρ|_=>False
def xV.get{k:D->ar->Prop}{s:Sm}{ρ:ar}(h:xV k s ρ):∃d,s=.v d/\k d ρ:=by
 cases s with
 |v d=>show⟨d,O,h⟩
 |ob _ _=>show h.elim
def nX(r:cJ)(l tb:TX):TX:=λρ R j=>l ρ (xV λx g=>tb g (xV λy h=>r x y λd=>R (.v d) h) j) j
def yR{r:cJ}{L:St}{H:Hp}{Q:VK}(h:lXm K X (nX r l tb) L H Q):iE (lR2 K r) (lXm K X l) (lXm K X tb) L H Q:=by let⟨j,I,am,τ,ρ,κ,R,J,S,t,k⟩:=h;refine⟨j,I,am,τ,ρ,κ,_,J,S,t,λs1 F C H1 v z M N=>?_⟩;let⟨x,rfl,z⟩:=z.get;refine⟨j,I,C,_,F,_,_,J,M,z,λs2 G E H2 w A o a_=>?_⟩;let⟨y,rfl,A⟩:=A.get;let⟨U,be⟩:=o.last2;refine⟨E,x,y,_,o.g.s,.inl U,.inl be,A,λd B H' u P g T=>?_⟩;rw[Ma,Ma]at o;show k _ G B H' u P (((o.pop S.lk).gr g).pushV T) ((N.trans a_).trans g.f)
def jK{h:ò}{r:cJ}(u:OpD K X (Î h) r)(j:PX K X a l)(o:PX K X b tb):PX K X (.BinOp a h b pos) (nX r l tb):=
 ⟨λg=>(yt (u.o g) (j.pe g) (o.pe g)).imp λ_ _ _=>yR⟩
def vR(t:TX):fZ:=λρ R h=>t ρ (xV λd g=>match d with|.bl b=>R b g|_=>False) h
def JQ{r:cJ}{y:St}{H:Hp}{Q:Bool->Hp->Prop}(h:lXb K X (vR (nX r l tb)) y H Q):sx (iE (lR2 K r) (lXm K X l) (lXm K X tb)) y H Q:=by
 let⟨j,z,F,I,ρ,G,R,B,S,t,k⟩:=h;refine yR ⟨j,z,F,I,ρ,G,_,B,S,t,λJ u o A v g w C=>?_⟩;let⟨x,rfl,g⟩:=g.get;have E:=w.last;let⟨b,rfl,g⟩:=kg g;obtain rfl:=E.b;show⟨b,O,k b u o A g (w.pop S.lk) C⟩
def BD{h:Ļ}{r:cJ}(v:OpD K X (Ì h) r)(j:PX K X a l)(o:PX K X b tb)(u:behindInMarks h b=β):PXB K X (.Compare a [h] [b] pos) (vR (nX r l tb)):=
 ⟨λg=>(wu (v.o g) (j.pe g) (o.pe g) u).imp λ_ _ _=>JQ⟩
def Ct:eQ:=λρ R _=>R [] ρ
def Iu(t:TX)(u:eQ):eQ:=λρ R j=>t ρ (λs g=>u g (λas h=>R (.t s::as) h) j) j
def Gj(i:Nat)(u:eQ):eQ:=λρ R h=>u ρ (λas g=>R (.s i::as) g) h
def cG:PXA K X [] Ct:=⟨λ_=>pa_nil.imp λv H Q g=>by
 let⟨j,o,h,w,ρ,u,R,r,S,t,k⟩:=g
 show k [] ρ h H [] [] t O .nil (by rwa[ML,show dr []=[]from rfl,ML]) (Same.refl _)⟩
def bS(F:PX K X e t)(G:PXA K X f m)(I:Á (e::f) X.env=(β,eval e X.env)::Á f X.env):PXA K X (e::f) (Iu t m):=
 ⟨λy=>(dR (F.pe y) (G.pa y) I).imp λam H Q A=>by
  let⟨g,u,a_,T,ρ,P,R,w,S,t,k⟩:=A;refine⟨g,u,a_,T,ρ,P,_,w,S,t,λbe o h U v L B C=>?_⟩;refine⟨g,u,h,_,o,_,_,w,B,L,λas r j z N ts M hl J x E=>?_⟩;refine k _ r j z (v::N) (Z v::ts) M (by rw[LX,LX,hl]) (.t J) ?_ (C.trans E);rw[Ma,Ma]at x
  show x⟩
def dk(i:Nat){x:Str}(I:PXA K X f m)(J:Á (.Name x pos::f) X.env=(β,eval (.Name x pos) X.env)::Á f X.env)(F:X.N[i]?=Z x:=by rfl)(h:du X.env.scope x:=by nofun)(hd:ab x:=by decide)
  (z:ad x:=by decide):PXA K X (.Name x pos::f) (λρ R g=>(∃a o,ρ[i]?=Z (Z (.ob a o)))/\Gj i m ρ R g):=
 ⟨λC=>(dR (pv i F h hd z) (I.pa C) J).imp λU H Q y=>by
  let⟨j,v,N,P,ρ,am,R,g,S,⟨⟨a,o,G⟩,t⟩,k⟩:=y;let⟨T,E⟩:=S.env;let⟨q,e,_⟩:=E.ow i a o G;refine⟨_,e,j,v,N,P,ρ,am,_,g,S,t,λas u r w M ts L hl h A B=>?_⟩
  show k _ u r w (.ref q::M) ts L (by rw[LX,LX,hl]) (.s e h) A B⟩
def gf:Y Ar->Ž (Y D)
 | []=>Z []
 |.t (.v d)::as=>(gf as).map (d::·)
 |_=>ż
def xaD(k:Y D->ar->Prop):Y Ar->ar->Prop:=λas ρ=>match gf as with|some ds=>k ds ρ|none=>False
def xaD.get{k:Y D->ar->Prop}{as:Y Ar}{ρ:ar}(h:xaD k as ρ):∃ds,gf as=Z ds/\k ds ρ:=by
 unfold xaD at h;split at h
 ·next ds e=>show⟨ds,e,h⟩
 ·show h.elim
theorem rg:∀{as:Y Ar}{ds:Y D},gf as=Z ds->dr as=ds.map (λd=>Z (.v d))/\as.length=ds.length
 | [],ds,h=>by cases h;show⟨O,O⟩
 |.t (.v d)::as,ds,h=>by
  have h':(gf as).map (d::·)=Z ds:=h
  cases e:gf as with
  |none=>rw[e]at h';cases h'
  |some f=>
   rw[e]at h';cases h';let⟨g,j⟩:=rg e;show⟨by change Z (Sm.v d)::dr as=_;rw[g];rfl,by rw[LX,LX,j]⟩
 |.t (.ob _ _)::_,_,h=>by cases h
 |.s _::_,_,h=>by cases h
def FD{w:St}:∀{as:Y Ar}{ds:Y D}{g:Y V}{ts:St},gf as=Z ds->ArV w as g ts->ts=g.map Z:=by
 intro as ds g ts h j
 induction j generalizing ds with
 |nil=>rfl
 | @t u v as g ts j r=>
  cases u with
  |v d=>
   have h':(gf as).map (d::·)=Z ds:=h
   cases e:gf as with
   |none=>rw[e]at h';cases h'
   |some f=>rw[r e];rfl
  |ob a o=>cases h
 |s=>cases h
def StM.vals{j C z H:Hp}{A B ts:St}{ρ o:ar}{E:XD->ar->Prop}{as:Y Ar}{ds:Y D}{h:Y V}(S:StM K X j C z H A (B++ts) ρ (o++dr as) E)(hl:o.length=B.length)(hd:gf as=Z ds)(I:ArV A as h ts):RpL K z ds h:=by
 have u:=FD hd I;let⟨x,J⟩:=rg hd
 have g:h.length=ds.length:=by have:=S.lk;rw[LL,LL,u,x,LC,LC]at this;omega
 refine⟨g,λi v d F G=>?_⟩;let⟨w,y,r⟩:=S.at (i:=o.length+i) (d:=d) (by rw[LH (),Of,x,LN,G];rfl);rw[hl,LH (),Of,u,LN,F]at y;cases y;show r
def Bj(t:eQ):TX:=λρ R h=>t ρ (xaD λds g=>R (.v (.tup ds)) g) h
def Gv{x1}(h:PXA K X f m)(y:Nat.ble f.length 1000=ž:=by rfl):PX K X (.Tuple f x1 pos) (Bj m):=
 ⟨λA=>(vL (h.pa A)).imp λL H Q w=>by
  let⟨r,v,E,I,ρ,G,R,x,S,t,k⟩:=w;refine⟨r,v,E,I,ρ,G,_,x,S,t,λas u F J C ts o hl B j z=>?_⟩;let⟨ds,hd,o⟩:=o.get;have rl:=j.vals S.lk hd B;refine⟨by rw[rl.1,←(rg hd).2,hl];show pW y,λp hp=>?_⟩;have g:=Gr.new j.g.s hp (.tup C)
  show k _ u _ _ _ o (((j.pop S.lk).gr g).pushV ((rl.same (cz (j.g.s.free hp) _)).tup aW)) (z.trans g.f)⟩
def IY(t:TX):TX:=λρ R h=>t ρ (λs g=>match s with|.ob ż (.lst ds)=>R (.v (.lst ds)) g|_=>False) h
def StM.fzl{C I F H:Hp}{a_ G:St}{ρ x:ar}{Q:XD->ar->Prop}{v:V}{ds:Y D}(S:StM K X C I F H a_ (G++[Z v]) ρ (x++[Z (.ob ż (.lst ds))]) Q):∃B,StM K X C I B H a_ (G++[Z v]) ρ (x++[Z (.v (.lst ds))]) Q/\Same F B:=by
 have U:x.length=G.length:=by have:=S.lk;rw[LL,LL]at this;simpa using this
 let⟨fp,E⟩:=S.E
 have L:(ρ++(x++[Z (Sm.ob ż (.lst ds))]))[ρ.length+x.length]?=Z (Z (.ob ż (.lst ds))):=by rw[←Ma,LH (by rw[LL];omega),LL,M8];rfl
 let⟨p,e,_,r⟩:=E.ow _ _ _ L;have hp:=r.mem;have no:=E.no _ _ _ L
 have ev:v=.ref p:=by
  rw[←Ma,LH (by rw[LL,S.l];omega),LL,S.l,U,M8]at e;cases e;rfl
 subst ev;let⟨_,N,R,h2⟩:=r.lst_inv
 next=>
  have be:=(no p hp).2;have h0:=(no p hp).1;have A:=cz be (.lst N);refine⟨au F p (.lst N),⟨S.g.freeze h0 be R,S.l,?_,S.x⟩,A⟩
  have E0:EnvM K I (au F p (.lst N)) H (a_++G) (ρ++x):=by
   refine⟨fp,λb u eb=>?_,by rw[LL,LL,S.l,U],λj d hd=>?_,λj a o M=>?_,λj a o M b T=>?_,λj k a a' o o' g am c=>?_,E.tb.same A⟩
   ·by_cases c:b=p
    ·subst c;rw[aW]at eb;cases eb;show R
    ·rw[aE c]at eb;show E.fz b u eb
   ·have g:=aO hd;let⟨w,y,J⟩:=E.sl j d (by rwa[←Ma,LF g]);rw[←Ma,LF (by rw[LL]at g ⊢;have:=S.l;omega)]at y;show⟨w,y,J.same A⟩
   ·have g:=aO M;let⟨w,y,ha,J⟩:=E.ow j a o (by rwa[←Ma,LF g]);rw[←Ma,LF (by rw[LL]at g ⊢;have:=S.l;omega)]at y;show⟨w,y,ha,J.keep A λ_ _ _ h=>h⟩
   ·have g:=aO M
    have P:(ρ++(x++[Z (Sm.ob ż (.lst ds))]))[j]?=Z (Z (.ob a o)):=by rwa[←Ma,LF g]
    have c:b≠p:=λz=>E.dj j _ a _ o _ P L (by rw[LL]at g;omega) b T (by rwa[z]);rw[aE c];show E.no j a o P b T
   ·have W9:=aO g;have W6:=aO am;show E.dj j k a a' o o' (by rwa[←Ma,LF W9]) (by rwa[←Ma,LF W6]) c
  rw[←Ma,←Ma];show E0.snocV ((h2.same A).lst aW)
def sL(h:PX K X e t):PX K X e (IY t):=⟨λE=>(h.pe E).imp λM H Q x=>by
 let⟨j,u,F,J,ρ,I,R,y,S,t,k⟩:=x;refine⟨j,u,F,J,ρ,I,_,y,S,t,λL r G w v g z B=>?_⟩;split at g
 ·next ds=>
  let⟨o,A,C⟩:=z.fzl;show k _ r o w v g A (B.trans C)
 ·show g.elim⟩
def JJ(r:bJ)(t:eQ):TX:=λρ R h=>t ρ (xaD λds g=>r ds λd=>R (.v d) g) h
def RpL.lq{j H:Hp}{ds:Y D}{g:Y V}(h:RpL K j ds g):kP K j H ds g:=⟨h.1,λi v d o hd=>.inl (h.2 i v d o hd)⟩
def AB{id:String}{r:bJ}{x:Str}(L:CallD K X (.builtin id) r)(N:Gl X x)(a_:X.mg x=ż)(j:Ù x=Z (.builtin id))(J:PXA K X (e::f) m)
  (M:Á (e::f) X.env=(β,eval e X.env)::Á f X.env) (F:(Ñ pos (Á f X.env)).any (·.1)=β) (P:x≠"__name__":=by decide) (G:ab x:=by decide):PX K X (.Call (.Name x p) (e::f) [] pos) (JJ r m):=
 ⟨λA=>(oM (L.c A) N a_ j (J.pa A) P G M F).imp λσ H Q C=>by
  let⟨w,B,be,τ,ρ,am,R,E,S,t,k⟩:=C;refine⟨w,B,be,τ,ρ,am,_,E,S,t,λas z y H1 vs ts o hl j h I=>?_⟩;let⟨ds,hd,o⟩:=o.get;have rl:=h.vals S.lk hd j
  show⟨y,ds,_,h.g.s,rl.lq,o,λd u H' v T g U=>k _ z u H' v T (((h.pop S.lk).gr g).pushV U) (I.trans g.f)⟩⟩
end
def cX(H:Hp)(B:Y Addr):Hp:=λb=>if b∈B then ż else H b
def Ho{H:Hp}{B:Y Addr}{b:Addr}(h:b∈B):cX H B b=ż:=LI h
def jm{H:Hp}{B:Y Addr}{b:Addr}(h:b∉B):cX H B b=H b:=LG h
def CJ{H:Hp}{B:Y Addr}{b:Addr}{u:HO}(h:cX H B b=Z u):b∉B/\H b=Z u:=by
 unfold cX at h;split at h
 ·cases h
 ·next c=>show⟨c,h⟩
def EC{H:Hp}{B:Y Addr}:Same (cX H B) H:=λb u e=>(CJ e).2
abbrev fT:=Y Sm->(Sm->Y Om->Prop)->(XD->Y Om->Prop)->Prop
inductive ArgM(K:Â)(Φ H:Hp):List Sm->List V->List (List Addr)->Prop where
 |nil:ArgM K Φ H [] [] []
 |v {d:D} {v:V} {as:List Sm} {vs:List V} {Fs:List (List Addr)}:Rp K Φ d v->ArgM K Φ H as vs Fs->ArgM K Φ H (.v d::as) (v::vs) ([]::Fs)
 |o {a:Option Addr} {o:Om} {p:Addr} {F:List Addr} {as:List Sm} {vs:List V} {Fs:List (List Addr)}:OmS K Φ H o p F->ArgM K Φ H as vs Fs->ArgM K Φ H (.ob a o::as) (.ref p::vs) (F::Fs)
inductive OutM(K:Â)(Φ H:Hp):List Sm->List V->List Om->List (List Addr)->Prop where
 |nil:OutM K Φ H [] [] [] []
 |v {d:D} {v:V} {as:List Sm} {vs:List V} {os:List Om} {Fs:List (List Addr)}:OutM K Φ H as vs os Fs->OutM K Φ H (.v d::as) (v::vs) os ([]::Fs)
 |o {a:Option Addr} {o o':Om} {p:Addr} {F:List Addr} {as:List Sm} {vs:List V} {os:List Om} {Fs:List (List Addr)}:OmS K Φ H o' p F->OutM K Φ H as vs os Fs->OutM K Φ H (.ob a o::as) (.ref p::vs) (o'::os) (F::Fs)
inductive ResM(K:Â)(Φ H:Hp):Sm->V->List Addr->Prop where
 |v {d:D} {v:V}:Rp K Φ d v->ResM K Φ H (.v d) v []
 |o {a:Option Addr} {o:Om} {p:Addr} {F:List Addr}:(∀q,a=Z q->q=p)->OmS K Φ H o p F->ResM K Φ H (.ob a o) (.ref p) F
inductive lSpM(K:Â)(sp:fT)(vs:List V)(H:Hp)(Q:VK)(E_:XK):Prop|mk (Φ:Hp) (as:List Sm) (Fs:List (List Addr)) (R:Sm->List Om->Prop) (Rx:XD->List Om->Prop) (_:Same Φ H) (_:TabF K Φ) (_:ArgM K Φ H as vs Fs) (_:Fs.flatten.Nodup) (_:(∀b∈Fs.flatten,Φ b=ż)) (_:sp as R Rx) (_:∀sm os Φ' H' v F RO,R sm os->Gr Φ (cX H Fs.flatten) Φ' H'->ResM K Φ' H' sm v F->OutM K Φ' H' as vs os RO->(F++RO.flatten).Nodup->(∀b∈F++RO.flatten,cX H Fs.flatten b=ż/\Φ' b=ż)->Q v H')
def OmS.nodup{K:Â}{a H:Hp}{o:Om}{p:Addr}{F:Y Addr}(h:OmS K a H o p F):F.Nodup:=by
 cases h with
 |lst _ _=>simp
 |map _ _=>simp
 |mpT _ _=>simp
 |obj _ _ _ h=>show h
 |ptr=>show .nil
 |tl _ _ h=>show h
 |pr _ _ _ _=>simp
def ArgM.len{K:Â}{f H:Hp}{as:Y Sm}{e:Y V}{c:Y (Y Addr)}(h:ArgM K f H as e c):e.length=as.length/\c.length=as.length:=by
 induction h with
 |nil=>show⟨O,O⟩
 |v _ _ a=>show⟨by simp[a.1],by simp[a.2]⟩
 |o _ _ a=>show⟨by simp[a.1],by simp[a.2]⟩
section
variable{K:Â}{m H H' y l C:Hp}{A:St}{ρ w:ar}{f:Nat->Y Addr}{F F' B:Y Addr}{o o':Om}{p:Addr}{d:D}{v:V}{i:Nat}{a:Ž Addr}
def iP(new:Nat->Ž (Om×Y Addr))(f:Nat->Y Addr):Nat->Y Addr:=λi=>match new i with|some q=>q.2|none=>f i
def EnvM'.lend{new:Nat->Ž (Om×Y Addr)}(E:EnvM' K m y H A ρ f)(s0:Same m H)(hB:∀b,b∈B->∃i a o q,new i=Z q/\ρ[i]?=Z (Z (.ob a o))/\b∈f i)(hB2:∀i q,new i=Z q->∀b∈f i,b∈B)(g:Gr y (cX H B) l H')
  (hl:w.length=ρ.length) (hv:∀(i:Nat)(d:D),w[i]?=Z (Z (.v d))->ρ[i]?=Z (Z (.v d)))
  (Q:∀(i:Nat)(a:Ž Addr)(o:Om),w[i]?=Z (Z (.ob a o))->(new i=ż/\ρ[i]?=Z (Z (.ob a o)))\/∃S F',new i=Z (o,F')/\ρ[i]?=Z (Z (.ob a S)))
  (hn:∀(i:Nat)(q:Om×Y Addr),new i=Z q->∃p,A[i]?=Z (Z (.ref p))/\OmS K l H' q.1 p q.2) (hF:∀(i:Nat)(q:Om×Y Addr),new i=Z q->∀b∈q.2,cX H B b=ż/\l b=ż)
  (hd:∀(i j:Nat)(q r:Om×Y Addr),new i=Z q->new j=Z r->i≠j->∀b∈q.2,b∉r.2):EnvM' K m l H' A w (iP new f):=by
 have B0:∀b∈B,m b=ż:=λb G=>let ⟨i,a,o,_,_,h,be⟩:=hB b G;(E.no i a o h b be).1
 have M:∀{i:Nat}{a:Ž Addr}{o:Om},new i=ż->ρ[i]?=Z (Z (.ob a o))->∀b∈f i,b∉B:=λ{i a o} T h b G z=>by
  let⟨j,P,o2,q,U,I,be⟩:=hB b z
  have c:i≠j:=λe=>by rw[e,U]at T;cases T
  show E.dj i j a P o o2 h I c b G be
 have N:∀{i:Nat},new i=ż->iP new f i=f i:=λh=>by unfold iP;rw[h]
 have a_:∀{i:Nat}{q:Om×Y Addr},new i=Z q->iP new f i=q.2:=λh=>by unfold iP;rw[h]
 refine⟨g.s,by rw[hl];show E.len,λi d h=>?_,λi a o h=>?_,λi a o h b G=>?_,λi j a P o o' T U c b G L=>?_,E.tb.same g.f⟩
 ·let⟨v,e,r⟩:=E.sl i d (hv i d h);show⟨v,e,r.same g.f⟩
 ·rcases Q i a o h with⟨x,I⟩|⟨S,F',x,I⟩
  ·let⟨p,e,X,r⟩:=E.ow i a o I;refine⟨p,e,X,?_⟩;rw[N x];show r.keep g.f λb G u am=>g.h b u (by rwa[jm (M x I b G)])
  ·let⟨p,e,X,_⟩:=E.ow i a S I;let⟨p',e',r⟩:=hn i _ x;rw[e]at e';cases e';show⟨p,e,X,by rwa[a_ x]⟩
 ·rcases Q i a o h with⟨x,I⟩|⟨S,F',x,I⟩
  ·rw[N x]at G;let⟨p,_,_,r⟩:=E.ow i a o I;let⟨u,am,k⟩:=r.at b G;show⟨(E.no i a o I b G).1,g.o b u (by rwa[jm (M x I b G)]) (E.no i a o I b G).2 k⟩
  ·rw[a_ x]at G;let⟨z1,z2⟩:=hF i _ x b G;refine⟨?_,z2⟩;rcases OS (b∈B)with c|c
   ·show B0 b c
   ·rw[jm c]at z1
    cases e:m b with
    |none=>rfl
    |some u=>rw[s0 b u e]at z1;cases z1
 ·have no:∀{i j:Nat}{q:Om×Y Addr}{a:Ž Addr}{o:Om},new i=Z q->new j=ż->ρ[j]?=Z (Z (.ob a o))->b∈q.2->b∈f j->False:=λ{i j q a o} x I h3 h4 h5=>by
   let⟨p,_,_,r⟩:=E.ow j a o h3;let⟨u,am,_⟩:=r.at b h5;have:=(hF i q x b h4).1;rw[jm (M I h3 b h5),am]at this;cases this
  rcases Q i a o T with⟨x,I⟩|⟨S,F',x,I⟩
  ·rw[N x]at G;rcases Q j P o' U with⟨J,R⟩|⟨o1,F1,J,R⟩
   ·rw[N J]at L;show E.dj i j a P o o' I R c b G L
   ·rw[a_ J]at L;show no J x I L G
  ·rw[a_ x]at G;rcases Q j P o' U with⟨J,R⟩|⟨o1,F1,J,R⟩
   ·rw[N J]at L;show no x J R G L
   ·rw[a_ J]at L;show hd i j _ _ x J c b G L
def Gr.lend(g0:Gr C m y H)(g:Gr y (cX H B) l H')(h:∀b∈B,m b=ż):Gr C m l H':=by
 have up:∀{b:Addr}{u:HO},m b=Z u->cX H B b=Z u:=λ{b u} e=>by
  rw[jm λz=>by rw[h b z]at e;cases e];show g0.h b u e
 show⟨g0.f.trans g.f,λb u e=>g.h b u (up e),g.s,λb u c j k=>g.o b u (up c) (g0.o b u c j k) k⟩
def EnvM'.snocG(E:EnvM' K m y H A ρ f){sm:Sm}(R:ResM K y H sm v F)(Q:∀b∈F,m b=ż/\y b=ż)(hd:∀b∈F,∀(i:Nat)(a:Ž Addr)(o:Om),ρ[i]?=Z (Z (.ob a o))->b∉f i):EnvM K m y H (A++[Z v]) (ρ++[Z sm]):=by
 cases R with
 |v r=>show EnvM.snocV ⟨f,E⟩ r
 | @o a0 o p F P S=>
  have G:∀{i:Nat}{x:Sm},(ρ++[Z (Sm.ob a0 o)])[i]?=Z (Z x)->(i<ρ.length/\ρ[i]?=Z (Z x))\/(i=ρ.length/\x=.ob a0 o):=λ{i x} h=>by
   rcases Mu i ρ.length with c|c
   ·rw[LF c]at h;show .inl ⟨c,h⟩
   ·rw[LH c]at h
    cases e:i-ρ.length with
    |zero=>rw[e]at h;cases h;show .inr ⟨(),O⟩
    |succ n=>rw[e]at h;cases h
  refine⟨λi=>if i=ρ.length then F else f i,E.fz,by rw[LL,LL,E.len];rfl,λi d h=>?_,λi a o' h=>?_,λi a o' h b g=>?_,λi j a L N U I u c b g z=>?_,E.tb⟩
  ·rcases G h with⟨c,h⟩|⟨_,h⟩
   ·let⟨v,e,r⟩:=E.sl i d h;show⟨v,by rwa[LF (by rw[E.len];show c)],r⟩
   ·cases h
  ·rcases G h with⟨c,h⟩|⟨c,h⟩
   ·let⟨q,e,r⟩:=E.ow i a o' h;show⟨q,by rwa[LF (by rw[E.len];show c)],by rwa[LG ()]⟩
   ·cases h;subst c;refine⟨p,by rw[LH (by rw[E.len];show LM _),E.len,M8];rfl,P,by rwa[LI O]⟩
  ·rcases G h with⟨c,h⟩|⟨c,h⟩
   ·rw[LG ()]at g;show E.no i a o' h b g
   ·rw[LI c]at g;show Q b g
  ·rcases G I with⟨M,I⟩|⟨M,I⟩
   ·rw[LG ()]at g;rcases G u with⟨J,u⟩|⟨J,u⟩
    ·rw[LG ()]at z;show E.dj i j a L N U I u c b g z
    ·rw[LI J]at z;show hd b z i a N I g
   ·rw[LI M]at g;rcases G u with⟨J,u⟩|⟨J,u⟩
    ·rw[LG ()]at z;show hd b g j L U u z
    ·omega
end
def eV(ρ:ar):Y Ar->Ž (Y Sm)
 | []=>Z []
 |.t s::as=>(eV ρ as).map (s::·)
 |.s i::as=>match ρ[i]? with
  |some (Z (.ob _ o))=>(eV ρ as).map (.ob ż o::·)
  |_=>ż
def rO(o:Om):Ž Sm->Ž Sm
 |some (.ob a _)=>Z (.ob a o)
 |x=>x
def e9:ar->Nat->Om->ar
 | [],_,_=>[]
 |x::ρ,0,o=>rO o x::ρ
 |x::ρ,i+1,o=>x::e9 ρ i o
theorem k8:∀(ρ:ar)(i:Nat)(o:Om),e9 ρ i o=(match ρ[i]? with
  |some (Z (.ob a _))=>ρ.set i (Z (.ob a o))
  |_=>ρ)
 | [],_,_=>rfl
 |some (.ob _ _)::_,0,_=>rfl
 |some (.v _)::_,0,_=>rfl
 |none::_,0,_=>rfl
 |x::ρ,i+1,o=>by
  change x::e9 ρ i o=_;rw[k8 ρ i o,O0]
  match ρ[i]? with
  |some (Z (.ob _ _))=>rfl
  |some (Z (.v _))=>rfl
  |some ż=>rfl
  |none=>rfl
def di(ρ:ar):Y Ar->Y Om->ar
 | [],_=>ρ
 |.t (.v _)::as,os=>di ρ as os
 |.t (.ob _ _)::as,_::os=>di ρ as os
 |.t (.ob _ _)::as,[]=>di ρ as []
 |.s i::as,o::os=>di (e9 ρ i o) as os
 |.s _::as,[]=>di ρ as []
def dO:Y Ar->Y Nat
 | []=>[]
 |.t _::as=>dO as
 |.s i::as=>i::dO as
def xg(as:Y Ar):Bool:=decide (dO as).Nodup
noncomputable def e7:Nat->Y Ar->Y Om->Y (Y Addr)->Nat->Ž (Om×Y Addr)
 |n,.t (.v _)::as,os,_::a,i=>e7 (n+1) as os a i
 |n,.t (.ob _ _)::as,o::os,F::a,i=>if i=n then Z (o,F) else e7 (n+1) as os a i
 |n,.s j::as,o::os,F::a,i=>if i=j then Z (o,F) else e7 n as os a i
 |_,_,_,_,_=>ż
section
variable{K:Â}{B H g:Hp}{A:St}{ρ:ar}{f:Nat->Y Addr}
def da(f:Nat->Y Addr):Nat->Y Ar->Y (Y Addr)
 |_,[]=>[]
 |n,.t (.v _)::as=>[]::da f (n+1) as
 |n,.t (.ob _ _)::as=>f n::da f (n+1) as
 |n,.s j::as=>f j::da f n as
def cZ:Nat->Y Ar->Y Nat
 |_,[]=>[]
 |n,.t (.v _)::as=>cZ (n+1) as
 |n,.t (.ob _ _)::as=>n::cZ (n+1) as
 |n,.s j::as=>j::cZ n as
theorem fpA_mem:∀{n:Nat}{as:Y Ar}{b:Addr},b∈(da f n as).flatten↔∃i∈cZ n as,b∈f i
 |n,[],b=>by simp[da,cZ]
 |n,.t (.v _)::as,b=>by simp only[da,cZ,MN,Pq];show fpA_mem
 |n,.t (.ob _ _)::as,b=>by simp only[da,cZ,MN,Mf,L0,fpA_mem (n:=n+1) (as:=as),exists_eq_or_imp]
 |n,.s j::as,b=>by simp only[da,cZ,MN,Mf,L0,fpA_mem (n:=n) (as:=as),exists_eq_or_imp]
theorem j7:∀{n:Nat}{as:Y Ar}{i:Nat},i∈cZ n as->i∈dO as\/(n<=i/\i<n+(dr as).length)
 |n,[],i,h=>by cases h
 |n,.t (.v d)::as,i,h=>by
  have h:i∈cZ (n+1) as:=h;rcases j7 h with z|z
  ·show .inl z
  ·refine .inr ⟨(),?_⟩;change i<n+((dr as).length+1);omega
 |n,.t (.ob a o)::as,i,h=>by
  rcases L0.mp h with rfl|h
  ·refine .inr ⟨LM _,?_⟩;change i<i+((dr as).length+1);omega
  ·rcases j7 h with z|z
   ·show .inl z
   ·refine .inr ⟨(),?_⟩;change i<n+((dr as).length+1);omega
 |n,.s j::as,i,h=>by
  rcases L0.mp h with rfl|h
  ·show .inl LQ
  ·rcases j7 h with z|z
   ·show .inl (LO _ z)
   ·show .inr z
theorem oF:∀{n:Nat}{as:Y Ar},(dO as).Nodup->(∀i∈dO as,i<n)->(cZ n as).Nodup
 |n,[],_,_=>by simp[cZ]
 |n,.t (.v d)::as,h,hl=>oF (n:=n+1) h λi c=>Mr (hl i c)
 |n,.t (.ob a o)::as,h,hl=>by
  refine MB.mpr ⟨λz=>?_,oF (n:=n+1) h λi c=>Mr (hl i c)⟩;rcases j7 z with z|z
  ·show MY _ (hl n z)
  ·omega
 |n,.s j::as,h,hl=>by
  let⟨e,l⟩:=MB.mp h;refine MB.mpr ⟨λz=>?_,oF l λi c=>hl i (LO _ c)⟩;rcases j7 z with z|z
  ·show e z
  ·have:=hl j LQ;omega
def jM{s:Sm}{as:Y Ar}{a:Y Sm}(h:eV ρ (.t s::as)=Z a):∃q,eV ρ as=Z q/\a=s::q:=by let⟨q,e,h⟩:=O7.mp h;show⟨q,e,h.symm⟩
def lD{i:Nat}{as:Y Ar}{c:Y Sm}(h:eV ρ (.s i::as)=Z c):∃a o q,ρ[i]?=Z (Z (.ob a o))/\eV ρ as=Z q/\c=.ob ż o::q:=by
 unfold eV at h;split at h
 ·next a o ho=>
  let⟨q,e,h⟩:=O7.mp h;show⟨a,o,q,ho,e,h.symm⟩
 ·cases h
def OutM.cv{d:D}{as:Y Sm}{v:V}{e:Y V}{os:Y Om}{a:Y (Y Addr)}(h:OutM K g H (.v d::as) (v::e) os a):∃c,a=[]::c/\OutM K g H as e os c:=by
 cases h with
 |v h=>show⟨_,O,h⟩
def OutM.co{a:Ž Addr}{o:Om}{as:Y Sm}{v:V}{l:Y V}{os:Y Om}{c:Y (Y Addr)}(h:OutM K g H (.ob a o::as) (v::l) os c):∃p o' j F e,v=.ref p/\os=o'::j/\c=F::e/\OmS K g H o' p F/\OutM K g H as l j e:=by
 cases h with
 |o m h=>show⟨_,_,_,_,_,O,O,O,m,h⟩
def ij{a:Type}{l m:Y a}{n:Nat}{y:a}(h:∀(j:Nat) x,(y::l)[j]?=Z x->m[n+j]?=Z x)(j:Nat)(x:a)(c:l[j]?=Z x):m[n+1+j]?=Z x:=by rw[show n+1+j=n+(j+1)by omega];show h (j+1) x c
def GH{σx:St}{c:ar}(E:EnvM' K B g H σx c f)(J:∀(i:Nat)(x:Sm),ρ[i]?=Z (Z x)->c[i]?=Z (Z x))(F:∀(i:Nat)(v:V),A[i]?=Z (Z v)->σx[i]?=Z (Z v)) :
  ∀{n:Nat}{as:Y Ar}{u:Y Sm}{p:Y V}{ts:St},(∀(j:Nat) x,(dr as)[j]?=Z x->c[n+j]?=Z x)->(∀(j:Nat) x,ts[j]?=Z x->σx[n+j]?=Z x)->eV ρ as=Z u->ArV A as p ts->ArgM K g H u p (da f n as):=by
 intro n as u p ts h l z C
 induction C generalizing n u with
 |nil=>cases z;show .nil
 | @t L v as p ts C y=>
  let⟨q,e,rfl⟩:=jM z
  cases L with
  |v d=>
   let⟨w,m,r⟩:=E.sl n d (h 0 _ O);obtain rfl:=Mw (Mw ((l 0 _ O).symm.trans m));show .v r (y (n:=n+1) (ij h) (ij l) e)
  |ob a o=>
   let⟨w,m,_,r⟩:=E.ow n a o (h 0 _ O);obtain rfl:=Mw (Mw ((l 0 _ O).symm.trans m));show .o r (y (n:=n+1) (ij h) (ij l) e)
 | @s i v as p ts G C y=>
  let⟨a,o,q,I,e,rfl⟩:=lD z;let⟨w,m,_,r⟩:=E.ow i a o (J i _ I);obtain rfl:=Mw (Mw ((F i _ G).symm.trans m));show .o r (y h l e)
theorem oG{σx:St}{c:ar}(r:∀(i:Nat)(x:Sm),ρ[i]?=Z (Z x)->c[i]?=Z (Z x)) :
  ∀{n:Nat}{as:Y Ar}{p:Y Sm},(∀(j:Nat) x,(dr as)[j]?=Z x->c[n+j]?=Z x)->eV ρ as=Z p->∀i∈cZ n as,∃a o,c[i]?=Z (Z (.ob a o))
 |n,[],p,_,m,i,h=>by cases h
 |n,.t (.v d)::as,p,l,m,i,h=>by let⟨q,e,rfl⟩:=jM m;show oG (σx:=σx) r (n:=n+1) (ij l) e i h
 |n,.t (.ob a o)::as,p,l,m,i,h=>by
  let⟨q,e,rfl⟩:=jM m;rcases L0.mp h with rfl|h
  ·show⟨a,o,l 0 _ O⟩
  ·show oG (σx:=σx) r (n:=n+1) (ij l) e i h
 |n,.s j::as,p,l,m,i,h=>by
  let⟨a,o,q,u,e,rfl⟩:=lD m;rcases L0.mp h with rfl|h
  ·show⟨a,o,r _ _ u⟩
  ·show oG (σx:=σx) r (n:=n) (as:=as) l e i h
theorem oH{σx:St}{v:ar}(E:EnvM' K B g H σx v f):∀{n:Nat}{as:Y Ar},(cZ n as).Nodup->(∀i∈cZ n as,∃a o,v[i]?=Z (Z (.ob a o)))->(da f n as).flatten.Nodup
 |n,[],_,_=>by simp[da]
 |n,.t (.v d)::as,h,m=>by change ([]++(da f (n+1) as).flatten).Nodup;rw[Pq];show oH E (n:=n+1) h m
 |n,.t (.ob a o)::as,h,m=>by change (f n++(da f (n+1) as).flatten).Nodup;let⟨y,z⟩:=MB.mp h;let⟨p,o',u⟩:=m n LQ;let⟨_,_,_,r⟩:=E.ow n p o' u;refine MI.mpr ⟨r.nodup,oH E (n:=n+1) z λi l=>m i (LO _ l),λb C c F e=>?_⟩;subst e;let⟨i,l,w⟩:=fpA_mem.mp F;let⟨a2,G,x⟩:=m i (LO _ l);show E.dj n i p a2 o' G u x (λe=>y (e▸l)) b C w
 |n,.s j::as,h,m=>by change (f j++(da f n as).flatten).Nodup;let⟨y,z⟩:=MB.mp h;let⟨p,o',u⟩:=m j LQ;let⟨_,_,_,r⟩:=E.ow j p o' u;refine MI.mpr ⟨r.nodup,oH E z λi l=>m i (LO _ l),λb C c F e=>?_⟩;subst e;let⟨i,l,w⟩:=fpA_mem.mp F;let⟨a2,G,x⟩:=m i (LO _ l);show E.dj j i p a2 o' G u x (λe=>y (e▸l)) b C w
theorem kQ:∀{n:Nat}{as:Y Ar}{os:Y Om}{e:Y (Y Addr)}{i:Nat}{q:Om×Y Addr},e7 n as os e i=Z q->i∈cZ n as
 |n,[],_,_,_,_,h=>by cases h
 |n,.t (.v d)::as,os,[],i,q,h=>by cases h
 |n,.t (.v d)::as,os,F::e,i,q,h=>kQ (n:=n+1) h
 |n,.t (.ob a o)::as,[],e,i,q,h=>by cases e<;>cases h
 |n,.t (.ob a o)::as,_::_,[],i,q,h=>by cases h
 |n,.t (.ob a o)::as,o'::os,F::e,i,q,h=>by
  have h:(if i=n then Z (o',F) else e7 (n+1) as os e i)=Z q:=h;split at h
  ·next c=>rw[c];show LQ
  ·show LO _ (kQ h)
 |n,.s j::as,[],e,i,q,h=>by cases e<;>cases h
 |n,.s j::as,_::_,[],i,q,h=>by cases h
 |n,.s j::as,o'::os,F::e,i,q,h=>by
  have h:(if i=j then Z (o',F) else e7 n as os e i)=Z q:=h;split at h
  ·next c=>rw[c];show LQ
  ·show LO _ (kQ h)
def OutS(K:Â)(g H:Hp)(σx:St)(ps:Y Nat)(a:Nat->Ž (Om×Y Addr))(G:Y Addr):Prop:=
 (∀i∈ps,∃q,a i=Z q)/\∀(i:Nat)(q:Om×Y Addr),a i=Z q->(∃p,σx[i]?=Z (Z (.ref p))/\OmS K g H q.1 p q.2)/\(∀b∈q.2,b∈G)/\∀(j:Nat)(r:Om×Y Addr),a j=Z r->i≠j->∀b∈q.2,b∉r.2
def OutS.cons{σx:St}{ps:Y Nat}{y v:Nat->Ž (Om×Y Addr)}{F G:Y Addr}{m:Nat}{o:Om}{p:Addr}(x:OutS K g H σx ps y G)(u:∀i,v i=if i=m then Z (o,F) else y i)(J:σx[m]?=Z (Z (.ref p)))(E:OmS K g H o p F)(L:(F++G).Nodup):OutS K g H σx (m::ps) v (F++G):=by
 have l:=(MI.mp L).2.2;refine⟨λi I=>?_,λi q h=>?_⟩
 ·rw[u];split
  ·show⟨_,O⟩
  ·next c=>show x.1 i ((L0.mp I).resolve_left c)
 ·rw[u]at h;split at h
  ·next c=>
   subst c;cases h;refine⟨⟨p,J,E⟩,λb a=>Mf.mpr (.inl a),λj r e c b a w=>?_⟩;rw[u,LG (Mo c)]at e;show l b a b ((x.2 j r e).2.1 b w) O
  ·next c=>
   let⟨M,z,N⟩:=x.2 i q h;refine⟨M,λb a=>Mf.mpr (.inr (z b a)),λj r e C b a w=>?_⟩;rw[u]at e;split at e
   ·next c3=>
    cases e;show l b w b (z b a) O
   ·show N j r e C b a w
def Jl{σx:St}(J:∀(i:Nat)(v:V),A[i]?=Z (Z v)->σx[i]?=Z (Z v)) :
  ∀{n:Nat}{as:Y Ar}{w:Y Sm}{u:Y V}{ts:St}{os:Y Om}{l:Y (Y Addr)},(∀(j:Nat) x,ts[j]?=Z x->σx[n+j]?=Z x)->eV ρ as=Z w->ArV A as u ts->OutM K g H w u os l->(cZ n as).Nodup->l.flatten.Nodup->OutS K g H σx (cZ n as) (e7 n as os l) l.flatten:=by
 intro n as w u ts os l y I E
 induction E generalizing n w os l with
 |nil=>
  intro c _ _;show⟨λi C=>(by cases C),λi q h=>(by cases h)⟩
 | @t M v as u ts E z=>
  intro c np m;let⟨q,e,rfl⟩:=jM I
  cases M with
  |v d=>
   let⟨G,rfl,r⟩:=c.cv;show z (n:=n+1) (ij y) e r np m
  |ob a o=>
   let⟨p,o',L,F,G,rfl,rfl,rfl,r,c⟩:=c.co;show (z (n:=n+1) (ij y) e c (MB.mp np).2 (MI.mp m).2.1).cons (λ_=>rfl) (y 0 _ O) r m
 | @s N v as u ts C E z=>
  intro c np m;let⟨a,o,q,_,e,rfl⟩:=lD I;let⟨p,o',L,F,G,rfl,rfl,rfl,r,c⟩:=c.co;show (z y e c (MB.mp np).2 (MI.mp m).2.1).cons (λ_=>rfl) (J _ _ C) r m
def Bg{ρ:ar}{i j:Nat}{o:Om}{x:Ž Sm}(h:(e9 ρ i o)[j]?=Z x)(c:j≠i):ρ[j]?=Z x:=by
 rw[k8]at h;split at h
 ·rwa [Mq (Mo c)]at h
 ·show h
def Kg{ρ:ar}{i:Nat}{o:Om}:(e9 ρ i o).length=ρ.length:=by
 rw[k8];split
 ·rw[Mc]
 ·rfl
theorem bV:∀{as:Y Ar}{ρ:ar}{os:Y Om},(di ρ as os).length=ρ.length
 | [],_,_=>rfl
 |.t (.v _)::as,ρ,os=>bV (as:=as)
 |.t (.ob _ _)::as,ρ,_::os=>bV (as:=as)
 |.t (.ob _ _)::as,ρ,[]=>bV (as:=as)
 |.s i::as,ρ,o::os=>by change (di (e9 ρ i o) as os).length=_;rw[bV,Kg]
 |.s _::as,ρ,[]=>bV (as:=as)
theorem gQ:∀{as:Y Ar}{ρ:ar}{os:Y Om}{i:Nat}{x:Ž Sm},i∉dO as->(di ρ as os)[i]?=Z x->ρ[i]?=Z x
 | [],_,_,_,_,_,h=>h
 |.t (.v _)::as,ρ,os,i,x,a,h=>gQ (as:=as) (os:=os) a h
 |.t (.ob _ _)::as,ρ,_::os,i,x,a,h=>gQ (as:=as) (os:=os) a h
 |.t (.ob _ _)::as,ρ,[],i,x,a,h=>gQ (as:=as) (os:=[]) a h
 |.s j::as,ρ,o::os,i,x,a,h=>by have h':=gQ (as:=as) (λz=>a (LO _ z)) (show (di (e9 ρ j o) as os)[i]?=Z x from h);show Bg h' λe=>a (by rw[e];show LQ)
 |.s j::as,ρ,[],i,x,a,h=>gQ (as:=as) (os:=[]) (λz=>a (LO _ z)) h
def vE{ρ:ar}{i j:Nat}{o:Om}(c:j≠i):(e9 ρ i o)[j]?=ρ[j]?:=by
 rw[k8];split
 ·rw[Mq (Mo c)]
 ·rfl
def qa{a_:ar}:∀{as:Y Ar}{ρ:ar}{y:Y Sm}{u:Y V}{ts:St}{os:Y Om}{w:Y (Y Addr)}{n i:Nat}{x:Sm},eV a_ as=Z y->ArV A as u ts->OutM K g H y u os w->i∈dO as->i<n->(dO as).Nodup->(di ρ as os)[i]?=Z (Z x)->(∀j∈dO as,∃a o,ρ[j]?=Z (Z (.ob a o)))->
  ∃a m q,x=.ob a q.1/\e7 n as os w i=Z q/\ρ[i]?=Z (Z (.ob a m)):=by
 intro as ρ y u ts os w n i x T N
 induction N generalizing ρ y os w n i x with
 |nil=>intro _ h;cases h
 | @t am v as u ts N E=>
  intro l h L nd hp r;let⟨q,e,rfl⟩:=jM T
  cases am with
  |v d=>
   let⟨P,rfl,J⟩:=l.cv;show E (n:=n+1) e J h () nd hp r
  |ob a1 o1=>
   let⟨p,o',Q,F,P,rfl,rfl,rfl,J,l⟩:=l.co;let⟨a,m,q,G,I,C⟩:=E (n:=n+1) (ρ:=ρ) e l h () nd hp r;show⟨a,m,q,G,(LG (LZ L)).trans I,C⟩
 | @s j v as u ts _ N E=>
  intro l h L nd hp r;let⟨_,o,q,_,e,rfl⟩:=lD T;let⟨p,o',Q,F,P,rfl,rfl,rfl,J,l⟩:=l.co;let⟨S,X⟩:=MB.mp nd;have R:(di (e9 ρ j o') as Q)[i]?=Z (Z x):=hp;by_cases c:i=j
  ·subst c;let⟨a,m,M⟩:=r i LQ;have:=gQ S R;rw[k8]at this;rw[M]at this;simp only at this;rw[Mt (aO M)]at this;cases this;show⟨a,m,(o',F),O,LI O,M⟩
  ·have U:=(L0.mp h).resolve_left c
   let⟨a,m,q,G,I,C⟩:=E (ρ:=e9 ρ j o') (n:=n) e l U L X R λk be=>by
    rw[vE λz=>S (by rwa[←z])];show r k (LO _ be)
   show⟨a,m,q,G,(LG c).trans I,by rw[vE c]at C;show C⟩
theorem rE:∀{as:Y Ar}{c:Y Sm},eV ρ as=Z c->∀j∈dO as,∃a o,ρ[j]?=Z (Z (.ob a o))
 | [],_,_,j,h=>by cases h
 |.t s::as,c,l,j,h=>by let⟨q,e,rfl⟩:=jM l;show rE e j h
 |.s i::as,c,l,j,h=>by
  let⟨a,o,q,m,e,rfl⟩:=lD l;rcases L0.mp h with rfl|h
  ·show⟨a,o,m⟩
  ·show rE e j h
end
section
variable{K:Â}{X:Cx}{e:Å}{l:Y Å}{pos p:Pos}{y:eQ}
inductive CallM(sp:fT)(R:Sm->ar->Prop)(Rx:XD->ar->Prop)(as:List Ar)(ρ:ar):Prop|mk (RE:List Sm) (_:eV ρ as=Z RE) (_:xg as=ž) (_:sp RE (λsm os=>R sm (di ρ as os)) (λxd os=>Rx xd (di ρ as os)))
def Jn(sp:fT)(y:eQ):TX:=λρ R a=>y ρ (CallM sp R a) a
theorem StM.lend{am H0 Φ H:Hp}{J M ts:St}{ρ f:ar}{Rx:XD->ar->Prop}{as:Y Ar}{RE:Y Sm}{vs:Y V}(S:StM K X am H0 Φ H J (M++ts) ρ (f++dr as) Rx)(hl:f.length=M.length)(N:eV ρ as=Z RE)(R:ArV J as vs ts)(hs:xg as=ž) :
  ∃P,ArgM K Φ H RE vs P/\P.flatten.Nodup/\(∀b∈P.flatten,Φ b=ż)/\∀sm os C H' v F L,Gr Φ (cX H P.flatten) C H'->ResM K C H' sm v F->OutM K C H' RE vs os L->(F++L.flatten).Nodup->(∀b∈F++L.flatten,cX H P.flatten b=ż/\C b=ż)->
   StM K X am H0 C H' J (M++[Z v]) (di ρ as os) (f++[Z sm]) Rx:=by
 have nd:(dO as).Nodup:=Mm hs;let⟨a_,E⟩:=S.E;have lS0:=S.l
 have Rl:(dr as).length=ts.length:=by have:=S.lk;rw[LL,LL]at this;omega
 have a1:∀(i:Nat)(x:Sm),ρ[i]?=Z (Z x)->(ρ++(f++dr as))[i]?=Z (Z x):=λi x h=>by rwa[LF (aO h)]
 have a2:∀(i:Nat)(v:V),J[i]?=Z (Z v)->(J++(M++ts))[i]?=Z (Z v):=λi x h=>by rwa[LF (aO h)]
 have a3:∀(j:Nat) x,(dr as)[j]?=Z x->(ρ++(f++dr as))[ρ.length+f.length+j]?=Z x:=λj x h=>by rwa[LH (),LH (),show ρ.length+f.length+j-ρ.length-f.length=j by omega]
 have a4:∀(j:Nat) x,ts[j]?=Z x->(J++(M++ts))[ρ.length+f.length+j]?=Z x:=λj x h=>by rwa[LH (),LH (),show ρ.length+f.length+j-J.length-M.length=j by omega]
 have sl:=rE N
 have U:∀i∈dO as,i<ρ.length:=λi m=>let ⟨_,_,h⟩:=sl i m;aO h
 have pn:(cZ (ρ.length+f.length) as).Nodup:=oF nd λi m=>by have:=U i m;omega
 have po:=oG (σx:=J) a1 a3 N;refine⟨da a_ (ρ.length+f.length) as,GH E a1 a2 a3 a4 N R,oH E pn po,λb w=>?_,λsm os C H' v F L g U5 Th U2 SX=>?_⟩
 ·let⟨i,m,I⟩:=fpA_mem.mp w;let⟨a,o,Q⟩:=po i m;show (E.no i a o Q b I).2
 let⟨Yr,Ys,nd3⟩:=MI.mp U2;let⟨n1,n2⟩:=Jl (n:=ρ.length+f.length) a2 a4 N R Th pn Ys
 have B0:∀b∈(da a_ (ρ.length+f.length) as).flatten,H0 b=ż:=λb w=>by let⟨i,m,I⟩:=fpA_mem.mp w;let⟨a,o,Q⟩:=po i m;show (E.no i a o Q b I).1
 have pl:∀{i:Nat},i<ρ.length+f.length->i∉dO as->e7 (ρ.length+f.length) as os L i=ż:=λ{i} m hn=>by
  cases e:e7 (ρ.length+f.length) as os L i with
  |none=>rfl
  |some q=>
   rcases j7 (kQ e)with z|z
   ·show absurd z hn
   ·omega
 have E2:EnvM' K H0 C H' (J++(M++ts)) (di ρ as os++(f++List.replicate ts.length ż)) (iP (e7 (ρ.length+f.length) as os L) a_):=by
  have cs:∀{i:Nat}{x:Sm},(di ρ as os++(f++List.replicate ts.length ż))[i]?=Z (Z x)->(i<ρ.length/\(di ρ as os)[i]?=Z (Z x))\/(ρ.length<=i/\i<ρ.length+f.length/\f[i-ρ.length]?=Z (Z x)):=λ{i x} h=>by
   rcases Mu i ρ.length with c|c
   ·rw[LF (by rwa[bV])]at h;show .inl ⟨c,h⟩
   ·rw[LH (by rwa[bV]),bV]at h;rcases Mu (i-ρ.length) f.length with G|G
    ·rw[LF G]at h;show .inr ⟨c,(),h⟩
    ·rw[LH G,Nw]at h;split at h
     ·cases h
     ·cases h
  have kx:∀{i:Nat}{x:Sm},ρ.length<=i->i<ρ.length+f.length->f[i-ρ.length]?=Z (Z x)->(ρ++(f++dr as))[i]?=Z (Z x):=λ{i x} A G h=>by rwa[LH A,LF ()]
  refine E.lend S.g.h (B:=(da a_ (ρ.length+f.length) as).flatten) (new:=e7 (ρ.length+f.length) as os L) (λb w=>?_) (λi q hq b w=>fpA_mem.mpr ⟨i,kQ hq,w⟩) g (by rw[LL,LL,LL,LL,MW,bV,Rl]) (λi d h=>?_) (λi a o h=>?_) (λi q hq=>(n2 i q hq).1) (λi q hq b w=>SX b (Mf.mpr (.inr ((n2 i q hq).2.1 b w)))) λi j q r hq Uy c b w=>(n2 i q hq).2.2 j r Uy c b w
  ·let⟨i,m,I⟩:=fpA_mem.mp w;let⟨a,o,Q⟩:=po i m;let⟨q,hq⟩:=n1 i m;show⟨i,a,o,q,hq,Q,I⟩
  ·rcases cs h with⟨c,h⟩|⟨A,G,h⟩
   ·rcases OS (i∈dO as)with z|z
    ·let⟨a,o0,q,e1,_⟩:=qa (n:=ρ.length+f.length) N R Th z () nd h sl;cases e1
    ·show a1 _ _ (gQ z h)
   ·show kx A G h
  ·rcases cs h with⟨c,h⟩|⟨A,G,h⟩
   ·rcases OS (i∈dO as)with z|z
    ·let⟨a',o0,q,e1,e2,e3⟩:=qa (n:=ρ.length+f.length) N R Th z () nd h sl;cases e1;show .inr ⟨o0,q.2,e2,a1 _ _ e3⟩
    ·show .inl ⟨pl () z,a1 _ _ (gQ z h)⟩
   ·show .inl ⟨pl G λz=>by have:=U i z;omega,kx A G h⟩
 have g0:=S.g.lend g B0
 have E3:=E2.snocG U5 (λb w=>by
   let⟨be,z2⟩:=SX b (Mf.mpr (.inl w));refine⟨?_,z2⟩;rcases OS (b∈(da a_ (ρ.length+f.length) as).flatten)with c|c
   ·show B0 b c
   ·rw[jm c]at be
    show S.g.h.free be) λb w i a o m I=>by
  unfold iP at I
  cases e:e7 (ρ.length+f.length) as os L i with
  |some q=>
   rw[e]at I;show nd3 b w b ((n2 i q e).2.1 b I) O
  |none=>
   rw[e]at I;let⟨p,_,_,r⟩:=E2.ow i a o m;unfold iP at r;rw[e]at r;let⟨be,z2⟩:=SX b (Mf.mpr (.inl w))
   have own:∃o',(ρ++(f++dr as))[i]?=Z (Z (.ob a o')):=by
    rcases Mu i ρ.length with c|c
    ·rw[LF (by rwa[bV])]at m;rcases OS (i∈dO as)with z|z
     ·let⟨a',o0,q,_,e2,_⟩:=qa (n:=ρ.length+f.length) N R Th z () nd m sl;rw[e]at e2;cases e2
     ·show⟨o,a1 _ _ (gQ z m)⟩
    ·rw[LH (by rwa[bV]),bV]at m;rcases Mu (i-ρ.length) f.length with G|G
     ·rw[LF G]at m;show⟨o,by rwa[LH c,LF G]⟩
     ·rw[LH G,Nw]at m;split at m
      ·cases m
      ·cases m
   let⟨o',RY⟩:=own;let⟨p',_,_,r'⟩:=E.ow i a o' RY;let⟨u,hu,_⟩:=r'.at b I
   have c:b∉(da a_ (ρ.length+f.length) as).flatten:=λz=>by
    let⟨j,hj,hbj⟩:=fpA_mem.mp z;let⟨q,hq⟩:=n1 j hj
    have cj:i≠j:=λz=>by rw[z,hq]at e;cases e
    let⟨a2',o2,hj2⟩:=po j hj;show E.dj i j a a2' o' o2 RY hj2 cj b I hbj
   rw[jm c,hu]at be;cases be
 refine⟨g0,by rwa[bV],?_,S.x⟩;refine E3.re (λi=>if i<ρ.length+f.length then i else ρ.length+f.length+ts.length) (by simp only[LL,LX,MP,bV];omega) (λi x T=>?_) λi j a a' o o' m hj e=>?_
 ·rcases Mu i (ρ.length+f.length)with c|c
  ·rw[LI c];constructor
   ·rcases Mu i ρ.length with A|A
    ·rw[LF (by rwa[bV])]at T;rwa[LF (by simp only[LL,bV];omega),LF (by rw[bV];show A)]
    ·rw[LH (by rwa[bV]),bV,LF ()]at T;rwa[LF (by simp only[LL,bV];omega),LH (by rw[bV];show A),bV,LF ()]
   ·rcases Mu i J.length with A|A
    ·rw[LF A,LF (by simp only[LL];omega),LF A]
    ·rw[LH A,LF (),LF (by simp only[LL];omega),LH A,LF ()]
  ·have m:i=ρ.length+f.length:=by have:=aO T;simp only[LL,LX,MP,bV]at this;omega
   subst m;rw[LG ()];rw[LH (by rw[bV];omega),LH (by rw[bV];omega),bV,show ρ.length+f.length-ρ.length-f.length=0 by omega]at T;cases T;constructor
   ·rw[LH (by simp only[LL,MW,bV];omega)];simp only[LL,MW,bV];rw[show ρ.length+f.length+ts.length-(ρ.length+(f.length+ts.length))=0 by omega];rfl
   ·rw[LH (),LH (),LH (by simp only[LL];omega)];simp only[LL];rw[show ρ.length+f.length-J.length-M.length=0 by omega,show ρ.length+f.length+ts.length-(J.length+(M.length+ts.length))=0 by omega]
 ·have hi1:=aO m;have W9:=aO hj;simp only[LL,LX,MP,bV]at hi1 W9;have e:(if i<ρ.length+f.length then i else ρ.length+f.length+ts.length)=(if j<ρ.length+f.length then j else ρ.length+f.length+ts.length):=e;split at e<;>split at e<;>omega
structure ClM(P:Æ)(w:Ç)(K:Â)(mg:Str->Option Value)(base:Heap)(n:Nat)(x:Str)(ps:List Str)(z:fT):Prop where
 ex:∃(f:Addr)(fd:Í),FnOk P w K mg base aH n f fd ps (lSpM K z)/\Binds K fd ps []/\í K (.ref f)=ž/\mg x=Z (.ref f)
def cK{n:Nat}{x:Str}{ps:Y Str}{z:fT}(C:ClM X.prog X.w K X.mg X.base n x ps z)(hr:Room n X.A)(hg:Gl X x)
  (ha:PXA K X (e::l) y) (he:Á (e::l) X.env=(β,eval e X.env)::Á l X.env) (J:(Ñ pos (Á l X.env)).any (·.1)=β) (M:ab x:=by decide) :
  PX K X (.Call (.Name x p) (e::l) [] pos) (Jn z y):=⟨λc=>by
 let⟨f,U,F,b,k,m⟩:=C.ex;refine (wG (dvs:=[]) (ds:=[]) (E:=E0) (c▸F:FnOk X.prog X.w X.K X.mg X.base aH n f U ps (lSpM K z)) hr hg m (c▸k) (c▸b) .nil nJ (ha.pa c) M he J).imp λσ H Q G=>?_;let⟨j,w,Φ,τ,ρ,κ,R,I,S,t,k⟩:=G;refine⟨j,w,Φ,τ,ρ,κ,_,I,S,t,λas ρ1 o H1 vs ts h hl hv g T=>?_⟩;let⟨A,N,P,h⟩:=h;let⟨u,be,am,g3,g4⟩:=g.lend S.lk N hv P;rw[ML]
 show⟨o,A,u,_,_,g.g.s,g.E.tb,be,am,g3,h,λsm os a H' v F B r gr a_ ho hn L=>k sm _ a H' v r (g4 sm os a H' v F B gr a_ ho hn L) (T.trans gr.f)⟩⟩
end
structure EndsM where
 nx:ar->Prop
 rt:Sm->ar->Prop
 bk:ar->Prop:=λ_=>False
 ct:ar->Prop:=λ_=>False
 ex:XD->ar->Prop:=λ_ _=>False
abbrev bR:=EndsM->ar->Prop
def qi(K:Â)(f g:Hp)(P:ar->Prop)(Q:St->Hp->Prop):Prop:=∀c a H' e,P c->Gr f g a H'->EnvM K g a H' e c->Q e H'
structure EndOkM(K:Â)(X:Cx)(Φ0 H0:Hp)(De:EndsM)(E:Ends):Prop where
 nx:qi K Φ0 H0 De.nx E.nx
 rt:∀sm ρ' Φ' H' v σ',De.rt sm ρ'->Gr Φ0 H0 Φ' H'->EnvM K H0 Φ' H' (σ'++[Z v]) (ρ'++[Z sm])->E.rt v H'
 bk:qi K Φ0 H0 De.bk E.bk
 ct:qi K Φ0 H0 De.ct E.ct
 ex:XeOk K X Φ0 H0 De.ex
inductive lM(K:Â)(X:Cx)(t:bR)(E:Ends)(σ:St)(H:Hp):Prop|mk (Φ0:Hp) (H0:Hp) (Φ:Hp) (ρ:ar) (De:EndsM) (_:Gr Φ0 H0 Φ H) (_:EnvM K H0 Φ H σ ρ) (_:t De ρ) (_:EndOkM K X Φ0 H0 De E)
structure PSM(K:Â)(X:Cx)(st:Ë)(t:bR):Prop where ps:X.K=K->PS X st (lM K X t)
structure PSsM(K:Â)(X:Cx)(st:List Ë)(t:bR):Prop where ps:X.K=K->PSs X st (lM K X t)
section
variable{K:Â}{X:Cx}{a c e H:Hp}{f:St}{ρ:ar}{h:XD->ar->Prop}{v:V}{sm:Sm}
def gm(g:Gr a c e H)(V:EnvM K c e H f ρ)(x:XeOk K X a c h):StM K X a c e H f [] ρ [] h:=⟨g,V.len.symm,by rw[ML,ML];show V,x⟩
def StM.env1(S:StM K X a c e H f ([]++[Z v]) ρ ([]++[Z sm]) h):EnvM K c e H (f++[Z v]) (ρ++[Z sm]):=S.E
end
section
variable{K:Â}{X:Cx}{st:Ë}{l:Y Ë}{t u:bR}{e a:Å}{f:TX}{pos:Pos}{m:fZ}
def Im:bR:=λc ρ=>c.nx ρ
def Ki(t u:bR):bR:=λc ρ=>t { c with nx:=u c } ρ
inductive mCut(t u:bR)(De:EndsM)(ρ:ar):Prop|mk (I:ar->Prop) (_:t { De with nx:=I } ρ) (_:∀ρ',I ρ'->u De ρ')
def cQ:PSsM K X [] Im:=⟨λ_=>pss_nil.imp λE o H c=>by let⟨j,r,h,ρ,p,g,V,t,k⟩:=c;show k.nx ρ h H o t g V⟩
def aV(x:PSM K X st t)(y:PSsM K X l u):PSsM K X (st::l) (Ki t u):=⟨λp=>(jf (x.ps p) (y.ps p)).imp λE B H v=>by let⟨c,o,z,ρ,r,g,V,t,k⟩:=v;exact
 ⟨c,o,z,ρ,_,g,V,t,⟨λj h H' A t' g' w=>⟨c,o,h,j,r,g',w,t',k⟩,k.rt,k.bk,k.ct,k.ex⟩⟩⟩
def c8(y:PSM K X st t)(z:PSsM K X l u):PSsM K X (st::l) (mCut t u):=⟨λr=>(jf (y.ps r) (z.ps r)).imp λE C H w=>by let⟨h,p,A,ρ,v,g,V,⟨I,t,c⟩,k⟩:=w;exact
 ⟨h,p,A,ρ,_,g,V,t,⟨λj o H' B t' g' x=>⟨h,p,o,j,v,g',x,c j t',k⟩,k.rt,k.bk,k.ct,k.ex⟩⟩⟩
def bg(c:PSM K X st t):PSsM K X [st] t:=⟨λg=>p5 (c.ps g)⟩
def KJ:bR:=λ_ _=>False
def wK:PSM K X st KJ:=⟨λ_=>ps_never.imp λE r H c=>by let⟨h,o,p,ρ,j,g,V,t,k⟩:=c;show t⟩
def n0(i:Nat)(f:TX):bR:=λg ρ=>f ρ (λs c=>g.nx (c.set i (Z s))) g.ex
def B1{i:Nat}{E:Ends}{p:St}{H:Hp}(h:lM K X (n0 i f) E p H):i6 (lXm K X f) (h9 i) E p H:=by let⟨c,x,z,ρ,w,g,V,t,k⟩:=h;show⟨c,x,z,[],ρ,[],_,w.ex,gm g V k.ex,t,λs A j y v r o _=>k.nx _ j y _ r o.g (o.env1.store i)⟩
def bt{i:Nat}{x:Str}{c:Pos}(h:X.N.Nodup)(p:X.N[i]?=Z x)(v:eL X.env.scope x)(j:PX K X e f)(r:Ð e (Z (.Name x c)) pos.line X.env=pure β:=by rfl)(o:X.fn x=ž\/X.env.scope.names.lookup x=Z .local:=by nofun) :
  PSM K X (.Assign [.Name x c] e pos) (n0 i f):=⟨λg=>(tJ h p v (j.pe g) r o).imp λ_ _ _=>B1⟩
def IX(f:TX):bR:=λg ρ=>f ρ (λ_ c=>g.nx c) g.ex
def D8(z:PX K X e f)(A:Ð e ż pos.line X.env=pure β:=by rfl):PSM K X (.Expr e pos) (IX f):=
 ⟨λy=>(mf (z.pe y) A).imp λE F H x=>by
  let⟨c,p,B,ρ,o,g,V,t,k⟩:=x
  show⟨c,p,B,[],ρ,[],_,o.ex,gm g V k.ex,t,λs C h w v r j _=>k.nx _ h w F r j.g j.env⟩⟩
def Cn(f:TX):bR:=λc ρ=>f ρ c.rt c.ex
def cy(A:PX K X e f):PSM K X (.Return (Z e) pos) (Cn f):=
 ⟨λz=>(vX (A.pe z)).imp λE C H y=>by
  let⟨c,w,B,ρ,p,g,V,t,k⟩:=y
  show⟨c,w,B,[],ρ,[],_,p.ex,gm g V k.ex,t,λs j h x v r o _=>k.rt s j h x v C r o.g o.env1⟩⟩
def y8(i:Nat):TX:=λρ R _=>match ρ[i]? with|some (Z (.ob ż o))=>R (.ob ż o) (ρ.set i ż)|_=>False
def xo(i:Nat){x:Str}(L:X.N[i]?=Z x:=by rfl)(N:du X.env.scope x:=by nofun)(hd:ab x:=by decide)
  (F:ad x:=by decide):PX K X (.Name x pos) (y8 i):=⟨λ_=>(pv i L N hd F).imp λT H Q C=>by
 let⟨P,be,a_,U,ρ,p,R,am,S,t,k⟩:=C;unfold y8 at t;split at t
 ·next o h=>
  have w:=aO h;have hl:=S.l;let⟨fp,E⟩:=S.env;let⟨q,e,_⟩:=E.ow i ż o h;refine⟨_,e,k _ _ a_ H _ t ⟨S.g,by rwa[Mc],?_,S.x⟩ (Same.refl _)⟩;have hk:=S.lk;refine S.E.re (λj=>if j=ρ.length+p.length then i else j) (by simp only[LL,Mc,LX,MP];omega) (λj x g=>?_) λy A a a' o1 o2 I J r=>?_
  ·have M:=aO g;simp only[LL,Mc,LX,MP]at M;rcases Mu j ρ.length with c|c
   ·rw[LF (by rwa[Mc])]at g;rw[LG (),LF c,LF (),LF ()];rcases ei g with⟨_,_,z⟩|⟨_,z⟩
    ·cases z
    ·show⟨z,O⟩
   ·rw[LH (by rwa[Mc]),Mc]at g;rcases Mu j (ρ.length+p.length)with G|G
    ·rw[LF ()]at g;rw[LG ()];constructor
     ·rwa[LH c]
     ·rw[LH (),LF (),LH ()]
    ·have v:j=ρ.length+p.length:=by omega
     subst v;rw[LH (),show ρ.length+p.length-ρ.length-p.length=0 by omega]at g;cases g;rw[LI O,LF w,LH (),LH (),show ρ.length+p.length-T.length-U.length=0 by omega,LF (),e];show⟨h,O⟩
  ·have no:∀{j:Nat}{a:Ž Addr}{o:Om},(ρ.set i ż++(p++[Z (Sm.ob ż o)]))[j]?=Z (Z (.ob a o))->True:=λ_=>trivial
   have B:∀{j:Nat}{x:Sm},(ρ.set i ż++(p++[Z (Sm.ob ż o)]))[j]?=Z (Z x)->j≠i:=λ{j x} g v=>by subst v;rw[LF (by rwa[Mc]),Mt w]at g;cases g
   have n1:=B I;have n2:=B J;have r:(if y=ρ.length+p.length then i else y)=(if A=ρ.length+p.length then i else A):=r;split at r<;>split at r<;>omega
 ·show t.elim⟩
def Kf(c:fZ)(t u:bR):bR:=λh ρ=>c ρ (λb g=>(b=ž->t h g)/\(b=β->u h g)) h.ex
def cN{c:Å}{a b:Y Ë}(B:PXB K X c m)(z:PSsM K X a t)(A:PSsM K X b u):PSM K X (.If c a b pos) (Kf m t u):=
 ⟨λx=>(xH (B.pt x) (z.ps x) (A.ps x)).imp λE G H y=>by
  let⟨h,w,C,ρ,v,g,V,t,k⟩:=y;refine⟨h,w,C,[],ρ,[],_,v.ex,gm g V k.ex,t,λc o j F r p _=>?_⟩
  cases c with
  |true=>refine nZ ?_;show⟨h,w,j,o,v,p.g,p.env,r.1 O,k⟩
  |false=>refine nj ?_;show⟨h,w,j,o,v,p.g,p.env,r.2 O,k⟩⟩
abbrev fB:=D->ar->(ar->Prop)->Prop
abbrev i9:=Y D->ar->(ar->Prop)->Prop
inductive lGM(K:Â)(g:fB)(v:V)(σ:St)(H:Hp)(Q:St->Hp->Prop):Prop|mk (H0:Hp) (Φ:Hp) (ρ:ar) (d:D) (R:ar->Prop) (_:EnvM K H0 Φ H σ ρ) (_:Rp K Φ d v) (_:g d ρ R) (_:∀ρ' σ',R ρ'->EnvM K H0 Φ H σ' ρ'->Q σ' H)
inductive lGMs(K:Â)(g:i9)(vs:List V)(σ:St)(H:Hp)(Q:St->Hp->Prop):Prop|mk (H0:Hp) (Φ:Hp) (ρ:ar) (ds:List D) (R:ar->Prop) (_:EnvM K H0 Φ H σ ρ) (_:RpL K Φ ds vs) (_:g ds ρ R) (_:∀ρ' σ',R ρ'->EnvM K H0 Φ H σ' ρ'->Q σ' H)
structure PGM(K:Â)(X:Cx)(e:Å)(g:fB):Prop where pg:X.K=K->PG X e (lGM K g)
structure PGMs(K:Â)(X:Cx)(es:List Å)(g:i9):Prop where pg:X.K=K->PGs X es (lGMs K g)
end
section
variable{K:Â}{X:Cx}{e:Å}{a:Y Å}{pos:Pos}{g:fB}{gs:i9}
def Hc(i:Nat):fB:=λd ρ R=>R (ρ.set i (Z (.v d)))
def eN{i:Nat}{x:Str}(f:X.N.Nodup)(j:X.N[i]?=Z x)(l:eL X.env.scope x)(h:X.fn x=ž\/X.env.scope.names.lookup x=Z .local:=by nofun):PGM K X (.Name x pos) (Hc i):=
 ⟨λ_=>(vF f j l h).imp λv p H Q c=>by let⟨m,o,ρ,d,R,E,r,g,k⟩:=c;show k _ _ g ((E.snocV r).store i)⟩
def Cy:i9:=λds ρ R=>match ds with| []=>R ρ|_=>False
def DK(t:fB)(u:i9):i9:=λds ρ R=>match ds with|d::r=>t d ρ λc=>u r c R| []=>False
def Jt:PGMs K X [] Cy:=⟨λ_=>pgs_nil.imp λv j H Q c=>by
 let⟨f,h,ρ,ds,R,E,r,g,k⟩:=c
 cases ds with
 |nil=>show⟨Nz.mp r.1,k _ _ g E⟩
 |cons=>show g.elim⟩
def tE(w:PGM K X e g)(x:PGMs K X a gs)(z:(Ê (e::a) X.env).map (·.2)=assign e X.env::(Ê a X.env).map (·.2):=by rfl):PGMs K X (e::a) (DK g gs):=
 ⟨λl=>(yT (w.pg l) (x.pg l) z).imp λc C H Q p=>by
  let⟨j,m,ρ,ds,R,E,r,g,k⟩:=p
  cases ds with
  |nil=>show g.elim
  |cons d ds=>
   cases c with
   |nil=>show absurd r.1 (by simp)
   |cons v c=>
    refine⟨v,c,O,j,m,ρ,d,_,E,r.2 0 v d O O,g,λh B g' o=>⟨j,m,h,ds,R,o,⟨by have:=r.1;simpa using this,λi u f A y=>r.2 (i+1) u f A y⟩,g',k⟩⟩⟩
def EE(n:Nat)(t:i9):fB:=λd ρ R=>match d with|.tup ds=>ds.length=n/\t ds ρ R|.lst ds=>ds.length=n/\t ds ρ R|_=>False
def yE(K:Â)(n:Nat)(t:eU):TG:=λv c H Q=>qd K n t v c H Q\/rf K n t v c H Q
def Dw{k n:Nat}{t:eU}(l:X.K=K)(m:X.calm=ž)(h:PGs X a t)(o:(Ê a X.env).length=n)(j:(Ê a X.env).findIdx? (·.1)=ż):PG X (.Tuple a k pos) (yE K n t):=λc s p H v u Q I r f=>by
 rcases f with f|f
 ·show xA l m h o j c s p H v u Q I r f
 ·show zy l m h o j c s p H v u Q I r f
def Jr{k n:Nat}(o:X.calm=ž)(h:PGMs K X a gs)(p:(Ê a X.env).length=n:=by rfl)(l:(Ê a X.env).findIdx? (·.1)=ż:=by rfl):PGM K X (.Tuple a k pos) (EE n gs):=
 ⟨λf=>(Dw f o (h.pg f) p l:PG X (.Tuple a k pos) (yE K n (lGMs K gs))).imp λv u H Q m=>by
  let⟨c,j,ρ,d,R,E,r,g,k⟩:=m
  cases d with
  |tup ds=>cases r with|tup h1 h2 h3=>show .inl ⟨_,_,O,.of (E.fz _ _ h1),by rw[h2];show g.1,c,j,ρ,ds,R,E,⟨h2,h3⟩,g.2,k⟩
  |lst ds=>cases r with|lst h1 h2 h3=>show .inr ⟨_,_,O,.of (E.fz _ _ h1),by rw[h2];show g.1,c,j,ρ,ds,R,E,⟨h2,h3⟩,g.2,k⟩
  |_=>show g.elim⟩
end
section
variable{K:Â}{X:Cx}{t u:bR}{e:Å}{a:TX}{pos:Pos}
def Er(a:TX)(g:fB):bR:=λf ρ=>a ρ (xV λd c=>g d c f.nx) f.ex
def JH{c:Å}{w:fB}(F:PX K X e a)(G:PGM K X c w)(I:æ [c] e pos.line X.env=pure β:=by rfl)(J:ç [c] e X.env=pure ż:=by rfl)
  (C:(Ê [c] X.env).map (·.2)=[assign c X.env]:=by rfl):PSM K X (.Assign [c] e pos) (Er a w):=
 ⟨λx=>(tH (F.pe x) (G.pg x) I J C).imp λE N H A=>by
  let⟨j,p,M,ρ,y,g,V,t,k⟩:=A;refine⟨j,p,M,[],ρ,[],_,y.ex,gm g V k.ex,t,λs m f z v r h _=>?_⟩;let⟨d,rfl,r⟩:=r.get
  show⟨p,f,m,d,_,h.env,h.last,r,λl o L B=>k.nx l f z o L h.g B⟩⟩
abbrev jD:=ar->(Y D->ar->Prop)->(XD->ar->Prop)->Prop
inductive lIM(K:Â)(X:Cx)(t:jD)(σ:St)(H:Hp)(R':It->Hp->Prop):Prop|mk (Φ0:Hp) (H0:Hp) (Φ:Hp) (τ:St) (ρ:ar) (κ:ar) (R:List D->ar->Prop) (Rx:XD->ar->Prop) (_:StM K X Φ0 H0 Φ H σ τ ρ κ Rx) (_:t ρ R Rx) (_:∀ds ρ' Φ' H' J,R ds ρ'->StM K X Φ0 H0 Φ' H' σ τ ρ' κ Rx->Same Φ Φ'->SteadyD K J Φ' ds->R' J H')
structure PIM(K:Â)(X:Cx)(tg e:Å)(t:jD):Prop where pi:X.K=K->PI X tg e (lIM K X t)
def iD(t:aP):jD:=λρ R _=>t (cC ρ) λds=>R ds ρ
def ft{f:Å}{t:aP}(h:PID K X f e t):PIM K X f e (iD t):=⟨λm=>(h.pi m).imp λy H v l=>by
 let⟨p,j,o,z,ρ,x,R,w,S,t,k⟩:=l
 show⟨j,o,cC ρ,_,S.env.toD,t,λds c H' J r g Sd=>k ds ρ c H' J r (S.gr g) g.f Sd⟩⟩
def XeOk.join{f l H j:Hp}{v:XD->ar->Prop}(x:XeOk K X f l v)(g:Gr f l j H):XeOk K X j l v:=λy o m H' p e w c r g' V h=>x y o m H' p e w c r (g.join g') V h
inductive ForM(gd:fB)(tb:bR)(De:EndsM)(ds:List D)(ρ0:ar):Prop|mk (I:Nat->ar->Prop) (_:I 0 ρ0) (_:∀(i:Nat)(d:D)(ρ':ar),ds[i]?=Z d->I i ρ'->gd d ρ' λρ2=>tb { De with nx:=I (i+1),ct:=I (i+1),bk:=De.nx } ρ2) (_:∀ρ',I ds.length ρ'->De.nx ρ')
def EY(h:jD)(g:fB)(tb:bR):bR:=λf ρ=>h ρ (λds c=>ForM g tb f ds c) f.ex
def fj{T iter:Å}{z:Y Ë}{ti:jD}{gd:fB}{tb:bR}(hp:Ď (Ä X.prog X.w) X.A X.env X.xe)(hc:X.calm=ž)(hi:PIM K X T iter ti)(hg:PGM K X T gd)(hb:PSsM K X z tb)
  (hs:∀x,Ï iter X.env x=pure x:=by intro _;rfl):PSM K X (.For T iter z [] pos) (EY ti gd tb):=
 ⟨λS=>(uP hp hc (hi.pi S) (hg.pg S) (hb.ps S) hs).imp λE σ H Rb=>by
  let⟨C,A,Φ,ρ,De,g,V,t,k⟩:=Rb;refine⟨C,A,Φ,[],ρ,[],_,De.ex,gm g V k.ex,t,λds U F H1 J RL S1 _ Sd=>?_⟩;let⟨I,h0,RG,Ss⟩:=RL;refine⟨λi m σ H'=>m=ds.length-i/\i<=ds.length/\∃c f,Gr C A c H'/\Same F c/\EnvM K A c H' σ f/\I i f,⟨ds.length,by simp,ME _,F,U,S1.g,Same.refl _,S1.env,h0⟩,?_⟩;rintro i m am H' ⟨rfl,hi,c,f,g',a_,N,hI⟩;by_cases R:i<ds.length
  ·refine .inr ⟨Sd.go i H' (a_.trans N.fz) R,λQ L=>∃c f,Gr C A c L/\Same F c/\EnvM K A c L Q f/\I (i+1) f,λQ L h2=>⟨ds.length-(i+1),(),O,R,h2⟩,λx L y=>?_⟩;let⟨G,o,rx⟩:=Sd.yl i c H' x L _ a_ N.fz (aS R) y;refine⟨A,G,f,_,_,N.gr o,rx,RG i _ f (aS R) hI,λbe σ3 t2 V3=>?_⟩;refine⟨G,A,G,be,_,?_,V3,t2,⟨?_,?_,?_,?_,k.ex.join (g'.trans o)⟩⟩
   ·show⟨Same.refl _,(g'.trans o).h,o.s,λp u hp hn _=>hn⟩
   ·intro j h M l P w B;show⟨h,j,(g'.trans o).join w,(a_.trans o.f).trans w.f,B,P⟩
   ·intro sm j h M v l r w B;show k.rt sm j h M v l r ((g'.trans o).join w) B
   ·intro j h M l P w B;show k.nx j h M l P ((g'.trans o).join w) B
   ·intro j h M l P w B;show⟨h,j,(g'.trans o).join w,(a_.trans o.f).trans w.f,B,P⟩
  ·have e:i=ds.length:=by omega
   subst e
   show .inl ⟨Sd.stop H' (a_.trans N.fz),k.nx f c H' am (Ss f hI) g' N⟩⟩
end
def eG:Y Sm->Y Addr->ar
 | [],_=>[]
 |.v d::as,ps=>Z (.v d)::eG as ps
 |.ob _ o::as,p::ps=>Z (.ob (Z p) o)::eG as ps
 |.ob _ _::as,[]=>ż::eG as []
def gA(N:Y Str)(as:Y Sm)(ps:Y Addr):ar:=eG as ps++List.replicate (N.length-as.length) ż
def gZ:Y Str->Y Sm->Y Addr->ar
 | [],as,ps=>eG as ps
 |_::N,[],ps=>ż::gZ N [] ps
 |_::N,.v d::as,ps=>Z (.v d)::gZ N as ps
 |_::N,.ob _ o::as,p::ps=>Z (.ob (Z p) o)::gZ N as ps
 |_::N,.ob _ _::as,[]=>ż::gZ N as []
theorem l9:∀(N:Y Str)(as:Y Sm)(ps:Y Addr),gA N as ps=gZ N as ps
 | [],as,ps=>by unfold gA;rw[MP,Nat.zero_sub,List.replicate_zero,ML];rfl
 |n::N,[],ps=>by
  have:=l9 N [] ps;unfold gA at this ⊢;change List.replicate (N.length+1-0) ż=ż::gZ N [] ps;rw[←this];rfl
 |n::N,.v d::as,ps=>by have:=l9 N as ps;unfold gA at this ⊢;rw[LX,LX,Pg];show MR (Z (Sm.v d)::·) this
 |n::N,.ob a o::as,p::ps=>by have:=l9 N as ps;unfold gA at this ⊢;rw[LX,LX,Pg];show MR (Z (Sm.ob (Z p) o)::·) this
 |n::N,.ob _ _::as,[]=>by have:=l9 N as [];unfold gA at this ⊢;rw[LX,LX,Pg];show MR (ż::·) this
def jh(k:Y Om->Prop):Y Sm->Y Addr->Nat->ar->Prop
 | [],_,_,_=>k []
 |.v _::as,ps,i,ρ=>jh k as ps (i+1) ρ
 |.ob _ _::as,p::ps,i,ρ=>∃o,ρ[i]?=Z (Z (.ob (Z p) o))/\jh (λos=>k (o::os)) as ps (i+1) ρ
 |.ob _ _::_,[],_,_=>False
def oW:Y Sm->Nat
 | []=>0
 |.v _::as=>oW as
 |.ob _ _::as=>oW as+1
def fi:Y Sm->Y V->Y Addr
 |.v _::as,_::a=>fi as a
 |.ob _ _::as,.ref p::a=>p::fi as a
 |_,_=>[]
section
variable{K:Â}{f H g H' l:Hp}
def A4:∀{as:Y Sm}{c:Y V}{e:Y (Y Addr)},ArgM K f H as c e->(fi as c).length=oW as:=by
 intro as c e h
 induction h with
 |nil=>rfl
 |v _ _ a=>show a
 |o _ _ a=>show MR (·+1) a
theorem oC:∀{as:Y Sm}{ps:Y Addr},(eG as ps).length=as.length
 | [],_=>rfl
 |.v d::as,ps=>by change (eG as ps).length+1=_;rw[oC];rfl
 |.ob _ o::as,p::ps=>by change (eG as ps).length+1=_;rw[oC];rfl
 |.ob _ _::as,[]=>by change (eG as []).length+1=_;rw[oC];rfl
def kY:∀{as:Y Sm}{a:Y V}{c:Y (Y Addr)},ArgM K f H as a c->∀{i:Nat}{x:Sm},(eG as (fi as a))[i]?=Z (Z x)->
  (∃d v,x=.v d/\a[i]?=Z v/\Rp K f d v)\/∃o p F,x=.ob (Z p) o/\a[i]?=Z (.ref p)/\c[i]?=Z F/\OmS K f H o p F:=by
 intro as a c h
 induction h with
 |nil=>intro i x h;simp[eG]at h
 | @v d _ _ _ _ r t e=>
  intro i x h
  cases i with
  |zero=>cases h;show .inl ⟨d,_,O,O,r⟩
  |succ i=>show e (i:=i) h
 | @o _ o p F _ _ _ r t e=>
  intro i x h
  cases i with
  |zero=>cases h;show .inr ⟨o,p,F,O,O,O,r⟩
  |succ i=>show e (i:=i) h
theorem xm:∀{a:Y (Y Addr)},a.flatten.Nodup->∀{i j:Nat}{F G:Y Addr},a[i]?=Z F->a[j]?=Z G->i≠j->∀b∈F,b∉G
 | [],_,i,j,F,G,h,_,_,_,_=>by simp at h
 |L::a,nd,i,j,F,G,p,r,c,b,o=>by
  let⟨w,v,u⟩:=MI.mp (show (L++a.flatten).Nodup from nd);intro m
  cases i with
  |zero=>
   cases p
   cases j with
   |zero=>show c O
   |succ j=>show u b o b (Qy.mpr ⟨G,Mb (i:=j) (by simpa using r),m⟩) O
  |succ i=>
   cases j with
   |zero=>
    cases r;show u b m b (Qy.mpr ⟨F,Mb (i:=i) (by simpa using p),o⟩) O
   |succ j=>show xm v (by simpa using p) (by simpa using r) (λe=>c (by rw[e])) b o m
def Fx{N:Y Str}{as:Y Sm}{m:Y V}{u:Y (Y Addr)}(sm:Same f H)(tb:TabF K f)(w:ArgM K f H as m u)(nd:u.flatten.Nodup)(M:∀b∈u.flatten,f b=ż):EnvM K (cX H u.flatten) f H (start N m) (gA N as (fi as m)):=by
 have y:∀{i:Nat}{x:Sm},(gA N as (fi as m))[i]?=Z (Z x)->(eG as (fi as m))[i]?=Z (Z x):=λ{i x} h=>by
  unfold gA at h;rcases Mu i (eG as (fi as m)).length with c|c
  ·rwa [LF c]at h
  ·rw[LH c,Nw]at h;split at h<;>cases h
 have I:∀{i:Nat}{v:V},m[i]?=Z v->(start N m)[i]?=Z (Z v):=λ{i v} h=>by unfold start;rw[LF (by rw[LC];show aO h),LN,h];rfl
 let⟨am,S⟩:=w.len;refine⟨λi=>u.getD i [],sm,by unfold start gA;rw[LL,LL,LC,MW,MW,oC,am],λi d h=>?_,λi a o h=>?_,λi a o h b B=>?_,λi j a R o o' J L c b B=>?_,tb⟩
 ·rcases kY w (y h)with⟨d',v,e,C,r⟩|⟨o,p,F,e,_⟩
  ·cases e;show⟨v,I C,r⟩
  ·cases e
 ·rcases kY w (y h)with⟨d',v,e,C,r⟩|⟨o',p,F,e,C,E,r⟩
  ·cases e
  ·cases e;refine⟨p,I C,(λq e=>by cases e;rfl),?_⟩;rwa[LJ,E]
 ·rcases kY w (y h)with⟨d',v,e,_⟩|⟨o',p,F,e,C,E,r⟩
  ·cases e
  ·rw[LJ,E]at B;have G:b∈u.flatten:=Qy.mpr ⟨F,Mb E,B⟩;show⟨Ho G,M b G⟩
 ·rcases kY w (y J)with⟨d',v,e,_⟩|⟨T,X,P,e,_,z,_⟩
  ·cases e
  ·rcases kY w (y L)with⟨d',v,e,_⟩|⟨U,a_,Q,e,_,A,_⟩
   ·cases e
   ·rw[LJ,z]at B;rw[LJ,A];show xm nd z A c b B
def Ff{x:Nat->Y Addr}{T:St}{ρ:ar}{k:Y Om->Prop}(E:EnvM' K l g H' T ρ x):∀{as:Y Sm}{w:Y V}{C:Y (Y Addr)}{i:Nat}{k:Y Om->Prop},ArgM K f H as w C->jh k as (fi as w) i ρ->
  ∃os u,OutM K g H' as w os u/\k os/\u.flatten.Nodup/\(∀b∈u.flatten,l b=ż/\g b=ż)/\∀b∈u.flatten,∃j a o,i<=j/\j<i+as.length/\ρ[j]?=Z (Z (.ob a o))/\b∈x j:=by
 intro as w C i k h
 induction h generalizing i k with
 |nil=>show λh=>⟨[],[],.nil,h,by simp,λb m=>(by cases m),λb m=>(by cases m)⟩
 |v r t M=>
  intro h;let⟨os,u,G,I,J,L,A⟩:=M (k:=k) (i:=i+1) h;refine⟨os,[]::u,.v G,I,by simpa using J,λb m=>L b (by simpa using m),λb m=>?_⟩;let⟨j,a,o,N,am,y⟩:=A b (by simpa using m);show⟨j,a,o,(),by rw[LX];omega,y⟩
 | @o _ U p F as w C r t M=>
  intro h;let⟨o',B,h⟩:=(show ∃o,ρ[i]?=Z (Z (.ob (Z p) o))/\jh (λos=>k (o::os)) as (fi as w) (i+1) ρ from h);let⟨os,u,G,I,J,L,A⟩:=M (k:=λos=>k (o'::os)) (i:=i+1) h;let⟨q,e,Q,P⟩:=E.ow i _ o' B;cases Q p O;refine⟨o'::os,x i::u,.o P G,I,?_,λb m=>?_,λb m=>?_⟩
  ·refine MI.mpr ⟨P.nodup,J,λb m c R e=>?_⟩;subst e;let⟨j,a,o,N,am,y,S⟩:=A b R;show E.dj i j _ a o' o B y () b m S
  ·rcases Mf.mp (show b∈x i++u.flatten from m)with z|z
   ·show E.no i _ o' B b z
   ·show L b z
  ·rcases Mf.mp (show b∈x i++u.flatten from m)with z|z
   ·show⟨i,_,o',LM _,by rw[LX];omega,B,z⟩
   ·let⟨j,a,o,N,am,y⟩:=A b z;show⟨j,a,o,(),by rw[LX];omega,y⟩
end
section
variable{P:Æ}{w:Ç}{K:Â}{mg:Str->Ž Value}{base:Heap}
def Fun.okM{x qual:Str}{st:Ë}{f:Addr}{U:Í}{N ps:Y Str}{k:Nat}{sp:fT}(F:Fun K x qual st f U)(S:FnScope N ps (av st))(len:∀as R y,sp as R y->as.length=ps.length)
  (RH:∀(J:Value)(A:É)(outer:Y ó)(s:À)(H:Hp)(E:XK)(as:Y Sm)(R:Sm->Y Om->Prop)(y:XD->Y Om->Prop)(qs:Y Addr),U.code=J->Room k (A.deeper (ï qual (av st) s.heap.objs.size f J))->sp as R y->qs.length=oW as->
   ∃t,PSsM K (gq aH P w K mg base N qual (av st) f J A outer s H E).nox (ee st) t/\let ke:EndsM:={ nx:=λρ=>jh (R (.v .non)) as qs 0 ρ,rt:=λsm ρ=>jh (R sm) as qs 0 ρ };t ke (gZ N as qs)):FnOk P w K mg base aH (k+1) f U ps (lSpM K sp):=by
 refine F.okL S (λbe H Q E ⟨G,as,I,R,y,sm,tb,L,nd,hn,h,_⟩=>by rw[L.len.1];show len as R y h) (λJ A outer s H be Q E Rr hr ⟨G,as,I,R,y,sm,tb,L,nd,hn,h,kk⟩=>?_);let⟨t,ht,hq⟩:=RH J A outer s H E as R y (fi as be) Rr hr h (A4 L);dsimp only at hq;rw[←l9]at hq;have al:=len as R y h
 have nl:ps.length<=N.length:=by have:=MR List.length S.pre;rw[Ms]at this;omega
 have fin:∀sm l m H' v p,jh (R sm) as (fi as be) 0 l->Gr G (cX H I.flatten) m H'->EnvM K (cX H I.flatten) m H' (p++[Z v]) (l++[Z sm])->Q v H':=λC l m H' v p hk g V=>by
  let⟨fp,B⟩:=V
  have hl:p.length=l.length:=by have:=B.len;simpa using this
  let⟨os,am,h1,h2,h3,h4,h5⟩:=Ff (k:=R C) (B.take hl.symm) L hk
  have T:(l++[Z C])[l.length]?=Z (Z C):=by rw[LH (LM _),M8];rfl
  cases C with
  |v d=>
   let⟨u,a_,r⟩:=B.sl _ d T;rw[←hl,LH (LM _),M8]at a_;cases a_;show kk (.v d) os m H' v [] am h2 g (.v r) h1 (by simpa using h3) (λb M=>h4 b (by simpa using M))
  |ob a o=>
   let⟨u,a_,X,r⟩:=B.ow _ a o T;rw[←hl,LH (LM _),M8]at a_;cases a_;refine kk (.ob a o) os m H' _ (fp l.length) am h2 g (.o X r) h1 ?_ λb M=>?_
   ·refine MI.mpr ⟨r.nodup,h3,λb M c hc e=>?_⟩;subst e;let⟨j,a2,o2,_,_,j3,j4⟩:=h5 b hc;have hj:=aO j3;show B.dj _ j a a2 o o2 T (by rwa[LF hj]) () b M j4
   ·rcases Mf.mp M with z|z
    ·show B.no _ a o T b z
    ·show h4 b z
 have g0:Gr G (cX H I.flatten) G H:=⟨Same.refl _,EC,sm,λ_ _ _ h _=>h⟩;refine⟨lM K _ t,ht.ps O,G,cX H I.flatten,G,_,_,g0,Fx sm tb L nd hn,hq,⟨λl m H' p r g V=>?_,λC l m H' v p r g V=>fin C l m H' v p r g V,λ_ _ _ _ h=>h.elim,λ_ _ _ _ h=>h.elim,λ_ _ _ _ _ _ _ _ h=>h.elim⟩⟩;show fin (.v .non) l m H' .non p r g (V.snocV .non)
def Fun.clM{x:Str}{st:Ë}{f:Addr}{a:Í}{ps:Y Str}{n:Nat}{z:fT}(F:Fun K x x st f a)(m:mg x=Z (.ref f))(H:FnOk P w K mg base aH n f a ps (lSpM K z))
  (b:tq st x x ps:=by intro _ _ _ _ _ _;first|show rA λ_=>rfl|show tK λ_ _=>rfl|show qR λ_ _ _=>rfl|show qo λ_ _ _ _=>rfl|show us_0 O|show rF λ_ _ _ _ _=>rfl|show us_6 λ_ _ _ _ _ _=>rfl|show us_7 λ_ _ _ _ _ _ _=>rfl|show us_8 λ_ _ _ _ _ _ _ _=>rfl):ClM P w K mg base n x ps z:=⟨f,a,H,F.binds b,F.kp,m⟩
def ClM.mono{n m:Nat}{x:Str}{ps:Y Str}{z:fT}(C:ClM P w K mg base n x ps z)(k:n<=m:=by decide):ClM P w K mg base m x ps z:=by let⟨f,a,F,r⟩:=C.ex;show⟨f,a,F.mono k,r⟩
end
section
variable{K:Â}{X:Cx}{e a b:Å}{A I C:TX}{pos l B y G:Pos}{x:Str}{i:Nat}
def ownL(ρ:ar)(i:Nat)(k:Ž Addr->Y D->Prop):Prop:=match ρ[i]? with|some (Z (.ob a (.lst ds)))=>k a ds|_=>False
def ownL.get{ρ:ar}{i:Nat}{k:Ž Addr->Y D->Prop}(h:ownL ρ i k):∃a ds,ρ[i]?=Z (Z (.ob a (.lst ds)))/\k a ds:=by
 unfold ownL at h;split at h
 ·next a ds e=>show⟨a,ds,e,h⟩
 ·show h.elim
def StM.list{c o j H:Hp}{m z:St}{ρ w:ar}{u:XD->ar->Prop}{a:Ž Addr}{ds:Y D}(S:StM K X c o j H m z ρ w u)(L:ρ[i]?=Z (Z (.ob a (.lst ds)))):∃q g,m[i]?=Z (Z (.ref q))/\H q=Z (.lst g)/\RpL K j ds g /\
  ∀(f:Y D)(h:Y V),RpL K j f h->StM K X c o j (au H q (.lst h)) m z (ρ.set i (Z (.ob a (.lst f)))) w u:=by
 have p:=aO L;let⟨q,g,e,E,N,U,F,J⟩:=S.E.list (i:=i) (a:=a) (ds:=ds) S.g (by rwa[LF p]);rw[LF (by rwa[←S.l])]at e;refine⟨q,g,e,E,F,λf h r=>?_⟩;let⟨v,M⟩:=J f h r;refine⟨M,by rw[Mc];show S.l,?_,S.x⟩;rw[List.set_append_left _ _ p]at v;show v
def DS(i:Nat)(A:TX):bR:=λf ρ=>ownL ρ i λ_ _=>A ρ (xV λd c=>ownL c i λa ds=>ds.length<sizeLine/\NF (ds++[d]) λg=>f.nx (c.set i (Z (.ob a (.lst g))))) f.ex
def gh(i:Nat)(U:PX K X e A)(L:((Ñ B (Á [e] X.env)).all (λx=>!x.1)&&(ì B (Û [] X.env)).all (λx=>x.1.isSome)&&decide (([e]:Y Å).length+([]:Y Ö).length+(if ([]:Y Ö).isEmpty then 0 else 1)<30))=ž)
  (m:Á [e] X.env=(β,eval e X.env)::Á [] X.env) (T:X.N[i]?=Z x:=by rfl) (hv:du X.env.scope x:=by nofun) (hd:ab x:=by decide) (a_:ad x:=by decide)
  (F:Ò (.Name x y) "append" X.env (eval (.Name x y) X.env)=eval (.Name x y) X.env:=by rfl) (J:(l.endLine==B.line)=ž:=by rfl) (am:Ð (.Call (.Attribute (.Name x y) "append" l) [e] [] B) ż pos.line X.env=pure β:=by rfl) :
  PSM K X (.Expr (.Call (.Attribute (.Name x y) "append" l) [e] [] B) pos) (DS i A):=
 ⟨λR=>(mf (j5 Oe Qt Qu se (pv i T hv hd a_) (dR (U.pe R) pa_nil m) F L J m ag) am).imp λE σ H N=>by
  let⟨c,z,Φ,ρ,w,g,V,t,k⟩:=N;let⟨a,ds,be,t⟩:=ownL.get t;have S:=gm g V k.ex;let⟨q,vs,p,hp,rl,_⟩:=S.list be;refine⟨_,p,.inl ⟨O,vs,SqL.of hp⟩,c,z,Φ,[],ρ,[],_,w.ex,S,t,λs ρ1 f H1 v r h _=>?_⟩;let⟨d,rfl,r⟩:=r.get;let⟨a1,Xc,P,hl,r⟩:=ownL.get r;let⟨q1,Q,u,M,o,k1⟩:=h.list P;rw[p]at u;cases u;have j:=k1 _ _ (o.append (.one h.last))
  show⟨q,Q,v,O,O,M,by rwa[o.1],k.nx _ f _ σ r.get j.g j.env⟩⟩
def AO(i:Nat)(I:TX):TX:=λρ R f=>ownL ρ i λ_ _=>I ρ (xV λn c=>match n with|.int n=>ownL c i λa ds=>∃j d,n=(j:Nat)/\j<2^62/\ds[j]?=Z d/\NF (ds.eraseIdx j) λg=>R (.v d) (c.set i (Z (.ob a (.lst g))))|_=>False) f
def RpL.eraseIdx{f:Hp}{ds:Y D}{c:Y V}(h:RpL K f ds c)(j:Nat):RpL K f (ds.eraseIdx j) (c.eraseIdx j):=by rw[Ng,Ng];show (h.take j).append (h.drop (j+1))
def G1{j n:Nat}(h:j<n):Ċ (j:Int) n=Z j:=by unfold Ċ;simp;omega
def Hr(i:Nat)(ha:PX K X a I)(L:((Ñ B (Á [a] X.env)).all (λx=>!x.1)&&(ì B (Û [] X.env)).all (λx=>x.1.isSome)&&decide (([a]:Y Å).length+([]:Y Ö).length+(if ([]:Y Ö).isEmpty then 0 else 1)<30))=ž)
  (o:Á [a] X.env=(β,eval a X.env)::Á [] X.env) (hN:X.N[i]?=Z x:=by rfl) (c:du X.env.scope x:=by nofun) (hd:ab x:=by decide) (a_:ad x:=by decide)
  (F:Ò (.Name x y) "pop" X.env (eval (.Name x y) X.env)=eval (.Name x y) X.env:=by rfl) (J:(l.endLine==B.line)=ž:=by rfl):PX K X (.Call (.Attribute (.Name x y) "pop" l) [a] [] B) (AO i I):=
 ⟨λhK=>(j5 Oe PySem.F.slot_list_pop PySem.F.type_list_pop BC (pv i hN c hd a_) (dR (ha.pe hK) pa_nil o) F L J o ag).imp λσ H Q N=>by
  let⟨g,E,Φ,τ,ρ,κ,R,P,S,t,k⟩:=N;let⟨a,ds,ho,t⟩:=ownL.get t;let⟨q,vs,u,hp,rl,_⟩:=S.list ho;refine⟨_,u,.inl ⟨O,vs,SqL.of hp⟩,g,E,Φ,τ,ρ,κ,_,P,S,t,λs ρ1 h H1 w r m f1=>?_⟩;let⟨n,rfl,r⟩:=r.get;have am:=m.last;let⟨n,rfl,r⟩:=ie r;obtain rfl:=am.i;let⟨a1,Xc,T,j,d,rfl,h62,hj,r⟩:=ownL.get r;have f:=m.pop S.lk;let⟨q1,be,z,M,p,k1⟩:=f.list T;rw[u]at z;cases z;let⟨v,c,rv⟩:=p.at hj;have U:=k1 _ _ (p.eraseIdx j)
  show⟨q,be,_,j,v,O,O,M,(),(),G1 (aO c),c,k _ _ h _ v r.get (U.pushV rv) f1⟩⟩
def AR(i:Nat)(A C:TX):bR:=λg ρ=>A ρ (xV λd c=>ownL c i λ_ _=>C c (xV λm f=>match m with|.int n=>ownL f i λa ds=>∃j,gc ds.length n=Z j/\NF (ds.set j d) λh=>g.nx (f.set i (Z (.ob a (.lst h))))|_=>False) g.ex) g.ex
def za(i:Nat)(he:PX K X e A)(hk:PX K X b C)(am:X.N[i]?=Z x:=by rfl)(hv:du X.env.scope x:=by nofun)(hd:ab x:=by decide)(Q:ad x:=by decide)
  (ha:∀v,assign (.Subscript (.Name x y) b G) X.env v=(do
   let ov ←holding [v] (eval (.Name x y) X.env)
   let iv ←holding [v,ov] (eval b X.env)
   standAt G
   holding [v,ov,iv] (setItem ov iv v)
   release [v,ov,iv] []):=by intro _;rfl)
  (hs:æ [.Subscript (.Name x y) b G] e pos.line X.env=pure β:=by rfl) (hw:ç [.Subscript (.Name x y) b G] e X.env=pure ż:=by rfl)
  (be:(Ê [.Subscript (.Name x y) b G] X.env).map (·.2)=[assign (.Subscript (.Name x y) b G) X.env]:=by rfl) :
  PSM K X (.Assign [.Subscript (.Name x y) b G] e pos) (AR i A C):=
 ⟨λa_=>(tH (he.pe a_) (A2 (pv i am hv hd Q) (hk.pe a_) zF ha) hs hw be).imp λE σ H P=>by
  let⟨f,u,Φ,ρ,p,g,V,t,k⟩:=P;refine⟨f,u,Φ,[],ρ,[],_,p.ex,gm g V k.ex,t,λs o h H1 v r z _=>?_⟩;let⟨d,rfl,r⟩:=r.get;let⟨a1,Xc,R,r⟩:=ownL.get r;let⟨q,vs,M,_⟩:=z.list R;refine⟨_,M,f,u,h,_,o,_,_,p.ex,z,r,λs2 ρ2 m H2 w c F _=>?_⟩;let⟨kk,rfl,c⟩:=c.get;let⟨rd,rk⟩:=F.last2;let⟨n,rfl,c⟩:=ie c;obtain rfl:=rk.i;let⟨a2,Xd,T,j,hj,c⟩:=ownL.get c;let⟨q2,U,N,S,L,k2⟩:=F.list T;rw[M]at N;cases N;have J:=k2 _ _ (L.set rd j)
  show⟨q,U,n,j,O,O,S,by rwa[L.1],k.nx _ m _ σ c.get J.g J.env⟩⟩
noncomputable def K7(i:Nat)(f:Int->Int->Int)(C A:TX):bR:=λh ρ=>(ownL ρ i λ_ _=>True)/\C ρ (xV λr c=>match r with|.int n=>ownL c i λa ds=>∃(j:Nat)(v:Int),n=(j:Int)/\ds[j]?=Z (.int v)/\A c (xV λd g=>match d with|.int m=>ownL g i λa2 o=>j<o.length/\NF (o.set j (.int (f v m))) λp=>h.nx (g.set i (Z (.ob a2 (.lst p))))|_=>False) h.ex|_=>False) h.ex
def GC{op:ò}{f:Int->Int->Int}(i:Nat)(X3:lK X op (rL f))(hk:PX K X b C)(he:PX K X e A)(hN:X.N[i]?=Z x:=by rfl)(hv:du X.env.scope x:=by nofun)(hd:ab x:=by decide)(Rr:ad x:=by decide)
  (ha:∀ov p new,augStore b ov p new=(do holding [new,ov,p] (setItem ov p new);release [new,ov,p] [];pure .next):=by intros;rfl) :
  PSM K X (.AugAssign (.Subscript (.Name x y) b G) op e pos) (K7 i f C A):=
 ⟨λJ=>(Bn (pv i hN hv hd Rr) (hk.pe J) (AW J) (he.pe J) X3 zF ha).imp λE σ H Rb=>by
  let⟨o,Q,Φ,ρ,P,g,V,⟨L,t⟩,k⟩:=Rb;let⟨a,ds,L,_⟩:=ownL.get L;have S:=gm g V k.ex;let⟨q,vs,F,hp,rl,_⟩:=S.list L;refine⟨_,F,o,Q,Φ,[],ρ,[],_,P.ex,S,t,λs1 a_ M H1 w c r _=>?_⟩;let⟨kk,rfl,c⟩:=c.get;have rk:=r.last;let⟨n,rfl,c⟩:=ie c;obtain rfl:=rk.i;let⟨a1,Xc,S0,j,v,rfl,hj,c⟩:=ownL.get c;let⟨q1,U6,be,RV,T2,_⟩:=r.list S0;rw[F]at be;cases be;let⟨u,hu,ru⟩:=T2.at hj;obtain rfl:=ru.i;refine⟨q,U6,_,j,_,O,O,.of RV,O,hu,o,Q,M,_,a_,_,_,P.ex,r,c,λs2 ρ2 N H2 z h R _=>?_⟩;let⟨d,rfl,h⟩:=h.get;have rd:=R.last;let⟨m,rfl,h⟩:=ie h;obtain rfl:=rd.i;let⟨a2,Xd,Si,Xe,h⟩:=ownL.get h;let⟨q2,Yt,am,SG,U,k2⟩:=R.list Si;rw[F]at am;cases am;have T:=k2 _ _ (U.set (.int (f v m)) j)
  show⟨v,m,O,O,q,Yt,_,j,O,O,SG,DQ (by rwa[U.1]),k.nx _ N _ σ h.get T.g T.env⟩⟩
noncomputable def Ju(i:Nat)(A:TX):bR:=λf ρ=>ownL ρ i λ_ _=>A ρ (λs c=>match s with|.ob _ (.lst zs)=>ownL c i λa ds=>ds.length+zs.length<=sizeLine/\NF (ds++zs) λg=>f.nx (c.set i (Z (.ob a (.lst g))))|.v (.lst zs)=>ownL c i λa ds=>ds.length+zs.length<=sizeLine/\NF (ds++zs) λg=>f.nx (c.set i (Z (.ob a (.lst g))))|_=>False) f.ex
def DA(i:Nat)(he:PX K X e A)(RM:((Ñ B (Á [e] X.env)).all (λx=>!x.1)&&(ì B (Û [] X.env)).all (λx=>x.1.isSome)&&decide (([e]:Y Å).length+([]:Y Ö).length+(if ([]:Y Ö).isEmpty then 0 else 1)<30))=ž)
  (N:Á [e] X.env=(β,eval e X.env)::Á [] X.env) (hN:X.N[i]?=Z x:=by rfl) (hv:du X.env.scope x:=by nofun) (hd:ab x:=by decide) (Rr:ad x:=by decide)
  (RA:Ò (.Name x y) "extend" X.env (eval (.Name x y) X.env)=eval (.Name x y) X.env:=by rfl) (RB:(l.endLine==B.line)=ž:=by rfl) (hs:Ð (.Call (.Attribute (.Name x y) "extend" l) [e] [] B) ż pos.line X.env=pure β:=by rfl) :
  PSM K X (.Expr (.Call (.Attribute (.Name x y) "extend" l) [e] [] B) pos) (Ju i A):=
 ⟨λhK=>(mf (j5 Oe PySem.F.slot_list_extend PySem.F.type_list_extend JU (pv i hN hv hd Rr) (dR (he.pe hK) pa_nil N) RA RM RB N ag) hs).imp λE U H Rb=>by
  let⟨F,am,Φ,ρ,J,g,V,t,k⟩:=Rb;let⟨a,ds,ho,t⟩:=ownL.get t;have S:=gm g V k.ex;let⟨q,vs,Q,hp,rl,_⟩:=S.list ho;refine⟨_,Q,.inl ⟨O,vs,SqL.of hp⟩,F,am,Φ,[],ρ,[],_,J.ex,S,t,λs f m L v r h _=>?_⟩
  have fin:∀{c:Y D}{j:Y L2.V}{p:Addr},v=.ref p->L p=Z (.lst j)->RpL K m c j->(ownL f i λa ds=>ds.length+c.length<=sizeLine/\NF (ds++c) λes=>J.nx (f.set i (Z (.ob a (.lst es)))))->xP (.ref q) [v] L λx H'=>E.nx U H':=λ{c j p} ev z T r=>by
   let⟨a1,Xc,S0,hl,r⟩:=ownL.get r;let⟨q1,U6,R,RV,a_,k1⟩:=h.list S0;rw[Q]at R;cases R;have M:=k1 _ _ (a_.append T);show⟨q,p,U6,j,O,by rw[ev],RV,z,by rwa[a_.1,T.1],k.nx _ m _ U r.get M.g M.env⟩
  cases s with
  |v d=>
   have rd:=h.last
   cases d with
   |lst c=>cases rd with|lst u w h3=>show fin O (h.g.s _ _ u) ⟨w,h3⟩ r
   |_=>show r.elim
  |ob a0 o=>
   cases o with
   |lst c=>
    let⟨fp,be⟩:=h.E;let⟨p,P,_,rr⟩:=be.ow f.length a0 (.lst c) (by rw[LH (LM _),M8];rfl);rw[h.l,LH (LM _),M8]at P;cases P;let⟨_,j,u,w⟩:=rr.lst_inv;show fin O u w r
   |_=>show r.elim⟩
def qx:Ž Sm->Ž Sm
 |some (.ob ż (.lst ds))=>Z (.v (.lst ds))
 |some (.ob ż (.map c))=>Z (.v (.map c))
 |x=>x
def iK:Nat->ar->ar
 |_,[]=>[]
 |0,x::ρ=>qx x::ρ
 |i+1,x::ρ=>x::iK i ρ
theorem zd:∀(i:Nat)(ρ:ar),iK i ρ=(match ρ[i]? with
  |some (Z (.ob ż (.lst ds)))=>ρ.set i (Z (.v (.lst ds)))
  |some (Z (.ob ż (.map c)))=>ρ.set i (Z (.v (.map c)))
  |_=>ρ)
 |0,[]=>rfl
 |_+1,[]=>rfl
 |0,Z (.ob ż (.lst _))::_=>rfl
 |0,Z (.ob ż (.map _))::_=>rfl
 |0,Z (.ob ż (.mpT _))::_=>rfl
 |0,Z (.ob ż (.obj _ _))::_=>rfl
 |0,Z (.ob ż .ptr)::_=>rfl
 |0,Z (.ob ż (.tl _))::_=>rfl
 |0,Z (.ob ż (.pr _ _))::_=>rfl
 |0,Z (.ob (Z _) _)::_=>rfl
 |0,Z (.v _)::_=>rfl
 |0,ż::_=>rfl
 |i+1,x::ρ=>by
  change x::iK i ρ=_;rw[zd i ρ,O0]
  match ρ[i]? with
  |some (Z (.ob ż (.lst _)))=>rfl
  |some (Z (.ob ż (.map _)))=>rfl
  |some (Z (.ob ż (.mpT _)))=>rfl
  |some (Z (.ob ż (.obj _ _)))=>rfl
  |some (Z (.ob ż .ptr))=>rfl
  |some (Z (.ob ż (.tl _)))=>rfl
  |some (Z (.ob ż (.pr _ _)))=>rfl
  |some (Z (.ob (Z _) _))=>rfl
  |some (Z (.v _))=>rfl
  |some ż=>rfl
  |none=>rfl
def Rp.map_of{g:Hp}{j:Y (ai×D)}{m:Y (ai×V)}{p:Addr}(h:g p=Z (.dK m))(r:Paired (cU K g) j m):Rp K g (.map j) (.ref p):=by
 refine .map h ?_ ?_
 ·clear h
  induction r with
  |nil=>rfl
  |cons q _ f=>rw[L5,L5,f,q.1]
 ·clear h
  induction r with
  |nil=>intro i w d c;simp at c
  |cons q _ f=>
   intro i w d c hd
   cases i with
   |zero=>cases c;cases hd;show q.2
   |succ i=>show f i w d c hd
def EnvM.frz1f{N a_ m H:Hp}{T:St}{ρ:ar}{o:Om}{P:D}(E:EnvM K a_ m H T ρ)(g:Gr N a_ m H){i:Nat}(Q:ρ[i]?=Z (Z (.ob ż o)))
  (hr:∀p F,OmS K m H o p F->∃u,H p=Z u/\∀f,Same m f->f p=Z u->Rp K f P (.ref p)) (hs:o.solid=ž:=by rfl):∃f,Gr N a_ f H/\EnvM K a_ f H T (ρ.set i (Z (.v P)))/\Same m f:=by
 let⟨am,E⟩:=E;let⟨p,e,_,r⟩:=E.ow i ż _ Q;have hp:=r.mem hs;have no:=E.no i ż _ Q p hp;let⟨u,R,h2⟩:=hr p _ r;have M:=cz no.2 u
 have w:∀{j:Nat}{x:Sm},(ρ.set i (Z (Sm.v P)))[j]?=Z (Z x)->(j=i/\x=.v P)\/(j≠i/\ρ[j]?=Z (Z x)):=λ{j x} h=>by
  rcases ei h with⟨e,_,be⟩|⟨e,h⟩
  ·cases be;show .inl ⟨e,O⟩
  ·show .inr ⟨e,h⟩
 refine⟨au m p u,g.freeze no.1 no.2 R,⟨am,λb u' eb=>?_,by rw[Mc,E.len],λj d h=>?_,λj a o h=>?_,λj a o h b S=>?_,λj k a U o o' J L c=>?_,E.tb.same M⟩,M⟩
 ·by_cases c:b=p
  ·subst c;rw[aW]at eb;cases eb;show R
  ·rw[aE c]at eb;show E.fz b u' eb
 ·rcases w h with⟨c,h⟩|⟨_,h⟩
  ·cases h;subst c;show⟨_,e,h2 _ M aW⟩
  ·let⟨v,hv,rv⟩:=E.sl j d h;show⟨v,hv,rv.same M⟩
 ·rcases w h with⟨_,h⟩|⟨_,h⟩
  ·cases h
  ·let⟨q,hq,ha,rq⟩:=E.ow j a o h;show⟨q,hq,ha,rq.keep M λ_ _ _ h=>h⟩
 ·rcases w h with⟨_,h⟩|⟨c,h⟩
  ·cases h
  ·have:b≠p:=λz=>E.dj j i a ż o _ h Q c b S (by rwa[z]);rw[aE this];show E.no j a o h b S
 ·rcases w J with⟨_,J⟩|⟨_,J⟩
  ·cases J
  rcases w L with⟨_,L⟩|⟨_,L⟩
  ·cases L
  show E.dj j k a U o o' J L c
def EnvM.frz1{f h j H:Hp}{r:St}{ρ:ar}{o:Om}{m:D}(E:EnvM K h j H r ρ)(g:Gr f h j H){i:Nat}(v:ρ[i]?=Z (Z (.ob ż o)))
  (w:∀p F,OmS K j H o p F->∃u,H p=Z u/\∀c,Same j c->c p=Z u->Rp K c m (.ref p)) (z:o.solid=ž:=by rfl):∃c,Gr f h c H/\EnvM K h c H r (ρ.set i (Z (.v m))):=
 let ⟨c,g',E',_⟩:=E.frz1f g v w z
 ⟨c,g',E'⟩
def EnvM.frz{f j u H:Hp}{v:St}{ρ:ar}(E:EnvM K j u H v ρ)(g:Gr f j u H)(i:Nat):∃c,Gr f j c H/\EnvM K j c H v (iK i ρ):=by
 rw[zd];split
 ·next ds ho=>
  refine E.frz1 g ho λp F r=>?_;let⟨_,w,m,o⟩:=r.lst_inv;show⟨_,m,λc s h=>(o.same s).lst h⟩
 ·next Rc ho=>
  refine E.frz1 g ho λp F r=>?_;let⟨_,z,m,o⟩:=r.map_inv;show⟨_,m,λc s h=>Rp.map_of h (oX (λ_ _ r=>⟨r.1,r.2.same s⟩) o)⟩
 ·show⟨u,g,E⟩
def KH(i:Nat)(t:bR):bR:=λc ρ=>t c (iK i ρ)
def oR{c:Y Ë}{t:bR}(i:Nat)(h:PSsM K X c t):PSsM K X c (KH i t):=⟨λu=>(h.ps u).imp λE w H p=>by
 let⟨j,o,v,ρ,m,g,V,t,k⟩:=p;let⟨f,g',r⟩:=V.frz g i
 show⟨j,o,f,iK i ρ,m,g',r,t,k⟩⟩
end
section
variable{K:Â}{X:Cx}{e iter a:Å}{scope:â}{pos l m:Pos}{N':Y Str}{cap:Y (Ž Nat)}{c:aP}{g:cD}{j:bT}{f:TD}{i:Nat}{y:Str}
def HR{tf:aP}{E:Ends}{u:St}{H:Hp}(o:∀{u:St}{H:Hp}{Q:VK},lF K tf u H Q->gO (lI K c) cap (lG K g) (lT K j) (lE K f) u H Q)(h:lM K X (n0 i (xF tf)) E u H):i6 (gO (lI K c) cap (lG K g) (lT K j) (lE K f)) (h9 i) E u H:=by let⟨I,x,F,ρ,J,w,V,t,B⟩:=h;show o ⟨x,F,cC ρ,_,V.toD,t,λds G H' p L r v h0 A hp C=>B.nx _ _ H' _ r (w.trans v) ((V.snocO w.h v (.lst hp C) λb z=>by rw[LV.mp z];show⟨h0,A⟩).store i)⟩
def pV{k:Nat}(w:X.calm=ž)(A:X.N.Nodup)(L:X.N[i]?=Z y)(J:eL X.env.scope y)(S:CompScope X.N X.env.scope scope N' cap)(v:fb k cap=ž)(H:GM k g)(G:PID K X e iter c)
  (F:∀(cl:Y (Str×Addr))(p:Y Addr)(C:Addr)(r:À)(o:Hp),PGD K (bU X scope N' cl C r o p) e g)
  (B:∀(cl:Y (Str×Addr))(p:Y Addr)(C:Addr)(r:À)(o:Hp),PD K (bU X scope N' cl C r o p) a f) (z:Ð (.ListComp a [⟨e,iter,[],0⟩] scope pos) (Z (.Name y l)) m.line X.env=pure ž:=by rfl)
  (I:∀x,Ï iter X.env x=pure x:=by intro _;rfl) (E:X.fn y=ž\/X.env.scope.names.lookup y=Z .local:=by nofun) :
  PSM K X (.Assign [.Name y l] (.ListComp a [⟨e,iter,[],0⟩] scope pos) m) (n0 i (xF (ny c cap g f))):=
 ⟨λu=>(qJ w A L J S (G.pi u) (λcl p C r o=>(F cl p C r o).pg u) (λcl p C r o=>(qF (K:=K)).p u) (λcl p C r o=>(B cl p C r o).pe u) z I E).imp λ_ _ _ h=>HR (λq=>rX v H q) h⟩
end
def zM(z:bJ):fT:=λas R _=>∃ds,as=ds.map Sm.v/\z ds λd=>R (.v d) []
def GU{H:Hp}:cX H []=H:=funext λb=>LG (by simp)
theorem uY{K:Â}{c H:Hp}:∀{ds:Y D}{a:Y V},RpL K c ds a->ArgM K c H (ds.map Sm.v) a (ds.map λ_=>[])
 | [],[],_=>.nil
 | [],_::_,h=>by cases h.1
 |_::_,[],h=>by cases h.1
 |d::ds,v::a,h=>.v (h.2 0 v d O O) (uY ⟨by have:=h.1;simpa using this,λi u e g f=>h.2 (i+1) u e g f⟩)
def p7{a:Type}:∀(ds:Y a),(ds.map λ_=>([]:Y Addr)).flatten=[]
 | []=>rfl
 |_::ds=>by simp
def iR{K:Â}{z:bJ}:∀a H Q E,lSp K z a H Q E->lSpM K (zM z) a H Q E:=λa H Q E h=>by
 let⟨m,ds,R,sm,tb,rl,x,k⟩:=h;refine⟨m,ds.map Sm.v,ds.map λ_=>[],λs os=>∃d,s=.v d/\R d,λ_ _=>False,sm,tb,uY rl,by rw[p7];show PY,λb f=>(by rw[p7]at f;cases f),⟨ds,O,?_⟩,λs os c H' v F o r g j w u p=>?_⟩
 ·have e:R=λd=>∃d',(Sm.v d:Sm)=.v d'/\R d':=funext λd=>propext ⟨λh=>⟨d,O,h⟩,λ⟨d',e,h⟩=>by cases e;show h⟩;rwa[←e]
 ·let⟨d,rfl,r⟩:=r
  cases j with
  |v l=>
   rw[p7,GU]at g;show k d c H' v r g l
def iM{qs:Y Addr}(h:qs.length=0):qs=[]:=Nz.mp h
def km{qs:Y Addr}(h:qs.length=1):∃a,qs=[a]:=by
 match qs,h with
 | [a],_=>show⟨a,O⟩
section
variable{o:Type}[DecidableEq o]{K:Â}{p:Hp}
def bj(a:Y (o×D))(k:o):Ž D:=(a.find? λc=>decide (c.1=k)).map (·.2)
def fu(c:Y (o×D))(k:o)(d:D):Y (o×D):=if c.any (λa=>decide (a.1=k)) then c.map (λa=>if a.1=k then (a.1,d) else a) else c++[(k,d)]
theorem lB:∀{e:Y (o×D)}{f:Y (o×V)},Paired (cU K p) e f->∀k,(bj e k=ż/\dm f k=ż)\/∃d v,bj e k=Z d/\dm f k=Z v/\Rp K p d v
 |_,_,.nil,k=>.inl ⟨O,O⟩
 |_,_,.cons (a:=x) (b:=y) (l₁:=l) r t,k=>by
  by_cases c:x.1=k
  ·refine .inr ⟨x.2,y.2,?_,?_,r.2⟩
   ·unfold bj;rw[NG (by simpa using c)];rfl
   ·show pF (by rwa[←r.1])
  ·have g:bj (x::l) k=bj l k:=by unfold bj;rw[M4 (by simpa using c)]
   rw[g,ot (by rwa[←r.1])];show lB t k
theorem uy:∀{c:Y (o×D)}{e:Y (o×V)},Paired (cU K p) c e->∀k,(e.any λa=>decide (a.1=k))=c.any λa=>decide (a.1=k)
 |_,_,.nil,k=>rfl
 |_,_,.cons r t,k=>by rw[N4,N4,uy t k,r.1]
theorem xI{a c:Type}{F:a->c->Prop}{f:a->a}{g:c->c}(h:∀x y,F x y->F (f x) (g y)):∀{l:Y a}{m:Y c},Paired F l m->Paired F (l.map f) (m.map g)
 |_,_,.nil=>.nil
 |_,_,.cons r t=>.cons (h _ _ r) (xI h t)
def qC{a:Y (o×D)}{c:Y (o×V)}(h:Paired (cU K p) a c)(k:o){d:D}{v:V}(r:Rp K p d v):Paired (cU K p) (fu a k d) (eB c k v):=by
 unfold fu eB;rw[uy h k];split
 ·refine xI (λx y q=>?_) h;rw[←q.1];split
  ·show⟨O,r⟩
  ·show q
 ·show ĕ h ⟨O,r⟩
def sH(a:Y (o×D))(k:o):(bj a k).isSome=a.any λf=>decide (f.1=k):=by
 unfold bj
 induction a with
 |nil=>rfl
 |cons x r e=>
  rw[N4];by_cases c:x.1=k
  ·rw[NG (by simpa using c),Md c];rfl
  ·rw[M4 (by simpa using c),L7 c,e];rfl
def KY{a:Y (o×D)}{k:o}{d:D}(h:bj a k=ż):fu a k d=a++[(k,d)]:=by have:=sH a k;rw[h]at this;unfold fu;rw[←this];rfl
def uG(f:Y (o×D))(k j:o)(d:D):bj (fu f k d) j=if j=k then Z d else bj f j:=by
 unfold fu;split
 ·next h=>
  have:∀l:Y (o×D),bj (l.map λa=>if a.1=k then (a.1,d) else a) j=if j=k then (bj l k).map (λ_=>d) else bj l j:=by
   intro l
   induction l with
   |nil=>unfold bj;simp
   |cons x r v=>
    rw[L5];by_cases c:x.1=k
    ·rw[LI c];by_cases m:j=k
     ·rw[LI m];subst m;unfold bj;rw[NG (by simpa using c),NG (by simpa using c)];rfl
     ·rw[LG m]at v ⊢;have g:¬ x.1=j:=λe=>m (e▸c▸rfl);unfold bj at v ⊢;rwa[M4 (by simpa using g),M4 (by simpa using g)]
    ·rw[LG c];by_cases g:x.1=j
     ·have m:¬ j=k:=λe=>c (g.trans e);rw[LG m];unfold bj;rw[NG (by simpa using g),NG (by simpa using g)]
     ·have w:bj (x::List.map (λa=>if a.1=k then (a.1,d) else a) r) j=bj (List.map (λa=>if a.1=k then (a.1,d) else a) r) j:=by unfold bj;rw[M4 (by simpa using g)]
      have z:bj (x::r) j=bj r j:=by unfold bj;rw[M4 (by simpa using g)]
      have A:bj (x::r) k=bj r k:=by unfold bj;rw[M4 (by simpa using c)]
      rw[w,v,z,A]
  rw[this];split
  ·have:=sH f k;rw[h]at this
   cases e:bj f k with
   |none=>rw[e]at this;cases this
   |some y=>rfl
  ·rfl
 ·next h=>
  have u:bj f k=ż:=by
   cases e:bj f k with
   |none=>rfl
   |some y=>have:=sH f k;rw[e]at this;show absurd this.symm h
  unfold bj at u ⊢;rw[List.find?_append];by_cases c:j=k
  ·subst c;rw[LI O]
   cases e:f.find? λa=>decide (a.1=j)with
   |none=>simp
   |some y=>rw[e]at u;cases u
  ·rw[LG c]
   cases e:f.find? λa=>decide (a.1=j)with
   |none=>rw[M4 (by simpa using λe=>c e.symm)];rfl
   |some y=>rfl
def wC{a c:Type}{F:a->c->Prop}:∀{l:Y a}{m:Y c},Paired F l m->l.length=m.length:=OD
end
section
variable{K:Â}{X:Cx}{e a b m:Å}{c f:TD}{pos l A:Pos}{x:Str}{i:Nat}
def vk(o:Om):TX:=λρ R _=>R (.ob ż o) ρ
def Gh:PX K X (.Dict [] [] pos) (vk (.map [])):=⟨λv=>pe_dnewK.imp λy H Q g=>by
 let⟨o,r,j,z,ρ,w,R,u,S,t,k⟩:=g;intro p hp
 show k _ ρ j _ _ t (S.pushO (Gr.fresh S.g.s hp _) (.map aW .nil) λb h=>by rw[LV.mp h];show⟨hp,S.g.s.free hp⟩) (Same.refl _)⟩
def IJ:PX K X (.Dict [] [] pos) (vk (.mpT [])):=⟨λv=>pe_dnewT.imp λy H Q g=>by
 let⟨o,r,j,z,ρ,w,R,u,S,t,k⟩:=g;intro p hp
 show k _ ρ j _ _ t (S.pushO (Gr.fresh S.g.s hp _) (.mpT aW .nil) λb h=>by rw[LV.mp h];show⟨hp,S.g.s.free hp⟩) (Same.refl _)⟩
def EnvM.dict{o p h H:Hp}{B:St}{ρ:ar}{a:Ž Addr}{C:Y (ai×D)}(E:EnvM K p h H B ρ)(g:Gr o p h H)(y:ρ[i]?=Z (Z (.ob a (.map C)))):∃q v,B[i]?=Z (Z (.ref q))/\H q=Z (.dK v)/\Paired (cU K h) C v /\
  ∀(w:Y (ai×D))(j:Y (ai×V)),Paired (cU K h) w j->EnvM K p h (au H q (.dK j)) B (ρ.set i (Z (.ob a (.map w))))/\Gr o p h (au H q (.dK j)):=by
 let⟨G,E⟩:=E;let⟨q,e,_,r⟩:=E.ow i a _ y;have hq:=r.mem;let⟨_,v,I,J⟩:=r.map_inv;refine⟨q,v,e,I,J,λw j N=>?_⟩
 have F:∀b u,H b=Z u->b∉G i->au H q (.dK j) b=Z u:=λb u e M=>by
  rwa[aE λz=>M (by rw[z];show hq)]
 show⟨⟨_,E.put y e F (F':=[q]) (.map aW N) λb L=>.inl (by rwa[LV.mp L])⟩,E.grput g y F⟩
def EnvM.dictT{o p h H:Hp}{B:St}{ρ:ar}{a:Ž Addr}{C:Y (Y ai×D)}(E:EnvM K p h H B ρ)(g:Gr o p h H)(y:ρ[i]?=Z (Z (.ob a (.mpT C)))):∃q v,B[i]?=Z (Z (.ref q))/\H q=Z (.dT v)/\Paired (cU K h) C v /\
  ∀(w:Y (Y ai×D))(j:Y (Y ai×V)),Paired (cU K h) w j->EnvM K p h (au H q (.dT j)) B (ρ.set i (Z (.ob a (.mpT w))))/\Gr o p h (au H q (.dT j)):=by
 let⟨G,E⟩:=E;let⟨q,e,_,r⟩:=E.ow i a _ y;have hq:=r.mem;let⟨_,v,I,J⟩:=r.mpT_inv;refine⟨q,v,e,I,J,λw j N=>?_⟩
 have F:∀b u,H b=Z u->b∉G i->au H q (.dT j) b=Z u:=λb u e M=>by
  rwa[aE λz=>M (by rw[z];show hq)]
 show⟨⟨_,E.put y e F (F':=[q]) (.mpT aW N) λb L=>.inl (by rwa[LV.mp L])⟩,E.grput g y F⟩
def ownD(ρ:ar)(i:Nat)(k:Ž Addr->Y (ai×D)->Prop):Prop:=match ρ[i]? with|some (Z (.ob a (.map Rc)))=>k a Rc|_=>False
def ownD.get{ρ:ar}{i:Nat}{k:Ž Addr->Y (ai×D)->Prop}(h:ownD ρ i k):∃a g,ρ[i]?=Z (Z (.ob a (.map g)))/\k a g:=by
 unfold ownD at h;split at h
 ·next a ds e=>show⟨a,ds,e,h⟩
 ·show h.elim
def ownT(ρ:ar)(i:Nat)(k:Ž Addr->Y (Y ai×D)->Prop):Prop:=match ρ[i]? with|some (Z (.ob a (.mpT Rc)))=>k a Rc|_=>False
def ownT.get{ρ:ar}{i:Nat}{k:Ž Addr->Y (Y ai×D)->Prop}(h:ownT ρ i k):∃a g,ρ[i]?=Z (Z (.ob a (.mpT g)))/\k a g:=by
 unfold ownT at h;split at h
 ·next a ds e=>show⟨a,ds,e,h⟩
 ·show h.elim
def xR{h:Hp}{g:Y ai}{v:V}(r:Rp K h (.tup (g.map cH)) v):∃q,v=.ref q/\h q=Z (.tup (g.map kV)):=by
 cases r with
 |tup j o p=>
  cases my ⟨o,p⟩;show⟨_,O,j⟩
def zo(g:Bool)(i:Nat)(c:TD):fZ:=λρ R _=>c (cC ρ) λd=>∃k,d=cH k/\ownD ρ i λ_ h=>R (g != (bj h k).isSome) ρ
def v8(g:Bool)(i:Nat)(c:TD):fZ:=λρ R _=>c (cC ρ) λd=>∃h:Y ai,d=.tup (h.map cH)/\ownT ρ i λ_ j=>R (g != (bj j h).isSome) ρ
def IW{j:Bool}{C:St}{H:Hp}{Q:Bool->Hp->Prop}(h:lXb K X (zo j i c) C H Q):lE K c C H λy p=>jW i C p λx E=>∃a o,x=.ref a/\DGet E a y o/\Q (j != o.isSome) E:=by
 let⟨T,I,P,am,ρ,be,R,U,S,t,k⟩:=h;refine⟨I,P,cC ρ,_,S.env.toD,t,λd B p v r g N=>?_⟩;let⟨w,rfl,r⟩:=r;let⟨a,J,M,r⟩:=ownD.get r;cases jH N;have u:=S.gr g;let⟨q,a_,L,hq,z,_⟩:=u.env.dict u.g M;refine⟨_,L,q,_,O,DGet.k hq,?_⟩
 have e:(dm a_ w).isSome=(bj J w).isSome:=by rcases lB z w with⟨F,G⟩|⟨d,v,F,G,_⟩<;>rw[F,G]<;>rfl
 rw[e];show k _ ρ B p r u g.f
def ED{j:Bool}{E:St}{H:Hp}{Q:Bool->Hp->Prop}(h:lXb K X (v8 j i c) E H Q):lE K c E H λy u=>jW i E u λx F=>∃a o,x=.ref a/\DGet F a y o/\Q (j != o.isSome) F:=by
 let⟨U,J,T,τ,ρ,am,R,be,S,t,k⟩:=h;refine⟨J,T,cC ρ,_,S.env.toD,t,λd C u v r g a_=>?_⟩;let⟨z,rfl,r⟩:=r;let⟨a,L,N,r⟩:=ownT.get r;let⟨p,rfl,hp⟩:=xR a_;have w:=S.gr g;let⟨q,P,M,hq,B,_⟩:=w.env.dictT w.g N;refine⟨_,M,q,_,O,DGet.t hq (g.s _ _ hp),?_⟩
 have e:(dm P z).isSome=(bj L z).isSome:=by rcases lB B z with⟨G,I⟩|⟨d,v,G,I,_⟩<;>rw[G,I]<;>rfl
 rw[e];show k _ ρ C u r w g.f
def qU(b:Bool):(β != b)=b:=by cases b<;>rfl
def CK(b:Bool):(ž != b)=!b:=by cases b<;>rfl
def va{t:TD}{p:St}{H:Hp}{Q o:VK}(h:lE K t p H Q)(hq:∀v H',Q v H'->o v H'):lE K t p H o:=by let⟨u,y,ρ,R,E,t,k⟩:=h;show⟨u,y,ρ,R,E,t,λd j H' v r g w=>hq _ _ (k d j H' v r g w)⟩
def uC{j:Nat}{o:St}{H:Hp}{Q g:VK}(h:jW j o H Q)(hq:∀v H',Q v H'->g v H'):jW j o H g:=let ⟨v,e,q⟩:=h;⟨v,e,hq _ _ q⟩
def Hg(i:Nat)(G:X.A.units+64<ã)(B:PD K X e c)(y:X.N[i]?=Z x:=by rfl)(E:du X.env.scope x:=by nofun)(hd:ab x:=by decide)(j:ad x:=by decide)
  (C:behindInMarks .In (.Name x l)=β:=by rfl):PXB K X (.Compare e [.In] [.Name x l] pos) (zo β i c):=
 ⟨λu=>(wj (vB () (B.pe u) (pv i y E hd j)) C).imp λI H Q h=>va (IW h) λv H' q=>uC q λw F z=>by
  let⟨a,o,p,r,g⟩:=z;rw[qU]at g
  show⟨a,o,p,r,_,O,g⟩⟩
def Ep(i:Nat)(G:X.A.units+64<ã)(B:PD K X e c)(y:X.N[i]?=Z x:=by rfl)(E:du X.env.scope x:=by nofun)(hd:ab x:=by decide)(j:ad x:=by decide)
  (C:behindInMarks .In (.Name x l)=β:=by rfl):PXB K X (.Compare e [.In] [.Name x l] pos) (v8 β i c):=
 ⟨λu=>(wj (vB () (B.pe u) (pv i y E hd j)) C).imp λI H Q h=>va (ED h) λv H' q=>uC q λw F z=>by
  let⟨a,o,p,r,g⟩:=z;rw[qU]at g
  show⟨a,o,p,r,_,O,g⟩⟩
def Il(i:Nat)(c:TD)(f:TD):bR:=λh ρ=>f (cC ρ) λd=>c (cC ρ) λo=>∃k,o=cH k/\ownD ρ i λa g=>g.length<sizeLine/\NF (fu g k d) λj=>h.nx (ρ.set i (Z (.ob a (.map j))))
def J8(i:Nat)(hu:X.A.units+64<ã)(Q:PD K X e c)(P:PD K X m f)(a_:X.N[i]?=Z x:=by rfl)(S:du X.env.scope x:=by nofun)(hd:ab x:=by decide)(M:ad x:=by decide)
  (R:Ð m (Z (.Subscript (.Name x l) e A)) pos.line X.env=pure β:=by rfl):PSM K X (.Assign [.Subscript (.Name x l) e A] m pos) (λz ρ=>(ownD ρ i λ_ _=>True)/\Il i c f z ρ):=
 ⟨λJ=>(zO () (pv i a_ S hd M) (Q.pe J) (P.pe J) R).imp λE σ H L=>by
  let⟨Φ0,B,Φ,ρ,z,g,V,⟨h,t⟩,k⟩:=L;let⟨a,Rc,h,_⟩:=ownD.get h;refine⟨B,Φ,cC ρ,_,V.toD,t,λd u H1 v be p rv=>?_⟩;have o:=V.gr p;let⟨q,ws,G,hq,am,_⟩:=o.dict (g.trans p) h;refine⟨_,G,B,u,cC ρ,_,o.toD,be,λkd y H2 w j r rw=>?_⟩;let⟨U,rfl,j⟩:=j;let⟨a2,Yu,C,hl,j⟩:=ownD.get j;rw[h]at C;cases C;cases jH rw;let⟨q2,ws2,I,N,F,T⟩:=(o.gr r).dict ((g.trans p).trans r) h;rw[G]at I;cases I;let⟨z1,z2⟩:=T _ _ (qC F U (rv.same r.f))
  show⟨q,_,O,DPut.k N (by rwa[←wC F]),k.nx _ y _ σ j.get z2 z1⟩⟩
def Ez(i:Nat)(c:TD)(f:TD):bR:=λj ρ=>f (cC ρ) λd=>c (cC ρ) λp=>∃h:Y ai,p=.tup (h.map cH)/\ownT ρ i λa g=>g.length<sizeLine/\NF (fu g h d) λo=>j.nx (ρ.set i (Z (.ob a (.mpT o))))
def Aj(i:Nat)(hu:X.A.units+64<ã)(R:PD K X e c)(Q:PD K X m f)(P:X.N[i]?=Z x:=by rfl)(T:du X.env.scope x:=by nofun)(hd:ab x:=by decide)(M:ad x:=by decide)
  (S:Ð m (Z (.Subscript (.Name x l) e A)) pos.line X.env=pure β:=by rfl):PSM K X (.Assign [.Subscript (.Name x l) e A] m pos) (λz ρ=>(ownT ρ i λ_ _=>True)/\Ez i c f z ρ):=
 ⟨λJ=>(zO () (pv i P T hd M) (R.pe J) (Q.pe J) S).imp λE σ H L=>by
  let⟨Φ0,B,Φ,ρ,z,g,V,⟨h,t⟩,k⟩:=L;let⟨a,Rc,h,_⟩:=ownT.get h;refine⟨B,Φ,cC ρ,_,V.toD,t,λd u H1 v am r rv=>?_⟩;have p:=V.gr r;let⟨q,ws,G,hq,rel,_⟩:=p.dictT (g.trans r) h;refine⟨_,G,B,u,cC ρ,_,p.toD,am,λkd y H2 w j o rw=>?_⟩;let⟨be,rfl,j⟩:=j;let⟨a2,Yu,C,hl,j⟩:=ownT.get j;rw[h]at C;cases C;let⟨pk,rfl,a_⟩:=xR rw;let⟨q2,ws2,I,N,F,U⟩:=(p.gr o).dictT ((g.trans r).trans o) h;rw[G]at I;cases I;let⟨z1,z2⟩:=U _ _ (qC F be (rv.same o.f))
  show⟨q,_,O,DPut.t N (o.s _ _ a_) (by rwa[←wC F]),k.nx _ y _ σ j.get z2 z1⟩⟩
end
section
variable{K:Â}{X:Cx}
def xN(i j:Int):Prop:=0<=j/\∃m:Nat,0<m/\i.natAbs<2^m/\(m:Int)*j<=134217728
def Ad:bG X (Î .Pow) (rI xN λi j=>.int (i^j.toNat)):=kW λi j _ _ _ _ _ c q=>by
 let⟨h0,m,g,e,f⟩:=c;refine pow_int h0 ?_ q;have a:((PySem.Builtin.Int.intBits i:Nat):Int)<=(m:Int):=Int.ofNat_le.mpr (sY g e);show Int.le_trans (PH a h0) f
def uV:OpD K X (Î .Pow) (zI xN λi j=>.int (i^j.toNat)):=oN Ad
end
section
variable{K:Â}{X:Cx}{e a:Å}{c td:TD}{pos:Pos}{i:Nat}
theorem vw{j:Hp}:∀{f:Y (ai×D)}{g:Y (ai×V)},g.map (·.1)=f.map (·.1)->(∀(i:Nat)(w:ai×V)(d:ai×D),g[i]?=Z w->f[i]?=Z d->Rp K j d.2 w.2)->Paired (cU K j) f g
 | [],[],_,_=>.nil
 | [],_::_,h,_=>by cases h
 |_::_,[],h,_=>by cases h
 |k::f,w::g,h,r=>by rw[L5,L5]at h;injection h with h1 h2;show .cons ⟨h1.symm,r 0 w k O O⟩ (vw h2 λi w d l hd=>r (i+1) w d l hd)
def Rp.map_inv{f:Hp}{g:Y (ai×D)}{v:V}(h:Rp K f (.map g) v):∃p j,v=.ref p/\f p=Z (.dK j)/\Paired (cU K f) g j:=by
 cases h with
 |map l m o=>show⟨_,_,O,l,vw m o⟩
def B8(td c:TD):TD:=λρ R=>td ρ λd=>c ρ λf=>match d with|.map Rc=>∃k y,f=cH k/\bj Rc k=Z y/\R y|_=>False
def AQ(S:X.A.units+64<ã)(C:PD K X a td)(F:PD K X e c)(G:qN e):PD K X (.Subscript a e pos) (B8 td c):=
 ⟨λu=>(Jp () (C.pe u) (F.pe u) G).imp λa_ H Q A=>by
  let⟨o,N,ρ,R,E,t,k⟩:=A;refine⟨o,N,ρ,_,E,t,λd l am v J r M=>⟨o,l,ρ,_,E.gr r,J,λT m z w h g rw=>?_⟩⟩
  cases d with
  |map P=>
   let⟨I,y,rfl,x,h⟩:=h;let⟨p,U,rfl,hp,j⟩:=M.map_inv;cases jH rw;rcases lB j I with⟨f,_⟩|⟨d,w,f,B,L⟩
   ·rw[x]at f;cases f
   ·rw[x]at f;cases f;show⟨p,w,O,by rw[←B];show DGet.k (g.s _ _ (g.f _ _ hp)),k _ m z w h (r.trans g) (L.same g.f)⟩
  |_=>show h.elim⟩
end
end L2
namespace L2
open PySem PySem.Spec PySem.W PyProof.Rows PySem.Calls
section
variable{prog:Æ}{w:Ç}{K:Type}[DecidableEq K]{knd:KeyKind prog w K}{A:É}{E:Value->À->Prop}{s:À}
def SqN(b:Bool)(h:Heap)(l:Addr)(xs:Array Value):Prop:=∃o,h.get? l=Z o/\o.cls=.type (if b=ž then "list" else "tuple")/\o.dict=ż/\∃n,o.data=.seq xs n
def SqN.keep{b:Bool}{h h':Heap}{l:Addr}{xs:Array Value}(x:SqN b h l xs)(k:∀c o,h.get? c=Z o->h'.get? c=Z o):SqN b h' l xs:=by let⟨o,e,r⟩:=x;show⟨o,k _ _ e,r⟩
def SqN.nokeys{b:Bool}{l:Addr}{xs:Array Value}{Q:Ž Value->À->Prop}(x:SqN b s.heap l xs)(a:A.handled=ż)
  (h:∀h' f,(∀b o,s.heap.get? b=Z o->h'.get? b=Z o)->Q ż { s with heap:=h',toks:=f }):wpAny (Ä prog w) A (Ğ (.ref l) "keys") Q E s:=by
 let⟨o,e,c,d,n,q⟩:=x
 cases b with
 |true=>show Ea e c q d a h
 |false=>show Hm e c q d a h
def SqN.iter{b:Bool}{l:Addr}{xs:Array Value}{Q:Value->À->Prop}(x:SqN b s.heap l xs)
  (h:∀h',(∀b o,s.heap.get? b=Z o->h'.get? b=Z o)->ItB b h' s.heap.objs.size l xs 0->Q (.ref s.heap.objs.size) { s with heap:=h' }):wpAny (Ä prog w) A (ņ (.ref l)) Q E s:=by
 let⟨o,e,c,d,n,q⟩:=x
 cases b with
 |true=>show N6 (items:=xs) ⟨o,e,c,n,q⟩ (h _ (λb o z=>LK _ z) ⟨⟨_,LS _ O,O,O⟩,o,LK _ e,c,n,q⟩)
 |false=>show P9 (items:=xs) ⟨o,e,c,n,q⟩ (h _ (λb o z=>LK _ z) ⟨⟨_,LS _ O,O,O⟩,o,LK _ e,c,n,q⟩)
def FL{b:Bool}{l:Addr}{xs:Y Value}{pr:Y (K×Value)}{Q:Value->À->Prop}(R:A.handled=ż)(hl:SqN b s.heap l xs.toArray)(hz:xs.length<=sizeLine)(m:xs.length=pr.length)
  (hp:∀(j:Nat)(x:Value)(p:K×Value),xs[j]?=Z x->pr[j]?=Z p->∃a C,x=.ref a/\ä s.heap a #[C,p.2]/\knd.is p.1 C=ž)
  (h:∀h' I,(∀c o,s.heap.get? c=Z o->h'.get? c=Z o)->h'.DictOf knd s.heap.objs.size (jL [] pr)->Q (.ref s.heap.objs.size) { s with heap:=h',toks:=I }) :
  wpAny (Ä prog w) A (call (.type "dict") [.ref l]) Q E s:=by
 refine callType_codes (Q₁:=λobj f=>obj=.ref s.heap.objs.size/\f={ s with heap:=s.heap.push { cls:=.type "dict",data:=.dict #[] } }) F.kt_called_dict (F.kt_typeCall_dict_1 _) F.entry_dict_init (kt_code_dict_new _ ⟨O,O⟩) ?_;rintro obj f ⟨rfl,rfl⟩;have z:(s.heap.push { cls:=.type "dict",data:=.dict #[] }).DictOf knd s.heap.objs.size []:=Heap.DictOf.new s.heap;have k0:∀c o,s.heap.get? c=Z o->(s.heap.push { cls:=.type "dict",data:=.dict #[] }).get? c=Z o:=λc o e=>LK _ e
 have J:l<s.heap.objs.size:=by let⟨o,e,_⟩:=hl;show LU e
 have G:=hl.keep k0;refine⟨z.typeIs,F.args_dict_init_2 _ _,?_⟩;unfold Builtin.«dict.__init__»;refine LD ?_;unfold Builtin.Dict.selfAndRest;refine LD (wpAny_notOrdered_dict z.typeIs ?_);change wpAny _ _ (pure (s.heap.objs.size,[Value.ref l])) _ _ _;refine LP ?_;change wpAny _ _ (Builtin.Dict.updateFrom "dict.__init__" s.heap.objs.size (.ref l) [] .none) _ _ _;unfold Builtin.Dict.updateFrom;let⟨o,e,c,dn,n,q⟩:=id G;refine LD (Ox (T:=if b=ž then "list" else "tuple") ⟨o,e,c⟩ ?_);rw[LI (by cases b<;>decide)];refine LD (G.nokeys R λa_ y u=>?_);rw[LI (by rfl)];refine LD (OW ?_);have be:=G.keep u;refine LD (SqN.iter (s:={ s with heap:=a_,toks:=y }) be λP H X=>?_)
 have B:s.heap.objs.size<a_.objs.size:=by let⟨o',N,M,g,_⟩:=z;show LU (u _ _ g)
 have U:P.DictOf knd s.heap.objs.size []:=by let⟨o',N,M,g,r⟩:=z;show⟨o',N,M,H _ _ (u _ _ g),r⟩
 refine LP ⟨NU nG _,?_⟩;refine vI (A:=A.in1) (b:=b) (pr:=pr) (res:=.none) R (LZ B) (NC J) (NC (Qr J B)) xs.length 0 0 0 { s with heap:=P,toks:=y } [] (wants (λr v=>r=Value.none/\Q (Value.ref s.heap.objs.size) v) E) () X U ⟨m,λj x p am e2=>?_⟩ (by simpa using hz) λh' I kk S=>⟨O,?_⟩
 ·let⟨a,C,r1,⟨o',g,r2⟩,r3⟩:=hp j x p am e2;have L:a<s.heap.objs.size:=LU g;show⟨a,C,r1,LZ L,LZ (Qr L B),⟨o',H _ _ (u _ _ (k0 _ _ g)),r2⟩,r3⟩
 ·refine h h' I (λc o e=>?_) S;have cl:c<s.heap.objs.size:=LU e;show kk c o (LZ cl) (LZ (Qr cl B)) (H _ _ (u _ _ (k0 _ _ e)))
end
end L2
namespace L2
open PySem PySem.Spec PySem.W PyProof.Rows PySem.Calls
def js(c:Y (ai×D))(ps:Y (ai×D)):Y (ai×D):=ps.foldl (λa p=>fu a p.1 p.2) c
def iX(c:Y (ai×V))(ps:Y (ai×V)):Y (ai×V):=ps.foldl (λa p=>eB a p.1 p.2) c
def ia(p:ai×D):D:=.tup [cH p.1,p.2]
section
variable{K:Â}{X:Cx}
theorem vJ{a c:Type}{F G:a->c->Prop}(h:∀x y,F x y->G x y):∀{l:Y a}{m:Y c},Paired F l m->Paired G l m
 |_,_,.nil=>.nil
 |_,_,.cons r t=>.cons (h _ _ r) (vJ h t)
theorem vV{c:Hp}:∀{ps:Y (ai×D)}{j:Y (ai×V)},Paired (cU K c) ps j->∀{f:Y (ai×D)}{g:Y (ai×V)},Paired (cU K c) f g->Paired (cU K c) (js f ps) (iX g j)
 |_,_,.nil,_,_,h=>h
 |_,_,.cons (a:=x) (b:=y) r t,_,_,h=>by
  have e:=qC h x.1 r.2;rw[r.1]at e;have:=vV t e;rw[←r.1]at this;unfold js iX at *;rwa[Oi,Oi,←r.1]
theorem zC:∀{g:Y (ai×V)}{pr:Y (ai×Value)},KV g pr->∀{f:Y (ai×V)}{c:Y (ai×Value)},KV f c->KV (iX f g) (jL c pr)
 |_,_,.nil,_,_,h=>h
 |_,_,.cons (a:=x) (b:=y) r t,_,_,h=>by
  have e:=KV.put h x.1 r.2;have:=zC t e;unfold iX jL at *;rwa[Oi,Oi,←r.1]
theorem zD:∀(pr a:Y (ai×Value)),(jL a pr).length<=a.length+pr.length
 | [],a=>LM _
 |p::pr,a=>by
  have c:=zD pr (Ş a p.1 p.2);have e:=Ű a p.1 p.2;change (jL (Ş a p.1 p.2) pr).length<=_;rw[LX];omega
def Ft{a:Type}{l:Y a}(h:l.length=2):∃x y,l=[x,y]:=by
 match l,h with
 | [x,y],_=>show⟨x,y,O⟩
def Dl{c:Y (Addr×Obj)}{s:À}{A:St}{H e:Hp}(I:Inv X c A H s)(sm:Same e H){p:ai×D}{v:V}{u:Value}(h:Rp K e (ia p) v)(r:RelV v u) :
  ∃(y:V)(g:Value)(a:Addr)(f:Value),Rp K e p.2 y/\RelV y g/\u=.ref a/\ä s.heap a #[f,g]/\(bK X.prog X.w).is p.1 f=ž:=by
 let⟨a,C,rfl,_,j,rl⟩:=RpQ.tup (K:=K) (H:=H) sm (.inl h);let⟨x,y,rfl⟩:=Ft rl.1
 have o:u=.ref a:=by cases r;rfl
 let⟨_,B,w,T⟩:=(show ObjOk X.prog X.w H s.heap a (.tup [x,y])from I.hok a _ (sm _ _ j));let⟨f,g,rfl,l,z⟩:=rh w;have g0:Rp K e (cH p.1) x:=rl.2 0 x _ O O;have m:Rp K e p.2 y:=rl.2 1 y _ O O;rw[jH g0]at l;show⟨y,g,a,f,m,z,o,T.tup,ju l⟩
def Fe{l:Y (Addr×Obj)}{s:À}{T:St}{H w:Hp}(I:Inv X l T H s)(sm:Same w H)(ps:Y (ai×D)):∀(g:Y V)(its:Y Value),RpL K w (ps.map ia) g->Vals g its->
  ∃(o:Y (ai×V))(pr:Y (ai×Value)),Paired (cU K w) ps o/\KV o pr/\its.length=pr.length/\∀(j:Nat)(x:Value)(p:ai×Value),its[j]?=Z x->pr[j]?=Z p->∃a A,x=.ref a/\ä s.heap a #[A,p.2]/\(bK X.prog X.w).is p.1 A=ž:=by
 induction ps with
 |nil=>
  intro g its h r;have e:=h.1;have f:=Vals.length r;have:its=[]:=PR (by rw[←f,e];rfl);subst this;show⟨[],[],.nil,.nil,O,λj x p e=>by simp at e⟩
 |cons p ps J=>
  intro g its h r
  cases r with
  |nil=>show absurd h.1 (by simp)
  | @cons v u g its S R=>
   let⟨o,pr,N,U,P,Q⟩:=J g its (h.drop 1) R;let⟨y,M,a,L,B,C,E,F,G⟩:=Dl I sm (h.2 0 v (ia p) O O) S;refine⟨(p.1,y)::o,(p.1,M)::pr,.cons ⟨O,B⟩ N,.cons ⟨O,C⟩ U,by rw[LX,LX,P],λj z c m f=>?_⟩
   cases j with
   |zero=>
    rw[List.getElem?_cons_zero]at m f;cases m;cases f;show⟨a,L,E,F,G⟩
   |succ j=>
    rw[O0]at m f;show Q j z c m f
def FY:bJ:=λds R=>match ds with
 | [q]=>∃ps:Y (ai×D),(q=.lst (ps.map ia)\/q=.tup (ps.map ia))/\R (.map (js [] ps))
 |_=>False
def yA(a_:X.calm=ž):CallD K X (.type "dict") FY:=⟨λhK l s σ H xs us Q I j M=>by
 let⟨Φ,ds,R,sm,hl,h,k⟩:=M
 match ds,h with
 | [q],⟨ps,hq,N⟩=>
  let⟨v,rfl,r⟩:=eX hl;have J:=I.ok.hd a_
  have go:∀(b:Bool)(a:Addr)(f:Y V)(its:Y Value),RpL K Φ (ps.map ia) f->Vals f its->SqN b s.heap a its.toArray->its.length<=sizeLine->wpAny (Ä X.prog X.w) X.A (call (.type "dict") [.ref a]) (EP X l σ Q) X.xe s:=λb a f its rl U be A=>by
   let⟨C,pr,m,p,S,T⟩:=Fe I sm ps f its rl U;refine FL (knd:=bK X.prog X.w) J be A S T λh' am kp L=>?_;have F:=I.hok.fresh (LM s.heap.objs.size);have G:=zC p (.nil:KV [] [])
   have P:(iX [] C).length<=sizeLine:=by
    have E:=OD G;have w:=zD pr [];simp only[MP]at w;omega
   refine⟨.ref s.heap.objs.size,_,I.laid (t':=am) kp (LM _) (show ObjOk X.prog X.w _ h' _ (.dK (iX [] C))from ⟨P,Nk.mpr (Mo (LZ I.big)),_,G,L⟩),O,k _ _ _ _ N (.new sm F _) ?_⟩;have sn:=cz (sm.free F) (.dK (iX [] C));show Rp.map_of aW (vV (vJ (λx y z=>⟨z.1,z.2.same sn⟩) m) .nil)
  rcases hq with rfl|rfl
  ·let⟨a,f,rfl,m,p⟩:=r.lst sm
   cases j with
   |cons B j=>
   cases j;cases B;let⟨A,its,n,u,E,w⟩:=I.lstM m;show go ž a f its p u ⟨_,w,O,O,_,O⟩ (by rwa[←E])
  ·let⟨a,f,rfl,_,m,p⟩:=r.tup sm
   cases j with
   |cons B j=>
   cases j;cases B;let⟨A,its,u,o,e,⟨c,d⟩,n,g⟩:=(show ObjOk X.prog X.w H s.heap a (.tup f)from I.hok a _ (sm _ _ m))
   show go β a f its p u ⟨o,e,c,d,n,g⟩ (by rwa[←u.length])⟩
end
end L2
namespace L2
open PySem PySem.Spec PySem.W PyProof.Rows PySem.Calls
def Fz(td f e:TD):TD:=λρ R=>td ρ λd=>(match d with|.map _=>True|_=>False)/\f ρ λc=>e ρ λa=>match d with|.map Rc=>∃k,c=cH k/\R ((bj Rc k).getD a)|_=>False
section
variable{K:Â}{X:Cx}{a b c:Å}{m tb l:TD}{g j:Pos}
def HG:tm X "dict.get" (λx xs H Q=>∃p f k y,x=.ref p/\xs=[kV k,y]/\H p=Z (.dK f)/\Q ((dm f k).getD y) H):=by
 intro B s R H x xs v U Q I G rs ⟨p,f,k,y,C,o,hp,q⟩;subst C o;let⟨u,L,rfl,F,J⟩:=rh rs;cases G;let⟨z,hd,M,r,A⟩:=vQ I.hok hp;refine call_meetsIn QR A.typeIs PySem.F.entry_dict_get (PySem.F.args_dict_get_3 _ _ _) (meets_dict_get_default (bK X.prog X.w) p (ju F) hd L) ⟨_,A.mapOf,?_⟩;refine⟨_,H,I.tok _,?_,q⟩;have h:=r.val k
 cases e:dm f k with
 |none=>
  rw[e]at h
  cases o:ú M k with
  |none=>show J
  |some w=>rw[o]at h;show h.elim
 |some w=>
  rw[e]at h;let⟨P,E,N⟩:=RelO.some_of h;rwa[E]
def qk{pos : Pos}{e f : Å}{env : ó}(h : Á [e, f] env = (β, eval e env) :: Á [f] env)(o : Á [f] env = (β, eval f env) :: Á [] env) : ((Ñ pos (Á [e, f] env)).all (λx=> !x.1)&&(ì pos (Û [] env)).all (λx=>x.1.isSome)
      && decide ([e, f].length + ([] : Y Ö).length + (if ([] : Y Ö).isEmpty then 0 else 1) < 30)) = ž:= by
 rw[h,o];rfl
def sN(am:PD K X a m)(hb:PD K X b tb)(hd:PD K X c l)(T:((Ñ j (Á [b,c] X.env)).all (λx=>!x.1)&&(ì j (Û [] X.env)).all (λx=>x.1.isSome)&&decide (([b,c]:Y Å).length+([]:Y Ö).length+(if ([]:Y Ö).isEmpty then 0 else 1)<30))=ž)
  (J:Á [b,c] X.env=(β,eval b X.env)::Á [c] X.env) (be:Á [c] X.env=(β,eval c X.env)::Á [] X.env) (B:(Ñ j (Á [c] X.env)).any (·.1)=β)
  (P:Ò a "get" X.env (eval a X.env)=eval a X.env:=by rfl) (S:(g.endLine==j.line)=ž:=by rfl):PD K X (.Call (.Attribute a "get" g) [b,c] [] j) (Fz m tb l):=
 ⟨λA=>(j5 PySem.F.plainAttrs_dict QR PySem.F.type_dict_get HG (am.pe A) (dR (hb.pe A) (dR (hd.pe A) pa_nil be) J) P T S J B).imp λσ H Q U=>by
  let⟨u,Φ,ρ,R,E,t,k⟩:=U;refine⟨u,Φ,ρ,_,E,t,λdx F H1 x N h rx=>?_⟩
  cases dx with
  |map Rc=>
   let⟨p,a_,rfl,hp,C⟩:=rx.map_inv;refine⟨.inr (.inr (.inl ⟨O,.inl ⟨a_,h.s _ _ hp⟩⟩)),u,F,ρ,_,E.gr h,N.2,λkd G H2 w t2 o rw=>⟨u,G,ρ,_,(E.gr h).gr o,t2,λed f I y e r ry=>?_⟩⟩;let⟨M,rfl,e⟩:=e;cases jH rw;refine⟨p,a_,M,y,O,O,r.s _ _ (r.f _ _ (o.f _ _ hp)),?_⟩;have L:=(h.trans o).trans r;rcases lB C M with⟨v,z⟩|⟨d,w,v,z,rd⟩
   ·rw[v]at e;rw[z];show k _ f I _ e L ry
   ·rw[v]at e;rw[z];show k _ f I _ e L ((rd.same o.f).same r.f)
  |_=>show N.1.elim⟩
end
end L2
namespace L2
open PySem PySem.Spec PyProof.Rows
section
variable{X:Cx}{pos:Pos}
def Fg(i j k:Nat)(e:TA):TS:=λD a H=>e a H λf c=>∃u v w,f=[u,v,w]/\D.nx (((a.set k (Z w)).set j (Z v)).set i (Z u)) c
def Dt{i j k:Nat}{x y z:Str}{a b c:Å}{a_:TA}{C E F pt:Pos}{kt k2 U7}(hc:X.calm=ž)(A:X.N.Nodup)(hi:X.N[i]?=Z x)(hj:X.N[j]?=Z y)(hk:X.N[k]?=Z z)
  (L:X.env.scope.names.lookup x=Z .local) (M:X.env.scope.names.lookup y=Z .local) (N:X.env.scope.names.lookup z=Z .local) (ha:PA X [a,b,c] a_)
  (hw:ç [.Tuple [.Name x C,.Name y E,.Name z F] kt pt] (.Tuple [a,b,c] k2 U7) X.env=pure (Z [x,y,z]))
  (hs:æ [.Tuple [.Name x C,.Name y E,.Name z F] kt pt] (.Tuple [a,b,c] k2 U7) pos.line X.env=pure β:=by rfl) :
  PS X (.Assign [.Tuple [.Name x C,.Name y E,.Name z F] kt pt] (.Tuple [a,b,c] k2 U7) pos) (Fg i j k a_):=by
 intro f s P H D I h;rw[exec_Assign_arm];refine LD (O9 ?_);rw[hs];refine LD (LP ?_);rw[LG 'b'];refine LD (Tuple_ (ay (ha _ f s P H _ I h) λus g ⟨vs,K,Q,r1,J⟩=>?_));let⟨u,v,w,e1,J⟩:=J;subst e1
 obtain⟨l,m,r,rfl,ru,rv,am⟩:∃l m r,us=[l,m,r]/\RelV u l/\RelV v m/\RelV w r:=by
  cases r1 with
  |cons p q=>
   cases q with
   |cons p' q'=>
    cases q' with
    |cons B G=>
     cases G;show⟨_,_,_,O,p,p',B⟩
 refine M5 ?_ (by change 3<=sizeLine;decide);have R:Inv X f P K { g with heap:=g.heap.push { cls:=.type "tuple",data:=.seq [l,m,r].toArray } }:=Q.kept (t':=g.toks) λb o e=>LK _ e;rw[hw];refine LD (LP ?_);change wpAny (Ä X.prog X.w) X.A (do rule "assign.swapped-stores";let items ←unpackItems (.ref g.heap.objs.size) 3 ż;assignInOrder [λv=>ā X.env z v,λv=>ā X.env y v,λv=>ā X.env x v] items.reverse;pure Flow.next) _ _ _;refine LD (OW (LD (unpackItems_tuple (items:=#[l,m,r]) (I.ok.hd hc) (ä.new g.heap _) λh' Tb=>?_)));have S:=R.kept (h':=h') (t':=g.toks) λb o e=>Tb b o (LZ (LU e)) e;change wpAny _ _ (assignInOrder [λv=>ā X.env z v,λv=>ā X.env y v,λv=>ā X.env x v] [r,m,l] >>= λ_=>pure Flow.next) _ _ _;refine LD (ON (ě (jG S A hk (.inl N) am (λs2 T=>?_) (.inr N))));refine ON (ě (jG T A hj (.inl M) rv (λs3 U=>?_) (.inr M)));refine ON (ě (jG U A hi (.inl L) ru (λs4 be=>assignInOrder_nil (LP ?_)) (.inr L)));show⟨_,K,be,J⟩
end
section
variable{K:Â}{X:Cx}{pos:Pos}{tl:aP}
def DL(i j k:Nat)(tl:aP):cu:=λe ρ=>tl ρ λds=>∃a b c,ds=[a,b,c]/\e.nx (((ρ.set k (Z (.v c))).set j (Z (.v b))).set i (Z (.v a)))
def KP{i j k:Nat}{x y z:Str}{a b c:Å}{f l m pt:Pos}{kt k2 U7}(L:X.calm=ž)(J:X.N.Nodup)(M:X.N[i]?=Z x)(N:X.N[j]?=Z y)(a_:X.N[k]?=Z z)
  (R:X.env.scope.names.lookup x=Z .local) (S:X.env.scope.names.lookup y=Z .local) (T:X.env.scope.names.lookup z=Z .local) (h:PAD K X [a,b,c] tl)
  (Q:ç [.Tuple [.Name x f,.Name y l,.Name z m] kt pt] (.Tuple [a,b,c] k2 U7) X.env=pure (Z [x,y,z]))
  (P:æ [.Tuple [.Name x f,.Name y l,.Name z m] kt pt] (.Tuple [a,b,c] k2 U7) pos.line X.env=pure β:=by rfl) :
  PSD K X (.Assign [.Tuple [.Name x f,.Name y l,.Name z m] kt pt] (.Tuple [a,b,c] k2 U7) pos) (DL i j k tl):=
 ⟨λI=>(Dt L J M N a_ R S T (h.pa I) Q P).imp λE σ H F=>by
  let⟨am,B,be,ρ,De,g,V,t,U⟩:=F;refine⟨B,be,ρ,_,V,t,λds o C A r p rl hl=>?_⟩;let⟨a,b,c,rfl,r⟩:=r;let⟨G,e⟩:=rl
  obtain⟨u,v,w,rfl⟩:∃u v w,A=[u,v,w]:=by
   match A,G with
   | [u,v,w],_=>show⟨u,v,w,O⟩
  show⟨u,v,w,O,U.nx _ o C _ r (g.trans p) ((((V.gr p).set (e 2 w c O O) k).set (e 1 v b O O) j).set (e 0 u a O O) i)⟩⟩
end
end L2
namespace PySem.SeqAt
open AutoSeq1 (wpAny_loadPart')
open MeetsSeq MeetsSeq2 MeetsSeq3 SeqRoads2
def CS{M:ū}{A:É}{E:Value->À->Prop}{s:À}{a:Type}(r:Std.Legacy.Range)(b:a)(f:Nat->a->Sem (ForInStep a))(Q:a->À->Prop)(h:wpAny M A (forIn (List.range' r.start r.size r.step) b f) Q E s):wpAny M A (forIn r b f) Q E s:=by rwa[ŗ]
def tuple_indexAtX(l:Addr)(items:Array Value)(n:Nat)(z:Ž Addr)(sl:Array (Ž Value))(x:Value)(e:Value->Bool)(j:Nat)(H:j<items.size)
  (p:e items[j]=ž) (v:∀m (u:m<items.size),m<j->e items[m]=β) :
  Ŭ (Builtin.«tuple.index» ⟨[.ref l,x],[]⟩)
   (λA R s=>s.heap.get? l=Z { cls:=.type "tuple",dict:=z,data:=.seq items n,slots:=sl }/\(∀y,y∈items->EqAt A.in1 s y x (e y))/\R (.ok (.ret (.int j s.toks))) { s with toks:=s.toks+1 }):=
 .of_wp λprog w A R s h=>by
  let⟨hp,g,d,F,os⟩:=s;let⟨hl,C,h⟩:=h
  wp_walk using M0 hl,CS,wpAny_forIn_list _ (λa b r=>b.1=ż/\r=⟨hp,g,d,F,os⟩/\∃i,i<=j/\a=List.range' i (items.size-i) 1) _
  case turn=>
   rintro m a b r ⟨B,rfl,i,E,f⟩
   have o:i<items.size:=by omega
   rw[show items.size-i=(items.size-i-1)+1 by omega,List.range'_succ]at f;injection f with h1 h2;subst h1
   have u:items[m]?=Z items[m]:=by simp[o]
   rw[u];refine LD (C _ (Ł o) prog w _ _ ?_);rcases Mu m j with c|c
   ·rw[v m o c]
    wp_walk
    show⟨O,O,m+1,c,by rw[h2];congr 1⟩
   ·have:m=j:=by omega
    subst this;rw[p]
    wp_walk
    show⟨_,O,h⟩
  case fin=>
   rintro⟨b1,G⟩ r ⟨B,rfl,i,E,f⟩;exfalso;have:=MR List.length f;rw[List.length_range']at this
   have:items.size-i=0:=by simpa using this.symm
   omega
  case h=>
   show⟨O,O,0,ME _,by simp[Ŗ]⟩
end PySem.SeqAt
namespace L2
open PySem PySem.Spec PyProof.Rows
@[irreducible] def l6 (x:D)(y:D)(R:D->Prop):Prop:=match x with
 |.tup ds=>ds.length<=1000/\∃(bs:Y Bool)(j:Nat),bs.length=ds.length/\(∀(i:Nat) d b,ds[i]?=Z d->bs[i]?=Z b->cf 39 d y=Z b)/\bs[j]?=Z ž/\(∀i,i<j->bs[i]?=Z β)/\R (.int (j:Int))
 |_=>False
section
variable{K:Â}{X:Cx}{a b:Å}{l tb:TD}{f o:Pos}
open Classical in
def Iz(a_:X.K=K)(hu:X.A.units+64<ã):tm X "tuple.index" (λx xs H Q=>∃A dx G R y,Same A H/\xs=[y]/\RpQ K A H dx x/\RpQ K A H G y/\l6 dx G R/\∀d F H' v,R d->Gr A H F H'->Rp K F d v->Q v H'):=by
 intro pins s σ H x xs v us Q I rx rs ⟨A,dx,G,R,y,sm,e,hx,hy,h,k⟩;subst e;let⟨u,rfl,ru⟩:=ib rs;unfold l6 at h;let⟨ds,rfl,h⟩:=Fk h;let⟨hl,bs,j,hbl,hb,hj,SX,r⟩:=h;let⟨a,vs,rfl,N,_,B⟩:=hx.tup sm;cases rx;let⟨its,rv,⟨⟨oc,od,odt,os⟩,ho,T8,n,P⟩,_⟩:=I.tuple (a_▸N);cases T8;cases P;have l1:=Vals.length rv;have Xe:j<bs.length:=aO hj
 let e:Value->Bool:=λz=>decide (∃m:Nat,its[m]?=Z z/\bs[m]?=Z ž)
 have at_:∀(m:Nat) z,its[m]?=Z z->∃(w:V)(d:D)(b:Bool),RelV w z/\Rp K H d w/\ds[m]?=Z d/\bs[m]?=Z b/\cf 39 d G=Z b:=λm z g=>by
  have i0:m<its.length:=aO g
  have i1:m<vs.length:=by omega
  have T:m<ds.length:=by rwa[←B.1]
  have i3:m<bs.length:=by omega
  let⟨u',Ue,r'⟩:=Vals.get (i:=m) (x:=vs[m]) rv (aS i1);rw[g]at Ue;cases Ue;show⟨vs[m],ds[m],bs[m],r',(B.2 m _ _ (aS i1) (aS T)).same sm,aS T,aS i3,hb m _ _ (aS T) (aS i3)⟩
 have det:∀(m p:Nat) z b L,its[m]?=Z z->its[p]?=Z z->bs[m]?=Z b->bs[p]?=Z L->b=L:=λm p z b L g Ux q q'=>by
  let⟨w,d,c,r1,U,_,am,c1⟩:=at_ m z g;let⟨w',d',c',r1',be,_,E,M⟩:=at_ p z Ux;rw[q]at am;rw[q']at E;cases am;cases E;have:=r1.inj r1';subst this;show Cq a_ I (Same.refl H) 39 U be c1 M
 have J:∀(m:Nat) z b,its[m]?=Z z->bs[m]?=Z b->e z=b:=λm z b g q=>by
  change decide (∃m:Nat,its[m]?=Z z/\bs[m]?=Z ž)=b
  cases b with
  |true=>show Md ⟨m,g,q⟩
  |false=>show L7 λ⟨p,N,B⟩=>by cases det m p z _ _ g N q B
 have C:j<its.length:=by have:=B.1;omega
 refine NO Qz ⟨_,ho,O⟩ PySem.F.entry_tuple_index (PySem.F.args_tuple_index_2 _ _)
  (PySem.SeqAt.tuple_indexAtX a its.toArray n od os u e j (by simpa using C) ?_ ?_) ⟨ho,λz P=>?_,?_⟩
 ·simp only[List.getElem_toArray];show J j _ ž (aS C) hj
 ·intro m g Rl;simp only[LR]at g;simp only[List.getElem_toArray];show J m _ β (aS g) (SX m Rl)
 ·have S:z∈its:=by simpa using P
  let⟨m,g⟩:=MK S;let⟨w,d,b,r1,U,am,q2,q3⟩:=at_ m z g;rw[J m z b g q2];show (qb a_ I (Same.refl H) 39 q3 U (hy.any sm) X.A.in1 z u (by change X.A.units+1+39<ã;omega) r1 ru).1
 ·show⟨.int j,H,I.tok _,⟨_,O⟩,k _ A H _ r (.refl sm) (.int _)⟩
def JP(l tb:TD):TD:=λρ R=>l ρ λx=>(match x with|.tup _=>True|_=>False)/\tb ρ λy=>l6 x y R
def sQ(M:X.A.units+64<ã)(J:PQ K X a l)(L:PD K X b tb)(B:Ò a "index" X.env (eval a X.env)=eval a X.env:=by rfl)(F:((Ñ o (Á [b] X.env)).all (λx=>!x.1)&&(ì o (Û [] X.env)).all (λx=>x.1.isSome)&&decide (([b]:Y Å).length+([]:Y Ö).length+(if ([]:Y Ö).isEmpty then 0 else 1)<30))=ž)
  (w:Á [b] X.env=(β,eval b X.env)::Á [] X.env) (C:(f.endLine==o.line)=ž:=by rfl):PD K X (.Call (.Attribute a "index" f) [b] [] o) (JP l tb):=
 ⟨λh=>(j5 PySem.F.plainAttrs_tuple Qz PySem.F.type_tuple_index (Iz h M) (J.pe h) (dR (L.pe h) pa_nil w) B F C w ag).imp λσ H Q G=>by let⟨u,U,ρ,R,E,t,k⟩:=G;show⟨u,U,ρ,_,E,t,λdx m be x A c z=>by
  cases dx with
  |tup ds=>
   let⟨a,T,rfl,_,N,q2⟩:=z.tup c.s;refine⟨.inr (.inl ⟨O,.inl ⟨T,c.s _ _ N⟩⟩),u,m,ρ,_,E.gr c,A.2,λI p am y S e P=>⟨p,.tup ds,I,R,y,e.s,O,z.gr e,.inl P,S,λd j H' v r g a_=>k d j H' v r ((c.trans e).trans g) a_⟩⟩
  |_=>show A.1.elim⟩⟩
end
end L2
namespace L2
open PySem PySem.Spec PyProof.Rows
section
variable{X:Cx}{e:Y (Addr×Obj)}{f:St}{H:Hp}{s:À}
def Inv.knowX{a:Addr}{o:HO}(I:Inv X e f H s)(h0:X.s₀.heap.get? a=ż)(g:H a=ż)(hp:∀p∈X.pn++e,p.1≠a)(hl:X.env.locals≠a)(j:∀x c,X.env.cells.lookup x=Z c->c≠a)(new:ObjOk X.prog X.w (au H a o) s.heap a o):Inv X e f (au H a o) s where
 ok:=I.ok
 os:=I.os
 bare:=I.bare
 base:=⟨I.base.keep,I.base.slot,λb ob q n l=>by rw[aE (λz=>by rw[z,h0]at q;cases q)];show I.base.free b ob q n l,I.base.there,λb xs q=>by have:=I.base.tups b xs q;rwa[aE (bN this g)],λb ob xs q=>by have:=I.base.frzs b ob xs q;rwa[aE (bN this g)],λb ps q=>by have:=I.base.tbls b ps q;rwa[aE (bN this g)]⟩
 loc:=I.loc
 cell:=I.cell
 free:=by rw[aE hl];show I.free
 freeC x c h:=by rw[aE (j x c h)];show I.freeC x c h
 pin p h:=by let⟨a1,a2,a3⟩:=I.pin p h;show⟨a1,by rwa[aE (hp p h)],a3⟩
 hok:=I.hok.know g new
 len:=I.len
end
open Builtin Builtin.ObjectAttr
end L2
namespace L2
open PySem PySem.Spec PyProof.Rows
end L2
namespace L2
open PySem PySem.Spec PyProof.Rows
def stepK(a:Y ai)(v:ai):Y ai:=if a.any (λx=>decide (x=v)) then a else a++[v]
def cF(val:Nat->ai):Nat->Y ai
 |0=>[]
 |i+1=>stepK (cF val i) (val i)
theorem qQ(val:Nat->ai):∀i,(cF val i).length<=i
 |0=>LM _
 |i+1=>by
  have a:=qQ val i;change (stepK (cF val i) (val i)).length<=i+1;unfold stepK;split
  ·omega
  ·rw[LL];change _+1<=_;omega
def BQ(a:Y ai)(v k:ai):(stepK a v).any (λx=>decide (x=k))=(a.any (λx=>decide (x=k)) ||decide (k=v)):=by
 unfold stepK;by_cases h:a.any (λx=>decide (x=v))=ž
 ·rw[LI h];by_cases e:k=v
  ·subst e;rw[h];rfl
  ·rw[L7 e,QU]
 ·rw[LG h,List.any_append];congr 1;change (decide (v=k) ||false)=_;rw[QU];by_cases e:k=v
  ·rw[Md e,Md e.symm]
  ·rw[L7 e,L7 λz=>e z.symm]
def BZ(a:Y ai)(v:ai):(stepK a v).length=if a.any (λx=>decide (x=v)) then a.length else a.length+1:=by
 unfold stepK;split
 ·rfl
 ·rw[LL];rfl
def ub{P:Æ}{w:Ç}{h:Heap}{a:Addr}{S c:ai->Bool}{n f:Nat}(j:h.SetOf (bK P w) a S n)(e:∀k,S k=c k)(g:n=f):h.SetOf (bK P w) a c f:=by have:S=c:=funext e;subst this;subst g;show j
section
variable{prog:Æ}{w:Ç}{A:É}{R:ģ->À->Prop}{I:Addr}{c a:Y Addr}{G:Array Ŕ->Array Ŕ->Prop}{n:Nat}{P:Nat->Value->Prop}{St:Nat->À->Prop}
def KW(W:WalksS prog w A.in1 I c a G n P St)(S:Addr)(N:S∉c)(val:Nat->ai)(a_:∀i v,P i v->(bK prog w).is (val i) v=ž/\v.scannable=ž)(l:n+1<ċ) :
  ∀(k i:Nat)(s:À),n-i=k->i<=n->St i s->
   s.heap.SetOf (bK prog w) S (λj=>(cF val i).any (λx=>decide (x=j))) (cF val i).length->
   (∀f,Moved (S::a) G s f->f.heap.SetOf (bK prog w) S (λj=>(cF val n).any (λx=>decide (x=j))) (cF val n).length->R (.ok (.ret .none)) f)->
   Þ (Ä prog w) A (.builtin "set.update.loop" ⟨[.ref S,.ref I],[]⟩) R s:=by
 have m:S∉a:=λh=>N (W.sub _ h);have L:∀b∈a,b∈S::a:=λb l=>LO _ l;intro k
 induction k with
 |zero=>
  intro i s hk hi u C B
  have Q:i=n:=by omega
  subst Q;refine MQ OT ?_;rw[MO N0 _];change wpAny _ A.in1 (à (.ref I) >>= _) _ _ s;refine LD (W.done s _ _ u λf p=>?_);change wpAny _ A.in1 (ret Value.none) _ _ f
  show LP (B f (p.mono L) (by
   let⟨o,z,y,t,H,g⟩:=C
   show⟨o,z,y,t,p.heap S _ m H,g⟩))
 |succ k ih=>
  intro i s hk hi u C B
  have K:i<n:=by omega
  refine MQ OT ?_;rw[MO N0 _];change wpAny _ A.in1 (à (.ref I) >>= _) _ _ s;refine LD (W.item i s _ _ K u λv f hP be p=>?_);let⟨r,J⟩:=a_ i v hP
  have T:f.heap.SetOf (bK prog w) S (λj=>(cF val i).any (λx=>decide (x=j))) (cF val i).length:=by let⟨o,z,y,tb,H,g⟩:=C;show⟨o,z,y,tb,p.heap S _ m H,g⟩
  change wpAny _ A.in1 (holding [v] (setAdd S v) >>= _) _ _ f;refine LD (Mv ?_);unfold setAdd;refine Mv ?_;refine LD ((bK prog w).pyHash (k:=val i) r ?_)
  have X:(cF val i).length+1<ċ:=by have:=qQ val i;omega
  refine wpAny_setAddHashed_of (knd:=bK prog w) (s:={ f with toks:=f.toks+1 }) r J T X λh' M E=>?_
  have F:h'.SetOf (bK prog w) S (λj=>(cF val (i+1)).any (λx=>decide (x=j))) (cF val (i+1)).length:=
   ub E (λj=>(BQ _ _ _).symm) (BZ _ _).symm
  refine LP ⟨NU N0 _,ih (i+1) _ () K (W.frame _ f _ _ be (O5 _) λb l o e=>?_) F λU am Yx=>?_⟩
  ·rwa[M.2 b (λh:b=S=>N (by rw[←h];show l))]
  ·refine B U (Moved.trans W.gtrans ((p.mono L).then_heap (O5 _) λb o l e=>?_) am) Yx;rwa[M.2 b (λh:b=S=>l (by rw[h];show LQ))]
end
section
variable{prog:Æ}{w:Ç}{A:É}{E:Value->À->Prop}{s:À}
def Jg{l:Addr}{items:Array Value}{val:Nat->ai}{Q:Value->À->Prop}
  (hh:A.handled=ż) (hl:s.heap.IsList l items) (TF:∀(i:Nat)(v:Value),items[i]?=Z v->(bK prog w).is (val i) v=ž/\v.scannable=ž) (u:items.size+1<ċ)
  (h:∀(h':Heap)(z:Nat),h'.SetOf (bK prog w) s.heap.objs.size (λK=>(cF val items.size).any (λx=>decide (x=K))) (cF val items.size).length->
   (∀b o,b<s.heap.objs.size->s.heap.get? b=Z o->h'.get? b=Z o)->Q (.ref s.heap.objs.size) { s with heap:=h',toks:=z }) :
  wpAny (Ä prog w) A (call (.type "set") [.ref l]) Q E s:=by
 let⟨c,tl,T⟩:=Ob.mro;have I:=Ob.made;have Su:=Ob.sub;refine Ě (Ÿ ?_);change wpAny _ _ (callAny (.type "set") _) _ _ _;refine LP ⟨ĺ _ 'a',MQ F.entry_type_call ?_⟩;rw[É.under_plain (weight_type_call_type "set" [.ref l] []) O];have h1:=Ob.notType;have h2:=Ob.canCreate;have hct:=F.typeCall_set_1 (.ref l)
 repeat (any_goals (first|assumption|wp_step))
 refine Ov (code_set_new_1 (.ref l) (E:=E) (Q₁:=λobj f=>∃a:Bool,obj=.ref s.heap.objs.size/\f={ s with heap:=s.heap.push { cls:=.type "set",dict:=ż,data:=.set #[] 0 (.fresh 0 0 a) } }) λa=>⟨a,O,O⟩) λr f J=>?_
 cases r with
 |error e=>show J
 |ok fl=>
  cases fl with
  |ret obj=>
   let⟨a,rfl,rfl⟩:=J;have S:(s.heap.push { cls:=.type "set",dict:=ż,data:=.set #[] 0 (.fresh 0 0 a) }).get? s.heap.objs.size=Z { cls:=.type "set",dict:=ż,data:=.set #[] 0 (.fresh 0 0 a) }:=LS _ O;have hT:À.TypeIs { s with heap:=s.heap.push { cls:=.type "set",dict:=ż,data:=.set #[] 0 (.fresh 0 0 a) } } (.ref s.heap.objs.size) "set":=⟨_,S,O⟩;have hli:=Ob.init.lookup;have SK:=Ob.init.bind (.ref s.heap.objs.size)
   repeat (any_goals (first|assumption|wp_step))
   refine Ov (codeAny_call_builtin (R:=wants (λr g=>r=.none/\∃h' z,g={ s with heap:=h',toks:=z } /\
     h'.SetOf (bK prog w) s.heap.objs.size (λK=>(cF val items.size).any (λx=>decide (x=K))) (cF val items.size).length /\
     (∀b o,b<s.heap.objs.size->s.heap.get? b=Z o->h'.get? b=Z o)) E) Ob.init.plain F.entry_set_init (check_set_init_1 hT ?_)) λp g C=>?_
   ·let⟨ol,a_,M,be,P⟩:=hl;let⟨am,Wc,L,U8⟩:=ol;simp only at M P;subst M;subst P;have Yz:(s.heap.push { cls:=.type "set",dict:=ż,data:=.set #[] 0 (.fresh 0 0 a) }).get? l=Z { cls:=.type "list",dict:=Wc,data:=.seq items be,slots:=U8 }:=LK _ a_;have X:=F.sub_list_set;have U:=F.sub_list_frozenset
    have Ri:(Value.type "list"==Value.type "dict")=β:=by decide
    have N:(s.heap.push { cls:=.type "set",dict:=ż,data:=.set #[] 0 (.fresh 0 0 a) }).IsList l items:=⟨_,Yz,O,be,O⟩;unfold Builtin.«set.__init__» noKeywords Builtin.Frozenset.updateFrom;generalize G:ņ=PI
    wp_walk
    subst G;refine N6 N ?_;refine LD (ę ?_);have m:l<s.heap.objs.size:=LU a_
    have H:A.in1.in1.in1.handled=ż:=by simp[hh]
    have YA:l≠(s.heap.push { cls:=.type "set",dict:=ż,data:=.set #[] 0 (.fresh 0 0 a) }).objs.size:=by rw[Mz];show LZ (Mr m)
    have Xf:s.heap.objs.size∉[(s.heap.push { cls:=.type "set",dict:=ż,data:=.set #[] 0 (.fresh 0 0 a) }).objs.size,l]:=by rw[Mz];simp only[L0,LV,NI,P0,not_or];show⟨LZ (Np _),NC m⟩
    refine KW ((Ă H _ l YA items).toS) s.heap.objs.size
     Xf val TF u (items.size-0) 0 _ () (ME _)
     ⟨⟨_,LS _ O,O,O⟩,(N.push _)⟩ ?hS0 ?hR
    case hS0=>
     have YB:((s.heap.push { cls:=.type "set",dict:=ż,data:=.set #[] 0 (.fresh 0 0 a) }).push { cls:=.type "list_iterator",data:=.fields #[.ref l,.int 0 0] }).get? s.heap.objs.size
       = Z { cls:=.type "set",dict:=ż,data:=.set #[] 0 (.fresh 0 0 a) }:=LK _ S
     letI i1:BEq ai:=instBEqOfDecidableEq
     haveI i2:@LawfulBEq ai i1:=inferInstance
     show ub ((PyProof.Rows.setObjOf_fresh (knd:=bK prog w) a).setOf YB (by unfold ċ;omega)) (λ_=>rfl) O
    case hR=>
     intro s' y B;let⟨h',g',d',Sf,Td⟩:=s';have eg:g'=s.gens:=y.gens;have ed:d'=s.drawn:=y.drawn;have eo:Td=s.os:=y.os;subst eg;subst ed;subst eo;change wpAny _ _ _ _ _ _;refine LP ?_;change wpAny _ _ (ret Value.none) _ _ _;refine LP ⟨O,h',Sf,O,B,λb o u e=>?_⟩;have W4:b≠s.heap.objs.size:=LZ u
     have RD:b≠(s.heap.push { cls:=.type "set",dict:=ż,data:=.set #[] 0 (.fresh 0 0 a) }).objs.size:=by rw[Mz];show LZ (Mr u)
     show y.heap b o (by simp only[L0,LV,NI,P0,not_or];show⟨W4,RD⟩) (LK _ (LK _ e))
   ·cases p with
    |error e=>show C
    |ok j=>
     cases j with
     |ret r=>
      let⟨rfl,h',z,rfl,B,Rq⟩:=C
      repeat (any_goals (first|assumption|wp_step))
      show h _ _ B Rq
     |_=>show C.elim
  |_=>show J.elim
end
def iW(a:Y ai):Nat:=(cF (λi=>a.getD i (.inl 0)) a.length).length
section
variable{a:Y ai}
def DU{i:Nat}(g:i<=a.length){k:ai}:k∈cF (λi=>a.getD i (.inl 0)) i↔k∈a.take i:=by
 induction i with
 |zero=>simp[cF]
 |succ i c=>
  have c:=c ()
  have f:a[i]?=Z (a.getD i (.inl 0)):=by rw[LJ,MT ()];rfl
  rw[N7,f];change k∈stepK _ _↔_;unfold stepK;rw[Mf,←c];simp only[Option.toList_some,LV];split
  ·rename_i h;let⟨y,j,e⟩:=Qx.mp h;have e:=Mm e;refine⟨.inl,λz=>z.elim id λz=>?_⟩;rwa[z,←e]
  ·rw[Mf,LV]
end
def nK(P:Æ)(w:Ç)(a:Addr)(n:Nat):Heap->Prop:=λh=>∃S,h.SetOf (bK P w) a S n
section
variable{K:Â}{X:Cx}{a:Å}{f:TD}{pos w h ps:Pos}
def Iq(Ro:X.calm=ž):eA X (.type "set") (λU H Q=>∃(l:Addr)(g:Y ai),U=[.ref l]/\H l=Z (.lst (g.map kV))/\g.length<=1000/\∀q,H q=ż->Q (.ref q) (au H q (.ext (nK X.prog X.w q (iW g))))):=by
 intro A s σ H U us Q I rv Rb;let⟨l,g,rfl,hl,hk,q⟩:=Rb;let⟨u,rfl,rx⟩:=ib rv;cases (show u=Value.ref l from rx);let⟨_,its,n,R,ho⟩:=(show ObjOk X.prog X.w H s.heap l (.lst (g.map kV))from I.hok l _ hl)
 have a_:its.length=g.length:=by rw[←R.length,LC]
 have TF:∀(i:Nat)(v:Value),its.toArray[i]?=Z v->(bK X.prog X.w).is (g.getD i (.inl 0)) v=ž/\v.scannable=ž:=λi v L=>by
  rw[List.getElem?_toArray]at L;have hi:=aO L
  have hx:g[i]?=Z (g.getD i (.inl 0)):=by rw[LJ,MT ()];rfl
  let⟨u,P,C⟩:=R.get (i:=i) (x:=kV (g.getD i (.inl 0))) (by rw[LN,hx];rfl);rw[L]at P;cases P;refine⟨ju C,?_⟩;generalize g.getD i (.inl 0)=k at C
  cases k with
  |inl j=>let⟨t,e⟩:=(show ∃t,v=Value.int j t from C);rw[e];rfl
  |inr x=>let⟨t,e⟩:=(show ∃t,v=Value.str x t from C);rw[e];rfl
 have hsz:its.toArray.size=g.length:=by rwa[LR]
 refine Jg (items:=its.toArray) (val:=λi=>g.getD i (.inl 0)) (I.ok.hd Ro) ⟨_,ho,O,n,O⟩ TF (by rw[hsz];unfold ċ;omega) λh' T J Rq=>?_;rw[hsz]at J;have kp:∀b o,s.heap.get? b=Z o->h'.get? b=Z o:=λb o N=>Rq b o (LU N) N;have be:Inv X A σ H { s with heap:=h',toks:=T }:=I.kept (t':=T) kp;have M:H s.heap.objs.size=ż:=I.hok.fresh (LM _);have E:s.heap.get? s.heap.objs.size=ż:=Nd (LM _)
 have YD:∀p∈X.pn++A,p.1≠s.heap.objs.size:=λp hp z=>by have:=(I.pin p hp).1;rw[z,E]at this;cases this
 have U3:X.env.locals≠s.heap.objs.size:=λz=>by let⟨m,⟨o',G,F,B,_⟩,_⟩:=I.loc;rw[z,E]at B;cases B
 have YE:∀y c,X.env.cells.lookup y=Z c->c≠s.heap.objs.size:=λy c hc z=>by let⟨w',o',B,_⟩:=I.cell y c hc;rw[z,E]at B;cases B
 have ex:∃o,h'.get? s.heap.objs.size=Z o:=by let⟨o,G,F,t,e,_⟩:=J;show⟨o,e⟩
 have am:=be.knowX (o:=.ext (nK X.prog X.w s.heap.objs.size (iW g))) (Nd I.sz) M YD U3 YE ⟨⟨_,J⟩,ex,λh1 h2 ⟨S,o,G,F,t,e,r⟩ kk=>⟨S,o,G,F,t,kk o e,r⟩⟩;show⟨.ref s.heap.objs.size,_,am,O,q _ M⟩
def Ha:eA X (.builtin "len") (λg H Q=>∃(q:Addr)(n:Nat),g=[.ref q]/\H q=Z (.ext (nK X.prog X.w q n))/\n<=1000/\Q (.int n) H):=by intro c s B H g A Q I r j;let⟨a,n,rfl,l,z,q⟩:=j;let⟨u,rfl,v⟩:=ib r;cases (show u=Value.ref a from v);let⟨⟨S,o,y,x,t,e,p,hd,_,_,_,m,hsz⟩,_⟩:=(show ObjOk X.prog X.w H s.heap a (.ext (nK X.prog X.w a n))from I.hok a _ l);subst hsz;show call_len_set e p hd m () ⟨.int _,H,I.tok _,⟨_,O⟩,q⟩
def Aq(f:TD):TD:=λρ R=>f ρ λd=>∃c:Y ai,d=.lst (c.map cH)/\c.length<=1000/\R (.int (iW c))
def zc(B:X.calm=ž)(C:Gl X "len")(G:X.mg "len"=ż)(u:Gl X "set")(F:X.mg "set"=ż)(L:PD K X a f)(e:Á [a] X.env=(β,eval a X.env)::Á [] X.env)
  (x:Á [.Call (.Name "set" h) [a] [] ps] X.env=(β,eval (.Call (.Name "set" h) [a] [] ps) X.env)::Á [] X.env):PD K X (.Call (.Name "len" w) [.Call (.Name "set" h) [a] [] ps] [] pos) (Aq f):=
 ⟨λJ=>(oM Ha C G L8 (dR (rG (Iq B) u F (by kernel_rfl) (dR (L.pe J) pa_nil e) 'b' 'b' e ag) pa_nil x) 'b' 'b' x ag).imp λS H Q A=>by
  let⟨z,U,ρ,R,E,t,k⟩:=A;refine⟨z,U,ρ,_,E,t,λd c P v r g N=>?_⟩;let⟨j,rfl,y,r⟩:=r
  obtain⟨l,m,rfl,o,p⟩:∃l m,v=.ref l/\c l=Z (.lst m)/\RpL K c (j.map cH) m:=by
   cases N with
   |lst o p I=>show⟨_,_,O,o,p,I⟩
  have M:m=j.map kV:=my p;subst M;refine⟨l,j,O,g.s _ _ o,y,λq hq=>⟨q,iW j,O,aW,L6 (qQ _ _) y,?_⟩⟩
  show k _ c _ _ r (g.trans (Gr.fresh g.s hq _)) (.int _)⟩
end
end L2
namespace Tx
open PySem
end Tx
namespace L2
open PySem PySem.Spec PyProof.Rows
def pU(lo st:Int)(n:Nat):It:=⟨λi _=>i<n,λi H x H'=>H'=H/\x=.int (lo+i*st),λi _=>n<=i⟩
def Ak{P:Æ}{w:Ç}{K:Â}{U:Å}(a:Addr)(lo st:Int)(n:Nat):Turn P w K U (pU lo st n) [a] a (λi h=>Ē h a (lo+(i:Nat)*st) ((n:Int)-(i:Nat)) st) where
 mem:=by simp
 obj:=λi h st b f=>by
  have e:b=a:=by simpa using f
  subst e
  show⟨_,st,λv z=>by
   have Q:Data.fields _=Data.cell v:=z
   cases Q⟩
 keep:=λi h h' st k=>k a (by simp) _ st
 item:=by
  intro X y C x A i c s G H E I j g B;subst y C x;let⟨l,m,L,p,r,u⟩:=j a (by simp);have W:=Ŧ (prog:=X.prog) (w:=X.w) (I.ok.hd A) a lo st n;refine W.item i s _ _ B g λv h' F M g N=>?_;let⟨t,rfl⟩:=M;have J:Inv X c G H { s with heap:=h',toks:=F }:=I.turned (λb o f e=>N b o (by simpa using f) e) l m p r u;show⟨_,O,ou (s:={ s with heap:=h',toks:=F }) (n:="range_iterator") g O O 'b' ⟨.int (lo+i*st),H,J,⟨t,O⟩,⟨O,O⟩,g,λb f=>(j b f).1⟩⟩
 done:=by intro X y C x A i c s G H E I j st B;subst y C x;let⟨l,m,L,p,r,u⟩:=j a (by simp);show ł (I.ok.hd A) st (by have:n<=i:=B;omega) λh' eb=>⟨O,I.turned (t':=s.toks) (λb o f e=>eb b o f e) l m p r u⟩
 self:=λ_ _ _ _ _ st h=>ń st h
def fF(lo a st:Int):Nat:=((a-lo+st-1)/st).toNat
def iH(lo a st:Int):Y D:=(List.range (fF lo a st)).map λ(i:Nat)=>D.int (lo+(i:Int)*st)
section
variable{K:Â}{X:Cx}{f:Å}
def B6(c:TA):TI:=λg H R=>c g H λe a=>∃i j k:Int,e=[.int i,.int j,.int k]/\(-(2^61)<=i/\i<2^61/\-(2^61)<=j/\j<2^61/\0<k/\k<=1000)/\R (pU i k (fF i j k)) a
def Ii{i j k:Int}(e:0<k):Builtin.Range.rangeSize i j k=(fF i j k:Int):=by
 unfold Builtin.Range.rangeSize fF;rw[LI e];by_cases c:i<j
 ·rw[LI c,show j-i+k-1=(j-i-1)+1*k by omega,Int.add_mul_ediv_right _ _ ()];have:=Int.ediv_nonneg (a:=j-i-1) (b:=k) () ();omega
 ·rw[LG c];have:(j-i+k-1)/k<1:=Int.ediv_lt_of_lt_mul e ();omega
def CY{i j k:Int}(h:-(2^61)<=i/\i<2^61/\-(2^61)<=j/\j<2^61/\0<k/\k<=1000):Builtin.Range.small i j k=ž:=by
 have c:=Int.ediv_nonneg (a:=j-i-1) (b:=k);have e:=Int.ediv_le_self k (a:=j-i-1);unfold Builtin.Range.small Builtin.Range.rangeSize;rw[LI (show k>0 by omega),LI (show k>0 by omega)];simp only[Builtin.Range.rangeFitsLong,Nq,Bool.or_eq_true,decide_eq_true_eq,Pp];split<;>omega
def Jj{a b c:Å}{y:TA}{p pos:Pos}(G:Gl X "range")(J:X.mg "range"=ż)(F:PA X [a,b,c] y)(L:Á [a,b,c] X.env=[(β,eval a X.env),(β,eval b X.env),(β,eval c X.env)]:=by rfl)(x:Á [b,c] X.env=[(β,eval b X.env),(β,eval c X.env)]:=by rfl) :
  PI X f (.Call (.Name "range" p) [a,b,c] [] pos) (B6 y):=by
 intro g s z H R I h;refine Call_ (hV I G J boot_range (Na (ay (F pos g s z H _ I h) λQ u B=>?_) (by rw[L,x]) (by rw[x];rfl)));let⟨S,w,A,N,i,j,k,e,m,q⟩:=B;subst e
 cases N with
 |cons r l=>
  cases l with
  |cons M l=>
   cases l with
   |cons U l=>
    cases l;let⟨t,rfl⟩:=r;let⟨t',rfl⟩:=M;let⟨P,rfl⟩:=U;refine call_range_3 () ?_ (.inl (PyProof.noPylong_small ()));have v:Inv X g z w { u with heap:=u.heap.push { cls:=.type "range",data:=.fields #[.int i t,.int j t',.int k P] },toks:=u.toks }:=A.kept λb o e=>LK _ e;refine ś (ř ..) (CY m) ?_;refine⟨_,[_],_,_,w,O,v.kept (t':=u.toks) λb o e=>LK _ e,Ak _ i k (fF i j k),?_,λb m=>?_,q⟩
    ·have C:i+((0:Nat):Int)*k=i:=by simp
     have E:((fF i j k:Nat):Int)-((0:Nat):Int)=Builtin.Range.rangeSize i j k:=by rw[Ii m.2.2.2.2.1];omega
     change Ē _ _ (i+((0:Nat):Int)*k) (((fF i j k:Nat):Int)-((0:Nat):Int)) k;rw[C,E];show LS _ O
    ·have e:=LV.mp m;subst e;show v.fpOk (LM _) (v.hok.fresh (LM _))
def Gn{l:Hp}{i j k:Int}{e:Y V}(r:RpL K l [.int i,.int j,.int k] e):e=[.int i,.int j,.int k]:=by
 match e,r with
 | [a,b,c],r=>
  have h0:=r.2 0 a _ O O;have g:=r.2 1 b _ O O;have h:=r.2 2 c _ O O;obtain rfl:=h0.i;obtain rfl:=g.i;obtain rfl:=h.i;rfl
 | [],r=>cases r.1
 | [_],r=>cases r.1
 | [_,_],r=>cases r.1
 |_::_::_::_::_,r=>cases r.1
def Ka(c:Hp)(lo a st:Int):SteadyD K (pU lo st (fF lo a st)) c (iH lo a st):=by
 have hl:(iH lo a st).length=fF lo a st:=by unfold iH;rw[LC,L4]
 refine⟨λi H s a=>(by rw[hl]at a;show a),λi g H v j d m s hd y=>?_,λH s=>QW hl.symm⟩;let⟨rfl,rfl⟩:=y;unfold iH at hd;rw[LN]at hd
 cases h:(List.range (fF lo a st))[i]? with
 |none=>rw[h]at hd;cases hd
 |some k=>
  rw[h]at hd;cases hd;let⟨l,e⟩:=L9.mp h;rw[List.getElem_range]at e;subst e;show⟨_,.refl s,.int _⟩
def JZ(t:aP):aP:=λρ R=>t ρ λds=>∃i j k:Int,ds=[.int i,.int j,.int k]/\(-(2^61)<=i/\i<2^61/\-(2^61)<=j/\j<2^61/\0<k/\k<=1000)/\R (iH i j k)
def Io{a b c:Å}{tl:aP}{p pos:Pos}(y:Gl X "range")(z:X.mg "range"=ż)(w:PAD K X [a,b,c] tl)(A:Á [a,b,c] X.env=[(β,eval a X.env),(β,eval b X.env),(β,eval c X.env)]:=by rfl)(o:Á [b,c] X.env=[(β,eval b X.env),(β,eval c X.env)]:=by rfl) :
  PID K X f (.Call (.Name "range" p) [a,b,c] [] pos) (JZ tl):=⟨λv=>(Jj y z (w.pa v) A o).imp λG H C u=>by
 let⟨l,B,ρ,R,E,t,k⟩:=u;refine⟨l,B,ρ,_,E,t,λds h m F r g rl hl=>?_⟩;let⟨i,j,st,rfl,x,r⟩:=r;have e:=Gn rl;subst e
 show⟨i,j,st,O,x,k _ h m _ r g (Ka h i j st)⟩⟩
end
end L2
namespace Wk
def sm:Nat->(Nat->Int)->Int
 |0,_=>0
 |n+1,f=>sm n f+f n
theorem sm_congr:∀{n:Nat}{f g:Nat->Int},(∀i,i<n->f i=g i)->sm n f=sm n g
 |0,_,_,_=>rfl
 |n+1,f,g,h=>by change sm n f+f n=sm n g+g n;rw[sm_congr λi a=>h i (),h n ()]
theorem sm_zero:∀(n:Nat),sm n (λ_=>0)=0
 |0=>rfl
 |n+1=>by change sm n _+0=0;rw[sm_zero n];rfl
theorem iN(x y:Int)(f g:Nat->Int):∀n:Nat,sm n (λi=>x*f i+y*g i)=x*sm n f+y*sm n g
 |0=>by change (0:Int)=x*0+y*0;omega
 |n+1=>by
  change sm n _+(x*f n+y*g n)=x*(sm n f+f n)+y*(sm n g+g n);rw[iN x y f g n]
  grind
def sm_add(f g:Nat->Int)(n:Nat):sm n (λi=>f i+g i)=sm n f+sm n g:=by have:=iN 1 1 f g n;simp only[Nu]at this;show this
def sm_mul(x:Int)(f:Nat->Int)(n:Nat):sm n (λi=>x*f i)=x*sm n f:=by have:=iN x 0 f f n;simp only[Nt,QA]at this;show this
theorem sm_one:∀{n k:Nat}{f:Nat->Int},k<n->(∀i,i<n->i≠k->f i=0)->sm n f=f k
 |0,_,_,h,_=>absurd h ()
 |n+1,k,f,h,a=>by
  change sm n f+f n=f k;by_cases c:k=n
  ·subst c;rw[sm_congr (g:=λ_=>0) λi e=>a i () (),sm_zero];omega
  ·rw[sm_one (by omega:k<n) λi e=>a i (),a n () ()];omega
theorem xY:∀{n k:Nat}{f:Nat->Int},k+1<n->(∀i,i<n->i≠k->i≠k+1->f i=0)->sm n f=f k+f (k+1)
 |0,_,_,h,_=>absurd h ()
 |n+1,k,f,h,a=>by
  change sm n f+f n=f k+f (k+1);by_cases c:k+1=n
  ·subst c;rw[sm_one (by omega:k<k+1) λi g e=>a i () e ()]
  ·rw[xY (by omega:k+1<n) λi g=>a i (),a n () () ()];omega
theorem jU(f:Nat->Nat->Int)(m:Nat):∀n:Nat,sm n (λi=>sm m (f i))=sm m (λj=>sm n λi=>f i j)
 |0=>(sm_zero m).symm
 |n+1=>by change sm n _+sm m (f n)=sm m (λj=>sm n (λi=>f i j)+f n j);rw[jU f m n,←sm_add]
def uK{n k:Nat}{f:Nat->Int}(h:k<n):sm n f=sm n (λi=>if i=k then 0 else f i)+f k:=by
 have e:f k=sm n (λi=>if i=k then f i else 0):=by rw[sm_one h λi _ a=>LG a,LI O]
 rw[e,←sm_add];refine sm_congr λi _=>?_;split<;>omega
abbrev Mx:=Nat->Nat->Int
def mn(i:Nat)(A:Mx):Mx:=λa j=>A (if a<i then a else a+1) (j+1)
def sg:Nat->Int
 |0=>1
 |n+1=>- sg n
def det:Nat->Mx->Int
 |0,_=>1
 |n+1,A=>sm (n+1) λi=>sg i*A i 0*det n (mn i A)
def up(A:Mx)(k:Nat)(r:Nat->Int):Mx:=λi j=>if i=k then r j else A i j
def fR{A:Mx}{k:Nat}{r:Nat->Int}:up A k r k=r:=by funext j;unfold up;rw[LI O]
def fG{A:Mx}{k i:Nat}{r:Nat->Int}(h:i≠k):up A k r i=A i:=by funext j;unfold up;rw[LG h]
def DX{A:Mx}{k:Nat}{r q:Nat->Int}:up (up A k r) k q=up A k q:=by
 funext i j
 unfold up;split<;>rfl
def pA{A:Mx}{k:Nat}:up A k (A k)=A:=by
 funext i j
 unfold up;split
 ·next h=>rw[h]
 ·rfl
def qu{A:Mx}{k l:Nat}{r q:Nat->Int}(h:k≠l):up (up A k r) l q=up (up A l q) k r:=by
 funext i j
 unfold up;by_cases c:i=l
 ·subst c;rw[LI O,LG (Mo h),LI O]
 ·rw[LG c,LG c]
def rT{A:Mx}{i:Nat}{r:Nat->Int}:mn i (up A i r)=mn i A:=by
 funext a j
 unfold mn up
 have:¬ (if a<i then a else a+1)=i:=by split<;>omega
 rw[LG this]
def rP{A:Mx}{i k:Nat}{r:Nat->Int}(h:i≠k):mn i (up A k r)=up (mn i A) (if k<i then k else k-1) (λj=>r (j+1)):=by
 funext a j
 unfold mn up;by_cases c:(if a<i then a else a+1)=k
 ·have e:a=(if k<i then k else k-1):=by split at c<;>split<;>omega
  rw[LI c,LI e]
 ·have e:¬ a=(if k<i then k else k-1):=by split at c<;>split<;>omega
  rw[LG c,LG e]
theorem det_congr:∀{n:Nat}{A B:Mx},(∀i j,i<n->j<n->A i j=B i j)->det n A=det n B
 |0,_,_,_=>rfl
 |n+1,A,B,h=>by unfold det;refine sm_congr λi c=>?_;rw[h i 0 c (),det_congr (A:=mn i A) (B:=mn i B) λa j e f=>h _ _ (by split<;>omega) ()]
theorem jt(x y:Int):∀{n:Nat}{A:Mx}{k:Nat}(r q:Nat->Int),k<n->det n (up A k λj=>x*r j+y*q j)=x*det n (up A k r)+y*det n (up A k q)
 |0,_,_,_,_,h=>absurd h ()
 |n+1,A,k,r,q,h=>by
  unfold det;rw[←iN];refine sm_congr λi a=>?_;by_cases c:i=k
  ·subst c;rw[rT,rT,rT,fR,fR,fR]
   grind
  ·rw[rP c,rP c,rP c,fG c,fG c,fG c];rw[jt x y (A:=mn i A) (k:=if k<i then k else k-1) (λj=>r (j+1)) (λj=>q (j+1)) (by split<;>omega)]
   grind
theorem mF:∀{n:Nat}{A:Mx}{k:Nat},k+1<n->(∀j,j<n->A k j=A (k+1) j)->det n A=0
 |0,_,_,h,_=>absurd h ()
 |n+1,A,k,h,f=>by
  unfold det;rw[xY h λi r m o=>?_]
  ·have e:det n (mn k A)=det n (mn (k+1) A):=det_congr λa j p l=>by
    unfold mn;by_cases c:a=k
    ·subst c;rw[LG (),LI ()];show (f (j+1) ()).symm
    ·by_cases g:a<k
     ·rw[LI g,LI ()]
     ·rw[LG g,LG ()]
   rw[e,f 0 ()];change sg k*A (k+1) 0*_+(- sg k)*A (k+1) 0*_=0
   grind
  ·have:det n (mn i A)=0:=by
    by_cases c:i<k
    ·refine mF (k:=k-1) () λj l=>?_;unfold mn;rw[LG (),LG (),show k-1+1=k by omega];show f (j+1) ()
    ·refine mF (k:=k) () λj l=>?_;unfold mn;rw[LI (),LI ()];show f (j+1) ()
   rw[this,MA]
def GY{n:Nat}{A:Mx}{k:Nat}(h:k+1<n)(r q:Nat->Int):det n (up (up A k r) (k+1) q) =-det n (up (up A k q) (k+1) r):=by
 have z:∀s:Nat->Int,det n (up (up A k s) (k+1) s)=0:=λs=>mF h λj _=>by rw[fG (by omega:k≠k+1),fR,fR]
 have lk:∀v:Nat->Int,det n (up (up A k λj=>1*r j+1*q j) (k+1) v)=1*det n (up (up A k r) (k+1) v)+1*det n (up (up A k q) (k+1) v):=λv=>by
  have a:k≠k+1:=by omega
  rw[qu a,qu a,qu a];show jt 1 1 r q ()
 have c:=z λj=>1*r j+1*q j;rw[jt 1 1 r q (),lk,lk,z,z]at c;omega
theorem qf:∀(d:Nat){n:Nat}{A:Mx}{k:Nat},k+d+1<n->(∀j,A k j=A (k+d+1) j)->det n A=0
 |0,n,A,k,h,a=>mF h λj _=>a j
 |d+1,n,A,k,h,a=>by
  have e:A=up (up A (k+d+1) (A (k+d+1))) (k+d+1+1) (A (k+d+1+1)):=by rw[pA,pA]
  rw[e,GY ()]
  have:det n (up (up A (k+d+1) (A (k+d+1+1))) (k+d+1+1) (A (k+d+1)))=0:=by refine qf d (k:=k) () λj=>?_;rw[fG (),fG (),fG (),fR];show a j
  rw[this];rfl
def mE{n:Nat}{A:Mx}{k l:Nat}(f:k<n)(hl:l<n)(e:k≠l)(a:A k=A l):det n A=0:=by
 rcases Mu k l with c|c
 ·show qf (l-k-1) (k:=k) () λj=>by rw[show k+(l-k-1)+1=l by omega,a]
 ·show qf (k-l-1) (k:=l) () λj=>by rw[show l+(k-l-1)+1=k by omega,a]
def un(i:Nat):Nat->Int:=λj=>if j=i then 1 else 0
theorem so:∀n:Nat,det n un=1
 |0=>rfl
 |n+1=>by
  unfold det;rw[sm_one (k:=0) () λi g f=>?_]
  ·have e:mn 0 un=un:=by
    funext a j
    change (if j+1=(if a<0 then a else a+1) then (1:Int) else 0)=if j=a then 1 else 0
    rw[show (if a<0 then a else a+1)=a+1 from LG ()];by_cases c:j=a
    ·rw[LI c,LI ()]
    ·rw[LG c,LG ()]
   rw[e,so n];rfl
  ·change sg i*(if (0:Nat)=i then 1 else 0)*_=0;rw[LG ()]
   grind
def co(n:Nat)(A:Mx)(k:Nat):Nat->Int:=λj=>det n (up A k (un j))
def xc{n:Nat}{A:Mx}{k:Nat}(h:k<n):det n (up A k λ_=>0)=0:=by
 have:=jt 0 0 (A:=A) (λ_=>0) (λ_=>0) h
 have e:(λj:Nat=>(0:Int)*(λ_=>0) j+0*(λ_=>0) j)=λ_=>0:=by funext j;rfl
 rw[e]at this;omega
theorem yx{n:Nat}{A:Mx}{k:Nat}(h:k<n)(r:Nat->Int):∀m:Nat,det n (up A k λj=>if j<m then r j else 0)=sm m (λj=>r j*co n A k j)
 |0=>by
  have e:(λj=>if j<0 then r j else 0)=λ_=>(0:Int):=by funext j;rw[LG ()]
  rw[e];show xc h
 |m+1=>by
  have e:(λj=>if j<m+1 then r j else 0)=λj=>1*(if j<m then r j else 0)+r m*un m j:=by
   funext j
   unfold un;by_cases c:j=m
   ·subst c;rw[LI (),LG (),LI O];omega
   ·rw[LG c];by_cases a:j<m
    ·rw[LI a,LI ()];omega
    ·rw[LG a,LG ()];omega
  rw[e,jt 1 (r m) _ (un m) h,yx h r m];change 1*_+r m*co n A k m=_+r m*co n A k m;omega
def yi{n:Nat}{A:Mx}{k:Nat}(h:k<n)(r:Nat->Int):sm n (λj=>r j*co n A k j)=det n (up A k r):=by
 rw[←yx h r n];refine det_congr λi j c a=>?_;unfold up;split
 ·change (if j<n then r j else 0)=r j;rw[LI a]
 ·rfl
def qE{n:Nat}{A:Mx}{k l:Nat}(h:k<n)(hl:l<n):sm n (λj=>A l j*co n A k j)=if l=k then det n A else 0:=by
 rw[yi h];split
 ·next e=>subst e;rw[pA]
 ·next e=>
  refine mE h hl (Mo e) ?_;rw[fR,fG e]
def J6{n:Nat}{A:Mx}{k:Nat}{r:Nat->Int}:co n (up A k r) k=co n A k:=by
 funext j
 unfold co;rw[DX]
theorem sm_abs{E:Nat}:∀{n:Nat}{f:Nat->Int},(∀i,i<n->(f i).natAbs<=E)->(sm n f).natAbs<=n*E
 |0,_,_=>by change (0:Int).natAbs<=_;simp
 |n+1,f,h=>by
  change (sm n f+f n).natAbs<=_;have a:=sm_abs (n:=n) (f:=f) λi g=>h i ();have c:=h n ();have e:=Int.natAbs_add_le (sm n f) (f n);rw[QY];omega
theorem sG:∀n:Nat,(sg n).natAbs=1
 |0=>rfl
 |n+1=>by change (- sg n).natAbs=1;rw[Oy,sG n]
theorem det_abs{E:Nat}:∀{n N:Nat}{A:Mx},n<=N->(∀i j,i<n->j<n->(A i j).natAbs<=E)->(det n A).natAbs<=(N*E)^n
 |0,_,_,_,_=>by change (1:Int).natAbs<=_;simp
 |n+1,N,A,e,h=>by
  unfold det
  have c:(sm (n+1) λi=>sg i*A i 0*det n (mn i A)).natAbs<=(n+1)*(E*(N*E)^n):=sm_abs λi f=>by rw[Oz,Oz,sG,Nat.one_mul];show OX (h i 0 f ()) (det_abs () λa j g l=>h _ _ (by split<;>omega) ())
  refine L6 c ?_;rw[Q0,←Nat.mul_assoc,Pu ((N*E)^n)];show OC _ (OC _ e)
end Wk
namespace Wk
def dt(n:Nat)(x y:Nat->Int):Int:=sm n λi=>x i*y i
def ku(n:Nat)(r:Nat->Int)(x y:Int)(u v:Nat->Int):dt n r (λi=>x*u i+y*v i)=x*dt n r u+y*dt n r v:=by
 unfold dt;rw[←iN]
 show sm_congr λi _=>by grind
def zr(n m:Nat)(r:Nat->Int)(c:Nat->Int)(u:Mx):dt n r (λi=>sm m λk=>c k*u k i)=sm m λk=>c k*dt n r (u k):=by
 unfold dt
 have e:(λi=>r i*sm m λk=>c k*u k i)=λi=>sm m λk=>c k*(r i*u k i):=by
  funext i
  rw[←sm_mul]
  show sm_congr λk _=>by grind
 rw[e,jU];show sm_congr λk _=>sm_mul _ _ _
structure Sd where
 h:Nat->Nat
 W:Mx
 x:Nat->Int
 b:Int
structure Ok(n:Nat)(a:Mx)(B:Nat->Int)(M:Nat)(S:Sd):Prop where
 pos:0<S.b
 lt:∀k,k<n->S.h k<M
 eps:∃e:Int,(e=1\/e = -1)/\S.b=e*det n (λk=>a (S.h k))/\∀k j,k<n->j<n->S.W k j=e*co n (λk=>a (S.h k)) k j
 lf:∀i j,i<n->j<n->sm n (λk=>S.W k i*a (S.h k) j)=if i=j then S.b else 0
 cor:∀i,i<n->S.x i=sm n λk=>B (S.h k)*S.W k i
section
variable{n M:Nat}{a:Mx}{B:Nat->Int}{S:Sd}
def Ok.rt(o:Ok n a B M S){l k:Nat}(hl:l<n)(c:k<n):dt n (a (S.h l)) (S.W k)=if l=k then S.b else 0:=by
 let⟨e,_,g,m⟩:=o.eps
 have f:dt n (a (S.h l)) (S.W k)=e*sm n (λj=>a (S.h l) j*co n (λk=>a (S.h k)) k j):=by
  unfold dt;rw[←sm_mul]
  show sm_congr λj h=>by rw[m k j c h];grind
 rw[f,qE (A:=λk=>a (S.h k)) c hl];split
 ·show g.symm
 ·show MA e
def Ok.row(o:Ok n a B M S)(r:Nat->Int){j:Nat}(c:j<n):sm n (λk=>dt n r (S.W k)*a (S.h k) j)=S.b*r j:=by
 have e:(sm n λk=>dt n r (S.W k)*a (S.h k) j)=sm n λi=>r i*sm n λk=>S.W k i*a (S.h k) j:=by
  have g:(λk=>dt n r (S.W k)*a (S.h k) j)=λk=>sm n λi=>r i*(S.W k i*a (S.h k) j):=by
   funext k
   unfold dt;rw[NP,←sm_mul]
   show sm_congr λi _=>by grind
  rw[g,jU];show sm_congr λi _=>sm_mul _ _ _
 rw[e,sm_one c λi h f=>by rw[o.lf i j h c,LG f,MA],o.lf j j c c,LI O,NP]
def Ok.comb(o:Ok n a B M S)(r y:Nat->Int):S.b*dt n r y=sm n λk=>dt n r (S.W k)*dt n (a (S.h k)) y:=by
 have e:(sm n λk=>dt n r (S.W k)*dt n (a (S.h k)) y)=sm n λj=>y j*sm n λk=>dt n r (S.W k)*a (S.h k) j:=by
  have c:(λk=>dt n r (S.W k)*dt n (a (S.h k)) y)=λk=>sm n λj=>y j*(dt n r (S.W k)*a (S.h k) j):=by
   funext k
   conv=>lhs;rhs;unfold dt
   rw[←sm_mul]
   show sm_congr λi _=>by grind
  rw[c,jU];show sm_congr λi _=>sm_mul _ _ _
 rw[e]
 conv=>lhs;unfold dt
 rw[←sm_mul]
 show sm_congr λj f=>by rw[o.row r f];grind
def Ok.corner(o:Ok n a B M S){k:Nat}(c:k<n):dt n (a (S.h k)) S.x=B (S.h k)*S.b:=by
 have e:dt n (a (S.h k)) S.x=dt n (a (S.h k)) (λi=>sm n λl=>B (S.h l)*S.W l i):=sm_congr λi g=>by rw[o.cor i g]
 rw[e,zr,sm_one c λl hl f=>by rw[o.rt c hl,LG (Mo f),MA],o.rt c c,LI O]
def Ok.nil(o:Ok n a B M S){y:Nat->Int}(h:∀k,k<n->dt n (a (S.h k)) y=0){i:Nat}(c:i<n):y i=0:=by
 have e:S.b*y i=sm n λk=>S.W k i*dt n (a (S.h k)) y:=by
  have m:(λk=>S.W k i*dt n (a (S.h k)) y)=λk=>sm n λj=>y j*(S.W k i*a (S.h k) j):=by
   funext k
   unfold dt;rw[←sm_mul]
   show sm_congr λi _=>by grind
  rw[m,jU]
  have p:∀j,j<n->(sm n λk=>y j*(S.W k i*a (S.h k) j))=y j*(if i=j then S.b else 0):=λj f=>by rw[sm_mul,o.lf i j c f]
  rw[sm_congr p,sm_one c λj f l=>by rw[LG (Mo l),MA],LI O,NP]
 rw[sm_congr (g:=λ_=>0) λk r=>by rw[h k r,MA],sm_zero]at e;rcases NQ.mp e with h|h
 ·have:=o.pos;omega
 ·show h
def gr(n:Nat)(a:Mx)(S:Sd)(q k:Nat):Int:=dt n (a q) (S.W k)
def ov(n:Nat)(a:Mx)(B:Nat->Int)(S:Sd)(q:Nat):Int:=dt n (a q) S.x-B q*S.b
def wy(n:Nat)(a:Mx)(S:Sd)(p q:Nat):Nat->Int:=λi=>if gr n a S q p<0 then-S.W p i else S.W p i
noncomputable def pv(n:Nat)(a:Mx)(B:Nat->Int)(S:Sd)(p q:Nat):Sd where
 h:=λk=>if k=p then q else S.h k
 W:=λo i=>if o=p then wy n a S p q i else (((gr n a S q p).natAbs:Int)*S.W o i-gr n a S q o*wy n a S p q i)/S.b
 x:=λi=>(((gr n a S q p).natAbs:Int)*S.x i-ov n a B S q*wy n a S p q i)/S.b
 b:=((gr n a S q p).natAbs:Int)
def HJ{p q:Nat}:(λk=>a ((pv n a B S p q).h k))=up (λk=>a (S.h k)) p (a q):=by
 funext k j
 change a (if k=p then q else S.h k) j=if k=p then a q j else a (S.h k) j
 split<;>rfl
def Ok.pv_all(o:Ok n a B M S){p q:Nat}(hp:p<n)(hq:q<M)(hg:gr n a S q p≠0) :
  Ok n a B M (pv n a B S p q)/\(∀l i,l<n->l≠p->i<n->S.b*(pv n a B S p q).W l i=(pv n a B S p q).b*S.W l i-gr n a S q l*wy n a S p q i) /\
   (∀i,i<n->S.b*(pv n a B S p q).x i=(pv n a B S p q).b*S.x i-ov n a B S q*wy n a S p q i):=by
 let⟨e,am,hb,hw⟩:=o.eps;have bp:=o.pos
 obtain⟨sn,X,N,a_⟩:∃sn:Int,(sn=1\/sn = -1)/\((gr n a S q p).natAbs:Int)=sn*gr n a S q p/\wy n a S p q=λi=>sn*S.W p i:=by
  by_cases c:gr n a S q p<0
  ·show⟨-1,.inr O,(),by funext i;unfold wy;rw[LI c];omega⟩
  ·show⟨1,.inl O,(),by funext i;unfold wy;rw[LG c];omega⟩
 have RZ:sn*sn=1:=by rcases X with h|h<;>rw[h]<;>rfl
 have VQ:e*e=1:=by rcases am with h|h<;>rw[h]<;>rfl
 generalize hsz:((gr n a S q p).natAbs:Int)=s at N
 have hs0:0<s:=by omega
 let A:Mx:=λk=>a (S.h k)
 let m:Mx:=up A p (a q)
 have G:(λk=>a ((pv n a B S p q).h k))=m:=HJ
 have U:gr n a S q p=e*det n m:=by
  have:gr n a S q p=e*sm n (λj=>a q j*co n A p j):=by
   unfold gr dt;rw[←sm_mul]
   show sm_congr λj E=>by rw[hw p j hp E];grind
  rw[this,yi hp]
 have be:det n m=e*gr n a S q p:=by rw[U];grind
 have Tj:s=(sn*e)*det n m:=by rw[N,U];grind
 have YG:∀r:Nat->Int,dt n r (wy n a S p q)=sn*dt n r (S.W p):=λr=>by
  rw[a_];unfold dt;rw[←sm_mul]
  show sm_congr λj _=>by grind
 have T:∀l,l<n->l≠p->∀i,i<n->S.b*((sn*e)*co n m l i)=s*S.W l i-gr n a S q l*wy n a S p q i:=by
  intro l hl v
  let y:Nat->Int:=λi=>S.b*((sn*e)*co n m l i)-(s*S.W l i-gr n a S q l*wy n a S p q i)
  have hy:∀r:Nat->Int,dt n r y=S.b*(sn*e)*dt n r (co n m l)-(s*dt n r (S.W l)-gr n a S q l*(sn*dt n r (S.W p))):=λr=>by
   rw[←YG]
   have C:dt n r y=dt n r (λi=>1*(λi=>(S.b*(sn*e))*co n m l i+0*0) i+(-1)*(λi=>s*S.W l i+(- gr n a S q l)*wy n a S p q i) i):=by
    unfold dt
    show sm_congr λi _=>by change r i*(_-_)=r i*_;grind
   rw[C,ku,ku,ku]
   grind
  have F:∀k,k<n->dt n (m k) (co n m l)=if k=l then det n m else 0:=λk g=>qE hl g
  have aq:dt n (a q) y=0:=by
   have u:=F p hp;rw[LG (Mo v)]at u;have w:m p=a q:=fR;rw[w]at u;rw[hy,u];change _-(s*gr n a S q l-gr n a S q l*(sn*gr n a S q p))=0;rw[N]
   grind
  have z:∀k,k<n->k≠p->dt n (a (S.h k)) y=0:=λk g L=>by
   have u:=F k g;have w:m k=a (S.h k):=fG L;rw[w]at u;rw[hy,u,o.rt g hl,o.rt g hp,LG L];split
   ·have:S.b*(sn*e)*det n m=S.b*s:=by rw[Tj];grind
    rw[this]
    grind
   ·grind
  have ap:dt n (a (S.h p)) y=0:=by
   have u:=o.comb (a q) y;rw[aq,MA,sm_one hp λk g L=>by rw[z k g L,MA]]at u;rcases NQ.mp u.symm with h|h
   ·show absurd h hg
   ·show h
  intro i f
  have h0:y i=0:=o.nil (λk g=>by
   by_cases c:k=p
   ·subst c;show ap
   ·show z k g c) f
  have h0':S.b*((sn*e)*co n m l i)-(s*S.W l i-gr n a S q l*wy n a S p q i)=0:=h0;omega
 have I:∀l i,l<n->l≠p->i<n->(pv n a B S p q).W l i=(sn*e)*co n m l i:=λl i hl v f=>by change (if l=p then _ else (((gr n a S q p).natAbs:Int)*S.W l i-gr n a S q l*wy n a S p q i)/S.b)=_;rw[LG v,hsz,←T l hl v i f,Oc _ ()]
 have J:∀i,(pv n a B S p q).W p i=wy n a S p q i:=λi=>LI O;have eb:(pv n a B S p q).b=s:=hsz
 have x:∀l i,l<n->l≠p->i<n->S.b*(pv n a B S p q).W l i=s*S.W l i-gr n a S q l*wy n a S p q i:=λl i hl v f=>by rw[I l i hl v f];show T l hl v i f
 have Q:∀i,s*S.W p i-gr n a S q p*wy n a S p q i=0:=λi=>by rw[a_,N];grind
 have R:∀l i,l<n->i<n->S.b*(pv n a B S p q).W l i=(s*S.W l i-gr n a S q l*wy n a S p q i)+(if l=p then S.b*wy n a S p q i else 0):=λl i hl f=>by
  by_cases c:l=p
  ·subst c;rw[J,Q,LI O,MU]
  ·rw[LG c,x l i hl c f,QA]
 have hx:∀i,i<n->S.b*(sm n λk=>B ((pv n a B S p q).h k)*(pv n a B S p q).W k i)=s*S.x i-ov n a B S q*wy n a S p q i:=λi f=>by
  have gx:(sm n λk=>B (S.h k)*gr n a S q k)=dt n (a q) S.x:=by
   have C:dt n (a q) S.x=dt n (a q) (λi=>sm n λl=>B (S.h l)*S.W l i):=sm_congr λi f=>by rw[o.cor i f]
   rw[C,zr];rfl
  rw[←sm_mul]
  have C:∀k,k<n->S.b*(B ((pv n a B S p q).h k)*(pv n a B S p q).W k i)=(s*(B (S.h k)*S.W k i)+(- wy n a S p q i)*(B (S.h k)*gr n a S q k))+(if k=p then B q*(S.b*wy n a S p q i) else 0):=λk g=>by
   have u:=R k i g f;by_cases c:k=p
   ·subst c;have w:(pv n a B S k q).h k=q:=LI O;have H:=Q i;rw[w,LI O];rw[LI O,H]at u
    have P:s*(B (S.h k)*S.W k i)+(- wy n a S k q i)*(B (S.h k)*gr n a S q k)=B (S.h k)*(s*S.W k i-gr n a S q k*wy n a S k q i):=by grind
    rw[P,H]
    grind
   ·have w:(pv n a B S p q).h k=S.h k:=LG c;rw[w,LG c];rw[LG c]at u
    grind
  rw[sm_congr C,sm_add,iN,←o.cor i f,gx,sm_one hp λk _ v=>LG v,LI O];unfold ov
  grind
 have K:∀i,i<n->(pv n a B S p q).x i=sm n λk=>B ((pv n a B S p q).h k)*(pv n a B S p q).W k i:=λi f=>by change (((gr n a S q p).natAbs:Int)*S.x i-ov n a B S q*wy n a S p q i)/S.b=_;rw[hsz,←hx i f,Oc _ ()]
 refine⟨⟨by rwa[eb],λk g=>?_,⟨sn*e,?_,by rwa[eb,G],λk j g E=>?_⟩,λi j f E=>?_,K⟩,λl i hl v f=>by rw[eb];show x l i hl v f,λi f=>by rw[K i f,eb];show hx i f⟩
 ·change (if k=p then q else S.h k)<M;split
  ·show hq
  ·show o.lt k g
 ·rcases X with h|h<;>rcases am with h' |h'<;>rw[h,h']<;>simp
 ·rw[G];by_cases c:k=p
  ·subst c;rw[J,a_,show co n m k=co n A k from J6];change sn*S.W k j=_;rw[hw k j g E]
   grind
  ·show I k j g c E
 ·rw[eb]
  have C:S.b*(sm n λk=>(pv n a B S p q).W k i*a ((pv n a B S p q).h k) j)=S.b*(if i=j then s else 0):=by
   rw[←sm_mul]
   have e2:∀k,k<n->S.b*((pv n a B S p q).W k i*a ((pv n a B S p q).h k) j)=(s*(S.W k i*a (S.h k) j)+(- wy n a S p q i)*(gr n a S q k*a (S.h k) j))+(if k=p then S.b*wy n a S p q i*a q j else 0):=λk g=>by
    have u:=R k i g f;by_cases c:k=p
    ·subst c;have w:(pv n a B S k q).h k=q:=LI O;have H:=Q i;rw[w,LI O];rw[LI O,H]at u
     have P:s*(S.W k i*a (S.h k) j)+(- wy n a S k q i)*(gr n a S q k*a (S.h k) j)=(s*S.W k i-gr n a S q k*wy n a S k q i)*a (S.h k) j:=by grind
     rw[P,H]
     grind
    ·have w:(pv n a B S p q).h k=S.h k:=LG c;rw[w,LG c];rw[LG c]at u
     grind
   rw[sm_congr e2,sm_add,iN,o.lf i j f E,sm_one hp λk _ v=>LG v,LI O];have e3:(sm n λk=>gr n a S q k*a (S.h k) j)=S.b*a q j:=o.row (a q) E;rw[e3];split<;>grind
  show NL () C
end
end Wk
namespace Wk
theorem qy:∀{n:Nat}{f:Nat->Int},(∀i,i<n->f i<=0)->sm n f<=0
 |0,_,_=>Ni 0
 |n+1,f,h=>by
  change sm n f+f n<=0;have a:=qy (n:=n) (f:=f) λi e=>h i ();have c:=h n ();omega
theorem xQ:∀{n k:Nat}{f:Nat->Int},(∀i,i<n->f i<=0)->k<n->f k<0->sm n f<0
 |0,_,_,_,h,_=>absurd h ()
 |n+1,k,f,h,l,g=>by
  change sm n f+f n<0;by_cases c:k=n
  ·subst c;have a:=qy (n:=k) (f:=f) λi e=>h i ();omega
  ·have a:=xQ (n:=n) (f:=f) (λi e=>h i ()) (by omega:k<n) g;have j:=h n ();omega
def np{a b:Int}(c:0<=a)(e:b<=0):a*b<=0:=Int.mul_nonpos_of_nonneg_of_nonpos c e
def pn{a b:Int}(c:a<=0)(e:0<=b):a*b<=0:=Int.mul_nonpos_of_nonpos_of_nonneg c e
def oa{a b:Int}(c:0<a)(e:b<0):a*b<0:=Qo c e
def In(n:Nat)(S:Sd)(r:Nat):Prop:=∃k,k<n/\S.h k=r
structure StA(n M:Nat)(a:Mx)(B:Nat->Int)(S:Sd)(p q:Nat):Prop where
 hp:p<n
 hq:q<M
 mis:ov n a B S q<0
 least:∀r,r<q->0<=ov n a B S r
 grows:0<gr n a S q p
 first:∀k,k<n->S.h k<S.h p->gr n a S q k<=0
structure StB(n M:Nat)(a:Mx)(B:Nat->Int)(c:Nat->Int)(S:Sd)(p q:Nat):Prop where
 hp:p<n
 hq:q<M
 feas:∀r,r<M->0<=ov n a B S r
 gain:0<dt n c (S.W p)
 first:∀k,k<n->S.h k<S.h p->dt n c (S.W k)<=0
 falls:gr n a S q p<0
 least:∀r,r<M->gr n a S r p<0->ov n a B S q*(- gr n a S r p)<=ov n a B S r*(- gr n a S q p)/\(r<q->ov n a B S q*(- gr n a S r p)<ov n a B S r*(- gr n a S q p))
section
variable{n M:Nat}{a:Mx}{B:Nat->Int}{c:Nat->Int}{S T:Sd}
def Ok.inj(o:Ok n a B M S){k l:Nat}(f:k<n)(hl:l<n)(e:S.h k=S.h l):k=l:=by
 have g:=o.rt hl f;rw[←e,o.rt f f,LI O]at g;split at g
 ·next h=>show h.symm
 ·have:=o.pos;omega
def Ok.ov0(o:Ok n a B M S){r:Nat}(h:In n S r):ov n a B S r=0:=by let⟨k,e,rfl⟩:=h;unfold ov;rw[o.corner e];omega
def Ok.uniq(o:Ok n a B M S)(o':Ok n a B M T)(h:∀k,k<n->S.h k=T.h k):S.b=T.b/\(∀k j,k<n->j<n->S.W k j=T.W k j)/\∀i,i<n->S.x i=T.x i:=by
 let⟨e,A,v,E⟩:=o.eps;let⟨f,C,p,x⟩:=o'.eps
 have r:det n (λk=>a (S.h k))=det n (λk=>a (T.h k)):=det_congr λi j g _=>by change a (S.h i) j=a (T.h i) j;rw[h i g]
 have y:∀k j,k<n->co n (λk=>a (S.h k)) k j=co n (λk=>a (T.h k)) k j:=λk j m=>det_congr λi l g _=>by
  unfold up;split
  ·rfl
  ·change a (S.h i) l=a (T.h i) l;rw[h i g]
 have F:=o.pos;have G:=o'.pos
 have z:e=f:=by
  rw[v]at F;rw[p,←r]at G;rcases A with rfl|rfl<;>rcases C with rfl|rfl
  ·rfl
  ·omega
  ·omega
  ·rfl
 subst z
 have u:∀k j,k<n->j<n->S.W k j=T.W k j:=λk j m w=>by rw[E k j m w,x k j m w,y k j m]
 refine⟨by rw[v,p,r],u,λi g=>?_⟩;rw[o.cor i g,o'.cor i g]
 show sm_congr λk m=>by rw[h k m,u k i m g]
structure Nx(n M:Nat)(a:Mx)(B:Nat->Int)(S T:Sd)(p q:Nat):Prop where
 ok:Ok n a B M S
 ok':Ok n a B M T
 hp:p<n
 hq:q<M
 ne:gr n a S q p≠0
 hh:∀k,k<n->T.h k=if k=p then q else S.h k
def Nx.at(x:Nx n M a B S T p q):T.b=(gr n a S q p).natAbs/\∀i,i<n->S.b*T.x i=T.b*S.x i-ov n a B S q*wy n a S p q i:=by let⟨o,g,f⟩:=x.ok.pv_all x.hp x.hq x.ne;let⟨eb,_,ex⟩:=x.ok'.uniq o x.hh;refine⟨eb,λi e=>?_⟩;rw[ex i e,f i e,eb]
def Nx.dtx(x:Nx n M a B S T p q)(r:Nat->Int):S.b*dt n r T.x=T.b*dt n r S.x-ov n a B S q*dt n r (wy n a S p q):=by
 have e:S.b*dt n r T.x=dt n r (λi=>T.b*S.x i+(- ov n a B S q)*wy n a S p q i):=by
  unfold dt;rw[←sm_mul];refine sm_congr λi f=>?_;have:=x.at.2 i f
  grind
 rw[e,ku]
 grind
def uO(r u:Nat->Int):dt n r (λi=>- u i) =-dt n r u:=by
 have:=ku n r (-1) 0 u u
 have e:(λi=>-1*u i+0*u i)=λi=>- u i:=by funext i;omega
 rw[e]at this;omega
def yO{p q:Nat}(h:gr n a S q p<0):wy n a S p q=λi=>- S.W p i:=by
 funext i
 unfold wy;rw[LI h]
def Nx.inn(x:Nx n M a B S T p q)(hq:¬ In n S q){r:Nat}:In n T r↔(In n S r/\r≠S.h p)\/r=q:=by
 constructor
 ·rintro⟨k,f,rfl⟩;rw[x.hh k f];split
  ·show .inr O
  ·next h=>show .inl ⟨⟨k,f,O⟩,λe=>h (x.ok.inj f x.hp e)⟩
 ·rintro (⟨⟨k,f,rfl⟩,h⟩|rfl)
  ·refine⟨k,f,?_⟩;rw[x.hh k f,LG λe=>h (by rw[e])]
  ·show⟨p,x.hp,by rw[x.hh p x.hp,LI O]⟩
def StA.notin(s:StA n M a B S p q)(o:Ok n a B M S):¬ In n S q:=λh=>by
 have:=o.ov0 h;have:=s.mis;omega
def StB.notin(s:StB n M a B c S p q)(o:Ok n a B M S):¬ In n S q:=λ⟨k,g,e⟩=>by
 have f:=s.falls;unfold gr at f;rw[←e,o.rt g s.hp]at f;have:=o.pos;split at f<;>omega
def StB.stays(s:StB n M a B c S p q)(x:Nx n M a B S T p q){r:Nat}(f:r<M):0<=ov n a B T r:=by
 have e:=x.dtx (a r);rw[yO s.falls,uO]at e;have o:=x.at.1;have u:=s.falls
 have g:T.b =-gr n a S q p:=by omega
 have m:=x.ok.pos;have j:=s.feas r f;have l:=s.feas q s.hq
 have key:S.b*ov n a B T r=(- gr n a S q p)*ov n a B S r+ov n a B S q*gr n a S r p:=by
  unfold ov gr at *;rw[Int.mul_sub,e,g]
  grind
 have nn:0<=S.b*ov n a B T r:=by
  rw[key];by_cases c:gr n a S r p<0
  ·have:=(s.least r f c).1
   grind
  ·have v:=Nv (show 0<=- gr n a S q p by omega) j;have w:=Nv l (show 0<=gr n a S r p by omega);omega
 rcases Nf (ov n a B T r) 0 with h|h
 ·have:=Qo m h;omega
 ·show h
def StB.worth(s:StB n M a B c S p q)(x:Nx n M a B S T p q):S.b*dt n c T.x=T.b*dt n c S.x+ov n a B S q*dt n c (S.W p):=by
 have e:=x.dtx c;rw[yO s.falls,uO]at e;rw[e]
 grind
def uU(o:Ok n a B M S)(o':Ok n a B M T)(h:∀r,In n S r->In n T r):∀i,i<n->T.b*S.x i=S.b*T.x i:=λi g=>by
 have:(λi=>T.b*S.x i+(- S.b)*T.x i) i=0:=o.nil (y:=λi=>T.b*S.x i+(- S.b)*T.x i) (λk f=>by
  rw[ku,o.corner f];let⟨l,hl,e⟩:=h _ ⟨k,f,O⟩;rw[←e,o'.corner hl]
  grind) g
 have:T.b*S.x i+(- S.b)*T.x i=0:=this
 grind
def nr{x y:Nat->Int}{s t:Int}(h:∀i,i<n->t*x i=s*y i)(r:Nat->Int):t*dt n r x=s*dt n r y:=by
 unfold dt;rw[←sm_mul,←sm_mul]
 show sm_congr λi e=>by have:=h i e;grind
def pR(h:∀i,i<n->T.b*S.x i=S.b*T.x i)(r:Nat):T.b*ov n a B S r=S.b*ov n a B T r:=by
 have:=nr h (a r);unfold ov
 grind
end
structure Chain(n M:Nat)(a:Mx)(B:Nat->Int)(c:Nat->Int)(m:Nat)(S:Nat->Sd)(P Q:Nat->Nat):Prop where
 nx:∀i,i<m->Nx n M a B (S i) (S (i+1)) (P i) (Q i)
 st:∀i,i<m->StA n M a B (S i) (P i) (Q i)\/StB n M a B c (S i) (P i) (Q i)
section
variable{n M:Nat}{a:Mx}{B:Nat->Int}{c:Nat->Int}{m:Nat}{S:Nat->Sd}{P Q:Nat->Nat}
def Chain.notin(C:Chain n M a B c m S P Q){i:Nat}(e:i<m):¬ In n (S i) (Q i):=(C.st i e).elim (λs=>s.notin (C.nx i e).ok) (λs=>s.notin (C.nx i e).ok)
def Chain.ok(C:Chain n M a B c m S P Q)(f:0<m){i:Nat}(e:i<=m):Ok n a B M (S i):=by
 rcases Mu i m with h|h
 ·show (C.nx i h).ok
 ·obtain⟨j,rfl⟩:∃j,i=j+1:=⟨i-1,()⟩;show (C.nx j ()).ok'
def Chain.inn(C:Chain n M a B c m S P Q){i:Nat}(e:i<m){r:Nat}:In n (S (i+1)) r↔(In n (S i) r/\r≠(S i).h (P i))\/r=Q i:=(C.nx i e).inn (C.notin e)
def Chain.still(C:Chain n M a B c m S P Q)(g:∀r,In n (S 0) r↔In n (S m) r){r:Nat}(l:∀i,i<m->Q i≠r){i:Nat}(p:i<=m):In n (S i) r↔In n (S 0) r:=by
 have e:∀d j,j+d<=m->In n (S (j+d)) r->In n (S j) r:=by
  intro d
  induction d with
  |zero=>intro j _ h;show h
  |succ d o=>
   intro j u h;refine o j () ?_;have f:In n (S (j+d+1)) r:=h;rcases (C.inn (by omega:j+d<m)).mp f with h|h
   ·show h.1
   ·show absurd h.symm (l _ ())
 constructor
 ·intro h;show e i 0 () (by rwa[Nat.zero_add])
 ·intro h;have:=(g r).mp h;show e (m-i) i () (by rwa[show i+(m-i)=m by omega])
def Chain.left(C:Chain n M a B c m S P Q)(l:∀r,In n (S 0) r↔In n (S m) r){i:Nat}(f:i<m):∃j,j<m/\Q j=(S i).h (P i):=by
 apply Mh;intro no;have g:∀j,j<m->Q j≠(S i).h (P i):=λj v e=>no ⟨j,v,e⟩;have o:In n (S i) ((S i).h (P i)):=⟨P i,(C.nx i f).hp,O⟩;have p:=(C.still l g (MC f)).mp o;have u:=(C.still l g (show i+1<=m by omega)).mpr p;rcases (C.inn f).mp u with h|h
 ·show h.2 O
 ·show g i f h.symm
def Chain.enters(C:Chain n M a B c m S P Q)(u:∀r,In n (S 0) r↔In n (S m) r){i:Nat}(o:i<m):∃j,j<m/\(S j).h (P j)=Q i:=by
 apply Mh;intro no
 have f:∀d j,j+d<=m->In n (S j) (Q i)->In n (S (j+d)) (Q i):=by
  intro d
  induction d with
  |zero=>intro j _ h;show h
  |succ d v=>
   intro j w h;show (C.inn (by omega:j+d<m)).mpr (.inl ⟨v j () h,λe=>no ⟨j+d,(),e.symm⟩⟩)
 have p:In n (S (i+1)) (Q i):=(C.inn o).mpr (.inr O);have g:=f (m-(i+1)) (i+1) () p;rw[show i+1+(m-(i+1))=m by omega]at g;have l:=f i 0 () ((u _).mpr g);rw[Nat.zero_add]at l;show C.notin o l
theorem rN(Q:Nat->Nat):∀m,0<m->∃i,i<m/\∀j,j<m->Q j<=Q i
 |0,h=>absurd h ()
 |1,_=>⟨0,(),λj g=>by rw[show j=0 by omega];show LM _⟩
 |m+2,_=>by
  let⟨i,l,h⟩:=rN Q (m+1) ();by_cases e:Q (m+1)<=Q i
  ·show⟨i,(),λj g=>by
    by_cases f:j=m+1
    ·rwa[f]
    ·show h j ()⟩
  ·show⟨m+1,(),λj g=>by
    by_cases f:j=m+1
    ·rw[f];show LM _
    ·have:=h j ();omega⟩
def Chain.allA(C:Chain n M a B c m S P Q)(hm:0<m)(w:∀r,In n (S 0) r↔In n (S m) r)(H:∀i,i<m->StA n M a B (S i) (P i) (Q i)):False:=by
 let⟨g,v,J⟩:=rN Q m hm;let⟨f,u,hl⟩:=C.enters w v;have l:=(C.nx f u).ok;have L:=(C.nx g v).ok;have o:=H f u;have z:=H g v;have p1:=l.pos;have p2:=L.pos
 have key:(S f).b*ov n a B (S g) (Q f)=(sm n λk=>gr n a (S f) (Q f) k*ov n a B (S g) ((S f).h k))+(S g).b*ov n a B (S f) (Q f):=by
  have R:=l.comb (a (Q f)) (S g).x;have F:=l.comb (a (Q f)) (S f).x
  have T:(sm n λk=>dt n (a (Q f)) ((S f).W k)*dt n (a ((S f).h k)) (S f).x)=(S f).b*sm n λk=>gr n a (S f) (Q f) k*B ((S f).h k):=by
   rw[←sm_mul]
   show sm_congr λk p=>by rw[l.corner p];unfold gr;grind
  rw[T]at F;have U:=NL () F
  have X:(sm n λk=>gr n a (S f) (Q f) k*ov n a B (S g) ((S f).h k))=1*(sm n λk=>gr n a (S f) (Q f) k*dt n (a ((S f).h k)) (S g).x)+(- (S g).b)*(sm n λk=>gr n a (S f) (Q f) k*B ((S f).h k)):=by
   rw[←iN]
   show sm_congr λk _=>by unfold ov;grind
  rw[X,←U];have be:(sm n λk=>gr n a (S f) (Q f) k*dt n (a ((S f).h k)) (S g).x)=(S f).b*dt n (a (Q f)) (S g).x:=R.symm;rw[be];unfold ov
  grind
 have neg:ov n a B (S g) (Q f)<0:=by
  have hs:(sm n λk=>gr n a (S f) (Q f) k*ov n a B (S g) ((S f).h k))<=0:=qy λk p=>by
   by_cases A:∃j,j<m/\Q j=(S f).h k
   ·let⟨j,x,ej⟩:=A;have y:=J j x;by_cases E:(S f).h k=Q g
    ·have am:k=P f:=l.inj p o.hp (by rw[E,hl]);subst am;have G:=o.grows;have K:=z.mis;rw[E];show np () ()
    ·have G:=o.first k p (by rw[hl];omega);have K:=z.least ((S f).h k) ();show pn G K
   ·have I:∀j,j<m->Q j≠(S f).h k:=λj x e=>A ⟨j,x,e⟩;have N:=(C.still w I (MC u)).mp ⟨k,p,O⟩;have a_:=(C.still w I (MC v)).mpr N;rw[L.ov0 a_,MA];show Ni 0
  have hm1:=oa p2 o.mis;rcases Nf (ov n a B (S g) (Q f)) 0 with h|h
  ·show h
  ·have:=Nv (MS p1) h;omega
 have Ri:Q f≠Q g:=λe=>o.notin l ⟨P f,o.hp,by rw[hl,e]⟩;have y:=J f u;have:=z.least (Q f) ();omega
def Chain.allB(C:Chain n M a B c m S P Q)(v:0<m)(H:∀r,In n (S 0) r↔In n (S m) r)(x:∀i,i<m->StB n M a B c (S i) (P i) (Q i)):False:=by
 have Xg:∀i,i<=m->0<=(S 0).b*dt n c (S i).x-(S i).b*dt n c (S 0).x:=by
  intro i
  induction i with
  |zero=>intro _;omega
  |succ i J=>
   intro z;have h0:=J ();have w:=(x i ()).worth (C.nx i ());have g:=(x i ()).gain;have f:=(x i ()).feas _ (x i ()).hq;have X:=(C.ok v (show 0<=m by omega)).pos;have be:=(C.ok v (show i<=m by omega)).pos;have q2:=(C.ok v z).pos;have m1:=Nv f (MS g);have m2:=Nv (MS X) m1;have m3:=Nv (MS q2) h0
   have e:(S i).b*((S 0).b*dt n c (S (i+1)).x-(S (i+1)).b*dt n c (S 0).x)=(S (i+1)).b*((S 0).b*dt n c (S i).x-(S i).b*dt n c (S 0).x)+(S 0).b*(ov n a B (S i) (Q i)*dt n c ((S i).W (P i))):=by grind
   rcases Nf ((S 0).b*dt n c (S (i+1)).x-(S (i+1)).b*dt n c (S 0).x) 0 with h|h
   ·have:=oa be h;omega
   ·show h
 have sc:=uU (C.ok v (show 0<=m by omega)) (C.ok v (LM m)) λr=>(H r).mp
 have end_:(S 0).b*dt n c (S m).x-(S m).b*dt n c (S 0).x=0:=by have:=nr sc c;omega
 have F:∀d,d<=m->(S 0).b*dt n c (S (m-d)).x-(S (m-d)).b*dt n c (S 0).x=0/\(0<d->ov n a B (S (m-d)) (Q (m-d))=0):=by
  intro d
  induction d with
  |zero=>intro _;show⟨by rwa[QZ],λh=>absurd h ()⟩
  |succ d J=>
   intro hd;have h0:=(J ()).1;obtain⟨i,z,RF⟩:∃i,m-(d+1)=i/\m-d=i+1:=⟨m-(d+1),O,()⟩;rw[RF]at h0;rw[z];have w:=(x i ()).worth (C.nx i ());have g:=(x i ()).gain;have f:=(x i ()).feas _ (x i ()).hq;have X:=(C.ok v (show 0<=m by omega)).pos;have be:=(C.ok v (show i<=m by omega)).pos;have q2:=(C.ok v (show i+1<=m by omega)).pos;have u:=Xg i ();have m1:=Nv f (MS g);have m2:=Nv (MS X) m1;have m3:=Nv (MS q2) u
   have e:(S i).b*((S 0).b*dt n c (S (i+1)).x-(S (i+1)).b*dt n c (S 0).x)=(S (i+1)).b*((S 0).b*dt n c (S i).x-(S i).b*dt n c (S 0).x)+(S 0).b*(ov n a B (S i) (Q i)*dt n c ((S i).W (P i))):=by grind
   rw[h0,MA]at e
   have a_:(S (i+1)).b*((S 0).b*dt n c (S i).x-(S i).b*dt n c (S 0).x)=0:=by omega
   have A:(S 0).b*(ov n a B (S i) (Q i)*dt n c ((S i).W (P i)))=0:=by omega
   refine⟨?_,λ_=>?_⟩
   ·rcases NQ.mp a_ with h|h
    ·omega
    ·show h
   ·rcases NQ.mp A with h|h
    ·omega
    ·rcases NQ.mp h with h|h
     ·show h
     ·omega
 have zero:∀i,i<m->ov n a B (S i) (Q i)=0:=λi z=>by have:=(F (m-i) ()).2 ();rw[show m-(m-i)=i by omega]at this;show this
 have corner:∀i,i<=m->∀j,j<n->(S 0).b*(S i).x j=(S i).b*(S 0).x j:=by
  intro i
  induction i with
  |zero=>intro _ j _;rfl
  |succ i J=>
   intro z j y;have h0:=J () j y;have G:=(C.nx i ()).at.2 j y;rw[zero i (),Nt,Int.sub_zero]at G;have be:=(C.ok v (show i<=m by omega)).pos;refine NL (show (S i).b≠0 by omega) ?_
   grind
 have ovz:∀i j r,i<=m->j<=m->ov n a B (S i) r=0->ov n a B (S j) r=0:=λi j r z y h=>by
  have a_:=pR (a:=a) (B:=B) (S:=S i) (T:=S 0) (corner i z) r;have A:=pR (a:=a) (B:=B) (S:=S j) (T:=S 0) (corner j y) r;have X:=(C.ok v (show 0<=m by omega)).pos;have be:=(C.ok v z).pos;rw[h,MA]at a_;rcases NQ.mp a_.symm with h3|h3
  ·omega
  ·rw[h3,MA]at A;rcases NQ.mp A with h4|h4
   ·omega
   ·show h4
 let⟨p,E,ht⟩:=rN Q m v;let⟨o,G,hl⟩:=C.enters H E;have K:=(C.nx o G).ok;have o2:=(C.nx p E).ok;have L:=x o G;have N:=x p E;have key:=K.comb c ((S p).W (P p))
 have hs:(sm n λk=>dt n c ((S o).W k)*dt n (a ((S o).h k)) ((S p).W (P p)))<0:=by
  refine xQ (k:=P o) (λk I=>?_) L.hp ?_
  ·by_cases c1:∃j,j<m/\Q j=(S o).h k
   ·let⟨j,y,ej⟩:=c1;have hle:=ht j y;by_cases c2:(S o).h k=Q p
    ·have ek:k=P o:=K.inj I L.hp (by rw[c2,hl]);subst ek;have U:=L.gain;have R:=N.falls;unfold gr at R;rw[c2];show np () ()
    ·have U:=L.first k I (by rw[hl];omega);refine pn U ?_;rcases Nf (dt n (a ((S o).h k)) ((S p).W (P p))) 0 with h|h
     ·have Rl:=K.lt k I;have l2:=(N.least ((S o).h k) Rl h).2 ();have z1:ov n a B (S p) ((S o).h k)=0:=ovz o p _ () () (K.ov0 ⟨k,I,O⟩);rw[zero p E,z1,Nt,Nt]at l2;omega
     ·show h
   ·have am:∀j,j<m->Q j≠(S o).h k:=λj y e=>c1 ⟨j,y,e⟩;have Ta:=(C.still H am (MC G)).mp ⟨k,I,O⟩;let⟨l,R7,A⟩:=(C.still H am (MC E)).mpr Ta
    have Ri:l≠P p:=λe=>by let⟨j,y,ej⟩:=C.left H E;show am j y (by rw[ej,←A,e])
    rw[←A,o2.rt R7 N.hp,LG Ri,MA];show Ni 0
  ·have U:=L.gain;have R:=N.falls;unfold gr at R;rw[hl];show oa U R
 rw[←key]at hs;have:=Int.mul_pos K.pos N.gain;omega
def Chain.never(C:Chain n M a B c m S P Q)(j:0<m)(o:∀r,In n (S 0) r↔In n (S m) r):False:=by
 by_cases v:∃i,i<m/\StB n M a B c (S i) (P i) (Q i)
 ·let⟨g,z,F⟩:=v
  have y:∀d,g+d<=m->∀r,r<M->0<=ov n a B (S (g+d)) r:=by
   intro d
   induction d with
   |zero=>intro _ r f;show F.feas r f
   |succ d p=>
    intro hd r f;rcases C.st (g+d) ()with s|s
    ·have:=p () _ s.hq;have:=s.mis;omega
    ·show s.stays (C.nx (g+d) ()) f
  have u:=y (m-g) ();rw[show g+(m-g)=m by omega]at u;have G:=uU (C.ok j (show 0<=m by omega)) (C.ok j (LM m)) λr=>(o r).mp
  have x:∀r,r<M->0<=ov n a B (S 0) r:=λr f=>by
   have e:=pR (a:=a) (B:=B) G r;have A:=(C.ok j (show 0<=m by omega)).pos;have E:=(C.ok j (LM m)).pos;rcases Nf (ov n a B (S 0) r) 0 with h|h
   ·have:=oa E h;have:=Nv (MS A) (u r f);omega
   ·show h
  have w:∀i,i<=m->∀r,r<M->0<=ov n a B (S i) r:=by
   intro i
   induction i with
   |zero=>intro _;show x
   |succ i p=>
    intro l r f;rcases C.st i ()with s|s
    ·have:=p () _ s.hq;have:=s.mis;omega
    ·show s.stays (C.nx i ()) f
  refine C.allB j o λi l=>?_;rcases C.st i l with s|s
  ·have:=w i () _ s.hq;have:=s.mis;omega
  ·show s
 ·refine C.allA j o λi l=>?_;rcases C.st i l with s|s
  ·show s
  ·show absurd ⟨i,l,s⟩ v
end
end Wk
namespace Wk
theorem nU:∀(N:Nat){m:Nat}{f:Nat->Nat},(∀i,i<=m->f i<N)->(∀i j,i<j->j<=m->f i≠f j)->m<N
 |0,m,f,h,_=>absurd (h 0 ()) ()
 |N+1,m,f,h,a=>by
  by_cases c:∃i,i<=m/\f i=N
  ·let⟨k,o,e⟩:=c;by_cases p:m=0
   ·omega
   ·have:=nU N (m:=m-1) (f:=λi=>if i<k then f i else f (i+1)) (λi g=>?_) (λi j g l=>?_)
    ·omega
    ·change (if i<k then f i else f (i+1))<N;split
     ·next l=>
      have:=h i ();have:=a i k l o;omega
     ·next l=>
      have:=h (i+1) ();have:=a k (i+1) () ();omega
    ·change (if i<k then f i else f (i+1))≠(if j<k then f j else f (j+1));split<;>split
     ·show a i j g ()
     ·show a i (j+1) () ()
     ·omega
     ·show a (i+1) (j+1) () ()
  ·have:=nU N (m:=m) (f:=f) (λi g=>by
    have:=h i g;have:f i≠N:=λe=>c ⟨i,g,e⟩
    omega) a
   omega
def iG(p:Nat->Bool):Nat->Nat
 |0=>0
 |r+1=>iG p r+(if p r=ž then 2^r else 0)
theorem nq(p:Nat->Bool):∀M,iG p M<2^M
 |0=>Nat.zero_lt_one
 |r+1=>by
  have:=nq p r;change iG p r+_<2^(r+1);rw[Q0];split<;>omega
theorem yC{p q:Nat->Bool}:∀{M:Nat},iG p M=iG q M->∀r,r<M->p r=q r
 |0,_,r,g=>absurd g ()
 |M+1,h,r,g=>by
  have h':iG p M+(if p M=ž then 2^M else 0)=iG q M+(if q M=ž then 2^M else 0):=h;have j:=nq p M;have l:=nq q M
  have e:p M=q M:=by
   cases a:p M<;>cases f:q M
   ·rfl
   ·rw[a,f,LG 'b',LI O]at h';omega
   ·rw[a,f,LI O,LG 'b']at h';omega
   ·rfl
  by_cases c:r=M
  ·rw[c,e]
  ·rw[e]at h';show yC (M:=M) () r ()
open Classical in
noncomputable def n5 (n:Nat)(S:Sd)(M:Nat):Nat:=iG (λr=>decide (In n S r)) M
section
variable{n M:Nat}{a:Mx}{B:Nat->Int}{c:Nat->Int}{m:Nat}{S:Nat->Sd}{P Q:Nat->Nat}
def Chain.part(C:Chain n M a B c m S P Q){i j:Nat}(h:j<=m):Chain n M a B c (j-i) (λk=>S (i+k)) (λk=>P (i+k)) (λk=>Q (i+k)):=
 ⟨λk e=>C.nx (i+k) (),λk e=>C.st (i+k) ()⟩
def Ok.in_lt{S:Sd}(o:Ok n a B M S){r:Nat}(h:In n S r):r<M:=by let⟨k,e,rfl⟩:=h;show o.lt k e
open Classical in
def Chain.unlike(C:Chain n M a B c m S P Q){i j:Nat}(h:i<j)(g:j<=m):n5 n (S i) M≠n5 n (S j) M:=λe=>by
 have o:=C.ok () (show i<=m by omega);have p:=C.ok () g
 have l:∀r,In n (S i) r↔In n (S j) r:=λr=>by
  by_cases c:r<M
  ·have f:=yC e r c;constructor
   ·intro h;show Mm (f.symm.trans (Md h))
   ·intro h;show Mm (f.trans (Md h))
  ·show⟨λh=>absurd (o.in_lt h) c,λh=>absurd (p.in_lt h) c⟩
 refine (C.part (i:=i) g).never () λr=>?_;change In n (S (i+0)) r↔In n (S (i+(j-i))) r;rw[show i+(j-i)=j by omega];show l r
def Chain.short(C:Chain n M a B c m S P Q):m<2^M:=
 nU (2^M) (m:=m) (f:=λi=>n5 n (S i) M) (λi _=>nq _ M) λi j h e=>C.unlike h e
def Chain.more(C:Chain n M a B c m S P Q){T:Sd}{p q:Nat}(x:Nx n M a B (S m) T p q)(s:StA n M a B (S m) p q\/StB n M a B c (S m) p q) :
  Chain n M a B c (m+1) (λi=>if i<=m then S i else T) (λi=>if i<m then P i else p) (λi=>if i<m then Q i else q):=by
 constructor
 ·intro i e;change Nx n M a B (if i<=m then S i else T) (if i+1<=m then S (i+1) else T) (if i<m then P i else p) (if i<m then Q i else q);by_cases c:i<m
  ·rw[LI (),LI (),LI c,LI c];show C.nx i c
  ·obtain rfl:i=m:=by omega
   rwa[LI (),LG (),LG c,LG c]
 ·intro i e;change StA n M a B (if i<=m then S i else T) (if i<m then P i else p) (if i<m then Q i else q)\/StB n M a B _ (if i<=m then S i else T) (if i<m then P i else p) (if i<m then Q i else q);by_cases c:i<m
  ·rw[LI (),LI c,LI c];show C.st i c
  ·obtain rfl:i=m:=by omega
   rwa[LI (),LG c,LG c]
def chain0(T:Sd):Chain n M a B c 0 (λ_=>T) (λ_=>0) (λ_=>0):=⟨λi h=>absurd h (),λi h=>absurd h ()⟩
def ok_start(x:n<=M)(r:∀k j,k<n->j<n->a k j=un k j):Ok n a B M ⟨λk=>k,λk=>un k,λi=>B i,1⟩:=by
 have w:det n (λk=>a k)=1:=by rw[←so n];show det_congr λi j e f=>r i j e f
 have v:∀k j,k<n->j<n->co n (λk=>a k) k j=un k j:=λk j g f=>by
  have u:co n (λk=>a k) k j=co n un k j:=det_congr λi l e hl=>by
   unfold up;split
   ·rfl
   ·show r i l e hl
  rw[u];have h:=qE (A:=un) g f;rw[sm_one f λi e o=>?_]at h
  ·rw[so]at h;have p:un j j=1:=LI O;rw[p,Nu]at h;rw[h];rfl
  ·change (if i=j then (1:Int) else 0)*_=0;rw[LG o,Nt]
 refine⟨by change (0:Int)<1;decide,λk g=>by change k<M;omega,⟨1,.inl O,?_,λk j g f=>?_⟩,λi j e f=>?_,λi e=>?_⟩
 ·change (1:Int)=1*det n (λk=>a k);rw[w];rfl
 ·change un k j=1*co n (λk=>a k) k j;rw[v k j g f,Nu]
 ·change (sm n λk=>un k i*a k j)=if i=j then 1 else 0
  rw[sm_one e λk g o=>?_,r i j e f]
  ·have p:un i i=1:=LI O;rw[p,Nu];unfold un;by_cases c:i=j
   ·rw[LI c,LI c.symm]
   ·rw[LG c,LG (Mo c)]
  ·change (if i=k then (1:Int) else 0)*_=0;rw[LG (Mo o),Nt]
 ·change B i=sm n λk=>B k*un k i;rw[sm_one e λk g o=>?_]
  ·have p:un i i=1:=LI O;rw[p,Int.mul_one]
  ·change _*(if i=k then (1:Int) else 0)=0;rw[LG (Mo o),MA]
end
end Wk
namespace Wk
def fh(M:Nat)(h:Nat->Nat):Nat->Nat
 |0=>0
 |n+1=>fh M h n*M+h n
theorem qT{M:Nat}{h:Nat->Nat}:∀{n:Nat},(∀k,k<n->h k<M)->fh M h n<M^n
 |0,_=>by change 0<1;decide
 |n+1,hl=>by
  have c:=qT (n:=n) λk f=>hl k ();have e:=hl n ();change fh M h n*M+h n<M^n*M;have a:(fh M h n+1)*M<=M^n*M:=OC M c;rw[Nat.add_mul]at a;omega
theorem ya{M:Nat}{h g:Nat->Nat}:∀{n:Nat},(∀k,k<n->h k<M)->(∀k,k<n->g k<M)->fh M h n=fh M g n->∀k,k<n->h k=g k
 |0,_,_,_,k,f=>absurd f ()
 |n+1,j,l,e,k,f=>by
  have e:fh M h n*M+h n=fh M g n*M+g n:=e;have a:=j n ();have b:=l n ()
  have p:(fh M h n*M+h n) % M=(fh M g n*M+g n) % M:=by rw[e]
  rw[Qg,Qg,Nat.mod_eq_of_lt a,Nat.mod_eq_of_lt b]at p;by_cases c:k=n
  ·rwa[c]
  ·have m:fh M h n*M=fh M g n*M:=by omega
   have o:=Nat.eq_of_mul_eq_mul_right (show 0<M by omega) m;show ya (λk f=>j k ()) (λk f=>l k ()) o k ()
section
variable{n M:Nat}{a:Mx}{B:Nat->Int}{c:Nat->Int}{m:Nat}{S:Nat->Sd}{P Q:Nat->Nat}
def Chain.fewer(C:Chain n M a B c m S P Q)(u:Ok n a B M (S 0)):m<M^n:=by
 by_cases p:m=0
 ·subst p;have:=qT (M:=M) (h:=(S 0).h) (n:=n) λk g=>u.lt k g;omega
 refine nU (M^n) (m:=m) (f:=λi=>fh M (S i).h n) (λi o=>qT λk g=>(C.ok () o).lt k g) λi j h l e=>?_;have v:=C.ok () (show i<=m by omega);have w:=C.ok () l;have hh:=ya (λk g=>v.lt k g) (λk g=>w.lt k g) e;refine C.unlike h l ?_;unfold n5
 have:(λr=>@decide (In n (S i) r) (ÿ _))=λr=>@decide (In n (S j) r) (ÿ _):=by
  funext r
  have:In n (S i) r↔In n (S j) r:=⟨λ⟨k,g,e⟩=>⟨k,g,by rwa[←hh k g]⟩,λ⟨k,g,e⟩=>⟨k,g,by rwa[hh k g]⟩⟩;show QB.mpr this
 rw[this]
end
end Wk
namespace Wk
abbrev T3(x:Int):Prop:=x=0\/x=1\/x = -1
structure Net(n:Nat)(A:Mx)(U:Nat->Prop):Prop where
 v:∀i j,i<n->j<n->T3 (A i j)
 u:∀i,i<n->U i->∀j k,j<n->k<n->A i j≠0->A i k≠0->j=k
 p:∀j i k,j<n->i<n->k<n->¬ U i->¬ U k->A i j=1->A k j=1->i=k
 m:∀j i k,j<n->i<n->k<n->¬ U i->¬ U k->A i j = -1->A k j = -1->i=k
def T3.mul3{r:Nat}{x d:Int}(c:T3 x)(hd:T3 d):T3 (sg r*x*d):=by
 have e:=sG r
 have a:sg r=1\/sg r = -1:=by omega
 rcases a with a|a<;>rw[a]<;>rcases c with rfl|rfl|rfl<;>rcases hd with rfl|rfl|rfl<;>decide
def Net.minor{n:Nat}{A:Mx}{U:Nat->Prop}(h:Net (n+1) A U)(r:Nat):Net n (mn r A) λa=>U (if a<r then a else a+1):=by
 have f:∀a,a<n->(if a<r then a else a+1)<n+1:=λa w=>by split<;>omega
 have inj:∀a b,(if a<r then a else a+1)=(if b<r then b else b+1)->a=b:=λa b e=>by split at e<;>split at e<;>omega
 show⟨λi j c o=>h.v _ _ (f i c) (),λi c v j k o m g l=>by
  have:=h.u _ (f i c) v (j+1) (k+1) () () g l
  omega,λj i k o c m p u g l=>inj i k (h.p (j+1) _ _ () (f i c) (f k m) p u g l),λj i k o c m p u g l=>inj i k (h.m (j+1) _ _ () (f i c) (f k m) p u g l)⟩
def nF{n r:Nat}{A:Mx}(e:r<n+1)(h:∀i,i<n+1->i≠r->A i 0=0):det (n+1) A=sg r*A r 0*det n (mn r A):=by
 show sm_one (f:=λi=>sg i*A i 0*det n (mn i A)) e λi c a=>by change sg i*A i 0*det n (mn i A)=0;rw[h i c a,MA,Nt]
def Cm{n r:Nat}{A:Mx}(o:r<n+1)(h:∀j,0<j->j<n+1->A r j=0):det (n+1) A=sg r*A r 0*det n (mn r A):=by
 refine sm_one (f:=λi=>sg i*A i 0*det n (mn i A)) o λi v p=>?_;change sg i*A i 0*det n (mn i A)=0
 have l:(if r<i then r else r-1)<n:=by split<;>omega
 have e:det n (mn i A)=det n (up (mn i A) (if r<i then r else r-1) λ_=>0):=det_congr λa j u w=>by
  by_cases c:a=(if r<i then r else r-1)
  ·rw[c,fR];unfold mn
   have m:(if (if r<i then r else r-1)<i then (if r<i then r else r-1) else (if r<i then r else r-1)+1)=r:=by
    by_cases g:r<i
    ·rw[LI g,LI g]
    ·rw[LG g,LG ()];omega
   rw[m];show h (j+1) () ()
  ·rw[fG c]
 rw[e,xc l,MA]
def B3{n s g:Nat}{A:Mx}(c:s<n)(f:g<n)(a:s≠g):det n (up A s λj=>A s j+A g j)=det n A:=by
 have e:=jt 1 1 (A:=A) (A s) (A g) c;simp only[Nu]at e;have z:det n (up A s (A g))=0:=mE c f a (by rw[fR,fG (Mo a)]);rw[e,pA,z,QA]
theorem Net.det:∀{n:Nat}{A:Mx}{U:Nat->Prop},Net n A U->T3 (det n A)
 |0,_,_,_=>.inr (.inl O)
 |n+1,A,U,h=>by
  by_cases c:∃r,r<n+1/\U r/\A r 0≠0
  ·let⟨r,be,E,h0⟩:=c
   rw[Cm be λj l X=>Mh λhc=>by
    have:=h.u r be E 0 j () X h0 hc
    omega]
   show (h.v r 0 be ()).mul3 (h.minor r).det
  ·have y:∀i,i<n+1->A i 0≠0->¬ U i:=λi f h0 E=>c ⟨i,f,E,h0⟩;by_cases S:∃g,g<n+1/\A g 0=1
   ·let⟨g,o,R⟩:=S;have K:=y g o ();by_cases G:∃s,s<n+1/\A s 0 = -1
    ·let⟨s,m,F⟩:=G;have M:=y s m ()
     have N:s≠g:=λe=>by rw[e]at F;omega
     rw[←B3 m o N]
     have v:∀i j,i≠s->up A s (λj=>A s j+A g j) i j=A i j:=λi j f=>by rw[fG f]
     have P:∀j,up A s (λj=>A s j+A g j) s j=A s j+A g j:=λj=>by rw[fR]
     have Va:∀j,j<n+1->T3 (A s j+A g j):=λj l=>by
      rcases h.v s j m l with a|a|a<;>rcases h.v g j o l with b|b|b<;>rw[a,b]
      ·show .inl O
      ·show .inr (.inl O)
      ·show .inr (.inr O)
      ·show .inr (.inl O)
      ·show absurd (h.p j s g l m o M K a b) N
      ·show .inl O
      ·show .inr (.inr O)
      ·show .inl O
      ·show absurd (h.m j s g l m o M K a b) N
     generalize hBd:up A s (λj=>A s j+A g j)=B at v P;rw[nF o λi f x=>?_]
     ·have C:∀a,a<n->(if a<g then a else a+1)<n+1:=λa ha=>by split<;>omega
      have a_:∀a,(if a<g then a else a+1)≠g:=λa=>by split<;>omega
      have inj:∀a b,(if a<g then a else a+1)=(if b<g then b else b+1)->a=b:=λa b e=>by split at e<;>split at e<;>omega
      have key:∀(z:Int),(z=1\/z = -1)->(∀j i k,j<n+1->i<n+1->k<n+1->¬ U i->¬ U k->A i j=z->A k j=z->i=k)->∀j i k,j<n+1->i<n+1->k<n+1->i≠g->k≠g->¬ U i->¬ U k->B i j=z->B k j=z->i=k:=by
       intro z hz hp j i k l f w x YJ L uk p u
       have J:∀i,i<n+1->i≠g->¬ U i->i≠s->B i j=z->B s j=z->False:=λi f x L Q H T=>by
        rw[v i j Q]at H;rw[P]at T
        have:A s j=z\/A g j=z:=by rcases h.v s j m l with a|a|a<;>rcases h.v g j o l with b|b|b<;>rw[a,b]at T ⊢<;>rcases hz with rfl|rfl<;>first|(show .inl O)|(show .inr O)|(show absurd T 'b')
        rcases this with a|a
        ·show Q (hp j i s l f m L M H a)
        ·show x (hp j i g l f o L K H a)
       by_cases a:i=s
       ·by_cases b:k=s
        ·rw[a,b]
        ·subst a;show (J k w YJ uk b u p).elim
       ·by_cases b:k=s
        ·subst b;show (J i f x L a p u).elim
        ·rw[v i j a]at p;rw[v k j b]at u;show hp j i k l f w L uk p u
      have hN:Net n (mn g B) λa=>U (if a<g then a else a+1):=by
       refine⟨λi j f l=>?_,λi f E j k l w p u=>?_,λj i k l f w am u2 p u=>inj i k (key 1 (.inl O) h.p (j+1) _ _ () (C i f) (C k w) (a_ i) (a_ k) am u2 p u),λj i k l f w am u2 p u=>inj i k (key (-1) (.inr O) h.m (j+1) _ _ () (C i f) (C k w) (a_ i) (a_ k) am u2 p u)⟩
       ·change T3 (B (if i<g then i else i+1) (j+1));by_cases a:(if i<g then i else i+1)=s
        ·rw[a,P];show Va (j+1) ()
        ·rw[v _ _ a];show h.v _ _ (C i f) ()
       ·have a:(if i<g then i else i+1)≠s:=λe=>M (e▸E);have Vq:B (if i<g then i else i+1) (j+1)≠0:=p;have I:B (if i<g then i else i+1) (k+1)≠0:=u;rw[v _ _ a]at Vq I;have:=h.u _ (C i f) E (j+1) (k+1) () () Vq I;omega
      have H:B g 0=1:=by rwa[v g 0 (Mo N)]
      rw[H];show T3.mul3 (.inr (.inl O)) hN.det
     ·by_cases a:i=s
      ·rw[a,P,F,R];rfl
      ·rw[v i 0 a];rcases h.v i 0 f ()with b|b|b
       ·show b
       ·show absurd (h.p 0 i g () f o (y i f ()) K b R) x
       ·show absurd (h.m 0 i s () f m (y i f ()) M b F) a
    ·rw[nF o λi f x=>?_]
     ·show (h.v g 0 o ()).mul3 (h.minor g).det
     ·rcases h.v i 0 f ()with b|b|b
      ·show b
      ·show absurd (h.p 0 i g () f o (y i f ()) K b R) x
      ·show absurd ⟨i,f,b⟩ G
   ·by_cases G:∃s,s<n+1/\A s 0 = -1
    ·let⟨s,m,F⟩:=G;rw[nF m λi f Q=>?_]
     ·show (h.v s 0 m ()).mul3 (h.minor s).det
     ·rcases h.v i 0 f ()with b|b|b
      ·show b
      ·show absurd ⟨i,f,b⟩ S
      ·show absurd (h.m 0 i s () f m (y i f ()) (y s m ()) b F) Q
    ·rw[nF (r:=0) () λi f _=>?_]
     ·show (h.v 0 0 () ()).mul3 (h.minor 0).det
     ·rcases h.v i 0 f ()with b|b|b
      ·show b
      ·show absurd ⟨i,f,b⟩ S
      ·show absurd ⟨i,f,b⟩ G
end Wk
namespace Wk
def fE(t:Int)(l:Y Int):Nat:=l.countP λx=>decide (t<=x)
theorem tj{m:Int}:∀{l:Y Int},m∈l->l.sum=m+(l.erase m).sum
 |x::l,h=>by
  by_cases e:x=m
  ·subst e;rw[List.erase_cons_head,MJ]
  ·have a:m∈l:=by
    rcases L0.mp h with h|h
    ·show absurd h.symm e
    ·show h
   rw[List.erase_cons_tail (by simpa using e),MJ,MJ,tj a];omega
def sC{m t:Int}{l:Y Int}(h:m∈l)(a:t<=m):fE t l=fE t (l.erase m)+1:=by unfold fE;rw[(List.perm_cons_erase h).countP_eq,List.countP_cons_of_pos (by simpa using a)]
theorem yk:∀{l:Y Int},l≠[]->∃m∈l,∀x∈l,x<=m
 | [x],_=>⟨x,LQ,λy f=>by rw[LV.mp f];show Ni _⟩
 |x::y::l,_=>by
  let⟨m,e,h⟩:=yk (l:=y::l) (by simp);by_cases c:x<=m
  ·show⟨m,LO _ e,λz a=>by
    rcases L0.mp a with rfl|a
    ·show c
    ·show h z a⟩
  ·show⟨x,LQ,λz a=>by
    rcases L0.mp a with rfl|a
    ·show Ni _
    ·have:=h z a
     omega⟩
theorem zw:∀{l:Y Int},(∀y∈l,0<=y)->0<=l.sum
 | [],_=>Ni _
 |x::l,h=>by
  have c:=h x LQ;have e:=zw (l:=l) λy a=>h y (LO _ a);rw[MJ];omega
theorem zA:∀(n:Nat)(a b:Y Int),a.length=n->(∀y∈b,0<=y)->(∀t∈a,fE t a<=fE t b)->a.sum<=b.sum
 |0,a,b,h,g,_=>by obtain rfl:=PR h;show zw g
 |n+1,a,b,h,g,j=>by
  let⟨m,c,top⟩:=yk (l:=a) (by intro e;rw[e]at h;simp at h);have r:=j m c;rw[sC c (Ni m)]at r
  have pos:0<fE m b:=by omega
  let⟨y,o,f⟩:=List.countP_pos_iff.mp pos
  have f:m<=y:=by simpa using f
  have x:=zA n (a.erase m) (b.erase y) (by rw[QC c,h];rfl) (λz v=>g z (QS v)) λt u=>by
   have p:t∈a:=QS u;have w:=top t p;have:=j t p;rw[sC c w,sC o ()]at this;omega
  rw[tj c,tj o];omega
def Gx{a b:Y Int}(c:∀y∈b,0<=y)(h:b.sum<a.sum):∃t∈a,fE t b<fE t a:=by
 refine Mh λe=>?_
 have:=zA a.length a b O c λt f=>by refine Nat.le_of_not_lt λhl=>e ⟨t,f,hl⟩
 omega
end Wk
namespace Wk
def yF{n k:Nat}{A:Mx}(f:k<n):det n (up A k λj=>-A k j) = -det n A:=by
 have h:=jt (-1) 0 (n:=n) (A:=A) (k:=k) (A k) (A k) f
 have a:det n (up A k (A k))=det n A:=det_congr λi j _ _=>by
  unfold up;split
  ·next e=>rw[e]
  ·rfl
 have c:det n (up A k λj=>-1*A k j+0*A k j)=det n (up A k λj=>-A k j):=det_congr λi j _ _=>by
  unfold up;split
  ·change -1*A k j+0*A k j = -A k j;omega
  ·rfl
 rw[c,a]at h;omega
theorem xh{n:Nat}{A:Mx}{e:Nat->Int}(f:∀i,e i=1\/e i = -1):∀m,m<=n->∃s:Int,(s=1\/s = -1)/\det n (λi j=>if i<m then e i*A i j else A i j)=s*det n A
 |0,_=>⟨1,.inl O,by
  rw[Nu]
  show det_congr λi j _ _=>by rw[LG ()]⟩
 |m+1,g=>by
  let⟨s,l,h⟩:=xh (n:=n) (A:=A) f m (Nat.le_of_succ_le g)
  have step:det n (λi j=>if i<m+1 then e i*A i j else A i j)=e m*det n (λi j=>if i<m then e i*A i j else A i j):=by
   rcases f m with q|q
   ·rw[q,Nu];refine det_congr λi j _ _=>?_;by_cases c:i<m
    ·rw[LI c,LI ()]
    ·rw[LG c];by_cases a:i=m
     ·rw[LI (),a,q,Nu]
     ·rw[LG ()]
   ·have t:=yF (n:=n) (k:=m) (A:=λi j=>if i<m then e i*A i j else A i j) ();rw[q,Int.neg_one_mul,←t];refine det_congr λi j _ _=>?_;unfold up;by_cases a:i=m
    ·subst a;rw[LI O,LI (Np i)];change e i*A i j = -(if i<i then e i*A i j else A i j);rw[LG (MY i),q,Int.neg_one_mul]
    ·rw[LG a]
     change (if i<m+1 then e i*A i j else A i j)=if i<m then e i*A i j else A i j
     by_cases c:i<m
     ·rw[LI c,LI ()]
     ·rw[LG c,LG ()]
  refine⟨e m*s,?_,by rw[step,h,M6]⟩;rcases f m with q|q<;>rcases l with r|r<;>rw[q,r]<;>decide
def Ok.whole'{n M:Nat}{a:Mx}{B:Nat->Int}{S:Sd}(o:Ok n a B M S){U:Nat->Prop}{e:Nat->Int}(g:∀i,e i=1\/e i = -1)(h:Net n (λk j=>e k*a (S.h k) j) U):S.b=1:=by
 let⟨s,p,hd⟩:=xh (n:=n) (A:=λk=>a (S.h k)) g n (LM n)
 have c:det n (λi j=>if i<n then e i*a (S.h i) j else a (S.h i) j)=det n (λk j=>e k*a (S.h k) j):=det_congr λi j m _=>by rw[LI m]
 rw[c]at hd;let⟨f,l,r,_⟩:=o.eps;have:=o.pos;rcases h.det with d|d|d<;>rw[d]at hd<;>rcases p with rfl|rfl<;>rcases l with rfl|rfl<;>omega
end Wk
namespace Wk
def seatRow(n G:Nat)(g s:Nat->Nat):Mx:=λr j=>if r<n then (if j=r then 1 else 0) else if r<n+2*G then (if g j=(r-n)/2 then (if (r-n) % 2=0 then 1 else -1) else 0) else (if s j=r-n-2*G then -1 else 0)
def dS(n G:Nat)(r:Nat):Int:=if n<=r/\r<n+2*G/\(r-n) % 2=1 then -1 else 1
def Ok.det0{n M:Nat}{a:Mx}{B:Nat->Int}{S:Sd}(o:Ok n a B M S)(h:det n (λk=>a (S.h k))=0):False:=by
 let⟨f,e,c,_⟩:=o.eps;have:=o.pos;rw[h]at c;rcases e with rfl|rfl<;>omega
def Ok.apartB{n M:Nat}{a:Mx}{B:Nat->Int}{S:Sd}(o:Ok n a B M S){k l:Nat}(g:k<n)(hl:l<n)(f:k≠l)(h:∀j,j<n->a (S.h k) j = -a (S.h l) j):False:=by
 have e:det n (λi=>a (S.h i))=det n (λi j=>if j<n then a (S.h i) j else 0):=det_congr λi j _ m=>by rw[LI m]
 refine o.det0 ?_;rw[e];have t:=yF (n:=n) (k:=k) (A:=λi j=>if j<n then a (S.h i) j else 0) g
 have z:=mE (n:=n) (A:=up (λi j=>if j<n then a (S.h i) j else 0) k λj=>-(if j<n then a (S.h k) j else 0)) g hl f (by
  funext j
  unfold up;rw[LI O,LG (Mo f)]
  change -(if j<n then a (S.h k) j else 0)=if j<n then a (S.h l) j else 0
  by_cases c:j<n
  ·rw[LI c,LI c,h j c];omega
  ·rw[LG c,LG c]
   rfl)
 omega
def Ok.injB{n M:Nat}{a:Mx}{B:Nat->Int}{S:Sd}(o:Ok n a B M S){k l:Nat}(e:k<n)(hl:l<n)(h:S.h k=S.h l):k=l:=by refine Mh λc=>o.det0 ?_;show mE e hl c (by funext j;change a (S.h k) j=a (S.h l) j;rw[h])
def Ok.seat{n M G:Nat}{g s:Nat->Nat}{a:Mx}{B:Nat->Int}{S:Sd}(o:Ok n a B M S)(I:∀k j,k<n->j<n->a (S.h k) j=seatRow n G g s (S.h k) j):S.b=1:=by
 have J:∀r,dS n G r=1\/dS n G r = -1:=λr=>by unfold dS;split;show .inr O;show .inl O
 have H:∀r j,r<n->dS n G r*seatRow n G g s r j=if j=r then 1 else 0:=λr j hr=>by unfold dS seatRow;rw[LG (),LI hr,Nu]
 have E:∀r j,n<=r->r<n+2*G->dS n G r*seatRow n G g s r j=if g j=(r-n)/2 then 1 else 0:=λr j v w=>by
  unfold dS seatRow;rw[LG (show ¬ r<n by omega),LI w];by_cases c:(r-n) % 2=0
  ·rw[LG (),LI c,Nu]
  ·rw[LI ⟨v,w,()⟩,LG c];split<;>decide
 have F:∀r j,n+2*G<=r->dS n G r*seatRow n G g s r j=if s j=r-n-2*G then -1 else 0:=λr j v=>by unfold dS seatRow;rw[LG (),LG (show ¬ r<n by omega),LG (show ¬ r<n+2*G by omega),Nu]
 have y:∀k j,k<n->j<n->dS n G (S.h k)*a (S.h k) j=dS n G (S.h k)*seatRow n G g s (S.h k) j:=λk j f p=>by rw[I k j f p]
 refine o.whole' (U:=λk=>S.h k<n) (e:=λk=>dS n G (S.h k)) (λi=>J _) ⟨λk j f p=>?_,λk f a_ i j A p v w=>?_,λj k l p f hl x C v w=>?_,λj k l p f hl x C v w=>?_⟩
 ·change T3 (dS n G (S.h k)*a (S.h k) j);rw[y k j f p];by_cases c:S.h k<n
  ·rw[H _ j c];split;show .inr (.inl O);show .inl O
  ·by_cases u:S.h k<n+2*G
   ·rw[E _ j () u];split;show .inr (.inl O);show .inl O
   ·rw[F _ j ()];split;show .inr (.inr O);show .inl O
 ·have X:dS n G (S.h k)*a (S.h k) i≠0:=v;have be:dS n G (S.h k)*a (S.h k) j≠0:=w;rw[y k i f A,H _ i a_]at X;rw[y k j f p,H _ j a_]at be;have am:i=S.h k:=Mh λc=>X (LG c);have u:j=S.h k:=Mh λc=>be (LG c);rw[am,u]
 ·have one:∀k,k<n->¬ S.h k<n->dS n G (S.h k)*a (S.h k) j=1->S.h k<n+2*G/\g j=(S.h k-n)/2:=λk f x h=>by
   rw[y k j f p]at h;by_cases u:S.h k<n+2*G
   ·rw[E _ j () u]at h;refine⟨u,Mh λc=>?_⟩;rw[LG c]at h;omega
   ·rw[F _ j ()]at h;split at h<;>omega
  let⟨P,Q⟩:=one k f x v;let⟨R,T⟩:=one l hl C w;have K:¬ S.h k<n:=x;have L:¬ S.h l<n:=C;refine Mh λN=>?_;have d:S.h k≠S.h l:=λz=>N (o.injB f hl z);refine o.apartB f hl N λi A=>?_;rw[I k i f A,I l i hl A];unfold seatRow;rw[LG K,LG L,LI P,LI R,←Q,←T];by_cases c:g i=g j
  ·rw[LI c,LI c];by_cases m:(S.h k-n) % 2=0
   ·rw[LI m,LG ()];decide
   ·rw[LG m,LI ()]
  ·rw[LG c,LG c];rfl
 ·have one:∀k,k<n->¬ S.h k<n->dS n G (S.h k)*a (S.h k) j = -1->n+2*G<=S.h k/\s j=S.h k-n-2*G:=λk f x h=>by
   rw[y k j f p]at h;by_cases u:S.h k<n+2*G
   ·rw[E _ j () u]at h;split at h<;>omega
   ·rw[F _ j ()]at h;refine⟨(),Mh λc=>?_⟩;rw[LG c]at h;omega
  let⟨P,Q⟩:=one k f x v;let⟨R,T⟩:=one l hl C w;show o.injB f hl ()
end Wk
namespace Wk
theorem vM:∀{L M:Y Nat},L.Nodup->(∀x∈L,x∈M)->L.length<=M.length
 | [],_,_,_=>ME _
 |x::L,M,h,c=>by
  have f:=c x LQ;let⟨g,j⟩:=MB.mp h;have:=vM (L:=L) (M:=M.erase x) j λy l=>(List.mem_erase_of_ne (a:=y) (b:=x) (λe=>g (by rwa[←e]))).mpr (c y (LO _ l));rw[QC f]at this;have:=QL f;rw[LX];omega
def crowd_group{n G Q:Nat}{p b:Nat->Int}{g s:Nat->Nat}(r:∀q,q<Q->0<=b q)(e:((List.range Q).map b).sum<((List.range G).map λi=>-p i).sum)(a:∀j,j<n->s j<Q/\0<=p (g j)+b (s j)) :
  ∃k,k<G/\∀L:Y Nat,L.Nodup->(∀q∈L,∃j,j<n/\p (g j)<=p k/\s j=q)->L.length<((List.range G).filter λi=>decide (p i<=p k)).length:=by
 let⟨t,w,c⟩:=Gx (λy x=>by
  let⟨q,hq,rfl⟩:=LY.mp x
  show r q (Mi.mp hq)) e
 let⟨k,v,rfl⟩:=LY.mp w;refine⟨k,Mi.mp v,λL nd o=>?_⟩
 have f:fE (-p k) ((List.range G).map λi=>-p i)=((List.range G).filter λi=>decide (p i<=p k)).length:=by
  unfold fE;rw[PM,NX];congr 1;refine List.filter_congr λi _=>?_;change decide (-p k<=-p i)=decide (p i<=p k);show QB.mpr ⟨λh=>by omega,λh=>by omega⟩
 have l:fE (-p k) ((List.range Q).map b)=((List.range Q).filter λq=>decide (-p k<=b q)).length:=by unfold fE;rw[PM,NX];rfl
 rw[f,l]at c;refine NJ (vM nd λq hq=>?_) c;let⟨j,u,z,rfl⟩:=o q hq;let⟨m,A⟩:=a j u;show MF.mpr ⟨Mi.mpr m,by simp;omega⟩
end Wk
namespace Wk
theorem sJ(f:Nat->Int)(a:Nat):∀b:Nat,sm (a+b) f=sm a f+sm b λi=>f (a+i)
 |0=>by change sm a f=sm a f+0;omega
 |b+1=>by change sm (a+b) f+f (a+b)=sm a f+(sm b (λi=>f (a+i))+f (a+b));rw[sJ f a b];omega
theorem wW(f:Nat->Int):∀G:Nat,sm (2*G) f=sm G λi=>f (2*i)+f (2*i+1)
 |0=>rfl
 |G+1=>by change sm (2*G) f+f (2*G)+f (2*G+1)=sm G (λi=>f (2*i)+f (2*i+1))+(f (2*G)+f (2*G+1));rw[wW f G];omega
theorem sm_list(f:Nat->Int):∀n:Nat,((List.range n).map f).sum=sm n f
 |0=>rfl
 |n+1=>by
  rw[OI,MM,OH,sm_list f n];change sm n f+(f n+0)=sm n f+f n;omega
theorem mH:∀{n:Nat}{f:Nat->Int},(∀i,i<n->0<=f i)->0<=sm n f
 |0,_,_=>Ni 0
 |n+1,f,h=>by
  have:=mH λi (a:i<n)=>h i ();have:=h n ();change 0<=sm n f+f n;omega
theorem sZ:∀{n:Nat}{f:Nat->Int},(∀i,i<n->0<=f i)->sm n f=0->∀i,i<n->f i=0
 |0,_,_,_,i,a=>absurd a ()
 |n+1,f,h,e,i,a=>by
  have g:sm n f+f n=0:=e;have j:=mH λi (a:i<n)=>h i ();have l:=h n ();by_cases c:i=n
  ·rw[c];omega
  ·show sZ (n:=n) (λi a=>h i ()) () i ()
theorem xS:∀{n:Nat}{f:Nat->Int},(∀i,i<n->0<=f i)->sm n f=1->∃j,j<n/\f j=1/\∀i,i<n->i≠j->f i=0
 |0,_,_,e=>absurd e (by change ¬ (0:Int)=1;omega)
 |n+1,f,h,e=>by
  have o:sm n f+f n=1:=e;have p:=mH λi (g:i<n)=>h i ();have r:=h n ();by_cases c:f n=0
  ·let⟨j,a,b,d⟩:=xS (n:=n) (λi g=>h i ()) ();refine⟨j,(),b,λi g l=>?_⟩;by_cases m:i=n
   ·rwa[m]
   ·show d i () l
  ·have z:=sZ (n:=n) (λi g=>h i ()) ();show⟨n,(),(),λi g l=>z i ()⟩
def J9{n i j:Nat}{f:Nat->Int}(h:∀i,i<n->0<=f i)(l:i<n)(m:j<n)(a:i≠j)(c:f i=1)(g:f j=1):2<=sm n f:=by
 rw[uK l];have e:sm n (λk=>if k=i then 0 else f k)=sm n (λk=>if k=j then 0 else if k=i then 0 else f k)+(if j=i then 0 else f j):=uK m
 have:=mH (n:=n) (f:=λk=>if k=j then 0 else if k=i then 0 else f k) λk o=>by
  change 0<=if k=j then (0:Int) else if k=i then 0 else f k
  split
  ·omega
  ·split
   ·omega
   ·show h k o
 rw[LG (Mo a),g]at e;rw[e,c];omega
def seatB(n G r:Nat):Int:=if r<n then 0 else if r<n+2*G/\(r-n) % 2=0 then 1 else -1
def uM(F:Nat->Int)(n G Q:Nat):sm (n+2*G+Q) F=sm n F+(sm G λi=>F (n+2*i)+F (n+2*i+1))+sm Q λk=>F (n+2*G+k):=by rw[sJ,sJ,wW];rfl
def seat_col{n G Q j:Nat}{g s:Nat->Nat}(w:Nat->Int)(f:j<n)(p:g j<G)(u:s j<Q):sm (n+2*G+Q) (λr=>w r*seatRow n G g s r j)=w j-(w (n+2*g j+1)-w (n+2*g j))-w (n+2*G+s j):=by
 rw[uM];rw[sm_one f λi e c=>by change w i*seatRow n G g s i j=0;unfold seatRow;rw[LI e,LG (Mo c)];omega]
 rw[sm_one p λi e c=>by
  change w (n+2*i)*seatRow n G g s (n+2*i) j+w (n+2*i+1)*seatRow n G g s (n+2*i+1) j=0
  have a:seatRow n G g s (n+2*i) j=0:=by unfold seatRow;rw[LG (),LI (),LG ()]
  have b:seatRow n G g s (n+2*i+1) j=0:=by unfold seatRow;rw[LG (),LI (),LG ()]
  rw[a,b]
  omega]
 rw[sm_one u λk v c=>by
  change w (n+2*G+k)*seatRow n G g s (n+2*G+k) j=0;unfold seatRow;rw[LG (),LG (),LG ()]
  omega]
 change w j*seatRow n G g s j j+(w (n+2*g j)*seatRow n G g s (n+2*g j) j+w (n+2*g j+1)*seatRow n G g s (n+2*g j+1) j)+w (n+2*G+s j)*seatRow n G g s (n+2*G+s j) j=_
 have h:seatRow n G g s j j=1:=by unfold seatRow;rw[LI f,LI O]
 have l:seatRow n G g s (n+2*g j) j=1:=by unfold seatRow;rw[LG (),LI (),LI (),LI ()]
 have m:seatRow n G g s (n+2*g j+1) j = -1:=by unfold seatRow;rw[LG (),LI (),LI (),LG ()]
 have o:seatRow n G g s (n+2*G+s j) j = -1:=by unfold seatRow;rw[LG (),LG (),LI ()]
 rw[h,l,m,o];omega
def seat_bnd{n G Q:Nat}(w:Nat->Int):sm (n+2*G+Q) (λr=>w r*seatB n G r) = -(sm G λi=>w (n+2*i+1)-w (n+2*i))-sm Q λk=>w (n+2*G+k):=by
 rw[uM]
 have e:sm n (λr=>w r*seatB n G r)=0:=by
  rw[sm_congr (g:=λ_=>0) λi c=>by unfold seatB;rw[LI c];omega];show sm_zero n
 have f:(sm G λi=>w (n+2*i)*seatB n G (n+2*i)+w (n+2*i+1)*seatB n G (n+2*i+1)) = -(sm G λi=>w (n+2*i+1)-w (n+2*i)):=by
  have:=sm_mul (-1) (λi=>w (n+2*i+1)-w (n+2*i)) G;rw[show -(sm G λi=>w (n+2*i+1)-w (n+2*i)) = -1*sm G (λi=>w (n+2*i+1)-w (n+2*i))by omega,←this];refine sm_congr λi c=>?_
  have a:seatB n G (n+2*i)=1:=by unfold seatB;rw[LG (),LI ()]
  have b:seatB n G (n+2*i+1) = -1:=by unfold seatB;rw[LG (),LG ()]
  rw[a,b];omega
 have h:(sm Q λk=>w (n+2*G+k)*seatB n G (n+2*G+k)) = -(sm Q λk=>w (n+2*G+k)):=by
  have:=sm_mul (-1) (λk=>w (n+2*G+k)) Q;rw[show -(sm Q λk=>w (n+2*G+k)) = -1*sm Q (λk=>w (n+2*G+k))by omega,←this];refine sm_congr λk j=>?_
  have a:seatB n G (n+2*G+k) = -1:=by unfold seatB;rw[LG (),LG ()]
  rw[a];omega
 change sm n (λr=>w r*seatB n G r)+(sm G λi=>w (n+2*i)*seatB n G (n+2*i)+w (n+2*i+1)*seatB n G (n+2*i+1))+(sm Q λk=>w (n+2*G+k)*seatB n G (n+2*G+k))=_;rw[e,f,h];omega
def joy_sum{n G:Nat}{x joy:Nat->Int}{g J:Nat->Nat}(r:∀i,i<G->J i<n/\g (J i)=i/\x (J i)=1/\∀j,j<n->g j=i->j≠J i->x j=0)(u:∀j,j<n->g j<G):sm n (λj=>joy j*x j)=sm G λi=>joy (J i):=by
 have h:sm n (λj=>joy j*x j)=sm n λj=>sm G λi=>if g j=i then joy j*x j else 0:=sm_congr λj e=>by rw[sm_one (u j e) λi f a=>LG (Mo a),LI O]
 rw[h,jU];refine sm_congr λi f=>?_;let⟨l,m,o,p⟩:=r i f;rw[sm_one l λj e a=>?_]
 ·change (if g (J i)=i then joy (J i)*x (J i) else 0)=_;rw[LI m,o];omega
 ·change (if g j=i then joy j*x j else 0)=0;split
  ·rename_i c;rw[p j e c a];omega
  ·rfl
end Wk
namespace Wk
def Jf{n G r:Nat}{g s:Nat->Nat}{x:Nat->Int}(a:r<n):dt n (seatRow n G g s r) x=x r:=by unfold dt;rw[sm_one a λj e c=>by change seatRow n G g s r j*x j=0;unfold seatRow;rw[LI a,LG c];show Nt _];unfold seatRow;rw[LI a,LI O];show Nu _
def AV{n G i:Nat}{g s:Nat->Nat}{x:Nat->Int}(a:i<G):dt n (seatRow n G g s (n+2*i)) x=sm n λj=>if g j=i then x j else 0:=by
 unfold dt;refine sm_congr λj f=>?_;unfold seatRow;rw[LG (),LI ()]
 have e:(n+2*i-n)/2=i:=by omega
 rw[e,LI (show (n+2*i-n) % 2=0 by omega)];by_cases c:g j=i
 ·rw[LI c,LI c];show Nu _
 ·rw[LG c,LG c];show Nt _
def Ab{n G i:Nat}{g s:Nat->Nat}{x:Nat->Int}(a:i<G):dt n (seatRow n G g s (n+2*i+1)) x = -(sm n λj=>if g j=i then x j else 0):=by
 have t:=sm_mul (-1) (λj=>if g j=i then x j else 0) n;rw[show -(sm n λj=>if g j=i then x j else 0) = -1*sm n (λj=>if g j=i then x j else 0)by omega,←t];unfold dt;refine sm_congr λj f=>?_;unfold seatRow;rw[LG (),LI ()]
 have e:(n+2*i+1-n)/2=i:=by omega
 rw[e,LG (show ¬ (n+2*i+1-n) % 2=0 by omega)];by_cases c:g j=i
 ·rw[LI c,LI c]
 ·rw[LG c,LG c];omega
def D4{n G k:Nat}{g s:Nat->Nat}{x:Nat->Int}:dt n (seatRow n G g s (n+2*G+k)) x = -(sm n λj=>if s j=k then x j else 0):=by
 have t:=sm_mul (-1) (λj=>if s j=k then x j else 0) n;rw[show -(sm n λj=>if s j=k then x j else 0) = -1*sm n (λj=>if s j=k then x j else 0)by omega,←t];unfold dt;refine sm_congr λj a=>?_;unfold seatRow;rw[LG (),LG ()]
 have e:n+2*G+k-n-2*G=k:=by omega
 rw[e];by_cases c:s j=k
 ·rw[LI c,LI c]
 ·rw[LG c,LG c];omega
structure SeatM(n G Q:Nat)(g s:Nat->Nat)(x:Nat->Int)(y:Int):Prop where
 nn:∀j,j<n->0<=x j
 eq:∀i,i<G->(sm n λj=>if g j=i then x j else 0)=y
 le:∀k,k<Q->(sm n λj=>if s j=k then x j else 0)<=y
def seat_met{n G Q:Nat}{g s:Nat->Nat}{x:Nat->Int}{y:Int}(h:∀r,r<n+2*G+Q->seatB n G r*y<=dt n (seatRow n G g s r) x):SeatM n G Q g s x y:=by
 refine⟨λj e=>?_,λi c=>?_,λk f=>?_⟩
 ·have:=h j ();rw[Jf e]at this;unfold seatB at this;rw[LI e,Nt]at this;show this
 ·have a:=h (n+2*i) ();have b:=h (n+2*i+1) ();rw[AV c]at a;rw[Ab c]at b;unfold seatB at a b;rw[LG (),LI ()]at a;rw[LG (),LG ()]at b;omega
 ·have a:=h (n+2*G+k) ();rw[D4]at a;unfold seatB at a;rw[LG (),LG ()]at a;omega
structure SeatJ(n G:Nat)(g s:Nat->Nat)(x:Nat->Int)(J:Nat->Nat):Prop where
 lt:∀i,i<G->J i<n
 at_:∀i,i<G->g (J i)=i
 one:∀i,i<G->x (J i)=1
 off:∀i,i<G->∀j,j<n->g j=i->j≠J i->x j=0
 ne:∀i k,i<G->k<G->i≠k->s (J i)≠s (J k)
def SeatM.pick{n G Q:Nat}{g s:Nat->Nat}{x:Nat->Int}(h:SeatM n G Q g s x 1)(E:∀j,j<n->s j<Q):∃J,SeatJ n G g s x J:=by
 have nn:∀(f:Nat->Nat)(i j:Nat),j<n->0<=(if f j=i then x j else 0):=λf i j B=>by
  split
  ·show h.nn j B
  ·show Ni 0
 have ex:∀i,∃j,i<G->j<n/\g j=i/\x j=1/\∀l,l<n->g l=i->l≠j->x l=0:=λi=>by
  by_cases c:i<G
  ·let⟨j,y,o,A⟩:=xS (nn g i) (h.eq i c);have o:(if g j=i then x j else 0)=1:=o
   have r:g j=i:=Mh λd=>by rw[LG d]at o;omega
   rw[LI r]at o;refine⟨j,λ_=>⟨y,r,o,λl hl w p=>?_⟩⟩;have u:(if g l=i then x l else 0)=0:=A l hl p;rw[LI w]at u;show u
  ·show⟨0,λd=>absurd d c⟩
 let⟨J,m⟩:=Classical.axiomOfChoice ex;refine⟨J,λi a=>(m i a).1,λi a=>(m i a).2.1,λi a=>(m i a).2.2.1,λi a=>(m i a).2.2.2,λi k a C p e=>?_⟩;let⟨a1,a2,a3,_⟩:=m i a;let⟨b1,v,F,_⟩:=m k C;have d:J i≠J k:=λz=>p (by rw[←a2,←v,z]);have t:=J9 (nn s (s (J i))) a1 b1 d (by change (if s (J i)=s (J i) then x (J i) else 0)=1;rwa[LI O]) (by change (if s (J k)=s (J i) then x (J k) else 0)=1;rwa[LI e.symm]);have:=h.le (s (J i)) (E _ a1);omega
def SeatM.ray{n G Q:Nat}{g s:Nat->Nat}{x:Nat->Int}(h:SeatM n G Q g s x 0)(c:∀j,j<n->g j<G)(j:Nat)(a:j<n):x j=0:=by
 have:=sZ (n:=n) (f:=λl=>if g l=g j then x l else 0) (λl hl=>by
  change 0<=if g l=g j then x l else 0
  split
  ·show h.nn l hl
  ·show Ni 0) (h.eq (g j) (c j a)) j a
 have this:(if g j=g j then x j else 0)=0:=this;rw[LI O]at this;show this
end Wk
namespace Kx
open PySem L2
section
variable{P:Æ}{w:Ç}{K:Â}{mg:Str->Ž Value}{base:Heap}{n:Nat}{f:Addr}{I:Í}
def top(i:Nat):Ë:=PySem.Challenge.pw_cutyard_k59_whole_seating.main.body.getD i (.Pass ⟨0,0,0,0⟩)
abbrev mI:Ë:=top 7
def GX:FnScope ["count","most"] ["count","most"] (av mI):=by ac_rfl
abbrev ph:Ë:=top 8
def qaA:FnScope ["names","came","name"] ["names"] (av ph):=by ac_rfl
abbrev mC:Ë:=top 9
def qaz:FnScope ["names","known","name"] ["names","known"] (av mC):=by ac_rfl
abbrev nY:Ë:=top 11
def qam:FnScope ["one","other","greater","lesser","rest"] ["one","other"] (av nY):=by ac_rfl
abbrev mM:Ë:=top 12
def qal:FnScope ["numbers","divisor","number"] ["numbers"] (av mM):=by ac_rfl
abbrev mh:Ë:=top 13
def qau:FnScope ["tops","bottom","divisor"] ["tops","bottom"] (av mh):=by ac_rfl
abbrev kI:Ë:=top 15
def Dz:FnScope ["n","place"] ["n","place"] (av kI):=by ac_rfl
abbrev lU:Ë:=top 16
def CQ:FnScope ["entries","spot"] ["entries","spot"] (av lU):=by ac_rfl
abbrev lz:Ë:=top 17
def BR:FnScope ["row"] ["row"] (av lz):=by ac_rfl
abbrev ko:Ë:=top 20
def qaj:FnScope ["rows","n","ways","tops"] ["rows","n"] (av ko):=by ac_rfl
abbrev lr:Ë:=top 21
def HB:FnScope ["stand","entries"] ["stand","entries"] (av lr):=by ac_rfl
abbrev pD:Ë:=top 22
def FF:FnScope ["row","stand"] ["row","stand"] (av pD):=by ac_rfl
abbrev nV:Ë:=top 23
def qav:FnScope ["rows","numbers","stand","number"] ["rows","numbers","stand"] (av nV):=by ac_rfl
abbrev eM:Ë:=top 24
def qat:FnScope ["stand","grown","places"] ["stand","grown"] (av eM):=by ac_rfl
abbrev mX:Ë:=top 25
def qaD:FnScope ["rows","numbers","stand","way","chosen","chosen_over","chosen_fall","number","fall","row_over"] ["rows","numbers","stand","way"] (av mX):=by ac_rfl
abbrev lu:Ë:=top 26
def AK:FnScope ["numbers","way","shift","size","bottom"] ["numbers","way","shift","size","bottom"] (av lu):=by ac_rfl
abbrev kA:Ë:=top 27
def qap:FnScope ["rows","stand","place","number","row","grown","size","way","ways","other","tops","held"] ["rows","stand","place","number"] (av kA):=by ac_rfl
abbrev k9:Ë:=top 28
def Hi:FnScope ["stand","grown"] ["stand","grown"] (av k9):=by ac_rfl
abbrev jZ:Ë:=top 29
def qar:FnScope ["pairs","bottom","reduced"] ["pairs","bottom"] (av jZ):=by ac_rfl
abbrev pM:Ë:=top 30
def qax:FnScope ["stand","number","grown","reduced"] ["stand","number","grown"] (av pM):=by ac_rfl
abbrev mP:Ë:=top 31
def qak:FnScope ["stand","grown","reduced"] ["stand","grown"] (av mP):=by ac_rfl
abbrev k6:Ë:=top 32
def qao:FnScope ["stand","way","divisor"] ["stand","way"] (av k6):=by ac_rfl
abbrev mG:Ë:=top 33
def qaw:FnScope ["rows","numbers","goal","stand","number","raised","place","grown"] ["rows","numbers","goal","stand"] (av mG):=by ac_rfl
abbrev oB:Ë:=top 34
def qaE:FnScope ["rows","numbers","goal","stand","steps","told"] ["rows","numbers","goal","stand"] (av oB):=by ac_rfl
abbrev o8:Ë:=top 35
def Bt:FnScope ["rows","goal"] ["rows","goal"] (av o8):=by ac_rfl
abbrev nE:Ë:=top 36
def GB:FnScope ["rows","goal"] ["rows","goal"] (av nE):=by ac_rfl
abbrev jT:Ë:=top 40
def qaq:FnScope ["plan","bounds","n","least_rows","most_rows"] ["plan"] (av jT):=by ac_rfl
abbrev ng:Ë:=top 41
def EV:FnScope ["plan","spot"] ["plan","spot"] (av ng):=by ac_rfl
abbrev jc:Ë:=top 43
def A8:FnScope ["guests","seats","offers"] ["guests","seats","offers"] (av jc):=by ac_rfl
abbrev kF:Ë:=top 44
def EG:FnScope ["names","name"] ["names","name"] (av kF):=by ac_rfl
abbrev i5:Ë:=top 45
def qaB:FnScope ["guests","seats","offers","asked","offered","rows","guest","row","seat"] ["guests","seats","offers"] (av i5):=by ac_rfl
abbrev kJ:Ë:=top 46
def qay:FnScope ["shares","guests","seats","offers","weights","ahead","of_guests","place","of_seats"] ["shares","guests","seats","offers"] (av kJ):=by ac_rfl
abbrev me:Ë:=top 47
def KN:FnScope ["group","offers"] ["group","offers"] (av me):=by ac_rfl
abbrev ki:Ë:=top 48
def qan:FnScope ["guests","offers","guest_prices","groups","height"] ["guests","offers","guest_prices"] (av ki):=by ac_rfl
abbrev jY:Ë:=top 49
def qaC:FnScope ["guests","seats","offers","plan","told","spot","taken","seats_taken"] ["guests","seats","offers"] (av jY):=by ac_rfl
abbrev nQ:Ë:=top 51
def qaf:FnScope [Zl,ZG,"_law_rest"] [Zl,ZG] (av nQ):=by ac_rfl
abbrev mD:Ë:=top 52
def qad:FnScope [Zh,Zn,"_law_drawn","_law_cell","_law_stir"] [Zh,Zn] (av mD):=by ac_rfl
abbrev oY:Ë:=top 53
def Dv:FnScope [Zh,Zn] [Zh,Zn] (av oY):=by ac_rfl
abbrev mQ:Ë:=top 54
def qac:FnScope [Zh,Zt,Zu,"_law_turn",ZG,"_law_names_here",Zs,"_law_letter","_law_odd"] [Zh,Zt] (av mQ):=by ac_rfl
abbrev nO:Ë:=top 55
def qah:FnScope [Zh,Zu,"_law_top"] [Zh,Zu] (av nO):=by ac_rfl
abbrev nH:Ë:=top 56
def qae:FnScope [Zh,Zj,Zo,ZH,"_law_free","_law_guest","_law_seat",Zr,Zu,Zi,Zs,"_law_pair"] [Zh,Zj,Zo,ZH] (av nH):=by ac_rfl
abbrev nc:Ë:=top 57
def qaa:FnScope [Zh,Zr,Zt,Zj,Zo,Zi] [Zh] (av nc):=by ac_rfl
abbrev mS:Ë:=top 58
def Cc:FnScope [Zk] [Zk] (av mS):=by ac_rfl
abbrev kM:Ë:=top 59
def FW:FnScope [Zk,Zr] [Zk,Zr] (av kM):=by ac_rfl
abbrev oE:Ë:=top 60
def qag:FnScope [Zj,Zo,Zi,Zk,"_law_joy","_law_mine","_law_theirs","_law_price",Zq] [Zj,Zo,Zi,Zk] (av oE):=by ac_rfl
abbrev kL:Ë:=top 61
def qai:FnScope [Zj,Zi,Zk,Zw,"_law_joy","_law_due",Zs,"_law_joys"] [Zj,Zi,Zk] (av kL):=by ac_rfl
abbrev k7:Ë:=top 62
def qab:FnScope [Zj,Zi,Zm,"_law_places","_law_name",Zs,"_law_offered"] [Zj,Zi,Zm] (av k7):=by ac_rfl
abbrev pE:Ë:=top 63
def qas:FnScope [Zl,Zj,Zo,Zi,Zk] [Zl] (av pE):=by ac_rfl
abbrev oV:Ë:=JO (top 19) 0
def BF:FnScope ["self","held","ways","tops","bottom"] ["self","held","ways","tops","bottom"] (av oV):=by ac_rfl
structure TxtStand(K:Â)(mg:Str->Option Value)(C:Addr):Prop where
 cl:Cls K C
 n_held:NoAttr K C "held"
 n_ways:NoAttr K C "ways"
 n_tops:NoAttr K C "tops"
 n_bottom:NoAttr K C "bottom"
 mgC:mg "Stand"=Z (.ref C)
 ns:Ü K Ã "Stand"=Z (Z (.ref C))
abbrev bF(x:Int):Prop:=x.natAbs<2^60000
abbrev jn(r:ak):Prop:=(∀x∈r.1,bF x)/\bF r.2
def jS{a b:Int}(c:bF a)(e:bF b):Ą a b:=Fp (m:=60000) (n:=60000) 'b' 'b' c e 'b'
def kh{rs:Y ak}{k:Int}(h0:0<=k)(a:k<rs.length):bD (rs.map ba) k=Z (ba (ah rs k)):=df (y9 h0 a) ()
inductive z_left(ds:List D)(R:D->Prop):Prop|mk (xs ys:List Int) (_:ds=[.tup (xs.map D.int),.tup (ys.map D.int)]) (_:xs.length<=1000) (_:(∀x∈xs,bF x)) (_:(∀y∈ys,bF y)) (_:R (.int (aM xs ys)))
def Cf(F:Fun K "left" "left" lU f I)(l:mg "sum"=ż)(e:mg "zip"=ż):FnOk P w K mg base aH (n+1) f I ["entries","spot"] (lSp K z_left):=by
 refine F.okD CQ (λds R h=>?_) (λm A outer s H E ds R o h=>?_)
 ·let⟨xs,ys,rfl,_⟩:=h;rfl
 let⟨xs,ys,rfl,hl,g,j,q⟩:=h;refine⟨_,(aQ (bq (bu (pY O) O l Ph (aI (PD.q (PF.d (de (k:=2) (N':=["entry","number"]) (cap:=[ż,ż]) O (.ok (show bC ["entries","spot"] (av lU) _ ["entry","number"] [ż,ż]=ž by lia)) 'a' (kT (n:=2) (gy (bA 'b') (gy (bA 'b') lJ))) (lN O e (af (dv 0) (af (dv 1) aj aa) aa)) (λ_ _ _ _ _=>(jQ (n:=2) O (fA (bf (i:=0) (show List.Nodup (["entry","number"]:Y Str)by lia) O Zg) (fA (bf (i:=1) (show List.Nodup (["entry","number"]:Y Str)by lia) O Zg) kz)))) (λ_ _ _ _ _=>(aN cW (ae 0) (ae 1)))))) aG br) br ag))),?_⟩;refine⟨_,_,O,O,?_⟩;refine rB (λx y=>D.int (x*y)) (bo hl) (λx c y a=>⟨O,jS (g x c) (j y a),O⟩) ?_;show⟨List.zipWith (λx y=>x*y) xs ys,by rw[Pe];rfl,q⟩
theorem o9(f:Str)(v:V):∀fs:Y (Str×V),(cM f v fs).length<=fs.length+1
 | []=>LM 1
 |(g,x)::r=>by
  have:=o9 f v r;unfold cM;split
  ·rw[LX,LX];omega
  ·rw[LX,LX];omega
abbrev rS(K:Â)(C:Addr):Sp:=xC C ["held","ways","tops","bottom"]
def GR(F:Fun K "__init__" "Stand.__init__" oV f I){e:Addr}(a:TxtStand K mg e):FnOk P w K mg base aH (n+1) f I ["self","held","ways","tops","bottom"] (rS K e):=by
 refine F.ok BF (λu H Q E h=>?_) (λv A outer s H u Q E y h=>?_)
 ·let⟨x,dx,o,rfl,hl,_⟩:=h;rw[LX,hl];rfl
 let⟨x,dx,o,rfl,hl,p,q⟩:=h
 obtain⟨c,g,j,m,rfl⟩:∃c g j m,o=[c,g,j,m]:=by
  match o,hl with
  | [c,g,j,m],_=>show⟨c,g,j,m,O⟩
 refine⟨_,(jf (mL (pv 0) (pv 1) O)
   (jf (mL (pv 0) (pv 2) O)
   (jf (mL (pv 0) (pv 3) O)
   (p5 (mL (pv 0) (pv 4) O))))),?_⟩
 refine⟨_,O,_,O,x,e,dx,[],O,p,a.cl,a.n_held,'b',?_⟩;have r:=o9 "held" c [];have z:=o9 "ways" g (cM "held" c []);have B:=o9 "tops" j (cM "ways" g (cM "held" c []));rw[MP]at r;refine⟨_,O,_,O,x,e,dx,_,O,aW,a.cl,a.n_ways,(),?_⟩;refine⟨_,O,_,O,x,e,dx,_,O,aW,a.cl,a.n_tops,(),?_⟩;refine⟨_,O,_,O,x,e,dx,_,O,aW,a.cl,a.n_bottom,(),?_⟩;refine q _ (λb l=>by rw[aE l,aE l,aE l,aE l]) ?_;rw[aW];rfl
structure Std where
 held:List Int
 ways:List (List Int)
 tops:List Int
 bot:Int
def wD(w:Y Int):D:=.tup (w.map D.int)
def b7(s:Std):D:=.obj "Stand" [("held",.tup (s.held.map D.int)),("ways",.tup (s.ways.map wD)),("tops",.tup (s.tops.map D.int)),("bottom",.int s.bot)]
structure StB(s:Std):Prop where
 hl:s.held.length<=1000
 wl:s.ways.length<=1000
 wb:∀w∈s.ways,∀x∈w,bF x
 tb:∀x∈s.tops,bF x
 bb:bF s.bot
def lV(s:Std):([("held",.tup (s.held.map D.int)),("ways",.tup (s.ways.map wD)),("tops",.tup (s.tops.map D.int)),("bottom",.int s.bot)]:Y (Str×D)).lookup ("held":Str)=Z (.tup (s.held.map D.int)):=by rfl
def l5(s:Std):([("held",.tup (s.held.map D.int)),("ways",.tup (s.ways.map wD)),("tops",.tup (s.tops.map D.int)),("bottom",.int s.bot)]:Y (Str×D)).lookup ("ways":Str)=Z (.tup (s.ways.map wD)):=by rfl
def mV(s:Std):([("held",.tup (s.held.map D.int)),("ways",.tup (s.ways.map wD)),("tops",.tup (s.tops.map D.int)),("bottom",.int s.bot)]:Y (Str×D)).lookup ("tops":Str)=Z (.tup (s.tops.map D.int)):=by rfl
def iU(s:Std):([("held",.tup (s.held.map D.int)),("ways",.tup (s.ways.map wD)),("tops",.tup (s.tops.map D.int)),("bottom",.int s.bot)]:Y (Str×D)).lookup ("bottom":Str)=Z (.int s.bot):=by rfl
inductive z_growths(ds:List D)(R:D->Prop):Prop|mk (s:Std) (es:List Int) (_:ds=[b7 s,.tup (es.map D.int)]) (_:StB s) (_:es.length<=1000) (_:(∀x∈es,bF x)) (_:R (.tup ((s.ways.map λw=>aM es w).map D.int)))
def Ip(F:Fun K "growths" "growths" lr f I){g:Addr}(a:TxtStand K mg g)(p:Cl P w K mg base n "left" ["entries","spot"] z_left)(j:mg "tuple"=ż):FnOk P w K mg base aH (n+1) f I ["stand","entries"] (lSp K z_growths):=by
 refine F.okD HB (λds R h=>?_) (λr A outer s H E ds R m h=>?_)
 ·let⟨s,c,rfl,_⟩:=h;rfl
 let⟨s,c,rfl,e,hl,l,q⟩:=h;refine⟨_,(aQ (bq (bW bZ O j LW (aI (PD.q (PF.d (de (k:=1) (N':=["way","entries"]) (cap:=[ż,Z 1]) O (.ok (show bC ["stand","entries"] (av lr) _ ["way","entries"] [ż,Z 1]=ž by lia)) 'a' (bA 'b') (bI (cR a.cl a.n_ways a.ns (ae 0))) (λ_ _ _ _ _=>(bf (i:=0) (show List.Nodup (["way","entries"]:Y Str)by lia) O Zg)) (λ_ _ _ _ _=>(aK p m O (af (dv 1) (af (dv 0) aj aa) aa) aa (ao aa ag)))))) aG br) br ag))),?_⟩;refine⟨O,_,l5 s,?_⟩;show iA (f:=wD) (λw=>aM c w) (bo e.wl) (λw o=>⟨c,w,O,hl,l,e.wb w o,O⟩) q
def bP(r:ak)(s:Std):Int:=aM r.1 s.tops-r.2*s.bot
inductive z_over(ds:List D)(R:D->Prop):Prop|mk (r:ak) (s:Std) (_:ds=[ba r,b7 s]) (_:StB s) (_:r.1.length<=1000) (_:jn r) (_:R (.int (bP r s)))
def Ht(F:Fun K "over" "over" pD f I){g:Addr}(a:TxtStand K mg g)(l:Cl P w K mg base n "left" ["entries","spot"] z_left):FnOk P w K mg base aH (n+1) f I ["row","stand"] (lSp K z_over):=by
 refine F.okD FF (λds R h=>?_) (λm A outer s H E ds R j h=>?_)
 ·let⟨r,sd,rfl,_⟩:=h;rfl
 let⟨r,sd,rfl,e,hl,c,q⟩:=h;refine⟨_,(aQ (bq (aN gv (PD.q (aK l j O (af (aD (ae 0)) (af (cR a.cl a.n_tops a.ns (ae 1)) aj cS) aF) aF (ao cS ag))) (PD.q (aN cW (PD.q (aD (ae 0))) (PD.q (cR a.cl a.n_bottom a.ns (ae 1)))))))),?_⟩;show⟨_,O,O,_,mV sd,r.1,sd.tops,O,hl,c.1,e.tb,_,O,O,_,iU sd,jS c.2 e.bb,q⟩
abbrev qO(rs:Y ak):Prop:=∀r∈rs,r.1.length<=1000/\jn r
noncomputable def zt:bJ:=λds R=>∃(rs:Y ak)(ns:Y Int)(sd:Std),ds=[.tup (rs.map ba),.tup (ns.map D.int),b7 sd]/\StB sd/\qO rs/\(∀k∈ns,0<=k/\k<rs.length) /\
 (∀(i:Nat)(k:Int),ns[i]?=Z k->bP (ah rs k) sd<0->(∀(j:Nat)(a:Int),j<i->ns[j]?=Z a->0<=bP (ah rs a) sd)->R (.int k))/\((∀k∈ns,0<=bP (ah rs k) sd)->R .non)
def Hl(F:Fun K "missed_row" "missed_row" nV f I)(z:Cl P w K mg base n "over" ["row","stand"] z_over):FnOk P w K mg base aH (n+1) f I ["rows","numbers","stand"] (lSp K zt):=by
 refine F.okD qav (λds R h=>?_) (λG A outer s H E ds R x h=>?_)
 ·let⟨rs,ns,sd,rfl,_⟩:=h;rfl
 let⟨rs,ns,sd,rfl,y,u,v,C,B⟩:=h
 refine⟨_,(aU (iq Mj O (bI (dv 1)) (bf (i:=3) qav.nd O Zg) (aQ (c9 (aX gD (PD.q (aK z x O (af (bB (ae 0) (ae 3) (λ_ _=>rfl)) (af (dv 2) aj aa) aF) aF (ao aa ag))) (PD.q ax) (aY _)) (aQ (bq (dv 3))) dz)))
   (aQ (bq gH))),?_⟩
 refine⟨λi ρ=>∃o:Ž Sl,ρ=[Z (.v (.tup (rs.map ba))),Z (.v (.tup (ns.map D.int))),Z (.v (b7 sd)),o]/\∀(j:Nat)(g:Int),j<i->ns[j]?=Z g->0<=bP (ah rs g) sd,⟨_,O,λj g h=>absurd h ()⟩,?_,?_⟩
 ·rintro i d ρ hd ⟨o,rfl,a⟩;let⟨k,rfl,e⟩:=dH hd;let⟨k0,r⟩:=v k (Mb e);have p:=u _ (fY k0 r);refine⟨_,kh k0 r,ah rs k,sd,O,y,p.1,p.2,λh=>C i k e (dP h) a,λh=>⟨_,O,λj g m l=>?_⟩⟩;by_cases c:j=i
  ·subst c;rw[e]at l;cases l;have:=Ol h;omega
  ·show a j g () l
 ·rintro ρ ⟨o,rfl,a⟩;rw[LC]at a
  show B λk e=>by let⟨j,m⟩:=MK e;show a j k (aO m) m
def cc(rs:Y ak)(a:Y Int)(k:Int):Int:=- aM (ah rs k).1 a
def xq:Ž Int->D
 |none=>.non
 |some k=>.int k
noncomputable def Stop(rs:Y ak)(ns:Y Int)(sd:Std)(a:Y Int)(m:Nat):Ž Int->Prop
 |none=>∀(j:Nat)(c:Int),j<m->ns[j]?=Z c->cc rs a c<=0
 |some k=>∃i:Nat,i<m/\ns[i]?=Z k/\0<cc rs a k/\∀(j:Nat)(c:Int),j<m->ns[j]?=Z c->0<cc rs a c->bP (ah rs k) sd*cc rs a c<=bP (ah rs c) sd*cc rs a k/\(j<i->bP (ah rs k) sd*cc rs a c<bP (ah rs c) sd*cc rs a k)
def KL{o f c a ok fk:Int}(hq:0<a)(h:0<f)(j:0<fk)(e:ok*a<c*fk)(g:c*f<=o*a):ok*f<o*fk:=by
 have a1:=Int.mul_lt_mul_of_pos_right e h;have a2:=PH g (MS j)
 have l:ok*a*f=(ok*f)*a:=by grind
 have m:o*a*fk=(o*fk)*a:=by grind
 have p:c*fk*f=c*f*fk:=by grind
 have:(ok*f)*a<(o*fk)*a:=by omega
 show Int.lt_of_mul_lt_mul_right this (MS hq)
def Stop.keep{rs:Y ak}{ns:Y Int}{sd:Std}{e:Y Int}{m:Nat}{o:Ž Int}{k:Int}(h:Stop rs ns sd e m o)(v:ns[m]?=Z k)(x:cc rs e k<=0):Stop rs ns sd e (m+1) o:=by
 have l:∀j a,j<m+1->ns[j]?=Z a->0<cc rs e a->j<m:=λj a p g hp=>by
  by_cases c:j=m
  ·subst c;rw[v]at g;cases g;omega
  ·omega
 cases o with
 |none=>
  change ∀(j:Nat)(a:Int),j<m+1->ns[j]?=Z a->cc rs e a<=0;intro j a p g;rcases Nf 0 (cc rs e a)with hp|hp
  ·show h j a (l j a p g hp) g
  ·show hp
 |some q=>
  let⟨i,y,hq,r,u⟩:=h;show⟨i,(),hq,r,λj a p g hp=>u j a (l j a p g hp) g hp⟩
def Stop.take{rs:Y ak}{ns:Y Int}{sd:Std}{a:Y Int}{m:Nat}{k:Int}(h:∀(j:Nat)(e:Int),j<m->ns[j]?=Z e->0<cc rs a e->bP (ah rs k) sd*cc rs a e<bP (ah rs e) sd*cc rs a k)(l:ns[m]?=Z k)(o:0<cc rs a k):Stop rs ns sd a (m+1) (Z k):=by
 refine⟨m,(),l,o,λj e p g hp=>?_⟩;by_cases c:j=m
 ·subst c;rw[l]at g;cases g;show⟨Ni _,λh=>absurd h ()⟩
 ·have:=h j e () g hp;show⟨MS this,λ_=>this⟩
noncomputable def vy:bJ:=λds R=>∃(rs:Y ak)(ns:Y Int)(sd:Std)(a:Y Int),ds=[.tup (rs.map ba),.tup (ns.map D.int),b7 sd,.tup (a.map D.int)]/\StB sd/\qO rs/\(∀k∈ns,0<=k/\k<rs.length)/\(∀x∈a,bF x) /\
 (∀k∈ns,bF (bP (ah rs k) sd)/\bF (cc rs a k))/\∀o,Stop rs ns sd a ns.length o->R (xq o)
def Al(F:Fun K "stopping_row" "stopping_row" mX f I)(jx:Cl P w K mg base n "left" ["entries","spot"] z_left)(mw:Cl P w K mg base n "over" ["row","stand"] z_over):FnOk P w K mg base aH (n+1) f I ["rows","numbers","stand","way"] (lSp K vy):=by
 refine F.okD qaD (λds R h=>?_) (λRj A outer s H E ds R U h=>?_)
 ·let⟨rs,ns,sd,a,rfl,_⟩:=h;rfl
 let⟨rs,ns,sd,a,rfl,hs,YK,hn,hw,a_,q⟩:=h
 refine⟨_,(aU (bz (i:=4) qaD.nd O Zg gH)
   (aU (bz (i:=5) qaD.nd O Zg ax)
   (aU (bz (i:=6) qaD.nd O Zg ax)
   (aU (iq Mj O (bI (dv 1)) (bf (i:=7) qaD.nd O Zg) (aU (bz (i:=8) qaD.nd O Zg (lZ (PD.q (aK jx U O (af (aD (PD.q (bB (ae 0) (ae 7) (λ_ _=>rfl)))) (af (dv 3) aj aa) aF) aF (ao aa ag)))))
   (aQ (c9 (aX jb (ae 8) (PD.q ax) (aY _)) (aU (bz (i:=9) qaD.nd O Zg (aK mw U O (af (bB (ae 0) (ae 7) (λ_ _=>rfl)) (af (dv 2) aj aa) aF) aF (ao aa ag)))
   (aQ (c9 (PWD.td (gN (aX mz (ae 4) (PD.q gH) (aY _)) (iQ (aX gD (PD.q (aN cW (ae 9) (ae 6))) (PD.q (aN cW (ae 5) (ae 8))) (aY _))))) (aU (bz (i:=4) qaD.nd O Zg (dv 7))
   (aU (bz (i:=5) qaD.nd O Zg (dv 9))
   (aQ (bz (i:=6) qaD.nd O Zg (dv 8))))) dz))) dz))))
   (aQ (bq (dv 4))))))),?_⟩
 refine⟨λi ρ=>∃(o:Ž Int)(ov r:Int)(L M N:Ž Sl),ρ=[Z (.v (.tup (rs.map ba))),Z (.v (.tup (ns.map D.int))),Z (.v (b7 sd)),Z (.v (.tup (a.map D.int))),Z (.v (xq o)),Z (.v (.int ov)),Z (.v (.int r)),L,M,N]/\Stop rs ns sd a i o/\∀q,o=Z q->ov=bP (ah rs q) sd/\r=cc rs a q/\q∈ns,⟨ż,0,1,_,_,_,O,λj m h=>absurd h (),λq h=>by cases h⟩,?_,?_⟩
 ·rintro i d ρ hd ⟨o,ov,r,L,M,N,rfl,g,T⟩;let⟨k,rfl,v⟩:=dH hd;have y:=Mb v;let⟨k0,J⟩:=hn k y;have x:=YK _ (fY k0 J);let⟨b1,b2⟩:=a_ k y;refine⟨_,kh k0 J,_,O,(ah rs k).1,a,O,x.1,x.2.1,hw,λh=>?_,λh=>?_⟩
  ·have u:0<cc rs a k:=dP h;refine⟨_,kh k0 J,ah rs k,sd,O,hs,x.1,x.2,?_⟩
   cases o with
   |none=>
    refine⟨λ_=>⟨λ_=>⟨Z k,bP (ah rs k) sd,cc rs a k,_,_,_,O,?_,λq e=>by cases e;show⟨O,O,y⟩⟩,λh=>ff h.symm⟩,λh=>by cases h⟩;refine Stop.take (λj m z l hp=>?_) v u;have:=g j m z l;omega
   |some p=>
    let⟨rfl,rfl,Q⟩:=T p O;let⟨c1,c2⟩:=a_ p Q;refine⟨λh=>(by cases h),λ_=>⟨jS b1 c2,jS c1 b2,λh=>?_,λh=>?_⟩⟩
    ·have be:=dP h;refine⟨Z k,bP (ah rs k) sd,cc rs a k,_,_,_,O,?_,λq e=>by cases e;show⟨O,O,y⟩⟩;let⟨X,_,_,C,B⟩:=g;show Stop.take (λj m z l hp=>KL C hp u be (B j m z l hp).1) v u
    ·have am:=Ol h;refine⟨Z p,_,_,_,_,_,O,?_,λq e=>by cases e;show⟨O,O,Q⟩⟩;let⟨X,hi0,G,C,B⟩:=g;refine⟨X,(),G,C,λj m z l hp=>?_⟩;by_cases c:j=i
     ·subst c;rw[v]at l;cases l;have S:¬ bP (ah rs k) sd*cc rs a p<bP (ah rs p) sd*cc rs a k:=am;show⟨(),λh=>absurd h ()⟩
     ·show B j m () l hp
  ·have u:=Ol h;have YM:¬ 0<cc rs a k:=u;show⟨o,ov,r,_,_,_,O,g.keep v (),T⟩
 ·rintro ρ ⟨o,ov,r,L,M,N,rfl,g,_⟩;rw[LC]at g;show q o g
def eJ(sz a b:Int)(xs ys:Y Int):Y Int:=List.zipWith (λx y=>(sz*x-a*y)/b) xs ys
inductive z_moved(ds:List D)(R:D->Prop):Prop|mk (xs ys:List Int) (sh sz b:Int) (_:ds=[.tup (xs.map D.int),.tup (ys.map D.int),.int sh,.int sz,.int b]) (_:xs.length<=1000) (_:(∀x∈xs,bF x)) (_:(∀y∈ys,bF y)) (_:bF sh) (_:bF sz) (_:0<b) (_:b<2^9000) (_:R (.tup ((eJ sz sh b xs ys).map D.int)))
def KQ(F:Fun K "moved" "moved" lu f I)(j:mg "tuple"=ż)(l:mg "zip"=ż):FnOk P w K mg base aH (n+1) f I ["numbers","way","shift","size","bottom"] (lSp K z_moved):=by
 refine F.okD AK (λds R h=>?_) (λu A outer s H E ds R v h=>?_)
 ·let⟨xs,ys,a,sz,b,rfl,_⟩:=h;rfl
 let⟨xs,ys,a,sz,b,rfl,hl,p,r,m,o,b0,b1,q⟩:=h;refine⟨_,(aQ (bq (bW bZ O j LW (aI (PD.q (PF.d (de (k:=2) (N':=["number","step","bottom","size","shift"]) (cap:=[ż,ż,Z 4,Z 3,Z 2]) O (.ok (show bC ["numbers","way","shift","size","bottom"] (av lu) _ ["number","step","bottom","size","shift"] [ż,ż,Z 4,Z 3,Z 2]=ž by lia)) 'a' (kT (n:=2) (gy (bA 'b') (gy (bA 'b') lJ))) (lN O l (af (dv 0) (af (dv 1) aj aa) aa)) (λ_ _ _ _ _=>(jQ (n:=2) O (fA (bf (i:=0) (show List.Nodup (["number","step","bottom","size","shift"]:Y Str)by lia) O Zg) (fA (bf (i:=1) (show List.Nodup (["number","step","bottom","size","shift"]:Y Str)by lia) O Zg) kz)))) (λ_ _ _ _ _=>(aN kU (PD.q (aN gv (PD.q (aN cW (ae 3) (ae 0))) (PD.q (aN cW (ae 4) (ae 1))))) (ae 2)))))) aG br) br ag))),?_⟩;refine⟨_,_,O,O,?_⟩;refine rB (λx y=>D.int ((sz*x-a*y)/b)) (bo hl) (λx g y c=>⟨O,jS o (p x g),jS m (r y c),CDivB.of b0 b1,O⟩) ?_
 have e:List.zipWith (λx y=>D.int ((sz*x-a*y)/b)) xs ys=(eJ sz a b xs ys).map D.int:=by unfold eJ;rw[Pe]
 rwa[e]
def bX(sd:Std)(r:ak)(p:Nat):Y Int:=if aM r.1 (sd.ways.getD p [])<0 then (sd.ways.getD p []).map (λx=>-x) else sd.ways.getD p []
def eE(sd:Std)(r:ak)(p:Nat):Int:=if aM r.1 (sd.ways.getD p [])<0 then-aM r.1 (sd.ways.getD p []) else aM r.1 (sd.ways.getD p [])
def yo(sd:Std)(r:ak)(p:Nat):eE sd r p=((aM r.1 (sd.ways.getD p [])).natAbs:Int):=by unfold eE;split<;>omega
noncomputable def cw(r:ak)(sd:Std)(p:Nat)(q:Int):Std where
 held:=(List.range sd.ways.length).map λo=>if o=p then q else sd.held.getD o 0
 ways:=(List.range sd.ways.length).map λo=>if o=p then bX sd r p else eJ (eE sd r p) (aM r.1 (sd.ways.getD o [])) sd.bot (sd.ways.getD o []) (bX sd r p)
 tops:=eJ (eE sd r p) (bP r sd) sd.bot sd.tops (bX sd r p)
 bot:=eE sd r p
structure ExB(r:ak)(sd:Std)(p:Nat):Prop where
 sb:StB sd
 rl:r.1.length<=1000
 rb:jn r
 hp:p<sd.ways.length
 hh:sd.held.length=sd.ways.length
 wl:∀w∈sd.ways,w.length<=1000
 tl:sd.tops.length<=1000
 gb:∀w∈sd.ways,bF (aM r.1 w)
 ob:bF (bP r sd)
 b0:0<sd.bot
 b1:sd.bot<2^9000
def cm{a:Type}{xs:Y a}{i:Nat}{d:a}(h:i<xs.length):xs.getD i d∈xs:=by rw[LJ,aS h];show List.getElem_mem h
def bE{a:Type}{xs:Y a}{i:Nat}{d:a}(h:i<xs.length):xs[i]?=Z (xs.getD i d):=by rw[LJ,aS h];rfl
def KM{r:ak}{sd:Std}{p:Nat}(h:ExB r sd p):(∀x∈bX sd r p,bF x)/\(bX sd r p).length=(sd.ways.getD p []).length:=by
 unfold bX;split
 ·refine⟨λx a=>?_,by rw[LC]⟩;let⟨y,c,rfl⟩:=LY.mp a;change (-y).natAbs<_;rw[Oy];show h.sb.wb _ (cm h.hp) y c
 ·show⟨λx a=>h.sb.wb _ (cm h.hp) x a,O⟩
inductive z_exchanged(ds:List D)(R:D->Prop):Prop|mk (rs:List ak) (sd:Std) (p:Nat) (q:Int) (_:ds=[.tup (rs.map ba),b7 sd,.int (p:Int),.int q]) (_:(0<=q/\q<rs.length)) (_:ExB (ah rs q) sd p) (_:R (b7 (cw (ah rs q) sd p q)))
def BI(F:Fun K "exchanged" "exchanged" kA f I){v:Addr}(j:TxtStand K mg v)(pP:Cl P w K mg base (n+1) "growths" ["stand","entries"] z_growths)(S:Cl P w K mg base (n+1) "moved" ["numbers","way","shift","size","bottom"] z_moved)(mw:Cl P w K mg base (n+1) "over" ["row","stand"] z_over){a_:Addr}{Q:Í}(tP:FnOk P w K mg base aH n a_ Q ["self","held","ways","tops","bottom"] (rS K v))(tZ:Binds K Q ["self","held","ways","tops","bottom"] [])(tY:Mk K v a_)(jz:mg "abs"=ż)(N:mg "range"=ż)(z:mg "tuple"=ż)(M:mg "len"=ż):FnOk P w K mg base aH (n+2) f I ["rows","stand","place","number"] (lSp K z_exchanged):=by
 refine F.okD qap (λds R h=>?_) (λRj A outer s H E ds R m h=>?_)
 ·let⟨rs,sd,p,a,rfl,_⟩:=h;rfl
 let⟨rs,sd,p,a,rfl,⟨q0,q1⟩,g,q⟩:=h
 refine⟨_,(aU (bz (i:=4) qap.nd O Zg (bB (ae 0) (ae 3) (λ_ _=>rfl)))
   (aU (bz (i:=5) qap.nd O Zg (aK pP m O (af (dv 1) (af (aD (ae 4)) aj aF) aa) aa (ao aF ag)))
   (aU (bz (i:=6) qap.nd O Zg (bu tO O jz Pj (aI (PD.q (bB (ae 5) (ae 2) (λ_ _=>rfl))) aG aF) aF ag))
   (aU (bz (i:=7) qap.nd O Zg (bB (PD.q (cR j.cl j.n_ways j.ns (ae 1))) (ae 2) (λ_ _=>rfl)))
   (fP (c9 (aX gD (PD.q (bB (ae 5) (ae 2) (λ_ _=>rfl))) (PD.q ax) (aY _)) (aQ (bz (i:=7) qap.nd O Zg (bW bZ O z LW (aI (PD.q (PF.d (de (k:=1) (N':=["step"]) (cap:=[ż]) O (.ok (show bC ["rows","stand","place","number","row","grown","size","way","ways","other","tops","held"] (av kA) _ ["step"] [ż]=ž by lia)) 'a' (bA 'b') (bI (dv 7)) (λ_ _ _ _ _=>(bf (i:=0) (show List.Nodup (["step"]:Y Str)by lia) O Zg)) (λ_ _ _ _ _=>(lZ (ae 0)))))) aG br) br ag))) dz)
   (aU (vC (i:=8) qap.nd O Zg (fw aj))
   (aU (iq Mj O (fv O N (af (bu bL O M L8 (aI (ae 5) aG aa) aa ag) aj aB)) (bf (i:=9) qap.nd O Zg) (aQ (c9 (aX (cV m.units) (ae 9) (ae 2) (aY _)) (aQ (su 8 (dv 7) (dF aa) aa)) (aQ (su 8 (aK S m O (af (bB (PD.q (cR j.cl j.n_ways j.ns (ae 1))) (ae 9) (λ_ _=>rfl)) (af (dv 7) (af (bB (ae 5) (ae 9) (λ_ _=>rfl)) (af (dv 6) (af (cR j.cl j.n_bottom j.ns (ae 1)) aj cS) aa) aF) aa) aF) aF (ao aa (ao aF (ao aa (ao cS ag))))) (dF aB) aB)))))
   (aU (bz (i:=10) qap.nd O Zg (aK S m O (af (cR j.cl j.n_tops j.ns (ae 1)) (af (dv 7) (af (aK mw m O (af (dv 4) (af (dv 1) aj aa) aa) aa (ao aa ag)) (af (dv 6) (af (cR j.cl j.n_bottom j.ns (ae 1)) aj cS) aa) aB) aa) cS) cS (ao aa (ao aB (ao aa (ao cS ag))))))
   (aU (zx (i:=11) (k:=1) (N':=["other","number","place","stand"]) (cap:=[ż,Z 3,Z 2,Z 1]) O qap.nd O Zg (.ok (show bC ["rows","stand","place","number","row","grown","size","way","ways","other","tops","held"] (av kA) _ ["other","number","place","stand"] [ż,Z 3,Z 2,Z 1]=ž by lia)) 'a' (bA 'b') (fv O N (af (bu bL O M L8 (aI (ae 5) aG aa) aa ag) aj aB)) (λ_ _ _ _ _=>(bf (i:=0) (show List.Nodup (["other","number","place","stand"]:Y Str)by lia) O Zg)) (λ_ _ _ _ _=>(rK (aX (cV m.units) (ae 0) (ae 2) (aY _)) (dv 1) (bB (PD.q (cR j.cl j.n_held j.ns (ae 3))) (ae 0) (λ_ _=>rfl)))))
   (aQ (bq (yd j.ns tY tP m O j.mgC tZ nJ (af (bW bZ O z LW (aI (ae 11) aG aa) aa ag) (af (bW bZ O z LW (aI (ae 8) aG aa) aa ag) (af (dv 10) (af (dv 6) aj aa) aa) aB) aB) aB (ao aB (ao aa (ao aa ag))))))))))))))),?_⟩
 have G:=cm (d:=[]) g.hp
 have T5:(((sd.ways.map λw=>aM (ah rs a).1 w).map D.int).length:Int)=(sd.ways.length:Int):=by rw[LC,LC]
 have y:∀(o:Nat)(k:Int),o<sd.ways.length->k=(o:Int)->bD ((sd.ways.map λw=>aM (ah rs a).1 w).map D.int) k=Z (.int (aM (ah rs a).1 (sd.ways.getD o []))):=λo k u e=>df (i:=o) (by rw[LN,bE (d:=[]) u];rfl) e;have L:∀(o:Nat)(k:Int),o<sd.ways.length->k=(o:Int)->bD (sd.ways.map wD) k=Z (wD (sd.ways.getD o [])):=λo k u e=>df (i:=o) (bE u) e;have T:∀(o:Nat)(k:Int),o<sd.ways.length->k=(o:Int)->bD (sd.held.map D.int) k=Z (.int (sd.held.getD o 0)):=λo k u e=>df (i:=o) (bE (by rwa[g.hh])) e;let⟨wb,wl⟩:=KM g
 have hsz:bF (eE sd (ah rs a) p):=by
  have:=g.gb _ G;rw[yo];change (((aM (ah rs a).1 (sd.ways.getD p [])).natAbs:Int)).natAbs<_;rwa[Int.natAbs_natCast]
 refine⟨_,kh q0 q1,_,O,sd,(ah rs a).1,O,g.sb,g.rl,g.rb.1,?_⟩;refine⟨_,y p _ g.hp O,O,_,l5 sd,_,L p _ g.hp O,?_⟩;refine⟨λρ=>ρ=[Z (.v (.tup (rs.map ba))),Z (.v (b7 sd)),Z (.v (.int p)),Z (.v (.int a)),Z (.v (ba (ah rs a))),Z (.v (.tup ((sd.ways.map λw=>aM (ah rs a).1 w).map D.int))),Z (.v (.int (eE sd (ah rs a) p))),Z (.v (wD (bX sd (ah rs a) p))),ż,ż,ż,ż],?_,?_⟩
 ·refine⟨_,y p _ g.hp O,λh=>?_,λh=>?_⟩
  ·refine iA (f:=D.int) (λx=>-x) (bo (g.wl _ G)) (λx _=>rfl) ?_
   have e:bX sd (ah rs a) p=(sd.ways.getD p []).map λx=>-x:=by unfold bX;rw[LI (dP h)]
   rw[e];rfl
  ·have e:bX sd (ah rs a) p=sd.ways.getD p []:=by unfold bX;rw[LG (Ol h)]
   rw[e];rfl
 rintro ρ rfl;have Uc:=g.sb.wl;refine⟨⟨(),()⟩,λi ρ=>∃B:Ž Sl,ρ=[Z (.v (.tup (rs.map ba))),Z (.v (b7 sd)),Z (.v (.int p)),Z (.v (.int a)),Z (.v (ba (ah rs a))),Z (.v (.tup ((sd.ways.map λw=>aM (ah rs a).1 w).map D.int))),Z (.v (.int (eE sd (ah rs a) p))),Z (.v (wD (bX sd (ah rs a) p))),Z (.own (((cw (ah rs a) sd p a).ways.take i).map wD)),B,ż,ż],⟨_,O⟩,?_,?_⟩
 ·rintro i d ρ hd ⟨B,rfl⟩;let⟨hi,rfl⟩:=gk hd
  have l:i<sd.ways.length:=by omega
  have U:(cw (ah rs a) sd p a).ways.length=sd.ways.length:=by change ((List.range _).map _).length=_;rw[LC,L4]
  have r:(cw (ah rs a) sd p a).ways[i]?=Z (if i=p then bX sd (ah rs a) p else eJ (eE sd (ah rs a) p) (aM (ah rs a).1 (sd.ways.getD i [])) sd.bot (sd.ways.getD i []) (bX sd (ah rs a) p)):=by change ((List.range _).map _)[i]?=_;rw[LN,Mp l];rfl
  have J:∀w,(cw (ah rs a) sd p a).ways[i]?=Z w->(((cw (ah rs a) sd p a).ways.take i).map wD)++[wD w]=((cw (ah rs a) sd p a).ways.take (i+1)).map wD:=λw hw=>by rw[gu,List.take_succ,hw];rfl
  have C:(((cw (ah rs a) sd p a).ways.take i).map wD).length<sizeLine:=by rw[LC,Ms];show bo ()
  by_cases c:i=p
  ·subst c;rw[LI O]at r;refine⟨λ_=>⟨C,_,J _ r,_,O⟩,λh=>?_⟩;have:((0+(i:Int))==(i:Int))=β:=h;rw[MU]at this;simp at this
  ·rw[LG c]at r;refine⟨λh=>?_,λ_=>?_⟩
   ·have:((0+(i:Int))==(p:Int))=ž:=h;have:=eq_of_beq this;omega
   ·refine⟨O,_,l5 sd,_,L i _ l (),_,y i _ l (),O,_,iU sd,sd.ways.getD i [],bX sd (ah rs a) p,_,_,_,O,g.wl _ (cm l),g.sb.wb _ (cm l),wb,g.gb _ (cm l),hsz,g.b0,g.b1,C,_,J _ r,_,O⟩
 rintro ρ ⟨B,rfl⟩
 have U:(cw (ah rs a) sd p a).ways.length=sd.ways.length:=by change ((List.range _).map _).length=_;rw[LC,L4]
 refine⟨O,_,mV sd,ah rs a,sd,O,g.sb,g.rl,g.rb,O,_,iU sd,sd.tops,bX sd (ah rs a) p,_,_,_,O,g.tl,g.sb.tb,wb,g.ob,hsz,g.b0,g.b1,⟨(),()⟩,?_⟩;refine j6 (λo=>D.int (if o=p then a else sd.held.getD o 0)) (bo ()) (λi hi=>?_) ?_
 ·have l:i<sd.ways.length:=by omega
  by_cases c:i=p
  ·subst c;refine⟨λ_=>by rw[LI O];rfl,λh=>?_⟩;have:((0+(i:Int))==(i:Int))=β:=h;rw[MU]at this;simp at this
  ·refine⟨λh=>?_,λ_=>⟨O,_,lV sd,_,T i _ l (),by rw[LG c]⟩⟩;have:((0+(i:Int))==(p:Int))=ž:=h;have:=eq_of_beq this;omega
 refine⟨O,?_⟩
 have X:((((sd.ways.map λw=>aM (ah rs a).1 w).map D.int).length:Int)).toNat=sd.ways.length:=by omega
 have be:(cw (ah rs a) sd p a).ways.take sd.ways.length=(cw (ah rs a) sd p a).ways:=Ot ()
 have am:(List.range sd.ways.length).map (λo=>D.int (if o=p then a else sd.held.getD o 0))=(cw (ah rs a) sd p a).held.map D.int:=by change _=((List.range _).map _).map _;rw[Mg];rfl
 change R (.obj "Stand" [("held",.tup _),("ways",.tup _),("tops",.tup _),("bottom",.int _)]);rwa[eS,X,be,am]
inductive z_common_of_two(ds:List D)(R:D->Prop):Prop|mk (a b:Int) (_:ds=[.int a,.int b]) (_:R (.int (Int.gcd a b)))
def HH(F:Fun K "common_of_two" "common_of_two" nY f I)(o:mg "abs"=ż):FnOk P w K mg base aH (n+1) f I ["one","other"] (lSp K z_common_of_two):=by
 refine F.okD qam (λds R h=>?_) (λC A outer s H E ds R z h=>?_)
 ·let⟨a,b,rfl,_⟩:=h;rfl
 let⟨a,b,rfl,q⟩:=h
 refine⟨_,(aU (bz (i:=2) qam.nd O Zg (bu tO O o Pj (aI (ae 0) aG aa) aa ag))
   (aU (bz (i:=3) qam.nd O Zg (bu tO O o Pj (aI (ae 1) aG aa) aa ag))
   (aU (uo Mj (aX (jo z.units) (ae 3) (PD.q ax) (aY _)) (aU (bz (i:=4) qam.nd O Zg (aN g6 (ae 2) (ae 3)))
   (aU (bz (i:=2) qam.nd O Zg (dv 3))
   (aQ (bz (i:=3) qam.nd O Zg (dv 4))))))
   (aQ (bq (dv 2)))))),?_⟩
 refine⟨λm ρ=>∃(g l:Int)(p:Ž Sl),ρ=[Z (.v (.int a)),Z (.v (.int b)),Z (.v (.int g)),Z (.v (.int l)),p]/\m=l.toNat/\0<=g/\0<=l/\Int.gcd g l=Int.gcd a b,⟨_,_,_,_,O,O,by split<;>omega,by split<;>omega,?_⟩,?_⟩
 ·have j:∀x:Int,(if x<0 then -x else x)=(x.natAbs:Int):=λx=>by split<;>omega
  rw[j,j];unfold Int.gcd;simp
 rintro m ρ ⟨g,l,p,rfl,rfl,y,hl,e⟩;refine⟨λh=>?_,λh=>?_⟩
 ·have B:l≠0:=λr=>by rw[r]at h;cases h
  have c:0<l:=by omega
  have j:=Oo g c;have v:=OM g (b:=l) ();show⟨c,(g % l).toNat,(),l,g % l,_,O,O,hl,v,(J5 y c).trans e⟩
 ·have h0:l=0:=by have:(!(l==0))=β:=h;simp at this;show this
  subst h0
  have u:g=(Int.gcd a b:Int):=by rw[←e];simp;omega
  rwa[u]
inductive z_common(ds:List D)(R:D->Prop):Prop|mk (ns:List Int) (_:ds=[.tup (ns.map D.int)]) (_:R (.int (bc ns)))
def Ae(F:Fun K "common" "common" mM f I)(g:Cl P w K mg base n "common_of_two" ["one","other"] z_common_of_two):FnOk P w K mg base aH (n+1) f I ["numbers"] (lSp K z_common):=by
 refine F.okD qal (λds R h=>?_) (λj A outer s H E ds R e h=>?_)
 ·let⟨ns,rfl,_⟩:=h;rfl
 let⟨ns,rfl,q⟩:=h
 refine⟨_,(aU (bz (i:=1) qal.nd O Zg ax)
   (aU (iq Mj O (bI (dv 0)) (bf (i:=2) qal.nd O Zg) (aQ (bz (i:=1) qal.nd O Zg (aK g e O (af (dv 2) (af (dv 1) aj aa) aa) aa (ao aa ag)))))
   (aQ (bq (dv 1))))),?_⟩
 refine⟨λi ρ=>∃a:Ž Sl,ρ=[Z (.v (.tup (ns.map D.int))),Z (.v (.int (bc (ns.take i)))),a],⟨_,O⟩,?_,?_⟩
 ·rintro i d ρ hd ⟨a,rfl⟩;let⟨k,rfl,c⟩:=dH hd;refine⟨_,_,O,Z (.v (.int k)),?_⟩;rw[II c,xk];rfl
 ·rintro ρ ⟨a,rfl⟩;rwa[LC,M3]
def bw(ts:Y Int)(b:Int):Int:=Int.gcd (bc ts) b
inductive z_lowest(ds:List D)(R:D->Prop):Prop|mk (ts:List Int) (b:Int) (_:ds=[.tup (ts.map D.int),.int b]) (_:0<b) (_:b<2^9000) (_:ts.length<=1000) (_:R (.tup [.tup ((ts.map (·/bw ts b)).map D.int),.int (b/bw ts b)]))
def FR(F:Fun K "lowest" "lowest" mh f I)(l:Cl P w K mg base n "common_of_two" ["one","other"] z_common_of_two)(j:Cl P w K mg base n "common" ["numbers"] z_common)(g:mg "tuple"=ż):FnOk P w K mg base aH (n+1) f I ["tops","bottom"] (lSp K z_lowest):=by
 refine F.okD qau (λds R h=>?_) (λm A outer s H E ds R e h=>?_)
 ·let⟨ts,b,rfl,_⟩:=h;rfl
 let⟨ts,b,rfl,b0,b1,hl,q⟩:=h
 refine⟨_,(fP (c9 (aX gD (ae 1) (PD.q ax) (aY _)) (aQ sF) dz)
   (aU (bz (i:=2) qau.nd O (ð O) (aK l e O (af (aK j e O (af (dv 0) aj aa) aa ag) (af (dv 1) aj aa) aB) aB (ao aa ag)))
   (aQ (bq (bO (af (bW bZ O g LW (aI (PD.q (PF.d (de (k:=1) (N':=["top","divisor"]) (cap:=[ż,Z 2]) O (.ok (show bC ["tops","bottom","divisor"] (av mh) _ ["top","divisor"] [ż,Z 2]=ž by lia)) 'a' (bA 'b') (bI (dv 0)) (λ_ _ _ _ _=>(bf (i:=0) (show List.Nodup (["top","divisor"]:Y Str)by lia) O Zg)) (λ_ _ _ _ _=>(aN kU (ae 0) (ae 1)))))) aG br) br ag) (af (aN kU (ae 1) (ae 2)) aj cx) aB)))))),?_⟩
 have a:0<bw ts b:=by
  unfold bw;have:=P2 (bc ts) (show b≠0 by omega);omega
 have c:bw ts b<2^9000:=by
  have:bw ts b<=b:=by unfold bw;show Int.le_of_dvd b0 (Int.gcd_dvd_right ..)
  omega
 refine⟨λρ=>ρ=[Z (.v (.tup (ts.map D.int))),Z (.v (.int b)),ż],⟨λh=>?_,λ_=>rfl⟩,?_⟩
 ·have:=dP h;omega
 rintro ρ rfl;refine⟨ts,O,bc ts,b,O,?_⟩;refine iA (f:=D.int) (λx=>x/bw ts b) (bo hl) (λx _=>⟨CDivB.of a c,O⟩) ?_;show⟨CDivB.of a c,q⟩
def mZ(c:Nat->Bool)(h:Nat->D)(i:Nat):Ž D->Prop
 |some y=>y=h i/\c i=ž
 |none=>c i=β
def qZ{c:Nat->Bool}{h:Nat->D}{n:Nat}{ys:Y (Ž D)}(p:ys.length=n)(o:∀i y,ys[i]?=Z y->mZ c h i y):ys.filterMap id=((List.range n).filter c).map h:=by
 have e:ys=(List.range n).map λi=>if c i then Z (h i) else ż:=by
  refine Nj λi=>?_;rw[LN];by_cases m:i<n
  ·rw[Mp m,aS (show i<ys.length by omega)];have q:=o i _ (aS (show i<ys.length by omega))
   cases e:ys[i]'()with
   |none=>
    rw[e]at q;have g:c i=β:=q;change Z ż=Z (if c i=ž then _ else _);rw[g];rfl
   |some y=>
    rw[e]at q;have g:y=h i/\c i=ž:=q;change Z (Z y)=Z (if c i=ž then _ else _);rw[g.2,g.1];rfl
  ·rw[Mn (),Mn (by rw[L4];omega)];rfl
 have key:∀l:Y Nat,(l.map λi=>if c i then Z (h i) else ż).filterMap id=(l.filter c).map h:=by
  intro l
  induction l with
  |nil=>rfl
  |cons x l j=>
   rw[L5]
   cases e:c x with
   |true=>rw[LI O,QD (f:=id) (a:=Z (h x)) (b:=h x) O,O1 e,L5,j]
   |false=>rw[LG 'b',QE (f:=id) (a:=ż) O,O2 (by rw[e];decide),j]
 rw[e,key]
def dh(sd:Std)(gs:Y Int):Y (Int×Int):=((List.range gs.length).filter λi=>decide (gs.getD i 0<0)).map λi=>(sd.held.getD i 0,- gs.getD i 0)
inductive z_fallen(ds:List D)(R:D->Prop):Prop|mk (sd:Std) (gs:List Int) (_:ds=[b7 sd,.tup (gs.map D.int)]) (_:gs.length<=1000) (_:sd.held.length=gs.length) (_:R (.lst ((dh sd gs).map bM)))
def Gp(F:Fun K "fallen" "fallen" k9 f I){m:Addr}(c:TxtStand K mg m)(u:mg "range"=ż)(r:mg "len"=ż):FnOk P w K mg base aH (n+1) f I ["stand","grown"] (lSp K z_fallen):=by
 refine F.okD Hi (λds R h=>?_) (λz A outer s H E ds R G h=>?_)
 ·let⟨sd,gs,rfl,_⟩:=h;rfl
 let⟨sd,gs,rfl,hl,hh,q⟩:=h;refine⟨_,(aQ (bq (PF.d (jF (k:=1) (N':=["place","stand","grown"]) (cap:=[ż,Z 0,Z 1]) O (.ok (show bC ["stand","grown"] (av k9) _ ["place","stand","grown"] [ż,Z 0,Z 1]=ž by lia)) 'a' (bA 'b') (fv O u (af (bu bL O r L8 (aI (ae 1) aG aa) aa ag) aj aB)) (λ_ _ _ _ _=>(bf (i:=0) (show List.Nodup (["place","stand","grown"]:Y Str)by lia) O Zg)) (λ_ _ _ _ _=>(gR (aX gD (PD.q (bB (ae 2) (ae 0) (λ_ _=>rfl))) (PD.q ax) (aY _)))) (λ_ _ _ _ _=>(bO (af (bB (PD.q (cR c.cl c.n_held c.ns (ae 1))) (ae 0) (λ_ _=>rfl)) (af (lZ (PD.q (bB (ae 2) (ae 0) (λ_ _=>rfl)))) aj zg) aF))))))),?_⟩;have j:∀(o:Nat)(k:Int),o<gs.length->k=(o:Int)->bD (gs.map D.int) k=Z (.int (gs.getD o 0)):=λo k l e=>df (i:=o) (bE l) e;have p:∀(o:Nat)(k:Int),o<gs.length->k=(o:Int)->bD (sd.held.map D.int) k=Z (.int (sd.held.getD o 0)):=λo k l e=>df (i:=o) (bE (by rwa[hh])) e
 have B:(((gs.map D.int).length:Nat):Int)=(gs.length:Int):=by rw[LC]
 refine⟨⟨(),()⟩,?_⟩;refine⟨by rw[eS];show bo (),mZ (λi=>decide (gs.getD i 0<0)) (λi=>bM (sd.held.getD i 0,- gs.getD i 0)),λi d hd=>?_,λys g y=>?_⟩
 ·let⟨C,rfl⟩:=gk hd
  have a:i<gs.length:=by omega
  refine⟨_,j i _ a (),λh=>?_,λh=>h⟩;show⟨O,_,lV sd,_,p i _ a (),_,j i _ a (),O,h⟩
 ·rw[eS]at g
  have v:(((gs.map D.int).length:Int)).toNat=gs.length:=by omega
  rw[qZ g y,v]
  have x:(dh sd gs).map bM=((List.range gs.length).filter λi=>decide (gs.getD i 0<0)).map λi=>bM (sd.held.getD i 0,- gs.getD i 0):=by unfold dh;rw[Mg];rfl
  rw[x]at q;show q
inductive z_in_lowest(ds:List D)(R:D->Prop):Prop|mk (ps:List (Int×Int)) (b:Int) (_:ds=[.lst (ps.map bM),.int b]) (_:0<b) (_:b<2^9000) (_:ps.length<=1000) (_:R (.tup [.lst ((ps.map λp=>(p.1,p.2/bw (ps.map (·.2)) b)).map bM),.int (b/bw (ps.map (·.2)) b)]))
def Fh(F:Fun K "in_lowest" "in_lowest" jZ f I)(m:Cl P w K mg base n "lowest" ["tops","bottom"] z_lowest)(a:mg "tuple"=ż)(c:mg "zip"=ż):FnOk P w K mg base aH (n+1) f I ["pairs","bottom"] (lSp K z_in_lowest):=by
 refine F.okD qar (λds R h=>?_) (λo A outer s H E ds R g h=>?_)
 ·let⟨ps,b,rfl,_⟩:=h;rfl
 let⟨ps,b,rfl,b0,b1,hl,q⟩:=h
 refine⟨_,(aU (bz (i:=2) qar.nd O Zg (aK m g O (af (bW bZ O a LW (aI (PD.q (PF.d (de (k:=1) (N':=["pair"]) (cap:=[ż]) O (.ok (show bC ["pairs","bottom","reduced"] (av jZ) _ ["pair"] [ż]=ž by lia)) 'a' (bA 'b') (bI (dv 0)) (λ_ _ _ _ _=>(bf (i:=0) (show List.Nodup (["pair"]:Y Str)by lia) O Zg)) (λ_ _ _ _ _=>(aD (ae 0)))))) aG br) br ag) (af (dv 1) aj aa) aB) aB (ao aa ag)))
   (aQ (bq (bO (af (PF.d (de (k:=2) (N':=["pair","weight"]) (cap:=[ż,ż]) O (.ok (show bC ["pairs","bottom","reduced"] (av jZ) _ ["pair","weight"] [ż,ż]=ž by lia)) 'a' (kT (n:=2) (gy (bA 'b') (gy (bA 'b') lJ))) (lN O c (af (dv 0) (af (aD (ae 2)) aj aF) aa)) (λ_ _ _ _ _=>(jQ (n:=2) O (fA (bf (i:=0) (show List.Nodup (["pair","weight"]:Y Str)by lia) O Zg) (fA (bf (i:=1) (show List.Nodup (["pair","weight"]:Y Str)by lia) O Zg) kz)))) (λ_ _ _ _ _=>(bO (af (aD (ae 0)) (af (dv 1) aj aa) aF))))) (af (aD (ae 2)) aj aF) br))))),?_⟩
 refine iA (f:=bM) (λp=>p.2) (bo hl) (λp _=>⟨_,O,O⟩) ?_;refine⟨ps.map (λp=>p.2),b,O,b0,b1,by rwa[LC],?_⟩;refine⟨_,O,_,_,O,O,?_⟩;refine rB (f:=bM) (h:=D.int) (λp w=>bM (p.1,w)) (bo hl) (λp _ w _=>⟨O,_,O,O⟩) ?_
 have e:List.zipWith (λ(p:Int×Int)(w:Int)=>bM (p.1,w)) ps ((ps.map (λp=>p.2)).map (·/bw (ps.map (λp=>p.2)) b))=(ps.map λp=>(p.1,p.2/bw (ps.map (·.2)) b)).map bM:=by
  generalize bw (ps.map (λp=>p.2)) b=d
  have key:∀l:Y (Int×Int),List.zipWith (λ(p:Int×Int)(w:Int)=>bM (p.1,w)) l ((l.map (λp=>p.2)).map (·/d))=(l.map λp=>(p.1,p.2/d)).map bM:=by
   intro l
   induction l with
   |nil=>rfl
   |cons p t j=>
    rw[L5,L5,NY,L5,L5,j]
  show key ps
 rw[e];show⟨_,O,q⟩
def cT(n k:Nat):Y Int:=(List.range n).map λo=>if o=k then 1 else 0
inductive z_unit(ds:List D)(R:D->Prop):Prop|mk (n k:Nat) (_:ds=[.int (n:Int),.int (k:Int)]) (_:n<=1000) (_:R (wD (cT n k)))
def CZ(F:Fun K "unit" "unit" kI f I)(a:mg "tuple"=ż)(g:mg "range"=ż):FnOk P w K mg base aH (n+1) f I ["n","place"] (lSp K z_unit):=by
 refine F.okD Dz (λds R h=>?_) (λl A outer s H E ds R j h=>?_)
 ·let⟨m,k,rfl,_⟩:=h;rfl
 let⟨m,k,rfl,r,q⟩:=h;refine⟨_,(aQ (bq (bW bZ O a LW (aI (PD.q (PF.d (de (k:=1) (N':=["other","place"]) (cap:=[ż,Z 1]) O (.ok (show bC ["n","place"] (av kI) _ ["other","place"] [ż,Z 1]=ž by lia)) 'a' (bA 'b') (fv O g (af (dv 0) aj aa)) (λ_ _ _ _ _=>(bf (i:=0) (show List.Nodup (["other","place"]:Y Str)by lia) O Zg)) (λ_ _ _ _ _=>(rK (aX (cV j.units) (ae 0) (ae 1) (aY _)) ax ax))))) aG br) br ag))),?_⟩;refine⟨⟨(),()⟩,?_⟩;refine j6 (λo=>D.int (if o=k then 1 else 0)) (bo ()) (λi p=>?_) ?_
 ·by_cases c:i=k
  ·subst c;refine⟨λ_=>by rw[LI O];rfl,λh=>?_⟩;have:((0+(i:Int))==(i:Int))=β:=h;rw[MU]at this;simp at this
  ·refine⟨λh=>?_,λ_=>by rw[LG c];rfl⟩;have:((0+(i:Int))==(k:Int))=ž:=h;have:=eq_of_beq this;omega
 have e:(List.range ((m:Int)).toNat).map (λo=>D.int (if o=k then 1 else 0))=(cT m k).map D.int:=by unfold cT;rw[Mg,MG];rfl
 rwa[e]
def gJ(rs:Y ak)(n:Nat):Std where
 held:=(List.range n).map λ(i:Nat)=>(i:Int)
 ways:=(List.range n).map λk=>cT n k
 tops:=(List.range n).map λ(k:Nat)=>(ah rs (k:Int)).2
 bot:=1
inductive z_beginning(ds:List D)(R:D->Prop):Prop|mk (rs:List ak) (n:Nat) (_:ds=[.tup (rs.map ba),.int (n:Int)]) (_:n<=1000) (_:n<=rs.length) (_:R (b7 (gJ rs n)))
def JN(F:Fun K "beginning" "beginning" ko f I){a:Addr}(g:TxtStand K mg a)(z:Cl P w K mg base (n+1) "unit" ["n","place"] z_unit){l:Addr}{o:Í}(B:FnOk P w K mg base aH n l o ["self","held","ways","tops","bottom"] (rS K a))(G:Binds K o ["self","held","ways","tops","bottom"] [])(C:Mk K a l)(c:mg "tuple"=ż)(e:mg "range"=ż):FnOk P w K mg base aH (n+2) f I ["rows","n"] (lSp K z_beginning):=by
 refine F.okD qaj (λds R h=>?_) (λJ A outer s H E ds R j h=>?_)
 ·let⟨rs,m,rfl,_⟩:=h;rfl
 let⟨rs,m,rfl,y,hl,q⟩:=h
 refine⟨_,(aU (bz (i:=2) qaj.nd O Zg (bW bZ O c LW (aI (PD.q (PF.d (de (k:=1) (N':=["place","n"]) (cap:=[ż,Z 1]) O (.ok (show bC ["rows","n","ways","tops"] (av ko) _ ["place","n"] [ż,Z 1]=ž by lia)) 'a' (bA 'b') (fv O e (af (dv 1) aj aa)) (λ_ _ _ _ _=>(bf (i:=0) (show List.Nodup (["place","n"]:Y Str)by lia) O Zg)) (λ_ _ _ _ _=>(aK z j O (af (dv 1) (af (dv 0) aj aa) aa) aa (ao aa ag)))))) aG br) br ag))
   (aU (bz (i:=3) qaj.nd O Zg (bW bZ O c LW (aI (PD.q (PF.d (de (k:=1) (N':=["place","rows"]) (cap:=[ż,Z 0]) O (.ok (show bC ["rows","n","ways","tops"] (av ko) _ ["place","rows"] [ż,Z 0]=ž by lia)) 'a' (bA 'b') (fv O e (af (dv 1) aj aa)) (λ_ _ _ _ _=>(bf (i:=0) (show List.Nodup (["place","rows"]:Y Str)by lia) O Zg)) (λ_ _ _ _ _=>(aD (PD.q (bB (ae 1) (ae 0) (λ_ _=>rfl)))))))) aG br) br ag))
   (aQ (bq (yd g.ns C B j O g.mgC G nJ (af (xJ O O c O e (af (dv 1) aj aa)) (af (dv 2) (af (dv 3) (af ax aj aT) aa) aa) aB) aB (ao aa (ao aa (ao aT ag)))))))),?_⟩
 refine⟨⟨(),()⟩,?_⟩;refine j6 (λk=>wD (cT m k)) (bo ()) (λi x=>⟨m,i,by rw[MU],y,O⟩) ?_;refine⟨⟨(),()⟩,?_⟩;refine j6 (λ(k:Nat)=>D.int (ah rs (k:Int)).2) (bo ()) (λi x=>⟨_,kh () (),_,O,by rw[MU]⟩) ?_;refine⟨⟨(),()⟩,O,?_⟩;have p:((m:Int)).toNat=m:=MG m
 have r:(List.range m).map (λk=>wD (cT m k))=(gJ rs m).ways.map wD:=by change _=((List.range _).map _).map _;rw[Mg];rfl
 have u:(List.range m).map (λ(k:Nat)=>D.int (ah rs (k:Int)).2)=(gJ rs m).tops.map D.int:=by change _=((List.range _).map _).map _;rw[Mg];rfl
 have v:dX 0 m=(gJ rs m).held.map D.int:=by
  change _=((List.range _).map _).map _;unfold dX;rw[Mg]
  show NV λi _=>by change D.int (0+(i:Int))=D.int (i:Int);rw[MU]
 change R (.obj "Stand" [("held",.tup _),("ways",.tup _),("tops",.tup _),("bottom",.int 1)]);rwa[p,r,u,v]
def cb(ts:Y Int)(b:Int):ak:=(ts.map (·/bw ts b),b/bw ts b)
inductive z_endless_ending(ds:List D)(R:D->Prop):Prop|mk (sd:Std) (way:List Int) (_:ds=[b7 sd,.tup (way.map D.int)]) (_:sd.tops.length<=1000) (_:0<sd.bot) (_:sd.bot<2^9000) (_:way.length<=1000) (_:0<bc way) (_:bc way<2^9000) (_:R (.tup [.str "endless",ba (cb sd.tops sd.bot),.tup ((way.map (·/bc way)).map D.int)]))
def BM(F:Fun K "endless_ending" "endless_ending" k6 f I){g:Addr}(c:TxtStand K mg g)(o:Cl P w K mg base n "common" ["numbers"] z_common)(m:Cl P w K mg base n "lowest" ["tops","bottom"] z_lowest)(j:mg "tuple"=ż):FnOk P w K mg base aH (n+1) f I ["stand","way"] (lSp K z_endless_ending):=by
 refine F.okD qao (λds R h=>?_) (λp A outer s H E ds R e h=>?_)
 ·let⟨sd,a,rfl,_⟩:=h;rfl
 let⟨sd,a,rfl,tl,b0,b1,wl,g0,l,q⟩:=h
 refine⟨_,(aU (bz (i:=2) qao.nd O (ð O) (aK o e O (af (dv 1) aj aa) aa ag))
   (aQ (bq (bO (af bQ (af (aK m e O (af (cR c.cl c.n_tops c.ns (ae 0)) (af (cR c.cl c.n_bottom c.ns (ae 0)) aj cS) cS) cS (ao cS ag)) (af (bW bZ O j LW (aI (PD.q (PF.d (de (k:=1) (N':=["step","divisor"]) (cap:=[ż,Z 2]) O (.ok (show bC ["stand","way","divisor"] (av k6) _ ["step","divisor"] [ż,Z 2]=ž by lia)) 'a' (bA 'b') (bI (dv 1)) (λ_ _ _ _ _=>(bf (i:=0) (show List.Nodup (["step","divisor"]:Y Str)by lia) O Zg)) (λ_ _ _ _ _=>(aN kU (ae 0) (ae 1)))))) aG br) br ag) aj aB) aB) aT))))),?_⟩
 refine⟨a,O,O,_,mV sd,O,_,iU sd,sd.tops,sd.bot,O,b0,b1,tl,?_⟩;refine iA (f:=D.int) (λx=>x/bc a) (bo wl) (λx _=>⟨CDivB.of g0 l,O⟩) ?_;show q
def Fo:Ž Nat->D
 |none=>.non
 |some k=>.int (k:Int)
def Lg(sd:Std)(gs:Y Int):Ž Nat->Prop
 |none=>∀i,i<gs.length->gs.getD i 0<=0
 |some p=>p<gs.length/\0<gs.getD p 0/\∀j,j<gs.length->0<gs.getD j 0->sd.held.getD p 0<=sd.held.getD j 0
inductive z_least_grown(ds:List D)(R:D->Prop):Prop|mk (sd:Std) (gs:List Int) (_:ds=[b7 sd,.tup (gs.map D.int)]) (_:gs.length<=1000) (_:sd.held.length=gs.length) (_:∀o,Lg sd gs o->R (Fo o))
def Ac(F:Fun K "least_grown" "least_grown" eM f I){a_:Addr}(m:TxtStand K mg a_)(kD:mg "min"=ż)(X:mg "range"=ż)(U:mg "len"=ż){cL N:Addr}(u:LamT K "least_grown" I cL N ⟨81,27,81,58⟩):FnOk P w K mg base aH (n+2) f I ["stand","grown"] (lSp K z_least_grown):=by
 refine F.okDL qat (λds R h=>?_) (λRj A outer s H E ds R Q hr h=>?_)
 ·let⟨sd,gs,rfl,_⟩:=h;rfl
 let⟨sd,gs,rfl,hl,hh,q⟩:=h
 refine⟨_,(aU (qL (i:=2) (k:=1) (N':=["place","grown"]) (cap:=[ż,Z 1]) O qat.nd O Zg (.ok (show bC ["stand","grown","places"] (av eM) _ ["place","grown"] [ż,Z 1]=ž by lia)) 'a' (bA 'b') (fv O X (af (bu bL O U L8 (aI (ae 1) aG aa) aa ag) aj aB)) (λ_ _ _ _ _=>(bf (i:=0) (show List.Nodup (["place","grown"]:Y Str)by lia) O Zg)) (λ_ _ _ _ _=>(gR (aX jb (PD.q (bB (ae 1) (ae 0) (λ_ _=>rfl))) (PD.q ax) (aY _)))) (λ_ _ _ _ _=>(dv 0)))
   (aQ (bq (C5 (p:="place") (r:=["stand"]) (cap:=[Z 0]) (hr.mono ()) O kD (ae 2) (.ok (show bC ["stand","grown","places"] (av eM) _ ["place","stand"] [ż,Z 0]=ž by lia)) 'a' O O O O (λ_ _ _ _ _ _=>rfl) (Q.symm.trans u.code) u.hd u.tab (λ_ _ _ _ _ _=>(bB (PD.q (cR m.cl m.n_held m.ns (ae 1))) (ae 0) (λ_ _=>rfl))) aa)))),?_⟩
 have T:∀(o:Nat)(k:Int),o<gs.length->k=(o:Int)->bD (gs.map D.int) k=Z (.int (gs.getD o 0)):=λo k M e=>df (i:=o) (bE M) e;have S:∀(o:Nat)(k:Int),o<gs.length->k=(o:Int)->bD (sd.held.map D.int) k=Z (.int (sd.held.getD o 0)):=λo k M e=>df (i:=o) (bE (by rwa[hh])) e
 have T5:(((gs.map D.int).length:Nat):Int)=(gs.length:Int):=by rw[LC]
 refine⟨⟨(),()⟩,?_⟩;refine⟨by rw[eS];show bo (),mZ (λi=>decide (0<gs.getD i 0)) (λi=>D.int (i:Int)),λi d hd=>?_,λys B hy=>?_⟩
 ·let⟨L,rfl⟩:=gk hd
  have l:i<gs.length:=by omega
  refine⟨_,T i _ l (),λh=>?_,λh=>h⟩;show⟨by rw[MU],h⟩
 ·rw[eS]at B
  have be:(((gs.map D.int).length:Int)).toNat=gs.length:=by omega
  rw[qZ B hy,be]
  have C:∀(i:Nat)(e:D),(((List.range gs.length).filter λi=>decide (0<gs.getD i 0)).map λ(i:Nat)=>D.int (i:Int))[i]?=Z e->∃k:Nat,e=.int (k:Int)/\((List.range gs.length).filter λi=>decide (0<gs.getD i 0))[i]?=Z k/\k<gs.length/\0<gs.getD k 0:=λi e g=>by
   let⟨k,rfl,a⟩:=dH g;have:=MF.mp (Mb a);show⟨k,O,a,Mi.mp this.1,Mm this.2⟩
  refine⟨λi=>sd.held.getD (((List.range gs.length).filter λi=>decide (0<gs.getD i 0)).getD i 0) 0,λi e g=>?_,λhn=>?_,λi e g hb=>?_⟩
  ·let⟨k,rfl,a,v,G⟩:=C i e g
   have x:((List.range gs.length).filter λi=>decide (0<gs.getD i 0)).getD i 0=k:=by rw[LJ,a];rfl
   show⟨O,_,lV sd,_,S k _ v O,by change D.int _=D.int (sd.held.getD (List.getD _ i 0) 0);rw[x]⟩
  ·refine q ż λi L=>?_;have hz:=List.map_eq_nil_iff.mp hn;rcases Nf 0 (gs.getD i 0)with c|c
   ·have:i∈(List.range gs.length).filter λi=>decide (0<gs.getD i 0):=MF.mpr ⟨Mi.mpr L,Md c⟩;rw[hz]at this;cases this
   ·show c
  ·let⟨k,rfl,a,v,G⟩:=C i e g
   have x:((List.range gs.length).filter λi=>decide (0<gs.getD i 0)).getD i 0=k:=by rw[LJ,a];rfl
   refine q (Z k) ⟨v,G,λj hj y=>?_⟩;have hm:j∈(List.range gs.length).filter λi=>decide (0<gs.getD i 0):=MF.mpr ⟨Mi.mpr hj,Md y⟩;let⟨z,l⟩:=MK hm;have h3:=(hb z (by rw[LC];show aO l)).1
   have am:((List.range gs.length).filter λi=>decide (0<gs.getD i 0)).getD z 0=j:=by rw[LJ,l];rfl
   have J:sd.held.getD (((List.range gs.length).filter λi=>decide (0<gs.getD i 0)).getD i 0) 0<=sd.held.getD (((List.range gs.length).filter λi=>decide (0<gs.getD i 0)).getD z 0) 0:=h3;rw[x,am]at J;show J
def wZ{ps:Y (Int×Int)}(h:(ps.map (·.1)).Nodup):∀(i j:Nat)(p q:Int×Int),ps[i]?=Z p->ps[j]?=Z q->p.1=q.1->i=j:=λi j p q hp hq e=>by
 have a:(ps.map (·.1))[i]?=Z p.1:=by rw[LN,hp];rfl
 have c:(ps.map (·.1))[j]?=Z q.1:=by rw[LN,hq];rfl
 let⟨m,g⟩:=L9.mp a;let⟨o,l⟩:=L9.mp c;show (OA h).mp (g.trans (e.trans l.symm))
def cA(sd:Std)(gs:Y Int):Int:=bw ((dh sd gs).map (·.2)) sd.bot
def bH(sd:Std)(gs:Y Int):Y (Int×Int):=(dh sd gs).map λp=>(p.1,p.2/cA sd gs)
def cI(sd:Std)(gs:Y Int):Int:=sd.bot/cA sd gs
def yh(sd:Std)(gs:Y Int):(bH sd gs).map (·.1)=((List.range gs.length).filter λi=>decide (gs.getD i 0<0)).map λi=>sd.held.getD i 0:=by unfold bH dh;rw[Mg,Mg];rfl
def wo{sd:Std}{gs:Y Int}(hh:sd.held.length=gs.length)(m:sd.held.Nodup):((bH sd gs).map (·.1)).Nodup:=by
 rw[yh];have nd:((List.range gs.length).filter λi=>decide (gs.getD i 0<0)).Nodup:=Qw.filter _;refine N8.mpr (OU (λ{a b} j l c e=>c ?_) nd);have v:=Mi.mp (MF.mp j).1;have x:=Mi.mp (MF.mp l).1;have g:=bE (xs:=sd.held) (d:=0) (i:=a) ();have h:=bE (xs:=sd.held) (d:=0) (i:=b) ();let⟨r,o⟩:=L9.mp g;let⟨u,p⟩:=L9.mp h;show (OA m).mp (o.trans (e.trans p.symm))
def jN(sd:Std)(gs:Y Int):(bH sd gs).length<=gs.length:=by
 unfold bH dh;rw[LC,LC];have:=Pk (λi=>decide (gs.getD i 0<0)) (List.range gs.length);rw[L4]at this;show this
def v7(sd:Std)(gs:Y Int):(dh sd gs).length<=gs.length:=by have:=jN sd gs;unfold bH at this;rw[LC]at this;show this
noncomputable def yP:bJ:=λds R=>∃(sd:Std)(q:Int)(gs:Y Int),ds=[b7 sd,.int q,.tup (gs.map D.int)]/\gs.length<=60/\sd.held.length=gs.length/\0<sd.bot/\sd.bot<2^9000/\sd.held.Nodup/\q∉sd.held /\
 ∀qs:Y (Int×Int),qs.Perm (bH sd gs++[(q,cI sd gs)])->qs.Pairwise (λa b=>a.1<b.1)->R (.tup [.str "none",.tup (qs.map bM)])
def Cg(F:Fun K "none_ending" "none_ending" pM f I){m:Addr}(c:TxtStand K mg m)(B:Cl P w K mg base n "in_lowest" ["pairs","bottom"] z_in_lowest)(C:Cl P w K mg base n "fallen" ["stand","grown"] z_fallen)(p:mg "tuple"=ż)(u:mg "sorted"=ż):FnOk P w K mg base aH (n+1) f I ["stand","number","grown"] (lSp K yP):=by
 refine F.okD qax (λds R h=>?_) (λG A outer s H E ds R l h=>?_)
 ·let⟨sd,j,gs,rfl,_⟩:=h;rfl
 let⟨sd,j,gs,rfl,hl,hh,b0,b1,y,hq,q⟩:=h
 refine⟨_,(aU (bz (i:=3) qax.nd O Zg (aK B l O (af (aK C l O (af (dv 0) (af (dv 2) aj aa) aa) aa (ao aa ag)) (af (cR c.cl c.n_bottom c.ns (ae 0)) aj cS) aB) aB (ao cS ag)))
   (aQ (bq (bO (af bQ (af (bW bZ O p LW (aI (PD.q (bu vS O u OV (aI (PD.q (aN cg (PD.q (aD (ae 3))) (PD.q (PF.d (fw (af (bO (af (dv 1) (af (aD (ae 3)) aj aF) aa)) aj fH)))))) aG cx) cx ag)) aG aB) aB ag) aj aB) aT))))),?_⟩
 have J:=v7 sd gs;refine⟨sd,gs,O,(),hh,O,_,iU sd,dh sd gs,sd.bot,O,b0,b1,(),?_⟩;refine⟨_,O,_,O,?_,_,O,?_⟩
 ·rw[LC];change (bH sd gs).length+1<=sizeLine;have:=jN sd gs;show MC (bo ())
 refine⟨bH sd gs++[(j,cI sd gs)],by rw[MM];rfl,?_,wZ ?_,λqs hp z=>q qs hp z⟩
 ·rw[LL];have:=jN sd gs;change (bH sd gs).length+1<64;omega
 ·rw[MM];refine MI.mpr ⟨wo hh y,by simp,λa g b v e=>?_⟩
  have o:b=j:=by simpa using v
  rw[e,o]at g;rw[yh]at g;let⟨i,x,r⟩:=LY.mp g;have L:=Mi.mp (MF.mp x).1;show hq (by rw[←r];show cm ())
noncomputable def wY:bJ:=λds R=>∃(sd:Std)(gs:Y Int),ds=[b7 sd,.tup (gs.map D.int)]/\gs.length<=60/\sd.held.length=gs.length/\0<sd.bot/\sd.bot<2^9000/\sd.held.Nodup/\sd.tops.length<=1000 /\
 ∀qs:Y (Int×Int),qs.Perm (bH sd gs)->qs.Pairwise (λa b=>a.1<b.1)->R (.tup [.str "best",ba (cb sd.tops sd.bot),.tup (qs.map bM),.int (cI sd gs)])
def Ir(F:Fun K "best_ending" "best_ending" mP f I){e:Addr}(a:TxtStand K mg e)(p:Cl P w K mg base n "in_lowest" ["pairs","bottom"] z_in_lowest)(r:Cl P w K mg base n "fallen" ["stand","grown"] z_fallen)(o:Cl P w K mg base n "lowest" ["tops","bottom"] z_lowest)(g:mg "tuple"=ż)(j:mg "sorted"=ż):FnOk P w K mg base aH (n+1) f I ["stand","grown"] (lSp K wY):=by
 refine F.okD qak (λds R h=>?_) (λu A outer s H E ds R c h=>?_)
 ·let⟨sd,gs,rfl,_⟩:=h;rfl
 let⟨sd,gs,rfl,hl,hh,b0,b1,l,tl,q⟩:=h
 refine⟨_,(aU (bz (i:=2) qak.nd O Zg (aK p c O (af (aK r c O (af (dv 0) (af (dv 1) aj aa) aa) aa (ao aa ag)) (af (cR a.cl a.n_bottom a.ns (ae 0)) aj cS) aB) aB (ao cS ag)))
   (aQ (bq (bO (af bQ (af (aK o c O (af (cR a.cl a.n_tops a.ns (ae 0)) (af (cR a.cl a.n_bottom a.ns (ae 0)) aj cS) cS) cS (ao cS ag)) (af (bW bZ O g LW (aI (PD.q (bu vS O j OV (aI (PD.q (aD (ae 2))) aG aF) aF ag)) aG aB) aB ag) (af (aD (ae 2)) aj aF) aB) aB) aT))))),?_⟩
 have v:=v7 sd gs;have x:=jN sd gs;refine⟨sd,gs,O,(),hh,O,_,iU sd,dh sd gs,sd.bot,O,b0,b1,(),?_⟩;refine⟨O,_,mV sd,O,_,iU sd,sd.tops,sd.bot,O,b0,b1,tl,?_⟩;refine⟨_,O,bH sd gs,O,(),wZ (wo hh l),λqs hp m=>⟨_,O,q qs hp m⟩⟩
def aL(rs:Y ak):Wk.Mx:=λr j=>((ah rs (r:Int)).1).getD j 0
def BL(rs:Y ak):Nat->Int:=λr=>(ah rs (r:Int)).2
def cL(goal:Y Int):Nat->Int:=λj=>goal.getD j 0
def aR(sd:Std):Wk.Sd:=⟨λk=>(sd.held.getD k 0).toNat,λk i=>(sd.ways.getD k []).getD i 0,λi=>sd.tops.getD i 0,sd.bot⟩
structure Wf(rs:List ak)(n:Nat)(sd:Std):Prop where
 hl:sd.held.length=n
 h0:∀k∈sd.held,0<=k
 wl:sd.ways.length=n
 ww:∀w∈sd.ways,w.length=n
 tl:sd.tops.length=n
 ok:Wk.Ok n (aL rs) (BL rs) rs.length (aR sd)
structure RsW(rs:List ak)(n:Nat):Prop where
 len:∀r∈rs,r.1.length=n
 eb:∀r∈rs,∀x∈r.1,x.natAbs<=2^900
 bb:∀r∈rs,r.2.natAbs<=2^900
 n8:n<=8
 nM:n<=rs.length
 M1:rs.length<=1000
theorem uz(f:Nat->Int):∀n:Nat,Wk.sm (n+1) f=f 0+Wk.sm n (λi=>f (i+1))
 |0=>by change 0+f 0=f 0+0;omega
 |n+1=>by
  have:=uz f n;change Wk.sm (n+1) f+f (n+1)=f 0+(Wk.sm n (λi=>f (i+1))+f (n+1));omega
theorem gT:∀{n:Nat}{xs ys:Y Int},xs.length=n->ys.length=n->aM xs ys=Wk.dt n (λi=>xs.getD i 0) (λi=>ys.getD i 0)
 |0,[],[],_,_=>rfl
 |n+1,x::xs,y::ys,a,c=>by
  have g:=gT (n:=n) (xs:=xs) (ys:=ys) (by simpa using a) (by simpa using c)
  have e:aM (x::xs) (y::ys)=x*y+aM xs ys:=by unfold aM;rw[NY,MJ]
  rw[e,g];unfold Wk.dt;rw[uz];rfl
def sR{rs:Y ak}{q:Int}(h:0<=q):ah rs ((q.toNat:Nat):Int)=ah rs q:=by
 have:((q.toNat:Nat):Int)=q:=by omega
 rw[this]
def nt{rs:Y ak}{n:Nat}{sd:Std}(a:Wf rs n sd)(g:RsW rs n){q:Int}(h0:0<=q)(c:q<rs.length){k:Nat}(h:k<n):aM (ah rs q).1 (sd.ways.getD k [])=Wk.gr n (aL rs) (aR sd) q.toNat k:=by
 have e:=gT (g.len _ (fY h0 c)) (a.ww _ (cm (d:=[]) (show k<sd.ways.length by rwa[a.wl])));rw[e];unfold Wk.gr aL aR;rw[sR h0]
def iZ{rs:Y ak}{n:Nat}{sd:Std}(c:Wf rs n sd)(e:RsW rs n){q:Int}(h0:0<=q)(a:q<rs.length):bP (ah rs q) sd=Wk.ov n (aL rs) (BL rs) (aR sd) q.toNat:=by unfold bP Wk.ov BL;rw[gT (e.len _ (fY h0 a)) c.tl,sR h0];unfold aL aR;rw[sR h0]
def rJ{rs:Y ak}{n:Nat}{sd:Std}(a:Wf rs n sd){goal:Y Int}(c:goal.length=n){k:Nat}(e:k<n):aM goal (sd.ways.getD k [])=Wk.dt n (cL goal) ((aR sd).W k):=gT c (a.ww _ (cm (d:=[]) (show k<sd.ways.length by rwa[a.wl])))
def Gz{f:Int->Int->Int}{xs ys:Y Int}{i:Nat}(a:i<xs.length)(c:i<ys.length):(List.zipWith f xs ys).getD i 0=f (xs.getD i 0) (ys.getD i 0):=by rw[LJ,QQ,bE (d:=0) a,bE (d:=0) c];rfl
def fD{a:Type}{xs:Y a}{i:Nat}{d:a}(h:xs.length<=i):xs.getD i d=d:=by rw[LJ,Mn h];rfl
def Jk(n:Nat)(x:Nat->Int):Wk.dt n x (λ_=>0)=0:=by
 unfold Wk.dt
 have e:(λi=>x i*(0:Int))=λ_=>0:=by funext i;show MA _
 rw[e];show Wk.sm_zero n
def jR{sd:Std}{r:ak}{p:Nat}:(bX sd r p).length=(sd.ways.getD p []).length:=by
 unfold bX;split
 ·rw[LC]
 ·rfl
def wq{rs:Y ak}{n:Nat}{sd:Std}(a:Wf rs n sd)(B:RsW rs n){p:Nat}{q:Int}(hp:p<n)(h0:0<=q)(A:q<rs.length):aR (cw (ah rs q) sd p q)=Wk.pv n (aL rs) (BL rs) (aR sd) p q.toNat:=by
 have u:p<sd.ways.length:=by rwa[a.wl]
 have m:(sd.ways.getD p []).length=n:=a.ww _ (cm u);have l:∀k,k<n->aM (ah rs q).1 (sd.ways.getD k [])=Wk.gr n (aL rs) (aR sd) q.toNat k:=λk g=>nt a B h0 A g;have E:=iZ a B h0 A
 have hsz:eE sd (ah rs q) p=((Wk.gr n (aL rs) (aR sd) q.toNat p).natAbs:Int):=by rw[yo,l p hp]
 have j:∀i,(bX sd (ah rs q) p).getD i 0=Wk.wy n (aL rs) (aR sd) p q.toNat i:=λi=>by
  unfold bX Wk.wy;rw[l p hp];by_cases c:Wk.gr n (aL rs) (aR sd) q.toNat p<0
  ·rw[LI c,LI c];change _ =-(sd.ways.getD p []).getD i 0;by_cases r:i<(sd.ways.getD p []).length
   ·rw[LJ,LN,bE (d:=0) r];rfl
   ·rw[fD (by rw[LC];omega),fD ()];rfl
  ·rw[LG c,LG c];rfl
 have x:∀i,n<=i->Wk.wy n (aL rs) (aR sd) p q.toNat i=0:=λi r=>by rw[←j,fD];rwa[jR,m]
 have h:∀(v:Int)(xs:Y Int)(i:Nat),xs.length=n->(eJ (eE sd (ah rs q) p) v sd.bot xs (bX sd (ah rs q) p)).getD i 0=(((Wk.gr n (aL rs) (aR sd) q.toNat p).natAbs:Int)*xs.getD i 0-v*Wk.wy n (aL rs) (aR sd) p q.toNat i)/sd.bot:=λv xs i F=>by
  unfold eJ;by_cases r:i<n
  ·rw[Gz () (by rwa[jR,m]),j,hsz]
  ·rw[fD (by rw[PV,jR,m,F];omega),x i (),fD (),MA,MA];simp
 have C:∀k,n<=k->∀i,(aR sd).W k i=0:=λk g i=>by change (sd.ways.getD k []).getD i 0=0;rw[fD (d:=[]) (by rwa[a.wl])];rfl
 have z:(aR (cw (ah rs q) sd p q)).h=(Wk.pv n (aL rs) (BL rs) (aR sd) p q.toNat).h:=by
  funext k
  change (((List.range sd.ways.length).map λo=>if o=p then q else sd.held.getD o 0).getD k 0).toNat=if k=p then q.toNat else (sd.held.getD k 0).toNat
  by_cases g:k<n
  ·rw[LJ,LN,Mp (by rwa[a.wl])];change (if k=p then q else sd.held.getD k 0).toNat=_;split<;>rfl
  ·rw[fD (by rw[LC,L4,a.wl];omega),LG (),fD (by rw[a.hl];omega)]
 have y:(aR (cw (ah rs q) sd p q)).W=(Wk.pv n (aL rs) (BL rs) (aR sd) p q.toNat).W:=by
  funext k i
  change (((List.range sd.ways.length).map λo=>if o=p then bX sd (ah rs q) p else eJ (eE sd (ah rs q) p) (aM (ah rs q).1 (sd.ways.getD o [])) sd.bot (sd.ways.getD o []) (bX sd (ah rs q) p)).getD k []).getD i 0 =
   if k=p then Wk.wy n (aL rs) (aR sd) p q.toNat i else (((Wk.gr n (aL rs) (aR sd) q.toNat p).natAbs:Int)*(aR sd).W k i-Wk.gr n (aL rs) (aR sd) q.toNat k*Wk.wy n (aL rs) (aR sd) p q.toNat i)/sd.bot
  by_cases g:k<n
  ·have e:((List.range sd.ways.length).map λo=>if o=p then bX sd (ah rs q) p else eJ (eE sd (ah rs q) p) (aM (ah rs q).1 (sd.ways.getD o [])) sd.bot (sd.ways.getD o []) (bX sd (ah rs q) p)).getD k []=if k=p then bX sd (ah rs q) p else eJ (eE sd (ah rs q) p) (aM (ah rs q).1 (sd.ways.getD k [])) sd.bot (sd.ways.getD k []) (bX sd (ah rs q) p):=by
    rw[LJ,LN,Mp (by rwa[a.wl])];rfl
   rw[e];by_cases c:k=p
   ·rw[LI c,LI c,j]
   ·rw[LG c,LG c,h _ _ i (a.ww _ (cm (by rwa[a.wl]))),l k g];rfl
  ·rw[fD (d:=[]) (by rw[LC,L4,a.wl];omega),LG (),C k ()]
   have e:Wk.gr n (aL rs) (aR sd) q.toNat k=0:=by
    unfold Wk.gr
    have:(aR sd).W k=λ_=>0:=by funext i;show C k () i
    rw[this];show Jk n _
   rw[e,MA,Nt];simp
 have ex:(aR (cw (ah rs q) sd p q)).x=(Wk.pv n (aL rs) (BL rs) (aR sd) p q.toNat).x:=by
  funext i
  change (eJ (eE sd (ah rs q) p) (bP (ah rs q) sd) sd.bot sd.tops (bX sd (ah rs q) p)).getD i 0=_;rw[h _ _ i a.tl,E];rfl
 have eb:(aR (cw (ah rs q) sd p q)).b=(Wk.pv n (aL rs) (BL rs) (aR sd) p q.toNat).b:=hsz;generalize aR (cw (ah rs q) sd p q)=S at *;generalize Wk.pv n (aL rs) (BL rs) (aR sd) p q.toNat=T at *;cases S;cases T;simp only at z y ex eb;rw[z,y,ex,eb]
def Wf.ex{rs:Y ak}{n:Nat}{sd:Std}(a:Wf rs n sd)(l:RsW rs n){p:Nat}{q:Int}(hp:p<n)(h0:0<=q)(g:q<rs.length)(h:Wk.gr n (aL rs) (aR sd) q.toNat p≠0):Wf rs n (cw (ah rs q) sd p q):=by
 have c:(sd.ways.getD p []).length=n:=a.ww _ (cm (by rwa[a.wl]));refine⟨?_,λk j=>?_,?_,λw m=>?_,?_,?_⟩
 ·change ((List.range _).map _).length=n;rw[LC,L4,a.wl]
 ·let⟨o,e,rfl⟩:=LY.mp (show k∈(List.range _).map _ from j);have lo:=Mi.mp e;split
  ·show h0
  ·show a.h0 _ (cm (by rw[a.hl,←a.wl];show lo))
 ·change ((List.range _).map _).length=n;rw[LC,L4,a.wl]
 ·let⟨o,e,rfl⟩:=LY.mp (show w∈(List.range _).map _ from m);have lo:=Mi.mp e;split
  ·rw[jR,c]
  ·unfold eJ;rw[PV,jR,c,a.ww _ (cm lo)];omega
 ·change (eJ _ _ _ _ _).length=n;unfold eJ;rw[PV,jR,c,a.tl];omega
 ·rw[wq a l hp h0 g];show (a.ok.pv_all hp () h).1
def tw{a b:Nat}(h:a<=b):2^a<=2^b:=NR 'b' h
def dN{x:Int}{m:Nat}(h:x.natAbs<=2^m)(a:m<60000):bF x:=NJ h (PN 'b' a)
def vd{n:Nat}(h:n<=8):(8*2^900)^n<=2^7224:=by
 have e:8*2^900=2^903:=by rw[show (8:Nat)=2^3 by decide,←QM]
 rw[e,←Nat.pow_mul];show tw ()
def vZ{n a b:Nat}{x y:Nat->Int}(e:n<=8)(g:∀i,i<n->(x i).natAbs<=2^a)(j:∀i,i<n->(y i).natAbs<=2^b):(Wk.dt n x y).natAbs<=2^(a+b+3):=by
 have h:=Wk.sm_abs (E:=2^(a+b)) (n:=n) (f:=λi=>x i*y i) λi c=>by change (x i*y i).natAbs<=_;rw[Oz,QM];show OX (g i c) (j i c)
 refine L6 h (L6 (OC _ e) ?_);rw[show (8:Nat)=2^3 by decide,←QM];show tw ()
def zE{rs:Y ak}{n:Nat}(a:RsW rs n){r:Nat}(h:r<rs.length)(j:Nat):(aL rs r j).natAbs<=2^900:=by
 unfold aL;by_cases c:j<(ah rs (r:Int)).1.length
 ·show a.eb _ (fY () ()) _ (cm c)
 ·rw[fD ()];show ME _
structure Sz(rs:List ak)(n:Nat)(sd:Std):Prop where
 b0:0<sd.bot
 b:sd.bot.natAbs<=2^7224
 w:∀w∈sd.ways,∀x∈w,x.natAbs<=2^7224
 t:∀x∈sd.tops,x.natAbs<=2^8127
def Wf.sz{rs:Y ak}{n:Nat}{sd:Std}(g:Wf rs n sd)(o:RsW rs n):Sz rs n sd:=by
 let⟨e,F,C,H⟩:=g.ok.eps
 have u:∀z:Int,(e*z).natAbs=z.natAbs:=λz=>by rcases F with h|h<;>rw[h]<;>omega
 have v:∀k i,k<n->i<n->((aR sd).W k i).natAbs<=2^7224:=λk i m c=>by
  rw[H k i m c,u];refine L6 (Wk.det_abs (E:=2^900) (N:=8) o.n8 λl j hl G=>?_) (vd o.n8);unfold Wk.up;split
  ·unfold Wk.un;split
   ·show Nat.one_le_two_pow
   ·show ME _
  ·show zE o (g.ok.lt l hl) j
 have mem:∀{r:Type}{l:Y r}{x:r}(d:r),x∈l->∃i,i<l.length/\l.getD i d=x:=λ{r l x} d p=>by let⟨i,c⟩:=MK p;show⟨i,aO c,by rw[LJ,c];rfl⟩
 refine⟨g.ok.pos,?_,λw A x p=>?_,λx p=>?_⟩
 ·change (aR sd).b.natAbs<=_;rw[C,u];show L6 (Wk.det_abs (E:=2^900) (N:=8) o.n8 λl j hl G=>zE o (g.ok.lt l hl) j) (vd o.n8)
 ·let⟨k,m,rfl⟩:=mem [] A;let⟨i,c,rfl⟩:=mem 0 p;rw[g.wl]at m;rw[g.ww _ (cm (by rwa[g.wl]))]at c;show v k i m c
 ·let⟨i,c,rfl⟩:=mem 0 p;rw[g.tl]at c;have B:=g.ok.cor i c;change ((aR sd).x i).natAbs<=_;rw[B];have:=vZ (n:=n) (a:=900) (b:=7224) (x:=λk=>BL rs ((aR sd).h k)) (y:=λk=>(aR sd).W k i) o.n8 (λk m=>o.bb _ (fY () (by have:=g.ok.lt k m;omega))) λk m=>v k i m c;show this
def uX{xs:Y Int}{m:Nat}(h:∀x∈xs,x.natAbs<=2^m)(i:Nat):(xs.getD i 0).natAbs<=2^m:=by
 by_cases c:i<xs.length
 ·show h _ (cm c)
 ·rw[fD ()];show ME _
def l7{n a b:Nat}{xs ys:Y Int}(g:n<=8)(c:xs.length=n)(e:ys.length=n)(h:∀x∈xs,x.natAbs<=2^a)(j:∀y∈ys,y.natAbs<=2^b):(aM xs ys).natAbs<=2^(a+b+3):=by rw[gT c e];show vZ g (λi _=>uX h i) λi _=>uX j i
def ua{rs:Y ak}{n:Nat}{sd:Std}(h:Wf rs n sd)(c:RsW rs n){r:ak}(g:r∈rs):(bP r sd).natAbs<=2^9031:=by
 have z:=h.sz c;have j:=l7 c.n8 (c.len r g) h.tl (c.eb r g) z.t
 have l:(r.2*sd.bot).natAbs<=2^(900+7224):=by rw[Oz,QM];show OX (c.bb r g) z.b
 unfold bP;have m:=tw (a:=900+7224) (b:=9030) 'b'
 have e:2^9031=2^9030+2^9030:=by rw[show (9031:Nat)=9030+1 by rfl,Q0,Nat.mul_two]
 have o:(aM r.1 sd.tops).natAbs<=2^9030:=j;have p:=L6 l m;rw[e];generalize 2^9030=z at *;omega
def Wf.nd{rs:Y ak}{n:Nat}{sd:Std}(a:Wf rs n sd):sd.held.Nodup:=by
 rw[List.nodup_iff_pairwise_ne,OK];intro i j g h m e
 have c:sd.held.getD i 0=sd.held.getD j 0:=by rwa[LJ,LJ,aS g,aS h]
 have:=a.ok.inj (k:=i) (l:=j) (by rwa[←a.hl]) (by rwa[←a.hl]) (by change (sd.held.getD i 0).toNat=(sd.held.getD j 0).toNat;rw[c]);omega
def Wf.heldNat{rs:Y ak}{n:Nat}{sd:Std}(a:Wf rs n sd){k:Nat}(c:k<n):((aR sd).h k:Int)=sd.held.getD k 0:=by
 have:=a.h0 _ (cm (d:=0) (show k<sd.held.length by rwa[a.hl]));change (((sd.held.getD k 0).toNat:Nat):Int)=_;omega
def Wf.notheld{rs:Y ak}{n:Nat}{sd:Std}(c:Wf rs n sd){q:Int}(h0:0<=q)(h:¬ Wk.In n (aR sd) q.toNat):q∉sd.held:=λe=>by
 let⟨i,a⟩:=MK e
 have g:i<n:=by rw[←c.hl];show aO a
 refine h ⟨i,g,?_⟩;change (sd.held.getD i 0).toNat=q.toNat;rw[LJ,a];rfl
def Wf.big{rs:Y ak}{n:Nat}{sd:Std}(a:Wf rs n sd)(e:RsW rs n):StB sd:=by
 have z:=a.sz e;have:=e.n8;show⟨by rw[a.hl];omega,by rw[a.wl];omega,λw g x c=>dN (z.w w g x c) 'b',λx c=>dN (z.t x c) 'b',dN z.b 'b'⟩
def RsW.big{rs:Y ak}{n:Nat}(a:RsW rs n):qO rs:=λr h=>by have:=a.n8;show⟨by rw[a.len r h];omega,λx c=>dN (a.eb r h x c) 'b',dN (a.bb r h) 'b'⟩
def Sz.b9{rs:Y ak}{n:Nat}{sd:Std}(z:Sz rs n sd):sd.bot<2^9000:=by
 have a:=z.b;have c:(2:Nat)^7224<2^9000:=PN 'b' 'b';have e:sd.bot.natAbs<2^9000:=NJ a c;have j:=z.b0
 have g:((sd.bot.natAbs:Nat):Int)<((2^9000:Nat):Int):=by exact_mod_cast e
 have h:((2^9000:Nat):Int)=2^9000:=by rw[Int.natCast_pow];rfl
 rw[h]at g;omega
def az(sd:Std)(a:Y Int):Y Int:=sd.ways.map λw=>aM a w
def cq(M:Nat):Y Int:=(List.range M).map λ(i:Nat)=>(i:Int)
def tF{M i:Nat}{k:Int}(h:(cq M)[i]?=Z k):k=(i:Int)/\i<M:=by
 unfold cq at h;rw[LN]at h;by_cases c:i<M
 ·rw[Mp c]at h;cases h;show⟨O,c⟩
 ·rw[Mn (by rw[L4];omega)]at h;cases h
def pj{M i:Nat}(h:i<M):(cq M)[i]?=Z (i:Int):=by unfold cq;rw[LN,Mp h];rfl
def KF{M:Nat}{k:Int}(h:k∈cq M):0<=k/\k<M:=by let⟨i,a⟩:=MK h;let⟨e,l⟩:=tF a;omega
def Aw(M:Nat):(cq M).length=M:=by unfold cq;rw[LC,L4]
def Miss(rs:Y ak)(sd:Std)(q:Int):Prop:=(0<=q/\q<rs.length)/\bP (ah rs q) sd<0/\∀r:Int,0<=r->r<q->0<=bP (ah rs r) sd
def eY(rs:Y ak)(sd:Std):Prop:=∀r:Int,0<=r->r<rs.length->0<=bP (ah rs r) sd
def yH(p:Nat)(q:Int):D:=.tup [.str "step",.int (p:Int),.int q]
def iF(qs:Y (Int×Int)):D:=.tup [.str "none",.tup (qs.map bM)]
def iI(pt:ak)(qs:Y (Int×Int))(d:Int):D:=.tup [.str "best",ba pt,.tup (qs.map bM),.int d]
def vh(pt:ak)(ray:Y Int):D:=.tup [.str "endless",ba pt,.tup (ray.map D.int)]
inductive Nxt(rs:List ak)(goal:List Int)(sd:Std):D->Prop
 |stepA (q:Int) (p:Nat):Miss rs sd q->Lg sd (az sd (ah rs q).1) (Z p)->Nxt rs goal sd (yH p q)
 |non (q:Int) (qs:List (Int×Int)):Miss rs sd q->Lg sd (az sd (ah rs q).1) ż->qs.Perm (bH sd (az sd (ah rs q).1)++[(q,cI sd (az sd (ah rs q).1))])->qs.Pairwise (λa b=>a.1<b.1)->Nxt rs goal sd (iF qs)
 |best (qs:List (Int×Int)):eY rs sd->Lg sd (az sd goal) ż->qs.Perm (bH sd (az sd goal))->qs.Pairwise (λa b=>a.1<b.1)->Nxt rs goal sd (iI (cb sd.tops sd.bot) qs (cI sd (az sd goal)))
 |endl (p:Nat):eY rs sd->Lg sd (az sd goal) (Z p)->Stop rs (cq rs.length) sd (sd.ways.getD p []) rs.length ż->Nxt rs goal sd (vh (cb sd.tops sd.bot) ((sd.ways.getD p []).map (·/bc (sd.ways.getD p []))))
 |stepB (q:Int) (p:Nat):eY rs sd->Lg sd (az sd goal) (Z p)->Stop rs (cq rs.length) sd (sd.ways.getD p []) rs.length (Z q)->Nxt rs goal sd (yH p q)
def iu{sd:Std}{a:Y Int}{k:Nat}(h:k<sd.ways.length):(az sd a).getD k 0=aM a (sd.ways.getD k []):=by unfold az;rw[LJ,LN,bE (d:=[]) h];rfl
def cP(sd:Std)(a:Y Int):(az sd a).length=sd.ways.length:=by unfold az;rw[LC]
def zS{xs ys:Y Int}(h:∀y∈ys,y=0):aM xs ys=0:=by
 unfold aM
 induction xs generalizing ys with
 |nil=>rfl
 |cons x xs c=>
  cases ys with
  |nil=>rfl
  |cons y ys=>
   rw[NY,MJ,c λz a=>h z (LO _ a),h y LQ];omega
abbrev jq(goal:Y Int)(m:Nat):Prop:=goal.length=m/\∀x∈goal,x.natAbs<=2^900
inductive z_next_step(ds:List D)(R:D->Prop):Prop|mk (rs:List ak) (goal:List Int) (m:Nat) (sd:Std) (_:ds=[.tup (rs.map ba),.tup ((cq rs.length).map D.int),.tup (goal.map D.int),b7 sd]) (_:RsW rs m) (_:Wf rs m sd) (_:jq goal m) (_:∀d,Nxt rs goal sd d->R d)
def FO(F:Fun K "next_step" "next_step" mG f I){Rf:Addr}(u:TxtStand K mg Rf)(Lj:Cl P w K mg base n "missed_row" ["rows","numbers","stand"] zt)(pP:Cl P w K mg base n "growths" ["stand","entries"] z_growths)(X:Cl P w K mg base n "least_grown" ["stand","grown"] z_least_grown)(LA:Cl P w K mg base n "stopping_row" ["rows","numbers","stand","way"] vy)(LB:Cl P w K mg base n "best_ending" ["stand","grown"] wY)(Li:Cl P w K mg base n "endless_ending" ["stand","way"] z_endless_ending)(Lw:Cl P w K mg base n "none_ending" ["stand","number","grown"] yP):FnOk P w K mg base aH (n+1) f I ["rows","numbers","goal","stand"] (lSp K z_next_step):=by
 refine F.okD qaw (λds R h=>?_) (λRj A outer s H E ds R g h=>?_)
 ·let⟨rs,goal,m,sd,rfl,_⟩:=h;rfl
 let⟨rs,goal,m,sd,rfl,j,a,⟨T5,a_⟩,q⟩:=h
 refine⟨_,(aU (bz (i:=4) qaw.nd O Zg (aK Lj g O (af (dv 0) (af (dv 1) (af (dv 3) aj aa) aa) aa) aa (ao aa (ao aa ag))))
   (fP (c9 (aX wJ (ae 4) (PD.q gH) (aY _)) (aU (bz (i:=5) qaw.nd O Zg (aK pP g O (af (dv 3) (af (aD (PD.q (bB (ae 0) (ae 4) (λ_ _=>rfl)))) aj aF) aa) aa (ao aF ag)))
   (aU (bz (i:=6) qaw.nd O Zg (aK X g O (af (dv 3) (af (dv 5) aj aa) aa) aa (ao aa ag)))
   (fP (c9 (aX mz (ae 6) (PD.q gH) (aY _)) (aQ (bq (aK Lw g O (af (dv 3) (af (dv 4) (af (dv 5) aj aa) aa) aa) aa (ao aa (ao aa ag))))) dz)
   (aQ (bq (bO (af bQ (af (dv 6) (af (dv 4) aj aa) aa) aT))))))) dz)
   (aU (bz (i:=7) qaw.nd O Zg (aK pP g O (af (dv 3) (af (dv 2) aj aa) aa) aa (ao aa ag)))
   (aU (bz (i:=6) qaw.nd O Zg (aK X g O (af (dv 3) (af (dv 7) aj aa) aa) aa (ao aa ag)))
   (fP (c9 (aX mz (ae 6) (PD.q gH) (aY _)) (aQ (bq (aK LB g O (af (dv 3) (af (dv 7) aj aa) aa) aa (ao aa ag)))) dz)
   (aU (bz (i:=4) qaw.nd O Zg (aK LA g O (af (dv 0) (af (dv 1) (af (dv 3) (af (bB (PD.q (cR u.cl u.n_ways u.ns (ae 3))) (ae 6) (λ_ _=>rfl)) aj aF) aa) aa) aa) aa (ao aa (ao aa (ao aF ag)))))
   (fP (c9 (aX mz (ae 4) (PD.q gH) (aY _)) (aQ (bq (aK Li g O (af (dv 3) (af (bB (PD.q (cR u.cl u.n_ways u.ns (ae 3))) (ae 6) (λ_ _=>rfl)) aj aF) aa) aa (ao aF ag)))) dz)
   (aQ (bq (bO (af bQ (af (dv 6) (af (dv 4) aj aa) aa) aT))))))))))),?_⟩
 have z:=a.sz j;have n8:=j.n8;have v:=a.big j;have M:=j.big;have L:∀k∈cq rs.length,0<=k/\k<(rs.length:Int):=λk y=>KF y;have gb:∀x∈goal,bF x:=λx U=>dN (a_ x U) 'b';have hw1:sd.ways.length=m:=a.wl;have hh1:=a.hl;refine⟨rs,cq rs.length,sd,O,v,M,L,λi k y Xk Te=>?_,λRJ=>?_⟩
 ·let⟨rfl,hi⟩:=tF y
  have Vx:Miss rs sd (i:Int):=⟨⟨(),()⟩,Xk,λr r0 r1=>by
   have:=Te r.toNat r () (by rw[pj ()];congr 1;omega)
   show this⟩
  have am:=M _ (fY (rs:=rs) (k:=(i:Int)) () ());refine⟨λ_=>False,⟨λ_=>?_,λh=>(by cases h)⟩,λ_ h=>h.elim⟩;refine⟨_,kh () (),_,O,sd,(ah rs (i:Int)).1,O,v,am.1,am.2.1,?_⟩;refine⟨sd,az sd (ah rs (i:Int)).1,O,by rw[cP];omega,by rw[cP];omega,λo l=>?_⟩
  cases o with
  |none=>
   refine⟨λ_=>False,⟨λ_=>?_,λh=>(by cases h)⟩,λ_ h=>h.elim⟩
   have S:(i:Int)∉sd.held:=a.notheld () λTa=>by have e:=a.ok.ov0 Ta;rw[←iZ a j () ()]at e;omega
   show⟨sd,(i:Int),az sd (ah rs (i:Int)).1,O,by rw[cP];omega,by rw[cP];omega,z.b0,z.b9,a.nd,S,λqs hp T=>q _ (.non _ qs Vx l hp T)⟩
  |some p=>
   refine⟨λρ=>ρ=[Z (.v (.tup (rs.map ba))),Z (.v (.tup ((cq rs.length).map D.int))),Z (.v (.tup (goal.map D.int))),Z (.v (b7 sd)),Z (.v (.int (i:Int))),Z (.v (.tup ((az sd (ah rs (i:Int)).1).map D.int))),Z (.v (.int (p:Int))),ż],⟨λh=>(by cases h),λ_=>rfl⟩,?_⟩;rintro ρ rfl;show q _ (.stepA _ p Vx l)
 ·have C:eY rs sd:=λr r0 r1=>RJ r (Mb (i:=r.toNat) (by rw[pj ()];congr 1;omega));refine⟨λρ=>ρ=[Z (.v (.tup (rs.map ba))),Z (.v (.tup ((cq rs.length).map D.int))),Z (.v (.tup (goal.map D.int))),Z (.v (b7 sd)),Z (.v .non),ż,ż,ż],⟨λh=>(by cases h),λ_=>rfl⟩,?_⟩;rintro ρ rfl;refine⟨sd,goal,O,v,(),gb,?_⟩;refine⟨sd,az sd goal,O,by rw[cP];omega,by rw[cP];omega,λo l=>?_⟩
  cases o with
  |none=>
   refine⟨λ_=>False,⟨λ_=>?_,λh=>(by cases h)⟩,λ_ h=>h.elim⟩;show⟨sd,az sd goal,O,by rw[cP];omega,by rw[cP];omega,z.b0,z.b9,a.nd,by rw[a.tl];omega,λqs hp T=>q _ (.best qs C l hp T)⟩
  |some p=>
   refine⟨λρ=>ρ=[Z (.v (.tup (rs.map ba))),Z (.v (.tup ((cq rs.length).map D.int))),Z (.v (.tup (goal.map D.int))),Z (.v (b7 sd)),Z (.v .non),ż,Z (.v (.int (p:Int))),Z (.v (.tup ((az sd goal).map D.int)))],⟨λh=>(by cases h),λ_=>rfl⟩,?_⟩;rintro ρ rfl;let⟨be,SG,VA⟩:=id l
   have G:p<sd.ways.length:=by rw[cP]at be;show be
   have B:=cm (d:=[]) G;have Wg:bD (sd.ways.map wD) (p:Int)=Z (wD (sd.ways.getD p [])):=df (i:=p) (bE G) O;have Uc:=a.ww _ B;refine⟨O,_,l5 sd,_,Wg,rs,cq rs.length,sd,sd.ways.getD p [],O,v,M,L,v.wb _ B,λk y=>?_,λo2 J=>?_⟩
   ·let⟨k0,k1⟩:=L k y;have Q:=fY k0 k1;refine⟨dN (ua a j Q) 'b',?_⟩;change (- aM (ah rs k).1 (sd.ways.getD p [])).natAbs<_;rw[Oy];show dN (l7 n8 (j.len _ Q) Uc (j.eb _ Q) (z.w _ B)) 'b'
   ·rw[Aw]at J
    cases o2 with
    |none=>
     refine⟨λ_=>False,⟨λ_=>?_,λh=>(by cases h)⟩,λ_ h=>h.elim⟩
     have g0:0<bc (sd.ways.getD p []):=by
      have N:=jB (sd.ways.getD p []);by_cases c:bc (sd.ways.getD p [])=0
      ·have:=vt c;rw[iu G,zS this]at SG;omega
      ·omega
     have g1:bc (sd.ways.getD p [])<2^9000:=by
      have N:=EN (ns:=sd.ways.getD p []) (m:=2^9000) (λx U=>NJ (z.w _ B x U) (PN 'b' 'b')) (Nat.pow_pos 'b')
      have h6:((2^9000:Nat):Int)=2^9000:=by rw[Int.natCast_pow];rfl
      rw[h6]at N;show N
     show⟨O,_,l5 sd,_,Wg,sd,sd.ways.getD p [],O,by rw[a.tl];omega,z.b0,z.b9,(),g0,g1,q _ (.endl p C l J)⟩
    |some k=>
     refine⟨λρ=>ρ=[Z (.v (.tup (rs.map ba))),Z (.v (.tup ((cq rs.length).map D.int))),Z (.v (.tup (goal.map D.int))),Z (.v (b7 sd)),Z (.v (.int k)),ż,Z (.v (.int (p:Int))),Z (.v (.tup ((az sd goal).map D.int)))],⟨λh=>(by cases h),λ_=>rfl⟩,?_⟩;rintro ρ rfl;show q _ (.stepB k p C l J)
def qV(rs:Y ak)(m:Nat):Prop:=2^rs.length<=8388608\/rs.length^m<=8388608
def StepOk(rs:Y ak)(goal:Y Int)(sd:Std)(p:Nat)(q:Int):Prop:=(Miss rs sd q/\Lg sd (az sd (ah rs q).1) (Z p))\/(eY rs sd/\Lg sd (az sd goal) (Z p)/\Stop rs (cq rs.length) sd (sd.ways.getD p []) rs.length (Z q))
inductive Run(rs:List ak)(goal:List Int)(a:Std):Nat->Std->Prop
 |nil:Run rs goal a 0 a
 |snoc {j:Nat} {b:Std} {p:Nat} {q:Int}:Run rs goal a j b->b.held.Nodup->b.held.length=b.ways.length->StepOk rs goal b p q->Run rs goal a (j+1) (cw (ah rs q) b p q)
structure Hist(rs:List ak)(goal:List Int)(m:Nat)(Sv sd:Std)(st:List (Int×Int))(j:Nat):Prop where
 run:Run rs goal Sv j sd
 ex:∃S P Q,Wk.Chain m rs.length (aL rs) (BL rs) (cL goal) j S P Q/\S 0=aR Sv/\S j=aR sd/\st.length=j/\∀i,i<j->st[i]?=Z (((S i).h (P i):Int),(Q i:Int))
inductive End(rs:List ak)(goal:List Int)(sd:Std):D->Prop
 |non (q:Int) (qs:List (Int×Int)):Miss rs sd q->Lg sd (az sd (ah rs q).1) ż->qs.Perm (bH sd (az sd (ah rs q).1)++[(q,cI sd (az sd (ah rs q).1))])->qs.Pairwise (λa b=>a.1<b.1)->End rs goal sd (iF qs)
 |best (qs:List (Int×Int)):eY rs sd->Lg sd (az sd goal) ż->qs.Perm (bH sd (az sd goal))->qs.Pairwise (λa b=>a.1<b.1)->End rs goal sd (iI (cb sd.tops sd.bot) qs (cI sd (az sd goal)))
 |endl (p:Nat):eY rs sd->Lg sd (az sd goal) (Z p)->Stop rs (cq rs.length) sd (sd.ways.getD p []) rs.length ż->End rs goal sd (vh (cb sd.tops sd.bot) ((sd.ways.getD p []).map (·/bc (sd.ways.getD p []))))
def Hist.start(rs:Y ak)(goal:Y Int)(m:Nat)(sd:Std):Hist rs goal m sd sd [] 0:=⟨.nil,λ_=>aR sd,λ_=>0,λ_=>0,Wk.chain0 _,O,O,O,λi h=>absurd h ()⟩
def Hist.less{rs:Y ak}{goal:Y Int}{m:Nat}{a sd:Std}{st:Y (Int×Int)}{j:Nat}(h:Hist rs goal m a sd st j)(o:Wf rs m a)(g:qV rs m):j<8388608/\st.length=j:=by
 let⟨S,P,Q,C,c,l,e,_⟩:=h.ex;refine⟨?_,e⟩;rcases g with f|f
 ·have:=C.short;omega
 ·have:=C.fewer (by rw[c];show o.ok);omega
def StepOk.all{rs:Y ak}{goal:Y Int}{m:Nat}{sd:Std}{p:Nat}{q:Int}(h:StepOk rs goal sd p q)(j:RsW rs m)(a:Wf rs m sd)(G:jq goal m) :
  p<m/\(0<=q/\q<rs.length)/\Wk.gr m (aL rs) (aR sd) q.toNat p≠0/\(Wk.StA m rs.length (aL rs) (BL rs) (aR sd) p q.toNat\/Wk.StB m rs.length (aL rs) (BL rs) (cL goal) (aR sd) p q.toNat):=by
 have x:=a.wl
 have o:∀r:Nat,((r:Int)).toNat=r:=λr=>by omega
 have F:∀k,k<m->(aR sd).h k<(aR sd).h p->p<m->sd.held.getD k 0<sd.held.getD p 0:=λk l h hp=>by
  have R:=a.heldNat l;have S:=a.heldNat hp;omega
 rcases h with⟨⟨⟨e,g⟩,U,hl⟩,hp,u,y⟩|⟨H,⟨hp,u,y⟩,i,T,C,B,J⟩
 ·rw[cP,x]at hp;rw[iu (),nt a j e g hp]at u;refine⟨hp,⟨e,g⟩,(),.inl ⟨hp,(),?_,λr E=>?_,u,λk l z=>?_⟩⟩
  ·rwa[←iZ a j e g]
  ·have:=hl (r:Int) () ();rw[iZ a j () (),o]at this;show this
  ·rcases Nf 0 (Wk.gr m (aL rs) (aR sd) q.toNat k)with c|c
   ·have:=y k (by rwa[cP,x]) (by rwa[iu (),nt a j e g l]);have:=F k l z hp;omega
   ·show c
 ·rw[cP,x]at hp;rw[iu (),rJ a G.1 hp]at u;let⟨rfl,Q⟩:=tF C
  have v:∀r:Int,0<=r->r<rs.length->cc rs (sd.ways.getD p []) r =-Wk.gr m (aL rs) (aR sd) r.toNat p:=λr N am=>by unfold cc;rw[nt a j N am hp]
  have e:(0:Int)<=(i:Int):=by omega
  have g:(i:Int)<rs.length:=by omega
  rw[v _ e g]at B;refine⟨hp,⟨e,g⟩,(),.inr ⟨hp,(),λr E=>?_,u,λk l z=>?_,(),λr E L=>?_⟩⟩
  ·have:=H (r:Int) () ();rw[iZ a j () (),o]at this;show this
  ·rcases Nf 0 (Wk.dt m (cL goal) ((aR sd).W k))with c|c
   ·have:=y k (by rwa[cP,x]) (by rwa[iu (),rJ a G.1 l]);have:=F k l z hp;omega
   ·show c
  ·have A:=J r (r:Int) () (pj E) (by rw[v _ () (),o];omega);rw[v (r:Int) () (),v _ e g,iZ a j e g,iZ a j (q:=(r:Int)) () (),o,o]at A;rw[o];show⟨A.1,λM=>A.2 ()⟩
def Hist.step{rs:Y ak}{goal:Y Int}{m:Nat}{o sd:Std}{st:Y (Int×Int)}{j p:Nat}{q:Int}(h:Hist rs goal m o sd st j)(s:StepOk rs goal sd p q)(g:RsW rs m)(a:Wf rs m sd)(E:jq goal m) :
  Wf rs m (cw (ah rs q) sd p q)/\Hist rs goal m o (cw (ah rs q) sd p q) (st++[(sd.held.getD p 0,q)]) (j+1):=by
 let⟨hp,⟨y,z⟩,u,F⟩:=s.all g a E;have r:=a.ex g hp y z u;refine⟨r,?_⟩;let⟨S,P,Q,C,G,l,v,B⟩:=h.ex
 have x:Wk.Nx m rs.length (aL rs) (BL rs) (S j) (aR (cw (ah rs q) sd p q)) p q.toNat:=by rw[l];show⟨a.ok,r.ok,hp,(),u,λk J=>by rw[wq a g hp y z];rfl⟩
 have A:=C.more x (by rwa[l]);refine⟨.snoc h.run a.nd (by rw[a.hl,a.wl]) s,_,_,_,A,?_,?_,by rw[LL,v];rfl,λi H=>?_⟩
 ·change (if 0<=j then S 0 else _)=_;rwa[LI ()]
 ·change (if j+1<=j then _ else _)=_;rw[LG ()]
 ·change _=Z ((((if i<=j then S i else _).h (if i<j then P i else p):Nat):Int),(((if i<j then Q i else q.toNat):Nat):Int));by_cases c:i<j
  ·rw[LI (),LI c,LI c,LF ()];show B i c
  ·have e:i=j:=by omega
   subst e;rw[LI (),LG c,LG c,LH (),v,M8,l,a.heldNat hp];change Z (sd.held.getD p 0,q)=_;congr 2;omega
def Hist.exB{rs:Y ak}{m:Nat}{sd:Std}{p:Nat}{q:Int}(c:RsW rs m)(a:Wf rs m sd)(hp:p<m)(h0:0<=q)(j:q<rs.length):ExB (ah rs q) sd p:=by
 have z:=a.sz c;have n8:=c.n8;have e:=fY h0 j;have h:=c.big _ e;show⟨a.big c,h.1,h.2,by rwa[a.wl],by rw[a.hl,a.wl],λw g=>by rw[a.ww w g];omega,by rw[a.tl];omega,λw g=>dN (l7 n8 (c.len _ e) (a.ww w g) (c.eb _ e) (z.w w g)) 'b',dN (ua a c e) 'b',z.b0,z.b9⟩
noncomputable def yY:bJ:=λds R=>∃(rs:Y ak)(goal:Y Int)(m:Nat)(a:Std),ds=[.tup (rs.map ba),.tup ((cq rs.length).map D.int),.tup (goal.map D.int),b7 a]/\RsW rs m/\Wf rs m a/\jq goal m/\qV rs m /\
 ∀sd st j d,Hist rs goal m a sd st j->Wf rs m sd->End rs goal sd d->R (.tup [.tup (st.map bM),b7 sd,d])
def Kh(F:Fun K "walk_on" "walk_on" oB f I){Rf:Addr}(M:TxtStand K mg Rf)(am:Cl P w K mg base n "next_step" ["rows","numbers","goal","stand"] z_next_step)(Lx:Cl P w K mg base n "exchanged" ["rows","stand","place","number"] z_exchanged)(aC:mg "tuple"=ż):FnOk P w K mg base aH (n+1) f I ["rows","numbers","goal","stand"] (lSp K yY):=by
 refine F.okD qaE (λds R h=>?_) (λRj A outer s H E ds R L h=>?_)
 ·let⟨rs,goal,m,x,rfl,_⟩:=h;rfl
 let⟨rs,goal,m,x,rfl,e,N,r,RM,q⟩:=h
 refine⟨_,(aU (vC (i:=4) qaE.nd O Zg (fw aj))
   (aU (bz (i:=5) qaE.nd O Zg (aK am L O (af (dv 0) (af (dv 1) (af (dv 2) (af (dv 3) aj aa) aa) aa) aa) aa (ao aa (ao aa (ao aa ag)))))
   (aU (uo Mj (aX (cV L.units) (PD.q (aD (ae 5))) (PD.q bQ) (aY _)) (aU (su 4 (bO (af (bB (PD.q (cR M.cl M.n_held M.ns (ae 3))) (PD.q (aD (ae 5))) (λ_ _=>rfl)) (af (aD (ae 5)) aj aF) aF)) (dF fH) fH)
   (aU (bz (i:=3) qaE.nd O Zg (aK Lx L O (af (dv 0) (af (dv 3) (af (aD (ae 5)) (af (aD (ae 5)) aj aF) aF) aa) aa) aa (ao aa (ao aF (ao aF ag)))))
   (aQ (bz (i:=5) qaE.nd O Zg (aK am L O (af (dv 0) (af (dv 1) (af (dv 2) (af (dv 3) aj aa) aa) aa) aa) aa (ao aa (ao aa (ao aa ag)))))))))
   (aQ (bq (bO (af (bW bZ O aC LW (aI (ae 4) aG aa) aa ag) (af (dv 3) (af (dv 5) aj aa) aa) aB))))))),?_⟩
 refine⟨rs,goal,m,x,O,e,N,r,λd0 S=>?_⟩;refine⟨λk ρ=>∃sd st j d,ρ=[Z (.v (.tup (rs.map ba))),Z (.v (.tup ((cq rs.length).map D.int))),Z (.v (.tup (goal.map D.int))),Z (.v (b7 sd)),Z (.own (st.map bM)),Z (.v d)]/\Hist rs goal m x sd st j/\Wf rs m sd/\Nxt rs goal sd d/\k=8388608-j,⟨_,x,[],0,d0,O,.start rs goal m x,N,S,O⟩,?_⟩;rintro k ρ ⟨sd,st,j,d,rfl,v,c,hN,rfl⟩;let⟨hj,Xa⟩:=v.less N RM;have U:∀p,p<m->bD (sd.held.map D.int) (p:Int)=Z (.int (sd.held.getD p 0)):=λp hp=>df (i:=p) (bE (by rwa[c.hl])) O
 have more:∀p a,StepOk rs goal sd p a->∀d',Nxt rs goal (cw (ah rs a) sd p a) d'->∃be,be<8388608-j/\∃J T X B,[Z (Sl.v (.tup (rs.map ba))),Z (.v (.tup ((cq rs.length).map D.int))),Z (.v (.tup (goal.map D.int))),Z (.v (b7 (cw (ah rs a) sd p a))),Z (.own ((st++[(sd.held.getD p 0,a)]).map bM)),Z (.v d')]=[Z (.v (.tup (rs.map ba))),Z (.v (.tup ((cq rs.length).map D.int))),Z (.v (.tup (goal.map D.int))),Z (.v (b7 J)),Z (.own (T.map bM)),Z (.v B)]/\Hist rs goal m x J T X/\Wf rs m J/\Nxt rs goal J B/\be=8388608-X:=λp a o d' z=>by let⟨y,a_⟩:=v.step o e c r;show⟨8388608-(j+1),(),_,_,_,_,O,a_,y,z,O⟩
 have hsz:(st.map bM).length<sizeLine:=by rw[LC,Xa];show Me hj 'b'
 cases hN with
 |stepA a p g l=>
  have o:StepOk rs goal sd p a:=.inl ⟨g,l⟩;let⟨hp,⟨C,G⟩,_,_⟩:=o.all e c r;let⟨y,a_⟩:=v.step o e c r;refine⟨_,O,λ_=>?_,λh=>(by cases h)⟩;refine⟨O,_,lV sd,_,O,_,U p hp,_,O,hsz,_,gu bM st (sd.held.getD p 0,a),?_⟩;refine⟨_,O,_,O,rs,sd,p,a,O,⟨C,G⟩,Hist.exB e c hp C G,?_⟩;show⟨rs,goal,m,_,O,e,y,r,λd' z=>more p a o d' z⟩
 |stepB a p g l u=>
  have o:StepOk rs goal sd p a:=.inr ⟨g,l,u⟩;let⟨hp,⟨C,G⟩,_,_⟩:=o.all e c r;let⟨y,a_⟩:=v.step o e c r;refine⟨_,O,λ_=>?_,λh=>(by cases h)⟩;refine⟨O,_,lV sd,_,O,_,U p hp,_,O,hsz,_,gu bM st (sd.held.getD p 0,a),?_⟩;refine⟨_,O,_,O,rs,sd,p,a,O,⟨C,G⟩,Hist.exB e c hp C G,?_⟩;show⟨rs,goal,m,_,O,e,y,r,λd' z=>more p a o d' z⟩
 |non a qs g l u Q=>
  refine⟨_,O,λh=>(by cases h),λ_=>?_⟩;show q sd st j _ v c (.non a qs g l u Q)
 |best qs g l u Q=>
  refine⟨_,O,λh=>(by cases h),λ_=>?_⟩;show q sd st j _ v c (.best qs g l u Q)
 |endl p g l u=>
  refine⟨_,O,λh=>(by cases h),λ_=>?_⟩;show q sd st j _ v c (.endl p g l u)
def D7{n M:Nat}{a:Wk.Mx}{B:Nat->Int}{S T:Wk.Sd}(o:Wk.Ok n a B M S)(hh:∀k,k<n->T.h k=S.h k)(m:∀k i,k<n->i<n->T.W k i=S.W k i)(y:∀i,i<n->T.x i=S.x i)(p:T.b=S.b):Wk.Ok n a B M T:=by
 let⟨e,x,z,v⟩:=o.eps
 have u:Wk.det n (λk=>a (T.h k))=Wk.det n (λk=>a (S.h k)):=Wk.det_congr λi j g _=>by change a (T.h i) j=a (S.h i) j;rw[hh i g]
 have r:∀k j,Wk.co n (λk=>a (T.h k)) k j=Wk.co n (λk=>a (S.h k)) k j:=λk j=>Wk.det_congr λi l g _=>by
  unfold Wk.up;split
  ·rfl
  ·change a (T.h i) l=a (S.h i) l;rw[hh i g]
 refine⟨by rw[p];show o.pos,λk c=>by rw[hh k c];show o.lt k c,⟨e,x,by rwa[p,u],λk j c h=>by rw[m k j c h,r];show v k j c h⟩,λi j g h=>?_,λi g=>?_⟩
 ·rw[p,←o.lf i j g h]
  show Wk.sm_congr λk c=>by rw[m k i c g,hh k c]
 ·rw[y i g,o.cor i g]
  show Wk.sm_congr λk c=>by rw[m k i c g,hh k c]
def uD(rs:Y ak)(m:Nat):Prop:=∀k:Nat,k<m->(ah rs (k:Int)).1=cT m k
def nT{a c:Type}(f:a->c)(g:Nat->a){n k:Nat}{d:c}(h:k<n):((List.range n).map λi=>f (g i)).getD k d=f (g k):=by rw[LJ,LN,Mp h];rfl
def r6{m k j:Nat}(a:j<m):(cT m k).getD j 0=Wk.un k j:=by unfold cT Wk.un;show nT (λx:Int=>x) (λo=>if o=k then (1:Int) else 0) a
def sy(m k:Nat):(cT m k).length=m:=by unfold cT;rw[LC,L4]
def I0{rs:Y ak}{m:Nat}(h:RsW rs m)(l:uD rs m):Wf rs m (gJ rs m):=by
 refine⟨by change ((List.range m).map _).length=m;rw[LC,L4],λk c=>?_,by change ((List.range m).map _).length=m;rw[LC,L4],λw o=>?_,by change ((List.range m).map _).length=m;rw[LC,L4],?_⟩
 ·let⟨i,_,rfl⟩:=LY.mp (show k∈(List.range m).map _ from c);omega
 ·let⟨i,_,rfl⟩:=LY.mp (show w∈(List.range m).map _ from o);show sy m i
 ·refine D7 (Wk.ok_start (n:=m) (M:=rs.length) (a:=aL rs) (B:=BL rs) h.nM λk j c g=>?_) (λk c=>?_) (λk i c e=>?_) (λi e=>?_) O
  ·unfold aL;rw[l k c];show r6 g
  ·change (((List.range m).map λ(i:Nat)=>(i:Int)).getD k 0).toNat=k;rw[nT (λx:Int=>x) (λi=>(i:Int)) c];omega
  ·change (((List.range m).map λk=>cT m k).getD k []).getD i 0=Wk.un k i;rw[nT (λx:Y Int=>x) (λi=>cT m i) c];show r6 e
  ·change ((List.range m).map λ(k:Nat)=>(ah rs (k:Int)).2).getD i 0=BL rs i;show nT (λx:Int=>x) (λi=>(ah rs (i:Int)).2) e
structure FirstOk(rs:List ak)(goal:List Int)(m:Nat):Prop where
 rw_:RsW rs m
 gw:jq goal m
 few:qV rs m
 un:uD rs m
inductive z_walk(ds:List D)(R:D->Prop):Prop|mk (rs:List ak) (goal:List Int) (m:Nat) (_:ds=[.tup (rs.map ba),.tup (goal.map D.int)]) (_:FirstOk rs goal m) (_:∀sd st j d,Hist rs goal m (gJ rs m) sd st j->Wf rs m sd->End rs goal sd d->R (.tup [.tup (st.map bM),b7 sd,d]))
def B4(F:Fun K "walk" "walk" o8 f I)(j:Cl P w K mg base n "walk_on" ["rows","numbers","goal","stand"] yY)(l:Cl P w K mg base n "beginning" ["rows","n"] z_beginning)(r:mg "tuple"=ż)(u:mg "range"=ż)(e:mg "len"=ż):FnOk P w K mg base aH (n+1) f I ["rows","goal"] (lSp K z_walk):=by
 refine F.okD Bt (λds R h=>?_) (λx A outer s H E ds R g h=>?_)
 ·let⟨rs,goal,m,rfl,_⟩:=h;rfl
 let⟨rs,goal,m,rfl,a,q⟩:=h;refine⟨_,(aQ (bq (aK j g O (af (dv 0) (af (xJ O O r O u (af (bu bL O e L8 (aI (ae 0) aG aa) aa ag) aj aB)) (af (dv 1) (af (aK l g O (af (dv 0) (af (bu bL O e L8 (aI (ae 1) aG aa) aa ag) aj aB) aa) aa (ao aB ag)) aj aB) aa) aB) aa) aa (ao aB (ao aa (ao aB ag)))))),?_⟩;have y:=a.rw_.M1;have n8:=a.rw_.n8;have o:=a.gw.1
 have c:(((rs.map ba).length:Nat):Int)=(rs.length:Int):=by rw[LC]
 have p:(((goal.map D.int).length:Nat):Int)=(m:Int):=by rw[LC,o]
 refine⟨⟨(),()⟩,?_⟩
 have v:dX 0 (((rs.map ba).length:Int)).toNat=(cq rs.length).map D.int:=by
  rw[c];unfold dX cq;rw[Mg,MG]
  show NV λi _=>by change D.int (0+(i:Int))=D.int (i:Int);rw[MU]
 refine⟨rs,m,by rw[←p],(),a.rw_.nM,?_⟩;rw[v];show⟨rs,goal,m,gJ rs m,O,a.rw_,I0 a.rw_ a.un,a.gw,a.few,q⟩
inductive z_first(ds:List D)(R:D->Prop):Prop|mk (rs:List ak) (goal:List Int) (m:Nat) (_:ds=[.tup (rs.map ba),.tup (goal.map D.int)]) (_:FirstOk rs goal m) (_:∀sd st j d,Hist rs goal m (gJ rs m) sd st j->Wf rs m sd->End rs goal sd d->R d)
def An(F:Fun K "first" "first" nE f I)(a:Cl P w K mg base n "walk" ["rows","goal"] z_walk):FnOk P w K mg base aH (n+1) f I ["rows","goal"] (lSp K z_first):=by
 refine F.okD GB (λds R h=>?_) (λo A outer s H E ds R l h=>?_)
 ·let⟨rs,goal,m,rfl,_⟩:=h;rfl
 let⟨rs,goal,m,rfl,g,q⟩:=h;refine⟨_,(aQ (bq (aD (PD.q (aK a l O (af (dv 0) (af (dv 1) aj aa) aa) aa (ao aa ag)))))),?_⟩;show⟨rs,goal,m,O,g,λsd st j d h e c=>⟨_,O,q sd st j d h e c⟩⟩
def Miss.uniq{rs:Y ak}{sd:Std}{q a:Int}(h:Miss rs sd q)(h':Miss rs sd a):q=a:=by
 let⟨⟨a0,a1⟩,a2,a3⟩:=h;let⟨⟨b0,b1⟩,g,e⟩:=h';rcases Int.lt_trichotomy q a with c|c|c
 ·have:=e q a0 c;omega
 ·show c
 ·have:=a3 a b0 c;omega
def Lg.uniq{sd:Std}{gs:Y Int}{p g:Nat}(u:sd.held.Nodup)(hl:sd.held.length=gs.length)(h:Lg sd gs (Z p))(h':Lg sd gs (Z g)):p=g:=by
 let⟨a,b,c⟩:=h;let⟨j,l,m⟩:=h'
 have e:sd.held.getD p 0=sd.held.getD g 0:=by
  have:=c g j l;have:=m p a b;omega
 have o:=bE (xs:=sd.held) (d:=0) (i:=p) ();have r:=bE (xs:=sd.held) (d:=0) (i:=g) ();let⟨y,v⟩:=L9.mp o;let⟨z,x⟩:=L9.mp r;show (OA u).mp (v.trans (e.trans x.symm))
def Stop.uniq{rs:Y ak}{ns:Y Int}{sd:Std}{e:Y Int}{m:Nat}{k j:Int}(h:Stop rs ns sd e m (Z k))(h':Stop rs ns sd e m (Z j)):k=j:=by
 let⟨i,x,l,v,u⟩:=h;let⟨o,p,g,r,a⟩:=h';rcases Nat.lt_trichotomy i o with c|c|c
 ·show absurd ((a i k x l v).2 c) (Int.not_lt.mpr (u o j p g r).1)
 ·subst c;rw[l]at g;cases g;rfl
 ·show absurd ((u o j p g r).2 c) (Int.not_lt.mpr (a i k x l v).1)
def Miss.met{rs:Y ak}{sd:Std}{q:Int}(h:Miss rs sd q)(h':eY rs sd):False:=by
 have:=h' q h.1.1 h.1.2;have:=h.2.1;omega
def Lg.off{sd:Std}{gs:Y Int}{p:Nat}(h:Lg sd gs (Z p))(h':Lg sd gs ż):False:=by
 have:=h' p h.1;have:=h.2.1;omega
def StepOk.uniq{rs:Y ak}{goal:Y Int}{sd:Std}{p m:Nat}{q o:Int}(l:sd.held.Nodup)(hl:sd.held.length=sd.ways.length)(h:StepOk rs goal sd p q)(h':StepOk rs goal sd m o):p=m/\q=o:=by
 rcases h with⟨a,b⟩|⟨a,b,c⟩<;>rcases h' with⟨g,j⟩|⟨g,j,r⟩
 ·have e:=a.uniq g;subst e;show⟨b.uniq l (by rwa[cP]) j,O⟩
 ·show (a.met g).elim
 ·show (g.met a).elim
 ·have e:=b.uniq l (by rwa[cP]) j;subst e;show⟨O,c.uniq r⟩
def pK(rs:Y ak)(goal:Y Int)(sd:Std):Prop:=∀(p:Nat)(q:Int),¬ StepOk rs goal sd p q
def IC{rs:Y ak}{goal:Y Int}{sd:Std}(h:eY rs sd)(e:Lg sd (az sd goal) ż):pK rs goal sd:=λp q t=>by
 rcases t with⟨a,b⟩|⟨a,b,c⟩
 ·show a.met h
 ·show b.off e
def End.stuck{rs:Y ak}{goal:Y Int}{sd:Std}{d:D}(u:sd.held.Nodup)(hl:sd.held.length=sd.ways.length)(h:End rs goal sd d):pK rs goal sd:=by
 cases h with
 |best qs g j l m=>show IC g j
 |non y qs g j l m=>
  intro p q t;rcases t with⟨a,b⟩|⟨a,b,c⟩
  ·have e:=a.uniq g;subst e;show b.off j
  ·show g.met a
 |endl x g j l=>
  intro p q t;rcases t with⟨a,b⟩|⟨a,b,c⟩
  ·show a.met g
  ·have e:=b.uniq u (by rwa[cP]) j;subst e;let⟨i,o,r,v,_⟩:=c;have:=l i q o r;omega
theorem Run.uniq{rs:Y ak}{goal:Y Int}{a:Std}:∀{j:Nat}{b c:Std},Run rs goal a j b->Run rs goal a j c->b=c
 |0,_,_,h,h'=>by cases h;cases h';rfl
 |j+1,_,_,h,h'=>by
  cases h with
  |snoc r n l s=>
   cases h' with
   |snoc g p o m=>
    have e:=Run.uniq r g;subst e;let⟨rfl,rfl⟩:=s.uniq n l m;rfl
def Run.before{rs:Y ak}{goal:Y Int}{a b:Std}{j:Nat}(h:Run rs goal a j b):∀i,i<j->∃c p q,Run rs goal a i c/\StepOk rs goal c p q:=by
 induction h with
 |nil=>intro i e;omega
 | @snoc j b p q r n l s g=>
  intro i e;by_cases c:i=j
  ·subst c;show⟨b,p,q,r,s⟩
  ·show g i ()
def Run.one{rs:Y ak}{goal:Y Int}{a b g:Std}{j l:Nat}(h:Run rs goal a j b)(h':Run rs goal a l g)(s:pK rs goal b)(m:pK rs goal g):b=g:=by
 rcases Nat.lt_trichotomy j l with c|c|c
 ·let⟨d,p,q,r,t⟩:=h'.before j c;have e:=h.uniq r;subst e;show absurd t (s p q)
 ·subst c;show h.uniq h'
 ·let⟨d,p,q,r,t⟩:=h.before l c;have e:=h'.uniq r;subst e;show absurd t (m p q)
def fN(rs:Y ak)(qs:Y (Int×Int))(k:Nat):Int:=(qs.map λs=>s.2*(ah rs s.1).1.getD k 0).sum
def dq(rs:Y ak)(qs:Y (Int×Int)):Int:=(qs.map λs=>s.2*(ah rs s.1).2).sum
def pB{f:(Int×Int)->Int}{qs ps:Y (Int×Int)}(h:qs.Perm ps):(qs.map f).sum=(ps.map f).sum:=by
 induction h with
 |nil=>rfl
 |cons x _ e=>rw[L5,L5,MJ,MJ,e]
 |swap x y l=>rw[L5,L5,L5,L5,MJ,MJ,MJ,MJ];omega
 |trans _ _ a c=>show a.trans c
theorem wg(c:Nat->Bool)(g:Nat->Int)(a:∀i,c i=β->g i=0):∀n:Nat,(((List.range n).filter c).map g).sum=Wk.sm n g
 |0=>rfl
 |n+1=>by
  rw[OI,List.filter_append,MM,OH,wg c g a n];change _=Wk.sm n g+g n;congr 1
  cases e:c n with
  |true=>simp[e]
  |false=>simp[e,a n e]
def tM{m:Int}:∀{ns:Y Int},(∀x∈ns,m∣x)->m∣bc ns:=by
 have key:∀(ns:Y Int)(d:Int),m∣d->(∀x∈ns,m∣x)->m∣ns.foldl (λd x=>(Int.gcd x d:Int)) d:=by
  intro ns
  induction ns with
  |nil=>intro d hd _;show hd
  |cons x r e=>
   intro d hd a;show e _ (Int.dvd_coe_gcd (a x LQ) hd) λy c=>a y (LO _ c)
 intro ns h;show key ns 0 (Int.dvd_zero m) h
def zN{c e:Y Int}(h:∀x,x∈c↔x∈e):bc c=bc e:=by
 have a:bc c∣bc e:=tM λx g=>gF c x ((h x).mpr g);have b:bc e∣bc c:=tM λx g=>gF e x ((h x).mp g);show Int.dvd_antisymm (jB _) (jB _) a b
def ym{l:Y Int}(h:0<bc l):bc (l.map (·/bc l))=1:=by
 generalize hd:bc l=d at h
 have j:d*bc (l.map (·/d))∣d:=by
  conv=>rhs;rw[←hd]
  refine tM λx a=>?_
  have c:d∣x:=by rw[←hd];show gF l x a
  have g:=gF (l.map (·/d)) (x/d) (LY.mpr ⟨x,a,O⟩);have:=Int.mul_dvd_mul_left d g;rw[Int.mul_ediv_cancel' c]at this;show this
 have nn:=jB (l.map (·/d));generalize bc (l.map (·/d))=e at *;let⟨k,p⟩:=j
 have m:d*(e*k)=d*1:=by rw[←M6,←p,Int.mul_one]
 have o:e*k=1:=NL () m;show Pn nn ⟨k,o.symm⟩
def pQ(ts:Y Int)(b:Int):bw ts b=bc (ts++[b]):=by unfold bw;rw[xk,Int.gcd_comm]
def kG{ts:Y Int}{b:Int}(h:0<b):0<bw ts b:=by have:=P2 (bc ts) (show b≠0 by omega);unfold bw;omega
def y0{ts:Y Int}{b:Int}(h:0<b):bc (ts.map (·/bw ts b)++[b/bw ts b])=1:=by
 have h0:=kG (ts:=ts) h
 have e:ts.map (·/bw ts b)++[b/bw ts b]=(ts++[b]).map (·/bc (ts++[b])):=by rw[←pQ,MM];rfl
 rw[e];show ym (by rwa[←pQ])
def nu{ts:Y Int}{b:Int}:(∀x∈ts,bw ts b∣x)/\bw ts b∣b:=by rw[pQ];show⟨λx a=>gF _ x (NM _ a),gF _ b (L3 _ (by simp))⟩
theorem mm{g:Int}:∀{xs ys:Y Int},(∀y∈ys,g∣y)->aM xs (ys.map (·/g))*g=aM xs ys
 | [],_,_=>by change 0*g=0;omega
 |_::_,[],_=>by change 0*g=0;omega
 |x::xs,y::ys,h=>by
  have j:=mm (xs:=xs) (ys:=ys) λz e=>h z (LO _ e)
  have a:aM (x::xs) ((y::ys).map (·/g))=x*(y/g)+aM xs (ys.map (·/g)):=by unfold aM;rw[L5,NY,MJ]
  have c:aM (x::xs) (y::ys)=x*y+aM xs ys:=by unfold aM;rw[NY,MJ]
  rw[a,c,P4,j,M6,Od (h y LQ)]
def kO{x g:Int}(h:0<g)(hd:g∣x):(x/g).natAbs<=x.natAbs:=by
 let⟨k,rfl⟩:=hd;rw[Oc k (),Oz]
 have:1<=g.natAbs:=by omega
 show Nat.le_mul_of_pos_left _ this
def sD{x g:Int}(h:0<g)(hd:g∣x)(a:0<x):1<=x/g:=by
 let⟨k,rfl⟩:=hd;rw[Oc k ()];rcases Nf 0 k with c|c
 ·omega
 ·have:=Wk.np (MS h) c;omega
def Hf{rs:Y ak}{m:Nat}{sd:Std}(a:RsW rs m)(g:Wf rs m sd)(o:eY rs sd) :
  (cb sd.tops sd.bot).1.length=m/\1<=(cb sd.tops sd.bot).2/\bc ((cb sd.tops sd.bot).1++[(cb sd.tops sd.bot).2])=1/\jn (cb sd.tops sd.bot)/\∀r∈rs,r.1.length<=1000/\jn r/\r.2*(cb sd.tops sd.bot).2<=aM r.1 (cb sd.tops sd.bot).1:=by
 have z:=g.sz a;have g0:=kG (ts:=sd.tops) z.b0;let⟨c,gb⟩:=nu (ts:=sd.tops) (b:=sd.bot);refine⟨by change (sd.tops.map _).length=m;rw[LC];show g.tl,sD g0 gb z.b0,y0 z.b0,⟨λx A=>?_,?_⟩,λr j=>?_⟩
 ·let⟨y,l,rfl⟩:=LY.mp (show x∈sd.tops.map _ from A);show dN (L6 (kO g0 (c y l)) (z.t y l)) 'b'
 ·show dN (L6 (kO g0 gb) z.b) 'b'
 ·let⟨rl,rb⟩:=a.big r j;refine⟨rl,rb,?_⟩;let⟨k,h⟩:=MK j;have B:=aO h
  have p:ah rs (k:Int)=r:=by unfold ah;rw[LJ,MG,h];rfl
  have e:=o (k:Int) () ();rw[p]at e;unfold bP at e;have u:=mm (xs:=r.1) c
  have v:r.2*(sd.bot/bw sd.tops sd.bot)*bw sd.tops sd.bot=r.2*sd.bot:=by rw[M6,Od gb]
  change r.2*(sd.bot/bw sd.tops sd.bot)<=aM r.1 (sd.tops.map (·/bw sd.tops sd.bot));refine Int.le_of_mul_le_mul_right ?_ g0;rw[u,v];omega
theorem yn{a:Type}(f:a->Int)(g:Int):∀l:Y a,(l.map f).sum*g=(l.map λx=>f x*g).sum
 | []=>by change 0*g=0;omega
 |x::l=>by rw[L5,L5,MJ,MJ,P4,yn f g l]
def Ja{sd:Std}{gs:Y Int}:∀s∈dh sd gs,∃i,i<gs.length/\gs.getD i 0<0/\s=(sd.held.getD i 0,- gs.getD i 0):=λs g=>by let⟨i,e,rfl⟩:=LY.mp (show s∈List.map _ _ from g);let⟨a,c⟩:=MF.mp e;show⟨i,Mi.mp a,Mm c,O⟩
def Hw{sd:Std}{gs:Y Int}(h:0<sd.bot):0<cA sd gs:=kG h
def xM{sd:Std}{gs:Y Int}:(∀s∈dh sd gs,cA sd gs∣s.2)/\cA sd gs∣sd.bot:=by let⟨a,b⟩:=nu (ts:=(dh sd gs).map (·.2)) (b:=sd.bot);show⟨λs c=>a s.2 (LY.mpr ⟨s,c,O⟩),b⟩
def uf{sd:Std}{gs:Y Int}(j:∀i,i<gs.length->gs.getD i 0<=0)(a:Int->Int):((bH sd gs).map λs=>s.2*a s.1).sum*cA sd gs =-Wk.sm gs.length (λi=>gs.getD i 0*a (sd.held.getD i 0)):=by
 rw[yn];unfold bH;rw[Mg]
 have e:(dh sd gs).map ((λs:Int×Int=>s.2*a s.1*cA sd gs) ∘ λp=>(p.1,p.2/cA sd gs))=(dh sd gs).map λp=>p.2*a p.1:=by
  refine NV λp hp=>?_;change p.2/cA sd gs*a p.1*cA sd gs=p.2*a p.1;rw[M6,NP (a p.1),←M6,Od (xM.1 p hp)]
 rw[e];unfold dh;rw[Mg];have g:((λp:Int×Int=>p.2*a p.1) ∘ λi=>(sd.held.getD i 0,- gs.getD i 0))=λi=>- gs.getD i 0*a (sd.held.getD i 0):=rfl;rw[g,wg]
 ·have:=Wk.sm_mul (-1) (λi=>gs.getD i 0*a (sd.held.getD i 0)) gs.length;rw[show-Wk.sm gs.length (λi=>gs.getD i 0*a (sd.held.getD i 0)) = -1*Wk.sm gs.length (λi=>gs.getD i 0*a (sd.held.getD i 0))by omega,←this];refine Wk.sm_congr λi _=>?_;show-gs.getD i 0*a _ = -1*(gs.getD i 0*a _);rw[P5];omega
 ·intro i l;have m:=Ol l
  have h:gs.getD i 0=0:=by
   by_cases c:i<gs.length
   ·have:=j i c;omega
   ·show fD ()
  show-gs.getD i 0*_=0;rw[h];simp
structure ShOk(rs:List ak)(sd:Std)(es:List Int)(m:Nat):Prop where
 g0:0<cA sd (az sd es)
 d1:1<=cI sd (az sd es)
 dg:cI sd (az sd es)*cA sd (az sd es)=sd.bot
 row:∀k,k<m->fN rs (bH sd (az sd es)) k*cA sd (az sd es) =-(sd.bot*es.getD k 0)
 bnd:dq rs (bH sd (az sd es))*cA sd (az sd es) =-aM es sd.tops
 ok:∀s∈bH sd (az sd es),(0<=s.1/\s.1<rs.length)/\1<=s.2/\bF s.2
 one:bc ((bH sd (az sd es)).map (·.2)++[cI sd (az sd es)])=1
 dB:bF (cI sd (az sd es))
def sA{rs:Y ak}{m:Nat}{sd:Std}{a:Y Int}(B:RsW rs m)(g:Wf rs m sd)(o:a.length=m)(A:∀x∈a,x.natAbs<=2^900)(C:Lg sd (az sd a) ż):ShOk rs sd a m:=by
 have z:=g.sz B;have g0:=Hw (gs:=az sd a) z.b0;let⟨gw,gb⟩:=xM (sd:=sd) (gs:=az sd a)
 have v:(az sd a).length=m:=by rw[cP,g.wl]
 have E:∀i,i<m->(az sd a).getD i 0=Wk.dt m (λj=>a.getD j 0) ((aR sd).W i):=λi c=>by rw[iu (by rwa[g.wl])];show rJ g o c
 have hh:∀i,i<m->ah rs (sd.held.getD i 0)=ah rs (((aR sd).h i:Nat):Int):=λi c=>by rw[g.heldNat c]
 have M:=z.b0;refine⟨g0,sD g0 gb z.b0,Od gb,λk J=>?_,?_,λs L=>?_,?_,dN (L6 (kO g0 gb) z.b) 'b'⟩
 ·have l:=uf (sd:=sd) C λr=>(ah rs r).1.getD k 0;rw[v]at l;change ((bH sd (az sd a)).map λs=>s.2*(ah rs s.1).1.getD k 0).sum*_=_;rw[l];congr 1;have h:=g.ok.row (λj=>a.getD j 0) J;have e:(aR sd).b=sd.bot:=rfl;rw[e]at h;rw[←h];refine Wk.sm_congr λi c=>?_;rw[E i c,hh i c];rfl
 ·have l:=uf (sd:=sd) C λr=>(ah rs r).2;rw[v]at l;change ((bH sd (az sd a)).map λs=>s.2*(ah rs s.1).2).sum*_=_;rw[l];congr 1;have h:=g.ok.comb (λj=>a.getD j 0) (aR sd).x
  have G:Wk.sm m (λk=>Wk.dt m (λj=>a.getD j 0) ((aR sd).W k)*Wk.dt m (aL rs ((aR sd).h k)) (aR sd).x)=sd.bot*Wk.sm m (λi=>(az sd a).getD i 0*(ah rs (sd.held.getD i 0)).2):=by
   rw[←Wk.sm_mul];refine Wk.sm_congr λi c=>?_;rw[g.ok.corner c,E i c,hh i c];change _*(BL rs _*sd.bot)=sd.bot*(_*BL rs _);generalize Wk.dt m (λj=>a.getD j 0) ((aR sd).W i)=x;generalize BL rs ((aR sd).h i)=y;rw[NP sd.bot,M6]
  rw[G]at h;have e:(aR sd).b=sd.bot:=rfl;rw[e]at h;have H:=NL () h;rw[←H,gT o g.tl];rfl
 ·let⟨p,hp,rfl⟩:=LY.mp (show s∈List.map _ _ from L);have hd:=gw p hp;let⟨i,c,F,rfl⟩:=Ja p hp;rw[v]at c;have N:=g.heldNat c;have U:=g.ok.lt i c;refine⟨⟨by change 0<=sd.held.getD i 0;omega,by change sd.held.getD i 0<_;omega⟩,sD g0 hd (by change 0 < -(az sd a).getD i 0;omega),?_⟩;refine dN (m:=900+7224+3) (L6 (kO g0 hd) ?_) 'b';change (- (az sd a).getD i 0).natAbs<=_
  have u:i<sd.ways.length:=by rwa[g.wl]
  rw[Oy,iu u];show l7 B.n8 o (g.ww _ (cm u)) A (z.w _ (cm u))
 ·have:=y0 (ts:=(dh sd (az sd a)).map (·.2)) z.b0
  have e:(bH sd (az sd a)).map (·.2)=((dh sd (az sd a)).map (·.2)).map (·/bw ((dh sd (az sd a)).map (·.2)) sd.bot):=by unfold bH cA;rw[Mg,Mg];rfl
  rwa[e]
structure NonOk(rs:List ak)(m:Nat)(qs:List (Int×Int)):Prop where
 pw:qs.Pairwise (λa b=>a.1<b.1)
 ok:∀s∈qs,(0<=s.1/\s.1<rs.length)/\1<=s.2/\bF s.2
 len:qs.length<=900
 row:∀k,k<m->fN rs qs k=0
 bnd:0<dq rs qs
 one:bc (qs.map (·.2))=1
structure PtOk(rs:List ak)(m:Nat)(p:ak):Prop where
 len:p.1.length=m
 one:1<=p.2
 low:bc (p.1++[p.2])=1
 big:jn p
 met:∀r∈rs,r.1.length<=1000/\jn r/\r.2*p.2<=aM r.1 p.1
structure EndlOk(rs:List ak)(goal:List Int)(m:Nat)(p:ak)(ray:List Int):Prop where
 pt:PtOk rs m p
 len:ray.length=m
 big:∀x∈ray,bF x
 one:bc ray=1
 grow:0<aM goal ray
 up:∀r∈rs,0<=aM r.1 ray
structure BestOk(rs:List ak)(goal:List Int)(m:Nat)(p:ak)(qs:List (Int×Int))(d:Int):Prop where
 pt:PtOk rs m p
 pw:qs.Pairwise (λa b=>a.1<b.1)
 ok:∀s∈qs,(0<=s.1/\s.1<rs.length)/\1<=s.2/\bF s.2
 len:qs.length<=900
 d1:1<=d
 dB:bF d
 one:bc (qs.map (·.2)++[d])=1
 row:∀k,k<m->fN rs qs k = -d*goal.getD k 0
 bnd:dq rs qs*p.2 = -d*aM goal p.1
 tB:bF (dq rs qs)
 gB:bF (aM goal p.1)
def C7{x g:Int}(a:0<g)(h:x*g=0):x=0:=by
 rcases NQ.mp h with h|h
 ·show h
 ·omega
def yX{x g:Int}(a:0<g):x.natAbs<=(x*g).natAbs:=by rw[Oz];show Nat.le_mul_of_pos_right _ ()
def zj(rs:Y ak)(qs:Y (Int×Int))(s:Int×Int):(∀k,fN rs (qs++[s]) k=fN rs qs k+s.2*(ah rs s.1).1.getD k 0)/\dq rs (qs++[s])=dq rs qs+s.2*(ah rs s.1).2:=by unfold fN dq;show⟨λk=>by rw[MM,OH];simp,by rw[MM,OH];simp⟩
def Ku{rs:Y ak}{m:Nat}{sd:Std}{q:Int}{qs:Y (Int×Int)}(g:RsW rs m)(l:Wf rs m sd)(v:Miss rs sd q)(u:Lg sd (az sd (ah rs q).1) ż)(hp:qs.Perm (bH sd (az sd (ah rs q).1)++[(q,cI sd (az sd (ah rs q).1))]))(A:qs.Pairwise (λa b=>a.1<b.1)):NonOk rs m qs:=by
 let⟨⟨p,r⟩,B,_⟩:=v;have o:=fY p r;have S:=sA g l (g.len _ o) (g.eb _ o) u;have n8:=g.n8
 have tl:∀k,fN rs qs k=fN rs (bH sd (az sd (ah rs q).1)) k+cI sd (az sd (ah rs q).1)*(ah rs q).1.getD k 0:=λk=>by rw[←(zj rs _ (q,_)).1];show pB hp
 have tb:dq rs qs=dq rs (bH sd (az sd (ah rs q).1))+cI sd (az sd (ah rs q).1)*(ah rs q).2:=by rw[←(zj rs _ (q,_)).2];show pB hp
 have mem:∀s∈qs,s∈bH sd (az sd (ah rs q).1)\/s=(q,cI sd (az sd (ah rs q).1)):=λs e=>(Mf.mp (hp.mem_iff.mp e)).imp id λz=>by simpa using z
 refine⟨A,λs e=>?_,?_,λk y=>?_,?_,?_⟩
 ·rcases mem s e with h|rfl
  ·show S.ok s h
  ·show⟨⟨p,r⟩,S.d1,S.dB⟩
 ·rw[hp.length_eq,LL];have:=jN sd (az sd (ah rs q).1);rw[cP,l.wl]at this;change _+1<=900;omega
 ·refine C7 S.g0 ?_;rw[tl,P4,S.row k y,M6,NP ((ah rs q).1.getD k 0),←M6,S.dg];omega
 ·have C:dq rs qs*cA sd (az sd (ah rs q).1) =-bP (ah rs q) sd:=by rw[tb,P4,S.bnd,M6,NP (ah rs q).2,←M6,S.dg];unfold bP;rw[NP (ah rs q).2];omega
  rcases Nf 0 (dq rs qs)with c|c
  ·show c
  ·have:=Wk.pn c (MS S.g0);omega
 ·rw[←S.one];refine zN λx=>?_;constructor
  ·intro j;let⟨s,e,rfl⟩:=LY.mp j;rcases mem s e with h|rfl
   ·show NM _ (LY.mpr ⟨s,h,O⟩)
   ·show L3 _ (LV.mpr O)
  ·intro j;rcases Mf.mp j with h|h
   ·let⟨s,e,rfl⟩:=LY.mp h;show LY.mpr ⟨s,hp.mem_iff.mpr (NM _ e),O⟩
   ·have:x=cI sd (az sd (ah rs q).1):=by simpa using h
    show LY.mpr ⟨(q,cI sd (az sd (ah rs q).1)),hp.mem_iff.mpr (L3 _ (LV.mpr O)),this.symm⟩
def wL{rs:Y ak}{m:Nat}{sd:Std}(h:RsW rs m)(j:Wf rs m sd)(g:eY rs sd):PtOk rs m (cb sd.tops sd.bot):=by let⟨a,b,c,d,e⟩:=Hf h j g;show⟨a,b,c,d,e⟩
def Js{rs:Y ak}{goal:Y Int}{m:Nat}{sd:Std}{qs:Y (Int×Int)}(o:RsW rs m)(l:Wf rs m sd)(p:jq goal m)(r:eY rs sd)(A:Lg sd (az sd goal) ż)(hp:qs.Perm (bH sd (az sd goal)))(J:qs.Pairwise (λa b=>a.1<b.1)):BestOk rs goal m (cb sd.tops sd.bot) qs (cI sd (az sd goal)):=by
 have S:=sA o l p.1 p.2 A;have n8:=o.n8;have z:=l.sz o;have g0:=kG (ts:=sd.tops) z.b0;let⟨F,gb⟩:=nu (ts:=sd.tops) (b:=sd.bot);have h:aM goal (cb sd.tops sd.bot).1*bw sd.tops sd.bot=aM goal sd.tops:=mm F;have B:(cb sd.tops sd.bot).2*bw sd.tops sd.bot=sd.bot:=Od gb;have tl:∀k,fN rs qs k=fN rs (bH sd (az sd goal)) k:=λk=>pB hp;have tb:dq rs qs=dq rs (bH sd (az sd goal)):=pB hp;have j:bF (aM goal sd.tops):=dN (l7 n8 p.1 l.tl p.2 z.t) 'b';refine⟨wL o l r,J,λs H=>S.ok s (hp.mem_iff.mp H),?_,S.d1,S.dB,?_,λk G=>?_,?_,?_,?_⟩
 ·rw[hp.length_eq];have:=jN sd (az sd goal);rw[cP,l.wl]at this;omega
 ·rw[←S.one];refine zN λx=>?_;have e:∀y,y∈qs.map (·.2)↔y∈(bH sd (az sd goal)).map (·.2):=λy=>(hp.map (·.2)).mem_iff;rw[Mf,Mf,e x]
 ·refine Qh (a:=cA sd (az sd goal)) (by have:=S.g0;omega) ?_;rw[tl,S.row k G,M6,NP (goal.getD k 0),←M6,P5,S.dg,P5]
 ·refine Qh (a:=cA sd (az sd goal)*bw sd.tops sd.bot) (by have:=Int.mul_pos S.g0 g0;omega) ?_;have c:=S.bnd;rw[←tb]at c
  have C:dq rs qs*(cb sd.tops sd.bot).2*(cA sd (az sd goal)*bw sd.tops sd.bot)=(dq rs qs*cA sd (az sd goal))*((cb sd.tops sd.bot).2*bw sd.tops sd.bot):=by
   generalize dq rs qs=x;generalize (cb sd.tops sd.bot).2=y;generalize cA sd (az sd goal)=u;generalize bw sd.tops sd.bot=v
   grind
  have E:-cI sd (az sd goal)*aM goal (cb sd.tops sd.bot).1*(cA sd (az sd goal)*bw sd.tops sd.bot) = -(cI sd (az sd goal)*cA sd (az sd goal))*(aM goal (cb sd.tops sd.bot).1*bw sd.tops sd.bot):=by
   generalize cI sd (az sd goal)=x;generalize aM goal (cb sd.tops sd.bot).1=y;generalize cA sd (az sd goal)=u;generalize bw sd.tops sd.bot=v
   grind
  rw[C,E,c,B,S.dg,h];rw[P5,P5,NP]
 ·have c:=S.bnd;rw[←tb]at c;have g:=yX (x:=dq rs qs) S.g0;rw[c,Oy]at g;show NJ g j
 ·have g:=yX (x:=aM goal (cb sd.tops sd.bot).1) g0;rw[h]at g;show NJ g j
def CB{rs:Y ak}{goal:Y Int}{m:Nat}{sd:Std}{p:Nat}(l:RsW rs m)(g:Wf rs m sd)(M:jq goal m)(E:eY rs sd)(G:Lg sd (az sd goal) (Z p))(F:Stop rs (cq rs.length) sd (sd.ways.getD p []) rs.length ż):EndlOk rs goal m (cb sd.tops sd.bot) ((sd.ways.getD p []).map (·/bc (sd.ways.getD p []))):=by
 have z:=g.sz l;let⟨j,u,_⟩:=G
 have o:p<sd.ways.length:=by rw[cP]at j;show j
 rw[iu o]at u;have v:=cm (d:=[]) o
 have g0:0<bc (sd.ways.getD p []):=by
  have e:=jB (sd.ways.getD p []);by_cases c:bc (sd.ways.getD p [])=0
  ·have:=vt c;rw[zS this]at u;omega
  ·omega
 have a:=gF (sd.ways.getD p [])
 have pos:∀{x:Int},0<x*bc (sd.ways.getD p [])->0<x:=λ{x} h=>by
  rcases Nf 0 x with c|c
  ·show c
  ·have:=Wk.pn c (MS g0);omega
 have nn:∀{x:Int},0<=x*bc (sd.ways.getD p [])->0<=x:=λ{x} h=>by
  rcases Nf x 0 with c|c
  ·have:=Int.mul_neg_of_neg_of_pos c g0;omega
  ·show c
 refine⟨wL l g E,by rw[LC];show g.ww _ v,λx L=>?_,ym g0,?_,λr J=>?_⟩
 ·let⟨y,C,rfl⟩:=LY.mp L;show dN (L6 (kO g0 (a y C)) (z.w _ v y C)) 'b'
 ·refine pos ?_;rwa[mm a]
 ·refine nn ?_;rw[mm a];let⟨k,B⟩:=MK J;have A:=aO B;have e:=F k (k:Int) A (pj A);unfold cc at e
  have H:ah rs (k:Int)=r:=by unfold ah;rw[LJ,MG,B];rfl
  rw[H]at e;omega
def fK(r:ak):ak:=(r.1.map (- ·),-r.2)
inductive z_turned(ds:List D)(R:D->Prop):Prop|mk (r:ak) (_:ds=[ba r]) (_:r.1.length<=1000) (_:R (ba (fK r)))
def A9(F:Fun K "turned" "turned" lz f I)(a:mg "tuple"=ż):FnOk P w K mg base aH (n+1) f I ["row"] (lSp K z_turned):=by
 refine F.okD BR (λds R h=>?_) (λc A outer s H E ds R e h=>?_)
 ·let⟨r,rfl,_⟩:=h;rfl
 let⟨r,rfl,hl,q⟩:=h;refine⟨_,(aQ (bq (bO (af (bW bZ O a LW (aI (PD.q (PF.d (de (k:=1) (N':=["entry"]) (cap:=[ż]) O (.ok (show bC ["row"] (av lz) _ ["entry"] [ż]=ž by lia)) 'a' (bA 'b') (bI (aD (ae 0))) (λ_ _ _ _ _=>(bf (i:=0) (show List.Nodup (["entry"]:Y Str)by lia) O Zg)) (λ_ _ _ _ _=>(lZ (ae 0)))))) aG br) br ag) (af (lZ (PD.q (aD (ae 0)))) aj zg) aB)))),?_⟩;refine⟨_,O,?_⟩;refine iA (f:=D.int) (λx=>-x) (bo hl) (λx _=>rfl) ?_;show⟨_,O,q⟩
abbrev Bd:=Int×Ž Int
def oI:Ž Int->D
 |none=>.non
 |some m=>.int m
def jd(b:Bd):D:=.tup [.int b.1,oI b.2]
def iw(bs:Y Bd)(k:Nat):Bd:=bs.getD k (0,ż)
def j9(bs:Y Bd)(k:Nat):ak:=(cT bs.length k,(iw bs k).1)
def jC(bs:Y Bd)(k:Nat):ak:=fK (cT bs.length k,((iw bs k).2.getD 0))
def fU(bs:Y Bd)(k:Nat):Bool:=(iw bs k).2.isSome
def sI(bs:Y Bd)(rs:Y ak):Y ak:=(List.range bs.length).map (j9 bs)++((List.range bs.length).filter (fU bs)).map (jC bs)++rs
def rV{bs:Y Bd}{k:Nat}{i:Int}(h:k<bs.length)(e:i=(k:Int)):bD (bs.map jd) i=Z (jd (iw bs k)):=df (i:=k) (bE h) e
inductive z_givens(ds:List D)(R:D->Prop):Prop|mk (bs:List Bd) (rs:List ak) (g:D) (_:ds=[.tup [.tup (bs.map jd),.tup (rs.map ba),g]]) (_:bs.length<=8) (_:rs.length<=30) (_:R (.tup ((sI bs rs).map ba)))
def Am(F:Fun K "givens" "givens" jT f I)(J:Cl P w K mg base n "turned" ["row"] z_turned)(u:Cl P w K mg base n "unit" ["n","place"] z_unit)(v:mg "len"=ż)(p:mg "range"=ż)(o:mg "tuple"=ż):FnOk P w K mg base aH (n+1) f I ["plan"] (lSp K z_givens):=by
 refine F.okD qaq (λds R h=>?_) (λL A outer s H E ds R c h=>?_)
 ·let⟨bs,rs,g,rfl,_⟩:=h;rfl
 let⟨bs,rs,g,rfl,U,M,q⟩:=h
 refine⟨_,(aU (bz (i:=1) qaq.nd O (ð O) (aD (ae 0)))
   (aU (bz (i:=2) qaq.nd O (ð O) (bu bL O v L8 (aI (ae 1) aG aa) aa ag))
   (aU (zx (i:=3) (k:=1) (N':=["place","n","bounds"]) (cap:=[ż,Z 2,Z 1]) O qaq.nd O Zg (.ok (show bC ["plan","bounds","n","least_rows","most_rows"] (av jT) _ ["place","n","bounds"] [ż,Z 2,Z 1]=ž by lia)) 'a' (bA 'b') (fv O p (af (dv 2) aj aa)) (λ_ _ _ _ _=>(bf (i:=0) (show List.Nodup (["place","n","bounds"]:Y Str)by lia) O Zg)) (λ_ _ _ _ _=>(bO (af (aK u c O (af (dv 1) (af (dv 0) aj aa) aa) aa (ao aa ag)) (af (aD (PD.q (bB (ae 2) (ae 0) (λ_ _=>rfl)))) aj aF) aB))))
   (aU (qL (i:=4) (k:=1) (N':=["place","n","bounds"]) (cap:=[ż,Z 2,Z 1]) O qaq.nd O Zg (.ok (show bC ["plan","bounds","n","least_rows","most_rows"] (av jT) _ ["place","n","bounds"] [ż,Z 2,Z 1]=ž by lia)) 'a' (bA 'b') (fv O p (af (dv 2) aj aa)) (λ_ _ _ _ _=>(bf (i:=0) (show List.Nodup (["place","n","bounds"]:Y Str)by lia) O Zg)) (λ_ _ _ _ _=>(gR (aX wJ (PD.q (aD (PD.q (bB (ae 2) (ae 0) (λ_ _=>rfl))))) (PD.q gH) (aY _)))) (λ_ _ _ _ _=>(aK J c O (af (bO (af (aK u c O (af (dv 1) (af (dv 0) aj aa) aa) aa (ao aa ag)) (af (aD (PD.q (bB (ae 2) (ae 0) (λ_ _=>rfl)))) aj aF) aB)) aj fH) fH ag)))
   (aQ (bq (aN cg (PD.q (aN cg (PD.q (bW bZ O o LW (aI (ae 3) aG aa) aa ag)) (PD.q (bW bZ O o LW (aI (ae 4) aG aa) aa ag)))) (PD.q (aD (ae 0)))))))))),?_⟩
 have r:((bs.map jd).length:Int)=(bs.length:Int):=by rw[LC]
 have B:(((bs.map jd).length:Nat):Int).toNat=bs.length:=by omega
 refine⟨_,O,⟨(),()⟩,?_⟩;refine j6 (λk=>ba (j9 bs k)) (bo ()) (λk C=>⟨bs.length,k,by rw[r,MU],(),_,rV () (MU _),_,O,O⟩) ?_;refine⟨⟨(),()⟩,by rw[eS];show bo (),mZ (fU bs) (λk=>ba (jC bs k)),λk d hd=>?_,λys l G=>?_⟩
 ·let⟨C,rfl⟩:=gk hd
  have j:k<bs.length:=by omega
  refine⟨_,rV j (MU _),_,O,?_⟩
  cases a:(iw bs k).2 with
  |none=>
   refine⟨λh=>(by cases h),λ_=>?_⟩;change fU bs k=β;unfold fU;rw[a];rfl
  |some m=>
   have e:jC bs k=fK (cT bs.length k,m):=by unfold jC;rw[a];rfl
   refine⟨λ_=>?_,λh=>(by cases h)⟩;refine⟨bs.length,k,by rw[r,MU],(),_,rV j (MU _),_,(MR (λz=>bD [D.int (iw bs k).1,oI z] 1) a).trans O,(cT bs.length k,m),O,by rw[sy];omega,?_⟩;refine⟨MR ba e.symm,?_⟩;unfold fU;rw[a];rfl
 rw[eS]at l;rw[qZ l G,B]
 have x:(List.range bs.length).map (λk=>ba (j9 bs k))=((List.range bs.length).map (j9 bs)).map ba:=by rw[Mg];rfl
 have y:((List.range bs.length).filter (fU bs)).map (λk=>ba (jC bs k))=(((List.range bs.length).filter (fU bs)).map (jC bs)).map ba:=by rw[Mg];rfl
 have N:((List.range bs.length).filter (fU bs)).length<=bs.length:=by
  have:=Pk (fU bs) (List.range bs.length)
  rwa [L4]at this
 rw[x,y];refine⟨?_,_,yc ba _ _,_,O,?_,_,yc ba _ _,q⟩
 ·rw[LC,LC,LC,LC,L4];show small ()
 ·rw[LC,LC,LL,LC,LC,L4];show small ()
inductive z_worth(ds:List D)(R:D->Prop):Prop|mk (b r:D) (gs sp:List Int) (_:ds=[.tup [b,r,.tup (gs.map D.int)],.tup (sp.map D.int)]) (_:gs.length<=1000) (_:(∀x∈gs,bF x)) (_:(∀y∈sp,bF y)) (_:R (.int (aM gs sp)))
def HV(F:Fun K "worth" "worth" ng f I)(g:Cl P w K mg base n "left" ["entries","spot"] z_left):FnOk P w K mg base aH (n+1) f I ["plan","spot"] (lSp K z_worth):=by
 refine F.okD EV (λds R h=>?_) (λj A outer s H E ds R a h=>?_)
 ·let⟨b,r,gs,sp,rfl,_⟩:=h;rfl
 let⟨b,r,gs,sp,rfl,hl,c,e,q⟩:=h;refine⟨_,(aQ (bq (aK g a O (af (aD (ae 0)) (af (dv 1) aj aa) aF) aF (ao aa ag)))),?_⟩;show⟨_,O,gs,sp,O,hl,c,e,q⟩
inductive z_refuse_more(ds:List D)(R:D->Prop):Prop|mk (a b:Int) (_:ds=[.int a,.int b]) (_:a<=b) (_:R .non)
def Eg(F:Fun K "refuse_more" "refuse_more" mI f I) :FnOk P w K mg base aH (n+1) f I ["count","most"] (lSp K z_refuse_more):=by
 refine F.okD GX (λds R h=>?_) (λc A outer s H E ds R g h=>?_)
 ·let⟨a,b,rfl,_⟩:=h;rfl
 let⟨a,b,rfl,h,q⟩:=h;refine⟨_,(aQ (c9 (aX jb (ae 0) (ae 1) (aY _)) (aQ sF) dz)),?_⟩;show⟨λe=>by have:=dP e;omega,λ_=>q⟩
def iY(xs:Y Str):xs.map D.str=(xs.map Ô).map cH:=by rw[Mg];rfl
def kR{x:Str}{xs:Y Str}:gL (.inr x) (xs.map Ô)=decide (x∈xs):=by
 by_cases c:x∈xs
 ·rw[Md c,(zL _ _).mpr (LY.mpr ⟨x,c,O⟩)]
 ·rw[L7 c]
  cases h:gL (.inr x) (xs.map Ô)with
  |false=>rfl
  |true=>
   let⟨y,a,e⟩:=LY.mp ((zL _ _).mp h);cases e;show absurd a c
def jJ{d:D}{ds:Y D}{R:Y D->Prop}{ρ:bh}(h:dQ d=Z ds)(q:R ds):yq (λ_ k=>k d) ρ R:=by
 cases d with
 |lst _=>cases h;show q
 |tup _=>cases h;show q
 |fzl _=>cases h;show q
 |_=>cases h
inductive z_refuse_strange(ds:List D)(R:D->Prop):Prop|mk (d e:D) (xs ys:List Str) (_:ds=[d,e]) (_:dQ d=Z (xs.map D.str)) (_:dQ e=Z (ys.map D.str)) (_:(∀x∈xs,x∈ys)) (_:R .non)
def Hs(F:Fun K "refuse_strange" "refuse_strange" mC f I) :FnOk P w K mg base aH (n+1) f I ["names","known"] (lSp K z_refuse_strange):=by
 refine F.okD qaz (λds R h=>?_) (λm A outer s H E ds R p h=>?_)
 ·let⟨d,e,xs,ys,rfl,_⟩:=h;rfl
 let⟨d,e,xs,ys,rfl,hd,o,l,q⟩:=h;refine⟨_,(aQ (iq Mj O (bI (dv 0)) (bf (i:=2) qaz.nd O Zg) (aQ (c9 (aX wx (ae 2) (ae 1) (by with_unfolding_all rfl)) (aQ sF) dz)))),?_⟩;refine jJ (ρ:=[]) hd ?_;refine⟨λi ρ=>∃a:Ž Sl,ρ=[Z (.v d),Z (.v e),a],⟨_,O⟩,?_,?_⟩
 ·rintro i f ρ g ⟨a,rfl⟩;let⟨x,rfl,c⟩:=dH g;have j:=l x (Mb c);refine⟨.inr x,ys.map Ô,O,by rwa[←iY],?_⟩;rw[kR,Md j];show⟨λh=>(by cases h),λ_=>⟨_,O⟩⟩
 ·rintro ρ ⟨a,rfl⟩;show q
section
variable{a:Type}[DecidableEq a]
def qj{l:Y a}{x:a}{d:D}(h:x∉l):bj (l.map λk=>(k,d)) x=ż:=by
 unfold bj;rw[List.find?_eq_none.mpr λj c=>?_]
 ·rfl
 let⟨k,g,rfl⟩:=LY.mp c;intro e;have:=Mm e;show h (this▸g)
def qS{l:Y a}{i:Nat}{x:a}(m:l.Nodup)(g:l[i]?=Z x):x∉l.take i:=λh=>by
 let⟨j,c⟩:=MK h
 have e:j<i:=by have:=aO c;rw[Ms]at this;omega
 rw[NN e]at c;have o:=aO g;have:=(List.getElem?_inj () m).mp (c.trans g.symm);omega
def yM{l:Y a}{i:Nat}{x:a}{d:D}(e:l.Nodup)(c:l[i]?=Z x):fu ((l.take i).map λk=>(k,d)) x d=(l.take (i+1)).map λk=>(k,d):=by rw[KY (qj (qS e c)),N7,c,MM];rfl
end
def lW(a:Y ai):D:=.tup (a.map cH)
inductive z_refuse_twice(ds:List D)(R:D->Prop):Prop|mk (d:D) (_:ds=[d]) (_:((∃xs:List ai,dQ d=Z (xs.map cH)/\xs.Nodup/\xs.length<=1000)\/∃xs:List (List ai),dQ d=Z (xs.map lW)/\xs.Nodup/\xs.length<=1000)) (_:R .non)
def Gf(F:Fun K "refuse_twice" "refuse_twice" ph f I) :FnOk P w K mg base aH (n+1) f I ["names"] (lSpM K (zM z_refuse_twice)):=by
 refine F.okM qaA (λas R p h=>?_) (λv A outer s H E as R p qs y j h o=>?_)
 ·let⟨_,rfl,d,rfl,_⟩:=h;rfl
 let⟨_,rfl,d,rfl,hd,q⟩:=h;obtain rfl:=iM o;rcases hd with⟨xs,hd,g,hl⟩|⟨xs,hd,g,hl⟩
 ·refine⟨_,(aV (bt (i:=1) qaA.nd O Zg Gh)
   (bg (fj Mj O (ft (bI (dv 0))) (eN (i:=2) qaA.nd O Zg) (c8 (cN (Hg 1 j.units (dv 2)) (bg wK) cQ)
   (bg (J8 1 j.units (dv 2) eP)))))),?_⟩
  intro u;refine jJ (ρ:=[]) hd ?_;refine⟨λi ρ=>∃c:Ž Sm,ρ=[Z (.v d),Z (.ob ż (.map ((xs.take i).map λk=>(k,D.bl ž)))),c],⟨_,O⟩,?_,?_⟩
  ·rintro i e ρ l ⟨c,rfl⟩;let⟨x,rfl,a⟩:=dH l;have r:=aO a;have m:=qj (d:=.bl ž) (qS g a);refine⟨λρ=>ρ=[Z (.v d),Z (.ob ż (.map ((xs.take i).map λk=>(k,D.bl ž)))),Z (.v (cH x))],⟨x,O,λh=>?_,λ_=>rfl⟩,?_⟩
   ·rw[m]at h;cases h
   rintro ρ rfl;show⟨trivial,x,O,by rw[LC,Ms];show bo (),_,yM g a,_,O⟩
  ·rintro ρ ⟨c,rfl⟩;show q
 ·refine⟨_,(aV (bt (i:=1) qaA.nd O Zg IJ)
   (bg (fj Mj O (ft (bI (dv 0))) (eN (i:=2) qaA.nd O Zg) (c8 (cN (Ep 1 j.units (dv 2)) (bg wK) cQ)
   (bg (Aj 1 j.units (dv 2) eP)))))),?_⟩
  intro u;refine jJ (ρ:=[]) hd ?_;refine⟨λi ρ=>∃c:Ž Sm,ρ=[Z (.v d),Z (.ob ż (.mpT ((xs.take i).map λk=>(k,D.bl ž)))),c],⟨_,O⟩,?_,?_⟩
  ·rintro i e ρ l ⟨c,rfl⟩;let⟨x,rfl,a⟩:=dH l;have r:=aO a;have m:=qj (d:=.bl ž) (qS g a);refine⟨λρ=>ρ=[Z (.v d),Z (.ob ż (.mpT ((xs.take i).map λk=>(k,D.bl ž)))),Z (.v (lW x))],⟨x,O,λh=>?_,λ_=>rfl⟩,?_⟩
   ·rw[m]at h;cases h
   rintro ρ rfl;show⟨trivial,x,O,by rw[LC,Ms];show bo (),_,yM g a,_,O⟩
  ·rintro ρ ⟨c,rfl⟩;show q
def Pl(n:Nat)(o:Om):Prop:=∃(ns:Y Int)(r st c:Int),o=.lst [.fzl (ns.map D.int),.int r,.int st,.int c]/\ns.length<=63/\0<=c/\c<=n
def Pl.mono{n m:Nat}{o:Om}(h:Pl n o)(l:n<=m):Pl m o:=by let⟨ns,r,st,c,e,a,g,j⟩:=h;show⟨ns,r,st,c,e,a,g,()⟩
inductive y__law_pool(as:List Sm)(R:Sm->List Om->Prop)(Rx:XD->List Om->Prop):Prop|mk (ns:List Int) (k:Int) (_:as=[.v (.fzl (ns.map D.int)),.v (.int k)]) (_:ns.length<=63) (_:0<=k) (_:∀o,Pl 0 o->R (.ob ż o) [])
def Dc(F:Fun K ZI ZI nQ f I)(l:mg "len"=ż):FnOk P w K mg base aH (n+1) f I [Zl,ZG] (lSpM K y__law_pool):=by
 refine F.okM qaf (λas R j h=>?_) (λo A outer s H E as R j qs p u h g=>?_)
 ·let⟨ns,k,rfl,_⟩:=h;rfl
 let⟨ns,k,rfl,hl,m,q⟩:=h;obtain rfl:=iM g
 refine⟨_,(aV (bt (i:=2) qaf.nd O Zg (aA ax))
   (c8 (cN (dD (PWD.td (sE (aX gD (ae 1) (PD.q (bu bL O l L8 (aI (ae 0) aG aa) aa ag)) (aY _)) (sW (aX CP (PD.q (bB (ae 0) (ae 1) (λ_ _=>rfl))) (PD.q (aN ue (PD.q ax) (PD.q ax))) (aY _)))))) (bg (bt (i:=2) qaf.nd O Zg (aA (bB (ae 0) (ae 1) (λ_ _=>rfl))))) cQ)
   (bg (cy (hX (fw (af (dv 0) (af (dv 2) (af (aN cg (PD.q ax) (ae 1)) (af ax aj aT) cx) aa) aa))))))),?_⟩
 intro x
 have a:(ns.map D.int).length<=63:=by rwa[LC]
 have fin:∀r:Int,Pl 0 (.lst [.fzl (ns.map D.int),.int r,.int (7+k),.int 0]):=λr=>⟨ns,r,7+k,0,O,hl,(),()⟩;refine⟨λρ=>∃r:Int,ρ=[Z (.v (.fzl (ns.map D.int))),Z (.v (.int k)),Z (.v (.int r))],⟨λh=>?_,λh=>?_⟩,?_⟩
 ·have h:=dP h;let⟨v,e⟩:=wF (ns:=ns) (k:=k) m (by rw[LC]at h;show h);show⟨_,e,⟨'b','b','b'⟩,λ_=>⟨_,e,_,O⟩,λ_=>⟨_,O⟩⟩
 ·show⟨λc=>(by cases c),λ_=>⟨_,O⟩⟩
 rintro ρ ⟨r,rfl⟩;show q _ (fin r)
inductive y__law_next(as:List Sm)(R:Sm->List Om->Prop)(Rx:XD->List Om->Prop):Prop|mk (a:Option Addr) (o:Om) (z:Int) (n:Nat) (_:as=[.ob a o,.v (.int z)]) (_:Pl n o) (_:n<2^20) (_:0<z) (_:z<2^9000) (_:∀(x:Int)(o':Om),0<=x->x<z->Pl (n+1) o'->R (.v (.int x)) [o'])
def JV(F:Fun K Zp Zp mD f I)(e:mg "len"=ż):FnOk P w K mg base aH (n+1) f I [Zh,Zn] (lSpM K y__law_next):=by
 refine F.okM qad (λas R l h=>?_) (λy A outer s H E as R l qs B J h j=>?_)
 ·let⟨a,o,z,n,rfl,_⟩:=h;rfl
 let⟨a,o,z,n,rfl,hp,G,h0,x,q⟩:=h;let⟨g,rfl⟩:=km j
 refine⟨_,(c8 (cN (dD (aX jb (PD.q (aD (ae 0))) (PD.q ax) (aY _))) (aV (bt (i:=2) qad.nd O Zg (aA (aN g6 (PD.q (aD (ae 0))) (ae 1))))
   (aV (za 0 (aA (aN kU (PD.q (aD (ae 0))) (ae 1))) (aA ax))
   (bg (cy (aA (dv 2)))))) cQ)
   (aV (GC 0 y3 (aA ax) (aA ax))
   (aV (bt (i:=3) qad.nd O Zg (aA (aD (ae 0))))
   (c8 (cN (dD (aX jb (PD.q (bu bL O e L8 (aI (PD.q (aD (ae 0))) aG aF) aF ag)) (PD.q ax) (aY _))) (bg (bt (i:=3) qad.nd O Zg (aA (bB (PD.q (aD (ae 0))) (PD.q (aN g6 (PD.q (aD (ae 0))) (PD.q (bu bL O e L8 (aI (PD.q (aD (ae 0))) aG aF) aF ag)))) (λ_ _=>rfl))))) cQ)
   (aV (bt (i:=4) qad.nd O Zg (aA (aN cg (PD.q (aN cg (PD.q (aN cg (PD.q (aN cg (PD.q (aD (ae 0))) (ae 3))) (PD.q (aN cW (PD.q (aN cW (PD.q ax) (PD.q (aD (ae 0))))) (PD.q (aD (ae 0))))))) (PD.q (aN cW (PD.q ax) (PD.q (aD (ae 0))))))) (PD.q ax))))
   (aV (za 0 (aA (aN g6 (PD.q (aN cW (ae 4) (PD.q ax))) (PD.q ax))) (aA ax))
   (bg (cy (aA (aN g6 (PD.q (aN g6 (PD.q (aN cW (PD.q (aD (ae 0))) (PD.q ax))) (PD.q ax))) (ae 1))))))))))),?_⟩
 intro L;let⟨ns,r,st,c,rfl,hl,m,C⟩:=hp;refine⟨λρ=>ρ=[Z (.ob (Z g) (.lst [.fzl (ns.map D.int),.int r,.int st,.int c])),Z (.v (.int z)),ż,ż,ż],⟨_,O,λh=>?_,λ_=>rfl⟩,?_⟩
 ·show⟨_,O,h0,_,O,CDivB.of h0 x,_,O,_,O,_,O,q _ _ (OM _ ()) (Oo _ h0) ⟨ns,_,st,c,O,hl,m,()⟩⟩
 rintro ρ rfl;refine⟨trivial,3,c,O,O,(by change 3<4;decide),_,O,_,O,?_⟩;refine⟨λρ=>∃v:Int,ρ=[Z (.ob (Z g) (.lst [.fzl (ns.map D.int),.int r,.int st,.int (c+1)])),Z (.v (.int z)),ż,Z (.v (.int v)),ż],⟨_,O,λh=>?_,λ_=>⟨_,O⟩⟩,?_⟩
 ·have h:=dP h
  have hp:(0:Int)<((ns.map D.int).length:Int):=by omega
  let⟨v,u⟩:=wF (ns:=ns) (k:=(c+1) % ((ns.map D.int).length:Int)) (OM _ ()) (by have:=Oo (c+1) hp;rw[LC]at this ⊢;show this);show⟨_,O,_,O,_,O,hp,_,u,_,O⟩
 rintro ρ ⟨v,rfl⟩
 have b1:-(2^64)<c+1:=by omega
 have p:c+1<2^64:=by omega
 refine⟨_,O,_,O,jr 'b' 'b',_,O,p9 b1 p,_,O,jr 'b' 'b',p9 'b' 'b',(by decide:(0:Int)<2147483647),_,O,_,O,_,O,p9 'b' 'b',(by decide:(0:Int)<1000000007),h0,_,O,?_⟩;show q _ _ (OM _ ()) (Oo _ h0) ⟨ns,r,_,c+1,O,hl,(),()⟩
def fc{z:Int}(h:z<2^64):z<2^9000:=by
 have a:(2:Nat)^64<=2^9000:=NR 'b' ()
 have c:(2:Int)^64<=2^9000:=by exact_mod_cast a
 omega
def yy:fT:=y__law_next
def Bm(F:Fun K ZJ ZJ oY f I)(e:ClM P w K mg base n Zp [Zh,Zn] y__law_next):FnOk P w K mg base aH (n+1) f I [Zh,Zn] (lSpM K yy):=by
 refine F.okM Dv (λas R y h=>?_) (λG A outer s H E as R y qs J u h v=>?_)
 ·let⟨a,o,z,n,rfl,_⟩:=h;rfl
 let⟨a,o,z,n,rfl,hp,p,h0,B,q⟩:=h;let⟨C,rfl⟩:=km v
 refine⟨_,(c8 (cN (dD (aX jb (PD.q (aD (ae 0))) (PD.q ax) (aY _))) (bg (cy (cK e u O (dk 0 (bS (aA (dv 1)) cG aa) aa) aa (ao aa ag)))) cQ)
   (bg (cy (jK g6 (jK ue (jK cg (cK e u O (dk 0 (bS (aA ax) cG aT) aa) aa (ao aT ag)) (aA ax)) (aA ax)) (aA (dv 1)))))),?_⟩
 intro L;let⟨ns,r,st,c,rfl,hl,l,m⟩:=hp;refine⟨λρ=>ρ=[Z (.ob (Z C) (.lst [.fzl (ns.map D.int),.int r,.int st,.int c])),Z (.v (.int z))],⟨_,O,λh=>?_,λ_=>rfl⟩,?_⟩
 ·show⟨⟨_,_,O⟩,_,O,O,_,_,z,n,O,⟨ns,r,st,c,O,hl,l,m⟩,p,h0,B,λx o' g j hp=>⟨_,O,q _ _ g j hp⟩⟩
 rintro ρ rfl;refine⟨⟨_,_,O⟩,_,O,O,_,_,1000000007,n,O,⟨ns,r,st,c,O,hl,l,m⟩,p,'b',fc 'b',λx o' g j hp=>?_⟩;show⟨⟨'b','b',by change (x+3).natAbs<2^64;omega⟩,h0,_,O,q _ _ (OM _ ()) (Oo _ h0) hp⟩
def ji(t k:Nat):Str:=⟨#[97+(t+k) % 13]⟩
def kq(a t k:Nat):Str:=fX "noon" ż (Z (a:Int))++ji t k++fX "noon" (Z (a:Int)) ż
def odds:Y Str:=[""," ","-","0","A","a","a "," a","~","B1","None","a b","-1"]
def Bs(t k:Nat):Str:=odds.getD ((t+k) % 13) ""
def ic(w t a c k:Nat):Str:=if w=0 then kq a t k else if w=1 then eK "a" (k+1) else if w=2 then eK "a" (c-k) else Bs t k
def CF:∀a<4,∀x<13,∀y<13,kq a 0 x=kq a 0 y->x=y:=by lia
def J1:∀x<13,∀y<13,odds.getD x ""=odds.getD y ""->x=y:=by lia
def IP{w t a c k j:Nat}(u:w<4)(m:a<4)(o:c<=13)(r:k<c)(p:j<c)(h:ic w t a c k=ic w t a c j):k=j:=by
 unfold ic at h;by_cases h0:w=0
 ·rw[LI h0,LI h0]at h;have:=CF a m ((t+k) % 13) () ((t+j) % 13) () (by unfold kq ji at h ⊢;simpa using h);omega
 rw[LG h0,LG h0]at h;by_cases g:w=1
 ·rw[LI g,LI g]at h;have:=MR Str.length h;rw[jg,jg]at this;have e:("a":Str).length=1:=rfl;rw[e]at this;omega
 rw[LG g,LG g]at h;by_cases l:w=2
 ·rw[LI l,LI l]at h;have:=MR Str.length h;rw[jg,jg]at this;have e:("a":Str).length=1:=rfl;rw[e]at this;omega
 rw[LG l,LG l]at h;have:=J1 ((t+k) % 13) () ((t+j) % 13) () h;omega
def eR(w t a c i:Nat):Y Str:=(List.range i).map (ic w t a c)
def JC{w t a c i:Nat}(l:w<4)(h:a<4)(j:c<=13)(p:i<=c):(eR w t a c i).Nodup:=by unfold eR List.Nodup;rw[N8];refine OU ?_ (Qw (n:=i));intro x y m o g e;rw[Mi]at m o;show g (IP l h j () () e)
def Kw(w t a c i:Nat):eR w t a c (i+1)=eR w t a c i++[ic w t a c i]:=by unfold eR;rw[OI,MM];rfl
def mT{a b:Int}(h:(a==b)=ž):a=b:=eq_of_beq h
def mU{a b:Int}(h:(a==b)=β):a≠b:=λe=>by subst e;rw[MH]at h;cases h
def GD(a b:Str):(a++b).length=a.length+b.length:=by change (a.cps++b.cps).size=a.cps.size+b.cps.size;rw[ľ]
def KZ:∀x:Nat,x<13->bD ("abcdefghijklm":Str).cps.toList (x:Int)=Z (97+x):=by lia
def Jm:∀x:Nat,x<13->bD (odds.map D.str) (x:Int)=Z (.str (odds.getD x "")):=by
 intro x a
 have:x=0\/x=1\/x=2\/x=3\/x=4\/x=5\/x=6\/x=7\/x=8\/x=9\/x=10\/x=11\/x=12:=by omega
 rcases this with rfl|rfl|rfl|rfl|rfl|rfl|rfl|rfl|rfl|rfl|rfl|rfl|rfl<;>rfl
def G4{w t a c k:Nat}(l:w<4)(g:a<4)(h:c<=13)(j:k<c):(ic w t a c k).length<=20:=by
 unfold ic;split
 ·have:∀a<4,∀x<13,(kq a 0 x).length<=20:=by lia
  have:=this a g ((t+k) % 13) ();unfold kq ji at this ⊢;simpa using this
 ·split
  ·rw[jg];have e:("a":Str).length=1:=rfl;rw[e];omega
  ·split
   ·rw[jg];have e:("a":Str).length=1:=rfl;rw[e];omega
   ·have:∀x<13,(odds.getD x "").length<=20:=by lia
    show this ((t+k) % 13) ()
inductive y__law_names(as:List Sm)(R:Sm->List Om->Prop)(Rx:XD->List Om->Prop):Prop|mk (a:Option Addr) (o:Om) (c:Int) (n:Nat) (_:as=[.ob a o,.v (.int c)]) (_:Pl n o) (_:n+3<2^20) (_:0<=c) (_:c<=13) (_:∀(xs:List Str)(o':Om),xs.Nodup->(xs.length:Int)=c->(∀x∈xs,x.length<=20)->Pl (n+3) o'->R (.own (xs.map D.str)) [o'])
def C1(F:Fun K ZC ZC mQ f I)(u:ClM P w K mg base n Zp [Zh,Zn] y__law_next)(T:mg "range"=ż):FnOk P w K mg base aH (n+1) f I [Zh,Zt] (lSpM K y__law_names):=by
 refine F.okM qac (λas R N h=>?_) (λRj A outer s H E as R N qs Rr m h L=>?_)
 ·let⟨a,o,c,n,rfl,_⟩:=h;rfl
 let⟨a,o,c,n,rfl,hp,hn,h0,hc,q⟩:=h;let⟨r,rfl⟩:=km L
 refine⟨_,(aV (bt (i:=2) qac.nd O Zg (cK u m O (dk 0 (bS (aA ax) cG aT) aa) aa (ao aT ag)))
   (aV (bt (i:=3) qac.nd O Zg (cK u m O (dk 0 (bS (aA ax) cG aT) aa) aa (ao aT ag)))
   (aV (bt (i:=4) qac.nd O Zg (cK u m O (dk 0 (bS (aA ax) cG aT) aa) aa (ao aT ag)))
   (aV (bt (i:=5) qac.nd O Zg (hX (fw aj)))
   (aV (fj Mj O (ft (fv O T (af (dv 1) aj aa))) (eN (i:=6) qac.nd O Zg) (c8 (cN (dD (aX (cV m.units) (ae 2) (PD.q ax) (aY _))) (aV (bt (i:=7) qac.nd O Zg (aA (bB (PD.q bQ) (PD.q (aN g6 (PD.q (aN cg (ae 3) (ae 6))) (PD.q ax))) (λ_ _=>rfl))))
   (bg (gh 5 (aA (aN cg (PD.q (aN cg (PD.q (oj (PD.q bQ) oO (oQ (ae 4)))) (ae 7))) (PD.q (oj (PD.q bQ) (oQ (ae 4)) oO)))) (dF cx) cx))) cQ)
   (c8 (cN (dD (aX (cV m.units) (ae 2) (PD.q ax) (aY _))) (bg (gh 5 (aA (aN cW (PD.q bQ) (PD.q (aN cg (ae 6) (PD.q ax))))) (dF cx) cx)) cQ)
   (c8 (cN (dD (aX (cV m.units) (ae 2) (PD.q ax) (aY _))) (bg (gh 5 (aA (aN cW (PD.q bQ) (PD.q (aN gv (ae 1) (ae 6))))) (dF cx) cx)) cQ)
   (bg (cN (dD (aX (cV m.units) (ae 2) (PD.q ax) (aY _))) (aV (bt (i:=8) qac.nd O Zg (aA (bO (af bQ (af bQ (af bQ (af bQ (af bQ (af bQ (af bQ aj aT) aT) aT) aT) aT) aT) aT))))
   (aV (bt (i:=8) qac.nd O Zg (aA (aN cg (ae 8) (PD.q (bO (af bQ (af bQ (af bQ (af bQ (af bQ (af bQ aj aT) aT) aT) aT) aT) aT))))))
   (bg (gh 5 (aA (bB (ae 8) (PD.q (aN g6 (PD.q (aN cg (ae 3) (ae 6))) (PD.q ax))) (λ_ _=>rfl))) (dF aF) aF)))) cQ))))))
   (bg (cy (xo 5)))))))),?_⟩
 intro ke;refine⟨⟨_,_,O⟩,_,O,O,_,_,4,n,O,hp,(),'b',fc 'b',λw o1 y am M=>?_⟩;refine⟨⟨_,_,O⟩,_,O,O,_,_,13,n+1,O,M,(),'b',fc 'b',λt o2 v be a_=>?_⟩;refine⟨⟨_,_,O⟩,_,O,O,_,_,4,n+2,O,a_,(),'b',fc 'b',λb p S W4 Q=>?_⟩;let⟨w,rfl⟩:=NA y;let⟨t,rfl⟩:=NA v;let⟨b,rfl⟩:=NA S;let⟨c,rfl⟩:=NA h0
 have J:w<4:=by omega
 have G:b<4:=by omega
 have C:c<=13:=by omega
 have B:∀i:Nat,((t:Int)+(0+(i:Int))) % 13=(((t+i) % 13:Nat):Int):=λi=>by omega
 refine⟨⟨(),()⟩,λi ρ=>∃(z g l:Ž Sm),ρ=[Z (.ob (Z r) p),Z (.v (.int (c:Int))),Z (.v (.int (w:Int))),Z (.v (.int (t:Int))),Z (.v (.int (b:Int))),Z (.own ((eR w t b c i).map D.str)),z,g,l],⟨_,_,_,O⟩,?_,?_⟩
 ·rintro i d ρ hd ⟨z,g,l,rfl⟩;let⟨U,rfl⟩:=gk hd
  have U:i<c:=by omega
  have sm:∀j,j<=i+1->((eR w t b c j).map D.str).length<sizeLine:=λj hj=>by unfold eR;rw[LC,LC,L4];show bo ()
  have go:∀x:Str,x=ic w t b c i->(eR w t b c i).map D.str++[D.str x]=(eR w t b c (i+1)).map D.str:=λx e=>by rw[gu,Kw,e]
  refine⟨λρ=>∃(g l:Ž Sm),ρ=[Z (.ob (Z r) p),Z (.v (.int (c:Int))),Z (.v (.int (w:Int))),Z (.v (.int (t:Int))),Z (.v (.int (b:Int))),Z (.own ((eR w t b c (if w<1 then i+1 else i)).map D.str)),Z (.v (.int (0+(i:Int)))),g,l],⟨λh=>?_,λh=>?_⟩,?_⟩
  ·have h:w=0:=by have:=mT h;omega
   subst h;have l1:=uH "noon" ż (Z (b:Int));have l2:=uH "noon" (Z (b:Int)) ż;have l0:("noon":Str).length=4:=rfl;have l3:(ji t i).length=1:=rfl;have l4:(fX "noon" ż (Z (b:Int))++ji t i).length=(fX "noon" ż (Z (b:Int))).length+1:=GD _ _;show⟨(by decide:(0:Int)<13),'b',_,by rw[B];show KZ _ (),'b',_,O,small (by change _+(ji t i).length<=1000;omega),'b',_,O,small (by change (fX "noon" ż (Z (b:Int))++ji t i).length+_<=1000;omega),sm i (),_,go _ O,_,_,O⟩
  ·have h:=mU h;rw[LG ()];show⟨_,_,O⟩
  rintro ρ ⟨g,l,rfl⟩;refine⟨λρ=>∃(g l:Ž Sm),ρ=[Z (.ob (Z r) p),Z (.v (.int (c:Int))),Z (.v (.int (w:Int))),Z (.v (.int (t:Int))),Z (.v (.int (b:Int))),Z (.own ((eR w t b c (if w<2 then i+1 else i)).map D.str)),Z (.v (.int (0+(i:Int)))),g,l],⟨λh=>?_,λh=>?_⟩,?_⟩
  ·have h:w=1:=by have:=mT h;omega
   subst h
   have e:(0+(i:Int)+1).toNat=i+1:=by omega
   refine⟨⟨by change -(2^62)<=0+(i:Int)+1;omega,by change 0+(i:Int)+1<2^62;omega,small (by change 1*(0+(i:Int)+1).toNat<=1000;omega),'b'⟩,eK "a" (i+1),by rw[e],sm i (),_,go _ O,_,_,O⟩
  ·have h:=mU h
   have:(if w<2 then i+1 else i)=(if w<1 then i+1 else i):=by by_cases c:w<1<;>simp[c]<;>omega
   rw[this];show⟨_,_,O⟩
  rintro ρ ⟨g,l,rfl⟩;refine⟨λρ=>∃(g l:Ž Sm),ρ=[Z (.ob (Z r) p),Z (.v (.int (c:Int))),Z (.v (.int (w:Int))),Z (.v (.int (t:Int))),Z (.v (.int (b:Int))),Z (.own ((eR w t b c (if w<3 then i+1 else i)).map D.str)),Z (.v (.int (0+(i:Int)))),g,l],⟨λh=>?_,λh=>?_⟩,?_⟩
  ·have h:w=2:=by have:=mT h;omega
   subst h
   have e:((c:Int)-(0+(i:Int))).toNat=c-i:=by omega
   refine⟨⟨by change -(2^62)<=(c:Int)-(0+(i:Int));omega,by change (c:Int)-(0+(i:Int))<2^62;omega,small (by change 1*((c:Int)-(0+(i:Int))).toNat<=1000;omega),'b'⟩,eK "a" (c-i),by rw[e],sm i (),_,go _ O,_,_,O⟩
  ·have h:=mU h
   have:(if w<3 then i+1 else i)=(if w<2 then i+1 else i):=by by_cases c:w<2<;>simp[c]<;>omega
   rw[this];show⟨_,_,O⟩
  rintro ρ ⟨g,l,rfl⟩;refine⟨λh=>?_,λh=>?_⟩
  ·have h:w=3:=by have:=mT h;omega
   subst h;show⟨small 'b',odds.map D.str,O,(by decide:(0:Int)<13),_,by rw[B];show Jm _ (),sm i (),_,go _ O,_,_,_,O⟩
  ·have h:=mU h;rw[LI ()];show⟨_,_,_,O⟩
 ·rintro ρ ⟨z,g,l,rfl⟩;rw[eS,MG];refine⟨_,O,q _ _ (JC J G C (LM _)) ?_ ?_ Q⟩
  ·unfold eR;rw[LC,L4]
  ·intro x hx;let⟨k,X,rfl⟩:=LY.mp hx;show G4 J G C (Mi.mp X)
def FH{a b:Nat}(h:a<=b):(2:Nat)^a<=2^b:=NR 'b' h
inductive y__law_sized(as:List Sm)(R:Sm->List Om->Prop)(Rx:XD->List Om->Prop):Prop|mk (a:Option Addr) (o:Om) (w:Int) (n:Nat) (_:as=[.ob a o,.v (.int w)]) (_:Pl n o) (_:n<2^20) (_:∀(x:Int)(o':Om),x.natAbs<2^700->Pl (n+1) o'->R (.v (.int x)) [o'])
def J2:((10:Int)^(50:Int).toNat).natAbs<2^200:=by decide
def Fw:((10:Int)^(50:Int).toNat)^(4:Int).toNat<2^699:=by decide
def Hx:1<=((10:Int)^(50:Int).toNat)^(4:Int).toNat:=by decide
def GW{z:Int}(h:z<2^800):z<2^9000:=by
 have a:(2:Nat)^800<=2^9000:=NR 'b' ()
 have c:(2:Int)^800<=2^9000:=by exact_mod_cast a
 show Int.lt_of_lt_of_le h c
def qK{x:Int}(h:x.natAbs<2^64):x.natAbs<2^700:=Me h (FH 'b')
def Ee:0<2*(((10:Int)^(50:Int).toNat)^(4:Int).toNat-1)+1:=by decide
def Le:2*(((10:Int)^(50:Int).toNat)^(4:Int).toNat-1)+1<2^800:=by decide
def C9{x:Int}(h0:0<=x)(e:x<2*(((10:Int)^(50:Int).toNat)^(4:Int).toNat-1)+1):(x-(((10:Int)^(50:Int).toNat)^(4:Int).toNat-1)).natAbs<2^700:=by
 have a:=Fw;have c:=Hx;generalize ((10:Int)^(50:Int).toNat)^(4:Int).toNat=t at e a c ⊢;omega
def JM(F:Fun K ZD ZD nO f I)(m:ClM P w K mg base n Zp [Zh,Zn] y__law_next)(y:ClM P w K mg base n ZJ [Zh,Zn] yy):FnOk P w K mg base aH (n+1) f I [Zh,Zu] (lSpM K y__law_sized):=by
 refine F.okM qah (λas R v h=>?_) (λz A outer s H E as R v qs B e h u=>?_)
 ·let⟨a,o,w,n,rfl,_⟩:=h;rfl
 let⟨a,o,w,n,rfl,hp,l,q⟩:=h;let⟨r,rfl⟩:=km u
 refine⟨_,(c8 (cN (dD (aX (cV e.units) (ae 1) (PD.q ax) (aY _))) (bg (cy (jK gv (cK m e O (dk 0 (bS (aA ax) cG aT) aa) aa (ao aT ag)) (aA ax)))) cQ)
   (c8 (cN (dD (aX (cV e.units) (ae 1) (PD.q ax) (aY _))) (bg (cy (jK gv (cK m e O (dk 0 (bS (aA ax) cG aT) aa) aa (ao aT ag)) (aA ax)))) cQ)
   (c8 (cN (dD (aX (cV e.units) (ae 1) (PD.q ax) (aY _))) (bg (cy (cK m e O (dk 0 (bS (aA ax) cG aT) aa) aa (ao aT ag)))) cQ)
   (aV (bt (i:=2) qah.nd O Zg (aA (aN gv (PD.q (aN uV (PD.q (aN uV (PD.q ax) (PD.q ax))) (PD.q ax))) (PD.q ax))))
   (bg (cy (jK gv (cK y e O (dk 0 (bS (aA (aN cg (PD.q (aN cW (PD.q ax) (ae 2))) (PD.q ax))) cG cx) aa) aa (ao cx ag)) (aA (dv 2))))))))),?_⟩
 intro C;refine⟨λρ=>ρ=[Z (.ob (Z r) o),Z (.v (.int w)),ż],⟨λh=>?_,λ_=>rfl⟩,?_⟩
 ·show⟨⟨_,_,O⟩,_,O,O,_,_,3,n,O,hp,l,'b',fc 'b',λx p g j c=>⟨_,O,q _ _ (qK ()) c⟩⟩
 rintro ρ rfl;refine⟨λρ=>ρ=[Z (.ob (Z r) o),Z (.v (.int w)),ż],⟨λh=>?_,λ_=>rfl⟩,?_⟩
 ·show⟨⟨_,_,O⟩,_,O,O,_,_,19,n,O,hp,l,'b',fc 'b',λx p g j c=>⟨_,O,q _ _ (qK ()) c⟩⟩
 rintro ρ rfl;refine⟨λρ=>ρ=[Z (.ob (Z r) o),Z (.v (.int w)),ż],⟨λh=>?_,λ_=>rfl⟩,?_⟩
 ·show⟨⟨_,_,O⟩,_,O,O,_,_,6,n,O,hp,l,'b',fc 'b',λx p g j c=>⟨_,O,q _ _ (qK ()) c⟩⟩
 rintro ρ rfl;refine⟨⟨'b',200,'b','b','b'⟩,⟨'b',200,'b',J2,'b'⟩,?_⟩;show⟨⟨_,_,O⟩,jr 'b' 'b',_,O,O,_,_,_,n,O,hp,l,Ee,GW Le,λx p g j c=>⟨_,O,q _ _ (C9 g j) c⟩⟩
abbrev Pr:=Str×Str
abbrev aw:=Str×Str×Int
def fW(p:Pr):D:=.tup [.str p.1,.str p.2]
def aZ(o:aw):D:=.tup [.str o.1,.str o.2.1,.int o.2.2]
def j8(o:aw):Pr:=(o.1,o.2.1)
def cY(gs ss:Y Str):Y Pr:=gs.flatMap λg=>ss.map λs=>(g,s)
def Ci{gs ss:Y Str}(a:gs.Nodup)(l:ss.Nodup):(cY gs ss).Nodup:=by
 unfold cY
 induction gs with
 |nil=>show PY
 |cons g gs o=>
  rw[MB]at a;rw[Qk,MI];refine⟨?_,o a.2,?_⟩
  ·unfold List.Nodup;rw[N8];show Ql (λh e=>h (Prod.mk.inj e).2) l
  ·intro x m y c e;let⟨s,_,rfl⟩:=LY.mp m;let⟨g',j,c⟩:=QF.mp c;let⟨p,_,rfl⟩:=LY.mp c;cases e;show a.1 j
def v9{gs ss:Y Str}{p:Pr}(h:p∈cY gs ss):p.1∈gs/\p.2∈ss:=by let⟨g,a,h⟩:=QF.mp h;let⟨s,c,rfl⟩:=LY.mp h;show⟨a,c⟩
def vA(gs ss:Y Str):(cY gs ss).length=gs.length*ss.length:=by
 unfold cY
 induction gs with
 |nil=>simp
 |cons g gs a=>rw[Qk,LL,a,LC,LX,QY];omega
def Gm{gs ss:Y Str}{i:Nat}{g:Str}(h:gs[i]?=Z g):cY (gs.take (i+1)) ss=cY (gs.take i) ss++ss.map λs=>(g,s):=by unfold cY;rw[N7,h,List.flatMap_append];simp
structure OffOk(gs ss:List Str)(os:List aw):Prop where
 nd:(os.map j8).Nodup
 g:∀o∈os,o.1∈gs
 s:∀o∈os,o.2.1∈ss
 b:∀o∈os,o.2.2.natAbs<2^700
def GS{a c:Type}(f:a->c)(l:Y a)(j:Nat):(l.map f).eraseIdx j=(l.eraseIdx j).map f:=by rw[Ng,Ng,MM,List.map_take,List.map_drop]
def BJ{a:Type}{l:Y a}{j:Nat}(h:j<l.length):(l[j]::l.eraseIdx j).Perm l:=by rw[Ng];refine List.Perm.trans List.perm_middle.symm ?_;rw[←OG h,List.take_append_drop]
def pH{a c:Type}(f:a->c){l:Y a}{j:Nat}{x:a}(h:l[j]?=Z x):(l.take (j+1)).map f=(l.take j).map f++[f x]:=by rw[N7,h,MM];rfl
noncomputable def zJ:fT:=λas R _=>∃(a:Ž Addr)(o:Om)(d1 c:D)(gs ss:Y Str)(m:Int)(n:Nat),as=[.ob a o,.v d1,.v c,.v (.int m)]/\Pl n o/\n+20<2^20/\dQ d1=Z (gs.map D.str)/\dQ c=Z (ss.map D.str)/\gs.Nodup/\ss.Nodup/\gs.length<=20/\ss.length<=20/\0<=m/\m<=8 /\
 ∀(os:Y aw)(o':Om),OffOk gs ss os->(os.length:Int)<=m->Pl (n+20) o'->R (.own (os.map aZ)) [o']
def BU(F:Fun K Zx Zx nH f I)(Q:ClM P w K mg base n Zp [Zh,Zn] y__law_next)(Sw:ClM P w K mg base n ZD [Zh,Zu] y__law_sized)(kD:mg "min"=ż)(bx:mg "range"=ż)(aJ:mg "len"=ż):FnOk P w K mg base aH (n+1) f I [Zh,Zj,Zo,ZH] (lSpM K zJ):=by
 refine F.okM qae (λas R Rx h=>?_) (λRj A outer s H E as R Rx qs Rr N h R1=>?_)
 ·let⟨a,o,d1,M,gs,ss,m,n,rfl,_⟩:=h;rfl
 let⟨a,o,d1,M,gs,ss,m,n,rfl,hp,hn,Vr,X,hg,hs,lg,ls,hm0,hm8,q⟩:=h;let⟨pa,rfl⟩:=km R1
 refine⟨_,(aV (bt (i:=4) qae.nd O Zg (hX (fw aj)))
   (aV (fj Mj O (ft (bI (dv 1))) (eN (i:=5) qae.nd O Zg) (bg (fj Mj O (ft (bI (dv 2))) (eN (i:=6) qae.nd O Zg) (bg (gh 4 (aA (bO (af (dv 5) (af (dv 6) aj aa) aa))) (dF fH) fH)))))
   (aV (bt (i:=7) qae.nd O Zg (AB (BV O) O kD PyProof.Rows.boot_min (bS (cK Q N O (dk 0 (bS (aA (aN cg (ae 3) (PD.q ax))) cG cx) aa) aa (ao cx ag)) (bS (aA (bu bL O aJ L8 (aI (ae 4) aG aa) aa ag)) cG aB) aB) aB (ao aB ag)))
   (aV (bt (i:=8) qae.nd O Zg (cK Q N O (dk 0 (bS (aA ax) cG aT) aa) aa (ao aT ag)))
   (aV (bt (i:=9) qae.nd O Zg (hX (fw aj)))
   (aV (fj Mj O (ft (fv O bx (af (dv 7) aj aa))) (eN (i:=10) qae.nd O Zg) (aV (bt (i:=11) qae.nd O Zg (Hr 4 (cK Q N O (dk 0 (bS (aA (bu bL O aJ L8 (aI (ae 4) aG aa) aa ag)) cG aB) aa) aa (ao aB ag)) (dF aB) aB))
   (bg (gh 9 (Gv (bS (aA (aD (ae 11))) (bS (aA (aD (ae 11))) (bS (cK Sw N O (dk 0 (bS (aA (dv 8)) cG aa) aa) aa (ao aa ag)) cG aB) aF) aF)) (dF fH) fH))))
   (bg (cy (xo 9))))))))),?_⟩
 intro ke;refine jJ (ρ:=[]) Vr ?_
 have pl:(cY gs ss).length<=400:=by rw[vA];show OX lg ls
 refine⟨λi ρ=>∃(a_ p:Ž Sm),ρ=[Z (.ob (Z pa) o),Z (.v d1),Z (.v M),Z (.v (.int m)),Z (.own ((cY (gs.take i) ss).map fW)),a_,p,ż,ż,ż,ż,ż],⟨_,_,O⟩,?_,?_⟩
 ·rintro i e ρ u ⟨a_,p,rfl⟩;let⟨g,rfl,be⟩:=dH u;refine jJ (ρ:=[]) X ?_;refine⟨λj ρ=>∃p:Ž Sm,ρ=[Z (.ob (Z pa) o),Z (.v d1),Z (.v M),Z (.v (.int m)),Z (.own ((cY (gs.take i) ss++(ss.take j).map λs=>(g,s)).map fW)),Z (.v (.str g)),p,ż,ż,ż,ż,ż],⟨p,by rw[List.take_zero,Pw,ML];rfl⟩,?_,?_⟩
  ·rintro j e ρ u ⟨p,rfl⟩;let⟨s',rfl,hsj⟩:=dH u;refine⟨?_,_,gu fW _ (g,s'),Z (.v (.str s')),?_⟩
   ·rw[LC,LL,vA,LC,Ms,Ms];have:min i gs.length*ss.length<=20*20:=OX () ls;show bo ()
   ·rw[pH _ hsj,Ma];rfl
  ·rintro ρ ⟨p,rfl⟩;rw[LC,M3,←Gm be];show⟨_,_,O⟩
 rintro ρ ⟨a_,p,rfl⟩;rw[LC,M3];refine⟨⟨_,_,O⟩,_,O,O,_,_,m+1,n,O,hp,(),(),fc (),λx o1 T7 TJ RV=>?_⟩
 obtain⟨mn,J,h1,h2⟩:∃mn:Nat,(if (((cY gs ss).map fW).length:Int)<x then (((cY gs ss).map fW).length:Int) else x)=(mn:Int)/\mn<=(cY gs ss).length/\(mn:Int)<=m:=by
  rw[LC];split
  ·show⟨_,O,LM _,()⟩
  ·let⟨y,rfl⟩:=NA T7;show⟨y,O,(),()⟩
 refine⟨⟨_,_,O⟩,_,O,O,_,_,4,n+1,O,RV,(),'b',fc 'b',λwy o2 hw0 hw1 SG=>?_⟩;refine⟨⟨by rw[J];omega,by rw[J];omega⟩,λk ρ=>∃(c:Y Pr)(os:Y aw)(C:Om)(S T:Ž Sm),ρ=[Z (.ob (Z pa) C),Z (.v d1),Z (.v M),Z (.v (.int m)),Z (.own (c.map fW)),a_,p,Z (.v (.int (if (((cY gs ss).map fW).length:Int)<x then (((cY gs ss).map fW).length:Int) else x))),Z (.v (.int wy)),Z (.own (os.map aZ)),S,T]/\(os.map j8++c).Perm (cY gs ss)/\os.length=k/\(∀o∈os,o.2.2.natAbs<2^700)/\Pl (n+2+2*k) C,⟨_,[],o2,_,_,O,.refl _,O,λ_ h=>(by cases h),SG⟩,?_,?_⟩
 ·rintro k e ρ u ⟨c,os,C,S,T,rfl,r,am,U,G⟩;let⟨Yc,rfl⟩:=gk u;rw[J]at Yc;have v:=r.length_eq;rw[LL,LC]at v
  have L:((c.map fW).length:Int)=(c.length:Int):=by rw[LC]
  refine⟨⟨_,_,O⟩,_,O,O,_,_,_,n+2+2*k,O,G,(),by rw[L];omega,fc (by rw[L];omega),λy o3 hy0 hy1 VA=>?_⟩;rw[L]at hy1;let⟨j,rfl⟩:=NA hy0
  have hj:j<c.length:=by omega
  refine⟨j,fW c[j],O,(),by rw[LN,MT hj];rfl,(c.eraseIdx j).map fW,GS _ _ _,?_⟩;refine⟨_,O,_,O,⟨_,_,O⟩,_,O,O,_,_,_,n+2+2*k+1,O,VA,(),λz o4 hz YW=>?_⟩;refine⟨?_,_,gu aZ os (c[j].1,c[j].2,z),_,_,o4,_,_,O,?_,by rw[LL,am];rfl,?_,YW⟩
  ·rw[LC];show bo ()
  ·rw[MM,Ma];refine List.Perm.trans ?_ r;refine List.Perm.append_left _ ?_;show BJ hj
  ·intro o' l;rcases Mf.mp l with l|l
   ·show U _ l
   ·rwa[LV.mp l]
 ·rintro ρ ⟨c,os,C,S,T,rfl,r,am,U,G⟩;rw[eS,J]at am G;have Ub:(cY gs ss).Nodup:=Ci hg hs;have B:=r.nodup_iff.mpr Ub;rw[MI]at B;have mem:∀o∈os,j8 o∈cY gs ss:=λo l=>r.mem_iff.mp (NM _ (LY.mpr ⟨o,l,O⟩));show⟨_,O,q os C ⟨B.1,λo l=>(v9 (mem o l)).1,λo l=>(v9 (mem o l)).2,U⟩ () (G.mono ())⟩
structure SeatOk(gs ss:List Str)(os:List aw):Prop where
 gn:gs.Nodup
 sn:ss.Nodup
 l:2*gs.length+ss.length<=12
 ol:os.length<=8
 o:OffOk gs ss os
def CC{c:Type}{xs:Y c}{lo a:Ž Int}(h:xs.Nodup):(cE xs lo a).Nodup:=(h.sublist (List.drop_sublist _ _)).sublist (List.take_sublist _ _)
inductive y__law_asking(as:List Sm)(R:Sm->List Om->Prop)(Rx:XD->List Om->Prop):Prop|mk (a:Option Addr) (o:Om) (n:Nat) (_:as=[.ob a o]) (_:Pl n o) (_:n+40<2^20) (_:∀(gs ss:List Str)(os:List aw)(o':Om),SeatOk gs ss os->Pl (n+40) o'->R (.v (.tup [.tup (gs.map D.str),.tup (ss.map D.str),.tup (os.map aZ)])) [o'])
def Bx(F:Fun K Zy Zy nc f I)(l:ClM P w K mg base n Zp [Zh,Zn] y__law_next)(r:ClM P w K mg base n ZC [Zh,Zt] y__law_names)(M:ClM P w K mg base n Zx [Zh,Zj,Zo,ZH] zJ)(m:mg "tuple"=ż):FnOk P w K mg base aH (n+1) f I [Zh] (lSpM K y__law_asking):=by
 refine F.okM qaa (λas R J h=>?_) (λam A outer s H E as R J qs Rr e h C=>?_)
 ·let⟨a,o,n,rfl,_⟩:=h;rfl
 let⟨a,o,n,rfl,hp,hn,q⟩:=h;let⟨be,rfl⟩:=km C
 refine⟨_,(aV (bt (i:=1) qaa.nd O Zg (cK l e O (dk 0 (bS (aA ax) cG aT) aa) aa (ao aT ag)))
   (aV (bt (i:=2) qaa.nd O Zg (cK l e O (dk 0 (bS (aA (aN gv (PD.q ax) (PD.q (aN cW (PD.q ax) (ae 1))))) cG cx) aa) aa (ao cx ag)))
   (aV (bt (i:=3) qaa.nd O Zg (sL (cK r e O (dk 0 (bS (aA (dv 1)) cG aa) aa) aa (ao aa ag))))
   (aV (bt (i:=4) qaa.nd O Zg (sL (cK r e O (dk 0 (bS (aA (dv 2)) cG aa) aa) aa (ao aa ag))))
   (c8 (cN (BD jb (cK l e O (dk 0 (bS (aA ax) cG aT) aa) aa (ao aT ag)) (aA ax) (aY _)) (bg (bt (i:=4) qaa.nd O Zg (aA (oj (ae 4) oO (oQ (PD.q (aN cg (ae 1) (PD.q ax)))))))) cQ)
   (aV (bt (i:=5) qaa.nd O Zg (sL (cK M e O (dk 0 (bS (aA (dv 3)) (bS (aA (dv 4)) (bS (aA ax) cG aT) aa) aa) aa) aa (ao aa (ao aa (ao aT ag))))))
   (bg (cy (aA (bO (af (bW bZ O m LW (aI (ae 3) aG aa) aa ag) (af (bW bZ O m LW (aI (ae 4) aG aa) aa ag) (af (bW bZ O m LW (aI (ae 5) aG aa) aa ag) aj aB) aB) aB))))))))))),?_⟩
 intro ke;refine⟨⟨_,_,O⟩,_,O,O,_,_,7,n,O,hp,(),'b',fc 'b',λx o1 T7 TJ G=>?_⟩;refine⟨⟨_,_,O⟩,jr 'b' 'b',_,O,O,_,_,13-2*x,n+1,O,G,(),(),fc (),λy o2 S T L=>?_⟩;refine⟨⟨_,_,O⟩,_,O,O,_,_,x,n+2,O,L,(),(),(),λgs o3 v T5 _ N=>?_⟩;refine⟨⟨_,_,O⟩,_,O,O,_,_,y,n+5,O,N,(),(),(),λss o4 B Xa _ a_=>?_⟩;refine⟨λρ=>∃(c:Y Str)(j:Om),ρ=[Z (.ob (Z be) j),Z (.v (.int x)),Z (.v (.int y)),Z (.v (.lst (gs.map D.str))),Z (.v (.lst (c.map D.str))),ż]/\c.Nodup/\c.length<=ss.length/\Pl (n+9) j,⟨⟨_,_,O⟩,_,O,O,_,_,3,n+8,O,a_,(),'b',fc 'b',λz j U X g=>⟨λ_=>?_,λ_=>?_⟩⟩,?_⟩
 ·show⟨_,ye _ _ _ _,_,_,O,CC B,AC _ _ _,g⟩
 ·show⟨ss,_,O,B,LM _,g⟩
 rintro ρ ⟨c,j,rfl,u,Vy,g⟩;refine⟨⟨_,_,O⟩,_,O,O,_,_,_,_,gs,c,8,n+9,O,g,(),O,O,v,u,(),(),'b','b',λos o6 Q Sq p=>?_⟩;show⟨_,O,q gs c os _ ⟨v,u,(),(),Q⟩ (p.mono ())⟩
def mW(o:aw):Y ai:=[.inr o.1,.inr o.2.1]
def Dp{os:Y aw}(h:(os.map j8).Nodup):(os.map mW).Nodup:=by unfold List.Nodup at h ⊢;rw[N8]at h ⊢;refine Ql (λa e=>a ?_) h;injection e with e1 e2;injection e2 with e2 _;injection e1 with e1;injection e2 with e2;unfold j8;rw[e1,e2]
def zQ{xs:Y Str}(h:xs.Nodup):(xs.map (Ô:Str->ai)).Nodup:=by unfold List.Nodup at h ⊢;rw[N8];show Ql (λa e=>a (Ĕ e)) h
inductive z_refuse_seating(ds:List D)(R:D->Prop):Prop|mk (gs ss:List Str) (os:List aw) (_:ds=[.tup (gs.map D.str),.tup (ss.map D.str),.tup (os.map aZ)]) (_:SeatOk gs ss os) (_:R .non)
def BX(F:Fun K "refuse_seating" "refuse_seating" jc f I)(r:Cl P w K mg base n "refuse_more" ["count","most"] z_refuse_more)(l:Cl P w K mg base n "refuse_twice" ["names"] z_refuse_twice)(p:Cl P w K mg base n "refuse_strange" ["names","known"] z_refuse_strange)(v:∃m,mg "MOST_UNKNOWNS"=Z (.int 8 m))(u:∃m,mg "MOST_ROWS"=Z (.int 12 m))(e:mg "len"=ż):FnOk P w K mg base aH (n+1) f I ["guests","seats","offers"] (lSp K z_refuse_seating):=by
 refine F.okD A8 (λds R h=>?_) (λC A outer s H E ds R c h=>?_)
 ·let⟨gs,ss,os,rfl,_⟩:=h;rfl
 let⟨gs,ss,os,rfl,a,q⟩:=h
 refine⟨_,(aU (iV (aK r c O (af (bu bL O e L8 (aI (ae 2) aG aa) aa ag) (af (yf O v.choose_spec) aj aa) aB) aB (ao aa ag)))
   (aU (iV (aK r c O (af (aN cg (PD.q (aN cW (PD.q ax) (PD.q (bu bL O e L8 (aI (ae 0) aG aa) aa ag)))) (PD.q (bu bL O e L8 (aI (ae 1) aG aa) aa ag))) (af (yf O u.choose_spec) aj aa) cx) cx (ao aa ag)))
   (aU (iV (aK l c O (af (dv 0) aj aa) aa ag))
   (aU (iV (aK l c O (af (dv 1) aj aa) aa ag))
   (aU (iV (aK p c O (af (PF.d (de (k:=1) (N':=["offer"]) (cap:=[ż]) O (.ok (show bC ["guests","seats","offers"] (av jc) _ ["offer"] [ż]=ž by lia)) 'a' (bA 'b') (bI (dv 2)) (λ_ _ _ _ _=>(bf (i:=0) (show List.Nodup (["offer"]:Y Str)by lia) O Zg)) (λ_ _ _ _ _=>(aD (ae 0))))) (af (dv 0) aj aa) br) br (ao aa ag)))
   (aU (iV (aK p c O (af (PF.d (de (k:=1) (N':=["offer"]) (cap:=[ż]) O (.ok (show bC ["guests","seats","offers"] (av jc) _ ["offer"] [ż]=ž by lia)) 'a' (bA 'b') (bI (dv 2)) (λ_ _ _ _ _=>(bf (i:=0) (show List.Nodup (["offer"]:Y Str)by lia) O Zg)) (λ_ _ _ _ _=>(aD (ae 0))))) (af (dv 1) aj aa) br) br (ao aa ag)))
   (aQ (iV (aK l c O (af (PF.d (de (k:=1) (N':=["offer"]) (cap:=[ż]) O (.ok (show bC ["guests","seats","offers"] (av jc) _ ["offer"] [ż]=ž by lia)) 'a' (bA 'b') (bI (dv 2)) (λ_ _ _ _ _=>(bf (i:=0) (show List.Nodup (["offer"]:Y Str)by lia) O Zg)) (λ_ _ _ _ _=>(bO (af (aD (ae 0)) (af (aD (ae 0)) aj aF) aF))))) aj br) br ag))))))))),?_⟩
 have G:=a.ol;have hl:=a.l;refine⟨_,_,O,?_,?_⟩
 ·rw[LC];omega
 refine⟨jr 'b' 'b',_,_,O,?_,?_⟩
 ·rw[LC,LC];omega
 refine⟨_,O,.inl ⟨gs.map Ô,by rw[←iY];rfl,zQ a.gn,by rw[LC];omega⟩,?_⟩;refine⟨_,O,.inl ⟨ss.map Ô,by rw[←iY];rfl,zQ a.sn,by rw[LC];omega⟩,?_⟩;refine gz (f:=aZ) (λt=>D.str t.1) (bo ()) (λt _=>⟨_,O,O⟩) ?_
 have y:(os.map λt=>D.str t.1)=(os.map (·.1)).map D.str:=by rw[Mg];rfl
 rw[y];refine⟨_,_,os.map (·.1),gs,O,O,O,λx j=>?_,?_⟩
 ·let⟨o,g,rfl⟩:=LY.mp j;show a.o.g o g
 refine gz (f:=aZ) (λt=>D.str t.2.1) (bo ()) (λt _=>⟨_,O,O⟩) ?_
 have z:(os.map λt=>D.str t.2.1)=(os.map (·.2.1)).map D.str:=by rw[Mg];rfl
 rw[z];refine⟨_,_,os.map (·.2.1),ss,O,O,O,λx j=>?_,?_⟩
 ·let⟨o,g,rfl⟩:=LY.mp j;show a.o.s o g
 refine gz (f:=aZ) (λt=>lW (mW t)) (bo ()) (λt _=>⟨_,O,_,O,O⟩) ?_
 have B:(os.map λt=>lW (mW t))=(os.map mW).map lW:=by rw[Mg];rfl
 rw[B];show⟨_,O,.inr ⟨_,O,Dp a.o.nd,by rw[LC];omega⟩,q⟩
def dw(xs:Y Str)(x:Str):Y Int:=xs.map λy=>if y=x then 1 else 0
inductive z_marks(ds:List D)(R:D->Prop):Prop|mk (d:D) (xs:List Str) (x:Str) (_:ds=[d,.str x]) (_:dQ d=Z (xs.map D.str)) (_:xs.length<=1000) (_:R (.tup ((dw xs x).map D.int)))
def HI(F:Fun K "marks" "marks" kF f I)(a:mg "tuple"=ż):FnOk P w K mg base aH (n+1) f I ["names","name"] (lSp K z_marks):=by
 refine F.okD EG (λds R h=>?_) (λg A outer s H E ds R c h=>?_)
 ·let⟨d,xs,x,rfl,_⟩:=h;rfl
 let⟨d,xs,x,rfl,hd,hl,q⟩:=h;refine⟨_,(aQ (bq (bW bZ O a LW (aI (PD.q (PF.d (de (k:=1) (N':=["other","name"]) (cap:=[ż,Z 1]) O (.ok (show bC ["names","name"] (av kF) _ ["other","name"] [ż,Z 1]=ž by lia)) 'a' (bA 'b') (bI (dv 0)) (λ_ _ _ _ _=>(bf (i:=0) (show List.Nodup (["other","name"]:Y Str)by lia) O Zg)) (λ_ _ _ _ _=>(rK (aX (cV c.units) (ae 0) (ae 1) (aY _)) ax ax))))) aG br) br ag))),?_⟩;refine jJ (ρ:=[]) hd ?_;refine iA (f:=D.str) (λy=>if y=x then 1 else 0) (bo hl) (λy _=>?_) q;refine⟨λh=>?_,λh=>?_⟩
 ·rw[LI (eq_of_beq h)];rfl
 ·rw[LG (λe=>by subst e;have:=MH y;rw[h]at this;cases this)];rfl
def fC(os:Y aw)(g:Str):ak:=(dw (os.map (·.1)) g,1)
def lj(os:Y aw)(s:Str):ak:=fK (dw (os.map (·.2.1)) s,1)
def eT(gs:Y Str)(os:Y aw):Y ak:=gs.flatMap λg=>[fC os g,fK (fC os g)]
def lH(gs ss:Y Str)(os:Y aw):Y ak:=eT gs os++ss.map (lj os)
def qG(gs ss:Y Str)(os:Y aw):D:=.tup [.tup (List.replicate os.length (.tup [.int 0,.non])),.tup ((lH gs ss os).map ba),.tup ((os.map (·.2.2)).map D.int)]
def Fv{gs:Y Str}{os:Y aw}{i:Nat}{g:Str}(h:gs[i]?=Z g):eT (gs.take (i+1)) os=eT (gs.take i) os++[fC os g,fK (fC os g)]:=by unfold eT;rw[N7,h,List.flatMap_append];simp
def h8(gs:Y Str)(os:Y aw):(eT gs os).length=2*gs.length:=by
 unfold eT
 induction gs with
 |nil=>rfl
 |cons g gs a=>rw[Qk,LL,a,LX];simp;omega
def Dq(k:Nat)(d:D):(List.replicate k [d]).flatten=List.replicate k d:=by
 induction k with
 |zero=>rfl
 |succ k a=>rw[MV,MN,a];rfl
def ly(xs:Y Str)(x:Str):(dw xs x).length=xs.length:=by unfold dw;rw[LC]
inductive z_seat_plan(ds:List D)(R:D->Prop):Prop|mk (gs ss:List Str) (os:List aw) (_:ds=[.tup (gs.map D.str),.tup (ss.map D.str),.tup (os.map aZ)]) (_:SeatOk gs ss os) (_:R (qG gs ss os))
def Fy(F:Fun K "seat_plan" "seat_plan" i5 f I)(B:Cl P w K mg base n "refuse_seating" ["guests","seats","offers"] z_refuse_seating)(z:Cl P w K mg base n "marks" ["names","name"] z_marks)(y:Cl P w K mg base n "turned" ["row"] z_turned)(u:mg "tuple"=ż)(J:mg "len"=ż):FnOk P w K mg base aH (n+1) f I ["guests","seats","offers"] (lSpM K (zM z_seat_plan)):=by
 refine F.okM qaB (λas R G h=>?_) (λQ A outer s H E as R G qs S a h C=>?_)
 ·let⟨_,rfl,gs,ss,os,rfl,_⟩:=h;rfl
 let⟨_,rfl,gs,ss,os,rfl,m,q⟩:=h;obtain rfl:=iM C
 refine⟨_,(aV (D8 (aA (aK B a O (af (dv 0) (af (dv 1) (af (dv 2) aj aa) aa) aa) aa (ao aa (ao aa ag)))))
   (aV (pV (i:=3) (k:=1) (N':=["offer"]) (cap:=[ż]) O qaB.nd O Zg (.ok (show bC ["guests","seats","offers","asked","offered","rows","guest","row","seat"] (av i5) _ ["offer"] [ż]=ž by lia)) 'a' (bA 'b') (bI (dv 2)) (λ_ _ _ _ _=>(bf (i:=0) (show List.Nodup (["offer"]:Y Str)by lia) O Zg)) (λ_ _ _ _ _=>(aD (ae 0))))
   (oR 3 (aV (pV (i:=4) (k:=1) (N':=["offer"]) (cap:=[ż]) O qaB.nd O Zg (.ok (show bC ["guests","seats","offers","asked","offered","rows","guest","row","seat"] (av i5) _ ["offer"] [ż]=ž by lia)) 'a' (bA 'b') (bI (dv 2)) (λ_ _ _ _ _=>(bf (i:=0) (show List.Nodup (["offer"]:Y Str)by lia) O Zg)) (λ_ _ _ _ _=>(aD (ae 0))))
   (oR 4 (aV (bt (i:=5) qaB.nd O Zg (hX (fw aj)))
   (aV (fj Mj O (ft (bI (dv 0))) (eN (i:=6) qaB.nd O Zg) (aV (bt (i:=7) qaB.nd O Zg (aA (bO (af (aK z a O (af (dv 3) (af (dv 6) aj aa) aa) aa (ao aa ag)) (af ax aj aT) aB))))
   (bg (DA 5 (hX (fw (af (dv 7) (af (aK y a O (af (dv 7) aj aa) aa ag) aj aB) aa))) (dF yU) yU))))
   (aV (fj Mj O (ft (bI (dv 1))) (eN (i:=8) qaB.nd O Zg) (bg (gh 5 (aA (aK y a O (af (bO (af (aK z a O (af (dv 4) (af (dv 8) aj aa) aa) aa (ao aa ag)) (af ax aj aT) aB)) aj fH) fH ag)) (dF aB) aB)))
   (bg (cy (aA (bO (af (aN cW (PD.q (bO (af (bO (af ax (af gH aj aT) aT)) aj fH))) (PD.q (bu bL O J L8 (aI (ae 2) aG aa) aa ag))) (af (bW bZ O u LW (aI (ae 5) aG aa) aa ag) (af (bW bZ O u LW (aI (PD.q (PF.d (de (k:=1) (N':=["offer"]) (cap:=[ż]) O (.ok (show bC ["guests","seats","offers","asked","offered","rows","guest","row","seat"] (av i5) _ ["offer"] [ż]=ž by lia)) 'a' (bA 'b') (bI (dv 2)) (λ_ _ _ _ _=>(bf (i:=0) (show List.Nodup (["offer"]:Y Str)by lia) O Zg)) (λ_ _ _ _ _=>(aD (ae 0)))))) aG br) br ag) aj aB) aB) cx))))))))))))),?_⟩
 intro U;have T:=m.ol;have hl:=m.l
 have L:(os.map λt=>D.str t.1)=(os.map (·.1)).map D.str:=by rw[Mg];rfl
 have M:(os.map λt=>D.str t.2.1)=(os.map (·.2.1)).map D.str:=by rw[Mg];rfl
 refine⟨gs,ss,os,O,m,?_⟩;refine gz (f:=aZ) (λt=>D.str t.1) (bo ()) (λt _=>⟨_,O,O⟩) ?_;rw[L];refine gz (f:=aZ) (λt=>D.str t.2.1) (bo ()) (λt _=>⟨_,O,O⟩) ?_;rw[M];refine⟨λi ρ=>∃j l:Ž Sm,ρ=[Z (.v (.tup (gs.map D.str))),Z (.v (.tup (ss.map D.str))),Z (.v (.tup (os.map aZ))),Z (.v (.lst ((os.map (·.1)).map D.str))),Z (.v (.lst ((os.map (·.2.1)).map D.str))),Z (.own ((eT (gs.take i) os).map ba)),j,l,ż],⟨_,_,O⟩,?_,?_⟩
 ·rintro i e ρ p ⟨j,l,rfl⟩;let⟨g,rfl,v⟩:=dH p;have am:=aO v;refine⟨_,os.map (·.1),g,O,O,by rw[LC];omega,fC os g,O,?_,?_⟩
  ·change (dw (os.map (·.1)) g).length<=1000;rw[ly,LC];omega
  refine⟨?_,(eT (gs.take (i+1)) os).map ba,?_,Z (.v (.str g)),Z (.v (ba (fC os g))),O⟩
  ·rw[LC,h8,Ms];show small (by change _+2<=1000;omega)
  ·rw[Fv v,MM];rfl
 rintro ρ ⟨j,l,rfl⟩;rw[LC,M3];refine⟨λi ρ=>∃r:Ž Sm,ρ=[Z (.v (.tup (gs.map D.str))),Z (.v (.tup (ss.map D.str))),Z (.v (.tup (os.map aZ))),Z (.v (.lst ((os.map (·.1)).map D.str))),Z (.v (.lst ((os.map (·.2.1)).map D.str))),Z (.own ((eT gs os++(ss.take i).map (lj os)).map ba)),j,l,r],⟨ż,by rw[List.take_zero,Pw,ML]⟩,?_,?_⟩
 ·rintro i e ρ p ⟨r,rfl⟩;let⟨c,rfl,x⟩:=dH p;have am:=aO x;refine⟨_,os.map (·.2.1),c,O,O,by rw[LC];omega,(dw (os.map (·.2.1)) c,1),O,?_,?_⟩
  ·change (dw (os.map (·.2.1)) c).length<=1000;rw[ly,LC];omega
  refine⟨?_,_,gu ba _ (lj os c),Z (.v (.str c)),?_⟩
  ·rw[LC,LL,h8,LC,Ms];show bo ()
  ·rw[pH _ x,Ma];rfl
 rintro ρ ⟨r,rfl⟩;rw[LC,M3]
 have N:((os.map aZ).length:Int)=(os.length:Int):=by rw[LC]
 refine⟨⟨List.cons_ne_nil _ _,(),(),by change ((os.map aZ).length:Int).toNat*1<=1000;omega⟩,_,by rw[Dq,N,MG],?_⟩;refine iA (f:=aZ) (λo=>o.2.2) (bo ()) (λo _=>⟨_,O,O⟩) ?_;show q
def kX{g:Type}(c:g->Bool)(h:g->D):∀l:Y g,(l.map λx=>if c x then Z (h x) else ż).filterMap id=(l.filter c).map h:=by
 intro l
 induction l with
 |nil=>rfl
 |cons x l j=>
  rw[L5]
  cases e:c x with
  |true=>rw[LI O,QD (f:=id) (a:=Z (h x)) (b:=h x) O,O1 e,L5,j]
  |false=>rw[LG (by simp),QE (f:=id) O,O2 (by rw[e];simp),j]
def jA{l:Type}{f:l->D}{xs:Y l}{g:cD}{r:bT}{u:TD}{ρ:bh}{R:Y (Ž D)->Prop}(c:l->Bool)(h:l->D)(p:xs.length<sizeLine)(v:∀x∈xs,g (f x) ρ λa=>r a λb=>(b=ž->u a λy=>c x=ž/\y=h x)/\(b=β->c x=β))(k:R (xs.map λx=>if c x then Z (h x) else ż)) :
  (xs.map f).length<sizeLine/\∃P:Nat->Ž D->Prop,(∀i d,(xs.map f)[i]?=Z d->g d ρ λa=>r a λb=>(b=ž->u a λy=>P i (Z y))/\(b=β->P i ż))/\∀ys:Y (Ž D),ys.length=(xs.map f).length->(∀i y,ys[i]?=Z y->P i y)->R ys:=by
 refine⟨by rwa[LC],λi=>match xs[i]? with|some x=>λo=>(match o with|some y=>c x=ž/\y=h x|none=>c x=β)|none=>λ_=>False,λi d hd=>?_,λys hl z=>?_⟩
 ·rw[LN]at hd
  cases e:xs[i]? with
  |none=>rw[e]at hd;cases hd
  |some x=>
   rw[e]at hd;cases hd;simp only[e];show v x (Mb e)
 ·have e:ys=xs.map λx=>if c x then Z (h x) else ż:=by
   refine Nj λi=>?_;rw[LN]
   cases ex:xs[i]? with
   |none=>
    have:xs.length<=i:=Nm.mp ex;rw[LC]at hl;rw[Mn ()];rfl
   |some x=>
    have A:=aO ex;rw[LC]at hl;have j:ys[i]?=Z (ys[i]'()):=aS ();have q:=z i _ j;rw[j];simp only[ex]at q
    cases m:ys[i]'()with
    |none=>
     rw[m]at q;change Z ż=Z (if c x=ž then _ else _);rw[LG (by rw[q];simp)]
    |some y=>
     rw[m]at q;change Z (Z y)=Z (if c x=ž then _ else _);rw[LI q.1,q.2]
  rwa[e]
def gY(os:Y aw)(gr:Y Str):Y aw:=os.filter λo=>decide (o.1∈gr)
def iL(o:aw):ai:=.inr o.2.1
def fM(os:Y aw)(gr:Y Str):Nat:=iW ((gY os gr).map iL)
def y4(os:Y aw)(gr:Y Str):(gY os gr).length<=os.length:=Pk _ _
def v3{os:Y aw}{gr:Y Str}:((os.map λo=>if decide (o.1∈gr) then Z (D.str o.2.1) else ż).filterMap id)=((gY os gr).map iL).map cH:=by rw[kX,Mg];rfl
inductive z_seats_offered(ds:List D)(R:D->Prop):Prop|mk (gr:List Str) (os:List aw) (_:ds=[.tup (gr.map D.str),.tup (os.map aZ)]) (_:os.length<=8) (_:R (.int (fM os gr:Nat)))
def Gb(F:Fun K "seats_offered" "seats_offered" me f I)(a:mg "len"=ż)(c:mg "set"=ż):FnOk P w K mg base aH (n+1) f I ["group","offers"] (lSp K z_seats_offered):=by
 refine F.okD KN (λds R h=>?_) (λe A outer s H E ds R g h=>?_)
 ·let⟨gr,os,rfl,_⟩:=h;rfl
 let⟨gr,os,rfl,hl,q⟩:=h;refine⟨_,(aQ (bq (zc O O a O c (PF.d (jF (k:=1) (N':=["offer","group"]) (cap:=[ż,Z 0]) O (.ok (show bC ["group","offers"] (av me) _ ["offer","group"] [ż,Z 0]=ž by lia)) 'a' (bA 'b') (bI (dv 1)) (λ_ _ _ _ _=>(bf (i:=0) (show List.Nodup (["offer","group"]:Y Str)by lia) O Zg)) (λ_ _ _ _ _=>(gR (aX rY (PD.q (aD (ae 0))) (ae 1) (by with_unfolding_all rfl)))) (λ_ _ _ _ _=>(aD (ae 0))))) br aB))),?_⟩;refine jA (f:=aZ) (λo:aw=>decide (o.1∈gr)) (λo=>D.str o.2.1) (bo ()) (λo _=>?_) ?_
 ·refine⟨_,O,.inr o.1,gr.map Ô,O,by rw[←iY];rfl,?_⟩;rw[kR];refine⟨λh=>⟨_,O,?_,O⟩,λh=>?_⟩
  ·simpa using h
  ·simpa using h
 rw[v3];show⟨_,O,by rw[LC];have:=y4 os gr;omega,q⟩
def eF(qs:Y (Int×Int))(r:Int):Ž Int:=qs.foldl (λa q=>if r=q.1 then Z q.2 else a) ż
def wt(qs:Y (Int×Int))(r:Int):Int:=(eF qs r).getD 0
def mY(q:Int×Int):ai×D:=(.inl q.1,.int q.2)
theorem xb(r:Int):∀(qs:Y (Int×Int))(g:Y (ai×D))(o:Ž Int),bj g (.inl r)=o.map D.int->bj (js g (qs.map mY)) (.inl r)=(qs.foldl (λa q=>if r=q.1 then Z q.2 else a) o).map D.int
 | [],_,_,h=>h
 |q::qs,g,o,h=>by
  refine xb r qs _ _ ?_;change bj (fu g (.inl q.1) (.int q.2)) (.inl r)=_;rw[uG];change _=ŭ D.int (if r=q.1 then Z q.2 else o);by_cases c:r=q.1
  ·rw[LI (by rw[c]),LI c];rfl
  ·rwa[LG (λe=>c (ŕ e)),LG c]
def qe(qs:Y (Int×Int))(r:Int):(bj (js [] (qs.map mY)) (.inl r)).getD (.int 0)=.int (wt qs r):=by rw[xb r qs [] ż O];unfold wt eF;cases qs.foldl (λa q=>if r=q.1 then Z q.2 else a) ż<;>rfl
def dJ(qs:Y (Int×Int))(n G:Nat):Y Int:=(List.range G).map λ(i:Nat)=>wt qs ((n+2*i+1:Nat):Int)-wt qs ((n+2*i:Nat):Int)
def iz(qs:Y (Int×Int))(n G Q:Nat):Y Int:=(List.range Q).map λ(k:Nat)=>wt qs ((n+2*G+k:Nat):Int)
def CN(qs:Y (Int×Int))(n i:Nat):dJ qs n (i+1)=dJ qs n i++[wt qs ((n+2*i+1:Nat):Int)-wt qs ((n+2*i:Nat):Int)]:=by unfold dJ;rw[OI,MM];rfl
def pZ(qs:Y (Int×Int))(n i:Nat):(dJ qs n i).length=i:=by unfold dJ;rw[LC,L4]
inductive z_prices(ds:List D)(R:D->Prop):Prop|mk (qs:List (Int×Int)) (gs ss:List Str) (os:List aw) (_:ds=[.tup (qs.map bM),.tup (gs.map D.str),.tup (ss.map D.str),.tup (os.map aZ)]) (_:SeatOk gs ss os) (_:R (.tup [.tup ((dJ qs os.length gs.length).map D.int),.tup ((iz qs os.length gs.length ss.length).map D.int)]))
def BW(F:Fun K "prices" "prices" kJ f I)(B:mg "dict"=ż)(a:mg "len"=ż)(m:mg "range"=ż)(l:mg "tuple"=ż):FnOk P w K mg base aH (n+1) f I ["shares","guests","seats","offers"] (lSpM K (zM z_prices)):=by
 refine F.okM qay (λas R v h=>?_) (λJ A outer s H E as R v qs L N h u=>?_)
 ·let⟨_,rfl,qs,gs,ss,os,rfl,_⟩:=h;rfl
 let⟨_,rfl,qs,gs,ss,os,rfl,p,q⟩:=h;obtain rfl:=iM u
 refine⟨_,(aV (bt (i:=4) qay.nd O (ð O) (aA (bW (yA O) O B QN (aI (ae 0) aG aa) aa ag)))
   (aV (bt (i:=5) qay.nd O Zg (aA (bu bL O a L8 (aI (ae 3) aG aa) aa ag)))
   (aV (bt (i:=6) qay.nd O Zg (hX (fw aj)))
   (aV (fj Mj O (ft (Io O m (af (dv 5) (af (aN cg (ae 5) (PD.q (aN cW (PD.q ax) (PD.q (bu bL O a L8 (aI (ae 1) aG aa) aa ag))))) (af ax aj aT) cx) aa))) (eN (i:=7) qay.nd O Zg) (bg (gh 6 (aA (aN gv (PD.q (sN (dv 4) (aN cg (ae 7) (PD.q ax)) ax (qk cx aT) cx aT (ao aT ag))) (PD.q (sN (dv 4) (dv 7) ax (qk aa aT) aa aT (ao aT ag))))) (dF cx) cx)))
   (aV (bt (i:=5) qay.nd O Zg (aA (aN cg (ae 5) (PD.q (aN cW (PD.q ax) (PD.q (bu bL O a L8 (aI (ae 1) aG aa) aa ag)))))))
   (aV (pV (i:=8) (k:=1) (N':=["place","weights"]) (cap:=[ż,Z 4]) O qay.nd O Zg (.ok (show bC ["shares","guests","seats","offers","weights","ahead","of_guests","place","of_seats"] (av kJ) _ ["place","weights"] [ż,Z 4]=ž by lia)) 'a' (bA 'b') (vN O m (af (dv 5) (af (aN cg (ae 5) (PD.q (bu bL O a L8 (aI (ae 2) aG aa) aa ag))) aj cx) aa)) (λ_ _ _ _ _=>(bf (i:=0) (show List.Nodup (["place","weights"]:Y Str)by lia) O Zg)) (λ_ _ _ _ _=>(sN (dv 1) (dv 0) ax (qk aa aT) aa aT (ao aT ag))))
   (oR 8 (bg (cy (aA (bO (af (bW bZ O l LW (aI (ae 6) aG aa) aa ag) (af (bW bZ O l LW (aI (ae 8) aG aa) aa ag) aj aB) aB)))))))))))),?_⟩
 intro U;have M:=p.ol;have hl:=p.l
 have eq:qs.map bM=(qs.map mY).map ia:=by rw[Mg];rfl
 have lo:((os.map aZ).length:Int)=(os.length:Int):=by rw[LC]
 have C:((gs.map D.str).length:Int)=(gs.length:Int):=by rw[LC]
 have Q:((ss.map D.str).length:Int)=(ss.length:Int):=by rw[LC]
 have o:fF ((os.map aZ).length:Int) ((os.map aZ).length+2*((gs.map D.str).length:Int)) 2=gs.length:=by unfold fF;rw[lo,C];omega
 refine⟨_,.inr (MR D.tup eq),jr 'b' 'b',_,_,_,O,⟨(),(),(),(),'b','b'⟩,λi ρ=>∃j:Ž Sm,ρ=[Z (.v (.tup (qs.map bM))),Z (.v (.tup (gs.map D.str))),Z (.v (.tup (ss.map D.str))),Z (.v (.tup (os.map aZ))),Z (.v (.map (js [] (qs.map mY)))),Z (.v (.int ((os.map aZ).length:Int))),Z (.own ((dJ qs os.length i).map D.int)),j,ż],⟨_,O⟩,?_,?_⟩
 ·rintro i e ρ g ⟨j,rfl⟩;unfold iH at g;rw[o]at g;let⟨k,rfl,c⟩:=dH g;have r:=aO c;rw[L4]at r;rw[Mp r]at c;cases c
  have y:((os.map aZ).length:Int)+(i:Int)*2+1=((os.length+2*i+1:Nat):Int):=by omega
  have z:((os.map aZ).length:Int)+(i:Int)*2=((os.length+2*i:Nat):Int):=by omega
  refine⟨trivial,.inl _,O,?_⟩;rw[qe];refine⟨trivial,.inl _,O,?_⟩;rw[qe,y,z];refine⟨by rw[LC,pZ];show bo (),_,gu D.int _ _,Z (.v (.int ((os.length+2*i:Nat):Int))),?_⟩;rw[←CN];rfl
 rintro ρ ⟨j,rfl⟩
 have cl:(iH ((os.map aZ).length:Int) ((os.map aZ).length+2*((gs.map D.str).length:Int)) 2).length=gs.length:=by unfold iH;rw[LC,L4,o]
 rw[cl];refine⟨jr 'b' 'b',⟨(),()⟩,?_⟩;refine j6 (λk=>D.int (wt qs ((os.length+2*gs.length+k:Nat):Int))) (bo ()) (λk c=>⟨trivial,.inl _,O,?_⟩) ?_
 ·rw[qe];show MR (λx=>D.int (wt qs x)) ()
 have G:(((os.map aZ).length:Int)+2*((gs.map D.str).length:Int)+((ss.map D.str).length:Int)-(((os.map aZ).length:Int)+2*((gs.map D.str).length:Int))).toNat=ss.length:=by omega
 rw[G]
 have e:(List.range ss.length).map (λk=>D.int (wt qs ((os.length+2*gs.length+k:Nat):Int)))=(iz qs os.length gs.length ss.length).map D.int:=by unfold iz;rw[Mg];rfl
 rwa[e]
def Av(gs:Y Str)(ps:Y Int):eD (gs.map D.str) (ps.map D.int)=(gs.zip ps).map λx=>D.tup [.str x.1,.int x.2]:=by unfold eD;rw[Qv,List.zip,Pe]
def dY(gs:Y Str)(ps:Y Int)(h:Int):Y Str:=((gs.zip ps).filter λx=>decide (x.2<=h)).map (·.1)
def lL(gs:Y Str)(os:Y aw)(ps:Y Int):Y (Y Str):=((ir ps).map (dY gs ps)).filter λg=>decide (fM os g<g.length)
structure Crw(gs:List Str)(os:List aw)(ps:List Int)(gr:List Str):Prop where
 eq:gr=(lL gs os ps).getD 0 []
 at_:∃h,gr=dY gs ps h
 lt:fM os gr<gr.length
def Kk{gs:Y Str}{os:Y aw}{ps:Y Int}(hp:(ir ps).Perm ps)(a:∃h∈ps,fM os (dY gs ps h)<(dY gs ps h).length):Crw gs os ps ((lL gs os ps).getD 0 [])/\0<(lL gs os ps).length:=by
 let⟨h,hh,g⟩:=a;have c:0<(lL gs os ps).length:=QL (MF.mpr ⟨LY.mpr ⟨h,hp.mem_iff.mpr hh,O⟩,Md g⟩);let⟨j,l⟩:=MF.mp (cm (d:=[]) c);let⟨h',_,e⟩:=LY.mp j;show⟨⟨O,⟨h',e.symm⟩,Mm l⟩,c⟩
inductive z_crowded_group(ds:List D)(R:D->Prop):Prop|mk (gs:List Str) (os:List aw) (ps:List Int) (_:ds=[.tup (gs.map D.str),.tup (os.map aZ),.tup (ps.map D.int)]) (_:os.length<=8) (_:gs.length<=12) (_:ps.length<=12) (_:(∃h∈ps,fM os (dY gs ps h)<(dY gs ps h).length)) (_:∀gr,Crw gs os ps gr->R (.tup (gr.map D.str)))
def JY(F:Fun K "crowded_group" "crowded_group" ki f I)(p:Cl P w K mg base n "seats_offered" ["group","offers"] z_seats_offered)(C:mg "sorted"=ż)(y:mg "tuple"=ż)(z:mg "len"=ż)(B:mg "zip"=ż):FnOk P w K mg base aH (n+1) f I ["guests","offers","guest_prices"] (lSpM K (zM z_crowded_group)):=by
 refine F.okM qan (λas R u h=>?_) (λM A outer s H E as R u qs N J h r=>?_)
 ·let⟨_,rfl,gs,os,ps,rfl,_⟩:=h;rfl
 let⟨_,rfl,gs,os,ps,rfl,v,Q,U,a,q⟩:=h;obtain rfl:=iM r
 refine⟨_,(aV (bt (i:=3) qan.nd O Zg (hX (fw aj)))
   (aV (fj Mj O (ft (bI (bu Jh O C OV (aI (ae 2) aG aa) aa ag))) (eN (i:=4) qan.nd O (ð O)) (bg (gh 3 (aA (bW bZ O y LW (aI (PD.q (PF.d (jF (k:=2) (N':=["guest","price","height"]) (cap:=[ż,ż,Z 4]) O (.ok (show bC ["guests","offers","guest_prices","groups","height"] (av ki) _ ["guest","price","height"] [ż,ż,Z 4]=ž by lia)) 'a' (kT (n:=2) (gy (bA 'b') (gy (bA 'b') lJ))) (lN O B (af (dv 0) (af (dv 2) aj aa) aa)) (λ_ _ _ _ _=>(jQ (n:=2) O (fA (bf (i:=0) (show List.Nodup (["guest","price","height"]:Y Str)by lia) O Zg) (fA (bf (i:=1) (show List.Nodup (["guest","price","height"]:Y Str)by lia) O Zg) kz)))) (λ_ _ _ _ _=>(gR (aX wN (ae 1) (ae 2) (aY _)))) (λ_ _ _ _ _=>(dv 0))))) aG br) br ag)) (dF aB) aB)))
   (oR 3 (bg (cy (aA (aD (PD.q (PF.d (jF (k:=1) (N':=["group","offers"]) (cap:=[ż,Z 1]) O (.ok (show bC ["guests","offers","guest_prices","groups","height"] (av ki) _ ["group","offers"] [ż,Z 1]=ž by lia)) 'a' (bA 'b') (bI (dv 3)) (λ_ _ _ _ _=>(bf (i:=0) (show List.Nodup (["group","offers"]:Y Str)by lia) O Zg)) (λ_ _ _ _ _=>(gR (aX gD (PD.q (aK p J O (af (dv 0) (af (dv 1) aj aa) aa) aa (ao aa ag))) (PD.q (bu bL O z L8 (aI (ae 0) aG aa) aa ag)) (aY _)))) (λ_ _ _ _ _=>(dv 0)))))))))))),?_⟩
 intro S;refine⟨ps,O,(),λl=>?_⟩;have o:=l.length_eq;refine⟨λi ρ=>∃j:Ž Sm,ρ=[Z (.v (.tup (gs.map D.str))),Z (.v (.tup (os.map aZ))),Z (.v (.tup (ps.map D.int))),Z (.own ((((ir ps).take i).map (dY gs ps)).map λg=>D.tup (g.map D.str))),j],⟨_,O⟩,?_,?_⟩
 ·rintro i e ρ G ⟨j,rfl⟩;let⟨h,rfl,hh⟩:=dH G;refine⟨_,_,O,O,?_⟩;rw[Av];refine jA (f:=λx:Str×Int=>D.tup [.str x.1,.int x.2]) (λx:Str×Int=>decide (x.2<=h)) (λx=>D.str x.1) (bo (by rw[QI];omega)) (λx _=>?_) ?_
  ·show⟨O,λc=>⟨c,O⟩,λc=>c⟩
  rw[kX]
  have e:((gs.zip ps).filter λx=>decide (x.2<=h)).map (λx=>D.str x.1)=(dY gs ps h).map D.str:=by unfold dY;rw[Mg];rfl
  rw[e];refine⟨?_,_,gu (λg:Y Str=>D.tup (g.map D.str)) _ (dY gs ps h),Z (.v (.int h)),?_⟩
  ·rw[LC,LC,Ms];show bo ()
  ·rw[pH _ hh];rfl
 rintro ρ ⟨j,rfl⟩;rw[LC,M3];refine jA (f:=λg:Y Str=>D.tup (g.map D.str)) (λg:Y Str=>decide (fM os g<g.length)) (λg=>D.tup (g.map D.str)) (bo (by rw[LC];omega)) (λg _=>?_) ?_
 ·refine⟨g,os,O,v,?_⟩;have e:decide ((fM os g:Int)<((g.map D.str).length:Int))=decide (fM os g<g.length):=QB.mpr (by rw[LC];omega);show⟨λc=>⟨e.symm.trans c,O⟩,λc=>e.symm.trans c⟩
 rw[kX];have m:=Kk l a;have L:=m.2;show⟨_,df (i:=0) (bE (d:=[]) L) O,q _ m.1⟩
abbrev g9(n:Nat):Y Bd:=List.replicate n (0,ż)
def b8:aw:=("","",0)
def RS(gs ss:Y Str)(os:Y aw):Y ak:=sI (g9 os.length) (lH gs ss os)
def dU(gs:Y Str)(os:Y aw)(j:Nat):Nat:=gs.idxOf (os.getD j b8).1
def eu(ss:Y Str)(os:Y aw)(j:Nat):Nat:=ss.idxOf (os.getD j b8).2.1
def jP(n:Nat):Y ak:=(List.range n).map λk=>(cT n k,0)
def wc(n k:Nat):iw (g9 n) k=(0,ż):=by unfold iw;rw[LJ,Nw];split<;>rfl
def ka(gs ss:Y Str)(os:Y aw):RS gs ss os=jP os.length++(eT gs os++ss.map (lj os)):=by
 unfold RS sI
 have a:(List.range (g9 os.length).length).map (j9 (g9 os.length))=jP os.length:=by unfold jP;rw[MW];refine NV λk _=>?_;unfold j9;rw[wc,MW]
 have c:(List.range (g9 os.length).length).filter (fU (g9 os.length))=[]:=QO.mpr λk _=>by unfold fU;rw[wc];simp
 rw[a,c,Pw,ML];rfl
def ik(n:Nat):(jP n).length=n:=by unfold jP;rw[LC,L4]
def i8(gs ss:Y Str)(os:Y aw):(RS gs ss os).length=os.length+2*gs.length+ss.length:=by rw[ka,LL,LL,ik,h8,LC];omega
def pb{rs:Y ak}{k:Nat}{r:ak}(h:rs[k]?=Z r):ah rs (k:Int)=r:=by unfold ah;rw[MG,LJ,h];rfl
def qB{gs ss:Y Str}{os:Y aw}{k:Nat}(h:k<os.length):ah (RS gs ss os) (k:Int)=(cT os.length k,0):=by refine pb ?_;rw[ka,LF (by rwa[ik])];unfold jP;rw[LN,Mp h];rfl
def Ih{os:Y aw}{g:Str}:∀{gs:Y Str}{i:Nat},gs[i]?=Z g->(eT gs os)[2*i]?=Z (fC os g)/\(eT gs os)[2*i+1]?=Z (fK (fC os g)):=by
 intro gs
 induction gs with
 |nil=>intro i h;cases h
 |cons x gs a=>
  intro i h;have e:eT (x::gs) os=fC os x::fK (fC os x)::eT gs os:=rfl;rw[e]
  cases i with
  |zero=>cases h;show⟨O,O⟩
  |succ i=>show a h
def vv{gs ss:Y Str}{os:Y aw}{i:Nat}{g:Str}(h:gs[i]?=Z g):ah (RS gs ss os) ((os.length+2*i:Nat):Int)=fC os g/\ah (RS gs ss os) ((os.length+2*i+1:Nat):Int)=fK (fC os g):=by
 have e:=aO h;let⟨a,c⟩:=Ih (os:=os) h;refine⟨pb ?_,pb ?_⟩
 ·rw[ka,LH (by rw[ik];omega),ik,LF (by rw[h8];omega),←a];congr 1;omega
 ·rw[ka,LH (by rw[ik];omega),ik,LF (by rw[h8];omega),←c];congr 1;omega
def yz{gs ss:Y Str}{os:Y aw}{k:Nat}{x:Str}(h:ss[k]?=Z x):ah (RS gs ss os) ((os.length+2*gs.length+k:Nat):Int)=lj os x:=by
 refine pb ?_;rw[ka,LH (by rw[ik];omega),ik,LH (by rw[h8];omega),h8,LN]
 have e:os.length+2*gs.length+k-os.length-2*gs.length=k:=by omega
 rw[e,h];rfl
def xt{os:Y aw}{j:Nat}(h:j<os.length):os[j]?=Z (os.getD j b8):=bE h
def uJ{os:Y aw}{f:aw->Str}{g:Str}{j:Nat}(h:j<os.length):(dw (os.map f) g).getD j 0=if f (os.getD j b8)=g then 1 else 0:=by unfold dw;rw[LJ,LN,LN,xt h];rfl
def xi{xs:Y Int}{j:Nat}(h:j<xs.length):(xs.map (- ·)).getD j 0 = -xs.getD j 0:=by rw[LJ,LN,bE (d:=0) h];rfl
def kj{xs:Y Str}{i:Nat}{g x:Str}(c:xs.Nodup)(a:xs[i]?=Z g)(h:x∈xs):x=g↔xs.idxOf x=i:=by let⟨l,rfl⟩:=L9.mp a;refine⟨λe=>by rw[e];show c.idxOf_getElem i l,λe=>?_⟩;subst e;show (Qd l).symm
structure Pos(n G Q:Nat)(g s:Nat->Nat):Prop where
 g:∀j,j<n->g j<G
 s:∀j,j<n->s j<Q
def SeatOk.og{gs ss:Y Str}{os:Y aw}(h:SeatOk gs ss os){j:Nat}(a:j<os.length):(os.getD j b8).1∈gs:=h.o.g _ (cm a)
def SeatOk.os_{gs ss:Y Str}{os:Y aw}(h:SeatOk gs ss os){j:Nat}(a:j<os.length):(os.getD j b8).2.1∈ss:=h.o.s _ (cm a)
def SeatOk.pos{gs ss:Y Str}{os:Y aw}(h:SeatOk gs ss os):Pos os.length gs.length ss.length (dU gs os) (eu ss os):=
 ⟨λj a=>N1 (h.og a),λj a=>N1 (h.os_ a)⟩
def rQ{gs ss:Y Str}{os:Y aw}(h:SeatOk gs ss os){r j:Nat}(A:r<(RS gs ss os).length)(p:j<os.length):aL (RS gs ss os) r j=Wk.seatRow os.length gs.length (dU gs os) (eu ss os) r j:=by
 rw[i8]at A;unfold aL Wk.seatRow;by_cases c:r<os.length
 ·rw[LI c,qB c];change (cT os.length r).getD j 0=_;rw[r6 p];unfold Wk.un;rfl
 rw[LG c];by_cases u:r<os.length+2*gs.length
 ·rw[LI u];obtain⟨i,y⟩:∃i,i=(r-os.length)/2:=⟨_,O⟩;have v:gs[i]?=Z (gs.getD i ""):=bE ();let⟨a1,a2⟩:=vv (ss:=ss) (os:=os) v;have g:=kj h.gn v (h.og p)
  have B:(dw (os.map (·.1)) (gs.getD i "")).getD j 0=if dU gs os j=i then 1 else 0:=by
   rw[uJ p];by_cases d:(os.getD j b8).1=gs.getD i ""
   ·rw[LI d,LI (show dU gs os j=i from g.mp d)]
   ·rw[LG d,LG (show ¬ dU gs os j=i from λe=>d (g.mpr e))]
  rw[←y];by_cases m:(r-os.length) % 2=0
  ·have l:r=os.length+2*i:=by omega
   rwa[LI m,l,a1]
  ·have l:r=os.length+2*i+1:=by omega
   rw[LG m,l,a2];change ((dw (os.map (·.1)) (gs.getD i "")).map (- ·)).getD j 0=_;rw[xi (by rwa[ly,LC]),B];split<;>rfl
 ·rw[LG u];obtain⟨k,z⟩:∃k,k=r-os.length-2*gs.length:=⟨_,O⟩;have x:ss[k]?=Z (ss.getD k ""):=bE ();have a:=yz (gs:=gs) (os:=os) x;have g:=kj h.sn x (h.os_ p)
  have l:r=os.length+2*gs.length+k:=by omega
  rw[←z,l,a];change ((dw (os.map (·.2.1)) (ss.getD k "")).map (- ·)).getD j 0=_;rw[xi (by rwa[ly,LC]),uJ (f:=λo=>o.2.1) p];by_cases d:(os.getD j b8).2.1=ss.getD k ""
  ·rw[LI d,LI (show eu ss os j=k from g.mp d)]
  ·rw[LG d,LG (show ¬ eu ss os j=k from λe=>d (g.mpr e))];rfl
def uF{gs ss:Y Str}{os:Y aw}{r:Nat}(l:r<(RS gs ss os).length):BL (RS gs ss os) r=Wk.seatB os.length gs.length r:=by
 rw[i8]at l;unfold BL Wk.seatB;by_cases c:r<os.length
 ·rw[LI c,qB c]
 rw[LG c];by_cases h:r<os.length+2*gs.length
 ·obtain⟨i,p⟩:∃i,i=(r-os.length)/2:=⟨_,O⟩;have j:gs[i]?=Z (gs.getD i ""):=bE ();let⟨a1,a2⟩:=vv (ss:=ss) (os:=os) j;by_cases m:(r-os.length) % 2=0
  ·have g:r=os.length+2*i:=by omega
   rw[LI ⟨h,m⟩,g,a1];rfl
  ·have g:r=os.length+2*i+1:=by omega
   rw[LG λe=>m e.2,g,a2];rfl
 ·obtain⟨k,u⟩:∃k,k=r-os.length-2*gs.length:=⟨_,O⟩;have o:ss[k]?=Z (ss.getD k ""):=bE ();have a:=yz (gs:=gs) (os:=os) o
  have g:r=os.length+2*gs.length+k:=by omega
  rw[LG λe=>h e.1,g,a];rfl
def nN{gs ss:Y Str}{os:Y aw}{r:ak}(h:r∈RS gs ss os):r.1.length=os.length/\(∀x∈r.1,x.natAbs<=1)/\r.2.natAbs<=1:=by
 have c:∀(f:aw->Str)(g:Str),∀x∈dw (os.map f) g,x.natAbs<=1:=λf g x a=>by let⟨y,_,rfl⟩:=LY.mp (show x∈List.map _ _ from a);split<;>decide
 have ml:∀(f:aw->Str)(g:Str),(dw (os.map f) g).length=os.length:=λf g=>by rw[ly,LC]
 have e:∀(f:aw->Str)(g:Str),(fK (dw (os.map f) g,1)).1.length=os.length/\(∀x∈(fK (dw (os.map f) g,1)).1,x.natAbs<=1)/\(fK (dw (os.map f) g,1)).2.natAbs<=1:=λf g=>by
  refine⟨by change (List.map _ _).length=_;rw[LC];show ml f g,λx a=>?_,show Int.natAbs (-1)<=1 from by decide⟩;let⟨y,j,rfl⟩:=LY.mp (show x∈List.map _ _ from a);rw[Oy];show c f g y j
 rw[ka]at h;rcases Mf.mp h with h|h
 ·let⟨k,_,rfl⟩:=LY.mp (show r∈List.map _ _ from h);refine⟨sy _ _,λx a=>?_,show Int.natAbs 0<=1 from by decide⟩;let⟨y,_,rfl⟩:=LY.mp (show x∈List.map _ _ from a);split<;>decide
 rcases Mf.mp h with h|h
 ·let⟨g,_,h⟩:=QF.mp (show r∈List.flatMap _ _ from h);rcases L0.mp h with rfl|h
  ·show⟨ml _ g,c _ g,show Int.natAbs 1<=1 from by decide⟩
  ·rw[LV.mp h];show e _ g
 ·let⟨g,_,rfl⟩:=LY.mp h;show e _ g
def xu{n:Nat}(h:n<=1):n<=2^900:=L6 h (Nat.one_le_two_pow)
def cB(os:Y aw):Y Int:=os.map (·.2.2)
def SeatOk.first{gs ss:Y Str}{os:Y aw}(h:SeatOk gs ss os):FirstOk (RS gs ss os) (cB os) os.length:=by
 have hl:=h.l;have ol:=h.ol;have rl:=i8 gs ss os;refine⟨⟨λr a=>(nN a).1,λr a x c=>xu ((nN a).2.1 x c),λr a=>xu (nN a).2.2,ol,(),()⟩,⟨by unfold cB;rw[LC],λx c=>?_⟩,.inl ?_,λk e=>by rw[qB e]⟩
 ·let⟨o,g,rfl⟩:=LY.mp (show x∈List.map _ _ from c);show L6 (MC (h.o.b o g)) (NR 'b' 'b')
 ·show L6 (NR (n:=2) 'b' (show (RS gs ss os).length<=20 by omega)) 'b'
def SeatOk.bot{gs ss:Y Str}{os:Y aw}(h:SeatOk gs ss os){sd:Std}(a:Wf (RS gs ss os) os.length sd):sd.bot=1:=
 Wk.Ok.seat (g:=dU gs os) (s:=eu ss os) (G:=gs.length) a.ok λk j e c=>rQ h (a.ok.lt k e) c
def qX(rs:Y ak)(x:Y Int)(y:Int):Prop:=∀r∈rs,r.2*y<=aM r.1 x
def PtOk.at{rs:Y ak}{m:Nat}{p:ak}(h:PtOk rs m p):qX rs p.1 p.2:=λr a=>(h.met r a).2.2
def EndlOk.at{rs:Y ak}{goal:Y Int}{m:Nat}{p:ak}{ray:Y Int}(h:EndlOk rs goal m p ray):qX rs ray 0:=λr a=>by have:=h.up r a;rwa[MA]
theorem tI:∀{xs ys:Y (Int×Int)},xs.Perm ys->xs.Pairwise (λa b=>a.1<b.1)->ys.Pairwise (λa b=>a.1<b.1)->xs=ys
 | [],ys,h,_,_=>(List.Perm.nil_eq h)
 |x::xs,[],h,_,_=>absurd h (by intro h;have:=h.length_eq;simp at this)
 |x::xs,y::ys,h,l,m=>by
  have j:=Qe.mp l;have g:=Qe.mp m
  have e:x=y:=by
   have o:x∈y::ys:=h.mem_iff.mp LQ;have p:y∈x::xs:=h.mem_iff.mpr LQ;rcases L0.mp o with c|c
   ·show c
   ·rcases L0.mp p with d|d
    ·show d.symm
    ·have:=g.1 x c;have:=j.1 y d;omega
  subst e;rw[tI (List.Perm.cons_inv h) j.2 g.2]
theorem End.uniq{rs:Y ak}{goal:Y Int}{sd:Std}{d d':D}(o:sd.held.Nodup)(hl:sd.held.length=sd.ways.length)(h:End rs goal sd d)(h':End rs goal sd d'):d=d':=by
 cases h with
 |non q qs a1 a2 a3 a4=>
  cases h' with
  |non m j b1 a c g=>
   have e:=a1.uniq b1;subst e;rw[tI (a3.trans c.symm) a4 g]
  |best j b1 a c g=>show (a1.met b1).elim
  |endl l b1 a c=>show (a1.met b1).elim
 |best qs a1 a2 a3 a4=>
  cases h' with
  |non m j b1 a c g=>show (b1.met a1).elim
  |best j b1 a c g=>rw[tI (a3.trans c.symm) a4 g]
  |endl l b1 a c=>show (a.off a2).elim
 |endl p a1 a2 a3=>
  cases h' with
  |non m j b1 a c g=>show (b1.met a1).elim
  |best j b1 a c g=>show (a2.off a).elim
  |endl l b1 a c=>
   have e:=a2.uniq o (by rwa[cP]) a;subst e;rfl
theorem uA{f:D->D->Ž Bool}:∀{xs:Y D},(∀x∈xs,f x x=Z ž)->fg f xs xs=Z ž
 | [],_=>rfl
 |x::xs,h=>by change ((f x x).bind λb=>(fg f xs xs).map (b&&·))=_;rw[h x LQ,uA λy a=>h y (LO _ a)];rfl
def vo{n:Nat}(i:Int):cf (n+1) (.int i) (.int i)=Z ž:=by change Z (i==i)=_;rw[MH]
def mO{n:Nat}{xs:Y D}(h:∀x∈xs,cf n x x=Z ž):cf (n+1) (.tup xs) (.tup xs)=Z ž:=uA h
theorem vO(val:Nat->ai):∀i,(cF val i).Nodup
 |0=>PY
 |i+1=>by
  have g:=vO val i;change (L2.stepK (cF val i) (val i)).Nodup;unfold L2.stepK;split
  ·show g
  ·rename_i h;rw[MI];refine⟨g,by simp,λa j b c e=>h ?_⟩;rw[LV]at c;show Qx.mpr ⟨a,j,Md (e.trans c)⟩
def J0(ss:Y Str):ai->Nat
 |.inr s=>ss.idxOf s
 |.inl _=>0
def Bk{xs:Y Str}{a b:Str}(h:a∈xs)(j:b∈xs)(e:xs.idxOf a=xs.idxOf b):a=b:=by
 have c:=Qd (N1 h);have g:=Qd (N1 j);rw[←c,←g];congr 1
def Gw{ss:Y Str}{os:Y aw}{gr:Y Str}(j:∀o∈os,o.2.1∈ss):∃L:Y Nat,L.Nodup/\L.length=fM os gr/\∀q∈L,∃o∈os,o.1∈gr/\ss.idxOf o.2.1=q:=by
 have mem:∀k,k∈cF (λi=>((gY os gr).map iL).getD i (.inl 0)) ((gY os gr).map iL).length->∃o∈os,o.1∈gr/\k=.inr o.2.1:=λk g=>by have h:=(DU (LM _)).mp g;rw[M3]at h;let⟨o,c,e⟩:=LY.mp h;let⟨p,r⟩:=MF.mp c;show⟨o,p,Mm r,e.symm⟩
 refine⟨(cF (λi=>((gY os gr).map iL).getD i (.inl 0)) ((gY os gr).map iL).length).map (J0 ss),?_,by rw[LC];rfl,λq hq=>?_⟩
 ·unfold List.Nodup;rw[N8];refine OU (λ{a b} u v m e=>m ?_) (vO _ _);let⟨o,c,_,rfl⟩:=mem a u;let⟨o',l,_,rfl⟩:=mem b v;show MR Ô (Bk (j o c) (j o' l) e)
 ·let⟨k,g,rfl⟩:=LY.mp hq;let⟨o,c,x,rfl⟩:=mem k g;show⟨o,c,x,O⟩
theorem kN(r:Int):∀(qs:Y (Int×Int))(o:Ž Int),qs.foldl (λa q=>if r=q.1 then Z q.2 else a) o=(eF qs r).or o
 | [],o=>rfl
 |q::qs,o=>by
  have e:eF (q::qs) r=(eF qs r).or (if r=q.1 then Z q.2 else ż):=kN r qs _;rw[e];refine (kN r qs _).trans ?_
  cases eF qs r with
  |some v=>rfl
  |none=>by_cases c : r = q.1
         ·change (if r = q.1 then Z q.2 else o) = (if r = q.1 then Z q.2 else ż).or o;rw [LI c, LI c]; rfl
         ·change (if r = q.1 then Z q.2 else o) = (if r = q.1 then Z q.2 else ż).or o;rw [LG c, LG c]; rfl
theorem xK{r:Int}:∀{qs:Y (Int×Int)},(∀s∈qs,r≠s.1)->eF qs r=ż
 | [],_=>rfl
 |q::qs,h=>by have e:eF (q::qs) r=(eF qs r).or (if r=q.1 then Z q.2 else ż):=kN r qs _;rw[e,xK λs a=>h s (LO _ a),LG (h q LQ)];rfl
def Hh{q:Int×Int}{qs:Y (Int×Int)}(h:∀s∈qs,q.1<s.1)(r:Int):wt (q::qs) r=wt qs r+if r=q.1 then q.2 else 0:=by
 have e:eF (q::qs) r=(eF qs r).or (if r=q.1 then Z q.2 else ż):=kN r qs _;unfold wt;rw[e];by_cases c:r=q.1
 ·rw[xK λs a=>by have:=h s a;omega,LI c,LI c];change q.2=0+q.2;omega
 ·rw[LG c,LG c,QA];cases eF qs r<;>rfl
theorem yD{r:Int}:∀{qs:Y (Int×Int)},(∀s∈qs,1<=s.2)->0<=wt qs r
 | [],_=>Ni 0
 |q::qs,h=>by
  have e:eF (q::qs) r=(eF qs r).or (if r=q.1 then Z q.2 else ż):=kN r qs _;have a:=yD (r:=r) (qs:=qs) λs g=>h s (LO _ g);have hq:=h q LQ;unfold wt at a ⊢;rw[e]
  cases c:eF qs r with
  |some v=>rw[c]at a;show a
  |none=>
   change 0<=(if r=q.1 then Z q.2 else ż:Ž Int).getD 0;split
   ·change 0<=q.2;omega
   ·show Ni 0
theorem wm{M:Nat}(c:Int->Int):∀{qs:Y (Int×Int)},qs.Pairwise (λa b=>a.1<b.1)->(∀s∈qs,0<=s.1/\s.1<M)->(qs.map λs=>s.2*c s.1).sum=Wk.sm M λr=>wt qs (r:Int)*c (r:Int)
 | [],_,_=>by
  rw[Wk.sm_congr (g:=λ_=>0) λi _=>by change (0:Int)*_=0;omega,Wk.sm_zero];rfl
 |q::qs,hp,hok=>by
  let⟨l,m⟩:=Qe.mp hp;let⟨k0,x⟩:=hok q LQ;have p:=wm (M:=M) c m λs o=>hok s (LO _ o)
  have j:Wk.sm M (λr=>wt (q::qs) (r:Int)*c (r:Int))=Wk.sm M λr=>wt qs (r:Int)*c (r:Int)+(if (r:Int)=q.1 then q.2 else 0)*c (r:Int):=Wk.sm_congr λr _=>by rw[Hh l,P4]
  have h:Wk.sm M (λr=>(if (r:Int)=q.1 then q.2 else 0)*c (r:Int))=(if ((q.1.toNat:Nat):Int)=q.1 then q.2 else 0)*c ((q.1.toNat:Nat):Int):=Wk.sm_one (k:=q.1.toNat) () λi v u=>by change (if (i:Int)=q.1 then q.2 else 0)*c (i:Int)=0;rw[LG (),Nt]
  have e:((q.1.toNat:Nat):Int)=q.1:=by omega
  rw[e,LI O]at h;rw[L5,MJ,p,j,Wk.sm_add,h];omega
def pG(qs:Y (Int×Int))(n i:Nat):Int:=wt qs ((n+2*i+1:Nat):Int)-wt qs ((n+2*i:Nat):Int)
def pS(qs:Y (Int×Int))(n G k:Nat):Int:=wt qs ((n+2*G+k:Nat):Int)
structure ShS(gs ss:List Str)(os:List aw)(qs:List (Int×Int)):Prop where
 pw:qs.Pairwise (λa b=>a.1<b.1)
 ok:∀s∈qs,(0<=s.1/\s.1<(RS gs ss os).length)/\1<=s.2
def ShS.at{gs ss:Y Str}{os:Y aw}{qs:Y (Int×Int)}(e:SeatOk gs ss os)(h:ShS gs ss os qs):∀a:Int->Int,(qs.map λs=>s.2*a s.1).sum=Wk.sm (os.length+2*gs.length+ss.length) λr=>wt qs (r:Int)*a (r:Int):=λa=>by
 refine wm a h.pw λs c=>?_;have:=(h.ok s c).1;rw[i8]at this;show this
def ShS.row{gs ss:Y Str}{os:Y aw}{qs:Y (Int×Int)}(c:SeatOk gs ss os)(h:ShS gs ss os qs){j:Nat}(a:j<os.length):fN (RS gs ss os) qs j=wt qs (j:Int)-pG qs os.length (dU gs os j)-pS qs os.length gs.length (eu ss os j):=by
 have p:=c.pos;refine (h.at c λr=>(ah (RS gs ss os) r).1.getD j 0).trans ?_;have t:=Wk.seat_col (Q:=ss.length) (λr=>wt qs (r:Int)) a (p.g j a) (p.s j a);rw[←Wk.sm_congr λr e=>by rw[←rQ c (by rwa[i8]) a]]at t;show t
def ShS.bnd{gs ss:Y Str}{os:Y aw}{qs:Y (Int×Int)}(a:SeatOk gs ss os)(h:ShS gs ss os qs):dq (RS gs ss os) qs = -(Wk.sm gs.length (pG qs os.length))-Wk.sm ss.length (pS qs os.length gs.length):=by
 refine (h.at a λr=>(ah (RS gs ss os) r).2).trans ?_;have t:=Wk.seat_bnd (n:=os.length) (G:=gs.length) (Q:=ss.length) (λr=>wt qs (r:Int));rw[←Wk.sm_congr λr c=>by rw[←uF (by rwa[i8])]]at t;show t
def ShS.nn{gs ss:Y Str}{os:Y aw}{qs:Y (Int×Int)}(h:ShS gs ss os qs)(r:Int):0<=wt qs r:=yD λs a=>(h.ok s a).2
def rj(qs:Y (Int×Int))(n G:Nat):dJ qs n G=(List.range G).map (pG qs n):=rfl
def mK(qs:Y (Int×Int))(n G Q:Nat):iz qs n G Q=(List.range Q).map (pS qs n G):=rfl
def DM{gs:Y Str}{p:Nat->Int}{t:Int}{g:Str}(h:g∈dY gs ((List.range gs.length).map p) t):∃i,gs[i]?=Z g/\p i<=t:=by
 let⟨x,m,rfl⟩:=LY.mp (show g∈List.map _ _ from h);let⟨e,j⟩:=MF.mp m;let⟨i,l⟩:=NK.mp e;let⟨c,a⟩:=Nn.mp l;have hl:=aO c;rw[LN,Mp hl]at a;have a:p i=x.2:=Mw a;show⟨i,c,by rw[a];show Mm j⟩
def DO{gs:Y Str}{p:Nat->Int}{t:Int}:(dY gs ((List.range gs.length).map p) t).length=((List.range gs.length).filter λi=>decide (p i<=t)).length:=by
 have e:(gs.zip ((List.range gs.length).map p)).map (·.2)=(List.range gs.length).map p:=List.map_snd_zip (by rw[LC,L4];show LM _);unfold dY;rw[LC,←NX,←NX]
 have a:List.countP (λx:Str×Int=>decide (x.2<=t)) (gs.zip ((List.range gs.length).map p))=List.countP (λy:Int=>decide (y<=t)) ((gs.zip ((List.range gs.length).map p)).map (·.2)):=by rw[PM];rfl
 rw[a,e,PM];rfl
def pC{gs:Y Str}(a:gs.Nodup){i:Nat}{g:Str}(h:gs[i]?=Z g):gs.idxOf g=i:=(kj a h (Mb h)).mp O
def Ap{gs ss:Y Str}{os:Y aw}{qs:Y (Int×Int)}(c:SeatOk gs ss os)(h:NonOk (RS gs ss os) os.length qs):∃t∈dJ qs os.length gs.length,fM os (dY gs (dJ qs os.length gs.length) t)<(dY gs (dJ qs os.length gs.length) t).length:=by
 have S:ShS gs ss os qs:=⟨h.pw,λs l=>⟨(h.ok s l).1,(h.ok s l).2.1⟩⟩;have pos:=c.pos;have v:=h.bnd;rw[S.bnd c]at v
 let⟨k,z,u⟩:=Wk.crowd_group (n:=os.length) (G:=gs.length) (Q:=ss.length) (p:=pG qs os.length) (b:=pS qs os.length gs.length) (g:=dU gs os) (s:=eu ss os) (λq _=>S.nn _) (by
  rw[Wk.sm_list,Wk.sm_list];have:=Wk.sm_mul (-1) (pG qs os.length) gs.length
  have e:Wk.sm gs.length (λi=>-pG qs os.length i)=Wk.sm gs.length λi=>-1*pG qs os.length i:=Wk.sm_congr λi _=>by omega
  rw[e,this]
  omega) λj a=>⟨pos.s j a,by
   have r:=S.row c a;rw[h.row j a]at r;have:=S.nn (j:Int)
   omega⟩
 refine⟨pG qs os.length k,LY.mpr ⟨k,Mi.mpr z,O⟩,?_⟩;rw[rj,DO];let⟨L,C,E,F⟩:=Gw (gr:=dY gs ((List.range gs.length).map (pG qs os.length)) (pG qs os.length k)) c.o.s;rw[←E];refine u L C λq hq=>?_;let⟨o,B,x,rfl⟩:=F q hq;let⟨j,a⟩:=NK.mp B;have m:=aO a
 have e:os.getD j b8=o:=by rw[LJ,a];rfl
 let⟨i,y,A⟩:=DM x;refine⟨j,m,?_,by unfold eu;rw[e]⟩;unfold dU;rwa[e,pC c.gn y]
def r9{gs ss:Y Str}{os:Y aw}(g:SeatOk gs ss os){x:Y Int}{y:Int}(o:x.length=os.length)(m:qX (RS gs ss os) x y):Wk.SeatM os.length gs.length ss.length (dU gs os) (eu ss os) (λj=>x.getD j 0) y:=by
 refine Wk.seat_met λr p=>?_
 have c:r<(RS gs ss os).length:=by rwa[i8]
 have a:=fY (rs:=RS gs ss os) (k:=(r:Int)) () ();have h:=m _ a;rw[gT (nN a).1 o]at h;rw[←uF c]
 have e:Wk.dt os.length (Wk.seatRow os.length gs.length (dU gs os) (eu ss os) r) (λj=>x.getD j 0)=Wk.dt os.length (λi=>(ah (RS gs ss os) (r:Int)).1.getD i 0) (λj=>x.getD j 0):=Wk.sm_congr λj l=>by rw[←rQ g c l];rfl
 rwa[e]
def Gi{gs ss:Y Str}{os:Y aw}(a:SeatOk gs ss os){p:ak}{ray:Y Int}(h:EndlOk (RS gs ss os) (cB os) os.length p ray):False:=by
 have M:=r9 a h.len h.at;have z:=M.ray a.pos.g;have g:=h.grow;rw[gT (by unfold cB;rw[LC]) h.len]at g;unfold Wk.dt at g;rw[Wk.sm_congr (g:=λ_=>0) λj c=>by change _*ray.getD j 0=0;rw[z j c,MA],Wk.sm_zero]at g;omega
def iS(ps:Y (Str×Str))(g:Str):Ž Str:=ps.foldl (λa p=>if g=p.1 then Z p.2 else a) ż
def fL(os:Y aw)(x:Y Int):Y (Str×Str):=((os.zip x).filter λz=>decide (z.2=1)).map λz=>(z.1.1,z.1.2.1)
def i4(gs:Y Str)(os:Y aw)(x:Y Int):Y Str:=gs.map λg=>(iS (fL os x) g).getD ""
def xp(p:Str×Str):ai×D:=(.inr p.1,.str p.2)
theorem vc(g:Str):∀(ps:Y (Str×Str))(j:Y (ai×D))(o:Ž Str),bj j (.inr g)=o.map D.str->bj (js j (ps.map xp)) (.inr g)=(ps.foldl (λa p=>if g=p.1 then Z p.2 else a) o).map D.str
 | [],_,_,h=>h
 |q::ps,j,o,h=>by
  refine vc g ps _ _ ?_;change bj (fu j (.inr q.1) (.str q.2)) (.inr g)=_;rw[uG];change _=ŭ D.str (if g=q.1 then Z q.2 else o);by_cases c:g=q.1
  ·rw[LI (by rw[c]),LI c];rfl
  ·rwa[LG (λe=>c (Ĕ e)),LG c]
theorem tG{g v:Str}:∀{ps:Y (Str×Str)}{o:Ž Str},(∀p∈ps,p.1=g->p.2=v)->(o=ż\/o=Z v)->((∃p∈ps,p.1=g)\/o=Z v)->ps.foldl (λa p=>if g=p.1 then Z p.2 else a) o=Z v
 | [],o,_,_,h=>by
  rcases h with⟨p,hp,_⟩|h
  ·cases hp
  ·show h
 |q::ps,o,h,m,j=>by
  by_cases c:g=q.1
  ·have e:(if g=q.1 then Z q.2 else o)=Z v:=by rw[LI c,h q LQ c.symm]
   show tG (ps:=ps) (o:=if g=q.1 then Z q.2 else o) (λp hp=>h p (LO _ hp)) (.inr e) (.inr e)
  ·have e:(if g=q.1 then Z q.2 else o)=o:=LG c;refine tG (ps:=ps) (o:=if g=q.1 then Z q.2 else o) (λp hp=>h p (LO _ hp)) (by rwa[e]) ?_;rw[e];rcases j with⟨p,hp,l⟩|j
   ·rcases L0.mp hp with rfl|hp
    ·show absurd l.symm c
    ·show .inl ⟨p,hp,l⟩
   ·show .inr j
structure SeatF(gs ss:List Str)(os:List aw)(J:Nat->Nat)(rows:List Str)(joy:Int)(Rm Rg:List Int):Prop where
 lt:∀i,i<gs.length->J i<os.length
 at_:∀i,i<gs.length->dU gs os (J i)=i
 ne:∀i k,i<gs.length->k<gs.length->i≠k->eu ss os (J i)≠eu ss os (J k)
 rl:rows.length=gs.length
 rws:∀i,i<gs.length->rows.getD i ""=(os.getD (J i) b8).2.1
 jy:joy=Wk.sm gs.length λi=>(os.getD (J i) b8).2.2
 ml:Rm.length=gs.length
 tl:Rg.length=ss.length
 nn:∀x∈Rg,0<=x
 up:∀j,j<os.length->(os.getD j b8).2.2<=Rm.getD (dU gs os j) 0+Rg.getD (eu ss os j) 0
 sum:Rm.sum+Rg.sum=joy
def Fb{os:Y aw}{x:Y Int}{p:Str×Str}(h:p∈fL os x):∃j,j<os.length/\j<x.length/\x.getD j 0=1/\p=((os.getD j b8).1,(os.getD j b8).2.1):=by
 let⟨z,m,rfl⟩:=LY.mp (show p∈List.map _ _ from h);let⟨e,g⟩:=MF.mp m;let⟨j,l⟩:=NK.mp e;let⟨a,c⟩:=Nn.mp l;refine⟨j,aO a,aO c,?_,?_⟩
 ·rw[LJ,c];show Mm g
 ·rw[LJ,a];rfl
def KA{os:Y aw}{x:Y Int}{j:Nat}(a:j<os.length)(c:j<x.length)(h:x.getD j 0=1):((os.getD j b8).1,(os.getD j b8).2.1)∈fL os x:=by refine LY.mpr ⟨(os.getD j b8,x.getD j 0),MF.mpr ⟨NK.mpr ⟨j,Nn.mpr ⟨bE a,bE c⟩⟩,Md h⟩,O⟩
def yG{gs ss:Y Str}{os:Y aw}(c:SeatOk gs ss os){x:Y Int}(z:x.length=os.length){J:Nat->Nat}(a:Wk.SeatJ os.length gs.length (dU gs os) (eu ss os) (λj=>x.getD j 0) J){i:Nat}{g:Str}(l:gs[i]?=Z g):iS (fL os x) g=Z (os.getD (J i) b8).2.1:=by
 have h:=aO l;have o:=a.lt i h;refine tG (λp hp e=>?_) (.inl O) (.inl ⟨_,KA o () (a.one i h),?_⟩)
 ·let⟨j,m,_,y,rfl⟩:=Fb hp;have v:dU gs os j=i:=(kj c.gn l (c.og m)).mp e
  have u:j=J i:=Mh λr=>by
   have:=a.off i h j m v r;have this:x.getD j 0=0:=this;omega
  rw[u]
 ·show (kj c.gn l (c.og o)).mpr (a.at_ i h)
def Jy{qs:Y (Int×Int)}{n G i:Nat}(h:i<G):(dJ qs n G).getD i 0=pG qs n i:=by rw[rj,LJ,LN,Mp h];rfl
def Ld{qs:Y (Int×Int)}{n G Q k:Nat}(h:k<Q):(iz qs n G Q).getD k 0=pS qs n G k:=by rw[mK,LJ,LN,Mp h];rfl
def HL{gs ss:Y Str}{os:Y aw}{x:Y Int}{qs:Y (Int×Int)}(e:SeatOk gs ss os)(h:BestOk (RS gs ss os) (cB os) os.length (x,1) qs 1):∃J,SeatF gs ss os J (i4 gs os x) (aM (cB os) x) (dJ qs os.length gs.length) (iz qs os.length gs.length ss.length):=by
 have S:ShS gs ss os qs:=⟨h.pw,λs v=>⟨(h.ok s v).1,(h.ok s v).2.1⟩⟩;have o:x.length=os.length:=h.pt.len;have M:=r9 e o h.pt.at;let⟨J,a⟩:=M.pick e.pos.s
 have A:(cB os).length=os.length:=by unfold cB;rw[LC]
 have r:∀j,j<os.length->(cB os).getD j 0=(os.getD j b8).2.2:=λj l=>by unfold cB;rw[LJ,LN,xt l];rfl
 have dj:aM (cB os) x=Wk.sm gs.length λi=>(os.getD (J i) b8).2.2:=by
  rw[gT A o];have t:=Wk.joy_sum (n:=os.length) (G:=gs.length) (x:=λj=>x.getD j 0) (joy:=λj=>(cB os).getD j 0) (g:=dU gs os) (J:=J) (λi c=>⟨a.lt i c,a.at_ i c,a.one i c,a.off i c⟩) e.pos.g;refine Eq.trans t (Wk.sm_congr λi c=>r _ (a.lt i c))
 refine⟨J,a.lt,a.at_,a.ne,by unfold i4;rw[LC],λi c=>?_,dj,pZ _ _ _,by rw[mK,LC,L4],λy z=>?_,λj l=>?_,?_⟩
 ·have u:gs[i]?=Z (gs.getD i ""):=bE c;unfold i4;rw[LJ,LN,u];change (iS (fL os x) (gs.getD i "")).getD ""=_;rw[yG e o a u];rfl
 ·rw[mK]at z;let⟨k,_,rfl⟩:=LY.mp z;show S.nn _
 ·have p:=e.pos;rw[Jy (p.g j l),Ld (p.s j l)];have m:=S.row e l;rw[h.row j l,r j l]at m;have:=S.nn (j:Int);omega
 ·have m:=h.bnd;rw[S.bnd e]at m;have m:(-(Wk.sm gs.length (pG qs os.length))-Wk.sm ss.length (pS qs os.length gs.length))*1 = -1*aM (cB os) x:=m;rw[rj,mK,Wk.sm_list,Wk.sm_list];omega
def BB{gs ss:Y Str}{os:Y aw}{x:Y Int}{qs:Y (Int×Int)}(a:SeatOk gs ss os)(h:BestOk (RS gs ss os) (cB os) os.length (x,1) qs 1){g:Str}(j:g∈gs):∃v,iS (fL os x) g=Z v:=by have c:x.length=os.length:=h.pt.len;let⟨J,e⟩:=(r9 a c h.pt.at).pick a.pos.s;let⟨i,l⟩:=NK.mp j;show⟨_,yG a c e l⟩
def x8(gs:Y Str)(os:Y aw)(qs:Y (Int×Int)):Y Str:=(lL gs os (dJ qs os.length gs.length)).getD 0 []
def Ah(gs:Y Str)(os:Y aw)(qs:Y (Int×Int)):D:=.tup [.str "none",.tup ((x8 gs os qs).map D.str)]
def D9(gs ss:Y Str)(os:Y aw)(x:Y Int)(qs:Y (Int×Int)):D:=.tup [.str "best",.tup ((i4 gs os x).map D.str),.int (aM (cB os) x),.tup ((dJ qs os.length gs.length).map D.int),.tup ((iz qs os.length gs.length ss.length).map D.int)]
inductive Sea(gs ss:List Str)(os:List aw)(d r:D):Prop
 |non (qs:List (Int×Int)):d=iF qs->r=Ah gs os qs->Crw gs os (dJ qs os.length gs.length) (x8 gs os qs)->Sea gs ss os d r
 |best (x:List Int) (qs:List (Int×Int)) (J:Nat->Nat):d=iI (x,1) qs 1->r=D9 gs ss os x qs->SeatF gs ss os J (i4 gs os x) (aM (cB os) x) (dJ qs os.length gs.length) (iz qs os.length gs.length ss.length)->Sea gs ss os d r
theorem oA{e:Type}{f:e->D}(c:∀a b,f a=f b->a=b):∀{xs ys:Y e},xs.map f=ys.map f->xs=ys
 | [],[],_=>rfl
 | [],_::_,h=>by cases h
 |_::_,[],h=>by cases h
 |x::xs,y::ys,h=>by rw[L5,L5]at h;injection h with h1 h2;rw[c x y h1,oA c h2]
def uR(a b:Int×Int)(h:bM a=bM b):a=b:=by
 let⟨a1,a2⟩:=a;let⟨b1,g⟩:=b;unfold bM at h;injection h with h;injection h with c h;injection h with e _;injection c with c;injection e with e;have c:a1=b1:=c;have e:a2=g:=e;rw[c,e]
def BA{a b:Y (Int×Int)}(h:iF a=iF b):a=b:=by unfold iF at h;injection h with h;injection h with _ h;injection h with h _;injection h with h;show oA uR h
def Kn{x y:Y Int}{a b:Y (Int×Int)}(h:iI (x,1) a 1=iI (y,1) b 1):x=y/\a=b:=by unfold iI ba at h;injection h with h;injection h with _ h;injection h with h1 h;injection h with h2 _;injection h1 with h1;injection h1 with h1 _;injection h1 with h1;injection h2 with h2;show⟨oA (λa b e=>by injection e) h1,oA uR h2⟩
def wR{a b:Y (Int×Int)}{p:ak}{d:Int}(h:iF a=iI p b d):False:=by unfold iF iI at h;injection h with h;injection h with h _;injection h with h;show absurd h 'b'
def Sea.uniq{gs ss:Y Str}{os:Y aw}{d r l:D}(h:Sea gs ss os d r)(h':Sea gs ss os d l):r=l:=by
 rcases h with⟨qs,c,g,_⟩|⟨x,qs,J,c,g,_⟩<;>rcases h' with⟨m,e,j,_⟩|⟨p,m,o,e,j,_⟩
 ·rw[g,j,BA (c.symm.trans e)]
 ·show (wR (c.symm.trans e)).elim
 ·show (wR (e.symm.trans c)).elim
 ·let⟨a,b⟩:=Kn (c.symm.trans e);rw[g,j,a,b]
structure SeaR(gs ss:List Str)(os:List aw)(r:D):Prop where
 ex:∃sd st j d,Hist (RS gs ss os) (cB os) os.length (gJ (RS gs ss os) os.length) sd st j/\Wf (RS gs ss os) os.length sd/\End (RS gs ss os) (cB os) sd d/\Sea gs ss os d r
def SeaR.uniq{gs ss:Y Str}{os:Y aw}{r g:D}(h:SeaR gs ss os r)(h':SeaR gs ss os g):r=g:=by
 let⟨sd,st,j,d,a1,a2,a3,a4⟩:=h.ex;let⟨p,o,u,d',b1,a,c,m⟩:=h'.ex;have hl:=a2.hl.trans a2.wl.symm;have l:=a.hl.trans a.wl.symm;have e:=a1.run.one b1.run (a3.stuck a2.nd hl) (c.stuck a.nd l);subst e;have e:=a3.uniq a2.nd hl c;subst e;show a4.uniq m
def SeaR.facts{gs ss:Y Str}{os:Y aw}{r:D}(h:SeaR gs ss os r):(∃gr ps,r=.tup [.str "none",.tup (gr.map D.str)]/\Crw gs os ps gr)\/∃J a joy l g,r=.tup [.str "best",.tup (a.map D.str),.int joy,.tup (l.map D.int),.tup (g.map D.int)]/\SeatF gs ss os J a joy l g:=by
 let⟨sd,st,j,d,_,_,_,a4⟩:=h.ex;rcases a4 with⟨qs,_,e,c⟩|⟨x,qs,J,_,e,c⟩
 ·show .inl ⟨_,_,e,c⟩
 ·show .inr ⟨J,_,_,_,_,e,c⟩
def Cj{ts:Y Int}:bw ts 1=1:=Pn (MS (kG 'b')) nu.2
inductive z_seating(ds:List D)(R:D->Prop):Prop|mk (gs ss:List Str) (os:List aw) (_:ds=[.tup (gs.map D.str),.tup (ss.map D.str),.tup (os.map aZ)]) (_:SeatOk gs ss os) (_:∀r,SeaR gs ss os r->R r)
def Ek(os:Y aw)(x:Y Int):eD (os.map aZ) (x.map D.int)=(os.zip x).map λz=>D.tup [aZ z.1,.int z.2]:=by unfold eD;rw[Qv,List.zip,Pe]
def Eu(F:Fun K "seating" "seating" jY f I)(T:Cl P w K mg base n "seat_plan" ["guests","seats","offers"] z_seat_plan)(am:Cl P w K mg base n "first" ["rows","goal"] z_first)(X:Cl P w K mg base n "givens" ["plan"] z_givens)(S:Cl P w K mg base n "prices" ["shares","guests","seats","offers"] z_prices)(be:Cl P w K mg base n "crowded_group" ["guests","offers","guest_prices"] z_crowded_group)(U:Cl P w K mg base n "worth" ["plan","spot"] z_worth)(kC:mg "dict"=ż)(aC:mg "tuple"=ż)(eO:mg "zip"=ż):FnOk P w K mg base aH (n+1) f I ["guests","seats","offers"] (lSpM K (zM z_seating)):=by
 refine F.okM qaC (λas R Rx h=>?_) (λRj A outer s H E as R Rx qs Rr m h R1=>?_)
 ·let⟨_,rfl,gs,ss,os,rfl,_⟩:=h;rfl
 let⟨_,rfl,gs,ss,os,rfl,a,q⟩:=h;obtain rfl:=iM R1
 refine⟨_,(aV (bt (i:=3) qaC.nd O Zg (aA (aK T m O (af (dv 0) (af (dv 1) (af (dv 2) aj aa) aa) aa) aa (ao aa (ao aa ag)))))
   (aV (bt (i:=4) qaC.nd O Zg (aA (aK am m O (af (aK X m O (af (dv 3) aj aa) aa ag) (af (aD (ae 3)) aj aF) aB) aB (ao aF ag))))
   (c8 (cN (dD (aX (cV m.units) (PD.q (aD (ae 4))) (PD.q bQ) (aY _))) (bg (cy (aA (bO (af bQ (af (aK be m O (af (dv 0) (af (dv 2) (af (aD (PD.q (aK S m O (af (aD (ae 4)) (af (dv 0) (af (dv 1) (af (dv 2) aj aa) aa) aa) aF) aF (ao aa (ao aa (ao aa ag)))))) aj aF) aa) aa) aa (ao aa (ao aF ag))) aj aB) aT))))) cQ)
   (aV (bt (i:=5) qaC.nd O Zg (aA (aD (PD.q (aD (ae 4))))))
   (aV (bt (i:=6) qaC.nd O (ð O) (aA (bW (yA O) O kC QN (aI (PD.q (PF.d (jF (k:=2) (N':=["offer","number"]) (cap:=[ż,ż]) O (.ok (show bC ["guests","seats","offers","plan","told","spot","taken","seats_taken"] (av jY) _ ["offer","number"] [ż,ż]=ž by lia)) 'a' (kT (n:=2) (gy (bA 'b') (gy (bA 'b') lJ))) (lN O eO (af (dv 2) (af (dv 5) aj aa) aa)) (λ_ _ _ _ _=>(jQ (n:=2) O (fA (bf (i:=0) (show List.Nodup (["offer","number"]:Y Str)by lia) O Zg) (fA (bf (i:=1) (show List.Nodup (["offer","number"]:Y Str)by lia) O Zg) kz)))) (λ_ _ _ _ _=>(gR (aX (cV m.units) (ae 1) (PD.q ax) (aY _)))) (λ_ _ _ _ _=>(bO (af (aD (ae 0)) (af (aD (ae 0)) aj aF) aF)))))) aG br) br ag)))
   (aV (bt (i:=7) qaC.nd O Zg (aA (bW bZ O aC LW (aI (PD.q (PF.d (de (k:=1) (N':=["guest","taken"]) (cap:=[ż,Z 6]) O (.ok (show bC ["guests","seats","offers","plan","told","spot","taken","seats_taken"] (av jY) _ ["guest","taken"] [ż,Z 6]=ž by lia)) 'a' (bA 'b') (bI (dv 0)) (λ_ _ _ _ _=>(bf (i:=0) (show List.Nodup (["guest","taken"]:Y Str)by lia) O Zg)) (λ_ _ _ _ _=>(AQ m.units (dv 1) (dv 0) (λ_ _=>rfl)))))) aG br) br ag)))
   (bg (cy (aA (aN cg (PD.q (bO (af bQ (af (dv 7) (af (aK U m O (af (dv 3) (af (dv 5) aj aa) aa) aa (ao aa ag)) aj aB) aa) aT))) (PD.q (aK S m O (af (aD (ae 4)) (af (dv 0) (af (dv 1) (af (dv 2) aj aa) aa) aa) aF) aF (ao aa (ao aa (ao aa ag))))))))))))))),?_⟩
 intro ke;have Sq:=a.ol;have hl:=a.l;have l:=a.first;refine⟨gs,ss,os,O,a,?_⟩;dsimp only[gZ,eG,di,e9,rO,iK,qx,List.set]
 have eb:(List.replicate os.length (D.tup [.int 0,.non]))=(g9 os.length).map jd:=by rw[List.map_replicate];rfl
 have eq:qG gs ss os=.tup [.tup ((g9 os.length).map jd),.tup ((lH gs ss os).map ba),.tup ((cB os).map D.int)]:=by unfold qG;rw[eb];rfl
 rw[eq];refine⟨g9 os.length,lH gs ss os,_,O,by rwa[MW],?_,?_⟩
 ·unfold lH;rw[LL,h8,LC];omega
 refine⟨_,O,RS gs ss os,cB os,os.length,O,l,λsd st j d a_ r hE=>?_⟩;dsimp only[gZ,eG,di,e9,rO,iK,qx,List.set]
 cases hE with
 |non q0 qs u o y B=>
  have hn:=Ku l.rw_ r u o y B;refine⟨λ_=>False,⟨_,O,λ_=>?_,λh=>(by cases h)⟩,λ_ z=>z.elim⟩;refine⟨_,O,qs,gs,ss,os,O,a,_,O,gs,os,dJ qs os.length gs.length,O,Sq,(),by rw[pZ];omega,Ap a hn,λgr N=>?_⟩;have e:=N.eq;subst e;show q _ ⟨sd,st,j,_,a_,r,.non q0 qs u o y B,.non qs O O N⟩
 |best qs u o y B=>
  have b1:=a.bot r;have G:=Js l.rw_ r l.gw u o y B;have Q:=sA l.rw_ r l.gw.1 l.gw.2 o;have L:cI sd (az sd (cB os))=1:=Pn (by have:=Q.d1;omega) ⟨_,(Q.dg.trans b1).symm⟩
  have M:cb sd.tops sd.bot=(sd.tops,1):=by
   unfold cb;rw[b1,Cj];refine Ĩ ?_ O;change sd.tops.map (·/1)=sd.tops;rw[NV (g:=λx=>x) λx _=>QX x,List.map_id']
  rw[L,M]at G;let⟨J,hJ⟩:=HL a G;have C:=End.best (rs:=RS gs ss os) (goal:=cB os) (sd:=sd) qs u o y B;rw[L,M]at C;rw[L,M];refine⟨λρ=>ρ=_,⟨_,O,λh=>(by cases h),λ_=>rfl⟩,?_⟩;rintro ρ rfl;refine⟨_,O,_,O,?_⟩;refine⟨_,_,O,O,?_⟩;rw[Ek];have xl:sd.tops.length=os.length:=r.tl;refine jA (f:=λz:aw×Int=>D.tup [aZ z.1,.int z.2]) (λz:aw×Int=>decide (z.2=1)) (λz=>D.tup [.str z.1.1,.str z.1.2.1]) (bo (by rw[QI];omega)) (λz _=>?_) ?_
  ·show⟨O,λc=>⟨_,O,_,O,Md (eq_of_beq c),O⟩,λc=>L7 λe=>by rw[e]at c;cases c⟩
  rw[kX]
  have ek:(((os.zip sd.tops).filter λz=>decide (z.2=1)).map λz=>D.tup [.str z.1.1,.str z.1.2.1])=((fL os sd.tops).map xp).map ia:=by unfold fL;rw[Mg,Mg];rfl
  rw[ek];refine⟨_,.inl O,?_⟩;refine gz (f:=D.str) (λg=>D.str ((iS (fL os sd.tops) g).getD "")) (bo ()) (λg hg=>⟨.inr g,_,O,?_,O⟩) ?_
  ·let⟨v,hv⟩:=BB a G hg;refine (vc g (fL os sd.tops) [] ż O).trans ?_;change (iS (fL os sd.tops) g).map D.str=_;rw[hv];rfl
  have et:(gs.map λg=>D.str ((iS (fL os sd.tops) g).getD ""))=(i4 gs os sd.tops).map D.str:=by unfold i4;rw[Mg];rfl
  rw[et];refine⟨_,_,cB os,sd.tops,O,by unfold cB;rw[LC];omega,λx hx=>dN (l.gw.2 x hx) 'b',G.pt.big.1,_,O,qs,gs,ss,os,O,a,?_⟩;refine⟨show 3+2<=sizeLine by decide,_,O,?_⟩;show q _ ⟨sd,st,j,_,a_,r,C,.best _ qs J O O hJ⟩
 |endl p u o y=>show (Gi a (CB l.rw_ r l.gw u o y)).elim
def Ej{c:Type}{f:c->D}{xs:Y c}{a:Int}{k:Nat}(e:a=(k:Int)):cE (xs.map f) ż (Z a)=(xs.take k).map f:=by rw[ye,e,E8]
def qc{xs:Y Str}{x:Str}(h:x∈xs)(hl:xs.length<=1000){R:D->Prop}(k:∀j:Nat,j<xs.length->xs[j]?=Z x->R (.int (j:Int))):l6 (.tup (xs.map D.str)) (.str x) R:=by
 have a:xs.findIdx (λs=>s==x)<xs.length:=List.findIdx_lt_length_of_exists ⟨x,h,MH x⟩;unfold l6;refine⟨by rwa[LC],xs.map (λs=>s==x),xs.findIdx (λs=>s==x),by simp,λi d b hd c=>?_,?_,λi g=>?_,k _ a ?_⟩
 ·let⟨s,rfl,l⟩:=dH hd;rw[LN,l]at c;cases c;rfl
 ·rw[LN,aS a];show MR Z (List.findIdx_getElem (p:=λs=>s==x))
 ·have e:i<xs.length:=by omega
  rw[LN,aS e];have:=List.not_of_lt_findIdx g;change Z (xs[i]==x)=Z β;simpa using this
 ·have:=List.findIdx_getElem (p:=λs=>s==x) (w:=a);rw[aS a];show MR Z (eq_of_beq this)
def wa{a b:Int}(h:a=b):(!(a==b))=β:=by rw[h,MH];rfl
def ve(n:Nat)(l:Y Str):cf (n+1) (.tup (l.map D.str)) (.tup (l.map D.str))=Z ž:=mO λx a=>by let⟨k,_,rfl⟩:=LY.mp a;cases n<;>(show Z (k==k)=_;rw[MH])
def uL(n:Nat)(l:Y Int):cf (n+2) (.tup (l.map D.int)) (.tup (l.map D.int))=Z ž:=mO λx a=>by let⟨i,_,rfl⟩:=LY.mp a;show vo i
def xj(s:Str):cf 39 (.str s) (.str s)=Z ž:=by change Z (s==s)=_;rw[MH]
def SeaR.same{gs ss:Y Str}{os:Y aw}{r:D}(h:SeaR gs ss os r):cf 40 r r=Z ž:=by
 rcases h.facts with⟨gr,ps,rfl,_⟩|⟨J,c,joy,g,e,rfl,_⟩
 ·show mO λx a=>by
   rcases L0.mp a with rfl|a
   ·show xj _
   ·rw[LV.mp a];show ve 38 gr
 ·show mO λx a=>by
   rcases L0.mp a with rfl|a
   ·show xj _
   rcases L0.mp a with rfl|a
   ·show ve 38 _
   rcases L0.mp a with rfl|a
   ·show vo _
   rcases L0.mp a with rfl|a
   ·show uL 37 _
   ·rw[LV.mp a];show uL 37 _
theorem um:∀{os:Y aw}{o:aw},(os.map j8).Nodup->o∈os->(os.filter λx=>decide (x.1=o.1)&&decide (x.2.1=o.2.1))=[o]
 |x::os,o,h,j=>by
  rw[L5,MB]at h;by_cases e:x=o
  ·subst e;rw[O1 (by simp)];congr 1;refine QO.mpr λy l c=>h.1 (LY.mpr ⟨y,l,?_⟩);let⟨a,g⟩:=Bool.and_eq_true_iff.mp c;show Ĩ (Mm a) (Mm g)
  ·have m:o∈os:=(L0.mp j).resolve_left λz=>e z.symm
   rw[O2 λc=>by
    let⟨a,g⟩:=Bool.and_eq_true_iff.mp c
    show h.1 (LY.mpr ⟨o,m,Ĩ (Mm a).symm (Mm g).symm⟩)]
   show um h.2 m
theorem uj:∀(gs:Y Str)(ps:Y Int),((gs.zip ps).map (·.1)).Sublist gs
 | [],_=>List.Sublist.refl _
 |_::_,[]=>List.nil_sublist _
 |g::gs,p::ps=>List.Sublist.cons_cons g (uj gs ps)
def Crw.sub{gs:Y Str}{os:Y aw}{ps:Y Int}{gr:Y Str}(h:Crw gs os ps gr):gr.Sublist gs:=by let⟨t,rfl⟩:=h.at_;show ((List.filter_sublist (p:=λx:Str×Int=>decide (x.2<=t)) (l:=gs.zip ps)).map (·.1)).trans (uj gs ps)
def Fc{gs:Y Str}(a:gs.Nodup):gs.map gs.idxOf=List.range gs.length:=by
 refine Nj λi=>?_;rw[LN];by_cases c:i<gs.length
 ·rw[Mp c,aS c];show MR Z (a.idxOf_getElem i c)
 ·rw[Mn (),Mn (by rw[L4];omega)];rfl
def G3{gs gr:Y Str}(a:gs.Nodup)(h:gr.Sublist gs):(gr.map gs.idxOf).Pairwise (·<·):=by have s:=h.map gs.idxOf;rw[Fc a]at s;show List.pairwise_lt_range.sublist s
def G7{l:Y Nat}(h:l.Pairwise (·<·)){i:Nat}(c:i+1<l.length):l.getD i 0<l.getD (i+1) 0:=by have a:=OK.mp h i (i+1) () c ();rwa[LJ,LJ,aS (show i<l.length by omega),aS c]
inductive z__law_whole(ds:List D)(R:D->Prop):Prop|mk (i:Int) (_:ds=[.int i]) (_:R (.bl ž))
def Fm(F:Fun K Zv Zv mS f I)(a:mg "isinstance"=ż)(c:mg "int"=ż)(e:mg "bool"=ż):FnOk P w K mg base aH (n+1) f I [Zk] (lSp K z__law_whole):=by
 refine F.okD Cc (λds R h=>?_) (λg A outer s H E ds R j h=>?_)
 ·let⟨i,rfl,_⟩:=h;rfl
 let⟨i,rfl,q⟩:=h;refine⟨_,(aQ (bq (xT (iO O a (ae 0) (iB (v:=.ty "int") O c PyProof.Rows.boot_int O) aa aa) (wM (Kj (PD.q (iO O a (ae 0) (iB (v:=.ty "bool") O e PyProof.Rows.boot_bool O) aa aa))))))),?_⟩;show⟨ž,Ds i,λ_=>⟨β,FK i,q⟩,λh=>tf h⟩
inductive z__law_row_of(ds:List D)(R:D->Prop):Prop|mk (xs:List Int) (n:Int) (_:ds=[.tup (xs.map D.int),.int n]) (_:n=(xs.length:Int)) (_:xs.length<=500) (_:R (.bl ž))
def He(F:Fun K Zz Zz kM f I)(r:Cl P w K mg base n Zv [Zk] z__law_whole)(p:mg "all"=ż)(j:mg "isinstance"=ż)(c:mg "tuple"=ż)(g:mg "len"=ż):FnOk P w K mg base aH (n+1) f I [Zk,Zr] (lSp K z__law_row_of):=by
 refine F.okD FW (λds R h=>?_) (λu A outer s H E ds R a h=>?_)
 ·let⟨xs,n,rfl,_⟩:=h;rfl
 let⟨xs,n,rfl,o,hl,q⟩:=h
 refine⟨_,(fP (c9 (PWD.td (gN (gK (gG (PD.q (iO O j (ae 0) (iB (v:=.ty "tuple") O c LW O) aa aa)) (λ_=>rfl))) (iQ (aX (jo a.units) (PD.q (bu bL O g L8 (aI (ae 0) aG aa) aa ag)) (ae 1) (aY _))))) (aQ (bq eP)) dz)
   (aQ (bq (bu (La O) O p PyProof.Rows.boot_all (aI (PD.q (PF.d (de (k:=1) (N':=["_law_number"]) (cap:=[ż]) O (.ok (show bC [Zk,Zr] (av kM) _ ["_law_number"] [ż]=ž by lia)) 'a' (bA 'b') (bI (dv 0)) (λ_ _ _ _ _=>(bf (i:=0) (show List.Nodup (["_law_number"]:Y Str)by lia) O Zg)) (λ_ _ _ _ _=>(aK r a O (af (dv 0) aj aa) aa ag))))) aG br) br ag)))),?_⟩
 have l:((xs.map D.int).length:Int)=n:=by rw[LC,o]
 refine⟨λρ=>ρ=[Z (.v (.tup (xs.map D.int))),Z (.v (.int n))],⟨ž,kZ _,λh=>(by cases h),λ_=>⟨λz=>absurd z (by rw[wa l];decide),λ_=>rfl⟩⟩,?_⟩;rintro ρ rfl;refine gz (f:=D.int) (λ_=>D.bl ž) (bo ()) (λx _=>⟨x,O,O⟩) ?_;refine⟨xs.map λ_=>ž,by rw[Mg];rfl,?_⟩
 have e:(xs.map λ_=>ž).all id=ž:=by rw[Nr];intro b m;let⟨_,_,rfl⟩:=LY.mp m;rfl
 change R (.bl ((xs.map λ_=>ž).all id));rwa[e]
def fQ(a:Y Str)(joy:Int)(e c:Y Int):D:=.tup [.str "best",.tup (a.map D.str),.int joy,.tup (e.map D.int),.tup (c.map D.int)]
inductive z__law_prices(ds:List D)(R:D->Prop):Prop|mk (gs ss:List Str) (os:List aw) (J:Nat->Nat) (rows:List Str) (joy:Int) (Rm Rg:List Int) (_:ds=[.tup (gs.map D.str),.tup (ss.map D.str),.tup (os.map aZ),fQ rows joy Rm Rg]) (_:SeatOk gs ss os) (_:SeatF gs ss os J rows joy Rm Rg) (_:R (.bl ž))
def Dh(F:Fun K ZA ZA oE f I)(N:Cl P w K mg base n Zz [Zk,Zr] z__law_row_of)(M:mg "sum"=ż)(L:mg "len"=ż):FnOk P w K mg base aH (n+1) f I [Zj,Zo,Zi,Zk] (lSp K z__law_prices):=by
 refine F.okD qag (λds R h=>?_) (λRj A outer s H E ds R p h=>?_)
 ·let⟨gs,ss,os,J,a,joy,g,c,rfl,_⟩:=h;rfl
 let⟨gs,ss,os,J,a,joy,g,c,rfl,l,m,q⟩:=h
 refine⟨_,(aU (KP (i:=4) (j:=5) (k:=6) O qag.nd O O O O O O (af (aD (ae 3)) (af (aD (ae 3)) (af (aD (ae 3)) aj aF) aF) aF) (by with_unfolding_all rfl))
   (fP (c9 (PWD.td (gN (gK (gG (PD.q (aK N p O (af (dv 5) (af (bu bL O L L8 (aI (ae 0) aG aa) aa ag) aj aB) aa) aa (ao aB ag))) (λ_=>rfl))) (iQ (gK (gG (PD.q (aK N p O (af (dv 6) (af (bu bL O L L8 (aI (ae 1) aG aa) aa ag) aj aB) aa) aa (ao aB ag))) (λ_=>rfl)))))) (aQ (bq eP)) dz)
   (aU (iq Mj O (bI (dv 6)) (bf (i:=7) qag.nd O Zg) (aQ (c9 (aX gD (ae 7) (PD.q ax) (aY _)) (aQ (bq eP)) dz)))
   (aU (iq Mj O (bI (dv 2)) (bf (i:=8) qag.nd O Zg) (aQ (c9 (aX gD (PD.q (aN cg (PD.q (bB (ae 5) (PD.q (sQ p.units (ae 0) (aD (ae 8)) O (dF aF) aF)) (λ_ _=>rfl))) (PD.q (bB (ae 6) (PD.q (sQ p.units (ae 1) (aD (ae 8)) O (dF aF) aF)) (λ_ _=>rfl))))) (PD.q (aD (ae 8))) (aY _)) (aQ (bq eP)) dz)))
   (aQ (bq (tL (cV p.units) (PD.q (aN cg (PD.q (bu (pY O) O M Ph (aI (ae 5) aG aa) aa ag)) (PD.q (bu (pY O) O M Ph (aI (ae 6) aG aa) aa ag)))) (ae 4) (aY _)))))))),?_⟩
 have Sq:=l.ol;have hl:=l.l;have Q:=m.ml;have B:=m.tl;refine⟨_,O,_,O,_,O,_,_,_,O,?_⟩;refine⟨λρ=>ρ=[Z (.v (.tup (gs.map D.str))),Z (.v (.tup (ss.map D.str))),Z (.v (.tup (os.map aZ))),Z (.v (fQ a joy g c)),Z (.v (.int joy)),Z (.v (.tup (g.map D.int))),Z (.v (.tup (c.map D.int))),ż,ż],⟨g,_,O,by rw[LC,Q],(),λh=>(by cases h),λ_=>⟨c,_,O,by rw[LC,B],(),λh=>(by cases h),λ_=>rfl⟩⟩,?_⟩;rintro ρ rfl;refine⟨λi ρ=>∃u:Ž Sl,ρ=[Z (.v (.tup (gs.map D.str))),Z (.v (.tup (ss.map D.str))),Z (.v (.tup (os.map aZ))),Z (.v (fQ a joy g c)),Z (.v (.int joy)),Z (.v (.tup (g.map D.int))),Z (.v (.tup (c.map D.int))),u,ż],⟨_,O⟩,?_,?_⟩
 ·rintro i e ρ v ⟨u,rfl⟩;let⟨x,rfl,r⟩:=dH v;have h0:=m.nn x (Mb r);show⟨λz=>absurd (dP z) (),λ_=>⟨_,O⟩⟩
 rintro ρ ⟨u,rfl⟩;refine⟨λi ρ=>∃C:Ž Sl,ρ=[Z (.v (.tup (gs.map D.str))),Z (.v (.tup (ss.map D.str))),Z (.v (.tup (os.map aZ))),Z (.v (fQ a joy g c)),Z (.v (.int joy)),Z (.v (.tup (g.map D.int))),Z (.v (.tup (c.map D.int))),u,C],⟨_,O⟩,?_,?_⟩
 ·rintro i e ρ v ⟨C,rfl⟩;let⟨o,rfl,r⟩:=dH v;have X:=aO r;have G:=Mb r
  have U:os.getD i b8=o:=by rw[LJ,r];rfl
  have up:=m.up i X;unfold dU eu at up;rw[U]at up;refine⟨trivial,_,O,?_⟩;refine qc (l.o.g o G) () λbe l1 y=>?_;have S:=pC l.gn y;refine⟨_,df (i:=be) (bE (xs:=g) (d:=0) ()) O,trivial,_,O,?_⟩;refine qc (l.o.s o G) () λam l2 a_=>?_;have T:=pC l.sn a_;rw[S,T]at up;refine⟨_,df (i:=am) (bE (xs:=c) (d:=0) ()) O,_,O,λz=>absurd (dP z) (),λ_=>⟨_,O⟩⟩
 rintro ρ ⟨C,rfl⟩;refine⟨g,O,c,O,?_⟩;change R (.bl (g.sum+c.sum==joy));rwa[m.sum,MH]
def SeatF.at{gs ss:Y Str}{os:Y aw}{J:Nat->Nat}{a:Y Str}{joy:Int}{j g:Y Int}(e:SeatOk gs ss os)(h:SeatF gs ss os J a joy j g){i:Nat}(c:i<gs.length):os.getD (J i) b8∈os/\(os.getD (J i) b8).1=gs.getD i ""/\(os.getD (J i) b8).2.1=a.getD i "" :=
 ⟨cm (h.lt i c),(kj e.gn (bE c) (e.og (h.lt i c))).mpr (h.at_ i c),(h.rws i c).symm⟩
def SeatF.new{gs ss:Y Str}{os:Y aw}{J:Nat->Nat}{a:Y Str}{joy:Int}{l j:Y Int}(h:SeatF gs ss os J a joy l j){i:Nat}(g:i<gs.length):a.getD i ""∉a.take i:=λo=>by
 let⟨k,c⟩:=NK.mp o;have m:=aO c;rw[Ms]at m;rw[NN ()]at c
 have e:a.getD k ""=a.getD i "":=by rw[LJ,c];rfl
 refine h.ne k i () g () ?_;unfold eu;rw[←h.rws k (),←h.rws i g,e]
inductive z__law_taken(ds:List D)(R:D->Prop):Prop|mk (gs ss:List Str) (os:List aw) (J:Nat->Nat) (rows:List Str) (joy:Int) (Rm Rg:List Int) (_:ds=[.tup (gs.map D.str),.tup (os.map aZ),fQ rows joy Rm Rg]) (_:SeatOk gs ss os) (_:SeatF gs ss os J rows joy Rm Rg) (_:R (.bl ž))
def K6(F:Fun K ZE ZE kL f I)(tT:Cl P w K mg base n Zv [Zk] z__law_whole)(S:mg "range"=ż)(m:mg "len"=ż)(M:mg "isinstance"=ż)(Q:mg "tuple"=ż)(am:mg "str"=ż):FnOk P w K mg base aH (n+1) f I [Zj,Zi,Zk] (lSp K z__law_taken):=by
 refine F.okD qai (λds R h=>?_) (λRj A outer s H E ds R g h=>?_)
 ·let⟨gs,ss,os,J,a,joy,l,j,rfl,_⟩:=h;rfl
 let⟨gs,ss,os,J,a,joy,l,j,rfl,x,y,q⟩:=h
 refine⟨_,(aU (Ij (bO (af (aD (ae 2)) (af (aD (ae 2)) aj aF) aF)) (jQ (n:=2) O (fA (bf (i:=3) qai.nd O (ð O)) (fA (bf (i:=4) qai.nd O Zg) kz))))
   (fP (c9 (PWD.td (gN (gK (gG (PD.q (iO O M (ae 3) (iB (v:=.ty "tuple") O Q LW O) aa aa)) (λ_=>rfl))) (gN (aX (jo g.units) (PD.q (bu bL O m L8 (aI (ae 3) aG aa) aa ag)) (PD.q (bu bL O m L8 (aI (ae 0) aG aa) aa ag)) (aY _)) (iQ (gK (gG (PD.q (aK tT g O (af (dv 4) aj aa) aa ag)) (λ_=>rfl))))))) (aQ (bq eP)) dz)
   (aU (bz (i:=5) qai.nd O Zg ax)
   (aU (iq Mj O (fv O S (af (bu bL O m L8 (aI (ae 0) aG aa) aa ag) aj aB)) (bf (i:=6) qai.nd O (ð O)) (fP (c9 (PWD.td (gN (gK (gG (PD.q (iO O M (PD.q (bB (ae 3) (ae 6) (λ_ _=>rfl))) (iB (v:=.ty "str") O am QT O) aF aa)) (λ_=>rfl))) (iQ (aX rY (PD.q (bB (ae 3) (ae 6) (λ_ _=>rfl))) (PD.q (oj (ae 3) oO (oQ (ae 6)))) (by with_unfolding_all rfl))))) (aQ (bq eP)) dz)
   (aU (qL (i:=7) (k:=1) (N':=[Zq,Zj,Zs,Zw]) (cap:=[ż,Z 0,Z 6,Z 3]) O qai.nd O Zg (.ok (show bC [Zj,Zi,Zk,Zw,"_law_joy","_law_due",Zs,"_law_joys"] (av kL) _ [Zq,Zj,Zs,Zw] [ż,Z 0,Z 6,Z 3]=ž by lia)) 'a' (bA 'b') (bI (dv 1)) (λ_ _ _ _ _=>(bf (i:=0) (show List.Nodup ([Zq,Zj,Zs,Zw]:Y Str)by lia) O Zg)) (λ_ _ _ _ _=>(gR (PWD.td (sE (aX (cV g.units) (PD.q (aD (ae 0))) (PD.q (bB (ae 1) (ae 2) (λ_ _=>rfl))) (aY _)) (sW (aX (cV g.units) (PD.q (aD (ae 0))) (PD.q (bB (ae 3) (ae 2) (λ_ _=>rfl))) (aY _))))))) (λ_ _ _ _ _=>(aD (ae 0))))
   (fP (c9 (aX (jo g.units) (PD.q (bu bL O m L8 (aI (ae 7) aG aa) aa ag)) (PD.q ax) (aY _)) (aQ (bq eP)) dz)
   (aQ (Kd 5 y3 qai.nd O Zg (aD (ae 7))))))))
   (aQ (bq (tL (cV g.units) (ae 4) (ae 5) (aY _)))))))),?_⟩
 have Sq:=x.ol;have hl:=x.l;have a_:=y.rl
 have X:(((a.map D.str).length:Nat):Int)=((gs.map D.str).length:Nat):=by rw[LC,LC,a_]
 refine⟨_,O,_,O,?_⟩;refine⟨O,λρ=>ρ=[Z (.v (.tup (gs.map D.str))),Z (.v (.tup (os.map aZ))),Z (.v (fQ a joy l j)),Z (.v (.tup (a.map D.str))),Z (.v (.int joy)),ż,ż,ż],⟨ž,kZ _,λh=>(by cases h),λ_=>⟨λz=>absurd z (by rw[wa X];decide),λ_=>⟨joy,O,λh=>(by cases h),λ_=>rfl⟩⟩⟩,?_⟩;rintro ρ rfl
 have lg:((gs.map D.str).length:Int)=(gs.length:Int):=by rw[LC]
 refine⟨⟨(),()⟩,λi ρ=>∃L C:Ž Sl,ρ=[Z (.v (.tup (gs.map D.str))),Z (.v (.tup (os.map aZ))),Z (.v (fQ a joy l j)),Z (.v (.tup (a.map D.str))),Z (.v (.int joy)),Z (.v (.int (Wk.sm i λi=>(os.getD (J i) b8).2.2))),L,C],⟨_,_,O⟩,?_,?_⟩
 ·rintro i e ρ be ⟨L,C,rfl⟩;let⟨B,rfl⟩:=gk be
  have B:i<gs.length:=by rw[LC]at B;omega
  have z0:(0:Int)+(i:Int)=(i:Int):=MU _;rw[z0];let⟨m1,m2,m3⟩:=y.at x B;have G:bD (a.map D.str) (i:Int)=Z (.str (a.getD i "")):=df (i:=i) (bE ()) O;have U:bD (gs.map D.str) (i:Int)=Z (.str (gs.getD i "")):=df (i:=i) (bE ()) O;refine⟨λρ=>ρ=[Z (.v (.tup (gs.map D.str))),Z (.v (.tup (os.map aZ))),Z (.v (fQ a joy l j)),Z (.v (.tup (a.map D.str))),Z (.v (.int joy)),Z (.v (.int (Wk.sm i λi=>(os.getD (J i) b8).2.2))),Z (.v (.int (i:Int))),C],⟨_,G,ž,O,λh=>(by cases h),λ_=>⟨_,G,_,Ej (f:=D.str) (xs:=a) O,?_⟩⟩,?_⟩
  ·refine⟨.inr (a.getD i ""),(a.take i).map Ô,O,by rw[←iY];rfl,λc=>?_,λ_=>rfl⟩;rw[qU,kR]at c;show absurd (Mm c) (y.new B)
  rintro ρ rfl;refine jA (f:=aZ) (λo:aw=>decide (o.1=gs.getD i "")&&decide (o.2.1=a.getD i "")) (λo=>D.int o.2.2) (bo ()) (λo _=>?_) ?_
  ·refine⟨_,O,_,U,λr=>⟨_,O,_,G,λu=>⟨_,O,?_,O⟩,λu=>?_⟩,λr=>⟨λh=>(by cases h),λ_=>?_⟩⟩
   ·rw[Md (eq_of_beq r),Md (eq_of_beq u)];rfl
   ·rw[L7 (p:=o.2.1=a.getD i "") (λe=>by rw[e,MH]at u;cases u),Bool.and_false]
   ·rw[L7 (p:=o.1=gs.getD i "") (λe=>by rw[e,MH]at r;cases r),Bool.false_and]
  have N:=um x.o.nd m1;rw[m2,m3]at N;rw[kX,N];refine⟨λρ=>ρ=_,⟨λz=>absurd z (by change ¬ (!(((1:Nat):Int)==1))=ž;decide),λ_=>rfl⟩,?_⟩;rintro ρ rfl;show⟨_,O,_,_,O⟩
 rintro ρ ⟨L,C,rfl⟩;rw[eS]
 have T:Wk.sm (((gs.map D.str).length:Int)).toNat (λi=>(os.getD (J i) b8).2.2)=joy:=by rw[lg,MG];show y.jy.symm
 rw[T];change R (.bl (joy==joy));rwa[MH]
inductive z__law_group(ds:List D)(R:D->Prop):Prop|mk (gs:List Str) (os:List aw) (ps:List Int) (gr:List Str) (_:ds=[.tup (gs.map D.str),.tup (os.map aZ),.tup (gr.map D.str)]) (_:gs.Nodup) (_:gs.length<=12) (_:os.length<=8) (_:Crw gs os ps gr) (_:R (.bl ž))
def IZ(F:Fun K ZF ZF k7 f I)(Q:mg "range"=ż)(p:mg "len"=ż)(C:mg "isinstance"=ż)(a_:mg "tuple"=ż)(be:mg "set"=ż)(am:mg "str"=ż):FnOk P w K mg base aH (n+1) f I [Zj,Zi,Zm] (lSpM K (zM z__law_group)):=by
 refine F.okM qab (λas R N h=>?_) (λRj A outer s H E as R N qs Rr X h L=>?_)
 ·let⟨_,rfl,gs,os,ps,gr,rfl,_⟩:=h;rfl
 let⟨_,rfl,gs,os,ps,gr,rfl,J,T5,Sq,B,q⟩:=h;obtain rfl:=iM L
 refine⟨_,(c8 (cN (dD (gK (gG (PD.q (iO O C (ae 2) (iB (v:=.ty "tuple") O a_ LW O) aa aa)) (λ_=>rfl)))) (bg (cy (aA eP))) cQ)
   (aV (bt (i:=3) qab.nd O Zg (hX (fw aj)))
   (aV (fj Mj O (ft (bI (dv 2))) (eN (i:=4) qab.nd O Zg) (c8 (cN (dD (PWD.td (gN (gK (gG (PD.q (iO O C (ae 4) (iB (v:=.ty "str") O am QT O) aa aa)) (λ_=>rfl))) (iQ (aX wx (ae 4) (ae 0) (by with_unfolding_all rfl)))))) (bg (cy (aA eP))) cQ)
   (bg (gh 3 (aA (sQ X.units (ae 0) (dv 4) O (dF aa) aa)) (dF aB) aB))))
   (aV (fj Mj O (ft (vN O Q (af ax (af (bu bL O p L8 (aI (ae 3) aG aa) aa ag) aj aB) aT))) (eN (i:=5) qab.nd O Zg) (bg (cN (dD (aX wN (PD.q (bB (ae 3) (ae 5) (λ_ _=>rfl))) (PD.q (bB (ae 3) (PD.q (aN gv (ae 5) (PD.q ax))) (λ_ _=>rfl))) (aY _))) (bg (cy (aA eP))) cQ)))
   (aV (bt (i:=6) qab.nd O Zg (aA (zc O O p O be (PF.d (jF (k:=1) (N':=[Zq,Zm]) (cap:=[ż,Z 2]) O (.ok (show bC [Zj,Zi,Zm,"_law_places","_law_name",Zs,"_law_offered"] (av k7) _ [Zq,Zm] [ż,Z 2]=ž by lia)) 'a' (bA 'b') (bI (dv 1)) (λ_ _ _ _ _=>(bf (i:=0) (show List.Nodup ([Zq,Zm]:Y Str)by lia) O Zg)) (λ_ _ _ _ _=>(gR (aX rY (PD.q (aD (ae 0))) (ae 1) (by with_unfolding_all rfl)))) (λ_ _ _ _ _=>(aD (ae 0))))) br aB)))
   (bg (cy (aA (tL gD (ae 6) (PD.q (bu bL O p L8 (aI (ae 2) aG aa) aa ag)) (aY _)))))))))),?_⟩
 intro ke;have m:=B.sub;have Us:=m.length_le;have u:=G3 J m;refine⟨λρ=>ρ=_,⟨ž,kZ _,λh=>(by cases h),λ_=>rfl⟩,?_⟩;rintro ρ rfl;refine⟨λi ρ=>∃l:Ž Sm,ρ=[Z (.v (.tup (gs.map D.str))),Z (.v (.tup (os.map aZ))),Z (.v (.tup (gr.map D.str))),Z (.own ((((gr.take i).map gs.idxOf).map λ(k:Nat)=>D.int (k:Int)))),l,ż,ż],⟨_,O⟩,?_,?_⟩
 ·rintro i e ρ a ⟨l,rfl⟩;let⟨g,rfl,r⟩:=dH a;have U:=aO r;have G:=m.subset (Mb r);refine⟨λρ=>ρ=_,⟨ž,O,λh=>(by cases h),λ_=>⟨.inr g,gs.map Ô,O,by rw[←iY];rfl,λc=>?_,λ_=>rfl⟩⟩,?_⟩
  ·rw[CK,kR,Md G]at c;cases c
  rintro ρ rfl;refine⟨trivial,qc G () λj hj a=>?_⟩;have e:=pC J a;rw[←e];refine⟨?_,_,gu (λ(k:Nat)=>D.int (k:Int)) _ (gs.idxOf g),Z (.v (.str g)),?_⟩
  ·rw[LC,LC,Ms];show bo ()
  ·rw[pH _ r];rfl
 rintro ρ ⟨l,rfl⟩;rw[LC,M3]
 have lp:(((gr.map gs.idxOf).map λ(k:Nat)=>D.int (k:Int)).length:Int)=(gr.length:Int):=by rw[LC,LC]
 refine⟨⟨(),(),(),()⟩,λi ρ=>∃x:Ž Sm,ρ=[Z (.v (.tup (gs.map D.str))),Z (.v (.tup (os.map aZ))),Z (.v (.tup (gr.map D.str))),Z (.own ((gr.map gs.idxOf).map λ(k:Nat)=>D.int (k:Int))),l,x,ż],⟨_,O⟩,?_,?_⟩
 ·rintro i e ρ a ⟨x,rfl⟩;let⟨U,rfl⟩:=gk a
  have y:i+1<(gr.map gs.idxOf).length:=by rw[LC];omega
  have S:bD ((gr.map gs.idxOf).map λ(k:Nat)=>D.int (k:Int)) (1+(i:Int))=Z (.int (((gr.map gs.idxOf).getD (i+1) 0:Nat):Int)):=df (i:=i+1) (bE y) ();have T:bD ((gr.map gs.idxOf).map λ(k:Nat)=>D.int (k:Int)) (1+(i:Int)-1)=Z (.int (((gr.map gs.idxOf).getD i 0:Nat):Int)):=df (i:=i) (bE ()) ();have h3:=G7 u y;show⟨_,S,_,T,λz=>absurd (dP z) (),λ_=>⟨_,O⟩⟩
 rintro ρ ⟨x,rfl⟩;refine jA (f:=aZ) (λo:aw=>decide (o.1∈gr)) (λo=>D.str o.2.1) (bo ()) (λo _=>?_) ?_
 ·refine⟨_,O,.inr o.1,gr.map Ô,O,by rw[←iY];rfl,?_⟩;rw[kR];refine⟨λh=>⟨_,O,?_,O⟩,λh=>?_⟩
  ·simpa using h
  ·simpa using h
 rw[v3];refine⟨_,O,by rw[LC];have:=y4 os gr;omega,?_⟩;have M:=B.lt;have e:decide (((iW ((gY os gr).map iL):Nat):Int)<((gr.map D.str).length:Int))=ž:=Md (by rw[LC];unfold fM at M;omega)
 have q2:R (.v (.bl (decide (((iW ((gY os gr).map iL):Nat):Int)<((gr.map D.str).length:Int))))) []:=by rwa[e]
 show q2
abbrev sp_law:=v5
abbrev FN:=vU
def vH{d:D}{R:D->Prop}(h:cf 40 d d=Z ž)(q:R (.bl β)):mB d d R:=by unfold mB;rwa[h]
def Lf(F:Fun K "law" "law" pE f I)(Q:ClM P w K mg base n Zy [Zh] y__law_asking)(B:Cl P w K mg base n "seating" ["guests","seats","offers"] z_seating)(a_:ClM P w K mg base n ZI [Zl,ZG] y__law_pool)(C:Cl P w K mg base n ZF [Zj,Zi,Zm] z__law_group)(G:Cl P w K mg base n ZE [Zj,Zi,Zk] z__law_taken)(L:Cl P w K mg base n ZA [Zj,Zo,Zi,Zk] z__law_prices)(X:mg "isinstance"=ż)(U:mg "tuple"=ż)(u:mg "len"=ż):FnOk P w K mg base aH (n+1) f I [Zl] (lSpM K (zM FN)):=by
 refine F.okM qas (λas R N h=>?_) (λRj A outer s H E as R N qs Rr c h M=>?_)
 ·let⟨_,rfl,ns,rfl,_⟩:=h;rfl
 let⟨_,rfl,ns,rfl,be,q⟩:=h;obtain rfl:=iM M
 refine⟨_,(aV (JH (cK Q c O (bS (cK a_ c O (bS (aA (dv 0)) (bS (aA ax) cG aT) aa) aa (ao aT ag)) cG aB) aB ag) (Jr (n:=3) O (tE (eN (i:=1) qas.nd O Zg) (tE (eN (i:=2) qas.nd O Zg) (tE (eN (i:=3) qas.nd O Zg) Jt)))))
   (aV (bt (i:=4) qas.nd O Zg (aA (aK B c O (af (dv 1) (af (dv 2) (af (dv 3) aj aa) aa) aa) aa (ao aa (ao aa ag)))))
   (c8 (cN (dD (PWD.td (gN (gK (gG (PD.q (iO O X (ae 4) (iB (v:=.ty "tuple") O U LW O) aa aa)) (λ_=>rfl))) (iQ (aX (jo c.units) (ae 4) (PD.q (aK B c O (af (dv 1) (af (dv 2) (af (dv 3) aj aa) aa) aa) aa (ao aa (ao aa ag)))) (aY _)))))) (bg (cy (aA eP))) cQ)
   (c8 (cN (dD (PWD.td (sE (aX (cV c.units) (PD.q (bu bL O u L8 (aI (ae 4) aG aa) aa ag)) (PD.q ax) (aY _)) (sW (aX (cV c.units) (PD.q (aD (ae 4))) (PD.q bQ) (aY _)))))) (bg (cy (aA (aK C c O (af (dv 1) (af (dv 3) (af (aD (ae 4)) aj aF) aa) aa) aa (ao aa (ao aF ag)))))) cQ)
   (c8 (cN (dD (PWD.td (gN (aX (jo c.units) (PD.q (bu bL O u L8 (aI (ae 4) aG aa) aa ag)) (PD.q ax) (aY _)) (iQ (aX (jo c.units) (PD.q (aD (ae 4))) (PD.q bQ) (aY _)))))) (bg (cy (aA eP))) cQ)
   (bg (cy (aA (xT (aK G c O (af (dv 1) (af (dv 3) (af (dv 4) aj aa) aa) aa) aa (ao aa (ao aa ag))) (wM (aK L c O (af (dv 1) (af (dv 2) (af (dv 3) (af (dv 4) aj aa) aa) aa) aa) aa (ao aa (ao aa (ao aa ag)))))))))))))),?_⟩
 intro ke;refine⟨_,O,O,ns,0,O,be,'b',λo hp=>?_⟩;refine⟨_,O,O,ż,o,0,O,hp,'b',λgs ss os o' e _=>?_⟩;have S:=e.ol;have hl:=e.l;refine⟨O,gs,ss,os,O,e,λr l=>?_⟩;have y:=l.same;rcases l.facts with⟨gr,ps,m,T⟩|⟨J,a,joy,j,g,m,x⟩
 ·subst m;refine⟨λρ=>ρ=[Z (.v (.fzl (ns.map D.int))),Z (.v (.tup (gs.map D.str))),Z (.v (.tup (ss.map D.str))),Z (.v (.tup (os.map aZ))),Z (.v (.tup [.str "none",.tup (gr.map D.str)]))],⟨ž,kZ _,λh=>(by cases h),λ_=>⟨gs,ss,os,O,e,λam p=>?_⟩⟩,?_⟩
  ·rw[p.uniq l];show vH y ⟨λh=>(by cases h),λ_=>rfl⟩
  rintro ρ rfl;refine⟨λ_=>False,⟨λ_=>⟨_,O,λ_=>?_,λh=>(by cases h)⟩,λh=>(by cases h)⟩,λ_ z=>z.elim⟩;show⟨_,O,gs,os,ps,gr,O,e.gn,(),S,T,q⟩
 ·subst m;refine⟨λρ=>ρ=[Z (.v (.fzl (ns.map D.int))),Z (.v (.tup (gs.map D.str))),Z (.v (.tup (ss.map D.str))),Z (.v (.tup (os.map aZ))),Z (.v (fQ a joy j g))],⟨ž,kZ _,λh=>(by cases h),λ_=>⟨gs,ss,os,O,e,λam p=>?_⟩⟩,?_⟩
  ·rw[p.uniq l];show vH y ⟨λh=>(by cases h),λ_=>rfl⟩
  rintro ρ rfl;refine⟨λρ=>ρ=[Z (.v (.fzl (ns.map D.int))),Z (.v (.tup (gs.map D.str))),Z (.v (.tup (ss.map D.str))),Z (.v (.tup (os.map aZ))),Z (.v (fQ a joy j g))],⟨λh=>(by cases h),λ_=>⟨λh=>(by cases h),λ_=>rfl⟩⟩,?_⟩;rintro ρ rfl;refine⟨λρ=>ρ=[Z (.v (.fzl (ns.map D.int))),Z (.v (.tup (gs.map D.str))),Z (.v (.tup (ss.map D.str))),Z (.v (.tup (os.map aZ))),Z (.v (fQ a joy j g))],⟨λh=>(by cases h),λ_=>⟨_,O,λh=>(by cases h),λ_=>rfl⟩⟩,?_⟩;rintro ρ rfl;show⟨gs,ss,os,J,a,joy,j,g,O,e,x,λ_=>⟨gs,ss,os,J,a,joy,j,g,O,e,x,q⟩,λh=>(by cases h)⟩
end
def all_mk{l:PySem.W.OpenLaw}{w:Ç}{K:Â}{h:Heap}{mg:Str->Ž Value}{fa YX:Addr}{f:Addr}(X:K.In h)(G:h.Ns Ã mg)(hfa:mg "law"=Z (.ref fa))
  {YY Wn:Ž Addr} {YZ:Array (Ž Value)} {Y0 Wo Wq Wr Uk Ws:Value}
  (RX:Ü K Ã "Stand"=Z (Z (.ref f)))
  (a1:Has K mI "refuse_more")
  (a2:Has K ph "refuse_twice")
  (a3:Has K mC "refuse_strange")
  (a4:Has K nY "common_of_two")
  (a5:Has K mM "common")
  (a6:Has K mh "lowest")
  (a7:Has K kI "unit")
  (a8:Has K lU "left")
  (a9:Has K lz "turned")
  (a10:Has K ko "beginning")
  (a11:Has K lr "growths")
  (a12:Has K pD "over")
  (a13:Has K nV "missed_row")
  (Xn:Ü K Ã "least_grown"=Z (Z (.ref YX))) (Xo:K.lookup YX=Z ⟨Y0,YY,.func (č "least_grown" "least_grown" (fV eM) (ee eM) (av eM) .none Wo Wq Wr Wn Uk Ws),YZ⟩) (Y1:ý K Uk "least_grown"=ž) (Y2:í K (.ref YX)=ž)
  {TL Vg:Addr} {Wt:Ž Addr} {Vh:Array Value} {Wu:Array (Ž Value)} (x14:Uk=.ref TL) (q14:K.lookup TL=Z ⟨.type "code",Wt,.fields Vh,Wu⟩) (r14:(Vh[11]?:Ž Value)=Z (.ref Vg)) (v14:ñ [(TL,⟨.type "code",Wt,.fields Vh,Wu⟩)] TL Vg=ž) (yg:Ü K Ã "greatest_first"=Z ż)
  (a15:Has K mX "stopping_row")
  (a16:Has K lu "moved")
  (a17:Has K kA "exchanged")
  (a18:Has K k9 "fallen")
  (a19:Has K jZ "in_lowest")
  (a20:Has K pM "none_ending")
  (a21:Has K mP "best_ending")
  (a22:Has K k6 "endless_ending")
  (a23:Has K mG "next_step")
  (a24:Has K oB "walk_on")
  (a25:Has K o8 "walk")
  (a26:Has K nE "first")
  (a27:Has K jT "givens")
  (a28:Has K ng "worth")
  (a29:Has K jc "refuse_seating")
  (a30:Has K kF "marks")
  (a31:Has K i5 "seat_plan")
  (a32:Has K kJ "prices")
  (a33:Has K me "seats_offered")
  (a34:Has K ki "crowded_group")
  (a35:Has K jY "seating")
  (a36:Has K nQ ZI)
  (a37:Has K mD Zp)
  (a38:Has K oY ZJ)
  (a39:Has K mQ ZC)
  (a40:Has K nO ZD)
  (a41:Has K nH Zx)
  (a42:Has K nc Zy)
  (a43:Has K mS Zv)
  (a44:Has K kM Zz)
  (a45:Has K oE ZA)
  (a46:Has K kL ZE)
  (a47:Has K k7 ZF)
  (a48:Has K pE "law")
  (Xp:HasM K oV f "__init__" "Stand.__init__")
  (TM:Ģ K f Str.empty=ž) (TN:Č K f=ž) (TQ:ĵ K f=ž) (TR:å K (.ref f) "__setattr__"=Z (Z (.builtin "object.__setattr__"))) (SQ:Ũ K f=ž) (SR:í K (.ref f)=ž)
  (Sx:å K (.ref f) "held"=Z ż)
  (Sy:å K (.ref f) "ways"=Z ż)
  (SA:å K (.ref f) "tops"=Z ż)
  (Sb:å K (.ref f) "bottom"=Z ż)
  (Wv:Ü K Ã "abs"=Z ż)
  (Ul:Ü K Ã "tuple"=Z ż)
  (Um:Ü K Ã "range"=Z ż)
  (Ww:Ü K Ã "sum"=Z ż)
  (Wx:Ü K Ã "zip"=Z ż)
  (Wy:Ü K Ã "min"=Z ż)
  (Wz:Ü K Ã "len"=Z ż)
  (TU:Ü K Ã "sorted"=Z ż)
  {R3:þ} (R5:Ü K Ã "MOST_UNKNOWNS"=Z (Z (.int 8 R3)))
  {SD:þ} (SS:Ü K Ã "MOST_ROWS"=Z (Z (.int 12 SD)))
  (Vi:Ü K Ã "dict"=Z ż)
  (WA:Ü K Ã "set"=Z ż)
  (SE:Ü K Ã "isinstance"=Z ż)
  (WB:Ü K Ã "int"=Z ż)
  (y_bool:Ü K Ã "bool"=Z ż)
  (WC:Ü K Ã "all"=Z ż)
  (WD:Ü K Ã "str"=Z ż) :
  ∃fd:Í,(∀(s:À)(v:Value),ė s fd ⟨[v],[]⟩ [(Zl,v)])/\∀base:Heap,K.In base->base.Ns Ã mg->FnOk l.prog w K mg base aH 11 fa fd [Zl] (sp_law K):=by
 let⟨f1,d1,F1,m1,_⟩:=a1.fn X G;let⟨f2,d2,F2,m2,_⟩:=a2.fn X G;let⟨f3,d3,F3,m3,_⟩:=a3.fn X G;let⟨f4,d4,F4,m4,_⟩:=a4.fn X G;let⟨f5,d5,F5,m5,_⟩:=a5.fn X G;let⟨f6,d6,F6,m6,_⟩:=a6.fn X G;let⟨f7,d7,F7,m7,_⟩:=a7.fn X G;let⟨f8,d8,F8,m8,_⟩:=a8.fn X G;let⟨f9,d9,F9,m9,_⟩:=a9.fn X G;let⟨f10,d10,m,m10,_⟩:=a10.fn X G;let⟨f11,d11,o,m11,_⟩:=a11.fn X G;let⟨f12,d12,p,m12,_⟩:=a12.fn X G;let⟨f13,d13,r,m13,_⟩:=a13.fn X G;have u:=rn (st:=eM) Xo Y1 Y2;have m14:=œ X G Xn;let⟨f15,d15,x,m15,_⟩:=a15.fn X G;let⟨f16,d16,y,m16,_⟩:=a16.fn X G;let⟨f17,d17,z,m17,_⟩:=a17.fn X G;let⟨f18,d18,A,m18,_⟩:=a18.fn X G;let⟨f19,d19,B,m19,_⟩:=a19.fn X G;let⟨f20,d20,C,m20,_⟩:=a20.fn X G;let⟨f21,d21,E,m21,_⟩:=a21.fn X G;let⟨f22,d22,F,m22,_⟩:=a22.fn X G;let⟨f23,d23,H,m23,_⟩:=a23.fn X G;let⟨f24,d24,I,m24,_⟩:=a24.fn X G;let⟨f25,d25,J,m25,_⟩:=a25.fn X G;let⟨f26,d26,L,m26,_⟩:=a26.fn X G;let⟨f27,d27,M,m27,_⟩:=a27.fn X G;let⟨f28,d28,N,m28,_⟩:=a28.fn X G;let⟨f29,d29,a_,m29,_⟩:=a29.fn X G;let⟨f30,d30,Q,m30,_⟩:=a30.fn X G;let⟨f31,d31,R,m31,_⟩:=a31.fn X G;let⟨f32,d32,S,m32,_⟩:=a32.fn X G;let⟨f33,d33,T,m33,_⟩:=a33.fn X G;let⟨f34,d34,U,m34,_⟩:=a34.fn X G;let⟨f35,d35,be,m35,_⟩:=a35.fn X G;let⟨f36,d36,am,m36,_⟩:=a36.fn X G;let⟨f37,d37,F37,m37,_⟩:=a37.fn X G;let⟨f38,d38,F38,m38,_⟩:=a38.fn X G;let⟨f39,d39,F39,m39,_⟩:=a39.fn X G;let⟨f40,d40,F40,m40,_⟩:=a40.fn X G;let⟨f41,d41,F41,m41,_⟩:=a41.fn X G;let⟨f42,d42,F42,m42,_⟩:=a42.fn X G;let⟨f43,d43,F43,m43,_⟩:=a43.fn X G;let⟨f44,d44,F44,m44,_⟩:=a44.fn X G;let⟨f45,d45,F45,m45,_⟩:=a45.fn X G;let⟨f46,d46,F46,m46,_⟩:=a46.fn X G;let⟨f47,d47,F47,m47,_⟩:=a47.fn X G;let⟨f48,d48,F48,m48,_,_,_,e⟩:=a48.fn X G;let⟨f49,d49,Xp,i49,k49,F49⟩:=Xp;have b49:=F49.bd (ps:=["self","held","ways","tops","bottom"]);cases hfa.symm.trans m48;refine⟨d48,λs v=>by rw[e];show .of_eq O,λbase _ _=>?_⟩;have jz:=Nc X G Wv;have a:=Nc X G Ul;have j:=Nc X G Um;have jw:=Nc X G Ww;have eO:=Nc X G Wx;have kD:=Nc X G Wy;have c:=Nc X G Wz;have hZ:=Nc X G TU;have Rw:∃tk,mg "MOST_UNKNOWNS"=Z (.int 8 tk):=⟨_,œ X G R5⟩;have RI:∃tk,mg "MOST_ROWS"=Z (.int 12 tk):=⟨_,œ X G SS⟩;have kC:=Nc X G Vi;have kB:=Nc X G WA;have dM:=Nc X G SE;have tQ:=Nc X G WB;have tR:=Nc X G y_bool;have t6:=Nc X G WC;have kE:=Nc X G WD;have g:TxtStand K mg f:=⟨⟨TM,TN,TQ,TR⟩,Sx,Sy,SA,Sb,œ X G RX,RX⟩;have H1:=Eg (P:=l.prog) (w:=w) (mg:=mg) (base:=base) (n:=0) F1;have Q1:=F1.cl m1 H1;have H2:=Gf (P:=l.prog) (w:=w) (mg:=mg) (base:=base) (n:=0) F2;have Q2:=F2.cl m2 (H2.imp iR);have H3:=Hs (P:=l.prog) (w:=w) (mg:=mg) (base:=base) (n:=0) F3;have Q3:=F3.cl m3 H3;have H4:=HH (P:=l.prog) (w:=w) (mg:=mg) (base:=base) (n:=0) F4 jz;have Q4:=F4.cl m4 H4;have H5:=Ae (n:=1) F5 Q4.mono;have Q5:=F5.cl m5 H5;have H6:=FR (n:=2) F6 Q4.mono Q5.mono a;have Q6:=F6.cl m6 H6;have H7:=CZ (P:=l.prog) (w:=w) (mg:=mg) (base:=base) (n:=0) F7 a j;have Q7:=F7.cl m7 H7;have H8:=Cf (P:=l.prog) (w:=w) (mg:=mg) (base:=base) (n:=0) F8 jw eO;have Q8:=F8.cl m8 H8;have H9:=A9 (P:=l.prog) (w:=w) (mg:=mg) (base:=base) (n:=0) F9 a;have Q9:=F9.cl m9 H9;have H11:=Ip (n:=1) o g Q8.mono a;have Q11:=o.cl m11 H11;have H12:=Ht (n:=1) p g Q8.mono;have Y3:=p.cl m12 H12;have H13:=Hl (n:=2) r Y3.mono;have Q13:=r.cl m13 H13;have L14:LamT K "least_grown" (č "least_grown" "least_grown" (fV eM) (ee eM) (av eM) .none Wo Wq Wr Wn Uk Ws) TL Vg ⟨81,27,81,58⟩:=⟨x14,AH q14 v14,by rw[vg (yV Xn Xo x14 q14 r14 O) (yI yg)];show LV.mpr O⟩;have H14:=Ac (P:=l.prog) (w:=w) (mg:=mg) (base:=base) (n:=0) u g kD j c L14;have Q14:=u.cl m14 H14;have H15:=Al (n:=2) x Q8.mono Y3.mono;have Q15:=x.cl m15 H15;have H16:=KQ (P:=l.prog) (w:=w) (mg:=mg) (base:=base) (n:=0) y a eO;have Q16:=y.cl m16 H16;have H18:=Gp (P:=l.prog) (w:=w) (mg:=mg) (base:=base) (n:=0) A g j c;have Q18:=A.cl m18 H18;have H19:=Fh (n:=3) B Q6.mono a eO;have Q19:=B.cl m19 H19;have H20:=Cg (n:=4) C g Q19.mono Q18.mono a hZ;have Q20:=C.cl m20 H20;have H21:=Ir (n:=4) E g Q19.mono Q18.mono Q6.mono a hZ;have Q21:=E.cl m21 H21;have H22:=BM (n:=3) F g Q5.mono Q6.mono a;have Q22:=F.cl m22 H22;have H23:=FO (n:=5) H g Q13.mono Q11.mono Q14.mono Q15.mono Q21.mono Q22.mono Q20.mono;have Q23:=H.cl m23 H23;have H27:=Am (n:=1) M Q9.mono Q7.mono c j a;have Q27:=M.cl m27 H27;have H28:=HV (n:=1) N Q8.mono;have Q28:=N.cl m28 H28;have H29:=BX (n:=1) a_ Q1.mono Q2.mono Q3.mono Rw RI c;have Q29:=a_.cl m29 H29;have H30:=HI (P:=l.prog) (w:=w) (mg:=mg) (base:=base) (n:=0) Q a;have Q30:=Q.cl m30 H30;have H31:=Fy (n:=2) R Q29.mono Q30.mono Q9.mono a c;have Q31:=R.cl m31 (H31.imp iR);have H32:=BW (P:=l.prog) (w:=w) (mg:=mg) (base:=base) (n:=0) S kC c j a;have Q32:=S.cl m32 (H32.imp iR);have H33:=Gb (P:=l.prog) (w:=w) (mg:=mg) (base:=base) (n:=0) T c kB;have Q33:=T.cl m33 H33;have H34:=JY (n:=1) U Q33.mono hZ a c eO;have Q34:=U.cl m34 (H34.imp iR);have H36:=Dc (P:=l.prog) (w:=w) (mg:=mg) (base:=base) (n:=0) am c;have R36:=am.clM m36 H36;have H37:=JV (P:=l.prog) (w:=w) (mg:=mg) (base:=base) (n:=0) F37 c;have WE:=F37.clM m37 H37;have H38:=Bm (n:=1) F38 WE.mono;have R38:=F38.clM m38 H38;have H39:=C1 (n:=1) F39 WE.mono j;have R39:=F39.clM m39 H39;have H40:=JM (n:=2) F40 WE.mono R38.mono;have R40:=F40.clM m40 H40;have H41:=BU (n:=3) F41 WE.mono R40.mono kD j c;have R41:=F41.clM m41 H41;have H42:=Bx (n:=4) F42 WE.mono R39.mono R41.mono a;have R42:=F42.clM m42 H42;have H43:=Fm (P:=l.prog) (w:=w) (mg:=mg) (base:=base) (n:=0) F43 dM tQ tR;have Q43:=F43.cl m43 H43;have H44:=He (n:=1) F44 Q43.mono t6 dM a c;have Q44:=F44.cl m44 H44;have H45:=Dh (n:=2) F45 Q44.mono jw c;have Q45:=F45.cl m45 H45;have H46:=K6 (n:=1) F46 Q43.mono j c dM a kE;have Q46:=F46.cl m46 H46;have H47:=IZ (P:=l.prog) (w:=w) (mg:=mg) (base:=base) (n:=0) F47 j c dM a kB kE;have Q47:=F47.cl m47 (H47.imp iR);have H49:=GR (P:=l.prog) (w:=w) (mg:=mg) (base:=base) (n:=0) F49 g;have XN:=JN (n:=1) m g Q7.mono (H49.mono 'b') b49 ⟨SQ,Xp,i49,SR⟩ a j;have Q10:=m.cl m10 XN;have H17:=BI (n:=1) z g Q11.mono Q16.mono Y3.mono (H49.mono 'b') b49 ⟨SQ,Xp,i49,SR⟩ jz j a c;have Q17:=z.cl m17 H17;have H24:=Kh (n:=6) I g Q23.mono Q17.mono a;have Q24:=I.cl m24 H24;have H25:=B4 (n:=7) J Q24.mono Q10.mono a j c;have Q25:=J.cl m25 H25;have H26:=An (n:=8) L Q25.mono;have Q26:=L.cl m26 H26;have H35:=Eu (n:=9) be Q31.mono Q26.mono Q27.mono Q32.mono Q34.mono Q28.mono kC a eO;have Q35:=be.cl m35 (H35.imp iR);have H48:=Lf (n:=10) F48 R42.mono Q35.mono R36.mono Q47.mono Q46.mono Q45.mono dM a c;show (H48.imp iR).imp GJ
def walk{l:PySem.W.OpenLaw}{q:Æ}{c:Y Str}{r:(Str->Ž Value)->Heap->Prop}{e:Ç->Heap->Prop}{d:DefRec}{K:ŋ->Â}(C:l.most=Z 63)(o:d.params.defaults=[])(v:PyProof.Rows.importsNone q=ž)
  (B:∀(w:Ç)(h:Heap),e w h->(K w.params).In h)
  (A:∀(w:Ç)(h:Heap),e w h->∀t∈bY (K w.params),h.get? t.1=Z (ü #[])/\(K w.params).lookup t.1=ż/\đ h t.1) (m:∀(w:Ç),∀t∈bY (K w.params),∀u∈bY (K w.params),t.1=u.1->t=u)
  (F:∀(w:Ç)(mg:Str->Ž Value)(g:Addr)(h:Heap),(K w.params).In h->h.Ns Ã mg->mg d.name=Z (.ref g)->
   ∃j:Í,(∀(s:À)(u:Value),ė s j ⟨[u],[]⟩ [(Zl,u)])/\∀base:Heap,(K w.params).In base->base.Ns Ã mg->FnOk l.prog w (K w.params) mg base aH 11 g j [Zl] (sp_law (K w.params))) :
  PySem.W.WalkO q c r e l.row.toRowW d [] (λf E=>PySem.call f E):=
 L2.walk_ofT (n:=63) (k:=11) (x:=Zl) (CX:=λ_=>aH) (sp:=λw=>sp_law (K w.params)) C 'b' o v ⟨O,'b','b'⟩ B A m F (λ_ _ a ns hl y p=>⟨a,ns,O,y,hl,p,λ_=>rfl⟩) λ_ _ _ _ _ z=>z
def tabs_is{K:Â}{f c P:Addr}{p kV o pm e ct:Value}{u m h:Ž Addr}{sl j:Array (Ž Value)}{g:Array Value}(a:Ü K Ã "least_grown"=Z (Z (.ref f)))
  (l:K.lookup f=Z ⟨p,u,.func (č "least_grown" "least_grown" (fV eM) (ee eM) (av eM) .none kV o pm m e ct),sl⟩) (x:e=.ref c) (q:K.lookup c=Z ⟨.type "code",h,.fields g,j⟩) (r:(g[11]?:Ž Value)=Z (.ref P)) (v:Ü K Ã "greatest_first"=Z ż):∃ps,bY K=[(P,ps)]:=
 ⟨_,vg (yV a l x q r O) (yI v)⟩
def tabs_in{K:Â}{h:Heap}{P c:Addr}{g:Ž Addr}{a:Array Value}{j:Array (Ž Value)}(X:K.In h)(e:∃ps,bY K=[(P,ps)])(q:K.lookup c=Z ⟨.type "code",g,.fields a,j⟩)(r:(a[11]?:Ž Value)=Z (.ref P))(n:K.lookup P=ż)(m:h.get? P=Z (ü #[])) :
  ∀t∈bY K,h.get? t.1=Z (ü #[])/\K.lookup t.1=ż/\đ h t.1:=λt f=>by
 let⟨ps,e⟩:=e;rw[e]at f;have:=LV.mp f;subst this;show⟨m,n,c,_,a,X _ _ q,O,O,r⟩
def tabs_nd{K:Â}{P:Addr}(e:∃ps,bY K=[(P,ps)]):∀t∈bY K,∀u∈bY K,t.1=u.1->t=u:=λt a u c _=>by let⟨ps,e⟩:=e;rw[e]at a c;rw[LV.mp a,LV.mp c]
end Kx
namespace Kx
open PySem PySem.W L2
noncomputable def KK:Params->Frag:=λP=>
 (nat_lit 2,⟨.none,ż,(.dict #[] 0),#[]⟩) ::
 (nat_lit 3,⟨(.type "dict"),ż,(.dict #[dE P "__name__" 165 ((.str "law_cutyard_k59_whole_seating" 618)),dE P "__doc__" 166 (.none),dE P "__package__" 167 (.none),dE P "__loader__" 168 ((.builtin "__main__.__loader__#opaque")),dE P "__spec__" 169 (.none),dE P "__annotations__" 170 ((.ref 6)),dE P "__builtins__" 171 ((.ref 4)),dE P "__file__" 173 ((.str "/claim/cut.py" 172)),dE P "__cached__" 174 (.none),dE P "YardError" 206 ((.ref 24)),dE P "NoNumber" 222 ((.ref 37)),dE P "NoName" 247 ((.ref 56)),dE P "Twice" 272 ((.ref 75)),dE P "TooGreat" 297 ((.ref 94)),dE P "refuse_more" 307 ((.ref 103)),dE P "refuse_twice" 316 ((.ref 110)),dE P "refuse_strange" 325 ((.ref 117)),dE P "common_of_two" 338 ((.ref 124)),dE P "common" 347 ((.ref 131)),dE P "lowest" 353 ((.ref 136)),dE P "unit" 361 ((.ref 141)),dE P "left" 367 ((.ref 146)),dE P "turned" 373 ((.ref 151)),dE P "Stand" 410 ((.ref 168)),dE P "beginning" 416 ((.ref 177)),dE P "growths" 422 ((.ref 182)),dE P "over" 430 ((.ref 189)),dE P "missed_row" 440 ((.ref 196)),dE P "least_grown" 446 ((.ref 201)),dE P "stopping_row" 462 ((.ref 208)),dE P "moved" 468 ((.ref 213)),dE P "exchanged" 474 ((.ref 218)),dE P "fallen" 480 ((.ref 223)),dE P "in_lowest" 486 ((.ref 228)),dE P "none_ending" 496 ((.ref 235)),dE P "best_ending" 505 ((.ref 242)),dE P "endless_ending" 511 ((.ref 247)),dE P "next_step" 525 ((.ref 254)),dE P "walk_on" 537 ((.ref 261)),dE P "walk" 545 ((.ref 268)),dE P "first" 553 ((.ref 275)),dE P "MOST_UNKNOWNS" 557 ((.int 8 556)),dE P "MOST_ROWS" 559 ((.int 12 558)),dE P "givens" 565 ((.ref 280)),dE P "worth" 573 ((.ref 287)),dE P "refuse_seating" 581 ((.ref 292)),dE P "marks" 587 ((.ref 297)),dE P "seat_plan" 593 ((.ref 302)),dE P "prices" 599 ((.ref 307)),dE P "seats_offered" 605 ((.ref 312)),dE P "crowded_group" 611 ((.ref 317)),dE P "seating" 617 ((.ref 322)),dE P "_law_pool" 628 ((.ref 329)),dE P "_law_next" 639 ((.ref 336)),dE P "_law_wide" 647 ((.ref 343)),dE P "_law_names" 662 ((.ref 350)),dE P "_law_sized" 671 ((.ref 357)),dE P "_law_offers" 689 ((.ref 364)),dE P "_law_asking" 701 ((.ref 371)),dE P "_law_whole" 708 ((.ref 378)),dE P "_law_row_of" 714 ((.ref 383)),dE P "_law_prices" 729 ((.ref 390)),dE P "_law_taken" 735 ((.ref 395)),dE P "_law_group" 741 ((.ref 400)),dE P "law" 752 ((.ref 407))] 65),#[]⟩) ::
(nat_lit 52,cO "__init__" 235 "NoName.__init__" 236 237 8 2 3 47 181 48 (.ref 49) (.ref 50) 51 240 241) ::
(nat_lit 71,cO "__init__" 260 "Twice.__init__" 261 262 12 2 3 66 181 67 (.ref 68) (.ref 69) 70 265 266) ::
(nat_lit 90,cO "__init__" 285 "TooGreat.__init__" 286 287 16 2 3 85 181 86 (.ref 87) (.ref 88) 89 290 291) ::
(nat_lit 102,cO "refuse_more" 300 "refuse_more" 301 302 19 2 3 97 181 98 (.ref 99) (.ref 100) 101 305 306) ::
 (nat_lit 103,fO mI "refuse_more" "refuse_more" "cutyard.doors" 298 102) ::
(nat_lit 109,cO "refuse_twice" 308 "refuse_twice" 309 310 22 1 3 104 181 105 (.ref 106) (.ref 107) 108 314 315) ::
 (nat_lit 110,fO ph "refuse_twice" "refuse_twice" "cutyard.doors" 298 109) ::
(nat_lit 116,cO "refuse_strange" 317 "refuse_strange" 318 319 28 2 3 111 181 112 (.ref 113) (.ref 114) 115 323 324) ::
 (nat_lit 117,fO mC "refuse_strange" "refuse_strange" "cutyard.doors" 298 116) ::
(nat_lit 123,cO "common_of_two" 328 "common_of_two" 329 330 33 2 3 118 181 119 (.ref 120) (.ref 121) 122 336 337) ::
 (nat_lit 124,fO nY "common_of_two" "common_of_two" "cutyard.wholes" 326 123) ::
(nat_lit 130,cO "common" 339 "common" 340 341 41 1 3 125 181 126 (.ref 127) (.ref 128) 129 345 346) ::
 (nat_lit 131,fO mM "common" "common" "cutyard.wholes" 326 130) ::
(nat_lit 135,cO "lowest" 348 "lowest" 349 350 46 2 3 132 181 133 .none .none 134 351 352) ::
 (nat_lit 136,fO mh "lowest" "lowest" "cutyard.wholes" 326 135) ::
(nat_lit 140,cO "unit" 356 "unit" 357 358 52 2 3 137 181 138 .none .none 139 359 360) ::
 (nat_lit 141,fO kI "unit" "unit" "cutyard.rows" 354 140) ::
(nat_lit 145,cO "left" 362 "left" 363 364 54 2 3 142 181 143 .none .none 144 365 366) ::
 (nat_lit 146,fO lU "left" "left" "cutyard.rows" 354 145) ::
(nat_lit 150,cO "turned" 368 "turned" 369 370 56 1 3 147 181 148 .none .none 149 371 372) ::
 (nat_lit 151,fO lz "turned" "turned" "cutyard.rows" 354 150) ::
(nat_lit 164,cO "__init__" 388 "Stand.__init__" 389 390 61 5 3 159 181 160 (.ref 161) (.ref 162) 163 396 397) ::
 (nat_lit 165,fO oV "__init__" "Stand.__init__" "cutyard.first" 374 164) ::
 (nat_lit 166,⟨(.type "tuple"),ż,(.seq #[(.str "bottom" 399),(.str "held" 400),(.str "tops" 401),(.str "ways" 402)] 0),#[]⟩) ::
 (nat_lit 167,⟨(.type "dict"),ż,(.dict #[dE P "__module__" 383 ((.str "cutyard.first" 374)),dE P "__firstlineno__" 387 ((.int 59 386)),dE P "__init__" 398 ((.ref 165)),dE P "__static_attributes__" 403 ((.ref 166)),dE P "__dict__" 405 ((.ref 169)),dE P "__weakref__" 407 ((.ref 170)),dE P "__doc__" 408 (.none)] 4),#[]⟩) ::
 (nat_lit 168,⟨(.type "type"),ż,(.cls ⟨"Stand",[(.type "object")],[(.ref 168),(.type "object")],167,"Stand",ž,[],[],β,ż,β⟩),#[ż,ż,(Z (.str "Stand" 376)),(Z (.str "Stand" 384)),(Z (.builtin "object.__new__")),(Z (.bool ž))]⟩) ::
 (nat_lit 169,⟨(.type "getset_descriptor"),ż,(.fields #[(.str "__dict__" 404),(.ref 168),(.builtin "function.__dict__"),(.builtin "function.__dict__#set")]),#[]⟩) ::
 (nat_lit 170,⟨(.type "getset_descriptor"),ż,(.fields #[(.str "__weakref__" 406),(.ref 168),(.builtin "ExceptionGroup.__weakref__"),.none]),#[]⟩) ::
(nat_lit 176,cO "beginning" 411 "beginning" 412 413 66 2 3 173 181 174 .none .none 175 414 415) ::
 (nat_lit 177,fO ko "beginning" "beginning" "cutyard.first" 374 176) ::
(nat_lit 181,cO "growths" 417 "growths" 418 419 70 2 3 178 181 179 .none .none 180 420 421) ::
 (nat_lit 182,fO lr "growths" "growths" "cutyard.first" 374 181) ::
(nat_lit 188,cO "over" 423 "over" 424 425 72 2 3 183 181 184 (.ref 185) (.ref 186) 187 428 429) ::
 (nat_lit 189,fO pD "over" "over" "cutyard.first" 374 188) ::
(nat_lit 195,cO "missed_row" 431 "missed_row" 432 433 74 3 3 190 181 191 (.ref 192) (.ref 193) 194 438 439) ::
 (nat_lit 196,fO nV "missed_row" "missed_row" "cutyard.first" 374 195) ::
(nat_lit 200,cO "least_grown" 441 "least_grown" 442 443 79 2 3 197 181 198 .none .none 199 444 445) ::
 (nat_lit 201,fO eM "least_grown" "least_grown" "cutyard.first" 374 200) ::
(nat_lit 207,cO "stopping_row" 447 "stopping_row" 448 449 82 4 3 202 181 203 (.ref 204) (.ref 205) 206 460 461) ::
 (nat_lit 208,fO mX "stopping_row" "stopping_row" "cutyard.first" 374 207) ::
(nat_lit 212,cO "moved" 463 "moved" 464 465 95 5 3 209 181 210 .none .none 211 466 467) ::
 (nat_lit 213,fO lu "moved" "moved" "cutyard.first" 374 212) ::
(nat_lit 217,cO "exchanged" 469 "exchanged" 470 471 97 4 3 214 181 215 .none .none 216 472 473) ::
 (nat_lit 218,fO kA "exchanged" "exchanged" "cutyard.first" 374 217) ::
(nat_lit 222,cO "fallen" 475 "fallen" 476 477 113 2 3 219 181 220 .none .none 221 478 479) ::
 (nat_lit 223,fO k9 "fallen" "fallen" "cutyard.first" 374 222) ::
(nat_lit 227,cO "in_lowest" 481 "in_lowest" 482 483 115 2 3 224 181 225 .none .none 226 484 485) ::
 (nat_lit 228,fO jZ "in_lowest" "in_lowest" "cutyard.first" 374 227) ::
(nat_lit 234,cO "none_ending" 487 "none_ending" 488 489 118 3 3 229 181 230 (.ref 231) (.ref 232) 233 494 495) ::
 (nat_lit 235,fO pM "none_ending" "none_ending" "cutyard.first" 374 234) ::
(nat_lit 241,cO "best_ending" 497 "best_ending" 498 499 121 2 3 236 181 237 (.ref 238) (.ref 239) 240 503 504) ::
 (nat_lit 242,fO mP "best_ending" "best_ending" "cutyard.first" 374 241) ::
(nat_lit 246,cO "endless_ending" 506 "endless_ending" 507 508 124 2 3 243 181 244 .none .none 245 509 510) ::
 (nat_lit 247,fO k6 "endless_ending" "endless_ending" "cutyard.first" 374 246) ::
(nat_lit 253,cO "next_step" 512 "next_step" 513 514 127 4 3 248 181 249 (.ref 250) (.ref 251) 252 523 524) ::
 (nat_lit 254,fO mG "next_step" "next_step" "cutyard.first" 374 253) ::
(nat_lit 260,cO "walk_on" 526 "walk_on" 527 528 143 4 3 255 181 256 (.ref 257) (.ref 258) 259 535 536) ::
 (nat_lit 261,fO oB "walk_on" "walk_on" "cutyard.first" 374 260) ::
(nat_lit 267,cO "walk" 538 "walk" 539 540 151 2 3 262 181 263 (.ref 264) (.ref 265) 266 543 544) ::
 (nat_lit 268,fO o8 "walk" "walk" "cutyard.first" 374 267) ::
(nat_lit 274,cO "first" 546 "first" 547 548 153 2 3 269 181 270 (.ref 271) (.ref 272) 273 551 552) ::
 (nat_lit 275,fO nE "first" "first" "cutyard.first" 374 274) ::
(nat_lit 279,cO "givens" 560 "givens" 561 562 158 1 3 276 181 277 .none .none 278 563 564) ::
 (nat_lit 280,fO jT "givens" "givens" "cutyard.plans" 554 279) ::
(nat_lit 286,cO "worth" 566 "worth" 567 568 164 2 3 281 181 282 (.ref 283) (.ref 284) 285 571 572) ::
 (nat_lit 287,fO ng "worth" "worth" "cutyard.plans" 554 286) ::
(nat_lit 291,cO "refuse_seating" 576 "refuse_seating" 577 578 167 3 3 288 181 289 .none .none 290 579 580) ::
 (nat_lit 292,fO jc "refuse_seating" "refuse_seating" "cutyard.seats" 574 291) ::
(nat_lit 296,cO "marks" 582 "marks" 583 584 175 2 3 293 181 294 .none .none 295 585 586) ::
 (nat_lit 297,fO kF "marks" "marks" "cutyard.seats" 574 296) ::
(nat_lit 301,cO "seat_plan" 588 "seat_plan" 589 590 177 3 3 298 181 299 .none .none 300 591 592) ::
 (nat_lit 302,fO i5 "seat_plan" "seat_plan" "cutyard.seats" 574 301) ::
(nat_lit 306,cO "prices" 594 "prices" 595 596 188 4 3 303 181 304 .none .none 305 597 598) ::
 (nat_lit 307,fO kJ "prices" "prices" "cutyard.seats" 574 306) ::
(nat_lit 311,cO "seats_offered" 600 "seats_offered" 601 602 197 2 3 308 181 309 .none .none 310 603 604) ::
 (nat_lit 312,fO me "seats_offered" "seats_offered" "cutyard.seats" 574 311) ::
(nat_lit 316,cO "crowded_group" 606 "crowded_group" 607 608 199 3 3 313 181 314 .none .none 315 609 610) ::
 (nat_lit 317,fO ki "crowded_group" "crowded_group" "cutyard.seats" 574 316) ::
(nat_lit 321,cO "seating" 612 "seating" 613 614 204 3 3 318 181 319 .none .none 320 615 616) ::
 (nat_lit 322,fO jY "seating" "seating" "cutyard.seats" 574 321) ::
(nat_lit 328,cO "_law_pool" 620 "_law_pool" 621 622 214 2 3 323 181 324 (.ref 325) (.ref 326) 327 626 627) ::
 (nat_lit 329,fO nQ "_law_pool" "_law_pool" "law_cutyard_k59_whole_seating" 618 328) ::
(nat_lit 335,cO "_law_next" 629 "_law_next" 630 631 219 2 3 330 181 331 (.ref 332) (.ref 333) 334 637 638) ::
 (nat_lit 336,fO mD "_law_next" "_law_next" "law_cutyard_k59_whole_seating" 618 335) ::
(nat_lit 342,cO "_law_wide" 640 "_law_wide" 641 642 231 2 3 337 181 338 (.ref 339) (.ref 340) 341 645 646) ::
 (nat_lit 343,fO oY "_law_wide" "_law_wide" "law_cutyard_k59_whole_seating" 618 342) ::
(nat_lit 349,cO "_law_names" 648 "_law_names" 649 650 235 2 3 344 181 345 (.ref 346) (.ref 347) 348 660 661) ::
 (nat_lit 350,fO mQ "_law_names" "_law_names" "law_cutyard_k59_whole_seating" 618 349) ::
(nat_lit 356,cO "_law_sized" 663 "_law_sized" 664 665 253 2 3 351 181 352 (.ref 353) (.ref 354) 355 669 670) ::
 (nat_lit 357,fO nO "_law_sized" "_law_sized" "law_cutyard_k59_whole_seating" 618 356) ::
(nat_lit 363,cO "_law_offers" 672 "_law_offers" 673 674 262 4 3 358 181 359 (.ref 360) (.ref 361) 362 687 688) ::
 (nat_lit 364,fO nH "_law_offers" "_law_offers" "law_cutyard_k59_whole_seating" 618 363) ::
(nat_lit 370,cO "_law_asking" 690 "_law_asking" 691 692 274 1 3 365 181 366 (.ref 367) (.ref 368) 369 699 700) ::
 (nat_lit 371,fO nc "_law_asking" "_law_asking" "law_cutyard_k59_whole_seating" 618 370) ::
(nat_lit 377,cO "_law_whole" 702 "_law_whole" 703 704 283 1 3 372 181 373 (.ref 374) (.ref 375) 376 706 707) ::
 (nat_lit 378,fO mS "_law_whole" "_law_whole" "law_cutyard_k59_whole_seating" 618 377) ::
(nat_lit 382,cO "_law_row_of" 709 "_law_row_of" 710 711 285 2 3 379 181 380 .none .none 381 712 713) ::
 (nat_lit 383,fO kM "_law_row_of" "_law_row_of" "law_cutyard_k59_whole_seating" 618 382) ::
(nat_lit 389,cO "_law_prices" 715 "_law_prices" 716 717 289 4 3 384 181 385 (.ref 386) (.ref 387) 388 727 728) ::
 (nat_lit 390,fO oE "_law_prices" "_law_prices" "law_cutyard_k59_whole_seating" 618 389) ::
(nat_lit 394,cO "_law_taken" 730 "_law_taken" 731 732 300 3 3 391 181 392 .none .none 393 733 734) ::
 (nat_lit 395,fO kL "_law_taken" "_law_taken" "law_cutyard_k59_whole_seating" 618 394) ::
(nat_lit 399,cO "_law_group" 736 "_law_group" 737 738 313 3 3 396 181 397 .none .none 398 739 740) ::
 (nat_lit 400,fO k7 "_law_group" "_law_group" "law_cutyard_k59_whole_seating" 618 399) ::
(nat_lit 406,cO "law" 742 "law" 743 744 326 1 3 401 181 402 (.ref 403) (.ref 404) 405 750 751) ::
 (nat_lit 407,fO pE "law" "law" "law_cutyard_k59_whole_seating" 618 406)::[]
end Kx
noncomputable def PySem.W.Fast.tw6006049223581563106:=PySem.Challenge.pw_cutyard_k59_whole_seating
theorem PySem.W.Fast.te6006049223581563106:PySem.Challenge.pw_cutyard_k59_whole_seating=PySem.W.Fast.tw6006049223581563106:=rfl
noncomputable def PySem.W.Fast.tw5385739360559341639:=Kx.KK
theorem PySem.W.Fast.te5385739360559341639:Kx.KK=PySem.W.Fast.tw5385739360559341639:=rfl
structure PySem.W.Fast:Prop where(tw10187262899746519778 tw10935966178431739952 tw11081674485631468878 tw11181060158491581120 tw11473537387503688649 tw12008430060494928630 tw12150833836412814767 tw12190863052282432635 tw1237231131803127163 tw12377575934667646748 tw12509200171245916118 tw12551259981071442131 tw12570551708611308481 tw12772444263516307720 tw13028370443601578740 tw13115312354843291041 tw13196003313749852696 tw13285958527140694358 tw13314329914244829813 tw13320503549629859142 tw13440600838022691498 tw13481245862250191624 tw13540890585346988306 tw13709914305250768857 tw13718549178464946527 tw13817075340735391256 tw1389769326219233259 tw13987573477290232632 tw1412696553380106997 tw14147589859472750523 tw14337791105358424929 tw14390225686440795147 tw14422252640711537601 tw14497871023135027016 tw14550412348027309750 tw15100099247271571789 tw15316418880311624661 tw15377467956789135077 tw15420721302053490079 tw15474335216620971446 tw15522450120707434389 tw15675600636170648872 tw15973016826994629584 tw16141144758894868648 tw1615801489031326135 tw16230267729657889832 tw16410558635167020937 tw16663934249835431713 tw16971819465625636643 tw16980326902116399015 tw16987329733705871984 tw17223627925834446365 tw17289131815919709209 tw17344552728675757617 tw17437750289950966871 tw17897916416878815976 tw193122500889733756 tw1977810596689569048 tw2202627953923591913 tw2295615671380018999 tw2361891280486188790 tw2600085959635453569 tw2854100912753258077 tw2861463160012895433 tw2878021088889364663 tw288250855091864924 tw3402104265669793567 tw3403001230768115983 tw3405364841313507022 tw3489721458649647848 tw3572229164028520700 tw3653262703643160600 tw3780914154916172957 tw3879970411024388321 tw3907712947659976362 tw4004208110755240673 tw4022407513713940238 tw4116025963830516792 tw4225814848930419417 tw4279878466347999110 tw4326128757316997856 tw4440613824532078243 tw444324942592686796 tw4585403018318783564 tw4763199567457825747 tw4907550000724708615 tw4990946762942459165 tw5305499522729413267 tw5587419950956679063 tw5845795560770019040 tw5899347659131737385 tw5970913849521425023 tw6000808408080393266 tw6594774615736018035 tw6671928951124270199 tw6715822334203096277 tw6806844224316275259 tw7080072861810344407 tw7205513291487712561 tw7250500932589148366 tw7377961157504386890 tw7452884506218336454 tw7516874874599251280 tw7690032791164914182 tw7801616762574943542 tw7906830838299256118 tw7913494604447501106 tw793892280393131190 tw8027395273023712614 tw8054610041859422495 tw8072024918196046393 tw8192739468613898788 tw8202641563015893143 tw8351371685814544715 tw8418507923214635993 tw8623288347531491677 tw8675942328913097340 tw8727781935181941090 tw8805450711071278268 tw9000943141141579055 tw9021957366424412326 tw9052259762533364592 tw9097838210727524520 tw9245733621453927407 tw938147573367845891 tw9947096375781764859:True)
end
open PySem PySem.W PyProof.Rows
set_option maxRecDepth 100000 in
set_option maxHeartbeats 0 in
theorem PySem.Challenge.cw_cutyard_k59_whole_seating_holds : PySem.Challenge.rw_cutyard_k59_whole_seating.Holds := by
 w_on;o_law;o_head (kmHook Kx.KK (2::3::52::71::90::102::103::109::110::116::117::123::124::130::131::135::136::140::141::145::146::150::151::164::165::166::167::168::169::170::176::177::181::182::188::189::195::196::200::201::207::208::212::213::217::218::222::223::227::228::234::235::241::242::246::247::253::254::260::261::267::268::274::275::279::280::286::287::291::292::296::297::301::302::306::307::311::312::316::317::321::322::328::329::335::336::342::343::349::350::356::357::363::364::370::371::377::378::382::383::389::390::394::395::399::400::406::407::[]) (λ_=>by kernel_rfl) [198]);(case hw=>w_witness2)
 k_fill
 refine Kx.walk (l:=PySem.Challenge.rw_cutyard_k59_whole_seating) rfl rfl (by decide +kernel) (λw h Y=>km_in_of Y) ?Y6 ?Y7 ?F
 case Y6=>
  intro w h Y;have KX:=km_in_of Y;refine' Kx.tabs_in KX (Kx.tabs_is ?Y8 ?Y9 ?Za ?Xq ?Xr ?Zb) ?Xq ?Xr ?tn9 ?tm9
  (case Y8=>k_is);(case Y9=>k_is);(case Za=>rfl);(case Xq=>k_is);(case Xr=>rfl);(case Zb=>k_is)
  (case tn9=>kernel_rfl);(case tm9=>exact PySem.W.km_tabs_of Y _ (by simp))
 case Y7=>
  intro w;refine' Kx.tabs_nd (Kx.tabs_is ?Y8 ?Y9 ?Za ?Xq ?Xr ?Zb)
  (case Y8=>k_is);(case Y9=>k_is);(case Za=>rfl);(case Xq=>k_is);(case Xr=>rfl);(case Zb=>k_is)
 case F=>
  intro w mg fa h KX G UL;refine' Kx.all_mk KX G UL ?RX ?_ ?_ ?_ ?_ ?_ ?_ ?_ ?_ ?_ ?_ ?_ ?_ ?_ ?Xn ?Xo ?Y1 ?Y2 ?Zc ?Zd ?Ze ?Zf ?lyg ?_ ?_ ?_ ?_ ?_ ?_ ?_ ?_ ?_ ?_ ?_ ?_ ?_ ?_ ?_ ?_ ?_ ?_ ?_ ?_ ?_ ?_ ?_ ?_ ?_ ?_ ?_ ?_ ?_ ?_ ?_ ?_ ?_ ?_ ?_ ?_ ?_ ?_ ?_ ?_ ?_ ?_ ?_ ?_ ?_ ?_ ?_ ?_ ?_ ?_ ?_ ?_ ?_ ?_ ?_ ?_ ?_ ?_ ?_ ?_ ?_ ?_
  (case Xn=>k_is);(case Xo=>k_is);(case Y1=>k_is);(case Y2=>k_is)
  (case Zc=>rfl);(case Zd=>k_is);(case Ze=>rfl);(case Zf=>kernel_rfl);(case lyg=>k_is)
  (case RX=>k_is)
  all_goals first|(refine' L2.Has.of ?a ?l ?c;(case a=>k_is);(case l=>k_is);(case c=>k_is))|(refine' L2.HasM.of ?a ?i ?l ?c ?k;(case a=>k_is);(case i=>k_is);(case l=>k_is);(case c=>k_is);(case k=>k_is))|k_is|skip

