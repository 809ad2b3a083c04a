import PyProof.Rows.All
import Wide.All
import OpenK.AllK
import Wide.FinOn
import Lean
import PyProof.EqAt
import PyProof.EqKinds
import PyProof.TupleCall
import PyProof.NeKinds
import KE.KLam
import KE.KMinKey
import KE.KSortTup
import PyProof.AutoListH
import PyProof.MeetsStr
import PyProof.StrLawsJoin
import PyProof.FitsReplace
import PyProof.Rows.TupDisplay
import PyProof.ListRange
import PyProof.ZipIter
import PyProof.ListNew
import KE.KSortKey
import PyProof.StationsW
import PyProof.ExcClass2
import PyProof.ExcInit
import PyProof.ExcBaseAll.ValueError
import PyProof.RulesAs
import PyProof.NsDelKeeps
import PyProof.ExcAttrAll.ValueError
import PyProof.IsiBase
import KE.KIsAll
import PyProof.InstStoreFacts
import PyProof.Rows.SetFrom
import PyProof.SetRoads
import KE.KRevIter
import PyProof.StrLawsChain
import PyProof.StrLawsTight
import PyProof.Rows.StrItems
import PyProof.Rows.StrSplitCount
import KE.KIntText
import PyProof.StrCalls2
import PyProof.StrLoop
import PyProof.StrWalks
import PyProof.StrOps
import PyProof.StrLawsIn
import PyProof.Rows.FStr
import PyProof.Rows.StrSplitAre
import PyProof.CallStr
import PyProof.IsiNone
import PyProof.Rows.Range3
import PyProof.Rows.ChunkLeaf
import PySem.Challenge.RW_cutyard_k75_written_and_told_again
open PySem.W (instObj methodObj Frag lookIn InstAt plainGet hasDictIn findIn handedIn plainGet_of isFn plainOver takerIn makesIn typeIn emptyDict keepIn callWith_K methodCall_KW callWith_K0 cellsFrom_some fnOf codeIn kIn_of mg_of nsIn kitOne)
set_option Elab.async false
set_option linter.all false
set_option maxRecDepth 100000
noncomputable section
open List renaming length_map->wy,getElem?_append_right->Km,getElem?_append_left->Kn,length_append->Kp,mem_cons_of_mem->Kt,mem_cons_self->Ku,getElem?_map->Kv,mem_cons->Kz,length_cons->KA,size_toArray->KC,getElem?_eq_getElem->KG,mem_singleton->KH,mem_of_getElem?->KN,mem_map->KP,not_mem_nil->KR,append_assoc->KS,map_append->KW,length_take->KY,all_eq_true->KZ,length_set->K0,map_cons->K1,lookup_cons->K4,mem_append->K6,nodup_cons->K9,getElem?_eq_none->Lc,append_nil->Le,flatten_cons->Li,getElem?_set_ne->Lk,mem_append_right->Ll,length_range->Lm,getElem?_eq_some_iff->Lr,getElem?_set_self->Ls,ext_getElem?->LA,getD_eq_getElem?_getD->LB,length_nil->LF,length_drop->LH,nodup_append->LI,take_length->LL,length_eq_zero_iff->LM,map_map->LO,replicate_succ->LR,length_replicate->LS,eraseIdx_eq_take_drop_succ->LV,take_of_length_le->L1,getElem?_eq_none_iff->L3,getElem?_of_mem->L9,mem_range->Ma,getElem?_inj->Mc,map_congr_left->Md,getElem?_take_of_lt->Mg,mem_append_left->Mj,getElem?_range->Mn,mem_filterMap->Mo,find?_cons->Mr,getElem?_replicate->Mt,length_zipWith->Mw,getElem_mem->MA,find?_cons_of_neg->MC,of_mem_zip->MH,any_cons->MI,find?_cons_of_pos->MQ,getElem?_zipWith->MT,getElem_toArray->MY,cons_append->MZ,mem_of_mem_drop->M1,dropLast_concat->M3,mem_filter->M6,nil_append->M8,getElem?_zip_eq_some->M9,mem_of_find?_eq_some->Nb,getElem?_drop->Nf,contains_cons->Ng,find?_eq_none->Nh,drop_zero->Nk,getElem?_set->Nn,any_eq_true->Nx,eq_nil_or_concat->NG,concat_eq_append->NH,eraseIdxIfInBounds_toArray->NJ,forIn_cons->NP,length_eraseIdx->NV,filterMap_cons->NW,nodup_nil->NZ,filterMap_map->N3,lookup_append->N4,all_cons->Od,map_take->Oe,drop_eq_getElem_cons->Ol,map_nil->Oz,any_map->OB,mem_flatten->OC,map_zip_eq_zipWith->OJ,getElem?_cons_succ->OL,filter_cons_of_pos->OM,length_zip->OO,all_append->OQ,head?_eq_getElem?->OS,drop_eq_nil_of_le->OT,map_id->OU,forIn_nil->OV,dropLast_eq_take->OW,mem_iff_getElem?->O1,take_zero->O2,map_drop->O4,all_map->O5
open PySem renaming wpAny_bind->Ko,wpAny_pure->KD,boot_len->KO,wpAny_loadPart_at->Lu,wpAny_loadPart'->Lz,sizeLine_eq->LD,wpAny_field->LJ,mem_of_lookup->LK,wpAny_mono->L0,wpAny_callSpecial?_slot->L6,call_meets->Me,wpAny_holding->Mi,wpAny_newObj_type->Ml,wpAny_isSubtype_exc->Mv,wpAny_call_entry->Mx,wpAny_seqItems->Mz,wpAny_Call_Name_kw->ME,wpAny_setField_rec->MF,wpAny_truthy_bool->ML,wpAny_pyIter_tuple->MO,codeAny_mono->MR,wpAny_standAt->M4,wpAny_passesOwn->M7,wpAny_setField->Nj,wpAny_pyNext_list_item->Np,wpAny_onRaise->Nv,wpAny_pyNext_list_end->Ny,plainObj_wpAny_Assign_Attribute->NI,wpAny_execs_nil->NL,typeIs_str->NN,wpAny_updateSeq_pair->NR,call_isinstance->NT,wpAny_pyIter_list->Of,wpAny_call->Oi,typeIs_int->Oj,noFill_tuple_add->Ou,wpAny_typeOf->Ox,wpAny_ite_false->ON,Shared->À,mainGlobals->Á,Expr->Ã,Program->Ä,World->Å,attributeBase->Æ,Stmt->Ç,assignEach->È,Around->É,compareOp->Ê,FuncData->Ë,binaryOp->Ì,swapsWith->Î,Obj->Ï,Keyword->Ñ,IsPair->Ó,foldedSetIterable->Ô,Pos->Õ,bootBuiltins->Ö,cellsFrom->Ù,sysModules->Ü,excClassObj->Ý,ExceptHandler->ß,sliceBounds->á,cLine->â,Scope->ã,builtinsNs->ä,IsZip->æ,Env->é,checkBuiltinCall->ë,codeAny->ì,IsPart->ð,letOwnedTupleGo->ñ,pyNext->ò,getItem->ô,Model->ö,typeLookup->ø,Tok->ú,callerA->û,Operator->ü,GenState->ý,tupleKind->ÿ,seqIndex?->Ā,handedOut->ā,IsRangeIter->ă,valueAt->ć,BindsTo->ċ,wpAny_rule->Č,newFunctionEnv->č,field->Ď,compEnvC->ď,CmpOp->Ē,wpAny_binaryOp_repeat_ref->Ĕ,wpAny_attempt->Ė,swapsWithSole->ė,swappedStores->Ę,seq_tuple_add->ę,wpAny_pyNext_tuple_item->ě,strValues->Ĝ,noteFrame->ĝ,bindL->Ğ,bindC->ğ,atKey->Ġ,wpAny_pyNext_tuple_end->ħ,wpAny_pyNext_range_end->Ĩ,wpAny_pyIter_tupleiter->ĩ,wpAny_pyIter_rangeiter->Ī,seqIndex_neg->ī,getAttr->Ĭ,concat_meets->ĭ,Params->Į,wpAny_pyIter_listiter->ĵ,codeAny_handlers_test->Ķ,wpAny_letGo->ĸ,seqIndex_of->Ĺ,lookupAlong->ĺ,codeAny_call_builtin->Ļ,bindArgs->ļ,Meets->Ľ,IntMulOk->ľ,wpAny_handleBy_cons->ń,wpAny_pyIter_range->Ň,tupleKind_room_in1->ň,isInstance->Ŋ,wpAny_sequenceKey->ŏ,wpAny_pyIter_enum->Ő,slot_list_getitem->ő,setAttr->Œ,OsState->Ŗ,Drawn->ŗ,wpAny_pyIter_zip->ř,wpAny_lookBehind->Ś,wpAny_isInstance->ś,setFlight->Ŝ,pastItsLine_dict->ŝ,lookupAlong_cons->Ş,wpAny_mroOf_exc->ţ,pushCells_keeps->Ť,isinstance_true->ť
open PySem.Heap renaming get?_push_of_some->Ks,lt_size->KI,get?_push_size->KJ,size_push->LG,get?_none_of_le->L8,get?_update_other->Mb,get?_update_self->Mp
open Nat renaming le_refl->Kw,le_trans->K3,lt_or_ge->K7,lt_of_lt_of_le->Lb,ne_of_lt->Lg,sub_self->Lw,add_sub_cancel_left->LN,zero_le->Mq,lt_irrefl->Ms,le_of_lt->MD,lt_succ_self->MN,min_eq_left->Na,lt_succ_of_lt->Nm,le_add_right->Nw,add_sub_add_right->NA,le_of_eq->NM,not_lt->NQ,le_succ->N0,mod_lt->Oo,ne_of_gt->Oq,mul_comm->Oy,min_self->OI,le_of_ble_eq_true->OX
open Bool renaming and_eq_true->KQ,false_ne_true->Lh,eq_iff_iff->Mf,false_bne->MM,or_eq_true->NU,false_eq_true->N6,or_true->OG,true->ū,false->Ŭ
open Option.some renaming inj->K2
open PyProof.Rows renaming boot_tuple->La,boot_str->Lx,slot_tuple_getitem->LU,callWith_type1->L5,boot_int->MV,split_pos->Nr,signs_ofString->N9,boot_all->OZ,split_le->O0,AllBare->ç,envOfC->ê,IsTup->Ĥ,subscriptTail_builtinR->į,IntsAre->Ĵ,entry_tuple_getitem->ņ,args_tuple_getitem->Ō,boot_isinstance->ŧ
open PySem.Str renaming append_assoc->Lo
open Int renaming eq_ofNat_of_zero_le->Lq,toNat_natCast->L4,emod_lt_of_pos->Ob,emod_nonneg->OR
open Ne renaming symm->Lv
open Array renaming length_toList->Ly,all_toList->M0,getElem?_toList->Nz,find?_toList->N2,mem_toList_iff->ē,toList->Ŏ,ext'->Ţ
open PySem.W renaming mg_none_of->LP,mg_of->MK,mg_of->Ni,callWith_K->NK,methodCall_KW->Oc,Frag->Â,nsIn->Ú,keepIn->Û,emptyDict->à,findIn->è,instObj->í,codeIn->ù,plainGet_of->Ă,fnOf->ą,plainGet->Đ,kitOne->đ,methodObj->ġ,hasDictIn->Ģ,lookIn->ŋ,takerIn->Ŕ,plainOver->ş
open PySem.PassesOwn renaming never->LQ
open PySem.F renaming excBase_ValueError->LZ,plainAttrs_list->L7,store_ValueError->Mh,attrBase_ValueError->MG,slot_tuple_iterator_next->MJ,slot_tuple_mul->MX,args_tuple_add_2->Nc,entry_tuple_add->Nl,slot_tuple_add->Nq,plainAttrs_str->Nt,slot_list_pop->NC,type_list_pop->ND,slot_int_rmul->NO,slot_zip_next->NS,args_tuple_iterator_next_1->NY,entry_tuple_iterator_next->N5,args_tuple_mul_2->N8,args_str_split_2->Oa,entry_tuple_mul->Og,entry_str_split->Oh,slot_list_append->OD,type_list_append->OE,slot_tuple_index->OF,slot_str_split->OH,slot_list_index->OK
open PySem.StrLaws renaming glued_eq_join->Mm
open Option renaming map_eq_some_iff->MB,isSome_iff_exists->Ot,isSome_some->ĕ,isSome_map->Ě,getD_none->ĥ,bind_some->Ħ,none->ō,some->Z,none->ũ
open PySem.Obj renaming data_mapFields->MP,isFreed_of_fields->MS,mapFields->å,mapSeq->ó,cls_mapFields->ķ
open Decidable renaming em->MU
open PySem.AutoSeq1 renaming sub_tuple_tuple->Nd,idx_int->OA
open PySem.Paired renaming length->Nu,snoc->ĉ
open PySem.W.KIN renaming signs_num->OY
open PySem.Txt renaming split->Í,startswith->î,join->ï,slice_le->Š
open PySem.NumText renaming digitsVal->Ð
open False renaming elim->Ò
open Sum renaming inr->Ø,inl->õ
open True renaming intro->Þ
open PySem.Calls renaming Name_function_global->þ,callWith_builtin->Ć
open PySem.Around renaming under->Ą
open PySem.Shared renaming heap->Ĉ
open PySem.Code renaming isFrame->Ċ,quiet_builtin->ģ,frames->š
open Sum.inr renaming inj->Ł
open Std.Legacy.Range renaming size->ł,forIn_eq_forIn_range'->Ń
open PySem.IsRange renaming new->Ņ
open PySem.Walks renaming range->œ
open PySem.W.WShape renaming has->ŕ
open Or renaming inr->Ř
open PySem.W.WData renaming int->Ŧ
open Char renaming toNat->Ũ
abbrev Y:=List
abbrev Ū:=Option
theorem S{α:Sort _}{a:α}:a=a:=rfl
local macro_rules|`(())=>`(by omega)
local macro_rules|`('b')=>`(by decide)
local macro_rules|`('a')=>`(by decide +kernel)
local macro_rules|`(tactic|show $e)=>`(tactic|exact $e)
section
open Lean
def cV9:Nat->Term->MacroM (TSyntax `rcasesPat)
 |0,_=>Macro.throwUnsupported
 |n+1,t=>do match t with
  |`($x:ident)=>`(rcasesPat|$x:ident)
  |`(_)=>`(rcasesPat|_)
  |`(⟨$ps,*⟩)=>do
   let qs←ps.getElems.mapM fun p=>do
    let q←cV9 n p
    `(Lean.Parser.Tactic.rcasesPatLo|$q:rcasesPat)
   `(rcasesPat|⟨$qs,*⟩)
  |_=>Macro.throwUnsupported
end
local macro_rules|`(tactic|let $p:term:=$e)=>do
 let q←cV9 99 p
 `(tactic|obtain $q:rcasesPat:=$e)
abbrev am(x:PySem.Str):Prop:=(x==("__classdict__":PySem.Str))=false
abbrev ad(x:PySem.Str):Prop:=(x==("__debug__":PySem.Str))=false
abbrev Kq:=@if_pos
abbrev Kr:=@if_neg
abbrev KL:=@of_decide_eq_true
abbrev KU:=@decide_eq_false
abbrev K5:=@beq_self_eq_true
abbrev K8:=@of_decide_eq_false
abbrev Ld:=@decide_eq_true
abbrev Lj:=@decide_eq_true_eq
abbrev LC:=@or_false
abbrev LW:=@congrArg
abbrev Mu:=@beq_eq_false_iff_ne
abbrev MW:=@beq_iff_eq
abbrev M5:=@if_true
abbrev NX:=@ne_true_of_eq_false
abbrev Ov:=@if_false
abbrev OP:=@beq_false_of_ne
abbrev O3:=@bne_iff_ne
local macro_rules|`(tactic|ac_rfl)=>`(tactic|exact⟨rfl,rfl,rfl,by decide +kernel,rfl,by decide +kernel,by decide +kernel⟩)
local macro_rules|`(tactic|lia)=>`(tactic|decide +kernel)
local macro_rules|`(tactic|nofun)=>`(tactic|first|exact Or.inl rfl|exact Or.inr (Or.inl rfl)|exact Or.inr (Or.inr rfl)|exact .inr rfl|assumption)
theorem Yk{c:Sort _}{a:c}{b:Prop}:a=a\/b:=.inl rfl
namespace L2
open PySem PySem.Spec PyProof.Rows
noncomputable abbrev aK:=Sum Int Str
noncomputable def kj:aK->Value->Bool
 |.inl k,v=>Value.isInt k v
 |.inr x,v=>Value.isStrOf x v
noncomputable def EO(w:Å):aK->Int
 |.inl k=>hashInt k
 |.inr x=>hashStr w x
theorem ib:∀{k:aK}{v:Value},kj k v=ū->(∃i t,k=õ i/\v=Value.int i t)\/(∃x t,k=Ø x/\v=Value.str x t)
 |.inl i,v,h=>by let⟨t,e⟩:=Value.isInt_shape (k:=i) (v:=v) h;show .inl ⟨i,t,S,e⟩
 |.inr x,v,h=>by let⟨t,e⟩:=Value.isStrOf_shape (x:=x) (v:=v) h;show .inr ⟨x,t,S,e⟩
theorem Bv(i:Int)(t:ú):kj (.inl i) (.int i t)=ū:=by simp[kj,Value.isInt]
theorem FP(x:Str)(t:ú):kj (.inr x) (.str x t)=ū:=by simp[kj,Value.isStrOf]
theorem Au(a b:Int):decide ((õ a:aK)=õ b)=(a==b):=by
 by_cases e:a=b
 ·subst e;simp
 ·have h:¬ (õ a:aK)=õ b:=λq=>e (õ.inj q);rw[KU h];show (Mu.mpr e).symm
theorem Ej(a b:Str):decide ((Ø a:aK)=Ø b)=decide (a=b):=by
 by_cases e:a=b
 ·subst e;simp
 ·have h:¬ (Ø a:aK)=Ø b:=λq=>e (Ł q);rw[KU h,KU e]
theorem zh(a:Int)(b:Str):decide ((õ a:aK)=Ø b)=Ŭ:=KU (λq=>nomatch q)
theorem Je(a:Str)(b:Int):decide ((Ø a:aK)=õ b)=Ŭ:=KU (λq=>nomatch q)
noncomputable def eQ(prog:Ä)(w:Å):PySem.KeyKind prog w aK where
 is:=kj
 hash:=EO w
 inj:=λv a b g f=>by
  rcases ib g with⟨i,t,rfl,rfl⟩|⟨x,t,rfl,rfl⟩
  ·rcases ib f with⟨j,u,rfl,e⟩|⟨y,u,rfl,e⟩
   ·injection e with e1 _;rw[e1]
   ·show nomatch e
  ·rcases ib f with⟨j,u,rfl,e⟩|⟨y,u,rfl,e⟩
   ·show nomatch e
   ·injection e with e1 _;rw[e1]
 byValue:=λk v h=>by rcases ib h with⟨i,t,rfl,rfl⟩|⟨x,t,rfl,rfl⟩<;>rfl
 pyHash:=λc h=>by
  rcases ib c with⟨i,t,rfl,rfl⟩|⟨x,t,rfl,rfl⟩
  ·show wpAny_pyHash_int h
  ·show wpAny_pyHash_str h
 eqBool:=λl c h=>by
  rcases ib l with⟨i,t,rfl,rfl⟩|⟨x,t,rfl,rfl⟩
  ·rcases ib c with⟨j,u,rfl,rfl⟩|⟨y,u,rfl,rfl⟩
   ·rw[Au]at h;show wpAny_eqBool_int h
   ·rw[zh]at h;show SeqAt.EqAt.int_str i t y u _ _ _ _ h
  ·rcases ib c with⟨j,u,rfl,rfl⟩|⟨y,u,rfl,rfl⟩
   ·rw[Je]at h;show SeqAt.EqAt.str_int x t j u _ _ _ _ h
   ·rw[Ej]at h;show wpAny_eqBool_str h
 «strs»:=λk x t v h=>by
  rcases ib h with⟨i,u,rfl,e⟩|⟨y,u,rfl,e⟩
  ·show nomatch e
  ·injection e with e1 _;subst e1;cases v<;>rfl
theorem AC(prog:Ä)(w:Å)(i:Int)(t:ú):(eQ prog w).is (.inl i) (.int i t)=ū:=Bv i t
theorem G2(prog:Ä)(w:Å)(x:Str)(t:ú):(eQ prog w).is (.inr x) (.str x t)=ū:=FP x t
inductive V where
 |non|bl (b:Bool)|int (i:Int)|str (x:Str)|byt (b:Array UInt8)|flt (b:UInt64)|ref (a:Addr)|ty (n:String)
 deriving DecidableEq
noncomputable def RelV:V->Value->Prop
 |.non,u=>u=Value.none
 |.bl b,u=>u=Value.bool b
 |.int i,u=>∃t,u=Value.int i t
 |.str x,u=>∃t,u=Value.str x t
 |.byt b,u=>∃t,u=Value.bytes b t
 |.flt b,u=>∃t,u=Value.float b t
 |.ref a,u=>u=Value.ref a
 |.ty n,u=>u=Value.type n
noncomputable abbrev Vals:Y V->Y Value->Prop:=Paired RelV
theorem Vals.length{xs:Y V}{us:Y Value}(r:Vals xs us):xs.length=us.length:=Nu r
theorem Vals.get:∀{xs:Y V}{us:Y Value}{i:Nat}{x:V},Vals xs us->xs[i]?=Z x->∃u,us[i]?=Z u/\RelV x u
 |_,_,_,_,.nil,e=>by simp at e
 |_,_,0,_,.cons r _,e=>by simp at e;subst e;show⟨_,S,r⟩
 |_,_,i+1,x,.cons _ t,e=>by let⟨u,a,c⟩:=Vals.get (i:=i) (x:=x) t (by simpa using e);show⟨u,by simpa using a,c⟩
theorem Vals.set{x:V}{u:Value}(r:RelV x u):∀{xs:Y V}{us:Y Value}(i:Nat),Vals xs us->Vals (xs.set i x) (us.set i u)
 |_,_,_,.nil=>.nil
 |_,_,0,.cons _ t=>.cons r t
 |_,_,i+1,.cons q t=>.cons q (Vals.set r i t)
theorem Vals.append:∀{xs ys:Y V}{us ws:Y Value},Vals xs us->Vals ys ws->Vals (xs++ys) (us++ws)
 |_,_,_,_,.nil,s=>s
 |_,_,_,_,.cons r t,s=>.cons r (Vals.append t s)
theorem Vals.take:∀{xs:Y V}{us:Y Value}(n:Nat),Vals xs us->Vals (xs.take n) (us.take n)
 |_,_,0,_=>.nil
 |_,_,_+1,.nil=>.nil
 |_,_,n+1,.cons r t=>.cons r (Vals.take n t)
theorem Vals.drop:∀{xs:Y V}{us:Y Value}(n:Nat),Vals xs us->Vals (xs.drop n) (us.drop n)
 |_,_,0,r=>r
 |_,_,_+1,.nil=>.nil
 |_,_,n+1,.cons _ t=>Vals.drop n t
noncomputable def RelO:Ū V->Ū Value->Prop
 |some v,Z u=>RelV v u
 |none,ũ=>True
 |_,_=>False
noncomputable def KV{a:Type}:Y (a×V)->Y (a×Value)->Prop:=Paired λ(p:a×V)(q:a×Value)=>p.1=q.1/\RelV p.2 q.2
noncomputable def kV:aK->V
 |.inl i=>.int i
 |.inr x=>.str x
inductive HO where
  |lst (xs:List V)
  |tup (xs:List V)
  |dK (Pb:List (aK×V))|dT (Pb:List (List aK×V))
  |set (Q:Int->Bool) (n:Nat)
  |ins (C dx:Addr) (fs:List (Str×V))
  |own (x:Addr)
  |xd (fs:List (Str×V))
  |met (f x:Addr)
  |rng (lo hi:Int)
  |frz (o:Ï) (u:HO)
  |tbl (ps:Array Value)
  |ext (φ:Heap->Prop)
noncomputable abbrev Hp:=Addr->Ū HO
noncomputable def aq(H:Hp)(a:Addr)(o:HO):Hp:=λb=>if b=a then Z o else H b
theorem bu{H:Hp}{a:Addr}{o:HO}:aq H a o a=Z o:=by unfold aq;rw[Kq S]
theorem aJ{H:Hp}{a b:Addr}{o:HO}(h:b≠a):aq H a o b=H b:=by unfold aq;rw[Kr h]
theorem za{H:Hp}{a b:Addr}{o u:HO}(h:H a=Z o)(h':H b=Z u)(d:o≠u):a≠b:=by intro e;subst e;rw[h]at h';show d (K2 h')
theorem cV{H:Hp}{a b:Addr}{o:HO}(h:H a=Z o)(h':H b=ũ):a≠b:=by intro e;subst e;rw[h]at h';cases h'
noncomputable def IsTupD(h:Heap)(a:Addr)(c:Array Value):Prop:=∃o,h.get? a=Z o/\(o.cls=.type "tuple"/\o.dict=ũ)/\∃n,o.data=.seq c n
theorem IsTupD.tup{h:Heap}{a:Addr}{f:Array Value}(x:IsTupD h a f):Ĥ h a f:=let ⟨o,e,c,d⟩:=x;⟨o,e,c.1,d⟩
theorem IsTupD.lt{h:Heap}{a:Addr}{c:Array Value}(x:IsTupD h a c):a<h.objs.size:=x.tup.lt
theorem IsTupD.new(h:Heap)(a:Array Value):IsTupD (h.push { cls:=.type "tuple",data:=.seq a }) h.objs.size a:=⟨_,KJ _ S,⟨S,S⟩,_,S⟩
section
variable(P:Ä)(w:Å)
noncomputable def ObjOk(H:Hp)(h:Heap)(a:Addr):HO->Prop
 |.lst xs=>xs.length<=sizeLine/\∃(g:Y Value)(n:Nat),Vals xs g/\h.get? a=Z { cls:=.type "list",data:=.seq g.toArray n }
 |.tup xs=>xs.length<=sizeLine/\∃g:Y Value,Vals xs g/\IsTupD h a g.toArray
 |.dK j=>j.length<=sizeLine/\(a==Ü)=Ŭ/\∃vs,KV j vs/\h.DictOf (eQ P w) a vs
 |.dT j=>j.length<=sizeLine/\(a==Ü)=Ŭ/\∃xs:Y (Y aK×Addr×Value),
   Paired (λ(p:Y aK×V)(q:Y aK×Addr×Value)=>p.1=q.1/\H q.2.1=Z (.tup (p.1.map kV))/\RelV p.2 q.2.2) j xs /\
   ∃o es A,h.get? a=Z o/\o.ExactDict/\o.data=.dict es A/\es.toList=xs.map (entryOfKey (ÿ (eQ P w)))/\(xs.map (·.1)).Nodup
 |.set Q n=>h.SetOf (intKind P w) a Q n
 |.ins C l fs=>H l=Z (.own a)/\fs.length<=1000/\l≠a/\h.get? a=Z (í C l) /\
   ∃e,h.Ns1 l e/\(∀f,RelO (fs.lookup f) (e f))/\PySem.Within e (fs.map (·.1))
 |.own _=>∃o,h.get? a=Z o
 |.xd fs=>∃e,h.Ns1 a e/\∀f,RelO (fs.lookup f) (e f)
 |.rng lo B=>∃t u v,h.get? a=Z { cls:=.type "range",data:=.fields #[.int lo t,.int B u,.int 1 v] }
 |.frz o u=>h.get? a=Z o/\ObjOk H h a u
 |.tbl ps=>h.get? a=Z { cls:=.none,data:=.fields #[] }\/∃(c:Addr)(o:Ï)(vs:Array Value)(x y:Value)(q:Str)(t t':ú),ps=#[x,y,.str q t]/\H c=Z (.frz o (.own a)) /\
   h.get? a=Z { cls:=.none,data:=.fields #[x,y,.ref c] }/\o.data=.fields vs/\vs[1]?=Z (.str q t')
 |.met f x=>h.get? a=Z (ġ (.ref f) (.ref x))
 |.ext m=>m h/\(∃o,h.get? a=Z o)/\∀r z:Heap,m r->(∀o,r.get? a=Z o->z.get? a=Z o)->m z
noncomputable def HOk(H:Hp)(h:Heap):Prop:=∀a o,H a=Z o->ObjOk P w H h a o
end
section
variable{P:Ä}{w:Å}{H g:Hp}{h h':Heap}{a:Addr}{o:HO}
theorem ObjOk.lt(x:ObjOk P w H h a o):a<h.objs.size:=by
 cases o with
 |lst xs=>let⟨_,_,_,_,e⟩:=x;show KI e
 |tup xs=>let⟨_,_,_,p⟩:=x;show p.lt
 |dK c=>let⟨_,_,_,_,o,_,_,e,_⟩:=x;show KI e
 |dT c=>let⟨_,_,_,_,o,_,_,e,_⟩:=x;show KI e
 |set Q n=>let⟨o,_,_,_,e,_⟩:=x;show KI e
 |ins C j fs=>let⟨_,_,_,e,_⟩:=x;show KI e
 |own y=>let⟨_,e⟩:=x;show KI e
 |xd fs=>let⟨_,⟨_,_,_,e,_⟩,_⟩:=x;show KI e
 |rng lo l=>let⟨_,_,_,e⟩:=x;show KI e
 |frz m u=>let⟨e,_⟩:=x;show KI e
 |tbl ps=>rcases x with x|⟨_,_,_,_,_,_,_,_,_,_,x,_⟩<;>show KI x
 |met f y=>show KI (show h.get? a=Z _ from x)
 |ext r=>let⟨_,⟨_,e⟩,_⟩:=x;show KI e
theorem Paired.mapP{e j:Type}{F G:e->j->Prop}:∀{l₁:Y e}{c:Y j},Paired F l₁ c->(∀a b,F a b->G a b)->Paired G l₁ c
 |_,_,.nil,_=>.nil
 |_,_,.cons r t,f=>.cons (f _ _ r) (Paired.mapP t f)
theorem ObjOk.stay(x:ObjOk P w H h a o)(k:∀b u,(b=a\/H b=Z (.own a))->h.get? b=Z u->h'.get? b=Z u)
  (M:∀b,H b=Z (.own a)->g b=Z (.own a)) (N:∀b xs,H b=Z (.tup xs)->g b=Z (.tup xs)) (K:∀b o u,H b=Z (.frz o u)->g b=Z (.frz o u)):ObjOk P w g h' a o:=by
 induction o with
 |lst xs=>let⟨z,m,n,r,e⟩:=x;show⟨z,m,n,r,k _ _ (.inl S) e⟩
 |tup xs=>let⟨z,m,r,j,e,c⟩:=x;show⟨z,m,r,j,k _ _ (.inl S) e,c⟩
 |dK F=>let⟨z,y,vs,r,j,es,l,e,c⟩:=x;show⟨z,y,vs,r,j,es,l,k _ _ (.inl S) e,c⟩
 |dT F=>
  let⟨z,y,xs,r,j,es,l,e,c⟩:=x;show⟨z,y,xs,Paired.mapP r λp q z=>⟨z.1,N _ _ z.2.1,z.2.2⟩,j,es,l,k _ _ (.inl S) e,c⟩
 |set U n=>let⟨j,es,l,t,e,c⟩:=x;show⟨j,es,l,t,k _ _ (.inl S) e,c⟩
 |ins C Q fs=>
  let⟨d,z,ne,e,B,⟨E,es,l,A,c⟩,r⟩:=x;show⟨M _ d,z,ne,k _ _ (.inl S) e,B,⟨E,es,l,k _ _ (.inr d) A,c⟩,r⟩
 |own y=>let⟨j,e⟩:=x;show⟨j,k _ _ (.inl S) e⟩
 |xd fs=>let⟨B,⟨E,es,l,e,c⟩,r⟩:=x;show⟨B,⟨E,es,l,k _ _ (.inl S) e,c⟩,r⟩
 |rng lo R=>let⟨t,u,v,e⟩:=x;show⟨t,u,v,k _ _ (.inl S) e⟩
 |frz j u O=>let⟨e,q⟩:=x;show⟨k _ _ (.inl S) e,O q⟩
 |tbl ps=>
  rcases x with x|⟨c,o,vs,y,z,q,t,t',G,A,I,J⟩
  ·show .inl (k a _ (.inl S) x)
  ·show .inr ⟨c,o,vs,y,z,q,t,t',G,K _ _ _ A,k a _ (.inl S) I,J⟩
 |met f y=>
  have e:h.get? a=Z (ġ (.ref f) (.ref y)):=x;change h'.get? a=Z (ġ (.ref f) (.ref y));show k a _ (.inl S) e
 |ext T=>let⟨p,⟨o,e⟩,st⟩:=x;show⟨st _ _ p λo q=>k _ _ (.inl S) q,⟨o,k _ _ (.inl S) e⟩,st⟩
theorem HOk.lt(x:HOk P w H h)(e:H a=Z o):a<h.objs.size:=(x a o e).lt
theorem HOk.fresh(x:HOk P w H h)(e:h.objs.size<=a):H a=ũ:=by
 cases q:H a with
 |none=>rfl
 |some u=>show absurd (Lb (x.lt q) e) (Ms _)
theorem HOk.kept(x:HOk P w H h)(k:∀b u,h.get? b=Z u->h'.get? b=Z u):HOk P w H h':=λa o e=>
 (x a o e).stay (λb u _ q=>k b u q) (λ_ q=>q) (λ_ _ q=>q) λ_ _ _ q=>q
theorem HOk.laid(x:HOk P w H h)(k:∀b u,h.get? b=Z u->h'.get? b=Z u)(l:h.objs.size<=a)(new:ObjOk P w (aq H a o) h' a o):HOk P w (aq H a o) h':=λb u e=>by
 have f:=x.fresh l;by_cases j:b=a
 ·subst j;rw[bu]at e;cases e;show new
 ·rw[aJ j]at e
  show (x b u e).stay (λc v _ q=>k c v q) (λc q=>by rw[aJ (cV q f)];show q) (λc xs q=>by rw[aJ (cV q f)];show q) λc m p q=>by rw[aJ (cV q f)];show q
end
noncomputable def Rd(H:Hp)(a:Addr)(u:HO):Prop:=H a=Z u\/∃o,H a=Z (.frz o u)
theorem Rd.ok{P:Ä}{w:Å}{H:Hp}{h:Heap}{a:Addr}{u:HO}(r:Rd H a u)(x:HOk P w H h):ObjOk P w H h a u:=by
 rcases r with r|⟨o,r⟩
 ·show x a u r
 ·let⟨_,q⟩:=x a _ r;show q
noncomputable def kS:Ū HO->Prop
 |some (.lst _)=>True
 |some (.dK _)=>True
 |some (.dT _)=>True
 |some (.set _ _)=>True
 |some (.ins _ _ _)=>True
 |some (.ext _)=>True
 |_=>False
section
variable{P:Ä}{w:Å}{H:Hp}{h h':Heap}{x e:Addr}{a:HO}
theorem HOk.write(ok:HOk P w H h)(f:kS (H x))(t:e=x\/H e=Z (.own x))(k:∀b u,b≠e->h.get? b=Z u->h'.get? b=Z u)(B:∃u,h'.get? e=Z u)
  (new:ObjOk P w (aq H x a) h' x a):HOk P w (aq H x a) h':=λb u q=>by
 have p:∀c y,H c=Z (.own y)->c≠x:=λc y r z=>by subst z;rw[r]at f;show f
 have C:∀c xs,H c=Z (.tup xs)->c≠x:=λc xs r z=>by subst z;rw[r]at f;show f
 have E:∀c m o,H c=Z (.frz m o)->c≠x:=λc m o r z=>by subst z;rw[r]at f;show f
 by_cases j:b=x
 ·subst j;rw[bu]at q;cases q;show new
 ·rw[aJ j]at q;by_cases g:b=e
  ·have A:H b=Z (.own x):=by
    rcases t with z|z
    ·show absurd (g.trans z) j
    ·rw[g];show z
   rw[q]at A;cases A;let⟨v,F⟩:=B;show⟨v,by rw[g];show F⟩
  ·refine (ok b u q).stay (λc v l r=>k c v ?_ r) (λc r=>by rw[aJ (p c b r)];show r) (λc xs r=>by rw[aJ (C c xs r)];show r) λc m o r=>by rw[aJ (E c m o r)];show r
   rcases l with rfl|l
   ·show g
   ·rintro rfl;rcases t with z|z
    ·show p c b l z
    ·rw[l]at z;cases z;show j S
end
structure Un(fs ex:List Addr)(H H':Hp)(h h':Heap):Prop where
 keep:∀b o,h.get? b=Z o->H b=ũ->b∉fs->b∉ex->h'.get? b=Z o
 slot:∀b o,h.get? b=Z o->H b=ũ->b∈fs->b∉ex->∃sl,h'.get? b=Z { o with slots:=sl }
 free:∀b o,h.get? b=Z o->H b=ũ->b∉ex->H' b=ũ
 there:∀b o,h.get? b=Z o->b∉ex->∃o',h'.get? b=Z o'
 tups:∀b xs,H b=Z (.tup xs)->H' b=Z (.tup xs)
 frzs:∀b o u,H b=Z (.frz o u)->H' b=Z (.frz o u)
 tbls:∀b ps,H b=Z (.tbl ps)->H' b=Z (.tbl ps)
section
variable{fs ex:Y Addr}{H f:Hp}{h c h':Heap}{a x e:Addr}{o:HO}
theorem Un.any(u:Un fs ex H f h c){b:Addr}{g:Ï}(q:h.get? b=Z g)(n:H b=ũ)(l:b∉ex):∃sl,c.get? b=Z { g with slots:=sl }:=by
 by_cases j:b∈fs
 ·show u.slot b g q n j l
 ·show⟨g.slots,u.keep b g q n j l⟩
theorem Un.kept(k:∀b u,h.get? b=Z u->h'.get? b=Z u):Un fs ex H H h h':=
 ⟨λb g q _ _ _=>k b g q,λb g q _ _ _=>⟨g.slots,k b g q⟩,λ_ _ _ n _=>n,λb g q _=>⟨g,k b g q⟩,λ_ _ q=>q,λ_ _ _ q=>q,λ_ _ q=>q⟩
theorem Un.refl:Un fs ex H H h h:=Un.kept λ_ _ q=>q
theorem Un.laid(k:∀b u,h.get? b=Z u->h'.get? b=Z u)(j:h.objs.size<=a)(g:H a=ũ):Un fs ex H (aq H a o) h h' where
 keep:=λb u q _ _ _=>k b u q
 slot:=λb u q _ _ _=>⟨u.slots,k b u q⟩
 free:=λb u q n _=>by rw[aJ (Lg (Lb (KI q) j))];show n
 there:=λb u q _=>⟨u,k b u q⟩
 tups:=λb xs q=>by rw[aJ (cV q g)];show q
 frzs:=λb u xs q=>by rw[aJ (cV q g)];show q
 tbls:=λb ps q=>by rw[aJ (cV q g)];show q
theorem Un.write(g:kS (H x))(v:e=x\/H e=Z (.own x))(k:∀b u,b≠e->h.get? b=Z u->h'.get? b=Z u)(t:∃u,h'.get? e=Z u):Un fs ex H (aq H x o) h h':=by
 have p:∀b,H b=ũ->b≠x:=λb n z=>by subst z;rw[n]at g;show g
 have m:∀b,H b=ũ->b≠e:=λb n z=>by
  subst z;rcases v with r|r
  ·show p b n r
  ·rw[n]at r;cases r
 have j:∀b u,H b=Z u->¬ kS (Z u)->b≠x:=λb u q nm z=>by subst z;rw[q]at g;show nm g
 refine⟨λb u q n _ _=>k b u (m b n) q,λb u q n _ _=>⟨u.slots,k b u (m b n) q⟩,λb u q n _=>by rw[aJ (p b n)];show n,λb u q _=>?_,
  λb xs q=>by rw[aJ (j b _ q λz=>z)];show q,λb u xs q=>by rw[aJ (j b _ q λz=>z)];show q,λb ps q=>by rw[aJ (j b _ q λz=>z)];show q⟩
 by_cases l:b=e
 ·subst l;show t
 ·show⟨u,k b u l q⟩
end
noncomputable def oo(h:Heap)(H:Hp):Y Addr:=(List.range h.objs.size).filter λa=>(H a).isSome
noncomputable def gU(h:Heap)(H:Hp):Heap:=PySem.W.hideAll h (oo h H)
theorem Ci(h:Heap)(H:Hp):(gU h H).objs.size=h.objs.size:=PySem.W.hideAll_size _ _
theorem GL{h:Heap}{H:Hp}{b:Addr}{o:Ï}(e:h.get? b=Z o)(n:H b=ũ):(gU h H).get? b=Z o:=
 PySem.W.hideAll_get _ e λa=>by have q:(H b).isSome=ū:=(M6.mp a).2;rw[n]at q;simp at q
theorem zy{h:Heap}{H:Hp}{b:Addr}{o:Ï}(e:(gU h H).get? b=Z o):h.get? b=Z o/\H b=ũ:=by
 have a:h.get? b=Z o:=PySem.W.of_hideAll (oo h H) e;refine⟨a,?_⟩
 cases q:H b with
 |none=>rfl
 |some x=>
  have c:b∈oo h H:=M6.mpr ⟨Ma.mpr (KI a),by simp[q]⟩;have z:(gU h H).get? b=ũ:=PySem.W.hideAll_none (oo h H) c;rw[z]at e;cases e
structure Mod(K:Â)(mg:Str->Option Value)(base:Heap):Prop where
 kin:K.In base
 glob:base.Ns Á mg
 blt:∃mb,base.Ns ä mb/\∀x:Str,x≠"__name__"->mb x=Ö x
 nolimit:base.NoLimit
 bmod:∃bm ob,mg "__builtins__"=Z (.ref bm)/\bm≠ä/\base.get? bm=Z ob/\ob.cls=.type "module"/\ob.dict=Z ä/\ob.data=.plain
 seer:base.NoSeer
 dig:∃mc,base.Ns cStatics mc/\mc "sys.int_max_str_digits"=ũ
structure Cx where
 prog:Ä
 w:Å
 K:Â
 mg:Str->Option Value
 base:Heap
 A:É
 N:List Str
 s₀:À
 H₀:Hp
 env:é
 outer:List é
 stack:List é
 ex:List Addr
 fn:Str->Bool
 calm:Bool
 pn:List (Addr×Ï)
 xe:Value->À->Prop
noncomputable def cE(l:Y é):Y Addr:=l.filterMap (·.frame)
noncomputable abbrev Cx.fs(X:Cx):Y Addr:=cE X.outer
noncomputable def cx(a:ã)(x:Str):Prop:=a.names.lookup x=Z .local\/a.names.lookup x=Z .cell\/a.names.lookup x=Z .free
noncomputable def gK(a:ã)(x:Str):Prop:=a.names.lookup x=Z .local\/a.names.lookup x=Z .cell
noncomputable def Dg(env:é)(h:Heap)(m:Str->Ū Value)(x:Str)(u:Value):Prop:=
 (env.kindOf x=Z .local/\m x=Z u)\/((env.kindOf x=Z .cell\/env.kindOf x=Z .free)/\∃c,env.cells.lookup x=Z c/\h.IsCell c (Z u))
structure Cx.Ok(X:Cx):Prop where
 mod:Mod X.K X.mg X.base
 kind:X.env.scope.kind=.function
 glob:X.env.globals=Á
 blt:X.env.builtins=ä
 above:X.s₀.heap.objs.size<=X.env.locals
 inj:∀x y c,X.env.cells.lookup x=Z c->X.env.cells.lookup y=Z c->x=y
 has:∀x,(X.env.kindOf x=Z .cell\/X.env.kindOf x=Z .free)->∃c,X.env.cells.lookup x=Z c
 cab:∀x c,X.fn x=ū->X.env.cells.lookup x=Z c->X.s₀.heap.objs.size<=c
 hd:X.calm=ū->X.A.handled=ũ
 frames:X.A.frames=Z X.stack
 stk:X.stack=X.outer\/(X.stack=X.env::X.outer/\X.env.frame=Z X.env.locals)
 exf:∀b∈X.ex,b≠X.env.locals/\∀x c,X.env.cells.lookup x=Z c->c≠b
 bs:∀b o,X.base.get? b=Z o->X.s₀.heap.get? b=Z o/\X.H₀ b=ũ
 bsz:X.base.objs.size<=X.s₀.heap.objs.size
 noex:∀b o,X.base.get? b=Z o->b∉X.ex
 exfs:∀b∈X.ex,b∉X.fs
 funs:X.s₀.heap.FunFrames X.base X.outer
 frf:∀b∈X.fs,X.H₀ b=ũ
structure Inv(X:Cx)(pins:List (Addr×Ï))(σ:List (Option V))(H:Hp)(s:À):Prop where
 ok:X.Ok
 os:s.os=X.s₀.os
 bare:ç s.gens
 base:Un X.fs X.ex X.H₀ H X.s₀.heap s.heap
 loc:∃m,s.heap.Ns X.env.locals m/\∀(i:Nat)(x:Str)(v:V),X.N[i]?=Z x->σ[i]?=Z (Z v)->cx X.env.scope x->∃u,RelV v u/\Dg X.env s.heap m x u
 cell:∀x c,X.env.cells.lookup x=Z c->∃v,s.heap.IsCell c v
 free:H X.env.locals=ũ
 freeC:∀x c,X.env.cells.lookup x=Z c->H c=ũ
 pin:∀p∈X.pn++pins,s.heap.get? p.1=Z p.2/\H p.1=ũ/\p.1≠X.env.locals/\p.1∉X.fs/\∀v,p.2.data≠.cell v
 hok:HOk X.prog X.w H s.heap
 len:σ.length=X.N.length
section
variable{X:Cx}{f:Y (Addr×Ï)}{g:Y (Ū V)}{H w:Hp}{s:À}{h':Heap}
theorem Cx.Ok.nofr(ok:X.Ok){b:Addr}{o:Ï}(e:X.base.get? b=Z o):b∉X.fs:=λa=>by have:=(ok.funs.mem a).1;rw[e]at this;cases this
theorem Inv.bs(I:Inv X f g H s):∀b o,X.base.get? b=Z o->s.heap.get? b=Z o/\H b=ũ:=λb o e=>
 ⟨I.base.keep b o (I.ok.bs b o e).1 (I.ok.bs b o e).2 (I.ok.nofr e) (I.ok.noex b o e),I.base.free b o (I.ok.bs b o e).1 (I.ok.bs b o e).2 (I.ok.noex b o e)⟩
theorem Inv.bk(I:Inv X f g H s):∀b o,X.base.get? b=Z o->s.heap.get? b=Z o:=λb o e=>(I.bs b o e).1
theorem Inv.mod(I:Inv X f g H s):Mod X.K X.mg X.base:=I.ok.mod
theorem Inv.kIn(I:Inv X f g H s):X.K.In s.heap:=I.ok.mod.kin.keeps I.bk
theorem Inv.lt(I:Inv X f g H s):X.env.locals<s.heap.objs.size:=let ⟨_,hn,_⟩:=I.loc;hn.lt
theorem Inv.sz(I:Inv X f g H s):X.s₀.heap.objs.size<=s.heap.objs.size:=K3 I.ok.above (MD I.lt)
theorem Inv.nofs(I:Inv X f g H s){a:Addr}(h:s.heap.objs.size<=a):a∉X.fs:=λc=>by let⟨_,o,e,_⟩:=I.ok.funs.mem c;show absurd (Lb (KI e) (K3 I.sz h)) (Ms _)
theorem Inv.cne(I:Inv X f g H s):∀x c,X.env.cells.lookup x=Z c->c≠X.env.locals:=λx c e z=>by let⟨v,o,a,hd⟩:=I.cell x c e;let⟨m,⟨p,es,l,h,j,_⟩,_⟩:=I.loc;rw[z,h]at a;cases a;rw[j]at hd;cases hd
theorem Inv.funs(I:Inv X f g H s):s.heap.FunFrames X.base X.outer:=by
 have all:∀(l:Y é),(∀b∈cE l,b∈X.fs)->X.s₀.heap.FunFrames X.base l->s.heap.FunFrames X.base l:=by
  intro l
  induction l with
  |nil=>intro _ _;trivial
  |cons env r x=>
   intro j p;let⟨m,⟨L,o,h,t,u,hd⟩,v⟩:=p;have a:L∈X.fs:=j L (by unfold cE;rw[NW,h];show Ku);let⟨sl,e⟩:=I.base.slot L o u (I.ok.frf L a) a λz=>I.ok.exfs L z a;show⟨m,⟨L,_,h,t,e,hd⟩,x (λb c=>j b (by unfold cE;rw[NW,h];show Kt _ c)) v⟩
 show all X.outer (λ_ c=>c) I.ok.funs
theorem Inv.stack(I:Inv X f g H s):s.heap.FunFrames X.base X.stack:=by
 rcases I.ok.stk with e|⟨e,a⟩
 ·rw[e];show I.funs
 ·rw[e];let⟨m,c,_⟩:=I.loc;refine .cons (by rw[I.ok.kind];decide) a c ?_ I.funs;show L8 (K3 I.ok.bsz I.ok.above)
theorem Inv.stkSub(I:Inv X f g H s):∀b∈cE X.stack,b∈X.env.locals::X.fs:=λb a=>by
 rcases I.ok.stk with e|⟨e,c⟩
 ·rw[e]at a;show Kt _ a
 ·rw[e]at a;unfold cE at a;rw[NW,c]at a;show a
theorem Inv.stkFree(I:Inv X f g H s):∀b∈cE X.stack,H b=ũ:=λb a=>by
 rcases Kz.mp (I.stkSub b a)with e|a
 ·rw[e];show I.free
 ·let⟨_,o,c,_⟩:=I.ok.funs.mem a;show I.base.free b o c (I.ok.frf b a) λz=>I.ok.exfs b z a
theorem Inv.step{g':Array ý}{t':Nat}{d':ŗ}{ch:Y Addr}(I:Inv X f g H s)
  (A:∀b∈ch,(b∈X.ex\/X.s₀.heap.objs.size<=b)/\b≠X.env.locals/\(∀x c,X.env.cells.lookup x=Z c->c≠b)/\∀p∈X.pn++f,p.1≠b)
  (keep:∀b o,b≠X.env.locals->b∉X.fs->b∉ch->s.heap.get? b=Z o->H b=ũ->h'.get? b=Z o)
  (slot:∀b o,b≠X.env.locals->b∈X.fs->b∉ch->s.heap.get? b=Z o->H b=ũ->∃sl,h'.get? b=Z { o with slots:=sl }) (free:∀b o,b∉ch->s.heap.get? b=Z o->H b=ũ->w b=ũ)
  (there:∀b o,b∉ch->s.heap.get? b=Z o->∃E,h'.get? b=Z E)
  (tups:∀b xs,H b=Z (.tup xs)->w b=Z (.tup xs)) (frzs:∀b o u,H b=Z (.frz o u)->w b=Z (.frz o u)) (tbls:∀b ps,H b=Z (.tbl ps)->w b=Z (.tbl ps))
  (ns:∀m,s.heap.Ns X.env.locals m->h'.Ns X.env.locals m) (hok:HOk X.prog X.w w h') (Q:ç g') :
  Inv X f g w { s with heap:=h',gens:=g',drawn:=d',toks:=t' }:=by
 have C:∀b o,X.s₀.heap.get? b=Z o->b≠X.env.locals:=λb o e=>Lg (Lb (KI e) I.ok.above)
 have F:∀b o,X.s₀.heap.get? b=Z o->b∉X.ex->b∉ch:=λb o e a t=>by
  rcases (A b t).1 with z|z
  ·show a z
  ·show absurd (Lb (KI e) z) (Ms _)
 have h:∀x c,X.env.cells.lookup x=Z c->∀v,s.heap.IsCell c v->h'.IsCell c v:=λx c e v O=>by
  let⟨o,y,hd⟩:=O;have B:c∉ch:=λz=>(A c z).2.2.1 x c e S;by_cases K:c∈X.fs
  ·let⟨sl,q⟩:=slot c o (I.cne x c e) K B y (I.freeC x c e);show⟨_,q,hd⟩
  ·show⟨o,keep c o (I.cne x c e) K B y (I.freeC x c e),hd⟩
 refine⟨I.ok,I.os,Q,⟨λb o e n t a=>?_,λb o e n t a=>?_,λb o e n a=>?_,λb o e a=>?_,λb xs e=>tups b xs (I.base.tups b xs e),λb o xs e=>frzs b o xs (I.base.frzs b o xs e),λb ps e=>tbls b ps (I.base.tbls b ps e)⟩,?_,λx c e=>?_,?_,λx c e=>?_,λp M=>?_,hok,I.len⟩
 ·show keep b o (C b o e) t (F b o e a) (I.base.keep b o e n t a) (I.base.free b o e n a)
 ·let⟨sl,j⟩:=I.base.slot b o e n t a;let⟨J,G⟩:=slot b _ (C b o e) t (F b o e a) j (I.base.free b o e n a);show⟨J,G⟩
 ·let⟨E,j⟩:=I.base.there b o e a;show free b E (F b o e a) j (I.base.free b o e n a)
 ·let⟨E,j⟩:=I.base.there b o e a;show there b E (F b o e a) j
 ·let⟨m,U,R⟩:=I.loc;refine⟨m,ns m U,λi x v j G P=>?_⟩;let⟨u,r,l⟩:=R i x v j G P;refine⟨u,r,?_⟩;rcases l with l|⟨k,c,e,z⟩
  ·show .inl l
  ·show .inr ⟨k,c,e,h x c e _ z⟩
 ·let⟨v,z⟩:=I.cell x c e;show⟨v,h x c e v z⟩
 ·let⟨m,⟨o,_,_,y,_⟩,_⟩:=I.loc;show free _ o (λz=>(A _ z).2.1 S) y I.free
 ·let⟨v,o,y,hd⟩:=I.cell x c e;show free c o (λz=>(A c z).2.2.1 x c e S) y (I.freeC x c e)
 ·let⟨e,n,ne,N,d⟩:=I.pin p M;have B:p.1∉ch:=λz=>(A p.1 z).2.2.2 p M S;show⟨keep p.1 p.2 ne N B e n,free p.1 p.2 B e n,ne,N,d⟩
theorem Inv.un{t':Nat}(I:Inv X f g H s)(u:Un X.fs [] H w s.heap h')(hok:HOk X.prog X.w w h'):Inv X f g w { s with heap:=h',toks:=t' }:=by
 let⟨m,⟨o,es,x,h,r⟩,_⟩:=id I.loc;let⟨sl,p⟩:=u.any h I.free (by simp)
 show I.step (g':=s.gens) (d':=s.drawn) (ch:=[]) (λ_ z=>nomatch z) (λb o _ a _ e n=>u.keep b o e n a (by simp)) (λb o _ a _ e n=>u.slot b o e n a (by simp)) (λb o _ e n=>u.free b o e n (by simp)) (λb o _ e=>u.there b o e (by simp)) u.tups u.frzs u.tbls (λy t=>by
  let⟨A,j,l,c,v⟩:=t;rw[h]at c;cases c
  show⟨_,j,l,p,v⟩) hok I.bare
theorem Inv.call{g':Array ý}{t':Nat}{d':ŗ}{ch:Y Addr}(I:Inv X f g H s)(u:Un (cE X.stack) ch H w s.heap h')(hok:HOk X.prog X.w w h')(B:ç g')
  (l:∀b∈ch,(b∈X.ex\/X.s₀.heap.objs.size<=b)/\b≠X.env.locals/\(∀x c,X.env.cells.lookup x=Z c->c≠b)/\∀p∈X.pn++f,p.1≠b) :
  Inv X f g w { s with heap:=h',gens:=g',drawn:=d',toks:=t' }:=by
 let⟨m,⟨o,es,F,t,r⟩,_⟩:=id I.loc;let⟨sl,h⟩:=u.any t I.free λz=>(l _ z).2.1 S
 show I.step (ch:=ch) l (λb o h A a e n=>u.keep b o e n (λz=>(Kz.mp (I.stkSub b z)).elim h A) a) (λb o _ _ a e n=>u.any e n a) (λb o a e n=>u.free b o e n a) (λb o a e=>u.there b o e a) u.tups u.frzs u.tbls (λG C=>by
  let⟨J,v,y,j,E⟩:=C;rw[t]at j;cases j
  show⟨_,v,y,h,E⟩) hok B
theorem Inv.turned{t':Nat}{a:Addr}(I:Inv X f g H s)(k:∀b o,b≠a->s.heap.get? b=Z o->h'.get? b=Z o)(F:H a=ũ)(l:a≠X.env.locals)
  (y:a∈X.ex\/X.s₀.heap.objs.size<=a) (A:∀x c,X.env.cells.lookup x=Z c->c≠a) (B:∀p∈X.pn++f,p.1≠a):Inv X f g H { s with heap:=h',toks:=t' }:=by
 have j:∀b u,H b=Z u->b≠a:=λb u e z=>by rw[z,F]at e;cases e
 refine I.step (g':=s.gens) (d':=s.drawn) (ch:=[a]) (λb C=>?_) (λb o _ _ h e _=>k b o (λz=>h (by simp[z])) e) (λb o _ _ h e _=>⟨o.slots,k b o (λz=>h (by simp[z])) e⟩) (λ_ _ _ _ n=>n)
  (λb o h e=>⟨o,k b o (λz=>h (by simp[z])) e⟩) (λ_ _ e=>e) (λ_ _ _ e=>e) (λb ps e=>e) (λm E=>?_) (λb u e=>?_) I.bare
 ·have e:b=a:=by simpa using C
  subst e;show⟨y,l,A,B⟩
 ·let⟨o,es,t,G,r⟩:=E;show⟨o,es,t,k _ o (Lv l) G,r⟩
 ·refine (I.hok b u e).stay (λc v h q=>k c v ?_ q) (λ_ q=>q) (λ_ _ q=>q) λ_ _ _ q=>q;rcases h with z|z
  ·rw[z];show j b u e
  ·show j c _ z
theorem Inv.tok(I:Inv X f g H s)(t:Nat):Inv X f g H { s with toks:=t }:=I.un (h':=s.heap) (t':=t) Un.refl I.hok
theorem Inv.kept{t':Nat}(I:Inv X f g H s)(k:∀b u,s.heap.get? b=Z u->h'.get? b=Z u):Inv X f g H { s with heap:=h',toks:=t' }:=I.un (Un.kept k) (I.hok.kept k)
theorem Inv.laid{a:Addr}{o:HO}{t':Nat}(I:Inv X f g H s)(k:∀b u,s.heap.get? b=Z u->h'.get? b=Z u)(c:s.heap.objs.size<=a)(new:ObjOk X.prog X.w (aq H a o) h' a o) :
  Inv X f g (aq H a o) { s with heap:=h',toks:=t' }:=I.un (Un.laid k c (I.hok.fresh c)) (I.hok.laid k c new)
theorem Inv.write{x e:Addr}{o:HO}{t':Nat}(I:Inv X f g H s)(h:kS (H x))(c:e=x\/H e=Z (.own x))(k:∀b u,b≠e->s.heap.get? b=Z u->h'.get? b=Z u)(a:∃u,h'.get? e=Z u)
  (new:ObjOk X.prog X.w (aq H x o) h' x o):Inv X f g (aq H x o) { s with heap:=h',toks:=t' }:=I.un (Un.write h c k a) (I.hok.write h c k a new)
theorem Inv.pins_of{a:Y (Addr×Ï)}(I:Inv X f g H s)(h:∀p∈a,s.heap.get? p.1=Z p.2/\H p.1=ũ/\p.1≠X.env.locals/\p.1∉X.fs/\∀v,p.2.data≠.cell v):Inv X a g H s:=
 ⟨I.ok,I.os,I.bare,I.base,I.loc,I.cell,I.free,I.freeC,λp c=>(K6.mp c).elim (λz=>I.pin p (Mj _ z)) (h p),I.hok,I.len⟩
theorem uE{N:Y Str}(h:N.Nodup){i j:Nat}{x:Str}(a:N[i]?=Z x)(b:N[j]?=Z x):i=j:=by let⟨l,c⟩:=Lr.mp a;let⟨m,e⟩:=Lr.mp b;show (List.getElem_inj h).mp (c.trans e.symm)
theorem sr{M:ö}{A:É}{E:Value->À->Prop}{i:Nat}{x:Str}{v:V}{u:Value}{Q:Unit->À->Prop}(I:Inv X f g H s)(hN:X.N.Nodup)(P:X.N[i]?=Z x)(F:gK X.env.scope x)(r:RelV v u)
  (h:∀s',Inv X f (g.set i (Z v)) H s'->(∃a,Heap.SameBut a s.heap s'.heap/\(a=X.env.locals\/X.env.cells.lookup x=Z a))->Q Unit.unit s') (hf:X.fn x=ū\/X.env.scope.names.lookup x=Z .local:=by nofun):wpAny M A (storeName X.env x u) Q E s:=by
 let⟨m,a_,hl⟩:=id I.loc
 have Uu:(X.env.scope.kind==.class ||(X.env.scope.kind==.module&&X.env.locals != X.env.globals))=Ŭ:=by rw[I.ok.kind];rfl
 have J:i<g.length:=by rw[I.len];show (Lr.mp P).1
 have cne:=I.cne
 have B:∀{a:Addr}{h':Heap},(∃o,s.heap.get? a=Z o/\H a=ũ)->Heap.SameBut a s.heap h'->HOk X.prog X.w H h':=λ{a h'} ha l b ob e=>by
  let⟨_,_,Uo⟩:=ha;refine (I.hok b ob e).stay (λc ap C q=>(l.2 c ?_).trans q) (λ_ q=>q) (λ_ _ q=>q) λ_ _ _ q=>q;rintro rfl;rcases C with rfl|C
  ·rw[Uo]at e;cases e
  ·rw[Uo]at C;cases C
 rcases F with K|K
 ·refine wpAny_storeName_local K a_ (λh' Wi l=>?_) Uu;let⟨oL,_,_,aA,_⟩:=id a_;refine h _ ⟨I.ok,I.os,I.bare,⟨λb o e n N F=>?_,λb o e n N F=>?_,I.base.free,λb o e F=>?_,I.base.tups,I.base.frzs,I.base.tbls⟩,⟨_,Wi,λj y v' t G U=>?_⟩,λy c e=>?_,I.free,I.freeC,λp hp=>?_,B ⟨oL,aA,I.free⟩ l,by simpa using I.len⟩ ⟨_,l,.inl S⟩
  ·show (l.2 b (Lg (Lb (KI e) I.ok.above))).trans (I.base.keep b o e n N F)
  ·let⟨sl,t⟩:=I.base.slot b o e n N F;show⟨sl,(l.2 b (Lg (Lb (KI e) I.ok.above))).trans t⟩
  ·let⟨o',t⟩:=I.base.there b o e F;show⟨o',(l.2 b (Lg (Lb (KI e) I.ok.above))).trans t⟩
  ·by_cases O:j=i
   ·subst O;rw[P]at t;cases t;rw[Ls J]at G;cases G;show⟨u,r,.inl ⟨K,by simp⟩⟩
   ·rw[Lk (Lv O)]at G;let⟨u',r',q⟩:=hl j y v' t G U;refine⟨u',r',?_⟩;rcases q with⟨k,e⟩|⟨k,c,e,z⟩
    ·refine .inl ⟨k,?_⟩;have:y≠x:=λe=>O (uE hN t (e▸P));simp[this,e]
    ·show .inr ⟨k,c,e,z.sameBut l (cne y c e)⟩
  ·let⟨ap,z⟩:=I.cell y c e;show⟨ap,z.sameBut l (cne y c e)⟩
  ·let⟨e,n,ne,nf,d⟩:=I.pin p hp;show⟨(l.2 p.1 ne).trans e,n,ne,nf,d⟩
 ·have T:X.fn x=ū:=by
   rcases hf with z|z
   ·show z
   ·rw[z]at K;cases K
  let⟨c,C⟩:=I.ok.has x (.inl K);let⟨ap,z⟩:=I.cell x c C;refine wpAny_storeName_cell I.ok.kind K C z (λh' Ve l=>?_);let⟨oc,U2,WV⟩:=id z;refine h { s with heap:=h' } ⟨I.ok,I.os,I.bare,⟨λb o e n N F=>?_,λb o e n N F=>?_,I.base.free,λb o e F=>?_,I.base.tups,I.base.frzs,I.base.tbls⟩,⟨m,a_.sameBut l (Lv (cne x c C)),λj y v' t G U=>?_⟩,λy R e=>?_,I.free,I.freeC,λp hp=>?_,B ⟨oc,U2,I.freeC x c C⟩ l,by simpa using I.len⟩ ⟨c,l,.inr C⟩
  ·show (l.2 b (Lg (Lb (KI e) (I.ok.cab x c T C)))).trans (I.base.keep b o e n N F)
  ·let⟨sl,t⟩:=I.base.slot b o e n N F;show⟨sl,(l.2 b (Lg (Lb (KI e) (I.ok.cab x c T C)))).trans t⟩
  ·let⟨o',t⟩:=I.base.there b o e F;show⟨o',(l.2 b (Lg (Lb (KI e) (I.ok.cab x c T C)))).trans t⟩
  ·by_cases O:j=i
   ·subst O;rw[P]at t;cases t;rw[Ls J]at G;cases G;show⟨u,r,.inr ⟨.inl K,c,C,Ve⟩⟩
   ·rw[Lk (Lv O)]at G;let⟨u',r',q⟩:=hl j y v' t G U;refine⟨u',r',?_⟩;rcases q with q|⟨k,R,e,z'⟩
    ·show .inl q
    ·refine .inr ⟨k,R,e,z'.sameBut l ?_⟩;rintro rfl;show O (uE hN t (I.ok.inj _ _ _ e C▸P))
  ·by_cases Uv:R=c
   ·subst Uv;show⟨_,Ve⟩
   ·let⟨w2,z2⟩:=I.cell y R e;show⟨w2,z2.sameBut l Uv⟩
  ·let⟨e,n,ne,nf,d⟩:=I.pin p hp;refine⟨(l.2 p.1 ?_).trans e,n,ne,nf,d⟩;intro q;rw[q,U2]at e;have q':oc=p.2:=K2 e;show d ap (by rw[←q'];show WV)
theorem sQ{M:ö}{A:É}{E:Value->À->Prop}{i:Nat}{x:Str}{v:V}{u:Value}{Q:Unit->À->Prop}(I:Inv X f g H s)(c:X.N.Nodup)(j:X.N[i]?=Z x)(l:gK X.env.scope x)(r:RelV v u)
  (h:∀s',Inv X f (g.set i (Z v)) H s'->Q Unit.unit s') (e:X.fn x=ū\/X.env.scope.names.lookup x=Z .local:=by nofun):wpAny M A (storeName X.env x u) Q E s:=
 sr I c j l r (λs' a _=>h s' a) e
theorem Inv.call'{s':À}{ch:Y Addr}(I:Inv X f g H s)(j:s'.os=s.os)(u:Un (cE X.stack) ch H w s.heap s'.heap)(hok:HOk X.prog X.w w s'.heap)(h:ç s'.gens)
  (a:∀b∈ch,(b∈X.ex\/X.s₀.heap.objs.size<=b)/\b≠X.env.locals/\(∀x c,X.env.cells.lookup x=Z c->c≠b)/\∀p∈X.pn++f,p.1≠b):Inv X f g w s':=by
 let⟨h',g',d',t',l⟩:=s';have e:l=s.os:=j;subst e;show I.call (g':=g') (t':=t') (d':=d') u hok h a
end
noncomputable abbrev XK:=Value->Ū Addr->Hp->Prop
noncomputable abbrev St:=Y (Ū V)
noncomputable abbrev VK:=V->Hp->Prop
noncomputable abbrev TE:=St->Hp->VK->Prop
noncomputable abbrev TT:=St->Hp->(Bool->Hp->Prop)->Prop
noncomputable abbrev TA:=St->Hp->(Y V->Hp->Prop)->Prop
structure Ends where
 nx:St->Hp->Prop
 rt:VK
 bk:St->Hp->Prop:=λ_ _=>False
 ct:St->Hp->Prop:=λ_ _=>False
noncomputable abbrev TS:=Ends->St->Hp->Prop
noncomputable def EP(X:Cx)(a:Y (Addr×Ï))(e:St)(Q:VK)(u:Value)(s':À):Prop:=∃v c,Inv X a e c s'/\RelV v u/\Q v c
noncomputable def TP(X:Cx)(a:Y (Addr×Ï))(e:St)(Q:Bool->Hp->Prop)(b:Bool)(s':À):Prop:=∃c,Inv X a e c s'/\Q b c
noncomputable def AP(X:Cx)(a:Y (Addr×Ï))(e:St)(Q:Y V->Hp->Prop)(us:Y Value)(s':À):Prop:=∃vs c,Inv X a e c s'/\Vals vs us/\Q vs c
noncomputable def SP(X:Cx)(c:Y (Addr×Ï))(D:Ends)(f:Flow)(s':À):Prop:=
 match f with
 |.next=>∃a e,Inv X c a e s'/\D.nx a e
 |.brk=>∃a e,Inv X c a e s'/\D.bk a e
 |.cont=>∃a e,Inv X c a e s'/\D.ct a e
 |.ret u=>∃v a e,Inv X c a e s'/\RelV v u/\D.rt v e
noncomputable def PE(X:Cx)(e:Ã)(t:TE):Prop:=
 ∀(a:Y (Addr×Ï))(s:À)(c:St)(H:Hp)(Q:VK),Inv X a c H s->t c H Q->wpAny (model X.prog X.w) X.A (eval e X.env) (EP X a c Q) X.xe s
noncomputable def PT(X:Cx)(e:Ã)(t:TT):Prop:=
 ∀(a:Y (Addr×Ï))(s:À)(c:St)(H:Hp)(Q:Bool->Hp->Prop),Inv X a c H s->t c H Q->wpAny (model X.prog X.w) X.A (isTrue e X.env (eval e X.env)) (TP X a c Q) X.xe s
noncomputable def PW(X:Cx)(e:Ã)(t:TT):Prop:=
 ∀(c:Sem Value)(a:Y (Addr×Ï))(s:À)(f:St)(H:Hp)(Q:Bool->Hp->Prop),Inv X a f H s->t f H Q->wpAny (model X.prog X.w) X.A (isTrue e X.env c) (TP X a f Q) X.xe s
theorem PW.pt{X:Cx}{e:Ã}{t:TT}(h:PW X e t):PT X e t:=h _
noncomputable def PA(X:Cx)(es:Y Ã)(t:TA):Prop:=
 ∀(c:Õ)(a:Y (Addr×Ï))(s:À)(e:St)(H:Hp)(Q:Y V->Hp->Prop),Inv X a e H s->t e H Q->wpAny (model X.prog X.w) X.A (spliced (backTo c (starEach es X.env))) (AP X a e Q) X.xe s
noncomputable def PS(X:Cx)(st:Ç)(t:TS):Prop:=
 ∀(a:Y (Addr×Ï))(s:À)(c:St)(H:Hp)(D:Ends),Inv X a c H s->t D c H->wpAny (model X.prog X.w) X.A (exec st X.env) (SP X a D) X.xe s
noncomputable def PSs(X:Cx)(st:Y Ç)(t:TS):Prop:=
 ∀(a:Y (Addr×Ï))(s:À)(c:St)(H:Hp)(D:Ends),Inv X a c H s->t D c H->wpAny (model X.prog X.w) X.A (execs st X.env) (SP X a D) X.xe s
theorem aE{e:Type}{t:Sem e}{Q c:e->À->Prop}{M:ö}{A:É}{E:Value->À->Prop}{s:À}(h:wpAny M A t Q E s)(f:∀a s,Q a s->c a s):wpAny M A t c E s:=L0 h f λ_ _ x=>x
section
variable{X:Cx}
noncomputable def je(i:Nat):TE:=λa H Q=>∃v,a[i]?=Z (Z v)/\Q v H
noncomputable def tC(v:V):TE:=λ_ H Q=>Q v H
theorem tX{i:Nat}{x:Str}{f:Õ}(w:X.N[i]?=Z x)(B:cx X.env.scope x)(hd:ad x:=by decide)(t:am x:=by decide):PE X (.Name x f) (je i):=by
 intro j s C H Q I h;let⟨v,e,h⟩:=h;let⟨m,A,y⟩:=I.loc;let⟨u,r,l⟩:=y i x v w e B;have a:EP X j C Q u s:=⟨v,H,I,r,h⟩;rcases l with⟨g,z⟩|⟨g,c,p,o⟩
 ·show wpAny_Name (wpAny_loadName_local I.ok.kind g A z a) hd
 ·rcases g with g|g
  ·show wpAny_Name (wpAny_loadName_cell I.ok.kind g p o a) hd
  ·show wpAny_Name (wpAny_loadName_free I.ok.kind g p o a t) hd
theorem DJ{i j f}:PE X (.Constant (.int i) j f) (tC (.int i)):=λ_ _ _ H _ I h=>wpAny_Constant_int ⟨.int i,H,I.tok _,⟨_,S⟩,h⟩
theorem JD{b j f}:PE X (.Constant (.bool b) j f) (tC (.bl b)):=λ_ _ _ H _ I h=>Constant_bool ⟨.bl b,H,I,S,h⟩
theorem zi{j f}:PE X (.Constant .none j f) (tC .non):=λ_ _ _ H _ I h=>Constant_none ⟨.non,H,I,S,h⟩
theorem xj{x j f}:PE X (.Constant (.str x) j f) (tC (.str x)):=λ_ _ _ H _ I h=>Calls.Constant_str ⟨.str x,H,I.tok _,⟨_,S⟩,h⟩
noncomputable def Gl(X:Cx)(x:Str):Prop:=X.env.kindOf x=Z .globalImplicit
theorem iY{E:Value->À->Prop}{a:Y (Addr×Ï)}{s:À}{g:St}{H:Hp}{x:Str}{u:Value}{f:Õ}{Q:Value->À->Prop}(I:Inv X a g H s)(c:Gl X x)(e:X.mg x=Z u)(h:Q u s)
  (hd:ad x:=by decide):wpAny (model X.prog X.w) X.A (eval (.Name x f) X.env) Q E s:=
 þ I.ok.kind c (Calls.loadGlobal_global (by rw[I.ok.glob];show I.mod.glob.keeps I.bk) e h) hd
theorem iF{E:Value->À->Prop}{a:Y (Addr×Ï)}{s:À}{o:St}{H:Hp}{x:Str}{u:Value}{f:Õ}{Q:Value->À->Prop}(I:Inv X a o H s)(g:Gl X x)(j:X.mg x=ũ)(m:Ö x=Z u)(h:Q u s)
  (l:x≠"__name__":=by decide) (hd:ad x:=by decide):wpAny (model X.prog X.w) X.A (eval (.Name x f) X.env) Q E s:=by
 let⟨p,c,e⟩:=I.mod.blt;show þ I.ok.kind g (Calls.loadGlobal_builtin (by rw[I.ok.glob];show I.mod.glob.keeps I.bk) j (by rw[I.ok.blt];show c.keeps I.bk) ((e x l).trans m) h) hd
theorem vw{x:Str}{v:V}{u:Value}{f:Õ}(a:Gl X x)(c:X.mg x=Z u)(r:RelV v u)(hd:ad x:=by decide):PE X (.Name x f) (tC v):=
 λ_ _ _ H _ I h=>iY I a c ⟨v,H,I,r,h⟩ hd
theorem jb{x:Str}{v:V}{u:Value}{f:Õ}(a:Gl X x)(c:X.mg x=ũ)(g:Ö x=Z u)(r:RelV v u)(e:x≠"__name__":=by decide)(hd:ad x:=by decide):PE X (.Name x f) (tC v):=
 λ_ _ _ H _ I h=>iF I a c g ⟨v,H,I,r,h⟩ e hd
variable{a b:Ã}{o tb:TE}{f:Õ}
noncomputable def PC(X:Cx)(j:Ē)(a b:Ã)(t:TE):Prop:=
 ∀(c:Y (Addr×Ï))(s:À)(h:St)(H:Hp)(Q:VK),Inv X c h H s->t h H Q->
  wpAny (model X.prog X.w) X.A (eval a X.env) (λv e=>wpAny (model X.prog X.w) X.A (eval b X.env) (λu g=>wpAny (model X.prog X.w) X.A (Ê j v u) (EP X c h Q) X.xe g) X.xe e) X.xe s
noncomputable def tB(t:TE):TT:=λg H Q=>t g H λx e=>∃c,x=.bl c/\Q c e
theorem Bs{j:Ē}{t:TE}(h:PC X j a b t)(g:behindInMarks j b=Ŭ:=by first|show nobehind _ 'b' 'b'|rfl):PT X (.Compare a [j] [b] f) (tB t):=by intro e s A H Q I w;refine wpAny_isTrue_Compare1 (aE (h e s A H _ I w) λv B g=>aE g λu C r=>aE r λc E p=>?_) g;let⟨x,l,m,z,y⟩:=p;let⟨d,rfl,q⟩:=y;cases z;show ML ⟨l,m,q⟩
variable{p w:TT}{g:Y Ã}
noncomputable def EI(t u:TT):TT:=λh H Q=>t h H λc e=>if c=ū then u h e Q else Q Ŭ e
noncomputable def Ff(t u:TT):TT:=λh H Q=>t h H λc e=>if c=ū then Q ū e else u h e Q
noncomputable def ER(t:TT):TT:=λh H Q=>t h H λc e=>Q (!c) e
theorem Bw(l:PT X a p):PW X (.BoolOp .And [a] f) p:=by
 intro t j s m H Q I h;refine isTrue_and (aE (l j s m H Q I h) λc r e=>?_)
 cases c with
 |true=>show isTrue_and_nil e
 |false=>show e
theorem wL(l:PT X a p):PW X (.BoolOp .Or [a] f) p:=by
 intro t j s m H Q I h;refine isTrue_or (aE (l j s m H Q I h) λc r e=>?_)
 cases c with
 |false=>show isTrue_or_nil e
 |true=>show e
theorem BB(u:PT X a p)(v:PW X (.BoolOp .And (b::g) f) w):PW X (.BoolOp .And (a::b::g) f) (EI p w):=by
 intro y e s r H Q I h;refine isTrue_and (aE (u e s r H _ I h) λc x t=>?_);let⟨j,l,m⟩:=t
 cases c with
 |true=>show v y e x r j Q l m
 |false=>show⟨j,l,m⟩
theorem v8(u:PT X a p)(v:PW X (.BoolOp .Or (b::g) f) w):PW X (.BoolOp .Or (a::b::g) f) (Ff p w):=by
 intro y e s r H Q I h;refine isTrue_or (aE (u e s r H _ I h) λc x t=>?_);let⟨j,l,m⟩:=t
 cases c with
 |true=>show⟨j,l,m⟩
 |false=>show v y e x r j Q l m
theorem ui(l:PT X a p):PT X (.UnaryOp .Not a f) (ER p):=by intro e s m H Q I h;show isTrue_not (l e s m H (λc j=>Q (!c) j) I h)
noncomputable def JS(o tb:TE):TE:=λh H Q=>o h H λx e=>∃c,x=.bl c/\if c=ū then tb h e Q else Q (.bl Ŭ) e
noncomputable def zu(o:TE):TE:=λh H Q=>o h H λx e=>∃c,x=.bl c/\Q (.bl (!c)) e
theorem yA{op}{t:TE}(h:PE X a t):PE X (.BoolOp op [a] f) t:=λc s j H Q I e=>BoolOp_one (h c s j H Q I e)
theorem xS(u:PE X a o)(y:PE X (.BoolOp .And (b::g) f) tb):PE X (.BoolOp .And (a::b::g) f) (JS o tb):=by
 intro e s r H Q I h;refine BoolOp_and (aE (u e s r H _ I h) λv A t=>?_);let⟨x,l,m,z,j⟩:=t;let⟨c,rfl,j⟩:=j;cases z;refine ML ?_
 cases c with
 |true=>show y e A r l Q m j
 |false=>show⟨.bl Ŭ,l,m,S,j⟩
theorem Cd(t:PE X a o):PE X (.UnaryOp .Not a f) (zu o):=by intro e s y H Q I h;refine UnaryOp_ (aE (t e s y H _ I h) λv z r=>?_);let⟨x,l,m,u,j⟩:=r;let⟨c,rfl,j⟩:=j;cases u;show not_of (ML ⟨.bl (!c),l,m,S,j⟩)
noncomputable def Du(t:TT)(o tb:TE):TE:=λe H Q=>t e H λc h=>if c=ū then o e h Q else tb e h Q
theorem Fe{c:Ã}(y:PT X c p)(v:PE X a o)(x:PE X b tb):PE X (.IfExp c a b f) (Du p o tb):=by
 intro e s j H Q I h;refine wpAny_IfExp (aE (y e s j H _ I h) λd t u=>?_);let⟨l,m,r⟩:=u
 cases d with
 |true=>show v e t j l Q m r
 |false=>show x e t j l Q m r
end
noncomputable def SqL(K:Â)(H:Hp)(a:Addr)(xs:Y V):Prop:=
 Rd H a (.lst xs) \/
  ∃(o:Ï)(c:Array Value)(n:Nat),K.lookup a=Z o/\o.cls=.type "list"/\o.dict=ũ/\o.data=.seq c n/\c.size<=sizeLine/\Vals xs c.toList
noncomputable def SqT(K:Â)(H:Hp)(a:Addr)(xs:Y V):Prop:=
 Rd H a (.tup xs) \/
  ∃(o:Ï)(c:Array Value)(n:Nat),K.lookup a=Z o/\o.cls=.type "tuple"/\o.data=.seq c n/\c.size<=sizeLine/\Vals xs c.toList
noncomputable def Cz:Value->Ū V
 |.none=>Z .non
 |.bool b=>Z (.bl b)
 |.int i _=>Z (.int i)
 |.str x _=>Z (.str x)
 |.bytes b _=>Z (.byt b)
 |.float b _=>Z (.flt b)
 |.ref a=>Z (.ref a)
 |.type n=>Z (.ty n)
 |_=>ũ
theorem RelV.abs{x:V}{u:Value}(r:RelV x u):Cz u=Z x:=by
 cases x with
 |non=>cases r;rfl
 |bl _=>cases r;rfl
 |int _=>let⟨t,rfl⟩:=r;rfl
 |str _=>let⟨t,rfl⟩:=r;rfl
 |byt _=>let⟨t,rfl⟩:=r;rfl
 |flt _=>let⟨t,rfl⟩:=r;rfl
 |ref _=>cases r;rfl
 |ty _=>cases r;rfl
theorem RelV.inj{x y:V}{u:Value}(r:RelV x u)(q:RelV y u):x=y:=K2 (r.abs.symm.trans q.abs)
theorem Vals.inj:∀{xs ys:Y V}{us:Y Value},Vals xs us->Vals ys us->xs=ys
 |_,_,_,.nil,.nil=>rfl
 |_,_,_,.cons r t,.cons a t'=>by rw[r.inj a,Vals.inj t t']
section
variable{X:Cx}{c:Y (Addr×Ï)}{f:St}{H:Hp}{s:À}{a:Addr}{xs ys:Y V}
theorem SqL.of{K:Â}(h:H a=Z (.lst xs)):SqL K H a xs:=.inl (.inl h)
theorem SqT.of{K:Â}(h:H a=Z (.tup xs)):SqT K H a xs:=.inl (.inl h)
theorem Inv.list(I:Inv X c f H s)(h:SqL X.K H a xs):∃g:Y Value,Vals xs g/\PlainL s.heap a g.toArray/\xs.length<=sizeLine:=by
 rcases h with h|⟨o,g,n,l,j,hd,m,p,r⟩
 ·let⟨z,g,n,r,e⟩:=h.ok I.hok;show⟨g,r,⟨_,n,e,S,S,S⟩,z⟩
 ·refine⟨g.toList,r,⟨o,n,I.kIn a o l,j,hd,by simpa using m⟩,?_⟩;have e:=r.length;simp only[Ly]at e;omega
theorem Inv.tuple(I:Inv X c f H s)(h:SqT X.K H a xs):∃g:Y Value,Vals xs g/\Ĥ s.heap a g.toArray/\xs.length<=sizeLine:=by
 rcases h with h|⟨o,g,n,l,j,m,t,r⟩
 ·let⟨z,g,r,p⟩:=h.ok I.hok;show⟨g,r,p.tup,z⟩
 ·refine⟨g.toList,r,⟨o,I.kIn a o l,j,n,by simpa using m⟩,?_⟩;have e:=r.length;simp only[Ly]at e;omega
theorem Inv.list_inj(I:Inv X c f H s)(h:SqL X.K H a xs)(h':SqL X.K H a ys):xs=ys:=by
 let⟨j,r,⟨o,n,e,_,_,d⟩,_⟩:=I.list h;let⟨Py,l,⟨p,m,g,_,_,d'⟩,_⟩:=I.list h';rw[e]at g;cases g;rw[d]at d';injection d' with d1 _
 have:j=Py:=by simpa using LW Ŏ d1
 subst this;show r.inj l
theorem Inv.tuple_inj(I:Inv X c f H s)(h:SqT X.K H a xs)(h':SqT X.K H a ys):xs=ys:=by
 let⟨j,r,⟨o,e,_,n,d⟩,_⟩:=I.tuple h;let⟨Py,l,⟨p,g,_,m,d'⟩,_⟩:=I.tuple h';rw[e]at g;cases g;rw[d]at d';injection d' with d1 _
 have:j=Py:=by simpa using LW Ŏ d1
 subst this;show r.inj l
end
noncomputable abbrev Cx.wish(X:Cx)(E:Value->À->Prop):Cx:={ X with xe:=E }
noncomputable abbrev Cx.nox(X:Cx):Cx:=X.wish λ_ _=>False
theorem Cx.Ok.wish{X:Cx}(ok:X.Ok)(E:Value->À->Prop):(X.wish E).Ok:=
 ⟨ok.mod,ok.kind,ok.glob,ok.blt,ok.above,ok.inj,ok.has,ok.cab,ok.hd,ok.frames,ok.stk,ok.exf,ok.bs,ok.bsz,ok.noex,ok.exfs,ok.funs,ok.frf⟩
theorem Cx.Ok.unwish{X:Cx}{E:Value->À->Prop}(ok:(X.wish E).Ok):X.Ok:=
 ⟨ok.mod,ok.kind,ok.glob,ok.blt,ok.above,ok.inj,ok.has,ok.cab,ok.hd,ok.frames,ok.stk,ok.exf,ok.bs,ok.bsz,ok.noex,ok.exfs,ok.funs,ok.frf⟩
section
variable{X:Cx}{a:Y (Addr×Ï)}{c:St}{H:Hp}{s:À}{E:Value->À->Prop}
theorem Inv.wish(I:Inv X a c H s)(E:Value->À->Prop):Inv (X.wish E) a c H s:=⟨I.ok.wish E,I.os,I.bare,I.base,I.loc,I.cell,I.free,I.freeC,I.pin,I.hok,I.len⟩
theorem Inv.unwish(I:Inv (X.wish E) a c H s):Inv X a c H s:=⟨I.ok.unwish,I.os,I.bare,I.base,I.loc,I.cell,I.free,I.freeC,I.pin,I.hok,I.len⟩
theorem SP.unwish{D:Ends}{f:Flow}{s':À}(h:SP (X.wish E) a D f s'):SP X a D f s':=by
 cases f with
 |next=>let⟨e,g,I,q⟩:=h;show⟨e,g,I.unwish,q⟩
 |brk=>let⟨e,g,I,q⟩:=h;show⟨e,g,I.unwish,q⟩
 |cont=>let⟨e,g,I,q⟩:=h;show⟨e,g,I.unwish,q⟩
 |ret u=>let⟨v,e,g,I,r,q⟩:=h;show⟨v,e,g,I.unwish,r,q⟩
theorem PSs.nox{st:Y Ç}{t:TS}(h:PSs X.nox st t):PSs X st t:=λa s c H D I e=>
 L0 (h a s c H D (I.wish _) e) (λ_ _ q=>q.unwish) λ_ _ z=>Ò z
end
section
variable{X:Cx}{st:Ç}{l:Y Ç}{t u:TS}{e:Ã}{j:TE}{g:Õ}
noncomputable def DV:TS:=λD a H=>D.nx a H
noncomputable def HZ(t u:TS):TS:=λD a H=>t { D with nx:=u D } a H
theorem pss_nil:PSs X [] DV:=λ_ _ a H _ I h=>NL ⟨a,H,I,h⟩
theorem xT(p:PS X st t)(r:PSs X l u):PSs X (st::l) (HZ t u):=by
 intro a s x H D I h;refine wpAny_execs_cons (aE (p a s x H { D with nx:=u D } I h) λf w q=>?_)
 cases f with
 |next=>
  let⟨c,m,o,q⟩:=q;show r a w c m D o q
 |ret v=>show q
 |brk=>show q
 |cont=>show q
theorem xR(c:PS X st t):PSs X [st] t:=by
 intro a s m H D I h;refine wpAny_execs_cons (aE (c a s m H D I h) λf o q=>?_)
 cases f with
 |next=>show NL q
 |ret v=>show q
 |brk=>show q
 |cont=>show q
theorem Inv.quiet{a:Y (Addr×Ï)}{c:St}{H:Hp}{s:À}(I:Inv X a c H s):interactive X.env=Ŭ:=by simp[interactive,I.ok.kind]
noncomputable def Ac(j:TE):TS:=λD a H=>j a H λ_ c=>D.nx a c
theorem mU(p:PE X e j)(r:Î e ũ g.line X.env=pure Ŭ:=by rfl):PS X (.Expr e g) (Ac j):=by intro a s c H D I h;show wpAny_Expr_any (aE (p a s c H _ I h) λv z o=>by let⟨x,f,m,y,w⟩:=o;show⟨c,f,m,w⟩) I.quiet r
noncomputable def AZ(j:TE):TS:=λD a H=>j a H D.rt
theorem Cg(p:PE X e j):PS X (.Return (Z e) g) (AZ j):=by intro a s c H D I h;show wpAny_Return_some (aE (p a s c H _ I h) λv y o=>by let⟨x,f,m,w,r⟩:=o;show⟨x,c,f,m,w,r⟩)
noncomputable def DG(c:TT)(t u:TS):TS:=λD a H=>c a H λb f=>if b=ū then t D a f else u D a f
theorem zF{c:Ã}{a b:Y Ç}{w:TT}(A:PT X c w)(y:PSs X a t)(z:PSs X b u):PS X (.If c a b g) (DG w t u):=by
 intro f s m H D I h;refine wpAny_If (aE (A f s m H _ I h) λd v x=>?_);let⟨o,p,r⟩:=x
 cases d with
 |true=>show y f v m o D p r
 |false=>show z f v m o D p r
noncomputable def EW:TS:=λ_ _ _=>False
theorem ps_never:PS X st EW:=λ_ _ _ _ _ _ h=>h.elim
end
noncomputable abbrev TG:=V->St->Hp->(St->Hp->Prop)->Prop
noncomputable abbrev eU:=Y V->St->Hp->(St->Hp->Prop)->Prop
noncomputable def PG(X:Cx)(a:Ã)(t:TG):Prop:=
 ∀(c:Y (Addr×Ï))(s:À)(g:St)(H:Hp)(v:V)(u:Value)(Q:St->Hp->Prop),Inv X c g H s->RelV v u->t v g H Q->
  wpAny (model X.prog X.w) X.A (assign a X.env u) (λ_ s'=>∃e f,Inv X c e f s'/\Q e f) X.xe s
noncomputable def PGs(X:Cx)(ts:Y Ã)(t:eU):Prop:=
 ∀(a:Y (Addr×Ï))(s:À)(f:St)(H:Hp)(vs:Y V)(us:Y Value)(Q:St->Hp->Prop),Inv X a f H s->Vals vs us->t vs f H Q->
  wpAny (model X.prog X.w) X.A (assignInOrder ((È ts X.env).map (·.2)) us) (λ_ s'=>∃c e,Inv X a c e s'/\Q c e) X.xe s
noncomputable abbrev kK:=V->V->V->Hp->(Hp->Prop)->Prop
noncomputable def qv(X:Cx)(t:kK):Prop:=
 ∀(a:Y (Addr×Ï))(s:À)(g:St)(H:Hp)(o i v:V)(f e u:Value)(Q:Hp->Prop),Inv X a g H s->RelV o f->RelV i e->RelV v u->t o i v H Q->
  wpAny (model X.prog X.w) X.A (setItem f e u) (λ_ s'=>∃c,Inv X a g c s'/\Q c) X.xe s
noncomputable abbrev ox:=V->V->Hp->VK->Prop
noncomputable def qu(X:Cx)(e:ü)(t:ox):Prop:=
 ∀(a:Y (Addr×Ï))(s:À)(c:St)(H:Hp)(x y:V)(v u:Value)(Q:VK),Inv X a c H s->RelV x v->RelV y u->t x y H Q->
  wpAny (model X.prog X.w) X.A (inplaceOp e v u) (EP X a c Q) X.xe s
section
variable{X:Cx}{c:Õ}
noncomputable def lb(i:Nat):TG:=λv a H Q=>Q (a.set i (Z v)) H
theorem xq{i:Nat}{x:Str}(f:X.N.Nodup)(j:X.N[i]?=Z x)(l:gK X.env.scope x)(g:X.fn x=ū\/X.env.scope.names.lookup x=Z .local:=by nofun):PG X (.Name x c) (lb i):=by intro a s m H v u Q I r h;show wpAny_assign_Name (sQ I f j l r (λs' e=>⟨_,H,e,h⟩) g)
noncomputable def yV:eU:=λvs a H Q=>vs=[]/\Q a H
noncomputable def HA(t:TG)(u:eU):eU:=λvs f H Q=>∃v r,vs=v::r/\t v f H λa e=>u r a e Q
theorem pgs_nil:PGs X [] yV:=by intro a s f H vs us Q I r h;let⟨e,h⟩:=h;subst e;cases r;show assignInOrder_nil ⟨f,H,I,h⟩
theorem wR{e:Ã}{es:Y Ã}{t:TG}{u:eU}(o:PG X e t)(p:PGs X es u)
  (w:(È (e::es) X.env).map (·.2)=assign e X.env::(È es X.env).map (·.2):=by rfl):PGs X (e::es) (HA t u):=by
 intro a s A H vs us Q I r h;let⟨v,B,m,h⟩:=h;subst m
 cases r with
 |cons r y=>
  rw[w];refine assignInOrder_cons (aE (o a s A H _ _ _ I r h) λ_ z l=>?_);let⟨f,g,j,x⟩:=l;show p a z f g _ _ Q j y x
noncomputable def sy(K:Â)(n:Nat)(t:eU):TG:=λv e H Q=>∃a xs,v=.ref a/\SqT K H a xs/\xs.length=n/\t xs e H Q
theorem DI{es:Y Ã}{k:Nat}{t:eU}{n:Nat}(x:X.calm=ū)(h:PGs X es t)
  (z:(È es X.env).length=n:=by rfl) (p:(È es X.env).findIdx? (·.1)=ũ:=by rfl):PG X (.Tuple es k c) (sy X.K n t):=by
 intro f s l H v u Q I r g;let⟨a,xs,w,A,y,g⟩:=g;subst w;cases r;let⟨E,j,B,F⟩:=I.tuple A;refine assign_Tuple_tuple (I.ok.hd x) B (by simp[z,←y,j.length]) p λh' C=>?_;have m:Inv X f l H { s with heap:=h' }:=I.kept (t':=s.toks) λb o e=>C b o (Lg (KI e)) e;show h f _ l H xs _ Q m (by simpa using j) g
noncomputable def AQ(to h:TE)(t:kK):TG:=λv a H Q=>to a H λo e=>h a e λi f=>t o i v f λg=>Q a g
theorem B3{o i:Ã}{to j:TE}{t:kK}(J:PE X o to)(G:PE X i j)(K:qv X t)
  (F:∀v,assign (.Subscript o i c) X.env v=(do
   let e ←holding [v] (eval o X.env)
   let f ←holding [v,e] (eval i X.env)
   standAt c
   holding [v,e,f] (setItem e f v)
   release [v,e,f] []):=by intro _;rfl):PG X (.Subscript o i c) (AQ to j t):=by
 intro a s g H v u Q I r h;rw[F];refine Ko (Mi (aE (J a s g H _ I h) λe ap B=>?_));let⟨x,l,w,P,M⟩:=B;refine Ko (Mi (aE (G a ap g l _ w M) λf T C=>?_));let⟨y,m,z,R,N⟩:=C;refine Ko (M4 (Ko (Mi (aE (K a T g m x y v e f u _ z P R r N) λ_ U E=>?_))));let⟨p,A,O⟩:=E;show wpAny_release ⟨g,p,A,O⟩
noncomputable def kE(f:TE)(g:TG):TS:=λD a H=>f a H λx e=>g x a e D.nx
theorem yC{f e:Ã}{j:TE}{g:TG}(t:PE X e j)(u:PG X f g)(w:ė [f] e c.line X.env=pure Ŭ:=by rfl)(y:Ę [f] e X.env=pure ũ:=by rfl)
  (r:(È [f] X.env).map (·.2)=[assign f X.env]:=by rfl):PS X (.Assign [f] e c) (kE j g):=by
 intro a s l H D I h;refine wpAny_Assign_stores (aE (t a s l H _ I h) λv B p=>?_) w y;let⟨x,m,o,A,z⟩:=p;rw[r];show aE (u a B l m x v _ o A z) λ_ C q=>q
theorem A9{i:Nat}{x:Str}{e:Ã}{g:TE}{a:Õ}(p:X.N.Nodup)(u:X.N[i]?=Z x)(z:gK X.env.scope x)(r:PE X e g)(w:Î e (Z (.Name x a)) c.line X.env=pure Ŭ:=by rfl)(t:X.fn x=ū\/X.env.scope.names.lookup x=Z .local:=by nofun) :
  PS X (.Assign [.Name x a] e c) (kE g (lb i)):=by
 intro f s C H D I h;refine wpAny_Assign_Name (aE (r f s C H _ I h) λv E o=>?_) w;let⟨y,j,l,B,A⟩:=o;show sQ l p u z B (λF m=>⟨_,j,m,A⟩) t
noncomputable def Fx(to u t:TE)(m:V->V->Hp->VK->Prop)(r:ox)(p:kK):TS:=λD a H=>to a H λo e=>u a e λi f=>m o i f λx g=>t a g λy h=>r x y h λz j=>p o i z j λl=>D.nx a l
noncomputable def qY(X:Cx)(t:V->V->Hp->VK->Prop):Prop:=
 ∀(a:Y (Addr×Ï))(s:À)(g:St)(H:Hp)(o i:V)(f e:Value)(Q:VK),Inv X a g H s->RelV o f->RelV i e->t o i H Q->
  wpAny (model X.prog X.w) X.A (ô f e) (EP X a g Q) X.xe s
theorem Ey{o i e:Ã}{to x w:TE}{l:V->V->Hp->VK->Prop}{p:ox}{m:kK}{r:ü}{T:Õ}(ho:PE X o to)(hi:PE X i x)(hg:qY X l)(he:PE X e w)(hp:qu X r p)(hs:qv X m)
  (ha:∀g f new,augStore i g f new=(do holding [new,g,f] (setItem g f new);release [new,g,f] [];pure .next):=by intros;rfl):PS X (.AugAssign (.Subscript o i T) r e c) (Fx to x w l p m):=by
 intro a s j H D I h;refine wpAny_AugAssign_SubscriptAny (aE (ho a s j H _ I h) λg s1 Q=>?_) ha;let⟨y,A,J,t,q1⟩:=Q;refine aE (hi a s1 j A _ J q1) λf s2 R=>?_;let⟨z,B,K,u,q2⟩:=R;refine aE (hg a s2 j B y z g f _ K t u q2) λold s3 ap=>?_;let⟨x3,C,M,r3,q3⟩:=ap;refine aE (he a s3 j C _ M q3) λv s4 U=>?_;let⟨x4,E,N,r4,q4⟩:=U;refine aE (hp a s4 j E x3 x4 old v _ N r3 r4 q4) λnew s5 a_=>?_;let⟨x5,F,O,r5,q5⟩:=a_
 show aE (hs a s5 j F y z x5 g f new _ O t u r5 q5) λ_ s6 aA=>by let⟨G,P,q6⟩:=aA;show⟨j,G,P,q6⟩
noncomputable def yM(f:Int->Int->Int):ox:=λx y H Q=>∃i j,x=.int i/\y=.int j/\Q (.int (f i j)) H
theorem Ae:qu X .Add (yM λi j=>i+j):=by intro a s m H x y v u Q I g l h;let⟨i,j,e,f,q⟩:=h;subst e;subst f;let⟨t,rfl⟩:=g;let⟨t',rfl⟩:=l;show iadd_int ⟨.int _,H,I.tok _,⟨_,S⟩,q⟩
end
structure It where
 go:Nat->Hp->Prop
 yld:Nat->Hp->V->Hp->Prop
 stop:Nat->Hp->Prop
noncomputable def dW(X:Cx)(a:Y (Addr×Ï))(H:Hp)(b:Addr):Prop:=
 H b=ũ/\b≠X.env.locals/\b∉X.fs/\(b∈X.ex\/X.s₀.heap.objs.size<=b)/\(∀x c,X.env.cells.lookup x=Z c->c≠b)/\∀p∈X.pn++a,p.1≠b
theorem Inv.fpOk{X:Cx}{a:Y (Addr×Ï)}{l:St}{H g:Hp}{s:À}{b:Addr}(I:Inv X a l H s)(f:s.heap.objs.size<=b)(h:g b=ũ):dW X a g b:=by
 refine⟨h,Oq (Lb I.lt f),I.nofs f,.inr (K3 I.sz f),λx c e z=>?_,λp j z=>?_⟩
 ·let⟨v,q⟩:=I.cell x c e;show absurd (Lb q.lt (by rw[z];show f)) (Ms _)
 ·show absurd (Lb (KI (I.pin p j).1) (by rw[z];show f)) (Ms _)
structure Turn(P:Ä)(w:Å)(K:Â)(tg:Ã)(J:It)(fp:List Addr)(it:Addr)(tn:Nat->Heap->Prop):Prop where
 mem:it∈fp
 obj:∀i h,tn i h->∀b∈fp,∃o,h.get? b=Z o/\∀v,o.data≠.cell v
 keep:∀i h h',tn i h->(∀b∈fp,∀o,h.get? b=Z o->h'.get? b=Z o)->tn i h'
 item:∀(X:Cx),X.prog=P->X.w=w->X.K=K->X.calm=ū->∀(i:Nat)(pins:List (Addr×Ï))(s:À)(σ:St)(H:Hp)(E:Value->À->Prop),Inv X pins σ H s->(∀b∈fp,dW X pins H b)->tn i s.heap->J.go i H->
  wpAny (model P w) X.A (ò (.ref it)) (λr s1=>∃u,r=Z u /\
   wpAny (model P w) X.A (ñ tg (.ref it) u) (λ_ s2=>∃x H',Inv X pins σ H' s2/\RelV x u/\J.yld i H x H'/\tn (i+1) s2.heap/\∀b∈fp,H' b=ũ) E s1) E s
 done:∀(X:Cx),X.prog=P->X.w=w->X.K=K->X.calm=ū->∀(i:Nat)(pins:List (Addr×Ï))(s:À)(σ:St)(H:Hp)(E:Value->À->Prop),Inv X pins σ H s->(∀b∈fp,dW X pins H b)->tn i s.heap->J.stop i H->
  wpAny (model P w) X.A (ò (.ref it)) (λr s1=>r=ũ/\Inv X pins σ H s1) E s
 self:∀(A:É)(i:Nat)(s:À)(Q:Value->À->Prop)(E:Value->À->Prop),tn i s.heap->Q (.ref it) s->wpAny (model P w) A (pyIter (.ref it)) Q E s
noncomputable abbrev TI:=St->Hp->(It->Hp->Prop)->Prop
noncomputable def uU(X:Cx)(a:Y (Addr×Ï))(m:St)(l:Ã)(R:It->Hp->Prop)(j:Value)(g:À):Prop:=
 ∃(f:Addr)(e:Y Addr)(h:Nat->Heap->Prop)(J:It)(c:Hp),j=.ref f/\Inv X a m c g/\Turn X.prog X.w X.K l J e f h/\h 0 g.heap/\(∀b∈e,dW X a c b)/\R J c
noncomputable def PI(X:Cx)(g c:Ã)(h:TI):Prop:=
 ∀(a:Y (Addr×Ï))(s:À)(e:St)(H:Hp)(R:It->Hp->Prop),Inv X a e H s->h e H R->
  wpAny (model X.prog X.w) X.A (eval c X.env) (λv f=>wpAny (model X.prog X.w) X.A (pyIter v) (uU X a e g R) X.xe f) X.xe s
theorem mh{M:ö}{A:É}{E:Value->À->Prop}{s:À}{e:Ã}{c:Addr}{u:Value}{o:Ï}{n:String}{vs:Array Value}{Q:Unit->À->Prop}(j:s.heap.get? c=Z o)(f:o.cls=.type n)(hd:o.data=.fields vs)
  (g:["enumerate","zip","dict_itemiterator","dict_reverseitemiterator","odict_iterator","itertools.zip_longest","itertools.pairwise"].contains n=Ŭ) (a:Q Unit.unit s):wpAny M A (ñ e (.ref c) u) Q E s:=by
 unfold ñ
 cases e<;>first
  |show KD a
  |(cases u<;>first
   |show KD a
   |(refine Ko (wpAny_load j ?_)
     rw [f, hd];change wpAny M A (if (["enumerate", "zip", "dict_itemiterator", "dict_reverseitemiterator", "odict_iterator", "itertools.zip_longest", "itertools.pairwise"].contains n&&vs[0]?==Z (rawInt _)) = ū then _ else _) Q E s;rw [Kr (by intro h; rw [g, Bool.false_and]at h; cases h)]
     show KD a))
noncomputable def rL(K:Â)(a:Addr):It:=
 ⟨λi H=>∃xs x,SqL K H a xs/\xs[i]?=Z x,λi H x c=>c=H/\∀xs,SqL K H a xs->xs[i]?=Z x,λi H=>∃xs,SqL K H a xs/\xs.length<=i⟩
noncomputable def rh(K:Â)(a:Addr):It:=
 ⟨λi H=>∃xs x,SqT K H a xs/\xs[i]?=Z x,λi H x c=>c=H/\∀xs,SqT K H a xs->xs[i]?=Z x,λi H=>∃xs,SqT K H a xs/\xs.length<=i⟩
noncomputable def pq(lo:Int)(n:Nat):It:=⟨λi _=>i<n,λi H x a=>a=H/\x=.int (lo+i),λi _=>n<=i⟩
theorem zP{P:Ä}{w:Å}{K:Â}{tg:Ã}(a j:Addr):Turn P w K tg (rL K a) [j] j (λi h=>h.IsListIter j a i) where
 mem:=by simp
 obj:=λi h st b g=>by
  have e:b=j:=by simpa using g
  subst e;let⟨o,e,c,d⟩:=st;show⟨o,e,λv z=>by rw[d]at z;cases z⟩
 keep:=λi h h' st k=>st.at λo e=>k j (by simp) o e
 item:=by
  intro X F J C Q i f s R H E I l st G;subst F J C;let⟨xs,x,m,M⟩:=G;let⟨T,N,p,hz⟩:=I.list m;let⟨u,aA,ru⟩:=N.get M;let⟨r,t,a_,y,A,B⟩:=l j (by simp);refine Np st p.isList (x:=u) (by simpa using aA) λh' O sb=>?_;have ap:Inv X f R H { s with heap:=h' }:=I.turned (t':=s.toks) (λb o g e=>(sb.2 b g).trans e) r t y A B;let⟨o,e,c,d⟩:=id O;show⟨u,S,mh (s:={ s with heap:=h' }) e c d 'b' ⟨x,H,ap,ru,⟨S,λys hy=>by rw[I.list_inj hy m];show M⟩,O,λb g=>(l b g).1⟩⟩
 done:=by
  intro X F J C Q i f s R H E I l st G;subst F J C;let⟨xs,m,M⟩:=G;let⟨T,N,p,hz⟩:=I.list m;let⟨r,t,a_,y,A,B⟩:=l j (by simp);have hl:=N.length;show Ny (I.ok.hd Q) st p.isList (by simp;omega) λh' U=>⟨S,I.turned (t':=s.toks) (λb o g e=>U b o g e) r t y A B⟩
 self:=λ_ _ _ _ _ st h=>ĵ st h
theorem FX{P:Ä}{w:Å}{K:Â}{tg:Ã}(a j:Addr):Turn P w K tg (rh K a) [j] j (λi h=>h.IsTupleIter j a i) where
 mem:=by simp
 obj:=λi h st b g=>by
  have e:b=j:=by simpa using g
  subst e;let⟨o,e,c,d⟩:=st;show⟨o,e,λv z=>by rw[d]at z;cases z⟩
 keep:=λi h h' st k=>st.at λo e=>k j (by simp) o e
 item:=by
  intro X G M F R i f s ap H E I l st J;subst G M F;let⟨xs,x,m,N⟩:=J;let⟨r,O,p,hz⟩:=I.tuple m;let⟨u,aA,ru⟩:=O.get N;let⟨t,y,a_,A,B,C⟩:=l j (by simp);refine ě st (show s.heap.IsTuple a r.toArray from p) (x:=u) (by simpa using aA) λh' Q sb=>?_;have T:Inv X f ap H { s with heap:=h' }:=I.turned (t':=s.toks) (λb o g e=>(sb.2 b g).trans e) t y A B C;let⟨o,e,c,d⟩:=id Q;show⟨u,S,mh (s:={ s with heap:=h' }) e c d 'b' ⟨x,H,T,ru,⟨S,λys hy=>by rw[I.tuple_inj hy m];show N⟩,Q,λb g=>(l b g).1⟩⟩
 done:=by
  intro X G M F R i f s ap H E I l st J;subst G M F;let⟨xs,m,N⟩:=J;let⟨r,O,p,hz⟩:=I.tuple m;let⟨t,y,a_,A,B,C⟩:=l j (by simp);have hl:=O.length;show ħ (I.ok.hd R) st (show s.heap.IsTuple a r.toArray from p) (by simp;omega) λh' U=>⟨S,I.turned (t':=s.toks) (λb o g e=>U b o g e) t y A B C⟩
 self:=λ_ _ _ _ _ st h=>ĩ st h
theorem Fy{P:Ä}{w:Å}{K:Â}{R:Ã}(a:Addr)(lo:Int)(n:Nat):Turn P w K R (pq lo n) [a] a (λi h=>ă h a (lo+(i:Nat)*1) ((n:Int)-(i:Nat)) 1) where
 mem:=by simp
 obj:=λi h st b f=>by
  have e:b=a:=by simpa using f
  subst e
  show⟨_,st,λv z=>by
   have U:Data.fields _=Data.cell v:=z
   cases U⟩
 keep:=λi h h' st k=>k a (by simp) _ st
 item:=by
  intro X x B u y i c s G H E I g st A;subst x B u;let⟨j,l,N,m,p,r⟩:=g a (by simp);have W:=œ (prog:=X.prog) (w:=X.w) (I.ok.hd y) a lo 1 n;refine W.item i s _ _ A st λv h' F O C Q=>?_;let⟨t,rfl⟩:=O;have J:Inv X c G H { s with heap:=h',toks:=F }:=I.turned (λb o f e=>Q b o (by simpa using f) e) j l m p r;refine⟨_,S,mh (s:={ s with heap:=h',toks:=F }) (n:="range_iterator") C S S 'b' ⟨.int (lo+i),H,J,⟨t,?_⟩,⟨S,S⟩,C,λb f=>(g b f).1⟩⟩;rw[Int.mul_one]
 done:=by intro X x B u y i c s G H E I g st A;subst x B u;let⟨j,l,N,m,p,r⟩:=g a (by simp);show Ĩ (I.ok.hd y) st (by have:n<=i:=A;omega) λh' M=>⟨S,I.turned (t':=s.toks) (λb o f e=>M b o f e) j l m p r⟩
 self:=λ_ _ _ _ _ st h=>Ī st h
section
variable{X:Cx}{c:Ã}
theorem Dr{f:Y (Addr×Ï)}{j:St}{H:Hp}{s:À}{R:It->Hp->Prop}{E:Value->À->Prop}{lo a:Int}{t u v:ú}{h:Nat}(I:Inv X f j H s)(p:-(2^62)<=lo)(r:lo<2^62)(w:-(2^62)<=a)(x:a<2^62)
  (q:R (pq lo (a-lo).toNat) H):wpAny (model X.prog X.w) X.A (pyIter (.ref s.heap.objs.size)) (uU X f j c R) E { s with heap:=s.heap.push { cls:=.type "range",data:=.fields #[.int lo t,.int a u,.int 1 v] },toks:=h }:=by
 refine Ň (Ņ ..) (small_one p r w x) ?_;have g:Inv X f j H { s with heap:=s.heap.push { cls:=.type "range",data:=.fields #[.int lo t,.int a u,.int 1 v] },toks:=h }:=I.kept λb o e=>Ks _ e
 refine⟨(s.heap.push { cls:=.type "range",data:=.fields #[.int lo t,.int a u,.int 1 v] }).objs.size,[(s.heap.push { cls:=.type "range",data:=.fields #[.int lo t,.int a u,.int 1 v] }).objs.size],_,_,H,S,
  g.kept (t':=h) λb o e=>Ks _ e,Fy _ lo (a-lo).toNat,?_,λb y=>?_,q⟩
 ·have l:lo+((0:Nat):Int)*1=lo:=by simp
  have m:(((a-lo).toNat:Nat):Int)-((0:Nat):Int)=Builtin.Range.rangeSize lo a 1:=by rw[rangeSize_one];split<;>omega
  change ă _ _ (lo+((0:Nat):Int)*1) ((((a-lo).toNat:Nat):Int)-((0:Nat):Int)) 1;rw[l,m];show KJ _ S
 ·have e:b=(s.heap.push { cls:=.type "range",data:=.fields #[.int lo t,.int a u,.int 1 v] }).objs.size:=by simpa using y
  subst e;show g.fpOk (Kw _) (g.hok.fresh (Kw _))
noncomputable def CO(e:TA):TI:=λf H R=>e f H λvs a=>∃j:Int,vs=[.int j]/\-(2^62)<=j/\j<2^62/\R (pq 0 j.toNat) a
theorem vd{a:Ã}{m:TA}{p g:Õ}(w:Gl X "range")(x:X.mg "range"=ũ)(v:PA X [a] m)(y:starEach [a] X.env=[(Ŭ,eval a X.env)]:=by rfl):PI X c (.Call (.Name "range" p) [a] [] g) (CO m):=by
 intro f s C H R I h;refine Call_ (iF I w x boot_range (L5 (aE (v g f s C H _ I h) λus F u=>?_) y S));let⟨vs,E,o,A,l⟩:=u;let⟨j,e,l,z,q⟩:=l;subst e
 cases A with
 |cons r B=>
  cases B;let⟨t,rfl⟩:=r;show call_range_1 (Dr o () () l z (by simpa using q))
noncomputable def AO(p:TI)(g:TG)(tb:TS):TS:=λD a H=>p a H λJ l=>∃W:Nat->Nat->St->Hp->Prop,(∃m,W 0 m a l)/\∀i m a H,W i m a H->
 (J.stop i H/\D.nx a H)\/(J.go i H/\∃N:St->Hp->Prop,(∀f e,N f e->∃j,j<m/\W (i+1) j f e)/\∀x e,J.yld i H x e->g x a e λh o=>tb { D with nx:=N,ct:=N,bk:=D.nx } h o)
noncomputable def kW(a:Y Addr)(h:Heap):Y (Addr×Ï):=a.filterMap λb=>(h.get? b).map λo=>(b,o)
theorem o9{a:Y Addr}{h:Heap}{b:Addr}{o:Ï}(f:b∈a)(e:h.get? b=Z o):(b,o)∈kW a h:=Mo.mpr ⟨b,f,by rw[e];rfl⟩
theorem FH{a:Y Addr}{h:Heap}{p:Addr×Ï}(j:p∈kW a h):p.1∈a/\h.get? p.1=Z p.2:=by
 let⟨b,g,e⟩:=Mo.mp j
 cases q:h.get? b with
 |none=>rw[q]at e;cases e
 |some o=>
  rw[q]at e;have f:(b,o)=p:=K2 e;subst f;show⟨g,q⟩
theorem Inv.pinned{a:Y (Addr×Ï)}{j:St}{H:Hp}{s:À}{f:Y Addr}(I:Inv X a j H s)(t:∀b∈f,dW X a H b)(u:∀b∈f,∃o,s.heap.get? b=Z o/\∀v,o.data≠.cell v):Inv X (a++kW f s.heap) j H s:=
 I.pins_of λp w=>(K6.mp w).elim (λz=>I.pin p (Ll _ z)) λz=>by let⟨h,e⟩:=FH z;let⟨l,m,r,_⟩:=t p.1 h;let⟨o,g,d⟩:=u p.1 h;rw[e]at g;cases g;show⟨e,l,m,r,d⟩
theorem Inv.unpinned{a pl:Y (Addr×Ï)}{e:St}{H:Hp}{s:À}(I:Inv X (a++pl) e H s):Inv X a e H s:=I.pins_of λp f=>I.pin p (Ll _ (Mj _ f))
theorem Bz{w:Ã}{B:Y Ç}{wi:TI}{g:TG}{tb:TS}{U:Õ}(G:PassesOwn (model X.prog X.w) X.A X.env X.xe)(hc:X.calm=ū)(hi:PI X c w wi)(hg:PG X c g)(t:PSs X B tb)
  (hs:∀x,Ô w X.env x=pure x:=by intro _;rfl):PS X (.For c w B [] U) (AO wi g tb):=by
 intro a s σ H D I h;refine wpAny_For (aE (hi a s σ H _ I h) λv s1 h1=>aE h1 λWl s2 h2=>?_) hs;let⟨it,E,tn,J,H2,e,I2,T,Uq,f2,W,⟨m0,w0⟩,O⟩:=h2;subst e;have R:∀{A:Hp},(∀b∈E,A b=ũ)->∀b∈E,dW X a A b:=λhn b t=>⟨hn b t,(f2 b t).2⟩;refine codeAny_forLoop_any (λn s'=>∃i y A,Inv X a y A s'/\tn i s'.heap/\(∀b∈E,A b=ũ)/\W i n y A) ?_ m0 ⟨0,σ,H2,I2,Uq,λb t=>(f2 b t).1,w0⟩;rintro n s3 ⟨i,z,P,I3,M,F,w3⟩;rcases O i n z P w3 with⟨stop,qn⟩|⟨go,N,hN,step⟩
 ·refine M7 G (aE (T.done X S S S hc i a s3 z P X.xe I3 (R F) M stop) λr s4 O7=>?_);let⟨ap,I4⟩:=O7;subst ap;show NL ⟨z,P,I4,qn⟩
 ·refine M7 G (aE (T.item X S S S hc i a s3 z P X.xe I3 (R F) M go) λr s4 Qq=>?_);let⟨u,ap,h4⟩:=Qq;subst ap;refine M7 G (aE h4 λ_ s5 RC=>?_);let⟨x,H5,I5,r5,y5,bw,Wm⟩:=RC;have Q:=I5.pinned (R Wm) (T.obj _ _ bw);refine M7 G (aE (hg _ s5 z H5 x u _ Q r5 (step x H5 y5)) λ_ s6 Vf=>?_);let⟨aA,H6,I6,q6⟩:=Vf;refine M7 G (aE (t _ s6 aA H6 _ I6 q6) λf a_ C=>?_)
  have again:∀{j:St}{l:Hp},Inv X (a++kW E s5.heap) j l a_->N j l->∃m,m<n/\∃i y A,Inv X a y A a_/\tn i a_.heap/\(∀b∈E,A b=ũ)/\W i m y A:=λ{j l} p K=>by let⟨m',hm,w7⟩:=hN j l K;refine⟨m',hm,i+1,j,l,p.unpinned,T.keep _ _ _ bw λb t o e=>(p.pin (b,o) (Ll _ (Ll _ (o9 t e)))).1,λb t=>?_,w7⟩;let⟨o,e,d⟩:=T.obj _ _ bw b t;show (p.pin (b,o) (Ll _ (Ll _ (o9 t e)))).2.1
  cases f with
  |next=>let⟨j,l,p,K⟩:=C;show again p K
  |cont=>let⟨j,l,p,K⟩:=C;show again p K
  |brk=>let⟨j,l,p,C⟩:=C;show⟨j,l,p.unpinned,C⟩
  |ret v=>let⟨x7,j,l,p,r7,C⟩:=C;show⟨x7,j,l,p.unpinned,r7,C⟩
end
noncomputable abbrev R2:=V->V->Hp->VK->Prop
noncomputable def b9(X:Cx)(f:Value->Value->Sem Value)(r:R2):Prop:=
 ∀(a:Y (Addr×Ï))(s:À)(c:St)(H:Hp)(x y:V)(v u:Value)(Q:VK),Inv X a c H s->RelV x v->RelV y u->r x y H Q->
  wpAny (model X.prog X.w) X.A (f v u) (EP X a c Q) X.xe s
noncomputable def tG(X:Cx)(f:Value->Sem Value)(r:V->Hp->VK->Prop):Prop:=
 ∀(a:Y (Addr×Ï))(s:À)(c:St)(H:Hp)(x:V)(v:Value)(Q:VK),Inv X a c H s->RelV x v->r x H Q->
  wpAny (model X.prog X.w) X.A (f v) (EP X a c Q) X.xe s
noncomputable def fM(X:Cx)(f:Value)(r:Y V->Hp->VK->Prop):Prop:=
 ∀(a:Y (Addr×Ï))(s:À)(c:St)(H:Hp)(xs:Y V)(us:Y Value)(Q:VK),Inv X a c H s->Vals xs us->r xs H Q->
  wpAny (model X.prog X.w) X.A (call f us) (EP X a c Q) X.xe s
noncomputable def zd(X:Cx)(r:V->Hp->(Bool->Hp->Prop)->Prop):Prop:=
 ∀(a:Y (Addr×Ï))(s:À)(c:St)(H:Hp)(x:V)(v:Value)(Q:Bool->Hp->Prop),Inv X a c H s->RelV x v->r x H Q->
  wpAny (model X.prog X.w) X.A (truthy v) (TP X a c Q) X.xe s
noncomputable def iW(r:R2)(f tb:TE):TE:=λa H Q=>f a H λx c=>tb a c λy e=>r x y e Q
noncomputable def Ce(r:V->Hp->VK->Prop)(c:TE):TE:=λe H Q=>c e H λx a=>r x a Q
noncomputable def rI(C:Int->Int->Prop)(g:Int->Int->V):R2:=λx y H Q=>∃i j,x=.int i/\y=.int j/\C i j/\Q (g i j) H
noncomputable def ig(g:Int->Int->V):R2:=λx y H Q=>∃i j,x=.int i/\y=.int j/\Q (g i j) H
noncomputable def rU(g:Int->V):V->Hp->VK->Prop:=λx H Q=>∃i,x=.int i/\Q (g i) H
section
variable{X:Cx}{a b:Ã}{c tb:TE}{e:Õ}
theorem sL(B:PE X a c)(C:PE X b tb){g:Y (Addr×Ï)}{s:À}{l:St}{H:Hp}{R:V->V->Hp->Prop}(I:Inv X g l H s)
  (h:c l H λx r=>tb l r λy j=>R x y j) {Q:Value->À->Prop} {f:Value->Value->Sem Value}
  (E:∀v u p x y j,Inv X g l j p->RelV x v->RelV y u->R x y j->wpAny (model X.prog X.w) X.A (f v u) Q X.xe p) :
  wpAny (model X.prog X.w) X.A (eval a X.env) (λv m=>wpAny (model X.prog X.w) X.A (eval b X.env) (λu o=>wpAny (model X.prog X.w) X.A (f v u) Q X.xe o) X.xe m) X.xe s:=by
 refine aE (B g s l H _ I h) λv M z=>?_;let⟨x,r,t,J,F⟩:=z;refine aE (C g M l r _ t F) λu p A=>?_;let⟨y,j,w,K,G⟩:=A;show E v u p x y j w J K G
theorem rP{g:ü}{r:R2}(p:b9 X (Ì g) r)(m:PE X a c)(o:PE X b tb):PE X (.BinOp a g b e) (iW r c tb):=by intro f s A H Q I h;show wpAny_BinOp (sL m o I h λv u z x y j l t w q=>p f z A j x y v u Q l t w q)
theorem Ir{g:UnaryOp}{r:V->Hp->VK->Prop}(t:tG X (unaryOp g) r)(p:PE X a c):PE X (.UnaryOp g a e) (Ce r c):=by intro f s j H Q I h;show UnaryOp_ (aE (p f s j H _ I h) λv y o=>by let⟨x,l,m,w,u⟩:=o;show t f y j l x v Q m w u)
theorem o8{f:Value->Value->Sem Value}{C:Int->Int->Prop}{g:Int->Int->Int}
  (rule:∀(i j:Int)(t u:ú)(s:À)(Q:Value->À->Prop)(E:Value->À->Prop),C i j->Q (.int (g i j) s.toks) { s with toks:=s.toks+1 }->wpAny (model X.prog X.w) X.A (f (.int i t) (.int j u)) Q E s) :
  b9 X f (rI C λi j=>.int (g i j)):=by
 intro l s r H x y v u Q I o p h;let⟨i,j,rfl,rfl,m,q⟩:=h;let⟨t,rfl⟩:=o;let⟨t',rfl⟩:=p;show rule i j t t' s _ _ m ⟨.int (g i j),H,I.tok _,⟨_,S⟩,q⟩
theorem yD{f:Value->Value->Sem Value}{g:Int->Int->Int}
  (rule:∀(i j:Int)(t u:ú)(s:À)(Q:Value->À->Prop)(E:Value->À->Prop),Q (.int (g i j) s.toks) { s with toks:=s.toks+1 }->wpAny (model X.prog X.w) X.A (f (.int i t) (.int j u)) Q E s) :
  b9 X f (ig λi j=>.int (g i j)):=by
 intro l s p H x y v u Q I m o h;let⟨i,j,rfl,rfl,q⟩:=h;let⟨t,rfl⟩:=m;let⟨t',rfl⟩:=o;show rule i j t t' s _ _ ⟨.int (g i j),H,I.tok _,⟨_,S⟩,q⟩
theorem qL{f:Value->Value->Sem Value}{g:Int->Int->Bool}
  (rule:∀(i j:Int)(t u:ú)(s:À)(Q:Value->À->Prop)(E:Value->À->Prop),Q (.bool (g i j)) s->wpAny (model X.prog X.w) X.A (f (.int i t) (.int j u)) Q E s) :
  b9 X f (ig λi j=>.bl (g i j)):=by
 intro l s p H x y v u Q I m o h;let⟨i,j,rfl,rfl,q⟩:=h;let⟨t,rfl⟩:=m;let⟨t',rfl⟩:=o;show rule i j t t' s _ _ ⟨.bl (g i j),H,I,S,q⟩
noncomputable def yL(i j:Int):Prop:=0<=j/\j<=1000000/\i.natAbs<2^64
theorem A8:b9 X (Ì .Add) (ig λi j=>.int (i+j)):=yD λ_ _ _ _ _ _ _ q=>add_int q
theorem GJ:b9 X (Ì .Sub) (ig λi j=>.int (i-j)):=yD λ_ _ _ _ _ _ _ q=>sub_int q
theorem A5:b9 X (Ì .Mod) (rI (λ_ j=>0<j) λi j=>.int (i % j)):=o8 λi j _ _ _ _ _ f q=>by have g:(0:Int)<j:=f;show mod_int' () (by rw[Int.fmod_eq_emod_of_nonneg i ()];show q)
theorem zB:b9 X (Ì .Pow) (rI yL λi j=>.int (i^j.toNat)):=o8 λ_ _ _ _ _ _ _ f q=>pow_int_small f.1 f.2.1 f.2.2 q
theorem Dp{f:Value->Sem Value}{g:Int->Int}
  (rule:∀(i:Int)(t:ú)(s:À)(Q:Value->À->Prop)(E:Value->À->Prop),Q (.int (g i) s.toks) { s with toks:=s.toks+1 }->wpAny (model X.prog X.w) X.A (f (.int i t)) Q E s) :
  tG X f (rU λi=>.int (g i)):=by
 intro j s m H x v Q I l h;let⟨i,rfl,q⟩:=h;let⟨t,rfl⟩:=l;show rule i t s _ _ ⟨.int (g i),H,I.tok _,⟨_,S⟩,q⟩
theorem BQ:tG X (unaryOp .USub) (rU λi=>.int (-i)):=Dp λ_ _ _ _ _ q=>neg_int q
end
section
variable{X:Cx}{a b:Ã}{f tb:TE}{g:Õ}
theorem oQ{c:Y (Addr×Ï)}{j:St}{H:Hp}{s:À}{Q:VK}{k h:Bool}(I:Inv X c j H s)(q:Q (.bl k) H)(e:k=h):EP X c j Q (.bool h) s:=by subst e;show⟨.bl k,H,I,S,q⟩
theorem DA:b9 X (Ê .Lt) (ig λi j=>.bl (decide (i<j))):=qL λ_ _ _ _ _ _ _ q=>lt_int q
theorem JY:b9 X (Ê .Gt) (ig λi j=>.bl (decide (j<i))):=qL λ_ _ _ _ _ _ _ q=>gt_int q
theorem JN:b9 X (Ê .GtE) (ig λi j=>.bl (decide (j<=i))):=qL λ_ _ _ _ _ _ _ q=>ge_int q
theorem Co:b9 X (Ê .Is) (λx y H Q=>y=.non/\Q (.bl (decide (x=.non))) H):=by
 intro c s l H x y v u Q I e j h;let⟨rfl,q⟩:=h;cases j;refine is_none_gen (oQ I q ?_)
 cases x<;>first
  |(cases e;rfl)
  |(let⟨t,rfl⟩:=e;rfl)
theorem CP:b9 X (Ê .IsNot) (λx y H Q=>y=.non/\Q (.bl (!decide (x=.non))) H):=by
 intro c s l H x y v u Q I e j h;let⟨rfl,q⟩:=h;cases j;refine isnot_none_gen (oQ I q ?_)
 cases x<;>first
  |(cases e;rfl)
  |(let⟨t,rfl⟩:=e;rfl)
theorem aw(b:Ã){c:Ē}(h:c≠.In:=by decide)(l:c≠.NotIn:=by decide):behindInMarks c b=Ŭ:=by
 have e:(c==Ē.In)=Ŭ:=by cases c<;>first|rfl|show absurd S h
 have j:(c==Ē.NotIn)=Ŭ:=by cases c<;>first|rfl|show absurd S l
 cases b<;>simp[behindInMarks,e,j]
theorem xy{e:Ē}{r:R2}(t:b9 X (Ê e) r)(m:PE X a f)(o:PE X b tb)(p:behindInMarks e b=Ŭ):PE X (.Compare a [e] [b] g) (iW r f tb):=by intro c s B H Q I h;show wpAny_Compare1 (sL m o I h λv u A x y j l w z q=>t c A B j x y v u Q l w z q) p
noncomputable def rN(t:TE):TT:=λe H Q=>t e H λx c=>∃k,x=.bl k/\Q k c
theorem v5{l:Ē}{r:R2}(G:b9 X (Ê l) r)(C:PE X a f)(E:PE X b tb)(F:behindInMarks l b=Ŭ):PT X (.Compare a [l] [b] g) (rN (iW r f tb)):=by
 intro j s m H Q I h
 refine wpAny_isTrue_Compare1 (aE (C j s m H _ I h) λv R ⟨x,o,w,N,J⟩=>aE (E j R m o _ w J) λu U ⟨y,p,A,O,K⟩=>
  aE (G j U m p x y v u _ A N O K) λc T ⟨z,t,B,P,k,e,M⟩=>?_) F
 subst e;cases P;show ML ⟨t,B,M⟩
noncomputable def tL(K:Â)(x:V)(H:Hp)(k:Bool):Prop:=
 match x with
 |.non=>k=Ŭ
 |.bl b=>k=b
 |.int i=>k=(i != 0)
 |.str y=>y.length<=sizeLine/\k=((y.length:Int) != 0)
 |.byt y=>y.size<=sizeLine/\k=((y.size:Int) != 0)
 |.ref p=>(∃xs,SqL K H p xs/\k=!xs.isEmpty)\/(∃xs,SqT K H p xs/\k=!xs.isEmpty)\/∃c,H p=Z (.dK c)/\k=!c.isEmpty
 |_=>False
theorem Jk{e:Type}{c:Y (e×V)}{vs:Y (e×Value)}(r:KV c vs):(!vs.isEmpty)=!c.isEmpty:=by cases r<;>rfl
theorem vq{xs:Y V}{c:Y Value}(r:Vals xs c):(!c.toArray.isEmpty)=!xs.isEmpty:=by cases r<;>simp
theorem iI:(sizeLine:Nat)<2^63:=by rw[LD];decide
theorem CJ:zd X (λx H Q=>∃k,tL X.K x H k/\Q k H):=by
 intro z s G H x v Q I o h;let⟨k,e,q⟩:=h;have E:=iI;have F:sizeLine=16777216:=LD
 cases x with
 |non=>
  cases o;have c:k=Ŭ:=e;subst c;show truthy_none ⟨H,I,q⟩
 |bl b=>
  cases o;have c:k=b:=e;subst c;show ML ⟨H,I,q⟩
 |int i=>
  let⟨t,rfl⟩:=o;have c:k=(i != 0):=e;subst c;show PySem.P.truthy_int ⟨H,I,q⟩
 |str y=>
  let⟨t,rfl⟩:=o;obtain⟨C,c⟩:y.length<=sizeLine/\k=((y.length:Int) != 0):=e;subst c;show PySem.P.truthy_str () ⟨H,I.tok _,q⟩
 |byt y=>
  let⟨t,rfl⟩:=o;obtain⟨C,c⟩:y.size<=sizeLine/\k=((y.size:Int) != 0):=e;subst c;show PySem.W.truthy_bytes () ⟨H,I.tok _,q⟩
 |ref p=>
  cases o;have c:(∃xs,SqL X.K H p xs/\k=!xs.isEmpty)\/(∃xs,SqT X.K H p xs/\k=!xs.isEmpty)\/∃l,H p=Z (.dK l)/\k=!l.isEmpty:=e;rcases c with⟨xs,u,c⟩|⟨xs,u,c⟩|⟨l,u,c⟩
  ·subst c;let⟨A,r,pl,w⟩:=I.list u;have j:=r.length;show wpAny_truthy_list pl.isList (by simp only[KC];omega) ⟨H,I.tok _,by rw[vq r];show q⟩
  ·subst c;let⟨A,r,pl,w⟩:=I.tuple u;have j:=r.length;show truthy_tuple pl (by simp only[KC];omega) ⟨H,I.tok _,by rw[vq r];show q⟩
  ·subst c;obtain⟨w,B,vs,r,m⟩:l.length<=sizeLine/\(p==Ü)=Ŭ/\∃vs,KV l vs/\s.heap.DictOf (eQ X.prog X.w) p vs:=I.hok p _ u;have j:l.length=vs.length:=Nu r;show wpAny_truthy_dict B m () ⟨H,I.tok _,by rw[Jk r];show q⟩
 |_=>show (show False from e).elim
theorem uh(r:PE X a f)(t:∀c,isTrue a X.env c=(do let v ←c;standAt a.pos;holding [v] (truthy v))) :
  PT X a (λj H Q=>f j H λx l=>∃k,tL X.K x l k/\Q k l):=by
 intro e s j H Q I h;show isTrue_plain (aE (r e s j H _ I h) λv y p=>by let⟨x,m,o,w,u⟩:=p;show CJ e y j m x v Q o w u) (t _)
theorem Dt:b9 X (Ì .Add) (λx y H Q=>∃i j,x=.str i/\y=.str j/\i.length+j.length<=sizeLine/\Q (.str (i++j)) H):=by intro c s p H x y v u Q I l m h;let⟨i,j,rfl,rfl,e,q⟩:=h;let⟨t,rfl⟩:=l;let⟨t',rfl⟩:=m;show add_str (λt' o=>⟨.str (i++j),H,I.tok _,⟨_,S⟩,q⟩) e
theorem g6{x:V}{us:Y Value}(r:Vals [x] us):∃u,us=[u]/\RelV x u:=by
 cases r with
 |cons c e=>cases e;show⟨_,S,c⟩
theorem wM:fM X (.type "int") (λxs H Q=>(∃i,xs=[.int i]/\Q (.int i) H)\/∃k,xs=[.bl k]/\Q (.int (if k then 1 else 0)) H):=by
 intro c s j H xs us Q I r h;rcases h with⟨i,rfl,q⟩|⟨k,rfl,q⟩
 ·let⟨u,rfl,t,rfl⟩:=g6 r;show call_int_int ⟨.int i,H,I,⟨_,S⟩,q⟩
 ·let⟨u,rfl,e⟩:=g6 r;cases e;show call_int_bool ⟨.int (if k then 1 else 0),H,I.tok _,⟨_,S⟩,q⟩
end
structure ObjM(h:Heap)(x dx C:Addr)(mA:Str->Option Value):Prop where
 obj:h.get? x=Z (í C dx)
 ns:h.Ns1 dx mA
 ne:dx≠x
theorem Bp{h:Heap}{c:Addr}{f:Str->Ū Value}(n:h.Ns1 c f):∃g,h.get? c=Z g/\∀name,ŋ name g=Z (f name):=by
 let⟨o,es,v,r,hd,m,_,p⟩:=n;refine⟨o,r,λname=>?_⟩;have e:=p name;unfold nsFind findBy at e;rw[←N2]at e;unfold ŋ;rw[hd];dsimp only;split
 ·rename_i y q;rw[q]at e;show LW Z e
 ·rename_i q;rw[q]at e
  have a:es.toList.any (·.refKey)=Ŭ:=by rw[List.any_eq_false];intro y u;let⟨z,t,j⟩:=m y (ē.mp u);simp[DictEntry.refKey,j]
  have l:¬ es.toList.any (·.refKey)=ū:=by rw[a];show Lh
  rw[Kr l];show LW Z e
theorem ObjM.look{h:Heap}{x c C:Addr}{e:Str->Ū Value}(I:ObjM h x c C e):∃a,InstAt h x (í C c) C (Z a)/\∀name,ŋ name a=Z (e name):=
 let ⟨a,ho,hl⟩:=Bp I.ns
 ⟨a,⟨I.obj,S,S,ho⟩,hl⟩
section
variable{prog:Ä}{w:Å}{A:É}{E:Value->À->Prop}{s:À}{K:Â}{x e C f:Addr}{c:Str->Ū Value}{name:Str}{v:Value}
theorem JX{a:Bool}{Q:Value->À->Prop}(X:K.In s.heap)(I:ObjM s.heap x e C c)(l:Đ K C name=ū)(m:Ģ K C=ū)
  (j:è K (.ref C) name=Z ũ) (p:c name=Z v) (g:handedIn v=ū) (h:Q v { s with toks:=s.toks+1 }) :
  wpAny (model prog w) A (Ĭ (.ref x) name a) Q E s:=by
 let⟨r,J,o⟩:=I.look;show PySem.W.get_value X J (Ă l).1 (PySem.W.findObj_own m j S (by rw[o,p])) g h
theorem HH{pl:Sem Bool}{Q:Value×Y Value->À->Prop}(X:K.In s.heap)(I:ObjM s.heap x e C c)(a:Đ K C name=ū)
  (g:è K (.ref C) name=Z (Z (.ref f))) (l:isFn K (.ref f)=ū) (m:c name=ũ) (h:Q (.ref f,[.ref x]) s) :
  wpAny (model prog w) A (getMethod (.ref x) name pl) Q E s:=by
 let⟨o,J,j⟩:=I.look;show PySem.W.method_fn X J (Ă a).1 (Ă a).2 g (MW.mp l) (by change (ŋ name o).map (·.isSome)=Z Ŭ;rw[j,m];rfl) h
theorem Jy{ns:Y Str}{Q:Unit->À->Prop}(X:K.In s.heap)(I:ObjM s.heap x e C c)
  (G:è K (.ref C) "__setattr__"=Z (Z (.builtin "object.__setattr__"))) (F:ş K C=ū) (H:Ŕ K C name=Z ũ) (B:Ģ K C=ū)
  (M:PySem.Within c ns) (hsz:ns.length<=sizeLine)
  (h:∀h',ObjM h' x e C (λy=>if y=name then Z v else c y)->Heap.SameBut e s.heap h'->Q Unit.unit { s with heap:=h',toks:=s.toks+2 }) :
  wpAny (model prog w) A (Œ (.ref x) name v) Q E s:=by
 let⟨U,J,P⟩:=I.look;refine PySem.W.set_plain X J G (PySem.W.osa_open (s:={ s with toks:=s.toks+1 }) (r:=ũ) X J F H λb=>?_);let⟨O,z,l⟩:=PySem.W.any_some B;have N:s.heap.get? x=Z ⟨.ref C,Z e,.plain,#[]⟩:=I.obj;refine Ko (KD (Ko (Ko (wpAny_loadPart N (Ko (PySem.W.Looks.here (s:={ s with toks:=s.toks+1 }) (PySem.W.looks_clsIn X z) ?_))))));rw[l];refine KD (a:=Z e) (Ko (KD (Ko ?_)));refine wpAny_nsSet1 (s:={ s with toks:=s.toks+1 }) I.ns λh' j g=>?_;let⟨R,u,t,m,o,p⟩:=j.count (PySem.Within.cons name v M);refine Ko (Ś m (by rw[o];show ŝ (K3 p (by rw[KA];omega))) ?_);show KD (h _ ⟨(g.2 _ (Lv I.ne)).trans I.obj,j,I.ne⟩ g)
theorem Fp{R:Result->À->Prop}{vs:Y Value}{a:Y (Str×Value)}(X:K.In s.heap)(m:makesIn K C=ū)
  (l:è K (.ref C) "__init__"=Z (Z (.ref f))) (j:typeIn K (.ref f)=Z (.type "function"))
  (h:ì (model prog w) (A.under (.builtin "type.__call__" ⟨.ref C::vs,a⟩)) (.call (.ref f) ⟨.ref (s.heap.objs.size+1)::vs,a⟩) (PySem.W.InitBack (s.heap.objs.size+1) R)
   { s with heap:=(s.heap.push à).push (í C s.heap.objs.size) }) :
  ì (model prog w) A (.call (.ref C) ⟨vs,a⟩) R s:=by
 let⟨o,g,d,t,os⟩:=s;show PySem.W.make_core (PySem.W.makes_of X m) (PySem.W.looks_findIn X l) (λself=>PySem.W.bind_fn X self j) (.inl S) h
end
noncomputable def cJ(f:Str)(v:V):Y (Str×V)->Y (Str×V)
 | []=>[(f,v)]
 |(g,x)::r=>if g=f then (g,v)::r else (g,x)::cJ f v r
theorem uF(f g:Str)(v:V):∀fs:Y (Str×V),(cJ f v fs).lookup g=if g=f then Z v else fs.lookup g
 | []=>by
  change List.lookup g [(f,v)]=_;by_cases h:g=f
  ·have a:(g==f)=ū:=MW.mpr h;simp only[List.lookup,a,Kq h]
  ·have a:(g==f)=Ŭ:=Mu.mpr h;simp only[List.lookup,a,Kr h]
 |(k,x)::r=>by
  have j:=uF f g v r;rw[show cJ f v ((k,x)::r)=(if k=f then (k,v)::r else (k,x)::cJ f v r)from rfl];by_cases c:k=f
  ·rw[Kq c];by_cases h:g=k
   ·have a:(g==k)=ū:=MW.mpr h;simp only[List.lookup,a,Kq (h.trans c)]
   ·have a:(g==k)=Ŭ:=Mu.mpr h;simp only[List.lookup,a,Kr (λe:g=f=>h (e.trans c.symm))]
  ·rw[Kr c];by_cases h:g=k
   ·have a:(g==k)=ū:=MW.mpr h;simp only[List.lookup,a,Kr (λe:g=f=>c (h.symm.trans e))]
   ·have a:(g==k)=Ŭ:=Mu.mpr h;simp only[List.lookup,a];show j
theorem rj(f:Str)(v:V):∀fs:Y (Str×V),f∈(cJ f v fs).map (·.1)/\∀g,g∈fs.map (·.1)->g∈(cJ f v fs).map (·.1)
 | []=>⟨by simp[cJ],λg h=>by simp at h⟩
 |(k,x)::r=>by
  let⟨c,j⟩:=rj f v r;rw[show cJ f v ((k,x)::r)=(if k=f then (k,v)::r else (k,x)::cJ f v r)from rfl];by_cases a:k=f
  ·rw[Kq a];subst a;show⟨by simp,λg h=>by simpa using h⟩
  ·rw[Kr a];refine⟨?_,λg h=>?_⟩
   ·rw[K1];show Kt _ c
   ·rw[K1]at h ⊢;rcases Kz.mp h with e|e
    ·show Kz.mpr (.inl e)
    ·show Kt _ (j g e)
theorem xN(f:Str)(v:V):∀fs:Y (Str×V),(cJ f v fs).length<=fs.length+1
 | []=>by simp[cJ]
 |(k,x)::r=>by
  have c:=xN f v r;rw[show cJ f v ((k,x)::r)=(if k=f then (k,v)::r else (k,x)::cJ f v r)from rfl];by_cases a:k=f
  ·rw[Kq a,KA,KA];omega
  ·rw[Kr a,KA,KA];omega
theorem RelO.some_of{v:V}{o:Ū Value}(r:RelO (Z v) o):∃u,o=Z u/\RelV v u:=by
 cases o with
 |none=>show (show False from r).elim
 |some u=>show⟨u,S,r⟩
theorem RelO.none_of{o:Ū Value}(r:RelO ũ o):o=ũ:=by
 cases o with
 |none=>rfl
 |some u=>show (show False from r).elim
theorem Cp{v:V}{u:Value}(r:RelV v u):handedIn u=ū:=by
 cases v with
 |non=>cases (show u=Value.none from r);rfl
 |bl b=>cases (show u=Value.bool b from r);rfl
 |int i=>let⟨t,e⟩:=(show ∃t,u=Value.int i t from r);cases e;rfl
 |str x=>let⟨t,e⟩:=(show ∃t,u=Value.str x t from r);cases e;rfl
 |byt b=>let⟨t,e⟩:=(show ∃t,u=Value.bytes b t from r);cases e;rfl
 |flt b=>let⟨t,e⟩:=(show ∃t,u=Value.float b t from r);cases e;rfl
 |ref a=>cases (show u=Value.ref a from r);rfl
 |ty n=>cases (show u=Value.type n from r);rfl
section
variable{P:Ä}{w:Å}{H:Hp}{h:Heap}{a C c:Addr}{fs:Y (Str×V)}
theorem rT(hok:HOk P w H h)(e:H a=Z (.ins C c fs)):∃g,ObjM h a c C g/\(∀f,RelO (fs.lookup f) (g f))/\PySem.Within g (fs.map (·.1))/\fs.length<=1000/\H c=Z (.own a):=by let⟨d,z,ne,j,g,n,r,q⟩:=(show ObjOk P w H h a (.ins C c fs)from hok a _ e);show⟨g,⟨j,n,ne⟩,r,q,z,d⟩
end
structure Cls(K:Â)(C:Addr):Prop where
 pg:Đ K C Str.empty=ū
 hd:Ģ K C=ū
 po:ş K C=ū
 sa:è K (.ref C) "__setattr__"=Z (Z (.builtin "object.__setattr__"))
theorem Cls.get{K:Â}{C:Addr}(c:Cls K C)(f:Str):Đ K C f=ū:=c.pg
noncomputable def NoAttr(K:Â)(C:Addr)(f:Str):Prop:=è K (.ref C) f=Z ũ
theorem NoAttr.taker{K:Â}{C:Addr}{f:Str}(n:NoAttr K C f):Ŕ K C f=Z ũ:=by unfold Ŕ;rw[show è K (.ref C) f=Z ũ from n];rfl
structure Meth(K:Â)(C:Addr)(m:Str)(f:Addr):Prop where
 at_:è K (.ref C) m=Z (Z (.ref f))
 fn:isFn K (.ref f)=ū
 kp:Û K (.ref f)=ū
section
variable{X:Cx}{j:Y (Addr×Ï)}{p:St}{H:Hp}{s:À}{a C t:Addr}{fs:Y (Str×V)}{f:Str}{v:V}{A:É}{E:Value->À->Prop}
theorem IJ{b:Bool}{Q:Value->À->Prop}(I:Inv X j p H s)(e:H a=Z (.ins C t fs))(c:Cls X.K C)(n:NoAttr X.K C f)(l:fs.lookup f=Z v)
  (h:∀u s',Inv X j p H s'->RelV v u->Q u s'):wpAny (model X.prog X.w) A (Ĭ (.ref a) f b) Q E s:=by
 let⟨w,O,r,_,_,_⟩:=rT I.hok e;let⟨u,m,g⟩:=RelO.some_of (v:=v) (o:=w f) (by rw[←l];show r f);show JX I.kIn O (c.get f) c.hd n m (Cp g) (h u _ (I.tok _) g)
theorem qP{m:Str}{g:Addr}{pl:Sem Bool}{Q:Value×Y Value->À->Prop}(I:Inv X j p H s)(e:H a=Z (.ins C t fs))(c:Cls X.K C)(k:Meth X.K C m g)(l:fs.lookup m=ũ)
  (h:Q (.ref g,[.ref a]) s):wpAny (model X.prog X.w) A (getMethod (.ref a) m pl) Q E s:=by
 let⟨u,O,r,_,_,_⟩:=rT I.hok e;have o:u m=ũ:=RelO.none_of (by rw[←l];show r m);show HH I.kIn O (c.get m) k.at_ k.fn o h
theorem Gd{y:V}{u:Value}{Q:Unit->À->Prop}(I:Inv X j p H s)(e:H a=Z (.ins C t fs))(c:Cls X.K C)(n:NoAttr X.K C f)(N:fs.length<1000)(K:RelV y u)
  (h:∀s',Inv X j p (aq H a (.ins C t (cJ f y fs))) s'->Q Unit.unit s'):wpAny (model X.prog X.w) A (Œ (.ref a) f u) Q E s:=by
 let⟨w,O,r,B,_,m⟩:=rT I.hok e
 have J:(fs.map (·.1)).length<=sizeLine:=by rw[wy,LD];omega
 refine Jy I.kIn O c.sa c.po n.taker c.hd B J λh' l M=>h _ ?_
 have hd:∃o,h'.get? t=Z o:=let ⟨o,_,_,e',_⟩:=l.ns;⟨o,e'⟩
 refine I.write (x:=a) (e:=t) (by rw[e];show Þ) (.inr m) (λb q F z=>(M.2 b F).trans z) hd ?_;refine⟨by rw[aJ O.ne];show m,?_,O.ne,l.obj,_,l.ns,λg=>?_,λg G=>?_⟩
 ·have:=xN f y fs;omega
 ·change RelO ((cJ f y fs).lookup g) (if g=f then Z u else w g);rw[uF];by_cases q:g=f
  ·rw[Kq q,Kq q];show K
  ·rw[Kr q,Kr q];show r g
 ·by_cases q:g=f
  ·rw[q];show (rj f y fs).1
  ·refine (rj f y fs).2 g (B g λz=>G ?_);change (if g=f then Z u else w g)=ũ;rw[Kr q];show z
theorem Inv.made(I:Inv X j p H s):Inv X j p (aq (aq H s.heap.objs.size (.own (s.heap.objs.size+1))) (s.heap.objs.size+1) (.ins C s.heap.objs.size []))
  { s with heap:=(s.heap.push à).push (í C s.heap.objs.size) }:=by
 have c:(s.heap.push à).get? s.heap.objs.size=Z à:=KJ s.heap S
 have h:((s.heap.push à).push (í C s.heap.objs.size)).get? (s.heap.objs.size+1)=Z (í C s.heap.objs.size):=by
  have:=KJ (s.heap.push à) (o:=í C s.heap.objs.size) S
  rwa [LG]at this
 have l:(s.heap.push à).Ns s.heap.objs.size (λ_=>ũ):=⟨à,#[],_,c,S,(λe m=>absurd m (by simp)),λ_=>rfl⟩;have g:=I.laid (a:=s.heap.objs.size) (o:=.own (s.heap.objs.size+1)) (h':=s.heap.push à) (t':=s.toks) (λb u q=>Ks _ q) (Kw _) ⟨_,c⟩;refine g.laid (a:=s.heap.objs.size+1) (o:=.ins C s.heap.objs.size []) (t':=s.toks) (λb u q=>Ks _ q) (NM (LG _ _)) ?_;have ne:s.heap.objs.size≠s.heap.objs.size+1:=Lg (MN _);refine⟨by rw[aJ ne,bu],Mq _,ne,h,λ_=>ũ,(Heap.Ns1.of_empty l).at λo q=>Ks _ q,λ_=>Þ,λy r=>absurd rfl r⟩
theorem xY{prog:Ä}{w:Å}{env:é}{e:Ã}{f:Str}{g:Õ}{s:À}{Q:Value->À->Prop}(l:Æ e f env (eval e env)=eval e env)
  (h:wpAny (model prog w) A (eval e env) (λo c=>wpAny (model prog w) A (Ĭ o f ū) Q E c) E s):wpAny (model prog w) A (eval (.Attribute e f g) env) Q E s:=
 Attribute_any_ h (by rw[arm_eval_Attribute,l])
end
noncomputable def yt(K:Â)(g:TE)(f:Str):TE:=λh H Q=>g h H λx c=>∃a C e fs v,x=.ref a/\c a=Z (.ins C e fs)/\Cls K C/\NoAttr K C f/\fs.lookup f=Z v/\Q v c
noncomputable def zc(K:Â)(j l:TE)(f:Str):TS:=λD c H=>l c H λy h=>j c h λx e=>∃a C g fs,x=.ref a/\e a=Z (.ins C g fs)/\Cls K C/\NoAttr K C f/\fs.length<1000 /\
 D.nx c (aq e a (.ins C g (cJ f y fs)))
section
variable{X:Cx}{o e g:Ã}{f:Str}{m j:Õ}{p r:TE}
theorem Aj(F:PE X e p)(E:Æ e f X.env (eval e X.env)=eval e X.env):PE X (.Attribute e f m) (yt X.K p f):=by intro t s K H Q I h;refine xY E (aE (F t s K H _ I h) λu N A=>?_);let⟨x,w,y,J,a,C,M,fs,v,ex,B,c,n,l,q⟩:=A;subst ex;obtain rfl:u=Value.ref a:=J;show IJ y B c n l λP O z G=>⟨v,w,z,G,q⟩
theorem xA(F:PE X o p)(J:PE X g r)(G:Î g (Z (.Attribute o f j)) m.line X.env=pure Ŭ):PS X (.Assign [.Attribute o f j] g m) (zc X.K p r f):=by intro t s v H D I h;refine NI (aE (J t s v H _ I h) λu P ⟨y,w,z,O,q⟩=>aE (F t P v w _ z q) λK U ⟨x,Q,A,N,a,C,R,fs,ex,E,c,n,l,M⟩=>?_) G;subst ex;obtain rfl:K=Value.ref a:=N;show Gd A E c n l O λT B=>⟨v,_,B,M⟩
end
structure Room(k:Nat)(A:É):Prop where
 hd:A.handled=ũ
 dp:A.depth+3*k+5<recursionLimit
 un:A.units+16*k+200<â
theorem Room.mono{j k:Nat}{A:É}(r:Room k A)(h:j<=k):Room j A:=⟨r.hd,by have:=r.dp;omega,by have:=r.un;omega⟩
theorem Room.deeper{k:Nat}{A:É}(r:Room (k+1) A)(env:é):Room k (A.deeper env):=
 ⟨r.hd,by have:=r.dp;change A.depth+1+3*k+5<_;omega,by have:=r.un;change A.units+3+16*k+200<_;omega⟩
theorem zH{A:É}{C:Addr}{us:Y Value}{a:Y (Str×Value)}:(A.under (.builtin "type.__call__" ⟨.ref C::us,a⟩)).depth=A.depth+1:=by
 first|rfl|simp[Ą,Code.weight,Code.isCreation,Code.isGuard,Code.isCaller,š,Ċ,guardIds]
theorem DS{A:É}{C:Addr}{us:Y Value}{a:Y (Str×Value)}:(A.under (.builtin "type.__call__" ⟨.ref C::us,a⟩)).units=A.units+1:=by
 first|rfl|simp[Ą,Code.cUnits,š,Ċ]
theorem Room.make{k:Nat}{A:É}(r:Room (k+1) A)(C:Addr)(us:Y Value)(a:Y (Str×Value)):Room k (A.under (.builtin "type.__call__" ⟨.ref C::us,a⟩)):=
 ⟨r.hd,by have:=r.dp;rw[zH];omega,by have:=r.un;rw[DS];omega⟩
theorem Room.depth{k:Nat}{A:É}(r:Room k A):A.depth<recursionLimit:=by have:=r.dp;omega
theorem Room.units{k:Nat}{A:É}(r:Room k A):A.units+64<â:=by have:=r.un;omega
noncomputable def qS:TA:=λ_ H Q=>Q [] H
noncomputable def Ba(f:TE)(g:TA):TA:=λa H Q=>f a H λx c=>g a c λxs e=>Q (x::xs) e
section
variable{X:Cx}{e:Ã}{es:Y Ã}{c:TE}{t:TA}{a:Õ}
theorem pa_nil:PA X [] qS:=λ_ _ _ _ H Q I h=>Calls.spliced_nil ⟨[],H,I,.nil,h⟩
theorem dz(v:PE X e c)(w:PA X es t)(y:starEach (e::es) X.env=(Ŭ,eval e X.env)::starEach es X.env:=by rfl):PA X (e::es) (Ba c t):=by
 intro a f s g H Q I h;rw[y];change wpAny _ _ (spliced ((Ŭ,eval e X.env)::backTo a (starEach es X.env))) _ _ s;refine Calls.spliced_cons (aE (v f s g H _ I h) λu E p=>?_);let⟨x,j,m,B,z⟩:=p
 show aE (w a f E g j _ m z) λus F r=>by let⟨xs,l,o,C,A⟩:=r;show⟨x::xs,l,o,.cons B C,A⟩
noncomputable def DR(t:TA):TE:=λg H Q=>t g H λxs f=>xs.length<=sizeLine/\∀p,f p=ũ->Q (.ref p) (aq f p (.tup xs))
noncomputable def FT(t:TA):TE:=λg H Q=>t g H λxs f=>xs.length<=sizeLine/\∀p,f p=ũ->Q (.ref p) (aq f p (.lst xs))
theorem yi{x1}(h:PA X es t):PE X (.Tuple es x1 a) (DR t):=by
 intro f s p H Q I o;refine wpAny_Tuple_spliced (aE (h a f s p H _ I o) λus g ⟨xs,j,l,r,z,q⟩=>⟨by rw[←r.length];show z,?_⟩);have m:j g.heap.objs.size=ũ:=l.hok.fresh (Kw _);refine⟨.ref g.heap.objs.size,aq j g.heap.objs.size (.tup xs),l.laid (t':=g.toks) (λb u e=>Ks _ e) (Kw _) ?_,S,q _ m⟩;show⟨z,us,r,⟨_,KJ _ S,⟨S,S⟩,_,S⟩⟩
theorem zb(h:PA X es t):PE X (.List es a) (FT t):=by
 intro f s p H Q I o;refine wpAny_List_spliced (aE (h a f s p H _ I o) λus g ⟨xs,j,l,r,z,q⟩=>⟨by rw[←r.length];show z,?_⟩);have m:j g.heap.objs.size=ũ:=l.hok.fresh (Kw _);refine⟨.ref g.heap.objs.size,aq j g.heap.objs.size (.lst xs),l.laid (t':=g.toks) (λb u e=>Ks _ e) (Kw _) ?_,S,q _ m⟩;show⟨z,us,0,r,KJ _ S⟩
end
noncomputable abbrev Sp:=Y V->Hp->VK->XK->Prop
noncomputable abbrev cM:=Y é->Hp->À->XK->Value->À->Prop
structure Env0(P:Ä)(w:Å)(K:Â)(mg:Str->Option Value)(base:Heap)(A:É)(outer:List é)(s:À)(H:Hp):Prop where
 frames:A.frames=Z outer
 mod:Mod K mg base
 bs:∀b o,base.get? b=Z o->s.heap.get? b=Z o/\H b=ũ
 bsz:base.objs.size<=s.heap.objs.size
 funs:s.heap.FunFrames base outer
 frf:∀b∈cE outer,H b=ũ
 hok:HOk P w H s.heap
 bare:ç s.gens
noncomputable def CE(outer:Y é)(P:Ä)(w:Å)(H:Hp)(s:À)(Q:VK)(u:Value)(s':À):Prop:=
 ∃v a,s'.os=s.os/\ç s'.gens/\Un (cE outer) [] H a s.heap s'.heap/\HOk P w a s'.heap/\RelV v u/\Q v a
noncomputable def CR(CX:cM)(outer:Y é)(P:Ä)(w:Å)(H:Hp)(s:À)(Q:VK)(E:XK)(r:Result)(s':À):Prop:=
 match r with
 |.ok (.ret u)=>CE outer P w H s Q u s'
 |.ok _=>False
 |.error e=>CX outer H s E e s'
structure FnOk(P:Ä)(w:Å)(K:Â)(mg:Str->Option Value)(base:Heap)(CX:cM)(k:Nat)(f:Addr)(fd:Ë)(ps:List Str)(sp:Sp):Prop where
 len:∀vs H Q E,sp vs H Q E->vs.length=ps.length
 run:∀(A:É)(outer:List é)(s:À)(H:Hp)(args:Args)(us:List Value)(vs:List V)(Q:VK)(E:XK),Room k A->Env0 P w K mg base A outer s H->ċ s fd args (ps.zip us)->Vals vs us->sp vs H Q E->
  ì (model P w) A (.call (.ref f) args) (CR CX outer P w H s Q E) s
theorem FnOk.mono{P:Ä}{w:Å}{K:Â}{mg:Str->Ū Value}{base:Heap}{CX:cM}{j k:Nat}{f:Addr}{a:Ë}{ps:Y Str}{sp:Sp}(F:FnOk P w K mg base CX j f a ps sp)(h:j<=k) :
  FnOk P w K mg base CX k f a ps sp:=⟨F.len,λA outer s H args us vs Q E c=>F.run A outer s H args us vs Q E (c.mono h)⟩
theorem FnOk.imp{P:Ä}{w:Å}{K:Â}{mg:Str->Ū Value}{base:Heap}{CX:cM}{k:Nat}{f:Addr}{c:Ë}{ps:Y Str}{sp a:Sp}(F:FnOk P w K mg base CX k f c ps sp)
  (h:∀vs H Q E,a vs H Q E->sp vs H Q E):FnOk P w K mg base CX k f c ps a:=
 ⟨λvs H Q E q=>F.len vs H Q E (h _ _ _ _ q),λA outer s H args us vs Q E j g e m l=>F.run A outer s H args us vs Q E j g e m (h _ _ _ _ l)⟩
theorem Env0.make{P:Ä}{w:Å}{K:Â}{mg:Str->Ū Value}{base:Heap}{A:É}{outer:Y é}{s:À}{H:Hp}(e:Env0 P w K mg base A outer s H)(C:Addr)(us:Y Value)(a:Y (Str×Value)) :
  Env0 P w K mg base (A.under (.builtin "type.__call__" ⟨.ref C::us,a⟩)) outer s H:=⟨by first|show e.frames|(simpa [Ą,Code.envs,Ċ,pushEnvs] using e.frames),e.mod,e.bs,e.bsz,e.funs,e.frf,e.hok,e.bare⟩
section
variable{X:Cx}{a:Y (Addr×Ï)}{c:St}{H:Hp}{s s':À}
theorem Inv.env0(I:Inv X a c H s):Env0 X.prog X.w X.K X.mg X.base X.A X.stack s H:=
 ⟨I.ok.frames,I.ok.mod,I.bs,K3 I.ok.bsz I.sz,I.stack,I.stkFree,I.hok,I.bare⟩
theorem Inv.after{Q:VK}{u:Value}(I:Inv X a c H s)(h:CE X.stack X.prog X.w H s Q u s'):EP X a c Q u s':=by let⟨v,e,os,bare,un,hok,r,q⟩:=h;let⟨j,g,d,t,f⟩:=s';obtain rfl:f=s.os:=os;show⟨v,e,I.call (h':=j) (g':=g) (d':=d) (t':=t) (ch:=[]) un hok bare (λb z=>absurd z (by simp)),r,q⟩
end
noncomputable def ET(sp:Sp)(dvs:Y V)(E:XK)(t:TA):TE:=λc H Q=>t c H λvs a=>sp (vs++dvs) a Q E
noncomputable def Fm(C:Addr)(m:Str)(sp:Sp)(dvs:Y V)(E:XK)(h:TE)(t:TA):TE:=λe H Q=>h e H λx c=>∃a g fs,x=.ref a/\c a=Z (.ins C g fs)/\fs.lookup m=ũ /\
 t e c λvs f=>sp (x::(vs++dvs)) f Q E
noncomputable def A2(C:Addr)(sp:Sp)(dvs:Y V)(E:XK)(t:TA):TE:=λf H Q=>t f H λvs c=>∀x a,c x=ũ->c a=ũ->a≠x->
 sp (.ref x::(vs++dvs)) (aq (aq c a (.own x)) x (.ins C a [])) (λv e=>v=.non/\Q (.ref x) e) E
noncomputable def Binds(K:Â)(a:Ë)(ps:Y Str)(ds:Y Value):Prop:=
 ∀(s:À)(us:Y Value),K.In s.heap->(us++ds).length=ps.length->ċ s a ⟨us,[]⟩ (ps.zip (us++ds))
theorem Binds.all{K:Â}{a:Ë}{ps:Y Str}(h:∀us:Y Value,us.length=ps.length->ļ a ⟨us,[]⟩=pure (ps.zip us)):Binds K a ps []:=λs us _ c=>by rw[Le]at c ⊢;show .of_eq (h us c)
noncomputable def ju(CX:cM)(X:Cx)(E:XK):Prop:=∀(a:Y (Addr×Ï))(c:St)(H:Hp)(s:À)(e:Value)(s':À),Inv X a c H s->CX X.stack H s E e s'->X.xe e s'
section
variable{X:Cx}{CX:cM}{k:Nat}{f C:Addr}{w:Ë}{ps:Y Str}{sp:Sp}{dvs:Y V}{ds:Y Value}{E:XK}{x m:Str}{p g j:Õ}{e o:Ã}{es:Y Ã}{y:TE}{t:TA}
theorem wq{a:Y (Addr×Ï)}{l:St}{H:Hp}{s:À}{Q:VK}{us:Y Value}{vs:Y V}(F:FnOk X.prog X.w X.K X.mg X.base CX k f w ps sp)(B:Room k X.A)(z:Binds X.K w ps ds)(hd:Vals dvs ds)(G:ju CX X E)
  (I:Inv X a l H s) (r:Vals vs us) (h:sp (vs++dvs) H Q E):wpAny (model X.prog X.w) X.A (call (.ref f) us) (EP X a l Q) X.xe s:=by
 have v:Vals (vs++dvs) (us++ds):=r.append hd
 have A:(us++ds).length=ps.length:=by rw[←v.length];show F.len _ _ _ _ h
 refine Oi (MR (F.run X.A X.stack s H ⟨us,[]⟩ (us++ds) (vs++dvs) Q E B I.env0 (z s us I.kIn A) v h) λr s' c=>?_)
 cases r with
 |error e=>show G a l H s e s' I c
 |ok fl=>
  cases fl with
  |ret u=>show I.after c
  |next=>show Ò c
  |brk=>show Ò c
  |cont=>show Ò c
theorem xH(F:FnOk X.prog X.w X.K X.mg X.base CX k f w ps sp)(K:Room k X.A)(B:Gl X x)(J:X.mg x=Z (.ref f))(G:Û X.K (.ref f)=ū)(z:Binds X.K w ps ds)(hd:Vals dvs ds)(M:ju CX X E)
  (v:PA X (e::es) t) (l:ad x:=by decide) (A:starEach (e::es) X.env=(Ŭ,eval e X.env)::starEach es X.env:=by rfl) (u:(backTo g (starEach es X.env)).any (·.1)=Ŭ:=by rfl) :
  PE X (.Call (.Name x p) (e::es) [] g) (ET sp dvs E t):=by
 intro a s N H Q I h;refine ME (iY I B J ?_ l);refine NK (h₀:=X.base) I.ok.mod.kin G (aE (v g a s N H _ I h) λus P ⟨vs,O,c,r,q⟩=>⟨c.kIn,?_⟩) A u;show wq F K z hd M c r q
theorem He{pl:Sem Bool}(R:PE X o y)(c:Cls X.K C)(B:Meth X.K C m f)(F:FnOk X.prog X.w X.K X.mg X.base CX k f w ps sp)(ap:Room k X.A)(P:Binds X.K w ps ds)(hd:Vals dvs ds)(U:ju CX X E)(O:PA X (e::es) t)
  (K:starEach (e::es) X.env=(Ŭ,eval e X.env)::starEach es X.env:=by rfl) (M:(backTo g (starEach es X.env)).any (·.1)=Ŭ:=by rfl)
  (T:eval (.Call (.Attribute o m j) (e::es) [] g) X.env=(do
   let ov ←eval o X.env
   standAt j.atName
   let (f,first) ←holding [ov] (getMethod ov m pl)
   callWith g f first (backTo g (starEach (e::es) X.env)) (backToKw g (keywordEach [] X.env))):=by rfl) :
  PE X (.Call (.Attribute o m j) (e::es) [] g) (Fm C m sp dvs E y t):=by
 intro v s G H Q I h;refine Oc (pl:=pl) (aE (R v s G H _ I h) λu s1 ⟨x,J,z,aA,a,dx,fs,ex,N,l,q⟩=>?_) T;subst ex;obtain rfl:u=Value.ref a:=aA;refine qP z N c B l ?_;refine NK (first:=[.ref a]) (h₀:=X.base) I.ok.mod.kin B.kp (aE (O g v s1 G J _ z q) λus s2 ⟨vs,H2,A,r,a_⟩=>⟨A.kIn,?_⟩) K M;show wq (us:=.ref a::us) (vs:=.ref a::vs) F ap P hd U A (.cons S r) a_
structure Mk(K:Â)(C f:Addr):Prop where
 makes:makesIn K C=ū
 init:è K (.ref C) "__init__"=Z (Z (.ref f))
 fn:isFn K (.ref f)=ū
 kp:Û K (.ref C)=ū
theorem Aw{a:Y (Addr×Ï)}{A:St}{H:Hp}{s:À}{Q:VK}{us:Y Value}{vs:Y V}(M:Mk X.K C f)(F:FnOk X.prog X.w X.K X.mg X.base CX k f w ps sp)(ap:Room (k+1) X.A)(P:Binds X.K w ps ds)(hd:Vals dvs ds)
  (T:ju CX X E) (I:Inv X a A H s) (r:Vals vs us)
  (h:∀x z,H x=ũ->H z=ũ->z≠x->sp (.ref x::(vs++dvs)) (aq (aq H z (.own x)) x (.ins C z [])) (λv K=>v=.non/\Q (.ref x) K) E) :
  wpAny (model X.prog X.w) X.A (call (.ref C) us) (EP X a A Q) X.xe s:=by
 have B:=h (s.heap.objs.size+1) s.heap.objs.size (I.hok.fresh (N0 _)) (I.hok.fresh (Kw _)) (Lg (MN _));have l:=Inv.made (C:=C) I;have G:Vals (V.ref (s.heap.objs.size+1)::(vs++dvs)) (Value.ref (s.heap.objs.size+1)::(us++ds)):=.cons S (r.append hd)
 have R:(Value.ref (s.heap.objs.size+1)::us++ds).length=ps.length:=by have e:=G.length;rw[F.len _ _ _ _ B]at e;show e.symm
 refine Oi (Fp (f:=f) I.kIn M.makes M.init (MW.mp M.fn) (MR (F.run _ X.stack _ _ ⟨Value.ref (s.heap.objs.size+1)::us,[]⟩ (Value.ref (s.heap.objs.size+1)::(us++ds)) _ _ E (ap.make C us [])
  (l.env0.make C us []) (P _ (Value.ref (s.heap.objs.size+1)::us) l.kIn R) G B) λr s' c=>?_))
 cases r with
 |error e=>show T a A _ _ e s' l c
 |ok fl=>
  cases fl with
  |ret u=>
   let⟨v,J,N,aA,O,U⟩:=l.after c;subst O;show⟨aA,⟨V.ref (s.heap.objs.size+1),J,N,S,U⟩⟩
  |next=>show Ò c
  |brk=>show Ò c
  |cont=>show Ò c
theorem F0(M:Mk X.K C f)(F:FnOk X.prog X.w X.K X.mg X.base CX k f w ps sp)(v:Room (k+1) X.A)(r:Gl X x)(u:X.mg x=Z (.ref C))(l:Binds X.K w ps ds)(hd:Vals dvs ds)(z:ju CX X E)
  (c:ad x:=by decide):PE X (.Call (.Name x p) [] [] g) (A2 C sp dvs E qS):=by
 intro a s A H Q I h;refine ME (iY I r u ?_ c);show callWith_K0 I.kIn M.kp (Aw (us:=[]) M F v l hd z I .nil h)
end
structure FnScope(N P:List Str)(sc:ã):Prop where
 kind:sc.kind=.function
 co:sc.isCoroutine=Ŭ
 gen:sc.isGenerator=Ŭ
 nd:N.Nodup
 pre:N.take P.length=P
 par:∀x∈P,sc.names.lookup x=Z .local\/sc.names.lookup x=Z .cell
 nofree:∀y∈sc.names,y.2≠.free
theorem wY{kindOf:Str->Ū NameKind}{x:Str}:∀{binds:Y (Str×Value)}{m:Str->Ū Value},(∀v,(x,v)∉binds)->Ğ kindOf binds m x=m x
 | [],_,_=>rfl
 |(n,v)::r,m,h=>by
  unfold Ğ;rw[wY λw a=>h w (Kt _ a)];split
  ·have:x≠n:=by rintro rfl;show h v Ku
   simp[this]
  ·rfl
theorem xE{kindOf:Str->Ū NameKind}{x:Str}:∀{binds:Y (Str×Value)}{m:Str->Ū Value},(∀v,(x,v)∉binds)->ğ kindOf binds m x=m x
 | [],_,_=>rfl
 |(n,v)::r,m,h=>by
  unfold ğ;rw[xE λw a=>h w (Kt _ a)];split
  ·rfl
  ·have:x≠n:=by rintro rfl;show h v Ku
   simp[this]
theorem yz{kindOf:Str->Ū NameKind}{x:Str}{v:Value}:∀{P:Y Str}{vs:Y Value}{i:Nat}{m:Str->Ū Value},P.Nodup->P[i]?=Z x->vs[i]?=Z v->kindOf x=Z .local->
  Ğ kindOf (P.zip vs) m x=Z v
 | [],_,_,_,_,h,_,_=>by simp at h
 |_::_,[],_,_,_,_,h,_=>by simp at h
 |p::P,w::vs,0,m,nd,a,c,e=>by
  simp at a c;subst a;subst c;change Ğ kindOf ((p,w)::P.zip vs) m p=_;unfold Ğ;rw[wY λv f=>(K9.mp nd).1 (MH f).1,Kq e];simp
 |p::P,w::vs,i+1,m,nd,a,c,e=>by change Ğ kindOf ((p,w)::P.zip vs) m x=_;unfold Ğ;show yz (i:=i) (K9.mp nd).2 (by simpa using a) (by simpa using c) e
theorem xh{kindOf:Str->Ū NameKind}{x:Str}{v:Value}:∀{P:Y Str}{vs:Y Value}{i:Nat}{m:Str->Ū Value},P.Nodup->P[i]?=Z x->vs[i]?=Z v->kindOf x≠Z .local->
  ğ kindOf (P.zip vs) m x=Z v
 | [],_,_,_,_,h,_,_=>by simp at h
 |_::_,[],_,_,_,_,h,_=>by simp at h
 |p::P,w::vs,0,m,nd,a,c,e=>by
  simp at a c;subst a;subst c;change ğ kindOf ((p,w)::P.zip vs) m p=_;unfold ğ;rw[xE λv f=>(K9.mp nd).1 (MH f).1,Kr e];simp
 |p::P,w::vs,i+1,m,nd,a,c,e=>by change ğ kindOf ((p,w)::P.zip vs) m x=_;unfold ğ;show xh (i:=i) (K9.mp nd).2 (by simpa using a) (by simpa using c) e
noncomputable def start(N:Y Str)(vs:Y V):St:=vs.map Z++List.replicate (N.length-vs.length) ũ
noncomputable def gM(CX:cM)(P:Ä)(w:Å)(K:Â)(mg:Str->Ū Value)(base:Heap)(N:Y Str)(qual:Str)(scope:ã)(f:Addr)(a:Value)(A:É)(outer:Y é)(s:À)(H:Hp)(E:XK):Cx where
 prog:=P
 w:=w
 K:=K
 mg:=mg
 base:=base
 A:=A.deeper (ê qual scope s.heap.objs.size f a)
 N:=N
 s₀:=s
 H₀:=H
 env:=ê qual scope s.heap.objs.size f a
 outer:=outer
 stack:=ê qual scope s.heap.objs.size f a::outer
 ex:=[]
 calm:=ū
 fn:=λ_=>ū
 pn:=[]
 xe:=λe s'=>wpAny (model P w) (A.deeper (ê qual scope s.heap.objs.size f a)) (leaving (ê qual scope s.heap.objs.size f a) e) (λ_ c=>CX outer H s E e c) (λg c=>CX outer H s E g c) s'
theorem sI{a:ã}{n:Nat}{x:Str}(h:a.names.lookup x=Z .cell):∃c,(Ù n a.names []).lookup x=Z c:=by have q:=cellsFrom_some a.names n [] (.inl h);show Ot.mp q
theorem BR{CX:cM}{P:Ä}{w:Å}{K:Â}{mg:Str->Ū Value}{base:Heap}{N ps:Y Str}{qual:Str}{scope:ã}{f:Addr}{t:Value}{A:É}{outer:Y é}{s J:À}{H:Hp}{E:XK}{us:Y Value}{vs:Y V}
  (ap:FnScope N ps scope) (hd:A.handled=ũ) (j:Env0 P w K mg base A outer s H) (T:vs.length=ps.length) (r:Vals vs us)
  (x:InCallC s s.heap.objs.size (Ğ (ê qual scope s.heap.objs.size f t).kindOf (ps.zip us) λ_=>ũ) (Ù (s.heap.objs.size+1) scope.names []) (ğ (ê qual scope s.heap.objs.size f t).kindOf (ps.zip us) λ_=>ũ) J) :
  Inv (gM CX P w K mg base N qual scope f t A outer s H E) [] (start N vs) H J:=by
 have Q:ps.length<=N.length:=by have:=LW List.length ap.pre;rw[KY]at this;omega
 let⟨B,U,rfl,G⟩:=x.done;have F:∀b:Addr,b∉(gM CX P w K mg base N qual scope f t A outer s H E).ex:=λb z=>absurd (show b∈([]:Y Addr)from z) (by simp)
 refine⟨⟨j.mod,ap.kind,S,S,Kw _,λy z c B g=>?_,λy l=>?_,λy c _ h=>?_,λ_=>hd,É.frames_deeper j.frames,.inr ⟨S,S⟩,λb z=>absurd z (F b),j.bs,j.bsz,λb _ _=>F b,λb z=>absurd z (F b),j.funs,j.frf⟩,
  rfl,j.bare,Un.kept G,⟨_,x.toInCall.ns,λi y v B g R=>?_⟩,λy c h=>⟨_,x.cell y c h⟩,j.hok.fresh (Kw _),λy c h=>?_,λp m=>absurd (show p∈([]:Y (Addr×Ï))from m) (by simp),j.hok.kept G,?_⟩
 ·show name_of_addr x.apart (LK B) (LK g)
 ·have l:scope.names.lookup y=Z .cell\/scope.names.lookup y=Z .free:=l;rcases l with l|l
  ·show sI l
  ·show absurd S (ap.nofree _ (LK l))
 ·show MD (x.above y c (LK h))
 ·have C:i<vs.length:=by
   unfold start at g;by_cases C:i<vs.length
   ·show C
   ·rw[Km (by simpa using C)]at g;rw[Mt]at g;split at g<;>cases g
  have M:vs[i]?=Z v:=by
   unfold start at g;rw[Kn (by simpa using C),Kv]at g
   cases e:vs[i]? with
   |none=>rw[e]at g;cases g
   |some a=>rw[e]at g;cases g;rfl
  let⟨u,I,O⟩:=r.get M
  have m:ps[i]?=Z y:=by rw[←ap.pre,Mg ()];show B
  have o:ps.Nodup:=by rw[←ap.pre];show ap.nd.sublist (List.take_sublist _ _)
  refine⟨u,O,?_⟩;rcases ap.par y (KN m)with k|k
  ·show .inl ⟨k,yz o m I k⟩
  ·let⟨c,e⟩:=sI (n:=s.heap.objs.size+1) k;refine .inr ⟨.inl k,c,e,?_⟩;have q:=x.cell y c e;rw[xh o m I (by change scope.names.lookup y≠_;rw[k];decide)]at q;show q
 ·show j.hok.fresh (MD (x.above y c (LK h)))
 ·unfold start;change _=N.length;rw[Kp,wy,LS];omega
theorem qG{CX:cM}{P:Ä}{w:Å}{K:Â}{mg:Str->Ū Value}{base:Heap}{k:Nat}{f:Addr}{name qual:Str}{a:Arguments}{c:Y Ç}{scope:ã}{R kV m T j ct oc:Value}{O od:Ū Addr}
  {Si:Array (Ū Value)} {N ps:Y Str} {sp:Sp} (lk:K.lookup f=Z ⟨oc,od,.func (ą name qual a c scope R kV m T O j ct),Si⟩) (a_:ù K j qual=ū) (ap:FnScope N ps scope)
  (len:∀vs H Q E,sp vs H Q E->vs.length=ps.length)
  (aA:∀(A:É)(outer:Y é)(s:À)(H:Hp)(vs:Y V)(Q:VK)(E:XK),Room k (A.deeper (ê qual scope s.heap.objs.size f j))->sp vs H Q E->
   ∃t,PSs (gM CX P w K mg base N qual scope f j A outer s H E) c t/\t { nx:=λ_ h=>Q .non h,rt:=Q } (start N vs) H) :
  FnOk P w K mg base CX (k+1) f (ą name qual a c scope R kV m T O j ct) ps sp:=by
 refine⟨len,λA outer s H args us vs Q E B p hb r M=>?_⟩;have hl:=len _ _ _ _ M;have G:K.In s.heap:=p.mod.kin.keeps λb o e=>(p.bs b o e).1;have C:s.heap.NoLimit:=p.mod.nolimit.keeps λb o e=>(p.bs b o e).1
 have Vi:∀y∈ps.zip us,scope.names.lookup y.1=Z .local\/(scope.names.lookup y.1=Z .cell/\((Ù (s.heap.objs.size+1) scope.names []).lookup y.1).isSome=ū):=λX hy=>by
  let⟨n,v⟩:=X;rcases ap.par n (MH hy).1 with q|q
  ·show .inl q
  ·show .inr ⟨q,cellsFrom_some _ _ _ (.inl q)⟩
 refine codeAny_call_function B.depth (G _ _ lk) S ap.co ap.gen S (PySem.W.codeRec_of G a_) (hb _ _ _ _ ?_);refine wpAny_newFunctionEnv_cells ap.kind Vi λenv he U x=>?_;subst he;refine⟨C.keeps x.toInCall.keep,codeAny_func ?_⟩;let⟨t,ht,hq⟩:=aA A outer s H vs Q E (B.deeper _) M;have I:Inv (gM CX P w K mg base N qual scope f j A outer s H E) [] (start N vs) H U:=BR ap B.hd p hl r x;refine L0 (ht [] U (start N vs) H _ I hq) (λfl s' l=>?_) λe s' l=>l
 have z:∀{g:St}{h:Hp}{v:V}{u:Value},Inv (gM CX P w K mg base N qual scope f j A outer s H E) [] g h s'->RelV v u->Q v h->CE outer P w H s Q u s':=
  λ{g h v u} J F q=>⟨v,h,J.os,J.bare,J.base,J.hok,F,q⟩
 cases fl with
 |ret u=>
  let⟨v,g,h,J,F,q⟩:=l;show z J F q
 |next=>
  let⟨g,h,J,q⟩:=l;show z (v:=V.non) (u:=Value.none) J S q
 |brk=>
  let⟨_,_,_,q⟩:=l;show Ò q
 |cont=>
  let⟨_,_,_,q⟩:=l;show Ò q
section
variable{X:Cx}{x:Str}{p a:Õ}{e:Ã}{es:Y Ã}{t:TA}{id T:String}{r:Y V->Hp->VK->Prop}
noncomputable def vW(r:Y V->Hp->VK->Prop)(t:TA):TE:=λf H Q=>t f H λvs c=>r vs c Q
theorem qK(v:fM X (.builtin id) r)(y:Gl X x)(z:X.mg x=ũ)(B:Ö x=Z (.builtin id))(u:PA X (e::es) t)(A:x≠"__name__":=by decide)(m:ad x:=by decide)
  (w:starEach (e::es) X.env=(Ŭ,eval e X.env)::starEach es X.env:=by rfl) (o:(backTo a (starEach es X.env)).any (·.1)=Ŭ:=by rfl):PE X (.Call (.Name x p) (e::es) [] a) (vW r t):=by
 intro c s f H Q I h;refine ME (iF I y z B ?_ A m);show PyProof.Rows.callWith_builtin1 (aE (u a c s f H _ I h) λus F l=>by let⟨vs,g,j,E,C⟩:=l;show v c F f g vs us Q j E C) w o
theorem tq(v:fM X (.type T) r)(y:Gl X x)(z:X.mg x=ũ)(B:Ö x=Z (.type T))(u:PA X (e::es) t)(A:x≠"__name__":=by decide)(m:ad x:=by decide)
  (w:starEach (e::es) X.env=(Ŭ,eval e X.env)::starEach es X.env:=by rfl) (o:(backTo a (starEach es X.env)).any (·.1)=Ŭ:=by rfl):PE X (.Call (.Name x p) (e::es) [] a) (vW r t):=by
 intro c s f H Q I h;refine ME (iF I y z B ?_ A m);show L5 (aE (u a c s f H _ I h) λus F l=>by let⟨vs,g,j,E,C⟩:=l;show v c F f g vs us Q j E C) w o
end
end L2
namespace HT
open PySem PyProof.Rows
section
variable{prog:Ä}{w:Å}{A:É}{E:Value->À->Prop}{s:À}
theorem cat_tup{t b:Addr}{vs ws:Y Value}{Q:Value->À->Prop}(x:Ĥ s.heap t vs.toArray)(v:Ĥ s.heap b ws.toArray)(o:vs≠[])
  (r:ws=[]->Q (.ref t) s) (u:ws≠[]->Q (.ref s.heap.objs.size) { s with heap:=s.heap.push { cls:=.type "tuple",data:=.seq (vs++ws).toArray } })
  (hsz:vs.length+ws.length<=sizeLine):wpAny (model prog w) A (Ì .Add (.ref t) (.ref b)) Q E s:=by
 let⟨⟨cls,dd,data,sl⟩,f,m,n,hd⟩:=id x;let⟨⟨y,l,data2,h⟩,c,j,p,a⟩:=id v;simp only at m hd j a;subst m hd j a
 have e:vs.toArray++ws.toArray=(vs++ws).toArray:=by simp
 by_cases g:ws=[]
 ·show ĭ ⟨_,f,S⟩ ⟨_,c,S⟩ Ou ę Nq Nl (Nc _ _)
   (tuple_addW1 t b vs.toArray ws.toArray n p dd l sl h (by simpa using o) (by simp[g])) ⟨f,c,r g⟩
 ·refine ĭ ⟨_,f,S⟩ ⟨_,c,S⟩ Ou ę Nq Nl (Nc _ _)
   (tuple_addW2 t b vs.toArray ws.toArray n p dd l sl h (by simpa using o) (by simpa using g) (by rw[KC,KC];show hsz)) ⟨f,c,?_⟩
  rw[e];show u g
noncomputable def sIx(n d:Nat):Ū Int->Nat
 |none=>d
 |some v=>if v<0 then (v+(n:Int)).toNat else min v.toNat n
theorem sIx_none(n d:Nat):sIx n d ũ=d:=rfl
theorem sIx_nat(n d k:Nat):sIx n d (Z (k:Int))=min k n:=by change (if (k:Int)<0 then ((k:Int)+(n:Int)).toNat else min (k:Int).toNat n)=min k n;rw[Kr (),L4]
theorem Jw(n d:Nat)(hd:d<=n)(o:Ū Int):sIx n d o<=n:=by
 cases o with
 |none=>show hd
 |some v=>
  change (if v<0 then (v+(n:Int)).toNat else min v.toNat n)<=n;by_cases a:v<0
  ·rw[Kq a];omega
  ·rw[Kr a];show Nat.min_le_right _ _
theorem uQ(v:Int)(n d:Nat):(if v<0 then max (v+(n:Int)) 0 else min v (n:Int))=((sIx n d (Z v):Nat):Int):=by
 change (if v<0 then max (v+(n:Int)) 0 else min v (n:Int))=(((if v<0 then (v+(n:Int)).toNat else min v.toNat n):Nat):Int);by_cases a:v<0
 ·simp only[Kq a];omega
 ·simp only[Kr a];omega
theorem DQ(lo a:Ū Int)(n:Nat):Builtin.Slice.sliceAdjust lo a 1 (n:Int)=(((sIx n 0 lo:Nat):Int),((sIx n n a:Nat):Int)):=by
 have c:¬ ((1:Int)<0):=by omega
 unfold Builtin.Slice.sliceAdjust;simp only[c,Ov];refine Prod.ext ?_ ?_
 ·cases lo with
  |none=>rfl
  |some v=>show uQ v n 0
 ·cases a with
  |none=>rfl
  |some v=>show uQ v n n
theorem Bc(i j:Nat):Builtin.Slice.slicePlaces (i:Int) (j:Int) 1=j-i:=by
 unfold Builtin.Slice.slicePlaces
 have a:(1:Int)>0:=by omega
 simp only[a,M5,Int.ediv_one];split<;>omega
theorem wx{v:Value}{o:Ū Int}{Q:Ū Int->À->Prop}(p:ð v o)(h:Q o s):wpAny (model prog w) A (Builtin.Slice.slicePartIndex v) Q E s:=by
 cases p with
 |none=>show slicePart_none h
 |int i t=>show slicePart_int h
theorem uW{sl:Addr}{f g:Value}{lo a:Ū Int}{n:Nat}{Q:Int×Int×Nat->À->Prop}(j:s.heap.IsSliceOf sl f g .none)(pl:ð f lo)(l:ð g a)
  (h:Q (((sIx n 0 lo:Nat):Int),1,sIx n n a-sIx n 0 lo) s):wpAny (model prog w) A (Builtin.Slice.sliceApplied (.ref sl) (pure (n:Int))) Q E s:=by
 let⟨os,c,m,e⟩:=id j;unfold Builtin.Slice.sliceApplied Builtin.Slice.sliceFields;refine Ko (Ko (LJ c e (x:=f) S (Ko (LJ c e (x:=g) S (Ko (LJ c e (x:=.none) S (KD ?_)))))));refine Ko (slicePart_none ?_);change wpAny _ _ (if ((1:Int)==0)=ū then _ else _) _ _ s;rw[Kr 'b'];refine Ko (wx pl (Ko (wx l (Ko (KD ?_)))));change wpAny _ _ (match Builtin.Slice.sliceAdjust lo a 1 (n:Int)with|(lo,a)=>pure (lo,(1:Int),Builtin.Slice.slicePlaces lo a 1)) _ _ s;rw[DQ lo a n];change wpAny _ _ (pure (((sIx n 0 lo:Nat):Int),(1:Int),Builtin.Slice.slicePlaces ((sIx n 0 lo:Nat):Int) ((sIx n n a:Nat):Int) 1)) _ _ s;rw[Bc];show KD h
theorem Jv(xs:Array Value)(i k:Nat):((List.range k).filterMap λ(m:Nat)=>xs[((i:Int)+(m:Int)*1).toNat]?).toArray=((xs.toList.drop i).take k).toArray:=by
 have e:(λ(m:Nat)=>xs[((i:Int)+(m:Int)*1).toNat]?)=λm=>xs[i+m]?:=by
  funext m
  have:((i:Int)+(m:Int)*1).toNat=i+m:=by omega
  rw[this]
 rw[e];have:=pick_run xs i k;rw[N3]at this;have a:((λx=>xs[x]?) ∘ λx=>i+x)=λm=>xs[i+m]?:=rfl;rw[a]at this;rw[this]
theorem getItem_tuple_cut{t sl:Addr}{a:Array Value}{j l:Value}{lo c:Ū Int}{Q:Value->À->Prop}(f:Ĥ s.heap t a)(g:s.heap.IsSliceOf sl j l .none)(pl:ð j lo)(x:ð l c)
  (v:¬ (sIx a.size 0 lo=0/\sIx a.size a.size c=a.size))
  (h:Q (.ref s.heap.objs.size) { s with heap:=s.heap.push { cls:=.type "tuple",data:=.seq ((a.toList.drop (sIx a.size 0 lo)).take (sIx a.size a.size c-sIx a.size 0 lo)).toArray } })
  (hsz:a.size<=sizeLine):wpAny (model prog w) A (ô (.ref t) (.ref sl)) Q E s:=by
 have e:sizeOk (.seq ((a.toList.drop (sIx a.size 0 lo)).take (sIx a.size a.size c-sIx a.size 0 lo)).toArray):=by change ((a.toList.drop (sIx a.size 0 lo)).take (sIx a.size a.size c-sIx a.size 0 lo)).toArray.size<=sizeLine;rw[KC,KY,LH,Ly];omega
 have z:sIx a.size a.size c<=a.size:=Jw _ _ (Kw _) c;let⟨os,p,u,y⟩:=id g;have r:s.TypeIs (.ref sl) "slice":=⟨os,p,u⟩;unfold ô
 try with_reducible refine Mi ?_
 first|refine Ko (KD ?_)|skip
 refine Ko (ŏ f.typeIs 'b' ?_)
 refine Ko (L6 (name:=Str.ofString "__getitem__") f.typeIs LU
  (Mx LU f.typeIs ņ ?_ (Ō _ _)))
 change wpAny _ _ (Builtin.Tuple.tupleItemsOf (.ref t) >>= _) _ _ s;refine Ko (tupleItemsOf_ f ?_);refine Ko (Ox r ?_);rw[Kq 'b'];refine Ko (uW g pl x ?_)
 have o:¬ ((((sIx a.size 0 lo:Nat):Int)==0&&(1:Int)==1&&(sIx a.size a.size c-sIx a.size 0 lo)==a.size)=ū):=by
  intro q;rw[KQ,KQ]at q;have B:((sIx a.size 0 lo:Nat):Int)=0:=eq_of_beq q.1.1;have C:sIx a.size a.size c-sIx a.size 0 lo=a.size:=eq_of_beq q.2;show v ⟨(),()⟩
 change wpAny _ _ (if (((sIx a.size 0 lo:Nat):Int)==0&&(1:Int)==1&&(sIx a.size a.size c-sIx a.size 0 lo)==a.size)=ū then _ else _) _ _ s;rw[Kr o,Jv]
 first
  |show Ko (m:=Builtin.Tuple.tupleExact _) (Ml (KD ⟨_,S,KD h⟩) e)
  |show Ko (m:=Builtin.Tuple.tupleExact _) (Ml (Ko (KD (KD ⟨_,S,KD h⟩))) e)
  |show Ko (Ko (m:=Builtin.Tuple.tupleExact _) (Ml (KD (KD ⟨_,S,KD h⟩)) e))
  |show Ko (Ko (m:=Builtin.Tuple.tupleExact _) (Ml (KD ⟨_,S,KD h⟩) e))
end
end HT
namespace L2
open PySem PySem.Spec PyProof.Rows
noncomputable abbrev TO:=St->Hp->(Ū Int->Hp->Prop)->Prop
noncomputable def PO(X:Cx)(e:Ū Ã)(t:TO):Prop:=
 ∀(a:Y (Addr×Ï))(s:À)(c:St)(H:Hp)(Q:Ū Int->Hp->Prop),Inv X a c H s->t c H Q->
  wpAny (model X.prog X.w) X.A (evalPart e X.env) (λu s'=>∃o f,Inv X a c f s'/\ð u o/\Q o f) X.xe s
noncomputable def D7:TO:=λ_ H Q=>Q ũ H
noncomputable def Cb(t:TE):TO:=λc H Q=>t c H λx a=>∃i,x=.int i/\Q (Z i) a
section
variable{X:Cx}{e:Ã}{f:TE}{lo c:Ū Ã}{g j:TO}{A m:Õ}
theorem po_none:PO X ũ D7:=by intro a s l H Q I h;rw[evalPart_none];show KD ⟨ũ,H,I,.none,h⟩
theorem Dv(h:PE X e f):PO X (Z e) (Cb f):=by intro a s y H Q I r;rw[evalPart_some];refine aE (h a s y H _ I r) λu z p=>?_;let⟨x,l,o,w,v⟩:=p;let⟨i,rfl,q⟩:=v;let⟨t,rfl⟩:=w;show⟨Z i,l,o,.int i t,q⟩
noncomputable def SlR(X:Cx)(r:V->Ū Int->Ū Int->Hp->VK->Prop):Prop:=
 ∀(a:Y (Addr×Ï))(s:À)(o:St)(H:Hp)(x:V)(v h l:Value)(lo c:Ū Int)(sl:Addr)(Q:VK),Inv X a o H s->RelV x v->s.heap.IsSliceOf sl h l .none->ð h lo->ð l c->r x lo c H Q->
  ∃T id,ø (.type T) "__getitem__"=pure (Z (.builtin id))/\s.TypeIs v T/\wpAny (model X.prog X.w) X.A (ô v (.ref sl)) (EP X a o Q) X.xe s
theorem SlR.or{r p:V->Ū Int->Ū Int->Hp->VK->Prop}(h:SlR X r)(h':SlR X p):SlR X (λx lo c H Q=>r x lo c H Q\/p x lo c H Q):=by
 intro a s y H x v u w lo c sl Q I t l pl o q;rcases q with q|q
 ·show h a s y H x v u w lo c sl Q I t l pl o q
 ·show h' a s y H x v u w lo c sl Q I t l pl o q
noncomputable def Eh(r:V->Ū Int->Ū Int->Hp->VK->Prop)(f:TE)(g j:TO):TE:=λa H Q=>f a H λx h=>g a h λl o=>j a o λu p=>r x l u p Q
theorem EN{r:V->Ū Int->Ū Int->Hp->VK->Prop}(O:SlR X r)(K:PE X e f)(N:PO X lo g)(R:PO X c j):PE X (.Subscript e (.Slice lo c ũ m) A) (Eh r f g j):=by
 intro a s p H Q I h;refine Subscript_ (aE (K a s p H _ I h) λv s1 ⟨x,z,C,r1,U⟩=>?_);refine wpAny_Slice (aE (N a s1 p z _ C U) λt s2 ⟨l,B,E,pl,a_⟩=>aE (R a s2 p B _ E a_) λw o ⟨u,y,F,ap,aA⟩=>?_);rw[evalPart_none];refine KD ?_;have G:Inv X a p y { o with heap:=o.heap.push { cls:=.type "slice",data:=.fields #[t,w,.none] } }:=F.kept (t':=o.toks) λb ob q=>Ks _ q;let⟨T,id,J,P,M⟩:=O a { o with heap:=o.heap.push { cls:=.type "slice",data:=.fields #[t,w,.none] } } p y x v t w l u o.heap.objs.size Q G r1 (Heap.IsSliceOf.new ..) pl ap aA;change wpAny (model X.prog X.w) X.A (subscriptTail e (.Slice lo c ũ m) v (.ref o.heap.objs.size)) (EP X a p Q) X.xe { o with heap:=o.heap.push { cls:=.type "slice",data:=.fields #[t,w,.none] } };show tail_any (ops:=[.ref o.heap.objs.size,v]) P J M (by with_unfolding_all rfl)
noncomputable def ix(xs:Y V)(lo c:Ū Int):Y V:=(xs.drop (HT.sIx xs.length 0 lo)).take (HT.sIx xs.length xs.length c-HT.sIx xs.length 0 lo)
theorem yO(xs:Y V)(lo c:Ū Int):(ix xs lo c).length<=xs.length:=by unfold ix;rw[KY,LH];omega
noncomputable def we(K:Â):V->Ū Int->Ū Int->Hp->VK->Prop:=λx lo c H Q=>∃a xs,x=.ref a/\SqT K H a xs /\
 ¬ (HT.sIx xs.length 0 lo=0/\HT.sIx xs.length xs.length c=xs.length)/\∀p,H p=ũ->Q (.ref p) (aq H p (.tup (ix xs lo c)))
theorem sl_tup:SlR X (we X.K):=by
 intro u s K H x v G J lo c sl Q I E y pl C h;let⟨a,xs,rfl,B,z,q⟩:=h;cases E;let⟨w,r,p,t⟩:=I.tuple B
 have l:w.toArray.size=xs.length:=by rw[KC];show r.length.symm
 refine⟨"tuple",_,LU.lookup,p.typeIs,?_⟩;refine HT.getItem_tuple_cut p y pl C (by rw[l];show z) ?_ (by rw[l];show t);rw[l];refine⟨.ref s.heap.objs.size,_,I.laid (t':=s.toks) (o:=.tup (ix xs lo c)) (λb F q=>Ks _ q) (Kw _) ?_,S,q _ (I.hok.fresh (Kw _))⟩;show⟨K3 (yO xs lo c) t,_,(r.drop (HT.sIx xs.length 0 lo)).take (HT.sIx xs.length xs.length c-HT.sIx xs.length 0 lo),IsTupD.new _ _⟩
noncomputable def JU(K:Â):R2:=λx y H Q=>∃a b xs ys,x=.ref a/\y=.ref b/\SqT K H a xs/\SqT K H b ys/\xs≠[]/\xs.length+ys.length<=sizeLine /\
 (ys=[]->Q (.ref a) H)/\(ys≠[]->∀p,H p=ũ->Q (.ref p) (aq H p (.tup (xs++ys))))
theorem Vals.nil_iff{xs:Y V}{us:Y Value}(r:Vals xs us):us=[]↔xs=[]:=by
 cases r with
 |nil=>simp
 |cons _ _=>simp
theorem E7:b9 X (Ì .Add) (JU X.K):=by intro t s R H x y v u Q I K M h;let⟨a,b,xs,ys,rfl,rfl,B,C,E,r,G,J⟩:=h;cases K;cases M;let⟨N,p,F,_⟩:=I.tuple B;let⟨O,l,m,_⟩:=I.tuple C;refine HT.cat_tup F m (λz=>E (p.nil_iff.mp z)) (λz=>⟨.ref a,H,I,S,G (l.nil_iff.mp z)⟩) (λz=>?_) (by rw[←p.length,←l.length];show r);refine⟨.ref s.heap.objs.size,_,I.laid (t':=s.toks) (o:=.tup (xs++ys)) (λb P q=>Ks _ q) (Kw _) ?_,S,J (λw=>z (l.nil_iff.mpr w)) _ (I.hok.fresh (Kw _))⟩;show⟨by rw[Kp];show r,_,p.append l,IsTupD.new _ _⟩
end
noncomputable def eT(n:Nat)(i:Int):Ū Nat:=if 0<=i then (if i<n then Z i.toNat else ũ) else if -(n:Int)<=i then Z (i+n).toNat else ũ
noncomputable def bZ{a:Type}(xs:Y a)(i:Int):Ū a:=(eT xs.length i).bind λj=>xs[j]?
theorem xp{n:Nat}{i:Int}{j:Nat}(h:eT n i=Z j):Ā i n=Z j/\j<n/\-(n:Int)<=i/\i<n:=by
 unfold eT at h;by_cases c:0<=i
 ·rw[Kq c]at h;by_cases a:i<n
  ·rw[Kq a]at h;have e:i.toNat=j:=K2 h;show⟨by rw[Ĺ c a,e],(),(),a⟩
  ·rw[Kr a]at h;cases h
 ·rw[Kr c]at h;by_cases a:-(n:Int)<=i
  ·rw[Kq a]at h;have e:(i+n).toNat=j:=K2 h;show⟨by rw[ī () a,e],(),a,()⟩
  ·rw[Kr a]at h;cases h
theorem tM{a:Type}{xs:Y a}{i:Int}{v:a}(h:bZ xs i=Z v):∃j,Ā i xs.length=Z j/\xs[j]?=Z v/\j<xs.length/\-(xs.length:Int)<=i/\i<xs.length:=by
 unfold bZ at h
 cases e:eT xs.length i with
 |none=>rw[e]at h;cases h
 |some j=>
  rw[e]at h;let⟨c,f,g,l⟩:=xp e;show⟨j,c,h,f,g,l⟩
theorem Eu{a:Type}{xs:Y a}{j:Nat}{v:a}(h:xs[j]?=Z v):bZ xs (j:Int)=Z v:=by
 have c:j<xs.length:=(Lr.mp h).1
 have e:eT xs.length (j:Int)=Z j:=by unfold eT;rw[Kq (),Kq ()];simp
 unfold bZ;rw[e];show h
noncomputable def qV(b:Ã):Prop:=∀o i,subscripted b Ŭ o i=operate [o,i] (ô o i)
noncomputable def kF(X:Cx)(r:R2):Prop:=
 ∀(e a:Ã)(c:Y (Addr×Ï))(s:À)(f:St)(H:Hp)(x y:V)(v u:Value)(Q:VK),Inv X c f H s->RelV x v->RelV y u->r x y H Q->
  subscripted a Ŭ v u=operate [v,u] (ô v u)->wpAny (model X.prog X.w) X.A (subscriptTail e a v u) (EP X c f Q) X.xe s
noncomputable def jw(X:Cx)(id:String)(r:V->Y V->Hp->VK->Prop):Prop:=
 ∀(a:Y (Addr×Ï))(s:À)(c:St)(H:Hp)(x:V)(xs:Y V)(v:Value)(us:Y Value)(Q:VK),Inv X a c H s->RelV x v->Vals xs us->r x xs H Q->
  wpAny (model X.prog X.w) X.A (call (.builtin id) (v::us)) (EP X a c Q) X.xe s
section
variable{X:Cx}{a b:Ã}{C tb:TE}{B:Õ}
theorem wZ{r:R2}(l:kF X r)(g:PE X a C)(j:PE X b tb)(m:qV b):PE X (.Subscript a b B) (iW r C tb):=by intro c s w H Q I h;show Subscript_ (sL g j I h λv u t x y e f o p q=>l a b c t w e x y v u Q f o p q (m _ _))
noncomputable def FV(K:Â):R2:=λx y H Q=>∃p xs i v,x=.ref p/\y=.int i/\SqL K H p xs/\bZ xs i=Z v/\Q v H
noncomputable def D9(K:Â):R2:=λx y H Q=>∃p xs i v,x=.ref p/\y=.int i/\SqT K H p xs/\bZ xs i=Z v/\Q v H
noncomputable def Dn:R2:=λx y H Q=>∃z i c,x=.str z/\y=.int i/\z.length<=sizeLine/\bZ z.cps.toList i=Z c/\Q (.str ⟨#[c]⟩) H
theorem uP:kF X (FV X.K):=by
 intro m l c s F H x y v u Q I ap T h E;let⟨p,xs,i,z,rfl,rfl,R,O,q⟩:=h;cases ap;let⟨t,rfl⟩:=T;let⟨G,r,pl,aA⟩:=I.list R;let⟨j,f,K,U,M,N⟩:=tM O;let⟨w,o,J⟩:=r.get K;have P:=r.length;have a_:=iI;have e:EP X c F Q w s:=⟨z,H,I,J,q⟩;by_cases A:0<=i
 ·have g:i.toNat=j:=by rw[Ĺ A N]at f;show K2 f
  show item_listR pl.isList A () (by rw[g];simpa using o) e E
 ·have g:(i+(G.toArray.size:Int)).toNat=j:=by rw[ī () M]at f;rw[KC,←P];show K2 f
  show į (x:=w) pl.isList.typeIs ő.lookup
   (wpAny_getItem_list_neg (Q:=λr s'=>r=w/\EP X c F Q r s') pl.isList () (by rw[KC]<;>omega) () (by rw[g];simpa using o) ⟨S,e⟩) E
theorem Js:kF X (D9 X.K):=by
 intro g f c s l H x y v u Q I M N h K;let⟨p,xs,i,z,rfl,rfl,J,F,q⟩:=h;cases M;let⟨t,rfl⟩:=N;let⟨O,r,pl,U⟩:=I.tuple J;let⟨j,A,E,P,R,ap⟩:=tM F;let⟨w,o,m⟩:=r.get E;have G:=r.length;have T:=iI;have e:EP X c l Q w s:=⟨z,H,I,m,q⟩
 show į (x:=w) pl.typeIs slot_tuple_getitem.lookup
  (getItem_tuple (j:=j) (Q:=λr s'=>r=w/\EP X c l Q r s') pl () () (by rw[KC,←G];show A) (by simpa using o) ⟨S,e⟩) K
theorem BL:kF X Dn:=by
 intro f e l s O H x y v u Q I G J h F;let⟨z,i,c,rfl,rfl,N,A,q⟩:=h;let⟨t,rfl⟩:=G;let⟨t',rfl⟩:=J;let⟨j,g,p,K,r,w⟩:=tM A
 have E:z.cps.toList.length=z.length:=by simp[Str.length]
 rw[E]at g r w;have M:=iI
 show tail_any (NN s z t) slot_str_getitem.lookup (getItem_str (c:=c) (by
  have m:decide (i < -(2^63:Int))=Ŭ:=KU ();have o:decide (i≥2^63)=Ŭ:=KU ()
  rw[m,o,Bool.or_false]) (by rw[g];simpa using p) ⟨.str ⟨#[c]⟩,H,I.tok _,⟨_,S⟩,q⟩) F
theorem Jr(c:Y Value)(n j:Nat)(u:Value):ó (·.setIfInBounds j u) { cls:=.type "list",data:=.seq c.toArray n }={ cls:=.type "list",data:=.seq (c.set j u).toArray n }:=by simp[ó]
theorem Inv.lst{c:Y (Addr×Ï)}{g:St}{H:Hp}{s:À}{p:Addr}{xs:Y V}(I:Inv X c g H s)(h:H p=Z (.lst xs)) :
  ∃(f:Y Value)(n:Nat),Vals xs f/\s.heap.get? p=Z { cls:=.type "list",data:=.seq f.toArray n }/\xs.length<=sizeLine:=by
 let⟨z,f,n,r,e⟩:=I.hok p _ h;show⟨f,n,r,e,z⟩
theorem Inv.lstUpd{c:Y (Addr×Ï)}{m:St}{H:Hp}{s:À}{p:Addr}{xs ys:Y V}{j Py:Y Value}{n g:Nat}{f:Ï->Ï}(I:Inv X c m H s)(h:H p=Z (.lst xs))
  (v:s.heap.get? p=Z { cls:=.type "list",data:=.seq j.toArray n }) (l:f { cls:=.type "list",data:=.seq j.toArray n }={ cls:=.type "list",data:=.seq Py.toArray g }) (r:Vals ys Py) (w:ys.length<=sizeLine) (t:Nat) :
  Inv X c m (aq H p (.lst ys)) { s with heap:=s.heap.update p f,toks:=t }:=by
 have e:(s.heap.update p f).get? p=Z { cls:=.type "list",data:=.seq Py.toArray g }:=by
  rw[Mp f v (by rw[l]<;>rfl),l]
 refine I.write (x:=p) (e:=p) (by rw[h];trivial) (.inl S) (λb u o q=>(Mb _ _ (Lv o)).trans q) ⟨_,e⟩ ?_;show⟨w,Py,g,r,e⟩
noncomputable def zU:V->V->V->Hp->(Hp->Prop)->Prop:=λo i v H Q=>∃p xs k j,o=.ref p/\i=.int k/\H p=Z (.lst xs)/\eT xs.length k=Z j/\Q (aq H p (.lst (xs.set j v)))
theorem uI:qv X zU:=by
 intro c s K H o i v P O u Q I ro G J h;let⟨p,xs,k,j,rfl,rfl,A,E,q⟩:=h;cases ro;let⟨t,rfl⟩:=G;let⟨w,n,r,l,F⟩:=I.lst A;let⟨e,M,y,z⟩:=xp E;have g:=r.length;have N:=iI
 have m:Inv X c K (aq H p (.lst (xs.set j v))) { s with heap:=s.heap.update p (ó (·.setIfInBounds j u)) }:=
  I.lstUpd A l (Jr w n j u) (r.set J j) (by rw[K0];show F) s.toks
 by_cases x:0<=k
 ·have f:k.toNat=j:=by rw[Ĺ x z]at e;show K2 e
  show PySem.W.ki_setAt l x () (by rw[KC,←g];show z) (by rw[f];show⟨_,m,q⟩)
 ·have f:(k+(w.toArray.size:Int)).toNat=j:=by rw[ī () y]at e;rw[KC,←g];show K2 e
  show PySem.W.ki_setBack l () (by rw[KC,←g];show y) () (by rw[f];show⟨_,m,q⟩)
theorem yW(lo c:Ū Int)(n:Nat):(á lo c ũ n).1=((HT.sIx n 0 lo:Nat):Int)/\(á lo c ũ n).2.1=((HT.sIx n n c:Nat):Int)/\(á lo c ũ n).2.2=1:=by
 refine⟨?_,?_,S⟩
 ·cases lo with
  |none=>simp[á,HT.sIx]
  |some i=>
   simp only[á,HT.sIx,ĥ,show (1:Int)>0 by decide,M5];by_cases h:i<0
   ·simp only[h,M5]<;>omega
   ·simp only[h,Ov]<;>omega
 ·cases c with
  |none=>simp[á,HT.sIx]
  |some i=>
   simp only[á,HT.sIx,ĥ,show (1:Int)>0 by decide,M5];by_cases h:i<0
   ·simp only[h,M5]<;>omega
   ·simp only[h,Ov]<;>omega
theorem Gb(c:Y Value)(lo e:Ū Int):slicePick c.toArray lo e ũ=((c.drop (HT.sIx c.length 0 lo)).take (HT.sIx c.length c.length e-HT.sIx c.length 0 lo)).toArray:=by let⟨f,g,h⟩:=yW lo e c.toArray.size;unfold slicePick;rw[f,g,h];simp only[sliceRange_one,pick_run,KC]<;>rfl
noncomputable def vQ(K:Â):V->Ū Int->Ū Int->Hp->VK->Prop:=λx lo c H Q=>∃a xs,x=.ref a/\SqL K H a xs/\∀p,H p=ũ->Q (.ref p) (aq H p (.lst (ix xs lo c)))
theorem sl_list:SlR X (vQ X.K):=by
 intro g s A H x v y z lo e sl Q I t j pl p h;let⟨a,xs,rfl,l,q⟩:=h;cases t;let⟨u,r,f,m⟩:=I.list l;have c:=r.length;refine⟨"list",_,ő.lookup,f.isList.typeIs,?_⟩;refine wpAny_getItem_list_slice f.isList j pl p .none (by simp) ?_ (by rw[KC]<;>omega);rw[Gb,←c];refine⟨.ref s.heap.objs.size,_,I.laid (t':=s.toks) (o:=.lst (ix xs lo e)) (λb w q=>Ks _ q) (Kw _) ?_,S,q _ (I.hok.fresh (Kw _))⟩;show⟨K3 (yO xs lo e) m,_,0,(r.drop (HT.sIx xs.length 0 lo)).take (HT.sIx xs.length xs.length e-HT.sIx xs.length 0 lo),KJ _ S⟩
noncomputable def hV:V->Bool
 |.non=>ū
 |.bl _=>ū
 |.int _=>ū
 |.str _=>ū
 |_=>Ŭ
noncomputable def gZ:V->V->Bool
 |.non,.non=>ū
 |.bl a,.bl b=>a==b
 |.bl a,.int b=>(if a then 1 else 0)==b
 |.int a,.bl b=>a==(if b then 1 else 0)
 |.int a,.int b=>a==b
 |.str a,.str b=>a==b
 |_,_=>Ŭ
theorem CA{A:É}{s:À}{y x:V}{u v:Value}(f:RelV y u)(c:RelV x v)(g:hV y=ū)(e:hV x=ū):SeqAt.EqAt A s u v (gZ y x):=by
 cases y with
 |non=>
  cases f
  cases x with
  |non=>cases c;show SeqAt.EqAt.same _
  |bl b=>cases c;show SeqAt.EqAt.none_bool b
  |int b=>let⟨t,rfl⟩:=c;show SeqAt.EqAt.none_int b t
  |str b=>let⟨t,rfl⟩:=c;show SeqAt.EqAt.none_str b t
  |_=>show absurd (show Ŭ=ū from e) Lh
 |bl a=>
  cases f
  cases x with
  |non=>cases c;show SeqAt.EqAt.bool_none a
  |bl b=>cases c;show SeqAt.EqAt.bool_bool a b
  |int b=>let⟨t,rfl⟩:=c;show SeqAt.EqAt.bool_int a b t
  |str b=>let⟨t,rfl⟩:=c;show SeqAt.EqAt.bool_str a b t
  |_=>show absurd (show Ŭ=ū from e) Lh
 |int a=>
  let⟨t',rfl⟩:=f
  cases x with
  |non=>cases c;show SeqAt.EqAt.int_none a t'
  |bl b=>cases c;show SeqAt.EqAt.int_bool a t' b
  |int b=>let⟨t,rfl⟩:=c;show SeqAt.EqAt.int_int a t' b t
  |str b=>let⟨t,rfl⟩:=c;show SeqAt.EqAt.int_str a t' b t
  |_=>show absurd (show Ŭ=ū from e) Lh
 |str a=>
  let⟨t',rfl⟩:=f
  cases x with
  |non=>cases c;show SeqAt.EqAt.str_none a t'
  |bl b=>cases c;show SeqAt.EqAt.str_bool a t' b
  |int b=>let⟨t,rfl⟩:=c;show SeqAt.EqAt.str_int a t' b t
  |str b=>let⟨t,rfl⟩:=c;show SeqAt.EqAt.str_str a t' b t
  |_=>show absurd (show Ŭ=ū from e) Lh
 |_=>show absurd (show Ŭ=ū from g) Lh
noncomputable def ei(x:V)(u:Value):Bool:=match u with
 |.none=>gZ .non x
 |.bool b=>gZ (.bl b) x
 |.int i _=>gZ (.int i) x
 |.str z _=>gZ (.str z) x
 |_=>Ŭ
theorem uu{x y:V}{u:Value}(r:RelV y u)(f:hV y=ū):ei x u=gZ y x:=by
 cases y with
 |non=>cases r;rfl
 |bl b=>cases r;rfl
 |int i=>let⟨t,rfl⟩:=r;rfl
 |str z=>let⟨t,rfl⟩:=r;rfl
 |_=>show absurd (show Ŭ=ū from f) Lh
theorem kY{x:V}:∀{xs:Y V}{us:Y Value},Vals xs us->xs.all hV=ū->us.any (ei x)=xs.any λy=>gZ y x
 |_,_,.nil,_=>rfl
 |y::xs,u::us,.cons r t,f=>by rw[Od,KQ]at f;rw[MI,MI,uu r f.1,kY t f.2]
theorem k8{A:É}{s:À}{x:V}{v:Value}(g:RelV x v)(e:hV x=ū):∀{xs:Y V}{us:Y Value},Vals xs us->xs.all hV=ū->∀u∈us,SeqAt.EqAt A s u v (ei x u)
 |_,_,.nil,_=>λu c=>by cases c
 |y::xs,u::us,.cons r t,f=>λh c=>by
  rw[Od,KQ]at f;rcases Kz.mp c with rfl|c
  ·rw[uu r f.1];show CA r g f.1 e
  ·show k8 g e t f.2 h c
noncomputable def fS(x:V)(xs:Y V):Bool:=xs.any λy=>gZ y x
noncomputable def uz(K:Â)(c:Bool):R2:=λx y H Q=>∃p xs,y=.ref p/\(SqL K H p xs\/SqT K H p xs)/\hV x=ū/\xs.all hV=ū/\Q (.bl (if c then !fS x xs else fS x xs)) H
theorem um:b9 X (Ê .In) (uz X.K Ŭ):=by
 intro j s t H x y v u Q I l o h;let⟨p,xs,rfl,e,g,fs,q⟩:=h;cases o;rcases e with e|e
 ·let⟨c,r,pl,m⟩:=I.list e;refine SeqAt.in_listAt (ei x) pl.isList (λw f=>k8 l g r fs w (by simpa using f)) ⟨.bl _,H,I,S,?_⟩;rw[show c.toArray.any (ei x)=c.any (ei x)by simp,kY r fs];show q
 ·let⟨c,r,pl,m⟩:=I.tuple e;refine SeqAt.in_tupleAt (ei x) pl (λw f=>k8 l g r fs w (by simpa using f)) ⟨.bl _,H,I,S,?_⟩;rw[show c.toArray.any (ei x)=c.any (ei x)by simp,kY r fs];show q
theorem EZ:b9 X (Ê .NotIn) (uz X.K ū):=by
 intro j s t H x y v u Q I l o h;let⟨p,xs,rfl,e,g,fs,q⟩:=h;cases o;rcases e with e|e
 ·let⟨c,r,pl,m⟩:=I.list e;refine SeqAt.notIn_listAt (ei x) pl.isList (λw f=>k8 l g r fs w (by simpa using f)) ⟨.bl _,H,I,S,?_⟩;rw[show c.toArray.any (ei x)=c.any (ei x)by simp,kY r fs];show q
 ·let⟨c,r,pl,m⟩:=I.tuple e;refine SeqAt.notIn_tupleAt (ei x) pl (λw f=>k8 l g r fs w (by simpa using f)) ⟨.bl _,H,I,S,?_⟩;rw[show c.toArray.any (ei x)=c.any (ei x)by simp,kY r fs];show q
theorem rm:fM X (.builtin "len") (λxs H Q=>∃p ys,xs=[.ref p]/\(SqL X.K H p ys\/SqT X.K H p ys)/\Q (.int ys.length) H):=by
 intro g s t H xs us Q I r h;let⟨p,ys,rfl,e,q⟩:=h;let⟨u,rfl,m⟩:=g6 r;cases m;have o:=iI;rcases e with e|e
 ·let⟨j,f,pl,l⟩:=I.list e;have c:=f.length;show Calls.call_len_list pl.isList (by simp only[KC]<;>omega) ⟨.int ys.length,H,I.tok _,⟨s.toks+1,by rw[KC,c]⟩,q⟩
 ·let⟨j,f,pl,l⟩:=I.tuple e;have c:=f.length;show len_tuple pl (by simp only[KC]<;>omega) ⟨.int ys.length,H,I.tok _,⟨s.toks+1,by rw[KC,c]⟩,q⟩
theorem J1:fM X (.builtin "len") (λxs H Q=>∃z,xs=[.str z]/\z.length<=sizeLine/\Q (.int z.length) H):=by
 intro c s g H xs us Q I r h;let⟨z,rfl,f,q⟩:=h;let⟨u,rfl,t,rfl⟩:=g6 r;have e:=iI;show len_str () ⟨.int z.length,H,I.tok _,⟨_,S⟩,q⟩
theorem qH:fM X (.type "tuple") (λxs H Q=>∃p ys,xs=[.ref p]/\((SqL X.K H p ys/\∀l,H l=ũ->Q (.ref l) (aq H l (.tup ys)))\/(SqT X.K H p ys/\Q (.ref p) H))):=by
 intro c s w H xs us Q I r h;let⟨p,ys,rfl,h⟩:=h;let⟨u,rfl,y⟩:=g6 r;cases y;rcases h with⟨g,q⟩|⟨g,q⟩
 ·let⟨f,j,pl,v⟩:=I.list g;have t:=j.length;refine call_tuple_list pl.isList (λh' kp=>?_) (by simp only[KC]<;>omega);have m:Inv X c w H { s with heap:=h' }:=I.kept (t':=s.toks) kp
  have x:Inv X c w (aq H h'.objs.size (.tup ys)) { s with heap:=h'.push { cls:=.type "tuple",data:=.seq f.toArray } }:=
   m.laid (t':=s.toks) (λb o e=>Ks _ e) (Kw _) (show ObjOk X.prog X.w _ _ _ (.tup ys)from ⟨v,f,j,IsTupD.new _ _⟩)
  show⟨.ref h'.objs.size,_,x,S,q _ (m.hok.fresh (Kw _))⟩
 ·let⟨f,j,pl,v⟩:=I.tuple g;show call_tuple_same pl ⟨.ref p,H,I,S,q⟩
noncomputable def tS(K:Â)(T:String)(x:V)(H:Hp):Prop:=match x with
 |.str _=>T="str"
 |.int _=>T="int"
 |.ref p=>(T="list"/\∃xs,SqL K H p xs)\/(T="tuple"/\((∃xs,H p=Z (.tup xs))\/∃o,K.lookup p=Z o/\o.cls=.type "tuple"/\o.dict=ũ)) \/
   (T="dict"/\((∃c,H p=Z (.dK c))\/∃c,H p=Z (.dT c)))\/(T="set"/\∃Q n,H p=Z (.set Q n))
 |_=>False
theorem wU{h:Y (Addr×Ï)}{y:St}{H:Hp}{s:À}{T:String}{x:V}{v:Value}(I:Inv X h y H s)(r:RelV x v)(j:tS X.K T x H) :
  s.TypeIs v T/\∀a,v=.ref a->∃l,s.heap.get? a=Z l/\l.dict=ũ:=by
 cases x with
 |str z=>
  let⟨t,rfl⟩:=r;cases (show T="str" from j);show⟨NN s z t,λ_ e=>nomatch e⟩
 |int i=>
  let⟨t,rfl⟩:=r;cases (show T="int" from j);show⟨Oj s i t,λ_ e=>nomatch e⟩
 |ref p=>
  cases r;rcases j with⟨rfl,xs,w⟩|⟨rfl,⟨xs,f⟩|⟨o,f,u,hd⟩⟩|⟨rfl,f⟩|⟨rfl,Q,n,f⟩
  ·let⟨A,_,pl,_⟩:=I.list w;refine⟨pl.isList.typeIs,λa e=>?_⟩;cases e;let⟨o,n,e,c,hd,_⟩:=pl;show⟨o,e,hd⟩
  ·let⟨_,_,_,o,e,⟨c,hd⟩,_⟩:=I.hok p _ f;refine⟨⟨o,e,c⟩,λa g=>?_⟩;cases g;show⟨o,e,hd⟩
  ·refine⟨⟨o,I.kIn p o f,u⟩,λa e=>?_⟩;cases e;show⟨o,I.kIn _ o f,hd⟩
  ·have z:∃o,s.heap.get? p=Z o/\o.ExactDict:=by
    rcases f with⟨m,f⟩|⟨m,f⟩
    ·let⟨_,_,_,_,o,_,_,e,ex,_⟩:=I.hok p _ f;show⟨o,e,ex⟩
    ·let⟨_,_,_,_,o,_,_,e,ex,_⟩:=I.hok p _ f;show⟨o,e,ex⟩
   let⟨o,e,ex⟩:=z;refine⟨⟨o,e,ex.1⟩,λa g=>?_⟩;cases g;show⟨o,e,ex.2.1⟩
  ·let⟨o,_,_,_,e,ex,_⟩:=I.hok p _ f;refine⟨⟨o,e,ex.1⟩,λa g=>?_⟩;cases g;show⟨o,e,ex.2.1⟩
 |_=>show Ò j
noncomputable def Cj(K:Â)(T:String)(r:V->Y V->Hp->VK->Prop)(to:TE):TE:=λe H Q=>to e H λx c=>tS K T x c/\r x [] c Q
noncomputable def HQ(K:Â)(T:String)(r:V->Y V->Hp->VK->Prop)(to:TE)(t:TA):TE:=λe H Q=>to e H λx c=>tS K T x c/\t e c λxs f=>r x xs f Q
variable{o e:Ã}{es:Y Ã}{to:TE}{t:TA}{name:Str}{g m:Õ}{T id:String}{r:V->Y V->Hp->VK->Prop}
theorem xg(J:PlainAttrs T)(slot:Slot T name id)(z:typeOf (.builtin id)=pure (.type "method_descriptor"))(F:jw X id r)(G:PE X o to)
  (w:Æ o name X.env (eval o X.env)=eval o X.env:=by rfl) (y:(g.endLine==m.line)=ū:=by rfl):PE X (.Call (.Attribute o name g) [] [] m) (Cj X.K T r to):=by
 intro c s l H Q I h;refine wpAny_Call_method0_late w y (aE (G c s l H _ I h) λv M u=>?_);let⟨x,p,f,j,N,K⟩:=u;let⟨A,E⟩:=wU f j N;show⟨T,id,J,slot,z,A,E,Ć S (PySem.evalArgs_none (F c M l p x [] v [] Q f j .nil K))⟩
theorem gY(U:PlainAttrs T)(slot:Slot T name id)(K:typeOf (.builtin id)=pure (.type "method_descriptor"))(P:jw X id r)(R:PE X o to)(O:PA X (e::es) t)
  (E:Æ o name X.env (eval o X.env)=eval o X.env:=by rfl)
  (A:((backTo m (starEach (e::es) X.env)).all (λx=>!x.1)&&(backToKw m (keywordEach [] X.env)).all (λx=>x.1.isSome)
   && decide ((e::es).length+([]:Y Ñ).length+(if ([]:Y Ñ).isEmpty then 0 else 1)<30))=ū:=by rfl)
  (F:(g.endLine==m.line)=ū:=by rfl) (ap:starEach (e::es) X.env=(Ŭ,eval e X.env)::starEach es X.env:=by rfl) (J:(backTo m (starEach es X.env)).any (·.1)=Ŭ:=by rfl) :
  PE X (.Call (.Attribute o name g) (e::es) [] m) (HQ X.K T r to t):=by
 intro c s f H Q I h;refine wpAny_Call_method_late E A F S (aE (R c s f H _ I h) λv s1 z=>?_);let⟨x,u,j,p,ty,a_⟩:=z;let⟨M,N⟩:=wU j p ty;refine⟨T,id,U,slot,K,M,N,?_⟩;have l:=O m c s1 f u _ j a_;rw[ap]at l ⊢;refine Ć (by change (Ŭ ||(backTo m (starEach es X.env)).any (·.1))=Ŭ;rw[J]<;>rfl) (Calls.evalArgs_plain ?_)
 show aE l λus s2 G=>by let⟨vs,w,y,r2,aA⟩:=G;show P c s2 f w x vs v us Q y p r2 aA
end
noncomputable def pM(X:Cx)(id:String)(r:V->Y V->Hp->VK->Prop):Prop:=
 ∀(a:Y (Addr×Ï))(s:À)(c:St)(H:Hp)(x:V)(xs:Y V)(v:Value)(us:Y Value)(Q:VK),Inv X a c H s->RelV x v->Vals xs us->r x xs H Q->
  wpAny (model X.prog X.w) X.A (call (.builtin id) (v::us)) (EP X a c Q) X.xe s
theorem Vals.one:∀{x:V}{us:Y Value},Vals [x] us->∃u,us=[u]/\RelV x u
 |_,_,.cons r .nil=>⟨_,S,r⟩
theorem Vals.zero:∀{us:Y Value},Vals [] us->us=[]
 |_,.nil=>rfl
theorem Vals.dropLast{xs:Y V}{us:Y Value}(h:Vals xs us):Vals xs.dropLast us.dropLast:=by
 induction h with
 |nil=>show .nil
 |cons r t a=>
  cases t with
  |nil=>show .nil
  |cons q t'=>show .cons r a
theorem Vals.eraseIdx:∀{xs:Y V}{us:Y Value}(i:Nat),Vals xs us->Vals (xs.eraseIdx i) (us.eraseIdx i)
 |_,_,_,.nil=>.nil
 |_,_,0,.cons _ t=>t
 |_,_,i+1,.cons r t=>.cons r (Vals.eraseIdx i t)
theorem Vals.rep{xs:Y V}{us:Y Value}(h:Vals xs us):∀k:Nat,Vals (List.replicate k xs).flatten (List.replicate k us).flatten
 |0=>.nil
 |k+1=>by rw[LR,LR,Li,Li];show Vals.append h (Vals.rep h k)
theorem EX{f:Type}(l:Y f):l.eraseIdx (l.length-1)=l.dropLast:=by
 induction l with
 |nil=>rfl
 |cons a r c=>
  cases r with
  |nil=>rfl
  |cons b r=>
   have e:(a::b::r).length-1=((b::r).length-1)+1:=by
    have g:(a::b::r).length=r.length+2:=rfl;have h:(b::r).length=r.length+1:=rfl;omega
   rw[e,List.eraseIdx_cons_succ,c]
   all_goals rfl
theorem wC{a:Type}:∀(l:Y a)(i:Nat),(l.eraseIdx i).length<=l.length
 | [],_=>Kw _
 |_::_,0=>N0 _
 |_::r,i+1=>Nat.succ_le_succ (wC r i)
theorem sh(c:Y Value):∀(k:Nat)(a:Y Value),
  List.foldl (λg h=>g++h) a.toArray (List.replicate k c.toArray)=(a++(List.replicate k c).flatten).toArray
 |0,a=>by simp
 |k+1,a=>by
  have e:a.toArray++c.toArray=(a++c).toArray:=by simp
  have f:(a++c)++(List.replicate k c).flatten=a++(List.replicate (k+1) c).flatten:=by rw[LR,Li,KS]
  rw[←f,←sh c k (a++c),←e,LR,List.foldl_cons]
section
variable{X:Cx}{a:Y (Addr×Ï)}{c:St}{H:Hp}{s:À}{l:Addr}{xs ys:Y V}
theorem Inv.lset{g Py:Y Value}{n:Nat}{f:Array Value->Array Value}{t':Nat}(I:Inv X a c H s)(h:H l=Z (.lst xs))
  (e:s.heap.get? l=Z { cls:=.type "list",data:=.seq g.toArray n }) (m:f g.toArray=Py.toArray) (p:Vals ys Py) (r:ys.length<=sizeLine) :
  Inv X a c (aq H l (.lst ys)) { s with heap:=s.heap.update l (ó f),toks:=t' }:=by
 have q:=PySem.IsL.update e f;rw[m]at q;refine I.write (x:=l) (e:=l) (by rw[h];show trivial) (.inl S) (λt u j o=>(Mb s.heap (ó f) (Lv j)).trans o) ⟨_,q⟩ ?_;show⟨r,Py,_,p,q⟩
theorem Inv.lnew{e:Y Value}{t':Nat}(I:Inv X a c H s)(f:Vals ys e)(g:ys.length<=sizeLine) :
  Inv X a c (aq H s.heap.objs.size (.lst ys)) { s with heap:=s.heap.push { cls:=.type "list",data:=.seq e.toArray },toks:=t' }:=
 I.laid (λ_ _ q=>Ks _ q) (Kw _) ⟨g,e,0,f,KJ _ S⟩
theorem Inv.fresh(I:Inv X a c H s):H s.heap.objs.size=ũ:=I.hok.fresh (Kw _)
theorem Inv.lstM(I:Inv X a c H s)(g:H l=Z (.lst xs)):xs.length<=sizeLine/\∃(f:Y Value)(n:Nat),Vals xs f/\xs.length=f.length/\s.heap.get? l=Z { cls:=.type "list",data:=.seq f.toArray n }:=by let⟨z,f,n,r,e⟩:=I.hok l _ g;show⟨z,f,n,r,r.length,e⟩
theorem yn{n:Nat}(h:n<=sizeLine):Builtin.List.listTooLong n=Ŭ:=by unfold Builtin.List.listTooLong;show KU ()
end
section
variable{X:Cx}
noncomputable def FS:V->Y V->Hp->VK->Prop:=λx vs H Q=>∃l xs y,x=.ref l/\vs=[y]/\H l=Z (.lst xs)/\xs.length<sizeLine/\Q .non (aq H l (.lst (xs++[y])))
theorem rX:pM X "list.append" FS:=by intro f s t H x vs v us Q I m j h;let⟨l,xs,y,rfl,rfl,c,p,q⟩:=h;cases m;let⟨u,rfl,g⟩:=j.one;let⟨z,a,n,r,o,e⟩:=I.lstM c;refine Me F.slot_list_append ⟨_,e,S⟩ F.entry_list_append (F.args_list_append_2 _ _) (PySem.list_append l a.toArray n u (by rw[KC];omega)) ⟨e,?_⟩;refine⟨.non,_,I.lset (Py:=a++[u]) c e (by simp) (r.append (.cons g .nil)) ?_,S,q⟩;rw[Kp,List.length_singleton];omega
noncomputable def xf:V->Y V->Hp->VK->Prop:=λx vs H Q=>∃l b xs a,x=.ref l/\vs=[.ref b]/\H l=Z (.lst xs)/\H b=Z (.lst a)/\xs.length+a.length<=sizeLine/\Q .non (aq H l (.lst (xs++a)))
theorem Dj:pM X "list.extend" xf:=by
 intro g s K H x vs v us Q I A y h;let⟨l,b,xs,J,rfl,rfl,f,o,E,q⟩:=h;cases A;let⟨u,rfl,w⟩:=y.one;cases w;let⟨z,a,n,r,C,e⟩:=I.lstM f;let⟨G,c,p,t,B,m⟩:=I.lstM o
 have hsz:a.toArray.size+c.toArray.size<=sizeLine:=by rw[KC,KC];omega
 have j:¬ (!a.toArray.isEmpty&&Builtin.List.listTooLong (a.toArray.size+c.toArray.size))=ū:=by rw[yn hsz,Bool.and_false];show Lh
 refine Me F.slot_list_extend ⟨_,e,S⟩ F.entry_list_extend (F.args_list_extend_2 _ _)
  (AutoSeq1.list_extend_list_list_0 l a.toArray n b c.toArray p j (by rw[KC];omega) ()) ⟨e,m,?_⟩
 refine⟨.non,_,I.lset (Py:=a++c) f e (by simp) (r.append t) ?_,S,q⟩;rw[Kp];omega
noncomputable def Dm:V->Y V->Hp->VK->Prop:=λx vs H Q=>∃l xs y,x=.ref l/\vs=[]/\H l=Z (.lst xs)/\xs[xs.length-1]?=Z y/\Q y (aq H l (.lst xs.dropLast))
theorem wj:pM X "list.pop" Dm:=by
 intro g s B H x vs v us Q I A w h;let⟨l,xs,y,rfl,rfl,f,p,q⟩:=h;cases A;have c:=w.zero;subst c;let⟨z,a,n,r,m,e⟩:=I.lstM f;let⟨u,o,t⟩:=r.get p
 have j:a.toArray[a.toArray.size-1]?=Z u:=by change a.toArray[a.length-1]?=Z u;rw[←Nz,←m];show o
 refine Me F.slot_list_pop ⟨_,e,S⟩ F.entry_list_pop (F.args_list_pop_1 _) (MeetsSeq.list_pop_last l a.toArray n u j (by rw[KC];omega)) ⟨e,?_⟩;refine⟨y,_,I.lset (Py:=a.dropLast) f e ?_ r.dropLast ?_,t,q⟩
 ·change a.toArray.eraseIdxIfInBounds (a.toArray.size-1)=a.dropLast.toArray;rw[KC,NJ,EX]
 ·rw[List.length_dropLast];omega
noncomputable def IF:V->Y V->Hp->VK->Prop:=λx vs H Q=>∃l xs i k y,x=.ref l/\vs=[.int i]/\H l=Z (.lst xs)/\-(2^63)<=i/\i<2^63/\Ā i xs.length=Z k/\xs[k]?=Z y/\Q y (aq H l (.lst (xs.eraseIdx k)))
theorem D3:pM X "list.pop" IF:=by
 intro f s J H x vs v us Q I G E h;let⟨l,xs,i,k,y,rfl,rfl,c,j,m,o,B,q⟩:=h;cases G;let⟨u,rfl,C⟩:=E.one;let⟨t,rfl⟩:=C;let⟨z,a,n,r,p,e⟩:=I.lstM c;let⟨w,A,g⟩:=r.get B
 refine Me F.slot_list_pop ⟨_,e,S⟩ F.entry_list_pop (F.args_list_pop_2 _ _)
  (MeetsSeq.list_pop_at l a.toArray n i t k w (fitsIndex_both j m) (by rw[KC,←p];show o) (by rw[←Nz];show A) (by rw[KC];omega)) ⟨e,?_⟩
 refine⟨y,_,I.lset (Py:=a.eraseIdx k) c e ?_ (r.eraseIdx k) ?_,g,q⟩
 ·change a.toArray.eraseIdxIfInBounds k=(a.eraseIdx k).toArray;rw[NJ]
 ·have:=wC xs k;omega
noncomputable def Fj:R2:=λx y H Q=>∃l b xs a,x=.ref l/\y=.ref b/\H l=Z (.lst xs)/\H b=Z (.lst a)/\xs.length+a.length<=sizeLine/\∀p,H p=ũ->Q (.ref p) (aq H p (.lst (xs++a)))
theorem Gw:b9 X (Ì .Add) Fj:=by
 intro f s J H x y v u Q I t w h;let⟨l,b,xs,G,rfl,rfl,o,m,C,q⟩:=h;cases t;cases w;let⟨z,a,n,r,B,e⟩:=I.lstM o;let⟨F,c,E,p,A,g⟩:=I.lstM m;refine PySem.P.add_list e g ?_ (by rw[KC,KC];omega)
 have j:a.toArray++c.toArray=(a++c).toArray:=by simp
 rw[j];show⟨.ref _,_,I.lnew (t':=s.toks) (r.append p) (by rw[Kp];omega),S,q _ I.fresh⟩
noncomputable def Hm:R2:=λx y H Q=>∃l k xs,x=.ref l/\y=.int k/\H l=Z (.lst xs)/\-(2^63)<=k/\k<2^63/\xs.length*k.toNat<=sizeLine /\
 ∀p,H p=ũ->Q (.ref p) (aq H p (.lst (List.replicate k.toNat xs).flatten))
theorem sU{c:Type}(xs:Y c)(k:Nat):(List.replicate k xs).flatten.length=k*xs.length:=by
 induction k with
 |zero=>simp
 |succ k a=>rw[LR,Li,Kp,a,Nat.succ_mul,Nat.add_comm]
theorem vc:b9 X (Ì .Mult) Hm:=by
 intro p s R H x y v u Q I N O h;let⟨l,k,xs,rfl,rfl,K,G,J,o,q⟩:=h;cases N;let⟨t,rfl⟩:=O;let⟨z,c,n,r,M,e⟩:=I.lstM K
 have f:c.toArray.size*k.toNat<=sizeLine:=by rw[KC,←M];show o
 have w:¬ c.toArray.size*k.toNat>(2^63-1)/8:=by
  have:(sizeLine:Nat)<=(2^63-1)/8:=by decide
  omega
 have C:¬ (!Builtin.List.listFitsIndex k)=ū:=by rw[fitsIndex_both G J];show Lh
 have B:¬ Builtin.List.listTooLong (c.toArray.size*k.toNat)=ū:=by rw[yn f];show Lh
 have A:List.foldl (λg j=>g++j) #[] (List.replicate (if c.toArray.isEmpty=ū then 0 else k.toNat) c.toArray)=(List.replicate k.toNat c).flatten.toArray:=by
  have E:∀m:Nat,List.foldl (λg j=>g++j) #[] (List.replicate m c.toArray)=(List.replicate m c).flatten.toArray:=λm=>by have:=sh c m [];rw[M8]at this;show this
  rw[E]
  cases c with
  |nil=>simp
  |cons a P=>rw[Kr (by simp)]
 refine Ĕ (T:="list") (U:="int") 'b' ⟨_,e,S⟩ (λs'=>Oj s' k t) noFill_list_mul F.fills_int_mul NO repeat_list F.slot_int_index.lookup
  (Me NO (Oj s k t) F.entry_int_rmul (F.args_int_rmul_2 _ _) (int___rmul___int_list k t l c.toArray n)
   ⟨e,S,⟨_,e,S⟩,Me F.slot_list_mul ⟨_,e,S⟩ F.entry_list_mul (F.args_list_mul_2 _ _) (AutoListH.list___mul___list_int_3 l c.toArray n k t C w B) ⟨e,?_⟩⟩)
 rw[A];show⟨.ref _,_,I.lnew (t':=s.toks) (r.rep k.toNat) (by rw[sU,Oy];show o),S,q _ I.fresh⟩
end
end L2
namespace Att
open PySem PySem.W PySem.Calls PyProof.Rows
theorem Hc{P:Į}{h:Heap}:∀(ns:Y Int)(vs:Y Value),WellAll P h vs (ns.map Ŧ)->Ĵ vs ns:=by
 intro ns
 induction ns with
 |nil=>
  intro vs w;rw[Oz]at w;cases w;show .nil
 |cons n ns c=>
  intro vs w;rw[K1]at w
  cases w with
  |cons a b=>
   cases a;show .cons _ _ (c _ b)
theorem Jl{l:OpenLaw}{n:Nat}(w:l.most=Z n){P:Į}{h:Heap}{args:Y WData}{vals:Y Value}
  (j:l.row.toRowW.claim.pre args=ū) (o:WellAll P h vals args) :
  ∃a vs ns,vals=[Value.ref a]/\args=[WData.list (ns.map Ŧ)]/\h.get? a=Z { cls:=.type "list",data:=.seq vs.toArray }/\Ĵ vs ns/\ns.length<=n:=by
 have g:WShape.hasAll [] args [.list .int]=ū:=(pre_splitW j).1;have m:l.pre.holds [] { args:=args }=ū:=(pre_splitW j).2;let⟨d,r,rfl,t,u⟩:=hasAllW_cons g;obtain rfl:=hasAllW_nil u;let⟨xs,rfl,v⟩:=hasW_list t;let⟨ns,rfl⟩:=items_int v
 have c:ns.length<=n:=by
  unfold OpenLaw.pre at m
  have e:(WTm.not (.lt (.lit (.int (n:Int))) (.len (.arg 0)))).holds [] { args:=[.list (ns.map .int)] }=ū:=by have e:=(holds_andW m).1;rw[w]at e;show e
  have f:=condW_of e (w_not (w_lt w_lit (w_len_list (w_arg S))));rw[wy]at f;refine Nat.le_of_not_lt λq=>?_
  have y:(n:Int)<((ns.length:Nat):Int):=by omega
  first
   |(rw[Ld y]at f;show absurd f 'b')
   |(simp at f;omega)
 cases o with
 |cons z A=>
  cases A
  cases z with
  |list x p=>show⟨_,_,ns,S,S,x,Hc ns _ p,c⟩
theorem Ew(l:OpenLaw)(args:Y WData):l.row.toRowW.claim.post args (.bool ū) args=ū:=
 postW_of (r:=l.row.toRowW) (X:=(ū==ū))
  (show ŕ [] (.bool ū) .bool=ū by first|rfl|decide|simp[ŕ,WShape.arms,WShape.armsAll])
  (show (WTm.eq .res (.lit (.bool ū))).value [] { args:=args,res:=Z (.bool ū),after:=args }=Z (.bool (ū==ū))from w_eq_bool (w_res S) w_lit) S
theorem attach_call{l:OpenLaw}{n:Nat}{q:Ä}{e:Y Str}{v:(Str->Ū Value)->Heap->Prop}{x:Å->Heap->Prop}{d:DefRec}
  (Q:l.most=Z n) (H:d.params.defaults=[])
  (call:∀(w:Å)(s₀ c:À)(mg t:Str->Ū Value)(j:Addr)(o:Ï)(u p g:Value)(a:Addr)(vs:Y Value)(ns:Y Int),
   Ground q e [] v w s₀ mg t c.heap->x w c.heap->
   c.heap.get? j=Z o->o.data=.func (docDef d.name d.params d.body d.scope u p g)->c.heap.CodeRec p d.name->mg d.name=Z (.ref j)->
   c.heap.get? a=Z { cls:=.type "list",data:=.seq vs.toArray }->Ĵ vs ns->ns.length<=n->c.gens=#[]->
   ì (model l.prog w) û (.call (.ref j) ⟨[.ref a],[]⟩) (λr s'=>r=.ok (.ret (.bool ū))/\OldK c.heap s'.heap/\s'.os=c.os/\ç s'.gens) c) :
  WalkO q e v x l.row.toRowW d [] (λf vs=>PySem.call f vs):=by
 intro w s₀ c mg t G ap j o u p g I kV R hd A y E N args vals as C z T B O;obtain rfl:I=.none:=Dflts.none y H;obtain rfl:kV=.none:=Dflts.noKw y;let⟨a,vs,ns,rfl,rfl,F,h,m⟩:=Jl Q C B;refine enter_call (MR (call w s₀ c mg t j o u p g a vs ns G ap R (fd_plain hd) A E F h m N) λr s' U=>?_);let⟨rfl,J,K,M⟩:=U;show⟨.inl ⟨.bool ū,.bool ū,[],S,λ_=>rfl,.bool ū,Ew l _,λ_=>⟨List.Pairwise.nil,λ_ P=>(nomatch P)⟩⟩,J,K,M⟩
end Att
namespace L2
open PySem PySem.Spec PyProof.Rows
theorem yF:∀{vs:Y Value}{ns:Y Int},Ĵ vs ns->Vals (ns.map V.int) vs
 |_,_,.nil=>.nil
 |_,_,.cons n t h=>.cons ⟨t,S⟩ (yF h)
noncomputable def tN(H:Hp):Prop:=∀b,H b=ũ\/∃o xs,H b=Z (.frz o (.lst xs))
theorem As{P:Ä}{w:Å}{K:Â}{mg ap:Str->Ū Value}{CX:cM}{k:Nat}{M a:Addr}{X:Ë}{x:Str}{sp:Sp}{c:À}{vs:Y Value}{ns:Y Int}
  (T:K.In c.heap) (C:c.heap.Ns Á mg) (f:c.heap.Ns ä ap) (N:∀x:Str,x≠"__name__"->ap x=Ö x) (W8:c.heap.NoLimit)
  (O:∃bm j,mg "__builtins__"=Z (.ref bm)/\bm≠ä/\c.heap.get? bm=Z j/\j.cls=.type "module"/\j.dict=Z ä/\j.data=.plain) (I:c.heap.NoSeer) (Q:∃g,c.heap.Ns cStatics g/\g "sys.int_max_str_digits"=ũ) (hg:c.gens=#[])
  (y:c.heap.get? a=Z { cls:=.type "list",data:=.seq vs.toArray }) (aA:Ĵ vs ns) (hl:ns.length<=sizeLine) (hr:Room k û)
  (F:∀base:Heap,K.In base->base.Ns Á mg->FnOk P w K mg base CX k M X [x] sp) (Vm:∀(s:À)(u:Value),ċ s X ⟨[u],[]⟩ [(x,u)])
  (TJ:∀H:Hp,tN H->SqL K H a (ns.map V.int)->sp [.ref a] H (λv _=>v=.bl ū) λ_ _ _=>False)
  (W9:∀H e s',CX [] H c (λ_ _ _=>False) e s'->False) :
  ì (model P w) û (.call (.ref M) ⟨[.ref a],[]⟩) (λr s'=>r=.ok (.ret (.bool ū))/\OldK c.heap s'.heap/\s'.os=c.os/\ç s'.gens) c:=by
 have rv:=yF aA;have Xa:=aA.length
 have p:∀H:Hp,tN H->SqL K H a (ns.map V.int)->HOk P w H c.heap->(∀b,H b≠ũ->b=a)->(H a≠ũ->K.lookup a=ũ)->
   ì (model P w) û (.call (.ref M) ⟨[.ref a],[]⟩) (λr s'=>r=.ok (.ret (.bool ū))/\OldK c.heap s'.heap/\s'.os=c.os/\ç s'.gens) c:=by
  intro H a_ hS hok J hK;have G:∀{b:Addr}{o:Ï},c.heap.get? b=Z o->H b=ũ->(gU c.heap H).get? b=Z o:=λe n=>GL e n
  have Vh:∀{b:Addr}{o:Ï}{es:Array DictEntry}{A:Nat},c.heap.get? b=Z o->o.data=.dict es A->H b=ũ:=λ{b o es A} e d=>by
   cases q:H b with
   |none=>rfl
   |some u=>
    have t:b=a:=J b (by rw[q];simp);subst t;rw[y]at e;cases e;have d':Data.seq vs.toArray _=Data.dict es A:=d;cases d'
  have l:∀{b:Addr}{m:Str->Ū Value},c.heap.Ns b m->(gU c.heap H).Ns b m:=λ{b m} O7=>by let⟨o,es,A,e,d,r⟩:=O7;show⟨o,es,A,G e (Vh e d),d,r⟩
  have B:K.In (gU c.heap H):=λb o e=>G (T b o e) (by
   cases q:H b with
   |none=>rfl
   |some u=>
    have t:b=a:=J b (by rw[q];simp);subst t
    rw[hK (by rw[q];simp)]at e;cases e)
  have hM:Mod K mg (gU c.heap H):=⟨B,l C,⟨ap,l f,N⟩,let ⟨g,h1,h2⟩:=W8;⟨g,l h1,h2⟩,let ⟨bm,j,b1,b2,b3,b4,b5,b6⟩:=O;⟨bm,j,b1,b2,G b3 (by
   cases q:H bm with
   |none=>rfl
   |some u=>
    have t:bm=a:=J bm (by rw[q];simp)
    rw[t,y]at b3;cases b3;injection b4 with z;show absurd z 'b'),b4,b5,b6⟩,
   ⟨let ⟨g,h1,h2⟩:=I.statics;⟨g,l h1,h2⟩,let ⟨g,h1,h2⟩:=I.mods;⟨g,l h1,h2⟩,let ⟨g,h1,h2⟩:=I.imp;⟨g,l h1,h2⟩,let ⟨m1,bm,j,n1,b1,b3,b4,b5⟩:=I.main;⟨m1,bm,j,l n1,b1,G b3 (by
   cases q:H bm with
   |none=>rfl
   |some u=>
    have t:bm=a:=J bm (by rw[q];simp)
    rw[t,y]at b3;cases b3;injection b4 with z;show absurd z 'b'),b4,b5⟩⟩,let ⟨g,h1,h2⟩:=Q;⟨g,l h1,h2⟩⟩
  have e0:Env0 P w K mg (gU c.heap H) û [] c H:=⟨S,hM,λb o e=>zy e,NM (Ci _ _),trivial,λb f=>absurd (show b∈([]:Y Addr)from f) (by simp),hok,.of_eq hg⟩;refine MR ((F _ B (l C)).run û [] c H ⟨[.ref a],[]⟩ [.ref a] [.ref a] _ _ hr e0 (Vm c (.ref a)) (.cons S .nil) (TJ H a_ hS)) λr s' h=>?_
  cases r with
  |error e=>show (W9 H e s' h).elim
  |ok fl=>
   cases fl with
   |next=>show Ò h
   |brk=>show Ò h
   |cont=>show Ò h
   |ret u=>
    let⟨v,H',os,bare,un,Xb,r',q⟩:=h;have q':v=.bl ū:=q;subst q';obtain rfl:u=Value.bool ū:=r';refine⟨S,OldK.of_keep λb o e=>?_,os,bare⟩
    cases q:H b with
    |none=>show un.keep b o e q (by intro z;show absurd (show b∈([]:Y Addr)from z) (by simp)) (by simp)
    |some u=>
     rcases a_ b with z|⟨j,xs,z⟩
     ·rw[q]at z;cases z
     ·have z2:=un.frzs b j _ z;let⟨U,_⟩:=hok b _ z;let⟨e2,_⟩:=Xb b _ z2;rw[e]at U;cases U;show e2
 cases R:K.lookup a with
 |some o=>
  have e:=T a o R;rw[y]at e;cases e;refine p (λ_=>ũ) (λ_=>.inl S) (.inr ⟨_,vs.toArray,_,R,S,S,S,by rw[KC,Xa];show hl,by simpa using rv⟩) (λb u z=>by have E:(ũ:Ū HO)=Z u:=z;cases E) (λb z=>absurd S z) λz=>absurd S z
 |none=>
  refine p (λb=>if b=a then Z (.frz { cls:=.type "list",data:=.seq vs.toArray } (.lst (ns.map V.int))) else ũ) (λb=>?_) (.inl (.inr ⟨{ cls:=.type "list",data:=.seq vs.toArray },Kq S⟩)) (λb u z=>?_) (λb z=>?_) λ_=>R
  ·by_cases f:b=a
   ·show .inr ⟨_,_,Kq f⟩
   ·show .inl (Kr f)
  ·by_cases f:b=a
   ·have E:=(Kq f).symm.trans z;cases E;subst f;show⟨y,by rw[wy];show hl,vs,_,rv,y⟩
   ·have E:=(Kr f).symm.trans z;cases E
  ·by_cases f:b=a
   ·show f
   ·show absurd (Kr f) z
theorem walk_of{l:PySem.W.OpenLaw}{n k:Nat}{q:Ä}{j:Y Str}{J:(Str->Ū Value)->Heap->Prop}{y:Å->Heap->Prop}{d:DefRec}{K:Į->Â}{CX:Å->cM}{sp:Å->Sp}{x:Str}
  (U:l.most=Z n) (B:n<=sizeLine) (E:d.params.defaults=[]) (T:importsNone q=ū) (X:Room k û)
  (Q:∀(w:Å)(h:Heap),y w h->(K w.params).In h)
  (F:∀(w:Å)(mg:Str->Ū Value)(p:Addr)(h:Heap),(K w.params).In h->h.Ns Á mg->mg d.name=Z (.ref p)->
   ∃r:Ë,(∀(s:À)(u:Value),ċ s r ⟨[u],[]⟩ [(x,u)]) /\
    ∀base:Heap,(K w.params).In base->base.Ns Á mg->FnOk l.prog w (K w.params) mg base (CX w) k p r [x] (sp w))
  (A:∀(w:Å)(H:Hp)(a:Addr)(ns:Y Int),ns.length<=n->tN H->SqL (K w.params) H a (ns.map V.int)->sp w [.ref a] H (λv _=>v=.bl ū) λ_ _ _=>False)
  (I:∀(w:Å)(H:Hp)(s:À)(e:Value)(s':À),CX w [] H s (λ_ _ _=>False) e s'->False) :
  PySem.W.WalkO q j J y l.row.toRowW d [] (λf vs=>PySem.call f vs):=by
 refine Att.attach_call U E λw s₀ m mg mb p o pm cd M a vs ns G a_ ho hd aA z C g c ap=>?_;have t:=Q w _ a_;let⟨r,R,N⟩:=F w mg p _ t G.T.g z;show As t G.T.g G.T.b G.T.builtins G.T.nolimit G.T.bmain (G.T.seer T) G.T.nodigits ap C g (K3 c B) X N R (λH O P=>A w H a ns c O P) λH e s'=>I w H m e s'
end L2
/- THE LAST Wq (shape; LID, My.* are yours):
   My.Adr: a structure of Wr addresses that your layer names (classes, U4); My.Txt K t: a structure (Prop) of Wr equations over K;
   My.txt_mk : {K} {implicit addresses ..} (e1 : nsIn K mainGlobals "law" = some (some (.ref f))) (e2 : K.lookup f = some ⟨oc, od, .func (fnOf "law" "law" params body scope dV kV doc pm an Ph ct), sl⟩) (e3 : codeIn K Ph "law" = true) .. : ∃t, My.Txt K t
set_option maxRecDepth 100000 in
set_option maxHeartbeats 0 in
theorem PySem.Challenge.cw_LID_holds : PySem.Challenge.rw_LID.Holds := by
 w_on;o_law;k_head;(case hw=>w_witness2)
 k_fill
 refine L2.walk_of (l:=PySem.Challenge.rw_LID) (n:=63) (k:=40) (x:="script") (CX:=λw=>..) (sp:=λ_=>My.sp_law) S 'b' S ⟨S,'b','b'⟩ (λw h U=>kIn_of U) ?F ?Q ?C
 case F=>
  intro w mg fa h KX G T5
  have T:∃t,My.Txt (L2.KOf KX) t:=by
   dsimp only[L2.KOf]                          -- K must stand as «<heap const> w.params» for k_is;refine' My.txt_mk ?e1 ?e2 ?e3 ..
   (case e1=>PySem.W.k_is)                    -- in Wr order: a name-> O8 address-> O8 object-> O8 parts
   (case e2=>PySem.W.k_is)
   ..
  let⟨t,T⟩:=T;have e0:=T5.symm.trans (Ni KX G T.law);cases e0                                       -- fa is Wr law's own address
  show⟨_,λs u=>.of_eq S,λbase kb nb=>My.law_fn T kb nb⟩     -- if «.of_eq S» comes too early: refine' ⟨_,?b,λbase kb nb=>My.law_fn T kb nb⟩;show λs u=>.of_eq S
 case Q=>show λw H a ns hl hO hS=>..
 case C=>show ..
(Wr tactic k_is has no namespace: write k_is) -/
namespace L2
open PySem PySem.Spec PyProof.Rows
noncomputable def fQ(s:Ç)(j:Nat):Ç:=match s with
 |.ClassDef _ _ _ a _ _ _ _ _ _ _=>a.getD j (.Pass ⟨0,0,0,0⟩)
 |_=>.Pass ⟨0,0,0,0⟩
noncomputable def fu(s:Ç):Arguments:=match s with
 |.FunctionDef _ a _ _ _ _ _ _ _ _=>a
 |_=>{ posonlyargs:=[],args:=[],vararg:=ũ,kwonlyargs:=[],kw_defaults:=[],kwarg:=ũ,defaults:=[] }
noncomputable def dR(s:Ç):Y Ç:=match s with
 |.FunctionDef _ _ b _ _ _ _ _ _ _=>b
 |_=>[]
noncomputable def aF(s:Ç):ã:=match s with
 |.FunctionDef _ _ _ _ _ _ a _ _ _=>a
 |_=>{ kind:=.function,names:=[],isGenerator:=Ŭ,isCoroutine:=Ŭ }
noncomputable abbrev bh:cM:=λ_ _ _ _ _ _=>False
noncomputable abbrev E0:XK:=λ_ _ _=>False
theorem nP{X:Cx}:ju bh X E0:=λ_ _ _ _ _ _ _ h=>h.elim
structure Fun(K:Â)(x qual:Str)(st:Ç)(f:Addr)(fd:Ë):Prop where
 ex:∃(oc:Value)(od:Option Addr)(kV doc pm:Value)(an:Option Addr)(Ph ct:Value)(Si:Array (Option Value)),
  fd=ą x qual (fu st) (dR st) (aF st) .none kV doc pm an Ph ct/\K.lookup f=Z ⟨oc,od,.func fd,Si⟩/\ù K Ph qual=ū
 kp:Û K (.ref f)=ū
section
variable{K:Â}
theorem Fun.binds{x qual:Str}{st:Ç}{f:Addr}{j:Ë}{ps:Y Str}(F:Fun K x qual st f j)
  (h:∀(kV a g:Value)(e:Ū Addr)(c ct:Value)(us:Y Value),us.length=ps.length->ļ (ą x qual (fu st) (dR st) (aF st) .none kV a g e c ct) ⟨us,[]⟩=pure (ps.zip us)):Binds K j ps []:=by
 let⟨o,p,kV,a,g,e,c,ct,m,rfl,lk,l⟩:=F.ex;show .all (h kV a g e c ct)
theorem vJ{x qual:Str}{st:Ç}{f:Addr}{m:Value}{o g:Ū Addr}{j:Array (Ū Value)}{kV a h e ct:Value}(l:K.lookup f=Z ⟨m,o,.func (ą x qual (fu st) (dR st) (aF st) .none kV a h g e ct),j⟩)
  (c:ù K e qual=ū) (k:Û K (.ref f)=ū):Fun K x qual st f (ą x qual (fu st) (dR st) (aF st) .none kV a h g e ct):=⟨⟨m,o,kV,a,h,g,e,ct,j,S,l,c⟩,k⟩
end
theorem cq{n:Nat}(h:n<=1000):n<sizeLine:=Nat.lt_of_le_of_lt h 'b'
section
variable{X:Cx}
theorem pv(i:Nat){x:Str}{a:Õ}(e:X.N[i]?=Z x:=by rfl)(f:cx X.env.scope x:=by nofun)(hd:ad x:=by decide)
  (c:am x:=by decide):PE X (.Name x a) (je i):=tX e f hd c
end
theorem xk{A B:Prop}(h:B):if Ŭ=ū then A else B:=by rw[Kr Lh];show h
theorem xP{A B:Prop}(h:A):if ū=ū then A else B:=by rw[Kq S];show h
noncomputable def Same(H a:Hp):Prop:=∀b o,H b=Z o->a b=Z o
theorem Same.refl(H:Hp):Same H H:=λ_ _ h=>h
theorem Same.trans{H e f:Hp}(a:Same H e)(b:Same e f):Same H f:=λc o h=>b c o (a c o h)
theorem Same.free{H a:Hp}(e:Same H a){l:Addr}(h:a l=ō):H l=ō:=by
 cases q:H l with
 |none=>rfl
 |some o=>
  rw[e l o q]at h;cases h
theorem Same.seq{K:Â}{H c:Hp}{a:Addr}{xs:Y V}(e:Same H c)(h:SqL K H a xs):SqL K c a xs:=by
 rcases h with (h|⟨o,h⟩)|h
 ·show .inl (.inl (e _ _ h))
 ·show .inl (.inr ⟨o,e _ _ h⟩)
 ·show .inr h
section
variable{a:Type}[DecidableEq a]
noncomputable def eR(c:Y (a×V))(k:a):Ū V:=(c.find? λe=>decide (e.1=k)).map (·.2)
noncomputable def fC(e:Y (a×V))(k:a)(v:V):Y (a×V):=
 if (e.any λc=>decide (c.1=k))=ū then e.map (λc=>if c.1=k then (c.1,v) else c) else e++[(k,v)]
theorem nh{p:a×V}{r:Y (a×V)}{k:a}(e:p.1=k):eR (p::r) k=Z p.2:=by simp[eR,Mr,e]
theorem oA{p:a×V}{r:Y (a×V)}{k:a}(e:¬ p.1=k):eR (p::r) k=eR r k:=by simp[eR,Mr,e]
theorem uX(k:a):∀c:Y (a×V),(c.any λf=>decide (f.1=k))=(eR c k).isSome
 | []=>rfl
 |p::r=>by
  rw[MI];by_cases e:p.1=k
  ·simp only[nh e,Ld e,Bool.true_or,ĕ]
  ·rw[oA e,KU e,Bool.false_or];show uX k r
theorem yQ(c:Y (a×V))(k:a)(v:V):(fC c k v).length<=c.length+1:=by
 unfold fC;split
 ·rw[wy];omega
 ·rw[Kp,KA,LF];omega
theorem RelO.isSome_eq{o:Ū V}{u:Ū Value}(r:RelO o u):o.isSome=u.isSome:=by
 cases o with
 |none=>cases u with
  |none=>rfl
  |some _=>show (show False from r).elim
 |some _=>cases u with
  |none=>show (show False from r).elim
  |some _=>rfl
theorem KV.val{g:Y (a×V)}{vs:Y (a×Value)}(r:KV g vs)(k:a):RelO (eR g k) (ć vs k):=by
 unfold KV at r
 induction r with
 |nil=>show Þ
 | @cons p q ps f h t m=>
  let⟨j,l⟩:=h;by_cases e:p.1=k
  ·have c:q.1=k:=j.symm.trans e
   have b:ć (q::f) k=Z q.2:=by simp[ć,Mr,c]
   rw[nh e,b];show l
  ·have c:¬ q.1=k:=λz=>e (j.trans z)
   have b:ć (q::f) k=ć f k:=by simp[ć,Mr,c]
   rw[oA e,b];show m
theorem KV.any{e:Y (a×V)}{vs:Y (a×Value)}(r:KV e vs)(k:a):(e.any λc=>decide (c.1=k))=vs.any λc=>decide (c.1=k):=by
 unfold KV at r
 induction r with
 |nil=>rfl
 |cons h t f=>rw[MI,MI,f,h.1]
theorem KV.repl{g:Y (a×V)}{vs:Y (a×Value)}(r:KV g vs)(k:a){y:V}{u:Value}(m:RelV y u) :
  KV (g.map λc=>if c.1=k then (c.1,y) else c) (vs.map λc=>if c.1=k then (c.1,u) else c):=by
 unfold KV at r ⊢
 induction r with
 |nil=>show .nil
 | @cons p q ps o h t l=>
  rw[K1,K1];refine .cons ?_ l;let⟨f,j⟩:=h;by_cases e:p.1=k
  ·rw[Kq e,Kq (f.symm.trans e)];show⟨f,m⟩
  ·rw[Kr e,Kr (λz=>e (f.trans z))];show⟨f,j⟩
theorem KV.put{c:Y (a×V)}{vs:Y (a×Value)}(r:KV c vs)(k:a){y:V}{u:Value}(f:RelV y u):KV (fC c k y) (stored vs k u):=by
 unfold fC stored;rw[r.any k];by_cases e:(vs.any λg=>decide (g.1=k))=ū
 ·rw[Kq e,Kq e];show r.repl k f
 ·rw[Kr e,Kr e];show ĉ r ⟨S,f⟩
theorem KV.length{c:Y (a×V)}{vs:Y (a×Value)}(r:KV c vs):c.length=vs.length:=Nu r
end
theorem qi{P:Ä}{w:Å}{k:aK}{u:Value}(r:RelV (kV k) u):(eQ P w).is k u=ū:=by
 cases k with
 |inl i=>let⟨t,e⟩:=(show ∃t,u=Value.int i t from r);subst e;show AC P w i t
 |inr x=>let⟨t,e⟩:=(show ∃t,u=Value.str x t from r);subst e;show G2 P w x t
theorem uA{P:Ä}{w:Å}:∀{a:Y aK}{us:Y Value},Vals (a.map kV) us->ItemsAre (eQ P w) a us
 | [],_,r=>by rw[Oz]at r;cases r;show .nil
 |k::a,_,r=>by
  rw[K1]at r
  cases r with
  |cons h t=>show .cons (qi h) (uA t)
noncomputable abbrev KT(H:Hp):Y (Y aK×V)->Y (Y aK×Addr×Value)->Prop:=Paired λp q=>p.1=q.1/\H q.2.1=Z (.tup (p.1.map kV))/\RelV p.2 q.2.2
theorem KT.val{H:Hp}{f:Y (Y aK×V)}{xs:Y (Y aK×Addr×Value)}(r:KT H f xs)(k:Y aK):RelO (eR f k) ((Ġ xs k).map (·.2)):=by
 induction r with
 |nil=>show Þ
 | @cons p q ps c h t l=>
  let⟨g,_,j⟩:=h;by_cases e:p.1=k
  ·have a:q.1=k:=g.symm.trans e
   have b:Ġ (q::c) k=Z q.2:=by simp[Ġ,Mr,a]
   rw[nh e,b];show j
  ·have a:¬ q.1=k:=λz=>e (g.trans z)
   have b:Ġ (q::c) k=Ġ c k:=by simp[Ġ,Mr,a]
   rw[oA e,b];show l
theorem KT.repl{H:Hp}{f:Y (Y aK×V)}{xs:Y (Y aK×Addr×Value)}(r:KT H f xs)(k:Y aK){y:V}{u:Value}(m:RelV y u) :
  KT H (f.map λc=>if c.1=k then (c.1,y) else c) (xs.map (putAt k u)):=by
 induction r with
 |nil=>show .nil
 | @cons p q ps o h t l=>
  rw[K1,K1];refine .cons ?_ l;let⟨a,g,j⟩:=h;unfold putAt;by_cases e:p.1=k
  ·rw[Kq e,Kq (a.symm.trans e)];show⟨a,g,m⟩
  ·rw[Kr e,Kr (λz=>e (a.trans z))];show⟨a,g,j⟩
theorem KT.put{H:Hp}{a:Y (Y aK×V)}{xs:Y (Y aK×Addr×Value)}(r:KT H a xs)(k:Y aK){b:Addr}{y:V}{u:Value}(f:H b=Z (.tup (k.map kV)))(c:RelV y u) :
  KT H (fC a k y) (storedH xs k b u):=by
 have e:(a.any λg=>decide (g.1=k))=(Ġ xs k).isSome:=by rw[uX,(r.val k).isSome_eq,Ě]
 unfold fC storedH;rw[e];by_cases q:(Ġ xs k).isSome=ū
 ·rw[Kq q,Kq q];show r.repl k c
 ·rw[Kr q,Kr q];show ĉ r ⟨S,f,c⟩
theorem KT.keeps{H a:Hp}{c:Y (Y aK×V)}{xs:Y (Y aK×Addr×Value)}(r:KT H c xs)(e:∀b ys,H b=Z (.tup ys)->a b=Z (.tup ys)):KT a c xs:=
 Paired.mapP r λ_ _ z=>⟨z.1,e _ _ z.2.1,z.2.2⟩
section
variable{P:Ä}{w:Å}{H:Hp}{h:Heap}{a:Addr}
theorem wV{u:HO}(ok:HOk P w H h)(e:Rd H a u):ObjOk P w H h a u:=e.ok ok
theorem xr{c:Y (aK×V)}(ok:HOk P w H h)(e:Rd H a (.dK c)):c.length<=sizeLine/\(a==Ü)=Ŭ/\∃vs,KV c vs/\h.DictOf (eQ P w) a vs:=
 show ObjOk P w H h a (.dK c)from wV ok e
theorem GA{c:Y (aK×V)}(ok:HOk P w H h)(e:H a=Z (.dK c)):c.length<=sizeLine/\(a==Ü)=Ŭ/\∃vs,KV c vs/\h.DictOf (eQ P w) a vs:=xr ok (.inl e)
theorem rV{c:Y aK}(ok:HOk P w H h)(e:H a=Z (.tup (c.map kV))):(ÿ (eQ P w)).is h c a:=by let⟨_,f,r,o,g,⟨j,_⟩,n,l⟩:=(show ObjOk P w H h a (.tup (c.map kV))from ok a _ e);show⟨o,f.toArray,n,g,j,l,by simpa using uA r⟩
theorem vL{f:Y (Y aK×V)}(ok:HOk P w H h)(e:Rd H a (.dT f)):f.length<=sizeLine/\(a==Ü)=Ŭ /\
  ∃xs,KT H f xs/\h.DictOfH (ÿ (eQ P w)) a xs:=by
 let⟨z,y,xs,r,o,es,j,u,v,A,B,C⟩:=(show ObjOk P w H h a (.dT f)from wV ok e);refine⟨z,y,xs,r,o,es,j,u,v,A,B,λx c=>?_,C⟩
 have all:∀{l:Y (Y aK×V)}{m:Y (Y aK×Addr×Value)},KT H l m->∀x∈m,(ÿ (eQ P w)).is h x.1 x.2.1:=by
  intro l m q
  induction q with
  |nil=>intro x c;show nomatch c
  | @cons p q ps F g t E=>
   intro x c;rcases Kz.mp c with e|c
   ·subst e;show rV ok (by rw[←g.1];show g.2.1)
   ·show E x c
 show all r x c
theorem Et{c:Y (Y aK×V)}(ok:HOk P w H h)(e:H a=Z (.dT c)):c.length<=sizeLine/\(a==Ü)=Ŭ /\
  ∃xs,KT H c xs/\h.DictOfH (ÿ (eQ P w)) a xs:=vL ok (.inl e)
end
noncomputable def DGet(H:Hp)(a:Addr)(y:V)(r:Ū V):Prop:=
 (∃c k,Rd H a (.dK c)/\y=kV k/\r=eR c k)\/∃c k b,Rd H a (.dT c)/\y=.ref b/\H b=Z (.tup (k.map kV))/\r=eR c k
noncomputable def DPut(H:Hp)(a:Addr)(y v:V)(e:Hp):Prop:=
 (∃c k,H a=Z (.dK c)/\y=kV k/\c.length<sizeLine/\e=aq H a (.dK (fC c k v))) \/
 ∃c k b,H a=Z (.dT c)/\y=.ref b/\H b=Z (.tup (k.map kV))/\c.length<sizeLine/\e=aq H a (.dT (fC c k v))
theorem DGet.k{H:Hp}{a:Addr}{c:Y (aK×V)}{k:aK}(e:H a=Z (.dK c)):DGet H a (kV k) (eR c k):=.inl ⟨c,k,.inl e,S,S⟩
theorem DPut.k{H:Hp}{a:Addr}{c:Y (aK×V)}{k:aK}{v:V}(e:H a=Z (.dK c))(f:c.length<sizeLine):DPut H a (kV k) v (aq H a (.dK (fC c k v))):=.inl ⟨c,k,e,S,f,S⟩
section
variable{X:Cx}{f:Y (Addr×Ï)}{j:St}{H:Hp}{s:À}{a:Addr}{y v:V}{u r:Value}{o:Ū V}{A:É}{E:Value->À->Prop}
theorem Inv.big(I:Inv X f j H s):Ü<s.heap.objs.size:=by have h:Á<s.heap.objs.size:=(I.mod.glob.keeps I.bk).lt;show Nat.lt_trans 'b' h
theorem Ih{Q:Value->À->Prop}(x:A.units+1<â)(I:Inv X f j H s)(g:DGet H a y o)(p:RelV y u)(h:∀s',Inv X f j H s'->Q (.bool o.isSome) s') :
  wpAny (model X.prog X.w) A (Ê .In u (.ref a)) Q E s:=by
 rcases g with⟨t,k,e,m,l⟩|⟨t,k,b,e,m,w,l⟩
 ·subst m;let⟨z,hd,vs,c,dd⟩:=xr I.hok e;refine wpAny_in_of (qi p) hd dd.mapOf ?_;rw[←(c.val k).isSome_eq,←l];show h _ (I.tok _)
 ·subst m;cases (show u=Value.ref b from p);let⟨z,hd,xs,c,dd⟩:=vL I.hok e;refine wpAny_in_heap (ň x) (rV I.hok w) hd dd ?_;have q:=(c.val k).isSome_eq;rw[Ě]at q;rw[←q,←l];show h _ (I.tok _)
theorem yx{h':Heap}{t':Nat}{c:HO}(I:Inv X f j H s)(m:kS (H a))(l:Heap.SameBut a s.heap h')(h:∃q,h'.get? a=Z q)(new:ObjOk X.prog X.w (aq H a c) h' a c) :
  Inv X f j (aq H a c) { s with heap:=h',toks:=t' }:=
 I.write (x:=a) (e:=a) m (.inl S) (λb q g z=>(l.2 b g).trans z) h new
theorem G5{P:Ä}{w:Å}{g:Hp}{h':Heap}{c:Y (aK×V)}{vs:Y (aK×Value)}(z:c.length<=sizeLine)(hd:(a==Ü)=Ŭ)(e:KV c vs)(dd:h'.DictOf (eQ P w) a vs) :
  ObjOk P w g h' a (.dK c):=⟨z,hd,vs,e,dd⟩
theorem IB{J:Hp}{Q:Unit->À->Prop}(aA:A.units+1<â)(I:Inv X f j H s)(g:DPut H a y v J)(O:RelV y u)(N:RelV v r)(h:∀s',Inv X f j J s'->Q Unit.unit s') :
  wpAny (model X.prog X.w) A (setItem (.ref a) u r) Q E s:=by
 rcases g with⟨p,k,e,B,l,x⟩|⟨p,k,b,e,B,K,l,x⟩
 ·subst B x;let⟨z,hd,vs,m,dd⟩:=GA I.hok e
  have G:vs.length<=sizeLine:=by rw[←m.length];show z
  have C:(fC p k v).length<=sizeLine:=by have:=yQ p k v;omega
  refine wpAny_setItem_pairs (hsz:=G) (qi O) dd λh' t F=>h _ ?_
  have a_:∃q,h'.get? a=Z q:=let ⟨q,_,_,w,_⟩:=t;⟨q,w⟩
  show yx I (by rw[e];show Þ) F a_ (G5 C hd (m.put k N) t)
 ·subst B x;cases (show u=Value.ref b from O);let⟨z,hd,xs,m,dd⟩:=Et I.hok e
  have G:xs.length<=sizeLine:=by rw[←Nu m];show z
  have C:(fC p k v).length<=sizeLine:=by have:=yQ p k v;omega
  refine wpAny_setItem_heap (hsz:=G) (ň aA) (rV I.hok K) dd λh' t F=>h _ ?_;let⟨q,es,P,w,R,ap,T,_,U⟩:=t;refine yx I (by rw[e];show Þ) F ⟨q,w⟩ ⟨C,hd,_,(m.put k K N).keeps λc ys M=>?_,q,es,P,w,R,ap,T,U⟩;rw[aJ (za M e (λz=>nomatch z))];show M
end
noncomputable def IZ(g td:TE):TE:=λe H Q=>g e H λy f=>td e f λx c=>∃a o,x=.ref a/\DGet c a y o/\Q (.bl o.isSome) c
noncomputable def Hf(td l j:TE):TS:=λD c H=>j c H λv f=>td c f λx g=>l c g λy h=>∃a e,x=.ref a/\DPut h a y v e/\D.nx c e
section
variable{X:Cx}{o i c:Ã}{f e:Õ}{td j l:TE}
theorem FG(C:X.A.units+1<â)(A:PE X i j)(B:PE X o td):PC X .In i o (IZ j td):=by intro m s p H Q I h;refine aE (A m s p H _ I h) λN M ⟨y,r,v,K,F⟩=>aE (B m M p r _ v F) λu O ⟨x,t,w,J,a,E,ex,g,G⟩=>?_;subst ex;obtain rfl:u=Value.ref a:=J;show Ih C w g K λP z=>⟨.bl E.isSome,t,z,S,G⟩
theorem yX(K:X.A.units+1<â)(G:PE X o td)(F:PE X i j)(M:PE X c l)(J:Î c (Z (.Subscript o i e)) f.line X.env=pure Ŭ) :
  PS X (.Assign [.Subscript o i e] c f) (Hf td j l):=by
 intro m s p H D I h;refine wpAny_Assign_Subscript (aE (M m s p H _ I h) λr T ⟨v,t,A,Q,N⟩=>aE (G m T p t _ A N) λu U ⟨x,w,B,R,O⟩=>aE (F m U p w _ B O) λaA s3 ⟨y,a_,C,ap,a,z,ex,g,P⟩=>?_) J;subst ex;obtain rfl:u=Value.ref a:=R;show IB K C g ap Q λs4 E=>⟨p,z,E,P⟩
end
theorem zm{P:Ä}{w:Å}{H:Hp}(h:Heap)(a:Ü<h.objs.size):ObjOk P w H (h.push { cls:=.type "dict",data:=.dict #[] }) h.objs.size (.dK []):=
 ⟨Mq _,Mu.mpr (Lv (Lg a)),[],.nil,Heap.DictOf.new h⟩
noncomputable def Gi:TE:=λ_ H Q=>∀p,H p=ũ->Q (.ref p) (aq H p (.dK []))
section
variable{X:Cx}{c:Õ}
theorem pe_dnewK:PE X (.Dict [] [] c) Gi:=λe s f H Q I h=>
 wpAny_Dict_empty ⟨.ref s.heap.objs.size,_,I.laid (a:=s.heap.objs.size) (o:=.dK []) (t':=s.toks) (λ_ _ q=>Ks _ q) (Kw _) (zm s.heap I.big),S,h _ (I.hok.fresh (Kw _))⟩
end
end L2
set_option maxHeartbeats 4000000
namespace L2
open PySem PySem.Spec PyProof.Rows
theorem FI{env:é}(names:Y (Str×NameKind))(v:∀x∈names,x.2=.free->∃c,env.cells.lookup x.1=Z c):∀f:Y (Str×Addr),
  ∃cl:Y (Str×Addr),(forIn names f (λ(x:Str×NameKind) t=>if (x.2==.free)=ū then do let a ←cellOf env x.1;pure (ForInStep.yield ((x.1,a)::t)) else pure (ForInStep.yield t)):Sem (Y (Str×Addr)))=pure cl /\
   (∀p∈cl,p∈f\/env.cells.lookup p.1=Z p.2)/\(∀p∈f,p∈cl)/\∀x,(x,NameKind.free)∈names->∃c,(x,c)∈cl:=by
 induction names with
 |nil=>intro f;show⟨f,S,λp g=>.inl g,λ_ g=>g,λx h=>by simp at h⟩
 |cons n r y=>
  intro f;let⟨n,k⟩:=n;have w:∀x∈r,x.2=.free->∃c,env.cells.lookup x.1=Z c:=λx h=>v x (Kt _ h);by_cases o:k=.free
  ·subst o;let⟨c,u⟩:=v (n,.free) Ku S;let⟨cl,e,l,j,m⟩:=y w ((n,c)::f);refine⟨cl,?_,λp g=>?_,λp g=>j p (Kt _ g),λx h=>?_⟩
   ·rw[NP,←e]
    have q:cellOf env n=pure c:=by unfold cellOf;rw[u]
    simp[q]
   ·rcases l p g with z|z
    ·rcases Kz.mp z with rfl|z
     ·show .inr u
     ·show .inl z
    ·show .inr z
   ·rcases Kz.mp h with z|z
    ·cases z;show⟨c,j _ Ku⟩
    ·show m x z
  ·let⟨cl,e,l,j,m⟩:=y w f;refine⟨cl,?_,l,j,λx h=>?_⟩
   ·rw[NP,←e]
    have q:(k==NameKind.free)=Ŭ:=by simpa using o
    simp[q]
   ·rcases Kz.mp h with z|z
    ·cases z;show absurd S o
    ·show m x z
theorem D6{cl:Y (Str×Addr)}{cells:Y (Str×Addr)}(h:∀p∈cl,cells.lookup p.1=Z p.2):∀x c,cl.lookup x=Z c->cells.lookup x=Z c:=λx c e=>h (x,c) (LK e)
theorem AE{cl:Y (Str×Addr)}{x:Str}{c:Addr}:(x,c)∈cl->∃a,cl.lookup x=Z a:=by
 induction cl with
 |nil=>intro h;simp at h
 |cons p r f=>
  intro h;rw[K4]
  cases e:x==p.1 with
  |true=>show⟨_,S⟩
  |false=>
   rcases Kz.mp h with z|z
   ·subst z;simp at e
   ·show f z
theorem ye{scope:ã}{env:é}(h:∀x∈scope.names,x.2=.free->∃c,env.cells.lookup x.1=Z c) :
  ∃cl,closureFor scope env=pure cl/\(∀x c,cl.lookup x=Z c->env.cells.lookup x=Z c)/\∀x,(x,NameKind.free)∈scope.names->∃c,cl.lookup x=Z c:=by
 let⟨cl,e,a,_,f⟩:=FI (env:=env) scope.names h [];refine⟨cl,?_,D6 λp j=>(a p j).elim (λz=>by simp at z) id,λx l=>?_⟩
 ·unfold closureFor;simp only;rw[←e];simp
 ·let⟨c,g⟩:=f x l;show AE g
theorem tE{env:é}:∀{names:Y (Str×NameKind)}{x:Str}{k:NameKind},
  (names.map λ(n,k)=>if (k==NameKind.free&&env.scope.kind==.function&&env.kindOf n==Z .cell) then (n,NameKind.cell) else (n,k)).lookup x=Z k->(k=.cell\/k=.free)->(x,NameKind.free)∈names\/(x,NameKind.cell)∈names
 | [],_,_,h,_=>by simp at h
 |(n,k)::r,x,j,h,c=>by
  have g:=@tE env r x j;have h:List.lookup x ((if (k==NameKind.free&&env.scope.kind==.function&&env.kindOf n==Z .cell)=ū then (n,NameKind.cell) else (n,k))::_)=_:=h;by_cases a:(k==NameKind.free&&env.scope.kind==.function&&env.kindOf n==Z .cell)=ū
  ·rw[Kq a]at h
   have l:k=.free:=by simp only[KQ,MW]at a;show a.1.1
   rw[K4]at h
   cases e:x==n with
   |true=>
    have:x=n:=by simpa using e
    subst this;subst l;show .inl Ku
   |false=>
    simp only[e]at h;show (g h c).imp (Kt _) (Kt _)
  ·rw[Kr a]at h;rw[K4]at h
   cases e:x==n with
   |true=>
    have f:k=j:=by simpa [e] using h
    have:x=n:=by simpa using e
    subst this;subst f;rcases c with rfl|rfl
    ·show .inr Ku
    ·show .inl Ku
   |false=>
    simp only[e]at h;show (g h c).imp (Kt _) (Kt _)
noncomputable def cK(X:Cx)(scope:ã)(N':Y Str)(cl:Y (Str×Addr))(C:Addr)(e:À)(a:Hp)(c:Y Addr):Cx where
 prog:=X.prog
 w:=X.w
 K:=X.K
 mg:=X.mg
 base:=X.base
 A:=X.A
 N:=N'
 s₀:=e
 H₀:=a
 env:=ď scope cl C X.env
 outer:=X.stack
 stack:=X.stack
 ex:=c
 fn:=λx=>scope.names.lookup x==Z .cell
 calm:=X.calm
 pn:=[]
 xe:=λ_ _=>False
noncomputable def fv(cap:Y (Ū Nat))(a:St):St:=cap.map λo=>o.bind λi=>(a[i]?).join
structure CompScope(N:List Str)(sc scope:ã)(N':List Str)(cap:List (Option Nat)):Prop where
 kind:scope.kind=.function
 cel:∀x∈scope.names,x.2=.cell->scope.names.lookup x.1=Z .cell
 names:∀x∈scope.names,x.2=.local->scope.names.lookup x.1=Z .local
 free:∀x∈scope.names,x.2=.free->sc.names.lookup x.1=Z .cell
 fst:∀x∈scope.names,x.2=.free->scope.names.lookup x.1=Z .free
 nd:N'.Nodup
 len:cap.length=N'.length
 at_:∀p∈cap.zip N',∀i,p.1=Z i->N[i]?=Z p.2/\(p.2,NameKind.free)∈scope.names
noncomputable def kn(X:Cx)(e:Y Ã)(t:TT):Prop:=
 ∀(a:Y (Addr×Ï))(s:À)(f:St)(H:Hp)(Q:Bool->Hp->Prop),Inv X a f H s->t f H Q->
  wpAny (model X.prog X.w) X.A (forIn e ū λc r=>if r=ū then do let ok ←isTrue c X.env (eval c X.env);pure (ForInStep.yield ok) else pure (ForInStep.yield r)) (TP X a f Q) X.xe s
noncomputable def A6:TT:=λ_ H Q=>Q ū H
theorem HM{X:Cx}:kn X [] A6:=λ_ _ _ H _ I h=>wpAny_tests_nil ⟨H,I,h⟩
theorem FW{X:Cx}{c:Ã}{t:TT}(h:PT X c t):kn X [c] t:=λa s f H Q I e=>wpAny_tests_one (h a s f H Q I e)
noncomputable def jx(w:TI)(cap:Y (Ū Nat))(g:TG)(u:TT)(v:TE):TE:=λr H Q=>w r H λJ j=>∀D,j D=ũ->∃W:Nat->Nat->St->Hp->Prop,(∃m,W 0 m (fv cap r) (aq j D (.lst []))) /\
 ∀i m f c,W i m f c->(J.stop i c/\Q (.ref D) c)\/(J.go i c/\∃N:St->Hp->Prop,(∀h e,N h e->∃p,p<m/\W (i+1) p h e) /\
  ∀x e,J.yld i c x e->g x f e λa t=>u a t λb l=>if b=ū then v a l λy o=>∃ys,o D=Z (.lst ys)/\ys.length<sizeLine/\N a (aq o D (.lst (ys++[y]))) else N a l)
theorem Ad{prog:Ä}{w:Å}{A:É}{R:Result->À->Prop}{s:À}{z a o:Ã}{C:Y Ã}{scope:ã}{H:Õ}{K y:Value}{env:é}(I:Nat->À->Prop)
  (J:∀n s,I n s->wpAny (model prog w) A (ò K) (λr e=>match r with
   |none=>R (.ok .next) e
   |some v=>wpAny (model prog w) A (ñ a K v) (λ_ f=>wpAny (model prog w) A (assign a env v) (λ_ p=>
     wpAny (model prog w) A (forIn C ū λc r=>if r=ū then do let ok ←isTrue c env (eval c env);pure (ForInStep.yield ok) else pure (ForInStep.yield r)) (λok g=>
      if ok=ū then wpAny (model prog w) A (eval z env) (λx t=>
       wpAny (model prog w) A (call (.builtin "list.append") [y,x]) (λ_ u=>∃m,m<n/\I m u) (λ_ _=>False) t) (λ_ _=>False) g
      else ∃m,m<n/\I m g) (λ_ _=>False) p) (λ_ _=>False) f) (λ_ _=>False) e) (λ_ _=>False) s)
  (n:Nat) (h:I n s):ì (model prog w) A (.compLoop (.ListComp z [⟨a,o,C,0⟩] scope H) 0 K y env) R s:=by
 refine codeAny_loop S I (λn s M=>?_) n h;change wpAny _ A ((compTurn (.ListComp z [⟨a,o,C,0⟩] scope H) 0 K y env).onRaise (λx=>do ĝ x env;theTreesLotGoes x)) _ _ s;refine wpAny_noted ?_;rw[compTurn_list];refine Ko (M4 (Ko (L0 (J n s M) (λr e j=>?_) λ_ _ h'=>h'.elim)))
 cases r with
 |none=>show KD j
 |some v=>
  refine Ko (L0 j (λ_ f B=>?_) λ_ _ h'=>h'.elim);refine Ko (L0 B (λ_ p E=>Ko (L0 E (λok g l=>?_) λ_ _ h'=>h'.elim)) λ_ _ h'=>h'.elim)
  cases ok with
  |false=>show KD ⟨S,l⟩
  |true=>
   show Ko (Ko (L0 l (λx t F=>Ko (L0 F (λ_ u G=>KD (KD ⟨S,G⟩)) λ_ _ h'=>h'.elim)) λ_ _ h'=>h'.elim))
section
variable{X:Cx}{t F f:Ã}{l:Y Ã}{scope:ã}{B:Õ}{N':Y Str}{cap:Y (Ū Nat)}{O:TI}{g:TG}{K:TT}{G:TE}
theorem l8:∀(names:Y (Str×NameKind))(n:Nat)(a:Y (Str×Addr)),Ù n names a=Ù n names []++a
 | [],_,_=>rfl
 |(x,k)::r,n,a=>by
  unfold Ù;split
  ·rw[l8 r (n+1) ((x,n)::a),l8 r (n+1) [(x,n)],KS];rfl
  ·show l8 r n a
theorem sY:∀(names:Y (Str×NameKind))(n:Nat){x:Str}{c:Addr},(x,c)∈Ù n names []->(x,NameKind.cell)∈names
 | [],_,_,_,h=>by simp[Ù]at h
 |(y,k)::r,n,x,c,h=>by
  unfold Ù at h;split at h
  ·rename_i a;rw[l8]at h;rcases K6.mp h with h|h
   ·show Kt _ (sY r _ h)
   ·have e:=KH.mp h;cases e
    have:k=.cell:=by simpa using a
    subst this;show Ku
  ·show Kt _ (sY r _ h)
theorem CU{M:ö}{A:É}{E:Value->À->Prop}{s:À}{globals:Addr}{cl:Y (Str×Addr)}{qual:Str}{outer:é}{Q:é->À->Prop}
  (c:∀h',h'.Ns s.heap.objs.size (λ_=>ũ)->(∀b o,s.heap.get? b=Z o->h'.get? b=Z o)->CellsOk h' (s.heap.objs.size+1) (Ù (s.heap.objs.size+1) scope.names [])->
   Q { scope:=scope,locals:=s.heap.objs.size,globals:=globals,cells:=Ù (s.heap.objs.size+1) scope.names []++cl,qual:=qual,func:=ũ,code:=outer.code,frame:=outer.frame,builtins:=outer.builtins } { s with heap:=h' }) :
  wpAny M A (č scope globals cl [] qual ũ .none (Z outer)) Q E s:=by
 simp only[č,ĕ,M5];refine Ko (wpAny_alloc ?_);refine Ko (wpAny_layCells _ (λname kind cells=>by cases a:kind==NameKind.cell<;>simp[a]) _ _ _ _ ?_);have ok:=cellsFrom_ok scope.names (s.heap.push { cls:=.type "dict",data:=.dict #[] }) (s.heap.objs.size+1) [] ⟨λ_ _ h=>(nomatch h),List.Pairwise.nil⟩ (by rw[LG];show Kw _);rw[LG]at ok;rw[show ({ s with heap:=s.heap.push { cls:=.type "dict",data:=.dict #[] } }:À).heap.objs.size=s.heap.objs.size+1 from LG ..,l8];refine Ko ?_;rw[OV];show KD (KD (c _ ((Heap.Ns.new s.heap (.type "dict")).keeps (Ť _ _)) (λb o e=>Ť _ _ b o (Ks _ e)) ok))
theorem HS{N:Y (Addr×Ï)}{P:St}{H:Hp}{s T:À}{cl A:Y (Str×Addr)}{C:Addr}{fp:Y Addr}{m:Str->Ū Value}(ap:CompScope X.N X.env.scope scope N' cap)(I:Inv X N P H s)
  (Tj:∀x c,cl.lookup x=Z c->X.env.cells.lookup x=Z c) (QN:∀x,(x,NameKind.free)∈scope.names->∃c,cl.lookup x=Z c) (E:s.heap.objs.size<=C) (T2:T.os=s.os) (hg:T.gens=s.gens)
  (hk:∀b o,s.heap.get? b=Z o->T.heap.get? b=Z o) (hn:T.heap.Ns C m) (Ws:∀b∈fp,dW X N H b) (aA:∀b∈fp,b<s.heap.objs.size) (hw:CellsOk T.heap (C+1) A) (hwm:∀x c,(x,c)∈A->(x,NameKind.cell)∈scope.names) (Sk:∀x,(x,NameKind.cell)∈scope.names->∃c,A.lookup x=Z c) :
  Inv (cK X scope N' (A++cl) C s H fp) [] (fv cap P) H T:=by
 have R:∀x c,(A++cl).lookup x=Z c->((x,c)∈A/\C<c)\/(A.lookup x=ũ/\X.env.cells.lookup x=Z c):=λx c h=>by
  rw[N4]at h
  cases e:A.lookup x with
  |none=>rw[e]at h;show .inr ⟨S,Tj x c (by simpa using h)⟩
  |some U=>
   rw[e]at h
   have:U=c:=by simpa using h
   subst this;show .inl ⟨LK e,(hw.empty _ _ (LK e)).2⟩
 have M:∀x c,X.env.cells.lookup x=Z c->c<s.heap.objs.size:=λx c h=>by let⟨v,q⟩:=I.cell x c h;show q.lt
 have Vo:∀x,(x,NameKind.free)∈scope.names->∃c,(A++cl).lookup x=Z c/\X.env.cells.lookup x=Z c:=λx w=>by
  let⟨c,hc⟩:=QN x w;refine⟨c,?_,Tj x c hc⟩;rw[N4]
  cases e:A.lookup x with
  |none=>simpa using hc
  |some U=>
   have a1:=ap.cel _ (hwm x U (LK e)) S;have a2:=ap.fst _ w S;have a1:scope.names.lookup x=Z .cell:=a1;have a2:scope.names.lookup x=Z .free:=a2;rw[a1]at a2;cases a2
 refine⟨⟨I.ok.mod,ap.kind,I.ok.glob,I.ok.blt,E,λx y c h1 a=>?_,λx w=>?_,λx c w h=>?_,I.ok.hd,I.ok.frames,.inl S,
   λb J=>⟨Lg (Lb (aA b J) E),λx c e=>?_⟩,I.bs,K3 I.ok.bsz I.sz,λb o e J=>?_,λb J hf=>?_,I.stack,I.stkFree⟩,
  T2,by rw[hg];show I.bare,Un.kept hk,⟨m,hn,λi x v h1 a h3=>?_⟩,λx c e=>?_,I.hok.fresh E,λx c e=>?_,λp hp=>absurd (show p∈([]:Y (Addr×Ï))from hp) (by simp),I.hok.kept hk,?_⟩
 ·rcases R x c h1 with⟨a1,a2⟩|⟨_,a2⟩<;>rcases R y c a with⟨b1,b2⟩|⟨_,b2⟩
  ·show name_of_addr hw.apart a1 b1
  ·show absurd (M y c b2) (NQ.mpr (K3 E (MD a2)))
  ·show absurd (M x c a2) (NQ.mpr (K3 E (MD b2)))
  ·show I.ok.inj x y c a2 b2
 ·have q:(x,NameKind.free)∈scope.names\/(x,NameKind.cell)∈scope.names:=by
   rcases w with w|w
   ·show tE w (.inl S)
   ·show tE w (.inr S)
  rcases q with q|q
  ·let⟨c,h,_⟩:=Vo x q;show⟨c,h⟩
  ·let⟨c,h⟩:=Sk x q;show⟨c,by change (A++cl).lookup x=_;rw[N4,h];rfl⟩
 ·have w:(scope.names.lookup x==Z .cell)=ū:=w
  have w:scope.names.lookup x=Z .cell:=by simpa using w
  let⟨U,h'⟩:=Sk x (LK w);rcases R x c h with⟨_,a2⟩|⟨a1,_⟩
  ·show K3 E (MD a2)
  ·rw[h']at a1;cases a1
 ·rcases R x c e with⟨_,a2⟩|⟨_,a2⟩
  ·show λz=>absurd (aA b J) (NQ.mpr (K3 E (by rw[←z];show MD a2)))
  ·show (Ws b J).2.2.2.2.1 x c a2
 ·rcases (Ws b J).2.2.2.1 with z|z
  ·show I.ok.noex b o e z
  ·show absurd (Lb (KI e) (K3 I.ok.bsz z)) (Ms _)
 ·rcases Kz.mp (I.stkSub b hf)with z|z
  ·show (Ws b J).2.1 z
  ·show (Ws b J).2.2.1 z
 ·have a:(cap.map λo=>o.bind λi=>(P[i]?).join)[i]?=Z (Z v):=a;rw[Kv]at a
  cases ec:cap[i]? with
  |none=>rw[ec]at a;cases a
  |some o=>
   rw[ec]at a
   have a:(o.bind λi=>(P[i]?).join)=Z v:=by simpa using a
   cases o with
   |none=>cases a
   |some j=>
    have a:(P[j]?).join=Z v:=a
    have hj:P[j]?=Z (Z v):=by
     cases ej:P[j]? with
     |none=>rw[ej]at a;cases a
     |some y=>rw[ej]at a;show LW Z a
    have hz:(cap.zip N')[i]?=Z (Z j,x):=by rw[M9];show⟨ec,h1⟩
    let⟨q1,q2⟩:=ap.at_ _ (KN hz) j S;let⟨mx,hnx,hl⟩:=I.loc;have kc:=ap.free _ q2 S;let⟨u,r,lk⟩:=hl j x v q1 hj (.inr (.inl kc));refine⟨u,r,?_⟩;rcases lk with⟨k1,_⟩|⟨_,c,e,z⟩
    ·have:X.env.scope.names.lookup x=Z .local:=k1;rw[kc]at this;cases this
    ·let⟨U,Ve,Sr⟩:=Vo x q2;rw[e]at Sr;cases Sr
     have Q:(ď scope (A++cl) C X.env).kindOf x=Z .cell\/(ď scope (A++cl) C X.env).kindOf x=Z .free\/(ď scope (A++cl) C X.env).kindOf x=Z .local:=by
      rcases h3 with z|z|z
      ·show .inr (.inr z)
      ·show .inl z
      ·show .inr (.inl z)
     rcases Q with Q|Q|Q
     ·show .inr ⟨.inl Q,c,Ve,let ⟨o,ho,hd⟩:=z;⟨o,hk c o ho,hd⟩⟩
     ·show .inr ⟨.inr Q,c,Ve,let ⟨o,ho,hd⟩:=z;⟨o,hk c o ho,hd⟩⟩
     ·exfalso;have kl:(relabel scope X.env).names.lookup x=Z .local:=Q;have ml:=LK kl;let⟨⟨n,k⟩,hm,a_⟩:=KP.mp ml;have a_:(if (k==NameKind.free&&X.env.scope.kind==.function&&X.env.kindOf n==Z .cell)=ū then (n,NameKind.cell) else (n,k))=(x,NameKind.local):=a_;split at a_
      ·cases a_
      ·cases a_;have a1:=ap.names _ hm S;have a3:scope.names.lookup x=Z .free:=ap.fst _ q2 S;have a1:scope.names.lookup x=Z .local:=a1;rw[a3]at a1;cases a1
 ·rcases R x c e with⟨a1,_⟩|⟨_,a2⟩
  ·show⟨ũ,(hw.empty x c a1).1⟩
  ·let⟨v,o,ho,hd⟩:=I.cell x c a2;show⟨v,o,hk c o ho,hd⟩
 ·rcases R x c e with⟨_,a2⟩|⟨_,a2⟩
  ·show I.hok.fresh (K3 E (MD a2))
  ·show I.freeC x c a2
 ·change (fv cap P).length=N'.length;unfold fv;rw[wy,ap.len]
theorem vM{H:Y (Addr×Ï)}{σ:St}{j:Hp}{I:À}{it:Addr}{A:Y Addr}{tn:Nat->Heap->Prop}{J:It}{cl:Y (Str×Addr)}{RR:Value->Addr->Result->À->Prop}{E:Value->À->Prop}(Pt:X.calm=ū)(ap:CompScope X.N X.env.scope scope N' cap)
  (hg:∀(cl:Y (Str×Addr))(C:Addr)(s0:À)(H0:Hp),PG (cK X scope N' cl C s0 H0 A) F g) (ht:∀(cl:Y (Str×Addr))(C:Addr)(s0:À)(H0:Hp),kn (cK X scope N' cl C s0 H0 A) l K) (he:∀(cl:Y (Str×Addr))(C:Addr)(s0:À)(H0:Hp),PE (cK X scope N' cl C s0 H0 A) t G)
  (I2:Inv X H σ j I) (T:Turn X.prog X.w X.K F J A it tn) (Uq:tn 0 I.heap) (f2:∀b∈A,dW X H j b)
  (Tj:∀x c,cl.lookup x=Z c->X.env.cells.lookup x=Z c) (QN:∀x,(x,NameKind.free)∈scope.names->∃c,cl.lookup x=Z c)
  {P:V->Hp->Prop}
  (w:∀D,j D=ũ->∃W:Nat->Nat->St->Hp->Prop,(∃m,W 0 m (fv cap σ) (aq j D (.lst []))) /\
   ∀i m Q z,W i m Q z->(J.stop i z/\P (.ref D) z)\/(J.go i z/\∃N:St->Hp->Prop,(∀σ2 j,N σ2 j->∃m',m'<m/\W (i+1) m' σ2 j) /\
    ∀x j,J.yld i z x j->g x Q j λU H3=>K U H3 λb H4=>if b=ū then G U H4 λy H5=>∃ys,H5 D=Z (.lst ys)/\ys.length<sizeLine/\N U (aq H5 D (.lst (ys++[y]))) else N U H4))
  (hRR:∀D C z s' m',X.env.locals≠C->X.s₀.heap.objs.size<=C->(∀x c,X.env.cells.lookup x=Z c->c≠C)->(∀p∈X.pn++H,p.1≠C)->z C=ũ->s'.heap.Ns C m'->Inv X H σ z s'->P (.ref D) z->RR (.ref D) C (.ok .next) s') :
  wpAny (model X.prog X.w) X.A (newList []) (λacc M=>wpAny (model X.prog X.w) X.A (č scope X.env.globals cl [] X.env.qual ũ .none (Z X.env)) (λVp s₄=>
   ì (model X.prog X.w) X.A (.compStart (.ListComp t [⟨F,f,l,0⟩] scope B) 0 (.ref it) acc { Vp with scope:=relabel scope X.env }) (RR acc Vp.locals) s₄) E M) E I:=by
 refine Ml ?_ (by change 0<=sizeLine;decide);have I3:Inv X H σ (aq j I.heap.objs.size (.lst [])) { I with heap:=I.heap.push { cls:=.type "list",data:=.seq ([]:Y Value).toArray } }:=I2.lnew (t':=I.toks) .nil (by change 0<=sizeLine;decide);have k3:∀b o,I.heap.get? b=Z o->(I.heap.push { cls:=.type "list",data:=.seq ([]:Y Value).toArray }).get? b=Z o:=λb o e=>Ks _ e;have z3:(I.heap.push { cls:=.type "list",data:=.seq ([]:Y Value).toArray }).objs.size=I.heap.objs.size+1:=LG ..;have hD0:j I.heap.objs.size=ũ:=I2.fresh;generalize hs3:({ I with heap:=I.heap.push { cls:=.type "list",data:=.seq ([]:Y Value).toArray } }:À)=s3 at I3 ⊢
 have eh3:s3.heap=I.heap.push { cls:=.type "list",data:=.seq ([]:Y Value).toArray }:=by rw[←hs3]
 have eo3:s3.os=I.os:=by rw[←hs3]
 generalize hDD:I.heap.objs.size=D at I3 hD0 z3 ⊢;rw[←eh3]at k3 z3;have live:∀b∈A,∃o,I.heap.get? b=Z o/\∀v,o.data≠.cell v:=λb a=>T.obj 0 _ Uq b a
 have Xc:∀b∈A,b<D:=λb a=>by let⟨o,e,_⟩:=live b a;rw[←hDD];show KI e
 have f3:∀b∈A,dW X H (aq j D (.lst [])) b:=λb a=>⟨by rw[aJ (Lg (Xc b a))];show (f2 b a).1,(f2 b a).2⟩;refine CU λh4 hn4 k4 ok4=>?_;generalize hnw:Ù (s3.heap.objs.size+1) scope.names []=nw at ok4 ⊢;have st4:tn 0 h4:=T.keep 0 _ _ Uq λb _ o e=>k4 b o (k3 b o e)
 have I4:Inv (cK X scope N' (nw++cl) s3.heap.objs.size s3 (aq j D (.lst [])) A) [] (fv cap σ) (aq j D (.lst [])) { s3 with heap:=h4 }:=
  HS ap I3 Tj QN (Kw _) S S k4 hn4 f3 (λb a=>by rw[z3];show Nm (Xc b a)) ok4 (λx c h=>sY _ _ (hnw▸h)) λx h=>hnw▸sI (ap.cel _ h S)
 let⟨W,⟨m0,w0⟩,turn⟩:=w D hD0
 have Xd:∀{z:Hp},(∀b∈A,z b=ũ)->∀b∈A,dW (cK X scope N' (nw++cl) s3.heap.objs.size s3 (aq j D (.lst [])) A) [] z b:=λhn b a=>
  ⟨hn b a,Lg (by change b<s3.heap.objs.size;rw[z3];show Nm (Xc b a)),λhf=>I4.ok.exfs b a hf,.inl a,λx c e=>(I4.ok.exf b a).2 x c e,λp hp=>absurd (show p∈([]:Y (Addr×Ï))from hp) (by simp)⟩
 have loop:∀M:À,M={ s3 with heap:=h4 }->
   ì (model X.prog X.w) X.A (.compLoop (.ListComp t [⟨F,f,l,0⟩] scope B) 0 (.ref it) (.ref D) (ď scope (nw++cl) s3.heap.objs.size X.env)) (RR (.ref D) s3.heap.objs.size) M:=by
  rintro M rfl
  refine Ad (λn s'=>∃i Q z,Inv (cK X scope N' (nw++cl) s3.heap.objs.size s3 (aq j D (.lst [])) A) [] Q z s'/\tn i s'.heap/\(∀b∈A,z b=ũ)/\W i n Q z) ?_ m0
   ⟨0,fv cap σ,aq j D (.lst []),I4,st4,λb a=>(f3 b a).1,w0⟩
  rintro n s5 ⟨i,a_,H5,I5,bw,Wm,w5⟩;rcases turn i n a_ H5 w5 with⟨stop,qn⟩|⟨go,N,hN,step⟩
  ·refine aE (T.done (cK X scope N' (nw++cl) s3.heap.objs.size s3 (aq j D (.lst [])) A) S S S Pt i [] s5 a_ H5 _ I5 (Xd Wm) bw stop) λr s6 O7=>?_;let⟨hr,I6⟩:=O7;subst hr;let⟨m6,hn6,_⟩:=I6.loc;have un:Un (cE X.stack) A (aq j D (.lst [])) H5 s3.heap s6.heap:=I6.base;refine hRR D s3.heap.objs.size H5 s6 m6 (Lg I3.lt) I3.sz (λx c e=>?_) (λp hp=>?_) I6.free hn6 ?_ qn
   ·let⟨v,q⟩:=I3.cell x c e;show Lg q.lt
   ·show Lg (KI (I3.pin p hp).1)
   ·show I3.call' I6.os un I6.hok I6.bare λb a=>⟨(f3 b a).2.2.2.1,(f3 b a).2.1,(f3 b a).2.2.2.2.1,(f3 b a).2.2.2.2.2⟩
  ·refine aE (T.item (cK X scope N' (nw++cl) s3.heap.objs.size s3 (aq j D (.lst [])) A) S S S Pt i [] s5 a_ H5 (λ_ _=>False) I5 (Xd Wm) bw go) λr s6 Qq=>?_;let⟨u,hr,h6⟩:=Qq;subst hr;refine aE h6 λ_ s7 RC=>?_;let⟨x,H7,I7,r7,y7,Xe,fr7⟩:=RC;have I7':=I7.pinned (Xd fr7) (T.obj _ _ Xe);refine aE (hg _ _ _ _ _ s7 a_ H7 x u _ I7' r7 (step x H7 y7)) λ_ s8 Vf=>?_;let⟨aA,H8,I8,q8⟩:=Vf;refine aE (ht _ _ _ _ _ s8 aA H8 _ I8 q8) λb s9 WW=>?_;let⟨H9,I9,q9⟩:=WW
   have again:∀{R:St}{H9:Hp}{s9:À},Inv (cK X scope N' (nw++cl) s3.heap.objs.size s3 (aq j D (.lst [])) A) ([]++kW A s7.heap) R H9 s9->N R H9->∃m,m<n/\∃i Q z,Inv (cK X scope N' (nw++cl) s3.heap.objs.size s3 (aq j D (.lst [])) A) [] Q z s9/\tn i s9.heap/\(∀b∈A,z b=ũ)/\W i m Q z:=λ{R H9 s9} I9 n9=>by let⟨m',hm,w9⟩:=hN R H9 n9;refine⟨m',hm,i+1,R,H9,I9.unpinned,T.keep _ _ _ Xe λb a o e=>(I9.pin (b,o) (Ll _ (Ll _ (o9 a e)))).1,λb a=>?_,w9⟩;let⟨o,e,d⟩:=T.obj _ _ Xe b a;show (I9.pin (b,o) (Ll _ (Ll _ (o9 a e)))).2.1
   cases b with
   |false=>
    rw[Kr 'b']at q9 ⊢;show again I9 q9
   |true=>
    rw[Kq S]at q9 ⊢;refine aE (he _ _ _ _ _ s9 aA H9 _ I9 q9) λyv s10 WX=>?_;let⟨y,Xf,I10,r10,ys,Xg,Xh,q10⟩:=WX;refine aE (rX _ s10 aA Xf (.ref D) [y] (.ref D) [yv] (λ_ z=>N aA z) I10 S (.cons r10 .nil) ⟨D,ys,y,S,S,Xg,Xh,q10⟩) λ_ s11 hq6=>?_;let⟨_,H11,I11,_,q11⟩:=hq6;show again I11 q11
 show codeAny_compStart_list (loop _ S) (T.self _ 0 _ _ _ st4 (loop _ S))
theorem FE(A:X.calm=ū)(ap:CompScope X.N X.env.scope scope N' cap)(hi:PI X F f O)
  (hg:∀(cl:Y (Str×Addr))(a:Y Addr)(C:Addr)(m:À)(j:Hp),PG (cK X scope N' cl C m j a) F g) (ht:∀(cl:Y (Str×Addr))(a:Y Addr)(C:Addr)(m:À)(j:Hp),kn (cK X scope N' cl C m j a) l K)
  (he:∀(cl:Y (Str×Addr))(a:Y Addr)(C:Addr)(m:À)(j:Hp),PE (cK X scope N' cl C m j a) t G) (hs:∀x,Ô f X.env x=pure x:=by intro _;rfl) :
  PE X (.ListComp t [⟨F,f,l,0⟩] scope B) (jx O cap g K G):=by
 intro c s r H Q I h;let⟨cl,a_,N,E⟩:=ye (scope:=scope) (env:=X.env) λx hx hf=>I.ok.has x.1 (.inl (ap.free x hx hf));rw[eval_ListComp];refine wpAny_comprehension_free (use:=ũ) S hs a_ ap.kind ap.names (aE (hi c s r H _ I h) λv s1 h1=>aE h1 λWl s2 h2=>?_);let⟨it,a,tn,J,H2,e,z,T,R,f2,w⟩:=h2;subst e;refine vM (RR:=λp C=>compPost (model X.prog X.w) X.A X.xe ũ (EP X c r Q) p C) A ap (λcl=>hg cl a) (λcl=>ht cl a) (λcl=>he cl a) z T R f2 N E (P:=Q) w ?_;intro D C u s' m' hL hz U aA hC hn y q;refine⟨m',hn,λh' M=>⟨.ref D,u,y.turned (t':=s'.toks) (λb o hb e=>(M.2 b hb).trans e) hC (Lv hL) (.inr hz) U aA,S,q⟩⟩
theorem xm{i:Nat}{y:Str}{m aA:Õ}(Pt:X.calm=ū)(hN:X.N.Nodup)(hy:X.N[i]?=Z y)(U:gK X.env.scope y)(ap:CompScope X.N X.env.scope scope N' cap)(hi:PI X F f O)
  (hg:∀(cl:Y (Str×Addr))(j:Y Addr)(C:Addr)(r:À)(p:Hp),PG (cK X scope N' cl C r p j) F g) (ht:∀(cl:Y (Str×Addr))(j:Y Addr)(C:Addr)(r:À)(p:Hp),kn (cK X scope N' cl C r p j) l K)
  (he:∀(cl:Y (Str×Addr))(j:Y Addr)(C:Addr)(r:À)(p:Hp),PE (cK X scope N' cl C r p j) t G) (Vq:Î (.ListComp t [⟨F,f,l,0⟩] scope B) (Z (.Name y m)) aA.line X.env=pure ū:=by rfl)
  (hs:∀x,Ô f X.env x=pure x:=by intro _;rfl) (N:X.fn y=ū\/X.env.scope.names.lookup y=Z .local:=by nofun) :
  PS X (.Assign [.Name y m] (.ListComp t [⟨F,f,l,0⟩] scope B) aA) (kE (jx O cap g K G) (lb i)):=by
 intro c s σ H D I h;let⟨cl,Xi,Tj,QN⟩:=ye (scope:=scope) (env:=X.env) λx U N=>I.ok.has x.1 (.inl (ap.free x U N));rw[exec_Assign_Name_used _ _ _ _ Vq];refine Ko (M4 (Ko ?_));change wpAny _ X.A (do let _ ←comprehension (.ListComp t [⟨F,f,l,0⟩] scope B) scope X.env _ (newList []) Ŭ (eval f X.env) (Z (assign (.Name y m) X.env))) _ _ s
 refine Ko (L0 (wpAny_comprehension_free (use:=Z (assign (.Name y m) X.env)) (Q:=λ_ s'=>SP X c D .next s') S hs Xi ap.kind ap.names
  (aE (hi c s σ H _ I h) λv s1 h1=>aE h1 λWl s2 h2=>?_)) (λ_ s' hq=>KD (KD hq)) λ_ _ e=>e)
 let⟨it,j,tn,J,H2,e,I2,T,Uq,f2,w⟩:=h2;subst e;refine vM (RR:=λE C=>compPost (model X.prog X.w) X.A X.xe (Z (assign (.Name y m) X.env)) (λ_ s'=>SP X c D .next s') E C) Pt ap (λcl=>hg cl j) (λcl=>ht cl j) (λcl=>he cl j) I2 T Uq f2 Tj QN (P:=λv u=>D.nx (σ.set i (Z v)) u) w ?_;intro a_ C u s' m' hL hz Uv Xj hC hn I' q;change wpAny _ X.A (assign (.Name y m) X.env (.ref a_)) _ _ s';refine wpAny_assign_Name (sr (v:=.ref a_) I' hN hy U S (λVg A R=>?_) N);let⟨a,sb,ha⟩:=R
 have M:C≠a:=by
  rcases ha with z|z
  ·rw[z];show Lv hL
  ·show Lv (Uv y a z)
 refine⟨m',hn.sameBut sb M,λh' Sn=>?_⟩;show⟨_,u,A.turned (t':=Vg.toks) (λb o hb e=>(Sn.2 b hb).trans e) hC (Lv hL) (.inr hz) Uv Xj,q⟩
end
open AutoSeq1 (wpAny_loadPart')
theorem Inv.turnedL{X:Cx}{a:Y (Addr×Ï)}{l:St}{H:Hp}{s:À}{h':Heap}{ch:Y Addr}{t':Nat}(I:Inv X a l H s)(k:∀b o,b∉ch->s.heap.get? b=Z o->h'.get? b=Z o)(g:∀b∈ch,dW X a H b) :
  Inv X a l H { s with heap:=h',toks:=t' }:=by
 have j:∀b u,H b=Z u->b∉ch:=λb u e z=>by rw[(g b z).1]at e;cases e
 refine I.step (g':=s.gens) (d':=s.drawn) (ch:=ch) (λb h=>⟨(g b h).2.2.2.1,(g b h).2.1,(g b h).2.2.2.2.1,(g b h).2.2.2.2.2⟩) (λb o _ _ f e _=>k b o f e) (λb o _ _ f e _=>⟨o.slots,k b o f e⟩) (λ_ _ _ _ n=>n)
  (λb o f e=>⟨o,k b o f e⟩) (λ_ _ e=>e) (λ_ _ _ e=>e) (λb ps e=>e) (λm t=>?_) (λb u e=>?_) I.bare
 ·let⟨o,es,p,w,r⟩:=t;show⟨o,es,p,k _ o (λz=>(g _ z).2.1 S) w,r⟩
 ·refine (I.hok b u e).stay (λc v f q=>k c v ?_ q) (λ_ q=>q) (λ_ _ q=>q) λ_ _ _ q=>q;rcases f with z|z
  ·rw[z];show j b u e
  ·show j c _ z
noncomputable def SqI(b:Bool)(h:Heap)(c a:Addr)(i:Nat):Prop:=match b with|true=>h.IsListIter c a i|false=>h.IsTupleIter c a i
noncomputable def SqO(b:Bool)(h:Heap)(a:Addr)(c:Array Value):Prop:=match b with|true=>h.IsList a c|false=>h.IsTuple a c
noncomputable def SqB(K:Â)(b:Bool)(H:Hp)(a:Addr)(xs:Y V):Prop:=match b with|true=>SqL K H a xs|false=>SqT K H a xs
noncomputable def cP(b:Bool)(a:Addr):Ï:=match b with
 |true=>{ cls:=.type "list_iterator",data:=.fields #[.ref a,.int 0 0] }
 |false=>{ cls:=.type "tuple_iterator",data:=.fields #[.ref a,.int 0 0] }
theorem SqI.at{b:Bool}{h h':Heap}{c a:Addr}{i:Nat}(x:SqI b h c a i)(k:∀o,h.get? c=Z o->h'.get? c=Z o):SqI b h' c a i:=by cases b<;>(let⟨o,e,r⟩:=x;show⟨o,k o e,r⟩)
theorem SqO.at{b:Bool}{h h':Heap}{a:Addr}{c:Array Value}(x:SqO b h a c)(k:∀o,h.get? a=Z o->h'.get? a=Z o):SqO b h' a c:=by cases b<;>(let⟨o,e,r⟩:=x;show⟨o,k o e,r⟩)
theorem SqI.obj{b:Bool}{h:Heap}{c a:Addr}{i:Nat}(x:SqI b h c a i):∃o,h.get? c=Z o/\∀v,o.data≠.cell v:=by cases b<;>(let⟨o,e,_,d⟩:=x;show⟨o,e,λv z=>by rw[d]at z;cases z⟩)
theorem SqI.lt{b:Bool}{h:Heap}{c a:Addr}{i:Nat}(x:SqI b h c a i):c<h.objs.size:=by let⟨o,e,_⟩:=x.obj;show KI e
theorem SqO.lt{b:Bool}{h:Heap}{a:Addr}{c:Array Value}(x:SqO b h a c):a<h.objs.size:=by cases b<;>(let⟨o,e,_⟩:=x;show KI e)
theorem Inv.sqb{X:Cx}{e:Y (Addr×Ï)}{j:St}{H:Hp}{s:À}{b:Bool}{a:Addr}{xs:Y V}(I:Inv X e j H s)(h:SqB X.K b H a xs):∃c:Y Value,Vals xs c/\SqO b s.heap a c.toArray/\xs.length<=sizeLine:=by
 cases b with
 |true=>let⟨c,g,p,f⟩:=I.list h;show⟨c,g,p.isList,f⟩
 |false=>let⟨c,g,p,f⟩:=I.tuple h;show⟨c,g,p,f⟩
theorem Inv.sqb_inj{X:Cx}{c:Y (Addr×Ï)}{e:St}{H:Hp}{s:À}{b:Bool}{a:Addr}{xs ys:Y V}(I:Inv X c e H s)(h:SqB X.K b H a xs)(h':SqB X.K b H a ys):xs=ys:=by
 cases b with
 |true=>show I.list_inj h h'
 |false=>show I.tuple_inj h h'
theorem SqB.same{K:Â}{b:Bool}{H c:Hp}{a:Addr}{xs:Y V}(e:Same H c)(h:SqB K b H a xs):SqB K b c a xs:=by
 cases b with
 |true=>show e.seq h
 |false=>
  rcases h with (h|⟨o,h⟩)|h
  ·show .inl (.inl (e _ _ h))
  ·show .inl (.inr ⟨o,e _ _ h⟩)
  ·show .inr h
section
variable{prog:Ä}{w:Å}{A:É}{E:Value->À->Prop}{s:À}
theorem sP{b:Bool}{a:Addr}{c:Array Value}{Q:Value->À->Prop}(h:SqO b s.heap a c)(q:Q (.ref s.heap.objs.size) { s with heap:=s.heap.push (cP b a) }):wpAny (model prog w) A (pyIter (.ref a)) Q E s:=by
 cases b with
 |true=>show Of h q
 |false=>show MO h q
theorem nv{b:Bool}{h:Heap}{c a:Addr}(e:h.get? c=Z (cP b a)):SqI b h c a 0:=by cases b<;>show⟨_,e,S,S⟩
theorem pC{b:Bool}{e a:Addr}{i:Nat}{g:Array Value}{x:Value}{Q:Value->À->Prop}(c:SqI b s.heap e a i)(j:SqO b s.heap a g)(l:g[i]?=Z x)
  (h:∀h',SqI b h' e a (i+1)->Heap.SameBut e s.heap h'->Q x { s with heap:=h' }):wpAny (model prog w) A (Builtin.SmallTypes.nextOf (.ref e)) Q E s:=by
 cases b with
 |true=>show wpAny_nextOf_list_item c j l h
 |false=>
  have c:s.heap.IsTupleIter e a i:=c;let⟨o,f,r,hd⟩:=id c;let⟨t,m,_,nl,p⟩:=j;unfold Builtin.SmallTypes.nextOf;refine Ko (L6 (name:=Str.ofString "__next__") c.typeIs MJ (Mx MJ c.typeIs N5 ?_ (NY _)));change wpAny _ _ (Ď (.ref e) 0 >>= _) _ _ s;refine Ko (LJ f hd (x:=.ref a) S ?_);change wpAny _ _ (if (Value.ref a==Value.none)=ū then _ else _) _ _ s;rw[Kr (show ¬ ((Value.ref a==Value.none)=ū)from Lh)];change wpAny _ _ (Ď (.ref e) 1 >>= _) _ _ s;refine Ko (LJ f hd (x:=.int i 0) S ?_);change wpAny _ _ (seqItems? (.ref a) >>= _) _ _ s;refine Ko (Mz m p ?_);simp only[L4,l];refine Ko (Nj f hd (by simp) (KD ⟨x,S,KD (h _ ?_ (Heap.SameBut.update ..))⟩));show⟨_,Mp _ f (MS (MP hd _)),(ķ ..).trans r,by rw[MP hd];simp[rawInt]⟩
theorem mJ{b:Bool}{f a:Addr}{i:Nat}{j:Array Value}{Q:Value->À->Prop}(g:A.handled=ũ)(c:SqI b s.heap f a i)(p:SqO b s.heap a j)(r:j[i]?=ũ)
  (l:∀h' e,Heap.ExtBut f s.heap h'->(∃o,h'.get? e=Z o/\o.cls=.type "StopIteration")->E (.ref e) { s with heap:=h' }):wpAny (model prog w) A (Builtin.SmallTypes.nextOf (.ref f)) Q E s:=by
 cases b with
 |true=>show wpAny_nextOf_list_end g c p r l
 |false=>
  have c:s.heap.IsTupleIter f a i:=c;let⟨o,h,v,hd⟩:=id c;let⟨y,t,_,nl,u⟩:=p;unfold Builtin.SmallTypes.nextOf;refine Ko (L6 (name:=Str.ofString "__next__") c.typeIs MJ (Mx MJ c.typeIs N5 ?_ (NY _)));change wpAny _ _ (Ď (.ref f) 0 >>= _) _ _ s;refine Ko (LJ h hd (x:=.ref a) S ?_);change wpAny _ _ (if (Value.ref a==Value.none)=ū then _ else _) _ _ s;rw[Kr (show ¬ ((Value.ref a==Value.none)=ū)from Lh)];change wpAny _ _ (Ď (.ref f) 1 >>= _) _ _ s;refine Ko (LJ h hd (x:=.int i 0) S ?_);change wpAny _ _ (seqItems? (.ref a) >>= _) _ _ s;refine Ko (Mz t u ?_);simp only[L4,r];refine Ko (Č (Ko (Nj h hd (by simp) ?_)));change wpAny _ _ (newExc (.type "StopIteration") [] >>= _) _ _ _;refine Ko ?_;simp only[newExc,newTuple];refine Ko (Ml ?_ (by size_fits));refine Ko (m:=firstArgMember _ _) (wpAny_of_eq (a:=Value.none) (by first|rfl|(simp only[firstArgMember];rfl)) ?_);refine Ml ?_ (by size_fits);simp only[raiseNew];refine Ko (wpAny_handled ?_)
  first|rw[show A.in1.handled=ũ from g]|rw[g]
  refine Ko (KD (wpAny_throw ?_));show l _ _ (((Heap.SameBut.update ..).extBut.push _).push _) ⟨_,KJ _ S,S⟩
theorem Gh(r:A.handled=ũ)(b:Bool)(c a:Addr)(l:a≠c)(f:Array Value):Draws prog w A c [c,a] f.size (λi v=>f[i]?=Z v) (λi h=>SqI b h c a i/\SqO b h a f) where
 live:=λ_ _ st=>let ⟨o,e,_⟩:=st.1.obj;⟨o,e⟩
 frame:=λ_ _ _ st k=>⟨st.1.at λo e=>k c (by simp) o e,st.2.at λo e=>k a (by simp) o e⟩
 item:=λi s Q E g st p=>pC st.1 st.2 (x:=f[i]) (by simp[g]) λh' q j=>p _ h' s.toks (by simp[g]) ⟨q,st.2.at λo e=>(j.2 a l).trans e⟩ j
 done:=λs Q E st m=>mJ r st.1 st.2 (by simp) m
theorem JM(l:Addr)(a:Array Value)(n:Nat)(dct:Ū Addr)(sl:Array (Ū Value)) :
  Ľ (Builtin.«enumerate.__new__» ⟨[.type "enumerate",.ref l],[]⟩) (λ_ R s=>s.heap.get? l=Z { cls:=.type "tuple",dict:=dct,data:=.seq a n,slots:=sl } /\
   R (.ok (.ret (.ref (s.heap.push (cP Ŭ l)).objs.size)))
    { s with heap:=(s.heap.push (cP Ŭ l)).push { cls:=.type "enumerate",data:=.fields #[.none,.bool Ŭ,.ref s.heap.objs.size,rawInt 0,.none,.none] } }):=
 .of_wp λprog w A R s h=>by
  let⟨j,g,d,m,os⟩:=s;let⟨e,h⟩:=h;have o:=sub_enumerate;have f:Heap.IsTuple (Ĉ ⟨j,g,d,m,os⟩) l a:=⟨_,e,S,n,S⟩
  wp_walk using Lz e
  refine wpAny_stack_any λst=>KD ?_;split
  ·rename_i c _ _ _ _ _;cases (c==Value.type "enumerate")
   ·(wp_walk using Lz e,MO f);show⟨_,S,h⟩
   ·(wp_walk using Lz e,MO f);show⟨_,S,h⟩
  ·(wp_walk using Lz e,MO f);show⟨_,S,h⟩
theorem IU{b:Bool}{l:Addr}{a:Array Value}{Q:Value->À->Prop}(j:SqO b s.heap l a)
  (h:∀h',IsEnum h' (s.heap.objs.size+1) s.heap.objs.size 0 .none->SqI b h' s.heap.objs.size l 0->h'.objs.size=s.heap.objs.size+2->(∀b o,s.heap.get? b=Z o->h'.get? b=Z o)->Q (.ref (s.heap.objs.size+1)) { s with heap:=h' }) :
  wpAny (model prog w) A (call (.type "enumerate") [.ref l]) Q E s:=by
 cases b with
 |true=>show call_enumerate_list j h
 |false=>
  let⟨⟨c,dct,m,sl⟩,r,e,n,hd⟩:=j;replace e:c=.type "tuple":=e;replace hd:m=.seq a n:=hd;subst e hd;refine callType_new F.called_enumerate 'b' (F.typeCall_enumerate_1 _) (F.newCall_enumerate_1 _) (λobj=>F.args_object_init_2 obj _) F.entry_enumerate_new (JM l a n dct sl) ⟨r,?_⟩;have g:(s.heap.push (cP Ŭ l)).objs.size=s.heap.objs.size+1:=LG ..;change _/\_;rw[g];have f:=KJ (s.heap.push (cP Ŭ l)) (o:={ cls:=.type "enumerate",data:=.fields #[.none,.bool Ŭ,.ref s.heap.objs.size,rawInt 0,.none,.none] }) S;rw[g]at f;have p:(s.heap.push (cP Ŭ l)).get? s.heap.objs.size=Z (cP Ŭ l):=KJ _ S;show⟨⟨_,f,S⟩,h _ f (nv (Ks _ p)) (by rw[LG,g]) λb o x=>Ks _ (Ks _ x)⟩
theorem y4{b:Bool}{e c a:Addr}{i:Nat}{j:Int}{h:Array Value}{old:Value}{Q:Ū Value->À->Prop}(u:A.handled=ũ)(m:IsEnum s.heap e c j old)(f:SqI b s.heap c a i)(v:SqO b s.heap a h)(z:h[i]?=ũ)
  (r:∀h',Heap.ExtBut c s.heap h'->Q ũ { s with heap:=h' }):wpAny (model prog w) A (ò (.ref e)) Q E s:=by
 have l:s.TypeIs (.ref e) "enumerate":=⟨_,m,S⟩;unfold ò;refine Ko (Ė (L6 (name:=Str.ofString "__next__") l F.slot_enumerate_next (Mx F.slot_enumerate_next l F.entry_enumerate_next ?_ (F.args_enumerate_next_1 _))));change wpAny _ _ (Ď (.ref e) 2 >>= _) _ _ _;refine Ko (LJ m S (x:=.ref c) S (Ko (mJ u f v z λh' x p g=>?_)));let⟨o,y,t⟩:=g;show Ko (ś (T:="StopIteration") (b:=ū) ⟨o,y,t⟩ isSubtype_stop (KD (r _ p)))
end
noncomputable def qa(K:Â)(b:Bool)(a:Addr):It:=
 ⟨λi H=>∃xs x,SqB K b H a xs/\xs[i]?=Z x,λi H x c=>∃t y,H t=ũ/\x=.ref t/\c=aq H t (.tup [.int i,y])/\∀xs,SqB K b H a xs->xs[i]?=Z y,λi H=>∃xs,SqB K b H a xs/\xs.length<=i⟩
theorem Er{P:Ä}{w:Å}{K:Â}{es:Y Ã}{k:Nat}{aA:Õ}(b:Bool)(a e g:Addr)(G:e≠g):Turn P w K (.Tuple es k aA) (qa K b a) [e,g] e (λi h=>(∃old,IsEnum h e g i old)/\SqI b h g a i) where
 mem:=by simp
 obj:=λi h st c f=>by
  let⟨⟨old,j⟩,m⟩:=st;rcases Kz.mp f with rfl|f
  ·show⟨_,j,λv z=>by have z':Data.fields _=Data.cell v:=z;cases z'⟩
  ·rw[KH.mp f];show m.obj
 keep:=λi h h' st k=>by let⟨⟨old,j⟩,m⟩:=st;show⟨⟨old,k e (by simp) _ j⟩,m.at λo q=>k g (by simp) o q⟩
 item:=by
  intro X Q T O f i l s σ H E I C st ap;subst Q T O;let⟨xs,x,F,U⟩:=ap;let⟨⟨old,j⟩,m⟩:=st;let⟨r,rv,p,hz⟩:=I.sqb F;let⟨u,hu,ru⟩:=rv.get U
  have PM:a≠g:=λz=>by
   subst z
   have M:=p;have N:=m
   cases b<;>(let⟨o1,B,J,_⟩:=M;let⟨o2,e2,c2,_⟩:=N;rw[B]at e2;cases e2;rw[J]at c2;show absurd c2 (by simp))
  have UA:a≠e:=λz=>by
   subst z;have M:=p;cases b<;>(let⟨o1,B,J,_⟩:=M;rw[j]at B;cases B;show absurd J (by simp))
  have Xn:i<r.toArray.size:=by have:i<r.length:=(Lr.mp hu).1;simpa using this
  have hh:X.A.in1.handled=ũ:=I.ok.hd f;refine wpAny_pyNext_enum_itemD (Gh hh b g a PM r.toArray) j ⟨m,p⟩ Xn G (by simp[G,Lv UA]) λy h' A t ho QD hT hsz hk=>?_
  have a_:y=u:=by
   have:r.toArray[i]?=Z u:=by simpa using hu
   rw[this]at t;show (K2 t).symm
  subst a_;refine⟨.ref s.heap.objs.size,S,wpAny_letOwnedTupleGo_enum ho λN Tn Qj=>?_⟩;have zn:H s.heap.objs.size=ũ:=I.fresh
  have I1:Inv X l σ (aq H s.heap.objs.size (.tup [.int i,x])) { s with heap:=s.heap.push { cls:=.type "tuple",data:=.seq #[.int i A,y] },toks:=A }:=
   I.laid (λc o q=>Ks _ q) (Kw _) ⟨by change 2<=sizeLine;decide,[.int i A,y],.cons ⟨A,S⟩ (.cons ru .nil),_,KJ _ S,⟨S,S⟩,0,S⟩
  have Xo:∀c∈[e,g],c<s.heap.objs.size:=λc f=>by
   rcases Kz.mp f with rfl|f
   ·show KI j
   ·rw[KH.mp f];show m.lt
  have f1:∀c∈[e,g],dW X l (aq H s.heap.objs.size (.tup [.int i,x])) c:=λc f=>⟨by rw[aJ (Lg (Xo c f))];show (C c f).1,(C c f).2⟩;have I2:=I1.turnedL (h':=N) (ch:=[e,g]) (t':=A+1) (λc o f q=>?_) f1
  ·refine⟨.ref s.heap.objs.size,_,I2,S,⟨s.heap.objs.size,x,zn,S,S,λys a_=>by rw[I.sqb_inj a_ F];show U⟩,⟨⟨_,by simpa using Tn⟩,QD.1.at λo q=>(Qj.2 g (Lv G)).trans q⟩,λc f=>(f1 c f).1⟩
  ·have Ur:c≠e:=λz=>f (by simp[z]);have R:c≠g:=λz=>f (by simp[z]);refine (Qj.2 c Ur).trans ?_;rcases Heap.get?_push_cases q with⟨z,z'⟩|q'
   ·subst z;subst z';show hT
   ·show hk c o Ur R q'
 done:=by
  intro X Q T O f i l s σ H E I C st ap;subst Q T O;let⟨xs,F,U⟩:=ap;let⟨⟨old,j⟩,m⟩:=st;let⟨r,rv,p,hz⟩:=I.sqb F;have hl:=rv.length;refine y4 (I.ok.hd f) j m p (by simp;omega) λh' eb=>⟨S,?_⟩;show I.turnedL (ch:=[e,g]) (t':=s.toks) (λc o f q=>eb c o (λz=>f (by simp[z])) q) C
 self:=λ_ _ _ _ _ st h=>by let⟨⟨old,j⟩,_⟩:=st;show Ő j h
end L2
namespace L2
open PySem PySem.Spec PyProof.Rows
open AutoSeq1 (wpAny_loadPart')
structure ZAp(z TI TO i1 i2:Addr):Prop where
 a1:TI≠z
 a2:TO≠z
 a3:i1≠z
 a4:i2≠z
 a5:TI≠TO
 a6:TI≠i1
 a7:TI≠i2
 a8:TO≠i1
 a9:TO≠i2
 a0:i1≠i2
theorem SqI.but{b:Bool}{h h':Heap}{f a c:Addr}{i:Nat}(x:SqI b h f a i)(s:Heap.SameBut c h h')(n:f≠c):SqI b h' f a i:=x.at λo e=>(s.2 f n).trans e
theorem SqO.but{b:Bool}{h h':Heap}{a c:Addr}{f:Array Value}(x:SqO b h a f)(s:Heap.SameBut c h h')(n:a≠c):SqO b h' a f:=x.at λo e=>(s.2 a n).trans e
theorem SqO.ne{b:Bool}{h:Heap}{a c:Addr}{j:Array Value}{o:Ï}(x:SqO b h a j)(e:h.get? c=Z o)(l:o.cls≠.type "list")(m:o.cls≠.type "tuple"):a≠c:=λz=>by
 subst z;cases b<;>(let⟨p,g,f,_⟩:=x;rw[e]at g;cases g)
 ·show m f
 ·show l f
theorem SqO.ne_it{b f:Bool}{h:Heap}{a g l:Addr}{j:Array Value}{i:Nat}(x:SqO b h a j)(y:SqI f h g l i):a≠g:=by cases f<;>(let⟨o,e,c,_⟩:=y;show x.ne e (by rw[c];simp) (by rw[c];simp))
section
variable{prog:Ä}{w:Å}{A:É}{E:Value->À->Prop}{s:À}
theorem mQ{c z t a b:Addr}(h:c∉[z,t,a,b]):c≠z/\c≠t/\c≠a/\c≠b:=by simpa using h
theorem kL(z t u a b:Addr):z∈[z,t,u,a,b]/\t∈[z,t,u,a,b]/\u∈[z,t,u,a,b]/\a∈[z,t,u,a,b]/\b∈[z,t,u,a,b]:=by simp
theorem wK{z t u a b x:Addr}(h:x∈[z,u,a,b]):x∈[z,t,u,a,b]:=(List.Sublist.cons₂ z (.cons t (.refl _))).subset h
theorem IR{G H:Bool}{z TI TO g h p l:Addr}{k1 k2:Nat}{xs ys:Array Value}{x y a b:Value}{Q:Value->À->Prop}(D:ZAp z TI TO g h)
  (j:æ s.heap z TI TO .none) (UB:Ó s.heap TI (.ref g) (.ref h)) (UC:Ó s.heap TO a b) (n1:p≠TO) (n2:l≠TO)
  (h1:SqI G s.heap g p k1) (h2:SqI H s.heap h l k2) (RJ:SqO G s.heap p xs) (O:SqO H s.heap l ys) (hx:xs[k1]?=Z x) (hy:ys[k2]?=Z y)
  (hQ:∀h',æ h' z TI TO (rawInt s.heap.objs.size)->Ó h' TO x y->SqI G h' g p (k1+1)->SqI H h' h l (k2+1)->Ó h' s.heap.objs.size x y->h'.objs.size=s.heap.objs.size+1->
   (∀c o,c∉[z,TO,g,h]->s.heap.get? c=Z o->h'.get? c=Z o)->Q (.ref s.heap.objs.size) { s with heap:=h' }) :
  wpAny (model prog w) A (Builtin.«zip.__next__» ⟨[.ref z],[]⟩) (λP s'=>∃v,P=.done (.ret v)/\Q v s') E s:=by
 have R:p≠z:=RJ.ne j (by simp) (by simp);have ap:l≠z:=O.ne j (by simp) (by simp);have B:l≠g:=O.ne_it h1;change wpAny _ _ (Ď (.ref z) 2 >>= _) _ _ _;refine Ko (LJ j S (x:=.bool Ŭ) S ?_);change wpAny _ _ (Ď (.ref z) 3 >>= _) _ _ _;refine Ko (LJ j S (x:=.ref TI) S (Ko (Mz UB S ?_)));change wpAny _ _ (Builtin.SmallTypes.ownedTupleIsFree (.ref z) >>= _) _ _ _;refine Ko ?_;unfold Builtin.SmallTypes.ownedTupleIsFree;refine Ko (LJ j S (x:=.none) S (KD ?_));simp only[M5];refine Ko (Č (Ko (LJ j S (x:=.ref TO) S (Ko (MF j (by simp) λg1 a_ m=>?_)))));replace a_:æ g1 z TI TO .ellipsis:=a_;refine Ko ?_;simp only[List.zipIdx_cons,List.zipIdx_nil,NP,OV];refine Ko (Ko (Nv ?_));change wpAny _ _ (Builtin.SmallTypes.nextOf (.ref g) >>= _) _ _ _;refine Ko (pC (h1.but m D.a3) (RJ.but m R) hx λg2 p2 r=>KD ?_);have t2:Ó g2 TO a b:=r.extBut _ _ D.a8 (m.extBut _ _ D.a2 UC);refine Ko (Mz t2 S (Ko (NR t2 λg3 X t=>Ko (ĸ (KD ?_)))));replace X:Ó g3 TO x b:=X;refine Ko (Ko (Nv ?_));change wpAny _ _ (Builtin.SmallTypes.nextOf (.ref h) >>= _) _ _ _;refine Ko (pC (((h2.but m D.a4).but r D.a0.symm).but t D.a9.symm) (((O.but m ap).but r B).but t n2) hy λg4 p4 C=>KD ?_);have t4:Ó g4 TO x b:=C.extBut _ _ D.a9 X;refine Ko (Mz t4 S (Ko (NR t4 λf K F=>Ko (ĸ (KD (KD ?_))))));replace K:Ó f TO x y:=K;refine Ko (Mz K S (Ko (wpAny_newTuple ?_)))
 have sz:f.objs.size=s.heap.objs.size:=by rw[F.1,C.1,t.1,r.1,m.1]
 have z5:æ f z TI TO .ellipsis:=F.extBut _ _ D.a2.symm (C.extBut _ _ D.a4.symm (t.extBut _ _ D.a2.symm (r.extBut _ _ D.a3.symm a_)))
 have k5:∀c o,c∉[z,TO,g,h]->s.heap.get? c=Z o->f.get? c=Z o:=λc o J e=>by let⟨I,c2,c3,c4⟩:=mQ J;show F.extBut _ _ c2 (C.extBut _ _ c4 (t.extBut _ _ c2 (r.extBut _ _ c3 (m.extBut _ _ I e))))
 have q1:SqI G f g p (k1+1):=((p2.but t D.a8.symm).but C D.a0).but F D.a8.symm;have q2:SqI H f h l (k2+1):=p4.but F D.a9.symm;change wpAny _ _ (Builtin.SmallTypes.ownedTupleHandOut (.ref z) (.ref f.objs.size) >>= _) _ _ _;refine Ko ?_;unfold Builtin.SmallTypes.ownedTupleHandOut;have z6:æ (f.push { cls:=.type "tuple",data:=.seq #[x,y] }) z TI TO .ellipsis:=Ks _ z5;refine Ko (MF z6 (by simp) λg7 aA T=>?_);replace aA:æ g7 z TI TO (rawInt f.objs.size):=aA;refine MF aA (by simp) λu N U=>?_;replace N:æ u z TI TO (rawInt f.objs.size):=N;have M:∀c o,c≠z->f.get? c=Z o->u.get? c=Z o:=λc o I e=>U.extBut _ _ I (T.extBut _ _ I (Ks _ e));have zl:f.objs.size≠z:=Oq (KI z5);have t8:Ó u f.objs.size x y:=U.extBut _ _ zl (T.extBut _ _ zl (KJ _ S))
 have e8:u.objs.size=f.objs.size+1:=by rw[U.1,T.1,LG]
 rw[sz]at N t8 e8;refine KD ⟨_,S,?_⟩;change Q (.ref f.objs.size) _;rw[sz];show hQ u N (M _ _ D.a2 K) (q1.at λo e=>M _ o D.a3 e) (q2.at λo e=>M _ o D.a4 e) t8 e8 λc o J e=>M c o (mQ J).1 (k5 c o J e)
theorem zO{T U:Bool}{z TI TO p u C y:Addr}{k1 k2:Nat}{xs ys:Array Value}{a b:Value}{Q:Fin->À->Prop}(hh:A.handled=ũ)(D:ZAp z TI TO p u)
  (l:æ s.heap z TI TO .none) (UB:Ó s.heap TI (.ref p) (.ref u)) (UC:Ó s.heap TO a b) (n1:C≠TO) (n2:y≠TO)
  (M:SqI T s.heap p C k1) (h2:SqI U s.heap u y k2) (H:SqO T s.heap C xs) (G:SqO U s.heap y ys) (Ss:xs[k1]?=ũ\/ys[k2]?=ũ)
  (hE:∀h' e,(∀c o,c∉[z,TO,p,u]->s.heap.get? c=Z o->h'.get? c=Z o)->(∃o,h'.get? e=Z o/\o.cls=.type "StopIteration")->E (.ref e) { s with heap:=h' }) :
  wpAny (model prog w) A (Builtin.«zip.__next__» ⟨[.ref z],[]⟩) Q E s:=by
 have v:C≠z:=H.ne l (by simp) (by simp);have R:y≠z:=G.ne l (by simp) (by simp);have B:y≠p:=G.ne_it M;change wpAny _ _ (Ď (.ref z) 2 >>= _) _ _ _;refine Ko (LJ l S (x:=.bool Ŭ) S ?_);change wpAny _ _ (Ď (.ref z) 3 >>= _) _ _ _;refine Ko (LJ l S (x:=.ref TI) S (Ko (Mz UB S ?_)));change wpAny _ _ (Builtin.SmallTypes.ownedTupleIsFree (.ref z) >>= _) _ _ _;refine Ko ?_;unfold Builtin.SmallTypes.ownedTupleIsFree;refine Ko (LJ l S (x:=.none) S (KD ?_));simp only[M5];refine Ko (Č (Ko (LJ l S (x:=.ref TO) S (Ko (MF l (by simp) λg1 F f=>?_)))));replace F:æ g1 z TI TO .ellipsis:=F;refine Ko ?_;simp only[List.zipIdx_cons,List.zipIdx_nil,NP,OV];refine Ko (Ko (Nv ?_));change wpAny _ _ (Builtin.SmallTypes.nextOf (.ref p) >>= _) _ _ _
 cases P:xs[k1]? with
 |none=>
  refine Ko (mJ hh (M.but f D.a3) (H.but f v) P λK e g O=>?_);let⟨ap,j,r⟩:=O;have z2:æ K z TI TO .ellipsis:=g _ _ D.a3.symm F
  have J:e≠z:=λq=>by subst q;rw[z2]at j;cases j;simp at r
  refine MF z2 (by simp) λaA _ m=>hE aA e (λc o N q=>?_) ⟨ap,m.extBut _ _ J j,r⟩;let⟨t,X,I,a_⟩:=mQ N;show m.extBut _ _ t (g _ _ I (f.extBut _ _ t q))
 |some x=>
  have hy:ys[k2]?=ũ:=by
   rcases Ss with h|h
   ·rw[P]at h;cases h
   ·show h
  refine Ko (pC (M.but f D.a3) (H.but f v) P λK p2 g=>KD ?_);have t2:Ó K TO a b:=g.extBut _ _ D.a8 (f.extBut _ _ D.a2 UC);refine Ko (Mz t2 S (Ko (NR t2 λaA t3 m=>Ko (ĸ (KD ?_)))));refine Ko (Ko (Nv ?_));change wpAny _ _ (Builtin.SmallTypes.nextOf (.ref u) >>= _) _ _ _;refine Ko (mJ hh (((h2.but f D.a4).but g D.a0.symm).but m D.a9.symm) (((G.but f R).but g B).but m n2) hy λg4 e s4 O=>?_);let⟨ap,j,r⟩:=O;have z4:æ g4 z TI TO .ellipsis:=s4 _ _ D.a4.symm (m.extBut _ _ D.a2.symm (g.extBut _ _ D.a3.symm F))
  have J:e≠z:=λq=>by subst q;rw[z4]at j;cases j;simp at r
  refine MF z4 (by simp) λg5 _ s5=>hE g5 e (λc o N q=>?_) ⟨ap,s5.extBut _ _ J j,r⟩;let⟨t,X,I,a_⟩:=mQ N;show s5.extBut _ _ t (s4 _ _ a_ (m.extBut _ _ X (g.extBut _ _ I (f.extBut _ _ t q))))
theorem zv(c l:Bool)(a j:Addr)(xs ys:Array Value) :
  Ľ (Builtin.«zip.__new__» ⟨[.type "zip",.ref a,.ref j],[]⟩) (λ_ R s=>SqO c s.heap a xs/\SqO l s.heap j ys /\
   R (.ok (.ret (.ref (s.heap.objs.size+4)))) { s with heap:=((((s.heap.push (cP c a)).push (cP l j)).push { cls:=.type "tuple",data:=.seq #[.ref s.heap.objs.size,.ref (s.heap.objs.size+1)] }).push { cls:=.type "tuple",data:=.seq #[.none,.none] }).push { cls:=.type "zip",data:=.fields #[.none,.bool Ŭ,.bool Ŭ,.ref (s.heap.objs.size+2),.ref (s.heap.objs.size+3)] } }):=
 .of_wp λprog w A R s h=>by
  let⟨f,g,d,r,os⟩:=s;let⟨u,t,h⟩:=h;have x:=sub_zip;have m:SqO c (Ĉ ⟨f,g,d,r,os⟩) a xs:=u;have p:SqO l (Ĉ ⟨f.push (cP c a),g,d,r,os⟩) j ys:=SqO.at t λo e=>Ks _ e
  wp_walk using sP m,sP p
  have v:(f.push (cP c a)).objs.size=f.objs.size+1:=LG ..
  have y:((f.push (cP c a)).push (cP l j)).objs.size=f.objs.size+2:=by rw[LG,v]
  refine⟨_,S,?_⟩;simp only[LG];show h
theorem DT{a f:Bool}{e g:Addr}{xs ys:Array Value}{Q:Value->À->Prop}(H:SqO a s.heap e xs)(G:SqO f s.heap g ys)
  (h:∀h',æ h' (s.heap.objs.size+4) (s.heap.objs.size+2) (s.heap.objs.size+3) .none->Ó h' (s.heap.objs.size+2) (.ref s.heap.objs.size) (.ref (s.heap.objs.size+1))->Ó h' (s.heap.objs.size+3) .none .none->
   SqI a h' s.heap.objs.size e 0->SqI f h' (s.heap.objs.size+1) g 0->(∀c o,s.heap.get? c=Z o->h'.get? c=Z o)->Q (.ref (s.heap.objs.size+4)) { s with heap:=h' }) :
  wpAny (model prog w) A (call (.type "zip") [.ref e,.ref g]) Q E s:=by
 refine callType_new F.called_zip 'b' (F.typeCall_zip_2 _ _) (F.newCall_zip_2 _ _) (λobj=>F.args_object_init_3 obj _ _) F.entry_zip_new (zv a f e g xs ys) ⟨H,G,?_⟩
 have N:(cP a e).isFreed=Ŭ:=by cases a<;>rfl
 have O:(cP f g).isFreed=Ŭ:=by cases f<;>rfl
 have B:(s.heap.push (cP a e)).objs.size=s.heap.objs.size+1:=LG ..
 have x:((s.heap.push (cP a e)).push (cP f g)).objs.size=s.heap.objs.size+2:=by rw[LG,B]
 generalize t:(s.heap.push (cP a e)).push (cP f g)=j at x ⊢
 have I:j.get? s.heap.objs.size=Z (cP a e):=by rw[←t];show Ks _ (KJ _ N)
 have J:j.get? (s.heap.objs.size+1)=Z (cP f g):=by rw[←t,←B];show KJ _ O
 have k2:∀c o,s.heap.get? c=Z o->j.get? c=Z o:=λc o q=>by rw[←t];show Ks _ (Ks _ q)
 generalize u:j.push { cls:=.type "tuple",data:=.seq #[.ref s.heap.objs.size,.ref (s.heap.objs.size+1)] }=l
 have C:l.objs.size=s.heap.objs.size+3:=by rw[←u,LG,x]
 have K:Ó l (s.heap.objs.size+2) (.ref s.heap.objs.size) (.ref (s.heap.objs.size+1)):=by rw[←u,←x];show KJ _ S
 have k3:∀c o,j.get? c=Z o->l.get? c=Z o:=λc o q=>by rw[←u];show Ks _ q
 generalize v:l.push { cls:=.type "tuple",data:=.seq #[.none,.none] }=m
 have P:m.objs.size=s.heap.objs.size+4:=by rw[←v,LG,C]
 have M:Ó m (s.heap.objs.size+3) .none .none:=by rw[←v,←C];show KJ _ S
 have r:∀c o,l.get? c=Z o->m.get? c=Z o:=λc o q=>by rw[←v];show Ks _ q
 generalize p:m.push { cls:=.type "zip",data:=.fields #[.none,.bool Ŭ,.bool Ŭ,.ref (s.heap.objs.size+2),.ref (s.heap.objs.size+3)] }=z
 have y:æ z (s.heap.objs.size+4) (s.heap.objs.size+2) (s.heap.objs.size+3) .none:=by rw[←p,←P];show KJ _ S
 have k5:∀c o,m.get? c=Z o->z.get? c=Z o:=λc o q=>by rw[←p];show Ks _ q
 change _/\_;show⟨⟨_,y,S⟩,h _ y (k5 _ _ (r _ _ K)) (k5 _ _ M) (nv (k5 _ _ (r _ _ (k3 _ _ I)))) (nv (k5 _ _ (r _ _ (k3 _ _ J)))) λc o q=>k5 _ _ (r _ _ (k3 _ _ (k2 _ _ q)))⟩
theorem Dw{j l:Bool}{z TI TO e f g h:Addr}{k1 k2:Nat}{xs ys:Array Value}{x y a b:Value}{Q:Ū Value->À->Prop}(D:ZAp z TI TO e f)
  (p:æ s.heap z TI TO .none) (u:Ó s.heap TI (.ref e) (.ref f)) (v:Ó s.heap TO a b) (U:g≠TO) (T:h≠TO)
  (M:SqI j s.heap e g k1) (N:SqI l s.heap f h k2) (t:SqO j s.heap g xs) (r:SqO l s.heap h ys) (P:xs[k1]?=Z x) (R:ys[k2]?=Z y)
  (O:∀h',æ h' z TI TO (rawInt s.heap.objs.size)->Ó h' TO x y->SqI j h' e g (k1+1)->SqI l h' f h (k2+1)->Ó h' s.heap.objs.size x y->h'.objs.size=s.heap.objs.size+1->
   (∀c o,c∉[z,TO,e,f]->s.heap.get? c=Z o->h'.get? c=Z o)->Q (Z (.ref s.heap.objs.size)) { s with heap:=h' }):wpAny (model prog w) A (ò (.ref z)) Q E s:=by
 have m:s.TypeIs (.ref z) "zip":=⟨_,p,S⟩;unfold ò
 show Ko (Ė (L6 (name:=Str.ofString "__next__") m NS (Mx NS m F.entry_zip_next
  (IR D p u v U T M N t r P R λh' B C G H I J K=>KD (O h' B C G H I J K)) (F.args_zip_next_1 _))))
theorem Jq{l m:Bool}{z TI TO f g h j:Addr}{k1 k2:Nat}{xs ys:Array Value}{a b:Value}{Q:Ū Value->À->Prop}(J:A.handled=ũ)(D:ZAp z TI TO f g)
  (r:æ s.heap z TI TO .none) (x:Ó s.heap TI (.ref f) (.ref g)) (y:Ó s.heap TO a b) (N:h≠TO) (O:j≠TO)
  (B:SqI l s.heap f h k1) (C:SqI m s.heap g j k2) (u:SqO l s.heap h xs) (t:SqO m s.heap j ys) (v:xs[k1]?=ũ\/ys[k2]?=ũ)
  (G:∀h',(∀c o,c∉[z,TO,f,g]->s.heap.get? c=Z o->h'.get? c=Z o)->Q ũ { s with heap:=h' }):wpAny (model prog w) A (ò (.ref z)) Q E s:=by
 have p:s.TypeIs (.ref z) "zip":=⟨_,r,S⟩;unfold ò;refine Ko (Ė (L6 (name:=Str.ofString "__next__") p NS (Mx NS p F.entry_zip_next (zO J D r x y N O B C u t v λh' e K I=>?_) (F.args_zip_next_1 _))));let⟨o,M,H⟩:=I;show Ko (ś (T:="StopIteration") (b:=ū) ⟨o,M,H⟩ isSubtype_stop (KD (G _ K)))
end
theorem Inv.sqb_ne{X:Cx}{g:Y (Addr×Ï)}{m:St}{H:Hp}{s:À}{b:Bool}{a c:Addr}{xs:Y V}(I:Inv X g m H s)(h:SqB X.K b H a xs)(f:dW X g H c):a≠c:=λz=>by
 subst z
 have l:∀o,X.K.lookup a=Z o->False:=λo e=>by
  have j:=I.mod.kin a o e;rcases f.2.2.2.1 with q|q
  ·show I.ok.noex a o j q
  ·show absurd (Lb (KI j) (K3 I.ok.bsz q)) (Ms _)
 cases b with
 |true=>
  rcases h with (h|⟨o,h⟩)|⟨o,_,_,h,_⟩
  ·rw[f.1]at h;cases h
  ·rw[f.1]at h;cases h
  ·show l o h
 |false=>
  rcases h with (h|⟨o,h⟩)|⟨o,_,_,h,_⟩
  ·rw[f.1]at h;cases h
  ·rw[f.1]at h;cases h
  ·show l o h
noncomputable def ra(K:Â)(a:Bool)(a1:Addr)(c:Bool)(a2:Addr):It:=
 ⟨λi H=> ∃xs ys x y, SqB K a H a1 xs /\ SqB K c H a2 ys /\ xs[i]? = Z x /\ ys[i]? = Z y,
  λi H v e=> ∃t x y, H t = ũ /\ v = .ref t /\ e = aq H t (.tup [x, y]) /\ (∀xs, SqB K a H a1 xs-> xs[i]? = Z x) /\ ∀ys, SqB K c H a2 ys-> ys[i]? = Z y,
  λi H=> ∃xs ys, SqB K a H a1 xs /\ SqB K c H a2 ys /\ (xs.length <= i \/ ys.length <= i)⟩
theorem CZ{P:Ä}{w:Å}{K:Â}{es:Y Ã}{k:Nat}{pos:Õ}(b1 b2:Bool)(a1 a2 z TI TO g j:Addr)(D:ZAp z TI TO g j) :
  Turn P w K (.Tuple es k pos) (ra K b1 a1 b2 a2) [z,TI,TO,g,j] z (λi h=>æ h z TI TO .none/\Ó h TI (.ref g) (.ref j)/\(∃a b,Ó h TO a b)/\SqI b1 h g a1 i/\SqI b2 h j a2 i) where
 mem:=Ku
 obj:=λi h st c f=>by
  let⟨p,m,⟨a,b,r⟩,t,A⟩:=st;simp only[Kz,KR,LC]at f;rcases f with rfl|rfl|rfl|rfl|rfl
  ·show⟨_,p,λv q=>by have C:Data.fields _=Data.cell v:=q;cases C⟩
  ·show⟨_,m,λv q=>by have C:Data.seq _ _=Data.cell v:=q;cases C⟩
  ·show⟨_,r,λv q=>by have C:Data.seq _ _=Data.cell v:=q;cases C⟩
  ·show t.obj
  ·show A.obj
 keep:=λi h h' st k=>by
  let⟨p,m,⟨a,b,r⟩,t,A⟩:=st;have M:=kL z TI TO g j;show⟨k z M.1 _ p,k TI M.2.1 _ m,⟨a,b,k TO M.2.2.1 _ r⟩,t.at λo q=>k g M.2.2.2.1 o q,A.at λo q=>k j M.2.2.2.2 o q⟩
 item:=by
  intro X T aA ap f i l s σ H E I B st a_;subst T aA ap;let⟨xs,ys,x,y,F,G,hx,hy⟩:=a_;let⟨p,m,⟨a,b,r⟩,t,A⟩:=st;let⟨UE,Q,p1,_⟩:=I.sqb F;let⟨QE,R,p2,_⟩:=I.sqb G;let⟨u,hu,ru⟩:=Q.get hx;let⟨v,hv,rv⟩:=R.get hy;refine Dw D p m r (I.sqb_ne F (B TO (kL z TI TO g j).2.2.1)) (I.sqb_ne G (B TO (kL z TI TO g j).2.2.1)) t A p1 p2 (x:=u) (y:=v) (by simpa using hu) (by simpa using hv) λh' z1 z2 z3 z4 z5 z6 N=>?_;refine⟨.ref s.heap.objs.size,S,wpAny_letOwnedTupleGo_zip z1 λg2 zz J=>?_⟩;have zn:H s.heap.objs.size=ũ:=I.fresh
  have I1:Inv X l σ (aq H s.heap.objs.size (.tup [x,y])) { s with heap:=s.heap.push { cls:=.type "tuple",data:=.seq #[u,v] },toks:=s.toks }:=
   I.laid (λc o q=>Ks _ q) (Kw _) ⟨by change 2<=sizeLine;decide,[u,v],.cons ru (.cons rv .nil),_,KJ _ S,⟨S,S⟩,0,S⟩
  have Xo:∀c∈[z,TI,TO,g,j],c<s.heap.objs.size:=λc f=>by
   simp only[Kz,KR,LC]at f;rcases f with rfl|rfl|rfl|rfl|rfl
   ·show KI p
   ·show KI m
   ·show KI r
   ·show t.lt
   ·show A.lt
  have f1:∀c∈[z,TI,TO,g,j],dW X l (aq H s.heap.objs.size (.tup [x,y])) c:=λc f=>⟨by rw[aJ (Lg (Xo c f))];show (B c f).1,(B c f).2⟩;have I2:=I1.turnedL (h':=g2) (ch:=[z,TI,TO,g,j]) (t':=s.toks) (λc o f q=>?_) f1
  ·refine⟨.ref s.heap.objs.size,_,I2,S,⟨s.heap.objs.size,x,y,zn,S,S,λU6 O=>by rw[I.sqb_inj O F];show hx,λys' O=>by rw[I.sqb_inj O G];show hy⟩,
    ⟨zz,J.extBut _ _ D.a1 (N TI _ (by simp[D.a1,D.a5,D.a6,D.a7]) m),⟨_,_,J.extBut _ _ D.a2 z2⟩,z3.but J D.a3,z4.but J D.a4⟩,λc f=>(f1 c f).1⟩
  ·have U:c≠z:=λe=>f (e▸Ku);refine (J.2 c U).trans ?_;rcases Heap.get?_push_cases q with⟨e,e'⟩|C
   ·subst e;subst e';show z5
   ·show N c o (λe=>f (wK e)) C
 done:=by
  intro X T aA ap f i l s σ H E I B st a_;subst T aA ap;let⟨xs,ys,F,G,Ss⟩:=a_;let⟨p,m,⟨a,b,r⟩,t,A⟩:=st;let⟨UE,Q,p1,_⟩:=I.sqb F;let⟨QE,R,p2,_⟩:=I.sqb G;have l1:=Q.length;have l2:=R.length
  have he:UE.toArray[i]?=ũ\/QE.toArray[i]?=ũ:=by
   rcases Ss with q|q
   ·show .inl (by simp;omega)
   ·show .inr (by simp;omega)
  refine Jq (I.ok.hd f) D p m r (I.sqb_ne F (B TO (kL z TI TO g j).2.2.1)) (I.sqb_ne G (B TO (kL z TI TO g j).2.2.1)) t A p1 p2 he λh' N=>⟨S,?_⟩;refine I.turnedL (ch:=[z,TI,TO,g,j]) (t':=s.toks) (λc o f q=>N c o (λe=>f (wK e)) q) B
 self:=λ_ _ _ _ _ st h=>ř st.1 h
theorem Iv(n:Nat):ZAp (n+4) (n+2) (n+3) n (n+1):=
 ⟨(by omega:n+2≠n+4),(by omega:n+3≠n+4),(by omega:n≠n+4),(by omega:n+1≠n+4),(by omega:n+2≠n+3),(by omega:n+2≠n),(by omega:n+2≠n+1),(by omega:n+3≠n),(by omega:n+3≠n+1),(by omega:n≠n+1)⟩
end L2
namespace L2
open PySem PySem.Spec PyProof.Rows
section
variable{X:Cx}
theorem zZ:b9 X (Ì .Mult) (rI ľ λi j=>.int (i*j)):=o8 λ_ _ _ _ _ _ _ a q=>mul_int q a
noncomputable def CDivB(i j:Int):Prop:=0<j/\j.natAbs.log2<9000
theorem zf:b9 X (Ì .FloorDiv) (rI CDivB λi j=>.int (i/j)):=o8 λi j _ _ _ _ _ a q=>by have c:(0:Int)<j:=a.1;show floordiv_int () (by rw[Int.fdiv_eq_ediv_of_nonneg i ()];show q) (.inl (PyProof.noPylong_of_log2 a.2))
end
theorem yS{n k:Nat}(a:0<k)(h:n<2^k):n.log2<k:=by
 rcases Nat.eq_zero_or_pos n with z|z
 ·subst z;simpa using a
 ·show (Nat.log2_lt (Oq z)).mpr h
theorem CDivB.of{i j:Int}(a:0<j)(h:j<2^9000):CDivB i j:=⟨a,yS 'b' (by
 have e:(j.natAbs:Int)=j:=Int.natAbs_of_nonneg (Int.le_of_lt a)
 have:(j.natAbs:Int)<((2^9000:Nat):Int):=by rw[e];exact_mod_cast h
 exact_mod_cast this)⟩
theorem nN{a b:Int}(c:-(2^64)<a)(e:a<2^64):ľ a b:=.of_left (intBits_le_64 c e)
theorem tw{a b:Int}(c:-(2^64)<b)(e:b<2^64):ľ a b:=.of_right (intBits_le_64 c e)
section
variable{prog:Ä}{w:Å}{A:É}{E:Value->À->Prop}{s:À}
theorem vy{e t:Addr}{a:Array Value}(g:t≠e):∀(n i:Nat)(s:À)(Q:Y Value->À->Prop),s.heap.IsListIter e t i->s.heap.IsList t a->i+n<=a.size->
  (∀h',h'.IsListIter e t (i+n)->Heap.SameBut e s.heap h'->Q ((a.toList.drop i).take n) { s with heap:=h' })->wpAny (model prog w) A (draw (.ref e) n) Q E s
 |0,i,s,Q,c,_,_,f=>by change wpAny _ _ (pure []) Q E s;show KD (by simpa using f s.heap c (Heap.SameBut.refl ..))
 |n+1,i,s,Q,c,j,r,f=>by
  have h:i<a.size:=by omega
  change wpAny _ _ (ò (.ref e) >>= _) Q E s;refine Ko (Np c j (x:=a[i]) (by simp[h]) λv m l=>?_);refine Ko (Mi (vy g n (i+1) _ _ m (j.extBut l.extBut g) () λp o u=>KD ?_))
  have hd:a.toList.drop i=a[i]::a.toList.drop (i+1):=by simp[Ol,h]
  have:=f p (by rw[show i+(n+1)=i+1+n by omega];show o) (l.trans u);rw[hd,List.take_succ_cons]at this;show this
theorem Fz{t:Addr}{a:Array Value}{Q:Y Value->À->Prop}(x:A.handled=ũ)(c:s.heap.IsList t a)
  (v:∀h',Heap.ExtBut s.heap.objs.size s.heap h'->Q a.toList { s with heap:=h' }):wpAny (model prog w) A (unpackItems (.ref t) a.size ũ) Q E s:=by
 have g:t≠s.heap.objs.size:=by let⟨o,y,_⟩:=c;show Lg (KI y)
 unfold unpackItems;refine Ko ?_;unfold notIterableAtAll;refine Ko (wpAny_specialOf c.typeIs slot_list_iter.lookup (KD ?_));simp only[N6,Ov];refine Ko (Mi (Of c (Ko (Mi (vy g a.size 0 _ _ ⟨_,KJ _ S,S,S⟩ (c.push _) () λr l j=>?_)))))
 have m:List.take a.size (List.drop 0 a.toList)=a.toList:=by rw[Nk];show L1 (by simp)
 rw[m,Kr (by simp)];have f:r.IsList t a:=(c.push _).extBut j.extBut g;refine Ko (Mi (Ny x l f (by simp) λu p=>?_));simp only[Option.isSome_none,N6,Ov];show KD (v u λb o h e=>p b o h (j.extBut b o h (Ks _ e)))
end
section
variable{X:Cx}{c:Õ}
noncomputable def tH(K:Â)(n:Nat)(t:eU):TG:=λv e H Q=>∃a xs,v=.ref a/\SqL K H a xs/\xs.length=n/\t xs e H Q
theorem DP{es:Y Ã}{k:Nat}{t:eU}{n:Nat}(z:X.calm=ū)(h:PGs X es t)
  (B:(È es X.env).length=n:=by rfl) (w:(È es X.env).findIdx? (·.1)=ũ:=by rfl):PG X (.Tuple es k c) (tH X.K n t):=by
 intro f s l H v u Q I r g;let⟨a,xs,y,C,A,g⟩:=g;subst y;cases r;let⟨p,j,E,G⟩:=I.list C;rw[assign_Tuple];refine Ko (M4 ?_);unfold unpack
 have x:(È es X.env).length=p.toArray.size:=by simp[B,←A,j.length]
 rw[x,w];refine Ko (Mi (Fz (I.ok.hd z) E.isList λh' F=>?_));have m:Inv X f l H { s with heap:=h' }:=I.kept (t':=s.toks) λb o e=>F b o (Lg (KI e)) e;show h f _ l H xs _ Q m (by simpa using j) g
end
inductive IsiV(K:Â)(H:Hp):V->String->Bool->Prop where
 |int_int (i):IsiV K H (.int i) "int" ū
 |int_bool (i):IsiV K H (.int i) "bool" Ŭ
 |int_tuple (i):IsiV K H (.int i) "tuple" Ŭ
 |int_str (i):IsiV K H (.int i) "str" Ŭ
 |bl_int (b):IsiV K H (.bl b) "int" ū
 |bl_bool (b):IsiV K H (.bl b) "bool" ū
 |bl_tuple (b):IsiV K H (.bl b) "tuple" Ŭ
 |str_str (x):IsiV K H (.str x) "str" ū
 |str_tuple (x):IsiV K H (.str x) "tuple" Ŭ
 |tup_tuple {a xs}:SqT K H a xs->IsiV K H (.ref a) "tuple" ū
 |tup_int {a xs}:SqT K H a xs->IsiV K H (.ref a) "int" Ŭ
 |lst_tuple {a xs}:SqL K H a xs->IsiV K H (.ref a) "tuple" Ŭ
 |lst_list {a xs}:SqL K H a xs->IsiV K H (.ref a) "list" ū
noncomputable def wQ(K:Â):Y V->Hp->VK->Prop:=λvs H Q=>∃x T b,vs=[x,.ty T]/\IsiV K H x T b/\Q (.bl b) H
theorem yf{x y:V}{us:Y Value}(r:Vals [x,y] us):∃u v,us=[u,v]/\RelV x u/\RelV y v:=by
 cases r with
 |cons r a=>
  cases a with
  |cons c a=>cases a;show⟨_,_,S,r,c⟩
theorem Hx{X:Cx}:fM X (.builtin "isinstance") (wQ X.K):=by
 intro g s w H xs us Q I r h;let⟨x,T,b,rfl,m,q⟩:=h;let⟨u,v,rfl,f,l⟩:=yf r;have l:v=.type T:=l;subst l;have a:∀(c:Bool)(t:Nat),Q (.bl c) H->EP X g w Q (.bool c) { s with toks:=t }:=λc t q=>⟨.bl c,H,I.tok t,S,q⟩
 cases m with
 |int_int i=>let⟨t,rfl⟩:=f;show IsiPair.int_int (a _ s.toks q)
 |int_bool i=>let⟨t,rfl⟩:=f;show IsiPair.int_bool (a _ _ q)
 |int_tuple i=>let⟨t,rfl⟩:=f;show IsiPair.int_tuple (a _ _ q)
 |int_str i=>let⟨t,rfl⟩:=f;show IsiPair.int_str (a _ _ q)
 |bl_int b=>cases f;show IsiPair.bool_int (a _ s.toks q)
 |bl_bool b=>cases f;show IsiPair.bool_bool (a _ s.toks q)
 |bl_tuple b=>cases f;show IsiPair.bool_tuple (a _ _ q)
 |str_str x=>let⟨t,rfl⟩:=f;show IsiPair.str_str (a _ s.toks q)
 |str_tuple x=>let⟨t,rfl⟩:=f;show IsiPair.str_tuple (a _ _ q)
 |tup_tuple h=>
  cases f;let⟨j,_,p,_⟩:=I.tuple h;show NT (ť (Tx:="tuple") F.isi_meta_tuple F.sub_tuple_tuple) ⟨p.typeIs,a _ s.toks q⟩
 |tup_int h=>
  cases f;let⟨j,_,⟨o,e,c,_⟩,_⟩:=I.tuple h;show NT (isinstance_false_tuple 'a' F.isi_meta_int F.sub_tuple_int) ⟨⟨o,e,c⟩,a _ _ q⟩
 |lst_tuple h=>
  cases f;let⟨j,_,p,_⟩:=I.list h;let⟨o,e,c,_⟩:=p.isList;show NT (isinstance_false_list 'a' F.isi_meta_tuple F.sub_list_tuple) ⟨⟨o,e,c⟩,a _ _ q⟩
 |lst_list h=>
  cases f;let⟨j,_,p,_⟩:=I.list h;show NT (ť (Tx:="list") F.isi_meta_list F.sub_list_list) ⟨p.isList.typeIs,a _ s.toks q⟩
theorem J5{prog:Ä}{w:Å}{A:É}(u:A.handled=ũ)(b:Bool)(j a:Addr)(t:a≠j)(l:Array Value):Walks prog w A j [j,a] [j] l.size (λi v=>l[i]?=Z v) (λi h=>SqI b h j a i/\SqO b h a l) where
 sub:=λc f=>by rw[KH.mp f];simp
 frame:=λ_ _ _ st k=>⟨st.1.at λo e=>k j (by simp) o e,st.2.at λo e=>k a (by simp) o e⟩
 item:=λi s Q E p st g=>by
  cases b with
  |true=>show Np st.1 st.2 (x:=l[i]) (by simp[p]) λh' q m=>g _ h' s.toks (by simp[p]) ⟨q,SqO.at (b:=ū) st.2 λo e=>(m.2 a t).trans e⟩ λc o f e=>(m.2 c λz=>f (by simp[z])).trans e
  |false=>show ě st.1 st.2 (x:=l[i]) (by simp[p]) λh' q m=>g _ h' s.toks (by simp[p]) ⟨q,SqO.at (b:=Ŭ) st.2 λo e=>(m.2 a t).trans e⟩ λc o f e=>(m.2 c λz=>f (by simp[z])).trans e
 done:=λs Q E st g=>by
  cases b with
  |true=>show Ny u st.1 st.2 (by simp) λh' r=>g h' s.toks λc o f e=>r c o (λz=>f (by simp[z])) e
  |false=>show ħ u st.1 st.2 (by simp) λh' r=>g h' s.toks λc o f e=>r c o (λz=>f (by simp[z])) e
 self:=λi s Q E st g=>by
  cases b with
  |true=>show ĵ st.1 g
  |false=>show ĩ st.1 g
theorem Jm{x:V}{us:Y Value}(r:Vals [x] us):∃u,us=[u]/\RelV x u:=by
 cases r with
 |cons r a=>cases a;show⟨_,S,r⟩
noncomputable def Fd(K:Â)(b:Bool)(f:Y Bool->Bool):Y V->Hp->VK->Prop:=λvs H Q=>∃(a:Addr)(bs:Y Bool),vs=[.ref a]/\SqB K b H a (bs.map V.bl)/\Q (.bl (f bs)) H
theorem Ie{prog:Ä}{w:Å}{A:É}{a:Array Value}{bs:Y Bool}(h:Vals (bs.map V.bl) a.toList):TruthOf prog w A (λi v=>a[i]?=Z v) (λi=>bs.getD i Ŭ):=by
 intro i v s Q E e q
 have f:a.toList[i]?=Z v:=by simpa using e
 have j:i<bs.length:=by
  have:=(Lr.mp f).1;have:=h.length;rw[wy]at this;omega
 let⟨l,g,c⟩:=h.get (i:=i) (x:=V.bl (bs.getD i Ŭ)) (by simp[j]);rw[f]at g;cases g;have c:v=.bool (bs.getD i Ŭ):=c;subst c;show ML q
theorem DY(bs:Y Bool):(List.range bs.length).all (λi=>bs.getD i Ŭ)=bs.all id:=by
 rw[Mf];simp only[KZ,Ma,id];constructor
 ·intro h x c;let⟨i,a,rfl⟩:=List.mem_iff_getElem.mp c;have:=h i a;simpa [a] using this
 ·intro h i a;have:=h bs[i] (MA a);simpa [a] using this
theorem JK(b:Bool){X:Cx}(m:X.calm=ū):fM X (.builtin "all") (Fd X.K b λbs=>bs.all id):=by
 intro g s E H xs us Q I r h;let⟨a,bs,rfl,v,q⟩:=h;let⟨u,rfl,y⟩:=Jm r;cases y;let⟨f,j,p,C⟩:=I.sqb v;have l:a≠s.heap.objs.size:=Lg p.lt
 have x:f.toArray.size=bs.length:=by have:=j.length;rw[wy]at this;simp[this]
 have W:=J5 (prog:=X.prog) (w:=X.w) (A:=X.A.in1) (I.ok.hd m) b s.heap.objs.size a l f.toArray;refine call_all_walk (sP p ⟨s.heap.objs.size,[s.heap.objs.size,a],[s.heap.objs.size],f.toArray.size,_,_,λi=>bs.getD i Ŭ,S,W,⟨nv (KJ _ (by cases b<;>rfl)),p.at λo e=>Ks _ e⟩,Ie (by simpa using j),λh' B t=>?_⟩);rw[x,DY];refine⟨.bl (bs.all id),H,I.kept (h':=h') (t':=B) λc o e=>t c o (λz=>?_) (Ks _ e),S,q⟩;rw[KH.mp z]at e;show absurd (KI e) (Ms _)
noncomputable def eC(N:Y Str)(a scope:ã)(N':Y Str)(cap:Y (Ū Nat)):Bool:=
 decide (scope.kind=.function)&&scope.names.all (λx=>decide (x.2=.cell->scope.names.lookup x.1=Z .cell))&&scope.names.all (λx=>decide (x.2=.local->scope.names.lookup x.1=Z .local)) &&
  scope.names.all (λx=>decide (x.2=.free->a.names.lookup x.1=Z .cell/\scope.names.lookup x.1=Z .free))&&decide N'.Nodup&&decide (cap.length=N'.length) &&
  (cap.zip N').all λp=>match p.1 with|none=>ū|some i=>decide (N[i]?=Z p.2/\(p.2,NameKind.free)∈scope.names)
theorem CompScope.ok{N:Y Str}{f scope:ã}{N':Y Str}{cap:Y (Ū Nat)}(h:eC N f scope N' cap=ū):CompScope N f scope N' cap:=by
 unfold eC at h;simp only[KQ,Lj,KZ]at h;let⟨⟨⟨⟨⟨⟨g,j⟩,l⟩,e⟩,m⟩,o⟩,r⟩:=h;refine⟨g,j,l,λx c a=>(e x c a).1,λx c a=>(e x c a).2,m,o,λp u i t=>?_⟩;have:=r p u;rw[t]at this;simpa using this
theorem cX{H:Hp}{p:Addr}(h:H p=ũ)(o:HO):Same H (aq H p o):=λb u q=>by rw[aJ (cV q h)];show q
theorem Ik{H a:Hp}{p:Addr}(s:Same H a)(h:H p=ũ)(o:HO):Same H (aq a p o):=λb u q=>by rw[aJ (cV q h)];show s b u q
theorem Same.sqt{K:Â}{H c:Hp}{a:Addr}{xs:Y V}(e:Same H c)(h:SqT K H a xs):SqT K c a xs:=SqB.same (b:=Ŭ) e h
theorem small{n:Nat}(h:n<=1000):n<=sizeLine:=MD (cq h)
theorem dP{p:Prop}[Decidable p](h:decide p=ū):p:=KL h
theorem fL{a:Type}{xs:Y a}{i:Nat}{x:a}(h:xs[i]?=Z x):xs.take (i+1)=xs.take i++[x]:=by let⟨c,e⟩:=Lr.mp h;rw[List.take_succ_eq_append_getElem c,e]
theorem aZ{a:Type}{xs:Y a}{i:Nat}{x:a}(h:xs[i]?=Z x):i<xs.length:=(Lr.mp h).1
theorem mD{a:Type}{xs:Y a}{i:Nat}{x:a}{k:Int}(h:xs[i]?=Z x)(e:k=(i:Int)):bZ xs k=Z x:=by subst e;show Eu h
noncomputable def bJ{a:Type}(xs:Y a)(lo c:Ū Int):Y a:=(xs.drop (HT.sIx xs.length 0 lo)).take (HT.sIx xs.length xs.length c-HT.sIx xs.length 0 lo)
theorem Vals.get'{xs:Y V}{us:Y Value}(r:Vals xs us){j:Nat}(h:j<us.length):∃x,xs[j]?=Z x/\RelV x us[j]:=by
 have f:=Vals.length r
 have a:j<xs.length:=by omega
 let⟨u,c,e⟩:=Vals.get (i:=j) (x:=xs[j]) r (by simp[a]);refine⟨xs[j],by simp[a],?_⟩;rw[KG h]at c;cases c;show e
section
variable{prog:Ä}{w:Å}{A:É}{E:Value->À->Prop}{s:À}
theorem Ia{t b:Addr}{vs ws:Y Value}{Q:Value->À->Prop}(o:Ĥ s.heap t vs.toArray)(m:Ĥ s.heap b ws.toArray)(p:vs=[])(h:Q (.ref b) s):wpAny (model prog w) A (Ì .Add (.ref t) (.ref b)) Q E s:=by let⟨⟨cls,dd,data,sl⟩,g,f,n,hd⟩:=id o;let⟨⟨u,l,data2,j⟩,c,e,r,a⟩:=id m;simp only at f hd e a;subst f hd e a;show ĭ ⟨_,g,S⟩ ⟨_,c,S⟩ Ou ę Nq Nl (Nc _ _) (tuple_addW0 t b vs.toArray ws.toArray n r dd l sl j (by simp[p])) ⟨g,c,h⟩
end
noncomputable def xl(K:Â):V->V->Hp->VK->Prop:=λx y H Q=>∃p xs i j v,x=.ref p/\y=.int i/\SqL K H p xs/\i=((j:Nat):Int)/\xs[j]?=Z v/\Q v H
theorem AS{X:Cx}:qY X (xl X.K):=by
 intro c s C H o i B A Q I ro l h;let⟨p,xs,i,j,v,rfl,rfl,g,rfl,a,q⟩:=h;cases ro;let⟨t,rfl⟩:=l;let⟨m,r,pl,z⟩:=I.list g;let⟨w,f,e⟩:=r.get a;have x:=r.length;have y:=iI;have u:=aZ a;show wpAny_getItem_list pl.isList () () (by rw[L4];simpa using f) ⟨v,H,I,e,q⟩
theorem D0(xs:Y V)(lo a:Ū Int):ix xs lo a=bJ xs lo a:=rfl
theorem xK{n j:Nat}(h:j<n):eT n (j:Int)=Z j:=by unfold eT;rw[Kq (),Kq (),L4]
theorem bN{a0 a1 a2 a3}{a:Y Ã}{env:é}:starEach (.BinOp a0 a1 a2 a3::a) env=(Ŭ,eval (.BinOp a0 a1 a2 a3) env)::starEach a env:=rfl
theorem r8{a0 a1 a2}{a:Y Ã}{env:é}:starEach (.UnaryOp a0 a1 a2::a) env=(Ŭ,eval (.UnaryOp a0 a1 a2) env)::starEach a env:=rfl
theorem pR{a0 a1 a2 a3}{a:Y Ã}{env:é}:starEach (.IfExp a0 a1 a2 a3::a) env=(Ŭ,eval (.IfExp a0 a1 a2 a3) env)::starEach a env:=rfl
theorem dM{a0 a1 a2 a3}{a:Y Ã}{env:é}:starEach (.ListComp a0 a1 a2 a3::a) env=(Ŭ,eval (.ListComp a0 a1 a2 a3) env)::starEach a env:=rfl
theorem l0{a0 a1 a2 a3}{a:Y Ã}{env:é}:starEach (.Compare a0 a1 a2 a3::a) env=(Ŭ,eval (.Compare a0 a1 a2 a3) env)::starEach a env:=rfl
theorem bX{a0 a1 a2 a3}{a:Y Ã}{env:é}:starEach (.Call a0 a1 a2 a3::a) env=(Ŭ,eval (.Call a0 a1 a2 a3) env)::starEach a env:=rfl
theorem ar{a0 a1 a2}{a:Y Ã}{env:é}:starEach (.Constant a0 a1 a2::a) env=(Ŭ,eval (.Constant a0 a1 a2) env)::starEach a env:=rfl
theorem cU{a0 a1 a2}{a:Y Ã}{env:é}:starEach (.Attribute a0 a1 a2::a) env=(Ŭ,eval (.Attribute a0 a1 a2) env)::starEach a env:=rfl
theorem az{a0 a1 a2}{a:Y Ã}{env:é}:starEach (.Subscript a0 a1 a2::a) env=(Ŭ,eval (.Subscript a0 a1 a2) env)::starEach a env:=rfl
theorem aa{a0 a1}{a:Y Ã}{env:é}:starEach (.Name a0 a1::a) env=(Ŭ,eval (.Name a0 a1) env)::starEach a env:=rfl
theorem xQ{a0 a1}{a:Y Ã}{env:é}:starEach (.List a0 a1::a) env=(Ŭ,eval (.List a0 a1) env)::starEach a env:=rfl
theorem cC{a0 a1 a2}{a:Y Ã}{env:é}:starEach (.Tuple a0 a1 a2::a) env=(Ŭ,eval (.Tuple a0 a1 a2) env)::starEach a env:=rfl
theorem ah{a:Õ}{env:é}:(backTo a (starEach [] env)).any (·.1)=Ŭ:=rfl
theorem aG{a:Õ}{e:Ã}{es:Y Ã}{env:é}(h:starEach (e::es) env=(Ŭ,eval e env)::starEach es env)(c:(backTo a (starEach es env)).any (·.1)=Ŭ):(backTo a (starEach (e::es) env)).any (·.1)=Ŭ:=by rw[h];show c
theorem bW{a : Õ}{e : Ã}{env : é}(h : starEach [e] env = (Ŭ, eval e env) :: starEach [] env) : ((backTo a (starEach [e] env)).all (λx=> !x.1)&&(backToKw a (keywordEach [] env)).all (λx=>x.1.isSome)
      && decide ([e].length + ([] : Y Ñ).length + (if ([] : Y Ñ).isEmpty then 0 else 1) < 30)) = ū:= by
 rw[h];rfl
section
variable{X:Cx}{K:Â}
theorem xW(h:X.K=K):fM X (.builtin "isinstance") (wQ K):=h▸Hx
end
end L2
namespace L2
open PySem PySem.Spec PyProof.Rows
section
variable{X:Cx}
theorem Es:b9 X (Ê .Is) (λx y H Q=>∃a b:Bool,x=.bl a/\y=.bl b/\Q (.bl (a==b)) H):=by intro c s g H x y v u Q I e f h;let⟨a,b,rfl,rfl,q⟩:=h;cases e;cases f;show wpAny_is_plain S (oQ I q (by cases a<;>cases b<;>rfl))
theorem Ga:b9 X (Ê .IsNot) (λx y H Q=>∃a b:Bool,x=.bl a/\y=.bl b/\Q (.bl (!(a==b))) H):=by intro c s g H x y v u Q I e f h;let⟨a,b,rfl,rfl,q⟩:=h;cases e;cases f;show wpAny_isNot_plain S (oQ I q (by cases a<;>cases b<;>rfl))
end
end L2
namespace PySem
open Sem (wp)
open Builtin
open AutoSeq1 (wpAny_loadPart')
theorem JR:fillsNumberSlot (.type "tuple") "mul"=pure Ŭ:=
 fillsNumberSlot_seq (id:="tuple.__mul__") (r:=Z (.builtin "tuple.__rmul__")) MX.lookup 'a' F.slot_tuple_rmul.lookup 'a'
theorem Jt:seqRepeat? (.type "tuple")=pure (Z (.builtin "tuple.__mul__")):=by unfold seqRepeat?;rw[seqSlot_of (T:="tuple") (name:="__mul__") (id:="tuple.__mul__") MX.lookup 'a',seqSlot_of (T:="tuple") (name:="__rmul__") (id:="tuple.__rmul__") F.slot_tuple_rmul.lookup 'a'];rfl
theorem Gj(a:Int)(t:ú)(l:Addr)(c:Array Value)(n:Nat)(dd:Ū Addr)(sl:Array (Ū Value)) :
  Ľ (Builtin.«int.__rmul__» ⟨[.int a t,.ref l],[]⟩) (λ_ R s=>s.heap.get? l=Z { cls:=.type "tuple",dict:=dd,data:=.seq c n,slots:=sl }/\R (.ok (.ret Value.notImplemented)) s):=
 .of_wp λprog w A R s h=>by let⟨f,g,d,j,os⟩:=s;let⟨e,h⟩:=h;wp_walk;show⟨_,S,h⟩
theorem B1(l:Addr)(a:Array Value)(n:Nat)(dd:Ū Addr)(sl:Array (Ū Value))(u:ú) :
  Ľ (Builtin.«tuple.__mul__» ⟨[.ref l,.int 1 u],[]⟩) (λ_ R s=>s.heap.get? l=Z { cls:=.type "tuple",dict:=dd,data:=.seq a n,slots:=sl }/\R (.ok (.ret (Value.ref l))) s):=
 .of_wp λprog w A R s h=>by let⟨j,g,d,m,os⟩:=s;let⟨c,h⟩:=h;have e:=OA;have f:=Nd;wp_walk using Lz c;show⟨_,S,h⟩
theorem CN(l:Addr)(a:Array Value)(n:Nat)(dd:Ū Addr)(sl:Array (Ū Value))(k:Int)(u:ú)(e:¬ (decide (k < -(2^63)) ||decide (k≥2^63))=ū)(j:¬ (a.isEmpty ||k==1)=ū)(f:(decide (k<=0) ||a.isEmpty)=ū) :
  Ľ (Builtin.«tuple.__mul__» ⟨[.ref l,.int k u],[]⟩) (λ_ R s=>s.heap.get? l=Z { cls:=.type "tuple",dict:=dd,data:=.seq a n,slots:=sl }/\R (.ok (.ret (Value.ref s.heap.objs.size))) { s with heap:=s.heap.push { cls:=Value.type "tuple",data:=Data.seq #[] },toks:=s.toks }):=
 .of_wp λprog w A R s h=>by let⟨p,g,d,r,os⟩:=s;let⟨c,h⟩:=h;have m:=OA;have o:=Nd;wp_walk using Lz c;refine ON (KU e) ?_;wp_walk using Lz c;show⟨_,S,h⟩
theorem EB(l:Addr)(a:Array Value)(n:Nat)(dd:Ū Addr)(sl:Array (Ū Value))(k:Int)(u:ú)(m:¬ (decide (k < -(2^63)) ||decide (k≥2^63))=ū)(r:¬ (a.isEmpty ||k==1)=ū)(p:¬ (decide (k<=0) ||a.isEmpty)=ū)(c:¬ (a.size*k>(2^63-1)/8))(o:¬ Builtin.Tuple.tupleTooMany (a.size*k)=ū)(hsz:(List.foldl (λf j=>f++j) #[] (List.replicate k.toNat a)).size<=sizeLine) :
  Ľ (Builtin.«tuple.__mul__» ⟨[.ref l,.int k u],[]⟩) (λ_ R s=>s.heap.get? l=Z { cls:=.type "tuple",dict:=dd,data:=.seq a n,slots:=sl }/\R (.ok (.ret (Value.ref s.heap.objs.size))) { s with heap:=s.heap.push { cls:=Value.type "tuple",data:=Data.seq (List.foldl (λf j=>f++j) #[] (List.replicate k.toNat a)) },toks:=s.toks }):=
 .of_wp λprog w A R s h=>by let⟨x,g,d,y,os⟩:=s;let⟨e,h⟩:=h;have t:=OA;have v:=Nd;wp_walk using Lz e;refine ON (KU m) ?_;wp_walk using Lz e;refine ON (KU c) ?_;wp_walk using Lz e;show⟨_,S,h⟩
end PySem
namespace L2
open PySem PySem.Spec PyProof.Rows
inductive D where
 |int (i:Int)|bl (b:Bool)|str (x:Str)|non|tup (xs:List D)|lst (xs:List D)|fzl (xs:List D)|obj (nm:Str) (fs:List (Str×D))|map (Pb:List (aK×D))|exc (nm:Str) (ats:List D)
noncomputable def gc(a C:Addr)(c:Ū Addr):Heap->Prop:=λh=>∃o vs,h.get? a=Z o/\o.cls=.ref C/\o.dict=c/\o.data=.fields vs
inductive Rp(K:Â)(H:Hp):D->V->Prop where
 |int (i:Int):Rp K H (.int i) (.int i)
 |bl (b:Bool):Rp K H (.bl b) (.bl b)
 |str (x:Str):Rp K H (.str x) (.str x)
 |non:Rp K H .non .non
 |tup {a:Addr} {vs:List V} {ds:List D}:H a=Z (.tup vs)->vs.length=ds.length->(∀(i:Nat)(v:V)(d:D),vs[i]?=Z v->ds[i]?=Z d->Rp K H d v)->Rp K H (.tup ds) (.ref a)
 |lst {a:Addr} {vs:List V} {ds:List D}:H a=Z (.lst vs)->vs.length=ds.length->(∀(i:Nat)(v:V)(d:D),vs[i]?=Z v->ds[i]?=Z d->Rp K H d v)->Rp K H (.lst ds) (.ref a)
 |fzl {a:Addr} {vs:List V} {ds:List D}:SqL K H a vs->vs.length=ds.length->(∀(i:Nat)(v:V)(d:D),vs[i]?=Z v->ds[i]?=Z d->Rp K H d v)->Rp K H (.fzl ds) (.ref a)
 |obj {a C dx:Addr} {nm:Str} {vs:List (Str×V)} {fs:List (Str×D)}:Ú K Á nm=Z (Z (.ref C))->H a=Z (.ins C dx vs)->vs.map (·.1)=fs.map (·.1)->(∀(i:Nat)(v:Str×V)(d:Str×D),vs[i]?=Z v->fs[i]?=Z d->Rp K H d.2 v.2)->Rp K H (.obj nm fs) (.ref a)
 |map {a:Addr} {ws:List (aK×V)} {Pb:List (aK×D)}:H a=Z (.dK ws)->ws.map (·.1)=Pb.map (·.1)->(∀(i:Nat)(w:aK×V)(d:aK×D),ws[i]?=Z w->Pb[i]?=Z d->Rp K H d.2 w.2)->Rp K H (.map Pb) (.ref a)
 |exc0 {a C:Addr} {nm:Str}:Ú K Á nm=Z (Z (.ref C))->H a=Z (.ext (gc a C ũ))->Rp K H (.exc nm []) (.ref a)
 |exc1 {a C p:Addr} {nm:Str} {v:V} {d:D}:Ú K Á nm=Z (Z (.ref C))->H a=Z (.ext (gc a C (Z p)))->H p=Z (.xd [("at",v)])->Rp K H d v->Rp K H (.exc nm [d]) (.ref a)
noncomputable def RpL(K:Â)(H:Hp)(ds:Y D)(vs:Y V):Prop:=vs.length=ds.length/\∀(i:Nat)(v:V)(d:D),vs[i]?=Z v->ds[i]?=Z d->Rp K H d v
section
variable{K:Â}{H m j l w z t y:Hp}{d:D}{v:V}{ds es:Y D}{vs ws:Y V}
theorem Rp.i{n:Int}(h:Rp K H (.int n) v):v=.int n:=by cases h;rfl
theorem Rp.b{b:Bool}(h:Rp K H (.bl b) v):v=.bl b:=by cases h;rfl
theorem Rp.s{x:Str}(h:Rp K H (.str x) v):v=.str x:=by cases h;rfl
theorem Rp.n(h:Rp K H .non v):v=.non:=by cases h;rfl
theorem i8{P:Int->Prop}(h:match d with|.int n=>P n|_=>False):∃n,d=.int n/\P n:=by
 cases d with
 |int n=>show⟨n,S,h⟩
 |_=>show h.elim
theorem js{P:Bool->Prop}(h:match d with|.bl n=>P n|_=>False):∃n,d=.bl n/\P n:=by
 cases d with
 |bl n=>show⟨n,S,h⟩
 |_=>show h.elim
theorem Hu{P:Y D->Prop}(h:match d with|.tup n=>P n|_=>False):∃n,d=.tup n/\P n:=by
 cases d with
 |tup n=>show⟨n,S,h⟩
 |_=>show h.elim
theorem Rp.same(s:Same H m)(h:Rp K H d v):Rp K m d v:=by
 induction h with
 |int i=>show .int i
 |bl b=>show .bl b
 |str x=>show .str x
 |non=>show .non
 |tup a c _ e=>show .tup (s _ _ a) c e
 |lst a c _ e=>show .lst (s _ _ a) c e
 |fzl a c _ e=>show .fzl (s.seq a) c e
 |obj f a c _ e=>show .obj f (s _ _ a) c e
 |map a c _ e=>show .map (s _ _ a) c e
 |exc0 f a=>show .exc0 f (s _ _ a)
 |exc1 f a c _ e=>show .exc1 f (s _ _ a) (s _ _ c) e
theorem RpL.same(s:Same H m)(h:RpL K H ds vs):RpL K m ds vs:=⟨h.1,λi v d a hd=>(h.2 i v d a hd).same s⟩
theorem RpL.nil:RpL K H [] []:=⟨S,λi v d a _=>by simp at a⟩
theorem RpL.cons(r:Rp K H d v)(h:RpL K H ds vs):RpL K H (d::ds) (v::vs):=⟨by simp[h.1],λi u e c a=>by
 cases i with
 |zero=>cases c;cases a;show r
 |succ i=>show h.2 i u e c a⟩
theorem RpL.append(h:RpL K H ds vs)(h':RpL K H es ws):RpL K H (ds++es) (vs++ws):=by
 refine⟨by rw[Kp,Kp,h.1,h'.1],λi u e f a=>?_⟩;rcases K7 i vs.length with c|c
 ·rw[Kn c]at f;rw[Kn (by rw[←h.1];show c)]at a;show h.2 i u e f a
 ·rw[Km c]at f;rw[Km (by rw[←h.1];show c),←h.1]at a;show h'.2 _ u e f a
theorem RpL.one(r:Rp K H d v):RpL K H [d] [v]:=.cons r .nil
theorem RpL.take(h:RpL K H ds vs)(k:Nat):RpL K H (ds.take k) (vs.take k):=⟨by rw[KY,KY,h.1],λi u e a f=>by
 rcases K7 i k with c|c
 ·rw[Mg c]at a f;show h.2 i u e a f
 ·rw[List.getElem?_take_eq_none c]at a
  cases a⟩
theorem RpL.drop(h:RpL K H ds vs)(k:Nat):RpL K H (ds.drop k) (vs.drop k):=⟨by rw[LH,LH,h.1],λi u e c a=>by
 rw[Nf]at c a
 show h.2 _ u e c a⟩
theorem RpL.set(h:RpL K H ds vs)(r:Rp K H d v)(k:Nat):RpL K H (ds.set k d) (vs.set k v):=⟨by rw[K0,K0,h.1],λi u e a f=>by
 by_cases c:k=i
 ·subst c
  have g:k<vs.length:=by have:=aZ a;rwa [K0]at this
  rw[Ls g]at a;rw[Ls (by rw[←h.1];show g)]at f;cases a;cases f;show r
 ·rw[Lk c]at a f
  show h.2 i u e a f⟩
theorem RpL.dropLast(h:RpL K H ds vs):RpL K H ds.dropLast vs.dropLast:=by rw[OW,OW,h.1];show h.take _
theorem RpL.rep(h:RpL K H ds vs):∀k:Nat,RpL K H (List.replicate k ds).flatten (List.replicate k vs).flatten
 |0=>.nil
 |k+1=>by rw[LR,LR,Li,Li];show h.append (RpL.rep h k)
theorem RpL.at(h:RpL K H ds vs){i:Nat}(e:ds[i]?=Z d):∃v,vs[i]?=Z v/\Rp K H d v:=by
 have a:i<vs.length:=by rw[h.1];show aZ e
 show⟨vs[i],by simp[a],h.2 i _ d (by simp[a]) e⟩
theorem RpL.cut(h:RpL K H ds vs)(lo a:Ū Int):RpL K H (bJ ds lo a) (ix vs lo a):=by rw[D0];unfold bJ;rw[h.1];show (h.drop _).take _
theorem RpL.tup{a:Addr}(h:RpL K H ds vs)(s:H a=Z (.tup vs)):Rp K H (.tup ds) (.ref a):=.tup s h.1 h.2
theorem RpL.lst{a:Addr}(h:RpL K H ds vs)(s:H a=Z (.lst vs)):Rp K H (.lst ds) (.ref a):=.lst s h.1 h.2
theorem RpL.fzl{a:Addr}(h:RpL K H ds vs)(s:SqL K H a vs):Rp K H (.fzl ds) (.ref a):=.fzl s h.1 h.2
theorem RpL.ints(ns:Y Int):RpL K H (ns.map D.int) (ns.map V.int):=⟨by simp,λi v d a hd=>by
 rw[Kv]at a hd
 cases e:ns[i]? with
 |none=>rw[e]at a;cases a
 |some k=>rw[e]at a hd;cases a;cases hd;show .int k⟩
noncomputable def oJ:HO->Prop|.lst _=>True|.dK _=>True|.dT _=>True|.ins _ _ _=>True|_=>False
structure Gr(j H l m:Hp):Prop where
 f:Same j l
 h:Same H m
 s:Same l m
 o:∀p (u:HO),H p=Z u->j p=ũ->(k:oJ u:=by trivial)->l p=ũ
theorem Gr.refl(s:Same j H):Gr j H j H:=⟨Same.refl _,Same.refl _,s,λ_ _ _ h _=>h⟩
theorem Gr.trans(a:Gr j H w z)(b:Gr w z t y):Gr j H t y:=⟨a.f.trans b.f,a.h.trans b.h,b.s,λp u c e k=>b.o p u (a.h p _ c) (a.o p u c e k) k⟩
theorem Gr.join(a:Gr j H w z)(b:Gr w H t y):Gr j H t y:=⟨a.f.trans b.f,b.h,b.s,λp u c e k=>b.o p u c (a.o p u c e k) k⟩
theorem BY(s:Same j H){p:Addr}(o:HO):Same (aq j p o) (aq H p o):=λb u e=>by
 by_cases c:b=p
 ·subst c;rw[bu]at e ⊢;show e
 ·rw[aJ c]at e ⊢;show s b u e
theorem Gr.new(s:Same j H){p:Addr}(a:H p=ũ)(o:HO):Gr j H (aq j p o) (aq H p o):=
 ⟨cX (s.free a) o,cX a o,BY s o,λq u e c _=>by rw[aJ (cV e a)];show c⟩
theorem Gr.fresh(s:Same j H){p:Addr}(a:H p=ũ)(o:HO):Gr j H j (aq H p o):=
 ⟨Same.refl _,cX a o,λb u e=>cX a o b u (s b u e),λ_ _ _ h _=>h⟩
theorem Gr.freeze(g:Gr j H l m){p:Addr}{o:HO}(h:H p=ũ)(r:l p=ũ)(x:m p=Z o):Gr j H (aq l p o) m:=
 ⟨g.f.trans (cX r o),g.h,λb u e=>by
  by_cases c:b=p
  ·subst c;rw[bu]at e;cases e;show x
  ·rw[aJ c]at e;show g.s b u e,λq u a f k=>by rw[aJ (cV a h)];show g.o q u a f k⟩
theorem Gr.adoptT{p:Addr}{xs:Y V}(s:Same j H)(h:Same H m)(a:m p=Z (.tup xs)):∃l,Gr j H l m/\l p=Z (.tup xs):=by
 have f:∀u,j p=Z u->u=.tup xs:=λu e=>by have:=h _ _ (s _ _ e);rw[a]at this;cases this;rfl
 refine⟨aq j p (.tup xs),⟨λb u e=>?_,h,λb u e=>?_,λb u e n k=>?_⟩,bu⟩
 ·by_cases c:b=p
  ·subst c;rw[bu,f u e]
  ·rw[aJ c];show e
 ·by_cases c:b=p
  ·subst c;rw[bu]at e;cases e;show a
  ·rw[aJ c]at e;show h _ _ (s _ _ e)
 ·by_cases c:b=p
  ·subst c;have:=h _ _ e;rw[a]at this;cases this;show k.elim
  ·rw[aJ c];show n
noncomputable def RpQ(K:Â)(j H:Hp)(d:D)(v:V):Prop:=Rp K j d v\/∃a vs ds,d=.lst ds/\v=.ref a/\H a=Z (.lst vs)/\RpL K j ds vs
theorem RpQ.gr(g:Gr j H l m)(h:RpQ K j H d v):RpQ K l m d v:=by
 rcases h with h|⟨a,vs,ds,e,c,f,o⟩
 ·show .inl (h.same g.f)
 ·show .inr ⟨a,vs,ds,e,c,g.h _ _ f,o.same g.f⟩
theorem RpQ.lst(s:Same j H)(h:RpQ K j H (.lst ds) v):∃a vs,v=.ref a/\H a=Z (.lst vs)/\RpL K j ds vs:=by
 rcases h with h|⟨a,vs,ds,e,g,c,f⟩
 ·cases h with|lst c f h3=>show⟨_,_,S,s _ _ c,f,h3⟩
 ·cases e;show⟨a,vs,g,c,f⟩
theorem RpQ.fzl(s:Same j H)(h:RpQ K j H (.fzl ds) v):∃a vs,v=.ref a/\SqL K H a vs/\RpL K j ds vs:=by
 rcases h with h|⟨a,vs,ds,e,g,c,f⟩
 ·cases h with|fzl c f h3=>show⟨_,_,S,s.seq c,f,h3⟩
 ·cases e
theorem RpQ.tup(s:Same j H)(h:RpQ K j H (.tup ds) v):∃a vs,v=.ref a/\SqT K H a vs/\j a=Z (.tup vs)/\RpL K j ds vs:=by
 rcases h with h|⟨a,vs,ds,e,g,c,f⟩
 ·cases h with|tup c f h3=>show⟨_,_,S,.of (s _ _ c),c,f,h3⟩
 ·cases e
theorem RpQ.int{i:Int}(h:RpQ K j H (.int i) v):v=.int i:=by
 rcases h with h|⟨a,vs,ds,e,_⟩
 ·obtain rfl:=h.i;rfl
 ·cases e
theorem RpQ.bl{i:Bool}(h:RpQ K j H (.bl i) v):v=.bl i:=by
 rcases h with h|⟨a,vs,ds,e,_⟩
 ·obtain rfl:=h.b;rfl
 ·cases e
theorem RpQ.str{i:Str}(h:RpQ K j H (.str i) v):v=.str i:=by
 rcases h with h|⟨a,vs,ds,e,_⟩
 ·obtain rfl:=h.s;rfl
 ·cases e
theorem RpQ.non(h:RpQ K j H .non v):v=.non:=by
 rcases h with h|⟨a,vs,ds,e,_⟩
 ·obtain rfl:=h.n;rfl
 ·cases e
noncomputable def gw:D->Ū (Y D)
 |.lst ds=>Z ds
 |.tup ds=>Z ds
 |.fzl ds=>Z ds
 |_=>ũ
theorem RpQ.seq(s:Same j H)(h:RpQ K j H d v)(e:gw d=Z ds):∃a vs,v=.ref a/\(SqL K H a vs\/SqT K H a vs)/\RpL K j ds vs:=by
 cases d with
 |lst ds=>cases e;let⟨a,vs,e,c,f⟩:=h.lst s;show⟨a,vs,e,.inl (.of c),f⟩
 |tup ds=>cases e;let⟨a,vs,e,c,_,f⟩:=h.tup s;show⟨a,vs,e,.inr c,f⟩
 |fzl ds=>cases e;let⟨a,vs,e,c,f⟩:=h.fzl s;show⟨a,vs,e,.inl c,f⟩
 |_=>cases e
theorem Rp.seq(h:Rp K j d v)(e:gw d=Z ds):∃(b:Bool)(a:Addr)(vs:Y V),v=.ref a/\SqB K b j a vs/\RpL K j ds vs:=by
 cases d with
 |lst ds=>cases e;cases h with|lst h1 h2 h3=>show⟨ū,_,_,S,SqL.of h1,h2,h3⟩
 |tup ds=>cases e;cases h with|tup h1 h2 h3=>show⟨Ŭ,_,_,S,SqT.of h1,h2,h3⟩
 |fzl ds=>cases e;cases h with|fzl h1 h2 h3=>show⟨ū,_,_,S,h1,h2,h3⟩
 |_=>cases e
end
inductive Ow where|lst (xs:List D)|dct (ks:List aK)|dcT (ks:List (List aK))
inductive Sl where|v (d:D)|ob (o:Ow)
noncomputable abbrev Sl.own(xs:Y D):Sl:=.ob (.lst xs)
noncomputable abbrev Sl.dct(a:Y aK):Sl:=.ob (.dct a)
noncomputable abbrev Sl.dcT(a:Y (Y aK)):Sl:=.ob (.dcT a)
noncomputable def OwR(K:Â)(e:Hp):Ow->HO->Prop
 |.lst ds,.lst vs=>RpL K e ds vs
 |.dct c,.dK a=>a.map (·.1)=c
 |.dcT c,.dT a=>a.map (·.1)=c
 |_,_=>False
theorem OwR.k{K:Â}{e:Hp}{o:Ow}{u:HO}(r:OwR K e o u):oJ u:=by
 cases o with
 |lst ds=>
  cases u with
  |lst vs=>show Þ
  |_=>show r.elim
 |dct c=>
  cases u with
  |dK a=>show Þ
  |_=>show r.elim
 |dcT c=>
  cases u with
  |dT a=>show Þ
  |_=>show r.elim
theorem OwR.same{K:Â}{c a:Hp}{o:Ow}{u:HO}(r:OwR K c o u)(s:Same c a):OwR K a o u:=by
 cases o with
 |lst ds=>
  cases u with
  |lst vs=>show (show RpL K c ds vs from r).same s
  |_=>show r.elim
 |dct f=>
  cases u with
  |dK e=>show r
  |_=>show r.elim
 |dcT f=>
  cases u with
  |dT e=>show r
  |_=>show r.elim
noncomputable abbrev bM:=Y (Ū Sl)
noncomputable def BW:FuncBody->Ū Õ
 |.stmts b=>(match b.getLast? with
  |some (.Return (Z (.Call _ _ a _)) _)=>a.findSome? λk=>(match k.value with|.Lambda _ _ _ pos=>Z pos|_=>ũ)
  |_=>ũ)
 |_=>ũ
noncomputable def GQ(K:Â)(x:Str):Ū (Addr×Array Value):=match Ú K Á x with
 |some (Z (.ref f))=>(match K.lookup f with
  |some ⟨_,_,.func e,_⟩=>(match e.code with
   |.ref c=>(match K.lookup c with
    |some ⟨_,_,.fields vs,_⟩=>(match (vs[11]?:Ū Value),BW e.body with
     |some (.ref P),Z a=>Z (P,#[rawInt a.line,rawInt a.col,.str (e.qualname++".<locals>."++"<lambda>") 0])
     |_,_=>ũ)
    |_=>ũ)
   |_=>ũ)
  |_=>ũ)
 |_=>ũ
noncomputable def uw(K:Â):Y (Addr×Array Value):=(["least_grown","greatest_first"]:Y Str).filterMap (GQ K)
noncomputable def TabF(K:Â)(a:Hp):Prop:=∀t∈uw K,a t.1=Z (.tbl t.2)
theorem TabF.same{K:Â}{c a:Hp}(h:TabF K c)(s:Same c a):TabF K a:=λt e=>s _ _ (h t e)
structure EnvD(K:Â)(H0 Φ H:Hp)(σ:St)(ρ:bM):Prop where
 fz:Same Φ H
 len:σ.length=ρ.length
 sl:∀(i:Nat)(d:D),ρ[i]?=Z (Z (.v d))->∃v,σ[i]?=Z (Z v)/\Rp K Φ d v
 ow:∀(i:Nat)(o:Ow),ρ[i]?=Z (Z (.ob o))->∃p u,σ[i]?=Z (Z (.ref p))/\H0 p=ũ/\Φ p=ũ/\H p=Z u/\OwR K Φ o u
 ne:∀(i j:Nat)(o w:Ow)(p:Addr),ρ[i]?=Z (Z (.ob o))->ρ[j]?=Z (Z (.ob w))->σ[i]?=Z (Z (.ref p))->σ[j]?=Z (Z (.ref p))->i=j
 tb:TabF K Φ
section
variable{K:Â}{m H t f o:Hp}{a:St}{ρ:bM}{d:D}{v:V}{ds es:Y D}{vs:Y V}
theorem EnvD.owl(E:EnvD K m f H a ρ)(i:Nat)(ds:Y D)(h:ρ[i]?=Z (Z (.own ds))):∃p vs,a[i]?=Z (Z (.ref p))/\m p=ũ/\f p=ũ/\H p=Z (.lst vs)/\RpL K f ds vs:=by
 let⟨p,u,e,c,g,j,r⟩:=E.ow i _ h
 cases u with
 |lst vs=>show⟨p,vs,e,c,g,j,r⟩
 |_=>show (show False from r).elim
theorem EnvD.gr(E:EnvD K m f H a ρ)(g:Gr f H o t):EnvD K m o t a ρ:=
 ⟨g.s,E.len,λi d h=>let ⟨v,e,r⟩:=E.sl i d h;⟨v,e,r.same g.f⟩,
  λi ds h=>let ⟨p,vs,e,h0,hn,hp,r⟩:=E.ow i ds h;⟨p,vs,e,h0,g.o p _ hp hn r.k,g.h _ _ hp,r.same g.f⟩,E.ne,E.tb.same g.f⟩
theorem iN{p:Type}{l:Y p}{i j:Nat}{x y:p}(h:(l.set i x)[j]?=Z y):(j=i/\i<l.length/\y=x)\/(j≠i/\l[j]?=Z y):=by
 by_cases c:i=j
 ·subst c
  have g:i<l.length:=by have:=aZ h;rwa [K0]at this
  rw[Ls g]at h;cases h;show .inl ⟨S,g,S⟩
 ·rw[Lk c]at h;show .inr ⟨λe=>c e.symm,h⟩
theorem EnvD.set(E:EnvD K m f H a ρ)(r:Rp K f d v)(i:Nat):EnvD K m f H (a.set i (Z v)) (ρ.set i (Z (.v d))):=by
 have z:∀{j:Nat}{x:Ū V},j≠i->a[j]?=Z x->(a.set i (Z v))[j]?=Z x:=λc h=>by rw[Lk (Lv c)];show h
 refine⟨E.fz,by rw[K0,K0,E.len],λj e h=>?_,λj ds h=>?_,λj k ds es p l w A B=>?_,E.tb⟩
 ·rcases iN h with⟨rfl,y,g⟩|⟨c,h⟩
  ·cases g;show⟨v,by rw[Ls (by rw[E.len];show y)],r⟩
  ·let⟨u,G,I⟩:=E.sl j e h;show⟨u,z c G,I⟩
 ·rcases iN h with⟨rfl,y,g⟩|⟨c,h⟩
  ·cases g
  ·let⟨p,vs,e,q⟩:=E.ow j ds h;show⟨p,vs,z c e,q⟩
 ·rcases iN l with⟨rfl,_,g⟩|⟨C,l⟩
  ·cases g
  rcases iN w with⟨rfl,_,g⟩|⟨F,w⟩
  ·cases g
  rw[Lk (Lv C)]at A;rw[Lk (Lv F)]at B;show E.ne j k ds es p l w A B
theorem EnvD.weak{c:bM}(E:EnvD K m f H a ρ)(r:c.length=ρ.length)(e:∀(i:Nat) x,c[i]?=Z (Z x)->ρ[i]?=Z (Z x)):EnvD K m f H a c:=
 ⟨E.fz,by rw[E.len,r],λi d h=>E.sl i d (e i _ h),λi ds h=>E.ow i ds (e i _ h),λi j ds es p g l=>E.ne i j ds es p (e i _ g) (e j _ l),E.tb⟩
end
inductive NF{α:Type}(x:α)(R:α->Prop):Prop|mk (y:α) (_:x=y) (_:R y)
theorem NF.get{a:Type}{x:a}{R:a->Prop}(h:NF x R):R x:=by let⟨_,rfl,h⟩:=h;show h
noncomputable abbrev TD:=bM->(D->Prop)->Prop
noncomputable abbrev bg:=bM->(Y D->Prop)->Prop
noncomputable abbrev cg:=bM->(Bool->Prop)->Prop
inductive lE(K:Â)(t:TD)(σ:St)(H:Hp)(Q:VK):Prop|mk (H0:Hp) (Φ:Hp) (ρ:bM) (R:D->Prop) (_:EnvD K H0 Φ H σ ρ) (_:t ρ R) (_:∀d Φ' H' v,R d->Gr Φ H Φ' H'->Rp K Φ' d v->Q v H')
inductive lQ(K:Â)(t:TD)(σ:St)(H:Hp)(Q:VK):Prop|mk (H0:Hp) (Φ:Hp) (ρ:bM) (R:D->Prop) (_:EnvD K H0 Φ H σ ρ) (_:t ρ R) (_:∀d Φ' H' v,R d->Gr Φ H Φ' H'->RpQ K Φ' H' d v->Q v H')
inductive lF(K:Â)(t:bg)(σ:St)(H:Hp)(Q:VK):Prop|mk (H0:Hp) (Φ:Hp) (ρ:bM) (R:List D->Prop) (_:EnvD K H0 Φ H σ ρ) (_:t ρ R) (_:∀ds Φ' H' p vs,R ds->Gr Φ H Φ' H'->H p=ũ->Φ' p=ũ->H' p=Z (.lst vs)->RpL K Φ' ds vs->Q (.ref p) H')
inductive lA(K:Â)(n:Nat)(t:bg)(σ:St)(H:Hp)(Q:List V->Hp->Prop):Prop|mk (H0:Hp) (Φ:Hp) (ρ:bM) (R:List D->Prop) (_:EnvD K H0 Φ H σ ρ) (_:t ρ R) (_:∀ds Φ' H' vs,R ds->Gr Φ H Φ' H'->RpL K Φ' ds vs->ds.length=n->Q vs H')
inductive lT(K:Â)(t:cg)(σ:St)(H:Hp)(Q:Bool->Hp->Prop):Prop|mk (H0:Hp) (Φ:Hp) (ρ:bM) (R:Bool->Prop) (_:EnvD K H0 Φ H σ ρ) (_:t ρ R) (_:∀b Φ' H',R b->Gr Φ H Φ' H'->Q b H')
structure PD(K:Â)(X:Cx)(e:Ã)(t:TD):Prop where pe:X.K=K->PE X e (lE K t)
structure PQ(K:Â)(X:Cx)(e:Ã)(t:TD):Prop where pe:X.K=K->PE X e (lQ K t)
structure PF(K:Â)(X:Cx)(e:Ã)(t:bg):Prop where pe:X.K=K->PE X e (lF K t)
structure PAD(K:Â)(X:Cx)(es:List Ã)(t:bg):Prop where pa:X.K=K->PA X es (lA K es.length t)
structure PTD(K:Â)(X:Cx)(e:Ã)(t:cg):Prop where pt:X.K=K->PT X e (lT K t)
structure PWD(K:Â)(X:Cx)(e:Ã)(t:cg):Prop where pw:X.K=K->PW X e (lT K t)
theorem PE.imp{X:Cx}{e:Ã}{t t':TE}(h:PE X e t)(k:∀c H Q,t' c H Q->t c H Q):PE X e t':=λa s c H Q I f=>h a s c H Q I (k c H Q f)
theorem PT.imp{X:Cx}{e:Ã}{t t':TT}(h:PT X e t)(k:∀c H Q,t' c H Q->t c H Q):PT X e t':=λa s c H Q I f=>h a s c H Q I (k c H Q f)
theorem PW.imp{X:Cx}{e:Ã}{t t':TT}(h:PW X e t)(k:∀c H Q,t' c H Q->t c H Q):PW X e t':=λg a s c H Q I f=>h g a s c H Q I (k c H Q f)
theorem PA.imp{X:Cx}{e:Y Ã}{t t':TA}(h:PA X e t)(k:∀c H Q,t' c H Q->t c H Q):PA X e t':=λf a s c H Q I g=>h f a s c H Q I (k c H Q g)
theorem PS.imp{X:Cx}{e:Ç}{t t':TS}(h:PS X e t)(k:∀D c H,t' D c H->t D c H):PS X e t':=λa s c H D I f=>h a s c H D I (k D c H f)
theorem PSs.imp{X:Cx}{e:Y Ç}{t t':TS}(h:PSs X e t)(k:∀D c H,t' D c H->t D c H):PSs X e t':=λa s c H D I f=>h a s c H D I (k D c H f)
section
variable{K:Â}{X:Cx}{e a b c:Ã}{es:Y Ã}{l:Õ}{t m tb:TD}{tf:bg}{z:bg}{w A:cg}
theorem PD.q(h:PD K X e t):PQ K X e t:=⟨λu=>(h.pe u).imp λB H Q p=>by let⟨o,y,ρ,R,E,t,k⟩:=p;show⟨o,y,ρ,R,E,t,λd f j v r g x=>k d f j v r g (.inl x)⟩⟩
noncomputable def wF(t:bg):TD:=λρ R=>t ρ λds=>R (.lst ds)
theorem PF.d(h:PF K X e tf):PD K X e (wF tf):=⟨λx=>(h.pe x).imp λG H Q u=>by let⟨o,C,ρ,R,E,t,k⟩:=u;show⟨o,C,ρ,_,E,t,λds F j p vs r g v f y B=>
 k (.lst ds) _ j _ r (g.freeze v f y) ((B.same (cX f _)).lst bu)⟩⟩
noncomputable def qE(i:Nat):TD:=λρ R=>match ρ[i]? with|some (Z (.v d))=>R d|_=>False
noncomputable def lr(i:Nat):TD:=λρ R=>match ρ[i]? with|some (Z (.v d))=>R d|some (Z (.ob (.lst ds)))=>R (.lst ds)|_=>False
theorem dv(i:Nat){x:Str}(j:X.N[i]?=Z x:=by rfl)(o:cx X.env.scope x:=by nofun)(hd:ad x:=by decide)
  (g:am x:=by decide):PD K X (.Name x l) (qE i):=⟨λ_=>(pv i j o hd g).imp λy H Q f=>by
 let⟨u,p,ρ,R,E,t,k⟩:=f;unfold qE at t;split at t
 ·next d h=>
  let⟨v,e,r⟩:=E.sl i d h;show⟨v,e,k d p H v t (.refl E.fz) r⟩
 ·show t.elim⟩
theorem ae(i:Nat){x:Str}(o:X.N[i]?=Z x:=by rfl)(y:cx X.env.scope x:=by nofun)(hd:ad x:=by decide)
  (j:am x:=by decide):PQ K X (.Name x l) (lr i):=⟨λ_=>(pv i o y hd j).imp λC H Q g=>by
 let⟨B,f,ρ,R,E,t,k⟩:=g;unfold lr at t;split at t
 ·next d h=>
  let⟨v,e,r⟩:=E.sl i d h;show⟨v,e,k d f H v t (.refl E.fz) (.inl r)⟩
 ·next ds h=>
  let⟨p,vs,e,_,_,u,r⟩:=E.owl i ds h;show⟨_,e,k _ f H _ t (.refl E.fz) (.inr ⟨p,vs,ds,S,S,u,r⟩)⟩
 ·show t.elim⟩
noncomputable def dC(d:D):TD:=λ_ R=>R d
theorem nu{v:V}{d:D}(h:PE X e (tC v))(r:∀f,Rp K f d v):PD K X e (dC d):=⟨λ_=>h.imp λo H Q g=>by let⟨j,f,ρ,R,E,t,k⟩:=g;show k d f H v t (.refl E.fz) (r f)⟩
theorem ak{i j}:PD K X (.Constant (.int i) j l) (dC (.int i)):=nu DJ λ_=>.int i
theorem gD{i j}:PD K X (.Constant (.bool i) j l) (dC (.bl i)):=nu JD λ_=>.bl i
theorem aC{i j}:PD K X (.Constant (.str i) j l) (dC (.str i)):=nu xj λ_=>.str i
theorem bE{j}:PD K X (.Constant .none j l) (dC .non):=nu zi λ_=>.non
noncomputable abbrev cH:=D->D->(D->Prop)->Prop
inductive lR2(K:Â)(r:cH)(x:V)(y:V)(H:Hp)(Q:VK):Prop|mk (Φ:Hp) (dx:D) (dy:D) (R:D->Prop) (_:Same Φ H) (_:RpQ K Φ H dx x) (_:RpQ K Φ H dy y) (_:r dx dy R) (_:∀d Φ' H' v,R d->Gr Φ H Φ' H'->Rp K Φ' d v->Q v H')
structure OpD(K:Â)(X:Cx)(f:Value->Value->Sem Value)(r:cH):Prop where o:X.K=K->b9 X f (lR2 K r)
noncomputable def ia(r:cH)(m tb:TD):TD:=λρ R=>m ρ λx=>tb ρ λy=>r x y R
theorem nL{r:cH}{C:St}{H:Hp}{Q:VK}(h:lE K (ia r m tb) C H Q):iW (lR2 K r) (lQ K m) (lQ K tb) C H Q:=by let⟨u,ap,ρ,R,E,t,k⟩:=h;show⟨u,ap,ρ,_,E,t,λG o T x O B M=>⟨u,o,ρ,_,E.gr B,O,λI p U y P f N=>⟨p,G,I,R,f.s,M.gr f,N,P,λd j F v r g J=>k d j F v r ((B.trans f).trans g) J⟩⟩⟩
theorem aT{g:ü}{r:cH}(o:OpD K X (Ì g) r)(h:PQ K X a m)(j:PQ K X b tb):PD K X (.BinOp a g b l) (ia r m tb):=
 ⟨λf=>(rP (o.o f) (h.pe f) (j.pe f)).imp λ_ _ _=>nL⟩
theorem iu{g:Ē}{r:cH}(p:OpD K X (Ê g) r)(h:PQ K X a m)(j:PQ K X b tb)(o:behindInMarks g b=Ŭ):PD K X (.Compare a [g] [b] l) (ia r m tb):=
 ⟨λf=>(xy (p.o f) (h.pe f) (j.pe f) o).imp λ_ _ _=>nL⟩
noncomputable def rC(t:TD):cg:=λρ R=>t ρ λd=>match d with|.bl b=>R b|_=>False
theorem G9{r:cH}{j:St}{H:Hp}{Q:Bool->Hp->Prop}(h:lT K (rC (ia r m tb)) j H Q):rN (iW (lR2 K r) (lQ K m) (lQ K tb)) j H Q:=by let⟨p,x,ρ,R,E,t,k⟩:=h;refine nL ⟨p,x,ρ,_,E,t,λd f o v r g u=>?_⟩;let⟨b,rfl,r⟩:=js r;obtain rfl:=u.b;show⟨b,S,k b f o r g⟩
theorem ay{g:Ē}{r:cH}(p:OpD K X (Ê g) r)(h:PQ K X a m)(j:PQ K X b tb)(o:behindInMarks g b=Ŭ):PTD K X (.Compare a [g] [b] l) (rC (ia r m tb)):=
 ⟨λf=>(v5 (p.o f) (h.pe f) (j.pe f) o).imp λ_ _ _=>G9⟩
noncomputable abbrev rY:=D->(D->Prop)->Prop
noncomputable def wD(r:rY)(m:TD):TD:=λρ R=>m ρ λx=>r x R
noncomputable def B6:rY:=λx R=>match x with|.int i=>R (.int (-i))|_=>False
theorem eG(u:PQ K X a m):PD K X (.UnaryOp .USub a l) (wD B6 m):=⟨λr=>(Ir BQ (u.pe r)).imp λC H Q o=>by let⟨h,y,ρ,R,E,t,k⟩:=o;show⟨h,y,ρ,_,E,t,λB g j x f p v=>by
 let⟨i,rfl,f⟩:=i8 f
 show⟨i,v.int,k _ g j _ f p (.int _)⟩⟩⟩
noncomputable def Bd:rY:=λx R=>match x with|.bl i=>R (.bl (!i))|_=>False
theorem DD(u:PQ K X a m):PD K X (.UnaryOp .Not a l) (wD Bd m):=⟨λr=>(Cd (u.pe r)).imp λC H Q o=>by let⟨h,y,ρ,R,E,t,k⟩:=o;show⟨h,y,ρ,_,E,t,λB g j x f p v=>by
 let⟨i,rfl,f⟩:=js f
 show⟨i,v.bl,k _ g j _ f p (.bl _)⟩⟩⟩
noncomputable def rg:D->(Bool->Prop)->Prop:=λd R=>match d with
 |.int i=>R (i != 0)|.bl b=>R b|.non=>R Ŭ|.str x=>x.length<=sizeLine/\R ((x.length:Int) != 0)|.lst ds=>R (!ds.isEmpty)|.tup ds=>R (!ds.isEmpty)|.fzl ds=>R (!ds.isEmpty)|.obj _ _=>False|.map _=>False|.exc _ _=>False
theorem qW{f:Hp}{ds:Y D}{vs:Y V}(h:RpL K f ds vs):(!ds.isEmpty)=!vs.isEmpty:=by have:=h.1;cases ds<;>cases vs<;>simp_all
theorem uZ{j H:Hp}{d:D}{v:V}{R:Bool->Prop}(s:Same j H)(h:RpQ K j H d v)(t:rg d R):∃k,tL K v H k/\R k:=by
 cases d with
 |int i=>rw[h.int];show⟨_,S,t⟩
 |bl i=>rw[h.bl];show⟨_,S,t⟩
 |non=>rw[h.non];show⟨_,S,t⟩
 |str i=>rw[h.str];show⟨_,⟨t.1,S⟩,t.2⟩
 |lst ds=>let⟨a,vs,rfl,f,g⟩:=h.lst s;show⟨_,.inl ⟨vs,.of f,S⟩,by rw[←qW g];show t⟩
 |tup ds=>let⟨a,vs,rfl,f,_,g⟩:=h.tup s;show⟨_,.inr (.inl ⟨vs,f,S⟩),by rw[←qW g];show t⟩
 |fzl ds=>let⟨a,vs,rfl,f,g⟩:=h.fzl s;show⟨_,.inl ⟨vs,f,S⟩,by rw[←qW g];show t⟩
 |obj C fs=>show t.elim
 |map o=>show t.elim
 |exc _ _=>show t.elim
noncomputable def HV(t:TD):cg:=λρ R=>t ρ λd=>rg d R
theorem gu(y:PQ K X a m)(B:∀f,isTrue a X.env f=(do let v ←f;standAt a.pos;holding [v] (truthy v))):PTD K X a (HV m):=
 ⟨λj=>(uh (y.pe j) B).imp λI H Q r=>by let⟨o,G,ρ,R,E,t,k⟩:=r;show⟨o,G,ρ,_,E,t,λd g p v F h C=>by
  let⟨b,u,x⟩:=uZ h.s C F;rw[j]
  show⟨b,u,k b g p x h⟩⟩⟩
noncomputable def By(t u:cg):cg:=λρ R=>t ρ λc=>(c=ū->u ρ R)/\(c=Ŭ->R Ŭ)
noncomputable def CF(t u:cg):cg:=λρ R=>t ρ λc=>(c=ū->R ū)/\(c=Ŭ->u ρ R)
noncomputable def Gz(t:cg):cg:=λρ R=>t ρ λc=>R (!c)
theorem PWD.td(h:PWD K X e w):PTD K X e w:=⟨λf=>(h.pw f).pt⟩
theorem lP(g:PTD K X a w):PWD K X (.BoolOp .And [a] l) w:=⟨λf=>Bw (g.pt f)⟩
theorem ft(g:PTD K X a w):PWD K X (.BoolOp .Or [a] l) w:=⟨λf=>wL (g.pt f)⟩
theorem lY(x:PTD K X a w)(y:PWD K X (.BoolOp .And (b::es) l) A):PWD K X (.BoolOp .And (a::b::es) l) (By w A):=
 ⟨λo=>(BB (x.pt o) (y.pw o)).imp λF H Q v=>by let⟨j,C,ρ,R,E,t,k⟩:=v;show⟨j,C,ρ,_,E,t,λc f u r g=>by
  cases c with
  |true=>rw[Kq S];show⟨j,f,ρ,R,E.gr g,r.1 S,λb h p B g'=>k b h p B (g.trans g')⟩
  |false=>rw[Kr 'b'];show k _ f u (r.2 S) g⟩⟩
theorem eo(x:PTD K X a w)(y:PWD K X (.BoolOp .Or (b::es) l) A):PWD K X (.BoolOp .Or (a::b::es) l) (CF w A):=
 ⟨λo=>(v8 (x.pt o) (y.pw o)).imp λF H Q v=>by let⟨j,C,ρ,R,E,t,k⟩:=v;show⟨j,C,ρ,_,E,t,λc f u r g=>by
  cases c with
  |true=>rw[Kq S];show k _ f u (r.1 S) g
  |false=>rw[Kr 'b'];show⟨j,f,ρ,R,E.gr g,r.2 S,λb h p B g'=>k b h p B (g.trans g')⟩⟩⟩
theorem j8(u:PTD K X a w):PTD K X (.UnaryOp .Not a l) (Gz w):=
 ⟨λp=>(ui (u.pt p)).imp λx H Q o=>by let⟨h,v,ρ,R,E,t,k⟩:=o;show⟨h,v,ρ,_,E,t,λc f j r g=>k _ f j r g⟩⟩
noncomputable def Gm(t u:TD):TD:=λρ R=>t ρ λc=>match c with|.bl c=>(c=ū->u ρ R)/\(c=Ŭ->R (.bl Ŭ))|_=>False
theorem sV{op}(h:PD K X a m):PD K X (.BoolOp op [a] l) m:=⟨λf=>yA (h.pe f)⟩
theorem mi(y:PD K X a m)(B:PD K X (.BoolOp .And (b::es) l) tb):PD K X (.BoolOp .And (a::b::es) l) (Gm m tb):=
 ⟨λo=>(xS (y.pe o) (B.pe o)).imp λJ H Q x=>by let⟨j,I,ρ,R,E,t,k⟩:=x;show⟨j,I,ρ,_,E,t,λc f u v r g G=>by
  let⟨c,rfl,r⟩:=js r;obtain rfl:=G.b;refine⟨c,S,?_⟩
  cases c with
  |true=>rw[Kq S];show⟨j,f,ρ,R,E.gr g,r.1 S,λb h p v C g' F=>k b h p v C (g.trans g') F⟩
  |false=>rw[Kr 'b'];show k _ f u _ (r.2 S) g (.bl _)⟩⟩
noncomputable def Ez(t:cg)(u v:TD):TD:=λρ R=>t ρ λc=>(c=ū->u ρ R)/\(c=Ŭ->v ρ R)
theorem jn(F:PTD K X c w)(B:PD K X a m)(C:PD K X b tb):PD K X (.IfExp c a b l) (Ez w m tb):=
 ⟨λp=>(Fe (F.pt p) (B.pe p) (C.pe p)).imp λJ H Q y=>by let⟨o,G,ρ,R,E,t,k⟩:=y;show⟨o,G,ρ,_,E,t,λc h I r g=>by
  cases c with
  |true=>rw[Kq S];show⟨o,h,ρ,R,E.gr g,r.1 S,λb f j v u g' x=>k b f j v u (g.trans g') x⟩
  |false=>rw[Kr 'b'];show⟨o,h,ρ,R,E.gr g,r.2 S,λb f j v u g' x=>k b f j v u (g.trans g') x⟩⟩⟩
noncomputable def sx:bg:=λ_ R=>R []
noncomputable def sF(t:TD)(u:bg):bg:=λρ R=>t ρ λd=>u ρ λds=>R (d::ds)
theorem ao:PAD K X [] sx:=⟨λ_=>pa_nil.imp λj H Q f=>by let⟨h,g,ρ,R,E,t,k⟩:=f;show k [] g H [] t (.refl E.fz) .nil S⟩
theorem af(y:PD K X e t)(C:PAD K X es z)(F:starEach (e::es) X.env=(Ŭ,eval e X.env)::starEach es X.env):PAD K X (e::es) (sF t z):=
 ⟨λp=>(dz (y.pe p) (C.pa p) F).imp λN H Q x=>by let⟨j,J,ρ,R,E,t,k⟩:=x;show⟨j,J,ρ,_,E,t,λd f M v r g I=>⟨j,f,ρ,_,E.gr g,r,λds h u vs G o rl B=>
  k _ h u _ G (g.trans o) (.cons (I.same o.f) rl) (by rw[KA,KA,B])⟩⟩⟩
noncomputable def Ds(t:bg):TD:=λρ R=>t ρ λds=>R (.tup ds)
noncomputable def vY(t:bg):bg:=t
theorem qg{n:Nat}(h:Nat.ble n 1000=ū):n<=sizeLine:=K3 (OX h) 'b'
theorem aO{x1}(h:PAD K X es z)(u:Nat.ble es.length 1000=ū:=by rfl):PD K X (.Tuple es x1 l) (Ds z):=
 ⟨λv=>(yi (h.pa v)).imp λF H Q o=>by let⟨j,y,ρ,R,E,t,k⟩:=o;show⟨j,y,ρ,_,E,t,λds B C vs r g rl x=>⟨by rw[rl.1,x];show qg u,λp f=>
  k _ _ _ _ r (g.trans (.new g.s f _)) ((rl.same (cX (g.s.free f) _)).tup bu)⟩⟩⟩
theorem eL(h:PAD K X es z)(u:Nat.ble es.length 1000=ū:=by rfl):PF K X (.List es l) (vY z):=
 ⟨λv=>(zb (h.pa v)).imp λF H Q o=>by let⟨j,y,ρ,R,E,t,k⟩:=o;show⟨j,y,ρ,_,E,t,λds B C vs r g rl x=>⟨by rw[rl.1,x];show qg u,λp f=>
  k _ _ _ p vs r (g.trans (.fresh g.s f _)) (g.h.free f) (g.s.free f) bu rl⟩⟩⟩
end
end L2
namespace L2
open PySem PySem.Spec PyProof.Rows PySem.Builtin PySem.Builtin.Str
section
variable{X:Cx}
noncomputable def gB(z:Str)(lo a:Ū Int):Str:=⟨(bJ z.cps.toList lo a).toArray⟩
theorem yu(z:Str)(lo c:Ū Int):Txt.slice z lo c=gB z lo c:=by
 have f:strSliceIndices lo c 1 z.length=(List.range (HT.sIx z.length z.length c-HT.sIx z.length 0 lo)).map λk=>HT.sIx z.length 0 lo+k:=by
  have l:∀(i:Int)(d:Nat),max 0 (min (if i<0 then i+(z.length:Int) else i) (z.length:Int))=(HT.sIx z.length d (Z i):Int):=λi d=>by change max 0 (min (if i<0 then i+(z.length:Int) else i) (z.length:Int))=((if i<0 then (i+(z.length:Int)).toNat else min i.toNat z.length:Nat):Int);split<;>omega
  have t:strSliceIndices lo c 1 z.length=sliceRange (HT.sIx z.length 0 lo:Int) (HT.sIx z.length z.length c:Int) 1:=by cases lo<;>cases c<;>simp only[strSliceIndices,show (1:Int)>0 by decide,M5,l _ 0,l _ z.length]<;>rfl
  rw[t];unfold sliceRange;simp only[show (1:Int)>0 by decide,M5]
  have u:(if (HT.sIx z.length 0 lo:Int)<(HT.sIx z.length z.length c:Int) then ((HT.sIx z.length z.length c:Int)-(HT.sIx z.length 0 lo:Int)+1-1)/1 else 0).toNat=HT.sIx z.length z.length c-HT.sIx z.length 0 lo:=by
   split
   ·rw[Int.ediv_one];omega
   ·omega
  rw[u];refine Md λk _=>?_;omega
 have o:HT.sIx z.length z.length c<=z.length:=by
  cases c with
  |none=>show Kw _
  |some i=>
   change (if i<0 then (i+(z.length:Int)).toNat else min i.toNat z.length)<=z.length;split<;>omega
 have y:HT.sIx z.length 0 lo<=z.length:=by
  cases lo with
  |none=>show Mq _
  |some i=>
   change (if i<0 then (i+(z.length:Int)).toNat else min i.toNat z.length)<=z.length;split<;>omega
 have g:(strSliceIndices lo c 1 z.length).filterMap (z.cps[·]?)=bJ z.cps.toList lo c:=by
  rw[f];unfold bJ
  have e:z.cps.toList.length=z.length:=by rw[Ly];rfl
  rw[e];generalize HT.sIx z.length 0 lo=a;generalize v:HT.sIx z.length z.length c=b at o;refine LA λj=>?_;rw[N3]
  have:∀m,m<=b-a->((List.range m).filterMap ((λx=>z.cps[x]?) ∘ λk=>a+k))=(z.cps.toList.drop a).take m:=by
   intro m
   induction m with
   |zero=>intro _;simp
   |succ m w=>
    intro B;rw[List.range_succ,List.filterMap_append,w ()]
    have r:a+m<z.cps.size:=by unfold Str.length at o;omega
    have A:z.cps.toList.drop a=z.cps.toList.drop a:=rfl
    have p:m<(z.cps.toList.drop a).length:=by rw[LH,e];unfold Str.length;omega
    rw[List.take_add_one,Nf];congr 1;simp[r]
  rw[this _ (Kw _)]
 unfold Txt.slice gB;split
 ·next h=>
  have p:(strSliceIndices lo c 1 z.length).length=z.length:=by simpa using h
  have e:z.cps.toList.length=z.length:=by rw[Ly];rfl
  have:bJ z.cps.toList lo c=z.cps.toList:=by
   rw[f,wy,Lm]at p;unfold bJ;rw[e]
   have:HT.sIx z.length 0 lo=0:=by omega
   rw[this,Nk,L1 (by rw[e];omega)]
  rw[this]
 ·rw[g]
theorem J0(z:Str)(lo a:Ū Int):(gB z lo a).length<=z.length:=by rw[←yu];show Š z lo a
noncomputable def yd:V->Ū Int->Ū Int->Hp->VK->Prop:=λx lo a H Q=>∃z,x=.str z/\z.length<=sizeLine/\Q (.str (gB z lo a)) H
theorem v9{v:Value}{o:Ū Int}(h:ð v o):∃p:Ū (Int×ú),v=partValue p/\p.map (·.1)=o:=by
 cases h with
 |none=>show⟨ũ,S,S⟩
 |int i t=>show⟨Z (i,t),S,S⟩
theorem Bm:SlR X yd:=by
 intro e s E H x v B C lo A sl Q I y p pl w h;let⟨z,rfl,r,q⟩:=h;let⟨t,rfl⟩:=y;let⟨a,rfl,rfl⟩:=v9 pl;let⟨c,rfl,rfl⟩:=v9 w;refine⟨"str",_,F.slot_str_getitem.lookup,NN _ _ _,?_⟩
 have f:s.heap.IsSlice sl a c ũ:=by let⟨o,m,g,j⟩:=p;show⟨o,m,g,j⟩
 refine wpAny_getItem_str_slice (l:=a) (u:=c) (st:=ũ) f S (post_val_or_str ⟨?_,λt' k=>?_⟩)
 ·show K3 (Š z _ _) r
 ·refine⟨.str (gB z (a.map (·.1)) (c.map (·.1))),H,?_,⟨t',?_⟩,q⟩
  ·show I.tok _
  ·rw[←yu];rfl
noncomputable def fw(z:Str)(n:Nat):Str:=⟨((List.replicate n z.cps.toList).flatten).toArray⟩
theorem AB(z:Str):fw z 1=z:=by unfold fw;simp
theorem vF:∀(n:Nat)(x a:Array Nat),(List.replicate n x).foldl (·++·) a=a++((List.replicate n x.toList).flatten).toArray
 |0,x,a=>by simp
 |n+1,x,a=>by rw[LR,List.foldl_cons,vF n x (a++x),LR,Li];apply Ţ;simp
theorem CT(z:Str)(n:Nat):(fw z n).length=z.length*n:=by unfold fw Str.length;simp[Oy]
noncomputable def IG:R2:=λx y H Q=>∃z k,x=.str z/\y=.int k/\-(2^62)<=k/\k<2^62/\z.length*k.toNat<=sizeLine/\z.length<=sizeLine/\Q (.str (fw z k.toNat)) H
theorem Ab:b9 X (Ì .Mult) IG:=by
 intro l s G H x y v u Q I r w h;let⟨z,k,rfl,rfl,A,B,g,C,q⟩:=h;let⟨t,rfl⟩:=r;let⟨t',rfl⟩:=w;refine P.mul_str (by rw[KU (),KU ()];rfl) (λm a=>?_) (λm a=>?_) ?_
 ·intro F
  have p:0<k:=by omega
  have o:((z.length:Int))*k<=2^24:=by have:((z.length*k.toNat:Nat):Int)<=(sizeLine:Int):=Int.ofNat_le.mpr g;rw[Int.natCast_mul,Int.toNat_of_nonneg ()]at this;show this
  have E:(z.length:Int)<=(2^63-1)/k:=(Int.le_ediv_iff_mul_le p).mpr (Int.le_trans o 'b');omega
 ·unfold tooLong;show KU ()
 ·by_cases c:k<1
  ·rw[Kq c]
   have e:k.toNat=0:=by omega
   rw[e]at q;show⟨'b',.str Str.empty,H,I.tok _,⟨_,S⟩,q⟩
  ·rw[Kr c];by_cases a:(k==1 ||z.length==0)=ū
   ·rw[Kq a]
    have e:fw z k.toNat=z:=by
     rw[NU]at a;rcases a with a|a
     ·have:=eq_of_beq a;subst this;show AB z
     ·have j:z.cps.toList=[]:=by have:=eq_of_beq a;unfold Str.length at this;show LM.mp (by rw[Ly];show this)
      unfold fw;rw[j]
      have f:z.cps=#[]:=by apply Ţ;rw[j]
      apply Str.ext';rw[f];simp
    rw[e]at q;show⟨.str z,H,I,⟨t,S⟩,q⟩
   ·rw[Kr a]
    have e:(⟨(List.replicate k.toNat z.cps).foldl (·++·) #[]⟩:Str)=fw z k.toNat:=by rw[vF];unfold fw;simp
    rw[e];refine⟨by rw[CT];show g,.str (fw z k.toNat),H,I.tok _,⟨_,S⟩,q⟩
end
noncomputable def Ax:R2:=λx y H Q=>∃a b xs ys,x=.ref a/\y=.ref b/\H a=Z (.tup xs)/\H b=Z (.tup ys)/\xs.length+ys.length<=sizeLine/\∀p c,Same H c->c p=Z (.tup (xs++ys))->Q (.ref p) c
theorem G7{X:Cx}:b9 X (Ì .Add) Ax:=by
 intro c s A H x y v u Q I l m h;let⟨a,b,xs,ys,rfl,rfl,f,g,r,q⟩:=h;by_cases j:xs=[]
 ·subst j;cases l;cases m;let⟨B,z,t,_⟩:=I.tuple (SqT.of f);let⟨C,E,w,_⟩:=I.tuple (SqT.of g);show Ia t w (z.nil_iff.mpr S) ⟨.ref b,H,I,S,q b H (Same.refl H) g⟩
 ·refine E7 c s A H _ _ v u Q I l m ⟨a,b,xs,ys,S,S,SqT.of f,SqT.of g,j,r,λe=>?_,λ_ p o=>q p _ (cX o _) bu⟩;subst e;show q a H (Same.refl H) (by rw[Le];show f)
noncomputable def JG:R2:=λx y H Q=>∃(a:Addr)(k:Int)(xs:Y V),x=.ref a/\y=.int k/\H a=Z (.tup xs)/\xs≠[]/\0<=k/\k<=1000/\k.toNat*xs.length<=1000/\∀p c,Same H c->c p=Z (.tup (List.replicate k.toNat xs).flatten)->Q (.ref p) c
theorem B4{X:Cx}:b9 X (Ì .Mult) JG:=by
 intro w s σ H x y v u Q I rx ry h;let⟨a,k,xs,rfl,rfl,K,hx,h0,h1,N,q⟩:=h;cases rx;let⟨t,rfl⟩:=ry;let⟨c,r,p1,_⟩:=I.tuple (SqT.of K);have P:c≠[]:=λz=>hx (r.nil_iff.mp z);have aA:=r.length
 have g:c.toArray.isEmpty=Ŭ:=by cases c with|nil=>show absurd S P|cons _ _=>rfl
 let⟨⟨cls,dd,data,sl⟩,f,M,n,hd⟩:=id p1;simp only at M hd;subst M hd
 refine Ĕ (T:="tuple") (U:="int") 'b' ⟨_,f,S⟩ (λs'=>Oj s' k t) JR F.fills_int_mul NO Jt F.slot_int_index.lookup
  (Me NO (Oj s k t) F.entry_int_rmul (F.args_int_rmul_2 _ _) (Gj k t a c.toArray n dd sl)
   ⟨f,S,⟨_,f,S⟩,?_⟩)
 have C:List.foldl (λx1 x2=>x1++x2) #[] (List.replicate k.toNat c.toArray)=(List.replicate k.toNat c).flatten.toArray:=by have:=sh c k.toNat [];rw[M8]at this;show this
 have E:¬ (decide (k < -(2^63)) ||decide (k≥2^63))=ū:=by rw[KU (),KU ()];show Lh
 by_cases J:k=1
 ·subst J;refine Me MX ⟨_,f,S⟩ Og (N8 _ _) (B1 a c.toArray n dd sl t) ⟨f,?_⟩;refine⟨.ref a,H,I,S,q a H (Same.refl H) ?_⟩;change H a=Z (.tup (List.replicate 1 xs).flatten);rw[List.replicate_one,Li,List.flatten_nil,Le];show K
 ·have G:¬ (c.toArray.isEmpty ||k==1)=ū:=by rw[g,Mu.mpr J];show Lh
  have m:∀ys:Y V,∀us:Y Value,ys.length<=sizeLine->Vals ys us->EP X w σ Q (.ref s.heap.objs.size) { s with heap:=s.heap.push { cls:=Value.type "tuple",data:=Data.seq us.toArray },toks:=s.toks }\/¬ (∀p l,Same H l->l p=Z (.tup ys)->Q (.ref p) l):=λys us B rr=>by
   by_cases O:∀p l,Same H l->l p=Z (.tup ys)->Q (.ref p) l
   ·refine .inl ⟨.ref s.heap.objs.size,_,I.laid (t':=s.toks) (o:=.tup ys) (λb ob z=>Ks _ z) (Kw _) ?_,S,O _ _ (cX (I.hok.fresh (Kw _)) _) bu⟩;show⟨B,_,rr,IsTupD.new _ _⟩
   ·show .inr O
  by_cases a_:k=0
  ·subst a_;refine Me MX ⟨_,f,S⟩ Og (N8 _ _) (CN a c.toArray n dd sl 0 t E G S) ⟨f,?_⟩;rcases m [] [] (Mq _) .nil with z|z
   ·show z
   ·show absurd q z
  ·have R:¬ (decide (k<=0) ||c.toArray.isEmpty)=ū:=by rw[g,KU ()];show Lh
   have j:c.length*k.toNat<=1000:=by rw[←aA,Oy];show N
   have A:(c.toArray.size:Int)*k<=1000:=by
    rw[KC]
    have e:k=((k.toNat:Nat):Int):=by omega
    rw[e]
    exact_mod_cast j
   have hs:(1000:Int)<=((sizeLine:Nat):Int):=by exact_mod_cast small (Kw 1000)
   have ap:(List.replicate k.toNat c).flatten.length<=1000:=by rw[sU,Oy];show j
   refine Me MX ⟨_,f,S⟩ Og (N8 _ _) (EB a c.toArray n dd sl k t E G R () (by unfold Builtin.Tuple.tupleTooMany;rw[KU ()];show Lh) (by rw[C,KC];show small ap)) ⟨f,?_⟩;rw[C];rcases m (List.replicate k.toNat xs).flatten (List.replicate k.toNat c).flatten (by rw[sU];show small N) (r.rep k.toNat)with z|z
   ·show z
   ·show absurd q z
end L2
namespace L2
open PySem PySem.Spec PyProof.Rows
section
variable{K:Â}{X:Cx}{e a b:Ã}
noncomputable def CW:cH:=λx y R=>match x,y with
 |.int i,.int j=>R (.int (i+j))
 |.str i,.str j=>i.length+j.length<=sizeLine/\R (.str (i++j))
 |.lst xs,.lst ys=>xs.length+ys.length<=sizeLine/\NF (xs++ys) λc=>R (.lst c)
 |.tup xs,.tup ys=>xs.length+ys.length<=sizeLine/\NF (xs++ys) λc=>R (.tup c)
 |_,_=>False
theorem bx:OpD K X (Ì .Add) CW:=⟨λT c s A H x y v u Q I w z M=>by
 let⟨G,P,o,R,f,r,t,h,k⟩:=M
 cases P with
 |int i=>
  cases o with
  |int j=>cases r.int;cases t.int;show A8 c s A H _ _ v u Q I w z ⟨i,j,S,S,k _ G H _ h (.refl f) (.int _)⟩
  |_=>show h.elim
 |str i=>
  cases o with
  |str j=>cases r.str;cases t.str;show Dt c s A H _ _ v u Q I w z ⟨i,j,S,S,h.1,k _ G H _ h.2 (.refl f) (.str _)⟩
  |_=>show h.elim
 |lst xs=>
  cases o with
  |lst ys=>
   let⟨a,vs,rfl,C,l⟩:=r.lst f;let⟨b,ws,rfl,E,m⟩:=t.lst f;show Gw c s A H _ _ v u Q I w z ⟨a,b,vs,ws,S,S,C,E,by rw[l.1,m.1];show h.1,λp F=>k _ _ _ _ h.2.get (.new f F _) (((l.append m).same (cX (f.free F) _)).lst bu)⟩
  |_=>show h.elim
 |tup xs=>
  cases o with
  |tup ys=>
   let⟨a,vs,rfl,C,N,l⟩:=r.tup f;let⟨b,ws,rfl,E,O,m⟩:=t.tup f
   show G7 c s A H _ _ v u Q I w z ⟨a,b,vs,ws,S,S,f _ _ N,f _ _ O,by rw[l.1,m.1];show h.1,λp J s' q=>by
    let⟨B,g,U⟩:=Gr.adoptT f s' q
    show k _ B J _ h.2.get g (((l.append m).same g.f).tup U)⟩
  |_=>show h.elim
 |_=>show h.elim⟩
noncomputable def zI(C:Int->Int->Prop)(g:Int->Int->D):cH:=λx y R=>match x,y with|.int i,.int j=>C i j/\R (g i j)|_,_=>False
noncomputable def jj(g:Int->Int->D):cH:=λx y R=>match x,y with|.int i,.int j=>R (g i j)|_,_=>False
theorem qm{f:Value->Value->Sem Value}{C:Int->Int->Prop}{g:Int->Int->Int}(h:b9 X f (rI C λi j=>.int (g i j))):OpD K X f (zI C λi j=>.int (g i j)):=
 ⟨λE c s B H x y v u Q I t w l=>by
  let⟨A,m,o,R,z,p,r,q,k⟩:=l
  cases m with
  |int i=>
   cases o with
   |int j=>cases p.int;cases r.int;show h c s B H _ _ v u Q I t w ⟨i,j,S,S,q.1,k _ A H _ q.2 (.refl z) (.int _)⟩
   |_=>show q.elim
  |_=>show q.elim⟩
theorem Ju{f:Value->Value->Sem Value}{g:Int->Int->Int}(h:b9 X f (ig λi j=>.int (g i j))):OpD K X f (jj λi j=>.int (g i j)):=
 ⟨λC c s B H x y v u Q I t w l=>by
  let⟨A,m,o,R,z,p,r,q,k⟩:=l
  cases m with
  |int i=>
   cases o with
   |int j=>cases p.int;cases r.int;show h c s B H _ _ v u Q I t w ⟨i,j,S,S,k _ A H _ q (.refl z) (.int _)⟩
   |_=>show q.elim
  |_=>show q.elim⟩
theorem qX{f:Value->Value->Sem Value}{g:Int->Int->Bool}(h:b9 X f (ig λi j=>.bl (g i j))):OpD K X f (jj λi j=>.bl (g i j)):=
 ⟨λC c s B H x y v u Q I t w l=>by
  let⟨A,m,o,R,z,p,r,q,k⟩:=l
  cases m with
  |int i=>
   cases o with
   |int j=>cases p.int;cases r.int;show h c s B H _ _ v u Q I t w ⟨i,j,S,S,k _ A H _ q (.refl z) (.bl _)⟩
   |_=>show q.elim
  |_=>show q.elim⟩
theorem iG:OpD K X (Ì .Sub) (jj λi j=>.int (i-j)):=Ju GJ
theorem Bn:OpD K X (Ì .FloorDiv) (zI CDivB λi j=>.int (i/j)):=qm zf
theorem iB:OpD K X (Ì .Mod) (zI (λ_ j=>0<j) λi j=>.int (i % j)):=qm A5
theorem JT:OpD K X (Ì .Pow) (zI yL λi j=>.int (i^j.toNat)):=qm zB
theorem i9:OpD K X (Ê .Lt) (jj λi j=>.bl (decide (i<j))):=qX DA
theorem jE:OpD K X (Ê .Gt) (jj λi j=>.bl (decide (j<i))):=qX JY
theorem lH:OpD K X (Ê .GtE) (jj λi j=>.bl (decide (j<=i))):=qX JN
noncomputable def Am:cH:=λx y R=>match x,y with
 |.int i,.int j=>ľ i j/\R (.int (i*j))
 |.lst xs,.int k=>(-(2^63)<=k/\k<2^63/\xs.length*k.toNat<=sizeLine)/\NF (List.replicate k.toNat xs).flatten λc=>R (.lst c)
 |.tup xs,.int k=>(xs≠[]/\0<=k/\k<=1000/\k.toNat*xs.length<=1000)/\NF (List.replicate k.toNat xs).flatten λc=>R (.tup c)
 |.str z,.int k=>(-(2^62)<=k/\k<2^62/\z.length*k.toNat<=sizeLine/\z.length<=sizeLine)/\NF (fw z k.toNat) λy=>R (.str y)
 |_,_=>False
theorem ik:OpD K X (Ì .Mult) Am:=⟨λU c s A H x y v u Q I t w J=>by
 let⟨F,O,m,R,f,o,r,h,k⟩:=J
 cases O with
 |int i=>
  cases m with
  |int j=>cases o.int;cases r.int;show zZ c s A H _ _ v u Q I t w ⟨i,j,S,S,h.1,k _ F H _ h.2 (.refl f) (.int _)⟩
  |_=>show h.elim
 |lst xs=>
  cases m with
  |int j=>
   let⟨a,vs,rfl,C,l⟩:=o.lst f;cases r.int;show vc c s A H _ _ v u Q I t w ⟨a,j,vs,S,S,C,h.1.1,h.1.2.1,by rw[l.1];show h.1.2.2,λp E=>k _ _ _ _ h.2.get (.new f E _) (((l.rep _).same (cX (f.free E) _)).lst bu)⟩
  |_=>show h.elim
 |tup xs=>
  cases m with
  |int j=>
   let⟨a,vs,rfl,C,N,l⟩:=o.tup f;cases r.int;have M:vs≠[]:=λe=>h.1.1 (LM.mp (by rw[←l.1,e];rfl))
   show B4 c s A H _ _ v u Q I t w ⟨a,j,vs,S,S,f _ _ N,M,h.1.2.1,h.1.2.2.1,by rw[l.1];show h.1.2.2.2,λp G s' q=>by
    let⟨B,g,P⟩:=Gr.adoptT f s' q
    show k _ B G _ h.2.get g (((l.rep _).same g.f).tup P)⟩
  |_=>show h.elim
 |str z=>
  cases m with
  |int j=>
   cases o.str;cases r.int;show Ab c s A H _ _ v u Q I t w ⟨z,j,S,S,h.1.1,h.1.2.1,h.1.2.2.1,h.1.2.2.2,k _ F H _ h.2.get (.refl f) (.str _)⟩
  |_=>show h.elim
 |_=>show h.elim⟩
end
noncomputable def fA(f:D->D->Ū Bool):Y D->Y D->Ū Bool
 | [],[]=>Z ū
 |x::xs,y::ys=>(f x y).bind λb=>(fA f xs ys).map (b&&·)
 |_,_=>Z Ŭ
noncomputable def cz:Nat->D->D->Ū Bool
 |_,.int i,.int j=>Z (i==j)
 |_,.bl i,.bl j=>Z (i==j)
 |_,.str i,.str j=>Z (i==j)
 |_,.non,.non=>Z ū
 |n+1,.tup xs,.tup ys=>fA (cz n) xs ys
 |n+1,.lst xs,.lst ys=>if xs.length=ys.length then fA (cz n) xs ys else Z Ŭ
 |_,_,_=>ũ
theorem jT{f:D->D->Ū Bool}:∀{xs ys:Y D}{b:Bool},fA f xs ys=Z b->∃g:Nat->Bool,(∀(j:Nat)(x y:D),xs[j]?=Z x->ys[j]?=Z y->f x y=Z (g j))/\b=((List.range (min xs.length ys.length)).all g&&xs.length==ys.length)
 | [],[],b,h=>by cases h;show⟨λ_=>ū,λj x y l=>by simp at l,by simp⟩
 | [],_::_,b,h=>by cases h;show⟨λ_=>ū,λj x y l=>by simp at l,by simp⟩
 |_::_,[],b,h=>by cases h;show⟨λ_=>ū,λj x y _ z=>by simp at z,by simp⟩
 |x::xs,y::ys,b,h=>by
  unfold fA at h
  cases e:f x y with
  |none=>rw[e]at h;cases h
  |some c=>
   cases a:fA f xs ys with
   |none=>rw[e,a]at h;cases h
   |some A=>
    rw[e,a]at h;cases h;let⟨g,t,w⟩:=jT a;refine⟨λj=>match j with|0=>c|j+1=>g j,λj u v m o=>?_,?_⟩
    ·cases j with
     |zero=>cases m;cases o;show e
     |succ j=>show t j u v m o
    ·have r:min (x::xs).length (y::ys).length=min xs.length ys.length+1:=by simp only[KA];omega
     have p:((x::xs).length==(y::ys).length)=(xs.length==ys.length):=by simp
     rw[r,p,List.range_succ_eq_map,Od,O5,w,Bool.and_assoc];rfl
section
variable{K:Â}{X:Cx}{l:Y (Addr×Ï)}{o:St}{f H:Hp}{s:À}
theorem Jx{n:Nat}{g:Nat->Bool}(h:∀j,j<n->g j=ū):(List.range n).all g=ū:=by rw[KZ];intro j a;show h j (Ma.mp a)
theorem bA{a:Type}{xs:Y a}{j:Nat}(h:j<xs.length):xs[j]?=Z xs[j]:=by simp[h]
inductive CmV:Nat->D->D->Bool->Prop
 |int {n:Nat} (i j:Int):CmV n (.int i) (.int j) (i==j)
 |bl {n:Nat} (i j:Bool):CmV n (.bl i) (.bl j) (i==j)
 |str {n:Nat} (i j:Str):CmV n (.str i) (.str j) (i==j)
 |non {n:Nat}:CmV n .non .non ū
 |tup {n:Nat} {xs ys:List D} {b:Bool} (h:fA (cz n) xs ys=Z b):CmV (n+1) (.tup xs) (.tup ys) b
 |lst {n:Nat} {xs ys:List D} {b:Bool} (h:(if xs.length=ys.length then fA (cz n) xs ys else Z Ŭ)=Z b):CmV (n+1) (.lst xs) (.lst ys) b
theorem ie{n:Nat}{d e:D}{b:Bool}(h:cz n d e=Z b):CmV n d e b:=by
 unfold cz at h;split at h
 ·cases h;show .int _ _
 ·cases h;show .bl _ _
 ·cases h;show .str _ _
 ·cases h;show .non
 ·show .tup h
 ·show .lst h
 ·cases h
theorem vt(E:X.K=K)(I:Inv X l o H s)(y:Same f H):∀(n:Nat){d e:D}{b:Bool}{v:V},cz n d e=Z b->Rp K f d v->Rp K f e v->b=ū:=by
 intro n
 induction n using Nat.strongRecOn with
 |ind n C=>
  intro d e b v h p r
  have all:∀{m:Nat}{xs ys:Y D}{vs:Y V}{b:Bool},m<n->fA (cz m) xs ys=Z b->RpL K f xs vs->RpL K f ys vs->b=ū:=λ{m xs ys vs b} B h c k2=>by
   let⟨g,A,z⟩:=jT h;have G:=c.1;have J:=k2.1;rw[z,Jx λj F=>?_]
   ·simp;omega
   ·have u:j<vs.length:=by omega
    have w:j<xs.length:=by omega
    have x:j<ys.length:=by omega
    show C m B (A j _ _ (bA w) (bA x)) (c.2 j _ _ (bA u) (bA w)) (k2.2 j _ _ (bA u) (bA x))
  cases ie h with
  |int i j=>obtain rfl:=p.i;cases r;show K5 i
  |bl i j=>obtain rfl:=p.b;cases r;show K5 i
  |str i j=>obtain rfl:=p.s;cases r;show K5 i
  |non=>rfl
  |tup h=>
   cases p with| @tup a vs xs h1 c h3=>cases r with| @tup _ ws ys k1 k2 k3=>
   have t:vs=ws:=I.tuple_inj (.of (y _ _ h1)) (.of (y _ _ k1));subst t;show all (MN _) h ⟨c,h3⟩ ⟨k2,k3⟩
  |lst h=>
   cases p with| @lst a vs xs h1 c h3=>cases r with| @lst _ ws ys k1 k2 k3=>
   have t:vs=ws:=by rw[h1]at k1;cases k1;rfl
   subst t;rw[Kq (c.symm.trans k2)]at h;show all (MN _) h ⟨c,h3⟩ ⟨k2,k3⟩
open PySem.SeqAt in
theorem pQ(hK:X.K=K)(I:Inv X l o H s)(P:Same f H):∀(n:Nat){d e:D}{b:Bool}{x y:V},cz n d e=Z b->Rp K f d x->Rp K f e y->
  ∀(A:É)(u v:Value),A.units+n<â->RelV x u->RelV y v->EqAt A s u v b/\RcAt A s u v b/\RcNeAt A s u v (!b):=by
 intro n
 induction n using Nat.strongRecOn with
 |ind n ih=>
  intro d e b x y h r w A u v hu N O
  have z:∀{m:Nat}{xs ys:Y D}{vs ws:Y V}{p Py:Y Value}{g:Nat->Bool},m+1=n->(∀(j:Nat)(x y:D),xs[j]?=Z x->ys[j]?=Z y->cz m x y=Z (g j))->RpL K f xs vs->RpL K f ys ws->Vals vs p->Vals ws Py->∀j (j1:j<p.toArray.size) (j2:j<Py.toArray.size),EqAt A.in1 s p.toArray[j] Py.toArray[j] (g j):=λ{m xs ys vs ws p Py g} hm U F k2 B C j j1 j2=>by
   have l1:=Vals.length B;have l2:=Vals.length C;have m1:=F.1;have m2:=k2.1;simp only[KC]at j1 j2;let⟨x,hx,r⟩:=Vals.get' B j1;let⟨y,hy,w⟩:=Vals.get' C j2
   have i1:j<xs.length:=by omega
   have i2:j<ys.length:=by omega
   show (ih m () (U j _ _ (bA i1) (bA i2)) (F.2 j x _ hx (bA i1)) (k2.2 j y _ hy (bA i2)) A.in1 _ _ (by change A.units+1+m<â;omega) r w).1
  have M:A.units<â:=by omega
  cases ie h with
  |int i j=>obtain rfl:=r.i;obtain rfl:=w.i;let⟨t,rfl⟩:=N;let⟨t',rfl⟩:=O;show⟨EqAt.int_int i t j t',RcAt.int_int i t j t',RcNeAt.int_int i t j t'⟩
  |bl i j=>obtain rfl:=r.b;obtain rfl:=w.b;cases N;cases O;show⟨EqAt.bool_bool i j,RcAt.bool_bool i j,RcNeAt.bool_bool i j⟩
  |str i j=>obtain rfl:=r.s;obtain rfl:=w.s;let⟨t,rfl⟩:=N;let⟨t',rfl⟩:=O;show⟨EqAt.str_str i t j t',RcAt.str_str i t j t',RcNeAt.str_str i t j t'⟩
  |non=>obtain rfl:=r.n;obtain rfl:=w.n;cases N;cases O;show⟨EqAt.same _,RcAt.none_none,RcNeAt.none_none⟩
  | @tup n xs ys b q=>
   have a_:=r;have aA:=w
   cases r with| @tup a vs _ h1 F h3=>cases w with| @tup c ws _ k1 k2 k3=>
   cases N;cases O;let⟨g,U,hb⟩:=jT q;let⟨p,B,G,_⟩:=I.sqb (b:=Ŭ) (show SqT X.K H a vs from .of (P _ _ h1));let⟨Py,C,J,_⟩:=I.sqb (b:=Ŭ) (show SqT X.K H c ws from .of (P _ _ k1));have l1:=Vals.length B;have l2:=Vals.length C;have T:=z S U ⟨F,h3⟩ ⟨k2,k3⟩ B C;have R:=RcAt.tuples (e:=g) G J M T;have Q:=RcNeAt.tuples (e:=g) G J M T
   have et:((List.range (min p.toArray.size Py.toArray.size)).all g&&p.toArray.size==Py.toArray.size)=b:=by rw[hb];simp only[KC];rw[←l1,←l2,F,k2]
   rw[et]at R Q;refine⟨?_,R,Q⟩;by_cases ap:a=c
   ·subst ap;rw[vt hK I P (n+1) h a_ aA];show EqAt.same _
   ·show EqAt.of_refs ap R
  | @lst n xs ys b q=>
   have a_:=r;have aA:=w
   cases r with| @lst a vs _ h1 F h3=>cases w with| @lst c ws _ k1 k2 k3=>
   cases N;cases O;let⟨p,B,G,_⟩:=I.sqb (b:=ū) (show SqL X.K H a vs from SqL.of (P _ _ h1));let⟨Py,C,J,_⟩:=I.sqb (b:=ū) (show SqL X.K H c ws from SqL.of (P _ _ k1));have l1:=Vals.length B;have l2:=Vals.length C
   have E:RcAt A s (.ref a) (.ref c) b/\RcNeAt A s (.ref a) (.ref c) (!b):=by
    by_cases hl:xs.length=ys.length
    ·rw[Kq hl]at q;let⟨g,U,hb⟩:=jT q;have T:=z S U ⟨F,h3⟩ ⟨k2,k3⟩ B C
     have hsz:p.toArray.size=Py.toArray.size:=by simp;omega
     have R:=RcAt.lists (e:=g) G J hsz M T;have Q:=RcNeAt.lists (e:=g) G J hsz M T
     have et:(List.range p.toArray.size).all g=b:=by
      have e1:min xs.length ys.length=p.length:=by omega
      have e2:(xs.length==ys.length)=ū:=by simp[hl]
      rw[hb,e1,e2,Bool.and_true,KC]
     rw[et]at R Q;show⟨R,Q⟩
    ·rw[Kr hl]at q;cases q
     have hsz:(p.toArray.size != Py.toArray.size)=ū:=by simp;omega
     show⟨RcAt.lists_lengths G J hsz M,RcNeAt.lists_lengths G J hsz M⟩
   refine⟨?_,E.1,E.2⟩;by_cases ap:a=c
   ·subst ap;rw[vt hK I P (n+1) h a_ aA];show EqAt.same _
   ·show EqAt.of_refs ap E.1
end
noncomputable def oF:cH:=λx y R=>match cz 40 x y with|some b=>R (.bl b)|none=>False
noncomputable def uM:cH:=λx y R=>match cz 40 x y with|some b=>R (.bl (!b))|none=>False
section
variable{K:Â}{X:Cx}
theorem RpQ.any{c H:Hp}{d:D}{v:V}(h:RpQ K c H d v)(s:Same c H):Rp K H d v:=by
 rcases h with h|⟨a,vs,ds,e,f,g,j⟩
 ·show h.same s
 ·subst e f;show (j.same s).lst g
theorem bz(t:X.A.units+64<â):OpD K X (Ê .Eq) oF:=⟨λf c s w H x y u v Q I l m e=>by
 let⟨o,p,r,R,a,g,j,h,k⟩:=e;unfold oF at h;split at h
 ·next b hb=>show (pQ f I (Same.refl H) 40 hb (g.any a) (j.any a) X.A u v () l m).2.1 X.prog X.w _ _ ⟨.bl b,H,I,S,k _ o H _ h (.refl a) (.bl b)⟩
 ·show h.elim⟩
theorem dX(t:X.A.units+64<â):OpD K X (Ê .NotEq) uM:=⟨λf c s w H x y u v Q I l m e=>by
 let⟨o,p,r,R,a,g,j,h,k⟩:=e;unfold uM at h;split at h
 ·next b hb=>show (pQ f I (Same.refl H) 40 hb (g.any a) (j.any a) X.A u v () l m).2.2 X.prog X.w _ _ ⟨.bl (!b),H,I,S,k _ o H _ h (.refl a) (.bl _)⟩
 ·show h.elim⟩
noncomputable def pP:D->Bool
 |.non=>ū
 |_=>Ŭ
noncomputable def xi(c:Bool):cH:=λx y R=>match y with|.non=>R (.bl (pP x != c))|.bl b=>(match x with|.bl a=>R (.bl ((a==b) != c))|_=>False)|_=>False
theorem uL{f H:Hp}{d:D}{v:V}(h:RpQ K f H d v):decide (v=V.non)=pP d:=by
 cases d with
 |int i=>rw[h.int];rfl
 |bl i=>rw[h.bl];rfl
 |str i=>rw[h.str];rfl
 |non=>rw[h.non];rfl
 |tup ds=>rcases h with h|⟨a, vs, ds, e, _⟩
          · cases h; rfl
          · cases e
 |lst ds=>rcases h with h|⟨a, vs, ds, e, c, _⟩
          · cases h; rfl
          · rw [c]; rfl
 |fzl ds=>rcases h with h|⟨a, vs, ds, e, _⟩
          · cases h; rfl
          · cases e
 |obj C fs=>rcases h with h|⟨a, vs, ds, e, _⟩
            · cases h; rfl
            · cases e
 |map g=>rcases h with h|⟨a, vs, ds, e, _⟩
         · cases h; rfl
         · cases e
 |exc _ _=>rcases h with h|⟨a, vs, ds, e, _⟩
           · cases h<;>rfl
           · cases e
theorem eX:OpD K X (Ê .Is) (xi Ŭ):=⟨λw c s o H x y u v Q I g j p=>by
 let⟨m,r,t,R,l,e,f,h,k⟩:=p
 cases t with
 |non=>
  cases f.non;refine Co c s o H _ _ u v Q I g j ⟨S,?_⟩;rw[uL e];have h':R (.bl (pP r != Ŭ)):=h;rw[Bool.bne_false]at h';show k _ m H _ h' (.refl l) (.bl _)
 |bl b=>
  cases f.bl;let⟨a,rfl,h⟩:=js h;cases e.bl;have h':R (.bl ((a==b) != Ŭ)):=h;rw[Bool.bne_false]at h';show Es c s o H _ _ u v Q I g j ⟨a,b,S,S,k _ m H _ h' (.refl l) (.bl _)⟩
 |_=>show h.elim⟩
theorem rF:OpD K X (Ê .IsNot) (xi ū):=⟨λw c s o H x y u v Q I g j p=>by
 let⟨m,r,t,R,l,e,f,h,k⟩:=p
 cases t with
 |non=>
  cases f.non;refine CP c s o H _ _ u v Q I g j ⟨S,?_⟩;rw[uL e];have h':R (.bl (pP r != ū)):=h;rw[Bool.bne_true]at h';show k _ m H _ h' (.refl l) (.bl _)
 |bl b=>
  cases f.bl;let⟨a,rfl,h⟩:=js h;cases e.bl;have h':R (.bl ((a==b) != ū)):=h;rw[Bool.bne_true]at h';show Ga c s o H _ _ u v Q I g j ⟨a,b,S,S,k _ m H _ h' (.refl l) (.bl _)⟩
 |_=>show h.elim⟩
end
end L2
namespace HT
open PySem PySem.Spec PyProof.Rows
theorem getItem_tuple_all{prog:Ä}{w:Å}{A:É}{E:Value->À->Prop}{s:À}{t sl:Addr}{a:Array Value}{l m:Value}{lo f:Ū Int}{Q:Value->À->Prop}(e:Ĥ s.heap t a)(g:s.heap.IsSliceOf sl l m .none)(pl:ð l lo)(v:ð m f)
  (j:sIx a.size 0 lo=0/\sIx a.size a.size f=a.size) (h:Q (.ref t) s):wpAny (model prog w) A (ô (.ref t) (.ref sl)) Q E s:=by
 let⟨os,o,r,x⟩:=id g;have p:s.TypeIs (.ref sl) "slice":=⟨os,o,r⟩;unfold ô
 try with_reducible refine Mi ?_
 first|refine Ko (KD ?_)|skip
 refine Ko (ŏ e.typeIs 'b' ?_)
 refine Ko (L6 (name:=Str.ofString "__getitem__") e.typeIs LU
  (Mx LU e.typeIs ņ ?_ (Ō _ _)))
 change wpAny _ _ (Builtin.Tuple.tupleItemsOf (.ref t) >>= _) _ _ s;refine Ko (tupleItemsOf_ e ?_);refine Ko (Ox p ?_);rw[Kq 'b'];refine Ko (uW g pl v ?_)
 have u:(((sIx a.size 0 lo:Nat):Int)==0&&(1:Int)==1&&(sIx a.size a.size f-sIx a.size 0 lo)==a.size)=ū:=by rw[j.1,j.2];simp
 change wpAny _ _ (if (((sIx a.size 0 lo:Nat):Int)==0&&(1:Int)==1&&(sIx a.size a.size f-sIx a.size 0 lo)==a.size)=ū then _ else _) _ _ s;rw[Kq u];refine Ko (show wpAny _ _ (typeOf (.ref t) >>= λc=>pure (c==.type "tuple")) _ _ s from Ko (Ox e.typeIs (KD ?_)));rw[Kq 'b'];show Ko (Č (KD ⟨_,S,KD h⟩))
end HT
namespace L2
open PySem PySem.Spec PyProof.Rows
section
variable{K:Â}{X:Cx}{e a b c:Ã}{es:Y Ã}{m M:Õ}{t A tb:TD}{C:bg}
noncomputable def mK:cH:=λx y R=>match y with
 |.int i=>(match x with
  |.lst ds=>∃d,bZ ds i=Z d/\R d
  |.tup ds=>∃d,bZ ds i=Z d/\R d
  |.fzl ds=>∃d,bZ ds i=Z d/\R d
  |.str z=>z.length<=sizeLine/\∃c,bZ z.cps.toList i=Z c/\R (.str ⟨#[c]⟩)
  |_=>False)
 |_=>False
theorem rD{g:Hp}{ds:Y D}{vs:Y V}{d:D}{i:Int}(h:RpL K g ds vs)(e:bZ ds i=Z d):∃v,bZ vs i=Z v/\Rp K g d v:=by
 unfold bZ at e ⊢;rw[h.1]
 cases f:eT ds.length i with
 |none=>rw[f]at e;cases e
 |some j=>
  rw[f,Ħ]at e;rw[Ħ];show h.at e
theorem vH(T:X.K=K):kF X (lR2 K mK):=by
 intro g f j s ap H x y v u Q I N O ⟨P,U,dy,R,p,J,aA,h,k⟩ G;let⟨i,rfl,h⟩:=i8 h;cases aA.int
 cases U with
 |lst ds=>
  let⟨d,l,o⟩:=h;let⟨a,vs,rfl,E,F⟩:=J.lst p;let⟨w,B,r⟩:=rD F l;show uP g f j s ap H _ _ v u Q I N O ⟨a,vs,i,w,S,S,.of E,B,k _ P H _ o (.refl p) r⟩ G
 |tup ds=>
  let⟨d,l,o⟩:=h;let⟨a,vs,rfl,E,_,F⟩:=J.tup p;let⟨w,B,r⟩:=rD F l;show Js g f j s ap H _ _ v u Q I N O ⟨a,vs,i,w,S,S,T▸E,B,k _ P H _ o (.refl p) r⟩ G
 |fzl ds=>
  let⟨d,l,o⟩:=h;let⟨a,vs,rfl,E,F⟩:=J.fzl p;let⟨w,B,r⟩:=rD F l;show uP g f j s ap H _ _ v u Q I N O ⟨a,vs,i,w,S,S,T▸E,B,k _ P H _ o (.refl p) r⟩ G
 |str z=>
  let⟨a_,c,l,o⟩:=h;cases J.str;show BL g f j s ap H _ _ v u Q I N O ⟨z,i,c,S,S,a_,l,k _ P H _ o (.refl p) (.str _)⟩ G
 |_=>show h.elim
theorem cQ(g:PQ K X a A)(h:PQ K X b tb)(j:qV b):PD K X (.Subscript a b m) (ia mK A tb):=
 ⟨λf=>(wZ (vH f) (g.pe f) (h.pe f) j).imp λ_ _ _=>nL⟩
noncomputable abbrev ji:=bM->(Ū Int->Prop)->Prop
theorem av{i:Int}{j:ú}{p:Õ}(f:PQ K X a A):PD K X (.Subscript a (.Constant (.int i) j p) m) (ia mK A (dC (.int i))):=cQ f (PD.q ak) λ_ _=>rfl
inductive lO(K:Â)(t:ji)(σ:St)(H:Hp)(Q:Option Int->Hp->Prop):Prop|mk (H0:Hp) (Φ:Hp) (ρ:bM) (R:Option Int->Prop) (_:EnvD K H0 Φ H σ ρ) (_:t ρ R) (_:∀o Φ' H',R o->Gr Φ H Φ' H'->Q o H')
structure POD(K:Â)(X:Cx)(e:Option Ã)(t:ji):Prop where po:X.K=K->PO X e (lO K t)
noncomputable def BS:ji:=λ_ R=>R ũ
noncomputable def Iw(t:TD):ji:=λρ R=>t ρ λd=>match d with|.int i=>R (Z i)|_=>False
theorem PO.imp{o:Ū Ã}{t t':TO}(h:PO X o t)(k:∀g H Q,t' g H Q->t g H Q):PO X o t':=λf s g H Q I j=>h f s g H Q I (k g H Q j)
theorem ic:POD K X ũ BS:=⟨λ_=>po_none.imp λj H Q f=>by let⟨h,g,ρ,R,E,t,k⟩:=f;show k ũ g H t (.refl E.fz)⟩
theorem fZ(h:PQ K X e t):POD K X (Z e) (Iw t):=⟨λp=>(Dv (h.pe p)).imp λx H Q o=>by let⟨j,w,ρ,R,E,t,k⟩:=o;show⟨j,w,ρ,_,E,t,λd f l v r g u=>by
 let⟨i,rfl,r⟩:=i8 r
 show⟨i,u.int,k _ f l r g⟩⟩⟩
variable{lo B:Ū Ã}{to G:ji}
noncomputable def uK(K:Â):V->Ū Int->Ū Int->Hp->VK->Prop:=λx lo B H Q=>∃a xs,x=.ref a/\SqT K H a xs/\(HT.sIx xs.length 0 lo=0/\HT.sIx xs.length xs.length B=xs.length)/\Q (.ref a) H
theorem sl_all:SlR X (uK X.K):=by
 intro j s J H x v E F lo B sl Q I y o pl w h;let⟨a,xs,rfl,u,p,q⟩:=h;cases y;let⟨l,r,g,z⟩:=I.tuple u
 have f:l.toArray.size=xs.length:=by rw[KC];show r.length.symm
 refine⟨"tuple",_,LU.lookup,g.typeIs,?_⟩;show HT.getItem_tuple_all g o pl w (by rw[f];show p) ⟨.ref a,H,I,S,q⟩
theorem Fq{g:Type}{xs:Y g}{l h:Ū Int}(f:HT.sIx xs.length 0 l=0/\HT.sIx xs.length xs.length h=xs.length):bJ xs l h=xs:=by unfold bJ;rw[f.1,f.2,Nk,Nat.sub_zero,LL]
noncomputable def Be(x:D)(l h:Ū Int)(R:D->Prop):Prop:=match x with
 |.lst ds=>NF (bJ ds l h) λf=>R (.lst f)
 |.fzl ds=>NF (bJ ds l h) λf=>R (.lst f)
 |.tup ds=>NF (bJ ds l h) λf=>R (.tup f)
 |.str z=>z.length<=sizeLine/\NF (gB z l h) λy=>R (.str y)
 |_=>False
noncomputable def IT(t:TD)(to G:ji):TD:=λρ R=>t ρ λx=>to ρ λl=>G ρ λh=>Be x l h R
theorem gL(U:PQ K X a A)(aA:POD K X lo to)(a_:POD K X B G):PD K X (.Subscript a (.Slice lo B ũ M) m) (IT A to G):=
 ⟨λv=>(EN (v▸sl_list.or (sl_tup.or (sl_all.or Bm)):SlR X (λx lo B H Q=>vQ K x lo B H Q\/we K x lo B H Q\/uK K x lo B H Q\/yd x lo B H Q)) (U.pe v) (aA.po v) (a_.po v)).imp λσ H Q ap=>by let⟨w,Φ,ρ,R,E,t,k⟩:=ap;exact
  ⟨w,Φ,ρ,_,E,t,λT J H1 x t1 y rx=>⟨w,J,ρ,_,E.gr y,t1,λl N H2 t2 F=>⟨w,N,ρ,_,(E.gr y).gr F,t2,λh Φ3 H3 o O=>by
   have g:=(y.trans F).trans O;have u:=rx.gr (F.trans O)
   cases T with
   |lst ds=>
    let⟨a,vs,rfl,r,j⟩:=u.lst g.s;show .inl ⟨a,vs,S,.of r,λp f=>k _ _ _ _ o.get (g.trans (.new g.s f _)) (((j.cut l h).same (cX (g.s.free f) _)).lst bu)⟩
   |fzl ds=>
    let⟨a,vs,rfl,r,j⟩:=u.fzl g.s;show .inl ⟨a,vs,S,r,λp f=>k _ _ _ _ o.get (g.trans (.new g.s f _)) (((j.cut l h).same (cX (g.s.free f) _)).lst bu)⟩
   |tup ds=>
    let⟨a,vs,rfl,r,q0,j⟩:=u.tup g.s;by_cases I:HT.sIx vs.length 0 l=0/\HT.sIx vs.length vs.length h=vs.length
    ·refine .inr (.inr (.inl ⟨a,vs,S,r,I,?_⟩));have e:bJ ds l h=ds:=Fq (by rw[←j.1];show I);have P:=o.get;rw[e]at P;show k _ _ _ _ P g (j.tup q0)
    ·show .inr (.inl ⟨a,vs,S,r,I,λp f=>k _ _ _ _ o.get (g.trans (.new g.s f _)) (((j.cut l h).same (cX (g.s.free f) _)).tup bu)⟩)
   |str z=>
    cases u.str;show .inr (.inr (.inr ⟨z,S,o.1,k _ _ _ _ o.2.get g (.str _)⟩))
   |_=>show o.elim⟩⟩⟩⟩
noncomputable def HB(A tb:TD):bg:=λρ R=>A ρ λx=>tb ρ λy=>match x,y with|.lst xs,.int k=>(-(2^63)<=k/\k<2^63/\xs.length*k.toNat<=sizeLine)/\NF (List.replicate k.toNat xs).flatten R|_,_=>False
theorem CQ(O:PQ K X a A)(P:PQ K X b tb):PF K X (.BinOp a .Mult b m) (HB A tb):=
 ⟨λz=>(rP vc (O.pe z) (P.pe z)).imp λσ H Q F=>by let⟨r,a_,ρ,R,E,t,k⟩:=F;show⟨r,a_,ρ,_,E,t,λI o H1 x U u ap=>⟨r,o,ρ,_,E.gr u,U,λJ aA H2 y f v T=>by
  have g:=u.trans v;have l:=ap.gr v
  cases I with
  |lst xs=>cases J with
   |int j=>
    let⟨a,vs,rfl,N,w⟩:=l.lst g.s;cases T.int;show⟨a,j,vs,S,S,N,f.1.1,f.1.2.1,by rw[w.1];show f.1.2.2,λp h=>k _ _ _ p _ f.2.get (g.trans (.fresh g.s h _)) (g.h.free h) (g.s.free h) bu (w.rep _)⟩
   |_=>show f.elim
  |_=>show f.elim⟩⟩⟩
noncomputable abbrev cD:=Y D->(D->Prop)->Prop
inductive lSp(K:Â)(sp:cD)(vs:List V)(H:Hp)(Q:VK)(E_:XK):Prop|mk (Φ:Hp) (ds:List D) (R:D->Prop) (_:Same Φ H) (_:TabF K Φ) (_:RpL K Φ ds vs) (_:sp ds R) (_:∀d Φ' H' v,R d->Gr Φ H Φ' H'->Rp K Φ' d v->Q v H')
noncomputable def oO(sp:cD)(t:bg):TD:=λρ R=>t ρ λds=>sp ds R
variable{CX:cM}{k:Nat}{f:Addr}{J:Ë}{ps:Y Str}{sp:cD}{x:Str}{p:Õ}{E:XK}
theorem EA(F:FnOk X.prog X.w X.K X.mg X.base CX k f J ps (lSp K sp))(U:Room k X.A)(P:Gl X x)(T:X.mg x=Z (.ref f))(ap:Û X.K (.ref f)=ū)(N:Binds X.K J ps [])(a_:ju CX X E)
  (I:PAD K X (e::es) C) (O:starEach (e::es) X.env=(Ŭ,eval e X.env)::starEach es X.env) (y:(backTo m (starEach es X.env)).any (·.1)=Ŭ) (w:ad x:=by decide) :
  PD K X (.Call (.Name x p) (e::es) [] m) (oO sp C):=
 ⟨λz=>(xH F U P T ap N .nil a_ (I.pa z) w O y).imp λσ H Q u=>by let⟨o,Φ,ρ,R,E,t,k⟩:=u;show⟨o,Φ,ρ,_,E,t,λds j H1 vs r g rl _=>⟨j,ds,R,g.s,E.tb.same g.f,by rw[Le];show rl,r,λd h l v aA g' rv=>k d h l v aA (g.trans g') rv⟩⟩⟩
noncomputable def pf(K:Â)(g H:Hp)(ds:Y D)(vs:Y V):Prop:=vs.length=ds.length/\∀(i:Nat)(v:V)(d:D),vs[i]?=Z v->ds[i]?=Z d->RpQ K g H d v
inductive lAQ(K:Â)(t:bg)(σ:St)(H:Hp)(Q:List V->Hp->Prop):Prop|mk (H0:Hp) (Φ:Hp) (ρ:bM) (R:List D->Prop) (_:EnvD K H0 Φ H σ ρ) (_:t ρ R) (_:∀ds Φ' H' vs,R ds->Gr Φ H Φ' H'->pf K Φ' H' ds vs->Q vs H')
structure PAQ(K:Â)(X:Cx)(es:List Ã)(t:bg):Prop where pa:X.K=K->PA X es (lAQ K t)
theorem bp:PAQ K X [] sx:=⟨λ_=>pa_nil.imp λo H Q g=>by let⟨l,j,ρ,R,E,t,k⟩:=g;show k [] j H [] t (.refl E.fz) ⟨S,λi v d h _=>by simp at h⟩⟩
theorem bj(I:PQ K X e t)(N:PAQ K X es C)(O:starEach (e::es) X.env=(Ŭ,eval e X.env)::starEach es X.env):PAQ K X (e::es) (sF t C):=
 ⟨λw=>(dz (I.pe w) (N.pa w) O).imp λaA H Q F=>by let⟨l,T,ρ,R,E,t,k⟩:=F;show⟨l,T,ρ,_,E,t,λd h U v r g ap=>⟨l,h,ρ,_,E.gr g,r,λds j z vs P o rl=>
  k _ j z _ P (g.trans o) ⟨by simp[rl.1],λi u d y hd=>by
   cases i with
   |zero=>cases y;cases hd;show ap.gr o
   |succ i=>show rl.2 i u d y hd⟩⟩⟩⟩
inductive lC(K:Â)(r:cD)(vs:List V)(H:Hp)(Q:VK):Prop|mk (Φ:Hp) (ds:List D) (R:D->Prop) (_:Same Φ H) (_:pf K Φ H ds vs) (_:r ds R) (_:∀d Φ' H' v,R d->Gr Φ H Φ' H'->Rp K Φ' d v->Q v H')
structure CallD(K:Â)(X:Cx)(f:Value)(r:cD):Prop where c:X.K=K->fM X f (lC K r)
theorem bO{id:String}{r:cD}(I:CallD K X (.builtin id) r)(O:Gl X x)(P:X.mg x=ũ)(T:Ö x=Z (.builtin id))(F:PAQ K X (e::es) C)
  (N:starEach (e::es) X.env=(Ŭ,eval e X.env)::starEach es X.env) (z:(backTo m (starEach es X.env)).any (·.1)=Ŭ) (ap:x≠"__name__":=by decide) (y:ad x:=by decide):PD K X (.Call (.Name x p) (e::es) [] m) (oO r C):=
 ⟨λl=>(qK (I.c l) O P T (F.pa l) ap y N z).imp λσ H Q w=>by let⟨u,aA,ρ,R,E,t,k⟩:=w;show⟨u,aA,ρ,_,E,t,λds j H1 vs r g rl=>⟨j,ds,R,g.s,rl,r,λd h o v U g' a_=>k d h o v U (g.trans g') a_⟩⟩⟩
theorem cL{T:String}{r:cD}(I:CallD K X (.type T) r)(O:Gl X x)(P:X.mg x=ũ)(U:Ö x=Z (.type T))(F:PAQ K X (e::es) C)
  (N:starEach (e::es) X.env=(Ŭ,eval e X.env)::starEach es X.env) (z:(backTo m (starEach es X.env)).any (·.1)=Ŭ) (ap:x≠"__name__":=by decide) (y:ad x:=by decide):PD K X (.Call (.Name x p) (e::es) [] m) (oO r C):=
 ⟨λl=>(tq (I.c l) O P U (F.pa l) ap y N z).imp λσ H Q w=>by let⟨u,Φ,ρ,R,E,t,k⟩:=w;show⟨u,Φ,ρ,_,E,t,λds j H1 vs r g rl=>⟨j,ds,R,g.s,rl,r,λd h o v a_ g' aA=>k d h o v a_ (g.trans g') aA⟩⟩⟩
theorem fU{j H:Hp}{d:D}{vs:Y V}(h:pf K j H [d] vs):∃v,vs=[v]/\RpQ K j H d v:=by
 let⟨l,g⟩:=h
 match vs,l,g with
 | [v],_,g=>show⟨v,S,g 0 v d S S⟩
noncomputable def JB:cD:=λds R=>match ds with| [.lst xs]=>R (.int xs.length)| [.tup xs]=>R (.int xs.length)| [.fzl xs]=>R (.int xs.length)| [.str z]=>z.length<=sizeLine/\R (.int z.length)|_=>False
theorem bR:CallD K X (.builtin "len") JB:=⟨λN g s F H xs us Q I w O=>by
 let⟨y,ds,R,j,u,h,k⟩:=O
 match ds,h with
 | [.lst xs],h=>
  let⟨v,rfl,r⟩:=fU u;let⟨a,vs,rfl,l,o⟩:=r.lst j;show rm g s F H _ us Q I w ⟨a,vs,S,.inl (.of l),by rw[o.1];show k _ y H _ h (.refl j) (.int _)⟩
 | [.tup xs],h=>
  let⟨v,rfl,r⟩:=fU u;let⟨a,vs,rfl,l,_,o⟩:=r.tup j;show rm g s F H _ us Q I w ⟨a,vs,S,.inr (N▸l),by rw[o.1];show k _ y H _ h (.refl j) (.int _)⟩
 | [.fzl xs],h=>
  let⟨v,rfl,r⟩:=fU u;let⟨a,vs,rfl,l,o⟩:=r.fzl j;show rm g s F H _ us Q I w ⟨a,vs,S,.inl (N▸l),by rw[o.1];show k _ y H _ h (.refl j) (.int _)⟩
 | [.str z],h=>
  let⟨v,rfl,r⟩:=fU u;cases r.str
  show J1 g s F H _ us Q I w ⟨z,S,h.1,k _ y H _ h.2 (.refl j) (.int _)⟩⟩
theorem A1{j:Hp}{bs:Y Bool}{vs:Y V}(h:RpL K j (bs.map D.bl) vs):vs=bs.map V.bl:=by
 refine LA λi=>?_;rw[Kv]
 cases e:bs[i]? with
 |none=>
  have:=L3.mp e;rw[Lc (by rw[h.1,wy];show this)];rfl
 |some n=>
  let⟨v,g,r⟩:=h.at (i:=i) (d:=.bl n) (by rw[Kv,e];rfl);obtain rfl:=r.b;rw[g];rfl
theorem RpQ.sqb{j H:Hp}{d:D}{v:V}{ds:Y D}(s:Same j H)(h:RpQ K j H d v)(e:gw d=Z ds):∃(q:Bool)(a:Addr)(vs:Y V),v=.ref a/\SqB K q H a vs/\RpL K j ds vs:=by
 let⟨a,vs,l,g,o⟩:=h.seq s e;rcases g with g|g
 ·show⟨ū,a,vs,l,g,o⟩
 ·show⟨Ŭ,a,vs,l,g,o⟩
noncomputable def J6(f:Y Bool->Bool):cD:=λds R=>match ds with| [d]=>∃bs:Y Bool,gw d=Z (bs.map D.bl)/\R (.bl (f bs))|_=>False
theorem xt(w:X.calm=ū):CallD K X (.builtin "all") (J6 λbs=>bs.all id):=⟨λu g s O H xs us Q I F o=>by
 let⟨N,ds,R,l,y,h,k⟩:=o
 match ds,h with
 | [d],⟨ns,e,h⟩=>
  let⟨v,rfl,r⟩:=fU y;let⟨q,a,vs,rfl,j,z⟩:=r.sqb l e;rw[A1 z]at j
  show JK q w g s O H _ us Q I F ⟨a,ns,S,u▸j,k _ N H _ h (.refl l) (.bl _)⟩⟩
noncomputable def Cy:cD:=λds R=>match ds with| [.lst xs]=>R (.tup xs)| [.tup xs]=>R (.tup xs)| [.fzl xs]=>R (.tup xs)|_=>False
theorem fG:CallD K X (.type "tuple") Cy:=⟨λF g s z H xs us Q I y N=>by
 let⟨P,ds,R,j,w,h,k⟩:=N
 match ds,h with
 | [.lst xs],h=>
  let⟨v,rfl,r⟩:=fU w;let⟨a,vs,rfl,o,u⟩:=r.lst j;show qH g s z H _ us Q I y ⟨a,vs,S,.inl ⟨.of o,λp l=>k _ _ _ _ h (.new j l _) ((u.same (cX (j.free l) _)).tup bu)⟩⟩
 | [.fzl xs],h=>
  let⟨v,rfl,r⟩:=fU w;let⟨a,vs,rfl,o,u⟩:=r.fzl j;show qH g s z H _ us Q I y ⟨a,vs,S,.inl ⟨F▸o,λp l=>k _ _ _ _ h (.new j l _) ((u.same (cX (j.free l) _)).tup bu)⟩⟩
 | [.tup xs],h=>
  let⟨v,rfl,r⟩:=fU w;let⟨a,vs,rfl,o,O,u⟩:=r.tup j
  show qH g s z H _ us Q I y ⟨a,vs,S,.inr ⟨F▸o,k _ P H _ h (.refl j) (u.tup O)⟩⟩⟩
noncomputable def y3:cD:=λds R=>match ds with| [.int i]=>R (.int i)| [.bl b]=>R (.int (if b then 1 else 0))|_=>False
theorem xM:CallD K X (.type "int") y3:=⟨λz g s w H xs us Q I l y=>by
 let⟨u,ds,R,o,j,h,k⟩:=y
 match ds,h with
 | [.int i],h=>
  let⟨v,rfl,r⟩:=fU j;cases r.int;show wM g s w H _ us Q I l (.inl ⟨i,S,k _ u H _ h (.refl o) (.int _)⟩)
 | [.bl b],h=>
  let⟨v,rfl,r⟩:=fU j;cases r.bl
  show wM g s w H _ us Q I l (.inr ⟨b,S,k _ u H _ h (.refl o) (.int _)⟩)⟩
noncomputable def su(d:D)(T:String):Ū Bool:=match d with
 |.int _=>if T="int" then Z ū else if T="bool" then Z Ŭ else if T="tuple" then Z Ŭ else if T="str" then Z Ŭ else ũ
 |.bl _=>if T="int" then Z ū else if T="bool" then Z ū else if T="tuple" then Z Ŭ else ũ
 |.str _=>if T="str" then Z ū else if T="tuple" then Z Ŭ else ũ
 |.tup _=>if T="tuple" then Z ū else if T="int" then Z Ŭ else ũ
 |.lst _=>if T="tuple" then Z Ŭ else if T="list" then Z ū else ũ
 |_=>ũ
end
structure SteadyD(K:Â)(J:It)(Φ:Hp)(ds:List D):Prop where
 go:∀i H,Same Φ H->i<ds.length->J.go i H
 yl:∀i Φ2 H x H2 d,Same Φ Φ2->Same Φ2 H->ds[i]?=Z d->J.yld i H x H2->∃Φ3,Gr Φ2 H Φ3 H2/\Rp K Φ3 d x
 stop:∀H,Same Φ H->J.stop ds.length H
section
variable{K:Â}{c:Hp}{ds es:Y D}{vs ws:Y V}{a:Addr}
theorem J7(h:SqL K c a vs)(r:RpL K c ds vs):SteadyD K (rL K a) c ds:=
 ⟨λi H s j=>⟨vs,vs[i]'(by rw[r.1];show j),s.seq h,bA _⟩,λi f H x l d g s hd y=>by
  let⟨e,y⟩:=y;subst e
  show⟨f,.refl s,(r.2 i x d (y vs ((g.trans s).seq h)) hd).same g⟩,λH s=>⟨vs,s.seq h,by rw[r.1];show Kw _⟩⟩
theorem BA(h:SqT K c a vs)(r:RpL K c ds vs):SteadyD K (rh K a) c ds:=
 ⟨λi H s j=>⟨vs,vs[i]'(by rw[r.1];show j),s.sqt h,bA _⟩,λi f H x l d g s hd y=>by
  let⟨e,y⟩:=y;subst e
  show⟨f,.refl s,(r.2 i x d (y vs ((g.trans s).sqt h)) hd).same g⟩,λH s=>⟨vs,s.sqt h,by rw[r.1];show Kw _⟩⟩
noncomputable def gy(lo:Int)(n:Nat):Y D:=(List.range n).map λi=>D.int (lo+(i:Nat))
theorem gA(lo:Int)(n:Nat):(gy lo n).length=n:=by unfold gy;simp
theorem iH{lo:Int}{n i:Nat}{d:D}(h:(gy lo n)[i]?=Z d):i<n/\d=.int (lo+(i:Nat)):=by
 have e:i<n:=by have:=aZ h;rwa [gA]at this
 unfold gy at h;rw[Kv,Mn e]at h;cases h;show⟨e,S⟩
theorem vx{lo:Int}{n:Nat}:SteadyD K (pq lo n) c (gy lo n):=
 ⟨λi H s g=>by rw[gA]at g;show g,λi f H x h d j s hd y=>by
  let⟨e,y⟩:=y;subst e y;rw[(iH hd).2]
  show⟨f,.refl s,.int _⟩,λH s=>by rw[gA];show Kw n⟩
noncomputable def hX(ds:Y D):Y D:=ds.zipIdx.map λp=>.tup [.int (p.2:Nat),p.1]
theorem sJ(ds:Y D):(hX ds).length=ds.length:=by unfold hX;simp
theorem vf{i:Nat}{d:D}(h:(hX ds)[i]?=Z d):∃e,ds[i]?=Z e/\d=.tup [.int (i:Nat),e]:=by
 unfold hX at h;rw[Kv,List.getElem?_zipIdx]at h
 cases e:ds[i]? with
 |none=>rw[e]at h;cases h
 |some x=>rw[e]at h;cases h;show⟨x,S,by simp⟩
theorem Rp.pair{H:Hp}{t:Addr}{d e:D}{x y:V}(h:H t=Z (.tup [x,y]))(f:Rp K H d x)(g:Rp K H e y):Rp K H (.tup [d,e]) (.ref t):=(RpL.cons f (.one g)).tup h
theorem CB{b:Bool}(h:SqB K b c a vs)(r:RpL K c ds vs):SteadyD K (qa K b a) c (hX ds):=
 ⟨λi H s f=>by rw[sJ]at f;show⟨vs,vs[i]'(by rw[r.1];show f),SqB.same s h,bA _⟩,λi p H x u d j s hd y=>by
  let⟨t,v,g,e,l,y⟩:=y;subst e l;let⟨e,m,rfl⟩:=vf hd;have o:=(r.2 i v e (y vs (SqB.same (j.trans s) h)) m).same (j.trans (cX (s.free g) (.tup [.int i,v])))
  show⟨_,.new s g _,.pair bu (.int _) o⟩,λH s=>by rw[sJ];show⟨vs,SqB.same s h,by rw[r.1];show Kw _⟩⟩
noncomputable def fP(ds es:Y D):Y D:=List.zipWith (λx y=>.tup [x,y]) ds es
theorem mW(ds es:Y D):(fP ds es).length=min ds.length es.length:=by unfold fP;simp
theorem pK{i:Nat}{d:D}(h:(fP ds es)[i]?=Z d):∃x y,ds[i]?=Z x/\es[i]?=Z y/\d=.tup [x,y]:=by
 unfold fP at h;rw[MT]at h
 cases e:ds[i]? with
 |none=>rw[e]at h;cases h
 |some x=>
  cases f:es[i]? with
  |none=>rw[e,f]at h;cases h
  |some y=>rw[e,f]at h;cases h;show⟨x,y,S,S,S⟩
theorem E9{m o:Bool}{a1 a2:Addr}(f:SqB K m c a1 vs)(g:SqB K o c a2 ws)(h:RpL K c ds vs)(j:RpL K c es ws):SteadyD K (ra K m a1 o a2) c (fP ds es):=
 ⟨λi H s z=>by
  rw[mW]at z
  have C:i<vs.length:=by rw[h.1];omega
  have E:i<ws.length:=by rw[j.1];omega
  show⟨vs,ws,vs[i],ws[i],SqB.same s f,SqB.same s g,bA C,bA E⟩,λi I H x J d l s hd y=>by
  let⟨t,u,v,r,e,w,F,G⟩:=y;subst e w;let⟨p,q,A,B,rfl⟩:=pK hd;have sn:=l.trans (cX (s.free r) (.tup [u,v]))
  show⟨_,.new s r _,.pair bu ((h.2 i u p (F vs (SqB.same (l.trans s) f)) A).same sn) ((j.2 i v q (G ws (SqB.same (l.trans s) g)) B).same sn)⟩,λH s=>by
  rw[mW]
  show⟨vs,ws,SqB.same s f,SqB.same s g,by rw[h.1,j.1];omega⟩⟩
end
inductive lI(K:Â)(t:bg)(σ:St)(H:Hp)(R':It->Hp->Prop):Prop|mk (H0:Hp) (Φ:Hp) (ρ:bM) (R:List D->Prop) (_:EnvD K H0 Φ H σ ρ) (_:t ρ R) (_:∀ds Φ' H' J,R ds->Gr Φ H Φ' H'->SteadyD K J Φ' ds->R' J H')
structure PID(K:Â)(X:Cx)(tg e:Ã)(t:bg):Prop where pi:X.K=K->PI X tg e (lI K t)
theorem PI.imp{X:Cx}{f e:Ã}{t t':TI}(h:PI X f e t)(k:∀c H R,t' c H R->t c H R):PI X f e t':=λa s c H R I g=>h a s c H R I (k c H R g)
section
variable{K:Â}{X:Cx}{l e a:Ã}{es:Y Ã}{c p:Õ}{t:TD}{f:bg}
theorem vo{es:Y Ã}{k:Nat}{t:eU}{n:Nat}(j:X.K=K)(m:X.calm=ū)(h:PGs X es t)(o:(È es X.env).length=n)(g:(È es X.env).findIdx? (·.1)=ũ):PG X (.Tuple es k c) (sy K n t):=j▸DI m h o g
theorem wb{es:Y Ã}{k:Nat}{t:eU}{n:Nat}(j:X.K=K)(m:X.calm=ū)(h:PGs X es t)(o:(È es X.env).length=n)(g:(È es X.env).findIdx? (·.1)=ũ):PG X (.Tuple es k c) (tH K n t):=j▸DP m h o g
noncomputable def Gp(t:bg):bg:=λρ R=>t ρ λds=>match ds with| [.int j]=>(-(2^62)<=j/\j<2^62)/\R (gy 0 j.toNat)|_=>False
theorem RpL.one_inv{j:Hp}{d:D}{vs:Y V}(h:RpL K j [d] vs):∃v,vs=[v]/\Rp K j d v:=by
 let⟨m,g⟩:=h
 match vs,m,g with
 | [v],_,g=>show⟨v,S,g 0 v d S S⟩
theorem RpL.two_inv{j:Hp}{d e:D}{vs:Y V}(h:RpL K j [d,e] vs):∃v w,vs=[v,w]/\Rp K j d v/\Rp K j e w:=by
 let⟨m,g⟩:=h
 match vs,m,g with
 | [v,w],_,g=>show⟨v,w,S,g 0 v d S S,g 1 w e S S⟩
theorem rA(y:Gl X "range")(z:X.mg "range"=ũ)(x:PAD K X [a] f)(A:starEach [a] X.env=[(Ŭ,eval a X.env)]:=by rfl):PID K X l (.Call (.Name "range" p) [a] [] c) (Gp f):=
 ⟨λw=>(vd y z (x.pa w) A).imp λI H G u=>by let⟨m,F,ρ,R,E,t,k⟩:=u;show⟨m,F,ρ,_,E,t,λds h o vs r g C _=>by
  match ds,r with
  | [.int j],r=>
   let⟨v,rfl,B⟩:=C.one_inv;obtain rfl:=B.i
   show⟨j,S,r.1.1,r.1.2,k _ h o _ r.2 g vx⟩⟩⟩
end
noncomputable abbrev da:=D->bM->(bM->Prop)->Prop
noncomputable abbrev eY:=Y D->bM->(bM->Prop)->Prop
inductive lG(K:Â)(g:da)(v:V)(σ:St)(H:Hp)(Q:St->Hp->Prop):Prop|mk (H0:Hp) (Φ:Hp) (ρ:bM) (d:D) (R:bM->Prop) (_:EnvD K H0 Φ H σ ρ) (_:Rp K Φ d v) (_:g d ρ R) (_:∀ρ' σ',R ρ'->EnvD K H0 Φ H σ' ρ'->Q σ' H)
inductive lGs(K:Â)(g:eY)(vs:List V)(σ:St)(H:Hp)(Q:St->Hp->Prop):Prop|mk (H0:Hp) (Φ:Hp) (ρ:bM) (ds:List D) (R:bM->Prop) (_:EnvD K H0 Φ H σ ρ) (_:RpL K Φ ds vs) (_:g ds ρ R) (_:∀ρ' σ',R ρ'->EnvD K H0 Φ H σ' ρ'->Q σ' H)
structure PGD(K:Â)(X:Cx)(e:Ã)(g:da):Prop where pg:X.K=K->PG X e (lG K g)
structure PGDs(K:Â)(X:Cx)(es:List Ã)(g:eY):Prop where pg:X.K=K->PGs X es (lGs K g)
theorem PG.imp{X:Cx}{e:Ã}{t t':TG}(h:PG X e t)(k:∀v c H Q,t' v c H Q->t v c H Q):PG X e t':=λa s c H v u Q I r f=>h a s c H v u Q I r (k v c H Q f)
theorem PGs.imp{X:Cx}{e:Y Ã}{t t':eU}(h:PGs X e t)(k:∀v c H Q,t' v c H Q->t v c H Q):PGs X e t':=λa s c H v u Q I r f=>h a s c H v u Q I r (k v c H Q f)
section
variable{K:Â}{X:Cx}{e:Ã}{es:Y Ã}{a:Õ}{g:da}{c:eY}
noncomputable def sN(i:Nat):da:=λd ρ R=>R (ρ.set i (Z (.v d)))
theorem eA{i:Nat}{x:Str}(h:X.N.Nodup)(l:X.N[i]?=Z x)(m:gK X.env.scope x)(j:X.fn x=ū\/X.env.scope.names.lookup x=Z .local:=by nofun):PGD K X (.Name x a) (sN i):=
 ⟨λ_=>(xq h l m j).imp λv t H Q f=>by let⟨o,p,ρ,d,R,E,r,g,k⟩:=f;show k _ _ g (E.set r i)⟩
noncomputable def tj:eY:=λds ρ R=>match ds with| []=>R ρ|_=>False
noncomputable def pL(t:da)(u:eY):eY:=λds ρ R=>match ds with|d::r=>t d ρ λf=>u r f R| []=>False
theorem uv:PGDs K X [] tj:=⟨λ_=>pgs_nil.imp λv l H Q f=>by
 let⟨h,j,ρ,ds,R,E,r,g,k⟩:=f
 cases ds with
 |nil=>show⟨LM.mp r.1,k _ _ g E⟩
 |cons=>show g.elim⟩
theorem nE(t:PGD K X e g)(w:PGDs K X es c)(y:(È (e::es) X.env).map (·.2)=assign e X.env::(È es X.env).map (·.2):=by rfl):PGDs K X (e::es) (pL g c):=
 ⟨λl=>(wR (t.pg l) (w.pg l) y).imp λvs B H Q p=>by
  let⟨j,m,ρ,ds,R,E,r,g,k⟩:=p
  cases ds with
  |nil=>show g.elim
  |cons d ds=>
   cases vs with
   |nil=>show absurd r.1 (by simp)
   |cons v vs=>
    refine⟨v,vs,S,j,m,ρ,d,_,E,r.2 0 v d S S,g,λh A g' o=>⟨j,m,h,ds,R,o,⟨by have:=r.1;simpa using this,λi u f z x=>r.2 (i+1) u f z x⟩,g',k⟩⟩⟩
end
noncomputable def eN(cap:Y (Ū Nat))(ρ:bM):bM:=cap.map λo=>o.bind λi=>(ρ[i]?).join
theorem Bt{a:Type}{o:Ū (Ū a)}{x:a}(h:o.join=Z x):o=Z (Z x):=by
 cases o with
 |none=>cases h
 |some o=>cases o with
  |none=>cases h
  |some y=>cases h;rfl
theorem jF{a:Type}{cap:Y (Ū Nat)}{l:Y (Ū a)}{i:Nat}{x:a}(h:(cap.map λo=>o.bind λi=>(l[i]?).join)[i]?=Z (Z x)):∃j,cap[i]?=Z (Z j)/\l[j]?=Z (Z x):=by
 rw[Kv]at h
 cases e:cap[i]? with
 |none=>rw[e]at h;cases h
 |some o=>
  rw[e]at h
  cases o with
  |none=>cases h
  |some j=>show⟨j,S,Bt (by simpa using h)⟩
theorem EnvD.cap{K:Â}{m w H:Hp}{f:St}{ρ:bM}{cap:Y (Ū Nat)}(E:EnvD K m w H f ρ)(inj:∀i j k:Nat,cap[i]?=Z (Z k)->cap[j]?=Z (Z k)->i=j):EnvD K m w H (fv cap f) (eN cap ρ):=by
 have st:∀{i j:Nat}{v:V},cap[i]?=Z (Z j)->f[j]?=Z (Z v)->(fv cap f)[i]?=Z (Z v):=λg l=>by unfold fv;rw[Kv,g];simp[l]
 have ts:∀{i j:Nat}{v:V},cap[i]?=Z (Z j)->(fv cap f)[i]?=Z (Z v)->f[j]?=Z (Z v):=λg l=>by let⟨u,a,c⟩:=jF l;rw[g]at a;cases a;show c
 refine⟨E.fz,by unfold fv eN;simp,λi d h=>?_,λi ds h=>?_,λi j ds es p y z A B=>?_,E.tb⟩
 ·let⟨j,a,c⟩:=jF h;let⟨v,e,r⟩:=E.sl j d c;show⟨v,st a e,r⟩
 ·let⟨j,a,c⟩:=jF h;let⟨p,vs,e,q⟩:=E.ow j ds c;show⟨p,vs,st a e,q⟩
 ·let⟨t,a,c⟩:=jF y;let⟨u,o,x⟩:=jF z;have:=E.ne t u ds es p c x (ts a A) (ts o B);subst this;show inj i j t a o
structure GK(k:Nat)(g:da):Prop where p:∀d ρ R,g d ρ R->g d ρ λρ1=>ρ1.length=ρ.length/\ρ1.drop k=ρ.drop k/\R ρ1
structure GKs(k:Nat)(g:eY):Prop where p:∀ds ρ R,g ds ρ R->g ds ρ λρ1=>ρ1.length=ρ.length/\ρ1.drop k=ρ.drop k/\R ρ1
theorem Ed{k i:Nat}(h:i<k):GK k (sN i):=⟨λd ρ R r=>⟨by simp,by rw[List.drop_set_of_lt h],r⟩⟩
theorem FN{k:Nat}:GKs k tj:=⟨λds ρ R r=>by
 cases ds with
 |nil=>show⟨S,S,r⟩
 |cons=>show r⟩
theorem FM{t:da}{u:eY}(c:∀d ρ R a,(∀x,R x->a x)->t d ρ R->t d ρ a)(e:∀d ρ R a,(∀x,R x->a x)->u d ρ R->u d ρ a):∀d ρ R a,(∀x,R x->a x)->pL t u d ρ R->pL t u d ρ a:=by
 intro ds ρ R a h r
 cases ds with
 |nil=>show r
 |cons d ds=>show c d ρ _ _ (λx f=>e ds x _ _ h f) r
structure GM(k:Nat)(g:da):Prop where
 k:GK k g
 m:∀d ρ R R',(∀x,R x->R' x)->g d ρ R->g d ρ R'
structure GMs(k:Nat)(g:eY):Prop where
 k:GKs k g
 m:∀d ρ R R',(∀x,R x->R' x)->g d ρ R->g d ρ R'
theorem eB{k i:Nat}(h:i<k):GM k (sN i):=⟨Ed h,λd ρ R a h r=>h _ r⟩
theorem uY{k:Nat}:GMs k tj:=⟨FN,λds ρ R a h r=>by
 cases ds with
 |nil=>show h _ r
 |cons=>show r⟩
theorem ou{k:Nat}{t:da}{u:eY}(a:GM k t)(c:GMs k u):GMs k (pL t u):=⟨⟨λds ρ R r=>by
 cases ds with
 |nil=>show r
 |cons d ds=>
  have h:t d ρ λf=>u ds f R:=r;refine a.m _ _ _ _ (λg q=>?_) (a.k.p d ρ _ h)
  show c.m _ _ _ _ (λj e=>⟨e.1.trans q.1,e.2.1.trans q.2.1,e.2.2⟩) (c.k.p ds g R q.2.2)⟩,FM a.m c.m⟩
noncomputable def qw:cg:=λ_ R=>R ū
structure PIfD(K:Â)(X:Cx)(ifs:List Ã)(t:cg):Prop where p:X.K=K->kn X ifs (lT K t)
theorem xZ{K:Â}{X:Cx}:PIfD K X [] qw:=⟨λ_ a s f H Q I c=>by let⟨g,e,ρ,R,E,t,k⟩:=c;show HM a s f H Q I (k ū e H t (.refl E.fz))⟩
theorem FJ{K:Â}{X:Cx}{c:Ã}{t:cg}(h:PTD K X c t):PIfD K X [c] t:=⟨λa=>FW (h.pt a)⟩
theorem EnvD.side{K:Â}{a f H:Hp}{g:St}{ρ:bM}{p:Addr}{o u:HO}(E:EnvD K a f H g ρ)(j:a p=Z u)(l:f p=ũ):EnvD K a f (aq H p o) g ρ:=
 ⟨λb w e=>by rw[aJ (cV e l)];show E.fz b w e,E.len,E.sl,λi ds h=>by
  let⟨q,vs,e,c,m,r,t⟩:=E.ow i ds h
  show⟨q,vs,e,c,m,by rw[aJ λz=>by rw[z,j]at c;cases c];show r,t⟩,E.ne,E.tb⟩
theorem EnvD.base{K:Â}{a f H:Hp}{g:St}{ρ:bM}{p:Addr}{u:HO}(E:EnvD K a f H g ρ)(j:H p=ũ):EnvD K (aq a p u) f H g ρ:=
 ⟨E.fz,E.len,E.sl,λi ds h=>by
  let⟨q,vs,e,l,m,c,o⟩:=E.ow i ds h
  show⟨q,vs,e,by rw[aJ (cV c j)];show l,m,c,o⟩,E.ne,E.tb⟩
noncomputable def wG(f:bg)(cap:Y (Ū Nat))(g:da)(c:cg)(e:TD):bg:=λρ R=>f ρ λds=>ds.length<sizeLine/\∃P:Nat->Ū D->Prop,
 (∀i d,ds[i]?=Z d->g d (eN cap ρ) λa=>c a λb=>(b=ū->e a λy=>P i (Z y))/\(b=Ŭ->P i ũ))/\∀ys:Y (Ū D),ys.length=ds.length->(∀i y,ys[i]?=Z y->P i y)->R (ys.filterMap id)
theorem GW(ys:Y (Ū D))(y:D):(ys++[Z y]).filterMap id=ys.filterMap id++[y]:=by simp
theorem zL(ys:Y (Ū D)):(ys++[ũ]).filterMap id=ys.filterMap id:=by simp
theorem Ao(ys:Y (Ū D)):(ys.filterMap id).length<=ys.length:=List.length_filterMap_le _ _
theorem fJ{f:Type}{ys:Y f}{y:f}{P:Nat->f->Prop}{n:Nat}(l:ys.length=n)(h:∀i z,ys[i]?=Z z->P i z)(j:P n y):∀i z,(ys++[y])[i]?=Z z->P i z:=by
 intro i z a;rcases K7 i ys.length with c|c
 ·rw[Kn c]at a;show h i z a
 ·rw[Km c]at a
  have g:i-ys.length=0:=by
   rcases Nat.eq_zero_or_pos (i-ys.length)with e|e
   ·show e
   ·rw[Lc (by simp only[KA,LF];omega)]at a;cases a
  rw[g]at a;cases a
  have:i=n:=by omega
  subst this;show j
noncomputable def gI(k:Nat)(cap:Y (Ū Nat)):Bool:=(cap.take k).all (·.isNone)&&decide ((cap.filterMap id).Nodup)
theorem AW{k:Nat}{cap:Y (Ū Nat)}(h:gI k cap=ū){i:Nat}(a:i<k){o:Ū Nat}(e:cap[i]?=Z o):o=ũ:=by
 unfold gI at h;rw[KQ]at h;have:=KZ.mp h.1 o (KN (i:=i) (by rw[Mg a];show e))
 cases o with
 |none=>rfl
 |some _=>cases this
theorem GI{k:Nat}{cap:Y (Ū Nat)}(h:gI k cap=ū):∀i j n:Nat,cap[i]?=Z (Z n)->cap[j]?=Z (Z n)->i=j:=by
 unfold gI at h;rw[KQ]at h;have nd:=KL h.2;clear h
 induction cap with
 |nil=>intro i j n a;simp at a
 |cons o cap p=>
  intro i j n a c
  have f:(cap.filterMap id).Nodup:=by
   cases o with
   |none=>simpa using nd
   |some m=>have e : (Z m :: cap).filterMap id = m :: cap.filterMap id:= rfl
            rw [e]at nd; show (K9.mp nd).2
  have one:∀{i:Nat},o=Z n->cap[i]?=Z (Z n)->False:=λ{i} l g=>by
   subst l;have e:(Z n::cap).filterMap id=n::cap.filterMap id:=rfl;rw[e]at nd;show (K9.mp nd).1 (Mo.mpr ⟨Z n,KN g,S⟩)
  cases i with
  |zero=>cases j with
   |zero=>rfl
   |succ j=>show (one (by simpa using a) (by simpa using c)).elim
  |succ i=>cases j with
   |zero=>show (one (by simpa using c) (by simpa using a)).elim
   |succ j=>show LW Nat.succ (p f i j n (by simpa using a) (by simpa using c))
section
variable{K:Â}{X:Cx}{A f r:Ã}{scope:ã}{B:Õ}{N':Y Str}{cap:Y (Ū Nat)}{l:bg}{g:da}{w:cg}{a:TD}
theorem v7{k:Nat}(Qy:gI k cap=ū)(hk:GM k g){σ:St}{H:Hp}{Q:VK}{aA Φ:Hp}{ρ:bM}{R W:Y D->Prop}(E:EnvD K aA Φ H σ ρ)(t:l ρ W)
  (conv:∀ds,W ds->ds.length<sizeLine/\∃P:Nat->Ū D->Prop,(∀i d,ds[i]?=Z d->g d (eN cap ρ) λz=>w z λb=>(b=ū->a z λy=>P i (Z y))/\(b=Ŭ->P i ũ))/\∀ys:Y (Ū D),ys.length=ds.length->(∀i y,ys[i]?=Z y->P i y)->R (ys.filterMap id))
  (kk:∀ds h F p vs,R ds->Gr Φ H h F->H p=ũ->h p=ũ->F p=Z (.lst vs)->RpL K h ds vs->Q (.ref p) F):jx (lI K l) cap (lG K g) (lT K w) (lE K a) σ H Q:=by
 refine⟨aA,Φ,ρ,W,E,t,λds G H1 J hW g1 ap C hD=>?_⟩
 let⟨hlen,P,hp,hr⟩:=conv ds hW
 have E1:=E.gr g1;have N:G C=ũ:=g1.s.free hD;have C0:EnvD K (aq aA C (.lst [])) G (aq H1 C (.lst [])) (fv cap σ) (eN cap ρ):=((E1.base (u:=.lst []) hD).side (o:=.lst []) bu N).cap (GI Qy);refine⟨λi m σ' F=>m=ds.length-i/\i<=ds.length/\∃(h:Hp)(vs:Y V)(ys:Y (Ū D)),EnvD K (aq aA C (.lst [])) h F σ' (eN cap ρ)/\Gr G H1 h F/\h C=ũ/\F C=Z (.lst vs)/\RpL K h (ys.filterMap id) vs/\ys.length=i/\∀j y,ys[j]?=Z y->P j y,⟨ds.length,by simp,Mq _,G,[],[],C0,.fresh g1.s hD _,N,bu,.nil,S,λj y hj=>by simp at hj⟩,?_⟩;rintro i m σ' F ⟨rfl,hi,h,vs,ys,Ei,I,hDi,Wz,So,Vu,hy⟩;by_cases PV:i<ds.length
 ·refine .inr ⟨ap.go i F (I.f.trans I.s) PV,λσ2 a_=>∃(h:Hp)(vs:Y V)(ys:Y (Ū D)),EnvD K (aq aA C (.lst [])) h a_ σ2 (eN cap ρ)/\Gr G H1 h a_/\h C=ũ/\a_ C=Z (.lst vs)/\RpL K h (ys.filterMap id) vs/\ys.length=i+1/\∀j y,ys[j]?=Z y->P j y,λσ2 a_ h2=>⟨ds.length-(i+1),(),S,PV,h2⟩,λx a_ y=>?_⟩;let⟨T,M,rx⟩:=ap.yl i h F x a_ _ I.f I.s (bA PV) y;have E3:=Ei.gr M;refine⟨_,T,eN cap ρ,_,_,E3,rx,hk.k.p _ _ _ (hp i _ (bA PV)),λz σ3 O7 E4=>?_⟩;let⟨RJ,hd1,t1⟩:=O7
  have wk:∀(j:Nat) x,(eN cap ρ)[j]?=Z (Z x)->z[j]?=Z (Z x):=λj x hj=>by
   rcases K7 j k with c|c
   ·let⟨n,h1,_⟩:=jF hj;cases AW Qy c h1
   ·have e1:(eN cap ρ)[j]?=((eN cap ρ).drop k)[j-k]?:=by rw[Nf];congr 1;omega
    have e2:z[j]?=(z.drop k)[j-k]?:=by rw[Nf];congr 1;omega
    rw[e2,hd1,←e1];show hj
  have hD3:T C=ũ:=M.o _ _ Wz hDi;refine⟨_,T,z,_,E4,t1,λb U H4 rb O=>?_⟩;have E5:=(E4.gr O);have UJ:=O.h _ _ (M.h _ _ Wz);have hD4:U C=ũ:=O.o _ _ (M.h _ _ Wz) hD3
  cases b with
  |false=>
   refine xk ?_;refine⟨U,vs,ys++[ũ],E5.weak RJ.symm wk,(I.trans M).trans O,hD4,UJ,?_,by rw[Kp,Vu];rfl,fJ Vu hy (rb.2 S)⟩;rw[zL];show (So.same M.f).same O.f
  |true=>
   refine xP ?_;refine⟨_,U,z,_,E5,rb.1 S,λd Φ5 H5 v rd g5 rv=>?_⟩;have E6:=E5.gr g5;have Xx:=g5.h _ _ UJ;have Xy:Φ5 C=ũ:=g5.o _ _ UJ hD4;have gg:=((I.trans M).trans O).trans g5;refine⟨vs,Xx,?_,Φ5,vs++[v],ys++[Z d],(E6.weak RJ.symm wk).side bu Xy,?_,Xy,bu,?_,by rw[Kp,Vu];rfl,fJ Vu hy rd⟩
   ·have:=Ao ys;rw[So.1];omega
   ·show⟨gg.f,Ik gg.h hD _,λb u e=>by rw[aJ (cV e Xy)];show gg.s b u e,λp u hp hn k=>gg.o p u hp hn k⟩
   ·rw[GW];show (((So.same M.f).same O.f).same g5.f).append (.one rv)
 ·have e:i=ds.length:=by omega
  subst e;show .inl ⟨ap.stop F (I.f.trans I.s),kk _ h F C vs (hr ys Vu hy) (g1.trans I) (g1.h.free hD) hDi Wz So⟩
theorem Bk{k:Nat}(e:gI k cap=ū)(j:GM k g){c:St}{H:Hp}{Q:VK}(h:lF K (wG l cap g w a) c H Q):jx (lI K l) cap (lG K g) (lT K w) (lE K a) c H Q:=by let⟨o,p,ρ,R,E,t,m⟩:=h;show v7 e j E t (λds h=>h) m
noncomputable def qB(l:bg)(cap:Y (Ū Nat))(g:da)(a:TD):bg:=λρ R=>l ρ λds=>ds.length<sizeLine/\∃P:Nat->D->Prop,
 (∀i d,ds[i]?=Z d->g d (eN cap ρ) λc=>a c (P i))/\∀ys:Y D,ys.length=ds.length->(∀i y,ys[i]?=Z y->P i y)->R ys
noncomputable def En(P:Nat->D->Prop):Nat->Ū D->Prop:=λi o=>match o with|some y=>P i y|none=>False
theorem yI{P:Nat->D->Prop}:∀(ys:Y (Ū D)),(∀(i:Nat) y,ys[i]?=Z y->∃z,y=Z z)->∃c:Y D,ys=c.map Z
 | [],_=>⟨[],S⟩
 |y::ys,h=>by let⟨z,rfl⟩:=h 0 y S;let⟨c,rfl⟩:=yI (P:=P) ys λi y e=>h (i+1) y e;show⟨z::c,S⟩
theorem yT{ds:Y D}{ρ:bM}{R:Y D->Prop}(h:ds.length<sizeLine/\∃P:Nat->D->Prop,(∀i d,ds[i]?=Z d->g d (eN cap ρ) λc=>a c (P i))/\∀ys:Y D,ys.length=ds.length->(∀i y,ys[i]?=Z y->P i y)->R ys){k:Nat}(u:GM k g) :
  ds.length<sizeLine/\∃P:Nat->Ū D->Prop,(∀i d,ds[i]?=Z d->g d (eN cap ρ) λc=>qw c λb=>(b=ū->a c λy=>P i (Z y))/\(b=Ŭ->P i ũ))/\∀ys:Y (Ū D),ys.length=ds.length->(∀i y,ys[i]?=Z y->P i y)->R (ys.filterMap id):=by
 let⟨o,P,p,t⟩:=h;refine⟨o,En P,λi d hd=>u.m _ _ _ _ (λc q=>⟨λ_=>q,λe=>by cases e⟩) (p i d hd),λys v m=>?_⟩
 let⟨j,rfl⟩:=yI (P:=P) ys λi y e=>by
  have:=m i y e
  cases y with
  |none=>show this.elim
  |some z=>show⟨z,S⟩
 rw[N3]
 have e:j.filterMap (id ∘ Z)=j:=by simp
 rw[e];refine t j (by simpa using v) λi y e=>?_;show m i (Z y) (by rw[Kv,e];rfl)
theorem yJ{k:Nat}(j:gI k cap=ū)(c:GM k g){e:St}{H:Hp}{Q:VK}(h:lF K (qB l cap g a) e H Q):jx (lI K l) cap (lG K g) (lT K qw) (lE K a) e H Q:=by let⟨o,p,ρ,R,E,t,m⟩:=h;show v7 j c E t (λds h=>yT h c) m
theorem g9{k:Nat}(m:X.calm=ū)(Q:CompScope X.N X.env.scope scope N' cap)(o:gI k cap=ū)(v:GM k g)(u:PID K X A f l)
  (t:∀(cl:Y (Str×Addr))(e:Y Addr)(C:Addr)(h:À)(c:Hp),PGD K (cK X scope N' cl C h c e) A g)
  (p:∀(cl:Y (Str×Addr))(e:Y Addr)(C:Addr)(h:À)(c:Hp),PD K (cK X scope N' cl C h c e) r a) (y:∀x,Ô f X.env x=pure x:=by intro _;rfl):PF K X (.ListComp r [⟨A,f,[],0⟩] scope B) (qB l cap g a):=
 ⟨λj=>(FE m Q (u.pi j) (λcl e C h c=>(t cl e C h c).pg j) (λcl e C h c=>(xZ (K:=K)).p j) (λcl e C h c=>(p cl e C h c).pe j) y).imp λ_ _ _=>yJ o v⟩
end
noncomputable def vn(K:Â)(b:Bool)(a:Addr):It:=match b with|true=>rL K a|false=>rh K a
section
variable{K:Â}{X:Cx}{m e a b:Ã}{es:Y Ã}{f p A:Õ}{t z:TD}{j:bg}
theorem E8{l:Ã}{j:TE}(G:X.K=K)(M:PE X l j):PI X m l (λw H R=>j w H λx r=>∃q a,x=.ref a/\(∃xs,SqB K q r a xs)/\R (vn K q a) r):=by
 subst G;intro g s w H R I h;refine aE (M g s w H _ I h) λv c E=>?_;let⟨x,r,u,P,O⟩:=E;let⟨F,a,e,⟨xs,C⟩,q⟩:=O;subst e;cases P
 have B:∀b∈[c.heap.objs.size],dW X g r b:=λb J=>by
  have e:b=c.heap.objs.size:=by simpa using J
  subst e;show u.fpOk (Kw _) (u.hok.fresh (Kw _))
 cases F with
 |true=>
  let⟨y,Q,p,N⟩:=u.list C;refine Of p.isList ?_;show⟨c.heap.objs.size,[c.heap.objs.size],_,_,r,S,u.kept (t':=c.toks) λb o e=>Ks _ e,zP a _,⟨_,KJ _ S,S,S⟩,B,q⟩
 |false=>
  let⟨y,Q,p,N⟩:=u.tuple C;refine MO (show c.heap.IsTuple a y.toArray from p) ?_;show⟨c.heap.objs.size,[c.heap.objs.size],_,_,r,S,u.kept (t':=c.toks) λb o e=>Ks _ e,FX a _,⟨_,KJ _ S,S,S⟩,B,q⟩
theorem Bq{c:Hp}{ds:Y D}{vs:Y V}{a:Addr}{q:Bool}(h:SqB K q c a vs)(r:RpL K c ds vs):SteadyD K (vn K q a) c ds:=by
 cases q with
 |true=>show J7 h r
 |false=>show BA h r
noncomputable def Dx(t:TD):bg:=λρ R=>t ρ λd=>match d with|.lst ds=>R ds|.tup ds=>R ds|.fzl ds=>R ds|_=>False
theorem zV{d:D}{R:Y D->Prop}(h:match d with|.lst ds=>R ds|.tup ds=>R ds|.fzl ds=>R ds|_=>False):∃ds,gw d=Z ds/\R ds:=by
 cases d with
 |lst ds=>show⟨ds,S,h⟩
 |tup ds=>show⟨ds,S,h⟩
 |fzl ds=>show⟨ds,S,h⟩
 |_=>show h.elim
theorem fV(h:PD K X e t):PID K X m e (Dx t):=⟨λo=>(E8 o (h.pe o)).imp λI H G x=>by let⟨u,F,ρ,R,E,t,k⟩:=x;show⟨u,F,ρ,_,E,t,λd c w v r g C=>by
 let⟨ds,y,r⟩:=zV r;let⟨q,a,vs,rfl,l,B⟩:=C.seq y
 show⟨q,a,S,⟨vs,SqB.same g.s l⟩,k _ c w _ r g (Bq l B)⟩⟩⟩
theorem Ay{a:Ã}{z:TA}{es:Y Ã}{k:Nat}(F:X.K=K)(J:Gl X "enumerate")(O:X.mg "enumerate"=ũ)(G:PA X [a] z)(Q:starEach [a] X.env=[(Ŭ,eval a X.env)]) :
  PI X (.Tuple es k A) (.Call (.Name "enumerate" p) [a] [] f) (λx H R=>z x H λvs o=>∃b a xs,vs=[.ref a]/\SqB K b o a xs/\R (qa K b a) o):=by
 subst F;intro g s x H R I h;refine Call_ (iF I J O boot_enumerate (L5 (aE (G f g s x H _ I h) λus v E=>?_) Q S));let⟨vs,o,w,T,ap⟩:=E;let⟨b,l,xs,e,P,q⟩:=ap;subst e
 cases T with
 |cons r U=>
  cases U;cases r;let⟨a_,rv,p,aA⟩:=w.sqb P;refine IU p λh' B M hsz N=>Ő B ?_;have C:Inv X g x o { v with heap:=h' }:=w.kept (t':=v.toks) N;have y:∀c,v.heap.objs.size<=c->dW X g o c:=λc u=>w.fpOk u (w.hok.fresh u)
  show⟨v.heap.objs.size+1,[v.heap.objs.size+1,v.heap.objs.size],_,_,o,S,C,Er b l _ _ (Nat.succ_ne_self _),⟨⟨_,B⟩,M⟩,λc u=>by
   rcases Kz.mp u with rfl|u
   ·show y _ (N0 _)
   ·rw[KH.mp u];show y _ (Kw _),q⟩
theorem IV{a b:Ã}{z:TA}{es:Y Ã}{k:Nat}(N:X.K=K)(P:Gl X "zip")(ap:X.mg "zip"=ũ)(O:PA X [a,b] z)(T:starEach [a,b] X.env=[(Ŭ,eval a X.env),(Ŭ,eval b X.env)])(C:starEach [b] X.env=[(Ŭ,eval b X.env)]) :
  PI X (.Tuple es k A) (.Call (.Name "zip" p) [a,b] [] f) (λy H R=>z y H λvs l=>∃v w a1 a2 xs ys,vs=[.ref a1,.ref a2]/\SqB K v l a1 xs/\SqB K w l a2 ys/\R (ra K v a1 w a2) l):=by
 subst N;intro g s y H R I h;refine Call_ (iF I P ap boot_zip (L5 (aE (O f g s y H _ I h) λus x ⟨vs,l,o,r1,q1⟩=>?_) (by rw[T,C]) (by rw[C];rfl)));let⟨v,w,U,a_,xs,ys,e,G,J,q⟩:=q1;subst e
 cases r1 with
 |cons r B=>
  cases B with
  |cons r' B=>
   cases B;cases r;cases r';let⟨UE,Wu,aA,_⟩:=o.sqb G;let⟨QE,Wv,p2,_⟩:=o.sqb J;refine DT aA p2 λh' E z2 z3 z4 z5 Q=>ř E ?_;have F:Inv X g y l { x with heap:=h' }:=o.kept (t':=x.toks) Q;have M:∀c,x.heap.objs.size<=c->dW X g l c:=λc u=>o.fpOk u (o.hok.fresh u);generalize x.heap.objs.size=n at *;refine⟨n+4,[n+4,n+2,n+3,n,n+1],_,_,l,S,F,CZ v w U a_ (n+4) (n+2) (n+3) n (n+1) (Iv n),⟨E,z2,⟨_,_,z3⟩,z4,z5⟩,λc u=>M c ?_,q⟩;simp only[Kz,KR,LC]at u;rcases u with rfl|rfl|rfl|rfl|rfl
   ·show Nw _ _
   ·show Nw _ _
   ·show Nw _ _
   ·show Kw _
   ·show Nw _ _
noncomputable def GN(t:bg):bg:=λρ R=>t ρ λds=>match ds with| [.lst xs]=>R (hX xs)| [.tup xs]=>R (hX xs)| [.fzl xs]=>R (hX xs)|_=>False
theorem Fk{C:Y Ã}{F:Nat}(J:Gl X "enumerate")(M:X.mg "enumerate"=ũ)(I:PAD K X [a] j)(N:starEach [a] X.env=[(Ŭ,eval a X.env)]:=by rfl):PID K X (.Tuple C F A) (.Call (.Name "enumerate" p) [a] [] f) (GN j):=
 ⟨λw=>(Ay w J M (I.pa w) N).imp λU H B y=>by let⟨x,Q,ρ,R,E,t,k⟩:=y;show⟨x,Q,ρ,_,E,t,λds l o vs r g h _=>by
  have c:∀{d:D}{xs:Y D},RpL K l [d] vs->gw d=Z xs->R (hX xs)->∃b a xs,vs=[.ref a]/\SqB K b o a xs/\B (qa K b a) o:=λ{d xs} h O r=>by let⟨v,rfl,P⟩:=h.one_inv;let⟨q,a,ws,rfl,u,G⟩:=P.seq O;show⟨q,a,ws,S,SqB.same g.s u,k _ l o _ r g (CB u G)⟩
  match ds,r with
  | [.lst xs],r=>show c h S r
  | [.tup xs],r=>show c h S r
  | [.fzl xs],r=>show c h S r⟩⟩
noncomputable def J9(t:bg):bg:=λρ R=>t ρ λds=>match ds with| [d,e]=>∃xs ys,gw d=Z xs/\gw e=Z ys/\R (fP xs ys)|_=>False
theorem lU{C:Y Ã}{F:Nat}(M:Gl X "zip")(N:X.mg "zip"=ũ)(J:PAD K X [a,b] j)(O:starEach [a,b] X.env=[(Ŭ,eval a X.env),(Ŭ,eval b X.env)]:=by rfl)(B:starEach [b] X.env=[(Ŭ,eval b X.env)]:=by rfl):PID K X (.Tuple C F A) (.Call (.Name "zip" p) [a,b] [] f) (J9 j):=
 ⟨λo=>(IV o M N (J.pa o) O B).imp λσ H R' y=>by let⟨u,Φ,ρ,R,E,t,k⟩:=y;show⟨u,Φ,ρ,_,E,t,λds c x vs r g aA _=>by
  match ds,r with
  | [d,e],⟨xs,ys,P,Q,r⟩=>
   let⟨v,w,rfl,U,a_⟩:=aA.two_inv;let⟨ap,a1,ws,rfl,h,G⟩:=U.seq P;let⟨T,a2,us,rfl,l,I⟩:=a_.seq Q
   show⟨ap,T,a1,a2,ws,us,S,SqB.same g.s h,SqB.same g.s l,k _ c x _ r g (E9 h l G I)⟩⟩⟩
variable{B:eY}
noncomputable def x9(n:Nat)(t:eY):da:=λd ρ R=>match d with|.tup ds=>ds.length=n/\t ds ρ R|.lst ds=>ds.length=n/\t ds ρ R|_=>False
theorem PG.or{m:Ã}{t t':TG}(h:PG X m t)(h':PG X m t'):PG X m (λv l H Q=>t v l H Q\/t' v l H Q):=by
 intro c s l H v u Q I r g;rcases g with g|g
 ·show h c s l H v u Q I r g
 ·show h' c s l H v u Q I r g
theorem yg{k n:Nat}(u:X.calm=ū)(h:PGDs K X es B)(w:(È es X.env).length=n:=by rfl)(o:(È es X.env).findIdx? (·.1)=ũ:=by rfl):PGD K X (.Tuple es k f) (x9 n B):=
 ⟨λc=>((vo c u (h.pg c) w o).or (wb c u (h.pg c) w o)).imp λv C H Q y=>by
  let⟨l,x,ρ,d,R,E,r,g,k⟩:=y
  cases d with
  |tup ds=>cases r with|tup h1 h2 h3=>show .inl ⟨_,_,S,.of (E.fz _ _ h1),by rw[h2];show g.1,l,x,ρ,ds,R,E,⟨h2,h3⟩,g.2,k⟩
  |lst ds=>cases r with|lst h1 h2 h3=>show .inr ⟨_,_,S,.of (E.fz _ _ h1),by rw[h2];show g.1,l,x,ρ,ds,R,E,⟨h2,h3⟩,g.2,k⟩
  |_=>show g.elim⟩
theorem xJ{k n:Nat}{t:eY}(h:GMs k t):GM k (x9 n t):=⟨⟨λd ρ R r=>by
 cases d with
 |tup ds=>show⟨r.1,h.k.p ds ρ R r.2⟩
 |lst ds=>show⟨r.1,h.k.p ds ρ R r.2⟩
 |_=>show r⟩,λd ρ R c g r=>by
 cases d with
 |tup ds=>show⟨r.1,h.m ds ρ R c g r.2⟩
 |lst ds=>show⟨r.1,h.m ds ρ R c g r.2⟩
 |_=>show r⟩
theorem wO{o H:Hp}{d:D}{v:V}{T:String}{r:Bool}(s:Same o H)(h:RpQ K o H d v)(e:su d T=Z r):IsiV K H v T r:=by
 have sp:∀{c:Prop}[Decidable c]{x:Bool}{y:Ū Bool},(if c then Z x else y)=Z r->(c/\x=r)\/y=Z r:=λ{c _ x y} h=>by
  by_cases l:c
  ·rw[Kq l]at h;cases h;show .inl ⟨l,S⟩
  ·rw[Kr l]at h;show .inr h
 cases d with
 |int i=>
  cases h.int;rcases sp e with⟨rfl,rfl⟩|e
  ·show .int_int _
  rcases sp e with⟨rfl,rfl⟩|e
  ·show .int_bool _
  rcases sp e with⟨rfl,rfl⟩|e
  ·show .int_tuple _
  rcases sp e with⟨rfl,rfl⟩|e
  ·show .int_str _
  cases e
 |bl i=>
  cases h.bl;rcases sp e with⟨rfl,rfl⟩|e
  ·show .bl_int _
  rcases sp e with⟨rfl,rfl⟩|e
  ·show .bl_bool _
  rcases sp e with⟨rfl,rfl⟩|e
  ·show .bl_tuple _
  cases e
 |str i=>
  cases h.str;rcases sp e with⟨rfl,rfl⟩|e
  ·show .str_str _
  rcases sp e with⟨rfl,rfl⟩|e
  ·show .str_tuple _
  cases e
 |non=>cases e
 |tup ds=>
  let⟨a,vs,rfl,g,_,u⟩:=h.tup s;rcases sp e with⟨rfl,rfl⟩|e
  ·show .tup_tuple g
  rcases sp e with⟨rfl,rfl⟩|e
  ·show .tup_int g
  cases e
 |lst ds=>
  let⟨a,vs,rfl,g,u⟩:=h.lst s;rcases sp e with⟨rfl,rfl⟩|e
  ·show .lst_tuple (.of g)
  rcases sp e with⟨rfl,rfl⟩|e
  ·show .lst_list (.of g)
  cases e
 |fzl ds=>cases e
 |obj C fs=>cases e
 |map w=>cases e
 |exc _ _=>cases e
noncomputable def BN(T:String)(t:TD):TD:=λρ R=>t ρ λd=>∃r,su d T=Z r/\R (.bl r)
theorem Jc{T:String}{h:Str}{c:Õ}(I:Gl X "isinstance")(J:X.mg "isinstance"=ũ)(G:PQ K X a t)(F:PE X (.Name h c) (tC (.ty T)))
  (w:starEach [a,.Name h c] X.env=(Ŭ,eval a X.env)::starEach [.Name h c] X.env) (o:starEach [.Name h c] X.env=(Ŭ,eval (.Name h c) X.env)::starEach [] X.env):PD K X (.Call (.Name "isinstance" p) [a,.Name h c] [] f) (BN T t):=
 ⟨λu=>(qK (xW u) I J ŧ (dz (G.pe u) (dz F pa_nil o) w) 'b' 'b' w (aG o ah)).imp λU H Q C=>by let⟨x,P,ρ,R,E,t,k⟩:=C;show⟨x,P,ρ,_,E,t,λd l y v r g O=>by
  let⟨N,M,r⟩:=r
  show⟨v,T,N,S,wO g.s O M,k _ l y _ r g (.bl _)⟩⟩⟩
end
theorem gN{a:Type}{f:a->D}{ns:Y a}{i:Nat}{x:D}(h:(ns.map f)[i]?=Z x):∃k,x=f k/\ns[i]?=Z k:=by
 rw[Kv]at h
 cases e:ns[i]? with
 |none=>rw[e]at h;cases h
 |some k=>rw[e]at h;cases h;show⟨k,S,S⟩
theorem hZ{a:Type}{f:a->D}{ns:Y a}{i:Nat}{n:a}{k:Int}(h:ns[i]?=Z n)(e:k=(i:Int)):bZ (ns.map f) k=Z (f n):=mD (by rw[Kv,h];rfl) e
theorem wN{ns:Y Int}{k:Int}(c:0<=k)(h:k<(ns.length:Int)):∃v:Int,bZ (ns.map D.int) k=Z (.int v):=by
 have a:k.toNat<ns.length:=by omega
 show⟨_,hZ (bA a) ()⟩
noncomputable def vS:cD:=λds R=>∃ns:Y Int,ds=[.fzl (ns.map D.int)]/\ns.length<=63/\R (.bl ū)
noncomputable def uk(K:Â):Sp:=λvs H Q _=>∃(a:Addr)(ns:Y Int),vs=[.ref a]/\SqL K H a (ns.map V.int)/\ns.length<=63/\TabF K H/\∀c,Q (.bl ū) c
theorem zN{K:Â}:∀vs H Q E,uk K vs H Q E->lSp K vS vs H Q E:=by rintro vs H Q E ⟨a,ns,rfl,c,e,tb,q⟩;refine⟨H,[.fzl (ns.map D.int)],λd=>d=.bl ū,Same.refl _,tb,.one ((RpL.ints ns).fzl c),⟨ns,S,e,S⟩,λd h j v r g f=>?_⟩;subst r;obtain rfl:=f.b;show q _
theorem rn{c e:Type}(f:c->e)(xs:Y c)(lo a:Ū Int):bJ (xs.map f) lo a=(bJ xs lo a).map f:=by unfold bJ;rw[wy,Oe,O4]
theorem AG(k:Nat)(z:Int):(List.replicate k [D.int z]).flatten=(List.replicate k z).map D.int:=by
 induction k with
 |zero=>rfl
 |succ k a=>rw[LR,Li,a];rfl
section
variable{g:da}{a:TD}{ρ:bM}{R:Y D->Prop}
theorem BV{ds:Y D}(ws:Y D)(o:ws.length=ds.length)(f:ds.length<sizeLine)(Q:Nat->D->Prop)(h:∀i y,Q i y->ws[i]?=Z y)(j:∀i d,ds[i]?=Z d->g d ρ λe=>a e (Q i))(k:R ws) :
  ds.length<sizeLine/\∃P:Nat->D->Prop,(∀i d,ds[i]?=Z d->g d ρ λe=>a e (P i))/\∀ys:Y D,ys.length=ds.length->(∀i y,ys[i]?=Z y->P i y)->R ys:=by
 refine⟨f,Q,j,λys m l=>?_⟩
 have:ys=ws:=by
  refine LA λi=>?_;rcases K7 i ys.length with c|c
  ·rw[bA c,h i _ (l i _ (bA c))]
  ·rw[Lc c,Lc ()]
 rw[this];show k
theorem ij{l:Type}{f:l->D}{xs:Y l}(h:l->D)(j:xs.length<sizeLine)(o:∀x∈xs,g (f x) ρ λc=>a c λy=>y=h x)(k:R (xs.map h)) :
  (xs.map f).length<sizeLine/\∃P:Nat->D->Prop,(∀i d,(xs.map f)[i]?=Z d->g d ρ λc=>a c (P i))/\∀ys:Y D,ys.length=(xs.map f).length->(∀i y,ys[i]?=Z y->P i y)->R ys:=by
 refine BV (xs.map h) (by simp) (by rw[wy];show j) (λi=>match xs[i]? with|some x=>λy=>y=h x|none=>λ_=>False) (λi y q=>?_) (λi d hd=>?_) k
 ·rw[Kv]
  cases e:xs[i]? with
  |none=>rw[e]at q;show q.elim
  |some x=>rw[e]at q;rw[q];rfl
 ·let⟨x,rfl,m⟩:=gN hd
  have e:(match xs[i]? with|some x=>λy=>y=h x|none=>λ_=>False:D->Prop)=λy=>y=h x:=by rw[m]
  rw[e];show o x (KN m)
theorem uo{c e:Type}(f:c->D)(h:e->D)(xs:Y c)(ys:Y e):fP (xs.map f) (ys.map h)=(List.zip xs ys).map λp=>.tup [f p.1,h p.2]:=by unfold fP;rw[List.zipWith_map,OJ];rfl
theorem Hg{e j:Type}{f:e->D}{h:j->D}{xs:Y e}{ys:Y j}(w:e->j->D)(m:xs.length<sizeLine)(r:∀x∈xs,∀y∈ys,g (.tup [f x,h y]) ρ λc=>a c λz=>z=w x y)(k:R (List.zipWith w xs ys)) :
  (fP (xs.map f) (ys.map h)).length<sizeLine/\∃P:Nat->D->Prop,(∀i d,(fP (xs.map f) (ys.map h))[i]?=Z d->g d ρ λc=>a c (P i))/\∀l:Y D,l.length=(fP (xs.map f) (ys.map h)).length->(∀i y,l[i]?=Z y->P i y)->R l:=by
 rw[uo];refine ij (λp:e×j=>w p.1 p.2) ?_ (λp o=>r p.1 (MH o).1 p.2 (MH o).2) ?_
 ·rw[OO];omega
 ·rw[OJ];show k
end
end L2
namespace L2
theorem ff{p:Prop}(h:Ŭ=ū):p:=by cases h
theorem tf{p:Prop}(h:ū=Ŭ):p:=by cases h
end L2
namespace L2
end L2
namespace L2
theorem Em{a:Type}(f:a->D)(es:Y a)(d:a):es.map f++[f d]=(es++[d]).map f:=by simp
end L2
namespace L2
open PySem PySem.Spec PyProof.Rows
section
variable{g:da}{a:TD}{ρ:bM}{R:Y D->Prop}
theorem oE{j:Type}{f:j->D}{xs:Y j}(h:j->Int)(e:xs.length<sizeLine)(l:∀x∈xs,g (f x) ρ λc=>a c λy=>y=.int (h x))(k:R ((xs.map h).map D.int)) :
  (xs.map f).length<sizeLine/\∃P:Nat->D->Prop,(∀i d,(xs.map f)[i]?=Z d->g d ρ λc=>a c (P i))/\∀ys:Y D,ys.length=(xs.map f).length->(∀i y,ys[i]?=Z y->P i y)->R ys:=
 ij (λx=>D.int (h x)) e l (by rw[LO]at k;show k)
end
theorem Hy{n:Nat}{g g':Nat->Bool}(h:∀j,j<n->g j=g' j):(List.range n).all g=(List.range n).all g':=by rw[Mf,KZ,KZ];show⟨λq j a=>(h j (Ma.mp a))▸q j a,λq j a=>(h j (Ma.mp a)).symm▸q j a⟩
section
variable{K:Â}{X:Cx}{h:Y (Addr×Ï)}{l:St}{f H:Hp}{s:À}
theorem yk(T:X.K=K)(I:Inv X h l H s)(N:Same f H):∀(n:Nat){d d' e:D}{b o:Bool}{v:V},Rp K f d v->Rp K f d' v->cz n d e=Z b->cz n d' e=Z o->b=o:=by
 intro n
 induction n using Nat.strongRecOn with
 |ind n ap=>
  intro d d' e b o v t u z p
  have x:∀{m:Nat}{xs w ys:Y D}{vs:Y V}{b o:Bool},m<n->RpL K f xs vs->RpL K f w vs->fA (cz m) xs ys=Z b->fA (cz m) w ys=Z o->b=o:=λ{m xs w ys vs b o} R J M z p=>by
   let⟨g,Q,P⟩:=jT z;let⟨g',B,A⟩:=jT p;have a_:=J.1;have aA:=M.1
   have O:xs.length=w.length:=by omega
   rw[P,A,O];congr 1;refine Hy λj U=>?_
   have C:j<vs.length:=by omega
   have E:j<xs.length:=by omega
   have F:j<w.length:=by omega
   have G:j<ys.length:=by omega
   show ap m R (J.2 j _ _ (bA C) (bA E)) (M.2 j _ _ (bA C) (bA F)) (Q j _ _ (bA E) (bA G)) (B j _ _ (bA F) (bA G))
  cases ie z with
  |int i j=>obtain rfl:=t.i;cases u;cases ie p;rfl
  |bl i j=>obtain rfl:=t.b;cases u;cases ie p;rfl
  |str i j=>obtain rfl:=t.s;cases u;cases ie p;rfl
  |non=>obtain rfl:=t.n;cases u;cases ie p;rfl
  |tup r=>cases ie p with|tup q2=>
   cases t with| @tup a vs xs a1 a2 a3=>cases u with| @tup _ ws ys b1 b2 b3=>
   have y:vs=ws:=I.tuple_inj (.of (N _ _ a1)) (.of (N _ _ b1));subst y;show x (MN _) ⟨a2,a3⟩ ⟨b2,b3⟩ r q2
  | @lst _ xs es b r=>cases ie p with| @lst _ ys es o q2=>
   cases t with| @lst a vs _ a1 a2 a3=>cases u with| @lst _ ws _ b1 b2 b3=>
   have y:vs=ws:=by rw[a1]at b1;cases b1;rfl
   subst y;by_cases c:xs.length=es.length
   ·rw[Kq c]at r;rw[Kq ()]at q2;show x (MN _) ⟨a2,a3⟩ ⟨b2,b3⟩ r q2
   ·rw[Kr c]at r;rw[Kr ()]at q2;rw[r]at q2;cases q2;rfl
end
@[irreducible] noncomputable def nT (x:D)(y:D)(R:D->Prop):Prop:=match x with
 |.lst ds=>ds.length<=1000/\∃(bs:Y Bool)(j:Nat),bs.length=ds.length/\(∀(i:Nat) d b,ds[i]?=Z d->bs[i]?=Z b->cz 39 d y=Z b)/\bs[j]?=Z ū/\(∀i,i<j->bs[i]?=Z Ŭ)/\R (.int (j:Int))
 |_=>False
section
variable{K:Â}{X:Cx}{a b:Ã}{l tb:TD}{f o:Õ}
open Classical in
theorem yZ(hK:X.K=K)(hu:X.A.units+64<â):jw X "list.index" (λx xs H Q=>∃t F G R y,Same t H/\xs=[y]/\RpQ K t H F x/\RpQ K t H G y/\nT F G R/\∀d E aA v,R d->Gr t H E aA->Rp K E d v->Q v aA):=by
 intro pins s σ H x xs v us Q I rx rs ⟨t,F,G,R,y,C,e,hx,hy,h,k⟩;subst e;let⟨u,rfl,ru⟩:=g6 rs;unfold nT at h
 cases F with
 |lst ds=>
  let⟨hl,bs,j,TL,hb,hj,Qb,r⟩:=h;let⟨a,vs,rfl,O,B⟩:=hx.lst C;cases rx;let⟨p,n,rv,ho,hz⟩:=I.lst O;have l1:=Vals.length rv;have XA:j<bs.length:=aZ hj;have Qj:Same t H:=C
  let e:Value->Bool:=λz=>decide (∃m:Nat,p[m]?=Z z/\bs[m]?=Z ū)
  have at_:∀(m:Nat) z,p[m]?=Z z->∃(w:V)(d:D)(b:Bool),RelV w z/\Rp K H d w/\ds[m]?=Z d/\bs[m]?=Z b/\cz 39 d G=Z b:=λm z g=>by
   have i0:m<p.length:=aZ g
   have P:m<vs.length:=by omega
   have ap:m<ds.length:=by rw[←B.1];show P
   have i3:m<bs.length:=by omega
   let⟨u',To,r'⟩:=Vals.get (i:=m) (x:=vs[m]) rv (bA P);rw[g]at To;cases To;show⟨vs[m],ds[m],bs[m],r',(B.2 m _ _ (bA P) (bA ap)).same C,bA ap,bA i3,hb m _ _ (bA ap) (bA i3)⟩
  have N:∀(m A:Nat) z b M,p[m]?=Z z->p[A]?=Z z->bs[m]?=Z b->bs[A]?=Z M->b=M:=λm A z b M g UK q q'=>by
   let⟨w,d,c,a_,T,_,U,c1⟩:=at_ m z g;let⟨w',d',c',XB,XC,_,Vv,Va⟩:=at_ A z UK;rw[q]at U;rw[q']at Vv;cases U;cases Vv;have:=a_.inj XB;subst this;show yk hK I (Same.refl H) 39 T XC c1 Va
  have J:∀(m:Nat) z b,p[m]?=Z z->bs[m]?=Z b->e z=b:=λm z b g q=>by
   change decide (∃m:Nat,p[m]?=Z z/\bs[m]?=Z ū)=b
   cases b with
   |true=>show Ld ⟨m,g,q⟩
   |false=>show KU λ⟨A,O,B⟩=>by cases N m A z _ _ g O q B
  have Vw:j<p.length:=by have:=B.1;omega
  refine Me OK ⟨_,ho,S⟩ PySem.F.entry_list_index (PySem.F.args_list_index_2 _ _)
   (PySem.SeqAt.list_indexAt a p.toArray n ũ #[] u e j (by simpa using Vw) () ?_ ?_) ⟨ho,λz hz=>?_,?_⟩
  ·simp only[MY];show J j _ ū (bA Vw) hj
  ·intro m g PV;simp only[KC]at g;simp only[MY];show J m _ Ŭ (bA g) (Qb m PV)
  ·have XE:z∈p:=by simpa using hz
   let⟨m,g⟩:=L9 XE;let⟨w,d,b,a_,T,U,q2,q3⟩:=at_ m z g;rw[J m z b g q2];show (pQ hK I (Same.refl H) 39 q3 T (hy.any C) X.A.in1 z u (by change X.A.units+1+39<â;omega) a_ ru).1
  ·show⟨.int j,H,I.tok _,⟨_,S⟩,k _ t H _ r (.refl C) (.int _)⟩
 |_=>show h.elim
noncomputable def qz(l tb:TD):TD:=λρ R=>l ρ λx=>(match x with|.lst _=>True|_=>False)/\tb ρ λy=>nT x y R
theorem AN(P:X.A.units+64<â)(N:PQ K X a l)(O:PD K X b tb)(G:Æ a "index" X.env (eval a X.env)=eval a X.env:=by rfl)(F:((backTo o (starEach [b] X.env)).all (λx=>!x.1)&&(backToKw o (keywordEach [] X.env)).all (λx=>x.1.isSome)&&decide (([b]:Y Ã).length+([]:Y Ñ).length+(if ([]:Y Ñ).isEmpty then 0 else 1)<30))=ū)
  (w:starEach [b] X.env=(Ŭ,eval b X.env)::starEach [] X.env) (I:(f.endLine==o.line)=ū:=by rfl):PD K X (.Call (.Attribute a "index" f) [b] [] o) (qz l tb):=
 ⟨λh=>(gY L7 OK PySem.F.type_list_index (yZ h P) (N.pe h) (dz (O.pe h) pa_nil w) G F I w ah).imp λσ H Q C=>by let⟨u,aA,ρ,R,E,t,k⟩:=C;show⟨u,aA,ρ,_,E,t,λJ m H1 x A c z=>by
  cases J with
  |lst ds=>
   let⟨a,vs,rfl,ap,q2⟩:=z.lst c.s;refine⟨.inl ⟨S,vs,SqL.of ap⟩,u,m,ρ,_,E.gr c,A.2,λM p H2 y a_ e U=>⟨p,.lst ds,M,R,y,e.s,S,z.gr e,.inl U,a_,λd j B v r g T=>k d j B v r ((c.trans e).trans g) T⟩⟩
  |_=>show A.1.elim⟩⟩
end
end L2
namespace L2
open PySem PySem.Spec PyProof.Rows
section
variable{K:Â}{X:Cx}
theorem BX(h:X.K=K):qY X (xl K):=h▸AS
end
section
variable{K:Â}{X:Cx}{l H:Hp}{a e:Ã}{m:TD}{C:Addr}{fl:Str}{j:Õ}
theorem uO{g:Str}{d:D}:∀{vs:Y (Str×V)}{fs:Y (Str×D)},vs.map (·.1)=fs.map (·.1)->(∀(i:Nat)(v:Str×V)(e:Str×D),vs[i]?=Z v->fs[i]?=Z e->Rp K l e.2 v.2)->fs.lookup g=Z d->∃v,vs.lookup g=Z v/\Rp K l d v
 | [],[],_,_,h=>by cases h
 | [],_::_,h,_,_=>by cases h
 |_::_,[],h,_,_=>by cases h
 |(x,v)::vs,(y,f)::fs,h,r,o=>by
  rw[K1,K1]at h;let⟨p,t⟩:=List.cons.inj h;have p:x=y:=p;subst p;rw[K4]at o ⊢
  cases c:g==x with
  |true=>
   rw[c]at o;cases o;show⟨v,S,r 0 _ _ S S⟩
  |false=>
   rw[c]at o;show uO t (λi u e z w=>r (i+1) u e z w) o
noncomputable def HD(nm:Str)(f:Str)(t:TD):TD:=λρ R=>t ρ λx=>match x with|.obj XF fs=>XF=nm/\∃d,fs.lookup f=Z d/\R d|_=>False
theorem qO{c:TE}(f:X.K=K)(h:PE X a c)(g:Æ a fl X.env (eval a X.env)=eval a X.env):PE X (.Attribute a fl j) (yt K c fl):=f▸Aj h g
theorem di{nm:Str}(c:Cls K C)(M:NoAttr K C fl)(B:Ú K Á nm=Z (Z (.ref C)))(F:PQ K X a m)(G:Æ a fl X.env (eval a X.env)=eval a X.env:=by rfl):PD K X (.Attribute a fl j) (HD nm fl m):=
 ⟨λp=>(qO p (F.pe p) G).imp λP H Q x=>by let⟨u,l,ρ,R,E,t,k⟩:=x;show⟨u,l,ρ,_,E,t,λd h w v r g f=>by
  cases d with
  |obj O fs=>
   let⟨rfl,d,I,r⟩:=r;rcases f with f|⟨_,_,_,e,_⟩
   ·cases f with
    |obj o y z A=>
     rw[B]at o;cases o;let⟨v,J,N⟩:=uO z A I;show⟨_,_,_,_,v,S,g.s _ _ y,c,M,J,k d h w v r g N⟩
   ·cases e
  |_=>show r.elim⟩⟩
end
section
variable{K:Â}{X:Cx}{a:Ã}{c p:Õ}
noncomputable def AY(t:TA):TE:=λf H Q=>t f H λvs e=>∃j:Int,vs=[.int j]/\∀r,e r=ũ->Q (.ref r) (aq e r (.rng 0 j))
theorem Hh{m:TA}(w:Gl X "range")(x:X.mg "range"=ũ)(v:PA X [a] m)(y:starEach [a] X.env=[(Ŭ,eval a X.env)]:=by rfl):PE X (.Call (.Name "range" p) [a] [] c) (AY m):=by
 intro f s C H R I h;refine Call_ (iF I w x boot_range (L5 (aE (v c f s C H _ I h) λus g u=>?_) y S));let⟨vs,E,l,A,z⟩:=u;let⟨j,e,q⟩:=z;subst e
 cases A with
 |cons r B=>
  cases B;let⟨t,rfl⟩:=r;refine call_range_1 ⟨.ref g.heap.objs.size,_,l.laid (a:=g.heap.objs.size) (o:=.rng 0 j) (t':=g.toks+1+1) (λb o e=>Ks _ e) (Kw _) ⟨_,_,_,KJ _ S⟩,S,q _ (l.hok.fresh (Kw _))⟩
noncomputable def gG(n:Nat):Y V:=(List.range n).map λi=>V.int (i:Nat)
theorem nc(n:Nat):(gG n).length=n:=by unfold gG;simp
theorem xv{e f:Type}{F:e->f->Prop}:∀{xs:Y e}{ys:Y f},xs.length=ys.length->(∀(i:Nat) x y,xs[i]?=Z x->ys[i]?=Z y->F x y)->Paired F xs ys
 | [],[],_,_=>.nil
 |x::xs,y::ys,g,h=>.cons (h 0 x y S S) (xv (by simpa using g) λi u v j l=>h (i+1) u v j l)
theorem yE{n i:Nat}{v:V}(h:(gG n)[i]?=Z v):v=.int (i:Nat):=by
 have e:i<n:=by have:=aZ h;rwa [nc]at this
 unfold gG at h;rw[Kv,Mn e]at h;cases h;rfl
theorem Bh{f:Hp}(n:Nat):RpL K f (gy 0 n) (gG n):=⟨by rw[nc,gA],λi v d e hd=>by
 rw[yE e,(iH hd).2,Int.zero_add]
 show .int _⟩
end
section
variable{P:Ä}{w:Å}{K:Â}{mg:Str->Ū Value}{base:Heap}
theorem Fun.okL{x qual:Str}{st:Ç}{f:Addr}{c:Ë}{N ps:Y Str}{k:Nat}{sp:Sp}(F:Fun K x qual st f c)(U:FnScope N ps (aF st))(len:∀vs H Q E,sp vs H Q E->vs.length=ps.length)
  (j:∀(a:Value)(A:É)(outer:Y é)(s:À)(H:Hp)(vs:Y V)(Q:VK)(E:XK),c.code=a->Room k (A.deeper (ê qual (aF st) s.heap.objs.size f a))->sp vs H Q E->
   ∃t,PSs (gM bh P w K mg base N qual (aF st) f a A outer s H E).nox (dR st) t/\t { nx:=λ_ e=>Q .non e,rt:=Q } (start N vs) H):FnOk P w K mg base bh (k+1) f c ps sp:=by
 let⟨u,v,kV,m,y,r,a,ct,p,rfl,lk,g⟩:=F.ex;refine qG lk g U len λA outer s H vs Q E o l=>?_;let⟨t,h,q⟩:=j a A outer s H vs Q E S o l;show⟨t,h.nox,q⟩
end
end L2
namespace L2
open PySem PySem.W PyProof.Rows
section
variable{a:Nat->Int}{N:Nat}
variable(c:∀i j,i<N->j<N->a i=a j->i=j)
include c
end
end L2
namespace L2
open PySem PySem.Spec PySem.W PyProof.Rows PySem.Calls
end L2
namespace L2
open PySem PySem.Spec PySem.W PyProof.Rows PySem.Calls
end L2
namespace L2
open PySem PySem.Spec PyProof.Rows
noncomputable def iq:aK->D
 |.inl i=>.int i
 |.inr s=>.str s
theorem rE{K:Â}{a:Hp}{k:aK}{v:V}(r:Rp K a (iq k) v):v=kV k:=by
 cases k with
 |inl i=>obtain rfl:=r.i;rfl
 |inr s=>obtain rfl:=r.s;rfl
theorem uj{K:Â}{a H:Hp}{k:aK}{v:V}(r:RpQ K a H (iq k) v):v=kV k:=by
 cases k with
 |inl i=>show RpQ.int r
 |inr s=>show RpQ.str r
theorem yP{K:Â}{g:Hp}{a:Y aK}{vs:Y V}(r:RpL K g (a.map iq) vs):vs=a.map kV:=by
 refine LA λi=>?_;rw[Kv]
 cases h:a[i]? with
 |none=>
  have c:=L3.mp h;show Lc (by rw[r.1,wy];show c)
 |some k=>
  let⟨v,e,f⟩:=r.at (i:=i) (d:=iq k) (by rw[Kv,h];rfl);rw[e,rE f];rfl
noncomputable def fK(k:aK)(a:Y aK):Bool:=a.any λj=>decide (j=k)
theorem tD(k:aK)(a:Y aK):fK k a=ū↔k∈a:=by unfold fK;rw[Nx];show⟨λ⟨j,c,e⟩=>KL e▸c,λh=>⟨k,h,Ld S⟩⟩
theorem mM(k:aK):hV (kV k)=ū:=by cases k<;>rfl
theorem Cm(j k:aK):gZ (kV j) (kV k)=decide (j=k):=by
 cases j with
 |inl a=>
  cases k with
  |inl b=>change (a==b)=_;by_cases h:a=b<;>simp[h]
  |inr b=>change Ŭ=_;simp
 |inr a=>
  cases k with
  |inl b=>change Ŭ=_;simp
  |inr b=>change (a==b)=_;by_cases h:a=b<;>simp[h]
theorem uV(k:aK)(a:Y aK):fS (kV k) (a.map kV)=fK k a:=by unfold fS fK;rw[OB];show List.any_congr S λj=>Cm j k
noncomputable def yo(a:Bool):cH:=λe f R=>∃(k:aK)(c:Y aK),e=iq k/\gw f=Z (c.map iq)/\R (.bl (a != fK k c))
section
variable{K:Â}{X:Cx}
theorem kB:OpD K X (Ê .In) (yo Ŭ):=⟨λo c s E H x y u v Q I A B l=>by
 let⟨C,F,G,R,g,p,r,⟨k,f,rfl,e,h⟩,w⟩:=l;cases uj p;let⟨a,vs,rfl,q,rl⟩:=r.seq g e;cases yP rl;refine um c s E H _ _ u v Q I A B ⟨a,_,S,by rw[o];show q,mM k,?_,?_⟩
 ·rw[KZ];intro z t;let⟨j,_,rfl⟩:=KP.mp t;show mM j
 ·have m:(if Ŭ=ū then !fS (kV k) (f.map kV) else fS (kV k) (f.map kV))=(Ŭ != fK k f):=by rw[uV];simp
  rw[m]
  show w _ C H _ h (.refl g) (.bl _)⟩
theorem pW:OpD K X (Ê .NotIn) (yo ū):=⟨λo c s E H x y u v Q I A B l=>by
 let⟨C,F,G,R,g,p,r,⟨k,f,rfl,e,h⟩,w⟩:=l;cases uj p;let⟨a,vs,rfl,q,rl⟩:=r.seq g e;cases yP rl;refine EZ c s E H _ _ u v Q I A B ⟨a,_,S,by rw[o];show q,mM k,?_,?_⟩
 ·rw[KZ];intro z t;let⟨j,_,rfl⟩:=KP.mp t;show mM j
 ·have m:(if ū=ū then !fS (kV k) (f.map kV) else fS (kV k) (f.map kV))=(ū != fK k f):=by rw[uV];simp
  rw[m]
  show w _ C H _ h (.refl g) (.bl _)⟩
end
theorem yG:∀{a:Y Str}{us:Y Value},Vals (a.map V.str) us->∃l:Y (Str×ú),us=Ĝ l/\l.map (·.1)=a
 | [],_,h=>by rw[Oz]at h;cases h;show⟨[],S,S⟩
 |z::a,_,h=>by
  rw[K1]at h
  cases h with
  |cons r t=>
   let⟨c,rfl⟩:=r;let⟨l,rfl,e⟩:=yG t;show⟨(z,c)::l,S,by rw[K1,e]⟩
section
variable{K:Â}{X:Cx}
theorem DO{g:Hp}{a:Y Str}{vs:Y V}(r:RpL K g (a.map D.str) vs):vs=a.map V.str:=by
 refine LA λi=>?_;rw[Kv]
 cases h:a[i]? with
 |none=>
  have c:=L3.mp h;show Lc (by rw[r.1,wy];show c)
 |some z=>
  let⟨v,e,f⟩:=r.at (i:=i) (d:=.str z) (by rw[Kv,h];rfl);rw[e];obtain rfl:=f.s;rfl
noncomputable def uD(d:D):TD:=λ_ R=>R d
theorem jS{x:Str}{i:Int}{c:ú}{a:Õ}(f:Gl X x)(g:X.mg x=Z (.int i c))(hd:ad x:=by decide):PD K X (.Name x a) (uD (.int i)):=
 ⟨λl=>(vw (v:=.int i) f g ⟨c,S⟩ hd).imp λm H Q e=>by
  let⟨j,h,ρ,R,E,t,k⟩:=e
  show k _ h H _ t (.refl E.fz) (.int i)⟩
end
end L2
namespace L2
open PySem PySem.Spec PySem.W PyProof.Rows PySem.Calls
end L2
namespace L2
open PySem PySem.Spec PyProof.Rows
section
variable{K:Â}{X:Cx}{a:Ã}{f p w z:Õ}{m:bg}
theorem J2(F:X.calm=ū):fM X (.type "list") (λxs H Q=>∃p j,xs=[.ref p]/\H p=Z (.rng 0 j)/\-(2^62)<=j/\j<=1000/\∀l,H l=ũ->Q (.ref l) (aq H l (.lst (gG j.toNat)))):=by
 intro A s U H xs us Q I r h;let⟨p,j,rfl,N,ap,aA,q⟩:=h;let⟨u,rfl,T⟩:=g6 r;cases T;let⟨t,u,v,M⟩:=(show ObjOk X.prog X.w H s.heap p (.rng 0 j)from I.hok p _ N)
 have J:Builtin.Range.rangeSize 0 j 1=(j.toNat:Int):=by rw[rangeSize_one];split<;>omega
 refine call_list_range (I.ok.hd F) M (small_one 'b' 'b' ap ()) J () λh' C g c kp G B=>?_
 have O:Vals (gG j.toNat) g.toList:=xv (by rw[nc,Ly,B.1]) λi x y P R=>by rw[yE P];let⟨t,rfl⟩:=B.2 i y (by simpa using R);show⟨t,by simp⟩
 have E:Inv X A U (aq H s.heap.objs.size (.lst (gG j.toNat))) { s with heap:=h',toks:=C }:=
  I.laid (t':=C) (λb o e=>kp b o e) (Kw _) (show ObjOk X.prog X.w _ _ _ (.lst (gG j.toNat))from ⟨by rw[nc,LD];omega,g.toList,c,O,by simpa using G⟩)
 show⟨.ref s.heap.objs.size,_,E,S,q _ (I.hok.fresh (Kw _))⟩
noncomputable def Av(t:bg):bg:=λρ R=>t ρ λds=>match ds with| [.int j]=>(-(2^62)<=j/\j<=1000)/\R (gy 0 j.toNat)|_=>False
theorem C3(A:X.calm=ū)(e:Gl X "list")(F:X.mg "list"=ũ)(C:Gl X "range")(G:X.mg "range"=ũ)(M:PAD K X [a] m)(N:starEach [a] X.env=[(Ŭ,eval a X.env)]:=by rfl) :
  PF K X (.Call (.Name "list" p) [.Call (.Name "range" w) [a] [] z] [] f) (Av m):=
 ⟨λJ=>(tq (J2 A) e F boot_list (dz (Hh C G (M.pa J) N) pa_nil bX) 'b' 'b' bX ah).imp λU H Q y=>by
  let⟨u,ap,ρ,R,E,t,k⟩:=y
  show⟨u,ap,ρ,_,E,t,λds T x vs r g rl _=>by
   match ds,r with
   | [.int j],r=>
    let⟨v,rfl,P⟩:=rl.one_inv;obtain rfl:=P.i;refine⟨j,S,λO o=>⟨O,j,S,bu,r.1.1,r.1.2,λl h=>?_⟩⟩;have c:=Gr.fresh g.s o (.rng 0 j);have I:=Gr.fresh c.s h (.lst (gG j.toNat));have B:x l=ũ:=c.h.free h
    show k _ _ _ l _ r.2 ((g.trans c).trans I) (g.h.free B) (c.s.free h) bu (Bh _)⟩⟩
end
structure Cl(P:Ä)(w:Å)(K:Â)(mg:Str->Option Value)(base:Heap)(n:Nat)(x:Str)(ps:List Str)(z:cD):Prop where
 ex:∃(f:Addr)(fd:Ë),FnOk P w K mg base bh n f fd ps (lSp K z)/\Binds K fd ps []/\Û K (.ref f)=ū/\mg x=Z (.ref f)
section
variable{P:Ä}{w:Å}{K:Â}{mg:Str->Ū Value}{base:Heap}{n m:Nat}{x:Str}{ps:Y Str}{z:cD}{X:Cx}{e:Ã}{es:Y Ã}{o p:Õ}{u:bg}{st:Ç}{f:Addr}{j:Ë}{h:Heap}
theorem Cl.mono(C:Cl P w K mg base n x ps z)(k:n<=m:=by decide):Cl P w K mg base m x ps z:=by let⟨f,j,F,r⟩:=C.ex;show⟨f,j,F.mono k,r⟩
theorem Cl.of(F:Fun K x x st f j)(b:Binds K j ps [])(m:mg x=Z (.ref f))(H:FnOk P w K mg base bh n f j ps (lSp K z)):Cl P w K mg base n x ps z:=⟨f,j,H,b,F.kp,m⟩
theorem bP(C:Cl X.prog X.w K X.mg X.base n x ps z)(v:Room n X.A)(t:Gl X x)
  (l:PAD K X (e::es) u) (r:starEach (e::es) X.env=(Ŭ,eval e X.env)::starEach es X.env) (c:(backTo o (starEach es X.env)).any (·.1)=Ŭ) (a:ad x:=by decide) :
  PD K X (.Call (.Name x p) (e::es) [] o) (oO z u):=⟨λg=>by
 subst g;let⟨f,j,F,b,k,m⟩:=C.ex
 show (EA F v t m k b nP l r c a).pe S⟩
noncomputable def dE(P:Į)(x:Str)(n:Nat)(v:Value):DictEntry:=⟨PyData.keyHash P x,.str x n,v⟩
noncomputable def cO(n:Str)(a:Nat)(q:Str)(b c:Nat)(l m:Int)(k:Int)(r:Nat)(g:Int)(t:Nat)(x y:Value)(z:Nat)(i:Int)(d:Nat):Ï:=⟨.type "code",ũ,.fields #[.str n a,.str q b,.str "/claim/cut.py" c,.int l 0,.int m 0,.int 0 0,.int 0 0,.int k 0,.ref r,.bool ū,.int g 0,.ref t,.none,x,y,.ref z,.int i 0,.int l 0,.str "/claim/cut.py" d],#[]⟩
noncomputable def fO(s:Ç)(n q m:Str)(i c:Nat):Ï:=⟨.type "function",ũ,.func (ą n q (fu s) (dR s) (aF s) .none .none .none (.str m i) ũ (.ref c) .none),#[]⟩
noncomputable def Has(K:Â)(s:Ç)(x:Str):Prop:=∃f m i c,Ú K Á x=Z (Z (.ref f))/\K.lookup f=Z (fO s x x m i c)/\ù K (.ref c) x=ū
theorem Has.of{s:Ç}{m:Str}{i c:Nat}(a:Ú K Á x=Z (Z (.ref f)))(l:K.lookup f=Z (fO s x x m i c))(k:ù K (.ref c) x=ū):Has K s x:=⟨f,m,i,c,a,l,k⟩
theorem Has.fn(a:Has K st x)(X:K.In h)(G:h.Ns Á mg):∃f j,Fun K x x st f j/\mg x=Z (.ref f)/\∃m i c,j=ą x x (fu st) (dR st) (aF st) .none .none .none (.str m i) ũ (.ref c) .none:=by let⟨f,m,i,c,a,l,k⟩:=a;show⟨f,_,vJ l k (by unfold Û;simp only[l];rfl),Ni X G a,m,i,c,S⟩
theorem nG{A:Type}{p:Y A->Prop}(h:∀a0,p [a0]):∀us:Y A,us.length=1->p us
 | [a0],_=>h a0
theorem jy{A:Type}{p:Y A->Prop}(h:∀a0 a1,p [a0,a1]):∀us:Y A,us.length=2->p us
 | [a0,a1],_=>h a0 a1
theorem nC{A:Type}{p:Y A->Prop}(h:∀a0 a1 a2,p [a0,a1,a2]):∀us:Y A,us.length=3->p us
 | [a0,a1,a2],_=>h a0 a1 a2
theorem pH{A:Type}{p:Y A->Prop}(h:∀a0 a1 a2 a3,p [a0,a1,a2,a3]):∀us:Y A,us.length=4->p us
 | [a0,a1,a2,a3],_=>h a0 a1 a2 a3
theorem nM{A:Type}{p:Y A->Prop}(h:∀a0 a1 a2 a3 a4 a5,p [a0,a1,a2,a3,a4,a5]):∀us:Y A,us.length=6->p us
 | [a0,a1,a2,a3,a4,a5],_=>h a0 a1 a2 a3 a4 a5
inductive HasM(K:Â)(st:Ç)(C:Addr)(m q:Str):Prop|mk (f:Addr) (j:Ë) (_:è K (.ref C) m=Z (Z (.ref f))) (_:isFn K (.ref f)=ū) (_:Û K (.ref f)=ū) (_:Fun K m q st f j)
theorem HasM.of{C:Addr}{m q:Str}{y:Value}{A v:Ū Addr}{t:Array (Ū Value)}{kV g B r ct:Value}(a:è K (.ref C) m=Z (Z (.ref f)))(i:isFn K (.ref f)=ū)(l:K.lookup f=Z ⟨y,A,.func (ą m q (fu st) (dR st) (aF st) .none kV g B v r ct),t⟩)(c:ù K r q=ū)(k:Û K (.ref f)=ū):HasM K st C m q:=⟨f,_,a,i,k,vJ l c k⟩
noncomputable abbrev oS(st:Ç)(x q:Str)(ps:Y Str):Prop:=∀(kV a l:Value)(g:Ū Addr)(c ct:Value)(us:Y Value),us.length=ps.length->ļ (ą x q (fu st) (dR st) (aF st) .none kV a l g c ct) ⟨us,[]⟩=pure (ps.zip us)
theorem Fun.bd{q:Str}(F:Fun K x q st f j)(b:oS st x q ps:=by intro _ _ _ _ _ _;first|show nG λ_=>rfl|show jy λ_ _=>rfl|show nC λ_ _ _=>rfl|show pH λ_ _ _ _=>rfl|show us_0 S|show us_5 λ_ _ _ _ _=>rfl|show nM λ_ _ _ _ _ _=>rfl|show us_7 λ_ _ _ _ _ _ _=>rfl|show us_8 λ_ _ _ _ _ _ _ _=>rfl):Binds K j ps []:=F.binds b
theorem Fun.cl(F:Fun K x x st f j)(m:mg x=Z (.ref f))(H:FnOk P w K mg base bh n f j ps (lSp K z))
  (b:oS st x x ps:=by intro _ _ _ _ _ _;first|show nG λ_=>rfl|show jy λ_ _=>rfl|show nC λ_ _ _=>rfl|show pH λ_ _ _ _=>rfl|show us_0 S|show us_5 λ_ _ _ _ _=>rfl|show nM λ_ _ _ _ _ _=>rfl|show us_7 λ_ _ _ _ _ _ _=>rfl|show us_8 λ_ _ _ _ _ _ _ _=>rfl):Cl P w K mg base n x ps z:=.of F (F.binds b) m H
end
section
variable{P:Ä}{w:Å}{H:Hp}{h:Heap}{a:Addr}{o:HO}
theorem HOk.know(x:HOk P w H h)(f:H a=ũ)(new:ObjOk P w (aq H a o) h a o):HOk P w (aq H a o) h:=λb u e=>by
 by_cases g:b=a
 ·subst g;rw[bu]at e;cases e;show new
 ·rw[aJ g]at e
  show (x b u e).stay (λc v _ q=>q) (λc q=>by rw[aJ (cV q f)];show q) (λc xs q=>by rw[aJ (cV q f)];show q) λc j l q=>by rw[aJ (cV q f)];show q
end
end L2
namespace L2
open PySem PySem.Spec PySem.W PyProof.Rows PySem.Calls
end L2
namespace L2
open PySem PySem.Spec PyProof.Rows
inductive Fl where|v (d:D)|l (xs:List D)|al (p:Addr)
inductive Om where|lst (xs:List D)|map (Pb:List (aK×D))|mpT (Pb:List (List aK×D))|obj (nm:Str) (fs:List (Str×Fl))|ptr|tl (ps:List (Addr×Option (List D)))|pr (xs:List D) (d:D)
noncomputable def Om.solid:Om->Bool
 |.ptr=>Ŭ
 |.tl _=>Ŭ
 |.pr _ _=>Ŭ
 |_=>ū
inductive Sm where|v (d:D)|ob (a:Option Addr) (o:Om)
noncomputable abbrev Sm.own(xs:Y D):Sm:=.ob ũ (.lst xs)
noncomputable abbrev aj:=Y (Ū Sm)
noncomputable def fX{c:Type}(K:Â)(e:Hp)(a:c×D)(b:c×V):Prop:=a.1=b.1/\Rp K e a.2 b.2
inductive FlsR(K:Â)(Φ H:Hp):List (Str×Fl)->List (Str×V)->List Addr->Prop where
 |nil:FlsR K Φ H [] [] []
 |v {f:Str} {d:D} {v:V} {fs:List (Str×Fl)} {vs:List (Str×V)} {qs:List Addr}:Rp K Φ d v->FlsR K Φ H fs vs qs->FlsR K Φ H ((f,.v d)::fs) ((f,v)::vs) qs
 |l {f:Str} {ds:List D} {ws:List V} {q:Addr} {fs:List (Str×Fl)} {vs:List (Str×V)} {qs:List Addr}:H q=Z (.lst ws)->RpL K Φ ds ws->FlsR K Φ H fs vs qs->FlsR K Φ H ((f,.l ds)::fs) ((f,.ref q)::vs) (q::qs)
 |al {f:Str} {p:Addr} {fs:List (Str×Fl)} {vs:List (Str×V)} {qs:List Addr}:FlsR K Φ H fs vs qs->FlsR K Φ H ((f,.al p)::fs) ((f,.ref p)::vs) qs
inductive TlS(K:Â)(Φ H:Hp):List (Addr×Option (List D))->List Addr->Prop where
 |nil:TlS K Φ H [] []
 |ptr {q:Addr} {ps:List (Addr×Option (List D))} {F:List Addr}:TlS K Φ H ps F->TlS K Φ H ((q,ũ)::ps) F
 |own {q:Addr} {ds:List D} {ws:List V} {ps:List (Addr×Option (List D))} {F:List Addr}:H q=Z (.lst ws)->RpL K Φ ds ws->TlS K Φ H ps F->TlS K Φ H ((q,Z ds)::ps) (q::F)
inductive OmS(K:Â)(Φ H:Hp):Om->Addr->List Addr->Prop where
 |lst {ds:List D} {vs:List V} {p:Addr}:H p=Z (.lst vs)->RpL K Φ ds vs->OmS K Φ H (.lst ds) p [p]
 |map {Pb:List (aK×D)} {ws:List (aK×V)} {p:Addr}:H p=Z (.dK ws)->Paired (fX K Φ) Pb ws->OmS K Φ H (.map Pb) p [p]
 |mpT {Pb:List (List aK×D)} {ws:List (List aK×V)} {p:Addr}:H p=Z (.dT ws)->Paired (fX K Φ) Pb ws->OmS K Φ H (.mpT Pb) p [p]
 |obj {nm:Str} {fs:List (Str×Fl)} {C dx:Addr} {vs:List (Str×V)} {p:Addr} {qs:List Addr}:Ú K Á nm=Z (Z (.ref C))->H p=Z (.ins C dx vs)->FlsR K Φ H fs vs qs->(p::qs).Nodup->OmS K Φ H (.obj nm fs) p (p::qs)
 |ptr {p:Addr}:OmS K Φ H .ptr p []
 |tl {ps:List (Addr×Option (List D))} {p:Addr} {F:List Addr}:Φ p=Z (.tup (ps.map λq=>V.ref q.1))->TlS K Φ H ps F->F.Nodup->OmS K Φ H (.tl ps) p F
 |pr {ds:List D} {d:D} {p q:Addr} {v:V} {ws:List V}:Φ p=Z (.tup [.ref q,v])->H q=Z (.lst ws)->RpL K Φ ds ws->Rp K Φ d v->OmS K Φ H (.pr ds d) p [q]
section
variable{K:Â}{H j a c:Hp}{fs:Y (Str×Fl)}{vs:Y (Str×V)}{f F:Y Addr}{o:Om}{p:Addr}
theorem pJ{e g:Type}{F G:e->g->Prop}(h:∀x y,F x y->G x y):∀{l:Y e}{m:Y g},Paired F l m->Paired G l m
 |_,_,.nil=>.nil
 |_,_,.cons r t=>.cons (h _ _ r) (pJ h t)
theorem FlsR.keep(s:Same a c)(h:FlsR K a H fs vs f)(k:∀b∈f,∀u,H b=Z u->j b=Z u):FlsR K c j fs vs f:=by
 induction h with
 |nil=>show .nil
 |v r _ e=>show .v (r.same s) (e k)
 |l g m _ e=>show .l (k _ Ku _ g) (m.same s) (e λb t=>k b (Kt _ t))
 |al _ e=>show .al (e k)
theorem FlsR.at(h:FlsR K a H fs vs f):∀b∈f,∃ws,H b=Z (.lst ws):=by
 induction h with
 |nil=>intro b e;cases e
 |v r _ g=>show g
 |l m t _ g=>
  intro b e;rcases Kz.mp e with rfl|e
  ·show⟨_,m⟩
  ·show g b e
 |al _ g=>show g
theorem FlsR.names(h:FlsR K a H fs vs f):vs.map (·.1)=fs.map (·.1):=by
 induction h with
 |nil=>rfl
 |v r _ e=>rw[K1,K1,e]
 |l g m _ e=>rw[K1,K1,e]
 |al _ e=>rw[K1,K1,e]
theorem TlS.keep{ps:Y (Addr×Ū (Y D))}(s:Same a c)(h:TlS K a H ps F)(k:∀b∈F,∀u,H b=Z u->j b=Z u):TlS K c j ps F:=by
 induction h with
 |nil=>show .nil
 |ptr _ e=>show .ptr (e k)
 |own g l _ e=>show .own (k _ Ku _ g) (l.same s) (e λb m=>k b (Kt _ m))
theorem TlS.at{ps:Y (Addr×Ū (Y D))}(h:TlS K a H ps F):∀b∈F,∃ws,H b=Z (.lst ws):=by
 induction h with
 |nil=>intro b e;cases e
 |ptr _ g=>show g
 |own l m _ g=>
  intro b e;rcases Kz.mp e with rfl|e
  ·show⟨_,l⟩
  ·show g b e
theorem OmS.keep(s:Same a c)(h:OmS K a H o p F)(k:∀b∈F,∀u,H b=Z u->j b=Z u):OmS K c j o p F:=by
 cases h with
 |lst e g=>show .lst (k _ Ku _ e) (g.same s)
 |map e g=>show .map (k _ Ku _ e) (pJ (λ_ _ r=>⟨r.1,r.2.same s⟩) g)
 |mpT e g=>show .mpT (k _ Ku _ e) (pJ (λ_ _ r=>⟨r.1,r.2.same s⟩) g)
 |obj m e g l=>show .obj m (k _ Ku _ e) (g.keep s λb v=>k b (Kt _ v)) l
 |ptr=>show .ptr
 |tl e g l=>show .tl (s _ _ e) (g.keep s k) l
 |pr e g l t=>show .pr (s _ _ e) (k _ Ku _ g) (l.same s) (t.same s)
theorem OmS.mem(h:OmS K a H o p F)(e:o.solid=ū:=by rfl):p∈F:=by cases h<;>first|show Ku|cases e
theorem OmS.at(h:OmS K a H o p F):∀b∈F,∃u,H b=Z u/\oJ u:=by
 intro b g
 cases h with
 |lst e l=>rw[KH.mp g];show⟨_,e,trivial⟩
 |map e l=>rw[KH.mp g];show⟨_,e,trivial⟩
 |mpT e l=>rw[KH.mp g];show⟨_,e,trivial⟩
 |obj t e l r=>
  rcases Kz.mp g with rfl|g
  ·show⟨_,e,trivial⟩
  ·let⟨ws,m⟩:=l.at b g;show⟨_,m,trivial⟩
 |ptr=>cases g
 |tl e l r=>
  let⟨ws,m⟩:=l.at b g;show⟨_,m,trivial⟩
 |pr e l r v=>rw[KH.mp g];show⟨_,l,trivial⟩
theorem OmS.lst_inv{ds:Y D}(h:OmS K a H (.lst ds) p F):F=[p]/\∃vs,H p=Z (.lst vs)/\RpL K a ds vs:=by
 cases h with
 |lst e g=>show⟨S,_,e,g⟩
theorem OmS.map_inv{e:Y (aK×D)}(h:OmS K a H (.map e) p F):F=[p]/\∃ws,H p=Z (.dK ws)/\Paired (fX K a) e ws:=by
 cases h with
 |map g l=>show⟨S,_,g,l⟩
theorem OmS.mpT_inv{e:Y (Y aK×D)}(h:OmS K a H (.mpT e) p F):F=[p]/\∃ws,H p=Z (.dT ws)/\Paired (fX K a) e ws:=by
 cases h with
 |mpT g l=>show⟨S,_,g,l⟩
theorem OmS.obj_inv{nm:Str}(h:OmS K a H (.obj nm fs) p F):∃C e vs f,F=p::f/\Ú K Á nm=Z (Z (.ref C))/\H p=Z (.ins C e vs)/\FlsR K a H fs vs f/\(p::f).Nodup:=by
 cases h with
 |obj g l m r=>show⟨_,_,_,_,S,g,l,m,r⟩
theorem OmS.gr(g:Gr a H c j)(h:OmS K a H o p F):OmS K c j o p F:=h.keep g.f λb _ u e=>g.h b u e
end
structure EnvM'(K:Â)(H0 Φ H:Hp)(σ:St)(ρ:aj)(fp:Nat->List Addr):Prop where
 fz:Same Φ H
 len:σ.length=ρ.length
 sl:∀(i:Nat)(d:D),ρ[i]?=Z (Z (.v d))->∃v,σ[i]?=Z (Z v)/\Rp K Φ d v
 ow:∀(i:Nat)(a:Option Addr)(o:Om),ρ[i]?=Z (Z (.ob a o))->∃p,σ[i]?=Z (Z (.ref p))/\(∀q,a=Z q->q=p)/\OmS K Φ H o p (fp i)
 no:∀(i:Nat)(a:Option Addr)(o:Om),ρ[i]?=Z (Z (.ob a o))->∀b∈fp i,H0 b=ũ/\Φ b=ũ
 dj:∀(i j:Nat)(a a':Option Addr)(o o':Om),ρ[i]?=Z (Z (.ob a o))->ρ[j]?=Z (Z (.ob a' o'))->i≠j->∀b∈fp i,b∉fp j
 tb:TabF K Φ
noncomputable def EnvM(K:Â)(a e H:Hp)(f:St)(ρ:aj):Prop:=∃c,EnvM' K a e H f ρ c
section
variable{K:Â}{t H C f B I:Hp}{l J:St}{ρ G:aj}{w:Nat->Y Addr}{F F':Y Addr}{o A:Om}{p:Addr}{d:D}{v:V}{i:Nat}{a:Ū Addr}
theorem EnvM.fz(E:EnvM K t f H l ρ):Same f H:=let ⟨_,E⟩:=E;E.fz
theorem EnvM.tb(E:EnvM K t f H l ρ):TabF K f:=let ⟨_,E⟩:=E;E.tb
theorem EnvM.len(E:EnvM K t f H l ρ):l.length=ρ.length:=let ⟨_,E⟩:=E;E.len
theorem EnvM.sl(E:EnvM K t f H l ρ)(h:ρ[i]?=Z (Z (.v d))):∃v,l[i]?=Z (Z v)/\Rp K f d v:=let ⟨_,E⟩:=E;E.sl i d h
theorem EnvM'.gr(E:EnvM' K t f H l ρ w)(g:Gr f H B C):EnvM' K t B C l ρ w:=
 ⟨g.s,E.len,λi d h=>let ⟨v,e,r⟩:=E.sl i d h;⟨v,e,r.same g.f⟩,λi a o h=>let ⟨p,e,ha,r⟩:=E.ow i a o h;⟨p,e,ha,r.gr g⟩,
  λi a o h b c=>by
   let⟨p,_,_,r⟩:=E.ow i a o h;let⟨u,j,k⟩:=r.at b c
   show⟨(E.no i a o h b c).1,g.o b u j (E.no i a o h b c).2 k⟩,E.dj,E.tb.same g.f⟩
theorem EnvM.gr(E:EnvM K t f H l ρ)(g:Gr f H B C):EnvM K t B C l ρ:=let ⟨w,E⟩:=E;⟨w,E.gr g⟩
theorem EnvM.re(m:Nat->Nat)(E:EnvM K t f H l ρ)(M:J.length=G.length)(h:∀(i:Nat)(x:Sm),G[i]?=Z (Z x)->ρ[m i]?=Z (Z x)/\J[i]?=l[m i]?)
  (inj:∀(i j:Nat)(a g:Ū Addr)(o A:Om),G[i]?=Z (Z (.ob a o))->G[j]?=Z (Z (.ob g A))->m i=m j->i=j):EnvM K t f H J G:=by
 let⟨w,E⟩:=E;refine⟨λi=>w (m i),E.fz,M,λi d hd=>?_,λi a o u=>?_,λi a o u=>E.no _ a o (h i _ u).1,λi j a g o A y z c=>E.dj _ _ a g o A (h i _ y).1 (h j _ z).1 λe=>c (inj i j a g o A y z e),E.tb⟩
 ·let⟨v,e,r⟩:=E.sl _ d (h i _ hd).1;show⟨v,by rw[(h i _ hd).2];show e,r⟩
 ·let⟨p,e,r⟩:=E.ow _ a o (h i _ u).1;show⟨p,by rw[(h i _ u).2];show e,r⟩
theorem EnvM.take{r:St}{m:aj}(E:EnvM K t f H (l++r) (ρ++m))(h:ρ.length=l.length):EnvM K t f H l ρ:=
 E.re id h.symm (λi x c=>by
  have g:=aZ c
  show⟨by rw[id,Kn g];show c,by rw[id,Kn ()]⟩) λi j _ _ _ _ _ _ e=>e
theorem EnvM'.take{z:St}{u:aj}(E:EnvM' K t f H (l++z) (ρ++u) w)(m:ρ.length=l.length):EnvM' K t f H l ρ w:=by
 have c:∀{i:Nat}{x:Sm},ρ[i]?=Z (Z x)->(ρ++u)[i]?=Z (Z x):=λh=>by rw[Kn (aZ h)];show h
 have g:∀{i:Nat}{x:Sm}{y:Ū V},ρ[i]?=Z (Z x)->(l++z)[i]?=Z y->l[i]?=Z y:=λh e=>by rwa [Kn (by rw[←m];show aZ h)]at e
 show⟨E.fz,m.symm,λi d h=>let ⟨v,e,r⟩:=E.sl i d (c h);⟨v,g h e,r⟩,λi a o h=>let ⟨p,e,r⟩:=E.ow i a o (c h);⟨p,g h e,r⟩,λi a o h=>E.no i a o (c h),λi j a M o A N O=>E.dj i j a M o A (c N) (c O),E.tb⟩
theorem EnvM.store{v:V}{x:Sm}(E:EnvM K t f H (l++[Z v]) (ρ++[Z x]))(i:Nat):EnvM K t f H (l.set i (Z v)) (ρ.set i (Z x)):=by
 have m:l.length=ρ.length:=by have:=E.len;simpa using this
 refine E.re (λj=>if j=i then ρ.length else j) (by rw[K0,K0,m]) (λj y g=>?_) λj k a M o A g r e=>?_
 ·by_cases c:j=i
  ·subst c
   have h:j<ρ.length:=by have:=aZ g;rwa [K0]at this
   rw[Ls h]at g;cases g;rw[Kq S,Ls (),Km (Kw _),Km (),Lw,m,Lw];show⟨S,S⟩
  ·rw[Lk (Lv c)]at g;have h:=aZ g;rw[Kr c,Lk (Lv c),Kn h,Kn ()];show⟨g,S⟩
 ·have z:j<ρ.length:=by have:=aZ g;rwa [K0]at this
  have u:k<ρ.length:=by have:=aZ r;rwa [K0]at this
  have e:(if j=i then ρ.length else j)=(if k=i then ρ.length else k):=e;split at e<;>split at e<;>omega
theorem EnvM.snocV(E:EnvM K t f H l ρ)(r:Rp K f d v):EnvM K t f H (l++[Z v]) (ρ++[Z (.v d)]):=by
 let⟨w,E⟩:=E
 have old:∀{i:Nat}{a:Ū Addr}{o:Om},(ρ++[Z (Sm.v d)])[i]?=Z (Z (.ob a o))->ρ[i]?=Z (Z (.ob a o)):=λ{i a o} h=>by
  rcases K7 i ρ.length with c|c
  ·rwa [Kn c]at h
  ·rw[Km c]at h
   cases e:i-ρ.length with
   |zero=>rw[e]at h;cases h
   |succ n=>rw[e]at h;cases h
 refine⟨w,E.fz,by rw[Kp,Kp,E.len];rfl,λi d' h=>?_,λi a o h=>?_,λi a o h=>E.no i a o (old h),λi j a m o A g x=>E.dj i j a m o A (old g) (old x),E.tb⟩
 ·rcases K7 i ρ.length with c|c
  ·rw[Kn c]at h;let⟨u,e,r⟩:=E.sl i d' h;show⟨u,by rw[Kn (by rw[E.len];show c)];show e,r⟩
  ·rw[Km c]at h
   cases e:i-ρ.length with
   |zero=>
    rw[e]at h;cases h;show⟨v,by rw[Km (by rw[E.len];show c),E.len,e];rfl,r⟩
   |succ n=>rw[e]at h;cases h
 ·let⟨p,e,r⟩:=E.ow i a o (old h);have g:=aZ (old h);show⟨p,by rw[Kn (by rw[E.len];show g)];show e,r⟩
theorem EnvM.snocO(E:EnvM K t f H l ρ)(s0:Same t H)(g:Gr f H B C)(aA:OmS K B C o p F)(R:∀b∈F,H b=ũ/\B b=ũ):EnvM K t B C (l++[Z (.ref p)]) (ρ++[Z (.ob ũ o)]):=by
 let⟨w,E⟩:=E
 have old:∀b∈F,∀(i:Nat)(a:Ū Addr)(o:Om),ρ[i]?=Z (Z (.ob a o))->b∉w i:=λb m i a o h z=>by let⟨q,_,_,r⟩:=E.ow i a o h;let⟨u,U,_⟩:=r.at b z;rw[(R b m).1]at U;cases U
 have O:=E.gr g
 have N:∀{i:Nat}{x:Sm},(ρ++[Z (Sm.ob ũ o)])[i]?=Z (Z x)->(i<ρ.length/\ρ[i]?=Z (Z x))\/(i=ρ.length/\x=.ob ũ o):=λ{i x} h=>by
  rcases K7 i ρ.length with c|c
  ·rw[Kn c]at h;show .inl ⟨c,h⟩
  ·rw[Km c]at h
   cases e:i-ρ.length with
   |zero=>rw[e]at h;cases h;show .inr ⟨(),S⟩
   |succ n=>rw[e]at h;cases h
 refine⟨λi=>if i=ρ.length then F else w i,O.fz,by rw[Kp,Kp,E.len];rfl,λi d h=>?_,λi a A h=>?_,λi a A h b m=>?_,λi j a ap X a_ P y c b m M=>?_,O.tb⟩
 ·rcases N h with⟨c,h⟩|⟨_,h⟩
  ·let⟨v,e,r⟩:=O.sl i d h;show⟨v,by rw[Kn (by rw[E.len];show c)];show e,r⟩
  ·cases h
 ·rcases N h with⟨c,h⟩|⟨c,h⟩
  ·let⟨q,e,r⟩:=O.ow i a A h;show⟨q,by rw[Kn (by rw[E.len];show c)];show e,by rw[Kr ()];show r⟩
  ·cases h;subst c;refine⟨p,by rw[Km (by rw[E.len];show Kw _),E.len,Lw];rfl,(λq e=>by cases e),by rw[Kq S];show aA⟩
 ·rcases N h with⟨c,h⟩|⟨c,h⟩
  ·rw[Kr ()]at m;show O.no i a A h b m
  ·rw[Kq c]at m;show⟨s0.free (R b m).1,(R b m).2⟩
 ·rcases N P with⟨T,P⟩|⟨T,P⟩
  ·rw[Kr ()]at m;rcases N y with⟨Q,y⟩|⟨Q,y⟩
   ·rw[Kr ()]at M;show E.dj i j a ap X a_ P y c b m M
   ·rw[Kq Q]at M;show old b M i a X P m
  ·rw[Kq T]at m;rcases N y with⟨Q,y⟩|⟨Q,y⟩
   ·rw[Kr ()]at M;show old b m j ap a_ y M
   ·omega
theorem EnvM'.put(E:EnvM' K t f H l ρ w)(R:ρ[i]?=Z (Z (.ob a o)))(si:l[i]?=Z (Z (.ref p)))(a_:∀b u,H b=Z u->b∉w i->C b=Z u)(hO:OmS K f C A p F')(X:∀b∈F',b∈w i\/(H b=ũ/\t b=ũ/\f b=ũ)) :
  EnvM' K t f C l (ρ.set i (Z (.ob a A))) (λj=>if j=i then F' else w j):=by
 have PV:=aZ R
 have Q:∀{j:Nat}{x:Sm},(ρ.set i (Z (Sm.ob a A)))[j]?=Z (Z x)->(j=i/\x=.ob a A)\/(j≠i/\ρ[j]?=Z (Z x)):=λ{j x} h=>by
  rcases iN h with⟨e,_,e1⟩|⟨e,h⟩
  ·cases e1;show .inl ⟨e,S⟩
  ·show .inr ⟨e,h⟩
 have aA:∀b∈F',∀(j:Nat)(y:Ū Addr)(m:Om),ρ[j]?=Z (Z (.ob y m))->j≠i->b∉w j:=λb g j y m M c z=>by
  rcases X b g with h|⟨h,_⟩
  ·show E.dj j i y a m o M R c b z h
  ·let⟨q,_,_,r⟩:=E.ow j y m M;let⟨u,T,_⟩:=r.at b z;rw[h]at T;cases T
 refine⟨λb u e=>a_ b u (E.fz b u e) λz=>?_,by rw[K0,E.len],λj d h=>?_,λj y m h=>?_,λj y m h b g=>?_,λj k a1 a2 o1 m M N c b g P=>?_,E.tb⟩
 ·rw[(E.no i a o R b z).2]at e;cases e
 ·rcases Q h with⟨_,h⟩|⟨_,h⟩
  ·cases h
  ·show E.sl j d h
 ·rcases Q h with⟨c,h⟩|⟨c,h⟩
  ·cases h;subst c;let⟨q,e,U,_⟩:=E.ow j a o R;rw[si]at e;cases e;show⟨p,si,U,by rw[Kq S];show hO⟩
  ·let⟨q,e,U,r⟩:=E.ow j y m h;refine⟨q,e,U,?_⟩;rw[Kr c];show r.keep (Same.refl _) λb g u T=>a_ b u T λz=>E.dj j i y a m o h R c b g z
 ·rcases Q h with⟨c,h⟩|⟨c,h⟩
  ·rw[Kq c]at g;rcases X b g with z|⟨_,z⟩
   ·show E.no i a o R b z
   ·show z
  ·rw[Kr c]at g;show E.no j y m h b g
 ·rcases Q M with⟨ap,M⟩|⟨ap,M⟩
  ·rw[Kq ap]at g;rcases Q N with⟨O,N⟩|⟨O,N⟩
   ·omega
   ·rw[Kr O]at P;show aA b g k a2 m N O P
  ·rw[Kr ap]at g;rcases Q N with⟨O,N⟩|⟨O,N⟩
   ·rw[Kq O]at P;show aA b P j a1 o1 M ap g
   ·rw[Kr O]at P;show E.dj j k a1 a2 o1 m M N c b g P
theorem EnvM'.grput(E:EnvM' K t f H l ρ w)(g:Gr I t f H)(h:ρ[i]?=Z (Z (.ob a o)))(c:∀b u,H b=Z u->b∉w i->C b=Z u):Gr I t f C:=
 ⟨g.f,λb u e=>c b u (g.h b u e) (λz=>by rw[(E.no i a o h b z).1]at e;cases e),λb u e=>c b u (g.s b u e) (λz=>by rw[(E.no i a o h b z).2]at e;cases e),λp u j m k=>g.o p u j m k⟩
theorem EnvM.list{ds:Y D}(E:EnvM K t f H l ρ)(g:Gr I t f H)(c:ρ[i]?=Z (Z (.ob a (.lst ds)))):∃q vs,l[i]?=Z (Z (.ref q))/\H q=Z (.lst vs)/\t q=ũ/\f q=ũ/\RpL K f ds vs /\
  ∀(es:Y D)(ws:Y V),RpL K f es ws->EnvM K t f (aq H q (.lst ws)) l (ρ.set i (Z (.ob a (.lst es))))/\Gr I t f (aq H q (.lst ws)):=by
 let⟨w,E⟩:=E;let⟨q,e,_,r⟩:=E.ow i a _ c;have h:=r.mem;have j:=E.no i a _ c q h;let⟨_,vs,y,M⟩:=r.lst_inv;refine⟨q,vs,e,y,j.1,j.2,M,λes ws x=>?_⟩
 have m:∀b u,H b=Z u->b∉w i->aq H q (.lst ws) b=Z u:=λb u e O=>by
  rw[aJ λz=>O (by rw[z];show h)];show e
 show⟨⟨_,E.put c e m (F':=[q]) (.lst bu x) λb N=>.inl (by rw[KH.mp N];show h)⟩,E.grput g c m⟩
end
noncomputable def qy:Ū Sm->Ū Sl
 |some (.v d)=>Z (.v d)
 |some (.ob _ (.lst xs))=>Z (.own xs)
 |some (.ob _ (.map a))=>Z (.dct (a.map (·.1)))
 |some (.ob _ (.mpT a))=>Z (.dcT (a.map (·.1)))
 |_=>ũ
noncomputable abbrev c8(ρ:aj):bM:=ρ.map qy
theorem ku{c:Type}{K:Â}{e:Hp}:∀{a:Y (c×D)}{b:Y (c×V)},Paired (fX K e) a b->b.map (·.1)=a.map (·.1)
 |_,_,.nil=>rfl
 |_,_,.cons r t=>by rw[K1,K1,ku t,r.1]
theorem EnvM.toD{K:Â}{C A H:Hp}{B:St}{ρ:aj}(E:EnvM K C A H B ρ):EnvD K C A H B (c8 ρ):=by
 let⟨J,E⟩:=E
 have at_:∀{i:Nat}{x:Sl},(c8 ρ)[i]?=Z (Z x)->∃y,ρ[i]?=Z (Z y)/\qy (Z y)=Z x:=λ{i x} h=>by
  rw[Kv]at h
  cases e:ρ[i]? with
  |none=>rw[e]at h;cases h
  |some y=>
   rw[e]at h
   cases y with
   |none=>cases h
   |some y=>show⟨y,S,K2 h⟩
 have ow:∀{i:Nat}{o:Ow},(c8 ρ)[i]?=Z (Z (.ob o))->∃a f p u,ρ[i]?=Z (Z (.ob a f))/\B[i]?=Z (Z (.ref p))/\p∈J i/\H p=Z u/\OwR K A o u:=λ{i o} h=>by
  let⟨y,m,e⟩:=at_ h
  cases y with
  |v d=>cases e
  |ob a f=>
   let⟨p,z,_,r⟩:=E.ow i a f m;refine⟨a,f,p,?_⟩
   cases f with
   |lst ds=>let⟨_,vs,g,l⟩:=r.lst_inv;cases e;show⟨_,m,z,r.mem,g,l⟩
   |map F=>let⟨_,vs,g,l⟩:=r.map_inv;cases e;show⟨_,m,z,r.mem,g,ku l⟩
   |mpT F=>let⟨_,vs,g,l⟩:=r.mpT_inv;cases e;show⟨_,m,z,r.mem,g,ku l⟩
   |obj nm fs=>cases e
   |ptr=>cases e
   |tl ps=>cases e
   |pr ds d=>cases e
 refine⟨E.fz,by rw[wy,E.len],λi d h=>?_,λi o h=>?_,λi j o w p O P Q R=>?_,E.tb⟩
 ·let⟨y,m,e⟩:=at_ h
  cases y with
  |v d'=>cases e;show E.sl i d m
  |ob a f=>cases f<;>cases e
 ·let⟨a,f,p,u,g,l,t,M,N⟩:=ow h;show⟨p,u,l,(E.no i a f g p t).1,(E.no i a f g p t).2,M,N⟩
 ·let⟨a,f,ap,u,g,l,t,_,_⟩:=ow O;let⟨I,G,T,U,k1,k2,k3,_,_⟩:=ow P;rw[Q]at l;cases l;rw[R]at k2;cases k2;rcases MU (i=j)with c|c
  ·show c
  ·show absurd k3 (E.dj i j a I f G g k1 c p t)
noncomputable def CY(h:Heap)(e:Addr)(vs:Array Value)(T:Ū Addr)(fl:Value):Prop:=match T with
 |none=>vs[1]?=Z .none
 |some T=>vs[1]?=Z (.ref T)/\T≠e/\∃a ts,h.get? T=Z a/\a.data=.fields ts/\ts[3]?=Z fl
structure Fly(h:Heap)(e:Addr)(T:Option Addr)(fl cls:Value)(dx:Option Addr):Prop where
 ex:∃oe vs,h.get? e=Z oe/\oe.data=.fields vs/\oe.cls=cls/\oe.dict=dx/\CY h e vs T fl
structure Kept(fs:List Addr)(e:Addr)(T:Option Addr)(h h':Heap):Prop where
 keep:∀b o,h.get? b=Z o->b≠e->Z b≠T->b∉fs->h'.get? b=Z o
 slot:∀b o,h.get? b=Z o->b∈fs->∃sl,h'.get? b=Z { o with slots:=sl }
section
variable{M:ö}{A:É}{E:Value->À->Prop}{s:À}{base:Heap}{env:é}{outer:Y é}{L e:Addr}
theorem Jb(o:Ï)(f:Array Value->Array Value):(o.mapFields f).dict=o.dict:=by let⟨c,d,a,sl⟩:=o;cases a<;>rfl
theorem wX{cls:Value}{y:Ū Addr}{l:Ï}{vs:Array Value}{f:Value}{p:Bool}{Q:Unit->À->Prop}(J:A.frames=Z (env::outer))(G:s.heap.FunFrames base (env::outer))(P:env.frame=Z L)
  (F:s.heap.get? e=Z l) (hd:l.data=.fields vs) (O:l.cls=cls) (T:l.dict=y) (I:1<vs.size)
  (k:∀h' v,Fly h' e (Z v) (rawInt L) cls y->s.heap.objs.size<=v->Kept (cE (env::outer)) e ũ s.heap h'->Q Unit.unit { s with heap:=h' }) :
  wpAny M A (do let a ←frameOf env;let pl ←entryPlaceOf L p;let b ←EntryCells.newEntry f a .none (rawInt L) .none pl;setField (.ref e) 1 b) Q E s:=by
 have g:e∉cE (env::outer):=λR=>by let⟨_,o,H,K⟩:=G.mem R;rw[F]at H;cases H;show K vs hd
 refine Ko (wpAny_frameOf_fun J G P λc x=>?_);refine Ko (wpAny_entryPlaceOf λpl u=>?_);unfold EntryCells.newEntry newFields;refine Ko (Ml ?_ (u.sizeOk5 _ _ _ _ _));generalize j:({ cls:=.type "traceback",dict:=ũ,data:=.fields ([f,.ref L,.none,rawInt L,.none]++(if pl.isEmpty then List.replicate 6 Value.none else pl)).toArray }:Ï)=ot;have B:c.get? e=Z l:=(x.2.1 e g).trans F;have C:=Ks (h:=c) ot B;have t:c.objs.size≠e:=Oq (KI B);refine Nj C hd I (k _ c.objs.size ⟨?_⟩ ?_ ⟨λb o r N _ m=>?_,λb o r m=>?_⟩)
 ·have w:=MP hd (·.setIfInBounds 1 (Value.ref c.objs.size));refine⟨_,_,Mp _ C (MS w),w,(ķ _ _).trans O,(Jb _ _).trans T,by simp[I],t,ot,_,?_,by rw[←j],?_⟩
  ·rw[Mb _ _ (Lv t)];show KJ c (by rw[←j];rfl)
  ·first|(simp;done)|(rcases u with rfl|⟨_,_,_,_,_,_,_,rfl⟩<;>simp)
 ·show NM x.1.symm
 ·rw[Mb _ _ (Lv N)];show Ks _ ((x.2.1 b m).trans r)
 ·let⟨sl,U⟩:=x.2.2 b o r;refine⟨sl,?_⟩;rw[Mb _ _ (λz=>g (by rw[z];show m))];show Ks _ U
theorem Fly.live{h:Heap}{T:Ū Addr}{fl cls:Value}{a:Ū Addr}(F:Fly h e T fl cls a):∃o,h.get? e=Z o/\o.cls=cls/\o.dict=a/\∃vs,o.data=.fields vs:=by let⟨l,vs,c,f,g,j,_⟩:=F.ex;show⟨l,c,g,j,vs,f⟩
theorem lW{vs:Array Value}{i:Nat}{x:Value}(h:vs[i]?=Z x):i<vs.size:=(Array.getElem?_eq_some_iff.mp h).1
theorem va{T:Ū Addr}{cls:Value}{x:Ū Addr}{Q:Unit->À->Prop}(u:A.frames=Z (env::outer))(t:s.heap.FunFrames base (env::outer))(f:env.frame=Z L)(F:Fly s.heap e T .none cls x)
  (k:∀h' c,Fly h' e (Z c) (rawInt L) cls x->s.heap.objs.size<=c->Kept (cE (env::outer)) e T s.heap h'->Q Unit.unit { s with heap:=h' }):wpAny M A (ĝ (.ref e) env) Q E s:=by
 let⟨P,vs,m,hd,B,G,C⟩:=F.ex;unfold ĝ;simp only[f]
 cases T with
 |none=>
  have h:vs[1]?=Z .none:=C;refine Ko (LJ m hd h ?_);rw[Kr 'b'];show wX u t f m hd B G (lW h) λh' c a1 a2 a3=>k h' c a1 a2 ⟨λb o a r w g=>a3.keep b o a r (by simp) g,a3.slot⟩
 |some T=>
  let⟨h,I,O,ts,l,j,y⟩:=C;refine Ko (LJ m hd h ?_);rw[Kq (show (Value.ref T != Value.none)=ū from by simp)];refine Ko (LJ l j y ?_);rw[Kr (show ¬ ((Value.none==rawInt L)=ū)from by simp[rawInt])];refine Ko (Nj l j (lW y) ?_);have p:∀b,b≠T->(s.heap.update T (å (·.setIfInBounds 3 Value.none))).get? b=s.heap.get? b:=λb a=>Mb _ _ (Lv a)
  have H:∀b o,s.heap.get? b=Z o->(∀vs,o.data≠.fields vs)->b≠T:=λb o a f z=>by rw[z,l]at a;cases a;show f ts j
  have K:=Mp (å (·.setIfInBounds 3 Value.none)) l (MS (MP j _));refine wX (s:={ s with heap:=s.heap.update T (å (·.setIfInBounds 3 Value.none)) }) u (t.of_keeps λb o a f=>⟨o,(p b (H b o a f)).trans a,S⟩) f ((p e (Lv I)).trans m) hd B G (lW h) λh' c a1 a2 a3=>k h' c a1 ?_ ⟨λb o a r w g=>?_,λb o a g=>?_⟩
  ·have a2:(s.heap.update T (å (·.setIfInBounds 3 Value.none))).objs.size<=c:=a2;rw[Heap.size_after_update]at a2;show a2
  ·show a3.keep b o ((p b (λz=>w (by rw[z]))).trans a) r (by simp) g
  ·refine a3.slot b o ((p b (H b o a ?_)).trans a) g;let⟨_,N,v,J⟩:=t.mem g;rw[a]at v;cases v;show J
theorem oq{T:Addr}{fl cls:Value}{m:Ū Addr}{Q:Unit->À->Prop}(F:Fly s.heap e (Z T) fl cls m)
  (k:∀h',Fly h' e (Z T) .none cls m->(∀b o,s.heap.get? b=Z o->b≠T->h'.get? b=Z o)->(∀b,s.heap.get? b=ũ->h'.get? b=ũ)->Q Unit.unit { s with heap:=h' }):wpAny M A (Ŝ (.ref e) ũ) Q E s:=by
 let⟨x,vs,t,hd,v,w,p,h,y,ts,c,j,r⟩:=F.ex;have g:∀b,b≠T->(s.heap.update T (å (·.setIfInBounds 3 ((ũ:Ū Addr).elim Value.none λf=>rawInt f)))).get? b=s.heap.get? b:=λb a=>Mb _ _ (Lv a);unfold Ŝ;refine Ko (LJ t hd p ?_);rw[Kq (show (Value.ref T != Value.none)=ū from by simp)];have l:=MP j (·.setIfInBounds 3 ((ũ:Ū Addr).elim Value.none λf=>rawInt f));refine Nj c j (lW r) (k _ ⟨x,vs,(g e (Lv h)).trans t,hd,v,w,p,h,_,_,Mp _ c (MS l),l,by simp[lW r]⟩ (λb o a u=>(g b u).trans a) λb a=>?_);rw[g b (λz=>by rw[z,c]at a;cases a)];show a
theorem A7{T:Ū Addr}{cls:Value}{g:Ū Addr}{Q:Unit->À->Prop}(p:A.frames=Z (env::outer))(x:s.heap.FunFrames base (env::outer))(w:env.frame=Z L)(F:Fly s.heap e T .none cls g)
  (k:∀h' c,Fly h' e (Z c) .none cls g->s.heap.objs.size<=c->Kept (cE (env::outer)) e T s.heap h'->Q Unit.unit { s with heap:=h' }):wpAny M A (leaving env (.ref e)) Q E s:=by
 unfold leaving;refine Ko (va p x w F λu c l j k1=>?_);refine oq (s:={ s with heap:=u }) l λv m k2 B=>?_;have h:∀b o,s.heap.get? b=Z o->b≠c:=λb o a z=>absurd (KI (z▸a:s.heap.get? c=Z o)) (NQ.mpr j);refine k v c m j ⟨λb o a r t f=>k2 b o (k1.keep b o a r t f) (h b o a),λb o a f=>?_⟩;let⟨sl,y⟩:=k1.slot b o a f;show⟨sl,k2 b _ y (h b o a)⟩
end
structure XD where
 nm:Str
 at_:Option D
noncomputable def qd(K:Â)(H:Hp)(at_:Ū D)(a:Ū Addr):Prop:=match at_ with
 |none=>a=ũ
 |some d=>∃p v,a=Z p/\H p=Z (.xd [("at",v)])/\Rp K (λ_=>ũ) d v
structure XSt(X:Cx)(pins:List (Addr×Ï))(σ:St)(H:Hp)(xd:XD)(e:Value)(s:À):Prop where
 inv:Inv X pins σ H s
 ex:∃(ea C:Addr)(T dx:Option Addr),e=.ref ea/\Fly s.heap ea T .none (.ref C) dx/\X.mg xd.nm=Z (.ref C)/\qd X.K H xd.at_ dx/\(X.s₀.heap.get? ea=ũ/\H ea=ũ/\∀p∈X.pn++pins,p.1≠ea)/\∀T',T=Z T'->X.s₀.heap.get? T'=ũ/\H T'=ũ/\∀p∈X.pn++pins,p.1≠T'
noncomputable def XeOk(K:Â)(X:Cx)(j l:Hp)(o:XD->aj->Prop):Prop:=∀m f c h g e s' a,o m f->Gr j l c h->EnvM K l c h g f->XSt X a g h m e s'->X.xe e s'
structure StM(K:Â)(X:Cx)(Φ0 H0 Φ H:Hp)(σ τ:St)(ρ κ:aj)(Rx:XD->aj->Prop):Prop where
 g:Gr Φ0 H0 Φ H
 l:ρ.length=σ.length
 E:EnvM K H0 Φ H (σ++τ) (ρ++κ)
 x:XeOk K X Φ0 H0 Rx
inductive Ar where|t (s:Sm)|s (i:Nat)
noncomputable abbrev TX:=aj->(Sm->aj->Prop)->(XD->aj->Prop)->Prop
noncomputable abbrev dU:=aj->(Bool->aj->Prop)->(XD->aj->Prop)->Prop
noncomputable abbrev cI:=aj->(Y Ar->aj->Prop)->(XD->aj->Prop)->Prop
noncomputable def cY(as:Y Ar):aj:=as.filterMap λa=>match a with|.t s=>Z (Z s)|.s _=>ũ
inductive ArV(σ:St):List Ar->List V->St->Prop where
 |nil:ArV σ [] [] []
 |t {s:Sm} {v:V} {as:List Ar} {vs:List V} {ts:St}:ArV σ as vs ts->ArV σ (.t s::as) (v::vs) (Z v::ts)
 |s {i:Nat} {v:V} {as:List Ar} {vs:List V} {ts:St}:σ[i]?=Z (Z v)->ArV σ as vs ts->ArV σ (.s i::as) (v::vs) ts
inductive lXm(K:Â)(X:Cx)(t:TX)(σ:St)(H:Hp)(Q:VK):Prop|mk (Φ0:Hp) (H0:Hp) (Φ:Hp) (τ:St) (ρ:aj) (κ:aj) (R:Sm->aj->Prop) (Rx:XD->aj->Prop) (_:StM K X Φ0 H0 Φ H σ τ ρ κ Rx) (_:t ρ R Rx) (_:∀sm ρ' Φ' H' v,R sm ρ'->StM K X Φ0 H0 Φ' H' σ (τ++[Z v]) ρ' (κ++[Z sm]) Rx->Same Φ Φ'->Q v H')
inductive lXb(K:Â)(X:Cx)(t:dU)(σ:St)(H:Hp)(Q:Bool->Hp->Prop):Prop|mk (Φ0:Hp) (H0:Hp) (Φ:Hp) (τ:St) (ρ:aj) (κ:aj) (R:Bool->aj->Prop) (Rx:XD->aj->Prop) (_:StM K X Φ0 H0 Φ H σ τ ρ κ Rx) (_:t ρ R Rx) (_:∀b ρ' Φ' H',R b ρ'->StM K X Φ0 H0 Φ' H' σ τ ρ' κ Rx->Same Φ Φ'->Q b H')
inductive lXa(K:Â)(X:Cx)(n:Nat)(t:cI)(σ:St)(H:Hp)(Q:List V->Hp->Prop):Prop|mk (Φ0:Hp) (H0:Hp) (Φ:Hp) (τ:St) (ρ:aj) (κ:aj) (R:List Ar->aj->Prop) (Rx:XD->aj->Prop) (_:StM K X Φ0 H0 Φ H σ τ ρ κ Rx) (_:t ρ R Rx) (_:∀as ρ' Φ' H' vs ts,R as ρ'->as.length=n->ArV σ as vs ts->StM K X Φ0 H0 Φ' H' σ (τ++ts) ρ' (κ++cY as) Rx->Same Φ Φ'->Q vs H')
structure PX(K:Â)(X:Cx)(e:Ã)(t:TX):Prop where pe:X.K=K->PE X e (lXm K X t)
structure PXB(K:Â)(X:Cx)(e:Ã)(t:dU):Prop where pt:X.K=K->PT X e (lXb K X t)
structure PXW(K:Â)(X:Cx)(e:Ã)(t:dU):Prop where pw:X.K=K->PW X e (lXb K X t)
structure PXA(K:Â)(X:Cx)(es:List Ã)(t:cI):Prop where pa:X.K=K->PA X es (lXa K X es.length t)
section
variable{K:Â}{X:Cx}{a m f t H y:Hp}{l j ts:St}{ρ c z:aj}{x:XD->aj->Prop}{d:D}{v:V}
theorem StM.gr(Q:StM K X a m f H l j ρ c x)(g:Gr f H t y):StM K X a m t y l j ρ c x:=⟨Q.g.trans g,Q.l,Q.E.gr g,Q.x⟩
theorem StM.env(Q:StM K X a m f H l j ρ c x):EnvM K m f H l ρ:=Q.E.take Q.l
theorem StM.lk(Q:StM K X a m f H l j ρ c x):c.length=j.length:=by have:=Q.E.len;rw[Kp,Kp]at this;have:=Q.l;omega
theorem StM.pop(Q:StM K X a m f H l (j++ts) ρ (c++z) x)(e:c.length=j.length):StM K X a m f H l j ρ c x:=⟨Q.g,Q.l,by
 have E:=Q.E;rw[←KS,←KS]at E
 show E.take (by rw[Kp,Kp,Q.l,e]),Q.x⟩
theorem StM.pushV(Q:StM K X a m f H l j ρ c x)(r:Rp K f d v):StM K X a m f H l (j++[Z v]) ρ (c++[Z (.v d)]) x:=⟨Q.g,Q.l,by
 rw[←KS,←KS]
 show Q.E.snocV r,Q.x⟩
theorem StM.pushO{o:Om}{p:Addr}{F:Y Addr}(Q:StM K X a m f H l j ρ c x)(g:Gr f H t y)(h:OmS K t y o p F)(e:∀b∈F,H b=ũ/\t b=ũ):StM K X a m t y l (j++[Z (.ref p)]) ρ (c++[Z (.ob ũ o)]) x:=⟨Q.g.trans g,Q.l,by
 rw[←KS,←KS]
 show Q.E.snocO Q.g.h g h e,Q.x⟩
theorem StM.at(Q:StM K X a m f H l j ρ c x){i:Nat}(h:c[i]?=Z (Z (.v d))):∃v,j[i]?=Z (Z v)/\Rp K f d v:=by have g:=aZ h;let⟨v,e,r⟩:=Q.E.sl (i:=ρ.length+i) (d:=d) (by rw[Km (),LN];show h);rw[Q.l,Km (),LN]at e;show⟨v,e,r⟩
theorem StM.last(Q:StM K X a m f H l (j++[Z v]) ρ (c++[Z (.v d)]) x):Rp K f d v:=by
 have g:=Q.lk;rw[Kp,Kp]at g
 have g:c.length=j.length:=by simpa using g
 let⟨u,e,r⟩:=Q.at (i:=c.length) (d:=d) (by rw[Km (Kw _),Lw];rfl);rw[g,Km (Kw _),Lw]at e;cases e;show r
theorem StM.last2{e:D}{w:V}(Q:StM K X a m f H l ((j++[Z v])++[Z w]) ρ ((c++[Z (.v d)])++[Z (.v e)]) x):Rp K f d v/\Rp K f e w:=by
 refine⟨?_,Q.last⟩;have g:=Q.lk;simp only[Kp,KA,LF]at g
 have g:c.length=j.length:=by omega
 show (Q.pop (by simp only[Kp,KA,LF];omega)).last
end
section
variable{K:Â}{X:Cx}{e a b c:Ã}{es:Y Ã}{f p:Õ}{t l tb:TX}{A:cI}{m B:dU}
noncomputable def xD(t:TD):TX:=λρ R _=>t (c8 ρ) λd=>R (.v d) ρ
theorem ag{t:TD}(h:PD K X e t):PX K X e (xD t):=⟨λx=>(h.pe x).imp λG H Q w=>by
 let⟨C,u,z,I,ρ,F,R,E,U,t,k⟩:=w
 show⟨u,z,c8 ρ,_,U.env.toD,t,λd j o v r g y=>k _ ρ j o v r ((U.gr g).pushV y) g.f⟩⟩
noncomputable def xF(t:bg):TX:=λρ R _=>t (c8 ρ) λds=>R (.own ds) ρ
theorem eD{t:bg}(h:PF K X e t):PX K X e (xF t):=⟨λx=>(h.pe x).imp λM H Q v=>by
 let⟨G,u,F,N,ρ,J,R,I,U,t,k⟩:=v
 show⟨u,F,c8 ρ,_,U.env.toD,t,λds j o p vs r g w z C E=>k _ ρ j o _ r (U.pushO g (.lst C E) λb y=>by rw[KH.mp y];show⟨w,z⟩) g.f⟩⟩
noncomputable def xB(t:cg):dU:=λρ R _=>t (c8 ρ) λb=>R b ρ
theorem aR{t:cg}(h:PTD K X e t):PXB K X e (xB t):=⟨λw=>(h.pt w).imp λE H Q v=>by
 let⟨y,u,x,F,ρ,C,R,z,U,t,k⟩:=v
 show⟨u,x,c8 ρ,_,U.env.toD,t,λb j o r g=>k b ρ j o r (U.gr g) g.f⟩⟩
noncomputable def xV(k:D->aj->Prop):Sm->aj->Prop:=λs ρ=>match s with|.v d=>k d ρ|_=>False
theorem xV.get{k:D->aj->Prop}{s:Sm}{ρ:aj}(h:xV k s ρ):∃d,s=.v d/\k d ρ:=by
 cases s with
 |v d=>show⟨d,S,h⟩
 |ob _ _=>show h.elim
noncomputable def jD(r:cH)(l tb:TX):TX:=λρ R j=>l ρ (xV λx g=>tb g (xV λy h=>r x y λd=>R (.v d) h) j) j
theorem nH{r:cH}{O:St}{H:Hp}{Q:VK}(h:lXm K X (jD r l tb) O H Q):iW (lR2 K r) (lXm K X l) (lXm K X tb) O H Q:=by let⟨j,M,Φ,τ,ρ,κ,R,N,ap,t,k⟩:=h;refine⟨j,M,Φ,τ,ρ,κ,_,N,ap,t,λs1 I F H1 v z T U=>?_⟩;let⟨x,rfl,z⟩:=z.get;refine⟨j,M,F,_,I,_,_,N,T,z,λs2 J G H2 w C o a_=>?_⟩;let⟨y,rfl,C⟩:=C.get;let⟨rx,ry⟩:=o.last2;refine⟨G,x,y,_,o.g.s,.inl rx,.inl ry,C,λd E P u aA g ru=>?_⟩;rw[KS,KS]at o;show k _ J E P u aA (((o.pop ap.lk).gr g).pushV ru) ((U.trans a_).trans g.f)
theorem j7{h:ü}{r:cH}(u:OpD K X (Ì h) r)(j:PX K X a l)(o:PX K X b tb):PX K X (.BinOp a h b f) (jD r l tb):=
 ⟨λg=>(rP (u.o g) (j.pe g) (o.pe g)).imp λ_ _ _=>nH⟩
theorem Dy{h:Ē}{r:cH}(v:OpD K X (Ê h) r)(j:PX K X a l)(o:PX K X b tb)(u:behindInMarks h b=Ŭ):PX K X (.Compare a [h] [b] f) (jD r l tb):=
 ⟨λg=>(xy (v.o g) (j.pe g) (o.pe g) u).imp λ_ _ _=>nH⟩
noncomputable def w6(t:TX):dU:=λρ R h=>t ρ (xV λd g=>match d with|.bl b=>R b g|_=>False) h
theorem BM{r:cH}{y:St}{H:Hp}{Q:Bool->Hp->Prop}(h:lXb K X (w6 (jD r l tb)) y H Q):rN (iW (lR2 K r) (lXm K X l) (lXm K X tb)) y H Q:=by
 let⟨j,z,I,M,ρ,J,R,E,U,t,k⟩:=h;refine nH ⟨j,z,I,M,ρ,J,_,E,U,t,λN u o C v g w F=>?_⟩;let⟨x,rfl,g⟩:=g.get;have G:=w.last;let⟨b,rfl,g⟩:=js g;obtain rfl:=G.b;show⟨b,S,k b u o C g (w.pop U.lk) F⟩
theorem jZ{h:Ē}{r:cH}(v:OpD K X (Ê h) r)(j:PX K X a l)(o:PX K X b tb)(u:behindInMarks h b=Ŭ):PXB K X (.Compare a [h] [b] f) (w6 (jD r l tb)):=
 ⟨λg=>(v5 (v.o g) (j.pe g) (o.pe g) u).imp λ_ _ _=>BM⟩
noncomputable def B7(t u:dU):dU:=λρ R h=>t ρ (λc g=>(c=ū->R ū g)/\(c=Ŭ->u g R h)) h
noncomputable def HU(t:dU):dU:=λρ R h=>t ρ (λc g=>R (!c) g) h
theorem PXW.toB(h:PXW K X e m):PXB K X e m:=⟨λg=>(h.pw g).pt⟩
theorem JO(h:PXB K X a m):PXW K X (.BoolOp .Or [a] f) m:=⟨λg=>wL (h.pt g)⟩
theorem y6(N:PXB K X a m)(O:PXW K X (.BoolOp .Or (b::es) f) B):PXW K X (.BoolOp .Or (a::b::es) f) (B7 m B):=
 ⟨λy=>(v8 (N.pt y) (O.pw y)).imp λU H Q I=>by
  let⟨g,u,T,E,ρ,C,R,v,ap,t,k⟩:=I;refine⟨g,u,T,E,ρ,C,_,v,ap,t,λc j h G z w x=>?_⟩
  cases c with
  |true=>rw[Kq S];show k _ j h G (z.1 S) w x
  |false=>rw[Kr 'b'];show⟨g,u,h,E,j,C,R,v,w,z.2 S,λb r o F P J M=>k b r o F P J (x.trans M)⟩⟩
theorem CD(z:PXB K X a m):PXB K X (.UnaryOp .Not a f) (HU m):=
 ⟨λy=>(ui (z.pt y)).imp λI H Q u=>by
  let⟨g,o,E,G,ρ,F,R,v,U,t,k⟩:=u
  show⟨g,o,E,G,ρ,F,_,v,U,t,λc j h r C w x=>k _ j h r C w x⟩⟩
noncomputable def EH(t:TX):dU:=λρ R h=>t ρ (xV λd g=>rg d λb=>R b g) h
theorem JZ(J:PX K X a l)(M:∀g,isTrue a X.env g=(do let v ←g;standAt a.pos;holding [v] (truthy v))):PXB K X a (EH l):=
 ⟨λw=>(uh (J.pe w) M).imp λU H Q C=>by
  let⟨r,y,N,P,ρ,O,R,E,ap,t,k⟩:=C;refine⟨r,y,N,P,ρ,O,_,E,ap,t,λT h u z v o j F=>?_⟩;let⟨x,rfl,o⟩:=o.get;let⟨b,G,I⟩:=uZ (R:=λb=>R b h) j.g.s (.inl j.last) o;rw[w]
  show⟨b,G,k b h u z I (j.pop ap.lk) F⟩⟩
noncomputable def nO:cI:=λρ R _=>R [] ρ
noncomputable def se(t:TX)(u:cI):cI:=λρ R j=>t ρ (λs g=>u g (λas h=>R (.t s::as) h) j) j
noncomputable def ux(i:Nat)(u:cI):cI:=λρ R h=>u ρ (λas g=>R (.s i::as) g) h
theorem bq:PXA K X [] nO:=⟨λ_=>pa_nil.imp λv H Q g=>by
 let⟨j,o,h,w,ρ,u,R,r,U,t,k⟩:=g
 show k [] ρ h H [] [] t S .nil (by rw[Le,show cY []=[]from rfl,Le];show U) (Same.refl _)⟩
theorem aQ(I:PX K X e t)(M:PXA K X es A)(N:starEach (e::es) X.env=(Ŭ,eval e X.env)::starEach es X.env):PXA K X (e::es) (se t A):=
 ⟨λy=>(dz (I.pe y) (M.pa y) N).imp λσ H Q C=>by
  let⟨g,u,U,aA,ρ,a_,R,w,ap,t,k⟩:=C;refine⟨g,u,U,aA,ρ,a_,_,w,ap,t,λs1 o h H1 v P E F=>?_⟩;refine⟨g,u,h,_,o,_,_,w,E,P,λas r j z vs ts T J O x G=>?_⟩;refine k _ r j z (v::vs) (Z v::ts) T (by rw[KA,KA,J]) (.t O) ?_ (F.trans G);rw[KS,KS]at x
  show x⟩
theorem bD(i:Nat){x:Str}(N:PXA K X es A)(O:starEach (.Name x f::es) X.env=(Ŭ,eval (.Name x f) X.env)::starEach es X.env)(I:X.N[i]?=Z x:=by rfl)(h:cx X.env.scope x:=by nofun)(hd:ad x:=by decide)
  (z:am x:=by decide):PXA K X (.Name x f::es) (λρ R g=>(∃a o,ρ[i]?=Z (Z (.ob a o)))/\ux i A ρ R g):=
 ⟨λG=>(dz (pv i I h hd z) (N.pa G) O).imp λσ H Q y=>by
  let⟨j,v,T,a_,ρ,U,R,g,ap,⟨⟨a,o,M⟩,t⟩,k⟩:=y;let⟨aA,E⟩:=ap.env;let⟨q,e,_⟩:=E.ow i a o M;refine⟨_,e,j,v,T,a_,ρ,U,_,g,ap,t,λas u r w vs ts P J h C F=>?_⟩
  show k _ u r w (.ref q::vs) ts P (by rw[KA,KA,J]) (.s e h) C F⟩
noncomputable def gR:Y Ar->Ū (Y D)
 | []=>Z []
 |.t (.v d)::as=>(gR as).map (d::·)
 |_=>ũ
noncomputable def xaD(k:Y D->aj->Prop):Y Ar->aj->Prop:=λas ρ=>match gR as with|some ds=>k ds ρ|none=>False
theorem xaD.get{k:Y D->aj->Prop}{as:Y Ar}{ρ:aj}(h:xaD k as ρ):∃ds,gR as=Z ds/\k ds ρ:=by
 unfold xaD at h;split at h
 ·next ds e=>show⟨ds,e,h⟩
 ·show h.elim
theorem tI:∀{as:Y Ar}{ds:Y D},gR as=Z ds->cY as=ds.map (λd=>Z (.v d))/\as.length=ds.length
 | [],ds,h=>by cases h;show⟨S,S⟩
 |.t (.v d)::as,ds,h=>by
  have h':(gR as).map (d::·)=Z ds:=h
  cases e:gR as with
  |none=>rw[e]at h';cases h'
  |some es=>
   rw[e]at h';cases h';let⟨g,j⟩:=tI e;show⟨by change Z (Sm.v d)::cY as=_;rw[g];rfl,by rw[KA,KA,j]⟩
 |.t (.ob _ _)::_,_,h=>by cases h
 |.s _::_,_,h=>by cases h
theorem EG{u:St}:∀{as:Y Ar}{ds:Y D}{vs:Y V}{ts:St},gR as=Z ds->ArV u as vs ts->ts=vs.map Z:=by
 intro as ds vs ts h g
 induction g generalizing ds with
 |nil=>rfl
 | @t r v as vs ts g j=>
  cases r with
  |v d=>
   have h':(gR as).map (d::·)=Z ds:=h
   cases e:gR as with
   |none=>rw[e]at h';cases h'
   |some es=>rw[j e];rfl
  |ob a o=>cases h
 |s=>cases h
theorem StM.vals{h E y H:Hp}{z C ts:St}{ρ j:aj}{F:XD->aj->Prop}{as:Y Ar}{ds:Y D}{vs:Y V}(Q:StM K X h E y H z (C++ts) ρ (j++cY as) F)(J:j.length=C.length)(hd:gR as=Z ds)(M:ArV z as vs ts):RpL K y ds vs:=by
 have o:=EG hd M;let⟨u,N⟩:=tI hd
 have g:vs.length=ds.length:=by have:=Q.lk;rw[Kp,Kp,o,u,wy,wy]at this;omega
 refine⟨g,λi v d I G=>?_⟩;let⟨w,x,r⟩:=Q.at (i:=j.length+i) (d:=d) (by rw[Km (),LN,u,Kv,G];rfl);rw[J,Km (),LN,o,Kv,I]at x;cases x;show r
noncomputable def zt(t:cI):TX:=λρ R h=>t ρ (xaD λds g=>R (.v (.tup ds)) g) h
theorem C4{x1}(h:PXA K X es A)(z:Nat.ble es.length 1000=ū:=by rfl):PX K X (.Tuple es x1 f) (zt A):=
 ⟨λE=>(yi (h.pa E)).imp λP H Q x=>by
  let⟨r,w,I,N,ρ,M,R,y,U,t,k⟩:=x;refine⟨r,w,I,N,ρ,M,_,y,U,t,λas u J O vs ts o F G j C=>?_⟩;let⟨ds,hd,o⟩:=o.get;have rl:=j.vals U.lk hd G;refine⟨by rw[rl.1,←(tI hd).2,F];show qg z,λp v=>?_⟩;have g:=Gr.new j.g.s v (.tup vs)
  show k _ u _ _ _ o (((j.pop U.lk).gr g).pushV ((rl.same (cX (j.g.s.free v) _)).tup bu)) (C.trans g.f)⟩
noncomputable def Ji(t:TX):TX:=λρ R h=>t ρ (λs g=>match s with|.ob ũ (.lst ds)=>R (.v (.lst ds)) g|_=>False) h
theorem StM.fzl{J P N H:Hp}{U O:St}{ρ x:aj}{aA:XD->aj->Prop}{v:V}{ds:Y D}(ap:StM K X J P N H U (O++[Z v]) ρ (x++[Z (.ob ũ (.lst ds))]) aA):∃I,StM K X J P I H U (O++[Z v]) ρ (x++[Z (.v (.lst ds))]) aA/\Same N I:=by
 have hk:x.length=O.length:=by have:=ap.lk;rw[Kp,Kp]at this;simpa using this
 let⟨fp,E⟩:=ap.E
 have Q:(ρ++(x++[Z (Sm.ob ũ (.lst ds))]))[ρ.length+x.length]?=Z (Z (.ob ũ (.lst ds))):=by rw[←KS,Km (by rw[Kp];omega),Kp,Lw];rfl
 let⟨p,e,_,r⟩:=E.ow _ _ _ Q;have T:=r.mem;have no:=E.no _ _ _ Q
 have ev:v=.ref p:=by
  rw[←KS,Km (by rw[Kp,ap.l];omega),Kp,ap.l,hk,Lw]at e;cases e;rfl
 subst ev;let⟨_,vs,h1,h2⟩:=r.lst_inv
 next=>
  have hn:=(no p T).2;have h0:=(no p T).1;have G:=cX hn (.lst vs);refine⟨aq N p (.lst vs),⟨ap.g.freeze h0 hn h1,ap.l,?_,ap.x⟩,G⟩
  have E0:EnvM K P (aq N p (.lst vs)) H (U++O) (ρ++x):=by
   refine⟨fp,λb u M=>?_,by rw[Kp,Kp,ap.l,hk],λj d hd=>?_,λj a o C=>?_,λj a o C b hb=>?_,λj k a a' o o' g y c=>?_,E.tb.same G⟩
   ·by_cases c:b=p
    ·subst c;rw[bu]at M;cases M;show h1
    ·rw[aJ c]at M;show E.fz b u M
   ·have g:=aZ hd;let⟨w,F,R⟩:=E.sl j d (by rw[←KS,Kn g];show hd);rw[←KS,Kn (by rw[Kp]at g ⊢;have:=ap.l;omega)]at F;show⟨w,F,R.same G⟩
   ·have g:=aZ C;let⟨w,F,ha,R⟩:=E.ow j a o (by rw[←KS,Kn g];show C);rw[←KS,Kn (by rw[Kp]at g ⊢;have:=ap.l;omega)]at F;show⟨w,F,ha,R.keep G λ_ _ _ h=>h⟩
   ·have g:=aZ C
    have a_:(ρ++(x++[Z (Sm.ob ũ (.lst ds))]))[j]?=Z (Z (.ob a o)):=by rw[←KS,Kn g];show C
    have c:b≠p:=λz=>E.dj j _ a _ o _ a_ Q (by rw[Kp]at g;omega) b hb (by rw[z];show T);rw[aJ c];show E.no j a o a_ b hb
   ·have WC:=aZ g;have R6:=aZ y;show E.dj j k a a' o o' (by rw[←KS,Kn WC];show g) (by rw[←KS,Kn R6];show y) c
  rw[←KS,←KS];show E0.snocV ((h2.same G).lst bu)
theorem zk(h:PX K X e t):PX K X e (Ji t):=⟨λG=>(h.pe G).imp λP H Q x=>by
 let⟨j,u,I,N,ρ,M,R,y,U,t,k⟩:=x;refine⟨j,u,I,N,ρ,M,_,y,U,t,λO r J w v g z E=>?_⟩;split at g
 ·next ds=>
  let⟨o,C,F⟩:=z.fzl;show k _ r o w v g C (E.trans F)
 ·show g.elim⟩
noncomputable def Hl(r:cD)(t:cI):TX:=λρ R h=>t ρ (xaD λds g=>r ds λd=>R (.v d) g) h
theorem RpL.lq{g H:Hp}{ds:Y D}{vs:Y V}(h:RpL K g ds vs):pf K g H ds vs:=⟨h.1,λi v d j hd=>.inl (h.2 i v d j hd)⟩
theorem HJ{T:String}{r:cD}{x:Str}(P:CallD K X (.type T) r)(a_:Gl X x)(aA:X.mg x=ũ)(j:Ö x=Z (.type T))(O:PXA K X (e::es) A)
  (U:starEach (e::es) X.env=(Ŭ,eval e X.env)::starEach es X.env) (J:(backTo f (starEach es X.env)).any (·.1)=Ŭ) (hn:x≠"__name__":=by decide) (I:ad x:=by decide):PX K X (.Call (.Name x p) (e::es) [] f) (Hl r A):=
 ⟨λC=>(tq (P.c C) a_ aA j (O.pa C) hn I U J).imp λσ H Q G=>by
  let⟨w,F,Φ,τ,ρ,κ,R,M,ap,t,k⟩:=G;refine⟨w,F,Φ,τ,ρ,κ,_,M,ap,t,λas z y H1 vs ts o hl j h N=>?_⟩;let⟨ds,hd,o⟩:=o.get;have rl:=h.vals ap.lk hd j
  show⟨y,ds,_,h.g.s,rl.lq,o,λd u E v rd g rv=>k _ z u E v rd (((h.pop ap.lk).gr g).pushV rv) (N.trans g.f)⟩⟩
end
noncomputable def cc(H:Hp)(B:Y Addr):Hp:=λb=>if b∈B then ũ else H b
theorem JI{H:Hp}{B:Y Addr}{b:Addr}(h:b∈B):cc H B b=ũ:=Kq h
theorem gT{H:Hp}{B:Y Addr}{b:Addr}(h:b∉B):cc H B b=H b:=Kr h
theorem FC{H:Hp}{B:Y Addr}{b:Addr}{u:HO}(h:cc H B b=Z u):b∉B/\H b=Z u:=by
 unfold cc at h;split at h
 ·cases h
 ·next c=>show⟨c,h⟩
theorem u1{H:Hp}{B:Y Addr}:Same (cc H B) H:=λb u e=>(FC e).2
noncomputable abbrev b7:=Y Sm->(Sm->Y Om->Prop)->(XD->Y Om->Prop)->Prop
inductive ArgM(K:Â)(Φ H:Hp):List Sm->List V->List (List Addr)->Prop where
 |nil:ArgM K Φ H [] [] []
 |v {d:D} {v:V} {as:List Sm} {vs:List V} {Fs:List (List Addr)}:Rp K Φ d v->ArgM K Φ H as vs Fs->ArgM K Φ H (.v d::as) (v::vs) ([]::Fs)
 |o {a:Option Addr} {o:Om} {p:Addr} {F:List Addr} {as:List Sm} {vs:List V} {Fs:List (List Addr)}:OmS K Φ H o p F->ArgM K Φ H as vs Fs->ArgM K Φ H (.ob a o::as) (.ref p::vs) (F::Fs)
inductive OutM(K:Â)(Φ H:Hp):List Sm->List V->List Om->List (List Addr)->Prop where
 |nil:OutM K Φ H [] [] [] []
 |v {d:D} {v:V} {as:List Sm} {vs:List V} {os:List Om} {Fs:List (List Addr)}:OutM K Φ H as vs os Fs->OutM K Φ H (.v d::as) (v::vs) os ([]::Fs)
 |o {a:Option Addr} {o o':Om} {p:Addr} {F:List Addr} {as:List Sm} {vs:List V} {os:List Om} {Fs:List (List Addr)}:OmS K Φ H o' p F->OutM K Φ H as vs os Fs->OutM K Φ H (.ob a o::as) (.ref p::vs) (o'::os) (F::Fs)
inductive ResM(K:Â)(Φ H:Hp):Sm->V->List Addr->Prop where
 |v {d:D} {v:V}:Rp K Φ d v->ResM K Φ H (.v d) v []
 |o {a:Option Addr} {o:Om} {p:Addr} {F:List Addr}:(∀q,a=Z q->q=p)->OmS K Φ H o p F->ResM K Φ H (.ob a o) (.ref p) F
inductive lSpM(K:Â)(sp:b7)(vs:List V)(H:Hp)(Q:VK)(E_:XK):Prop|mk (Φ:Hp) (as:List Sm) (Fs:List (List Addr)) (R:Sm->List Om->Prop) (Rx:XD->List Om->Prop) (_:Same Φ H) (_:TabF K Φ) (_:ArgM K Φ H as vs Fs) (_:Fs.flatten.Nodup) (_:(∀b∈Fs.flatten,Φ b=ũ)) (_:sp as R Rx) (_:∀sm os Φ' H' v F Px,R sm os->Gr Φ (cc H Fs.flatten) Φ' H'->ResM K Φ' H' sm v F->OutM K Φ' H' as vs os Px->(F++Px.flatten).Nodup->(∀b∈F++Px.flatten,cc H Fs.flatten b=ũ/\Φ' b=ũ)->Q v H')
theorem OmS.nodup{K:Â}{a H:Hp}{o:Om}{p:Addr}{F:Y Addr}(h:OmS K a H o p F):F.Nodup:=by
 cases h with
 |lst _ _=>simp
 |map _ _=>simp
 |mpT _ _=>simp
 |obj _ _ _ h=>show h
 |ptr=>show .nil
 |tl _ _ h=>show h
 |pr _ _ _ _=>simp
theorem ArgM.len{K:Â}{e H:Hp}{as:Y Sm}{vs:Y V}{c:Y (Y Addr)}(h:ArgM K e H as vs c):vs.length=as.length/\c.length=as.length:=by
 induction h with
 |nil=>show⟨S,S⟩
 |v _ _ a=>show⟨by simp[a.1],by simp[a.2]⟩
 |o _ _ a=>show⟨by simp[a.1],by simp[a.2]⟩
section
variable{K:Â}{m H G w l C:Hp}{A:St}{ρ t:aj}{f:Nat->Y Addr}{F F' B:Y Addr}{o y:Om}{p:Addr}{d:D}{v:V}{i:Nat}{a:Ū Addr}
noncomputable def iO(new:Nat->Ū (Om×Y Addr))(f:Nat->Y Addr):Nat->Y Addr:=λi=>match new i with|some q=>q.2|none=>f i
theorem EnvM'.lend{new:Nat->Ū (Om×Y Addr)}(E:EnvM' K m w H A ρ f)(s0:Same m H)(hB:∀b,b∈B->∃i a o q,new i=Z q/\ρ[i]?=Z (Z (.ob a o))/\b∈f i)(hB2:∀i q,new i=Z q->∀b∈f i,b∈B)(g:Gr w (cc H B) l G)
  (hl:t.length=ρ.length) (hv:∀(i:Nat)(d:D),t[i]?=Z (Z (.v d))->ρ[i]?=Z (Z (.v d)))
  (R:∀(i:Nat)(a:Ū Addr)(o:Om),t[i]?=Z (Z (.ob a o))->(new i=ũ/\ρ[i]?=Z (Z (.ob a o)))\/∃T F',new i=Z (o,F')/\ρ[i]?=Z (Z (.ob a T)))
  (hn:∀(i:Nat)(q:Om×Y Addr),new i=Z q->∃p,A[i]?=Z (Z (.ref p))/\OmS K l G q.1 p q.2) (hF:∀(i:Nat)(q:Om×Y Addr),new i=Z q->∀b∈q.2,cc H B b=ũ/\l b=ũ)
  (hd:∀(i j:Nat)(q r:Om×Y Addr),new i=Z q->new j=Z r->i≠j->∀b∈q.2,b∉r.2):EnvM' K m l G A t (iO new f):=by
 have B0:∀b∈B,m b=ũ:=λb I=>let ⟨i,a,o,_,_,h,aA⟩:=hB b I;(E.no i a o h b aA).1
 have N:∀{i:Nat}{a:Ū Addr}{o:Om},new i=ũ->ρ[i]?=Z (Z (.ob a o))->∀b∈f i,b∉B:=λ{i a o} U h b I z=>by
  let⟨j,Q,o2,q,X,J,aA⟩:=hB b z
  have c:i≠j:=λe=>by rw[e,X]at U;cases U
  show E.dj i j a Q o o2 h J c b I aA
 have O:∀{i:Nat},new i=ũ->iO new f i=f i:=λh=>by unfold iO;rw[h]
 have P:∀{i:Nat}{q:Om×Y Addr},new i=Z q->iO new f i=q.2:=λh=>by unfold iO;rw[h]
 refine⟨g.s,by rw[hl];show E.len,λi d h=>?_,λi a o h=>?_,λi a o h b I=>?_,λi j a Q o y U X c b I M=>?_,E.tb.same g.f⟩
 ·let⟨v,e,r⟩:=E.sl i d (hv i d h);show⟨v,e,r.same g.f⟩
 ·rcases R i a o h with⟨x,J⟩|⟨T,F',x,J⟩
  ·let⟨p,e,a_,r⟩:=E.ow i a o J;refine⟨p,e,a_,?_⟩;rw[O x];show r.keep g.f λb I u ap=>g.h b u (by rw[gT (N x J b I)];show ap)
  ·let⟨p,e,a_,_⟩:=E.ow i a T J;let⟨p',e',r⟩:=hn i _ x;rw[e]at e';cases e';show⟨p,e,a_,by rw[P x];show r⟩
 ·rcases R i a o h with⟨x,J⟩|⟨T,F',x,J⟩
  ·rw[O x]at I;let⟨p,_,_,r⟩:=E.ow i a o J;let⟨u,ap,k⟩:=r.at b I;show⟨(E.no i a o J b I).1,g.o b u (by rw[gT (N x J b I)];show ap) (E.no i a o J b I).2 k⟩
  ·rw[P x]at I;let⟨z1,z2⟩:=hF i _ x b I;refine⟨?_,z2⟩;rcases MU (b∈B)with c|c
   ·show B0 b c
   ·rw[gT c]at z1
    cases e:m b with
    |none=>rfl
    |some u=>rw[s0 b u e]at z1;cases z1
 ·have no:∀{i j:Nat}{q:Om×Y Addr}{a:Ū Addr}{o:Om},new i=Z q->new j=ũ->ρ[j]?=Z (Z (.ob a o))->b∈q.2->b∈f j->False:=λ{i j q a o} x J h3 h4 h5=>by
   let⟨p,_,_,r⟩:=E.ow j a o h3;let⟨u,ap,_⟩:=r.at b h5;have:=(hF i q x b h4).1;rw[gT (N J h3 b h5),ap]at this;cases this
  rcases R i a o U with⟨x,J⟩|⟨T,F',x,J⟩
  ·rw[O x]at I;rcases R j Q y X with⟨k1,k2⟩|⟨o1,F1,k1,k2⟩
   ·rw[O k1]at M;show E.dj i j a Q o y J k2 c b I M
   ·rw[P k1]at M;show no k1 x J M I
  ·rw[P x]at I;rcases R j Q y X with⟨k1,k2⟩|⟨o1,F1,k1,k2⟩
   ·rw[O k1]at M;show no x k1 k2 I M
   ·rw[P k1]at M;show hd i j _ _ x k1 c b I M
theorem Gr.lend(c:Gr C m w H)(g:Gr w (cc H B) l G)(r:∀b∈B,m b=ũ):Gr C m l G:=by
 have j:∀{b:Addr}{u:HO},m b=Z u->cc H B b=Z u:=λ{b u} e=>by
  rw[gT λz=>by rw[r b z]at e;cases e];show c.h b u e
 show⟨c.f.trans g.f,λb u e=>g.h b u (j e),g.s,λb u h x k=>g.o b u (j h) (c.o b u h x k) k⟩
theorem EnvM'.snocG(E:EnvM' K m w H A ρ f){ap:Sm}(X:ResM K w H ap v F)(T:∀b∈F,m b=ũ/\w b=ũ)(hd:∀b∈F,∀(i:Nat)(a:Ū Addr)(o:Om),ρ[i]?=Z (Z (.ob a o))->b∉f i):EnvM K m w H (A++[Z v]) (ρ++[Z ap]):=by
 cases X with
 |v r=>show EnvM.snocV ⟨f,E⟩ r
 | @o a0 o p F N U=>
  have I:∀{i:Nat}{x:Sm},(ρ++[Z (Sm.ob a0 o)])[i]?=Z (Z x)->(i<ρ.length/\ρ[i]?=Z (Z x))\/(i=ρ.length/\x=.ob a0 o):=λ{i x} h=>by
   rcases K7 i ρ.length with c|c
   ·rw[Kn c]at h;show .inl ⟨c,h⟩
   ·rw[Km c]at h
    cases e:i-ρ.length with
    |zero=>rw[e]at h;cases h;show .inr ⟨(),S⟩
    |succ n=>rw[e]at h;cases h
  refine⟨λi=>if i=ρ.length then F else f i,E.fz,by rw[Kp,Kp,E.len];rfl,λi d h=>?_,λi a y h=>?_,λi a y h b g=>?_,λi j a O Q R J u c b g z=>?_,E.tb⟩
  ·rcases I h with⟨c,h⟩|⟨_,h⟩
   ·let⟨v,e,r⟩:=E.sl i d h;show⟨v,by rw[Kn (by rw[E.len];show c)];show e,r⟩
   ·cases h
  ·rcases I h with⟨c,h⟩|⟨c,h⟩
   ·let⟨q,e,r⟩:=E.ow i a y h;show⟨q,by rw[Kn (by rw[E.len];show c)];show e,by rw[Kr ()];show r⟩
   ·cases h;subst c;refine⟨p,by rw[Km (by rw[E.len];show Kw _),E.len,Lw];rfl,N,by rw[Kq S];show U⟩
  ·rcases I h with⟨c,h⟩|⟨c,h⟩
   ·rw[Kr ()]at g;show E.no i a y h b g
   ·rw[Kq c]at g;show T b g
  ·rcases I J with⟨P,J⟩|⟨P,J⟩
   ·rw[Kr ()]at g;rcases I u with⟨M,u⟩|⟨M,u⟩
    ·rw[Kr ()]at z;show E.dj i j a O Q R J u c b g z
    ·rw[Kq M]at z;show hd b z i a Q J g
   ·rw[Kq P]at g;rcases I u with⟨M,u⟩|⟨M,u⟩
    ·rw[Kr ()]at z;show hd b g j O R u z
    ·omega
end
noncomputable def eJ(ρ:aj):Y Ar->Ū (Y Sm)
 | []=>Z []
 |.t s::as=>(eJ ρ as).map (s::·)
 |.s i::as=>match ρ[i]? with
  |some (Z (.ob _ o))=>(eJ ρ as).map (.ob ũ o::·)
  |_=>ũ
noncomputable def ba(o:Om):Ū Sm->Ū Sm
 |some (.ob a _)=>Z (.ob a o)
 |x=>x
noncomputable def aU:aj->Nat->Om->aj
 | [],_,_=>[]
 |x::ρ,0,o=>ba o x::ρ
 |x::ρ,i+1,o=>x::aU ρ i o
theorem l7:∀(ρ:aj)(i:Nat)(o:Om),aU ρ i o=(match ρ[i]? with
  |some (Z (.ob a _))=>ρ.set i (Z (.ob a o))
  |_=>ρ)
 | [],_,_=>rfl
 |some (.ob _ _)::_,0,_=>rfl
 |some (.v _)::_,0,_=>rfl
 |none::_,0,_=>rfl
 |x::ρ,i+1,o=>by
  change x::aU ρ i o=_;rw[l7 ρ i o,OL]
  match ρ[i]? with
  |some (Z (.ob _ _))=>rfl
  |some (Z (.v _))=>rfl
  |some ũ=>rfl
  |none=>rfl
noncomputable def aN(ρ:aj):Y Ar->Y Om->aj
 | [],_=>ρ
 |.t (.v _)::as,os=>aN ρ as os
 |.t (.ob _ _)::as,_::os=>aN ρ as os
 |.t (.ob _ _)::as,[]=>aN ρ as []
 |.s i::as,o::os=>aN (aU ρ i o) as os
 |.s _::as,[]=>aN ρ as []
noncomputable def dS:Y Ar->Y Nat
 | []=>[]
 |.t _::as=>dS as
 |.s i::as=>i::dS as
noncomputable def rH(as:Y Ar):Bool:=decide (dS as).Nodup
noncomputable def fq:Nat->Y Ar->Y Om->Y (Y Addr)->Nat->Ū (Om×Y Addr)
 |n,.t (.v _)::as,os,_::a,i=>fq (n+1) as os a i
 |n,.t (.ob _ _)::as,o::os,F::a,i=>if i=n then Z (o,F) else fq (n+1) as os a i
 |n,.s j::as,o::os,F::a,i=>if i=j then Z (o,F) else fq n as os a i
 |_,_,_,_,_=>ũ
section
variable{K:Â}{B H g:Hp}{A:St}{ρ:aj}{f:Nat->Y Addr}
noncomputable def dA(f:Nat->Y Addr):Nat->Y Ar->Y (Y Addr)
 |_,[]=>[]
 |n,.t (.v _)::as=>[]::dA f (n+1) as
 |n,.t (.ob _ _)::as=>f n::dA f (n+1) as
 |n,.s j::as=>f j::dA f n as
noncomputable def dB:Nat->Y Ar->Y Nat
 |_,[]=>[]
 |n,.t (.v _)::as=>dB (n+1) as
 |n,.t (.ob _ _)::as=>n::dB (n+1) as
 |n,.s j::as=>j::dB n as
theorem fpA_mem:∀{n:Nat}{as:Y Ar}{b:Addr},b∈(dA f n as).flatten↔∃i∈dB n as,b∈f i
 |n,[],b=>by simp[dA,dB]
 |n,.t (.v _)::as,b=>by simp only[dA,dB,Li,M8];show fpA_mem
 |n,.t (.ob _ _)::as,b=>by simp only[dA,dB,Li,K6,Kz,fpA_mem (n:=n+1) (as:=as),exists_eq_or_imp]
 |n,.s j::as,b=>by simp only[dA,dB,Li,K6,Kz,fpA_mem (n:=n) (as:=as),exists_eq_or_imp]
theorem jY:∀{n:Nat}{as:Y Ar}{i:Nat},i∈dB n as->i∈dS as\/(n<=i/\i<n+(cY as).length)
 |n,[],i,h=>by cases h
 |n,.t (.v d)::as,i,h=>by
  have h:i∈dB (n+1) as:=h;rcases jY h with z|z
  ·show .inl z
  ·refine .inr ⟨(),?_⟩;change i<n+((cY as).length+1);omega
 |n,.t (.ob a o)::as,i,h=>by
  rcases Kz.mp h with rfl|h
  ·refine .inr ⟨Kw _,?_⟩;change i<i+((cY as).length+1);omega
  ·rcases jY h with z|z
   ·show .inl z
   ·refine .inr ⟨(),?_⟩;change i<n+((cY as).length+1);omega
 |n,.s j::as,i,h=>by
  rcases Kz.mp h with rfl|h
  ·show .inl Ku
  ·rcases jY h with z|z
   ·show .inl (Kt _ z)
   ·show .inr z
theorem pz:∀{n:Nat}{as:Y Ar},(dS as).Nodup->(∀i∈dS as,i<n)->(dB n as).Nodup
 |n,[],_,_=>by simp[dB]
 |n,.t (.v d)::as,h,c=>pz (n:=n+1) h λi e=>Nm (c i e)
 |n,.t (.ob a o)::as,h,c=>by
  refine K9.mpr ⟨λz=>?_,pz (n:=n+1) h λi e=>Nm (c i e)⟩;rcases jY z with z|z
  ·show Ms _ (c n z)
  ·omega
 |n,.s j::as,h,c=>by
  let⟨l,m⟩:=K9.mp h;refine K9.mpr ⟨λz=>?_,pz m λi e=>c i (Kt _ e)⟩;rcases jY z with z|z
  ·show l z
  ·have:=c j Ku;omega
theorem ka{s:Sm}{as:Y Ar}{a:Y Sm}(h:eJ ρ (.t s::as)=Z a):∃q,eJ ρ as=Z q/\a=s::q:=by let⟨q,e,h⟩:=MB.mp h;show⟨q,e,h.symm⟩
theorem kQ{i:Nat}{as:Y Ar}{c:Y Sm}(h:eJ ρ (.s i::as)=Z c):∃a o q,ρ[i]?=Z (Z (.ob a o))/\eJ ρ as=Z q/\c=.ob ũ o::q:=by
 unfold eJ at h;split at h
 ·next a o ho=>
  let⟨q,e,h⟩:=MB.mp h;show⟨a,o,q,ho,e,h.symm⟩
 ·cases h
theorem OutM.cv{d:D}{as:Y Sm}{v:V}{vs:Y V}{os:Y Om}{a:Y (Y Addr)}(h:OutM K g H (.v d::as) (v::vs) os a):∃c,a=[]::c/\OutM K g H as vs os c:=by
 cases h with
 |v h=>show⟨_,S,h⟩
theorem OutM.co{a:Ū Addr}{o:Om}{as:Y Sm}{v:V}{vs:Y V}{os:Y Om}{c:Y (Y Addr)}(h:OutM K g H (.ob a o::as) (v::vs) os c):∃p l j F e,v=.ref p/\os=l::j/\c=F::e/\OmS K g H l p F/\OutM K g H as vs j e:=by
 cases h with
 |o m h=>show⟨_,_,_,_,_,S,S,S,m,h⟩
theorem iS{a:Type}{l m:Y a}{n:Nat}{y:a}(h:∀(j:Nat) x,(y::l)[j]?=Z x->m[n+j]?=Z x)(j:Nat)(x:a)(c:l[j]?=Z x):m[n+1+j]?=Z x:=by rw[show n+1+j=n+(j+1)by omega];show h (j+1) x c
theorem GC{σx:St}{c:aj}(E:EnvM' K B g H σx c f)(I:∀(i:Nat)(x:Sm),ρ[i]?=Z (Z x)->c[i]?=Z (Z x))(C:∀(i:Nat)(v:V),A[i]?=Z (Z v)->σx[i]?=Z (Z v)) :
  ∀{n:Nat}{as:Y Ar}{p:Y Sm}{vs:Y V}{ts:St},(∀(j:Nat) x,(cY as)[j]?=Z x->c[n+j]?=Z x)->(∀(j:Nat) x,ts[j]?=Z x->σx[n+j]?=Z x)->eJ ρ as=Z p->ArV A as vs ts->ArgM K g H p vs (dA f n as):=by
 intro n as p vs ts h l y z
 induction z generalizing n p with
 |nil=>cases y;show .nil
 | @t J v as vs ts z u=>
  let⟨q,e,rfl⟩:=ka y
  cases J with
  |v d=>
   let⟨w,m,r⟩:=E.sl n d (h 0 _ S);obtain rfl:=K2 (K2 ((l 0 _ S).symm.trans m));show .v r (u (n:=n+1) (iS h) (iS l) e)
  |ob a o=>
   let⟨w,m,_,r⟩:=E.ow n a o (h 0 _ S);obtain rfl:=K2 (K2 ((l 0 _ S).symm.trans m));show .o r (u (n:=n+1) (iS h) (iS l) e)
 | @s i v as vs ts F z u=>
  let⟨a,o,q,G,e,rfl⟩:=kQ y;let⟨w,m,_,r⟩:=E.ow i a o (I i _ G);obtain rfl:=K2 (K2 ((C i _ F).symm.trans m));show .o r (u h l e)
theorem ng{σx:St}{c:aj}(r:∀(i:Nat)(x:Sm),ρ[i]?=Z (Z x)->c[i]?=Z (Z x)) :
  ∀{n:Nat}{as:Y Ar}{p:Y Sm},(∀(j:Nat) x,(cY as)[j]?=Z x->c[n+j]?=Z x)->eJ ρ as=Z p->∀i∈dB n as,∃a o,c[i]?=Z (Z (.ob a o))
 |n,[],p,_,m,i,h=>by cases h
 |n,.t (.v d)::as,p,l,m,i,h=>by let⟨q,e,rfl⟩:=ka m;show ng (σx:=σx) r (n:=n+1) (iS l) e i h
 |n,.t (.ob a o)::as,p,l,m,i,h=>by
  let⟨q,e,rfl⟩:=ka m;rcases Kz.mp h with rfl|h
  ·show⟨a,o,l 0 _ S⟩
  ·show ng (σx:=σx) r (n:=n+1) (iS l) e i h
 |n,.s j::as,p,l,m,i,h=>by
  let⟨a,o,q,t,e,rfl⟩:=kQ m;rcases Kz.mp h with rfl|h
  ·show⟨a,o,r _ _ t⟩
  ·show ng (σx:=σx) r (n:=n) (as:=as) l e i h
theorem pE{σx:St}{v:aj}(E:EnvM' K B g H σx v f):∀{n:Nat}{as:Y Ar},(dB n as).Nodup->(∀i∈dB n as,∃a o,v[i]?=Z (Z (.ob a o)))->(dA f n as).flatten.Nodup
 |n,[],_,_=>by simp[dA]
 |n,.t (.v d)::as,h,m=>by change ([]++(dA f (n+1) as).flatten).Nodup;rw[M8];show pE E (n:=n+1) h m
 |n,.t (.ob a o)::as,h,m=>by change (f n++(dA f (n+1) as).flatten).Nodup;let⟨y,z⟩:=K9.mp h;let⟨p,u,t⟩:=m n Ku;let⟨_,_,_,r⟩:=E.ow n p u t;refine LI.mpr ⟨r.nodup,pE E (n:=n+1) z λi l=>m i (Kt _ l),λb C c F e=>?_⟩;subst e;let⟨i,l,w⟩:=fpA_mem.mp F;let⟨a2,G,x⟩:=m i (Kt _ l);show E.dj n i p a2 u G t x (λe=>y (e▸l)) b C w
 |n,.s j::as,h,m=>by change (f j++(dA f n as).flatten).Nodup;let⟨y,z⟩:=K9.mp h;let⟨p,u,t⟩:=m j Ku;let⟨_,_,_,r⟩:=E.ow j p u t;refine LI.mpr ⟨r.nodup,pE E z λi l=>m i (Kt _ l),λb C c F e=>?_⟩;subst e;let⟨i,l,w⟩:=fpA_mem.mp F;let⟨a2,G,x⟩:=m i (Kt _ l);show E.dj j i p a2 u G t x (λe=>y (e▸l)) b C w
theorem lz:∀{n:Nat}{as:Y Ar}{os:Y Om}{e:Y (Y Addr)}{i:Nat}{q:Om×Y Addr},fq n as os e i=Z q->i∈dB n as
 |n,[],_,_,_,_,h=>by cases h
 |n,.t (.v d)::as,os,[],i,q,h=>by cases h
 |n,.t (.v d)::as,os,F::e,i,q,h=>lz (n:=n+1) h
 |n,.t (.ob a o)::as,[],e,i,q,h=>by cases e<;>cases h
 |n,.t (.ob a o)::as,_::_,[],i,q,h=>by cases h
 |n,.t (.ob a o)::as,l::os,F::e,i,q,h=>by
  have h:(if i=n then Z (l,F) else fq (n+1) as os e i)=Z q:=h;split at h
  ·next c=>rw[c];show Ku
  ·show Kt _ (lz h)
 |n,.s j::as,[],e,i,q,h=>by cases e<;>cases h
 |n,.s j::as,_::_,[],i,q,h=>by cases h
 |n,.s j::as,l::os,F::e,i,q,h=>by
  have h:(if i=j then Z (l,F) else fq n as os e i)=Z q:=h;split at h
  ·next c=>rw[c];show Ku
  ·show Kt _ (lz h)
noncomputable def OutS(K:Â)(g H:Hp)(σx:St)(ps:Y Nat)(a:Nat->Ū (Om×Y Addr))(G:Y Addr):Prop:=
 (∀i∈ps,∃q,a i=Z q)/\∀(i:Nat)(q:Om×Y Addr),a i=Z q->(∃p,σx[i]?=Z (Z (.ref p))/\OmS K g H q.1 p q.2)/\(∀b∈q.2,b∈G)/\∀(j:Nat)(r:Om×Y Addr),a j=Z r->i≠j->∀b∈q.2,b∉r.2
theorem OutS.cons{σx:St}{ps:Y Nat}{x t:Nat->Ū (Om×Y Addr)}{F G:Y Addr}{m:Nat}{o:Om}{p:Addr}(w:OutS K g H σx ps x G)(u:∀i,t i=if i=m then Z (o,F) else x i)(I:σx[m]?=Z (Z (.ref p)))(C:OmS K g H o p F)(J:(F++G).Nodup):OutS K g H σx (m::ps) t (F++G):=by
 have l:=(LI.mp J).2.2;refine⟨λi E=>?_,λi q h=>?_⟩
 ·rw[u];split
  ·show⟨_,S⟩
  ·next c=>show w.1 i ((Kz.mp E).resolve_left c)
 ·rw[u]at h;split at h
  ·next c=>
   subst c;cases h;refine⟨⟨p,I,C⟩,λb a=>K6.mpr (.inl a),λj r e c b a v=>?_⟩;rw[u,Kr (Lv c)]at e;show l b a b ((w.2 j r e).2.1 b v) S
  ·next c=>
   let⟨M,y,N⟩:=w.2 i q h;refine⟨M,λb a=>K6.mpr (.inr (y b a)),λj r e z b a v=>?_⟩;rw[u]at e;split at e
   ·next c3=>
    cases e;show l b v b (y b a) S
   ·show N j r e z b a v
theorem Ij{σx:St}(J:∀(i:Nat)(v:V),A[i]?=Z (Z v)->σx[i]?=Z (Z v)) :
  ∀{n:Nat}{as:Y Ar}{u:Y Sm}{vs:Y V}{ts:St}{os:Y Om}{l:Y (Y Addr)},(∀(j:Nat) x,ts[j]?=Z x->σx[n+j]?=Z x)->eJ ρ as=Z u->ArV A as vs ts->OutM K g H u vs os l->(dB n as).Nodup->l.flatten.Nodup->OutS K g H σx (dB n as) (fq n as os l) l.flatten:=by
 intro n as u vs ts os l w I E
 induction E generalizing n u os l with
 |nil=>
  intro c _ _;show⟨λi C=>(by cases C),λi q h=>(by cases h)⟩
 | @t O v as vs ts E y=>
  intro c z m;let⟨q,e,rfl⟩:=ka I
  cases O with
  |v d=>
   let⟨G,rfl,r⟩:=c.cv;show y (n:=n+1) (iS w) e r z m
  |ob a o=>
   let⟨p,N,M,F,G,rfl,rfl,rfl,r,c⟩:=c.co;show (y (n:=n+1) (iS w) e c (K9.mp z).2 (LI.mp m).2.1).cons (λ_=>rfl) (w 0 _ S) r m
 | @s P v as vs ts C E y=>
  intro c z m;let⟨a,o,q,_,e,rfl⟩:=kQ I;let⟨p,N,M,F,G,rfl,rfl,rfl,r,c⟩:=c.co;show (y w e c (K9.mp z).2 (LI.mp m).2.1).cons (λ_=>rfl) (J _ _ C) r m
theorem GF{ρ:aj}{i j:Nat}{o:Om}{x:Ū Sm}(h:(aU ρ i o)[j]?=Z x)(c:j≠i):ρ[j]?=Z x:=by
 rw[l7]at h;split at h
 ·rwa [Lk (Lv c)]at h
 ·show h
theorem zT{ρ:aj}{i:Nat}{o:Om}:(aU ρ i o).length=ρ.length:=by
 rw[l7];split
 ·rw[K0]
 ·rfl
theorem cm:∀{as:Y Ar}{ρ:aj}{os:Y Om},(aN ρ as os).length=ρ.length
 | [],_,_=>rfl
 |.t (.v _)::as,ρ,os=>cm (as:=as)
 |.t (.ob _ _)::as,ρ,_::os=>cm (as:=as)
 |.t (.ob _ _)::as,ρ,[]=>cm (as:=as)
 |.s i::as,ρ,o::os=>by change (aN (aU ρ i o) as os).length=_;rw[cm,zT]
 |.s _::as,ρ,[]=>cm (as:=as)
theorem gX:∀{as:Y Ar}{ρ:aj}{os:Y Om}{i:Nat}{x:Ū Sm},i∉dS as->(aN ρ as os)[i]?=Z x->ρ[i]?=Z x
 | [],_,_,_,_,_,h=>h
 |.t (.v _)::as,ρ,os,i,x,a,h=>gX (as:=as) (os:=os) a h
 |.t (.ob _ _)::as,ρ,_::os,i,x,a,h=>gX (as:=as) (os:=os) a h
 |.t (.ob _ _)::as,ρ,[],i,x,a,h=>gX (as:=as) (os:=[]) a h
 |.s j::as,ρ,o::os,i,x,a,h=>by have h':=gX (as:=as) (λz=>a (Kt _ z)) (show (aN (aU ρ j o) as os)[i]?=Z x from h);show GF h' λe=>a (by rw[e];show Ku)
 |.s j::as,ρ,[],i,x,a,h=>gX (as:=as) (os:=[]) (λz=>a (Kt _ z)) h
theorem wu{ρ:aj}{i j:Nat}{o:Om}(c:j≠i):(aU ρ i o)[j]?=ρ[j]?:=by
 rw[l7];split
 ·rw[Lk (Lv c)]
 ·rfl
theorem sS{Q:aj}:∀{as:Y Ar}{ρ:aj}{w:Y Sm}{vs:Y V}{ts:St}{os:Y Om}{u:Y (Y Addr)}{n i:Nat}{x:Sm},eJ Q as=Z w->ArV A as vs ts->OutM K g H w vs os u->i∈dS as->i<n->(dS as).Nodup->(aN ρ as os)[i]?=Z (Z x)->(∀j∈dS as,∃a o,ρ[j]?=Z (Z (.ob a o)))->
  ∃a m q,x=.ob a q.1/\fq n as os u i=Z q/\ρ[i]?=Z (Z (.ob a m)):=by
 intro as ρ w vs ts os u n i x a_ P
 induction P generalizing ρ w os u n i x with
 |nil=>intro _ h;cases h
 | @t s0 v as vs ts P E=>
  intro l h N nd C r;let⟨q,e,rfl⟩:=ka a_
  cases s0 with
  |v d=>
   let⟨R,rfl,M⟩:=l.cv;show E (n:=n+1) e M h () nd C r
  |ob a1 o1=>
   let⟨p,G,T,F,R,rfl,rfl,rfl,M,l⟩:=l.co;let⟨a,m,q,I,J,y⟩:=E (n:=n+1) (ρ:=ρ) e l h () nd C r;show⟨a,m,q,I,(Kr (Lg N)).trans J,y⟩
 | @s j v as vs ts _ P E=>
  intro l h N nd C r;let⟨_,o,q,_,e,rfl⟩:=kQ a_;let⟨p,G,T,F,R,rfl,rfl,rfl,M,l⟩:=l.co;let⟨U,UM⟩:=K9.mp nd;have ap:(aN (aU ρ j G) as T)[i]?=Z (Z x):=C;by_cases c:i=j
  ·subst c;let⟨a,m,O⟩:=r i Ku;have:=gX U ap;rw[l7]at this;rw[O]at this;simp only at this;rw[Ls (aZ O)]at this;cases this;show⟨a,m,(G,F),S,Kq S,O⟩
  ·have aA:=(Kz.mp h).resolve_left c
   let⟨a,m,q,I,J,y⟩:=E (ρ:=aU ρ j G) (n:=n) e l aA N UM ap λk X=>by
    rw[wu λz=>U (by rw[←z];show X)];show r k (Kt _ X)
   show⟨a,m,q,I,(Kr c).trans J,by rw[wu c]at y;show y⟩
theorem tK:∀{as:Y Ar}{c:Y Sm},eJ ρ as=Z c->∀j∈dS as,∃a o,ρ[j]?=Z (Z (.ob a o))
 | [],_,_,j,h=>by cases h
 |.t s::as,c,l,j,h=>by let⟨q,e,rfl⟩:=ka l;show tK e j h
 |.s i::as,c,l,j,h=>by
  let⟨a,o,q,m,e,rfl⟩:=kQ l;rcases Kz.mp h with rfl|h
  ·show⟨a,o,m⟩
  ·show tK e j h
end
section
variable{K:Â}{X:Cx}{e:Ã}{es:Y Ã}{l p:Õ}{y:cI}
inductive CallM(sp:b7)(R:Sm->aj->Prop)(Rx:XD->aj->Prop)(as:List Ar)(ρ:aj):Prop|mk (PL:List Sm) (_:eJ ρ as=Z PL) (_:rH as=ū) (_:sp PL (λsm os=>R sm (aN ρ as os)) (λxd os=>Rx xd (aN ρ as os)))
noncomputable def r6(sp:b7)(y:cI):TX:=λρ R a=>y ρ (CallM sp R a) a
theorem StM.lend{Φ0 H0 Φ H:Hp}{I N ts:St}{ρ f:aj}{Rx:XD->aj->Prop}{as:Y Ar}{PL:Y Sm}{vs:Y V}(ap:StM K X Φ0 H0 Φ H I (N++ts) ρ (f++cY as) Rx)(hl:f.length=N.length)(O:eJ ρ as=Z PL)(a_:ArV I as vs ts)(hs:rH as=ū) :
  ∃T,ArgM K Φ H PL vs T/\T.flatten.Nodup/\(∀b∈T.flatten,Φ b=ũ)/\∀sm os A Q v F M,Gr Φ (cc H T.flatten) A Q->ResM K A Q sm v F->OutM K A Q PL vs os M->(F++M.flatten).Nodup->(∀b∈F++M.flatten,cc H T.flatten b=ũ/\A b=ũ)->
   StM K X Φ0 H0 A Q I (N++[Z v]) (aN ρ as os) (f++[Z sm]) Rx:=by
 have nd:(dS as).Nodup:=KL hs;let⟨R,E⟩:=ap.E;have lS0:=ap.l
 have PV:(cY as).length=ts.length:=by have:=ap.lk;rw[Kp,Kp]at this;omega
 have a1:∀(i:Nat)(x:Sm),ρ[i]?=Z (Z x)->(ρ++(f++cY as))[i]?=Z (Z x):=λi x h=>by rw[Kn (aZ h)];show h
 have a2:∀(i:Nat)(v:V),I[i]?=Z (Z v)->(I++(N++ts))[i]?=Z (Z v):=λi x h=>by rw[Kn (aZ h)];show h
 have a3:∀(j:Nat) x,(cY as)[j]?=Z x->(ρ++(f++cY as))[ρ.length+f.length+j]?=Z x:=λj x h=>by rw[Km (),Km (),show ρ.length+f.length+j-ρ.length-f.length=j by omega];show h
 have a4:∀(j:Nat) x,ts[j]?=Z x->(I++(N++ts))[ρ.length+f.length+j]?=Z x:=λj x h=>by rw[Km (),Km (),show ρ.length+f.length+j-I.length-N.length=j by omega];show h
 have sl:=tK O
 have slt:∀i∈dS as,i<ρ.length:=λi m=>let ⟨_,_,h⟩:=sl i m;aZ h
 have pn:(dB (ρ.length+f.length) as).Nodup:=pz nd λi m=>by have:=slt i m;omega
 have po:=ng (σx:=I) a1 a3 O;refine⟨dA R (ρ.length+f.length) as,GC E a1 a2 a3 a4 O a_,pE E pn po,λb w=>?_,λsm os A Q v F M g Ra T7 hnd Qb=>?_⟩
 ·let⟨i,m,G⟩:=fpA_mem.mp w;let⟨a,o,U⟩:=po i m;show (E.no i a o U b G).2
 let⟨XJ,UM,nd3⟩:=LI.mp hnd;let⟨n1,n2⟩:=Ij (n:=ρ.length+f.length) a2 a4 O a_ T7 pn UM
 have B0:∀b∈(dA R (ρ.length+f.length) as).flatten,H0 b=ũ:=λb w=>by let⟨i,m,G⟩:=fpA_mem.mp w;let⟨a,o,U⟩:=po i m;show (E.no i a o U b G).1
 have pl:∀{i:Nat},i<ρ.length+f.length->i∉dS as->fq (ρ.length+f.length) as os M i=ũ:=λ{i} m hn=>by
  cases e:fq (ρ.length+f.length) as os M i with
  |none=>rfl
  |some q=>
   rcases jY (lz e)with z|z
   ·show absurd z hn
   ·omega
 have E2:EnvM' K H0 A Q (I++(N++ts)) (aN ρ as os++(f++List.replicate ts.length ũ)) (iO (fq (ρ.length+f.length) as os M) R):=by
  have cs:∀{i:Nat}{x:Sm},(aN ρ as os++(f++List.replicate ts.length ũ))[i]?=Z (Z x)->(i<ρ.length/\(aN ρ as os)[i]?=Z (Z x))\/(ρ.length<=i/\i<ρ.length+f.length/\f[i-ρ.length]?=Z (Z x)):=λ{i x} h=>by
   rcases K7 i ρ.length with c|c
   ·rw[Kn (by rw[cm];show c)]at h;show .inl ⟨c,h⟩
   ·rw[Km (by rw[cm];show c),cm]at h;rcases K7 (i-ρ.length) f.length with C|C
    ·rw[Kn C]at h;show .inr ⟨c,(),h⟩
    ·rw[Km C,Mt]at h;split at h
     ·cases h
     ·cases h
  have kx:∀{i:Nat}{x:Sm},ρ.length<=i->i<ρ.length+f.length->f[i-ρ.length]?=Z (Z x)->(ρ++(f++cY as))[i]?=Z (Z x):=λ{i x} t C h=>by rw[Km t,Kn ()];show h
  refine E.lend ap.g.h (B:=(dA R (ρ.length+f.length) as).flatten) (new:=fq (ρ.length+f.length) as os M) (λb w=>?_) (λi q J b w=>fpA_mem.mpr ⟨i,lz J,w⟩) g (by rw[Kp,Kp,Kp,Kp,LS,cm,PV]) (λi d h=>?_) (λi a o h=>?_) (λi q J=>(n2 i q J).1) (λi q J b w=>Qb b (K6.mpr (.inr ((n2 i q J).2.1 b w)))) λi j q r J Rv c b w=>(n2 i q J).2.2 j r Rv c b w
  ·let⟨i,m,G⟩:=fpA_mem.mp w;let⟨a,o,U⟩:=po i m;let⟨q,J⟩:=n1 i m;show⟨i,a,o,q,J,U,G⟩
  ·rcases cs h with⟨c,h⟩|⟨t,C,h⟩
   ·rcases MU (i∈dS as)with z|z
    ·let⟨a,o0,q,e1,_⟩:=sS (n:=ρ.length+f.length) O a_ T7 z () nd h sl;cases e1
    ·show a1 _ _ (gX z h)
   ·show kx t C h
  ·rcases cs h with⟨c,h⟩|⟨t,C,h⟩
   ·rcases MU (i∈dS as)with z|z
    ·let⟨a',o0,q,e1,e2,e3⟩:=sS (n:=ρ.length+f.length) O a_ T7 z () nd h sl;cases e1;show .inr ⟨o0,q.2,e2,a1 _ _ e3⟩
    ·show .inl ⟨pl () z,a1 _ _ (gX z h)⟩
   ·show .inl ⟨pl C λz=>by have:=slt i z;omega,kx t C h⟩
 have g0:=ap.g.lend g B0
 have E3:=E2.snocG Ra (λb w=>by
   let⟨z1,z2⟩:=Qb b (K6.mpr (.inl w));refine⟨?_,z2⟩;rcases MU (b∈(dA R (ρ.length+f.length) as).flatten)with c|c
   ·show B0 b c
   ·rw[gT c]at z1
    show ap.g.h.free z1) λb w i a o m G=>by
  unfold iO at G
  cases e:fq (ρ.length+f.length) as os M i with
  |some q=>
   rw[e]at G;show nd3 b w b ((n2 i q e).2.1 b G) S
  |none=>
   rw[e]at G;let⟨p,_,_,r⟩:=E2.ow i a o m;unfold iO at r;rw[e]at r;let⟨z1,z2⟩:=Qb b (K6.mpr (.inl w))
   have own:∃aA,(ρ++(f++cY as))[i]?=Z (Z (.ob a aA)):=by
    rcases K7 i ρ.length with c|c
    ·rw[Kn (by rw[cm];show c)]at m;rcases MU (i∈dS as)with z|z
     ·let⟨a',o0,q,_,e2,_⟩:=sS (n:=ρ.length+f.length) O a_ T7 z () nd m sl;rw[e]at e2;cases e2
     ·show⟨o,a1 _ _ (gX z m)⟩
    ·rw[Km (by rw[cm];show c),cm]at m;rcases K7 (i-ρ.length) f.length with C|C
     ·rw[Kn C]at m;show⟨o,by rw[Km c,Kn C];show m⟩
     ·rw[Km C,Mt]at m;split at m
      ·cases m
      ·cases m
   let⟨aA,Qm⟩:=own;let⟨p',_,_,r'⟩:=E.ow i a aA Qm;let⟨u,hu,_⟩:=r'.at b G
   have c:b∉(dA R (ρ.length+f.length) as).flatten:=λz=>by
    let⟨j,hj,hbj⟩:=fpA_mem.mp z;let⟨q,J⟩:=n1 j hj
    have cj:i≠j:=λz=>by rw[z,J]at e;cases e
    let⟨a2',o2,hj2⟩:=po j hj;show E.dj i j a a2' aA o2 Qm hj2 cj b G hbj
   rw[gT c,hu]at z1;cases z1
 refine⟨g0,by rw[cm];show lS0,?_,ap.x⟩;refine E3.re (λi=>if i<ρ.length+f.length then i else ρ.length+f.length+ts.length) (by simp only[Kp,KA,LF,cm];omega) (λi x P=>?_) λi j a a' o aA m hj e=>?_
 ·rcases K7 i (ρ.length+f.length)with c|c
  ·rw[Kq c];constructor
   ·rcases K7 i ρ.length with t|t
    ·rw[Kn (by rw[cm];show t)]at P;rw[Kn (by simp only[Kp,cm];omega),Kn (by rw[cm];show t)];show P
    ·rw[Km (by rw[cm];show t),cm,Kn ()]at P;rw[Kn (by simp only[Kp,cm];omega),Km (by rw[cm];show t),cm,Kn ()];show P
   ·rcases K7 i I.length with t|t
    ·rw[Kn t,Kn (by simp only[Kp];omega),Kn t]
    ·rw[Km t,Kn (),Kn (by simp only[Kp];omega),Km t,Kn ()]
  ·have m:i=ρ.length+f.length:=by have:=aZ P;simp only[Kp,KA,LF,cm]at this;omega
   subst m;rw[Kr ()];rw[Km (by rw[cm];omega),Km (by rw[cm];omega),cm,show ρ.length+f.length-ρ.length-f.length=0 by omega]at P;cases P;constructor
   ·rw[Km (by simp only[Kp,LS,cm];omega)];simp only[Kp,LS,cm];rw[show ρ.length+f.length+ts.length-(ρ.length+(f.length+ts.length))=0 by omega];rfl
   ·rw[Km (),Km (),Km (by simp only[Kp];omega)];simp only[Kp];rw[show ρ.length+f.length-I.length-N.length=0 by omega,show ρ.length+f.length+ts.length-(I.length+(N.length+ts.length))=0 by omega]
 ·have hi1:=aZ m;have WC:=aZ hj;simp only[Kp,KA,LF,cm]at hi1 WC;have e:(if i<ρ.length+f.length then i else ρ.length+f.length+ts.length)=(if j<ρ.length+f.length then j else ρ.length+f.length+ts.length):=e;split at e<;>split at e<;>omega
structure ClM(P:Ä)(w:Å)(K:Â)(mg:Str->Option Value)(base:Heap)(n:Nat)(x:Str)(ps:List Str)(z:b7):Prop where
 ex:∃(f:Addr)(fd:Ë),FnOk P w K mg base bh n f fd ps (lSpM K z)/\Binds K fd ps []/\Û K (.ref f)=ū/\mg x=Z (.ref f)
theorem bF{n:Nat}{x:Str}{ps:Y Str}{z:b7}(C:ClM X.prog X.w K X.mg X.base n x ps z)(hr:Room n X.A)(hg:Gl X x)
  (ha:PXA K X (e::es) y) (he:starEach (e::es) X.env=(Ŭ,eval e X.env)::starEach es X.env) (O:(backTo l (starEach es X.env)).any (·.1)=Ŭ) (I:ad x:=by decide) :
  PX K X (.Call (.Name x p) (e::es) [] l) (r6 z y):=⟨λc=>by
 let⟨f,fd,F,b,k,m⟩:=C.ex;refine (xH (dvs:=[]) (ds:=[]) (E:=E0) (c▸F:FnOk X.prog X.w X.K X.mg X.base bh n f fd ps (lSpM K z)) hr hg m (c▸k) (c▸b) .nil nP (ha.pa c) I he O).imp λσ H Q G=>?_;let⟨j,B,Φ,τ,ρ,κ,R,U,ap,t,k⟩:=G;refine⟨j,B,Φ,τ,ρ,κ,_,U,ap,t,λas ρ1 o H1 vs ts h hl hv g aA=>?_⟩;let⟨J,P,a_,h⟩:=h;let⟨A,g1,g2,g3,g4⟩:=g.lend ap.lk P hv a_;rw[Le]
 show⟨o,J,A,_,_,g.g.s,g.E.tb,g1,g2,g3,h,λw os a u v F M r gr T ho hn N=>k w _ a u v r (g4 w os a u v F M gr T ho hn N) (aA.trans gr.f)⟩⟩
end
structure EndsM where
 nx:aj->Prop
 rt:Sm->aj->Prop
 bk:aj->Prop:=λ_=>False
 ct:aj->Prop:=λ_=>False
 ex:XD->aj->Prop:=λ_ _=>False
noncomputable abbrev bL:=EndsM->aj->Prop
noncomputable def tR(K:Â)(g h:Hp)(P:aj->Prop)(Q:St->Hp->Prop):Prop:=∀c a f e,P c->Gr g h a f->EnvM K h a f e c->Q e f
structure EndOkM(K:Â)(X:Cx)(Φ0 H0:Hp)(De:EndsM)(E:Ends):Prop where
 nx:tR K Φ0 H0 De.nx E.nx
 rt:∀sm ρ' Φ' H' v σ',De.rt sm ρ'->Gr Φ0 H0 Φ' H'->EnvM K H0 Φ' H' (σ'++[Z v]) (ρ'++[Z sm])->E.rt v H'
 bk:tR K Φ0 H0 De.bk E.bk
 ct:tR K Φ0 H0 De.ct E.ct
 ex:XeOk K X Φ0 H0 De.ex
inductive lM(K:Â)(X:Cx)(t:bL)(E:Ends)(σ:St)(H:Hp):Prop|mk (Φ0:Hp) (H0:Hp) (Φ:Hp) (ρ:aj) (De:EndsM) (_:Gr Φ0 H0 Φ H) (_:EnvM K H0 Φ H σ ρ) (_:t De ρ) (_:EndOkM K X Φ0 H0 De E)
structure PSM(K:Â)(X:Cx)(st:Ç)(t:bL):Prop where ps:X.K=K->PS X st (lM K X t)
structure PSsM(K:Â)(X:Cx)(st:List Ç)(t:bL):Prop where ps:X.K=K->PSs X st (lM K X t)
section
variable{K:Â}{X:Cx}{a c e H:Hp}{f:St}{ρ:aj}{h:XD->aj->Prop}{v:V}{j:Sm}
theorem fF(g:Gr a c e H)(V:EnvM K c e H f ρ)(x:XeOk K X a c h):StM K X a c e H f [] ρ [] h:=⟨g,V.len.symm,by rw[Le,Le];show V,x⟩
theorem StM.env1(Q:StM K X a c e H f ([]++[Z v]) ρ ([]++[Z j]) h):EnvM K c e H (f++[Z v]) (ρ++[Z j]):=Q.E
end
section
variable{K:Â}{X:Cx}{st:Ç}{m:Y Ç}{t u:bL}{e a:Ã}{l:TX}{f:Õ}{p:dU}
noncomputable def DW:bL:=λc ρ=>c.nx ρ
noncomputable def xb(t u:bL):bL:=λc ρ=>t { c with nx:=u c } ρ
inductive mCut(t u:bL)(De:EndsM)(ρ:aj):Prop|mk (I:aj->Prop) (_:t { De with nx:=I } ρ) (_:∀ρ',I ρ'->u De ρ')
theorem aL:PSsM K X [] DW:=⟨λ_=>pss_nil.imp λE o H c=>by let⟨j,v,h,ρ,r,g,V,t,k⟩:=c;show k.nx ρ h H o t g V⟩
theorem au(y:PSM K X st t)(z:PSsM K X m u):PSsM K X (st::m) (xb t u):=⟨λr=>(xT (y.ps r) (z.ps r)).imp λE F H w=>by let⟨c,o,A,ρ,v,g,V,t,k⟩:=w;exact
 ⟨c,o,A,ρ,_,g,V,t,⟨λj h C B t' g' x=>⟨c,o,h,j,v,g',x,t',k⟩,k.rt,k.bk,k.ct,k.ex⟩⟩⟩
theorem aM(z:PSM K X st t)(A:PSsM K X m u):PSsM K X (st::m) (mCut t u):=⟨λv=>(xT (z.ps v) (A.ps v)).imp λE G H x=>by let⟨h,r,B,ρ,w,g,V,⟨I,t,c⟩,k⟩:=x;exact
 ⟨h,r,B,ρ,_,g,V,t,⟨λj o F C t' g' y=>⟨h,r,o,j,w,g',y,c j t',k⟩,k.rt,k.bk,k.ct,k.ex⟩⟩⟩
theorem ai(c:PSM K X st t):PSsM K X [st] t:=⟨λg=>xR (c.ps g)⟩
noncomputable def Ca:bL:=λ_ _=>False
theorem gb:PSM K X st Ca:=⟨λ_=>ps_never.imp λE v H c=>by let⟨h,o,r,ρ,j,g,V,t,k⟩:=c;show t⟩
noncomputable def mz(i:Nat)(l:TX):bL:=λg ρ=>l ρ (λs c=>g.nx (c.set i (Z s))) g.ex
theorem EL{i:Nat}{E:Ends}{w:St}{H:Hp}(h:lM K X (mz i l) E w H):kE (lXm K X l) (lb i) E w H:=by let⟨c,y,A,ρ,x,g,V,t,k⟩:=h;show⟨c,y,A,[],ρ,[],_,x.ex,fF g V k.ex,t,λs B j z v r o _=>k.nx _ j z _ r o.g (o.env1.store i)⟩
theorem ax{i:Nat}{x:Str}{c:Õ}(h:X.N.Nodup)(r:X.N[i]?=Z x)(w:gK X.env.scope x)(j:PX K X e l)(v:Î e (Z (.Name x c)) f.line X.env=pure Ŭ:=by rfl)(o:X.fn x=ū\/X.env.scope.names.lookup x=Z .local:=by nofun) :
  PSM K X (.Assign [.Name x c] e f) (mz i l):=⟨λg=>(A9 h r w (j.pe g) v o).imp λ_ _ _=>EL⟩
noncomputable def Hv(l:TX):bL:=λg ρ=>l ρ (λ_ c=>g.nx c) g.ex
theorem kq(A:PX K X e l)(B:Î e ũ f.line X.env=pure Ŭ:=by rfl):PSM K X (.Expr e f) (Hv l):=
 ⟨λz=>(mU (A.pe z) B).imp λE G H y=>by
  let⟨c,w,C,ρ,o,g,V,t,k⟩:=y
  show⟨c,w,C,[],ρ,[],_,o.ex,fF g V k.ex,t,λs F h x v r j _=>k.nx _ h x G r j.g j.env⟩⟩
noncomputable def vD(l:TX):bL:=λc ρ=>l ρ c.rt c.ex
theorem aD(B:PX K X e l):PSM K X (.Return (Z e) f) (vD l):=
 ⟨λA=>(Cg (B.pe A)).imp λE F H z=>by
  let⟨c,x,C,ρ,w,g,V,t,k⟩:=z
  show⟨c,x,C,[],ρ,[],_,w.ex,fF g V k.ex,t,λs j h y v r o _=>k.rt s j h y v F r o.g o.env1⟩⟩
noncomputable def yb(i:Nat):TX:=λρ R _=>match ρ[i]? with|some (Z (.ob ũ o))=>R (.ob ũ o) (ρ.set i ũ)|_=>False
theorem zG(i:Nat){x:Str}(N:X.N[i]?=Z x:=by rfl)(T:cx X.env.scope x:=by nofun)(hd:ad x:=by decide)
  (G:am x:=by decide):PX K X (.Name x f) (yb i):=⟨λ_=>(pv i N T hd G).imp λaA H Q F=>by
 let⟨a_,H0,U,τ,ρ,r,R,Rx,ap,t,k⟩:=F;unfold yb at t;split at t
 ·next o h=>
  have y:=aZ h;have P:=ap.l;let⟨fp,E⟩:=ap.env;let⟨q,e,_⟩:=E.ow i ũ o h;refine⟨_,e,k _ _ U H _ t ⟨ap.g,by rw[K0];show P,?_,ap.x⟩ (Same.refl _)⟩;have hk:=ap.lk;refine ap.E.re (λj=>if j=ρ.length+r.length then i else j) (by simp only[Kp,K0,KA,LF];omega) (λj x g=>?_) λA B a a' o1 o2 J M v=>?_
  ·have O:=aZ g;simp only[Kp,K0,KA,LF]at O;rcases K7 j ρ.length with c|c
   ·rw[Kn (by rw[K0];show c)]at g;rw[Kr (),Kn c,Kn (),Kn ()];rcases iN g with⟨_,_,z⟩|⟨_,z⟩
    ·cases z
    ·show⟨z,S⟩
   ·rw[Km (by rw[K0];show c),K0]at g;rcases K7 j (ρ.length+r.length)with I|I
    ·rw[Kn ()]at g;rw[Kr ()];constructor
     ·rw[Km c];show g
     ·rw[Km (),Kn (),Km ()]
    ·have w:j=ρ.length+r.length:=by omega
     subst w;rw[Km (),show ρ.length+r.length-ρ.length-r.length=0 by omega]at g;cases g;rw[Kq S,Kn y,Km (),Km (),show ρ.length+r.length-aA.length-τ.length=0 by omega,Kn (),e];show⟨h,S⟩
  ·have no:∀{j:Nat}{a:Ū Addr}{o:Om},(ρ.set i ũ++(r++[Z (Sm.ob ũ o)]))[j]?=Z (Z (.ob a o))->True:=λ_=>trivial
   have C:∀{j:Nat}{x:Sm},(ρ.set i ũ++(r++[Z (Sm.ob ũ o)]))[j]?=Z (Z x)->j≠i:=λ{j x} g w=>by subst w;rw[Kn (by rw[K0];show y),Ls y]at g;cases g
   have n1:=C J;have n2:=C M;have v:(if A=ρ.length+r.length then i else A)=(if B=ρ.length+r.length then i else B):=v;split at v<;>split at v<;>omega
 ·show t.elim⟩
noncomputable def vO(c:dU)(t u:bL):bL:=λh ρ=>c ρ (λb g=>(b=ū->t h g)/\(b=Ŭ->u h g)) h.ex
theorem aH{c:Ã}{a b:Y Ç}(C:PXB K X c p)(A:PSsM K X a t)(B:PSsM K X b u):PSM K X (.If c a b f) (vO p t u):=
 ⟨λy=>(zF (C.pt y) (A.ps y) (B.ps y)).imp λE I H z=>by
  let⟨h,x,F,ρ,w,g,V,t,k⟩:=z;refine⟨h,x,F,[],ρ,[],_,w.ex,fF g V k.ex,t,λc o j G r v _=>?_⟩
  cases c with
  |true=>refine xP ?_;show⟨h,x,j,o,w,v.g,v.env,r.1 S,k⟩
  |false=>refine xk ?_;show⟨h,x,j,o,w,v.g,v.env,r.2 S,k⟩⟩
noncomputable abbrev fR:=D->aj->(aj->Prop)->Prop
noncomputable abbrev jh:=Y D->aj->(aj->Prop)->Prop
inductive lGM(K:Â)(g:fR)(v:V)(σ:St)(H:Hp)(Q:St->Hp->Prop):Prop|mk (H0:Hp) (Φ:Hp) (ρ:aj) (d:D) (R:aj->Prop) (_:EnvM K H0 Φ H σ ρ) (_:Rp K Φ d v) (_:g d ρ R) (_:∀ρ' σ',R ρ'->EnvM K H0 Φ H σ' ρ'->Q σ' H)
inductive lGMs(K:Â)(g:jh)(vs:List V)(σ:St)(H:Hp)(Q:St->Hp->Prop):Prop|mk (H0:Hp) (Φ:Hp) (ρ:aj) (ds:List D) (R:aj->Prop) (_:EnvM K H0 Φ H σ ρ) (_:RpL K Φ ds vs) (_:g ds ρ R) (_:∀ρ' σ',R ρ'->EnvM K H0 Φ H σ' ρ'->Q σ' H)
structure PGM(K:Â)(X:Cx)(e:Ã)(g:fR):Prop where pg:X.K=K->PG X e (lGM K g)
structure PGMs(K:Â)(X:Cx)(es:List Ã)(g:jh):Prop where pg:X.K=K->PGs X es (lGMs K g)
end
section
variable{K:Â}{X:Cx}{e:Ã}{es:Y Ã}{a:Õ}{g:fR}{c:jh}
noncomputable def Fb(i:Nat):fR:=λd ρ R=>R (ρ.set i (Z (.v d)))
theorem bc{i:Nat}{x:Str}(h:X.N.Nodup)(l:X.N[i]?=Z x)(m:gK X.env.scope x)(j:X.fn x=ū\/X.env.scope.names.lookup x=Z .local:=by nofun):PGM K X (.Name x a) (Fb i):=
 ⟨λ_=>(xq h l m j).imp λv t H Q f=>by let⟨o,p,ρ,d,R,E,r,g,k⟩:=f;show k _ _ g ((E.snocV r).store i)⟩
noncomputable def zQ:jh:=λds ρ R=>match ds with| []=>R ρ|_=>False
noncomputable def Az(t:fR)(u:jh):jh:=λds ρ R=>match ds with|d::r=>t d ρ λf=>u r f R| []=>False
theorem dN:PGMs K X [] zQ:=⟨λ_=>pgs_nil.imp λv l H Q f=>by
 let⟨h,j,ρ,ds,R,E,r,g,k⟩:=f
 cases ds with
 |nil=>show⟨LM.mp r.1,k _ _ g E⟩
 |cons=>show g.elim⟩
theorem bt(t:PGM K X e g)(w:PGMs K X es c)(y:(È (e::es) X.env).map (·.2)=assign e X.env::(È es X.env).map (·.2):=by rfl):PGMs K X (e::es) (Az g c):=
 ⟨λl=>(wR (t.pg l) (w.pg l) y).imp λvs B H Q p=>by
  let⟨j,m,ρ,ds,R,E,r,g,k⟩:=p
  cases ds with
  |nil=>show g.elim
  |cons d ds=>
   cases vs with
   |nil=>show absurd r.1 (by simp)
   |cons v vs=>
    refine⟨v,vs,S,j,m,ρ,d,_,E,r.2 0 v d S S,g,λh A g' o=>⟨j,m,h,ds,R,o,⟨by have:=r.1;simpa using this,λi u f z x=>r.2 (i+1) u f z x⟩,g',k⟩⟩⟩
noncomputable def C1(n:Nat)(t:jh):fR:=λd ρ R=>match d with|.tup ds=>ds.length=n/\t ds ρ R|.lst ds=>ds.length=n/\t ds ρ R|_=>False
noncomputable def vv(K:Â)(n:Nat)(t:eU):TG:=λv f H Q=>sy K n t v f H Q\/tH K n t v f H Q
theorem Eo{k n:Nat}{t:eU}(m:X.K=K)(o:X.calm=ū)(h:PGs X es t)(p:(È es X.env).length=n)(l:(È es X.env).findIdx? (·.1)=ũ):PG X (.Tuple es k a) (vv K n t):=λf s w H v u Q I r j=>by
 rcases j with j|j
 ·show vo m o h p l f s w H v u Q I r j
 ·show wb m o h p l f s w H v u Q I r j
theorem dJ{k n:Nat}(p:X.calm=ū)(h:PGMs K X es c)(t:(È es X.env).length=n:=by rfl)(o:(È es X.env).findIdx? (·.1)=ũ:=by rfl):PGM K X (.Tuple es k a) (C1 n c):=
 ⟨λj=>(Eo j p (h.pg j) t o:PG X (.Tuple es k a) (vv K n (lGMs K c))).imp λv u H Q m=>by
  let⟨f,l,ρ,d,R,E,r,g,k⟩:=m
  cases d with
  |tup ds=>cases r with|tup h1 h2 h3=>show .inl ⟨_,_,S,.of (E.fz _ _ h1),by rw[h2];show g.1,f,l,ρ,ds,R,E,⟨h2,h3⟩,g.2,k⟩
  |lst ds=>cases r with|lst h1 h2 h3=>show .inr ⟨_,_,S,.of (E.fz _ _ h1),by rw[h2];show g.1,f,l,ρ,ds,R,E,⟨h2,h3⟩,g.2,k⟩
  |_=>show g.elim⟩
end
section
variable{K:Â}{X:Cx}{t u:bL}{e a:Ã}{f:TX}{c:Õ}
noncomputable def FY(f:TX)(g:fR):bL:=λj ρ=>f ρ (xV λd h=>g d h j.nx) j.ex
theorem fj{h:Ã}{y:fR}(I:PX K X e f)(J:PGM K X h y)(M:ė [h] e c.line X.env=pure Ŭ:=by rfl)(N:Ę [h] e X.env=pure ũ:=by rfl)
  (G:(È [h] X.env).map (·.2)=[assign h X.env]:=by rfl):PSM K X (.Assign [h] e c) (FY f y):=
 ⟨λz=>(yC (I.pe z) (J.pg z) M N G).imp λE Q H C=>by
  let⟨m,x,P,ρ,A,g,V,t,k⟩:=C;refine⟨m,x,P,[],ρ,[],_,A.ex,fF g V k.ex,t,λs p j B v r l _=>?_⟩;let⟨d,rfl,r⟩:=r.get
  show⟨x,j,p,d,_,l.env,l.last,r,λo w O F=>k.nx o j B w O l.g F⟩⟩
noncomputable abbrev ja:=aj->(Y D->aj->Prop)->(XD->aj->Prop)->Prop
inductive lIM(K:Â)(X:Cx)(t:ja)(σ:St)(H:Hp)(R':It->Hp->Prop):Prop|mk (Φ0:Hp) (H0:Hp) (Φ:Hp) (τ:St) (ρ:aj) (κ:aj) (R:List D->aj->Prop) (Rx:XD->aj->Prop) (_:StM K X Φ0 H0 Φ H σ τ ρ κ Rx) (_:t ρ R Rx) (_:∀ds ρ' Φ' H' J,R ds ρ'->StM K X Φ0 H0 Φ' H' σ τ ρ' κ Rx->Same Φ Φ'->SteadyD K J Φ' ds->R' J H')
structure PIM(K:Â)(X:Cx)(tg e:Ã)(t:ja):Prop where pi:X.K=K->PI X tg e (lIM K X t)
noncomputable def iD(t:bg):ja:=λρ R _=>t (c8 ρ) λds=>R ds ρ
theorem gh{l:Ã}{t:bg}(h:PID K X l e t):PIM K X l e (iD t):=⟨λw=>(h.pi w).imp λC H z p=>by
 let⟨y,o,x,E,ρ,B,R,A,Q,t,k⟩:=p
 show⟨o,x,c8 ρ,_,Q.env.toD,t,λds j m J r g v=>k ds ρ j m J r (Q.gr g) g.f v⟩⟩
noncomputable def CC(t:cI):ja:=λρ R h=>t ρ (xaD λds g=>match ds with| [.int j]=>(-(2^62)<=j/\j<2^62)/\R (gy 0 j.toNat) g|_=>False) h
theorem xu{M:Ã}{w:cI}{p:Õ}(F:Gl X "range")(G:X.mg "range"=ũ)(E:PXA K X [a] w)(I:starEach [a] X.env=[(Ŭ,eval a X.env)]:=by rfl):PIM K X M (.Call (.Name "range" p) [a] [] c) (CC w):=
 ⟨λC=>(vd F G (E.pa C) I).imp λU H Q z=>by
  let⟨h,x,N,P,ρ,O,R,A,ap,t,k⟩:=z;refine⟨h,x,N,P,ρ,O,_,A,ap,t,λas m l y vs ts g T J o B=>?_⟩;let⟨ds,hd,g⟩:=g.get;have rl:=o.vals ap.lk hd J
  match ds,g,rl with
  | [.int j],r,rl=>
   let⟨v,rfl,g⟩:=rl.one_inv;obtain rfl:=g.i
   show⟨j,S,r.1.1,r.1.2,k _ m l y _ r.2 (o.pop ap.lk) B vx⟩⟩
theorem XeOk.join{l o H m:Hp}{y:XD->aj->Prop}(x:XeOk K X l o y)(g:Gr l o m H):XeOk K X m o y:=λA v p z w e s' j r g' V h=>x A v p z w e s' j r (g.join g') V h
inductive ForM(gd:fR)(tb:bL)(De:EndsM)(ds:List D)(ρ0:aj):Prop|mk (I:Nat->aj->Prop) (_:I 0 ρ0) (_:∀(i:Nat)(d:D)(ρ':aj),ds[i]?=Z d->I i ρ'->gd d ρ' λρ2=>tb { De with nx:=I (i+1),ct:=I (i+1),bk:=De.nx } ρ2) (_:∀ρ',I ds.length ρ'->De.nx ρ')
noncomputable def JC(l:ja)(j:fR)(tb:bL):bL:=λh ρ=>l ρ (λds g=>ForM j tb h ds g) h.ex
theorem fE{tg w:Ã}{C:Y Ç}{ti:ja}{gd:fR}{tb:bL}(hp:PassesOwn (model X.prog X.w) X.A X.env X.xe)(hc:X.calm=ū)(hi:PIM K X tg w ti)(hg:PGM K X tg gd)(hb:PSsM K X C tb)
  (hs:∀x,Ô w X.env x=pure x:=by intro _;rfl):PSM K X (.For tg w C [] c) (JC ti gd tb):=
 ⟨λhK=>(Bz hp hc (hi.pi hK) (hg.pg hK) (hb.ps hK) hs).imp λE σ H O7=>by
  let⟨N,G,Φ,ρ,De,g,V,t,k⟩:=O7;refine⟨N,G,Φ,[],ρ,[],_,De.ex,fF g V k.ex,t,λds ρ0 O H1 J Qq S1 _ aA=>?_⟩;let⟨I,h0,QD,Ss⟩:=Qq;refine⟨λi m σ F=>m=ds.length-i/\i<=ds.length/\∃h j,Gr N G h F/\Same O h/\EnvM K G h F σ j/\I i j,⟨ds.length,by simp,Mq _,O,ρ0,S1.g,Same.refl _,S1.env,h0⟩,?_⟩;rintro i m σ' F ⟨rfl,hi,h,j,g',s',ap,hI⟩;by_cases a_:i<ds.length
  ·refine .inr ⟨aA.go i F (s'.trans ap.fz) a_,λU Q=>∃h j,Gr N G h Q/\Same O h/\EnvM K G h Q U j/\I (i+1) j,λU Q h2=>⟨ds.length-(i+1),(),S,a_,h2⟩,λx Q y=>?_⟩;let⟨P,A,rx⟩:=aA.yl i h F x Q _ s' ap.fz (bA a_) y;refine⟨G,P,j,_,_,ap.gr A,rx,QD i _ j (bA a_) hI,λρ2 σ3 t2 V3=>?_⟩;refine⟨P,G,P,ρ2,_,?_,V3,t2,⟨?_,?_,?_,?_,k.ex.join (g'.trans A)⟩⟩
   ·show⟨Same.refl _,(g'.trans A).h,A.s,λp u hp hn _=>hn⟩
   ·intro o l R z T B M;show⟨l,o,(g'.trans A).join B,(s'.trans A.f).trans B.f,M,T⟩
   ·intro sm o l R v z r B M;show k.rt sm o l R v z r ((g'.trans A).join B) M
   ·intro o l R z T B M;show k.nx o l R z T ((g'.trans A).join B) M
   ·intro o l R z T B M;show⟨l,o,(g'.trans A).join B,(s'.trans A.f).trans B.f,M,T⟩
  ·have e:i=ds.length:=by omega
   subst e
   show .inl ⟨aA.stop F (s'.trans ap.fz),k.nx j h F σ' (Ss j hI) g' ap⟩⟩
end
noncomputable def aS:Y Sm->Y Addr->aj
 | [],_=>[]
 |.v d::as,ps=>Z (.v d)::aS as ps
 |.ob _ o::as,p::ps=>Z (.ob (Z p) o)::aS as ps
 |.ob _ _::as,[]=>ũ::aS as []
noncomputable def gO(N:Y Str)(as:Y Sm)(ps:Y Addr):aj:=aS as ps++List.replicate (N.length-as.length) ũ
noncomputable def aW:Y Str->Y Sm->Y Addr->aj
 | [],as,ps=>aS as ps
 |_::N,[],ps=>ũ::aW N [] ps
 |_::N,.v d::as,ps=>Z (.v d)::aW N as ps
 |_::N,.ob _ o::as,p::ps=>Z (.ob (Z p) o)::aW N as ps
 |_::N,.ob _ _::as,[]=>ũ::aW N as []
theorem jX:∀(N:Y Str)(as:Y Sm)(ps:Y Addr),gO N as ps=aW N as ps
 | [],as,ps=>by unfold gO;rw[LF,Nat.zero_sub,List.replicate_zero,Le];rfl
 |n::N,[],ps=>by
  have:=jX N [] ps;unfold gO at this ⊢;change List.replicate (N.length+1-0) ũ=ũ::aW N [] ps;rw[←this];rfl
 |n::N,.v d::as,ps=>by have:=jX N as ps;unfold gO at this ⊢;rw[KA,KA,NA];show LW (Z (Sm.v d)::·) this
 |n::N,.ob a o::as,p::ps=>by have:=jX N as ps;unfold gO at this ⊢;rw[KA,KA,NA];show LW (Z (Sm.ob (Z p) o)::·) this
 |n::N,.ob _ _::as,[]=>by have:=jX N as [];unfold gO at this ⊢;rw[KA,KA,NA];show LW (ũ::·) this
noncomputable def fB(k:Y Om->Prop):Y Sm->Y Addr->Nat->aj->Prop
 | [],_,_,_=>k []
 |.v _::as,ps,i,ρ=>fB k as ps (i+1) ρ
 |.ob _ _::as,p::ps,i,ρ=>∃o,ρ[i]?=Z (Z (.ob (Z p) o))/\fB (λos=>k (o::os)) as ps (i+1) ρ
 |.ob _ _::_,[],_,_=>False
noncomputable def kZ:Y Sm->Nat
 | []=>0
 |.v _::as=>kZ as
 |.ob _ _::as=>kZ as+1
noncomputable def eV:Y Sm->Y V->Y Addr
 |.v _::as,_::vs=>eV as vs
 |.ob _ _::as,.ref p::vs=>p::eV as vs
 |_,_=>[]
section
variable{K:Â}{f H g m l:Hp}
theorem vA:∀{as:Y Sm}{vs:Y V}{c:Y (Y Addr)},ArgM K f H as vs c->(eV as vs).length=kZ as:=by
 intro as vs c h
 induction h with
 |nil=>rfl
 |v _ _ a=>show a
 |o _ _ a=>show LW (·+1) a
theorem pD:∀{as:Y Sm}{ps:Y Addr},(aS as ps).length=as.length
 | [],_=>rfl
 |.v d::as,ps=>by change (aS as ps).length+1=_;rw[pD];rfl
 |.ob _ o::as,p::ps=>by change (aS as ps).length+1=_;rw[pD];rfl
 |.ob _ _::as,[]=>by change (aS as []).length+1=_;rw[pD];rfl
theorem kT:∀{as:Y Sm}{vs:Y V}{a:Y (Y Addr)},ArgM K f H as vs a->∀{i:Nat}{x:Sm},(aS as (eV as vs))[i]?=Z (Z x)->
  (∃d v,x=.v d/\vs[i]?=Z v/\Rp K f d v)\/∃o p F,x=.ob (Z p) o/\vs[i]?=Z (.ref p)/\a[i]?=Z F/\OmS K f H o p F:=by
 intro as vs a h
 induction h with
 |nil=>intro i x h;simp[aS]at h
 | @v d _ _ _ _ r t c=>
  intro i x h
  cases i with
  |zero=>cases h;show .inl ⟨d,_,S,S,r⟩
  |succ i=>show c (i:=i) h
 | @o _ o p F _ _ _ r t c=>
  intro i x h
  cases i with
  |zero=>cases h;show .inr ⟨o,p,F,S,S,S,r⟩
  |succ i=>show c (i:=i) h
theorem yc:∀{a:Y (Y Addr)},a.flatten.Nodup->∀{i j:Nat}{F G:Y Addr},a[i]?=Z F->a[j]?=Z G->i≠j->∀b∈F,b∉G
 | [],_,i,j,F,G,h,_,_,_,_=>by simp at h
 |L::a,nd,i,j,F,G,r,t,c,b,p=>by
  let⟨w,v,u⟩:=LI.mp (show (L++a.flatten).Nodup from nd);intro o
  cases i with
  |zero=>
   cases r
   cases j with
   |zero=>show c S
   |succ j=>show u b p b (OC.mpr ⟨G,KN (i:=j) (by simpa using t),o⟩) S
  |succ i=>
   cases j with
   |zero=>
    cases t;show u b o b (OC.mpr ⟨F,KN (i:=i) (by simpa using r),p⟩) S
   |succ j=>show yc v (by simpa using r) (by simpa using t) (λe=>c (by rw[e])) b p o
theorem yw{N:Y Str}{as:Y Sm}{vs:Y V}{t:Y (Y Addr)}(Q:Same f H)(tb:TabF K f)(u:ArgM K f H as vs t)(nd:t.flatten.Nodup)(O:∀b∈t.flatten,f b=ũ):EnvM K (cc H t.flatten) f H (start N vs) (gO N as (eV as vs)):=by
 have w:∀{i:Nat}{x:Sm},(gO N as (eV as vs))[i]?=Z (Z x)->(aS as (eV as vs))[i]?=Z (Z x):=λ{i x} h=>by
  unfold gO at h;rcases K7 i (aS as (eV as vs)).length with c|c
  ·rwa [Kn c]at h
  ·rw[Km c,Mt]at h;split at h<;>cases h
 have I:∀{i:Nat}{v:V},vs[i]?=Z v->(start N vs)[i]?=Z (Z v):=λ{i v} h=>by unfold start;rw[Kn (by rw[wy];show aZ h),Kv,h];rfl
 let⟨P,U⟩:=u.len;refine⟨λi=>t.getD i [],Q,by unfold start gO;rw[Kp,Kp,wy,LS,LS,pD,P],λi d h=>?_,λi a o h=>?_,λi a o h b A=>?_,λi j a T o G J M c b A=>?_,tb⟩
 ·rcases kT u (w h)with⟨d',v,e,B,r⟩|⟨o,p,F,e,_⟩
  ·cases e;show⟨v,I B,r⟩
  ·cases e
 ·rcases kT u (w h)with⟨d',v,e,B,r⟩|⟨G,p,F,e,B,C,r⟩
  ·cases e
  ·cases e;refine⟨p,I B,(λq e=>by cases e;rfl),?_⟩;rw[LB,C];show r
 ·rcases kT u (w h)with⟨d',v,e,_⟩|⟨G,p,F,e,B,C,r⟩
  ·cases e
  ·rw[LB,C]at A;have E:b∈t.flatten:=OC.mpr ⟨F,KN C,A⟩;show⟨JI E,O b E⟩
 ·rcases kT u (w J)with⟨d',v,e,_⟩|⟨X,aA,R,e,_,y,_⟩
  ·cases e
  ·rcases kT u (w M)with⟨d',v,e,_⟩|⟨a_,p2,ap,e,_,z,_⟩
   ·cases e
   ·rw[LB,y]at A;rw[LB,z];show yc nd y z c b A
theorem sR{y:Nat->Y Addr}{X:St}{ρ:aj}{k:Y Om->Prop}(E:EnvM' K l g m X ρ y):∀{as:Y Sm}{vs:Y V}{G:Y (Y Addr)}{i:Nat}{k:Y Om->Prop},ArgM K f H as vs G->fB k as (eV as vs) i ρ->
  ∃os w,OutM K g m as vs os w/\k os/\w.flatten.Nodup/\(∀b∈w.flatten,l b=ũ/\g b=ũ)/\∀b∈w.flatten,∃j a o,i<=j/\j<i+as.length/\ρ[j]?=Z (Z (.ob a o))/\b∈y j:=by
 intro as vs G i k h
 induction h generalizing i k with
 |nil=>show λh=>⟨[],[],.nil,h,by simp,λb u=>(by cases u),λb u=>(by cases u)⟩
 |v r t O=>
  intro h;let⟨os,w,I,J,M,N,B⟩:=O (k:=k) (i:=i+1) h;refine⟨os,[]::w,.v I,J,by simpa using M,λb u=>N b (by simpa using u),λb u=>?_⟩;let⟨j,a,o,P,Q,A⟩:=B b (by simpa using u);show⟨j,a,o,(),by rw[KA];omega,A⟩
 | @o _ aA p F as vs G r t O=>
  intro h;let⟨x,C,h⟩:=(show ∃o,ρ[i]?=Z (Z (.ob (Z p) o))/\fB (λos=>k (o::os)) as (eV as vs) (i+1) ρ from h);let⟨os,w,I,J,M,N,B⟩:=O (k:=λos=>k (x::os)) (i:=i+1) h;let⟨q,e,ap,R⟩:=E.ow i _ x C;cases ap p S;refine⟨x::os,y i::w,.o R I,J,?_,λb u=>?_,λb u=>?_⟩
  ·refine LI.mpr ⟨R.nodup,M,λb u c T e=>?_⟩;subst e;let⟨j,a,o,P,Q,A,U⟩:=B b T;show E.dj i j _ a x o C A () b u U
  ·rcases K6.mp (show b∈y i++w.flatten from u)with z|z
   ·show E.no i _ x C b z
   ·show N b z
  ·rcases K6.mp (show b∈y i++w.flatten from u)with z|z
   ·show⟨i,_,x,Kw _,by rw[KA];omega,C,z⟩
   ·let⟨j,a,o,P,Q,A⟩:=B b z;show⟨j,a,o,(),by rw[KA];omega,A⟩
end
section
variable{P:Ä}{w:Å}{K:Â}{mg:Str->Ū Value}{base:Heap}
theorem Fun.okM{x qual:Str}{st:Ç}{f:Addr}{fd:Ë}{N ps:Y Str}{k:Nat}{sp:b7}(F:Fun K x qual st f fd)(ap:FnScope N ps (aF st))(len:∀as R B,sp as R B->as.length=ps.length)
  (Q0:∀(O:Value)(A:É)(outer:Y é)(s:À)(H:Hp)(E:XK)(as:Y Sm)(R:Sm->Y Om->Prop)(B:XD->Y Om->Prop)(qs:Y Addr),fd.code=O->Room k (A.deeper (ê qual (aF st) s.heap.objs.size f O))->sp as R B->qs.length=kZ as->
   ∃t,PSsM K (gM bh P w K mg base N qual (aF st) f O A outer s H E).nox (dR st) t/\let ke:EndsM:={ nx:=λρ=>fB (R (.v .non)) as qs 0 ρ,rt:=λC ρ=>fB (R C) as qs 0 ρ };t ke (aW N as qs)):FnOk P w K mg base bh (k+1) f fd ps (lSpM K sp):=by
 refine F.okL ap (λvs H Q E ⟨J,as,M,R,B,C,tb,U,nd,hn,h,_⟩=>by rw[U.len.1];show len as R B h) (λO A outer s H vs Q E Pg hr ⟨J,as,M,R,B,C,tb,U,nd,hn,h,kk⟩=>?_);let⟨t,ht,hq⟩:=Q0 O A outer s H E as R B (eV as vs) Pg hr h (vA U);dsimp only at hq;rw[←jX]at hq;have al:=len as R B h
 have nl:ps.length<=N.length:=by have:=LW List.length ap.pre;rw[KY]at this;omega
 have T:∀C l m y v p,fB (R C) as (eV as vs) 0 l->Gr J (cc H M.flatten) m y->EnvM K (cc H M.flatten) m y (p++[Z v]) (l++[Z C])->Q v y:=λI l m y v p hk g V=>by
  let⟨fp,G⟩:=V
  have hl:p.length=l.length:=by have:=G.len;simpa using this
  let⟨os,Px,h1,h2,h3,h4,h5⟩:=sR (k:=R I) (G.take hl.symm) U hk
  have aA:(l++[Z I])[l.length]?=Z (Z I):=by rw[Km (Kw _),Lw];rfl
  cases I with
  |v d=>
   let⟨u,a_,r⟩:=G.sl _ d aA;rw[←hl,Km (Kw _),Lw]at a_;cases a_;show kk (.v d) os m y v [] Px h2 g (.v r) h1 (by simpa using h3) (λb X=>h4 b (by simpa using X))
  |ob a o=>
   let⟨u,a_,XM,r⟩:=G.ow _ a o aA;rw[←hl,Km (Kw _),Lw]at a_;cases a_;refine kk (.ob a o) os m y _ (fp l.length) Px h2 g (.o XM r) h1 ?_ λb X=>?_
   ·refine LI.mpr ⟨r.nodup,h3,λb X c hc e=>?_⟩;subst e;let⟨j,a2,o2,_,_,j3,j4⟩:=h5 b hc;have hj:=aZ j3;show G.dj _ j a a2 o o2 aA (by rw[Kn hj];show j3) () b X j4
   ·rcases K6.mp X with z|z
    ·show G.no _ a o aA b z
    ·show h4 b z
 have g0:Gr J (cc H M.flatten) J H:=⟨Same.refl _,u1,C,λ_ _ _ h _=>h⟩;refine⟨lM K _ t,ht.ps S,J,cc H M.flatten,J,_,_,g0,yw C tb U nd hn,hq,⟨λl m y p r g V=>?_,λI l m y v p r g V=>T I l m y v p r g V,λ_ _ _ _ h=>h.elim,λ_ _ _ _ h=>h.elim,λ_ _ _ _ _ _ _ _ h=>h.elim⟩⟩;show T (.v .non) l m y .non p r g (V.snocV .non)
theorem Fun.clM{x:Str}{st:Ç}{f:Addr}{a:Ë}{ps:Y Str}{n:Nat}{z:b7}(F:Fun K x x st f a)(m:mg x=Z (.ref f))(H:FnOk P w K mg base bh n f a ps (lSpM K z))
  (b:oS st x x ps:=by intro _ _ _ _ _ _;first|show nG λ_=>rfl|show jy λ_ _=>rfl|show nC λ_ _ _=>rfl|show pH λ_ _ _ _=>rfl|show us_0 S|show us_5 λ_ _ _ _ _=>rfl|show nM λ_ _ _ _ _ _=>rfl|show us_7 λ_ _ _ _ _ _ _=>rfl|show us_8 λ_ _ _ _ _ _ _ _=>rfl):ClM P w K mg base n x ps z:=⟨f,a,H,F.binds b,F.kp,m⟩
theorem ClM.mono{n m:Nat}{x:Str}{ps:Y Str}{z:b7}(C:ClM P w K mg base n x ps z)(k:n<=m:=by decide):ClM P w K mg base m x ps z:=by let⟨f,a,F,r⟩:=C.ex;show⟨f,a,F.mono k,r⟩
end
section
variable{K:Â}{X:Cx}{e a b:Ã}{A J G:TX}{C l B y I:Õ}{x:Str}{i:Nat}
noncomputable def ownL(ρ:aj)(i:Nat)(k:Ū Addr->Y D->Prop):Prop:=match ρ[i]? with|some (Z (.ob a (.lst ds)))=>k a ds|_=>False
theorem ownL.get{ρ:aj}{i:Nat}{k:Ū Addr->Y D->Prop}(h:ownL ρ i k):∃a ds,ρ[i]?=Z (Z (.ob a (.lst ds)))/\k a ds:=by
 unfold ownL at h;split at h
 ·next a ds e=>show⟨a,ds,e,h⟩
 ·show h.elim
theorem StM.list{c j f H:Hp}{h u:St}{ρ t:aj}{m:XD->aj->Prop}{a:Ū Addr}{ds:Y D}(Q:StM K X c j f H h u ρ t m)(o:ρ[i]?=Z (Z (.ob a (.lst ds)))):∃q vs,h[i]?=Z (Z (.ref q))/\H q=Z (.lst vs)/\RpL K f ds vs /\
  ∀(es:Y D)(ws:Y V),RpL K f es ws->StM K X c j f (aq H q (.lst ws)) h u (ρ.set i (Z (.ob a (.lst es)))) t m:=by
 have g:=aZ o;let⟨q,vs,e,v,F,M,w,z⟩:=Q.E.list (i:=i) (a:=a) (ds:=ds) Q.g (by rw[Kn g];show o);rw[Kn (by rw[←Q.l];show g)]at e;refine⟨q,vs,e,v,w,λes ws r=>?_⟩;let⟨p,E⟩:=z es ws r;refine⟨E,by rw[K0];show Q.l,?_,Q.x⟩;rw[List.set_append_left _ _ g]at p;show p
noncomputable def DN(i:Nat)(A:TX):bL:=λf ρ=>ownL ρ i λ_ _=>A ρ (xV λd c=>ownL c i λa ds=>ds.length<sizeLine/\NF (ds++[d]) λes=>f.nx (c.set i (Z (.ob a (.lst es))))) f.ex
theorem eK(i:Nat)(aA:PX K X e A)(M:((backTo B (starEach [e] X.env)).all (λx=>!x.1)&&(backToKw B (keywordEach [] X.env)).all (λx=>x.1.isSome)&&decide (([e]:Y Ã).length+([]:Y Ñ).length+(if ([]:Y Ñ).isEmpty then 0 else 1)<30))=ū)
  (h:starEach [e] X.env=(Ŭ,eval e X.env)::starEach [] X.env) (a_:X.N[i]?=Z x:=by rfl) (hv:cx X.env.scope x:=by nofun) (hd:ad x:=by decide) (O:am x:=by decide)
  (P:Æ (.Name x y) "append" X.env (eval (.Name x y) X.env)=eval (.Name x y) X.env:=by rfl) (Q:(l.endLine==B.line)=ū:=by rfl) (hs:Î (.Call (.Attribute (.Name x y) "append" l) [e] [] B) ũ C.line X.env=pure Ŭ:=by rfl) :
  PSM K X (.Expr (.Call (.Attribute (.Name x y) "append" l) [e] [] B) C) (DN i A):=
 ⟨λU=>(mU (gY L7 OD OE rX (pv i a_ hv hd O) (dz (aA.pe U) pa_nil h) P M Q h ah) hs).imp λE σ H F=>by
  let⟨c,z,Φ,ρ,w,g,V,t,k⟩:=F;let⟨a,ds,ho,t⟩:=ownL.get t;have ap:=fF g V k.ex;let⟨q,vs,p,hp,rl,_⟩:=ap.list ho;refine⟨_,p,.inl ⟨S,vs,SqL.of hp⟩,c,z,Φ,[],ρ,[],_,w.ex,ap,t,λs ρ1 f H1 v r j _=>?_⟩;let⟨d,rfl,r⟩:=r.get;let⟨a1,WG,R,hl,r⟩:=ownL.get r;let⟨q1,T,u,N,o,k1⟩:=j.list R;rw[p]at u;cases u;have m:=k1 _ _ (o.append (.one j.last))
  show⟨q,T,v,S,S,N,by rw[o.1];show hl,k.nx _ f _ σ r.get m.g m.env⟩⟩
noncomputable def EK(i:Nat):TX:=λρ R _=>ownL ρ i λa ds=>∃d,ds[ds.length-1]?=Z d/\NF ds.dropLast λes=>R (.v d) (ρ.set i (Z (.ob a (.lst es))))
theorem Bi(i:Nat)(u:X.N[i]?=Z x:=by rfl)(c:cx X.env.scope x:=by nofun)(hd:ad x:=by decide)(h:am x:=by decide)
  (j:Æ (.Name x y) "pop" X.env (eval (.Name x y) X.env)=eval (.Name x y) X.env:=by rfl) (m:(l.endLine==B.line)=ū:=by rfl):PX K X (.Call (.Attribute (.Name x y) "pop" l) [] [] B) (EK i):=
 ⟨λO=>(xg L7 NC ND wj (pv i u c hd h) j m).imp λT H Q g=>by
  let⟨F,M,E,U,ρ,P,R,N,ap,t,k⟩:=g;let⟨a,ds,w,d,p,t⟩:=ownL.get t;let⟨q,vs,r,f,rl,k1⟩:=ap.list w;let⟨v,c,z⟩:=rl.at p;rw[←rl.1]at c;have o:=k1 _ _ rl.dropLast
  show⟨_,r,.inl ⟨S,vs,SqL.of f⟩,q,vs,v,S,S,f,c,k _ _ E _ v t.get (o.pushV z) (Same.refl _)⟩⟩
noncomputable def AF(i:Nat)(J:TX):TX:=λρ R f=>ownL ρ i λ_ _=>J ρ (xV λn c=>match n with|.int n=>ownL c i λa ds=>∃j d,n=(j:Nat)/\j<2^62/\ds[j]?=Z d/\NF (ds.eraseIdx j) λes=>R (.v d) (c.set i (Z (.ob a (.lst es))))|_=>False) f
theorem RpL.eraseIdx{c:Hp}{ds:Y D}{vs:Y V}(h:RpL K c ds vs)(j:Nat):RpL K c (ds.eraseIdx j) (vs.eraseIdx j):=by rw[LV,LV];show (h.take j).append (h.drop (j+1))
theorem Ee{j n:Nat}(h:j<n):Ā (j:Int) n=Z j:=by unfold Ā;simp;omega
theorem Ip(i:Nat)(ha:PX K X a J)(N:((backTo B (starEach [a] X.env)).all (λx=>!x.1)&&(backToKw B (keywordEach [] X.env)).all (λx=>x.1.isSome)&&decide (([a]:Y Ã).length+([]:Y Ñ).length+(if ([]:Y Ñ).isEmpty then 0 else 1)<30))=ū)
  (o:starEach [a] X.env=(Ŭ,eval a X.env)::starEach [] X.env) (hN:X.N[i]?=Z x:=by rfl) (c:cx X.env.scope x:=by nofun) (hd:ad x:=by decide) (P:am x:=by decide)
  (T:Æ (.Name x y) "pop" X.env (eval (.Name x y) X.env)=eval (.Name x y) X.env:=by rfl) (U:(l.endLine==B.line)=ū:=by rfl):PX K X (.Call (.Attribute (.Name x y) "pop" l) [a] [] B) (AF i J):=
 ⟨λhK=>(gY L7 NC ND D3 (pv i hN c hd P) (dz (ha.pe hK) pa_nil o) T N U o ah).imp λσ H Q M=>by
  let⟨h,F,Φ,τ,ρ,κ,R,a_,ap,t,k⟩:=M;let⟨a,ds,ho,t⟩:=ownL.get t;let⟨q,vs,z,hp,rl,_⟩:=ap.list ho;refine⟨_,z,.inl ⟨S,vs,SqL.of hp⟩,h,F,Φ,τ,ρ,κ,_,a_,ap,t,λs ρ1 m H1 w r p f1=>?_⟩;let⟨n,rfl,r⟩:=r.get;have g:=p.last;let⟨n,rfl,r⟩:=i8 r;obtain rfl:=g.i;let⟨a1,WG,Tv,j,d,rfl,h62,hj,r⟩:=ownL.get r;have f:=p.pop ap.lk;let⟨q1,UO,E,O,u,k1⟩:=f.list Tv;rw[z]at E;cases E;let⟨v,c,rv⟩:=u.at hj;have aA:=k1 _ _ (u.eraseIdx j)
  show⟨q,UO,_,j,v,S,S,O,(),(),Ee (aZ c),c,k _ _ m _ v r.get (aA.pushV rv) f1⟩⟩
noncomputable def EJ(i:Nat)(A G:TX):bL:=λg ρ=>A ρ (xV λd c=>ownL c i λ_ _=>G c (xV λh f=>match h with|.int n=>ownL f i λa ds=>∃j,eT ds.length n=Z j/\NF (ds.set j d) λes=>g.nx (f.set i (Z (.ob a (.lst es))))|_=>False) g.ex) g.ex
theorem mZ(i:Nat)(he:PX K X e A)(hk:PX K X b G)(hN:X.N[i]?=Z x:=by rfl)(hv:cx X.env.scope x:=by nofun)(hd:ad x:=by decide)(ap:am x:=by decide)
  (ha:∀v,assign (.Subscript (.Name x y) b I) X.env v=(do
   let ov ←holding [v] (eval (.Name x y) X.env)
   let iv ←holding [v,ov] (eval b X.env)
   standAt I
   holding [v,ov,iv] (setItem ov iv v)
   release [v,ov,iv] []):=by intro _;rfl)
  (hs:ė [.Subscript (.Name x y) b I] e C.line X.env=pure Ŭ:=by rfl) (hw:Ę [.Subscript (.Name x y) b I] e X.env=pure ũ:=by rfl)
  (h1:(È [.Subscript (.Name x y) b I] X.env).map (·.2)=[assign (.Subscript (.Name x y) b I) X.env]:=by rfl) :
  PSM K X (.Assign [.Subscript (.Name x y) b I] e C) (EJ i A G):=
 ⟨λQ=>(yC (he.pe Q) (B3 (pv i hN hv hd ap) (hk.pe Q) uI ha) hs hw h1).imp λE σ H R=>by
  let⟨f,u,Φ,ρ,p,g,V,t,k⟩:=R;refine⟨f,u,Φ,[],ρ,[],_,p.ex,fF g V k.ex,t,λs o h H1 v r z _=>?_⟩;let⟨d,rfl,r⟩:=r.get;let⟨a1,WG,a_,r⟩:=ownL.get r;let⟨q,vs,O,_⟩:=z.list a_;refine⟨_,O,f,u,h,_,o,_,_,p.ex,z,r,λs2 ρ2 m H2 w c F _=>?_⟩;let⟨kk,rfl,c⟩:=c.get;let⟨rd,rk⟩:=F.last2;let⟨n,rfl,c⟩:=i8 c;obtain rfl:=rk.i;let⟨a2,WH,U,j,hj,c⟩:=ownL.get c;let⟨q2,aA,P,T,N,k2⟩:=F.list U;rw[O]at P;cases P;have M:=k2 _ _ (N.set rd j)
  show⟨q,aA,n,j,S,S,T,by rw[N.1];show hj,k.nx _ m _ σ c.get M.g M.env⟩⟩
noncomputable def Iz(i:Nat)(f:Int->Int->Int)(G A:TX):bL:=λh ρ=>(ownL ρ i λ_ _=>True)/\G ρ (xV λp c=>match p with|.int n=>ownL c i λa ds=>∃(j:Nat)(v:Int),n=(j:Int)/\ds[j]?=Z (.int v)/\A c (xV λd g=>match d with|.int m=>ownL g i λa2 o=>j<o.length/\NF (o.set j (.int (f v m))) λes=>h.nx (g.set i (Z (.ob a2 (.lst es))))|_=>False) h.ex|_=>False) h.ex
theorem yU{op:ü}{f:Int->Int->Int}(i:Nat)(P:qu X op (yM f))(hk:PX K X b G)(he:PX K X e A)(hN:X.N[i]?=Z x:=by rfl)(hv:cx X.env.scope x:=by nofun)(hd:ad x:=by decide)(Pg:am x:=by decide)
  (ha:∀r p new,augStore b r p new=(do holding [new,r,p] (setItem r p new);release [new,r,p] [];pure .next):=by intros;rfl) :
  PSM K X (.AugAssign (.Subscript (.Name x y) b I) op e C) (Iz i f G A):=
 ⟨λN=>(Ey (pv i hN hv hd Pg) (hk.pe N) (BX N) (he.pe N) P uI ha).imp λE σ H O7=>by
  let⟨o,a_,Φ,ρ,U,g,V,⟨O,t⟩,k⟩:=O7;let⟨a,ds,O,_⟩:=ownL.get O;have ap:=fF g V k.ex;let⟨q,vs,M,hp,rl,_⟩:=ap.list O;refine⟨_,M,o,a_,Φ,[],ρ,[],_,U.ex,ap,t,λs1 T Q H1 w c F _=>?_⟩;let⟨kk,rfl,c⟩:=c.get;have rk:=F.last;let⟨n,rfl,c⟩:=i8 c;obtain rfl:=rk.i;let⟨a1,WG,Tv,j,v,rfl,hj,c⟩:=ownL.get c;let⟨q1,UO,e2,P8,TN,_⟩:=F.list Tv;rw[M]at e2;cases e2;let⟨u,hu,ru⟩:=TN.at hj;obtain rfl:=ru.i;refine⟨q,UO,_,j,_,S,S,.of P8,S,hu,o,a_,Q,_,T,_,_,U.ex,F,c,λs2 ρ2 R H2 z h aA _=>?_⟩;let⟨d,rfl,h⟩:=h.get;have rd:=aA.last;let⟨m,rfl,h⟩:=i8 h;obtain rfl:=rd.i;let⟨a2,WH,Sj,XA,h⟩:=ownL.get h;let⟨q2,XO,e3,Qk,VA,k2⟩:=aA.list Sj;rw[M]at e3;cases e3;have S3:=k2 _ _ (VA.set (.int (f v m)) j)
  show⟨v,m,S,S,q,XO,_,j,S,S,Qk,xK (by rw[VA.1];show XA),k.nx _ R _ σ h.get S3.g S3.env⟩⟩
noncomputable def Dh(i:Nat)(A:TX):bL:=λf ρ=>ownL ρ i λ_ _=>A ρ (λs c=>match s with|.ob _ (.lst zs)=>ownL c i λa ds=>ds.length+zs.length<=sizeLine/\NF (ds++zs) λes=>f.nx (c.set i (Z (.ob a (.lst es))))|.v (.lst zs)=>ownL c i λa ds=>ds.length+zs.length<=sizeLine/\NF (ds++zs) λes=>f.nx (c.set i (Z (.ob a (.lst es))))|_=>False) f.ex
theorem AV(i:Nat)(he:PX K X e A)(P7:((backTo B (starEach [e] X.env)).all (λx=>!x.1)&&(backToKw B (keywordEach [] X.env)).all (λx=>x.1.isSome)&&decide (([e]:Y Ã).length+([]:Y Ñ).length+(if ([]:Y Ñ).isEmpty then 0 else 1)<30))=ū)
  (O:starEach [e] X.env=(Ŭ,eval e X.env)::starEach [] X.env) (hN:X.N[i]?=Z x:=by rfl) (hv:cx X.env.scope x:=by nofun) (hd:ad x:=by decide) (Pg:am x:=by decide)
  (Pp:Æ (.Name x y) "extend" X.env (eval (.Name x y) X.env)=eval (.Name x y) X.env:=by rfl) (Pq:(l.endLine==B.line)=ū:=by rfl) (hs:Î (.Call (.Attribute (.Name x y) "extend" l) [e] [] B) ũ C.line X.env=pure Ŭ:=by rfl) :
  PSM K X (.Expr (.Call (.Attribute (.Name x y) "extend" l) [e] [] B) C) (Dh i A):=
 ⟨λhK=>(mU (gY L7 PySem.F.slot_list_extend PySem.F.type_list_extend Dj (pv i hN hv hd Pg) (dz (he.pe hK) pa_nil O) Pp P7 Pq O ah) hs).imp λE aA H O7=>by
  let⟨F,H0,Φ,ρ,M,g,V,t,k⟩:=O7;let⟨a,ds,ho,t⟩:=ownL.get t;have ap:=fF g V k.ex;let⟨q,vs,T,hp,rl,_⟩:=ap.list ho;refine⟨_,T,.inl ⟨S,vs,SqL.of hp⟩,F,H0,Φ,[],ρ,[],_,M.ex,ap,t,λs f m N v r h _=>?_⟩
  have j:∀{c:Y D}{ws:Y L2.V}{p:Addr},v=.ref p->N p=Z (.lst ws)->RpL K m c ws->(ownL f i λa ds=>ds.length+c.length<=sizeLine/\NF (ds++c) λes=>M.nx (f.set i (Z (.ob a (.lst es)))))->xf (.ref q) [v] N λx H'=>E.nx aA H':=λ{c ws p} ev z a_ r=>by
   let⟨a1,WG,Tv,hl,r⟩:=ownL.get r;let⟨q1,UO,U,P8,R,k1⟩:=h.list Tv;rw[T]at U;cases U;have P:=k1 _ _ (R.append a_);show⟨q,p,UO,ws,S,by rw[ev],P8,z,by rw[R.1,a_.1];show hl,k.nx _ m _ aA r.get P.g P.env⟩
  cases s with
  |v d=>
   have rd:=h.last
   cases d with
   |lst c=>cases rd with|lst u w h3=>show j S (h.g.s _ _ u) ⟨w,h3⟩ r
   |_=>show r.elim
  |ob a0 o=>
   cases o with
   |lst c=>
    let⟨fp,E1⟩:=h.E;let⟨p,Q,_,rr⟩:=E1.ow f.length a0 (.lst c) (by rw[Km (Kw _),Lw];rfl);rw[h.l,Km (Kw _),Lw]at Q;cases Q;let⟨_,ws,u,w⟩:=rr.lst_inv;show j S u w r
   |_=>show r.elim⟩
noncomputable def bf:Ū Sm->Ū Sm
 |some (.ob ũ (.lst ds))=>Z (.v (.lst ds))
 |some (.ob ũ (.map c))=>Z (.v (.map c))
 |x=>x
noncomputable def aX:Nat->aj->aj
 |_,[]=>[]
 |0,x::ρ=>bf x::ρ
 |i+1,x::ρ=>x::aX i ρ
theorem yy:∀(i:Nat)(ρ:aj),aX i ρ=(match ρ[i]? with
  |some (Z (.ob ũ (.lst ds)))=>ρ.set i (Z (.v (.lst ds)))
  |some (Z (.ob ũ (.map c)))=>ρ.set i (Z (.v (.map c)))
  |_=>ρ)
 |0,[]=>rfl
 |_+1,[]=>rfl
 |0,Z (.ob ũ (.lst _))::_=>rfl
 |0,Z (.ob ũ (.map _))::_=>rfl
 |0,Z (.ob ũ (.mpT _))::_=>rfl
 |0,Z (.ob ũ (.obj _ _))::_=>rfl
 |0,Z (.ob ũ .ptr)::_=>rfl
 |0,Z (.ob ũ (.tl _))::_=>rfl
 |0,Z (.ob ũ (.pr _ _))::_=>rfl
 |0,Z (.ob (Z _) _)::_=>rfl
 |0,Z (.v _)::_=>rfl
 |0,ũ::_=>rfl
 |i+1,x::ρ=>by
  change x::aX i ρ=_;rw[yy i ρ,OL]
  match ρ[i]? with
  |some (Z (.ob ũ (.lst _)))=>rfl
  |some (Z (.ob ũ (.map _)))=>rfl
  |some (Z (.ob ũ (.mpT _)))=>rfl
  |some (Z (.ob ũ (.obj _ _)))=>rfl
  |some (Z (.ob ũ .ptr))=>rfl
  |some (Z (.ob ũ (.tl _)))=>rfl
  |some (Z (.ob ũ (.pr _ _)))=>rfl
  |some (Z (.ob (Z _) _))=>rfl
  |some (Z (.v _))=>rfl
  |some ũ=>rfl
  |none=>rfl
theorem Rp.map_of{g:Hp}{j:Y (aK×D)}{ws:Y (aK×V)}{p:Addr}(h:g p=Z (.dK ws))(r:Paired (fX K g) j ws):Rp K g (.map j) (.ref p):=by
 refine .map h ?_ ?_
 ·clear h
  induction r with
  |nil=>rfl
  |cons q _ f=>rw[K1,K1,f,q.1]
 ·clear h
  induction r with
  |nil=>intro i w d c;simp at c
  |cons q _ f=>
   intro i w d c hd
   cases i with
   |zero=>cases c;cases hd;show q.2
   |succ i=>show f i w d c hd
theorem EnvM.frz1f{O P m H:Hp}{aA:St}{ρ:aj}{o:Om}{Q:D}(E:EnvM K P m H aA ρ)(g:Gr O P m H){i:Nat}(ap:ρ[i]?=Z (Z (.ob ũ o)))
  (hr:∀p F,OmS K m H o p F->∃u,H p=Z u/\∀f,Same m f->f p=Z u->Rp K f Q (.ref p)) (hs:o.solid=ū:=by rfl):∃f,Gr O P f H/\EnvM K P f H aA (ρ.set i (Z (.v Q)))/\Same m f:=by
 let⟨fp,E⟩:=E;let⟨p,e,_,r⟩:=E.ow i ũ _ ap;have a_:=r.mem hs;have no:=E.no i ũ _ ap p a_;let⟨u,T,h2⟩:=hr p _ r;have N:=cX no.2 u
 have t:∀{j:Nat}{x:Sm},(ρ.set i (Z (Sm.v Q)))[j]?=Z (Z x)->(j=i/\x=.v Q)\/(j≠i/\ρ[j]?=Z (Z x)):=λ{j x} h=>by
  rcases iN h with⟨e,_,e1⟩|⟨e,h⟩
  ·cases e1;show .inl ⟨e,S⟩
  ·show .inr ⟨e,h⟩
 refine⟨aq m p u,g.freeze no.1 no.2 T,⟨fp,λb u' R=>?_,by rw[K0,E.len],λj d h=>?_,λj a o h=>?_,λj a o h b U=>?_,λj k a a' o o' w M c=>?_,E.tb.same N⟩,N⟩
 ·by_cases c:b=p
  ·subst c;rw[bu]at R;cases R;show T
  ·rw[aJ c]at R;show E.fz b u' R
 ·rcases t h with⟨c,h⟩|⟨_,h⟩
  ·cases h;subst c;show⟨_,e,h2 _ N bu⟩
  ·let⟨v,hv,rv⟩:=E.sl j d h;show⟨v,hv,rv.same N⟩
 ·rcases t h with⟨_,h⟩|⟨_,h⟩
  ·cases h
  ·let⟨q,hq,ha,rq⟩:=E.ow j a o h;show⟨q,hq,ha,rq.keep N λ_ _ _ h=>h⟩
 ·rcases t h with⟨_,h⟩|⟨c,h⟩
  ·cases h
  ·have:b≠p:=λz=>E.dj j i a ũ o _ h ap c b U (by rw[z];show a_);rw[aJ this];show E.no j a o h b U
 ·rcases t w with⟨_,w⟩|⟨_,w⟩
  ·cases w
  rcases t M with⟨_,M⟩|⟨_,M⟩
  ·cases M
  show E.dj j k a a' o o' w M c
theorem EnvM.frz1{f h j H:Hp}{r:St}{ρ:aj}{o:Om}{m:D}(E:EnvM K h j H r ρ)(g:Gr f h j H){i:Nat}(t:ρ[i]?=Z (Z (.ob ũ o)))
  (v:∀p F,OmS K j H o p F->∃u,H p=Z u/\∀c,Same j c->c p=Z u->Rp K c m (.ref p)) (w:o.solid=ū:=by rfl):∃c,Gr f h c H/\EnvM K h c H r (ρ.set i (Z (.v m))):=
 let ⟨c,g',E',_⟩:=E.frz1f g t v w
 ⟨c,g',E'⟩
theorem EnvM.frz{f j t H:Hp}{u:St}{ρ:aj}(E:EnvM K j t H u ρ)(g:Gr f j t H)(i:Nat):∃c,Gr f j c H/\EnvM K j c H u (aX i ρ):=by
 rw[yy];split
 ·next ds ho=>
  refine E.frz1 g ho λp F r=>?_;let⟨_,vs,m,o⟩:=r.lst_inv;show⟨_,m,λc s h=>(o.same s).lst h⟩
 ·next Pb ho=>
  refine E.frz1 g ho λp F r=>?_;let⟨_,ws,m,o⟩:=r.map_inv;show⟨_,m,λc s h=>Rp.map_of h (pJ (λ_ _ r=>⟨r.1,r.2.same s⟩) o)⟩
 ·show⟨t,g,E⟩
noncomputable def Fw(i:Nat)(t:bL):bL:=λc ρ=>t c (aX i ρ)
theorem jW{c:Y Ç}{t:bL}(i:Nat)(h:PSsM K X c t):PSsM K X c (Fw i t):=⟨λu=>(h.ps u).imp λE w H p=>by
 let⟨j,o,v,ρ,m,g,V,t,k⟩:=p;let⟨f,g',r⟩:=V.frz g i
 show⟨j,o,f,aX i ρ,m,g',r,t,k⟩⟩
end
section
variable{K:Â}{X:Cx}{f a c:Ã}{j:Y Ã}{scope:ã}{e u v:Õ}{N':Y Str}{cap:Y (Ū Nat)}{l:bg}{g:da}{o:cg}{m:TD}{i:Nat}{y:Str}
theorem xU{tf:bg}{E:Ends}{x:St}{H:Hp}(w:∀{x:St}{H:Hp}{Q:VK},lF K tf x H Q->jx (lI K l) cap (lG K g) (lT K o) (lE K m) x H Q)(h:lM K X (mz i (xF tf)) E x H):kE (jx (lI K l) cap (lG K g) (lT K o) (lE K m)) (lb i) E x H:=by let⟨R,C,O,ρ,U,A,V,t,M⟩:=h;show w ⟨C,O,c8 ρ,_,V.toD,t,λds P B p vs r z F I J N=>M.nx _ _ B _ r (A.trans z) ((V.snocO A.h z (.lst J N) λb G=>by rw[KH.mp G];show⟨F,I⟩).store i)⟩
theorem sX{k:Nat}(z:X.calm=ū)(E:X.N.Nodup)(O:X.N[i]?=Z y)(N:gK X.env.scope y)(Q:CompScope X.N X.env.scope scope N' cap)(A:gI k cap=ū)(J:GM k g)(I:PID K X f a l)
  (H:∀(cl:Y (Str×Addr))(r:Y Addr)(C:Addr)(t:À)(p:Hp),PGD K (cK X scope N' cl C t p r) f g)
  (F:∀(cl:Y (Str×Addr))(r:Y Addr)(C:Addr)(t:À)(p:Hp),PD K (cK X scope N' cl C t p r) c m) (B:Î (.ListComp c [⟨f,a,[],0⟩] scope e) (Z (.Name y u)) v.line X.env=pure ū:=by rfl)
  (M:∀x,Ô a X.env x=pure x:=by intro _;rfl) (G:X.fn y=ū\/X.env.scope.names.lookup y=Z .local:=by nofun) :
  PSM K X (.Assign [.Name y u] (.ListComp c [⟨f,a,[],0⟩] scope e) v) (mz i (xF (qB l cap g m))):=
 ⟨λw=>(xm z E O N Q (I.pi w) (λcl r C t p=>(H cl r C t p).pg w) (λcl r C t p=>(xZ (K:=K)).p w) (λcl r C t p=>(F cl r C t p).pe w) B M G).imp λ_ _ _ h=>xU (λq=>yJ A J q) h⟩
theorem FL{k:Nat}(z:X.calm=ū)(E:X.N.Nodup)(P:X.N[i]?=Z y)(O:gK X.env.scope y)(Q:CompScope X.N X.env.scope scope N' cap)(A:gI k cap=ū)(J:GM k g)(I:PID K X f a l)
  (H:∀(cl:Y (Str×Addr))(r:Y Addr)(C:Addr)(t:À)(p:Hp),PGD K (cK X scope N' cl C t p r) f g) (N:∀(cl:Y (Str×Addr))(r:Y Addr)(C:Addr)(t:À)(p:Hp),PIfD K (cK X scope N' cl C t p r) j o)
  (F:∀(cl:Y (Str×Addr))(r:Y Addr)(C:Addr)(t:À)(p:Hp),PD K (cK X scope N' cl C t p r) c m) (B:Î (.ListComp c [⟨f,a,j,0⟩] scope e) (Z (.Name y u)) v.line X.env=pure ū:=by rfl)
  (M:∀x,Ô a X.env x=pure x:=by intro _;rfl) (G:X.fn y=ū\/X.env.scope.names.lookup y=Z .local:=by nofun) :
  PSM K X (.Assign [.Name y u] (.ListComp c [⟨f,a,j,0⟩] scope e) v) (mz i (xF (wG l cap g o m))):=
 ⟨λw=>(xm z E P O Q (I.pi w) (λcl r C t p=>(H cl r C t p).pg w) (λcl r C t p=>(N cl r C t p).p w) (λcl r C t p=>(F cl r C t p).pe w) B M G).imp λ_ _ _ h=>xU (λq=>Bk A J q) h⟩
end
noncomputable def zM(z:cD):b7:=λas R _=>∃ds,as=ds.map Sm.v/\z ds λd=>R (.v d) []
theorem Jp{H:Hp}:cc H []=H:=funext λb=>Kr (by simp)
theorem uG{K:Â}{a H:Hp}:∀{ds:Y D}{vs:Y V},RpL K a ds vs->ArgM K a H (ds.map Sm.v) vs (ds.map λ_=>[])
 | [],[],_=>.nil
 | [],_::_,h=>by cases h.1
 |_::_,[],h=>by cases h.1
 |d::ds,v::vs,h=>.v (h.2 0 v d S S) (uG ⟨by have:=h.1;simpa using this,λi u e f c=>h.2 (i+1) u e f c⟩)
theorem tU{a:Type}:∀(ds:Y a),(ds.map λ_=>([]:Y Addr)).flatten=[]
 | []=>rfl
 |_::ds=>by simp
theorem cn{K:Â}{z:cD}:∀vs H Q E,lSp K z vs H Q E->lSpM K (zM z) vs H Q E:=λvs H Q E h=>by
 let⟨p,ds,R,o,tb,rl,l,k⟩:=h;refine⟨p,ds.map Sm.v,ds.map λ_=>[],λs os=>∃d,s=.v d/\R d,λ_ _=>False,o,tb,uG rl,by rw[tU];show NZ,λb c=>(by rw[tU]at c;cases c),⟨ds,S,?_⟩,λs os a f v F t r g j x w u=>?_⟩
 ·have e:R=λd=>∃d',(Sm.v d:Sm)=.v d'/\R d':=funext λd=>propext ⟨λh=>⟨d,S,h⟩,λ⟨d',e,h⟩=>by cases e;show h⟩;rw[←e];show l
 ·let⟨d,rfl,r⟩:=r
  cases j with
  |v m=>
   rw[tU,Jp]at g;show k d a f v r g m
theorem cu{a:Y Addr}(h:a.length=0):a=[]:=LM.mp h
theorem dG{c:Y Addr}(h:c.length=1):∃a,c=[a]:=by
 match c,h with
 | [a],_=>show⟨a,S⟩
theorem wg{c:Y Addr}(h:c.length=2):∃a b,c=[a,b]:=by
 match c,h with
 | [a,b],_=>show⟨a,b,S⟩
section
variable{K:Â}{X:Cx}{a b:Ã}{c:Õ}{e tb:TX}
theorem kN(g:PX K X a e)(h:PX K X b tb)(j:qV b):PX K X (.Subscript a b c) (jD mK e tb):=
 ⟨λf=>(wZ (vH f) (g.pe f) (h.pe f) j).imp λ_ _ _=>nH⟩
end
section
variable{e:Type}[DecidableEq e]{K:Â}{j:Hp}
noncomputable def eO(a:Y (e×D))(k:e):Ū D:=(a.find? λc=>decide (c.1=k)).map (·.2)
noncomputable def mr(c:Y (e×D))(k:e)(d:D):Y (e×D):=if c.any (λa=>decide (a.1=k)) then c.map (λa=>if a.1=k then (a.1,d) else a) else c++[(k,d)]
theorem uS:∀{f:Y (e×D)}{ws:Y (e×V)},Paired (fX K j) f ws->∀k,(eO f k=ũ/\eR ws k=ũ)\/∃d v,eO f k=Z d/\eR ws k=Z v/\Rp K j d v
 |_,_,.nil,k=>.inl ⟨S,S⟩
 |_,_,.cons (a:=x) (b:=y) (l₁:=l) r t,k=>by
  by_cases c:x.1=k
  ·refine .inr ⟨x.2,y.2,?_,?_,r.2⟩
   ·unfold eO;rw[MQ (by simpa using c)];rfl
   ·show nh (by rw[←r.1];show c)
  ·have g:eO (x::l) k=eO l k:=by unfold eO;rw[MC (by simpa using c)]
   rw[g,oA (by rw[←r.1];show c)];show uS t k
theorem ue:∀{c:Y (e×D)}{ws:Y (e×V)},Paired (fX K j) c ws->∀k,(ws.any λa=>decide (a.1=k))=c.any λa=>decide (a.1=k)
 |_,_,.nil,k=>rfl
 |_,_,.cons r t,k=>by rw[MI,MI,ue t k,r.1]
theorem yr{a c:Type}{F:a->c->Prop}{f:a->a}{g:c->c}(h:∀x y,F x y->F (f x) (g y)):∀{l:Y a}{m:Y c},Paired F l m->Paired F (l.map f) (m.map g)
 |_,_,.nil=>.nil
 |_,_,.cons r t=>.cons (h _ _ r) (yr h t)
theorem Df{a:Y (e×D)}{ws:Y (e×V)}(h:Paired (fX K j) a ws)(k:e){d:D}{v:V}(r:Rp K j d v):Paired (fX K j) (mr a k d) (fC ws k v):=by
 unfold mr fC;rw[ue h k];split
 ·refine yr (λx y q=>?_) h;rw[←q.1];split
  ·show⟨S,r⟩
  ·show q
 ·show ĉ h ⟨S,r⟩
theorem xx(a:Y (e×D))(k:e):(eO a k).isSome=a.any λg=>decide (g.1=k):=by
 unfold eO
 induction a with
 |nil=>rfl
 |cons x r f=>
  rw[MI];by_cases c:x.1=k
  ·rw[MQ (by simpa using c),Ld c];rfl
  ·rw[MC (by simpa using c),KU c,f];rfl
theorem BZ{a:Y (e×D)}{k:e}{d:D}(h:eO a k=ũ):mr a k d=a++[(k,d)]:=by have:=xx a k;rw[h]at this;unfold mr;rw[←this];rfl
theorem IM{a c:Type}{F:a->c->Prop}:∀{l:Y a}{m:Y c},Paired F l m->l.length=m.length:=Nu
end
section
variable{K:Â}{X:Cx}{e a b A:Ã}{c l:TD}{f m B:Õ}{x:Str}{i:Nat}
noncomputable def FU(o:Om):TX:=λρ R _=>R (.ob ũ o) ρ
theorem Iq:PX K X (.Dict [] [] f) (FU (.map [])):=⟨λw=>pe_dnewK.imp λz H Q h=>by
 let⟨r,u,o,C,ρ,y,R,v,U,t,k⟩:=h;intro p g
 show k _ ρ o _ _ t (U.pushO (Gr.fresh U.g.s g _) (.map bu .nil) λb j=>by rw[KH.mp j];show⟨g,U.g.s.free g⟩) (Same.refl _)⟩
theorem EnvM.dict{o p h H:Hp}{w:St}{ρ:aj}{a:Ū Addr}{y:Y (aK×D)}(E:EnvM K p h H w ρ)(g:Gr o p h H)(v:ρ[i]?=Z (Z (.ob a (.map y)))):∃q ws,w[i]?=Z (Z (.ref q))/\H q=Z (.dK ws)/\Paired (fX K h) y ws /\
  ∀(t:Y (aK×D))(j:Y (aK×V)),Paired (fX K h) t j->EnvM K p h (aq H q (.dK j)) w (ρ.set i (Z (.ob a (.map t))))/\Gr o p h (aq H q (.dK j)):=by
 let⟨G,E⟩:=E;let⟨q,e,_,r⟩:=E.ow i a _ v;have F:=r.mem;let⟨_,ws,I,J⟩:=r.map_inv;refine⟨q,ws,e,I,J,λt j O=>?_⟩
 have C:∀b u,H b=Z u->b∉G i->aq H q (.dK j) b=Z u:=λb u e N=>by
  rw[aJ λz=>N (by rw[z];show F)];show e
 show⟨⟨_,E.put v e C (F':=[q]) (.map bu O) λb M=>.inl (by rw[KH.mp M];show F)⟩,E.grput g v C⟩
noncomputable def ownD(ρ:aj)(i:Nat)(k:Ū Addr->Y (aK×D)->Prop):Prop:=match ρ[i]? with|some (Z (.ob a (.map Pb)))=>k a Pb|_=>False
theorem ownD.get{ρ:aj}{i:Nat}{k:Ū Addr->Y (aK×D)->Prop}(h:ownD ρ i k):∃a g,ρ[i]?=Z (Z (.ob a (.map g)))/\k a g:=by
 unfold ownD at h;split at h
 ·next a ds e=>show⟨a,ds,e,h⟩
 ·show h.elim
noncomputable def uJ(g:Bool)(i:Nat)(c:TD):dU:=λρ R _=>c (c8 ρ) λd=>∃k,d=iq k/\ownD ρ i λ_ h=>R (g != (eO h k).isSome) ρ
theorem zo{j:Bool}{E:St}{H:Hp}{Q:Bool->Hp->Prop}(h:lXb K X (uJ j i c) E H Q):lE K c E H λy p=>je i E p λx F=>∃a o,x=.ref a/\DGet F a y o/\Q (j != o.isSome) F:=by
 let⟨a_,J,U,τ,ρ,κ,R,aA,ap,t,k⟩:=h;refine⟨J,U,c8 ρ,_,ap.env.toD,t,λd C p v r g T=>?_⟩;let⟨w,rfl,r⟩:=r;let⟨a,M,O,r⟩:=ownD.get r;cases rE T;have u:=ap.gr g;let⟨q,ws,N,P,z,_⟩:=u.env.dict u.g O;refine⟨_,N,q,_,S,DGet.k P,?_⟩
 have e:(eR ws w).isSome=(eO M w).isSome:=by rcases uS z w with⟨G,I⟩|⟨d,v,G,I,_⟩<;>rw[G,I]<;>rfl
 rw[e];show k _ ρ C p r u g.f
theorem vI(b:Bool):(Ŭ != b)=b:=by cases b<;>rfl
theorem DC{t:TD}{u:St}{H:Hp}{Q p:VK}(h:lE K t u H Q)(y:∀v j,Q v j->p v j):lE K t u H p:=by let⟨w,C,ρ,R,E,t,k⟩:=h;show⟨w,C,ρ,R,E,t,λd o j v r g z=>y _ _ (k d o j v r g z)⟩
theorem GV{j:Nat}{p:St}{H:Hp}{Q o:VK}(h:je j p H Q)(r:∀v g,Q v g->o v g):je j p H o:=let ⟨v,e,q⟩:=h;⟨v,e,r _ _ q⟩
theorem JP(i:Nat)(I:X.A.units+64<â)(y:PD K X e c)(u:X.N[i]?=Z x:=by rfl)(E:cx X.env.scope x:=by nofun)(hd:ad x:=by decide)(j:am x:=by decide)
  (C:behindInMarks .In (.Name x m)=Ŭ:=by rfl):PXB K X (.Compare e [.In] [.Name x m] f) (uJ Ŭ i c):=
 ⟨λt=>(Bs (FG () (y.pe t) (pv i u E hd j)) C).imp λJ H Q h=>DC (zo h) λv F q=>GV q λw G z=>by
  let⟨a,o,p,r,g⟩:=z;rw[vI]at g
  show⟨a,o,p,r,_,S,g⟩⟩
noncomputable def D8(i:Nat)(c:TD)(l:TD):bL:=λh ρ=>l (c8 ρ) λd=>c (c8 ρ) λo=>∃k,o=iq k/\ownD ρ i λa g=>g.length<sizeLine/\NF (mr g k d) λj=>h.nx (ρ.set i (Z (.ob a (.map j))))
theorem G8(i:Nat)(hu:X.A.units+64<â)(T:PD K X e c)(ap:PD K X A l)(R:X.N[i]?=Z x:=by rfl)(aA:cx X.env.scope x:=by nofun)(hd:ad x:=by decide)(P:am x:=by decide)
  (a_:Î A (Z (.Subscript (.Name x m) e B)) f.line X.env=pure Ŭ:=by rfl):PSM K X (.Assign [.Subscript (.Name x m) e B] A f) (λz ρ=>(ownD ρ i λ_ _=>True)/\D8 i c l z ρ):=
 ⟨λM=>(yX () (pv i R aA hd P) (T.pe M) (ap.pe M) a_).imp λE σ H O=>by
  let⟨Φ0,C,Φ,ρ,z,g,V,⟨h,t⟩,k⟩:=O;let⟨a,Pb,h,_⟩:=ownD.get h;refine⟨C,Φ,c8 ρ,_,V.toD,t,λd u H1 v r1 p rv=>?_⟩;have o:=V.gr p;let⟨q,ws,I,hq,rel,_⟩:=o.dict (g.trans p) h;refine⟨_,I,C,u,c8 ρ,_,o.toD,r1,λkd y H2 w j r rw=>?_⟩;let⟨kk,rfl,j⟩:=j;let⟨a2,N,F,U,j⟩:=ownD.get j;rw[h]at F;cases F;cases rE rw;let⟨q2,ws2,J,Q,G,k2⟩:=(o.gr r).dict ((g.trans p).trans r) h;rw[I]at J;cases J;let⟨z1,z2⟩:=k2 _ _ (Df G kk (rv.same r.f))
  show⟨q,_,S,DPut.k Q (by rw[←IM G];show U),k.nx _ y _ σ j.get z2 z1⟩⟩
end
end L2
namespace PySem.SeqAt
open AutoSeq1 (wpAny_loadPart')
open MeetsSeq MeetsSeq2 MeetsSeq3 SeqRoads2
theorem Fh{M:ö}{A:É}{E:Value->À->Prop}{s:À}{a:Type}(r:Std.Legacy.Range)(b:a)(f:Nat->a->Sem (ForInStep a))(Q:a->À->Prop)(h:wpAny M A (forIn (List.range' r.start r.size r.step) b f) Q E s):wpAny M A (forIn r b f) Q E s:=by rw[Ń];show h
theorem tuple_indexAtX(l:Addr)(a:Array Value)(n:Nat)(dd:Ū Addr)(sl:Array (Ū Value))(x:Value)(e:Value->Bool)(j:Nat)(I:j<a.size)
  (r:e a[j]=ū) (u:∀m (t:m<a.size),m<j->e a[m]=Ŭ) :
  Ľ (Builtin.«tuple.index» ⟨[.ref l,x],[]⟩)
   (λA R s=>s.heap.get? l=Z { cls:=.type "tuple",dict:=dd,data:=.seq a n,slots:=sl }/\(∀y,y∈a->EqAt A.in1 s y x (e y))/\R (.ok (.ret (.int j s.toks))) { s with toks:=s.toks+1 }):=
 .of_wp λprog w A R s h=>by
  let⟨E,g,d,F,os⟩:=s;let⟨C,z,h⟩:=h
  wp_walk using Lz C,Fh,wpAny_forIn_list _ (λf b s'=>b.1=ũ/\s'=⟨E,g,d,F,os⟩/\∃i,i<=j/\f=List.range' i (a.size-i) 1) _
  case turn=>
   rintro m f b s' ⟨v,rfl,i,B,o⟩
   have p:i<a.size:=by omega
   rw[show a.size-i=(a.size-i-1)+1 by omega,List.range'_succ]at o;injection o with h1 h2;subst h1
   have t:a[m]?=Z a[m]:=by simp[p]
   rw[t];refine Ko (z _ (Array.getElem_mem p) prog w _ _ ?_);rcases K7 m j with c|c
   ·rw[u m p c]
    wp_walk
    show⟨S,S,m+1,c,by rw[h2];congr 1⟩
   ·have:m=j:=by omega
    subst this;rw[r]
    wp_walk
    show⟨_,S,h⟩
  case fin=>
   rintro⟨G,H⟩ s' ⟨v,rfl,i,B,o⟩;exfalso;have:=LW List.length o;rw[List.length_range']at this
   have:a.size-i=0:=by simpa using this.symm
   omega
  case h=>
   show⟨S,S,0,Mq _,by simp[ł]⟩
end PySem.SeqAt
namespace L2
open PySem PySem.Spec PyProof.Rows
@[irreducible] noncomputable def pZ (x:D)(y:D)(R:D->Prop):Prop:=match x with
 |.tup ds=>ds.length<=1000/\∃(bs:Y Bool)(j:Nat),bs.length=ds.length/\(∀(i:Nat) d b,ds[i]?=Z d->bs[i]?=Z b->cz 39 d y=Z b)/\bs[j]?=Z ū/\(∀i,i<j->bs[i]?=Z Ŭ)/\R (.int (j:Int))
 |_=>False
section
variable{K:Â}{X:Cx}{a b:Ã}{l tb:TD}{f o:Õ}
open Classical in
theorem C9(P:X.K=K)(hu:X.A.units+64<â):jw X "tuple.index" (λx xs H Q=>∃A N E R y,Same A H/\xs=[y]/\RpQ K A H N x/\RpQ K A H E y/\pZ N E R/\∀d C H' v,R d->Gr A H C H'->Rp K C d v->Q v H'):=by
 intro pins s σ H x xs v us Q I rx rs ⟨A,N,E,R,y,F,e,hx,hy,h,k⟩;subst e;let⟨u,rfl,ru⟩:=g6 rs;unfold pZ at h;let⟨ds,rfl,h⟩:=Hu h;let⟨hl,bs,j,TL,hb,hj,Qb,r⟩:=h;let⟨a,vs,rfl,O,_,B⟩:=hx.tup F;cases rx;let⟨p,rv,⟨⟨oc,od,odt,os⟩,ho,U2,n,ap⟩,_⟩:=I.tuple (P▸O);cases U2;cases ap;have l1:=Vals.length rv;have XA:j<bs.length:=aZ hj
 let e:Value->Bool:=λz=>decide (∃m:Nat,p[m]?=Z z/\bs[m]?=Z ū)
 have at_:∀(m:Nat) z,p[m]?=Z z->∃(w:V)(d:D)(b:Bool),RelV w z/\Rp K H d w/\ds[m]?=Z d/\bs[m]?=Z b/\cz 39 d E=Z b:=λm z g=>by
  have i0:m<p.length:=aZ g
  have T:m<vs.length:=by omega
  have U:m<ds.length:=by rw[←B.1];show T
  have i3:m<bs.length:=by omega
  let⟨u',To,r'⟩:=Vals.get (i:=m) (x:=vs[m]) rv (bA T);rw[g]at To;cases To;show⟨vs[m],ds[m],bs[m],r',(B.2 m _ _ (bA T) (bA U)).same F,bA U,bA i3,hb m _ _ (bA U) (bA i3)⟩
 have M:∀(m t:Nat) z b J,p[m]?=Z z->p[t]?=Z z->bs[m]?=Z b->bs[t]?=Z J->b=J:=λm t z b J g UK q q'=>by
  let⟨w,d,c,r1,a_,_,aA,c1⟩:=at_ m z g;let⟨w',d',c',XB,XC,_,Vv,Va⟩:=at_ t z UK;rw[q]at aA;rw[q']at Vv;cases aA;cases Vv;have:=r1.inj XB;subst this;show yk P I (Same.refl H) 39 a_ XC c1 Va
 have G:∀(m:Nat) z b,p[m]?=Z z->bs[m]?=Z b->e z=b:=λm z b g q=>by
  change decide (∃m:Nat,p[m]?=Z z/\bs[m]?=Z ū)=b
  cases b with
  |true=>show Ld ⟨m,g,q⟩
  |false=>show KU λ⟨t,O,B⟩=>by cases M m t z _ _ g O q B
 have Vw:j<p.length:=by have:=B.1;omega
 refine Me OF ⟨_,ho,S⟩ PySem.F.entry_tuple_index (PySem.F.args_tuple_index_2 _ _)
  (PySem.SeqAt.tuple_indexAtX a p.toArray n od os u e j (by simpa using Vw) ?_ ?_) ⟨ho,λz ap=>?_,?_⟩
 ·simp only[MY];show G j _ ū (bA Vw) hj
 ·intro m g PV;simp only[KC]at g;simp only[MY];show G m _ Ŭ (bA g) (Qb m PV)
 ·have XE:z∈p:=by simpa using ap
  let⟨m,g⟩:=L9 XE;let⟨w,d,b,r1,a_,aA,q2,q3⟩:=at_ m z g;rw[G m z b g q2];show (pQ P I (Same.refl H) 39 q3 a_ (hy.any F) X.A.in1 z u (by change X.A.units+1+39<â;omega) r1 ru).1
 ·show⟨.int j,H,I.tok _,⟨_,S⟩,k _ A H _ r (.refl F) (.int _)⟩
noncomputable def qR(l tb:TD):TD:=λρ R=>l ρ λx=>(match x with|.tup _=>True|_=>False)/\tb ρ λy=>pZ x y R
theorem FQ(P:X.A.units+64<â)(N:PQ K X a l)(O:PD K X b tb)(G:Æ a "index" X.env (eval a X.env)=eval a X.env:=by rfl)(F:((backTo o (starEach [b] X.env)).all (λx=>!x.1)&&(backToKw o (keywordEach [] X.env)).all (λx=>x.1.isSome)&&decide (([b]:Y Ã).length+([]:Y Ñ).length+(if ([]:Y Ñ).isEmpty then 0 else 1)<30))=ū)
  (w:starEach [b] X.env=(Ŭ,eval b X.env)::starEach [] X.env) (I:(f.endLine==o.line)=ū:=by rfl):PD K X (.Call (.Attribute a "index" f) [b] [] o) (qR l tb):=
 ⟨λh=>(gY PySem.F.plainAttrs_tuple OF PySem.F.type_tuple_index (C9 h P) (N.pe h) (dz (O.pe h) pa_nil w) G F I w ah).imp λσ H Q C=>by let⟨u,aA,ρ,R,E,t,k⟩:=C;show⟨u,aA,ρ,_,E,t,λJ m H1 x A c z=>by
  cases J with
  |tup ds=>
   let⟨a,vs,rfl,_,ap,q2⟩:=z.tup c.s;refine⟨.inr (.inl ⟨S,.inl ⟨vs,c.s _ _ ap⟩⟩),u,m,ρ,_,E.gr c,A.2,λM p H2 y a_ e U=>⟨p,.tup ds,M,R,y,e.s,S,z.gr e,.inl U,a_,λd j B v r g T=>k d j B v r ((c.trans e).trans g) T⟩⟩
  |_=>show A.1.elim⟩⟩
end
end L2
namespace L2
open PySem PySem.Spec PyProof.Rows
section
variable{P:Ä}{w:Å}{H j:Hp}{h h' g f:Heap}
theorem HOk.keptT(x:HOk P w H h)(k:∀b u v,H b=Z v->h.get? b=Z u->h'.get? b=Z u):HOk P w H h':=λa o e=>
 (x a o e).stay (λb u c q=>by
  rcases c with rfl|c
  ·show k _ u o e q
  ·show k b u _ c q) (λ_ q=>q) (λ_ _ q=>q) λ_ _ _ q=>q
theorem Un.kept2{fs e:Y Addr}{v:Addr}{T:Ū Addr}(u:Un fs [] H j h g)(k:Kept e v T g f)(p:h.get? v=ũ)(m:∀r,T=Z r->h.get? r=ũ)(x:∀b∈e,b∈fs\/h.get? b=ũ):Un fs [] H j h f where
 keep b o hb hn WI hx:=by
  refine k.keep b o (u.keep b o hb hn WI hx) (λz=>by rw[z,p]at hb;cases hb) (λz=>by rw[m b z.symm]at hb;cases hb) λz=>?_;rcases x b z with z|z
  ·show WI z
  ·rw[z]at hb;cases hb
 slot b o hb hn WI hx:=by
  let⟨sl,a⟩:=u.slot b o hb hn WI hx;by_cases c:b∈e
  ·let⟨t,l⟩:=k.slot b _ a c;show⟨t,l⟩
  ·show⟨sl,k.keep b _ a (λz=>by rw[z,p]at hb;cases hb) (λz=>by rw[m b z.symm]at hb;cases hb) c⟩
 free:=u.free
 there b o hb hx:=by
  let⟨y,a⟩:=u.there b o hb hx;by_cases c:b∈e
  ·let⟨t,l⟩:=k.slot b _ a c;show⟨_,l⟩
  ·show⟨y,k.keep b _ a (λz=>by rw[z,p]at hb;cases hb) (λz=>by rw[m b z.symm]at hb;cases hb) c⟩
 tups:=u.tups
 frzs:=u.frzs
 tbls:=u.tbls
end
noncomputable def CXo(P:Ä)(w:Å):cM:=λouter H s E e s'=>∃(c T C:Addr)(f:Ū Addr)(a:Hp),e=.ref c/\Fly s'.heap c (Z T) .none (.ref C) f/\(s.heap.get? c=ũ/\a c=ũ)/\(s.heap.get? T=ũ/\a T=ũ) /\
 s'.os=s.os/\ç s'.gens/\Un (cE outer) [] H a s.heap s'.heap/\HOk P w a s'.heap/\E (.ref C) f a
section
variable{X:Cx}{a:Y (Addr×Ï)}{c:St}{H:Hp}{s s':À}{E:XK}{e:Value}
theorem CXo.at(I:Inv X a c H s)(m:X.ex=[])(h:CXo X.prog X.w X.stack H s E e s'):∃(f T C:Addr)(j:Ū Addr)(g:Hp),e=.ref f/\Inv X a c g s'/\Fly s'.heap f (Z T) .none (.ref C) j/\(X.s₀.heap.get? f=ũ/\g f=ũ/\∀p∈X.pn++a,p.1≠f)/\(X.s₀.heap.get? T=ũ/\g T=ũ/\∀p∈X.pn++a,p.1≠T)/\E (.ref C) j g:=by
 let⟨f,T,C,j,g,v,F,⟨t,w⟩,⟨u,x⟩,A,l,un,hok,y⟩:=h
 have old:∀b,s.heap.get? b=ũ->X.s₀.heap.get? b=ũ:=λb l=>by
  cases q:X.s₀.heap.get? b with
  |none=>rfl
  |some o=>
   let⟨B,z⟩:=I.base.there b o q (by rw[m];simp);rw[l]at z;cases z
 show⟨f,T,C,j,g,v,I.call' (ch:=[]) A un hok l (λb z=>absurd z (by simp)),F,⟨old f t,w,λp r z=>by have:=(I.pin p r).1;rw[z,t]at this;cases this⟩,⟨old T u,x,λp r z=>by have:=(I.pin p r).1;rw[z,u]at this;cases this⟩,y⟩
end
section
variable{P:Ä}{w:Å}{K:Â}{mg:Str->Ū Value}{base:Heap}{N:Y Str}{qual:Str}{scope:ã}{f:Addr}{g:Value}{A:É}{outer:Y é}{s s':À}{H a:Hp}{E:XK}{c:Y (Addr×Ï)}{h:St}
theorem Ha{m C:Addr}{T p:Ū Addr}(I:Inv (gM (CXo P w) P w K mg base N qual scope f g A outer s H E) c h a s')(F:Fly s'.heap m T .none (.ref C) p)(o:s.heap.get? m=ũ/\a m=ũ)(t:∀l,T=Z l->s.heap.get? l=ũ/\a l=ũ)(G:E (.ref C) p a) :
  (gM (CXo P w) P w K mg base N qual scope f g A outer s H E).xe (.ref m) s':=by
 have B:∀b∈cE (ê qual scope s.heap.objs.size f g::outer),a b=ũ:=I.stkFree;refine A7 (base:=base) I.ok.frames I.stack S F λM l y J k2=>?_;have hsz:s.heap.objs.size<=s'.heap.objs.size:=I.sz;refine⟨m,l,C,p,a,S,y,o,⟨L8 (),I.hok.fresh J⟩,I.os,I.bare,?_,I.hok.keptT λb u v j q=>?_,G⟩
 ·refine (show Un (cE outer) [] H a s.heap s'.heap from I.base).kept2 k2 o.1 (λl e=>(t l e).1) λb j=>?_;let⟨env,r,x⟩:=Mo.mp j;rcases Kz.mp r with rfl|r
  ·right;have:s.heap.objs.size=b:=K2 x;show L8 ()
  ·show .inl (Mo.mpr ⟨env,r,x⟩)
 ·refine k2.keep b u q (λz=>by rw[z,o.2]at j;cases j) (λz=>by rw[(t b z.symm).2]at j;cases j) λz=>?_;rw[B b z]at j;cases j
end
section
variable{X:Cx}{CX:cM}{k:Nat}{f:Addr}{c:Ë}{ps:Y Str}{sp:Sp}{x:Str}{p a:Õ}{e:Ã}{es:Y Ã}{t:TA}
noncomputable def oH(CX:cM)(X:Cx)(E:XK)(h:St)(H:Hp):Prop:=∀(g:Y (Addr×Ï))(s:À)(e:Value)(s':À),Inv X g h H s->CX X.stack H s E e s'->X.xe e s'
noncomputable def HN(CX:cM)(X:Cx)(sp:Sp)(t:TA):TE:=λh H Q=>t h H λvs g=>∃E,oH CX X E h g/\sp vs g Q E
theorem tF{g:Y (Addr×Ï)}{l:St}{H:Hp}{s:À}{Q:VK}{E:XK}{us:Y Value}{vs:Y V}(F:FnOk X.prog X.w X.K X.mg X.base CX k f c ps sp)(w:Room k X.A)(o:Binds X.K c ps [])(y:oH CX X E l H)
  (I:Inv X g l H s) (r:Vals vs us) (h:sp vs H Q E):wpAny (model X.prog X.w) X.A (call (.ref f) us) (EP X g l Q) X.xe s:=by
 have v:us.length=ps.length:=by rw[←r.length];show F.len _ _ _ _ h
 have m:=o s us I.kIn (by rw[Le];show v);rw[Le]at m;refine Oi (MR (F.run X.A X.stack s H ⟨us,[]⟩ us vs Q E w I.env0 m r h) λres A j=>?_)
 cases res with
 |error z=>show y g s z A I j
 |ok fl=>
  cases fl with
  |ret u=>show I.after j
  |_=>show j.elim
theorem Dq(F:FnOk X.prog X.w X.K X.mg X.base CX k f c ps sp)(B:Room k X.A)(y:Gl X x)(A:X.mg x=Z (.ref f))(z:Û X.K (.ref f)=ū)(v:Binds X.K c ps [])
  (u:PA X (e::es) t) (m:(x==("__debug__":Str))=Ŭ) (w:starEach (e::es) X.env=(Ŭ,eval e X.env)::starEach es X.env) (o:(backTo a (starEach es X.env)).any (·.1)=Ŭ) :
  PE X (.Call (.Name x p) (e::es) [] a) (HN CX X sp t):=by
 intro g s G H Q I h;refine ME (iY I y A ?_ m);refine NK (h₀:=X.base) I.ok.mod.kin z (aE (u a g s G H _ I h) λus K l=>?_) w o;let⟨vs,J,j,r,E,C,q⟩:=l;show⟨j.kIn,tF F B v C j r q⟩
end
noncomputable abbrev la:Y Value:=[.type "ValueError",.type "Exception",.type "BaseException",.type "object"]
noncomputable abbrev excNames:Y Str:=["__init__","__setattr__","__getattribute__","__getattr__","at","__class__"]
inductive TailN(h:Heap):List Value->Prop where
 |base:TailN h la
 |own {A:Addr} {c0:Value} {dd:Option Addr} {cd:ClassData} {sl:Array (Option Value)} {mA:Str->Option Value} {tl:List Value}:h.get? A=Z { cls:=c0,dict:=dd,data:=.cls cd,slots:=sl }->h.Ns cd.ns mA->(∀n∈excNames,mA n=ũ)->TailN h tl->TailN h (.ref A::tl)
theorem TailN.tail{h:Heap}{e:Y Value}(T:TailN h e):OwnTail h la e:=by
 induction T with
 |base=>show .base
 |own a b c _ f=>show .own a b (c _ (by simp)) f
theorem TailN.keeps{h h':Heap}{e:Y Value}(T:TailN h e)(k:∀b o,h.get? b=Z o->h'.get? b=Z o):TailN h' e:=by
 induction T with
 |base=>show .base
 |own a b c _ f=>show .own (k _ _ a) (b.keeps k) c f
structure ExcAt(h:Heap)(C:Addr)(init:Option Value):Prop where
 ex:∃nm q N bs bm sn sub ab col dd k0 k1 k2 k3 k5 mN,h.get? C=Z (Ý nm q C N bs bm ū sn sub ab col dd k0 k1 k2 k3 k5 "ValueError.__new__")/\h.Ns N mN/\mN "__init__"=init/\(∀n∈excNames,n≠"__init__"->mN n=ũ)/\TailN h bm
theorem ObjOk.is{P:Ä}{w:Å}{H:Hp}{h:Heap}{a:Addr}{o:HO}(x:ObjOk P w H h a o):∃c,h.get? a=Z c:=by
 cases o with
 |lst xs=>let⟨_,_,_,_,e⟩:=x;show⟨_,e⟩
 |tup xs=>let⟨_,_,_,o,e,_⟩:=x;show⟨_,e⟩
 |dK g=>let⟨_,_,_,_,o,_,_,e,_⟩:=x;show⟨_,e⟩
 |dT g=>let⟨_,_,_,_,o,_,_,e,_⟩:=x;show⟨_,e⟩
 |set Q n=>let⟨o,_,_,_,e,_⟩:=x;show⟨_,e⟩
 |ins C j fs=>let⟨_,_,_,e,_⟩:=x;show⟨_,e⟩
 |own y=>let⟨_,e⟩:=x;show⟨_,e⟩
 |xd fs=>let⟨_,⟨_,_,_,e,_⟩,_⟩:=x;show⟨_,e⟩
 |rng lo l=>let⟨_,_,_,e⟩:=x;show⟨_,e⟩
 |frz c u=>let⟨e,_⟩:=x;show⟨_,e⟩
 |tbl ps=>rcases x with x|⟨_,_,_,_,_,_,_,_,_,_,x,_⟩<;>show⟨_,x⟩
 |met f y=>show⟨_,(show h.get? a=Z _ from x)⟩
 |ext m=>let⟨_,e,_⟩:=x;show e
theorem HOk.no{P:Ä}{w:Å}{H:Hp}{h:Heap}(x:HOk P w H h){a:Addr}(e:h.get? a=ũ):H a=ũ:=by
 cases q:H a with
 |none=>rfl
 |some o=>
  let⟨c,z⟩:=(x a o q).is;rw[e]at z;cases z
section
variable{X:Cx}{a:Y (Addr×Ï)}{c:St}{H:Hp}{s:À}{h':Heap}{K:Â}
theorem Inv.old(I:Inv X a c H s)(e:X.ex=[]){b:Addr}(f:s.heap.get? b=ũ):X.s₀.heap.get? b=ũ:=by
 cases q:X.s₀.heap.get? b with
 |none=>rfl
 |some o=>
  let⟨g,z⟩:=I.base.there b o q (by rw[e];simp);rw[f]at z;cases z
theorem Inv.more(I:Inv X a c H s)(k:∀b o,s.heap.get? b=Z o->h'.get? b=Z o):Inv X a c H { s with heap:=h' }:=
 I.call' (s':={ s with heap:=h' }) (ch:=[]) S (Un.kept k) (I.hok.kept k) I.bare (λb z=>absurd z (by simp))
theorem Hw{C:Addr}{x:Str}{Q w l:Õ}(y:X.calm=ū)(j:X.ex=[])(O:Gl X x)(r:X.mg x=Z (.ref C))(M:∀h:Heap,X.K.In h->ExcAt h C ũ)(v:ad x:=by decide) :
  PSM K X (.Raise (Z (.Call (.Name x Q) [] [] w)) ũ l) (λm ρ=>m.ex ⟨x,ũ⟩ ρ):=⟨λhK=>by
 intro a s c H E I u;let⟨ap,T,R,ρ,m,g,V,t,k⟩:=u;let⟨nm,q,N,bs,bm,sn,sub,ab,col,dd,k0,k1,k2,k3,k5,mN,B,F,G,a_,o⟩:=(M s.heap I.kIn).ex;refine wpAny_Raise_call_subT (C:=C) (nm:=nm) (q:=q) (N:=N) (bs:=bs) (bm:=bm) (hdct:=ū) (sn:=sn) (sub:=sub) (ab:=ab) (col:=col) (dd:=dd) (k0:=k0) (k1:=k1) (k2:=k2) (k3:=k3) (k5:=k5) (mN:=mN) LZ (o.tail.hasType 'a') (I.ok.hd y) S G (iY I O r ⟨S,?_⟩ v);refine PySem.evalArgs_none ?_;refine⟨S,by change 0<=sizeLine;show Mq _,B,F,o.tail,λh' e f=>?_⟩;let⟨t',J,aA,h3⟩:=f.there;have A:=I.hok.no f.new
 show k.ex ⟨x,ũ⟩ ρ R H c _ _ a t g V ⟨I.more f.keeps,e,C,ũ,ũ,S,⟨_,_,J,S,S,S,S⟩,r,S,⟨I.old j f.new,A,λp P z=>by have:=(I.pin p P).1;rw[z,f.new]at this;cases this⟩,λU z=>(by cases z)⟩⟩
end
noncomputable abbrev Cx.tried(X:Cx)(pn:Y (Addr×Ï))(xe:Value->À->Prop):Cx:={ X with pn:=pn,xe:=xe }
noncomputable abbrev Cx.held(X:Cx)(pn:Y (Addr×Ï))(e:Value):Cx:={ X with A:=X.A.mark (Z e),calm:=Ŭ,pn:=pn,xe:=λ_ _=>False }
section
variable{X:Cx}{f l:Y (Addr×Ï)}{g:St}{H:Hp}{s:À}{xe:Value->À->Prop}{e:Value}
theorem Cx.Ok.tried(o:X.Ok)(pn:Y (Addr×Ï))(xe:Value->À->Prop):(X.tried pn xe).Ok:=
 ⟨o.mod,o.kind,o.glob,o.blt,o.above,o.inj,o.has,o.cab,o.hd,o.frames,o.stk,o.exf,o.bs,o.bsz,o.noex,o.exfs,o.funs,o.frf⟩
theorem Cx.Ok.held(o:X.Ok)(pn:Y (Addr×Ï))(e:Value):(X.held pn e).Ok:=
 ⟨o.mod,o.kind,o.glob,o.blt,o.above,o.inj,o.has,o.cab,λh=>(by cases h),o.frames,o.stk,o.exf,o.bs,o.bsz,o.noex,o.exfs,o.funs,o.frf⟩
theorem Inv.tried(I:Inv X f g H s)(xe:Value->À->Prop):Inv (X.tried (X.pn++f) xe) [] g H s:=
 ⟨I.ok.tried _ _,I.os,I.bare,I.base,I.loc,I.cell,I.free,I.freeC,λp a=>I.pin p (by rw[Le]at a;show a),I.hok,I.len⟩
theorem Inv.untried(ok:X.Ok)(I:Inv (X.tried (X.pn++f) xe) l g H s):Inv X f g H s:=
 ⟨ok,I.os,I.bare,I.base,I.loc,I.cell,I.free,I.freeC,λp a=>I.pin p (Mj _ a),I.hok,I.len⟩
theorem Inv.held(I:Inv X f g H s)(e:Value):Inv (X.held (X.pn++f) e) [] g H s:=
 ⟨I.ok.held _ _,I.os,I.bare,I.base,I.loc,I.cell,I.free,I.freeC,λp a=>I.pin p (by rw[Le]at a;show a),I.hok,I.len⟩
theorem Inv.unheld(ok:X.Ok)(I:Inv (X.held (X.pn++f) e) l g H s):Inv X f g H s:=
 ⟨ok,I.os,I.bare,I.base,I.loc,I.cell,I.free,I.freeC,λp a=>I.pin p (Mj _ a),I.hok,I.len⟩
theorem Inv.knowX{a:Addr}{o:HO}(I:Inv X f g H s)(r:X.s₀.heap.get? a=ũ)(j:H a=ũ)(v:∀p∈X.pn++f,p.1≠a)(u:X.env.locals≠a)(t:∀x c,X.env.cells.lookup x=Z c->c≠a)(new:ObjOk X.prog X.w (aq H a o) s.heap a o):Inv X f g (aq H a o) s where
 ok:=I.ok
 os:=I.os
 bare:=I.bare
 base:=⟨I.base.keep,I.base.slot,λb m q n w=>by rw[aJ (λz=>by rw[z,r]at q;cases q)];show I.base.free b m q n w,I.base.there,λb xs q=>by have:=I.base.tups b xs q;rw[aJ (cV this j)];show this,λb m xs q=>by have:=I.base.frzs b m xs q;rw[aJ (cV this j)];show this,λb ps q=>by have:=I.base.tbls b ps q;rw[aJ (cV this j)];show this⟩
 loc:=I.loc
 cell:=I.cell
 free:=by rw[aJ u];show I.free
 freeC x c h:=by rw[aJ (t x c h)];show I.freeC x c h
 pin p h:=by let⟨a1,a2,a3⟩:=I.pin p h;show⟨a1,by rw[aJ (v p h)];show a2,a3⟩
 hok:=I.hok.know j new
 len:=I.len
theorem DB{h:Heap}{a:Addr}{m p:Str->Ū Value}(x:h.Ns a m)(y:h.Ns a p)(n:Str):m n=p n:=by let⟨o,es,z,u,hd,_,t⟩:=x;let⟨A,v,w,c,j,_,r⟩:=y;rw[u]at c;cases c;rw[hd]at j;cases j;rw[←t n,←r n]
theorem Inv.unname{i:Nat}{n:Str}{h':Heap}{m:Str->Ū Value}{v:Ū Value}{t':Nat}(I:Inv X f g H s)(J:X.N.Nodup)(K:X.N[i]?=Z n)(N:s.heap.Ns X.env.locals m)(O:h'.Ns X.env.locals (λx=>if x=n then v else m x))(Q:Heap.SameBut X.env.locals s.heap h'):Inv X f (g.set i ũ) H { s with heap:=h',toks:=t' }:=by
 have old:X.s₀.heap.get? X.env.locals=ũ:=L8 I.ok.above;have kp:∀b,b≠X.env.locals->h'.get? b=s.heap.get? b:=λb r=>Q.2 b r;let⟨U,A,M⟩:=I.loc;refine⟨I.ok,I.os,I.bare,⟨λb o q E F a=>?_,λb o q E F a=>?_,I.base.free,λb o q a=>?_,I.base.tups,I.base.frzs,I.base.tbls⟩,⟨_,O,λj x w y t R=>?_⟩,λx c h=>?_,I.free,I.freeC,λp P=>?_,I.hok.keptT λb u w r q=>?_,by rw[K0];show I.len⟩
 ·rw[kp b (λz=>by rw[z,old]at q;cases q)];show I.base.keep b o q E F a
 ·let⟨sl,z⟩:=I.base.slot b o q E F a;show⟨sl,(kp b (λz=>by rw[z,old]at q;cases q)).trans z⟩
 ·let⟨ap,z⟩:=I.base.there b o q a;show⟨ap,(kp b (λz=>by rw[z,old]at q;cases q)).trans z⟩
 ·have G:j≠i:=λz=>by rw[z]at t;simp[Nn]at t
  rw[Lk (Lv G)]at t;let⟨u,T,lk⟩:=M j x w y t R;have C:x≠n:=λz=>G ((Mc (aZ y) J).mp (by rw[y,K,z]));refine⟨u,T,?_⟩;rcases lk with⟨k1,k2⟩|⟨k1,c,k2,k3⟩
  ·refine .inl ⟨k1,?_⟩;change (if x=n then v else m x)=Z u;rw[Kr C,DB N A x];show k2
  ·refine .inr ⟨k1,c,k2,?_⟩;let⟨o,B,hd⟩:=k3;show⟨o,(kp c (I.cne x c k2)).trans B,hd⟩
 ·let⟨w,o,B,hd⟩:=I.cell x c h;show⟨w,o,(kp c (I.cne x c h)).trans B,hd⟩
 ·let⟨a1,a2,a3,a4⟩:=I.pin p P;show⟨(kp p.1 a3).trans a1,a2,a3,a4⟩
 ·show (kp b (λz=>by rw[z,I.free]at r;cases r)).trans q
theorem wc(ok:X.Ok){b:Addr}(h:b∈cE X.stack):b∈X.fs\/b=X.env.locals:=by
 rcases ok.stk with e|⟨e,j⟩
 ·rw[e]at h;show .inl h
 ·rw[e]at h;let⟨env,c,a⟩:=Mo.mp h;rcases Kz.mp c with rfl|c
  ·rw[j]at a;show .inr (K2 a).symm
  ·show .inl (Mo.mpr ⟨env,c,a⟩)
theorem Inv.passed{A:Addr}{T:Ū Addr}{h':Heap}(I:Inv X f g H s)(k:Kept (cE X.stack) A T s.heap h')(J:X.s₀.heap.get? A=ũ/\H A=ũ/\∀p∈X.pn++f,p.1≠A)(G:∀r,T=Z r->X.s₀.heap.get? r=ũ/\H r=ũ/\∀p∈X.pn++f,p.1≠r)
  (de:∃o vs,s.heap.get? A=Z o/\o.data=.fields vs) (dT:∀r,T=Z r->∃o vs,s.heap.get? r=Z o/\o.data=.fields vs):Inv X f g H { s with heap:=h' }:=by
 have old:X.s₀.heap.get? X.env.locals=ũ:=L8 I.ok.above
 have aA:∀b o,s.heap.get? b=Z o->(∀vs,o.data≠.fields vs)->∃sl,h'.get? b=Z { o with slots:=sl }:=λb o a a_=>by
  have t:b≠A:=λz=>by let⟨Q,vs,E,F⟩:=de;rw[z,E]at a;cases a;show a_ vs F
  have y:Z b≠T:=λz=>by let⟨Q,vs,E,F⟩:=dT b z.symm;rw[E]at a;cases a;show a_ vs F
  by_cases c:b∈cE X.stack
  ·show k.slot b o a c
  ·show⟨o.slots,k.keep b o a t y c⟩
 have k0:∀b o,s.heap.get? b=Z o->X.s₀.heap.get? b≠ũ->b≠A/\Z b≠T:=λb o a U=>⟨λz=>U (by rw[z];show J.1),λz=>U (G b z.symm).1⟩;let⟨m,hm,hl⟩:=I.loc
 have UK:h'.Ns X.env.locals m:=by let⟨o,es,ep,M,hd,hk,K⟩:=hm;let⟨sl,z⟩:=aA _ o M (λvs q=>by rw[hd]at q;cases q);show⟨_,es,ep,z,hd,hk,K⟩
 have cl:∀c v,s.heap.IsCell c v->h'.IsCell c v:=λc v hc=>by let⟨o,M,hd⟩:=hc;let⟨sl,z⟩:=aA _ o M (λvs q=>by rw[hd]at q;cases q);show⟨_,z,hd⟩
 refine⟨I.ok,I.os,I.bare,⟨λb o q P C B=>?_,λb o q P C B=>?_,I.base.free,λb o q B=>?_,I.base.tups,I.base.frzs,I.base.tbls⟩,⟨m,UK,λj x w hj O hv=>?_⟩,λx c h=>?_,I.free,I.freeC,λp N=>?_,I.hok.keptT λb u w a q=>?_,I.len⟩
 ·have z:=I.base.keep b o q P C B;let⟨t,y⟩:=k0 b o z (by rw[q];simp);refine k.keep b o z t y λc=>?_;rcases wc I.ok c with c|c
  ·show C c
  ·rw[c,old]at q;cases q
 ·let⟨sl,z⟩:=I.base.slot b o q P C B;let⟨t,y⟩:=k0 b _ z (by rw[q];simp);by_cases c:b∈cE X.stack
  ·let⟨ap,R⟩:=k.slot b _ z c;show⟨ap,R⟩
  ·show⟨sl,k.keep b _ z t y c⟩
 ·let⟨Q,z⟩:=I.base.there b o q B;let⟨t,y⟩:=k0 b _ z (by rw[q];simp);by_cases c:b∈cE X.stack
  ·let⟨ap,R⟩:=k.slot b _ z c;show⟨_,R⟩
  ·show⟨Q,k.keep b _ z t y c⟩
 ·let⟨u,ru,lk⟩:=hl j x w hj O hv;refine⟨u,ru,?_⟩;rcases lk with⟨k1,k2⟩|⟨k1,c,k2,k3⟩
  ·show .inl ⟨k1,k2⟩
  ·show .inr ⟨k1,c,k2,cl c _ k3⟩
 ·let⟨w,O⟩:=I.cell x c h;show⟨w,cl c w O⟩
 ·let⟨a1,a2,a3,a4⟩:=I.pin p N;refine⟨k.keep p.1 p.2 a1 (J.2.2 p N) (λz=>(G p.1 z.symm).2.2 p N S) λc=>?_,a2,a3,a4⟩;rcases wc I.ok c with c|c
  ·show a4.1 c
  ·show a3 c
 ·refine k.keep b u q (λz=>by rw[z,J.2.1]at a;cases a) (λz=>by rw[(G b z.symm).2.1]at a;cases a) λc=>?_;rw[I.stkFree b c]at a;cases a
theorem zr{M:ö}{A:É}{E:Value->À->Prop}{Q:Unit->À->Prop}{i:Nat}{n:Str}{o:Õ}(I:Inv X f g H s)(w:X.N.Nodup)(c:X.N[i]?=Z n)(j:X.env.scope.names.lookup n=Z .local)(F:X.fn n=ū\/X.env.scope.names.lookup n=Z .local)
  (k:∀s',Inv X f (g.set i ũ) H s'->Q Unit.unit s'):wpAny M A (do bindName X.env n .none;unbindBehindTheSuite X.env n o) Q E s:=by
 have J:(X.env.scope.kind==.class ||(X.env.scope.kind==.module&&X.env.locals != X.env.globals))=Ŭ:=by rw[I.ok.kind];rfl
 have x:X.env.kindOf n=Z .local:=j
 have C:i<g.length:=by rw[I.len];show aZ c
 refine Ko (wpAny_bindName (sQ I w c (.inl j) (v:=.non) S (λK p=>?_) F));let⟨m,y,G⟩:=id p.loc;let⟨u,N,lk⟩:=G i n .non c (by rw[Nn];simp[C]) (.inl j)
 have h:(m n).isSome=ū:=by
  rcases lk with⟨_,t⟩|⟨a,_⟩
  ·rw[t];rfl
  ·rcases a with a|a<;>(rw[x]at a;cases a)
 unfold unbindBehindTheSuite;refine Nv ?_;unfold unbindName;refine Ko (wpAny_point (Ko ?_));unfold deleteName;simp only[x,J];rw[Kr 'b'];refine Ko (wpAny_nsDel_keeps y λt v B z=>?_);rw[h];simp only[M5,Bool.not_true,N6,Ov];refine KD (wpAny_point ?_);have r:=p.unname (t':=K.toks) w c y B z;rw[List.set_set]at r;show k _ r
end
section
variable{M:ö}{A:É}{E:Value->À->Prop}{s:À}
noncomputable def jR(h:Heap)(C:Addr):Y Value:=match h.get? C with|some o=>(match o.data with|.cls cd=>cd.mro|_=>[])|none=>[]
theorem ur{e C D:Addr}{o:Ï}{i G:Ū Value}{Q:Bool->À->Prop}(x:ExcAt s.heap C i)(y:ExcAt s.heap D G)(B:s.heap.get? e=Z o)(t:o.cls=.ref C)(a:Q ((jR s.heap C).contains (.ref D)) s):wpAny M A (excMatches (.ref e) (.ref D)) Q E s:=by
 let⟨h,g,d,ap,os⟩:=s;let⟨nm,q,N,bs,bm,sn,sub,ab,col,dd,k0,k1,k2,k3,k5,mN,j,a_,aA,c4,c5⟩:=x.ex;let⟨U,q',N',v,c,R,p,u,l,T,H,I,J,K,O,P,m,d2,d3,d4,w⟩:=y.ex
 have F:jR h C=.ref C::bm:=by unfold jR;rw[show h.get? C=_ from j]
 have a:Q ((Value.ref C::bm).contains (.ref D)) ⟨h,g,d,ap,os⟩:=by rw[←F];show a
 have r:(Value.ref D::c).contains (.type "BaseException")=ū:=by rw[Ng,w.tail.hasType (X:="BaseException") (b:=ū) 'a',OG]
 have f:=tc_notTuple;unfold excMatches
 repeat (first|(with_reducible refine Lu B ?_;rw[t])|with_reducible refine Lu m ?_|(with_reducible refine Mv m ?_;rw[r])|(with_reducible refine Mv j ?_)|wp_step)
 cases z:(Value.ref C::bm).contains (.ref D)<;>(rw[z]at a;wp_walk;show a)
end
structure Exs(K:Â)(mg:Str->Option Value)(PZ:Str->Str->Bool)(names:List Str):Prop where
 cls:∀nm∈names,∀C,mg nm=Z (.ref C)->∀h:Heap,K.In h->∃i,ExcAt h C i
 sub:∀nm∈names,∀c∈names,∀C D,mg nm=Z (.ref C)->mg c=Z (.ref D)->∀h:Heap,K.In h->(jR h C).contains (.ref D)=PZ nm c
 inK:∀nm∈names,∀C,mg nm=Z (.ref C)->Ú K Á nm=Z (Z (.ref C))
structure PHM(K:Â)(X:Cx)(hs:List ß)(th:XD->EndsM->aj->Prop):Prop where
 ph:X.K=K->∀(pins:List (Addr×Ï))(s:À)(σ:St)(H:Hp)(D:Ends)(ea T C:Addr)(dx:Option Addr)(xd:XD)(Φ0 H0 Φ:Hp)(ρ:aj)(De:EndsM),Inv X pins σ H s->Fly s.heap ea (Z T) .none (.ref C) dx->X.mg xd.nm=Z (.ref C)->qd X.K H xd.at_ dx->
  (X.s₀.heap.get? ea=ũ/\H ea=ũ/\∀p∈X.pn++pins,p.1≠ea)->(X.s₀.heap.get? T=ũ/\H T=ũ/\∀p∈X.pn++pins,p.1≠T)->Gr Φ0 H0 Φ H->EnvM K H0 Φ H σ ρ->th xd De ρ->EndOkM K X Φ0 H0 De D->wpAny (model X.prog X.w) X.A (handleBy (.ref ea) X.env hs) (SP X pins D) X.xe s
theorem EnvM.unset{K:Â}{c f H:Hp}{g:St}{ρ:aj}(E:EnvM K c f H g ρ)(i:Nat):EnvM K c f H (g.set i ũ) (ρ.set i ũ):=by
 have l:=E.len;refine E.re id (by rw[K0,K0,l]) (λj x h=>?_) (λj k a m o p _ _ h=>h)
 have e:j≠i:=λz=>by rw[z]at h;simp[Nn]at h
 rw[Lk (Lv e)]at h;show⟨h,Lk (Lv e)⟩
theorem ql{h h':Heap}{fs:Y Addr}{e T:Addr}(k:∀b o,h.get? b=Z o->b≠T->h'.get? b=Z o)(g:∃o vs,h.get? T=Z o/\o.data=.fields vs)(j:∀b∈fs,∀o,h.get? b=Z o->∀vs,o.data≠.fields vs):Kept fs e (Z T) h h' where
 keep b o hb _ b2 _:=k b o hb λz=>b2 (by rw[z])
 slot b o hb c:=⟨o.slots,k b o hb λz=>by
  let⟨l,vs,a,f⟩:=g;rw[z,a]at hb;cases hb
  show j T (z▸c) _ a vs f⟩
theorem Fly.note{h:Heap}{e T:Addr}{fl cls:Value}{a:Ū Addr}(F:Fly h e (Z T) fl cls a):∃o vs,h.get? T=Z o/\o.data=.fields vs:=by let⟨j,vs,_,_,_,_,_,_,g,ts,c,f,_⟩:=F.ex;show⟨g,ts,c,f⟩
theorem Fly.obj{h:Heap}{e:Addr}{T:Ū Addr}{fl cls:Value}{a:Ū Addr}(F:Fly h e T fl cls a):∃o vs,h.get? e=Z o/\o.data=.fields vs:=by let⟨g,vs,c,f,_⟩:=F.ex;show⟨g,vs,c,f⟩
section
variable{K:Â}{X:Cx}{j:Str->Str->Bool}{names:Y Str}
theorem tQ{a:Y (Addr×Ï)}{h:St}{H:Hp}{s:À}(I:Inv X a h H s):∀b∈cE X.stack,∀o,s.heap.get? b=Z o->∀vs,o.data≠.fields vs:=λb e o g=>by let⟨_,l,c,f⟩:=I.stack.mem e;rw[g]at c;cases c;show f
theorem HG:PHM K X [] (λ_ _ _=>False):=⟨λ_ _ _ _ _ _ _ _ _ _ _ _ _ _ _ _ _ _ _ _ _ _ _ _ h=>h.elim⟩
theorem zJ{R:Y ß}{th:XD->EndsM->aj->Prop}{c n:Str}{Da:Addr}{np R7:Õ}{Q:Ç}{Qc:Y Ç}{tu:bL}(i:Nat)(Ex:Exs X.K X.mg j names)(hc:c∈names)(hg:Gl X c)(hm:X.mg c=Z (.ref Da))(hN:X.N.Nodup)(hs:∀pn e,PSsM K (X.held pn e) (Q::Qc) tu)(hr:PHM K X R th)
  (hi:X.N[i]?=Z n:=by rfl) (S6:X.env.scope.names.lookup n=Z .local:=by rfl) (TH:X.fn n=ū\/X.env.scope.names.lookup n=Z .local:=by first|show .inl S|show .inr S) (P4:ad c:=by decide) :
  PHM K X (.ExceptHandler (Z (.Name c np)) (Z n) (Q::Qc) R7::R) (λE U ρ=>E.nm∈names/\(j E.nm c=ū->tu { nx:=λG=>U.nx (G.set i ũ),rt:=U.rt,bk:=λG=>U.bk (G.set i ũ),ct:=λG=>U.ct (G.set i ũ) } (ρ.set i (Z (.v (.exc E.nm E.at_.toList)))))/\(j E.nm c=Ŭ->th E U ρ)):=
 ⟨λhK A s σ H D l T C dx E Φ0 H0 ap ρ U I F Tp aA O fT g V t k=>by
  let⟨RK,t1,t2⟩:=t;let⟨oe,he,Tj,hdx,vs,hvs⟩:=F.live;let⟨iC,kC⟩:=Ex.cls E.nm RK C Tp s.heap I.kIn;let⟨iD,kD⟩:=Ex.cls c hc Da hm s.heap I.kIn;have Tt:=Ex.sub E.nm RK c hc C Da Tp hm s.heap I.kIn;refine ń (Ķ (iY (X:=X.held (X.pn++A) (.ref l)) (I.held (.ref l)) hg hm ?_ P4)) (by intro q;cases q);refine ur kC kD he Tj ?_;rw[Tt]
  cases hb:j E.nm c with
  |false=>show hr.ph hK A s σ H D l T C dx E Φ0 H0 ap ρ U I F Tp aA O fT g V (t2 hb) k
  |true=>
   refine codeAny_handlers_suite_as (oq F λh1 F1 k1 n1=>?_);have I1:Inv X A σ H { s with heap:=h1 }:=I.passed (ql k1 F.note (tQ I)) O (λT' z=>by cases z;show fT) F.obj (λT' z=>by cases z;show F.note);refine sr I1 hN hi (.inl S6) (v:=.ref l) S (λs2 I2 Qj=>?_) TH;let⟨XR,ve2,Tn,M,Tr,XS,_⟩:=F1.ex
   have WJ:l≠X.env.locals:=λz=>by let⟨m,⟨o',es,ep,Qm,Sr,_⟩,_⟩:=I1.loc;rw[z,show h1.get? X.env.locals=_ from Qm]at Tn;cases Tn;rw[Sr]at M;cases M
   have hec:∀x c,X.env.cells.lookup x=Z c->c≠l:=λx c h z=>by let⟨v,o',Qm,Sr⟩:=I1.cell x c h;rw[z,show h1.get? l=_ from Tn]at Qm;cases Qm;rw[Sr]at M;cases M
   have he3:s2.heap.get? l=Z XR:=by
    let⟨a,sb,ha⟩:=Qj;refine (sb.2 l ?_).trans Tn;rcases ha with rfl|ha
    ·show WJ
    ·show λz=>hec _ _ ha z.symm
   have new:ObjOk X.prog X.w (aq H l (.ext (gc l C dx))) s2.heap l (.ext (gc l C dx)):=⟨⟨XR,ve2,he3,Tr,XS,M⟩,⟨XR,he3⟩,λa b ⟨o,w,z1,z2⟩ kk=>⟨o,w,kk o z1,z2⟩⟩;have I3:=I2.knowX O.1 O.2.1 O.2.2 (Lv WJ) hec new
   have Qb:H0 l=ũ:=by
    cases q:H0 l with
    |none=>rfl
    |some u=>have:=g.h _ _ q;rw[O.2.1]at this;cases this
   have hΦe:ap l=ũ:=by
    cases q:ap l with
    |none=>rfl
    |some u=>have:=g.s _ _ q;rw[O.2.1]at this;cases this
   obtain⟨P,g2,r2⟩:∃P,Gr ap H P (aq H l (.ext (gc l C dx)))/\Rp K P (.exc E.nm E.at_.toList) (.ref l):=by
    have g1:Gr ap H (aq ap l (.ext (gc l C dx))) (aq H l (.ext (gc l C dx))):=(Gr.fresh g.s O.2.1 _).freeze O.2.1 hΦe bu
    cases ha:E.at_ with
    |none=>
     rw[ha]at aA;have aA:dx=ũ:=aA;subst aA;show⟨_,g1,.exc0 (hK▸Ex.inK E.nm RK C Tp) bu⟩
    |some d=>
     rw[ha]at aA;let⟨p,v,rfl,hp,rv⟩:=aA
     have XT:p≠l:=λz=>by rw[z,O.2.1]at hp;cases hp
     have TM:aq H l (.ext (gc l C (Z p))) p=Z (.xd [("at",v)]):=by rw[aJ XT];show hp
     have rv':∀Ψ:Hp,Rp K Ψ d v:=λΨ=>(hK▸rv:Rp K (λ_=>ũ) d v).same λb u z=>(by cases z)
     cases q:(aq ap l (.ext (gc l C (Z p)))) p with
     |some u=>
      have:=g1.s _ _ q;rw[TM]at this;cases this;show⟨_,g1,.exc1 (hK▸Ex.inK E.nm RK C Tp) bu q (rv' _)⟩
     |none=>
      refine⟨aq (aq ap l (.ext (gc l C (Z p)))) p (.xd [("at",v)]),⟨g1.f.trans (cX q _),g1.h,λb u z=>?_,λb u z1 z2 z3=>?_⟩,.exc1 (hK▸Ex.inK E.nm RK C Tp) (by rw[aJ (Lv XT)];show bu) bu (rv' _)⟩
      ·by_cases cb:b=p
       ·rw[cb,bu]at z;cases z;rw[cb];show TM
       ·rw[aJ cb]at z;show g1.s b u z
      ·by_cases cb:b=p
       ·rw[cb,hp]at z1;cases z1;show z3.elim
       ·rw[aJ cb];show g1.o b u z1 z2 z3
   have V2:=((V.gr g2).snocV r2).store i
   have run:=(hs (X.pn++A) (.ref l)).ps hK [] s2 _ _ { nx:=λy B=>D.nx (y.set i ũ) B,rt:=D.rt,bk:=λy B=>D.bk (y.set i ũ) B,ct:=λy B=>D.ct (y.set i ũ) B } (I3.held (.ref l))
    ⟨Φ0,H0,P,_,_,g.trans g2,V2,t1 hb,⟨λG N B y r g' V'=>k.nx _ N B _ r g' (V'.unset i),k.rt,λG N B y r g' V'=>k.bk _ N B _ r g' (V'.unset i),λG N B y r g' V'=>k.ct _ N B _ r g' (V'.unset i),λ_ _ _ _ _ _ _ _ h=>h.elim⟩⟩
   refine L0 run (λf s3 hf=>?_) λ_ _ h=>h.elim;have go:∀{y:St}{B:Hp},Inv (X.held (X.pn++A) (.ref l)) [] y B s3->(∀s',Inv X A (y.set i ũ) B s'->SP X A D f s')->wpAny (model X.prog X.w) X.A (do bindName X.env n .none;unbindBehindTheSuite X.env n R7) (λ_ s'=>SP X A D f s') X.xe s3:=λ{y B} J kk=>zr (Inv.unheld I.ok J) hN hi S6 TH kk
   cases f with
   |next=>let⟨y,B,J,q⟩:=hf;show go J λs' a_=>⟨_,B,a_,q⟩
   |brk=>let⟨y,B,J,q⟩:=hf;show go J λs' a_=>⟨_,B,a_,q⟩
   |cont=>let⟨y,B,J,q⟩:=hf;show go J λs' a_=>⟨_,B,a_,q⟩
   |ret u=>let⟨v,y,B,J,rv,q⟩:=hf;show go J λs' a_=>⟨v,_,B,a_,rv,q⟩⟩
theorem AL{o:Y Ç}{h₀:ß}{aA:Y ß}{pos:Õ}{tb:bL}{th:XD->EndsM->aj->Prop}(hb:∀pn xe,PSsM K (X.tried pn xe) o tb)(hh:PHM K X (h₀::aA) th)(VD:X.stack=X.env::X.outer)(QN:X.env.frame=Z X.env.locals) :
  PSM K X (.Try o (h₀::aA) [] [] pos) (λM ρ=>tb { M with ex:=λxd ρ1=>th xd M ρ1 } ρ):=⟨λhK=>by
 intro a s σ H D I O7;let⟨G,H0,Φ,ρ,M,g,V,t,k⟩:=O7;refine wpAny_Try_except ?_
 refine L0 ((hb (X.pn++a) (λe A=>wpAny (model X.prog X.w) X.A (ĝ e X.env) (λ_ B=>wpAny (model X.prog X.w) X.A (Ŝ e ũ) (λ_ E=>wpAny (model X.prog X.w) X.A (handleBy e X.env (h₀::aA)) (SP X a D) X.xe E) X.xe B) X.xe A)).ps hK [] s σ H D (I.tried _)
  ⟨G,H0,Φ,ρ,_,g,V,t,⟨k.nx,k.rt,k.bk,k.ct,λxd ρ' Φ' l c e s' RB hth g' V' st=>?_⟩⟩) (λf s1 Q=>?_) λ_ _ h=>h
 ·let⟨P,C,T,dx,e1,F,Tp,PB,a_,ap⟩:=st.ex;subst e1;have r:Inv X a c l s':=Inv.untried I.ok st.inv;have R:X.s₀.heap.get? P=ũ/\l P=ũ/\∀p∈X.pn++a,p.1≠P:=⟨a_.1,a_.2.1,λp y=>a_.2.2 p (Mj _ y)⟩;have U:∀m,T=Z m->X.s₀.heap.get? m=ũ/\l m=ũ/\∀p∈X.pn++a,p.1≠m:=λm z=>⟨(ap m z).1,(ap m z).2.1,λp y=>(ap m z).2.2 p (Mj _ y)⟩;have QD:=r.stack;have x:=r.ok.frames;rw[VD]at QD x;refine va (base:=X.base) x QD QN F λh1 O N n1 k1=>?_;rw[←VD]at k1;have I1:Inv X a c l { s' with heap:=h1 }:=r.passed k1 R U F.obj (λm z=>by subst z;show F.note);have w:X.s₀.heap.get? O=ũ/\l O=ũ/\∀p∈X.pn++a,p.1≠O:=⟨L8 (K3 r.sz n1),r.hok.fresh n1,λp y z=>absurd (KI (r.pin p y).1) (by rw[z];show NQ.mpr n1)⟩;refine oq (s:={ s' with heap:=h1 }) N λh2 F2 k2 n2=>?_;have I2:Inv X a c l { s' with heap:=h2 }:=I1.passed (ql k2 N.note (tQ I1)) R (λm z=>by cases z;show w) N.obj (λm z=>by cases z;show N.note);show hh.ph hK a _ c l D P O C dx xd G H0 Φ' ρ' M I2 F2 Tp PB R w g' V' hth k
 ·cases f with
  |next=>let⟨c,l,J,q⟩:=Q;show NL ⟨c,l,Inv.untried I.ok J,q⟩
  |brk=>let⟨c,l,J,q⟩:=Q;show⟨c,l,Inv.untried I.ok J,q⟩
  |cont=>let⟨c,l,J,q⟩:=Q;show⟨c,l,Inv.untried I.ok J,q⟩
  |ret u=>let⟨v,c,l,J,rv,q⟩:=Q;show⟨v,c,l,Inv.untried I.ok J,rv,q⟩⟩
end
section
variable{M:ö}{A:É}{E:Value->À->Prop}{h:Heap}{g:Array ý}{d:ŗ}{t:Nat}{os:Ŗ}{a:Addr}{o:Ï}{nm q:Str}{C N:Addr}{bs bm:Y Value}{hdct:Bool}{sn:Y Str}{sub:Y Value}{ab:Bool}{col:Ū Bool}{dd:Ū Addr}{k0 k1 k2 k3 k5:Ū Value}{c:String}{mN:Str->Ū Value}{name:Str}
theorem J3{y:Ū Value}{Q:Ū Value->À->Prop}(j:name∈excNames)(T:TailN h bm)(p:ĺ la name=pure y)(m:Q y ⟨h,g,d,t,os⟩):wpAny M A (ĺ bm name) Q E ⟨h,g,d,t,os⟩:=by
 induction T with
 |base=>rw[p];show KD m
 |own e f l _ r=>
  rw[Ş];refine Ko (wpAny_classOwn_cls e f ?_);rw[l name j];show r
theorem kA{y:Ū Value}{Q:Ū Value->À->Prop}(l:name∈excNames)(f:h.get? C=Z (Ý nm q C N bs bm hdct sn sub ab col dd k0 k1 k2 k3 k5 c))(m:h.Ns N mN)(j:mN name=ũ)(T:TailN h bm)(e:ø (.type "ValueError") name=pure y)
  (p:Q y ⟨h,g,d,t,os⟩):wpAny M A (ø (.ref C) name) Q E ⟨h,g,d,t,os⟩:=by
 have r:ĺ la name=pure y:=by rw[typeLookup_eq,LZ.mroIs]at e;show e
 rw[typeLookup_eq];refine Ko (ţ f ?_);rw[Ş];refine Ko (wpAny_classOwn_exc f m ?_);rw[j];show J3 l T r p
theorem JH{e:Value}{Q:Unit->À->Prop}(l:h.get? C=Z (Ý nm q C N bs bm hdct sn sub ab col dd k0 k1 k2 k3 k5 c))(T:TailN h bm)(u:h.get? a=Z o)(m:o.cls=.ref C)(r:Q Unit.unit ⟨h,g,d,t,os⟩):wpAny M A (ë "BaseException.__getattribute__" ⟨[.ref a,e],[]⟩) Q E ⟨h,g,d,t,os⟩:=by
 have p:builtinKind "BaseException.__getattribute__"=Z .slot:=by lia
 have j:splitId "BaseException.__getattribute__"=Z ("BaseException","__getattribute__"):=by lia
 have f:(Value.ref C::bm).contains (.type "BaseException")=ū:=by rw[Ng,T.tail.hasType (X:="BaseException") (b:=ū) 'a',OG]
 have v:=F.args_bexc_ga (.ref a) e;simp only[ë,p,j];refine Ko ?_;unfold Ŋ
 repeat (first|(with_reducible refine Lu u ?_;rw[m])|(with_reducible refine Mv l ?_;rw[f])|wp_step)
 show r
end
structure Isa(K:Â)(mg:Str->Option Value)(PZ:Str->Str->Bool)(names:List Str):Prop where
 own:∀nm∈names,∀c∈names,∀C D,mg nm=Z (.ref C)->mg c=Z (.ref D)->đ K (.ref C) (.ref D)=Z (PZ nm c)
 val:∀nm∈names,∀C,mg nm=Z (.ref C)->đ K (.ref C) (.type "ValueError")=Z ū
 mgK:∀nm∈names,∀C,Ú K Á nm=Z (Z (.ref C))->mg nm=Z (.ref C)
section
variable{prog:Ä}{w:Å}{A:É}{E:Value->À->Prop}{h:Heap}{g:Array ý}{d:ŗ}{t:Nat}{os:Ŗ}{a p:Addr}{o:Ï}{vs:Array Value}{v:Value}{nm q:Str}{C N:Addr}{bs bm:Y Value}{sn:Y Str}{sub:Y Value}{ab:Bool}{col:Ū Bool}{dd:Ū Addr}{k0 k1 k2 k3 k5:Ū Value}{c:String}{mN e:Str->Ū Value}
theorem wI:ø (.type "ValueError") "at"=pure ũ:=by rw[typeLookup_type,builtinLookup_eq_fast];kernel_rfl
theorem Ii{F:ú}{Q:Fin->À->Prop}(f:h.get? C=Z (Ý nm q C N bs bm ū sn sub ab col dd k0 k1 k2 k3 k5 c))(u:h.Ns N mN)(m:mN "at"=ũ)(T:TailN h bm)(l:h.get? a=Z o)(j:o.cls=.ref C)(hd:o.data=.fields vs)(y:o.dict=Z p)(r:h.Ns p e)(B:e "at"=Z v)(z:Q (.done (.ret v)) ⟨h,g,d,t,os⟩) :
  wpAny (model prog w) A (Builtin.«object.__getattribute__» ⟨[.ref a,.str "at" F],[]⟩) Q E ⟨h,g,d,t,os⟩:=by
 have x:("at":Str)∈excNames:=by simp
 unfold Builtin.«object.__getattribute__»
 repeat (first|(with_reducible refine Lu l ?_;rw[j])|with_reducible refine kA x f u m T wI ?_|wp_step)
 rw[hd];change wpAny _ _ (instanceDict a Ŭ) _ _ _;unfold instanceDict
 repeat (first|(with_reducible refine Lu l ?_;rw[j])|with_reducible refine Lu f ?_|wp_step)
 rw[y];refine KD ?_;unfold Builtin.ObjectAttr.inDict
 repeat (first|(with_reducible refine wpAny_nsGet r ?_;rw[B])|wp_step)
 show z
theorem Cq{O:ú}{fill f:Bool}{Q:Value->À->Prop}(j:h.get? C=Z (Ý nm q C N bs bm ū sn sub ab col dd k0 k1 k2 k3 k5 c))(m:h.Ns N mN)(l:∀n∈excNames,n≠"__init__"->mN n=ũ)(T:TailN h bm)(u:h.get? a=Z o)(r:o.cls=.ref C)(hd:o.data=.fields vs)(G:o.dict=Z p)(B:h.Ns p e)(H:e "at"=Z v)(ap:ā v=pure v)(U:Q v ⟨h,g,d,t,os⟩) :
  wpAny (model prog w) A (getAttrBy (.ref a) (.str "at" O) fill f) Q E ⟨h,g,d,t,os⟩:=by
 have R:=MG.ga.bind (.ref a)
 have I:(f&&onTheHeap (Value.builtin "BaseException.__getattribute__"))=Ŭ:=by cases f<;>rfl
 have z:(Value.builtin "BaseException.__getattribute__"==Value.builtin "object.__getattribute__")=Ŭ:=by lia
 have P:(onTheHeap (Value.ref C)&&Value.builtin "BaseException.__getattribute__"==Value.builtin "object.__getattribute__")=Ŭ:=by rw[z];rfl
 have x:("__getattribute__":Str)∈excNames:=by simp
 have y:("__getattr__":Str)∈excNames:=by simp
 have J:=l "__getattribute__" x 'b';have K:=l "__getattr__" y 'b';have M:=l "at" (by simp) 'b'
 repeat (any_goals (first|assumption|(with_reducible refine Lu u ?_;rw[r])|with_reducible refine kA x j m J T MG.ga.lookup ?_|with_reducible refine kA y j m K T MG.noGetattr ?_|wp_step))
 refine Ļ MG.ga.plain F.entry_bexc_ga (JH j T u r (Ii j m M T u r hd G B H ?_))
 repeat (any_goals (first|assumption|wp_step))
theorem G3{f:Bool}{Q:Value->À->Prop}(m:h.get? C=Z (Ý nm q C N bs bm ū sn sub ab col dd k0 k1 k2 k3 k5 c))(r:h.Ns N mN)(j:∀n∈excNames,n≠"__init__"->mN n=ũ)(T:TailN h bm)(B:h.get? a=Z o)(u:o.cls=.ref C)(hd:o.data=.fields vs)(y:o.dict=Z p)(l:h.Ns p e)(z:e "at"=Z v)(x:ā v=pure v)(F:Q v ⟨h,g,d,t+1,os⟩) :
  wpAny (model prog w) A (Ĭ (.ref a) "at" f) Q E ⟨h,g,d,t,os⟩:=by
 unfold Ĭ
 repeat (any_goals (first|assumption|with_reducible apply Cq m r j T B u hd y l z x|wp_step))
end
section
variable{K:Â}{X:Cx}{a:Ã}{f:TD}{c:Õ}{h:Str->Str->Bool}{names:Y Str}
theorem Ai:ā .none=pure .none:=by rfl
theorem C7(i:Int)(t:ú):ā (.int i t)=pure (.int i t):=by rfl
noncomputable def ma:D->Prop|.non=>True|.int _=>True|_=>False
noncomputable def BK(names:Y Str)(t:TD):TD:=λρ R=>t ρ λd=>∃nm x,d=.exc nm [x]/\nm∈names/\ma x/\R x
theorem pA(a_:Exs X.K X.mg h names)(Is:Isa X.K X.mg h names)(ha:PD K X a f)(hb:Æ a "at" X.env (eval a X.env)=eval a X.env:=by rfl):PD K X (.Attribute a "at" c) (BK names f):=
 ⟨λap=>by
  intro A s σ H Q I O7;let⟨aA,U,ρ,R,E,t,k⟩:=O7;refine xY hb (aE (ha.pe ap A s σ H _ I ⟨aA,U,ρ,_,E,t,λd l y v r g M=>(⟨l,d,r,g,M⟩:∃l d,(∃nm x,d=.exc nm [x]/\nm∈names/\ma x/\R x)/\Gr U H l y/\Rp K l d v)⟩) λu G Qq=>?_);let⟨v,y,B,M,l,d,⟨nm,x,rfl,O,UR,hR⟩,g,r⟩:=Qq
  cases r with
  | @exc1 F C p _ w _ h0 h1 h2 P=>
   obtain rfl:u=Value.ref F:=M;have T5:=Is.mgK nm O C (ap▸h0);let⟨i,hc⟩:=a_.cls nm O C T5 G.heap B.kIn;let⟨XF,q,N,bs,bm,sn,sub,ab,col,dd,k0,k1,k2,k3,k5,mN,c1,c2,c3,c4,c5⟩:=hc.ex;let⟨⟨o,vs,z1,z2,z3,z4⟩,_⟩:=(show ObjOk X.prog X.w y G.heap F (.ext (gc F C (Z p)))from B.hok F _ (g.s _ _ h1));let⟨T,n1,n2⟩:=(show ObjOk X.prog X.w y G.heap p (.xd [("at",w)])from B.hok p _ (g.s _ _ h2));have z:=n2 "at"
   have hl:([("at",w)]:Y (Str×V)).lookup ("at":Str)=Z w:=by rw[K4,K5]
   rw[hl]at z
   obtain⟨m,e1,J⟩:∃m,T "at"=Z m/\RelV w m:=by
    cases q:T "at" with
    |none=>rw[q]at z;show z.elim
    |some m=>rw[q]at z;show⟨m,S,z⟩
   have hh:ā m=pure m:=by
    cases P with
    |non=>cases (show m=Value.none from J);show Ai
    |int j=>let⟨t',e⟩:=(show ∃t,m=Value.int j t from J);rw[e];show C7 j t'
    |_=>show UR.elim
   let⟨hp,gg,dr,tk,os⟩:=G
   show G3 c1 c2 c4 c5 z1 z2 z4 z3 n1.ns e1 hh ⟨w,y,B.tok _,J,k x l y w hR g P⟩⟩
end
open Builtin Builtin.ObjectAttr
section
variable{M:ö}{prog:Ä}{w:Å}{A:É}{E:Value->À->Prop}{h:Heap}{g:Array ý}{d:ŗ}{t:Nat}{os:Ŗ}{x:Addr}{o:Ï}{vs:Array Value}{v:Value}{nm q:Str}{C N:Addr}{bs bm:Y Value}{sn:Y Str}{sub:Y Value}{ab:Bool}{col:Ū Bool}{dd:Ū Addr}{k0 k1 k2 k3 k5:Ū Value}{a:String}{mN:Str->Ū Value}
theorem HC(self:Value){h:Heap}{bm:Y Value}(T:TailN h bm):refuseLoop self "__setattr__" bm=pure Unit.unit:=by
 induction T with
 |base=>show Mh.passes self
 |own _ _ _ _ c=>rw[refuseLoop_ref];show c
theorem IH{c:Value}{Q:Unit->À->Prop}(f:h.get? C=Z (Ý nm q C N bs bm ū sn sub ab col dd k0 k1 k2 k3 k5 a))(T:TailN h bm)(m:h.get? x=Z o)(j:o.cls=.ref C)(l:Q Unit.unit ⟨h,g,d,t,os⟩) :
  wpAny M A (ë "object.__setattr__" ⟨[.ref x,c,v],[]⟩) Q E ⟨h,g,d,t,os⟩:=by
 have e:(Value.ref C::bm).contains (.type "object")=ū:=by rw[Ng,T.tail.hasType (X:="object") (b:=ū) 'a',OG]
 have p:=Mh.args (.ref x) c v;simp only[ë,Mh.kind,Mh.split];refine Ko ?_
 ·unfold Ŋ
  repeat (first|(with_reducible refine Lu m ?_;rw[j])|(with_reducible refine Mv f ?_;rw[e])|wp_step)
  show l
structure Stored(h h':Heap)(x:Addr)(o:Ï)(p:Addr)(v:Value):Prop where
 at_:h'.get? x=Z { cls:=o.cls,dict:=Z p,data:=o.data,slots:=o.slots }
 ns:h'.Ns1 p (λy=>if y="at" then Z v else ũ)
 new:h.objs.size<=p
 keep:∀b ob,b≠x->h.get? b=Z ob->h'.get? b=Z ob
theorem Hn{H:ú}{Q:Fin->À->Prop}(F:h.get? C=Z (Ý nm q C N bs bm ū sn sub ab col dd k0 k1 k2 k3 k5 a))(hN:h.Ns N mN)(J:mN "at"=ũ)(T:TailN h bm)(m:h.get? x=Z o)(hc:o.cls=.ref C)(hd:o.data=.fields vs)(hp:o.dict=ũ)
  (hq:∀h' p K,Stored h h' x o p v->Q (.done (.ret .none)) ⟨h',g,d,K,os⟩):wpAny (model prog w) A (Builtin.«object.__setattr__» ⟨[.ref x,.str "at" H,v],[]⟩) Q E ⟨h,g,d,t,os⟩:=by
 have O:=HC (.ref x) T
 have hm:("at":Str)∈excNames:=by simp
 unfold Builtin.«object.__setattr__»
 repeat (first|rw[refuse_eq]|(rw[refuseLoop_ref,O])|(with_reducible refine Lu m ?_;rw[hc])|with_reducible refine ţ F ?_|with_reducible refine kA hm F hN J T wI ?_|wp_step)
 rw[hp];change wpAny _ _ (if (!ū || !typeHasDict (Value.ref C))=ū then pure ũ else match o.data with|Data.cls c=>pure ũ|_=>_) _ _ _;rw[Kr (by simp[typeHasDict]),hd];have B:(h.push { cls:=.type "dict",data:=.dict #[] }).get? x=Z o:=Ks _ m;have f:x≠h.objs.size:=Lg (KI m);refine Ko (wpAny_alloc' ?_);refine Ko (wpAny_update' B ?_);refine KD ?_;generalize r:((h.push { cls:=.type "dict",data:=.dict #[] }).update x λo=>{ cls:=o.cls,dict:=Z h.objs.size,data:=o.data,slots:=o.slots })=h2
 have a_:h2.get? h.objs.size=Z { cls:=.type "dict",data:=.dict #[] }:=by rw[←r];show (Heap.get?_update_ne _ _ _ _ f.symm).trans (Heap.get?_push_at S S)
 have aA:h2.get? x=Z { cls:=o.cls,dict:=Z h.objs.size,data:=o.data,slots:=o.slots }:=by
  rw[←r];refine Mp _ B ?_;have I:=(Heap.get?_some_iff.mp m).2;let⟨oc,od,y,Si⟩:=o;cases y<;>first|rfl|show I
 have go:∀b j,b≠x->h.get? b=Z j->h2.get? b=Z j:=λb j u l=>by rw[←r];show (Heap.get?_update_ne _ _ _ _ u).trans (Ks _ l)
 have nd:h2.Ns h.objs.size (λ_=>ũ):=⟨_,#[],_,a_,S,λe he=>absurd he (by simp),λ_=>rfl⟩;change wpAny _ _ (storeInDict h.objs.size (.str "at" H) "at" v) _ _ _;unfold storeInDict newKeyGuard;refine Ko (KD (Ko (wpAny_nsSet1 (Heap.Ns1.of_empty nd) λh' z G=>?_)));let⟨oD,X,U,P,R,ap⟩:=z.count (Within.cons "at" v Within.nil);refine Ko (Ś P (by rw[R];show ŝ (K3 ap (by rw[KA,LF,LD];omega))) ?_)
 wp_walk
 show hq h' h.objs.size _ ⟨(G.2 x f).trans aA,z,Kw _,λb j u l=>(G.2 b (Lg (KI l))).trans (go b j u l)⟩
theorem JQ{Q:Unit->À->Prop}(e:h.get? C=Z (Ý nm q C N bs bm ū sn sub ab col dd k0 k1 k2 k3 k5 a))(m:h.Ns N mN)(l:∀n∈excNames,n≠"__init__"->mN n=ũ)(T:TailN h bm)(j:h.get? x=Z o)(f:o.cls=.ref C)(hd:o.data=.fields vs)(u:o.dict=ũ)
  (y:∀h' p c,Stored h h' x o p v->Q Unit.unit ⟨h',g,d,c,os⟩):wpAny (model prog w) A (Œ (.ref x) "at" v) Q E ⟨h,g,d,t,os⟩:=by
 have F:=Mh.slot.bind (.ref x)
 have r:("__setattr__":Str)∈excNames:=by simp
 have z:=l "__setattr__" r 'b';have B:=l "at" (by simp) 'b';unfold Œ callSpecial? specialOf
 repeat (any_goals (first|assumption|(with_reducible refine Lu j ?_;rw[f])|with_reducible refine kA r e m z T Mh.slot.lookup ?_|wp_step))
 refine Ļ Mh.slot.plain Mh.entry (IH e T j f (Hn e m B T j f hd u λh' p c U=>?_))
 repeat (any_goals (first|assumption|wp_step))
 show y h' p c U
end
end L2
namespace L2
open PySem PySem.Spec PyProof.Rows
noncomputable def eu(a C t:Addr)(c:Ū Addr):Heap->Prop:=λh=>∃sl,h.get? a=Z { cls:=.ref C,dict:=c,data:=.fields #[.ref t,.none,.none,.none,.bool Ŭ,.none],slots:=sl }
section
variable{X:Cx}{g:Y (Addr×Ï)}{j:St}{H:Hp}{s:À}{C t:Addr}
theorem Inv.stored{e p:Addr}{sl:Array (Ū Value)}{v:Value}{y:V}{h':Heap}{t':Nat}(I:Inv X g j H s)(o:H e=Z (.ext (eu e C t ũ)))(ap:Stored s.heap h' e { cls:=.ref C,dict:=ũ,data:=.fields #[.ref t,.none,.none,.none,.bool Ŭ,.none],slots:=sl } p v)(Q:RelV y v) :
  Inv X g j (aq (aq H p (.xd [("at",y)])) e (.ext (eu e C t (Z p)))) { s with heap:=h',toks:=t' }:=by
 have r:H p=ũ:=I.hok.fresh ap.new
 have T:p≠e:=λz=>by rw[z,o]at r;cases r
 have K:∀b l,s.heap.get? b=Z l->b≠p:=λb l x z=>by subst z;show absurd (KI x) (NQ.mpr ap.new)
 have ne:∀{b:Addr},H b=ũ->b≠e:=λ{b} x z=>by rw[z,o]at x;cases x
 refine I.un (h':=h') (t':=t') ⟨λb l q n _ _=>ap.keep b l (ne n) q,λb l q n _ _=>⟨l.slots,ap.keep b l (ne n) q⟩,λb l q n _=>?_,λb l q _=>?_,λb xs q=>?_,λb l xs q=>?_,λb xs q=>?_⟩ λb u q=>?_
 ·rw[aJ (ne n),aJ (K b l q)];show n
 ·by_cases c:b=e
  ·rw[c];show⟨_,ap.at_⟩
  ·show⟨l,ap.keep b l c q⟩
 ·rw[aJ (λz=>by rw[z,o]at q;cases q),aJ (λz=>by rw[z,r]at q;cases q)];show q
 ·rw[aJ (λz=>by rw[z,o]at q;cases q),aJ (λz=>by rw[z,r]at q;cases q)];show q
 ·rw[aJ (λz=>by rw[z,o]at q;cases q),aJ (λz=>by rw[z,r]at q;cases q)];show q
 ·by_cases c:b=e
  ·subst c;rw[bu]at q;cases q;show⟨⟨sl,ap.at_⟩,⟨_,ap.at_⟩,λa U ⟨w,R⟩ O=>⟨w,O _ R⟩⟩
  ·rw[aJ c]at q;by_cases F:b=p
   ·subst F;rw[bu]at q;cases q;refine⟨_,ap.ns,λf=>?_⟩;by_cases A:f="at"
    ·subst A;rw[K4,K5];change RelO (Z y) (if ("at":Str)="at" then Z v else ũ);rw[Kq S];show Q
    ·have:([("at",y)]:Y (Str×V)).lookup f=ũ:=by
      rw[K4]
      have:(f==("at":Str))=Ŭ:=by simpa using A
      rw[this];rfl
     rw[this];change RelO ũ (if f="at" then Z v else ũ);rw[Kr A];trivial
   ·rw[aJ F]at q
    have B:∀z E,H z=Z E->E≠.ext (eu e C t ũ)->z≠e:=λz E G M N=>by rw[N,o]at G;show M (K2 G).symm
    refine (I.hok b u q).stay (λz J h P=>ap.keep z J ?_ P) (λz h=>?_) (λz xs h=>?_) (λz l J h=>?_)
    ·rcases h with rfl|h
     ·show c
     ·show λm=>by rw[m,o]at h;cases h
    ·rw[aJ (λm=>by rw[m,o]at h;cases h),aJ (λm=>by rw[m,r]at h;cases h)];show h
    ·rw[aJ (λm=>by rw[m,o]at h;cases h),aJ (λm=>by rw[m,r]at h;cases h)];show h
    ·rw[aJ (λm=>by rw[m,o]at h;cases h),aJ (λm=>by rw[m,r]at h;cases h)];show h
noncomputable def qU(C t:Addr):Sp:=λvs H Q _=>∃e v,vs=[.ref e,v]/\H e=Z (.ext (eu e C t ũ))/\∀p,H p=ũ->p≠e->Q .non (aq (aq H p (.xd [("at",v)])) e (.ext (eu e C t (Z p))))
noncomputable def xO(C t:Addr):TS:=λD j H=>∃e v,j=[Z (.ref e),Z v]/\H e=Z (.ext (eu e C t ũ))/\∀p,H p=ũ->p≠e->D.nx j (aq (aq H p (.xd [("at",v)])) e (.ext (eu e C t (Z p))))
theorem JW{o F r G:Õ}{i:Ū Value}(E:X.N=[("self":Str),("at":Str)])(hC:∀h:Heap,X.K.In h->ExcAt h C i)(Q:cx X.env.scope "self")(R:cx X.env.scope "at")(hs:Î (.Name "at" r) (Z (.Attribute (.Name "self" o) "at" F)) G.line X.env=pure Ŭ):PS X (.Assign [.Attribute (.Name "self" o) "at" F] (.Name "at" r) G) (xO C t):=by
 intro g s j H D I K;let⟨e,v,rfl,m,k⟩:=K;have w:PE X (.Name "at" r) (je 1):=tX (by rw[E];rfl) R 'b' 'b';have A:PE X (.Name "self" o) (je 0):=tX (by rw[E];rfl) Q 'b' 'b';refine NI (aE (w g s _ H (λy a=>y=v/\a=H) I ⟨v,S,S,S⟩) λu s1 M=>?_) hs;let⟨y,a,J,ry,e1,e2⟩:=M;subst e1;subst e2;refine aE (A g s1 _ a (λx c=>x=.ref e/\c=a) J ⟨_,S,S,S⟩) λov B O=>?_;let⟨x,c,f,rx,e3,e4⟩:=O;subst e3;subst e4;obtain rfl:ov=Value.ref e:=rx;let⟨nm,q,N,bs,bm,sn,sub,ab,col,dd,k0,k1,k2,k3,k5,mN,T,U,c3,a_,aA⟩:=(hC B.heap f.kIn).ex;let⟨⟨sl,z1⟩,_⟩:=(show ObjOk X.prog X.w c B.heap e (.ext (eu e C t ũ))from f.hok e _ m);let⟨hp,gg,dr,tk,os⟩:=B;refine JQ T U a_ aA z1 S S S λh' p P ap=>?_;have l:c p=ũ:=f.hok.fresh ap.new;show⟨_,_,f.stored (t':=P) m ap ry,k p l (λz=>by rw[z,m]at l;cases l)⟩
end
section
variable{M:ö}{A:É}{E:Value->À->Prop}{s:À}{env:é}{C:Addr}
theorem DM{x:Sem Value}{Q:Flow->À->Prop}(u:A.handled=ũ)
  (h:wpAny M A x (λv a=>∃e t j sl i,v=.ref e/\ExcAt a.heap C i/\a.heap.get? e=Z { cls:=.ref C,dict:=j,data:=.fields #[.ref t,.none,.none,.none,.bool Ŭ,.none],slots:=sl }/\E (.ref e) a) E s):wpAny M A (raiseStmt env (Z x) ũ) Q E s:=by
 unfold raiseStmt;refine Ko (L0 h (λv a c=>?_) λ_ _ x=>x);let⟨e,t,j,sl,i,rfl,o,r,p⟩:=c;let⟨nm,q,N,bs,bm,sn,sub,ab,col,dd,k0,k1,k2,k3,k5,mN,f,w,y,z,m⟩:=o.ex
 have l:(Value.ref C::bm).contains (.type "BaseException")=ū:=by rw[Ng,m.tail.hasType (X:="BaseException") (b:=ū) 'a',OG]
 let⟨B,g,d,F,os⟩:=a
 repeat (first|with_reducible refine Lu r ?_|with_reducible refine Lu f ?_|(with_reducible refine Mv f ?_;rw[l])|wp_step)
 show wpAny_raiseNew_none u p
end
section
variable{prog:Ä}{w:Å}{A:É}{E:Value->À->Prop}{h:Heap}{g:Array ý}{d:ŗ}{t:Nat}{os:Ŗ}
variable{C c:Addr}{f:Ï}{a:Y Value}
theorem JE{Q:Fin->À->Prop}(J:ExcAt h C (Z (.ref c)))(F:h.get? c=Z f)(B:f.cls=.type "function")(z:a.length<=sizeLine)
  (O:∀h' e,Heap.MadeExcOf h h' e (.ref C) a->wpAny (model prog w) A (call (.ref c) (.ref e::a)) (λr s'=>r=.none/\Q (.done (.ret (.ref e))) s') E ⟨h',g,d,t,os⟩) :
  wpAny (model prog w) A (Builtin.«type.__call__» ⟨.ref C::a,[]⟩) Q E ⟨h,g,d,t,os⟩:=by
 let⟨nm,q,N,bs,bm,sn,sub,ab,col,dd,k0,k1,k2,k3,k5,mN,j,H,I,R,p⟩:=J.ex
 repeat (first|with_reducible refine Lu j ?_|with_reducible refine wpAny_madeBy_exc j ?_|wp_step)
 refine codeAny_call_builtin_code (ģ _ LZ.quiet) (wpAny_check_new_subT LZ p.tail j ?_);refine codeAny_exc_new_subT LZ p.tail j ?_ z;change wpAny _ _ _ _ _ _;generalize m:((h.push { cls:=.type "tuple",data:=.seq a.toArray }).push { cls:=.ref C,data:=.fields #[.ref h.objs.size,.none,.none,.none,.bool Ŭ,.none] })=l
 have kp:∀b o,h.get? b=Z o->l.get? b=Z o:=λb o M=>by rw[←m];show Ks _ (Ks _ M)
 have v:l.get? (h.objs.size+1)=Z { cls:=.ref C,data:=.fields #[.ref h.objs.size,.none,.none,.none,.bool Ŭ,.none] }:=by rw[←m];heap_get
 have G:l.get? h.objs.size=Z { cls:=.type "tuple",data:=.seq a.toArray }:=by rw[←m];show Ks _ (Heap.get?_push_at S S)
 have u:(Value.ref C::bm).contains (.ref C)=ū:=by simp
 have y:=kp _ _ j;unfold Ŋ
 repeat (first|with_reducible refine Lu v ?_|(with_reducible refine Mv y ?_;rw[u])|wp_step)
 change wpAny _ _ (ø (.ref C) _) _ _ _;refine wpAny_typeLookup_tail y (H.keeps kp) (p.keeps kp).tail LZ.mroIs LZ.init.lookup ?_;rw[I];refine Mi (Ko ?_);unfold bindSpecial;refine Ko (Ox (T:="function") ⟨_,kp _ _ F,B⟩ ?_);rw[Kq 'b'];refine KD (Ko (L0 (O l (h.objs.size+1) ⟨kp,L8 (N0 _),h.objs.size,v,L8 (Kw _),G⟩) (λr s' P=>?_) λ_ _ x=>x));let⟨rfl,K⟩:=P
 wp_walk
 show K
theorem Cs{Q:Value->À->Prop}(l:ExcAt h C (Z (.ref c)))(p:h.get? c=Z f)(o:f.cls=.type "function")(m:a.length<=sizeLine)
  (v:∀h' e,Heap.MadeExcOf h h' e (.ref C) a->wpAny (model prog w) (A.under (.builtin "type.__call__" ⟨.ref C::a,[]⟩)) (call (.ref c) (.ref e::a)) (λr s'=>r=.none/\Q (.ref e) s') E ⟨h',g,d,t,os⟩) :
  wpAny (model prog w) A (call (.ref C) a) Q E ⟨h,g,d,t,os⟩:=by
 let⟨nm,q,N,bs,bm,sn,sub,ab,col,dd,k0,k1,k2,k3,k5,mN,j,_⟩:=id l.ex;have x:=tc_lookup;have y:=tc_bind (.ref C);have z:(⟨h,g,d,t,os⟩:À).TypeIs (.ref C) "type":=⟨_,j,S⟩;refine Oi (codeAny_of_tree ?_);change wpAny _ _ (callAny (.ref C) _) _ _ _
 repeat (any_goals (first|assumption|with_reducible refine Lu j ?_|wp_step))
 refine⟨S,?_⟩;refine codeAny_call_builtin_at (ģ _ 'a') entry_typeCall (wpAny_check_type_call_sub j (JE l p o m λh' e u=>?_));show v h' e u
end
section
variable{P:Ä}{w:Å}{K:Â}{mg:Str->Ū Value}{base:Heap}{CX:cM}{k:Nat}{qual:Str}{st:Ç}{f C t:Addr}{l:Ë}{i:Ū Value}{j g c a:Õ}
theorem Ec(F:Fun K "__init__" qual st f l)(U:FnScope [("self":Str),("at":Str)] [("self":Str),("at":Str)] (aF st))(y:dR st=[.Assign [.Attribute (.Name "self" j) "at" g] (.Name "at" c) a])(p:cx (aF st) "self")(r:cx (aF st) "at")
  (B:∀env,Î (.Name "at" c) (Z (.Attribute (.Name "self" j) "at" g)) a.line env=pure Ŭ) (x:∀h:Heap,K.In h->ExcAt h C i):FnOk P w K mg base CX (k+1) f l [("self":Str),("at":Str)] (qU C t):=by
 let⟨O,R,kV,u,T,M,I,ct,J,rfl,lk,o⟩:=F.ex;refine qG lk o U (λvs H Q E m=>?_) λA outer s H vs Q E N m=>⟨xO C t,?_,?_⟩
 ·let⟨e,v,rfl,_⟩:=m;rfl
 ·rw[y];show xR (JW S x p r (B _))
 ·let⟨e,v,rfl,z,G⟩:=m;show⟨e,v,S,z,G⟩
end
section
variable{X:Cx}{l:Y (Addr×Ï)}{w:St}{H:Hp}{s:À}{K:Â}
noncomputable def jG(H:Hp)(e:Addr):Hp:=λb=>if b=e then ũ else H b
theorem iJ{e b:Addr}(h:b≠e):jG H e b=H b:=Kr h
theorem vP{e:Addr}:jG H e e=ũ:=Kq S
theorem oy{e b:Addr}(h:H b=ũ):jG H e b=ũ:=by unfold jG;split<;>first|rfl|show h
theorem Inv.drop{e:Addr}{r:Heap->Prop}(I:Inv X l w H s)(f:H e=Z (.ext r))(t:X.s₀.heap.get? e=ũ):Inv X l w (jG H e) s where
 ok:=I.ok
 os:=I.os
 bare:=I.bare
 base:=⟨I.base.keep,I.base.slot,λb j q n o=>oy (I.base.free b j q n o),I.base.there,
  λb xs q=>by have:=I.base.tups b xs q;rw[iJ (λz=>by rw[z,f]at this;cases this)];show this,
  λb j xs q=>by have:=I.base.frzs b j xs q;rw[iJ (λz=>by rw[z,f]at this;cases this)];show this,
  λb ps q=>by have:=I.base.tbls b ps q;rw[iJ (λz=>by rw[z,f]at this;cases this)];show this⟩
 loc:=I.loc
 cell:=I.cell
 free:=oy I.free
 freeC x c h:=oy (I.freeC x c h)
 pin p h:=by let⟨a1,a2,a3⟩:=I.pin p h;show⟨a1,oy a2,a3⟩
 hok b u q:=by
  have m:b≠e:=λz=>by rw[z,vP]at q;cases q
  rw[iJ m]at q;show (I.hok b u q).stay (λ_ _ _ q=>q) (λz a=>by rw[iJ (λg=>by rw[g,f]at a;cases a)];show a) (λz xs a=>by rw[iJ (λg=>by rw[g,f]at a;cases a)];show a) (λz j v a=>by rw[iJ (λg=>by rw[g,f]at a;cases a)];show a)
 len:=I.len
theorem Af{C f:Addr}{fd:Ë}{oI:Ï}{x:Str}{np Pd pos:Õ}{arg:Ã}{ta:TD}{n:Nat}(Pt:X.calm=ū)(hex:X.ex=[])(hg:Gl X x)(hm:X.mg x=Z (.ref C))(hC:∀h:Heap,X.K.In h->ExcAt h C (Z (.ref f)))(hkp:Û X.K (.ref C)=ū)
  (UR:X.K.lookup f=Z oI) (VH:oI.cls=.type "function") (hF:∀t,FnOk X.prog X.w X.K X.mg X.base bh n f fd [("self":Str),("at":Str)] (qU C t)) (hb:Binds X.K fd [("self":Str),("at":Str)] []) (hr:Room (n+1) X.A) (ha:PD K X arg ta)
  (he:starEach [arg] X.env=(Ŭ,eval arg X.env)::starEach [] X.env) (P4:ad x:=by decide) :
  PSM K X (.Raise (Z (.Call (.Name x np) [arg] [] Pd)) ũ pos) (λT ρ=>ta (c8 ρ) λd=>ma d/\T.ex ⟨x,Z d⟩ ρ):=⟨λhK=>by
 intro l s w H D I O7;let⟨Φ0,H0,Φ,ρ,T,g,V,t,k⟩:=O7;rw[arm_exec_Raise];refine Ko (M4 ?_);refine DM (C:=C) (I.ok.hd Pt) ?_;refine Ko ?_;refine ME (iY I hg hm ?_ P4);have pa:=dz (ha.pe hK) pa_nil he;refine NK (h₀:=X.base) I.ok.mod.kin hkp (aE (pa Pd l s w H (λvs B=>∃d A v,vs=[v]/\(ma d/\T.ex ⟨x,Z d⟩ ρ)/\Gr Φ H A B/\Rp K A d v) I ⟨_,Φ,c8 ρ,_,V.toD,t,λd A B v r P rv=>⟨d,A,v,S,r,P,rv⟩⟩) λus s1 Qq=>?_) he ah;let⟨vs,B,F,r,d,A,v,rfl,⟨XZ,hx⟩,P,rv⟩:=Qq;let⟨u,rfl,ru⟩:=g6 r;refine⟨F.kIn,?_⟩;have hCs:=hC s1.heap F.kIn;let⟨hp,gg,dr,tk,os⟩:=s1;refine Cs hCs (F.kIn _ _ UR) VH (by change 1<=sizeLine;rw[LD];decide) λh' e M=>?_;let⟨G,t1,t2,t3⟩:=M.there;have I2:=F.more M.keeps;have a_:B e=ũ:=F.hok.no M.new;have E:=F.old hex M.new
 have VJ:∀p∈X.pn++l,p.1≠e:=λp TM z=>by have:=(F.pin p TM).1;rw[z,show hp.get? e=ũ from M.new]at this;cases this
 have S6:X.env.locals≠e:=λz=>by let⟨m,⟨o',es,ep,O,_⟩,_⟩:=F.loc;rw[z,show hp.get? e=ũ from M.new]at O;cases O
 have X0:∀y c,X.env.cells.lookup y=Z c->c≠e:=λy c hc z=>by let⟨w',o',O,_⟩:=F.cell y c hc;rw[z,show hp.get? e=ũ from M.new]at O;cases O
 have U:=I2.knowX (o:=.ext (eu e C G ũ)) E a_ VJ S6 X0 ⟨⟨_,t1⟩,⟨_,t1⟩,λa b ⟨w',ap⟩ kk=>⟨w',kk _ ap⟩⟩;have r2:Vals [L2.V.ref e,v] [Value.ref e,u]:=.cons S (.cons ru .nil);have hB:=hb _ [Value.ref e,u] U.kIn S;rw[Le]at hB;refine Oi (MR ((hF G).run _ X.stack _ _ ⟨[Value.ref e,u],[]⟩ [Value.ref e,u] [L2.V.ref e,v] (λv' H'=>v'=.non/\∃p,aq B e (.ext (eu e C G ũ)) p=ũ/\p≠e/\H'=aq (aq (aq B e (.ext (eu e C G ũ))) p (.xd [("at",v)])) e (.ext (eu e C G (Z p)))) E0 (hr.make C [u] []) (U.env0.make C [u] []) hB r2 ⟨e,v,S,bu,λp Q N=>⟨S,p,Q,N,S⟩⟩) λres s' aA=>?_)
 cases res with
 |error z=>show aA.elim
 |ok fl=>
  cases fl with
  |ret u'=>
   let⟨v',H',J,ru',rfl,p,Q,N,rfl⟩:=U.after aA;cases (show u'=Value.none from ru')
   have RL:B p=ũ:=by rw[aJ N]at Q;show Q
   let⟨⟨sl,ap⟩,_⟩:=(show ObjOk X.prog X.w _ s'.heap e (.ext (eu e C G (Z p)))from J.hok e _ bu);have Jd:=J.drop bu E
   have eH:jG (aq (aq (aq B e (.ext (eu e C G ũ))) p (.xd [("at",v)])) e (.ext (eu e C G (Z p)))) e=aq B p (.xd [("at",v)]):=by
    funext b
    by_cases R:b=e
    ·rw[R,vP,aJ (Lv N)];show a_.symm
    ·rw[iJ R,aJ R];by_cases cp:b=p
     ·rw[cp,bu,bu]
     ·rw[aJ cp,aJ cp,aJ R]
   rw[eH]at Jd;have gF:Gr A B A (aq B p (.xd [("at",v)])):=Gr.fresh P.s RL _
   have rvf:Rp X.K (λ_=>ũ) d v:=by
    cases rv with
    |non=>show .non
    |int j=>show .int j
    |_=>show XZ.elim
   refine⟨S,Ko (M4 (KD ⟨e,G,Z p,sl,_,S,hC s'.heap J.kIn,ap,?_⟩))⟩;refine k.ex ⟨x,Z d⟩ ρ A _ w _ _ l hx (g.trans (P.trans gF)) ((V.gr P).gr gF) ⟨Jd,e,C,ũ,Z p,S,⟨_,_,ap,S,S,S,S⟩,hm,⟨p,v,S,bu,rvf⟩,⟨E,?_,VJ⟩,λT' z=>(by cases z)⟩;rw[aJ (Lv N)];show a_
  |_=>show aA.elim⟩
end
section
variable{K:Â}{h:Heap}{N C:Addr}
noncomputable def IS(v:Value):Bool:=match v with|.str _ _=>ū|_=>Ŭ
noncomputable def mY(K:Â)(N:Addr):Bool:=match K.lookup N with
 |some ⟨_,_,.dict es _,_⟩=>es.toList.all λe=>IS e.key
 |_=>Ŭ
noncomputable def noName(K:Â)(N:Addr)(n:Str):Bool:=match Ú K N n with|some ũ=>ū|_=>Ŭ
theorem noName.is{n:Str}(h:noName K N n=ū):Ú K N n=Z ũ:=by
 unfold noName at h;split at h
 ·assumption
 ·cases h
theorem yq(X:K.In h)(e:mY K N=ū):∃mN,h.Ns N mN/\∀n r,Ú K N n=Z r->mN n=r:=by
 unfold mY at e;split at e
 ·rename_i c d es o sl l
  have p:StrKeys es:=λf j=>by have m:=KZ.mp e f (ē.mpr j);cases q:f.key<;>rw[q]at m<;>first|show⟨_,_,S⟩|cases m
  have G:h.Ns N (λn=>nsFind es n):=⟨_,es,o,X _ _ l,S,p,λ_=>rfl⟩;refine⟨_,G,λn r a=>?_⟩
  cases r with
  |none=>
   unfold Ú at a;rw[l]at a;dsimp only at a;split at a
   ·cases a
   ·rename_i g;change nsFind es n=ũ;unfold nsFind findBy;rw[←N2,g];rfl
  |some v=>
   unfold Ú at a;rw[l]at a;dsimp only at a;split at a
   ·rename_i f g;cases a;change nsFind es n=Z f.val;unfold nsFind findBy;rw[←N2,g];rfl
   ·split at a<;>cases a
 ·cases e
noncomputable def isBmV(l:Y Value):Bool:=match l with
 | [.type a,.type b,.type c,.type d]=>a == "ValueError"&&b == "Exception"&&c == "BaseException"&&d == "object"
 |_=>Ŭ
theorem isBmV.is{l:Y Value}(h:isBmV l=ū):l=la:=by
 unfold isBmV at h;split at h
 ·rw[KQ,KQ,KQ]at h;let⟨⟨⟨a,c⟩,e⟩,f⟩:=h;rw[eq_of_beq a,eq_of_beq c,eq_of_beq e,eq_of_beq f]
 ·cases h
noncomputable def refOf(v:Value):Ū Addr:=match v with|.ref A=>Z A|_=>ũ
theorem refOf.is{v:Value}{A:Addr}(h:refOf v=Z A):v=.ref A:=by cases v<;>first|(cases h;rfl)|cases h
noncomputable def tailOk(K:Â):Y Value->Bool
 | []=>Ŭ
 |v::c=>(match refOf v with
  |some A=>(match K.lookup A with
   |some ⟨_,_,.cls a,_⟩=>mY K a.ns&&excNames.all (noName K a.ns)&&tailOk K c
   |_=>Ŭ)
  |none=>isBmV (v::c))
theorem tailOk.tail(X:K.In h):∀{l:Y Value},tailOk K l=ū->TailN h l
 | [],e=>by cases e
 |v::r,e=>by
  unfold tailOk at e;split at e
  ·rename_i A o;rw[refOf.is o];split at e
   ·rename_i c d p sl m;rw[KQ,KQ]at e;let⟨⟨a,f⟩,g⟩:=e;let⟨mN,G,k⟩:=yq X a;show .own (X _ _ m) G (λn j=>k n ũ (noName.is (KZ.mp f n j))) (tailOk.tail X g)
   ·cases e
  ·rw[isBmV.is e];show .base
noncomputable def clsOk(K:Â)(C:Addr):Bool:=match K.lookup C with
 |some ⟨.type t,_,.cls ⟨_,_,v::bm,N,_,hd,_,_,_,_,a⟩,⟨[_,_,_,_,Z (.builtin b),_]⟩⟩=>
  t == "type"&&b == "ValueError.__new__"&&hd&&!a&&(v==.ref C)&&mY K N&&(excNames.all λn=>n == "__init__" ||noName K N n)&&tailOk K bm&&(Ú K N "__init__").isSome
 |_=>Ŭ
noncomputable def j9(K:Â)(C:Addr):Ū (Ū Value):=match K.lookup C with
 |some ⟨_,_,.cls a,_⟩=>Ú K a.ns "__init__"
 |_=>ũ
theorem clsOk.at(X:K.In h){i:Ū Value}(e:clsOk K C=ū)(a:j9 K C=Z i):ExcAt h C i:=by
 unfold clsOk at e;split at e
 ·rename_i t dd nm bs v bm N q hd sn sub ab col f k0 k1 k2 k3 b k5 g;unfold j9 at a;rw[g]at a;simp only[KQ]at e;let⟨⟨⟨⟨⟨⟨⟨⟨l,m⟩,o⟩,p⟩,r⟩,u⟩,w⟩,x⟩,F⟩:=e;let⟨mN,G,k⟩:=yq X u;have y:=eq_of_beq l;have z:=eq_of_beq m;have B:=eq_of_beq r;subst y z B o
  have A:f=Ŭ:=by cases f<;>first|rfl|cases p
  subst A;refine⟨nm,q,N,bs,bm,sn,sub,ab,col,dd,k0,k1,k2,k3,k5,mN,X _ _ g,G,k _ _ a,λn E j=>?_,tailOk.tail X x⟩;have:=KZ.mp w n E;rw[NU]at this;rcases this with c|c
  ·show absurd (eq_of_beq c) j
  ·show k _ _ (noName.is c)
 ·cases e
theorem clsOk.some(e:clsOk K C=ū):∃i,j9 K C=Z i:=by
 unfold clsOk at e;split at e
 ·rename_i t dd nm bs v bm N q hd sn sub ab col f k0 k1 k2 k3 b k5 c;simp only[KQ]at e;let⟨_,a⟩:=e;unfold j9;rw[c];show Ot.mp a
 ·cases e
noncomputable def pS(K:Â)(C:Addr):Ū (Y Value):=match K.lookup C with
 |some o=>(match o.data with|.cls cd=>Z cd.mro|_=>ũ)
 |none=>ũ
theorem Jj(X:K.In h){l:Y Value}(e:pS K C=Z l):jR h C=l:=by
 unfold pS at e
 cases a:K.lookup C with
 |none=>rw[a]at e;cases e
 |some o=>
  rw[a]at e;unfold jR;rw[X _ _ a];let⟨c,d,f,sl⟩:=o;cases f<;>first|show K2 e|cases e
noncomputable def glbRef(K:Â)(nm:Str):Ū Addr:=match Ú K Á nm with
 |some (Z v)=>refOf v
 |_=>ũ
theorem glbRef.is{nm:Str}(e:glbRef K nm=Z C):Ú K Á nm=Z (Z (.ref C)):=by
 unfold glbRef at e;split at e
 ·rename_i v a;rw[a,refOf.is e]
 ·cases e
noncomputable def pairOk(K:Â)(a:Str->Str->Bool)(nm:Str)(C:Addr)(c:Str):Bool:=match glbRef K c,pS K C with
 |some D,Z l=>(đ K (.ref C) (.ref D)==Z (a nm c))&&(l.contains (.ref D)==a nm c)
 |_,_=>Ŭ
noncomputable def jc(K:Â)(a:Str->Str->Bool)(names:Y Str):Bool:=names.all λnm=>match glbRef K nm with
 |some C=>clsOk K C&&Û K (.ref C)&&(đ K (.ref C) (.type "ValueError")==Z ū)&&names.all (pairOk K a nm C)
 |none=>Ŭ
section
variable{a:Str->Str->Bool}{names:Y Str}{mg:Str->Ū Value}
theorem iy(e:jc K a names=ū){nm:Str}(j:nm∈names):∃C,Ú K Á nm=Z (Z (.ref C))/\clsOk K C=ū/\đ K (.ref C) (.type "ValueError")=Z ū/\(∀c∈names,pairOk K a nm C c=ū)/\Û K (.ref C)=ū:=by
 have:=KZ.mp e nm j;split at this
 ·rename_i C f;rw[KQ,KQ,KQ]at this;show⟨C,glbRef.is f,this.1.1.1,eq_of_beq this.1.2,λc g=>KZ.mp this.2 c g,this.1.1.2⟩
 ·cases this
theorem pairOk.is{nm c:Str}(e:pairOk K a nm C c=ū):∃D l,Ú K Á c=Z (Z (.ref D))/\pS K C=Z l/\đ K (.ref C) (.ref D)=Z (a nm c)/\l.contains (.ref D)=a nm c:=by
 unfold pairOk at e;split at e
 ·rename_i D l f g;rw[KQ]at e;show⟨D,l,glbRef.is f,g,eq_of_beq e.1,eq_of_beq e.2⟩
 ·cases e
theorem GR(X:K.In h)(G:h.Ns Á mg)(e:jc K a names=ū):Exs K mg a names where
 cls nm hn C hm h' X':=by let⟨j,f,g,_⟩:=iy e hn;rw[Ni X G f]at hm;cases hm;let⟨i,o⟩:=clsOk.some g;show⟨i,clsOk.at X' g o⟩
 sub nm hn c hc C D hm hd h' X':=by let⟨j,f,g,_,m,_⟩:=iy e hn;rw[Ni X G f]at hm;cases hm;let⟨u,l,p,r,v,t⟩:=pairOk.is (m c hc);rw[Ni X G p]at hd;cases hd;rw[Jj X' r];show t
 inK nm hn C hm:=by let⟨j,f,g,_⟩:=iy e hn;rw[Ni X G f]at hm;cases hm;show f
theorem AU(X:K.In h)(G:h.Ns Á mg)(e:jc K a names=ū):Isa K mg a names where
 own nm hn c hc C D hm hd:=by let⟨g,f,j,_,o,_⟩:=iy e hn;rw[Ni X G f]at hm;cases hm;let⟨t,l,p,u,r,v⟩:=pairOk.is (o c hc);rw[Ni X G p]at hd;cases hd;show r
 val nm hn C hm:=by let⟨g,f,j,m,_⟩:=iy e hn;rw[Ni X G f]at hm;cases hm;show m
 mgK nm hn C hC:=Ni X G hC
theorem jN(X:K.In h)(G:h.Ns Á mg)(e:jc K a names=ū){nm:Str}(g:nm∈names):∃D,mg nm=Z (.ref D):=by let⟨c,f,_⟩:=iy e g;show⟨c,Ni X G f⟩
end
structure Rz0(K:Â)(mg:Str->Option Value)(x:Str):Prop where
 ex:∃C,mg x=Z (.ref C)/\(∀h:Heap,K.In h->ExcAt h C ũ)/\Û K (.ref C)=ū/\Ú K Á x=Z (Z (.ref C))
structure Rz1(P:Ä)(w:Å)(K:Â)(mg:Str->Option Value)(base:Heap)(x:Str):Prop where
 ex:∃C f fd oI,mg x=Z (.ref C)/\(∀h:Heap,K.In h->ExcAt h C (Z (.ref f)))/\Û K (.ref C)=ū/\K.lookup f=Z oI/\oI.cls=.type "function"/\(∀t,FnOk P w K mg base bh 1 f fd [("self":Str),("at":Str)] (qU C t))/\Binds K fd [("self":Str),("at":Str)] []/\Ú K Á x=Z (Z (.ref C))
noncomputable def initOf(K:Â)(x:Str):Ū (Ū Value):=(glbRef K x).bind (j9 K)
section
variable{a:Str->Str->Bool}{names:Y Str}{mg:Str->Ū Value}{P:Ä}{w:Å}{base:Heap}
theorem initOf.is{x:Str}{i:Ū Value}(c:initOf K x=Z i)(e:Ú K Á x=Z (Z (.ref C))):j9 K C=Z i:=by
 have:glbRef K x=Z C:=by unfold glbRef;rw[e];rfl
 unfold initOf at c;rw[this]at c;show c
theorem vE(X:K.In h)(G:h.Ns Á mg)(e:jc K a names=ū){x:Str}(m:x∈names)(l:initOf K x=Z ũ):Rz0 K mg x:=by let⟨C,c,g,_,_,j⟩:=iy e m;show⟨C,Ni X G c,λh' f=>clsOk.at f g (initOf.is l c),j,c⟩
theorem so{q:Str}{st:Ç}{f:Addr}{v y z A:Õ}(X:K.In h)(G:h.Ns Á mg)(e:jc K a names=ū){x:Str}(T:x∈names)(R:initOf K x=Z (Z (.ref f)))
  {o:Value} {u:Ū Addr} {kV c l:Value} {j:Ū Addr} {g ct:Value} {p:Array (Ū Value)} (lk:K.lookup f=Z ⟨o,u,.func (ą "__init__" q (fu st) (dR st) (aF st) .none kV c l j g ct),p⟩) (E:o=.type "function") (B:ù K g q=ū) (kp:Û K (.ref f)=ū)
  (ap:FnScope [("self":Str),("at":Str)] [("self":Str),("at":Str)] (aF st)) (Q:dR st=[.Assign [.Attribute (.Name "self" v) "at" y] (.Name "at" z) A]) (H:cx (aF st) "self") (I:cx (aF st) "at")
  (U:∀env,Î (.Name "at" z) (Z (.Attribute (.Name "self" v) "at" y)) A.line env=pure Ŭ)
  (b:∀(kV c l:Value)(j:Ū Addr)(g ct:Value)(us:Y Value),us.length=2->ļ (ą "__init__" q (fu st) (dR st) (aF st) .none kV c l j g ct) ⟨us,[]⟩=pure ([("self":Str),("at":Str)].zip us)):Rz1 P w K mg base x:=by
 let⟨C,m,M,_,_,O⟩:=iy e T;have F:Fun K "__init__" q st f _:=⟨⟨o,u,kV,c,l,j,g,ct,p,S,lk,B⟩,kp⟩;have r:∀h':Heap,K.In h'->ExcAt h' C (Z (.ref f)):=λh' J=>clsOk.at J M (initOf.is R m);show⟨C,f,_,_,Ni X G m,r,O,lk,E,λt=>Ec (k:=0) F ap Q H I U r,F.binds b,m⟩
end
end
section
variable{K:Â}{X:Cx}{x:Str}{h j a:Õ}{arg:Ã}{g:TD}
noncomputable def GZ(x:Str):bL:=λc ρ=>c.ex ⟨x,ũ⟩ ρ
theorem wm(Q:Rz0 X.K X.mg x)(f:X.calm=ū)(c:X.ex=[])(o:Gl X x)(e:ad x:=by decide):PSM K X (.Raise (Z (.Call (.Name x h) [] [] j)) ũ a) (GZ x):=by let⟨C,l,m,_⟩:=Q.ex;show Hw f c o l m e
noncomputable def JJ(x:Str)(g:TD):bL:=λc ρ=>g (c8 ρ) λd=>ma d/\c.ex ⟨x,Z d⟩ ρ
theorem ny(Q:Rz1 X.prog X.w X.K X.mg X.base x)(l:X.calm=ū)(c:X.ex=[])(z:Gl X x)(A:Room 2 X.A)(w:PD K X arg g)(y:starEach [arg] X.env=(Ŭ,eval arg X.env)::starEach [] X.env)(e:ad x:=by decide) :
  PSM K X (.Raise (Z (.Call (.Name x h) [arg] [] j)) ũ a) (JJ x g):=by
 let⟨C,f,B,E,m,o,p,r,t,u,v,_⟩:=Q.ex;show Af (n:=1) l c z m o p r t u v A w y e
theorem oK{m:Y ß}{w:XD->EndsM->aj->Prop}{c n:Str}{B:Õ}{l:Ç}{v:Y Ç}{y:bL}{r:Str->Str->Bool}{names:Y Str}(i:Nat)(z:Exs X.K X.mg r names)(t:∃u,X.mg c=Z (.ref u))(G:c∈names)(H:Gl X c)(F:X.N.Nodup)(M:∀pn e,PSsM K (X.held pn e) (l::v) y)(J:PHM K X m w)
  (I:X.N[i]?=Z n:=by rfl) (C:X.env.scope.names.lookup n=Z .local:=by rfl) (E:X.fn n=ū\/X.env.scope.names.lookup n=Z .local:=by first|show .inl S|show .inr S) (A:ad c:=by decide) :
  PHM K X (.ExceptHandler (Z (.Name c h)) (Z n) (l::v) B::m) (λo p ρ=>o.nm∈names/\(r o.nm c=ū->y { nx:=λf=>p.nx (f.set i ũ),rt:=p.rt,bk:=λf=>p.bk (f.set i ũ),ct:=λf=>p.ct (f.set i ũ) } (ρ.set i (Z (.v (.exc o.nm o.at_.toList)))))/\(r o.nm c=Ŭ->w o p ρ)):=by
 let⟨u,t⟩:=t;show zJ i z G H t F M J I C E A
end
end L2
namespace L2
open PySem PySem.Spec PyProof.Rows
noncomputable def Gk:Fl->Ū D
 |.v d=>Z d
 |.l xs=>Z (.lst xs)
 |.al _=>ũ
noncomputable def fH:Y (Str×Fl)->Ū (Y (Str×D))
 | []=>Z []
 |(f,x)::r=>match Gk x,fH r with
  |some d,Z ds=>Z ((f,d)::ds)
  |_,_=>ũ
noncomputable def vT:Ū Sm->Ū Sl
 |some (.ob _ (.obj nm fs))=>(fH fs).map λds=>.v (.obj nm ds)
 |x=>qy x
noncomputable abbrev ir(ρ:aj):bM:=ρ.map vT
noncomputable def vN:HO->Bool
 |.lst _=>ū
 |.dK _=>ū
 |.dT _=>ū
 |.ins _ _ _=>ū
 |_=>Ŭ
theorem Ig{u:HO}(h:oJ u):vN u=ū:=by cases u<;>first|rfl|show h.elim
inductive NoL:D->Prop where
 |int (i:Int):NoL (.int i)
 |bl (b:Bool):NoL (.bl b)
 |str (x:Str):NoL (.str x)
 |non:NoL .non
 |tup {ds:List D}:(∀d∈ds,NoL d)->NoL (.tup ds)
noncomputable def eZ(a H:Hp)(A:Y Addr):Hp:=λb=>match a b with
 |some u=>Z u
 |none=>if b∈A then H b else ũ
noncomputable def iV(c a:Hp):Hp:=λb=>match c b with
 |some u=>Z u
 |none=>match a b with
  |some u=>if vN u then ũ else Z u
  |none=>ũ
section
variable{K:Â}{I H G m t:Hp}{F:St}{ρ:aj}{B:Nat->Y Addr}{A:Y Addr}{d:D}{v:V}{b:Addr}{u:HO}
theorem Il(h:m b=Z u):eZ m H A b=Z u:=by unfold eZ;rw[h]
theorem AI(a:b∈A)(h:H b=Z u)(s:Same m H):eZ m H A b=Z u:=by
 unfold eZ
 cases e:m b with
 |some w=>have:=s _ _ e;rw[h]at this;cases this;rfl
 |none=>simp only;rw[Kq a];show h
theorem vi(h:eZ m H A b=Z u):m b=Z u\/(b∈A/\H b=Z u):=by
 unfold eZ at h
 cases e:m b with
 |some w=>rw[e]at h;show .inl h
 |none=>
  rw[e]at h;simp only at h;split at h
  ·next c=>show .inr ⟨c,h⟩
  ·cases h
theorem view_same:Same m (eZ m H A):=λ_ _ h=>Il h
theorem ED(s:Same m H):Same (eZ m H A) H:=λb u h=>(vi h).elim (s b u) (·.2)
theorem IY(h:m b=Z u):iV m t b=Z u:=by unfold iV;rw[h]
theorem zA{vs:Y V}(s:Same m t)(h:t b=Z (.tup vs)):iV m t b=Z (.tup vs):=by
 unfold iV
 cases e:m b with
 |some w=>have:=s _ _ e;rw[h]at this;cases this;rfl
 |none=>simp only;rw[h];rfl
theorem qF(s:Same m H)(g:Gr (eZ m H A) H t G):Gr m H (iV m t) G:=by
 refine⟨λb u e=>IY e,g.h,λb u e=>?_,λp u j h k=>?_⟩
 ·unfold iV at e
  cases c:m b with
  |some w=>rw[c]at e;cases e;show g.h _ _ (s _ _ c)
  |none=>
   rw[c]at e;simp only at e
   cases a:t b with
   |none=>rw[a]at e;cases e
   |some w=>
    rw[a]at e;simp only at e;split at e
    ·cases e
    ·cases e;show g.s _ _ a
 ·unfold iV;rw[h];simp only
  cases a:t p with
  |none=>rfl
  |some w=>
   have f:=g.s _ _ a;rw[g.h _ _ j]at f;cases f;simp only;rw[Kq (Ig k)]
theorem Rp.thawN(s:Same m t)(f:NoL d)(r:Rp K t d v):Rp K (iV m t) d v:=by
 induction f generalizing v with
 |int i=>obtain rfl:=r.i;show .int i
 |bl b=>obtain rfl:=r.b;show .bl b
 |str x=>obtain rfl:=r.s;show .str x
 |non=>obtain rfl:=r.n;show .non
 |tup _ h=>
  cases r with
  |tup a c e=>show .tup (zA s a) c λi v d g hd=>h d (KN hd) (e i v d g hd)
noncomputable def oN:Ū (Ū Sm)->Bool
 |some (Z (.ob _ (.obj _ _)))=>ū
 |_=>Ŭ
noncomputable def iE(B:Nat->Y Addr)(ρ:aj):Y Addr:=(List.range ρ.length).flatMap λi=>if oN (ρ[i]?) then B i else []
theorem Fn{i:Nat}{a:Ū Addr}{nm:Str}{fs:Y (Str×Fl)}(h:ρ[i]?=Z (Z (.ob a (.obj nm fs))))(c:b∈B i):b∈iE B ρ:=by unfold iE;refine List.mem_flatMap.mpr ⟨i,Ma.mpr (aZ h),?_⟩;rw[h,Kq (show oN (Z (Z (Sm.ob a (Om.obj nm fs))))=ū from rfl)];show c
theorem Bl(h:b∈iE B ρ):∃i a nm fs,ρ[i]?=Z (Z (.ob a (.obj nm fs)))/\b∈B i:=by
 unfold iE at h;let⟨i,_,h⟩:=List.mem_flatMap.mp h;by_cases c:oN (ρ[i]?)=ū
 ·rw[Kq c]at h;unfold oN at c;split at c
  ·next a nm fs e=>show⟨i,a,nm,fs,e,h⟩
  ·cases c
 ·rw[Kr c]at h;cases h
theorem Eb{fs:Y (Str×Fl)}{ds:Y (Str×D)}{vs:Y (Str×V)}{E:Y Addr}(a:fH fs=Z ds)(h:FlsR K m H fs vs E)(C:Same m t)(x:∀b∈E,∀u,H b=Z u->t b=Z u) :
  vs.map (·.1)=ds.map (·.1)/\∀(i:Nat)(v:Str×V)(d:Str×D),vs[i]?=Z v->ds[i]?=Z d->Rp K t d.2 v.2:=by
 induction h generalizing ds with
 |nil=>cases a;show⟨S,λi v d g=>by simp at g⟩
 |v r _ j=>
  rename_i f o O c y z _;have a:(match Z o,fH c with|some d,Z ds=>Z ((f,d)::ds)|_,_=>ũ)=Z ds:=a
  cases e:fH c with
  |none=>rw[e]at a;cases a
  |some es=>
   rw[e]at a;cases a;let⟨p,w⟩:=j e x;refine⟨by rw[K1,K1,p],λi v d g hd=>?_⟩
   cases i with
   |zero=>cases g;cases hd;show r.same C
   |succ i=>show w i v d g hd
 |l p w _ j=>
  rename_i f o P N c y z _;have a:(match Z (D.lst o),fH c with|some d,Z ds=>Z ((f,d)::ds)|_,_=>ũ)=Z ds:=a
  cases e:fH c with
  |none=>rw[e]at a;cases a
  |some es=>
   rw[e]at a;cases a;let⟨k1,k2⟩:=j e λb J=>x b (Kt _ J);refine⟨by rw[K1,K1,k1],λi v d g hd=>?_⟩
   cases i with
   |zero=>
    cases g;cases hd;have r:=w.same C;show .lst (x _ Ku _ p) r.1 r.2
   |succ i=>show k2 i v d g hd
 |al _ j=>
  rename_i f M c y z _;have a:(match (ũ:Ū D),fH c with|some d,Z ds=>Z ((f,d)::ds)|_,_=>ũ)=Z ds:=a;cases a
theorem EnvM'.view(E:EnvM' K I m H F ρ B):EnvD K I (eZ m H (iE B ρ)) H F (ir ρ):=by
 have P:Same m (eZ m H (iE B ρ)):=view_same
 have at_:∀{i:Nat}{x:Sl},(ir ρ)[i]?=Z (Z x)->∃y,ρ[i]?=Z (Z y)/\vT (Z y)=Z x:=λ{i x} h=>by
  rw[Kv]at h
  cases e:ρ[i]? with
  |none=>rw[e]at h;cases h
  |some y=>
   rw[e]at h
   cases y with
   |none=>cases h
   |some y=>show⟨y,S,K2 h⟩
 have ow:∀{i:Nat}{o:Ow},(ir ρ)[i]?=Z (Z (.ob o))->∃a f p u,ρ[i]?=Z (Z (.ob a f))/\(∀nm fs,f≠.obj nm fs)/\F[i]?=Z (Z (.ref p))/\p∈B i/\H p=Z u/\OwR K m o u:=λ{i o} h=>by
  let⟨y,J,e⟩:=at_ h
  cases y with
  |v d=>cases e
  |ob a f=>
   let⟨p,M,_,r⟩:=E.ow i a f J;refine⟨a,f,p,?_⟩
   cases f with
   |lst ds=>let⟨_,vs,g,l⟩:=r.lst_inv;cases e;show⟨_,J,(λ_ _ z=>by cases z),M,r.mem,g,l⟩
   |map a_=>let⟨_,vs,g,l⟩:=r.map_inv;cases e;show⟨_,J,(λ_ _ z=>by cases z),M,r.mem,g,ku l⟩
   |mpT a_=>let⟨_,vs,g,l⟩:=r.mpT_inv;cases e;show⟨_,J,(λ_ _ z=>by cases z),M,r.mem,g,ku l⟩
   |obj nm fs=>
    have e:(fH fs).map (λds=>Sl.v (.obj nm ds))=Z (.ob o):=e
    cases N:fH fs with
    |none=>rw[N]at e;cases e
    |some ds=>rw[N]at e;cases e
   |ptr=>cases e
   |tl ps=>cases e
   |pr _ _=>cases e
 refine⟨ED E.fz,by rw[wy,E.len],λi d h=>?_,λi o h=>?_,λi j o w p hi hj si sj=>?_,E.tb.same P⟩
 ·let⟨y,J,e⟩:=at_ h
  cases y with
  |v d'=>cases e;let⟨v,M,r⟩:=E.sl i d J;show⟨v,M,r.same P⟩
  |ob a f=>
   cases f with
   |obj nm fs=>
    have e:(fH fs).map (λds=>Sl.v (.obj nm ds))=Z (.v d):=e
    cases N:fH fs with
    |none=>rw[N]at e;cases e
    |some ds=>
     rw[N]at e;cases e;let⟨p,M,_,r⟩:=E.ow i a _ J;let⟨C,dx,vs,qs,U,c1,c2,c3,_⟩:=r.obj_inv;have T:∀b∈B i,∀u,H b=Z u->eZ m H (iE B ρ) b=Z u:=λb ap u hu=>AI (Fn J ap) hu E.fz;let⟨k1,k2⟩:=Eb N c3 P λb ap=>T b (by rw[U];show Kt _ ap);show⟨.ref p,M,.obj c1 (T p (by rw[U];show Ku) _ c2) k1 k2⟩
   |_=>cases e
 ·let⟨a,f,p,u,g,aA,l,O,h4,R⟩:=ow h;have X:=E.no i a f g p O;refine⟨p,u,l,X.1,?_,h4,?_⟩
  ·cases e:eZ m H (iE B ρ) p with
   |none=>rfl
   |some w=>
    rcases vi e with z|⟨z,_⟩
    ·rw[X.2]at z;cases z
    ·let⟨j,Q,nm,fs,k1,k2⟩:=Bl z
     have X1:i≠j:=λc=>by subst c;rw[g]at k1;cases k1;show aA _ _ S
     show absurd k2 (E.dj i j a Q f _ g k1 X1 p O)
  ·cases o with
   |lst ds=>cases u with
    |lst vs=>show RpL.same P R
    |_=>show R.elim
   |_=>cases u<;>show R
 ·let⟨a,f,p1,u,g,_,l,O,_,_⟩:=ow hi;let⟨Q,XG,p2,u',k1,_,k2,k3,_,_⟩:=ow hj;rw[si]at l;cases l;rw[sj]at k2;cases k2;rcases MU (i=j)with c|c
  ·show c
  ·show absurd k3 (E.dj i j a Q f XG g k1 c p O)
end
section
variable{K:Â}{X:Cx}{e:Ã}
noncomputable def FD(t:TD):TX:=λρ R _=>t (ir ρ) λd=>NoL d/\R (.v d) ρ
theorem hG{t:TD}(h:PD K X e t):PX K X e (FD t):=⟨λj=>(h.pe j).imp λy H Q f=>by
 let⟨m,a,w,z,ρ,x,R,p,U,t,k⟩:=f;let⟨u,E⟩:=U.env;refine⟨a,_,ir ρ,_,E.view,t,λd o c v r g l=>?_⟩;have g':=qF E.fz g
 show k _ ρ _ c v r.2 ((U.gr g').pushV (l.thawN (view_same.trans g.f) r.1)) g'.f⟩
noncomputable def Hj(t:cg):dU:=λρ R _=>t (ir ρ) λb=>R b ρ
theorem jr{t:cg}(h:PTD K X e t):PXB K X e (Hj t):=⟨λj=>(h.pt j).imp λw H Q f=>by
 let⟨l,a,u,x,ρ,v,R,o,U,t,k⟩:=f;let⟨p,E⟩:=U.env;refine⟨a,_,ir ρ,_,E.view,t,λb m c r g=>?_⟩;have g':=qF E.fz g
 show k b ρ _ c r (U.gr g') g'.f⟩
end
noncomputable def fb(f:Str)(x:Fl):Y (Str×Fl)->Y (Str×Fl)
 | []=>[(f,x)]
 |(g,y)::r=>if g=f then (g,x)::r else (g,y)::fb f x r
section
variable{K:Â}{a H j:Hp}{fs:Y (Str×Fl)}{vs:Y (Str×V)}{m:Y Addr}{f:Str}{ds es:Y D}{ws:Y V}{d:D}{v:V}
theorem FlsR.look(h:FlsR K a H fs vs m)(nd:m.Nodup)(o:fs.lookup f=Z (.l ds)):∃q ws,vs.lookup f=Z (.ref q)/\q∈m/\H q=Z (.lst ws)/\RpL K a ds ws /\
  ∀(j:Hp)(es:Y D)(p:Y V),(∀b∈m,b≠q->∀u,H b=Z u->j b=Z u)->j q=Z (.lst p)->RpL K a es p->FlsR K a j (fb f (.l es) fs) vs m:=by
 induction h with
 |nil=>cases o
 |v r t C=>
  rename_i g M Q F G I;rw[K4]at o
  cases c:f==g with
  |true=>rw[c]at o;cases o
  |false=>
   rw[c]at o;let⟨q,ws,x,w,y,A,B⟩:=C nd o;refine⟨q,ws,by rw[K4,c];show x,w,y,A,λj es p k1 k2 k3=>?_⟩;change FlsR K a j (if g=f then _ else _) _ _;rw[Kr λe=>by rw[e,K5]at c;cases c];show .v r (B j es p k1 k2 k3)
 |l a1 a2 t C=>
  rename_i g M O J F G I;rw[K9]at nd;rw[K4]at o
  cases c:f==g with
  |true=>
   rw[c]at o;cases o;refine⟨J,O,by rw[K4,c],Ku,a1,a2,λj es p k1 k2 k3=>?_⟩;change FlsR K a j (if g=f then _ else _) _ _;rw[Kq (eq_of_beq c).symm];show .l k2 k3 (t.keep (Same.refl _) λb E u N=>k1 b (Kt _ E) (λz=>nd.1 (z▸E)) u N)
  |false=>
   rw[c]at o;let⟨q,ws,x,w,y,A,B⟩:=C nd.2 o;refine⟨q,ws,by rw[K4,c];show x,Kt _ w,y,A,λj es p k1 k2 k3=>?_⟩;change FlsR K a j (if g=f then _ else _) _ _;rw[Kr λe=>by rw[e,K5]at c;cases c];show .l (k1 J Ku (λz=>nd.1 (z▸w)) _ a1) a2 (B j es p (λb E=>k1 b (Kt _ E)) k2 k3)
 |al t C=>
  rename_i g P F G I;rw[K4]at o
  cases c:f==g with
  |true=>rw[c]at o;cases o
  |false=>
   rw[c]at o;let⟨q,ws,x,w,y,A,B⟩:=C nd o;refine⟨q,ws,by rw[K4,c];show x,w,y,A,λj es p k1 k2 k3=>?_⟩;change FlsR K a j (if g=f then _ else _) _ _;rw[Kr λe=>by rw[e,K5]at c;cases c];show .al (B j es p k1 k2 k3)
noncomputable def iR(f:Str)(fs:Y (Str×Fl)):Bool:=match fs.lookup f with
 |none=>ū
 |some (.v _)=>ū
 |_=>Ŭ
theorem FlsR.setV(h:FlsR K a H fs vs m)(e:iR f fs=ū)(r:Rp K a d v):FlsR K a H (fb f (.v d) fs) (cJ f v vs) m:=by
 induction h with
 |nil=>show .v r .nil
 |v y t o=>
  rename_i g x C p u w;change FlsR K a H (if g=f then _ else _) (if g=f then _ else _) _;by_cases c:g=f
  ·rw[Kq c,Kq c];show .v r t
  ·rw[Kr c,Kr c];refine .v y (o ?_);unfold iR at e ⊢;rw[K4,show (f==g)=Ŭ from OP λz=>c z.symm]at e;show e
 |l a1 a2 t o=>
  rename_i g x E B p u w;change FlsR K a H (if g=f then _ else _) (if g=f then _ else _) _;by_cases c:g=f
  ·subst c;unfold iR at e;rw[K4,K5]at e;cases e
  ·rw[Kr c,Kr c];refine .l a1 a2 (o ?_);unfold iR at e ⊢;rw[K4,show (f==g)=Ŭ from OP λz=>c z.symm]at e;show e
 |al t o=>
  rename_i g A p u w;change FlsR K a H (if g=f then _ else _) (if g=f then _ else _) _;by_cases c:g=f
  ·subst c;unfold iR at e;rw[K4,K5]at e;cases e
  ·rw[Kr c,Kr c];refine .al (o ?_);unfold iR at e ⊢;rw[K4,show (f==g)=Ŭ from OP λz=>c z.symm]at e;show e
theorem FlsR.setL{q:Addr}(h:FlsR K a H fs vs m)(o:fs.lookup f=ũ)(B:H q=Z (.lst ws))(r:RpL K a ds ws):FlsR K a H (fb f (.l ds) fs) (cJ f (.ref q) vs) (m++[q]):=by
 have tail:∀{g:Str}{y:Fl}{r:Y (Str×Fl)},List.lookup f ((g,y)::r)=ũ->g≠f/\r.lookup f=ũ:=λ{g y r} e=>by
  rw[K4]at e
  cases c:f==g with
  |true=>rw[c]at e;cases e
  |false=>rw[c]at e;show⟨(λz=>by rw[z,K5]at c;cases c),e⟩
 induction h with
 |nil=>show .l B r .nil
 |v C t p=>
  rename_i g A G u w x;let⟨c,o⟩:=tail o;change FlsR K a H (if g=f then _ else _) (if g=f then _ else _) _;rw[Kr c,Kr c];show .v C (p o)
 |l a1 a2 t p=>
  rename_i g A I F u w x;let⟨c,o⟩:=tail o;change FlsR K a H (if g=f then _ else _) (if g=f then _ else _) _;rw[Kr c,Kr c];show .l a1 a2 (p o)
 |al t p=>
  rename_i g E u w x;let⟨c,o⟩:=tail o;change FlsR K a H (if g=f then _ else _) (if g=f then _ else _) _;rw[Kr c,Kr c];show .al (p o)
theorem FlsR.len(h:FlsR K a H fs vs m):vs.length=fs.length:=by have:=LW List.length h.names;rwa [wy,wy]at this
end
section
variable{K:Â}{X:Cx}{h j c H:Hp}{l m:St}{ρ o:aj}{t:XD->aj->Prop}{a:Ū Addr}{nm f:Str}{fs:Y (Str×Fl)}{ds:Y D}{i:Nat}{C:Addr}
theorem EnvM.flist(E:EnvM K j c H l ρ)(g:Gr h j c H)(J:Ú K Á nm=Z (Z (.ref C)))(x:ρ[i]?=Z (Z (.ob a (.obj nm fs))))(ap:fs.lookup f=Z (.l ds)):∃p w vs q ws,l[i]?=Z (Z (.ref p))/\H p=Z (.ins C w vs)/\vs.lookup f=Z (.ref q)/\H q=Z (.lst ws)/\RpL K c ds ws /\
  ∀(es:Y D)(v:Y V),RpL K c es v->EnvM K j c (aq H q (.lst v)) l (ρ.set i (Z (.ob a (.obj nm (fb f (.l es) fs)))))/\Gr h j c (aq H q (.lst v)):=by
 let⟨I,E⟩:=E;let⟨p,e,_,r⟩:=E.ow i a _ x;let⟨C',w,vs,qs,G,B,F,R,nd⟩:=r.obj_inv;rw[J]at B;cases B;rw[K9]at nd;let⟨q,ws,a_,O,aA,l4,l5⟩:=R.look nd.2 ap
 have A:q∈I i:=by rw[G];show Kt _ O
 have y:p≠q:=λz=>nd.1 (z▸O);refine⟨p,w,vs,q,ws,e,F,a_,aA,l4,λes v Q=>?_⟩
 have M:∀b u,H b=Z u->b∉I i->aq H q (.lst v) b=Z u:=λb u e T=>by
  rw[aJ λz=>T (by rw[z];show A)];show e
 refine⟨⟨_,E.put x e M (F':=p::qs) (.obj J ((aJ y).trans F) (l5 _ es v (λb N P u U=>by rw[aJ P];show U) bu Q) (K9.mpr nd)) λb N=>.inl (by rw[G];show N)⟩,E.grput g x M⟩
theorem StM.flist(Q:StM K X h j c H l m ρ o t)(F:Ú K Á nm=Z (Z (.ref C)))(w:ρ[i]?=Z (Z (.ob a (.obj nm fs))))(G:fs.lookup f=Z (.l ds)):∃p v vs q ws,l[i]?=Z (Z (.ref p))/\H p=Z (.ins C v vs)/\vs.lookup f=Z (.ref q)/\H q=Z (.lst ws)/\RpL K c ds ws /\
  ∀(es:Y D)(g:Y V),RpL K c es g->StM K X h j c (aq H q (.lst g)) l m (ρ.set i (Z (.ob a (.obj nm (fb f (.l es) fs))))) o t:=by
 have u:=aZ w;let⟨p,v,vs,q,ws,e,y,z,A,B,E⟩:=Q.E.flist (i:=i) Q.g F (by rw[Kn u];show w) G;rw[Kn (by rw[←Q.l];show u)]at e;refine⟨p,v,vs,q,ws,e,y,z,A,B,λes g r=>?_⟩;let⟨x,I⟩:=E es g r;refine⟨I,by rw[K0];show Q.l,?_,Q.x⟩;rw[List.set_append_left _ _ u]at x;show x
theorem EnvM.fsetV{d:D}{v:V}(E:EnvM K j c H l ρ)(g:Gr h j c H)(J:Ú K Á nm=Z (Z (.ref C)))(y:ρ[i]?=Z (Z (.ob a (.obj nm fs))))(P:iR f fs=ū)(r:Rp K c d v):∃p w vs,l[i]?=Z (Z (.ref p))/\H p=Z (.ins C w vs)/\vs.length=fs.length /\
  EnvM K j c (aq H p (.ins C w (cJ f v vs))) l (ρ.set i (Z (.ob a (.obj nm (fb f (.v d) fs)))))/\Gr h j c (aq H p (.ins C w (cJ f v vs))):=by
 let⟨I,E⟩:=E;let⟨p,e,_,ro⟩:=E.ow i a _ y;let⟨T,w,vs,U,G,B,O,F,nd⟩:=ro.obj_inv;rw[J]at B;cases B
 have N:p∈I i:=by rw[G];show Ku
 have M:∀b u,H b=Z u->b∉I i->aq H p (.ins C w (cJ f v vs)) b=Z u:=λb u e Q=>by
  rw[aJ λz=>Q (by rw[z];show N)];show e
 have A:=nd;rw[K9]at A;refine⟨p,w,vs,e,O,F.len,⟨_,E.put y e M (F':=p::U) (.obj J bu ((F.setV P r).keep (Same.refl _) λb x u R=>by rw[aJ (show b≠p from λz=>A.1 (by rw[←z];show x))];show R) nd) λb x=>.inl (by rw[G];show x)⟩,E.grput g y M⟩
end
noncomputable def xa(ρ:aj)(i:Nat)(nm f:Str)(k:Ū Addr->Y (Str×Fl)->Y D->Prop):Prop:=∃a fs ds,ρ[i]?=Z (Z (.ob a (.obj nm fs)))/\fs.lookup f=Z (.l ds)/\k a fs ds
section
variable{K:Â}{X:Cx}{e a:Ã}{u:TX}{t:TD}{m j h o l:Õ}{x nm f:Str}{C:Addr}
noncomputable def Hk(i:Nat)(nm f:Str)(t:TD):bL:=λc ρ=>xa ρ i nm f λa fs ds=>t (ir ρ) λd=>NoL d/\ds.length<sizeLine/\NF (fb f (.l (ds++[d])) fs) λg=>c.nx (ρ.set i (Z (.ob a (.obj nm g))))
theorem oa(i:Nat)(c:Cls K C)(nA:NoAttr K C f)(N:Ú K Á nm=Z (Z (.ref C)))(he:PD K X e t)(U:((backTo o (starEach [e] X.env)).all (λx=>!x.1)&&(backToKw o (keywordEach [] X.env)).all (λx=>x.1.isSome)&&decide (([e]:Y Ã).length+([]:Y Ñ).length+(if ([]:Y Ñ).isEmpty then 0 else 1)<30))=ū)
  (B:starEach [e] X.env=(Ŭ,eval e X.env)::starEach [] X.env) (hN:X.N[i]?=Z x:=by rfl) (hv:cx X.env.scope x:=by nofun) (hd:ad x:=by decide) (a_:am x:=by decide)
  (Wx:Æ (.Name x j) f X.env (eval (.Name x j) X.env)=eval (.Name x j) X.env:=by rfl)
  (aA:Æ (.Attribute (.Name x j) f l) "append" X.env (eval (.Attribute (.Name x j) f l) X.env)=eval (.Attribute (.Name x j) f l) X.env:=by rfl) (Pq:(h.endLine==o.line)=ū:=by rfl) (hs:Î (.Call (.Attribute (.Attribute (.Name x j) f l) "append" h) [e] [] o) ũ m.line X.env=pure Ŭ:=by rfl) :
  PSM K X (.Expr (.Call (.Attribute (.Attribute (.Name x j) f l) "append" h) [e] [] o) m) (Hk i nm f t):=
 ⟨λO=>(mU (gY L7 OD OE rX (qO O (pv i hN hv hd a_) Wx) (dz (he.pe O) pa_nil B) aA U Pq B ah) hs).imp λE σ H T=>by
  let⟨Φ0,R,Φ,ρ,De,g,V,⟨a0,RD,ds0,Q,P,t⟩,k⟩:=T;have ap:=fF g V k.ex;let⟨p,dx,vs,q,ws,I,J,M,h3,rl,_⟩:=ap.flist N Q P;let⟨fp,E0⟩:=id V;refine⟨_,I,p,C,dx,vs,.ref q,S,J,c,nA,M,.inl ⟨S,ws,SqL.of h3⟩,R,_,ir ρ,_,E0.view,t,λd Φ1 H1 v r A rv=>?_⟩;have S1:=ap.gr (qF E0.fz A);let⟨p',dx',vs',q',Qz,w,G,y,Xt,z,k1⟩:=S1.flist N Q P;rw[I]at w;cases w;rw[A.h _ _ J]at G;cases G;rw[M]at y;cases y;have F:=k1 _ _ (z.append (.one (rv.thawN (view_same.trans A.f) r.1)))
  show⟨q,Qz,v,S,S,Xt,by rw[z.1];show r.2.1,k.nx _ _ _ σ r.2.2.get F.g F.env⟩⟩
noncomputable def zC(i:Nat)(nm f:Str):TX:=λρ R _=>xa ρ i nm f λa fs ds=>∃d,ds[ds.length-1]?=Z d/\NF (fb f (.l ds.dropLast) fs) λc=>R (.v d) (ρ.set i (Z (.ob a (.obj nm c))))
theorem A0(i:Nat)(c:Cls K C)(aA:NoAttr K C f)(O:Ú K Á nm=Z (Z (.ref C)))(T:X.N[i]?=Z x:=by rfl)(g:cx X.env.scope x:=by nofun)(hd:ad x:=by decide)(y:am x:=by decide)
  (E:Æ (.Name x j) f X.env (eval (.Name x j) X.env)=eval (.Name x j) X.env:=by rfl)
  (z:Æ (.Attribute (.Name x j) f l) "pop" X.env (eval (.Attribute (.Name x j) f l) X.env)=eval (.Attribute (.Name x j) f l) X.env:=by rfl) (A:(h.endLine==o.line)=ū:=by rfl):PX K X (.Call (.Attribute (.Attribute (.Name x j) f l) "pop" h) [] [] o) (zC i nm f):=
 ⟨λP=>(xg L7 NC ND wj (qO P (pv i T g hd y) E) z A).imp λσ H Q w=>by
  let⟨Φ0,H0,Φ,τ,ρ,κ,R,Rx,ap,⟨a0,RD,G,a_,U,d,F,t⟩,k⟩:=w;let⟨p,I,vs,q,ws,J,M,N,r,rl,k1⟩:=ap.flist O a_ U;let⟨v,g,rv⟩:=rl.at F;rw[←rl.1]at g;have B:=k1 _ _ rl.dropLast
  show⟨_,J,p,C,I,vs,.ref q,S,M,c,aA,N,.inl ⟨S,ws,SqL.of r⟩,q,ws,v,S,S,r,g,k _ _ Φ _ v t.get (B.pushV rv) (Same.refl _)⟩⟩
noncomputable def An(i:Nat)(nm f:Str)(u:TX):bL:=λg ρ=>u ρ (xV λd c=>∃a fs,c[i]?=Z (Z (.ob a (.obj nm fs)))/\iR f fs=ū/\fs.length<1000/\NF (fb f (.v d) fs) λp=>g.nx (c.set i (Z (.ob a (.obj nm p))))) g.ex
theorem lu(i:Nat)(c:Cls K C)(nA:NoAttr K C f)(Q:Ú K Á nm=Z (Z (.ref C)))(T:PX K X e u)(R:X.N[i]?=Z x:=by rfl)(hv:cx X.env.scope x:=by nofun)(hd:ad x:=by decide)(J:am x:=by decide)
  (aA:Î e (Z (.Attribute (.Name x j) f l)) m.line X.env=pure Ŭ:=by rfl):PSM K X (.Assign [.Attribute (.Name x j) f l] e m) (An i nm f u):=
 ⟨λy=>(xA (f:=f) (pv i R hv hd J) (T.pe y) aA).imp λE σ H I=>by
  let⟨z,G,Φ,ρ,B,g,V,t,k⟩:=I;refine⟨z,G,Φ,[],ρ,[],_,B.ex,fF g V k.ex,t,λs ρ1 A H1 v r w _=>?_⟩;let⟨d,rfl,a0,RD,a_,ap,U,r⟩:=r.get;let⟨p,M,vs,N,O,P,F,g'⟩:=w.env.fsetV (f:=f) w.g Q a_ ap w.last
  show⟨_,N,p,C,M,vs,S,O,y▸c,y▸nA,by rw[P];show U,k.nx _ A _ σ r.get g' F⟩⟩
end
theorem FlsR.lookN{K:Â}{p H:Hp}{fs:Y (Str×Fl)}{vs:Y (Str×V)}{o:Y Addr}{f:Str}(h:FlsR K p H fs vs o)(a:fs.lookup f=ũ):vs.lookup f=ũ:=by
 have tail:∀{m:Type}{g:Str}{y:m}{r:Y (Str×m)},List.lookup f ((g,y)::r)=ũ->(f==g)=Ŭ/\r.lookup f=ũ:=λ{m g y r} e=>by
  rw[K4]at e
  cases c:f==g with
  |true=>rw[c]at e;cases e
  |false=>rw[c]at e;show⟨S,e⟩
 induction h with
 |nil=>rfl
 |v r t j=>let⟨c,a⟩:=tail a;rw[K4,c];show j a
 |l a1 a2 t j=>let⟨c,a⟩:=tail a;rw[K4,c];show j a
 |al t j=>let⟨c,a⟩:=tail a;rw[K4,c];show j a
structure MthM(P:Ä)(w:Å)(K:Â)(mg:Str->Option Value)(base:Heap)(n:Nat)(C:Addr)(m:Str)(ps:List Str)(z:b7):Prop where
 ex:∃(f:Addr)(fd:Ë),FnOk P w K mg base bh n f fd ps (lSpM K z)/\Binds K fd ps []/\Meth K C m f
structure MkM(P:Ä)(w:Å)(K:Â)(mg:Str->Option Value)(base:Heap)(n:Nat)(C:Addr)(ps:List Str)(z:b7):Prop where
 ex:∃(f:Addr)(fd:Ë),FnOk P w K mg base bh n f fd ps (lSpM K z)/\Binds K fd ps []/\Mk K C f
section
variable{K:Â}{X:Cx}{e:Ã}{es:Y Ã}{g j p:Õ}{l:cI}{C:Addr}{nm m x:Str}
noncomputable def sT(i:Nat)(nm m:Str)(z:b7)(l:cI):TX:=λρ R f=>(∃a fs,ρ[i]?=Z (Z (.ob a (.obj nm fs)))/\fs.lookup m=ũ)/\l ρ (λas c=>CallM z R f (.s i::as) c) f
theorem jO(i:Nat){n:Nat}{ps:Y Str}{z:b7}{pl:Sem Bool}(M:MthM X.prog X.w K X.mg X.base n C m ps z)(hr:Room n X.A)(c:Cls K C)(hC:Ú K Á nm=Z (Z (.ref C)))
  (ha:PXA K X (e::es) l) (he:starEach (e::es) X.env=(Ŭ,eval e X.env)::starEach es X.env) (Qn:(backTo g (starEach es X.env)).any (·.1)=Ŭ)
  (ht:eval (.Call (.Attribute (.Name x p) m j) (e::es) [] g) X.env=(do
   let ov ←eval (.Name x p) X.env
   standAt j.atName
   let (f,first) ←holding [ov] (getMethod ov m pl)
   callWith g f first (backTo g (starEach (e::es) X.env)) (backToKw g (keywordEach [] X.env))):=by rfl)
  (hN:X.N[i]?=Z x:=by rfl) (y:cx X.env.scope x:=by nofun) (hd:ad x:=by decide) (Pg:am x:=by decide) :
  PX K X (.Call (.Attribute (.Name x p) m j) (e::es) [] g) (sT i nm m z l):=⟨λh=>by
 let⟨f,fd,F,b,hm⟩:=M.ex;refine (He (dvs:=[]) (ds:=[]) (E:=E0) (pl:=pl) (pv i hN y hd Pg) (h▸c) (h▸hm) (h▸F:FnOk X.prog X.w X.K X.mg X.base bh n f fd ps (lSpM K z)) hr (h▸b) .nil nP (ha.pa h) he Qn ht).imp λσ H Q a_=>?_;let⟨B,U,Φ,τ,ρ,κ,R,Rx,ap,⟨⟨a,fs,w,O⟩,t⟩,k⟩:=a_;let⟨fp,E⟩:=ap.env;let⟨q,N,_,ro⟩:=E.ow i a _ w;let⟨C',dx,vs,qs,eF,J,c2,c3,nd⟩:=ro.obj_inv;rw[hC]at J;cases J;refine⟨_,N,q,dx,vs,S,c2,c3.lookN O,B,U,Φ,τ,ρ,κ,_,Rx,ap,t,λas ρ1 G H1 us ts A O y u f1=>?_⟩;let⟨aA,Ra,T8,A⟩:=A;let⟨T,g1,g2,g3,g4⟩:=u.lend (as:=.s i::as) ap.lk Ra (.s N y) T8;rw[Le]
 show⟨G,aA,T,_,_,u.g.s,u.E.tb,g1,g2,g3,A,λP os o I v F Px r gr Rv w hn Qb=>k P _ o I v r (g4 P os o I v F Px gr Rv w hn Qb) (f1.trans gr.f)⟩⟩
noncomputable def Br(nm:Str)(z:b7)(l:cI):TX:=λρ R c=>l ρ (xaD λds a=>z (.ob ũ (.obj nm [])::ds.map Sm.v) (λf os=>match f,os with|.v .non,[o]=>R (.ob ũ o) a|_,_=>False) (λ_ _=>False)) c
theorem wa{a H:Hp}:∀{ds:Y D}{vs:Y V},RpL K a ds vs->ArgM K a H (ds.map Sm.v) vs (ds.map λ_=>[])
 | [],[],_=>.nil
 | [],_::_,h=>by cases h.1
 |_::_,[],h=>by cases h.1
 |d::ds,v::vs,h=>.v (h.2 0 v d S S) (wa ⟨by have:=h.1;simpa using this,λi f d' c hd=>h.2 (i+1) f d' c hd⟩)
theorem wH{o H:Hp}:∀{ds:Y D}{vs:Y V}{os:Y Om}{a:Y (Y Addr)},OutM K o H (ds.map Sm.v) vs os a->os=[]/\a.flatten=[]
 | [],_,_,_,.nil=>⟨S,S⟩
 |_::ds,_,_,_,.v h=>by let⟨c,f⟩:=wH (ds:=ds) h;show⟨c,by rw[Li,f];rfl⟩
theorem nK{a c:Type}:∀(ds:Y a),(ds.map λ_=>([]:Y c)).flatten=[]
 | []=>rfl
 |_::ds=>by rw[K1,Li,nK ds];rfl
end
section
variable{K:Â}{w H B m y:Hp}{t:St}{ρ:aj}{l:Nat->Y Addr}{F':Y Addr}{o A:Om}{p:Addr}{d:D}{v:V}{i:Nat}{a:Ū Addr}
theorem EnvM'.put2(E:EnvM' K w m H t ρ l)(N:ρ[i]?=Z (Z (.ob a o)))(U:t[i]?=Z (Z (.ref p)))(R:∀b u,H b=Z u->b∉l i->B b=Z u)(a_:OmS K m B A p F')(Q:∀b∈F',b∈l i\/(w b=ũ/\m b=ũ/\∀(j:Nat)(C:Ū Addr)(g:Om),ρ[j]?=Z (Z (.ob C g))->b∉l j)) :
  EnvM' K w m B t (ρ.set i (Z (.ob a A))) (λj=>if j=i then F' else l j):=by
 have PV:=aZ N
 have M:∀{j:Nat}{x:Sm},(ρ.set i (Z (Sm.ob a A)))[j]?=Z (Z x)->(j=i/\x=.ob a A)\/(j≠i/\ρ[j]?=Z (Z x)):=λ{j x} h=>by
  rcases iN h with⟨e,_,X⟩|⟨e,h⟩
  ·cases X;show .inl ⟨e,S⟩
  ·show .inr ⟨e,h⟩
 have ap:∀b∈F',∀(j:Nat)(C:Ū Addr)(g:Om),ρ[j]?=Z (Z (.ob C g))->j≠i->b∉l j:=λb f j C g F c z=>by
  rcases Q b f with h|⟨_,_,h⟩
  ·show E.dj j i C a g o F N c b z h
  ·show h j C g F z
 refine⟨λb u e=>R b u (E.fz b u e) λz=>?_,by rw[K0,E.len],λj d h=>?_,λj C g h=>?_,λj C g h b f=>?_,λj k a1 a2 T g F G c b f J=>?_,E.tb⟩
 ·rw[(E.no i a o N b z).2]at e;cases e
 ·rcases M h with⟨_,h⟩|⟨_,h⟩
  ·cases h
  ·show E.sl j d h
 ·rcases M h with⟨c,h⟩|⟨c,h⟩
  ·cases h;subst c;let⟨q,e,P,_⟩:=E.ow j a o N;rw[U]at e;cases e;show⟨p,U,P,by rw[Kq S];show a_⟩
  ·let⟨q,e,P,r⟩:=E.ow j C g h;refine⟨q,e,P,?_⟩;rw[Kr c];show r.keep (Same.refl _) λb f u aA=>R b u aA λz=>E.dj j i C a g o h N c b f z
 ·rcases M h with⟨c,h⟩|⟨c,h⟩
  ·rw[Kq c]at f;rcases Q b f with z|⟨z1,z2,_⟩
   ·show E.no i a o N b z
   ·show⟨z1,z2⟩
  ·rw[Kr c]at f;show E.no j C g h b f
 ·rcases M F with⟨O,F⟩|⟨O,F⟩
  ·rw[Kq O]at f;rcases M G with⟨I,G⟩|⟨I,G⟩
   ·omega
   ·rw[Kr I]at J;show ap b f k a2 g G I J
  ·rw[Kr O]at f;rcases M G with⟨I,G⟩|⟨I,G⟩
   ·rw[Kq I]at J;show ap b J j a1 T F O f
   ·rw[Kr I]at J;show E.dj j k a1 a2 T g F G c b f J
theorem EnvM.fsetL{nm f:Str}{fs:Y (Str×Fl)}{ds:Y D}{C:Addr}{G:Ū Addr}(E:EnvM K w m H (t++[Z v]) (ρ++[Z (.ob G (.lst ds))]))(hl:ρ.length=t.length)(g:Gr y w m H)(hC:Ú K Á nm=Z (Z (.ref C)))(M:ρ[i]?=Z (Z (.ob a (.obj nm fs))))(ap:fs.lookup f=ũ):∃p F vs,t[i]?=Z (Z (.ref p))/\H p=Z (.ins C F vs)/\vs.length=fs.length /\
  EnvM K w m (aq H p (.ins C F (cJ f v vs))) t (ρ.set i (Z (.ob a (.obj nm (fb f (.l ds) fs)))))/\Gr y w m (aq H p (.ins C F (cJ f v vs))):=by
 let⟨l,E⟩:=E
 have O:(ρ++[Z (Sm.ob G (.lst ds))])[ρ.length]?=Z (Z (.ob G (.lst ds))):=by rw[Km (Kw _),Lw];rfl
 let⟨q,aA,_,rq⟩:=E.ow _ _ _ O
 have ev:v=.ref q:=by rw[hl,Km (Kw _),Lw]at aA;cases aA;rfl
 subst ev;let⟨R,ws,q1,q2⟩:=rq.lst_inv
 have hq:q∈l ρ.length:=by rw[R];show KH.mpr S
 have J:=E.no _ _ _ O q hq
 have up:∀{j:Nat}{x:Sm},ρ[j]?=Z (Z x)->(ρ++[Z (Sm.ob G (.lst ds))])[j]?=Z (Z x):=λh=>by rw[Kn (aZ h)];show h
 have I:∀(j:Nat)(a2:Ū Addr)(T:Om),ρ[j]?=Z (Z (.ob a2 T))->q∉l j:=λj a2 T hj z=>E.dj j ρ.length a2 G T _ (up hj) O (by have:=aZ hj;omega) q z hq;have N:EnvM' K w m H t ρ l:=E.take hl;let⟨p,e,_,ro⟩:=N.ow i a _ M;let⟨C',F,vs,U,Q,X,c2,a_,nd⟩:=ro.obj_inv;rw[hC]at X;cases X
 have X2:p∈l i:=by rw[Q];show Ku
 have hH:∀b u,H b=Z u->b∉l i->aq H p (.ins C F (cJ f (.ref q) vs)) b=Z u:=λb u e hn=>by
  rw[aJ λz=>hn (by rw[z];show X2)];show e
 have U8:=nd;rw[K9]at U8
 have Xs:q∉p::U:=by rw[←Q];show I i a _ M
 have P:(p::(U++[q])).Nodup:=by rw[←MZ,LI];show⟨nd,by simp,λb r c ap z=>by rw[KH.mp ap]at z;show Xs (z▸r)⟩
 refine⟨p,F,vs,e,c2,a_.len,⟨_,N.put2 M e hH (F':=p::(U++[q])) (.obj hC bu ((a_.setL ap q1 q2).keep (Same.refl _) λb r u hu=>?_) P) λb r=>?_⟩,N.grput g M hH⟩
 ·rw[aJ (show b≠p from λz=>?_)]
  ·show hu
  ·rw[K9]at P;show P.1 (by rw[←z];show r)
 ·rw[←MZ]at r;rcases K6.mp r with r|r
  ·show .inl (by rw[Q];show r)
  ·rw[KH.mp r];show .inr ⟨J.1,J.2,I⟩
end
section
variable{K:Â}{X:Cx}{e a:Ã}{j:TX}{t:TD}{h m l:Õ}{x nm f:Str}{C:Addr}
noncomputable def B9(i:Nat)(nm f:Str)(j:TX):bL:=λg ρ=>j ρ (λs c=>match s with|.ob _ (.lst ds)=>(∃a fs,c[i]?=Z (Z (.ob a (.obj nm fs)))/\fs.lookup f=ũ/\fs.length<1000/\NF (fb f (.l ds) fs) λo=>g.nx (c.set i (Z (.ob a (.obj nm o)))))|_=>False) g.ex
theorem mI(i:Nat)(c:Cls K C)(aA:NoAttr K C f)(O:Ú K Á nm=Z (Z (.ref C)))(R:PX K X e j)(P:X.N[i]?=Z x:=by rfl)(a_:cx X.env.scope x:=by nofun)(hd:ad x:=by decide)(G:am x:=by decide)
  (U:Î e (Z (.Attribute (.Name x m) f l)) h.line X.env=pure Ŭ:=by rfl):PSM K X (.Assign [.Attribute (.Name x m) f l] e h) (B9 i nm f j):=
 ⟨λu=>(xA (f:=f) (pv i P a_ hd G) (R.pe u) U).imp λE σ H F=>by
  let⟨w,B,Φ,ρ,z,g,V,t,k⟩:=F;refine⟨w,B,Φ,[],ρ,[],_,z.ex,fF g V k.ex,t,λs ρ1 y H1 v r o _=>?_⟩;split at r
  ·next a1 ds=>
   let⟨a0,RD,T,Q,ap,r⟩:=r;let⟨p,I,vs,J,M,N,A,g'⟩:=EnvM.fsetL (f:=f) o.E o.l o.g O T Q;show⟨_,J,p,C,I,vs,S,M,u▸c,u▸aA,by rw[N];show ap,k.nx _ y _ σ r.get g' A⟩
  ·show r.elim⟩
end
section
variable{P:Ä}{w:Å}{K:Â}{mg:Str->Ū Value}{base:Heap}{n m:Nat}{C:Addr}{x:Str}{ps:Y Str}
theorem MthM.mono{z:b7}(M:MthM P w K mg base n C x ps z)(k:n<=m:=by decide):MthM P w K mg base m C x ps z:=by let⟨f,a,F,r⟩:=M.ex;show⟨f,a,F.mono k,r⟩
theorem MkM.mono{z:b7}(M:MkM P w K mg base n C ps z)(k:n<=m:=by decide):MkM P w K mg base m C ps z:=by let⟨f,a,F,r⟩:=M.ex;show⟨f,a,F.mono k,r⟩
end
section
variable{K:Â}{X:Cx}{a b:Ã}{es:Y Ã}{f tb:TX}{e:Õ}
noncomputable def G4(f tb:TX):TX:=λρ R h=>f ρ (xV λd g=>match d with|.bl c=>(c=ū->tb g R h)/\(c=Ŭ->R (.v (.bl Ŭ)) g)|_=>False) h
theorem Ja{op}(h:PX K X a f):PX K X (.BoolOp op [a] e) f:=⟨λc=>yA (h.pe c)⟩
theorem DH(I:PX K X a f)(J:PX K X (.BoolOp .And (b::es) e) tb):PX K X (.BoolOp .And (a::b::es) e) (G4 f tb):=
 ⟨λy=>(xS (I.pe y) (J.pe y)).imp λaA H Q E=>by
  let⟨h,r,T,A,ρ,z,R,u,ap,t,k⟩:=E;refine⟨h,r,T,A,ρ,z,_,u,ap,t,λU l j C v g m w=>?_⟩;let⟨x,rfl,g⟩:=g.get;have N:=m.last;let⟨c,rfl,g⟩:=js g;obtain rfl:=N.b;refine⟨c,S,?_⟩
  cases c with
  |true=>rw[Kq S];show⟨h,r,j,A,l,z,R,u,m.pop ap.lk,g.1 S,λO p o B P M F G=>k O p o B P M F (w.trans G)⟩
  |false=>rw[Kr 'b'];show k _ l j C _ (g.2 S) ((m.pop ap.lk).pushV (.bl _)) w⟩
end
inductive lSpMX(K:Â)(mg:Str->Option Value)(sp:b7)(vs:List V)(H:Hp)(Q:VK)(E:XK):Prop|mk (Φ:Hp) (as:List Sm) (Fs:List (List Addr)) (R:Sm->List Om->Prop) (Rx:XD->List Om->Prop) (_:Same Φ H) (_:TabF K Φ) (_:ArgM K Φ H as vs Fs) (_:Fs.flatten.Nodup) (_:(∀b∈Fs.flatten,Φ b=ũ)) (_:sp as R Rx) (_:(∀sm os Φ' H' v F Px,R sm os->Gr Φ (cc H Fs.flatten) Φ' H'->ResM K Φ' H' sm v F->OutM K Φ' H' as vs os Px->(F++Px.flatten).Nodup->(∀b∈F++Px.flatten,cc H Fs.flatten b=ũ/\Φ' b=ũ)->Q v H')) (_:∀xd os C dx Φ' H' Px,Rx xd os->Gr Φ (cc H Fs.flatten) Φ' H'->OutM K Φ' H' as vs os Px->Px.flatten.Nodup->(∀b∈Px.flatten,cc H Fs.flatten b=ũ/\Φ' b=ũ)->mg xd.nm=Z (.ref C)->qd K H' xd.at_ dx->E (.ref C) dx H')
structure ClMX(P:Ä)(w:Å)(K:Â)(mg:Str->Option Value)(base:Heap)(n:Nat)(x:Str)(ps:List Str)(z:b7):Prop where
 ex:∃(f:Addr)(fd:Ë),FnOk P w K mg base (CXo P w) n f fd ps (lSpMX K mg z)/\Binds K fd ps []/\Û K (.ref f)=ū/\mg x=Z (.ref f)
structure MthMX(P:Ä)(w:Å)(K:Â)(mg:Str->Option Value)(base:Heap)(n:Nat)(C:Addr)(m:Str)(ps:List Str)(z:b7):Prop where
 ex:∃(f:Addr)(fd:Ë),FnOk P w K mg base (CXo P w) n f fd ps (lSpMX K mg z)/\Binds K fd ps []/\Meth K C m f
section
variable{P:Ä}{w:Å}{K:Â}{mg:Str->Ū Value}{base:Heap}
theorem Fun.okMX{x qual:Str}{st:Ç}{f:Addr}{fd:Ë}{N ps:Y Str}{k:Nat}{sp:b7}(F:Fun K x qual st f fd)(ap:FnScope N ps (aF st))(len:∀as R B,sp as R B->as.length=ps.length)
  (Q0:∀(a_:Value)(A:É)(outer:Y é)(s:À)(H:Hp)(E:XK)(as:Y Sm)(R:Sm->Y Om->Prop)(B:XD->Y Om->Prop)(qs:Y Addr),fd.code=a_->Room k (A.deeper (ê qual (aF st) s.heap.objs.size f a_))->sp as R B->qs.length=kZ as->
   ∃t,PSsM K (gM (CXo P w) P w K mg base N qual (aF st) f a_ A outer s H E) (dR st) t/\let ke:EndsM:={ nx:=λρ=>fB (R (.v .non)) as qs 0 ρ,rt:=λI ρ=>fB (R I) as qs 0 ρ,ex:=λxd ρ=>fB (B xd) as qs 0 ρ };t ke (aW N as qs)):FnOk P w K mg base (CXo P w) (k+1) f fd ps (lSpMX K mg sp):=by
 let⟨oc,od,kV,doc,pm,an,a_,ct,Si,rfl,lk,Pg⟩:=F.ex;refine qG lk Pg ap (λvs H Q E O7=>?_) λA outer s H vs Q E hr O7=>?_
 ·let⟨U,as,X,R,B,I,tb,O,nd,hn,h,_⟩:=O7;rw[O.len.1];show len as R B h
 ·let⟨U,as,X,R,B,I,tb,O,nd,hn,h,kk,kx⟩:=O7;let⟨t,ht,hq⟩:=Q0 a_ A outer s H E as R B (eV as vs) S hr h (vA O);dsimp only at hq;rw[←jX]at hq
  have aA:∀I l m y v p,fB (R I) as (eV as vs) 0 l->Gr U (cc H X.flatten) m y->EnvM K (cc H X.flatten) m y (p++[Z v]) (l++[Z I])->Q v y:=λM l m y v p hk g V=>by
   let⟨fp,G⟩:=V
   have hl:p.length=l.length:=by have:=G.len;simpa using this
   let⟨os,Px,h1,h2,h3,h4,h5⟩:=sR (k:=R M) (G.take hl.symm) O hk
   have J:(l++[Z M])[l.length]?=Z (Z M):=by rw[Km (Kw _),Lw];rfl
   cases M with
   |v d=>
    let⟨u,hu,r⟩:=G.sl _ d J;rw[←hl,Km (Kw _),Lw]at hu;cases hu;show kk (.v d) os m y v [] Px h2 g (.v r) h1 (by simpa using h3) (λb hb=>h4 b (by simpa using hb))
   |ob a o=>
    let⟨u,hu,XM,r⟩:=G.ow _ a o J;rw[←hl,Km (Kw _),Lw]at hu;cases hu;refine kk (.ob a o) os m y _ (fp l.length) Px h2 g (.o XM r) h1 ?_ λb hb=>?_
    ·refine LI.mpr ⟨r.nodup,h3,λb hb c hc e=>?_⟩;subst e;let⟨j,a2,o2,_,_,j3,j4⟩:=h5 b hc;have hj:=aZ j3;show G.dj _ j a a2 o o2 J (by rw[Kn hj];show j3) () b hb j4
    ·rcases K6.mp hb with z|z
     ·show G.no _ a o J b z
     ·show h4 b z
  have g0:Gr U (cc H X.flatten) U H:=⟨Same.refl _,u1,I,λ_ _ _ h _=>h⟩;refine⟨lM K _ t,ht.ps S,U,cc H X.flatten,U,_,_,g0,yw I tb O nd hn,hq,⟨λl m y p r g V=>?_,λM l m y v p r g V=>aA M l m y v p r g V,λ_ _ _ _ h=>h.elim,λ_ _ _ _ h=>h.elim,λxd l m y p z s' pins hw g V st=>?_⟩⟩
  ·show aA (.v .non) l m y .non p r g (V.snocV .non)
  ·let⟨ea,C,T,dx,e1,F',hm,J,fa,fT⟩:=st.ex;subst e1;let⟨fp,G⟩:=V;let⟨os,Px,h1,h2,h3,h4,h5⟩:=sR (k:=B xd) G O hw;show Ha st.inv F' ⟨fa.1,fa.2.1⟩ (λT' z=>⟨(fT T' z).1,(fT T' z).2.1⟩) (kx xd os C dx m y Px h2 g h1 h3 h4 hm J)
theorem Fun.clMX{x:Str}{st:Ç}{f:Addr}{a:Ë}{ps:Y Str}{n:Nat}{z:b7}(F:Fun K x x st f a)(m:mg x=Z (.ref f))(H:FnOk P w K mg base (CXo P w) n f a ps (lSpMX K mg z))
  (b:oS st x x ps:=by intro _ _ _ _ _ _;first|show nG λ_=>rfl|show jy λ_ _=>rfl|show nC λ_ _ _=>rfl|show pH λ_ _ _ _=>rfl|show us_0 S|show us_5 λ_ _ _ _ _=>rfl|show nM λ_ _ _ _ _ _=>rfl|show us_7 λ_ _ _ _ _ _ _=>rfl|show us_8 λ_ _ _ _ _ _ _ _=>rfl):ClMX P w K mg base n x ps z:=⟨f,a,H,F.binds b,F.kp,m⟩
theorem ClMX.mono{n m:Nat}{x:Str}{ps:Y Str}{z:b7}(C:ClMX P w K mg base n x ps z)(k:n<=m:=by decide):ClMX P w K mg base m x ps z:=by let⟨f,a,F,r⟩:=C.ex;show⟨f,a,F.mono k,r⟩
theorem MthMX.mono{n m:Nat}{C:Addr}{x:Str}{ps:Y Str}{z:b7}(M:MthMX P w K mg base n C x ps z)(k:n<=m:=by decide):MthMX P w K mg base m C x ps z:=by let⟨f,a,F,r⟩:=M.ex;show⟨f,a,F.mono k,r⟩
end
section
variable{X:Cx}{CX:cM}{k:Nat}{C f:Addr}{v:Ë}{ps:Y Str}{sp:Sp}{m:Str}{j g:Õ}{o e:Ã}{es:Y Ã}{t:TA}{p:TE}
noncomputable def yB(CX:cM)(X:Cx)(C:Addr)(m:Str)(sp:Sp)(p:TE)(t:TA):TE:=λc H Q=>p c H λx h=>∃a r fs,x=.ref a/\h a=Z (.ins C r fs)/\fs.lookup m=ũ/\t c h λvs l=>∃E,oH CX X E c l/\sp (.ref a::vs) l Q E
theorem Jf{pl:Sem Bool}(ap:PE X o p)(c:Cls X.K C)(A:Meth X.K C m f)(F:FnOk X.prog X.w X.K X.mg X.base CX k f v ps sp)(T:Room k X.A)(R:Binds X.K v ps [])(P:PA X (e::es) t)
  (K:starEach (e::es) X.env=(Ŭ,eval e X.env)::starEach es X.env) (M:(backTo g (starEach es X.env)).any (·.1)=Ŭ)
  (U:eval (.Call (.Attribute o m j) (e::es) [] g) X.env=(do
   let ov ←eval o X.env
   standAt j.atName
   let (f,first) ←holding [ov] (getMethod ov m pl)
   callWith g f first (backTo g (starEach (e::es) X.env)) (backToKw g (keywordEach [] X.env)))) :
  PE X (.Call (.Attribute o m j) (e::es) [] g) (yB CX X C m sp p t):=by
 intro w s B H Q I h;refine Oc (pl:=pl) (aE (ap w s B H _ I h) λu s1 J=>?_) U;let⟨x,G,y,rx,a,dx,fs,ex,O,l,q⟩:=J;subst ex;obtain rfl:u=Value.ref a:=rx;refine qP y O c A l ?_;refine NK (first:=[.ref a]) (h₀:=X.base) I.ok.mod.kin A.kp (aE (P g w s1 B G _ y q) λus s2 N=>?_) K M;let⟨vs,H2,z,r,E,a_,aA⟩:=N;show⟨z.kIn,tF (us:=.ref a::us) (vs:=.ref a::vs) F T R a_ z (.cons S r) aA⟩
theorem HF{pl:Sem Bool}(G:PE X o p)(c:Cls X.K C)(y:Meth X.K C m f)(F:FnOk X.prog X.w X.K X.mg X.base CX k f v ps sp)(J:Room k X.A)(B:Binds X.K v ps [])
  (K:eval (.Call (.Attribute o m j) [] [] g) X.env=(do
   let ov ←eval o X.env
   standAt j.atName
   let (f,first) ←holding [ov] (getMethod ov m pl)
   callWith g f first (backTo g (starEach [] X.env)) (backToKw g (keywordEach [] X.env)))) :
  PE X (.Call (.Attribute o m j) [] [] g) (yB CX X C m sp p qS):=by
 intro r s O H Q I h;refine Oc (pl:=pl) (aE (G r s O H _ I h) λu U z=>?_) K;let⟨x,P,w,N,a,R,fs,ex,A,l,E,M,q⟩:=z;subst ex;obtain rfl:u=Value.ref a:=N;refine qP w A c y l ?_;show callWith_K0 (first:=[.ref a]) w.kIn y.kp (tF (us:=[.ref a]) (vs:=[.ref a]) F J B M w (.cons S .nil) q)
end
section
variable{K:Â}{X:Cx}{e:Ã}{es:Y Ã}{h p j l:Õ}{o:cI}{C:Addr}{nm m x:Str}
theorem StM.lendX{z:b7}{y H0 N H:Hp}{B τ ts:St}{ρ κ:aj}{R:Sm->aj->Prop}{J:XD->aj->Prop}{as:Y Ar}{G:Y Sm}{vs:Y V}{Q:VK}(hK:X.K=K)(aA:X.ex=[])(ap:StM K X y H0 N H B (τ++ts) ρ (κ++cY as) J)(hl:κ.length=τ.length)(hr:eJ ρ as=Z G)(hv:ArV B as vs ts)(hs:rH as=ū)
  (hz:z G (λu os=>R u (aN ρ as os)) (λt os=>J t (aN ρ as os))) (k:∀u A a c v,R u A->StM K X y H0 a c B (τ++[Z v]) A (κ++[Z u]) J->Same N a->Q v c):∃E,oH (CXo X.prog X.w) X E B H/\lSpMX K X.mg z vs H Q E:=by
 let⟨O,g1,g2,g3,g4⟩:=ap.lend hl hr hv hs
 refine⟨λcls M c=>∃t C a os f,J t (aN ρ as os)/\Gr N (cc H O.flatten) a c/\OutM K a c G vs os f/\f.flatten.Nodup/\(∀b∈f.flatten,cc H O.flatten b=ũ/\a b=ũ)/\cls=.ref C/\X.mg t.nm=Z (.ref C)/\qd K c t.at_ M,λw s e' s' I hx=>?_,
  N,G,O,_,_,ap.g.s,ap.E.tb,g1,g2,g3,hz,λu os a c v F f r gr Rv ho hn P=>k u _ a c v r (g4 u os a c v F f gr Rv ho hn P) gr.f,λt os C M a c f h1 h2 h3 h4 h5 h6 h7=>⟨t,C,a,os,f,h1,h2,h3,h4,h5,S,h6,h7⟩⟩
 let⟨ea,T,C,M,c,e1,I',F',fa,fT,t,C',a,os,f,a_,g,ho,hn,P,ec,hm,ha⟩:=CXo.at I aA hx;cases ec;subst e1;have U:=g4 (.v .non) os a c .non [] f g (.v .non) ho (by simpa using hn) (λb hb=>P b (by simpa using hb));refine U.x t _ a c B _ s' w a_ U.g (U.pop hl).env ⟨I',ea,C,Z T,M,S,F',hm,hK▸ha,fa,λT' z=>?_⟩;cases z;show fT
theorem pB{n:Nat}{ps:Y Str}{z:b7}(C:ClMX X.prog X.w K X.mg X.base n x ps z)(hr:Room n X.A)(hg:Gl X x)(c:X.ex=[])
  (a_:PXA K X (e::es) o) (aA:starEach (e::es) X.env=(Ŭ,eval e X.env)::starEach es X.env) (I:(backTo h (starEach es X.env)).any (·.1)=Ŭ) (G:ad x:=by decide) :
  PX K X (.Call (.Name x p) (e::es) [] h) (r6 z o):=⟨λa=>by
 let⟨f,U,F,b,k,m⟩:=C.ex;refine (Dq (a▸F:FnOk X.prog X.w X.K X.mg X.base (CXo X.prog X.w) n f U ps (lSpMX K X.mg z)) hr hg m (a▸k) (a▸b) (a_.pa a) G aA I).imp λσ H Q E=>?_;let⟨w,B,Φ,τ,ρ,κ,R,M,ap,t,k⟩:=E;refine⟨w,B,Φ,τ,ρ,κ,_,M,ap,t,λas ρ1 Φ1 H1 vs ts g hl hv O T=>?_⟩;let⟨PL,J,P,g⟩:=g
 show O.lendX (R:=R) a c ap.lk J hv P g λsm y u A v r N s'=>k sm y u A v r N (T.trans s')⟩
theorem EE(i:Nat){n:Nat}{ps:Y Str}{z:b7}{pl:Sem Bool}(M:MthMX X.prog X.w K X.mg X.base n C m ps z)(hr:Room n X.A)(u:X.ex=[])(c:Cls K C)(hC:Ú K Á nm=Z (Z (.ref C)))
  (ha:PXA K X (e::es) o) (he:starEach (e::es) X.env=(Ŭ,eval e X.env)::starEach es X.env) (a_:(backTo h (starEach es X.env)).any (·.1)=Ŭ)
  (ht:eval (.Call (.Attribute (.Name x l) m j) (e::es) [] h) X.env=(do
   let ov ←eval (.Name x l) X.env
   standAt j.atName
   let (f,first) ←holding [ov] (getMethod ov m pl)
   callWith h f first (backTo h (starEach (e::es) X.env)) (backToKw h (keywordEach [] X.env))):=by rfl)
  (hN:X.N[i]?=Z x:=by rfl) (w:cx X.env.scope x:=by nofun) (hd:ad x:=by decide) (U:am x:=by decide) :
  PX K X (.Call (.Attribute (.Name x l) m j) (e::es) [] h) (sT i nm m z o):=⟨λg=>by
 let⟨f,fd,F,b,hm⟩:=M.ex;refine (Jf (pl:=pl) (pv i hN w hd U) (g▸c) (g▸hm) (g▸F:FnOk X.prog X.w X.K X.mg X.base (CXo X.prog X.w) n f fd ps (lSpMX K X.mg z)) hr (g▸b) (ha.pa g) he a_ ht).imp λσ H Q T=>?_;let⟨B,P,Φ,τ,ρ,κ,R,Rx,ap,⟨⟨a,fs,ho,N⟩,t⟩,k⟩:=T;let⟨fp,E⟩:=ap.env;let⟨q,J,_,ro⟩:=E.ow i a _ ho;let⟨C',dx,vs,qs,eF,I,c2,c3,nd⟩:=ro.obj_inv;rw[hC]at I;cases I;refine⟨_,J,q,dx,vs,S,c2,c3.lookN N,B,P,Φ,τ,ρ,κ,_,Rx,ap,t,λas ρ1 Φ1 H1 us ts y N w S1 f1=>?_⟩;let⟨PL,aA,T8,y⟩:=y
 show StM.lendX (R:=R) (as:=.s i::as) g u S1 ap.lk aA (.s J w) T8 y λsm G A O v r S' s'=>k sm G A O v r S' (f1.trans s')⟩
theorem Jz(i:Nat){n:Nat}{ps:Y Str}{z:b7}{pl:Sem Bool}(M:MthMX X.prog X.w K X.mg X.base n C m ps z)(hr:Room n X.A)(u:X.ex=[])(c:Cls K C)(hC:Ú K Á nm=Z (Z (.ref C)))
  (ht:eval (.Call (.Attribute (.Name x l) m j) [] [] h) X.env=(do
   let ov ←eval (.Name x l) X.env
   standAt j.atName
   let (f,first) ←holding [ov] (getMethod ov m pl)
   callWith h f first (backTo h (starEach [] X.env)) (backToKw h (keywordEach [] X.env))):=by rfl)
  (hN:X.N[i]?=Z x:=by rfl) (hv:cx X.env.scope x:=by nofun) (hd:ad x:=by decide) (O:am x:=by decide) :
  PX K X (.Call (.Attribute (.Name x l) m j) [] [] h) (sT i nm m z nO):=⟨λg=>by
 let⟨f,fd,F,b,hm⟩:=M.ex;refine (HF (pl:=pl) (pv i hN hv hd O) (g▸c) (g▸hm) (g▸F:FnOk X.prog X.w X.K X.mg X.base (CXo X.prog X.w) n f fd ps (lSpMX K X.mg z)) hr (g▸b) ht).imp λσ H Q N=>?_;let⟨y,J,Φ,τ,ρ,κ,R,T,ap,⟨⟨a,fs,ho,hl⟩,t⟩,k⟩:=N;let⟨fp,E⟩:=ap.env;let⟨q,G,_,ro⟩:=E.ow i a _ ho;let⟨C',dx,vs,qs,eF,B,c2,c3,nd⟩:=ro.obj_inv;rw[hC]at B;cases B;let⟨PL,P,aA,r1⟩:=t
 have a_:StM K X y J Φ H σ (τ++[]) ρ (κ++cY [.s i]) T:=by rw[Le,show cY [.s i]=[]from rfl,Le];show ap
 refine⟨_,G,q,dx,vs,S,c2,c3.lookN hl,?_⟩
 show StM.lendX (R:=R) (as:=[.s i]) g u a_ ap.lk P (.s G .nil) aA r1 λsm A w I v r U s'=>k sm A w I v r U s'⟩
end
section
variable{K:Â}{X:Cx}{a:Str->Str->Bool}{names:Y Str}
theorem y9{o:Y ß}{aA:XD->EndsM->aj->Prop}{c:Str}{B:Addr}{np R7:Õ}{m:Ç}{O:Y Ç}{tu:bL}(E:Exs X.K X.mg a names)(a_:c∈names)(hg:Gl X c)(M:X.mg c=Z (.ref B))(hs:∀pn e,PSsM K (X.held pn e) (m::O) tu)(hr:PHM K X o aA)
  (P4:ad c:=by decide) :
  PHM K X (.ExceptHandler (Z (.Name c np)) ũ (m::O) R7::o) (λl p ρ=>l.nm∈names/\(a l.nm c=ū->tu { nx:=p.nx,rt:=p.rt,bk:=p.bk,ct:=p.ct } ρ)/\(a l.nm c=Ŭ->aA l p ρ)):=
 ⟨λap j s σ H D x T C dx l y N Φ ρ p I F G PB R Q g V t k=>by
  let⟨P,t1,t2⟩:=t;let⟨oe,he,Tj,hdx,vs,hvs⟩:=F.live;let⟨iC,kC⟩:=E.cls l.nm P C G s.heap I.kIn;let⟨iD,kD⟩:=E.cls c a_ B M s.heap I.kIn;have Tt:=E.sub l.nm P c a_ C B G M s.heap I.kIn;refine ń (Ķ (iY (X:=X.held (X.pn++j) (.ref x)) (I.held (.ref x)) hg M ?_ P4)) (by intro q;cases q);refine ur kC kD he Tj ?_;rw[Tt]
  cases U:a l.nm c with
  |false=>show hr.ph ap j s σ H D x T C dx l y N Φ ρ p I F G PB R Q g V (t2 U) k
  |true=>
   refine codeAny_handlers_suite (oq F λh1 F1 k1 n1=>?_);have I1:Inv X j σ H { s with heap:=h1 }:=I.passed (ql k1 F.note (tQ I)) R (λT' z=>by cases z;show Q) F.obj (λT' z=>by cases z;show F.note);have run:=(hs (X.pn++j) (.ref x)).ps ap [] _ _ _ { nx:=D.nx,rt:=D.rt,bk:=D.bk,ct:=D.ct } (I1.held (.ref x)) ⟨y,N,Φ,_,_,g,V,t1 U,⟨k.nx,k.rt,k.bk,k.ct,λ_ _ _ _ _ _ _ _ h=>h.elim⟩⟩;refine L0 run (λf s3 A=>?_) λ_ _ h=>h.elim
   cases f with
   |next=>let⟨w,r,J,q⟩:=A;show⟨_,r,Inv.unheld I.ok J,q⟩
   |brk=>let⟨w,r,J,q⟩:=A;show⟨_,r,Inv.unheld I.ok J,q⟩
   |cont=>let⟨w,r,J,q⟩:=A;show⟨_,r,Inv.unheld I.ok J,q⟩
   |ret u=>let⟨v,w,r,J,rv,q⟩:=A;show⟨v,_,r,Inv.unheld I.ok J,rv,q⟩⟩
theorem vZ{g:Y ß}{p:XD->EndsM->aj->Prop}{c:Str}{A v:Õ}{f:Ç}{o:Y Ç}{r:bL}(t:Exs X.K X.mg a names)(l:∃m,X.mg c=Z (.ref m))(w:c∈names)(x:Gl X c)(z:∀pn e,PSsM K (X.held pn e) (f::o) r)(y:PHM K X g p)
  (u:ad c:=by decide) :
  PHM K X (.ExceptHandler (Z (.Name c A)) ũ (f::o) v::g) (λj h ρ=>j.nm∈names/\(a j.nm c=ū->r { nx:=h.nx,rt:=h.rt,bk:=h.bk,ct:=h.ct } ρ)/\(a j.nm c=Ŭ->p j h ρ)):=by
 let⟨m,l⟩:=l;show y9 t w x l z y u
end
section
variable{K:Â}{X:Cx}{e:Ã}{a p:Õ}{C:Addr}{x:Str}
theorem tV{n:Nat}{ps:Y Str}{z:b7}(M:MkM X.prog X.w K X.mg X.base n C ps z)(hr:Room (n+1) X.A)(hg:Gl X x)(hm:X.mg x=Z (.ref C))(hC:Ú K Á x=Z (Z (.ref C)))
  (T:ad x:=by decide) :
  PX K X (.Call (.Name x p) [] [] a) (Br x z nO):=⟨λw=>by
 let⟨f,fd,F,b,mk⟩:=M.ex;refine (F0 (dvs:=[]) (ds:=[]) (E:=E0) (w▸mk) (w▸F:FnOk X.prog X.w X.K X.mg X.base bh n f fd ps (lSpM K z)) hr hg hm (w▸b) .nil nP T).imp λσ H Q P=>?_;let⟨Φ0,H0,A,τ,ρ,κ,R,Rx,ap,t,k⟩:=P;have r1:z (.ob ũ (.obj x [])::([]:Y D).map Sm.v) (λJ os=>match J,os with|.v .non,[o]=>R (.ob ũ o) ρ|_,_=>False) (λ_ _=>False):=t;have rl:RpL K A [] []:=.nil;intro y g m h PM
 have old:∀b u,H b=Z u->aq (aq H g (.own y)) y (.ins C g []) b=Z u:=λb u e=>by rw[aJ (cV e m),aJ (cV e h)];show e
 refine⟨A,_,_,_,_,λb u e=>old b u (ap.g.s b u e),ap.E.tb,.o (.obj hC bu .nil (by simp)) (wa rl),?_,λb l=>?_,r1,λJ os j B v F U r gr a_ ho hn G=>?_⟩
 ·rw[Li,nK];simp
 ·rw[Li,nK,Le,KH]at l;rw[l];show ap.g.s.free m
 ·split at r
  ·next o=>
   cases a_ with
   |v rv=>
    obtain rfl:=rv.n
    cases ho with
    |o Tv aA=>
     rename_i F' U;let⟨_,eF⟩:=wH (ds:=[]) aA
     have UR:(([y]:Y Addr)::([]:Y D).map λ_=>([]:Y Addr)).flatten=[y]:=by rw[Li,nK];rfl
     rw[UR]at gr G
     have N:∀b u,H b=Z u->cc (aq (aq H g (.own y)) y (.ins C g [])) [y] b=Z u:=λb u e=>by rw[gT λz=>cV e m (KH.mp z)];show old b u e
     have g':Gr A H j B:=⟨gr.f,λb u e=>gr.h b u (N b u e),gr.s,λb u h1 h2 k=>gr.o b u (N b u h1) h2 k⟩;refine⟨S,k _ ρ j B _ r (ap.pushO g' Tv λb l=>?_) gr.f⟩;let⟨O,z2⟩:=G b (by rw[M8,Li];show K6.mpr (.inl l));refine⟨?_,z2⟩;by_cases c:b=y
     ·rw[c];show m
     ·rw[gT (by simpa using c),aJ c]at O;by_cases I:b=g
      ·rw[I];show h
      ·rwa [aJ I]at O
  ·show r.elim⟩
end
end L2
namespace Tx
open PySem
noncomputable abbrev L(x:Str):Y Nat:=x.cps.toList
theorem rf{x y:Str}(h:L x=L y):x=y:=Str.ext' (Array.toList_inj.mp h)
theorem vp(x y:Str):L (x++y)=L x++L y:=by unfold L;rw[Str.cps_append,Array.toList_append]
theorem yH{c:Nat}:∀{x y a b:Y Nat},c∉x->c∉y->x++c::a=y++c::b->x=y/\a=b
 | [],[],a,b,_,_,h=>by cases h;show⟨S,S⟩
 | [],y::ys,a,b,_,f,h=>by cases h;show absurd Ku f
 |x::xs,[],a,b,e,_,h=>by cases h;show absurd Ku e
 |x::xs,y::ys,a,b,e,f,h=>by let⟨l,m⟩:=List.cons.inj h;let⟨g,j⟩:=yH (λz=>e (Kt _ z)) (λz=>f (Kt _ z)) m;show⟨by rw[l,g],j⟩
theorem jQ(s x y:Str)(r:Y Str):L (Str.join s (x::y::r))=L x++(L s++L (Str.join s (y::r))):=by change L (x++s++Str.join s (y::r))=_;rw[vp,vp,KS]
theorem uf{c:Nat}:∀{xs ys:Y Str},xs≠[]->ys≠[]->(∀x∈xs,c∉L x)->(∀y∈ys,c∉L y)->Str.join ⟨#[c]⟩ xs=Str.join ⟨#[c]⟩ ys->xs=ys
 | [],_,h,_,_,_,_=>absurd S h
 |_,[],_,h,_,_,_=>absurd S h
 | [x],[y],_,_,_,_,h=>by rw[show x=y from h]
 | [x],y::l::ys,_,_,e,_,h=>by have a:L x=_:=(LW L h).trans (jQ _ _ _ _);show absurd (a▸Ll _ Ku) (e x Ku)
 |x::j::xs,[y],_,_,_,f,h=>by have a:L y=_:=(LW L h.symm).trans (jQ _ _ _ _);show absurd (a▸Ll _ Ku) (f y Ku)
 |x::j::xs,y::l::ys,_,_,e,f,h=>by
  have a:=LW L h;rw[jQ,jQ]at a;let⟨m,o⟩:=yH (e x Ku) (f y Ku) a;have:=uf (xs:=j::xs) (ys:=l::ys) (by simp) (by simp) (λz g=>e z (Kt _ g)) (λz g=>f z (Kt _ g)) (rf o);rw[rf m,this]
theorem oU{c:Nat}{ws:Y Str}(h:ws≠[])(a:∀w∈ws,c∉L w):Í (Str.join ⟨#[c]⟩ ws) ⟨#[c]⟩=ws:=by
 refine uf ?_ h (StrLaws.split_free _ c) a (StrLaws.join_split _ _);intro e;have:=Nr (Str.join ⟨#[c]⟩ ws) ⟨#[c]⟩;rw[e]at this;cases this
noncomputable def fm(c:Nat):Bool:=97<=c&&c<=122
noncomputable def eP(c:Nat):Bool:=48<=c&&c<=57
noncomputable def bQ(w:Str):Bool:=1<=w.length&&w.length<=12&&(L w).all fm
noncomputable def du(l:Y Nat):Bool:=1<=l.length&&l.length<=4&&l.all eP
noncomputable def gS(l:Y Nat):Ū Int:=match l with
 |45::r=>if du r&&r.head? != Z 48 then Z (-(Ð r:Int)) else ũ
 |_=>if du l&&(l.head? != Z 48 ||l==[48]) then Z (Ð l:Int) else ũ
noncomputable def bG(w:Str):Ū Int:=gS (L w)
noncomputable def nstr(i:Int):Str:=Str.ofString (toString i)
theorem Bg{m:Nat}(h:m<10):(Nat.digitChar m).toNat=48+m:=by
 have:∀m:Nat,m<10->(Nat.digitChar m).toNat=48+m:=by decide
 show this m h
noncomputable def dg(m:Nat):Y Nat:=(Nat.toDigits 10 m).map Ũ
theorem jg{m:Nat}(h:m<10):dg m=[48+m]:=by
 unfold dg;rw[Nat.toDigits_of_lt_base h];change [(Nat.digitChar m).toNat]=_;rw[Bg h]
theorem nR{m:Nat}(h:10<=m):dg m=dg (m/10)++[48+m % 10]:=by
 have a:m % 10<10:=Oo m 'b';have t:Nat.toDigits 10 (m/10)++Nat.toDigits 10 (m % 10)=Nat.toDigits 10 (10*(m/10)+m % 10):=Nat.toDigits_append_toDigits 'b' () a;rw[Nat.div_add_mod]at t;rw[←jg a];unfold dg;rw[←t,KW]
theorem qC:∀m:Nat,(dg m).all eP=ū:=by
 intro m
 induction m using Nat.strongRecOn with
 |_ m a=>
  by_cases h:m<10
  ·rw[jg h];simp[eP];omega
  ·rw[nR (),OQ,a (m/10) ()];simp[eP];omega
theorem pN:∀(k m:Nat),m<10^(k+1)->(dg m).length<=k+1
 |0,m,h=>by rw[jg (by simpa using h)];simp
 |k+1,m,h=>by
  by_cases c:m<10
  ·rw[jg c];simp
  ·rw[nR (),Kp];have:=pN k (m/10) (by rw[Nat.pow_succ]at h;omega);simp;omega
theorem vB:∀m:Nat,1<=(dg m).length:=by
 intro m;by_cases h:m<10
 ·rw[jg h];simp
 ·rw[nR (),Kp];simp
theorem uC:∀m:Nat,0<m->(dg m).head?≠Z 48:=by
 intro m
 induction m using Nat.strongRecOn with
 |_ m f=>
  intro g;by_cases h:m<10
  ·rw[jg h];simp;omega
  ·rw[nR ()];have:=f (m/10) () ();have c:=vB (m/10)
   cases e:dg (m/10)with
   |nil=>rw[e]at c;cases c
   |cons a r=>rw[e]at this;simpa using this
theorem vb(m:Nat):Ð (dg m)=m:=PySem.W.KIN.val_back m
theorem qZ(m:Nat):L (nstr (m:Int))=dg m:=OY m
theorem qM(m:Nat):L (nstr (-((m+1:Nat):Int)))=45::dg (m+1):=by
 have e:toString (-((m+1:Nat):Int))="-"++toString (m+1):=rfl;unfold nstr L;rw[e,N9,String.toList_append,KW];change [45]++_=_;have:=OY (m+1);rw[N9]at this;have a:(toString (m+1)).toList.map Ũ=dg (m+1):=this;rw[a];rfl
theorem rB(n:Int):(∃m:Nat,n=(m:Int))\/∃m:Nat,n = -((m+1:Nat):Int):=by
 rcases Int.lt_or_le n 0 with h|h
 ·show .inr ⟨(-n-1).toNat,()⟩
 ·show .inl ⟨n.toNat,()⟩
theorem xc{m:Nat}(h:m<10000):du (dg m)=ū:=by unfold du;rw[qC,Ld (vB m),Ld (pN 3 m ())];rfl
theorem FA(m:Nat)(r:Y Nat):dg m≠45::r:=λe=>by
 have:=qC m;rw[e,Od]at this
 revert this
 simp[eP]
theorem jt{n:Int}(h:n.natAbs<10000):bG (nstr n)=Z n:=by
 unfold bG;rcases rB n with⟨m,rfl⟩|⟨m,rfl⟩
 ·rw[qZ]
  have a:m<10000:=by omega
  have e:gS (dg m)=if du (dg m)&&((dg m).head? != Z 48 ||dg m==[48]) then Z (Ð (dg m):Int) else ũ:=by
   unfold gS;split
   ·next r h=>show absurd h (FA m r)
   ·rfl
  rw[e,xc a,vb,Kq];by_cases c:m=0
  ·subst c;rw[jg 'b'];rfl
  ·have:=uC m ();rw[O3.mpr this];rfl
 ·rw[qM]
  have a:m+1<10000:=by omega
  change (if du (dg (m+1))&&(dg (m+1)).head? != Z 48 then Z (-(Ð (dg (m+1)):Int)) else ũ)=_;rw[xc a,vb,O3.mpr (uC (m+1) ())];show Kq S
theorem CH(n:Int):∀c∈L (nstr n),c=45\/(48<=c/\c<=57):=by
 have hd:∀m,∀c∈dg m,48<=c/\c<=57:=λm c a=>by have:=KZ.mp (qC m) c a;simpa [eP] using this
 intro c a;rcases rB n with⟨m,rfl⟩|⟨m,rfl⟩
 ·rw[qZ]at a;show .inr (hd m c a)
 ·rw[qM]at a;rcases Kz.mp a with e|a
  ·show .inl e
  ·show .inr (hd _ c a)
theorem c9{n:Int}(h:n.natAbs<10000):(nstr n).length<=5:=by
 have e:(nstr n).length=(L (nstr n)).length:=by unfold L;rw[Ly];rfl
 rw[e];rcases rB n with⟨m,rfl⟩|⟨m,rfl⟩
 ·rw[qZ];have:=pN 3 m ();omega
 ·rw[qM,KA];have:=pN 3 (m+1) ();omega
theorem EF{w:Str}{n:Int}(h:bG w=Z n):intText? w=Z n/\w.length<=5:=by
 have e:w.length=(L w).length:=by unfold L;rw[Ly];rfl
 have g:∀{l:Y Nat},du l=ū->1<=l.length/\l.length<=4/\NumText.AllDigits l:=λ{l} h=>by
  unfold du at h;simp only[KQ,Lj]at h;refine⟨h.1.1,h.1.2,λc m=>?_⟩;have:=KZ.mp h.2 c m;simpa [eP] using this
 unfold bG gS at h;split at h
 ·next r hr=>
  split at h
  ·next c=>
   cases h;let⟨a,j,f⟩:=g (Bool.and_eq_true_iff.mp c).1
   have o:w.length<=5:=by rw[e,hr,KA];omega
   show⟨intText_neg hr f (by intro z;rw[z]at a;cases a) (),o⟩
  ·cases h
 ·split at h
  ·next c=>
   cases h;let⟨a,j,f⟩:=g (Bool.and_eq_true_iff.mp c).1;show⟨intText_digits f (by intro z;have z:L w=[]:=z;rw[z]at a;cases a) (),()⟩
  ·cases h
noncomputable abbrev Tm:=Int×Str
noncomputable def dO:Y Str->Ū (Y Tm)
 | [a,b]=>match bG a with
  |some n=>if bQ b then Z [(n,b)] else ũ
  |none=>ũ
 |a::b::p::c=>match bG a with
  |some n=>if bQ b then (if p="+" then (dO c).map ((n,b)::·) else ũ) else ũ
  |none=>ũ
 |_=>ũ
noncomputable def fc(ws:Y Str):Ū (Y Tm):=if ws=[("0":Str)] then Z [] else if ws.length % 3=2 then dO ws else ũ
noncomputable def aY:Y Tm->Y Str
 | []=>["0"]
 | [(n,x)]=>[nstr n,x]
 |(n,x)::r=>nstr n::x::"+"::aY r
noncomputable def gJ(t:Tm):Prop:=t.1.natAbs<10000/\bQ t.2=ū
theorem sW:∀{ts:Y Tm},ts≠[]->(∀t∈ts,gJ t)->dO (aY ts)=Z ts/\(aY ts).length % 3=2/\2<=(aY ts).length
 | [],h,_=>absurd S h
 | [(n,x)],_,h=>by
  let⟨a,c⟩:=h _ Ku;refine⟨?_,S,Kw _⟩;change (match bG (nstr n)with|some n=>if bQ x then Z [(n,x)] else ũ|none=>ũ)=_;rw[jt a];show Kq c
 |(n,x)::(m,y)::r,_,h=>by
  let⟨a,c⟩:=h _ Ku;let⟨e,g,j⟩:=sW (ts:=(m,y)::r) (by simp) λt f=>h t (Kt _ f);refine⟨?_,?_,?_⟩
  ·change (match bG (nstr n)with|some n=>if bQ x then (if ("+":Str)="+" then (dO (aY ((m,y)::r))).map ((n,x)::·) else ũ) else ũ|none=>ũ)=_;rw[jt a,e];change (if bQ x=ū then _ else _)=_;rw[Kq c,Kq S];rfl
  ·change ((aY ((m,y)::r)).length+1+1+1) % 3=2;omega
  ·change 2<=(aY ((m,y)::r)).length+1+1+1;omega
theorem sf{ts:Y Tm}(h:∀t∈ts,gJ t):fc (aY ts)=Z ts:=by
 unfold fc
 cases ts with
 |nil=>show Kq S
 |cons t r=>
  let⟨c,f,a⟩:=sW (ts:=t::r) (by simp) h;rw[Kr (λe=>by rw[e]at a;simp at a),Kq f,c]
inductive Frm where
 |unk (x:Str) (l:Int) (m:Option Int)
 |row (ts:List Tm) (b:Int) (t:Bool)
 |worth (ts:List Tm) (s:Int)
noncomputable def aV(ws:Y Str)(i:Nat):Str:=ws.getD i ""
noncomputable def iz(ws:Y Str):Ū Frm:=
 if (ws.length=4\/ws.length=6)/\aV ws 2="from"/\bQ (aV ws 1)=ū then
  match bG (aV ws 3)with
  |none=>ũ
  |some l=>if ws.length=4 then Z (.unk (aV ws 1) l ũ) else
   match bG (aV ws 5)with
   |none=>ũ
   |some m=>if aV ws 4="to" then Z (.unk (aV ws 1) l (Z m)) else ũ
 else ũ
noncomputable def jA(ws:Y Str):Ū Frm:=
 if 5<=ws.length/\aV ws (ws.length-3)="at"/\(aV ws (ws.length-2)="least"\/aV ws (ws.length-2)="most") then
  match fc ((ws.drop 1).take (ws.length-4)),bG (aV ws (ws.length-1))with
  |some ts,Z b=>Z (.row ts b (aV ws (ws.length-2) == "most"))
  |_,_=>ũ
 else ũ
noncomputable def i6(ws:Y Str):Ū Frm:=(fc (ws.drop 1)).map λts=>.worth ts (if aV ws 0="most" then 1 else -1)
noncomputable def tO(ws:Y Str):Ū Frm:=
 if aV ws 0="unknown" then iz ws else if aV ws 0="row" then jA ws else if aV ws 0="most"\/aV ws 0="least" then i6 ws else ũ
noncomputable def il(x:Str):Ū Frm:=tO (Í x " ")
noncomputable def cW(t:Bool)(b:Int):Y Str:=[("at":Str),(if t then ("most":Str) else ("least":Str)),nstr b]
noncomputable def cA:Frm->Y Str
 |.unk x l ũ=>["unknown",x,"from",nstr l]
 |.unk x l (Z m)=>["unknown",x,"from",nstr l,"to",nstr m]
 |.row ts b t=>"row"::(aY ts++cW t b)
 |.worth ts s=>(if s=1 then ("most":Str) else ("least":Str))::aY ts
noncomputable def eI:Frm->Prop
 |.unk x l m=>bQ x=ū/\l.natAbs<10000/\∀k,m=Z k->k.natAbs<10000
 |.row ts b _=>(∀t∈ts,gJ t)/\b.natAbs<10000
 |.worth ts s=>(∀t∈ts,gJ t)/\(s=1\/s = -1)
theorem zx{f:Frm}(h:eI f):tO (cA f)=Z f:=by
 cases f with
 |unk x l m=>
  let⟨a,c,e⟩:=h
  cases m with
  |none=>
   show iz ["unknown",x,"from",nstr l]=_;unfold iz;rw[Kq ⟨.inl S,S,a⟩];change (match bG (nstr l)with|none=>ũ|some l=>Z (Frm.unk x l ũ))=_;rw[jt c]
  |some m=>
   show iz ["unknown",x,"from",nstr l,"to",nstr m]=_;unfold iz;rw[Kq ⟨.inr S,S,a⟩];change (match bG (nstr l)with|none=>ũ|some l=>match bG (nstr m)with|none=>ũ|some m=>Z (Frm.unk x l (Z m)))=_;rw[jt c,jt (e m S)]
 |row ts b t=>
  let⟨a,c⟩:=h;change jA ("row"::(aY ts++cW t b))=_
  have o:1<=(aY ts).length:=by
   cases ts with
   |nil=>show Kw _
   |cons t r=>have:=(sW (ts:=t::r) (by simp) a).2.2;omega
  have g:(("row":Str)::(aY ts++cW t b)).length=(aY ts).length+4:=by simp[cW]
  have at_:∀k,k<3->aV ("row"::(aY ts++cW t b)) ((aY ts).length+1+k)=aV (cW t b) k:=λk j=>by
   unfold aV;rw[show (aY ts).length+1+k=((aY ts).length+k)+1 by omega];change (aY ts++cW t b).getD ((aY ts).length+k) ""=_;rw[LB,Km (),LN];rfl
  unfold jA;rw[g];have a0:=at_ 0 ();have a1:=at_ 1 ();have a2:=at_ 2 ();rw[show (aY ts).length+4-3=(aY ts).length+1+0 by omega,show (aY ts).length+4-2=(aY ts).length+1+1 by omega,show (aY ts).length+4-1=(aY ts).length+1+2 by omega,show (aY ts).length+4-4=(aY ts).length by omega,a0,a1,a2]
  have hd:((("row":Str)::(aY ts++cW t b)).drop 1).take (aY ts).length=aY ts:=by change (aY ts++_).take (aY ts).length=_;rw[List.take_append_of_le_length (Kw _),LL]
  rw[hd,sf a];change (if 5<=(aY ts).length+4/\("at":Str)="at"/\((if t then ("most":Str) else "least")="least"\/(if t then ("most":Str) else "least")="most") then (match Z ts,bG (nstr b)with|some ts,Z b=>Z (Frm.row ts b ((if t then ("most":Str) else "least") == "most"))|_,_=>ũ) else ũ)=_;rw[jt c]
  cases t with
  |true=>rw[Kq ⟨(),S,.inr S⟩];rfl
  |false=>rw[Kq ⟨(),S,.inl S⟩];rfl
 |worth ts s=>
  let⟨a,c⟩:=h;rcases c with rfl|rfl
  ·change i6 ("most"::aY ts)=_;unfold i6;change (fc (aY ts)).map _=_;rw[sf a];rfl
  ·change i6 ("least"::aY ts)=_;unfold i6;change (fc (aY ts)).map _=_;rw[sf a];rfl
noncomputable def jk(w:Str):Prop:=∀c∈L w,33<=c/\c<=126
theorem jd(n:Int):jk (nstr n):=λc a=>by have:=CH n c a;omega
theorem pd{w:Str}(h:bQ w=ū):jk w:=λc a=>by
 unfold bQ at h;simp only[KQ]at h;have:=KZ.mp h.2 c a;simp[fm]at this;omega
theorem oG{w:Str}(h:(L w).all (λc=>33<=c&&c<=126)=ū):jk w:=λc a=>by have:=KZ.mp h c a;simpa using this
theorem rS:∀{ts:Y Tm},(∀t∈ts,gJ t)->∀w∈aY ts,jk w
 | [],_,w,a=>by rw[KH.mp a];show oG 'a'
 | [(n,x)],h,w,a=>by
  simp only[aY,Kz,KR,LC]at a;rcases a with rfl|rfl
  ·show jd n
  ·show pd (h _ Ku).2
 |(n,x)::(m,y)::r,h,w,a=>by
  rcases Kz.mp (show w∈nstr n::x::("+":Str)::aY ((m,y)::r)from a)with rfl|a
  ·show jd n
  rcases Kz.mp a with rfl|a
  ·show pd (h _ Ku).2
  rcases Kz.mp a with rfl|a
  ·show oG 'a'
  ·show rS (λt c=>h t (Kt _ c)) w a
theorem rM{f:Frm}(h:eI f):∀w∈cA f,jk w:=by
 intro w a
 have k:∀z∈(["unknown","from","to","row","at","most","least"]:Y Str),jk z:=λz e=>by
  have:∀z∈(["unknown","from","to","row","at","most","least"]:Y Str),(L z).all (λc=>33<=c&&c<=126)=ū:=by lia
  show oG (this z e)
 cases f with
 |unk x l m=>
  cases m with
  |none=>
   simp only[cA,Kz,KR,LC]at a;rcases a with rfl|rfl|rfl|rfl
   ·show k _ (by simp)
   ·show pd h.1
   ·show k _ (by simp)
   ·show jd _
  |some m=>
   simp only[cA,Kz,KR,LC]at a;rcases a with rfl|rfl|rfl|rfl|rfl|rfl
   ·show k _ (by simp)
   ·show pd h.1
   ·show k _ (by simp)
   ·show jd _
   ·show k _ (by simp)
   ·show jd _
 |row ts b t=>
  rcases Kz.mp (show w∈("row":Str)::(aY ts++cW t b)from a)with rfl|a
  ·show k _ (by simp)
  rcases K6.mp a with a|a
  ·show rS h.1 w a
  ·simp only[cW,Kz,KR,LC]at a;rcases a with rfl|rfl|rfl
   ·show k _ (by simp)
   ·cases t<;>show k _ (by simp)
   ·show jd _
 |worth ts s=>
  rcases Kz.mp (show w∈(if s=1 then ("most":Str) else ("least":Str))::aY ts from a)with rfl|a
  ·split<;>show k _ (by simp)
  ·show rS h.1 w a
noncomputable def aP(f:Frm):Str:=Str.join " " (cA f)
theorem uy{f:Frm}(h:eI f):il (aP f)=Z f:=by
 unfold il aP
 have c:(" ":Str)=⟨#[32]⟩:=by decide
 have a:cA f≠[]:=by
  cases f with
  |unk x l m=>cases m<;>simp[cA]
  |row ts b t=>simp[cA]
  |worth ts s=>simp[cA]
 rw[c,oU a λw g e=>by have:=rM h w g 32 e;omega];show zx h
theorem sZ{c:Nat}{s:Str}:∀{ws:Y Str},c∈L (Str.join s ws)->c∈L s\/∃w∈ws,c∈L w
 | [],h=>by cases h
 | [x],h=>.inr ⟨x,Ku,h⟩
 |x::y::r,h=>by
  rw[jQ]at h;rcases K6.mp h with h|h
  ·show .inr ⟨x,Ku,h⟩
  ·rcases K6.mp h with h|h
   ·show .inl h
   ·rcases sZ h with h|⟨w,a,h⟩
    ·show .inl h
    ·show .inr ⟨w,Kt _ a,h⟩
theorem vz{f:Frm}(h:eI f):∀c∈L (aP f),32<=c/\c<=126:=λc a=>by
 rcases sZ a with a|⟨w,g,a⟩
 ·have e:L (" ":Str)=[32]:=by decide
  rw[e]at a;have:=KH.mp a;omega
 ·have:=rM h w g c a;omega
theorem ud{fs:Y Frm}(a:fs≠[])(h:∀f∈fs,eI f):Í (Str.join "\n" (fs.map aP)) "\n"=fs.map aP:=by
 have c:("\n":Str)=⟨#[10]⟩:=by decide
 rw[c];refine oU (by simpa using a) λw j e=>?_;let⟨f,g,rfl⟩:=KP.mp j;have:=vz (h f g) 10 e;omega
end Tx
namespace L2
open PySem PySem.Spec PyProof.Rows
theorem uR:∀l:Y (Str×ú),Vals ((l.map (·.1)).map V.str) (Ĝ l)
 | []=>.nil
 |(x,t)::l=>.cons ⟨t,S⟩ (uR l)
theorem wB(K:PySem.W.Frag)(c:Hp):∀a:Y Str,RpL K c (a.map D.str) (a.map V.str)
 | []=>.nil
 |z::a=>.cons (.str z) (wB K c a)
noncomputable def HX:V->Y V->Hp->VK->Prop:=λx vs H Q=>∃a b:Str,x=.str a/\vs=[.str b]/\(b.length==0)=Ŭ/\a.length+2<=sizeLine/\∀p,H p=ũ->Q (.ref p) (aq H p (.lst ((Í a b).map V.str)))
section
variable{X:Cx}
theorem Bu:jw X "str.split" HX:=by
 intro c s p H x vs v us Q I z y h;let⟨a,b,rfl,rfl,o,hsz,q⟩:=h;let⟨t,rfl⟩:=z;let⟨u,rfl,w⟩:=y.one;let⟨m,rfl⟩:=w
 have f:∀(l:Y (Str×ú))(k:Nat),l.map (·.1)=Í a b->EP X c p Q (.ref s.heap.objs.size) { s with heap:=s.heap.push { cls:=.type "list",data:=.seq (Ĝ l).toArray },toks:=k }:=λl k e=>by
  have j:H s.heap.objs.size=ũ:=I.hok.fresh (Kw _)
  have r:((Í a b).map V.str).length<=sizeLine:=by rw[wy];show K3 (split_le a b) hsz
  refine⟨.ref s.heap.objs.size,aq H s.heap.objs.size (.lst ((Í a b).map V.str)),I.laid (t':=k) (λb u e=>Ks _ e) (Kw _) ?_,S,q _ j⟩;show⟨r,Ĝ l,0,by rw[←e];show uR l,KJ _ S⟩
 have A:a.length<=sizeLine:=by omega
 have B:(Builtin.Str.partsBetween a (Builtin.Str.occurrences a b 0 a.length (a.length+1)) b.length).length<=sizeLine:=by
  rw[length_partsBetween];have:=StrLaws.occ_length_le a b 0 a.length (a.length+1);omega
 cases g:(decide (a.length<b.length) ||decide (Builtin.Str.strKind a<Builtin.Str.strKind b))
 ·cases j:(Builtin.Str.occurrences a b 0 a.length (a.length+1)).isEmpty
  ·refine Me OH (NN _ _ _) Oh (Oa _ _) (meets_str_split_sep a b t m g o j A B) ?_;change EP X c p Q _ { s with toks:=_,heap:=s.heap.push { cls:=.type "list",data:=.seq (strsFrom s.toks (Builtin.Str.partsBetween a (Builtin.Str.occurrences a b 0 a.length (a.length+1)) b.length)).toArray } };rw[strsFrom_eq];show f (numbered s.toks _) _ ((numbered_texts _ _).trans ((Kr (NX g)).trans (Kr (NX j))).symm)
  ·show Me OH (NN _ _ _) Oh (Oa _ _) (meets_str_split_not_found a b t m g o j)
    (f [(a,t)] s.toks ((Kr (NX g)).trans (Kq j)).symm)
 ·show Me OH (NN _ _ _) Oh (Oa _ _) (meets_str_split_cannot_occur a b t m g)
   (f [(a,t)] s.toks (Kq g).symm)
noncomputable def FZ:V->Y V->Hp->VK->Prop:=λx vs H Q=>∃a b:Str,x=.str a/\vs=[.str b]/\Q (.bl (î a b)) H
theorem Bj:jw X "str.startswith" FZ:=by intro c s l H x vs v us Q I g f h;let⟨a,b,rfl,rfl,q⟩:=h;let⟨t,rfl⟩:=g;let⟨u,rfl,e⟩:=f.one;let⟨j,rfl⟩:=e;show SC.startswith ⟨.bl _,H,I,S,q⟩
noncomputable def FF(K:PySem.W.Frag):V->Y V->Hp->VK->Prop:=λx vs H Q=>∃(a:Str)(p:Addr)(c:Y Str),x=.str a/\vs=[.ref p]/\SqL K H p (c.map V.str)/\JoinOk a c=ū/\Q (.str (ï a c)) H
theorem Ap:jw X "str.join" (FF X.K):=by intro a s z H x vs v us Q I j g h;let⟨m,p,y,rfl,rfl,c,hok,q⟩:=h;let⟨t,rfl⟩:=j;let⟨u,rfl,f⟩:=g.one;cases f;let⟨o,r,pl,w⟩:=I.list c;let⟨l,rfl,e⟩:=yG r;show SC.join pl.isList e hok λt' k=>⟨.str _,H,I.tok k,⟨t',S⟩,q⟩
end
section
variable{K:PySem.W.Frag}{X:Cx}{a b:Ã}{j tb:TD}{f m B:Õ}{A e:Ã}{t:TD}
noncomputable def GB(j tb:TD):bg:=λρ R=>j ρ λx=>∃s,x=.str s/\tb ρ λy=>∃c,y=.str c/\(c.length==0)=Ŭ/\s.length+2<=sizeLine/\R ((Í s c).map D.str)
theorem p8(I:PQ K X a j)(J:PD K X b tb)(C:((backTo m (starEach [b] X.env)).all (λx=>!x.1)&&(backToKw m (keywordEach [] X.env)).all (λx=>x.1.isSome)&&decide (([b]:Y Ã).length+([]:Y Ñ).length+(if ([]:Y Ñ).isEmpty then 0 else 1)<30))=ū)
  (v:starEach [b] X.env=(Ŭ,eval b X.env)::starEach [] X.env) (F:Æ a "split" X.env (eval a X.env)=eval a X.env:=by rfl) (G:(f.endLine==m.line)=ū:=by rfl):PF K X (.Call (.Attribute a "split" f) [b] [] m) (GB j tb):=
 ⟨λw=>(gY Nt PySem.F.slot_str_split PySem.F.type_str_split Bu (I.pe w) (dz (J.pe w) pa_nil v) F C G v ah).imp λσ H Q z=>by
  let⟨u,T,ρ,R,E,t,k⟩:=z;refine⟨u,T,ρ,_,E,t,λdx r a_ x o h O=>?_⟩;let⟨s,rfl,o⟩:=o;cases O.str;refine⟨S,u,r,ρ,_,E.gr h,o,λdy U aA y ap g P=>?_⟩;let⟨c,rfl,M,N,q⟩:=ap;obtain rfl:=P.s
  show⟨s,c,S,S,M,N,λp l=>k _ _ _ p _ q ((h.trans g).trans (.fresh g.s l _)) ((h.trans g).h.free l) (g.s.free l) bu (wB K _ _)⟩⟩
noncomputable def zR(j tb:TD):TD:=λρ R=>j ρ λx=>∃s,x=.str s/\tb ρ λy=>∃c,y=.str c/\R (.bl (î s c))
theorem Bb(F:PQ K X a j)(G:PD K X b tb)(v:((backTo m (starEach [b] X.env)).all (λx=>!x.1)&&(backToKw m (keywordEach [] X.env)).all (λx=>x.1.isSome)&&decide (([b]:Y Ã).length+([]:Y Ñ).length+(if ([]:Y Ñ).isEmpty then 0 else 1)<30))=ū)
  (o:starEach [b] X.env=(Ŭ,eval b X.env)::starEach [] X.env) (w:Æ a "startswith" X.env (eval a X.env)=eval a X.env:=by rfl) (z:(f.endLine==m.line)=ū:=by rfl):PD K X (.Call (.Attribute a "startswith" f) [b] [] m) (zR j tb):=
 ⟨λr=>(gY Nt PySem.F.slot_str_startswith PySem.F.type_str_startswith Bj (F.pe r) (dz (G.pe r) pa_nil o) w v z o ah).imp λaA H Q u=>by
  let⟨l,N,ρ,R,E,t,k⟩:=u;refine⟨l,N,ρ,_,E,t,λT h P x g p I=>?_⟩;let⟨s,rfl,g⟩:=g;cases I.str;refine⟨S,l,h,ρ,_,E.gr p,g,λU O ap y M C J=>?_⟩;let⟨c,rfl,q⟩:=M;obtain rfl:=J.s
  show⟨s,c,S,S,k _ _ _ _ q (p.trans C) (.bl _)⟩⟩
noncomputable def Cn(j tb:TD):TD:=λρ R=>j ρ λx=>∃c,x=.str c/\tb ρ λy=>∃g:Y Str,y=.lst (g.map D.str)/\JoinOk c g=ū/\R (.str (ï c g))
theorem kO(J:PQ K X a j)(M:PD K X b tb)(F:((backTo m (starEach [b] X.env)).all (λx=>!x.1)&&(backToKw m (keywordEach [] X.env)).all (λx=>x.1.isSome)&&decide (([b]:Y Ã).length+([]:Y Ñ).length+(if ([]:Y Ñ).isEmpty then 0 else 1)<30))=ū)
  (r:starEach [b] X.env=(Ŭ,eval b X.env)::starEach [] X.env) (G:Æ a "join" X.env (eval a X.env)=eval a X.env:=by rfl) (I:(f.endLine==m.line)=ū:=by rfl):PD K X (.Call (.Attribute a "join" f) [b] [] m) (Cn j tb):=
 ⟨λw=>(gY Nt PySem.F.slot_str_join PySem.F.type_str_join Ap (J.pe w) (dz (M.pe w) pa_nil r) G F I r ah).imp λσ H Q C=>by
  let⟨o,U,ρ,R,E,t,k⟩:=C;refine⟨o,U,ρ,_,E,t,λaA h a_ x g u O=>?_⟩;let⟨c,rfl,g⟩:=g;cases O.str;refine⟨S,o,h,ρ,_,E.gr u,g,λdy l z y ap v P=>?_⟩;let⟨T,rfl,hok,q⟩:=ap;let⟨p,vs,rfl,N,rl⟩:=(RpQ.lst v.s (.inl P));cases DO rl
  show⟨c,p,T,S,S,SqL.of N,hok,k _ l z _ q (u.trans v) (.str _)⟩⟩
noncomputable def Aq(g:Bool):cH:=λh l R=>∃(c:Nat)(y:Str),h=.str ⟨#[c]⟩/\l=.str y/\R (.bl (g != decide (c∈y.cps.toList)))
theorem vm:OpD K X (Ê .In) (Aq Ŭ):=⟨λM g s U H x y u v Q I w C l=>by
 let⟨F,G,J,R,E,o,p,⟨c,z,rfl,rfl,h⟩,r⟩:=l;cases o.str;cases p.str;let⟨N,rfl⟩:=w;let⟨O,rfl⟩:=C;refine P.in_str ⟨.bl _,H,I,S,?_⟩;rw[StrLaws.found_one]
 show r _ F H _ (by rw[MM]at h;show h) (.refl E) (.bl _)⟩
noncomputable def sD(x:Str):It:=⟨λi _=>i<x.cps.size,λi H v g=>g=H/\∃c,x.cps[i]?=Z c/\v=.str ⟨#[c]⟩,λi _=>x.cps.size<=i⟩
theorem Hr{P:Ä}{w:Å}{K:PySem.W.Frag}{A:Ã}(x:Str)(t:ú)(u:Addr):Turn P w K A (sD x) [u] u (λi h=>h.IsStrIter u "str_ascii_iterator" x t i) where
 mem:=by simp
 obj:=λi h st b l=>by
  have e:b=u:=by simpa using l
  subst e;let⟨o,e,c,d⟩:=st;show⟨o,e,λv z=>by rw[d]at z;cases z⟩
 keep:=λi h h' st k=>let ⟨o,ho,r⟩:=st;⟨o,k u (by simp) o ho,r⟩
 item:=by
  intro X O Q N ap i g s U H E I y st p;subst O Q N;have p:i<x.cps.size:=p;let⟨C,F,f2,G,J,M⟩:=y u (by simp)
  have T:x.cps[i]?=Z x.cps[i]:=by simp[p]
  refine wpAny_pyNext_ascii_item st T λh' R sb=>?_;have a_:Inv X g U H { s with heap:=h',toks:=s.toks+1 }:=I.turned (λb o l e=>(sb.2 b l).trans e) C F G J M;let⟨o,e,c,d⟩:=id R;show⟨_,S,mh (s:={ s with heap:=h',toks:=s.toks+1 }) e c d 'b' ⟨.str ⟨#[x.cps[i]]⟩,H,a_,⟨_,S⟩,⟨S,_,T,S⟩,R,λb l=>(y b l).1⟩⟩
 done:=by
  intro X O Q N ap i g s U H E I y st p;subst O Q N;have p:x.cps.size<=i:=p;let⟨C,F,f2,G,J,M⟩:=y u (by simp);show wpAny_pyNext_ascii_end (I.ok.hd ap) st (by simp[p]) λh' aA=>⟨S,I.turned (t':=s.toks) (λb o l e=>aA b o l e) C F G J M⟩
 self:=λ_ _ _ _ _ st h=>wpAny_pyIter_striter_ascii st h
noncomputable def zp(g:TE):TI:=λh H R=>g h H λx c=>∃z,x=.str z/\z.cps.all (·<128)=ū/\R (sD z) c
theorem Cu{l:Ã}{r:TE}(E:PE X l r):PI X A l (zp r):=by
 intro c s G H R I h;refine aE (E c s G H _ I h) λv g w=>?_;let⟨x,u,p,F,z,rfl,y,q⟩:=w;let⟨t,rfl⟩:=F;refine wpAny_pyIter_ascii y ?_;refine⟨g.heap.objs.size,[g.heap.objs.size],_,_,u,S,p.kept (t':=g.toks) λb o e=>Ks _ e,Hr z t _,⟨_,KJ _ S,S,S⟩,λb C=>?_,q⟩
 have e:b=g.heap.objs.size:=by simpa using C
 subst e;show p.fpOk (Kw _) (p.hok.fresh (Kw _))
noncomputable def tP(c:Nat):Str:=⟨#[c]⟩
noncomputable def lg(x:Str):Y D:=x.cps.toList.map λc=>D.str (tP c)
theorem Gx(o:Hp)(x:Str):SteadyD K (sD x) o (lg x):=by
 have h:(lg x).length=x.cps.size:=by unfold lg;rw[wy,Ly]
 refine⟨λi H s g=>(by rw[h]at g;show g),λi p H v r d u s hd y=>?_,λH s=>NM h.symm⟩;let⟨rfl,c,l,rfl⟩:=y;unfold lg at hd;rw[Kv,Nz,l]at hd;cases hd;show⟨_,.refl s,.str _⟩
noncomputable def AR(t:TD):bg:=λρ R=>t ρ λd=>∃x,d=.str x/\x.cps.all (·<128)=ū/\R (lg x)
theorem vG(h:PD K X e t):PID K X A e (AR t):=⟨λu=>(Cu (h.pe u)).imp λF H C p=>by
 let⟨l,z,ρ,R,E,t,k⟩:=p;refine⟨l,z,ρ,_,E,t,λd c o v r g y=>?_⟩;let⟨x,rfl,w,r⟩:=r;obtain rfl:=y.s
 show⟨x,S,w,k _ c o _ r g (Gx c x)⟩⟩
noncomputable def GO:cD:=λds R=>∃i:Int,ds=[.int i]/\i.natAbs<2^1900/\R (.str (Tx.nstr i))
theorem wJ{i:Int}(h:i.natAbs<2^1900):i.natAbs.log2<1920:=by
 by_cases c:i.natAbs=0
 ·rw[c];decide
 ·show Lb ((Nat.log2_lt c).mpr h) 'b'
noncomputable def HI:cD:=λds R=>∃(x:Str)(n:Int),ds=[.str x]/\x.length<=640/\intText? x=Z n/\R (.int n)
theorem Ge:CallD K X (.type "int") HI:=⟨λE c s F H xs us Q I w g=>by
 let⟨C,ds,R,z,l,⟨x,n,rfl,p,o,h⟩,k⟩:=g;let⟨v,rfl,r⟩:=fU l;cases r.str;let⟨u,rfl,y⟩:=w.one;let⟨t,rfl⟩:=y
 show PySem.W.KIN.call_text o p ⟨.int n,H,I.tok _,⟨_,S⟩,k _ C H _ h (.refl z) (.int n)⟩⟩
theorem hJ:CallD K X (.type "str") GO:=⟨λz c s C H xs us Q I p g=>by
 let⟨y,ds,R,x,l,⟨i,rfl,o,h⟩,k⟩:=g;let⟨v,rfl,r⟩:=fU l;cases r.int;let⟨u,rfl,w⟩:=p.one;let⟨t,rfl⟩:=w
 show P.str_of_int (wJ o) ⟨.str _,H,I.tok _,⟨_,S⟩,k _ y H _ h (.refl x) (.str _)⟩⟩
theorem xo{x y:Str}{c:ú}(h:Gl X x)(l:X.mg x=Z (.str y c))(hd:ad x:=by decide):PD K X (.Name x B) (uD (.str y)):=
 ⟨λr=>(vw (v:=.str y) h l ⟨c,S⟩ hd).imp λu H Q g=>by
  let⟨p,o,ρ,R,E,t,k⟩:=g
  show k _ o H _ t (.refl E.fz) (.str y)⟩
end
noncomputable abbrev gP:=bM->(Str->Prop)->Prop
structure PJ(K:PySem.W.Frag)(X:Cx)(e:Ã)(t:gP):Prop where
 pj:X.K=K->∀(pins:List (Addr×Ï))(s:À)(σ:St)(H0 Φ H:Hp)(ρ:bM)(R:Str->Prop)(Q:Str->Hp->Prop),Inv X pins σ H s->EnvD K H0 Φ H σ ρ->t ρ R->(∀y Φ' H',R y->Gr Φ H Φ' H'->Q y H')->
  wpAny (model X.prog X.w) X.A (eval e X.env) (λv s1=>∃y tk Φ' H',v=.str y tk/\Inv X pins σ H' s1/\Gr Φ H Φ' H'/\R y/\Q y H') X.xe s
structure PJs(K:PySem.W.Frag)(X:Cx)(es:List Ã)(t:gP):Prop where
 pj:X.K=K->∀(pins:List (Addr×Ï))(s:À)(σ:St)(H0 Φ H:Hp)(ρ:bM)(R:Str->Prop)(Q:VK)(out:Str),Inv X pins σ H s->EnvD K H0 Φ H σ ρ->t ρ R->out.length+1000000*es.length<=sizeLine->(∀y Φ' H',R y->Gr Φ H Φ' H'->Q (.str (out++y)) H')->
  wpAny (model X.prog X.w) X.A (joinParts out (evalEach es X.env)) (EP X pins σ Q) X.xe s
section
variable{K:PySem.W.Frag}{X:Cx}{e l:Ã}{es:Y Ã}{c:Õ}{t u:gP}{f:TD}
noncomputable def jC(x:Str):gP:=λ_ R=>R x
theorem gC{x:Str}{j}:PJ K X (.Constant (.str x) j c) (jC x):=⟨λB a s z A m H ρ R Q I E h k=>by
 refine L0 (xj a s z H (λv o=>v=.str x/\o=H) I ⟨S,S⟩) (λv C r=>?_) λ_ _ h=>h;let⟨F,g,p,w,rfl,rfl⟩:=r;let⟨y,rfl⟩:=w
 show⟨x,y,m,g,S,p,.refl E.fz,h,k _ m g h (.refl E.fz)⟩⟩
noncomputable def jV(t:TD):gP:=λρ R=>t ρ λd=>match d with|.str x=>x.length<=1000000/\R x|.int i=>i.natAbs<2^1900/\R (Tx.nstr i)|_=>False
theorem gk(h:PD K X e f):PJ K X (.FormattedValue e (-1) ũ c) (jV f):=⟨λF m s M B A H ρ R Q I E G k=>by
 refine FormattedValue_plain (aE (h.pe F m s M H (λv w=>∃d a,Gr A H a w/\Rp K a d v/\(match d with|.str x=>x.length<=1000000/\R x|.int i=>i.natAbs<2^1900/\R (Tx.nstr i)|_=>False)) I ⟨B,A,ρ,_,E,G,λd a w v r g p=>⟨d,a,g,p,r⟩⟩) λv O C=>?_);let⟨P,o,y,p,d,j,g,z,r⟩:=C
 cases d with
 |str x=>
  obtain rfl:=z.s;let⟨J,rfl⟩:=p;show formatField_str (λt' N=>⟨x,t',j,o,S,y.tok _,g,r.2,k _ j o r.2 g⟩) (by have:=r.1;have:=LD;omega)
 |int i=>
  obtain rfl:=z.i;let⟨J,rfl⟩:=p;show formatField_int_small (wJ r.1) ⟨Tx.nstr i,_,j,o,S,y.tok _,g,r.2,k _ j o r.2 g⟩
 |_=>show r.elim⟩
noncomputable def GE(t:gP):gP:=λρ R=>t ρ λy=>y.length<=1000000/\R y
noncomputable def Eg(t u:gP):gP:=λρ R=>t ρ λy=>y.length<=1000000/\u ρ λz=>R (y++z)
theorem gf(a b:Str):(a++b).length=a.length+b.length:=by change (a.cps++b.cps).size=a.cps.size+b.cps.size;rw[Array.size_append]
theorem jK(h:PJ K X e t):PJs K X [e] (GE t):=⟨λz m s G w F H ρ R Q j I E C B k=>by
 refine joinParts_cons (L0 (h.pj z m s G w F H ρ _ (λy a=>y.length<=1000000/\Q (.str (j++y)) a) I E C λy o a r g=>⟨r.1,k y o a r.2 g⟩) (λv M A=>?_) λ_ _ h=>h);let⟨y,N,o,a,rfl,x,g,r,J,q⟩:=A
 have p:(j++y).length<=sizeLine:=by rw[gf];simp only[KA,LF]at B;omega
 show⟨p,joinParts_nil ⟨.str _,a,x.tok _,⟨_,S⟩,q⟩ p⟩⟩
theorem eE(h:PJ K X e t)(M:PJs K X es u):PJs K X (e::es) (Eg t u):=⟨λw a s x p T H ρ R Q j I E O N k=>by
 refine joinParts_cons (L0 (h.pj w a s x p T H ρ _ (λ_ _=>True) I E O λ_ _ _ _ _=>trivial) (λv ap J=>?_) λ_ _ h=>h);let⟨y,aA,m,A,rfl,C,g,⟨U,r⟩,_⟩:=J;rw[KA]at N
 have G:(j++y).length<=sizeLine:=by rw[gf];omega
 refine⟨G,M.pj w a ap x p m A ρ _ Q (j++y) C (E.gr g) r (by rw[gf];omega) λz o B P F=>?_⟩;rw[PySem.Str.append_assoc]
 show k (y++z) o B P (g.trans F)⟩
noncomputable def JF(t:gP):TD:=λρ R=>t ρ λy=>R (.str y)
theorem ko(h:PJs K X (e::l::es) t)(w:Nat.ble es.length 10=ū:=by rfl):PD K X (.JoinedStr (e::l::es) c) (JF t):=⟨λv a s z H Q I p=>by
 let⟨o,x,ρ,R,E,t,k⟩:=p;refine JoinedStr_many ?_;refine h.pj v a s z o x H ρ _ Q Str.empty I E t ?_ λy j m r g=>?_
 ·have:=OX w;have:=LD;simp only[KA];change 0+_<=_;omega
 ·rw[PySem.Str.empty_append]
  show k _ j m _ r g (.str y)⟩
end
noncomputable def qD(lo st:Int)(n:Nat):It:=⟨λi _=>i<n,λi H x a=>a=H/\x=.int (lo+i*st),λi _=>n<=i⟩
theorem zg{P:Ä}{w:Å}{K:PySem.W.Frag}{R:Ã}(a:Addr)(lo st:Int)(n:Nat):Turn P w K R (qD lo st n) [a] a (λi h=>ă h a (lo+(i:Nat)*st) ((n:Int)-(i:Nat)) st) where
 mem:=by simp
 obj:=λi h st b f=>by
  have e:b=a:=by simpa using f
  subst e
  show⟨_,st,λv z=>by
   have U:Data.fields _=Data.cell v:=z
   cases U⟩
 keep:=λi h h' st k=>k a (by simp) _ st
 item:=by
  intro X y C x A i c s G H E I j g B;subst y C x;let⟨l,m,N,p,r,u⟩:=j a (by simp);have W:=œ (prog:=X.prog) (w:=X.w) (I.ok.hd A) a lo st n;refine W.item i s _ _ B g λv h' F O g Q=>?_;let⟨t,rfl⟩:=O;have J:Inv X c G H { s with heap:=h',toks:=F }:=I.turned (λb o f e=>Q b o (by simpa using f) e) l m p r u;show⟨_,S,mh (s:={ s with heap:=h',toks:=F }) (n:="range_iterator") g S S 'b' ⟨.int (lo+i*st),H,J,⟨t,S⟩,⟨S,S⟩,g,λb f=>(j b f).1⟩⟩
 done:=by intro X y C x A i c s G H E I j st B;subst y C x;let⟨l,m,N,p,r,u⟩:=j a (by simp);show Ĩ (I.ok.hd A) st (by have:n<=i:=B;omega) λh' M=>⟨S,I.turned (t':=s.toks) (λb o f e=>M b o f e) l m p r u⟩
 self:=λ_ _ _ _ _ st h=>Ī st h
noncomputable def fY(lo a st:Int):Nat:=((a-lo+st-1)/st).toNat
noncomputable def iX(lo a st:Int):Y D:=(List.range (fY lo a st)).map λ(i:Nat)=>D.int (lo+(i:Int)*st)
section
variable{K:PySem.W.Frag}{X:Cx}{f:Ã}
noncomputable def D2(c:TA):TI:=λe H R=>c e H λvs a=>∃i j k:Int,vs=[.int i,.int j,.int k]/\(-(2^61)<=i/\i<2^61/\-(2^61)<=j/\j<2^61/\0<k/\k<=1000)/\R (qD i k (fY i j k)) a
theorem DE{i j k:Int}(e:0<k):Builtin.Range.rangeSize i j k=(fY i j k:Int):=by
 unfold Builtin.Range.rangeSize fY;rw[Kq e];by_cases c:i<j
 ·rw[Kq c,show j-i+k-1=(j-i-1)+1*k by omega,Int.add_mul_ediv_right _ _ ()];have:=Int.ediv_nonneg (a:=j-i-1) (b:=k) () ();omega
 ·rw[Kr c];have:(j-i+k-1)/k<1:=Int.ediv_lt_of_lt_mul e ();omega
theorem GH{i j k:Int}(h:-(2^61)<=i/\i<2^61/\-(2^61)<=j/\j<2^61/\0<k/\k<=1000):Builtin.Range.small i j k=ū:=by
 have c:=Int.ediv_nonneg (a:=j-i-1) (b:=k);have e:=Int.ediv_le_self k (a:=j-i-1);unfold Builtin.Range.small Builtin.Range.rangeSize;rw[Kq (show k>0 by omega),Kq (show k>0 by omega)];simp only[Builtin.Range.rangeFitsLong,KQ,NU,Lj,MW];split<;>omega
theorem Gc{a b c:Ã}{z:TA}{p l:Õ}(J:Gl X "range")(M:X.mg "range"=ũ)(G:PA X [a,b,c] z)(N:starEach [a,b,c] X.env=[(Ŭ,eval a X.env),(Ŭ,eval b X.env),(Ŭ,eval c X.env)]:=by rfl)(y:starEach [b,c] X.env=[(Ŭ,eval b X.env),(Ŭ,eval c X.env)]:=by rfl) :
  PI X f (.Call (.Name "range" p) [a,b,c] [] l) (D2 z):=by
 intro g s A H R I h;refine Call_ (iF I J M boot_range (L5 (aE (G l g s A H _ I h) λus v C=>?_) (by rw[N,y]) (by rw[y];rfl)));let⟨vs,x,B,P,i,j,k,e,u,q⟩:=C;subst e
 cases P with
 |cons r m=>
  cases m with
  |cons O m=>
   cases m with
   |cons Q m=>
    cases m;let⟨t,rfl⟩:=r;let⟨t',rfl⟩:=O;let⟨U,rfl⟩:=Q;refine call_range_3 () ?_ (.inl (PyProof.noPylong_small ()));have w:Inv X g A x { v with heap:=v.heap.push { cls:=.type "range",data:=.fields #[.int i t,.int j t',.int k U] },toks:=v.toks }:=B.kept λb o e=>Ks _ e;refine Ň (Ņ ..) (GH u) ?_;refine⟨_,[_],_,_,x,S,w.kept (t':=v.toks) λb o e=>Ks _ e,zg _ i k (fY i j k),?_,λb u=>?_,q⟩
    ·have E:i+((0:Nat):Int)*k=i:=by simp
     have F:((fY i j k:Nat):Int)-((0:Nat):Int)=Builtin.Range.rangeSize i j k:=by rw[DE u.2.2.2.2.1];omega
     change ă _ _ (i+((0:Nat):Int)*k) (((fY i j k:Nat):Int)-((0:Nat):Int)) k;rw[E,F];show KJ _ S
    ·have e:=KH.mp u;subst e;show w.fpOk (Kw _) (w.hok.fresh (Kw _))
theorem Hb{l:Hp}{i j k:Int}{vs:Y V}(r:RpL K l [.int i,.int j,.int k] vs):vs=[.int i,.int j,.int k]:=by
 match vs,r with
 | [a,b,c],r=>
  have e:=r.2 0 a _ S S;have g:=r.2 1 b _ S S;have h:=r.2 2 c _ S S;obtain rfl:=e.i;obtain rfl:=g.i;obtain rfl:=h.i;rfl
 | [],r=>cases r.1
 | [_],r=>cases r.1
 | [_,_],r=>cases r.1
 |_::_::_::_::_,r=>cases r.1
theorem BP(g:Hp)(lo a st:Int):SteadyD K (qD lo st (fY lo a st)) g (iX lo a st):=by
 have c:(iX lo a st).length=fY lo a st:=by unfold iX;rw[wy,Lm]
 refine⟨λi H s a=>(by rw[c]at a;show a),λi j H v l d o s hd y=>?_,λH s=>NM c.symm⟩;let⟨rfl,rfl⟩:=y;unfold iX at hd;rw[Kv]at hd
 cases h:(List.range (fY lo a st))[i]? with
 |none=>rw[h]at hd;cases hd
 |some k=>
  rw[h]at hd;cases hd;let⟨m,e⟩:=Lr.mp h;rw[List.getElem_range]at e;subst e;show⟨_,.refl s,.int _⟩
noncomputable def B8(t:bg):bg:=λρ R=>t ρ λds=>∃i j k:Int,ds=[.int i,.int j,.int k]/\(-(2^61)<=i/\i<2^61/\-(2^61)<=j/\j<2^61/\0<k/\k<=1000)/\R (iX i j k)
theorem IQ{a b c:Ã}{m:bg}{p l:Õ}(A:Gl X "range")(B:X.mg "range"=ũ)(y:PAD K X [a,b,c] m)(C:starEach [a,b,c] X.env=[(Ŭ,eval a X.env),(Ŭ,eval b X.env),(Ŭ,eval c X.env)]:=by rfl)(w:starEach [b,c] X.env=[(Ŭ,eval b X.env),(Ŭ,eval c X.env)]:=by rfl) :
  PID K X f (.Call (.Name "range" p) [a,b,c] [] l) (B8 m):=⟨λx=>(Gc A B (y.pa x) C w).imp λJ H G v=>by
 let⟨o,F,ρ,R,E,t,k⟩:=v;refine⟨o,F,ρ,_,E,t,λds h u vs r g rl I=>?_⟩;let⟨i,j,st,rfl,z,r⟩:=r;have e:=Hb rl;subst e
 show⟨i,j,st,S,z,k _ h u _ r g (BP h i j st)⟩⟩
noncomputable def qe(T:String):Bool:=T == "tuple" ||T == "str"
noncomputable def FO:Y V->Hp->VK->Prop:=λvs H Q=>∃x T b,vs=[x,.ty T]/\(IsiV K H x T b\/(x=.non/\qe T=ū/\b=Ŭ))/\Q (.bl b) H
theorem IA(o:X.K=K):fM X (.builtin "isinstance") (FO (K:=K)):=by
 intro a s m H xs us Q I r h;obtain⟨x,T,b,rfl,p|⟨rfl,l,rfl⟩,q⟩:=h
 ·show xW o a s m H _ us Q I r ⟨x,T,b,S,p,q⟩
 let⟨u,v,rfl,w,j⟩:=yf r;have j:v=.type T:=j;subst j;cases w;have g:∀(c:Bool)(t:Nat),Q (.bl c) H->EP X a m Q (.bool c) { s with toks:=t }:=λc t q=>⟨.bl c,H,I.tok t,S,q⟩;unfold qe at l;rcases NU _ _▸l with e|e
 ·rw[eq_of_beq e];show IsiPair.NoneType_tuple (g _ _ q)
 ·rw[eq_of_beq e];show IsiPair.NoneType_str (g _ _ q)
noncomputable def u0(d:D)(T:String):Ū Bool:=match d with
 |.non=>if qe T then Z Ŭ else ũ
 |d=>su d T
noncomputable def AH(T:String)(t:TD):TD:=λρ R=>t ρ λd=>∃r,u0 d T=Z r/\R (.bl r)
theorem jL{T:String}{j:Str}{p h:Õ}{a:Ã}{t:TD}{m:Õ}(F:Gl X "isinstance")(G:X.mg "isinstance"=ũ)(C:PQ K X a t)(B:PE X (.Name j h) (tC (.ty T)))
  (x:starEach [a,.Name j h] X.env=(Ŭ,eval a X.env)::starEach [.Name j h] X.env) (u:starEach [.Name j h] X.env=(Ŭ,eval (.Name j h) X.env)::starEach [] X.env):PD K X (.Call (.Name "isinstance" p) [a,.Name j h] [] m) (AH T t):=
 ⟨λw=>(qK (IA w) F G ŧ (dz (C.pe w) (dz B pa_nil u) x) 'b' 'b' x (aG u ah)).imp λM H Q A=>by
  let⟨z,J,ρ,R,E,t,k⟩:=A
  show⟨z,J,ρ,_,E,t,λd l o v r g y=>by
   let⟨I,e,r⟩:=r
   cases d with
   |non=>
    cases y.non;unfold u0 at e;by_cases c:qe T=ū
    ·rw[Kq c]at e;cases e;show⟨.non,T,Ŭ,S,.inr ⟨S,c,S⟩,k _ l o _ r g (.bl _)⟩
    ·rw[Kr c]at e;cases e
   |_=>show⟨v,T,I,S,.inl (wO g.s y e),k _ l o _ r g (.bl _)⟩⟩⟩
end
end L2
open PySem
namespace L2
end L2
namespace L2
open PySem PySem.Spec PyProof.Rows
section
variable{K:PySem.W.Frag}{X:Cx}{e a:Ã}{x:Str}
noncomputable def n0:Ū Int->D
 |none=>.non
 |some i=>.int i
noncomputable def mP:Ū Int->V
 |none=>.non
 |some i=>.int i
theorem J4{j:Hp}{xs:Y (Ū Int)}{vs:Y V}(r:RpL K j (xs.map n0) vs):vs=xs.map mP:=by
 refine LA λi=>?_;rw[Kv]
 cases h:xs[i]? with
 |none=>
  have g:=L3.mp h;show Lc (by rw[r.1,wy];show g)
 |some o=>
  have c:=aZ h;have f:vs[i]?=Z (vs[i]'(by rw[r.1,wy];show c)):=bA _;have q:=r.2 i _ (n0 o) f (by rw[Kv,h];rfl);rw[f];generalize vs[i]'(by rw[r.1,wy];show c)=v at q
  cases o with
  |none=>obtain rfl:=q.n;rfl
  |some n=>obtain rfl:=q.i;rfl
noncomputable def HP:cH:=λc f R=>∃(xs:Y (Ū Int)),c=.non/\gw f=Z (xs.map n0)/\R (.bl (decide (ũ∈xs)))
theorem Jo:OpD K X (Ê .In) HP:=⟨λm c s G H x y u v Q I C E g=>by
 let⟨F,J,M,R,f,t,w,⟨xs,rfl,e,h⟩,B⟩:=g;cases t.non;let⟨a,vs,rfl,q,rl⟩:=w.seq f e;cases J4 rl;refine um c s G H _ _ u v Q I C E ⟨a,_,S,by rw[m];show q,S,?_,?_⟩
 ·rw[KZ];intro z A;let⟨j,_,rfl⟩:=KP.mp A;cases j<;>rfl
 ·have l:(if Ŭ=ū then !fS .non (xs.map mP) else fS .non (xs.map mP))=decide (ũ∈xs):=by
   change fS .non (xs.map mP)=_;unfold fS;rw[OB,Mf,Nx,Lj];constructor
   ·rintro⟨o,r,p⟩
    cases o with
    |none=>show r
    |some n=>cases p
   ·intro h;show⟨ũ,h,S⟩
  rw[l]
  show B _ F H _ h (.refl f) (.bl _)⟩
end
section
variable{K:PySem.W.Frag}{X:Cx}{e:Ã}{c a:TD}
noncomputable def sH(c a:TD):TD:=λρ R=>c ρ R\/a ρ R
theorem zq(m:PD K X e c)(o:PD K X e a):PD K X e (sH c a):=⟨λh f s l H Q I p=>by
 let⟨g,j,ρ,R,E,t,k⟩:=p;rcases t with t|t
 ·show m.pe h f s l H Q I ⟨g,j,ρ,R,E,t,k⟩
 ·show o.pe h f s l H Q I ⟨g,j,ρ,R,E,t,k⟩⟩
end
noncomputable def sO(z:b7):b7:=λas R _=>z as R λ_ _=>False
theorem MthMX.calm{P:Ä}{w:Å}{K:PySem.W.Frag}{mg:Str->Ū Value}{base:Heap}{n:Nat}{C:Addr}{m:Str}{ps:Y Str}{z:b7}(M:MthMX P w K mg base n C m ps z):MthM P w K mg base n C m ps (sO z):=by
 let⟨f,c,F,b,h⟩:=M.ex
 have conv:∀{vs:Y L2.V}{H:Hp}{Q:VK}{E:XK},lSpM K (sO z) vs H Q E->lSpMX K mg z vs H Q λ_ _ _=>False:=λ{vs H Q E} h=>by let⟨u,as,a,R,v,t,tb,g,nd,o,h,k⟩:=h;show⟨u,as,a,R,λ_ _=>False,t,tb,g,nd,o,h,k,λ_ _ _ _ _ _ _ h=>h.elim⟩
 refine⟨f,c,⟨λvs H Q E h=>F.len _ _ _ _ (conv h),λA outer s H args us vs Q E p l j r h=>MR (F.run A outer s H args us vs Q _ p l j r (conv h)) λres s' q=>?_⟩,b,h⟩
 cases res with
 |error e=>
  let⟨_,_,_,_,_,_,_,_,_,_,_,_,_,q⟩:=q;show q.elim
 |ok fl=>cases fl<;>show q
end L2
namespace Kx
open PySem L2
section
local macro_rules|`(tactic|rfl')=>`(tactic|dsimp only[aW,aS,aN,aU,ba,aX,bf,List.set])
variable{P:Ä}{w:Å}{K:PySem.W.Frag}{mg:Str->Ū Value}{base:Heap}{n:Nat}{f:Addr}{G:Ë}
noncomputable def top(i:Nat):Ç:=PySem.Challenge.pw_cutyard_k75_written_and_told_again.main.body.getD i (.Pass ⟨0,0,0,0⟩)
noncomputable abbrev kM:Ç:=top 20
theorem Ah:FnScope ["row"] ["row"] (aF kM):=by ac_rfl
noncomputable abbrev lD:Ç:=top 98
theorem JV:FnScope ["word"] ["word"] (aF lD):=by ac_rfl
noncomputable abbrev lJ:Ç:=top 99
theorem qaw:FnScope ["word","figures"] ["word"] (aF lJ):=by ac_rfl
noncomputable abbrev n5:Ç:=top 100
theorem qaC:FnScope ["words","terms","place","number","name"] ["words"] (aF n5):=by ac_rfl
noncomputable abbrev mS:Ç:=top 101
theorem qaD:FnScope ["words","least","most"] ["words"] (aF mS):=by ac_rfl
noncomputable abbrev nQ:Ç:=top 102
theorem qaz:FnScope ["words","terms","number"] ["words"] (aF nQ):=by ac_rfl
noncomputable abbrev oh:Ç:=top 103
theorem qaI:FnScope ["words","terms"] ["words"] (aF oh):=by ac_rfl
noncomputable abbrev mO:Ç:=top 104
theorem qav:FnScope ["line","words"] ["line"] (aF mO):=by ac_rfl
noncomputable abbrev pT:Ç:=top 105
theorem qaB:FnScope ["terms","names","at","entries","came","number","name"] ["terms","names","at"] (aF pT):=by ac_rfl
noncomputable abbrev mm:Ç:=top 106
theorem HR:FnScope ["entries"] ["entries"] (aF mm):=by ac_rfl
noncomputable abbrev mV:Ç:=top 108
theorem qay:FnScope ["text","reading","lines","place","line","goal","sense","plan"] ["text"] (aF mV):=by ac_rfl
noncomputable abbrev nV:Ç:=top 109
theorem qaM:FnScope ["name","bounds","least","most"] ["name","bounds"] (aF nV):=by ac_rfl
noncomputable abbrev md:Ç:=top 110
theorem qaL:FnScope ["names","entries","terms"] ["names","entries"] (aF md):=by ac_rfl
noncomputable abbrev oW:Ç:=top 111
theorem qaK:FnScope ["names","row","total","bound"] ["names","row"] (aF oW):=by ac_rfl
noncomputable abbrev oY:Ç:=top 112
theorem qaN:FnScope ["names","goal","sense","total"] ["names","goal","sense"] (aF oY):=by ac_rfl
noncomputable abbrev j5:Ç:=top 113
theorem qaJ:FnScope ["names","plan","sense","lines"] ["names","plan","sense"] (aF j5):=by ac_rfl
noncomputable abbrev mv:Ç:=top 115
theorem qaF:FnScope ["state","name","bounds","names","plan","rows"] ["state","name","bounds"] (aF mv):=by ac_rfl
noncomputable abbrev pX:Ç:=top 116
theorem qaE:FnScope ["state","terms","number","at_most","plan","row","rows"] ["state","terms","number","at_most"] (aF pX):=by ac_rfl
noncomputable abbrev nJ:Ç:=top 117
theorem qaG:FnScope ["state","terms","sense","plan","goal"] ["state","terms","sense"] (aF nJ):=by ac_rfl
noncomputable abbrev oV:Ç:=top 118
theorem qaH:FnScope ["state","number","plan"] ["state","number"] (aF oV):=by ac_rfl
noncomputable abbrev p9:Ç:=top 119
theorem Hd:FnScope ["state","form"] ["state","form"] (aF p9):=by ac_rfl
noncomputable abbrev lB:Ç:=top 124
theorem qax:FnScope ["words","numbers"] ["words"] (aF lB):=by ac_rfl
noncomputable abbrev oP:Ç:=top 125
theorem qaA:FnScope ["line","n","words","numbers"] ["line","n"] (aF oP):=by ac_rfl
noncomputable abbrev pF:Ç:=top 128
theorem qaj:FnScope ["_law_script","_law_at","_law_rest"] ["_law_script","_law_at"] (aF pF):=by ac_rfl
noncomputable abbrev oz:Ç:=top 129
theorem qah:FnScope ["_law_pool_here","_law_size","_law_drawn","_law_cell","_law_stir"] ["_law_pool_here","_law_size"] (aF oz):=by ac_rfl
noncomputable abbrev mj:Ç:=top 130
theorem qam:FnScope ["_law_told","_law_due","_law_one","_law_other"] ["_law_told","_law_due"] (aF mj):=by ac_rfl
noncomputable abbrev nX:Ç:=top 131
theorem qag:FnScope ["_law_pool_here","_law_count","_law_letters","_law_way","_law_turn","_law_at","_law_names_here","_law_k","_law_some"] ["_law_pool_here","_law_count"] (aF nX):=by ac_rfl
noncomputable abbrev n6:Ç:=top 132
theorem qai:FnScope ["_law_pool_here","_law_way"] ["_law_pool_here"] (aF n6):=by ac_rfl
noncomputable abbrev kP:Ç:=top 133
theorem qap:FnScope ["_law_pool_here","_law_names_here","_law_free","_law_entries","_law_terms_here","_law_k","_law_at"] ["_law_pool_here","_law_names_here"] (aF kP):=by ac_rfl
noncomputable abbrev ky:Ç:=top 134
theorem qat:FnScope ["_law_pool_here","_law_state","_law_name","_law_names_here","_law_bounds","_law_rows","_law_goal","_law_sense","_law_least","_law_most","_law_line","_law_wider"] ["_law_pool_here","_law_state","_law_name"] (aF ky):=by ac_rfl
noncomputable abbrev lj:Ç:=top 135
theorem qak:FnScope ["_law_pool_here","_law_state","_law_way","_law_names_here","_law_bounds","_law_rows","_law_goal","_law_sense","_law_text_here","_law_entries","_law_bound","_law_line","_law_row"] ["_law_pool_here","_law_state","_law_way"] (aF lj):=by ac_rfl
noncomputable abbrev mf:Ç:=top 136
theorem qan:FnScope ["_law_pool_here","_law_state","_law_names_here","_law_bounds","_law_rows","_law_goal","_law_sense","_law_way","_law_text_here","_law_entries","_law_turns"] ["_law_pool_here","_law_state"] (aF mf):=by ac_rfl
noncomputable abbrev pI:Ç:=top 137
theorem qaq:FnScope ["_law_pool_here","_law_state","_law_names_here","_law_bounds","_law_rows","_law_goal","_law_sense","_law_number_here","_law_line"] ["_law_pool_here","_law_state"] (aF pI):=by ac_rfl
noncomputable abbrev nq:Ç:=top 138
theorem qae:FnScope ["_law_pool_here","_law_words","_law_state","_law_past","_law_way"] ["_law_pool_here","_law_words","_law_state","_law_past"] (aF nq):=by ac_rfl
noncomputable abbrev mX:Ç:=top 139
theorem qar:FnScope ["_law_names_here","_law_entries","_law_turns","_law_terms_here","_law_name","_law_entry"] ["_law_names_here","_law_entries","_law_turns"] (aF mX):=by ac_rfl
noncomputable abbrev nZ:Ç:=top 140
theorem qas:FnScope ["_law_state","_law_names_here","_law_bounds","_law_rows","_law_goal","_law_sense","_law_lines","_law_name","_law_pair","_law_line","_law_row"] ["_law_state"] (aF nZ):=by ac_rfl
noncomputable abbrev oM:Ç:=top 141
theorem qal:FnScope ["_law_desk","_law_line","_law_seen","_law_told","_law_at","e"] ["_law_desk","_law_line"] (aF oM):=by ac_rfl
noncomputable abbrev px:Ç:=top 142
theorem qao:FnScope ["_law_desk","_law_state","_law_seen","_law_told"] ["_law_desk","_law_state"] (aF px):=by ac_rfl
noncomputable abbrev oX:Ç:=top 143
theorem qaf:FnScope ["_law_pool_here","_law_desk","_law_words","_law_state","_law_past","_law_many","_law_k","_law_line","_law_due","_law_later"] ["_law_pool_here","_law_desk","_law_words","_law_state","_law_past","_law_many"] (aF oX):=by ac_rfl
noncomputable abbrev nU:Ç:=top 144
theorem qad:FnScope ["_law_pool_here","_law_desk","_law_words","_law_state","_law_past","_law_many","_law_rows","_law_k","_law_line","_law_due","_law_later"] ["_law_pool_here","_law_desk","_law_words"] (aF nU):=by ac_rfl
noncomputable abbrev oR:Ç:=top 145
theorem qau:FnScope ["_law_script","_law_pool_here","_law_words","_law_desk","_law_state","_law_text_here","_law_names_here","_law_bounds","_law_rows","_law_goal","_law_sense","_law_other","_law_line","_law_own","_law_k","_law_due","_law_later"] ["_law_script"] (aF oR):=by ac_rfl
noncomputable abbrev nY:Ç:=fQ (top 107) 0
theorem zj:FnScope ["self"] ["self"] (aF nY):=by ac_rfl
noncomputable abbrev og:Ç:=fQ (top 107) 1
theorem qab:FnScope ["self","line","at","form"] ["self","line","at"] (aF og):=by ac_rfl
noncomputable abbrev mL:Ç:=fQ (top 107) 2
theorem JL:FnScope ["self","form","at"] ["self","form","at"] (aF mL):=by ac_rfl
noncomputable abbrev pG:Ç:=fQ (top 107) 3
theorem qac:FnScope ["self","form","at","entries","row"] ["self","form","at"] (aF pG):=by ac_rfl
noncomputable abbrev oZ:Ç:=fQ (top 126) 0
theorem C8:FnScope ["self"] ["self"] (aF oZ):=by ac_rfl
noncomputable abbrev oC:Ç:=fQ (top 126) 1
theorem qaa:FnScope ["self","line","form"] ["self","line"] (aF oC):=by ac_rfl
noncomputable abbrev oB:Ç:=fQ (top 126) 2
theorem Iy:FnScope ["self","state"] ["self","state"] (aF oB):=by ac_rfl
noncomputable abbrev nj:Ç:=fQ (top 126) 3
theorem G6:FnScope ["self"] ["self"] (aF nj):=by ac_rfl
structure TxtReading(K:PySem.W.Frag)(mg:Str->Option Value)(C:Addr):Prop where
 cl:Cls K C
 n_names:NoAttr K C "names"
 n_bounds:NoAttr K C "bounds"
 n_rows:NoAttr K C "rows"
 n_worth:NoAttr K C "worth"
 mgC:mg "Reading"=Z (.ref C)
 ns:PySem.W.nsIn K Á "Reading"=Z (Z (.ref C))
structure TxtDesk(K:PySem.W.Frag)(mg:Str->Option Value)(C:Addr):Prop where
 cl:Cls K C
 n_state:NoAttr K C "state"
 n_states:NoAttr K C "states"
 mgC:mg "Desk"=Z (.ref C)
 ns:PySem.W.nsIn K Á "Desk"=Z (Z (.ref C))
noncomputable def p7:Y Str:=["YardError","NoNumber","NoName","Twice","TooGreat","NoText","NoRow","NoChange"]
noncomputable def jq:Str->Str->Bool:=λa b=>a==b ||b == "YardError"
noncomputable abbrev Bo:Ç:=fQ (top 3) 0
noncomputable abbrev k7:Ç:=fQ (top 4) 0
theorem IK:FnScope ["self","at"] ["self","at"] (aF k7):=by ac_rfl
noncomputable abbrev ly:Ç:=fQ (top 5) 0
theorem HL:FnScope ["self","at"] ["self","at"] (aF ly):=by ac_rfl
noncomputable abbrev lV:Ç:=fQ (top 6) 0
theorem EY:FnScope ["self","at"] ["self","at"] (aF lV):=by ac_rfl
theorem dq{a b:Int}(h:(a==b)=ū):a=b:=eq_of_beq h
theorem i7{a b:Int}(h:(a==b)=Ŭ):a≠b:=λe=>by subst e;rw[K5]at h;cases h
open Tx
noncomputable def dH(w:Str):Prop:=w.cps.all (·<128)=ū/\w.length<=100000
theorem qo{R:Sm->Y Om->Prop}{a b:Bool}(q:R (.v (.bl a)) [])(h:b=a):R (.v (.bl b)) []:=by rw[h];show q
theorem vK{l:Y Nat}{a n:Nat}(e:l=(List.range n).map (a+·))(c:Nat):c∈l↔a<=c/\c<a+n:=by
 rw[e,KP];constructor
 ·rintro⟨i,g,rfl⟩;have:=Ma.mp g;omega
 ·show λh=>⟨c-a,Ma.mpr (),()⟩
theorem J8(c:Nat):(Ŭ != decide (c∈("abcdefghijklmnopqrstuvwxyz":Str).cps.toList))=fm c:=by rw[MM,Mf,Lj,vK (a:=97) (n:=26) 'a'];unfold fm;rw[KQ,Lj,Lj];omega
theorem GD(c:Nat):(Ŭ != decide (c∈("0123456789":Str).cps.toList))=eP c:=by rw[MM,Mf,Lj,vK (a:=48) (n:=10) 'a'];unfold eP;rw[KQ,Lj,Lj];omega
theorem kz{w:Str}(h:w.length<=100000):w.length<=sizeLine:=by have:=LD;omega
theorem uc{n:Nat}(h:n<=100000):n<sizeLine:=by have:=LD;omega
theorem qT(w:Str):(L w).length=w.length:=by unfold L;rw[Ly];rfl
inductive z_is_name(ds:List D)(R:D->Prop):Prop|mk (w:Str) (_:ds=[.str w]) (_:dH w) (_:R (.bl (bQ w)))
theorem AX(F:Fun K "is_name" "is_name" lD f G)(t:mg "all"=ũ)(l:∃g,mg "MOST_LETTERS"=Z (.int 12 g))(j:mg "len"=ũ)(o:∃g,mg "LETTERS"=Z (.str "abcdefghijklmnopqrstuvwxyz" g)):FnOk P w K mg base bh (n+1) f G ["word"] (lSpM K (zM z_is_name)):=by
 refine F.okM JV (λas R p h=>?_) (λv A outer s H E as R p z u x h m=>?_)
 ·let⟨_,rfl,w,rfl,_⟩:=h;rfl
 let⟨_,rfl,w,rfl,e,q⟩:=h;obtain rfl:=cu m
 refine⟨_,(aM (aH (aR (PWD.td (eo (ay i9 (PD.q (bO bR S j KO (bj (ae 0) bp aa) aa ah)) (PD.q ak) (aw _)) (ft (ay jE (PD.q (bO bR S j KO (bj (ae 0) bp aa) aa ah)) (PD.q (jS S l.choose_spec)) (aw _)))))) (ai (aD (ag gD))) aL)
   (ai (aD (ag (bO (xt S) S t OZ (bj (PD.q (PF.d (g9 (k:=1) (N':=["sign"]) (cap:=[ũ]) S (.ok (show eC ["word"] (aF lD) _ ["sign"] [ũ]=ū by lia)) 'a' (eB 'b') (vG (dv 0)) (λ_ _ _ _ _=>(eA (i:=0) (show List.Nodup (["sign"]:Y Str)by lia) S Yk)) (λ_ _ _ _ _=>(iu vm (ae 0) (PD.q (xo S o.choose_spec)) (by with_unfolding_all rfl)))))) bp dM) dM ah))))),?_⟩
 intro y;have sz:=kz e.2
 have no:¬ (1<=w.length/\w.length<=12)->bQ w=Ŭ:=λh=>by
  unfold bQ;rcases Decidable.not_and_iff_or_not.mp h with h|h
  ·rw[KU h];rfl
  ·rw[KU h,Bool.and_false];rfl
 refine⟨λρ=>(1<=w.length/\w.length<=12)/\ρ=[Z (.v (.str w))],?_,?_⟩
 ·refine⟨sz,λh=>⟨λ_=>?_,λh=>tf h⟩,λh=>⟨sz,λa=>?_,λa=>⟨⟨?_,?_⟩,S⟩⟩⟩
  ·show qo q (no (by have:=KL h;omega)).symm
  ·show qo q (no (by have:=KL a;omega)).symm
  ·have:=K8 h;omega
  ·have:=K8 a;omega
 rintro ρ ⟨⟨r,a⟩,rfl⟩;refine⟨w,S,e.1,?_⟩;refine ij (f:=λc=>D.str (tP c)) (λc=>D.bl (fm c)) (by rw[Ly];show uc e.2) (λc _=>⟨c,_,S,S,by rw[J8]⟩) ?_;refine⟨(L w).map fm,by rw[LO];rfl,?_⟩;refine qo q ?_;unfold bQ;rw[Ld r,Ld a];change ((L w).map fm).all id=_;rw[O5];rfl
theorem CV(w:Str):î w "-"=((L w).head?==Z 45):=by
 have a:("-":Str)=⟨#[45]⟩:=by decide
 have h:=PySem.StrLaws.subAt_one w 45 0;rw[a,Mf,MW,OS];refine Iff.trans ?_ h;unfold î;rw[KQ,Lj]
noncomputable def gW(l:Y Nat):Y Nat:=match l with|45::r=>r|l=>l
theorem mH{l:Y Nat}(h:(l.head?==Z 45)=ū):∃r,l=45::r/\gW l=r:=by
 cases l with
 |nil=>cases h
 |cons a r=>
  have:a=45:=by simpa using h
  subst this;show⟨r,S,S⟩
theorem mE{l:Y Nat}(h:(l.head?==Z 45)=Ŭ):gW l=l/\gS l=if du l&&(l.head? != Z 48 ||l==[48]) then Z (Ð l:Int) else ũ:=by
 unfold gW gS;constructor
 ·split
  ·next r=>simp at h
  ·rfl
 ·split
  ·next r=>simp at h
  ·rfl
theorem uN{l:Y Nat}(h:du (gW l)=Ŭ):gS l=ũ:=by
 cases c:l.head?==Z 45 with
 |true=>
  let⟨r,rfl,e⟩:=mH c;rw[e]at h;change (if du r&&_ then _ else ũ)=ũ;rw[h];rfl
 |false=>
  let⟨e,a⟩:=mE c;rw[e]at h;rw[a,h];rfl
theorem DF{l:Y Nat}(h:(gW l).head?=Z 48)(g:l≠[48]):gS l=ũ:=by
 cases c:l.head?==Z 45 with
 |true=>
  let⟨r,rfl,e⟩:=mH c;rw[e]at h;change (if du r&&r.head? != Z 48 then _ else ũ)=ũ;rw[h];simp
 |false=>
  let⟨e,a⟩:=mE c;rw[e]at h;rw[a,h];simp[g]
theorem CM{l:Y Nat}(h:du (gW l)=ū)(a:(gW l).head?≠Z 48\/l=[48]):∃n,gS l=Z n:=by
 cases c:l.head?==Z 45 with
 |true=>
  let⟨r,rfl,e⟩:=mH c;rw[e]at h a;refine⟨-(Ð r:Int),?_⟩;change (if du r&&r.head? != Z 48 then _ else ũ)=_;rcases a with a|a
  ·rw[h,O3.mpr a];rfl
  ·cases a
 |false=>
  let⟨e,g⟩:=mE c;rw[e]at h a;refine⟨(Ð l:Int),?_⟩;rw[g,h,Kq];rcases a with a|a
  ·rw[O3.mpr a];rfl
  ·rw[a];rfl
theorem zK(l:Y Nat):bJ l (Z 1) ũ=l.drop 1:=by
 unfold bJ;rw[HT.sIx_none,show (Z (1:Int))=Z ((1:Nat):Int)from rfl,HT.sIx_nat];rw[L1 (by rw[LH];omega)]
 cases l with
 |nil=>rfl
 |cons a r=>simp
noncomputable def cw(w:Str):Str:=if ((L w).head?==Z 45)=ū then gB w (Z 1) ũ else w
theorem mB(w:Str):L (cw w)=gW (L w):=by
 unfold cw
 cases c:(L w).head?==Z 45 with
 |true=>
  rw[Kq S];let⟨r,e,a⟩:=mH c;rw[a];change (bJ (L w) (Z 1) ũ).toArray.toList=r;rw[zK,e];rfl
 |false=>rw[Kr (by simp)];show (mE c).1.symm
theorem Io{w:Str}(h:dH w):dH (cw w):=by
 have j:(cw w).length<=w.length:=by
  unfold cw;split
  ·show J0 _ _ _
  ·show Kw _
 refine⟨?_,by have:=h.2;omega⟩;rw[←M0,KZ];intro c a;have g:=h.1;rw[←M0,KZ]at g;refine g c ?_;have a:c∈L (cw w):=a;rw[mB]at a;unfold gW at a;split at a
 ·next r e=>
  change c∈L w;rw[e];show Kt _ a
 ·show a
noncomputable def jm:Ū Int->D
 |none=>.non
 |some n=>.int n
inductive z_number_form(ds:List D)(R:D->Prop):Prop|mk (w:Str) (_:ds=[.str w]) (_:dH w) (_:R (jm (bG w)))
theorem FK{w:Str}(h:(w == "0")=ū):L w=[48]:=by have:=eq_of_beq h;subst this;decide
theorem DL(F:Fun K "number_form" "number_form" lJ f G)(Q:mg "int"=ũ)(J:∃v,mg "MOST_FIGURES"=Z (.int 4 v))(aA:mg "all"=ũ)(x:mg "len"=ũ)(N:∃v,mg "FIGURES"=Z (.str "0123456789" v)):FnOk P w K mg base bh (n+1) f G ["word"] (lSpM K (zM z_number_form)):=by
 refine F.okM qaw (λas R O h=>?_) (λPh A outer s H E as R O qs Pg C h M=>?_)
 ·let⟨_,rfl,w,rfl,_⟩:=h;rfl
 let⟨_,rfl,w,rfl,B,q⟩:=h;obtain rfl:=cu M
 refine⟨_,(aM (ax (i:=1) qaw.nd S Yk (ag (jn (gu (PD.q (Bb (ae 0) aC (bW ar) ar)) (λ_=>rfl)) (gL (ae 0) (fZ (PD.q ak)) ic) (dv 0))))
   (aM (aH (aR (PWD.td (eo (ay i9 (PD.q (bO bR S x KO (bj (ae 1) bp aa) aa ah)) (PD.q ak) (aw _)) (ft (ay jE (PD.q (bO bR S x KO (bj (ae 1) bp aa) aa ah)) (PD.q (jS S J.choose_spec)) (aw _)))))) (ai (aD (ag bE))) aL)
   (aM (aH (aR (j8 (gu (PD.q (bO (xt S) S aA OZ (bj (PD.q (PF.d (g9 (k:=1) (N':=["sign"]) (cap:=[ũ]) S (.ok (show eC ["word","figures"] (aF lJ) _ ["sign"] [ũ]=ū by lia)) 'a' (eB 'b') (vG (dv 1)) (λ_ _ _ _ _=>(eA (i:=0) (show List.Nodup (["sign"]:Y Str)by lia) S Yk)) (λ_ _ _ _ _=>(iu vm (ae 0) (PD.q (xo S N.choose_spec)) (by with_unfolding_all rfl)))))) bp dM) dM ah)) (λ_=>rfl)))) (ai (aD (ag bE))) aL)
   (aM (aH (aR (PWD.td (lY (ay (bz C.units) (PD.q (av (ae 1))) (PD.q aC) (aw _)) (lP (ay (dX C.units) (ae 0) (PD.q aC) (aw _)))))) (ai (aD (ag bE))) aL)
   (ai (aD (ag (cL Ge S Q MV (bj (ae 0) bp aa) aa ah)))))))),?_⟩
 intro ke;have sz:=kz B.2;have t:=Io B;have p:=kz t.2
 have u:gS (L w)=ũ->R (.v .non) []:=λh=>by have:bG w=ũ:=h;rw[this]at q;show q
 refine⟨λρ=>ρ=[Z (.v (.str w)),Z (.v (.str (cw w)))],?_,?_⟩
 ·refine⟨_,S,_,S,?_⟩;rw[CV];refine⟨λh=>⟨sz,_,S,?_⟩,λh=>?_⟩
  ·unfold cw;rw[Kq h];rfl
  ·unfold cw;rw[h,Kr (by simp)];rfl
 rintro ρ rfl
 have T:∀f:Str,du (L f)=ū->1<=f.length/\f.length<=4:=λf h=>by unfold du at h;simp only[KQ,Lj,qT]at h;show h.1
 refine⟨λρ=>(1<=(cw w).length/\(cw w).length<=4)/\ρ=[Z (.v (.str w)),Z (.v (.str (cw w)))],?_,?_⟩
 ·have j:¬ (1<=(cw w).length/\(cw w).length<=4)->R (.v .non) []:=λh=>u (uN (by
   rw[←mB]
   cases e:du (L (cw w))with
   |false=>rfl
   |true=>show absurd (T _ e) h))
  refine⟨p,λh=>⟨λ_=>j ?_,λh=>tf h⟩,λh=>⟨p,λg=>j ?_,λg=>⟨⟨?_,?_⟩,S⟩⟩⟩
  ·have:=KL h;omega
  ·have:=KL g;omega
  ·have:=K8 h;omega
  ·have:=K8 g;omega
 rintro ρ ⟨⟨l1,l4⟩,rfl⟩;refine⟨λρ=>du (L (cw w))=ū/\ρ=[Z (.v (.str w)),Z (.v (.str (cw w)))],⟨cw w,S,t.1,?_⟩,?_⟩
 ·refine ij (f:=λc=>D.str (tP c)) (λc=>D.bl (eP c)) (by rw[Ly];show uc t.2) (λc _=>⟨c,_,S,S,by rw[GD]⟩) ?_;refine⟨(L (cw w)).map eP,by rw[LO];rfl,?_⟩
  have e:(((L (cw w)).map eP).all id)=(L (cw w)).all eP:=by rw[O5];rfl
  have y:du (L (cw w))=(L (cw w)).all eP:=by unfold du;rw[qT,Ld l1,Ld l4];rfl
  refine⟨λh=>?_,λh=>?_⟩
  ·refine u (uN ?_);rw[←mB,y,←e];simpa using h
  ·refine⟨?_,S⟩;rw[y,←e];simpa using h
 rintro ρ ⟨l,rfl⟩
 have hd:∃c,(L (cw w)).head?=Z c:=by
  cases e:L (cw w)with
  |nil=>have:=qT (cw w);rw[e]at this;simp at this;omega
  |cons a r=>show⟨a,S⟩
 let⟨c,m⟩:=hd;have I:bZ (cw w).cps.toList 0=Z c:=mD (i:=0) (by rw[←OS];show m) S;refine⟨λρ=>(c≠48\/L w=[48])/\ρ=[Z (.v (.str w)),Z (.v (.str (cw w)))],⟨p,c,I,λh=>⟨λg=>?_,λg=>⟨.inr ?_,S⟩⟩,λh=>⟨λg=>ff g,λ_=>⟨.inl λe=>?_,S⟩⟩⟩,?_⟩
 ·have e:=eq_of_beq h
  have ap:c=48:=by
   have X:L (⟨#[c]⟩:Str)=L "0":=LW L e;have:[c]=[48]:=X.trans 'b';show List.head_eq_of_cons_eq this
  refine u (DF (by rw[←mB,m,ap]) λz=>?_);have:w="0":=rf (z.trans 'b');rw[this]at g;show ff g
 ·show FK (by simpa using g)
 ·subst e;show absurd h 'b'
 rintro ρ ⟨a_,rfl⟩;rw[mB]at l m;let⟨n,o⟩:=CM l (by rw[m];rcases a_ with h|h;show .inl (λe=>h (K2 e));show .inr h);have o:bG w=Z n:=o;let⟨U,g⟩:=EF o;rw[o]at q;show⟨w,n,S,(),U,q⟩
noncomputable def dQ(t:Tm):D:=.tup [.int t.1,.str t.2]
noncomputable def yY:Ū (Y Tm)->D
 |none=>.non
 |some ts=>.tup (ts.map dQ)
open Tx
inductive z_sum_form(ds:List D)(R:D->Prop):Prop|mk (ws:List Str) (_:ds=[.lst (ws.map D.str)]) (_:ws.length<=1000) (_:(∀w∈ws,dH w)) (_:R (yY (fc ws)))
theorem DU(ws:Y Str):cz 40 (.lst (ws.map D.str)) (.lst [.str "0"])=Z (decide (ws=[("0":Str)])):=by
 match ws with
 | []=>rfl
 | [w]=>
  change (if 1=1 then fA (cz 39) [.str w] [.str "0"] else Z Ŭ)=_;rw[Kq S];change ((cz 39 (.str w) (.str "0")).bind λb=>(fA (cz 39) [] []).map (b&&·))=_;change Z ((w == "0")&&ū)=_;rw[Bool.and_true];congr 1;rw[Mf];simp
 |w::a::r=>
  change (if ((w::a::r).map D.str).length=1 then _ else Z Ŭ)=_;rw[Kr (by simp)];simp
theorem CK{i:Nat}{ρ:bM}{d:D}{R:D->Prop}(h:ρ[i]?=Z (Z (.v d)))(k:R d):lr i ρ R:=by unfold lr;rw[h];show k
theorem IL{d e:D}{b:Bool}{R:D->Prop}(h:cz 40 d e=Z b)(q:R (.bl b)):oF d e R:=by unfold oF;rw[h];show q
noncomputable def iT(ws:Y Str)(N i:Nat)(ts:Y Tm):Prop:=dO ws=if i=N then Z ts else (if i=0\/aV ws (3*i-1)="+" then (dO (ws.drop (3*i))).map (ts++·) else ũ)
theorem qc{ws:Y Str}{i:Nat}{w:Str}(h:ws[i]?=Z w):aV ws i=w:=by unfold aV;rw[LB,h];rfl
theorem qN{ws:Y Str}{i:Nat}{w:Str}(h:ws[i]?=Z w):ws.drop i=w::ws.drop (i+1):=by let⟨a,e⟩:=Lr.mp h;rw[←e];show Ol a
theorem zX{ws:Y Str}{N i:Nat}{ts:Y Tm}(v:ws.length+1=3*N)(y:i<N)(h:iT ws N i ts):∃a b,ws[3*i]?=Z a/\ws[3*i+1]?=Z b/\(bG a=ũ->dO ws=ũ)/\(bQ b=Ŭ->dO ws=ũ)/\(0<i->aV ws (3*i-1)≠"+"->dO ws=ũ)/\∀n,bG a=Z n->bQ b=ū->(i=0\/aV ws (3*i-1)="+")->iT ws N (i+1) (ts++[(n,b)]):=by
 have m:ws[3*i]?=Z (ws[3*i]'()):=KG ();have o:ws[3*i+1]?=Z (ws[3*i+1]'()):=KG ();generalize ws[3*i]'()=a at m;generalize ws[3*i+1]'()=b at o
 have hd:ws.drop (3*i)=a::b::ws.drop (3*i+2):=by rw[qN m,qN o]
 unfold iT at h;rw[Kr (),hd]at h;refine⟨a,b,m,o,?_⟩;by_cases c:i+1=N
 ·have e:ws.drop (3*i+2)=[]:=OT ();rw[e]at h
  have t:dO [a,b]=match bG a with|some n=>if bQ b then Z [(n,b)] else ũ|none=>ũ:=rfl
  rw[t]at h;refine⟨λz=>?_,λz=>?_,λj g=>?_,λn j g u=>?_⟩
  ·rw[h,z];split<;>rfl
  ·rw[h,z];split
   ·cases bG a<;>rfl
   ·rfl
  ·rw[h,Kr (by intro z;rcases z with z|z;omega;show g z)]
  ·unfold iT;rw[Kq c,h,Kq u,j];change (if bQ b=ū then Z [(n,b)] else ũ).map _=_;rw[Kq g];rfl
 ·have r:ws[3*i+2]?=Z (ws[3*i+2]'()):=KG ();generalize ws[3*i+2]'()=p at r;have e:ws.drop (3*i+2)=p::ws.drop (3*(i+1)):=qN r;rw[e]at h
  have t:dO (a::b::p::ws.drop (3*(i+1)))=match bG a with|some n=>if bQ b then (if p="+" then (dO (ws.drop (3*(i+1)))).map ((n,b)::·) else ũ) else ũ|none=>ũ:=by first|(rw[dO];rfl)|rw[dO]
  rw[t]at h;refine⟨λz=>?_,λz=>?_,λj g=>?_,λn j g u=>?_⟩
  ·rw[h,z];split<;>rfl
  ·rw[h,z];split
   ·cases bG a<;>rfl
   ·rfl
  ·rw[h,Kr (by intro z;rcases z with z|z;omega;show g z)]
  ·unfold iT;rw[Kr c,h,Kq u,j];change (if bQ b=ū then (if p="+" then (dO (ws.drop (3*(i+1)))).map ((n,b)::·) else ũ) else ũ).map (ts++·)=_;rw[Kq g,show 3*(i+1)-1=3*i+2 by omega,qc r];by_cases l:p="+"
   ·rw[Kq l,Kq (.inr l),Option.map_map];congr 1
    funext x
    simp
   ·rw[Kr l,Kr (by intro z;rcases z with z|z;omega;show l z)];rfl
theorem w4{n N:Nat}(h:n+1=3*N):fY 0 (n:Int) 3=N:=by unfold fY;omega
theorem BH(F:Fun K "sum_form" "sum_form" n5 f G)(i4:Cl P w K mg base n "number_form" ["word"] z_number_form)(ub:Cl P w K mg base n "is_name" ["word"] z_is_name)(dF:mg "range"=ũ)(bH:mg "tuple"=ũ)(B:mg "len"=ũ):FnOk P w K mg base bh (n+1) f G ["words"] (lSpM K (zM z_sum_form)):=by
 refine F.okM qaC (λas R a_ h=>?_) (λPh A outer s H E as R a_ qs Pg o h X=>?_)
 ·let⟨_,rfl,ws,rfl,_⟩:=h;rfl
 let⟨_,rfl,ws,rfl,hl,Q,q⟩:=h;obtain rfl:=cu X
 refine⟨_,(aM (aH (aR (ay (bz o.units) (ae 0) (PD.q (PF.d (eL (af aC ao ar)))) (aw _))) (ai (aD (ag (aO ao)))) aL)
   (aM (aH (aR (ay (dX o.units) (PD.q (aT iB (PD.q (bO bR S B KO (bj (ae 0) bp aa) aa ah)) (PD.q ak))) (PD.q ak) (aw _))) (ai (aD (ag bE))) aL)
   (au (ax (i:=1) qaC.nd S Yk (eD (eL ao)))
   (au (fE LQ S (gh (IQ S dF (af ak (af (bO bR S B KO (bj (ae 0) bp aa) aa ah) (af ak ao ar) bX) ar))) (bc (i:=2) qaC.nd S Yk) (au (ax (i:=3) qaC.nd S Yk (ag (bP i4 o S (af (cQ (ae 0) (ae 2) (λ_ _=>rfl)) ao az) az ah)))
   (au (ax (i:=4) qaC.nd S Yk (ag (cQ (ae 0) (PD.q (aT bx (ae 2) (PD.q ak))) (λ_ _=>rfl))))
   (aM (aH (aR (PWD.td (eo (ay eX (ae 3) (PD.q bE) (aw _)) (ft (j8 (gu (PD.q (bP ub o S (af (dv 4) ao aa) aa ah)) (λ_=>rfl))))))) (ai (aD (ag bE))) aL)
   (aM (aH (aR (PWD.td (lY (ay jE (ae 2) (PD.q ak) (aw _)) (lP (ay (dX o.units) (PD.q (cQ (ae 0) (PD.q (aT iG (ae 2) (PD.q ak))) (λ_ _=>rfl))) (PD.q aC) (aw _)))))) (ai (aD (ag bE))) aL)
   (ai (eK 1 (ag (aO (af (dv 3) (af (dv 4) ao aa) aa))) (bW cC) cC)))))))
   (ai (aD (ag (cL fG S bH La (bj (ae 1) bp aa) aa ah)))))))),?_⟩
 intro ke;have at_:∀{i:Nat}{w:Str}{k:Int},ws[i]?=Z w->k=(i:Int)->bZ (ws.map D.str) k=Z (.str w):=λh e=>hZ h e;refine⟨λρ=>ws≠[("0":Str)]/\ρ=[Z (.v (.lst (ws.map D.str))),ũ,ũ,ũ,ũ],?_,?_⟩
 ·dsimp only[vO,xB,rC,ia,wF,vY,sF,dC,sx];refine CK (d:=.lst (ws.map D.str)) S ?_;refine IL (DU ws) ?_;refine⟨λh=>?_,λh=>⟨K8 h,S⟩⟩;have h:=KL h;unfold fc at q;rw[Kq h]at q;show q
 rintro ρ ⟨U,rfl⟩
 have T:fc ws=if ws.length % 3=2 then dO ws else ũ:=by unfold fc;rw[Kr U]
 refine⟨λρ=>ws.length % 3=2/\ρ=[Z (.v (.lst (ws.map D.str))),ũ,ũ,ũ,ũ],?_,?_⟩
 ·have e:(((ws.map D.str).length:Nat):Int) % 3=((ws.length % 3:Nat):Int):=by rw[wy];omega
  refine⟨(by decide:(0:Int)<3),λh=>?_,λh=>⟨?_,S⟩⟩
  ·have l:ws.length % 3≠2:=λz=>by rw[e,z]at h;show ff h
   rw[T,Kr l]at q;show q
  ·by_cases c:ws.length % 3=2
   ·show c
   ·exfalso;rw[e]at h
    have:(((ws.length % 3:Nat):Int)==2)=ū:=by simpa using h
    have:=dq this;omega
 rintro ρ ⟨h3,rfl⟩;rw[T,Kq h3]at q;obtain⟨N,r⟩:∃N,ws.length+1=3*N:=⟨(ws.length+1)/3,()⟩
 have O:(((ws.map D.str).length:Nat):Int)=(ws.length:Int):=by rw[wy]
 refine⟨0,_,3,S,⟨'b','b',(),(),'b','b'⟩,?_⟩;refine⟨λi ρ=>∃(ts:Y Tm)(u v x:Ū Sm),ρ=[Z (.v (.lst (ws.map D.str))),Z (.own (ts.map dQ)),u,v,x]/\ts.length=i/\iT ws N i ts,⟨[],_,_,_,S,S,?_⟩,?_,?_⟩
 ·unfold iT;rw[Kr (),Kq (.inl S),Nat.mul_zero,Nk];cases dO ws<;>rfl
 ·rintro i d ρ hd ⟨ts,u,v,x,rfl,ap,g⟩;unfold iX at hd;rw[Kv]at hd;let⟨j,hj,rfl⟩:=MB.mp hd;let⟨y,C⟩:=Lr.mp hj;rw[List.getElem_range]at C;subst C;rw[Lm,O,w4 r]at y;let⟨a,b,J,M,n1,n2,n3,go⟩:=zX r y g
  have t:dO ws=ũ->R (.v .non) []:=λz=>by rw[z]at q;show q
  have aA:=Q a (KN J);have aB:=Q b (KN M);refine⟨_,at_ J (),a,S,aA,?_⟩;refine⟨_,at_ M (),?_⟩;refine⟨λρ=>∃n,bG a=Z n/\bQ b=ū/\ρ=[Z (.v (.lst (ws.map D.str))),Z (.own (ts.map dQ)),Z (.v (.int (0+(i:Int)*3))),Z (.v (.int n)),Z (.v (.str b))],?_,?_⟩
  ·cases e:bG a with
   |none=>show⟨λ_=>⟨λ_=>t (n1 e),λh=>tf h⟩,λh=>tf h⟩
   |some n=>
    refine⟨λh=>ff h,λ_=>⟨b,S,aB,?_⟩⟩
    cases e2:bQ b with
    |false=>show⟨λ_=>t (n2 e2),λh=>tf h⟩
    |true=>show⟨λh=>ff h,λ_=>⟨n,S,S,S⟩⟩
  rintro ρ ⟨n,hn,hb,rfl⟩;refine⟨λρ=>(i=0\/aV ws (3*i-1)="+")/\ρ=[Z (.v (.lst (ws.map D.str))),Z (.own (ts.map dQ)),Z (.v (.int (0+(i:Int)*3))),Z (.v (.int n)),Z (.v (.str b))],⟨λh=>?_,λh=>⟨λh=>ff h,λ_=>⟨.inl (by have:=K8 h;omega),S⟩⟩⟩,?_⟩
  ·have h:=KL h;have m:ws[3*i-1]?=Z (ws[3*i-1]'()):=KG ();generalize ws[3*i-1]'()=p at m;have I:=qc m;refine⟨_,at_ m (),λl=>t (n3 () ?_),λl=>⟨.inr ?_,S⟩⟩
   ·rw[I];intro z;subst z;show ff l
   ·rw[I];show eq_of_beq (by simpa using l)
  rintro ρ ⟨m,rfl⟩;refine⟨cq (by rw[wy];omega),_,Em dQ ts (n,b),ts++[(n,b)],_,_,_,S,by rw[Kp,ap];rfl,go n hn hb m⟩
 ·rintro ρ ⟨ts,u,v,x,rfl,ap,g⟩
  have e:(iX 0 (((ws.map D.str).length:Nat):Int) 3).length=N:=by unfold iX;rw[wy,Lm,O,w4 r]
  rw[e]at g;unfold iT at g;rw[Kq S]at g;rw[g]at q;show q
open Tx
noncomputable def fi:Frm->D
 |.unk x l m=>.tup [.str "unknown",.str x,.tup [.int l,jm m]]
 |.row ts b t=>.tup [.str "row",.tup (ts.map dQ),.int b,.bl t]
 |.worth ts s=>.tup [.str "worth",.tup (ts.map dQ),.int s]
noncomputable def jI:Ū Frm->D
 |none=>.non
 |some f=>fi f
theorem eS{ws:Y Str}{k:Int}(i:Nat)(a:i<ws.length)(e:k=(i:Int)):bZ (ws.map D.str) k=Z (.str (aV ws i)):=hZ (by rw[qc (KG a)];show KG a) e
theorem nD{ws:Y Str}{i:Nat}(a:i<ws.length):aV ws i∈ws:=by rw[qc (KG a)];show MA a
inductive z_unknown_form(ds:List D)(R:D->Prop):Prop|mk (ws:List Str) (_:ds=[.lst (ws.map D.str)]) (_:ws.length<=1000) (_:(∀w∈ws,dH w)) (_:R (jI (iz ws)))
theorem qI{a b:Str}(h:(!(a==b))=Ŭ):a=b:=eq_of_beq (by simpa using h)
theorem qk{a b:Str}(h:(!(a==b))=ū):a≠b:=λe=>by subst e;simp at h
theorem Hi{n:Nat}:fK (.inl (n:Int)) [.inl 4,.inl 6]=decide (n=4\/n=6):=by rw[Mf,tD,Lj];simp;omega
theorem kH{b:Bool}(h:(ū != b)=ū):b=Ŭ:=by cases b<;>simp_all
theorem kG{b:Bool}(h:(ū != b)=Ŭ):b=ū:=by cases b<;>simp_all
theorem BD(F:Fun K "unknown_form" "unknown_form" mS f G)(u:Cl P w K mg base n "number_form" ["word"] z_number_form)(C:Cl P w K mg base n "is_name" ["word"] z_is_name)(r:mg "len"=ũ):FnOk P w K mg base bh (n+1) f G ["words"] (lSpM K (zM z_unknown_form)):=by
 refine F.okM qaD (λas R x h=>?_) (λJ A outer s H E as R x Q I c h v=>?_)
 ·let⟨_,rfl,ws,rfl,_⟩:=h;rfl
 let⟨_,rfl,ws,rfl,N,p,q⟩:=h;obtain rfl:=cu v
 refine⟨_,(aM (aH (aR (PWD.td (eo (ay pW (PD.q (bO bR S r KO (bj (ae 0) bp aa) aa ah)) (PD.q (aO (af ak (af ak ao ar) ar))) (by with_unfolding_all rfl)) (eo (ay (dX c.units) (PD.q (av (ae 0))) (PD.q aC) (aw _)) (ft (j8 (gu (PD.q (bP C c S (af (av (ae 0)) ao az) az ah)) (λ_=>rfl)))))))) (ai (aD (ag bE))) aL)
   (au (ax (i:=1) qaD.nd S Yk (ag (bP u c S (af (av (ae 0)) ao az) az ah)))
   (aM (aH (aR (ay eX (ae 1) (PD.q bE) (aw _))) (ai (aD (ag bE))) aL)
   (aM (aH (aR (ay (bz c.units) (PD.q (bO bR S r KO (bj (ae 0) bp aa) aa ah)) (PD.q ak) (aw _))) (ai (aD (ag (aO (af aC (af (av (ae 0)) (af (aO (af (dv 1) (af bE ao ar) aa)) ao cC) az) ar))))) aL)
   (au (ax (i:=2) qaD.nd S Yk (ag (bP u c S (af (av (ae 0)) ao az) az ah)))
   (aM (aH (aR (PWD.td (eo (ay (dX c.units) (PD.q (av (ae 0))) (PD.q aC) (aw _)) (ft (ay eX (ae 2) (PD.q bE) (aw _)))))) (ai (aD (ag bE))) aL)
   (ai (aD (ag (aO (af aC (af (av (ae 0)) (af (aO (af (dv 1) (af (dv 2) ao aa) aa)) ao cC) az) ar))))))))))),?_⟩
 intro O
 have B:(((ws.map D.str).length:Nat):Int)=(ws.length:Int):=by rw[wy]
 have a:¬ ((ws.length=4\/ws.length=6)/\aV ws 2="from"/\bQ (aV ws 1)=ū)->R (.v .non) []:=λh=>by unfold iz at q;rw[Kr h]at q;show q
 refine⟨λρ=>((ws.length=4\/ws.length=6)/\aV ws 2="from"/\bQ (aV ws 1)=ū)/\ρ=[Z (.v (.lst (ws.map D.str))),ũ,ũ],?_,?_⟩
 ·refine⟨.inl _,[.inl 4,.inl 6],S,S,?_⟩;rw[B,Hi];refine⟨λh=>⟨λ_=>a λz=>?_,λh=>tf h⟩,λh=>?_⟩
  ·show K8 (kH h) z.1
  have g:=KL (kG h);refine⟨_,eS 2 () S,λo=>⟨λ_=>a λz=>qk o z.2.1,λh=>tf h⟩,λo=>?_⟩;refine⟨_,eS 1 () S,_,S,p _ (nD ()),?_⟩
  cases e:bQ (aV ws 1)with
  |false=>show⟨λ_=>a λz=>(by rw[e]at z;cases z.2.2),λh=>tf h⟩
  |true=>show⟨λh=>ff h,λ_=>⟨⟨g,qI o,S⟩,S⟩⟩
 rintro ρ ⟨t,rfl⟩;unfold iz at q;rw[Kq t]at q;have g:=t.1;refine⟨_,eS 3 () S,_,S,p _ (nD ()),?_⟩
 cases e:bG (aV ws 3)with
 |none=>
  rw[e]at q;refine⟨λρ=>False,⟨λ_=>q,λh=>tf h⟩,?_⟩;rintro ρ ⟨⟩
 |some l=>
  rw[e]at q;refine⟨λρ=>ρ=_,⟨λh=>ff h,λ_=>rfl⟩,?_⟩;rintro ρ rfl;have q:R (.v (jI (if ws.length=4 then Z (.unk (aV ws 1) l ũ) else match bG (aV ws 5)with|none=>ũ|some m=>if aV ws 4="to" then Z (.unk (aV ws 1) l (Z m)) else ũ))) []:=q;refine⟨λρ=>ws.length=6/\ρ=[Z (.v (.lst (ws.map D.str))),Z (.v (.int l)),ũ],⟨λh=>?_,λh=>⟨?_,S⟩⟩,?_⟩
  ·have h:=dq h;rw[Kq ()]at q;show⟨_,eS 1 () S,q⟩
  ·have h:=i7 h;omega
  rintro ρ ⟨M,rfl⟩;rw[Kr ()]at q;refine⟨_,eS 5 () S,_,S,p _ (nD ()),?_⟩;refine⟨λρ=>∃m,bG (aV ws 5)=Z m/\aV ws 4="to"/\ρ=[Z (.v (.lst (ws.map D.str))),Z (.v (.int l)),Z (.v (.int m))],⟨_,eS 4 () S,λh=>⟨λ_=>?_,λh=>tf h⟩,λh=>?_⟩,?_⟩
  ·have:(match bG (aV ws 5)with|none=>ũ|some m=>if aV ws 4="to" then Z (Frm.unk (aV ws 1) l (Z m)) else ũ)=ũ:=by
    cases bG (aV ws 5)with
    |none=>rfl
    |some m=>show Kr (qk h)
   rw[this]at q;show q
  ·cases j:bG (aV ws 5)with
   |none=>rw[j]at q;show⟨λ_=>q,λh=>tf h⟩
   |some m=>show⟨λh=>ff h,λ_=>⟨m,S,qI h,S⟩⟩
  rintro ρ ⟨m,j,y,rfl⟩;rw[j]at q;have q:R (.v (jI (if aV ws 4="to" then Z (.unk (aV ws 1) l (Z m)) else ũ))) []:=q;rw[Kq y]at q;show⟨_,eS 1 () S,q⟩
inductive z_row_form(ds:List D)(R:D->Prop):Prop|mk (ws:List Str) (_:ds=[.lst (ws.map D.str)]) (_:ws.length<=1000) (_:(∀w∈ws,dH w)) (_:R (jI (jA ws)))
theorem pY{ws:Y Str}{k:Int}(i:Nat)(a:0<i)(c:i<=ws.length)(e:k = -(i:Int)):bZ (ws.map D.str) k=Z (.str (aV ws (ws.length-i))):=by have h:=eS (ws:=ws) (k:=((ws.length-i:Nat):Int)) (ws.length-i) () S;rw[←h,e];unfold bZ eT;rw[wy,Kr (),Kq ()];congr 1;rw[Kq (),Kq ()];congr 1;omega
theorem IC{ws:Y Str}(h:5<=ws.length):bJ (ws.map D.str) (Z 1) (Z (-3))=((ws.drop 1).take (ws.length-4)).map D.str:=by
 rw[rn];congr 1;unfold bJ;rw[show (Z (1:Int))=Z ((1:Nat):Int)from rfl,HT.sIx_nat,Na ()]
 have:HT.sIx ws.length ws.length (Z (-3))=ws.length-3:=by unfold HT.sIx;simp;omega
 rw[this,show ws.length-3-1=ws.length-4 by omega]
theorem GT{ws:Y Str}(h:1<=ws.length):bJ (ws.map D.str) (Z 1) ũ=(ws.drop 1).map D.str:=by rw[rn];congr 1;unfold bJ;rw[HT.sIx_none,show (Z (1:Int))=Z ((1:Nat):Int)from rfl,HT.sIx_nat,Na h,L1 (by rw[LH];omega)]
theorem yN{x a b:Str}:fK (.inr x) [.inr a,.inr b]=decide (x=a\/x=b):=by rw[Mf,tD,Lj];simp
theorem DX(F:Fun K "row_form" "row_form" nQ f G)(y:Cl P w K mg base n "sum_form" ["words"] z_sum_form)(x:Cl P w K mg base n "number_form" ["word"] z_number_form)(u:mg "len"=ũ):FnOk P w K mg base bh (n+1) f G ["words"] (lSpM K (zM z_row_form)):=by
 refine F.okM qaz (λas R t h=>?_) (λC A outer s H E as R t N B e h r=>?_)
 ·let⟨_,rfl,ws,rfl,_⟩:=h;rfl
 let⟨_,rfl,ws,rfl,J,p,q⟩:=h;obtain rfl:=cu r
 refine⟨_,(aM (aH (aR (PWD.td (eo (ay i9 (PD.q (bO bR S u KO (bj (ae 0) bp aa) aa ah)) (PD.q ak) (aw _)) (eo (ay (dX e.units) (PD.q (cQ (ae 0) (PD.q (eG (PD.q ak))) (λ_ _=>rfl))) (PD.q aC) (aw _)) (ft (ay pW (PD.q (cQ (ae 0) (PD.q (eG (PD.q ak))) (λ_ _=>rfl))) (PD.q (aO (af aC (af aC ao ar) ar))) (by with_unfolding_all rfl))))))) (ai (aD (ag bE))) aL)
   (au (ax (i:=1) qaz.nd S Yk (ag (bP y e S (af (gL (ae 0) (fZ (PD.q ak)) (fZ (PD.q (eG (PD.q ak))))) ao az) az ah)))
   (au (ax (i:=2) qaz.nd S Yk (ag (bP x e S (af (cQ (ae 0) (PD.q (eG (PD.q ak))) (λ_ _=>rfl)) ao az) az ah)))
   (aM (aH (aR (PWD.td (eo (ay eX (ae 1) (PD.q bE) (aw _)) (ft (ay eX (ae 2) (PD.q bE) (aw _)))))) (ai (aD (ag bE))) aL)
   (ai (aD (ag (aO (af aC (af (dv 1) (af (dv 2) (af (iu (bz e.units) (PD.q (cQ (ae 0) (PD.q (eG (PD.q ak))) (λ_ _=>rfl))) (PD.q aC) (aw _)) ao l0) aa) aa) ar))))))))),?_⟩
 intro M
 have a:¬ (5<=ws.length/\aV ws (ws.length-3)="at"/\(aV ws (ws.length-2)="least"\/aV ws (ws.length-2)="most"))->R (.v .non) []:=λh=>by unfold jA at q;rw[Kr h]at q;show q
 refine⟨λρ=>(5<=ws.length/\aV ws (ws.length-3)="at"/\(aV ws (ws.length-2)="least"\/aV ws (ws.length-2)="most"))/\ρ=[Z (.v (.lst (ws.map D.str))),ũ,ũ],?_,?_⟩
 ·have I:(((ws.map D.str).length:Nat):Int)=(ws.length:Int):=by rw[wy]
  refine⟨λh=>⟨λ_=>a λz=>?_,λh=>tf h⟩,λh=>?_⟩
  ·have:=KL h;omega
  have m:5<=ws.length:=by have:=K8 h;omega
  refine⟨_,pY 3 'b' () S,λj=>⟨λ_=>a λz=>qk j z.2.1,λh=>tf h⟩,λj=>?_⟩;refine⟨_,pY 2 'b' () S,.inr _,[.inr "least",.inr "most"],S,S,?_⟩;rw[yN];refine⟨λl=>a λz=>?_,λl=>⟨⟨m,qI j,?_⟩,S⟩⟩
  ·show K8 (kH l) z.2.2
  ·show KL (kG l)
 rintro ρ ⟨o,rfl⟩;unfold jA at q;rw[Kq o]at q;have m:=o.1;refine⟨_,IC m,_,S,?_,λw v=>p w (M1 (List.mem_of_mem_take v)),?_⟩
 ·rw[KY,LH];omega
 refine⟨_,pY 1 'b' () S,_,S,p _ (nD ()),?_⟩;refine⟨λρ=>∃ts b,fc ((ws.drop 1).take (ws.length-4))=Z ts/\bG (aV ws (ws.length-1))=Z b/\ρ=[Z (.v (.lst (ws.map D.str))),Z (.v (.tup (ts.map dQ))),Z (.v (.int b))],?_,?_⟩
 ·cases c:fc ((ws.drop 1).take (ws.length-4))with
  |none=>rw[c]at q;show⟨λ_=>⟨λ_=>q,λh=>tf h⟩,λh=>tf h⟩
  |some ts=>
   refine⟨λh=>ff h,λ_=>?_⟩
   cases g:bG (aV ws (ws.length-1))with
   |none=>rw[c,g]at q;show⟨λ_=>q,λh=>tf h⟩
   |some b=>show⟨λh=>ff h,λ_=>⟨ts,b,S,S,S⟩⟩
 rintro ρ ⟨ts,b,c,g,rfl⟩;rw[c,g]at q;show⟨_,pY 2 'b' () S,q⟩
inductive z_worth_form(ds:List D)(R:D->Prop):Prop|mk (ws:List Str) (_:ds=[.lst (ws.map D.str)]) (_:1<=ws.length) (_:ws.length<=1000) (_:(∀w∈ws,dH w)) (_:R (jI (i6 ws)))
theorem Fc(F:Fun K "worth_form" "worth_form" oh f G)(o:Cl P w K mg base n "sum_form" ["words"] z_sum_form):FnOk P w K mg base bh (n+1) f G ["words"] (lSpM K (zM z_worth_form)):=by
 refine F.okM qaI (λas R g h=>?_) (λr A outer s H E as R g v p c h e=>?_)
 ·let⟨_,rfl,ws,rfl,_⟩:=h;rfl
 let⟨_,rfl,ws,rfl,j,t,l,q⟩:=h;obtain rfl:=cu e
 refine⟨_,(au (ax (i:=1) qaI.nd S Yk (ag (bP o c S (af (gL (ae 0) (fZ (PD.q ak)) ic) ao az) az ah)))
   (aM (aH (aR (ay eX (ae 1) (PD.q bE) (aw _))) (ai (aD (ag bE))) aL)
   (ai (aD (ag (aO (af aC (af (dv 1) (af (jn (ay (bz c.units) (PD.q (av (ae 0))) (PD.q aC) (aw _)) ak (eG (PD.q ak))) ao pR) aa) ar))))))),?_⟩
 intro u;unfold i6 at q;refine⟨_,GT j,_,S,by rw[LH];omega,λw m=>l w (M1 m),?_⟩
 cases a:fc (ws.drop 1)with
 |none=>
  rw[a]at q;refine⟨λρ=>False,⟨λ_=>q,λh=>tf h⟩,?_⟩;rintro ρ ⟨⟩
 |some ts=>
  rw[a]at q;refine⟨λρ=>ρ=_,⟨λh=>ff h,λ_=>rfl⟩,?_⟩;rintro ρ rfl;have q:R (.v (fi (.worth ts (if aV ws 0="most" then 1 else -1)))) []:=q;refine⟨_,eS 0 () S,λh=>?_,λh=>?_⟩
  ·rw[Kq (eq_of_beq h)]at q;show q
  ·rw[Kr (λz=>by rw[z]at h;simp at h)]at q;show q
theorem ve{c:Nat}{s w:Str}:∀{ws:Y Str},w∈ws->c∈L w->c∈L (Str.join s ws)
 | [x],e,a=>by rw[KH.mp e]at a;show a
 |x::y::r,e,a=>by
  rw[jQ];rcases Kz.mp e with rfl|e
  ·show Mj _ a
  ·show Ll _ (Ll _ (ve e a))
theorem wW{x:Str}(h:dH x):∀w∈Í x " ",dH w:=λw g=>by
 have l:=PyProof.Rows.part_short g;refine⟨?_,by have:=h.2;omega⟩;have a:=h.1;rw[←M0,KZ]at a ⊢;intro c j;refine a c ?_;have e:=PySem.StrLaws.join_split x " ";have:c∈L (Str.join " " (Í x " ")):=ve g j;rw[e]at this;show this
inductive z_line_form(ds:List D)(R:D->Prop):Prop|mk (x:Str) (_:ds=[.str x]) (_:dH x) (_:x.length<=900) (_:R (jI (il x)))
theorem Hs(F:Fun K "line_form" "line_form" mO f G)(g:Cl P w K mg base n "unknown_form" ["words"] z_unknown_form)(l:Cl P w K mg base n "row_form" ["words"] z_row_form)(j:Cl P w K mg base n "worth_form" ["words"] z_worth_form):FnOk P w K mg base bh (n+1) f G ["line"] (lSpM K (zM z_line_form)):=by
 refine F.okM qav (λas R o h=>?_) (λC A outer s H E as R o M B a h m=>?_)
 ·let⟨_,rfl,x,rfl,_⟩:=h;rfl
 let⟨_,rfl,x,rfl,t,I,q⟩:=h;obtain rfl:=cu m
 refine⟨_,(au (ax (i:=1) qav.nd S Yk (ag (PF.d (p8 (ae 0) aC (bW ar) ar))))
   (aM (aH (aR (ay (bz a.units) (PD.q (av (ae 1))) (PD.q aC) (aw _))) (ai (aD (ag (bP g a S (af (dv 1) ao aa) aa ah)))) aL)
   (aM (aH (aR (ay (bz a.units) (PD.q (av (ae 1))) (PD.q aC) (aw _))) (ai (aD (ag (bP l a S (af (dv 1) ao aa) aa ah)))) aL)
   (aM (aH (aR (ay kB (PD.q (av (ae 1))) (PD.q (aO (af aC (af aC ao ar) ar))) (by with_unfolding_all rfl))) (ai (aD (ag (bP j a S (af (dv 1) ao aa) aa ah)))) aL)
   (ai (aD (ag bE))))))),?_⟩
 intro J;have c:=wW t;have p:=Nr x " ";have r:=O0 x " ";unfold il tO at q;obtain⟨ws,e⟩:∃ws,ws=Í x " ":=⟨_,S⟩;rw[←e]at c p r q;refine⟨_,S,_,S,'b',by have:=LD;omega,?_⟩;rw[←e];refine⟨λρ=>aV ws 0≠"unknown"/\ρ=[Z (.v (.str x)),Z (.v (.lst (ws.map D.str)))],⟨_,eS 0 () S,λh=>?_,λh=>⟨λz=>(by rw[z]at h;simp at h),S⟩⟩,?_⟩
 ·rw[Kq (eq_of_beq h)]at q;show⟨ws,S,(),c,q⟩
 rintro ρ ⟨u,rfl⟩;rw[Kr u]at q;refine⟨λρ=>aV ws 0≠"row"/\ρ=[Z (.v (.str x)),Z (.v (.lst (ws.map D.str)))],⟨_,eS 0 () S,λh=>?_,λh=>⟨λz=>(by rw[z]at h;simp at h),S⟩⟩,?_⟩
 ·rw[Kq (eq_of_beq h)]at q;show⟨ws,S,(),c,q⟩
 rintro ρ ⟨v,rfl⟩;rw[Kr v]at q;refine⟨λρ=>¬ (aV ws 0="most"\/aV ws 0="least"),⟨_,eS 0 () S,.inr _,[.inr "most",.inr "least"],S,S,?_⟩,?_⟩
 ·rw[yN,MM];refine⟨λh=>?_,λh=>K8 h⟩;rw[Kq (KL h)]at q;show⟨ws,S,(),(),c,q⟩
 rintro ρ y;rw[Kr y]at q;show q
open Tx
noncomputable def look(ts:Y Tm)(x:Str):Int:=match ts.find? (λt=>decide (t.2=x))with|some t=>t.1|none=>0
noncomputable def br(ns:Y Str)(ts:Y Tm):Y Int:=ns.map (look ts)
theorem Cv{ts:Y Tm}{n:Int}{x y:Str}(h:y≠x):look (ts++[(n,x)]) y=look ts y:=by
 unfold look;rw[List.find?_append]
 cases e:ts.find? (λt=>decide (t.2=y))with
 |some t=>rfl
 |none=>
  have:decide (x=y)=Ŭ:=KU (Lv h);simp[Mr,this]
theorem Ag{ts:Y Tm}{n:Int}{x:Str}(h:x∉ts.map (·.2)):look (ts++[(n,x)]) x=n:=by
 unfold look;rw[List.find?_append]
 have e:ts.find? (λt=>decide (t.2=x))=ũ:=by rw[Nh];intro t a c;show h (KP.mpr ⟨t,a,KL c⟩)
 rw[e];simp[Mr]
theorem Gy{ns:Y Str}{ts:Y Tm}{n:Int}{x:Str}{j:Nat}(g:ns.Nodup)(h:x∉ts.map (·.2))(a:ns[j]?=Z x):br ns (ts++[(n,x)])=(br ns ts).set j n:=by
 unfold br;refine LA λi=>?_;rw[Kv];by_cases c:j=i
 ·subst c;rw[a,Ls (by rw[wy];show aZ a)];change Z (look _ x)=_;rw[Ag h]
 ·rw[Lk c,Kv]
  cases e:ns[i]? with
  |none=>rfl
  |some y=>
   have:y≠x:=λz=>c ((Mc (aZ a) g).mp (by rw[a,e,z]));change Z (look _ y)=Z (look _ y);rw[Cv this]
theorem Ef(ns:Y Str):(br ns []).map D.int=List.replicate ns.length (.int 0):=by
 unfold br;rw[LO];refine LA λi=>?_;rw[Kv,Mt];by_cases c:i<ns.length
 ·rw[KG c,Kq c];rfl
 ·rw[Lc (),Kr c];rfl
theorem Ft{xs:Y Str}{x:Str}(h:x∈xs)(l:xs.length<=1000){R:D->Prop}(k:∀j:Nat,j<xs.length->xs[j]?=Z x->R (.int (j:Int))):(xs.map D.str).length<=1000/\∃(bs:Y Bool)(j:Nat),bs.length=(xs.map D.str).length/\(∀(i:Nat) d b,(xs.map D.str)[i]?=Z d->bs[i]?=Z b->cz 39 d (.str x)=Z b)/\bs[j]?=Z ū/\(∀i,i<j->bs[i]?=Z Ŭ)/\R (.int (j:Int)):=by
 have a:xs.findIdx (λs=>s==x)<xs.length:=List.findIdx_lt_length_of_exists ⟨x,h,K5 x⟩;refine⟨by rw[wy];show l,xs.map (λs=>s==x),xs.findIdx (λs=>s==x),by simp,λi d b hd c=>?_,?_,λi g=>?_,k _ a ?_⟩
 ·let⟨s,rfl,m⟩:=gN hd;rw[Kv,m]at c;cases c;rfl
 ·rw[Kv,bA a];show LW Z (List.findIdx_getElem (p:=λs=>s==x))
 ·have e:i<xs.length:=by omega
  rw[Kv,bA e];have:=List.not_of_lt_findIdx g;change Z (xs[i]==x)=Z Ŭ;simpa using this
 ·have:=List.findIdx_getElem (p:=λs=>s==x) (w:=a);rw[bA a];show LW Z (eq_of_beq this)
theorem GX{e tb:TD}{ρ:bM}{R:D->Prop}{a:D}{ns:Y Str}{x:Str}(l:a=.tup (ns.map D.str)\/a=.lst (ns.map D.str))(g:∀Q:D->Prop,Q a->e ρ Q)(h:∀Q:D->Prop,Q (.str x)->tb ρ Q)(o:x∈ns)(m:ns.length<=1000)(k:∀j:Nat,j<ns.length->ns[j]?=Z x->R (.int (j:Int))):sH (qR e tb) (qz e tb) ρ R:=by
 have c:=Ft o m k;rcases l with rfl|rfl
 ·show .inl (g _ ⟨trivial,h _ (by unfold pZ;show c)⟩)
 ·show .inr (g _ ⟨trivial,h _ (by unfold nT;show c)⟩)
noncomputable def gE(ns:Y Str)(ts:Y Tm):Prop:=(∀t∈ts,t.2∈ns)/\(ts.map (·.2)).Nodup
theorem pV(xs:Y Str):xs.map D.str=(xs.map Ø).map iq:=by rw[LO];rfl
theorem jB{x:Str}{xs:Y Str}:fK (.inr x) (xs.map Ø)=decide (x∈xs):=by rw[Mf,tD,Lj];simp
theorem GG{a:D}{ns:Y Str}(c:a=.tup (ns.map D.str)\/a=.lst (ns.map D.str)):gw a=Z (ns.map D.str):=by rcases c with rfl|rfl<;>rfl
inductive z_sum_entries(ds:List D)(R:D->Prop):Prop|mk (ts:List Tm) (ns:List Str) (at_ d2:D) (_:ds=[.tup (ts.map dQ),d2,at_]) (_:(d2=.tup (ns.map D.str)\/d2=.lst (ns.map D.str))) (_:ns.Nodup) (_:ns.length<=8) (_:ts.length<=900) (_:gE ns ts) (_:R (.tup ((br ns ts).map D.int)))
theorem AA{ts:Y Tm}{i:Nat}{t:Tm}(j:(ts.map (·.2)).Nodup)(h:ts[i]?=Z t):t.2∉(ts.take i).map (·.2):=λc=>by
 rw[Oe]at c;let⟨k,a⟩:=L9 c
 have e:k<i:=by have:=aZ a;rw[KY]at this;omega
 rw[Mg e]at a
 have g:(ts.map (·.2))[i]?=Z t.2:=by rw[Kv,h];rfl
 have:=(Mc (aZ a) j).mp (a.trans g.symm);omega
theorem AJ{n j:Nat}(h:j<n):eT n (j:Int)=Z j:=by unfold eT;rw[Kq (),Kq ()];rfl
theorem Cf{a:Y (aK×D)}{xs:Y Str}{x:Str}(h:a.map (·.1)=xs.map Ø):(eO a (.inr x)).isSome=decide (x∈xs):=by
 rw[xx]
 have e:(a.any λj=>decide (j.1=.inr x))=((a.map (·.1)).any λk=>decide (k=.inr x)):=by rw[OB];rfl
 rw[e,h,OB];by_cases c:x∈xs
 ·rw[Ld c];show Nx.mpr ⟨x,c,by change decide ((Ø x:aK)=.inr x)=ū;rw[Ld S]⟩
 ·rw[KU c];refine Bool.eq_false_iff.mpr λz=>?_;let⟨y,g,e⟩:=Nx.mp z;have:=Ł (KL e);rw[this]at g;show c g
noncomputable abbrev SE(ts:Y Tm)(c:D)(at_:D)(es:Y Int)(a:Y (aK×D))(e g:Ū Sm):aj:=[Z (.v (.tup (ts.map dQ))),Z (.v c),Z (.v at_),Z (.own (es.map D.int)),Z (.ob ũ (.map a)),e,g]
theorem Ic(F:Fun K "sum_entries" "sum_entries" pT f G)(ap:mg "tuple"=ũ)(Q:mg "len"=ũ):FnOk P w K mg base bh (n+1) f G ["terms","names","at"] (lSpM K (zM z_sum_entries)):=by
 refine F.okM qaB (λas R N h=>?_) (λa_ A outer s H E as R N qs X p h J=>?_)
 ·let⟨_,rfl,ts,ns,at_,g,rfl,_⟩:=h;rfl
 let⟨_,rfl,ts,ns,at_,g,rfl,c,U,hl,aA,I,q⟩:=h;obtain rfl:=cu J
 refine⟨_,(aM (ax (i:=3) qaB.nd S Yk (eD (CQ (PD.q (PF.d (eL (af ak ao ar)))) (PD.q (bO bR S Q KO (bj (ae 1) bp aa) aa ah)))))
   (au (ax (i:=4) qaB.nd S Yk Iq)
   (au (fE LQ S (gh (fV (dv 0))) (dJ (n:=2) S (bt (bc (i:=5) qaB.nd S Yk) (bt (bc (i:=6) qaB.nd S Yk) dN))) (aM (aH (aR (ay pW (ae 6) (ae 1) (by with_unfolding_all rfl))) (ai gb) aL)
   (aM (aH (JP 4 p.units (dv 6)) (ai gb) aL)
   (au (G8 4 p.units (dv 6) gD)
   (ai (mZ 3 (ag (dv 5)) (ag (zq (FQ p.units (ae 1) (dv 6) S (bW aa) aa) (AN p.units (ae 1) (dv 6) S (bW aa) aa)))))))))
   (ai (aD (ag (cL fG S ap La (bj (ae 3) bp aa) aa ah))))))),?_⟩
 intro ke;refine⟨λρ=>ρ=[Z (.v (.tup (ts.map dQ))),Z (.v g),Z (.v at_),Z (.own ((br ns []).map D.int)),ũ,ũ,ũ],?_,?_⟩
 ·have e:(br ns []).map D.int=(List.replicate ((((ns.map D.str).length:Nat):Int)).toNat [D.int 0]).flatten:=by rw[AG,Ef,wy,L4,List.map_replicate]
  rw[e];rcases c with rfl|rfl<;>show⟨⟨(),by rw[wy];omega,small (by rw[wy];change 1*_<=1000;omega)⟩,_,S,S⟩
 rintro ρ rfl;refine⟨λi ρ=>∃(a:Y (aK×D))(u y:Ū Sm),a.map (·.1)=((ts.take i).map (·.2)).map Ø/\ρ=SE ts g at_ (br ns (ts.take i)) a u y,⟨[],_,_,S,S⟩,?_,?_⟩
 ·rintro i d ρ hd ⟨a,u,y,o,rfl⟩;let⟨t,rfl,m⟩:=gN hd;have C:=I.1 t (KN m);have z:=AA I.2 m;have hi:=aZ m;have l:=Cf (x:=t.2) o;rw[KU z]at l;refine⟨S,?_⟩;refine⟨λρ=>ρ=SE ts g at_ (br ns (ts.take i)) a (Z (.v (.int t.1))) (Z (.v (.str t.2))),⟨.inr t.2,ns.map Ø,S,by rw[←pV];show GG c,?_⟩,?_⟩
  ·rw[jB,Ld C];show⟨λh=>ff h,λ_=>rfl⟩
  rintro ρ rfl;refine⟨λρ=>ρ=SE ts g at_ (br ns (ts.take i)) a (Z (.v (.int t.1))) (Z (.v (.str t.2))),⟨.inr t.2,S,λh=>?_,λ_=>rfl⟩,?_⟩
  ·rw[vI,l]at h;cases h
  rintro ρ rfl;have B:=fL m
  have M:a.length=(ts.take i).length:=by have:=LW List.length o;rwa [wy,wy,wy]at this
  have O:eO a (.inr t.2)=ũ:=by
   cases e:eO a (.inr t.2)with
   |none=>rfl
   |some v=>rw[e]at l;cases l
  refine⟨trivial,.inr t.2,S,by rw[M,KY];show cq (),_,BZ O,?_⟩;rfl';change sH (qR _ _) (qz _ _) _ _;refine GX c (λ_ h=>h) (λ_ h=>h) C () λj T r=>?_;refine⟨j,AJ (by rw[wy];unfold br;rw[wy];show T),(br ns (ts.take (i+1))).map D.int,?_,_,_,_,?_,S⟩
  ·rw[B,show t=(t.1,t.2)from rfl,Gy U z r,List.map_set]
  ·rw[B,KW,KW,KW,o];rfl
 ·rintro ρ ⟨a,u,y,o,rfl⟩;rw[wy,LL];show q
noncomputable abbrev cy:=Int×Ū Int
noncomputable abbrev Rw:=Y Int×Int
noncomputable def cZ(b:cy):D:=.tup [.int b.1,jm b.2]
noncomputable def bK(r:Rw):D:=.tup [.tup (r.1.map D.int),.int r.2]
noncomputable def iU(r:Rw):Rw:=(r.1.map λx=>-x,-r.2)
inductive z_turned(ds:List D)(R:D->Prop):Prop|mk (r:Rw) (_:ds=[bK r]) (_:r.1.length<=1000) (_:R (bK (iU r)))
theorem Do(F:Fun K "turned" "turned" kM f G)(e:mg "tuple"=ũ):FnOk P w K mg base bh (n+1) f G ["row"] (lSpM K (zM z_turned)):=by
 refine F.okM Ah (λas R c h=>?_) (λl A outer s H E as R c p j m h a=>?_)
 ·let⟨_,rfl,r,rfl,_⟩:=h;rfl
 let⟨_,rfl,r,rfl,g,q⟩:=h;obtain rfl:=cu a;refine⟨_,(ai (aD (ag (aO (af (cL fG S e La (bj (PD.q (PF.d (g9 (k:=1) (N':=["entry"]) (cap:=[ũ]) S (.ok (show eC ["row"] (aF kM) _ ["entry"] [ũ]=ū by lia)) 'a' (eB 'b') (fV (av (ae 0))) (λ_ _ _ _ _=>(eA (i:=0) (show List.Nodup (["entry"]:Y Str)by lia) S Yk)) (λ_ _ _ _ _=>(eG (ae 0)))))) bp dM) dM ah) (af (eG (PD.q (av (ae 0)))) ao r8) bX))))),?_⟩;intro o;refine⟨_,S,?_⟩;refine oE (f:=D.int) (λx=>-x) (cq g) (λx _=>rfl) ?_;show⟨_,S,q⟩
theorem jv(es:Y Int):NoL (.tup (es.map D.int)):=.tup λd hd=>by let⟨x,_,rfl⟩:=KP.mp hd;show .int x
theorem km(r:Rw):NoL (bK r):=.tup λd hd=>by
 simp only[Kz,KR,LC]at hd;rcases hd with rfl|rfl
 ·show jv _
 ·show .int _
theorem my(b:cy):NoL (cZ b):=.tup λd hd=>by
 simp only[Kz,KR,LC]at hd;rcases hd with rfl|rfl
 ·show .int _
 ·cases b.2
  ·show .non
  ·show .int _
structure Rd where
 ns:List Str
 bs:List cy
 rs:List Rw
 wo:Option Rw
noncomputable def sC:Ū Rw->D
 |none=>.non
 |some w=>bK w
noncomputable def ed(s:Rd):Y (Str×Fl):=[("names",.l (s.ns.map D.str)),("bounds",.l (s.bs.map cZ)),("rows",.l (s.rs.map bK)),("worth",.v (sC s.wo))]
noncomputable abbrev er(s:Rd):Om:=.obj "Reading" (ed s)
noncomputable def rW:Rd:=⟨[],[],[],ũ⟩
structure RdOk(s:Rd):Prop where
 nd:s.ns.Nodup
 nl:s.ns.length<=8
 rl:s.rs.length<=12
 bl:s.bs.length<=8
noncomputable def mT(s:Rd)(x:Str)(l:Int)(m:Ū Int):Rd:={ s with ns:=s.ns++[x],bs:=s.bs++[(l,m)] }
noncomputable def mR(s:Rd)(ts:Y Tm)(b:Int)(t:Bool):Rd:={ s with rs:=s.rs++[if t then iU (br s.ns ts,b) else (br s.ns ts,b)] }
noncomputable def vk(s:Rd)(ts:Y Tm)(sn:Int):Rd:={ s with wo:=Z (br s.ns ts,sn) }
inductive StepOk(s:Rd):Frm->Rd->Prop where
 |unk {x:Str} {l:Int} {m:Option Int}:s.rs=[]->x∉s.ns->s.ns.length<8->StepOk s (.unk x l m) (mT s x l m)
 |row {ts:List Tm} {b:Int} {t:Bool}:gE s.ns ts->ts.length<=900->s.rs.length<12->StepOk s (.row ts b t) (mR s ts b t)
 |worth {ts:List Tm} {sn:Int}:gE s.ns ts->ts.length<=900->StepOk s (.worth ts sn) (vk s ts sn)
inductive y_Reading____init__(as:List Sm)(R:Sm->List Om->Prop)(Rx:XD->List Om->Prop):Prop|mk (a:Option Addr) (_:as=[.ob a (.obj "Reading" [])]) (_:R (.v .non) [er rW])
theorem Gq(F:Fun K "__init__" "Reading.__init__" nY f G){e:Addr}(c:TxtReading K mg e):FnOk P w K mg base bh (n+1) f G ["self"] (lSpM K y_Reading____init__):=by
 refine F.okM zj (λas R j h=>?_) (λm A outer s H E as R j t l o h g=>?_)
 ·let⟨a,rfl,_⟩:=h;rfl
 let⟨a,rfl,q⟩:=h;let⟨r,rfl⟩:=dG g
 refine⟨_,(au (mI 0 c.cl c.n_names c.ns (eD (eL ao)))
   (au (mI 0 c.cl c.n_bounds c.ns (eD (eL ao)))
   (au (mI 0 c.cl c.n_rows c.ns (eD (eL ao)))
   (ai (lu 0 c.cl c.n_worth c.ns (ag bE)))))),?_⟩
 intro p;refine⟨_,_,S,S,'b',_,S,?_⟩;refine⟨_,_,S,S,(by change 1<1000;decide),_,S,?_⟩;refine⟨_,_,S,S,(by change 2<1000;decide),_,S,?_⟩;refine⟨_,_,S,S,(by change 3<1000;decide),ed rW,S,?_⟩;show⟨_,S,q⟩
inductive y_Reading__read_unknown(as:List Sm)(R:Sm->List Om->Prop)(Rx:XD->List Om->Prop):Prop|mk (a:Option Addr) (s:Rd) (x:Str) (l:Int) (m:Option Int) (at_:D) (_:as=[.ob a (er s),.v (fi (.unk x l m)),.v at_]) (_:RdOk s) (_:s.rs=[]) (_:x∉s.ns) (_:s.ns.length<8) (_:R (.v .non) [er (mT s x l m)])
theorem GS(F:Fun K "read_unknown" "Reading.read_unknown" mL f G){o:Addr}(c:TxtReading K mg o)(r:∃z,mg "MOST_UNKNOWNS"=Z (.int 8 z))(g:mg "len"=ũ):FnOk P w K mg base bh (n+1) f G ["self","form","at"] (lSpM K y_Reading__read_unknown):=by
 refine F.okM JL (λas R t h=>?_) (λC A outer s H E as R t O B v h p=>?_)
 ·let⟨a,s,x,l,m,at_,rfl,_⟩:=h;rfl
 let⟨a,s,x,l,m,at_,rfl,j,u,y,J,q⟩:=h;let⟨e,rfl⟩:=dG p
 refine⟨_,(aM (aH (jr (ay jE (PD.q (bO bR S g KO (bj (PD.q (di c.cl c.n_rows c.ns (ae 0))) bp cU) cU ah)) (PD.q ak) (aw _))) (ai gb) aL)
   (aM (aH (jr (ay kB (PD.q (av (ae 1))) (PD.q (di c.cl c.n_names c.ns (ae 0))) (by with_unfolding_all rfl))) (ai gb) aL)
   (aM (aH (jr (ay (bz v.units) (PD.q (bO bR S g KO (bj (PD.q (di c.cl c.n_names c.ns (ae 0))) bp cU) cU ah)) (PD.q (jS S r.choose_spec)) (aw _))) (ai gb) aL)
   (au (oa 0 c.cl c.n_names c.ns (av (ae 1)) (bW az) az)
   (ai (oa 0 c.cl c.n_bounds c.ns (av (ae 1)) (bW az) az)))))),?_⟩
 intro M;have N:=j.nl;have I:=j.bl;refine⟨λρ=>ρ=[Z (.ob (Z e) (er s)),Z (.v (fi (.unk x l m))),Z (.v at_)],⟨S,_,S,λh=>?_,λ_=>rfl⟩,?_⟩
 ·rw[u]at h;show ff h
 rintro ρ rfl;refine⟨λρ=>ρ=[Z (.ob (Z e) (er s)),Z (.v (fi (.unk x l m))),Z (.v at_)],⟨_,S,S,_,S,.inr x,s.ns.map Ø,S,by rw[←pV];rfl,?_⟩,?_⟩
 ·rw[jB,KU y];show⟨λh=>ff h,λ_=>rfl⟩
 rintro ρ rfl;refine⟨λρ=>ρ=[Z (.ob (Z e) (er s)),Z (.v (fi (.unk x l m))),Z (.v at_)],⟨S,_,S,λh=>?_,λ_=>rfl⟩,?_⟩
 ·have:=dq h;rw[wy]at this;omega
 rintro ρ rfl;refine⟨_,_,s.ns.map D.str,S,S,_,S,.str _,cq (by rw[wy];omega),ed { s with ns:=s.ns++[x] },(by change _=ed _;rw[ed,ed,KW];rfl),?_⟩;refine⟨_,_,s.bs.map cZ,S,S,_,S,my (l,m),cq (by rw[wy];omega),ed (mT s x l m),(by change _=ed _;rw[ed,ed,mT,KW,KW];rfl),?_⟩;show⟨_,S,q⟩
inductive y_Reading__read_row(as:List Sm)(R:Sm->List Om->Prop)(Rx:XD->List Om->Prop):Prop|mk (a:Option Addr) (s:Rd) (ts:List Tm) (b:Int) (t:Bool) (at_:D) (_:as=[.ob a (er s),.v (fi (.row ts b t)),.v at_]) (_:RdOk s) (_:gE s.ns ts) (_:ts.length<=900) (_:s.rs.length<12) (_:R (.v .non) [er (mR s ts b t)])
theorem Cc(F:Fun K "read_row" "Reading.read_row" pG f G){m:Addr}(c:TxtReading K mg m)(C:Cl P w K mg base n "sum_entries" ["terms","names","at"] z_sum_entries)(J:Cl P w K mg base n "turned" ["row"] z_turned)(p:∃M,mg "MOST_ROWS"=Z (.int 12 M))(y:mg "len"=ũ):FnOk P w K mg base bh (n+1) f G ["self","form","at"] (lSpM K y_Reading__read_row):=by
 refine F.okM qac (λas R u h=>?_) (λO A outer s H E as R u T N j h o=>?_)
 ·let⟨a,s,ts,b,t,at_,rfl,_⟩:=h;rfl
 let⟨a,s,ts,b,t,at_,rfl,l,B,x,z,q⟩:=h;let⟨I,rfl⟩:=dG o
 refine⟨_,(au (ax (i:=3) qac.nd S Yk (hG (bP C j S (af (av (ae 1)) (af (di c.cl c.n_names c.ns (ae 0)) (af (dv 2) ao aa) cU) az) az (aG cU (aG aa ah)))))
   (aM (aH (jr (ay (bz j.units) (PD.q (bO bR S y KO (bj (PD.q (di c.cl c.n_rows c.ns (ae 0))) bp cU) cU ah)) (PD.q (jS S p.choose_spec)) (aw _))) (ai gb) aL)
   (au (ax (i:=4) qac.nd S Yk (ag (aO (af (dv 3) (af (av (ae 1)) ao az) aa))))
   (ai (oa 0 c.cl c.n_rows c.ns (jn (gu (PD.q (av (ae 1))) (λ_=>rfl)) (bP J j S (af (dv 4) ao aa) aa ah) (dv 4)) (bW pR) pR))))),?_⟩
 intro Q;have U:=l.nl;refine⟨_,S,S,_,S,ts,s.ns,at_,_,S,.inr S,l.nd,l.nl,x,B,jv _,?_⟩;rfl';refine⟨λρ=>ρ=[Z (.ob (Z I) (er s)),Z (.v (fi (.row ts b t))),Z (.v at_),Z (.v (.tup ((br s.ns ts).map D.int))),ũ],⟨S,_,S,λh=>?_,λ_=>rfl⟩,?_⟩
 ·have:=dq h;rw[wy]at this;omega
 rintro ρ rfl;refine⟨_,S,?_⟩;rfl'
 have v:(br s.ns ts).length<=1000:=by unfold br;rw[wy];omega
 have g:∀r:Rw,(if t then iU (br s.ns ts,b) else (br s.ns ts,b))=r->fb "rows" (.l (s.rs.map bK++[bK r])) (ed s)=ed (mR s ts b t):=λr e=>by
  unfold mR;rw[e];change _=ed _;rw[ed,ed,KW];rfl
 cases t with
 |true=>show⟨_,_,s.rs.map bK,S,S,_,S,λ_=>⟨(br s.ns ts,b),S,v,km _,cq (by rw[wy];omega),_,g _ S,_,S,q⟩,λh=>tf h⟩
 |false=>show⟨_,_,s.rs.map bK,S,S,_,S,λh=>ff h,λ_=>⟨km (br s.ns ts,b),cq (by rw[wy];omega),_,g _ S,_,S,q⟩⟩
inductive y_Reading__read_line(as:List Sm)(R:Sm->List Om->Prop)(Rx:XD->List Om->Prop):Prop|mk (a:Option Addr) (s s':Rd) (x:Str) (f:Frm) (at_:D) (_:as=[.ob a (er s),.v (.str x),.v at_]) (_:RdOk s) (_:dH x) (_:x.length<=900) (_:il x=Z f) (_:s.wo=ũ) (_:StepOk s f s') (_:R (.v .non) [er s'])
theorem C2(F:Fun K "read_line" "Reading.read_line" og f G){m:Addr}(c:TxtReading K mg m)(O:Cl P w K mg base n "line_form" ["line"] z_line_form)(M:Cl P w K mg base n "sum_entries" ["terms","names","at"] z_sum_entries)(t:MthM P w K mg base n m "read_unknown" ["self","form","at"] y_Reading__read_unknown)(y:MthM P w K mg base n m "read_row" ["self","form","at"] y_Reading__read_row):FnOk P w K mg base bh (n+1) f G ["self","line","at"] (lSpM K y_Reading__read_line):=by
 refine F.okM qab (λas R z h=>?_) (λap A outer s H E as R z U Q e h u=>?_)
 ·let⟨a,s,s',x,f,at_,rfl,_⟩:=h;rfl
 let⟨a,s,s',x,f,at_,rfl,l,J,C,B,I,v,q⟩:=h;let⟨p,rfl⟩:=dG u
 refine⟨_,(au (ax (i:=3) qab.nd S Yk (ag (bP O e S (af (dv 1) ao aa) aa ah)))
   (aM (aH (jr (PWD.td (eo (ay eX (ae 3) (PD.q bE) (aw _)) (ft (ay rF (PD.q (di c.cl c.n_worth c.ns (ae 0))) (PD.q bE) (aw _)))))) (ai gb) aL)
   (ai (aH (aR (ay (bz e.units) (PD.q (av (ae 3))) (PD.q aC) (aw _))) (ai (kq (jO 0 t e c.cl c.ns (aQ (ag (dv 3)) (aQ (ag (dv 2)) bq aa) aa) aa (aG aa ah)))) (ai (aH (aR (ay (bz e.units) (PD.q (av (ae 3))) (PD.q aC) (aw _))) (ai (kq (jO 0 y e c.cl c.ns (aQ (ag (dv 3)) (aQ (ag (dv 2)) bq aa) aa) aa (aG aa ah)))) (ai (lu 0 c.cl c.n_worth c.ns (hG (aO (af (bP M e S (af (av (ae 3)) (af (di c.cl c.n_names c.ns (ae 0)) (af (dv 2) ao aa) cU) az) az (aG cU (aG aa ah))) (af (av (ae 3)) ao az) bX))))))))))),?_⟩
 intro T;refine⟨x,S,J,C,?_⟩;rw[B]
 have r:sC s.wo=.non:=by rw[I];rfl
 cases v with
 | @unk nx nl nm g j o=>
  rfl';refine⟨λρ=>ρ=[Z (.ob (Z p) (er s)),Z (.v (.str x)),Z (.v at_),Z (.v (fi (.unk nx nl nm)))],⟨λh=>ff h,λ_=>⟨S,_,S,?_⟩⟩,?_⟩
  ·rw[r];show⟨λh=>ff h,λ_=>rfl⟩
  rintro ρ rfl;show⟨_,S,λ_=>⟨⟨_,_,S,S⟩,_,S,S,_,s,_,_,_,at_,S,l,g,j,o,_,S,q⟩,λh=>tf h⟩
 | @row ts nb N g j o=>
  rfl';refine⟨λρ=>ρ=[Z (.ob (Z p) (er s)),Z (.v (.str x)),Z (.v at_),Z (.v (fi (.row ts nb N)))],⟨λh=>ff h,λ_=>⟨S,_,S,?_⟩⟩,?_⟩
  ·rw[r];show⟨λh=>ff h,λ_=>rfl⟩
  rintro ρ rfl;show⟨_,S,λh=>ff h,λ_=>⟨_,S,λ_=>⟨⟨_,_,S,S⟩,_,S,S,_,s,_,_,_,at_,S,l,g,j,o,_,S,q⟩,λh=>tf h⟩⟩
 | @worth ts sn g j=>
  rfl';refine⟨λρ=>ρ=[Z (.ob (Z p) (er s)),Z (.v (.str x)),Z (.v at_),Z (.v (fi (.worth ts sn)))],⟨λh=>ff h,λ_=>⟨S,_,S,?_⟩⟩,?_⟩
  ·rw[r];show⟨λh=>ff h,λ_=>rfl⟩
  rintro ρ rfl;refine⟨_,S,λh=>ff h,λ_=>⟨_,S,λh=>ff h,λ_=>⟨_,S,S,_,S,ts,s.ns,at_,_,S,.inr S,l.nd,l.nl,j,g,_,S,km (br s.ns ts,sn),?_⟩⟩⟩;show⟨_,_,S,S,(by change 4<1000;decide),ed (vk s ts sn),S,_,S,q⟩
open Tx
inductive z_turned_numbers(ds:List D)(R:D->Prop):Prop|mk (es:List Int) (_:ds=[.tup (es.map D.int)]) (_:es.length<=1000) (_:R (.tup ((es.map λx=>-x).map D.int)))
theorem AD(F:Fun K "turned_numbers" "turned_numbers" mm f G)(e:mg "tuple"=ũ):FnOk P w K mg base bh (n+1) f G ["entries"] (lSpM K (zM z_turned_numbers)):=by
 refine F.okM HR (λas R c h=>?_) (λl A outer s H E as R c p j m h a=>?_)
 ·let⟨_,rfl,es,rfl,_⟩:=h;rfl
 let⟨_,rfl,es,rfl,g,q⟩:=h;obtain rfl:=cu a;refine⟨_,(ai (aD (ag (cL fG S e La (bj (PD.q (PF.d (g9 (k:=1) (N':=["entry"]) (cap:=[ũ]) S (.ok (show eC ["entries"] (aF mm) _ ["entry"] [ũ]=ū by lia)) 'a' (eB 'b') (fV (dv 0)) (λ_ _ _ _ _=>(eA (i:=0) (show List.Nodup (["entry"]:Y Str)by lia) S Yk)) (λ_ _ _ _ _=>(eG (ae 0)))))) bp dM) dM ah)))),?_⟩;intro o;refine oE (f:=D.int) (λx=>-x) (cq g) (λx _=>rfl) ?_;show q
noncomputable def bT(sn:Int)(es:Y Int):Y Int:=if sn = -1 then es.map λx=>-x else es
theorem rG{f:Frm}(h:eI f)(e:(aP f).length<=900):dH (aP f):=by
 refine⟨?_,()⟩;rw[←M0,KZ];intro c a;have:=vz h c a;show Ld ()
theorem kg{s:Str}:∀{ws:Y Str}{B:Nat},(∀w∈ws,w.length<=B)->(Str.join s ws).length<=ws.length*(B+s.length)
 | [],B,_=>by change 0<=_;omega
 | [x],B,h=>by
  have:=h x Ku;change x.length<=1*(B+s.length);omega
 |x::y::r,B,h=>by
  have e:=h x Ku;have a:=kg (s:=s) (ws:=y::r) (B:=B) λw c=>h w (Kt _ c);change (x++s++Str.join s (y::r)).length<=_;rw[gf,gf];simp only[KA]at a ⊢;rw[Nat.succ_mul];omega
open Tx
structure Rdg(fs:List Frm)(g:Nat->Rd):Prop where
 z:g 0=rW
 st:∀(i:Nat)(f:Frm),fs[i]?=Z f->StepOk (g i) f (g (i+1))/\(g i).wo=ũ
 ok:∀i,RdOk (g i)
noncomputable def rO(s:Rd)(es:Y Int)(sn:Int):D:=.tup [.tup (s.ns.map D.str),.tup [.tup (s.bs.map cZ),.tup (s.rs.map bK),.tup ((bT sn es).map D.int)],.int sn]
inductive z_read_plan(ds:List D)(R:D->Prop):Prop|mk (fs:List Frm) (g:Nat->Rd) (es:List Int) (sn:Int) (_:ds=[.str (Str.join "\n" (fs.map aP))]) (_:fs≠[]) (_:fs.length<=40) (_:(∀f∈fs,eI f/\(aP f).length<=900)) (_:Rdg fs g) (_:(g fs.length).wo=Z (es,sn)) (_:es.length<=1000) (_:R (rO (g fs.length) es sn))
noncomputable abbrev SP(x:D)(s:Rd)(a:Y Str)(c e g h j:Ū Sm):aj:=[Z (.v x),Z (.ob ũ (er s)),Z (.v (.lst (a.map D.str))),c,e,g,h,j]
theorem HW(F:Fun K "read_plan" "read_plan" mV f G){t:Addr}(a:TxtReading K mg t)(mC:Cl P w K mg base (n+1) "turned_numbers" ["entries"] z_turned_numbers)(Q:MkM P w K mg base n t ["self"] y_Reading____init__)(O:MthM P w K mg base (n+1) t "read_line" ["self","line","at"] y_Reading__read_line)(t6:mg "enumerate"=ũ)(v:mg "tuple"=ũ)(aI:mg "len"=ũ):FnOk P w K mg base bh (n+2) f G ["text"] (lSpM K (zM z_read_plan)):=by
 refine F.okM qay (λas R ap h=>?_) (λPh A outer s H E as R ap qs Pg p h N=>?_)
 ·let⟨_,rfl,fs,g,es,sn,rfl,_⟩:=h;rfl
 let⟨_,rfl,fs,g,es,sn,rfl,M,hl,z,m,r,T,q⟩:=h;obtain rfl:=cu N
 refine⟨_,(au (ax (i:=1) qay.nd S Yk (tV Q p S a.mgC a.ns))
   (au (ax (i:=2) qay.nd S Yk (ag (PF.d (p8 (ae 0) aC (bW ar) ar))))
   (au (fE LQ S (gh (Fk S t6 (af (dv 2) ao aa))) (dJ (n:=2) S (bt (bc (i:=3) qay.nd S Yk) (bt (bc (i:=4) qay.nd S Yk) dN))) (ai (kq (jO 1 O p a.cl a.ns (aQ (ag (dv 4)) (aQ (ag (aT bx (ae 3) (PD.q ak))) bq bN) aa) aa (aG bN ah)))))
   (aM (aH (jr (ay eX (PD.q (di a.cl a.n_worth a.ns (ae 1))) (PD.q bE) (aw _))) (ai gb) aL)
   (au (ax (i:=5) qay.nd S Yk (hG (av (PD.q (di a.cl a.n_worth a.ns (ae 1))))))
   (au (ax (i:=6) qay.nd S Yk (hG (av (PD.q (di a.cl a.n_worth a.ns (ae 1))))))
   (aM (aH (aR (ay (bz p.units) (ae 6) (PD.q (eG (PD.q ak))) (aw _))) (ai (ax (i:=5) qay.nd S Yk (ag (bP mC p S (af (dv 5) ao aa) aa ah)))) aL)
   (au (ax (i:=7) qay.nd S Yk (hG (aO (af (cL fG S v La (bj (PD.q (di a.cl a.n_bounds a.ns (ae 1))) bp cU) cU ah) (af (cL fG S v La (bj (PD.q (di a.cl a.n_rows a.ns (ae 1))) bp cU) cU ah) (af (dv 5) ao aa) bX) bX))))
   (ai (aD (hG (aO (af (cL fG S v La (bj (PD.q (di a.cl a.n_names a.ns (ae 1))) bp cU) cU ah) (af (dv 7) (af (dv 6) ao aa) aa) bX))))))))))))),?_⟩
 intro ke;have U:=ud M λf u=>(z f u).1
 have WL:(Str.join "\n" (fs.map aP)).length<=100000:=by
  have:=kg (s:="\n") (ws:=fs.map aP) (B:=900) λw r=>by let⟨f,u,rfl⟩:=KP.mp r;show (z f u).2
  have e:("\n":Str).length=1:=by decide
  rw[e,wy]at this;omega
 have aA:=m.ok fs.length;refine⟨ũ,S,?_⟩;rfl';refine⟨_,S,_,S,'b',by have:=LD;omega,?_⟩;rw[U];rfl';refine⟨λi ρ=>∃j l:Ū Sm,ρ=SP (.str (Str.join "\n" (fs.map aP))) (g i) (fs.map aP) j l ũ ũ ũ,⟨_,_,by rw[m.z];rfl⟩,?_,?_⟩
 ·rintro i d ρ hd ⟨j,l,rfl⟩;let⟨y,hy,rfl⟩:=vf hd;let⟨x,rfl,J⟩:=gN hy;rw[Kv]at J;let⟨f,C,rfl⟩:=MB.mp J;let⟨X,a_⟩:=m.st i f C;have o:=z f (KN C);refine⟨S,?_⟩;rfl';refine⟨⟨_,_,S,S⟩,_,S,S,_,g i,g (i+1),aP f,f,_,S,m.ok i,rG o.1 o.2,o.2,uy o.1,a_,X,_,_,S⟩
 rintro ρ ⟨j,l,rfl⟩;rw[sJ,wy,wy];refine⟨λρ=>ρ=SP (.str (Str.join "\n" (fs.map aP))) (g fs.length) (fs.map aP) j l ũ ũ ũ,⟨S,_,S,?_⟩,?_⟩
 ·rw[r];show⟨λh=>ff h,λ_=>rfl⟩
 rintro ρ rfl
 have I:sC (g fs.length).wo=bK (es,sn):=by rw[r];rfl
 refine⟨S,_,S,?_⟩;rw[I];refine⟨_,S,jv _,?_⟩;rfl';refine⟨S,_,S,?_⟩;rw[I];refine⟨_,S,.int _,?_⟩;rfl';refine⟨λρ=>ρ=SP (.str (Str.join "\n" (fs.map aP))) (g fs.length) (fs.map aP) j l (Z (.v (.tup ((bT sn es).map D.int)))) (Z (.v (.int sn))) ũ,⟨λh=>?_,λh=>?_⟩,?_⟩
 ·have h:=dq h;show⟨es,S,T,by unfold bT;rw[Kq h];rfl⟩
 ·have h:=i7 h;unfold bT;rw[Kr h];rfl
 rintro ρ rfl;refine⟨S,_,S,S,_,S,?_,?_⟩
 ·refine .tup λd hd=>?_;simp only[Kz,KR,LC]at hd;rcases hd with rfl|rfl|rfl
  ·refine .tup λe c=>?_;let⟨b,_,rfl⟩:=KP.mp c;show my b
  ·refine .tup λe c=>?_;let⟨b,_,rfl⟩:=KP.mp c;show km b
  ·show jv _
 rfl';refine⟨S,_,S,?_,q⟩;refine .tup λd hd=>?_;simp only[Kz,KR,LC]at hd;rcases hd with rfl|rfl|rfl
 ·refine .tup λe c=>?_;let⟨b,_,rfl⟩:=KP.mp c;show .str b
 ·refine .tup λd hd=>?_;simp only[Kz,KR,LC]at hd;rcases hd with rfl|rfl|rfl
  ·refine .tup λe c=>?_;let⟨b,_,rfl⟩:=KP.mp c;show my b
  ·refine .tup λe c=>?_;let⟨b,_,rfl⟩:=KP.mp c;show km b
  ·show jv _
 ·show .int _
open Tx
theorem dh(s x y:Str)(r:Y Str):Str.join s (x::y::r)=x++s++Str.join s (y::r):=rfl
theorem ya:("unknown ":Str)="unknown"++" ":=by decide
theorem xX:(" from ":Str)=" "++("from"++" "):=by decide
theorem Fv:(" to ":Str)=" "++("to"++" "):=by decide
theorem Hq:(" + ":Str)=" "++("+"++" "):=by decide
theorem yj:("row ":Str)="row"++" ":=by decide
theorem GY:(" at least ":Str)=" "++("at"++(" "++("least"++" "))):=by decide
theorem Ht:(" at most ":Str)=" "++("at"++(" "++("most"++" "))):=by decide
theorem II:("most ":Str)="most"++" ":=by decide
theorem G1:("least ":Str)="least"++" ":=by decide
theorem lL(x:Str)(l:Int):"unknown "++(x++(" from "++nstr l))=aP (.unk x l ũ):=by unfold aP cA;rw[dh,dh,dh,ya,xX];simp only[Lo];rfl
theorem rZ(x:Str)(l m:Int):"unknown "++(x++(" from "++(nstr l++(" to "++nstr m))))=aP (.unk x l (Z m)):=by unfold aP cA;rw[dh,dh,dh,dh,dh,ya,xX,Fv];simp only[Lo];rfl
theorem iZ{s:Str}:∀{xs ys:Y Str},xs≠[]->ys≠[]->Str.join s (xs++ys)=Str.join s xs++(s++Str.join s ys)
 | [],_,h,_=>absurd S h
 | [x],y::ys,_,_=>by rw[List.singleton_append,dh,Lo];rfl
 | [x],[],_,h=>absurd S h
 |x::a::xs,ys,_,h=>by rw[MZ,MZ,dh,dh,←MZ,iZ (xs:=a::xs) (by simp) h];simp only[Lo]
theorem lK:∀ts:Y Tm,aY ts≠[]
 | []=>by simp[aY]
 | [(n,x)]=>by simp[aY]
 |(n,x)::_::_=>by simp[aY]
noncomputable def cT(t:Tm):Str:=nstr t.1++(" "++t.2)
theorem kJ:∀{ts:Y Tm},ts≠[]->Str.join " + " (ts.map cT)=Str.join " " (aY ts)
 | [],h=>absurd S h
 | [(n,x)],_=>by change cT (n,x)=Str.join " " [nstr n,x];rw[dh,Lo];rfl
 |(n,x)::(m,y)::r,_=>by
  have a:=kJ (ts:=(m,y)::r) (by simp);change Str.join " + " (cT (n,x)::cT (m,y)::r.map cT)=Str.join " " ([nstr n,x,"+"]++aY ((m,y)::r));rw[dh,iZ (by simp) (lK _)];have a:Str.join " + " (cT (m,y)::r.map cT)=_:=a;rw[a];change (nstr n++(" "++x))++" + "++_=Str.join " " [nstr n,x,"+"]++_;rw[dh,dh,Hq];simp only[Lo];rfl
noncomputable def cB(ts:Y Tm):Str:=Str.join " " (aY ts)
theorem vC(ts:Y Tm)(b:Int):"row "++(cB ts++(" at least "++nstr b))=aP (.row ts b Ŭ):=by
 unfold cB;change _=Str.join " " (("row":Str)::(aY ts++cW Ŭ b));have e:("row":Str)::(aY ts++cW Ŭ b)=[("row":Str)]++(aY ts++cW Ŭ b):=rfl;rw[e,iZ (by simp) (by simp[cW]),iZ (lK ts) (by simp[cW]),yj,GY];change _="row"++(" "++(Str.join " " (aY ts)++(" "++Str.join " " [("at":Str),"least",nstr b])));rw[dh,dh];simp only[Lo];rfl
theorem zY(ts:Y Tm)(b:Int):"row "++(cB ts++(" at most "++nstr b))=aP (.row ts b ū):=by
 unfold cB;change _=Str.join " " (("row":Str)::(aY ts++cW ū b));have e:("row":Str)::(aY ts++cW ū b)=[("row":Str)]++(aY ts++cW ū b):=rfl;rw[e,iZ (by simp) (by simp[cW]),iZ (lK ts) (by simp[cW]),yj,Ht];change _="row"++(" "++(Str.join " " (aY ts)++(" "++Str.join " " [("at":Str),"most",nstr b])));rw[dh,dh];simp only[Lo];rfl
theorem jM(ts:Y Tm):"most "++cB ts=aP (.worth ts 1)/\"least "++cB ts=aP (.worth ts (-1)):=by
 have e:∀x:Str,x::aY ts=[x]++aY ts:=λ_=>rfl;constructor
 ·unfold cB;change _=Str.join " " (("most":Str)::aY ts);rw[e,iZ (by simp) (lK ts),II,Lo];rfl
 ·unfold cB;change _=Str.join " " (("least":Str)::aY ts);rw[e,iZ (by simp) (lK ts),G1,Lo];rfl
noncomputable def bC(ns:Y Str)(es:Y Int):Y Tm:=(es.zip ns).filter λt=>decide (t.1≠0)
theorem rJ{ns:Y Str}{es:Y Int}{t:Tm}(h:t∈bC ns es):t.1∈es/\t.2∈ns/\t.1≠0:=by let⟨a,c⟩:=M6.mp h;let⟨e,g⟩:=MH (show (t.1,t.2)∈es.zip ns from a);show⟨e,g,KL c⟩
theorem xn:∀(es:Y Int)(ns:Y Str),((es.zip ns).map (·.2)).Sublist ns
 | [],ns=>by simp
 |_::_,[]=>by simp
 |e::es,n::ns=>by rw[List.zip_cons_cons,K1];show (xn es ns).cons₂ n
theorem pU{ns:Y Str}{es:Y Int}(c:ns.Nodup):gE ns (bC ns es):=by
 refine⟨λt e=>(rJ e).2.1,?_⟩;have a:((es.zip ns).map (·.2)).Nodup:=c.sublist (xn es ns);show a.sublist (List.Sublist.map _ List.filter_sublist)
theorem Bf{ns:Y Str}{es:Y Int}(z:ns.Nodup){i:Nat}{x:Str}{e:Int}(a:ns[i]?=Z x)(g:es[i]?=Z e):look (bC ns es) x=e:=by
 have y:(e,x)∈es.zip ns:=by rw[O1];show⟨i,by rw[M9];show⟨g,a⟩⟩
 unfold look
 cases h:(bC ns es).find? (λt=>decide (t.2=x))with
 |none=>
  by_cases c:e=0
  ·show c.symm
  ·have:=Nh.mp h (e,x) (M6.mpr ⟨y,Ld c⟩);simp at this
 |some t=>
  have r:t.2=x:=KL (List.find?_some (p:=λt:Tm=>decide (t.2=x)) h);have u:=(M6.mp (Nb h)).1;let⟨j,v⟩:=O1.mp u;let⟨l,m⟩:=M9.mp v;rw[r]at m;have o:=(Mc (aZ a) z).mp (a.trans m.symm);subst o;rw[g]at l;show (K2 l).symm
theorem qb{ns:Y Str}{es:Y Int}(e:ns.Nodup)(h:es.length=ns.length):br ns (bC ns es)=es:=by
 unfold br;refine LA λi=>?_;rw[Kv]
 cases a:ns[i]? with
 |none=>
  have:ns.length<=i:=L3.mp a;rw[Lc ()];rfl
 |some x=>
  have g:=aZ a;have c:es[i]?=Z es[i]:=KG ();rw[c];change Z (look _ x)=_;rw[Bf e a c]
noncomputable abbrev jf:=Y Tm×Int×Bool
noncomputable def jl(ns:Y Str)(r:jf):Rw:=if r.2.2 then iU (br ns r.1,r.2.1) else (br ns r.1,r.2.1)
noncomputable def fD(ns:Y Str)(bs:Y cy)(rs:Y jf)(wts:Y Tm)(sn:Int):Y Frm:=(List.zipWith (λx b=>Frm.unk x b.1 b.2) ns bs)++(rs.map (λr=>Frm.row r.1 r.2.1 r.2.2)++[Frm.worth wts sn])
open Tx
noncomputable def eM(ns:Y Str)(bs:Y cy)(rs:Y jf)(wts:Y Tm)(sn:Int)(i:Nat):Rd:=
 if i<=ns.length then ⟨ns.take i,bs.take i,[],ũ⟩ else if i<=ns.length+rs.length then ⟨ns,bs,(rs.take (i-ns.length)).map (jl ns),ũ⟩ else ⟨ns,bs,rs.map (jl ns),Z (br ns wts,sn)⟩
theorem qQ{ns:Y Str}{bs:Y cy}{rs:Y jf}{wts:Y Tm}{sn:Int}(a:bs.length=ns.length){k:Nat}(e:k<=rs.length):eM ns bs rs wts sn (ns.length+k)=⟨ns,bs,(rs.take k).map (jl ns),ũ⟩:=by
 unfold eM;by_cases c:k=0
 ·subst c;rw[Kq (),Nat.add_zero,LL,←a,LL];rfl
 ·rw[Kr (),Kq (),LN]
theorem ID{ns:Y Str}{bs:Y cy}{rs:Y jf}{wts:Y Tm}{sn:Int}(l:ns.Nodup)(t:ns.length<=8)(h:bs.length=ns.length)(A:rs.length<=12)(C:∀r∈rs,gE ns r.1/\r.1.length<=900)(E:gE ns wts)(u:wts.length<=900):Rdg (fD ns bs rs wts sn) (eM ns bs rs wts sn):=by
 have F:(List.zipWith (λx b=>Frm.unk x b.1 b.2) ns bs).length=ns.length:=by rw[Mw,h,OI]
 refine⟨by unfold eM;rw[Kq (),O2,O2];rfl,λi f a=>?_,λi=>?_⟩
 ·unfold fD at a;rcases K7 i ns.length with c|c
  ·rw[Kn (),MT]at a;have e:ns[i]?=Z ns[i]:=KG c;have p:bs[i]?=Z (bs[i]'()):=KG ();rw[e,p]at a;cases a
   have y:eM ns bs rs wts sn i=⟨ns.take i,bs.take i,[],ũ⟩:=by unfold eM;rw[Kq ()]
   have m:eM ns bs rs wts sn (i+1)=⟨ns.take (i+1),bs.take (i+1),[],ũ⟩:=by unfold eM;rw[Kq ()]
   rw[y,m,fL e,fL p];refine⟨.unk S (λo=>?_) (by change (ns.take i).length<8;rw[KY];omega),S⟩;have o:ns[i]∈ns.take i:=o;let⟨k,j⟩:=L9 o
   have v:k<i:=by have:=aZ j;rw[KY]at this;omega
   rw[Mg v]at j;have:=(Mc (aZ j) l).mp (j.trans e.symm);omega
  ·obtain⟨k,rfl⟩:∃k,i=ns.length+k:=⟨i-ns.length,()⟩;rw[Km (),F,LN]at a;rcases K7 k rs.length with g|g
   ·rw[Kn (by rw[wy];show g),Kv]at a;have e:rs[k]?=Z rs[k]:=KG g;rw[e]at a;cases a;let⟨z,B⟩:=C rs[k] (MA g);rw[qQ h (),Nat.add_assoc,qQ h (),fL e,KW];show⟨.row z B (by change ((rs.take k).map (jl ns)).length<12;rw[wy,KY];omega),S⟩
   ·rw[Km (by rw[wy];show g),wy]at a
    obtain rfl:k=rs.length:=by have:=aZ a;simp at this;omega
    rw[Lw]at a;cases a
    have m:eM ns bs rs wts sn (ns.length+rs.length+1)=⟨ns,bs,rs.map (jl ns),Z (br ns wts,sn)⟩:=by unfold eM;rw[Kr (),Kr ()]
    rw[qQ h (Kw _),m,LL];show⟨.worth E u,S⟩
 ·unfold eM;split
  ·show⟨l.sublist (List.take_sublist _ _),by change (ns.take i).length<=8;rw[KY];omega,by change 0<=12;omega,by change (bs.take i).length<=8;rw[KY];omega⟩
  ·split
   ·show⟨l,t,by change ((rs.take _).map _).length<=12;rw[wy,KY];omega,by change bs.length<=8;omega⟩
   ·show⟨l,t,by change (rs.map _).length<=12;rw[wy];omega,by change bs.length<=8;omega⟩
theorem zw{ns:Y Str}{bs:Y cy}{rs:Y jf}{wts:Y Tm}{sn:Int}(a:bs.length=ns.length):eM ns bs rs wts sn (fD ns bs rs wts sn).length=⟨ns,bs,rs.map (jl ns),Z (br ns wts,sn)⟩:=by
 have c:(fD ns bs rs wts sn).length=ns.length+rs.length+1:=by unfold fD;simp[a];omega
 rw[c];unfold eM;rw[Kr (),Kr ()]
open Tx
noncomputable def gj(ns:Y Str):Prop:=ns.Nodup/\ns.length<=8/\∀x∈ns,bQ x=ū
noncomputable def bI(z:Int):Prop:=z.natAbs<10000
theorem gv{x:Str}(h:bQ x=ū):x.length<=12:=by unfold bQ at h;simp only[KQ,Lj]at h;show h.1.2
theorem big{z:Int}(h:bI z):z.natAbs<2^1900:=Lb (show z.natAbs<2^20 by unfold bI at h;omega) (Nat.pow_le_pow_right 'b' 'b')
theorem iK{x:Str}{n:Nat}(h:x.length<=n)(a:n<=1000000:=by decide):x.length<=1000000:=K3 h a
theorem l9{s:Str}{a:Y Str}(B:Nat)(c:∀z∈a,z.length<=B)(e:a.length*B+a.length*s.length<=16777216):JoinOk s a=ū:=by unfold JoinOk;rw[PySem.StrLaws.joinFits (B:=B) c e];rfl
theorem Al{g:Type}(c:g->Bool)(h:g->D):∀l:Y g,(l.map λx=>if c x then Z (h x) else ũ).filterMap id=(l.filter c).map h:=by
 intro l
 induction l with
 |nil=>rfl
 |cons x l j=>
  rw[K1]
  cases e:c x with
  |true=>rw[Kq S,List.filterMap_cons_some (f:=id) (a:=Z (h x)) (b:=h x) S,OM e,K1,j]
  |false=>rw[Kr (by simp),List.filterMap_cons_none (f:=id) S,List.filter_cons_of_neg (by rw[e];simp),j]
theorem BF{m:Type}{f:m->D}{xs:Y m}{g:da}{t:cg}{u:TD}{ρ:bM}{R:Y (Ū D)->Prop}(c:m->Bool)(h:m->D)(j:xs.length<sizeLine)(v:∀x∈xs,g (f x) ρ λa=>t a λb=>(b=ū->u a λy=>c x=ū/\y=h x)/\(b=Ŭ->c x=Ŭ))(k:R (xs.map λx=>if c x then Z (h x) else ũ)) :
  (xs.map f).length<sizeLine/\∃P:Nat->Ū D->Prop,(∀i d,(xs.map f)[i]?=Z d->g d ρ λa=>t a λb=>(b=ū->u a λy=>P i (Z y))/\(b=Ŭ->P i ũ))/\∀ys:Y (Ū D),ys.length=(xs.map f).length->(∀i y,ys[i]?=Z y->P i y)->R ys:=by
 refine⟨by rw[wy];show j,λi=>match xs[i]? with|some x=>λo=>(match o with|some y=>c x=ū/\y=h x|none=>c x=Ŭ)|none=>λ_=>False,λi d hd=>?_,λys r z=>?_⟩
 ·rw[Kv]at hd
  cases e:xs[i]? with
  |none=>rw[e]at hd;cases hd
  |some x=>
   rw[e]at hd;cases hd;simp only[e];show v x (KN e)
 ·have e:ys=xs.map λx=>if c x then Z (h x) else ũ:=by
   refine LA λi=>?_;rw[Kv]
   cases ex:xs[i]? with
   |none=>
    have:xs.length<=i:=L3.mp ex;rw[wy]at r;rw[Lc ()];rfl
   |some x=>
    have A:=aZ ex;rw[wy]at r;have l:ys[i]?=Z (ys[i]'()):=bA ();have q:=z i _ l;rw[l];simp only[ex]at q
    cases p:ys[i]'()with
    |none=>
     rw[p]at q;change Z ũ=Z (if c x=ū then _ else _);rw[Kr (by rw[q];simp)]
    |some y=>
     rw[p]at q;change Z (Z y)=Z (if c x=ū then _ else _);rw[Kq q.1,q.2]
  rw[e];show k
theorem Ct(es:Y Int)(ns:Y Str):fP (es.map D.int) (ns.map D.str)=(es.zip ns).map dQ:=by rw[uo];rfl
theorem gQ(ns:Y Str)(es:Y Int):(bC ns es).length<=es.length:=K3 (List.length_filter_le _ _) (by rw[OO];omega)
theorem qt{ns:Y Str}{es:Y Int}(l:gj ns)(j:∀e∈es,bI e):∀t∈bC ns es,(cT t).length<=18:=λt m=>by
 let⟨g,h,_⟩:=rJ m;have a:=c9 (j _ g);have b:=gv (l.2.2 _ h)
 have c:(" ":Str).length=1:=by decide
 unfold cT;rw[gf,gf,c];omega
theorem mF{ns:Y Str}{es:Y Int}(h:gj ns)(m:es.length<=8)(g:∀e∈es,bI e):(cB (bC ns es)).length<=200:=by
 have o:=gQ ns es;by_cases c:bC ns es=[]
 ·rw[c];decide
 ·have e:cB (bC ns es)=Str.join " + " ((bC ns es).map cT):=(kJ c).symm;rw[e]
  have:=kg (s:=" + ") (ws:=(bC ns es).map cT) (B:=18) λz l=>by let⟨t,j,rfl⟩:=KP.mp l;show qt h g t j
  have a:(" + ":Str).length=3:=by decide
  rw[a,wy]at this;omega
theorem lN{sn:Int}{es:Y Int}(a:∀e∈es,bI e):∀e∈bT sn es,bI e:=by
 unfold bT;split
 ·intro e h;let⟨x,c,rfl⟩:=KP.mp h;have:=a x c;unfold bI at this ⊢;omega
 ·show a
theorem iw(sn:Int)(es:Y Int):(bT sn es).length=es.length:=by unfold bT;split<;>simp
theorem vR{sn:Int}(h:sn=1\/sn = -1)(es:Y Int):bT sn (bT sn es)=es:=by
 unfold bT;rcases h with rfl|rfl
 ·rfl
 ·rw[Kq S,Kq S,LO];show (Md (g:=id) λx _=>Int.neg_neg x).trans (OU _)
noncomputable def hU(bs:Y cy)(rs:Y Rw)(gl:Y Int):D:=.tup [.tup (bs.map cZ),.tup (rs.map bK),.tup (gl.map D.int)]
structure PlOk(ns:List Str)(bs:List cy)(rs:List Rw)(gl:List Int):Prop where
 nm:gj ns
 bl:bs.length=ns.length
 bo:∀b∈bs,bI b.1/\∀m,b.2=Z m->bI m
 rl:rs.length<=12
 ro:∀r∈rs,r.1.length=ns.length/\(∀e∈r.1,bI e)/\bI r.2
 gn:gl.length=ns.length
 go:∀e∈gl,bI e
noncomputable def bV(ns:Y Str)(bs:Y cy)(rs:Y Rw)(gl:Y Int)(sn:Int):Y Frm:=fD ns bs (rs.map λr=>(bC ns r.1,r.2,Ŭ)) (bC ns (bT sn gl)) sn
noncomputable def tT:Frm->Prop
 |.unk _ _ _=>True
 |.row ts _ _=>ts.length<=8
 |.worth ts _=>ts.length<=8
theorem nF:∀ts:Y Tm,(aY ts).length<=3*ts.length+1
 | []=>by simp[aY]
 | [(n,x)]=>by simp[aY]
 |(n,x)::t::r=>by
  have:=nF (t::r);change (aY (t::r)).length+3<=_;simp only[KA]at this ⊢;omega
theorem mG:∀{ts:Y Tm},(∀t∈ts,gJ t)->∀w∈aY ts,w.length<=12
 | [],_,w,a=>by rw[KH.mp a];decide
 | [(n,x)],h,w,a=>by
  have c:=h (n,x) Ku;simp only[aY,Kz,KR,LC]at a;rcases a with rfl|rfl
  ·show K3 (c9 c.1) 'b'
  ·show gv c.2
 |(n,x)::t::r,h,w,a=>by
  have c:=h (n,x) Ku;have a:w∈nstr n::x::"+"::aY (t::r):=a;simp only[Kz]at a;rcases a with rfl|rfl|rfl|a
  ·show K3 (c9 c.1) 'b'
  ·show gv c.2
  ·decide
  ·show mG (λt e=>h t (Kt _ e)) w a
theorem wz{f:Frm}(h:eI f)(g:tT f):(aP f).length<=900:=by
 have o:(" ":Str).length=1:=by decide
 have k:∀z∈(["unknown","from","to","row","at","most","least"]:Y Str),z.length<=12:=by decide
 have r:∀w∈cA f,w.length<=12:=by
  intro w a
  cases f with
  |unk x l m=>
   let⟨c,e,p⟩:=h;have y:=c9 e;have j:=gv c
   cases m with
   |none=>
    simp only[cA,Kz,KR,LC]at a;rcases a with rfl|rfl|rfl|rfl
    ·show k _ (by simp)
    ·show j
    ·show k _ (by simp)
    ·omega
   |some m=>
    have A:=c9 (p m S);simp only[cA,Kz,KR,LC]at a;rcases a with rfl|rfl|rfl|rfl|rfl|rfl
    ·show k _ (by simp)
    ·show j
    ·show k _ (by simp)
    ·omega
    ·show k _ (by simp)
    ·omega
  |row ts b t=>
   let⟨c,e⟩:=h;have u:=c9 e;simp only[cA,Kz,K6,cW,KR,LC]at a;rcases a with rfl|a|rfl|rfl|rfl
   ·show k _ (by simp)
   ·show mG c w a
   ·show k _ (by simp)
   ·cases t<;>show k _ (by simp)
   ·omega
  |worth ts s=>
   let⟨c,e⟩:=h;simp only[cA,Kz]at a;rcases a with rfl|a
   ·split<;>show k _ (by simp)
   ·show mG c w a
 have v:(cA f).length<=29:=by
  cases f with
  |unk x l m=>cases m<;>simp[cA]
  |row ts b t=>
   have:=nF ts;have g:ts.length<=8:=g;simp only[cA,KA,Kp,cW,LF];omega
  |worth ts s=>
   have:=nF ts;have g:ts.length<=8:=g;simp only[cA,KA];omega
 have:=kg (s:=" ") (ws:=cA f) (B:=12) r;rw[o]at this;unfold aP;omega
theorem ug{ns:Y Str}{es:Y Int}(h:gj ns)(g:∀e∈es,bI e):∀t∈bC ns es,gJ t:=λt j=>by let⟨a,c,_⟩:=rJ j;show⟨g _ a,h.2.2 _ c⟩
theorem jP{ns:Y Str}{bs:Y cy}{rs:Y Rw}{gl:Y Int}{sn:Int}(c:PlOk ns bs rs gl)(t:sn=1\/sn = -1):∀f∈bV ns bs rs gl sn,eI f/\(aP f).length<=900:=by
 intro f a
 have g:eI f/\tT f:=by
  unfold bV fD at a;rcases K6.mp a with a|a
  ·let⟨i,e⟩:=L9 a;rw[MT]at e
   cases j:ns[i]? with
   |none=>rw[j]at e;cases e
   |some x=>
    cases l:bs[i]? with
    |none=>rw[j,l]at e;cases e
    |some b=>
     rw[j,l]at e;cases e;have h:=c.bo b (KN l);show⟨⟨c.nm.2.2 x (KN j),h.1,h.2⟩,trivial⟩
  ·rcases K6.mp a with a|a
   ·rw[LO]at a;let⟨r,p,rfl⟩:=KP.mp a;let⟨h,m,o⟩:=c.ro r p;show⟨⟨ug c.nm m,o⟩,K3 (gQ ns r.1) (by rw[h];show c.nm.2.1)⟩
   ·rw[KH.mp a];show⟨⟨ug c.nm (lN c.go),t⟩,K3 (gQ ns _) (by rw[iw,c.gn];show c.nm.2.1)⟩
 show⟨g.1,wz g.1 g.2⟩
theorem ki{ns:Y Str}{bs:Y cy}{rs:Y Rw}{gl:Y Int}{sn:Int}(a:PlOk ns bs rs gl):(bV ns bs rs gl sn).length<=40:=by
 have c:=a.nm.2.1;have e:=a.bl;have g:=a.rl;unfold bV fD;simp only[Kp,Mw,wy,KA,LF];omega
open Tx
inductive z_written_unknown(ds:List D)(R:D->Prop):Prop|mk (x:Str) (b:cy) (_:ds=[.str x,cZ b]) (_:bQ x=ū) (_:bI b.1) (_:(∀m,b.2=Z m->bI m)) (_:R (.str (aP (.unk x b.1 b.2))))
theorem FB(F:Fun K "written_unknown" "written_unknown" nV f G) :FnOk P w K mg base bh (n+1) f G ["name","bounds"] (lSpM K (zM z_written_unknown)):=by
 refine F.okM qaM (λas R r h=>?_) (λz A outer s H E as R r I y B h p=>?_)
 ·let⟨_,rfl,x,b,rfl,_⟩:=h;rfl
 let⟨_,rfl,x,b,rfl,u,e,a,q⟩:=h;obtain rfl:=cu p
 refine⟨_,(au (ax (i:=2) qaM.nd S Yk (ag (av (ae 1))))
   (au (ax (i:=3) qaM.nd S Yk (ag (av (ae 1))))
   (aM (aH (aR (ay eX (ae 3) (PD.q bE) (aw _))) (ai (aD (ag (ko (eE gC (eE (gk (dv 0)) (eE gC (jK (gk (dv 2)))))))))) aL)
   (ai (aD (ag (ko (eE gC (eE (gk (dv 0)) (eE gC (eE (gk (dv 2)) (eE gC (jK (gk (dv 3))))))))))))))),?_⟩
 intro C;let⟨l,m⟩:=b;have c:=iK (gv u);have o:=iK (c9 e)
 have g:("unknown ":Str).length<=1000000:=by decide
 have j:(" from ":Str).length<=1000000:=by decide
 have t:(" to ":Str).length<=1000000:=by decide
 refine⟨_,S,_,S,?_⟩
 cases m with
 |none=>
  refine⟨λρ=>False,⟨λ_=>?_,λh=>tf h⟩,?_⟩
  ·refine⟨g,c,c,j,big e,o,?_⟩;show R (.v (.str ("unknown "++(x++(" from "++nstr l))))) [];rw[lL];show q
  rintro ρ ⟨⟩
 |some m=>
  have a:=a m S;have v:=iK (c9 a);refine⟨λρ=>ρ=_,⟨λh=>ff h,λ_=>rfl⟩,?_⟩;rintro ρ rfl;refine⟨g,c,c,j,big e,o,t,big a,v,?_⟩;show R (.v (.str ("unknown "++(x++(" from "++(nstr l++(" to "++nstr m))))))) [];rw[rZ];show q
inductive z_written_sum(ds:List D)(R:D->Prop):Prop|mk (ns:List Str) (es:List Int) (_:ds=[.tup (ns.map D.str),.tup (es.map D.int)]) (_:gj ns) (_:es.length<=8) (_:(∀e∈es,bI e)) (_:R (.str (cB (bC ns es))))
theorem zD(F:Fun K "written_sum" "written_sum" md f G)(x:mg "len"=ũ)(y:mg "zip"=ũ):FnOk P w K mg base bh (n+1) f G ["names","entries"] (lSpM K (zM z_written_sum)):=by
 refine F.okM qaL (λas R u h=>?_) (λJ A outer s H E as R u Q I o h r=>?_)
 ·let⟨_,rfl,ns,es,rfl,_⟩:=h;rfl
 let⟨_,rfl,ns,es,rfl,g,M,a,q⟩:=h;obtain rfl:=cu r
 refine⟨_,(au (FL (i:=2) (k:=2) (N':=["entry","name"]) (cap:=[ũ,ũ]) S qaL.nd S Yk (.ok (show eC ["names","entries","terms"] (aF md) _ ["entry","name"] [ũ,ũ]=ū by lia)) 'a' (xJ (n:=2) (ou (eB 'b') (ou (eB 'b') uY))) (lU S y (af (dv 1) (af (dv 0) ao aa) aa)) (λ_ _ _ _ _=>(yg (n:=2) S (nE (eA (i:=0) (show List.Nodup (["entry","name"]:Y Str)by lia) S Yk) (nE (eA (i:=1) (show List.Nodup (["entry","name"]:Y Str)by lia) S Yk) uv)))) (λ_ _ _ _ _=>(FJ (ay (dX o.units) (ae 0) (PD.q ak) (aw _)))) (λ_ _ _ _ _=>(ko (eE (gk (dv 0)) (eE gC (jK (gk (dv 1))))))))
   (jW 2 (aM (aH (aR (ay (bz o.units) (PD.q (bO bR S x KO (bj (ae 2) bp aa) aa ah)) (PD.q ak) (aw _))) (ai (aD (ag aC))) aL)
   (ai (aD (ag (kO (PD.q aC) (dv 2) (bW aa) aa))))))),?_⟩
 intro N;have O:=g.2.1;refine⟨_,_,S,S,?_⟩;rw[Ct];refine BF (f:=dQ) (xs:=es.zip ns) (λt:Tm=>decide (t.1≠0)) (λt=>D.str (cT t)) (cq (by rw[OO];omega)) (λt j=>?_) ?_
 ·let⟨m,B⟩:=MH (show (t.1,t.2)∈es.zip ns from j);have a6:=iK (c9 (a _ m));have l:=iK (gv (g.2.2 _ B));refine⟨S,λh=>?_,λh=>?_⟩
  ·refine⟨big (a _ m),a6,'b',l,l,?_,S⟩;refine Ld λz=>?_;rw[z]at h;show ff h
  ·refine KU λz=>?_
   have:(t.1==0)=ū:=by simpa using h
   show z (dq this)
 rw[Al];have v:(es.zip ns).filter (λt:Tm=>decide (t.1≠0))=bC ns es:=rfl;rw[v];have U:=gQ ns es;refine⟨λρ=>bC ns es≠[]/\ρ=[Z (.v (.tup (ns.map D.str))),Z (.v (.tup (es.map D.int))),Z (.v (.lst ((bC ns es).map λt=>D.str (cT t))))],⟨λh=>?_,λh=>⟨λz=>?_,S⟩⟩,?_⟩
 ·have h:=dq h;rw[wy]at h;have e:bC ns es=[]:=LM.mp ();rw[e]at q;show q
 ·rw[z]at h;show tf h
 rintro ρ ⟨p,rfl⟩;refine⟨_,S,(bC ns es).map cT,by rw[LO];rfl,l9 18 (λz C=>?_) ?_,?_⟩
 ·let⟨t,j,rfl⟩:=KP.mp C;show qt g a t j
 ·have c:(" + ":Str).length=3:=by decide
  rw[wy,c];omega
 ·have e:ï " + " ((bC ns es).map cT)=cB (bC ns es):=(Mm _ _).trans (kJ p);rw[e];show q
inductive z_written_row(ds:List D)(R:D->Prop):Prop|mk (ns:List Str) (r:Rw) (_:ds=[.tup (ns.map D.str),bK r]) (_:gj ns) (_:r.1.length<=8) (_:(∀e∈r.1,bI e)) (_:bI r.2) (_:R (.str (aP (.row (bC ns r.1) r.2 Ŭ))))
theorem CS(F:Fun K "written_row" "written_row" oW f G)(t:Cl P w K mg base n "written_sum" ["names","entries"] z_written_sum):FnOk P w K mg base bh (n+1) f G ["names","row"] (lSpM K (zM z_written_row)):=by
 refine F.okM qaK (λas R m h=>?_) (λv A outer s H E as R m y u p h l=>?_)
 ·let⟨_,rfl,ns,r,rfl,_⟩:=h;rfl
 let⟨_,rfl,ns,r,rfl,g,e,c,a,q⟩:=h;obtain rfl:=cu l
 refine⟨_,(au (ax (i:=2) qaK.nd S Yk (ag (bP t p S (af (dv 0) (af (av (ae 1)) ao az) aa) aa (aG az ah))))
   (au (ax (i:=3) qaK.nd S Yk (ag (av (ae 1))))
   (ai (aD (ag (ko (eE gC (eE (gk (dv 2)) (eE gC (jK (gk (dv 3)))))))))))),?_⟩
 intro x;have j:=iK (mF g e c);have o:=iK (c9 a);refine⟨_,S,ns,r.1,S,g,e,c,?_⟩;refine⟨_,S,?_⟩;refine⟨'b',j,j,'b',big a,o,?_⟩;change R (.v (.str ("row "++(cB (bC ns r.1)++(" at least "++nstr r.2))))) [];rw[vC];show q
inductive z_written_worth(ds:List D)(R:D->Prop):Prop|mk (ns:List Str) (es:List Int) (sn:Int) (_:ds=[.tup (ns.map D.str),.tup (es.map D.int),.int sn]) (_:gj ns) (_:es.length<=8) (_:(∀e∈es,bI e)) (_:(sn=1\/sn = -1)) (_:R (.str (aP (.worth (bC ns (bT sn es)) sn))))
theorem G0(F:Fun K "written_worth" "written_worth" oY f G)(m:Cl P w K mg base n "written_sum" ["names","entries"] z_written_sum)(t:Cl P w K mg base n "turned_numbers" ["entries"] z_turned_numbers):FnOk P w K mg base bh (n+1) f G ["names","goal","sense"] (lSpM K (zM z_written_worth)):=by
 refine F.okM qaN (λas R p h=>?_) (λv A outer s H E as R p z u a h o=>?_)
 ·let⟨_,rfl,ns,es,sn,rfl,_⟩:=h;rfl
 let⟨_,rfl,ns,es,sn,rfl,g,e,l,r,q⟩:=h;obtain rfl:=cu o
 refine⟨_,(aM (aH (aR (ay (bz a.units) (ae 2) (PD.q (eG (PD.q ak))) (aw _))) (au (ax (i:=3) qaN.nd S Yk (ag (bP m a S (af (dv 0) (af (bP t a S (af (dv 1) ao aa) aa ah) ao bX) aa) aa (aG bX ah))))
   (ai (aD (ag (ko (eE gC (jK (gk (dv 3))))))))) aL)
   (au (ax (i:=3) qaN.nd S Yk (ag (bP m a S (af (dv 0) (af (dv 1) ao aa) aa) aa (aG aa ah))))
   (ai (aD (ag (ko (eE gC (jK (gk (dv 3)))))))))),?_⟩
 intro y;have j:=lN (sn:=sn) l;have c:=iK (mF g (by rw[iw sn];show e) j);rcases r with rfl|rfl
 ·refine⟨λρ=>ρ=_,⟨λh=>ff h,λ_=>rfl⟩,?_⟩;rintro ρ rfl;refine⟨ns,es,S,g,e,l,?_⟩;refine⟨'b',c,c,?_⟩;change R (.v (.str ("most "++cB (bC ns es)))) [];rw[(jM _).1];show q
 ·refine⟨λρ=>False,⟨λ_=>?_,λh=>tf h⟩,?_⟩
  ·refine⟨es,S,(),ns,es.map λx=>-x,S,g,by rw[wy];show e,j,?_⟩;refine⟨'b',c,c,?_⟩;change R (.v (.str ("least "++cB (bC ns (bT (-1) es))))) [];rw[(jM _).2];show q
  rintro ρ ⟨⟩
inductive z_write_plan(ds:List D)(R:D->Prop):Prop|mk (ns:List Str) (bs:List cy) (rs:List Rw) (gl:List Int) (sn:Int) (_:ds=[.tup (ns.map D.str),hU bs rs gl,.int sn]) (_:PlOk ns bs rs gl) (_:(sn=1\/sn = -1)) (_:R (.str (Str.join "\n" ((bV ns bs rs gl sn).map aP))))
theorem I0(F:Fun K "write_plan" "write_plan" j5 f G)(o:Cl P w K mg base n "written_unknown" ["name","bounds"] z_written_unknown)(m:Cl P w K mg base n "written_worth" ["names","goal","sense"] z_written_worth)(p:Cl P w K mg base n "written_row" ["names","row"] z_written_row)(v:mg "zip"=ũ):FnOk P w K mg base bh (n+1) f G ["names","plan","sense"] (lSpM K (zM z_write_plan)):=by
 refine F.okM qaJ (λas R u h=>?_) (λap A outer s H E as R u aA Q g h t=>?_)
 ·let⟨_,rfl,ns,bs,rs,gl,sn,rfl,_⟩:=h;rfl
 let⟨_,rfl,ns,bs,rs,gl,sn,rfl,a,l,q⟩:=h;obtain rfl:=cu t
 refine⟨_,(au (sX (i:=3) (k:=2) (N':=["name","bounds"]) (cap:=[ũ,ũ]) S qaJ.nd S Yk (.ok (show eC ["names","plan","sense","lines"] (aF j5) _ ["name","bounds"] [ũ,ũ]=ū by lia)) 'a' (xJ (n:=2) (ou (eB 'b') (ou (eB 'b') uY))) (lU S v (af (dv 0) (af (av (ae 1)) ao az) aa)) (λ_ _ _ _ _=>(yg (n:=2) S (nE (eA (i:=0) (show List.Nodup (["name","bounds"]:Y Str)by lia) S Yk) (nE (eA (i:=1) (show List.Nodup (["name","bounds"]:Y Str)by lia) S Yk) uv)))) (λ_ _ _ _ _=>(bP o g S (af (dv 0) (af (dv 1) ao aa) aa) aa (aG aa ah))))
   (au (AV 3 (eD (g9 (k:=1) (N':=["row","names"]) (cap:=[ũ,Z 0]) S (.ok (show eC ["names","plan","sense","lines"] (aF j5) _ ["row","names"] [ũ,Z 0]=ū by lia)) 'a' (eB 'b') (fV (av (ae 1))) (λ_ _ _ _ _=>(eA (i:=0) (show List.Nodup (["row","names"]:Y Str)by lia) S Yk)) (λ_ _ _ _ _=>(bP p g S (af (dv 1) (af (dv 0) ao aa) aa) aa (aG aa ah))))) (bW dM) dM)
   (au (eK 3 (ag (bP m g S (af (dv 0) (af (av (ae 1)) (af (dv 2) ao aa) az) aa) aa (aG az (aG aa ah)))) (bW bX) bX)
   (jW 3 (ai (aD (ag (kO (PD.q aC) (dv 3) (bW aa) aa)))))))),?_⟩
 intro a_;have O:=a.nm.2.1;have U:=a.bl;have T:=a.rl;refine⟨_,S,_,_,S,S,?_⟩;refine Hg (f:=D.str) (h:=cZ) (λx b=>D.str (aP (.unk x b.1 b.2))) (cq ()) (λx M b j=>?_) ?_
 ·show⟨S,x,b,S,a.nm.2.2 x M,(a.bo b j).1,(a.bo b j).2,S⟩
 rfl';refine⟨_,S,?_⟩;refine ij (f:=bK) (λr=>D.str (aP (.row (bC ns r.1) r.2 Ŭ))) (cq ()) (λr g=>?_) ?_
 ·let⟨B,C,I⟩:=a.ro r g;show⟨ns,r,S,a.nm,(),C,I,S⟩
 rfl'
 have y:List.zipWith (λ(x:Str)(b:cy)=>D.str (aP (.unk x b.1 b.2))) ns bs=((List.zipWith (λx b=>Frm.unk x b.1 b.2) ns bs).map aP).map D.str:=by rw[List.map_zipWith,List.map_zipWith]
 have zl:(List.zipWith (λx b=>Frm.unk x b.1 b.2) ns bs).length<=8:=by rw[Mw];omega
 rw[y];refine⟨by simp only[wy];rw[LD];omega,_,S,?_⟩;have B:=lN (sn:=sn) a.go;refine⟨_,S,ns,gl,sn,S,a.nm,by rw[a.gn];show O,a.go,l,?_⟩;rfl';refine⟨by simp only[Kp,wy];rw[LD];omega,((bV ns bs rs gl sn).map aP).map D.str,?_,?_⟩
 ·unfold bV fD;simp only[KW,KS,LO];rfl
 refine⟨_,S,?_⟩;have X:=ki (sn:=sn) a;refine⟨(bV ns bs rs gl sn).map aP,S,l9 900 (λz N=>?_) ?_,?_⟩
 ·let⟨f,J,rfl⟩:=KP.mp N;show (jP a l f J).2
 ·have c:("\n":Str).length=1:=by decide
  rw[wy,c];omega
 ·have e:ï "\n" ((bV ns bs rs gl sn).map aP) = Str.join "\n" ((bV ns bs rs gl sn).map aP):=Mm _ _;rw[e];show q
open Tx
noncomputable def EU(ns:Y Str)(bs:Y cy)(rs:Y Rw)(gl:Y Int)(sn:Int):D:=.tup [.tup (ns.map D.str),hU bs rs gl,.int sn]
open Tx
noncomputable def jo(ws:Y Str):Ū (Y Int):=if ũ∈ws.map bG then ũ else Z (ws.map λw=>(bG w).getD 0)
noncomputable def Gn:Ū (Y Int)->D
 |none=>.non
 |some ns=>.tup (ns.map D.int)
theorem CL:n0=jm:=by funext o;cases o<;>rfl
inductive z_numbers_form(ds:List D)(R:D->Prop):Prop|mk (ws:List Str) (_:ds=[.lst (ws.map D.str)]) (_:ws.length<=1000) (_:(∀w∈ws,dH w)) (_:R (Gn (jo ws)))
theorem Ea(F:Fun K "numbers_form" "numbers_form" lB f G)(r:Cl P w K mg base n "number_form" ["word"] z_number_form)(l:mg "tuple"=ũ):FnOk P w K mg base bh (n+1) f G ["words"] (lSpM K (zM z_numbers_form)):=by
 refine F.okM qax (λas R j h=>?_) (λu A outer s H E as R j x t p h g=>?_)
 ·let⟨_,rfl,ws,rfl,_⟩:=h;rfl
 let⟨_,rfl,ws,rfl,o,m,q⟩:=h;obtain rfl:=cu g
 refine⟨_,(au (sX (i:=1) (k:=1) (N':=["word"]) (cap:=[ũ]) S qax.nd S Yk (.ok (show eC ["words","numbers"] (aF lB) _ ["word"] [ũ]=ū by lia)) 'a' (eB 'b') (fV (dv 0)) (λ_ _ _ _ _=>(eA (i:=0) (show List.Nodup (["word"]:Y Str)by lia) S Yk)) (λ_ _ _ _ _=>(bP r p S (af (dv 0) ao aa) aa ah)))
   (jW 1 (ai (aD (ag (jn (ay Jo (PD.q bE) (ae 1) (by with_unfolding_all rfl)) bE (cL fG S l La (bj (ae 1) bp aa) aa ah))))))),?_⟩
 intro v;refine ij (f:=D.str) (λw=>jm (bG w)) (cq o) (λw a=>⟨w,S,m w a,S⟩) ?_;refine⟨ws.map bG,S,by rw[CL,LO];rfl,?_⟩;unfold jo at q;refine⟨λh=>?_,λh=>?_⟩
 ·rw[Kq (KL h)]at q;show q
 ·have h:=K8 h;rw[Kr h]at q
  have e:(ws.map λw=>jm (bG w))=(ws.map λw=>(bG w).getD 0).map D.int:=by
   rw[LO];refine Md λw a=>?_
   cases c:bG w with
   |none=>show absurd (KP.mpr ⟨w,a,c⟩) h
   |some k=>change _=D.int ((bG w).getD 0);rw[c];rfl
  rw[e];show q
inductive Say where|word (w:Str)|frm (f:Frm)|take (k:Int)|tri (ns:List Int)
noncomputable def k9:Ū Say->D
 |none=>.non
 |some (.word w)=>.tup [.str w]
 |some (.frm f)=>fi f
 |some (.take k)=>.tup [.str "take",.int k]
 |some (.tri ns)=>.tup [.str "try",.tup (ns.map D.int)]
noncomputable def eW(n:Nat)(x:Str):Ū Say:=
 if x∈(["back","ask","fractions","write"]:Y Str) then Z (.word x)
 else if aV (Í x " ") 0∈(["take","try"]:Y Str) then
  match jo ((Í x " ").drop 1)with
  |none=>ũ
  |some l=>if aV (Í x " ") 0="take" then (if l.length=1 then Z (.take (l.getD 0 0)) else ũ) else (if l.length=n then Z (.tri l) else ũ)
 else (il x).map Say.frm
inductive z_say_form(ds:List D)(R:D->Prop):Prop|mk (x:Str) (n:Nat) (_:ds=[.str x,.int (n:Nat)]) (_:dH x) (_:x.length<=900) (_:R (k9 (eW n x)))
theorem BU{x:Str}:fK (.inr x) [.inr "back",.inr "ask",.inr "fractions",.inr "write"]=decide (x∈(["back","ask","fractions","write"]:Y Str)):=jB (xs:=["back","ask","fractions","write"])
theorem D4{x:Str}:fK (.inr x) [.inr "take",.inr "try"]=decide (x∈(["take","try"]:Y Str)):=jB (xs:=["take","try"])
theorem Gf(ws:Y Str):bJ (ws.map D.str) (Z 1) ũ=(ws.drop 1).map D.str:=by
 rw[rn]
 have e:bJ ws (Z 1) ũ=ws.drop 1:=by
  unfold bJ;change (ws.drop (HT.sIx ws.length 0 (Z ((1:Nat):Int)))).take _=_;rw[HT.sIx_nat,HT.sIx_none];change List.take (ws.length-HT.sIx ws.length 0 (Z ((1:Nat):Int))) _=_;rw[HT.sIx_nat]
  cases ws with
  |nil=>rfl
  |cons w ws=>
   have e:min 1 (w::ws).length=1:=by rw[KA];omega
   change List.take ((w::ws).length-min 1 (w::ws).length) (List.drop (min 1 (w::ws).length) (w::ws))=ws;rw[e];change List.take (ws.length+1-1) ws=ws;rw[Nat.add_sub_cancel,LL]
 rw[e]
theorem Fi(F:Fun K "say_form" "say_form" oP f G)(y:Cl P w K mg base n "numbers_form" ["words"] z_numbers_form)(Q:Cl P w K mg base n "line_form" ["line"] z_line_form)(C:mg "len"=ũ):FnOk P w K mg base bh (n+1) f G ["line","n"] (lSpM K (zM z_say_form)):=by
 refine F.okM qaA (λas R B h=>?_) (λT A outer s H E as R B X ap m h z=>?_)
 ·let⟨_,rfl,x,n,rfl,_⟩:=h;rfl
 let⟨_,rfl,x,n,rfl,r,M,q⟩:=h;obtain rfl:=cu z
 refine⟨_,(aM (aH (aR (ay kB (ae 0) (PD.q (aO (af aC (af aC (af aC (af aC ao ar) ar) ar) ar))) (by with_unfolding_all rfl))) (ai (aD (ag (aO (af (dv 0) ao aa))))) aL)
   (au (ax (i:=2) qaA.nd S Yk (ag (PF.d (p8 (ae 0) aC (bW ar) ar))))
   (aM (aH (aR (ay pW (PD.q (av (ae 2))) (PD.q (aO (af aC (af aC ao ar) ar))) (by with_unfolding_all rfl))) (ai (aD (ag (bP Q m S (af (dv 0) ao aa) aa ah)))) aL)
   (au (ax (i:=3) qaA.nd S Yk (ag (bP y m S (af (gL (ae 2) (fZ (PD.q ak)) ic) ao az) az ah)))
   (aM (aH (aR (PWD.td (eo (ay eX (ae 3) (PD.q bE) (aw _)) (ft (ay (dX m.units) (PD.q (bO bR S C KO (bj (ae 3) bp aa) aa ah)) (PD.q (jn (ay (bz m.units) (PD.q (av (ae 2))) (PD.q aC) (aw _)) ak (dv 1))) (aw _)))))) (ai (aD (ag bE))) aL)
   (ai (aD (ag (jn (ay (bz m.units) (PD.q (av (ae 2))) (PD.q aC) (aw _)) (aO (af aC (af (av (ae 3)) ao az) ar)) (aO (af aC (af (dv 3) ao aa) ar))))))))))),?_⟩
 intro U;have v:=wW r;have I:=Nr x " ";have g:=O0 x " ";unfold eW at q;obtain⟨ws,p⟩:∃ws,ws=Í x " ":=⟨_,S⟩;rw[←p]at v I g q;refine⟨λρ=>x∉(["back","ask","fractions","write"]:Y Str)/\ρ=[Z (.v (.str x)),Z (.v (.int (n:Nat))),ũ,ũ],⟨.inr x,[.inr "back",.inr "ask",.inr "fractions",.inr "write"],S,S,?_⟩,?_⟩
 ·rw[BU,MM];refine⟨λh=>?_,λh=>⟨K8 h,S⟩⟩;rw[Kq (KL h)]at q;show q
 rintro ρ ⟨N,rfl⟩;rw[Kr N]at q;refine⟨_,S,_,S,'b',by have:=LD;omega,?_⟩;rw[←p];refine⟨λρ=>aV ws 0∈(["take","try"]:Y Str)/\ρ=[Z (.v (.str x)),Z (.v (.int (n:Nat))),Z (.v (.lst (ws.map D.str))),ũ],⟨_,eS 0 () S,.inr _,[.inr "take",.inr "try"],S,S,?_⟩,?_⟩
 ·rw[D4];by_cases c:aV ws 0∈(["take","try"]:Y Str)
  ·rw[Ld c];show⟨λh=>(by cases h),λ_=>⟨c,S⟩⟩
  ·rw[KU c];refine⟨λ_=>?_,λh=>(by cases h)⟩;rw[Kr c]at q;refine⟨x,S,r,M,?_⟩
   cases t:il x with
   |none=>rw[t]at q;show q
   |some f=>rw[t]at q;show q
 rintro ρ ⟨O,rfl⟩;rw[Kq O]at q;refine⟨_,Gf ws,ws.drop 1,S,by rw[LH];omega,λw J=>v w (M1 J),?_⟩;have o:bZ (ws.map D.str) 0=Z (.str (aV ws 0)):=eS 0 () S
 cases u:jo (ws.drop 1)with
 |none=>
  rw[u]at q;refine⟨λρ=>False,⟨λ_=>⟨λ_=>q,λh=>(by cases h)⟩,λh=>(by cases h)⟩,?_⟩;rintro ρ ⟨⟩
 |some l=>
  rw[u]at q;have q:R (.v (k9 (if aV ws 0="take" then (if l.length=1 then Z (.take (l.getD 0 0)) else ũ) else (if l.length=n then Z (.tri l) else ũ)))) []:=q
  have kH:∀{a b:Int},(!(a==b))=ū->a≠b:=λ{a b} h e=>by rw[e,K5]at h;cases h
  have kG:∀{a b:Int},(!(a==b))=Ŭ->a=b:=λ{a b} h=>by
   cases e:(a==b)with
   |true=>show eq_of_beq e
   |false=>rw[e]at h;cases h
  refine⟨λρ=>l.length=(if aV ws 0="take" then 1 else n)/\ρ=[Z (.v (.str x)),Z (.v (.int (n:Nat))),Z (.v (.lst (ws.map D.str))),Z (.v (.tup (l.map D.int)))],⟨λh=>(by cases h),λ_=>⟨_,o,λh=>?_,λh=>?_⟩⟩,?_⟩
  ·have c:aV ws 0="take":=eq_of_beq h;rw[Kq c]at q;refine⟨λg=>?_,λg=>⟨?_,S⟩⟩
   ·have:=kH g;rw[wy]at this;rw[Kr ()]at q;show q
   ·have:=kG g;rw[wy]at this;rw[Kq c];omega
  ·have c:aV ws 0≠"take":=λe=>by rw[e,K5]at h;cases h
   rw[Kr c]at q;refine⟨λg=>?_,λg=>⟨?_,S⟩⟩
   ·have:=kH g;rw[wy]at this;rw[Kr ()]at q;show q
   ·have:=kG g;rw[wy]at this;rw[Kr c];omega
  rintro ρ ⟨j,rfl⟩;refine⟨_,o,λh=>?_,λh=>?_⟩
  ·have c:aV ws 0="take":=eq_of_beq h;rw[Kq c]at q j;rw[Kq j]at q
   match l,j with
   | [k],_=>show⟨_,S,q⟩
  ·have c:aV ws 0≠"take":=λe=>by rw[e,K5]at h;cases h
   rw[Kr c]at q j;rw[Kq j]at q;show q
open Tx
structure Dk where
 ns:List Str
 bs:List cy
 rs:List Rw
 gl:List Int
 sn:Int
noncomputable abbrev df(s:Dk):D:=EU s.ns s.bs s.rs s.gl s.sn
noncomputable def iL(r:Rw):Rw:=(r.1++[0],r.2)
noncomputable def lZ(s:Dk):Frm->Dk
 |.unk x l m=>⟨s.ns++[x],s.bs++[(l,m)],s.rs.map iL,s.gl++[0],s.sn⟩
 |.row ts b t=>⟨s.ns,s.bs,s.rs++[if t then iU (br s.ns ts,b) else (br s.ns ts,b)],s.gl,s.sn⟩
 |.worth ts sn=>⟨s.ns,s.bs,s.rs,bT sn (br s.ns ts),sn⟩
noncomputable def kR(s:Dk):Frm->Prop
 |.unk _ _ _=>True
 |.row ts _ _=>gE s.ns ts/\ts.length<=900
 |.worth ts _=>gE s.ns ts/\ts.length<=900
noncomputable def fN(s:Dk):Frm->Int
 |.unk x _ _=>if x∈s.ns then 2 else if 8<=s.ns.length then 1 else 0
 |.row _ _ _=>if 12<=s.rs.length then 1 else 0
 |.worth _ _=>0
noncomputable def vX(s:Dk)(k:Int):Dk:=⟨s.ns,s.bs,s.rs.eraseIdx k.toNat,s.gl,s.sn⟩
structure DkW(s:Dk):Prop where
 nd:s.ns.Nodup
 nl:s.ns.length<=8
 bl:s.bs.length=s.ns.length
 rl:s.rs.length<=12
 ro:∀r∈s.rs,r.1.length=s.ns.length
 gn:s.gl.length=s.ns.length
noncomputable def iA(k:Int):XD:=if k=1 then ⟨"TooGreat",Z .non⟩ else if k=2 then ⟨"Twice",Z .non⟩ else if k=5 then ⟨"NoRow",ũ⟩ else ⟨"NoChange",ũ⟩
theorem gz{a:Type}(f:a->D)(xs:Y a)(x:a):xs.map f++[f x]=(xs++[x]).map f:=by rw[KW];rfl
theorem gq{a:Type}{f:a->D}{xs:Y a}(h:xs.length<=100)(d:D):(xs.map f).length+[d].length<=sizeLine:=by
 have:=LD;rw[wy];change xs.length+1<=_;omega
noncomputable abbrev WU(k:Dk)(x:Str)(b:cy)(a:Ū Sm):aj:=[Z (.v (df k)),Z (.v (.str x)),Z (.v (cZ b)),Z (.v (.tup (k.ns.map D.str))),Z (.v (hU k.bs k.rs k.gl)),a]
inductive y_with_unknown(as:List Sm)(R:Sm->List Om->Prop)(Rx:XD->List Om->Prop):Prop|mk (s:Dk) (x:Str) (b:cy) (_:as=[.v (df s),.v (.str x),.v (cZ b)]) (_:DkW s) (_:(fN s (.unk x b.1 b.2)=0->R (.v (df (lZ s (.unk x b.1 b.2)))) [])) (_:(fN s (.unk x b.1 b.2)≠0->Rx (iA (fN s (.unk x b.1 b.2))) []))
theorem A3(F:Fun K "with_unknown" "with_unknown" mv f G)(l:∃z,mg "MOST_UNKNOWNS"=Z (.int 8 z))(v:mg "tuple"=ũ)(u:mg "len"=ũ)(o:Rz1 P w K mg base "Twice")(m:Rz1 P w K mg base "TooGreat"):FnOk P w K mg base (CXo P w) (n+3) f G ["state","name","bounds"] (lSpMX K mg y_with_unknown):=by
 refine F.okMX qaF (λas R t h=>?_) (λC A outer s H E as R t Q B g h j=>?_)
 ·let⟨k,x,b,rfl,_⟩:=h;rfl
 let⟨k,x,b,rfl,c,q,a⟩:=h;obtain rfl:=cu j
 refine⟨_,(au (ax (i:=3) qaF.nd S Yk (ag (av (ae 0))))
   (au (ax (i:=4) qaF.nd S Yk (ag (av (ae 0))))
   (aM (aH (aR (ay kB (ae 1) (ae 3) (by with_unfolding_all rfl))) (ai (ny o S S S (g.mono ()) bE ar)) aL)
   (aM (aH (aR (ay lH (PD.q (bO bR S u KO (bj (ae 3) bp aa) aa ah)) (PD.q (jS S l.choose_spec)) (aw _))) (ai (ny m S S S (g.mono ()) bE ar)) aL)
   (au (ax (i:=5) qaF.nd S Yk (ag (cL fG S v La (bj (PD.q (PF.d (g9 (k:=1) (N':=["row"]) (cap:=[ũ]) S (.ok (show eC ["state","name","bounds","names","plan","rows"] (aF mv) _ ["row"] [ũ]=ū by lia)) 'a' (eB 'b') (fV (av (ae 4))) (λ_ _ _ _ _=>(eA (i:=0) (show List.Nodup (["row"]:Y Str)by lia) S Yk)) (λ_ _ _ _ _=>(aO (af (aT bx (PD.q (av (ae 0))) (PD.q (aO (af ak ao ar)))) (af (av (ae 0)) ao az) bN)))))) bp dM) dM ah)))
   (ai (aD (ag (aO (af (aT bx (ae 3) (PD.q (aO (af (dv 1) ao aa)))) (af (aO (af (aT bx (PD.q (av (ae 4))) (PD.q (aO (af (dv 2) ao aa)))) (af (dv 5) (af (aT bx (PD.q (av (ae 4))) (PD.q (aO (af ak ao ar)))) ao bN) aa) bN)) (af (av (ae 0)) ao az) cC) bN)))))))))),?_⟩
 intro O;have J:=c.bl;have I:=c.rl;have M:=c.gn;rw[show fN k (.unk x b.1 b.2)=if x∈k.ns then 2 else if 8<=k.ns.length then 1 else 0 from rfl]at q a;refine⟨_,S,?_⟩;refine⟨_,S,?_⟩;refine⟨λρ=>x∉k.ns/\ρ=WU k x b ũ,⟨.inr x,k.ns.map Ø,S,by rw[←pV];rfl,?_⟩,?_⟩
 ·rw[jB,MM];refine⟨λh=>?_,λh=>⟨K8 h,S⟩⟩;rw[Kq (KL h)]at a;show⟨trivial,a 'b'⟩
 rintro ρ ⟨y,rfl⟩;rw[Kr y]at q a;refine⟨λρ=>k.ns.length<8/\ρ=WU k x b ũ,⟨λh=>?_,λh=>?_⟩,?_⟩
 ·have h:=KL h;rw[wy]at h;rw[Kq ()]at a;show⟨trivial,a 'b'⟩
 ·have h:=K8 h;rw[wy]at h;show⟨(),S⟩
 rintro ρ ⟨N,rfl⟩;have q:=q (Kr ());refine⟨_,S,?_⟩;refine ij (f:=bK) (λr=>bK (iL r)) (cq ()) (λr p=>?_) ?_
 ·have:=c.ro r p;show⟨_,S,gq () _,_,gz D.int r.1 0,_,S,S⟩
 refine⟨gq () _,_,gz D.str k.ns x,?_⟩;refine⟨_,S,gq () _,_,gz cZ k.bs b,?_⟩;refine⟨_,S,gq () _,_,gz D.int k.gl 0,_,S,?_⟩
 have e:(k.rs.map λr=>bK (iL r))=(k.rs.map iL).map bK:=by rw[LO];rfl
 rw[e];show q
inductive y_with_row(as:List Sm)(R:Sm->List Om->Prop)(Rx:XD->List Om->Prop):Prop|mk (s:Dk) (ts:List Tm) (b:Int) (t:Bool) (_:as=[.v (df s),.v (.tup (ts.map dQ)),.v (.int b),.v (.bl t)]) (_:DkW s) (_:kR s (.row ts b t)) (_:(fN s (.row ts b t)=0->R (.v (df (lZ s (.row ts b t)))) [])) (_:(fN s (.row ts b t)≠0->Rx (iA (fN s (.row ts b t))) []))
theorem GP(F:Fun K "with_row" "with_row" pX f G)(y:Cl P w K mg base (n+2) "sum_entries" ["terms","names","at"] z_sum_entries)(z:Cl P w K mg base (n+2) "turned" ["row"] z_turned)(j:∃B,mg "MOST_ROWS"=Z (.int 12 B))(o:mg "len"=ũ)(l:Rz1 P w K mg base "TooGreat"):FnOk P w K mg base (CXo P w) (n+3) f G ["state","terms","number","at_most"] (lSpMX K mg y_with_row):=by
 refine F.okMX qaE (λas R m h=>?_) (λI A outer s H E as R m O C c h g=>?_)
 ·let⟨k,ts,b,t,rfl,_⟩:=h;rfl
 let⟨k,ts,b,t,rfl,a,v,q,e⟩:=h;obtain rfl:=cu g
 refine⟨_,(au (ax (i:=4) qaE.nd S Yk (ag (av (ae 0))))
   (au (ax (i:=5) qaE.nd S Yk (ag (aO (af (bP y c S (af (dv 1) (af (av (ae 0)) (af bE ao ar) az) aa) aa (aG az (aG ar ah))) (af (dv 2) ao aa) bX))))
   (aM (aH (aR (ay lH (PD.q (bO bR S o KO (bj (PD.q (av (ae 4))) bp az) az ah)) (PD.q (jS S j.choose_spec)) (aw _))) (ai (ny l S S S (c.mono ()) bE ar)) aL)
   (au (ax (i:=6) qaE.nd S Yk (ag (aT bx (PD.q (av (ae 4))) (PD.q (aO (af (jn (gu (ae 3) (λ_=>rfl)) (bP z c S (af (dv 5) ao aa) aa ah) (dv 5)) ao pR))))))
   (ai (aD (ag (aO (af (av (ae 0)) (af (aO (af (av (ae 4)) (af (dv 6) (af (av (ae 4)) ao az) aa) az)) (af (av (ae 0)) ao az) cC) az))))))))),?_⟩
 intro N;let⟨p,r⟩:=v;have J:=a.rl;have x:=a.nl;rw[show fN k (.row ts b t)=if 12<=k.rs.length then 1 else 0 from rfl]at q e;refine⟨_,S,?_⟩;refine⟨_,S,ts,k.ns,.non,_,S,.inl S,a.nd,a.nl,r,p,?_⟩;refine⟨λρ=>k.rs.length<12/\ρ=[Z (.v (df k)),Z (.v (.tup (ts.map dQ))),Z (.v (.int b)),Z (.v (.bl t)),Z (.v (hU k.bs k.rs k.gl)),Z (.v (bK (br k.ns ts,b))),ũ],⟨_,S,λh=>?_,λh=>?_⟩,?_⟩
 ·have h:=KL h;rw[wy]at h;rw[Kq ()]at e;show⟨trivial,e 'b'⟩
 ·have h:=K8 h;rw[wy]at h;show⟨(),S⟩
 rintro ρ ⟨M,rfl⟩;have q:=q (Kr ())
 have u:(br k.ns ts).length<=1000:=by unfold br;rw[wy];omega
 refine⟨_,S,λh=>?_,λh=>?_⟩
 ·have h:t=ū:=h;subst h;refine⟨(br k.ns ts,b),S,u,gq () _,_,gz bK k.rs (iU (br k.ns ts,b)),?_⟩;show⟨_,S,_,S,_,S,_,S,q⟩
 ·have h:t=Ŭ:=h;subst h;refine⟨gq () _,_,gz bK k.rs (br k.ns ts,b),?_⟩;show⟨_,S,_,S,_,S,_,S,q⟩
inductive z_with_worth(ds:List D)(R:D->Prop):Prop|mk (s:Dk) (ts:List Tm) (sn:Int) (_:ds=[df s,.tup (ts.map dQ),.int sn]) (_:DkW s) (_:kR s (.worth ts sn)) (_:R (df (lZ s (.worth ts sn))))
theorem zW(F:Fun K "with_worth" "with_worth" nJ f G)(r:Cl P w K mg base n "sum_entries" ["terms","names","at"] z_sum_entries)(t:Cl P w K mg base n "turned_numbers" ["entries"] z_turned_numbers):FnOk P w K mg base bh (n+1) f G ["state","terms","sense"] (lSpM K (zM z_with_worth)):=by
 refine F.okM qaG (λas R g h=>?_) (λv A outer s H E as R g y u c h e=>?_)
 ·let⟨_,rfl,k,ts,sn,rfl,_⟩:=h;rfl
 let⟨_,rfl,k,ts,sn,rfl,a,o,q⟩:=h;obtain rfl:=cu e
 refine⟨_,(au (ax (i:=3) qaG.nd S Yk (ag (av (ae 0))))
   (au (ax (i:=4) qaG.nd S Yk (ag (bP r c S (af (dv 1) (af (av (ae 0)) (af bE ao ar) az) aa) aa (aG az (aG ar ah)))))
   (aM (aH (aR (ay (bz c.units) (ae 2) (PD.q (eG (PD.q ak))) (aw _))) (ai (ax (i:=4) qaG.nd S Yk (ag (bP t c S (af (dv 4) ao aa) aa ah)))) aL)
   (ai (aD (ag (aO (af (av (ae 0)) (af (aO (af (av (ae 3)) (af (av (ae 3)) (af (dv 4) ao aa) az) az)) (af (dv 2) ao aa) cC) az)))))))),?_⟩
 intro x;let⟨j,l⟩:=o;have p:=a.nl
 have m:(br k.ns ts).length<=1000:=by unfold br;rw[wy];omega
 refine⟨_,S,?_⟩;refine⟨_,S,ts,k.ns,.non,_,S,.inl S,a.nd,a.nl,l,j,?_⟩;refine⟨λρ=>ρ=[Z (.v (df k)),Z (.v (.tup (ts.map dQ))),Z (.v (.int sn)),Z (.v (hU k.bs k.rs k.gl)),Z (.v (.tup ((bT sn (br k.ns ts)).map D.int)))],⟨λh=>?_,λh=>?_⟩,?_⟩
 ·have h:=dq h;show⟨br k.ns ts,S,m,by unfold bT;rw[Kq h];rfl⟩
 ·have h:=i7 h;unfold bT;rw[Kr h];rfl
 rintro ρ rfl;show⟨_,S,_,S,_,S,q⟩
noncomputable def jJ(s:Dk)(k:Int):Int:=if k<0\/(s.rs.length:Int)<=k then 5 else 0
inductive y_without_row(as:List Sm)(R:Sm->List Om->Prop)(Rx:XD->List Om->Prop):Prop|mk (s:Dk) (k:Int) (_:as=[.v (df s),.v (.int k)]) (_:DkW s) (_:(jJ s k=0->R (.v (df (vX s k))) [])) (_:(jJ s k≠0->Rx (iA (jJ s k)) []))
theorem pO{c:Type}{f:c->D}{xs:Y c}{k:Nat}(h:k<xs.length):bJ (xs.map f) ũ (Z (k:Int))++bJ (xs.map f) (Z ((k:Int)+1)) ũ=(xs.eraseIdx k).map f:=by
 have e:∀(ys:Y D)(j:Nat),j<=ys.length->bJ ys ũ (Z (j:Int))=ys.take j:=λys j a=>by
  unfold bJ;rw[HT.sIx_none];change List.take (HT.sIx ys.length ys.length (Z (j:Int))-0) (ys.drop 0)=_;rw[HT.sIx_nat,Na a];rfl
 have g:∀(ys:Y D)(j:Nat),j<=ys.length->bJ ys (Z (j:Int)) ũ=ys.drop j:=λys j a=>by unfold bJ;rw[HT.sIx_none,HT.sIx_nat,Na a];show L1 (by rw[LH];omega)
 have l:((k:Int)+1)=((k+1:Nat):Int):=rfl;rw[e _ _ (by rw[wy];omega),l,g _ _ (by rw[wy];omega),LV,KW,Oe,O4]
theorem Ck(F:Fun K "without_row" "without_row" oV f G)(m:mg "len"=ũ)(g:Rz0 K mg "NoRow"):FnOk P w K mg base (CXo P w) (n+1) f G ["state","number"] (lSpMX K mg y_without_row):=by
 refine F.okMX qaH (λas R l h=>?_) (λu A outer s H E as R l B t y h e=>?_)
 ·let⟨s,k,rfl,_⟩:=h;rfl
 let⟨s,k,rfl,p,q,c⟩:=h;obtain rfl:=cu e
 refine⟨_,(au (ax (i:=2) qaH.nd S Yk (ag (av (ae 0))))
   (aM (aH (aR (PWD.td (eo (ay i9 (ae 1) (PD.q ak) (aw _)) (ft (ay lH (ae 1) (PD.q (bO bR S m KO (bj (PD.q (av (ae 2))) bp az) az ah)) (aw _)))))) (ai (wm g S S S)) aL)
   (ai (aD (ag (aO (af (av (ae 0)) (af (aO (af (av (ae 2)) (af (aT bx (PD.q (gL (PD.q (av (ae 2))) ic (fZ (ae 1)))) (PD.q (gL (PD.q (av (ae 2))) (fZ (PD.q (aT bx (ae 1) (PD.q ak)))) ic))) (af (av (ae 2)) ao az) bN) az)) (af (av (ae 0)) ao az) cC) az))))))),?_⟩
 intro z;have v:=p.rl;unfold jJ at q c;refine⟨_,S,?_⟩;refine⟨λρ=>(0<=k/\k<(s.rs.length:Int))/\ρ=[Z (.v (df s)),Z (.v (.int k)),Z (.v (hU s.bs s.rs s.gl))],?_,?_⟩
 ·refine⟨λh=>⟨λ_=>?_,λh=>tf h⟩,λh=>⟨_,S,λa=>?_,λa=>?_⟩⟩
  ·have h:=KL h;rw[Kq (.inl h)]at c;show c 'b'
  ·have a:=KL a;rw[wy]at a;rw[Kq (.inr a)]at c;show c 'b'
  ·have h:=K8 h;have a:=K8 a;rw[wy]at a;show⟨⟨(),()⟩,S⟩
 rintro ρ ⟨⟨o,x⟩,rfl⟩;have q:=q (Kr ());let⟨j,rfl⟩:=Lq o
 have r:(bJ (s.rs.map bK) ũ (Z (j:Int))).length+(bJ (s.rs.map bK) (Z ((j:Int)+1)) ũ).length<=sizeLine:=by
  have:=LW List.length (pO (f:=bK) (xs:=s.rs) (k:=j) ());rw[Kp]at this;rw[this,wy,NV];have:=LD;split<;>omega
 show⟨_,S,_,S,_,S,_,S,_,S,_,S,r,_,pO (),_,S,_,S,q⟩
noncomputable def bB(s:Dk)(a:Y Dk):Say->Int
 |.frm f=>fN s f
 |.take k=>jJ s k
 |.word v=>if v="back"/\a=[] then 6 else 0
 |.tri _=>0
noncomputable def fh(s:Dk):Say->Prop
 |.frm f=>kR s f
 |.take _=>True
 |_=>False
noncomputable def kU(s:Dk):Say->Dk
 |.frm f=>lZ s f
 |.take k=>vX s k
 |_=>s
inductive y_changed(as:List Sm)(R:Sm->List Om->Prop)(Rx:XD->List Om->Prop):Prop|mk (s:Dk) (w:Say) (_:as=[.v (df s),.v (k9 (Z w))]) (_:DkW s) (_:fh s w) (_:(bB s [] w=0->R (.v (df (kU s w))) [])) (_:(bB s [] w≠0->Rx (iA (bB s [] w)) []))
theorem Hz(F:Fun K "changed" "changed" p9 f G)(y:ClMX P w K mg base n "without_row" ["state","number"] y_without_row)(r:ClMX P w K mg base n "with_unknown" ["state","name","bounds"] y_with_unknown)(z:ClMX P w K mg base n "with_row" ["state","terms","number","at_most"] y_with_row)(o:Cl P w K mg base n "with_worth" ["state","terms","sense"] z_with_worth):FnOk P w K mg base (CXo P w) (n+1) f G ["state","form"] (lSpMX K mg y_changed):=by
 refine F.okMX Hd (λas R u h=>?_) (λC A outer s H E as R u J B a h p=>?_)
 ·let⟨k,w,rfl,_⟩:=h;rfl
 let⟨k,w,rfl,e,c,q,g⟩:=h;obtain rfl:=cu p
 refine⟨_,(aM (aH (aR (ay (bz a.units) (PD.q (av (ae 1))) (PD.q aC) (aw _))) (ai (aD (pB r a S S (aQ (ag (dv 0)) (aQ (ag (av (ae 1))) (aQ (ag (av (ae 1))) bq az) az) aa) aa (aG az (aG az ah))))) aL)
   (aM (aH (aR (ay (bz a.units) (PD.q (av (ae 1))) (PD.q aC) (aw _))) (ai (aD (pB z a S S (aQ (ag (dv 0)) (aQ (ag (av (ae 1))) (aQ (ag (av (ae 1))) (aQ (ag (av (ae 1))) bq az) az) az) aa) aa (aG az (aG az (aG az ah)))))) aL)
   (aM (aH (aR (ay (bz a.units) (PD.q (av (ae 1))) (PD.q aC) (aw _))) (ai (aD (ag (bP o a S (af (dv 0) (af (av (ae 1)) (af (av (ae 1)) ao az) az) aa) aa (aG az (aG az ah)))))) aL)
   (ai (aD (pB y a S S (aQ (ag (dv 0)) (aQ (ag (av (ae 1))) bq az) aa) aa (aG az ah))))))),?_⟩
 intro I
 cases w with
 |word v=>show c.elim
 |tri v=>show c.elim
 |take j=>
  refine⟨λρ=>ρ=_,⟨_,S,λh=>(by cases h),λ_=>rfl⟩,?_⟩;rintro ρ rfl;refine⟨λρ=>ρ=_,⟨_,S,λh=>(by cases h),λ_=>rfl⟩,?_⟩;rintro ρ rfl;refine⟨λρ=>ρ=_,⟨_,S,λh=>(by cases h),λ_=>rfl⟩,?_⟩;rintro ρ rfl;show⟨_,S,_,S,S,k,j,S,e,q,g⟩
 |frm f=>
  cases f with
  |unk x l m=>
   refine⟨λρ=>False,⟨_,S,λ_=>?_,λh=>(by cases h)⟩,?_⟩
   ·show⟨_,S,_,S,_,S,S,k,x,(l,m),S,e,q,g⟩
   rintro ρ ⟨⟩
  |row ts b t=>
   refine⟨λρ=>ρ=_,⟨_,S,λh=>(by cases h),λ_=>rfl⟩,?_⟩;rintro ρ rfl;refine⟨λρ=>False,⟨_,S,λ_=>?_,λh=>(by cases h)⟩,?_⟩
   ·show⟨_,S,_,S,_,S,_,S,S,k,ts,b,t,S,e,c,q,g⟩
   rintro ρ ⟨⟩
  |worth ts sn=>
   refine⟨λρ=>ρ=_,⟨_,S,λh=>(by cases h),λ_=>rfl⟩,?_⟩;rintro ρ rfl;refine⟨λρ=>ρ=_,⟨_,S,λh=>(by cases h),λ_=>rfl⟩,?_⟩;rintro ρ rfl;refine⟨λρ=>False,⟨_,S,λ_=>?_,λh=>(by cases h)⟩,?_⟩
   ·show⟨_,S,_,S,k,ts,sn,S,e,c,q S⟩
   rintro ρ ⟨⟩
open Tx
theorem Bx(bs:Y cy)(rs:Y Rw)(gl:Y Int):NoL (hU bs rs gl):=.tup λd hd=>by
 simp only[Kz,KR,LC]at hd;rcases hd with rfl|rfl|rfl
 ·refine .tup λe a=>?_;let⟨b,_,rfl⟩:=KP.mp a;show my b
 ·refine .tup λe a=>?_;let⟨b,_,rfl⟩:=KP.mp a;show km b
 ·show jv _
theorem uT(s:Dk):NoL (df s):=.tup λd hd=>by
 simp only[Kz,KR,LC]at hd;rcases hd with rfl|rfl|rfl
 ·refine .tup λe a=>?_;let⟨b,_,rfl⟩:=KP.mp a;show .str b
 ·show Bx _ _ _
 ·show .int _
theorem GU(f:Frm):NoL (fi f):=by
 have c:∀ts:Y Tm,NoL (.tup (ts.map dQ)):=λts=>.tup λd hd=>by
  let⟨t,_,rfl⟩:=KP.mp hd;refine .tup λe a=>?_;simp only[Kz,KR,LC]at a;rcases a with rfl|rfl
  ·show .int _
  ·show .str _
 cases f with
 |unk x l m=>
  refine .tup λd hd=>?_;simp only[Kz,KR,LC]at hd;rcases hd with rfl|rfl|rfl
  ·show .str _
  ·show .str _
  ·show my (l,m)
 |row ts b t=>
  refine .tup λd hd=>?_;simp only[Kz,KR,LC]at hd;rcases hd with rfl|rfl|rfl|rfl
  ·show .str _
  ·show c ts
  ·show .int _
  ·show .bl _
 |worth ts sn=>
  refine .tup λd hd=>?_;simp only[Kz,KR,LC]at hd;rcases hd with rfl|rfl|rfl
  ·show .str _
  ·show c ts
  ·show .int _
theorem ES(w:Say):NoL (k9 (Z w)):=by
 cases w with
 |word v=>
  refine .tup λd hd=>?_;rw[KH.mp hd];show .str _
 |frm f=>show GU f
 |take k=>
  refine .tup λd hd=>?_;simp only[Kz,KR,LC]at hd;rcases hd with rfl|rfl
  ·show .str _
  ·show .int _
 |tri ns=>
  refine .tup λd hd=>?_;simp only[Kz,KR,LC]at hd;rcases hd with rfl|rfl
  ·show .str _
  ·show jv _
noncomputable def kI:Dk:=⟨[],[],[],[],1⟩
noncomputable def ip(s:Dk)(a:Y Dk):Y (Str×Fl):=[("state",.v (df s)),("states",.l (a.map df))]
noncomputable abbrev bS(s:Dk)(a:Y Dk):Om:=.obj "Desk" (ip s a)
inductive y_Desk____init__(as:List Sm)(R:Sm->List Om->Prop)(Rx:XD->List Om->Prop):Prop|mk (a:Option Addr) (_:as=[.ob a (.obj "Desk" [])]) (_:R (.v .non) [bS kI []])
theorem FR(F:Fun K "__init__" "Desk.__init__" oZ f G){e:Addr}(c:TxtDesk K mg e):FnOk P w K mg base bh (n+1) f G ["self"] (lSpM K y_Desk____init__):=by
 refine F.okM C8 (λas R j h=>?_) (λm A outer s H E as R j t l o h g=>?_)
 ·let⟨a,rfl,_⟩:=h;rfl
 let⟨a,rfl,q⟩:=h;let⟨r,rfl⟩:=dG g
 refine⟨_,(au (lu 0 c.cl c.n_state c.ns (ag (aO (af (aO ao) (af (aO (af (aO ao) (af (aO ao) (af (aO ao) ao cC) cC) cC)) (af ak ao ar) cC) cC))))
   (ai (mI 0 c.cl c.n_states c.ns (eD (eL ao))))),?_⟩
 intro p;refine⟨_,_,S,S,'b',_,S,?_⟩;refine⟨_,_,S,S,(by change 1<1000;decide),ip kI [],S,?_⟩;show⟨_,S,q⟩
inductive y_Desk__step_on(as:List Sm)(R:Sm->List Om->Prop)(Rx:XD->List Om->Prop):Prop|mk (a:Option Addr) (s t:Dk) (hs:List Dk) (_:as=[.ob a (bS s hs),.v (df t)]) (_:hs.length<500) (_:R (.v .non) [bS t (hs++[s])])
theorem Gv(F:Fun K "step_on" "Desk.step_on" oB f G){g:Addr}(c:TxtDesk K mg g):FnOk P w K mg base bh (n+1) f G ["self","state"] (lSpM K y_Desk__step_on):=by
 refine F.okM Iy (λas R l h=>?_) (λo A outer s H E as R l x m r h j=>?_)
 ·let⟨a,k,t,e,rfl,_⟩:=h;rfl
 let⟨a,k,t,e,rfl,p,q⟩:=h;let⟨v,rfl⟩:=dG j
 refine⟨_,(au (oa 0 c.cl c.n_states c.ns (di c.cl c.n_state c.ns (ae 0)) (bW cU) cU)
   (ai (lu 0 c.cl c.n_state c.ns (ag (dv 1))))),?_⟩
 intro u;refine⟨_,_,e.map df,S,S,S,_,S,uT k,cq (by rw[wy];omega),ip k (e++[k]),(by change _=ip k (e++[k]);rw[ip,ip,KW];rfl),?_⟩;refine⟨_,_,S,S,(by change 2<1000;decide),ip t (e++[k]),S,?_⟩;show⟨_,S,q⟩
theorem Fu{a:Type}(f:a->D)(xs:Y a)(x:a):((xs++[x]).map f)[((xs++[x]).map f).length-1]?=Z (f x)/\((xs++[x]).map f).dropLast=xs.map f:=by rw[KW];refine⟨?_,M3⟩;rw[Kp,Km (by simp)];simp
inductive y_Desk__step_back(as:List Sm)(R:Sm->List Om->Prop)(Rx:XD->List Om->Prop):Prop|mk (a:Option Addr) (s:Dk) (hs:List Dk) (_:as=[.ob a (bS s hs)]) (_:(hs=[]->Rx (iA 6) [bS s hs])) (_:∀gs t,hs=gs++[t]->R (.v .non) [bS t gs])
theorem AK(F:Fun K "step_back" "Desk.step_back" nj f G){m:Addr}(c:TxtDesk K mg m)(u:mg "len"=ũ)(p:Rz0 K mg "NoChange"):FnOk P w K mg base (CXo P w) (n+1) f G ["self"] (lSpMX K mg y_Desk__step_back):=by
 refine F.okMX G6 (λas R r h=>?_) (λJ A outer s H E as R r N I z h o=>?_)
 ·let⟨a,k,g,rfl,_⟩:=h;rfl
 let⟨a,k,g,rfl,C,q⟩:=h;let⟨B,rfl⟩:=dG o
 refine⟨_,(aM (aH (jr (ay (bz z.units) (PD.q (bO bR S u KO (bj (PD.q (di c.cl c.n_states c.ns (ae 0))) bp cU) cU ah)) (PD.q ak) (aw _))) (ai (wm p S S S)) aL)
   (ai (lu 0 c.cl c.n_state c.ns (A0 0 c.cl c.n_states c.ns)))),?_⟩
 intro M;refine⟨λρ=>g≠[]/\ρ=[Z (.ob (Z B) (bS k g))],?_,?_⟩
 ·refine⟨S,_,S,λh=>⟨_,S,C ?_⟩,λh=>⟨λe=>?_,S⟩⟩
  ·have:=dq h
   cases g with
   |nil=>rfl
   |cons x xs=>simp at this;omega
  ·subst e;show tf h
 rintro ρ ⟨l,rfl⟩;rcases NG g with e|⟨j,t,e⟩
 ·show absurd e l
 rw[NH]at e;subst e;let⟨v,y⟩:=Fu df j t;refine⟨_,_,_,S,S,_,v,ip k j,(by rw[y];rfl),?_⟩;rfl';refine⟨_,_,S,S,(by change 2<1000;decide),ip t j,S,?_⟩;show⟨_,S,q j t S⟩
open Tx
noncomputable def pk:b7:=λas R e=>∃(a:Ū Addr)(s:Dk)(c:Y Dk)(x:Str)(w:Say),as=[.ob a (bS s c),.v (.str x)]/\c.length<500/\dH x/\x.length<=900/\eW s.ns.length x=Z w/\DkW s/\(
 (fh s w/\(bB s [] w=0->R (.v (.str "ok")) [bS (kU s w) (c++[s])])/\(bB s [] w≠0->e (iA (bB s [] w)) [bS s c])) \/
 (w=.word "write"/\PlOk s.ns s.bs s.rs s.gl/\(s.sn=1\/s.sn = -1)/\R (.v (.str (Str.join "\n" ((bV s.ns s.bs s.rs s.gl s.sn).map aP)))) [bS s c]) \/
 (w=.word "back"/\(c=[]->e (iA 6) [bS s c])/\∀g t,c=g++[t]->R (.v (.str "ok")) [bS t g]))
noncomputable abbrev SY(c:Addr)(k:Dk)(a:Y Dk)(x:Str)(F:D):aj:=[Z (.ob (Z c) (bS k a)),Z (.v (.str x)),Z (.v F)]
theorem ze{s:Dk}{w:Say}(h:fh s w):∃(h:Str)(r:Y D),k9 (Z w)=.tup (.str h::r)/\(h == "ask")=Ŭ/\(h == "try")=Ŭ/\(h == "fractions")=Ŭ/\(h == "write")=Ŭ/\(h == "back")=Ŭ:=by
 cases w with
 |word v=>show h.elim
 |tri v=>show h.elim
 |take k=>show⟨_,_,S,'b','b','b','b','b'⟩
 |frm f=>cases f<;>show⟨_,_,S,'b','b','b','b','b'⟩
theorem Ib(F:Fun K "say" "Desk.say" oC f G){B:Addr}(g:TxtDesk K mg B)(J:Cl P w K mg base (n+2) "say_form" ["line","n"] z_say_form)(M:Cl P w K mg base (n+2) "write_plan" ["names","plan","sense"] z_write_plan)(U:ClMX P w K mg base (n+2) "changed" ["state","form"] y_changed)(O:MthMX P w K mg base (n+2) B "step_back" ["self"] y_Desk__step_back)(Q:MthM P w K mg base (n+2) B "step_on" ["self","state"] y_Desk__step_on)(X:mg "len"=ũ)(ap:Rz1 P w K mg base "NoText"):FnOk P w K mg base (CXo P w) (n+3) f G ["self","line"] (lSpMX K mg pk):=by
 refine F.okMX qaa (λas R T h=>?_) (λPh A outer s H E as R T qs Pg l h N=>?_)
 ·let⟨a,k,v,x,w,rfl,_⟩:=h;rfl
 let⟨a,k,v,x,w,rfl,hl,ha,hx,hw,hk,q⟩:=h;let⟨I,rfl⟩:=dG N
 refine⟨_,(au (ax (i:=2) qaa.nd S Yk (hG (bP J l S (af (dv 1) (af (bO bR S X KO (bj (PD.q (av (PD.q (di g.cl g.n_state g.ns (ae 0))))) bp az) az ah) ao bX) aa) aa (aG bX ah))))
   (aM (aH (aR (ay eX (ae 2) (PD.q bE) (aw _))) (ai (ny ap S S S (l.mono ()) bE ar)) aL)
   (aM (aH (aR (ay (bz l.units) (PD.q (av (ae 2))) (PD.q aC) (aw _))) (ai gb) aL)
   (aM (aH (aR (ay (bz l.units) (PD.q (av (ae 2))) (PD.q aC) (aw _))) (ai gb) aL)
   (aM (aH (aR (ay (bz l.units) (PD.q (av (ae 2))) (PD.q aC) (aw _))) (ai gb) aL)
   (aM (aH (aR (ay (bz l.units) (PD.q (av (ae 2))) (PD.q aC) (aw _))) (ai (aD (hG (bP M l S (af (av (PD.q (di g.cl g.n_state g.ns (ae 0)))) (af (av (PD.q (di g.cl g.n_state g.ns (ae 0)))) (af (av (PD.q (di g.cl g.n_state g.ns (ae 0)))) ao az) az) az) az (aG az (aG az ah)))))) aL)
   (aM (aH (aR (ay (bz l.units) (PD.q (av (ae 2))) (PD.q aC) (aw _))) (ai (kq (Jz 0 O l S g.cl g.ns))) (ai (kq (jO 0 Q l g.cl g.ns (aQ (pB U l S S (aQ (hG (di g.cl g.n_state g.ns (ae 0))) (aQ (ag (dv 2)) bq aa) cU) cU (aG aa ah)) bq bX) bX ah))))
   (ai (aD (ag aC)))))))))),?_⟩
 intro ke;refine⟨S,_,S,_,S,x,k.ns.length,by rw[wy],ha,hx,?_⟩;rw[hw];refine⟨ES w,?_⟩;rfl';rcases q with⟨r,q,C⟩|⟨rfl,r,z,q⟩|⟨rfl,C,q⟩
 ·let⟨hd,m,e,aA,e2,e3,e4,e5⟩:=ze r;have a_:=e;rw[e];have u:bZ (D.str hd::m) 0=Z (.str hd):=mD (i:=0) S S
  have y:∀{c:Bool}{p:Prop},c=Ŭ->c=ū->p:=λr z=>by rw[r]at z;cases z
  refine⟨λρ=>ρ=_,⟨λh=>(by cases h),λ_=>rfl⟩,?_⟩;rintro ρ rfl;refine⟨λρ=>ρ=_,⟨_,u,λh=>y aA h,λ_=>rfl⟩,?_⟩;rintro ρ rfl;refine⟨λρ=>ρ=_,⟨_,u,λh=>y e2 h,λ_=>rfl⟩,?_⟩;rintro ρ rfl;refine⟨λρ=>ρ=_,⟨_,u,λh=>y e3 h,λ_=>rfl⟩,?_⟩;rintro ρ rfl;refine⟨λρ=>ρ=_,⟨_,u,λh=>y e4 h,λ_=>rfl⟩,?_⟩;rintro ρ rfl;refine⟨λρ=>bB k [] w=0/\ρ=SY I (kU k w) (v++[k]) x (.tup (.str hd::m)),⟨_,u,λh=>y e5 h,λ_=>?_⟩,?_⟩
  ·refine⟨⟨_,_,S,S⟩,S,_,S,uT k,_,S,S,k,w,by rw[a_],hk,r,λj=>?_,λj=>?_⟩
   ·show⟨_,S,S,_,k,kU k w,v,S,hl,j,S⟩
   ·show⟨_,S,C j⟩
  rintro ρ ⟨j,rfl⟩;show⟨_,S,q j⟩
 ·refine⟨λρ=>ρ=_,⟨λh=>(by cases h),λ_=>rfl⟩,?_⟩;rintro ρ rfl;refine⟨λρ=>ρ=_,⟨_,S,λh=>(by cases h),λ_=>rfl⟩,?_⟩;rintro ρ rfl;refine⟨λρ=>ρ=_,⟨_,S,λh=>(by cases h),λ_=>rfl⟩,?_⟩;rintro ρ rfl;refine⟨λρ=>ρ=_,⟨_,S,λh=>(by cases h),λ_=>rfl⟩,?_⟩;rintro ρ rfl;refine⟨λρ=>False,⟨_,S,λ_=>?_,λh=>(by cases h)⟩,?_⟩
  ·show⟨S,_,S,_,S,S,_,S,_,S,S,_,S,_,S,k.ns,k.bs,k.rs,k.gl,k.sn,S,r,z,.str _,_,S,q⟩
  rintro ρ ⟨⟩
 ·refine⟨λρ=>ρ=_,⟨λh=>(by cases h),λ_=>rfl⟩,?_⟩;rintro ρ rfl;refine⟨λρ=>ρ=_,⟨_,S,λh=>(by cases h),λ_=>rfl⟩,?_⟩;rintro ρ rfl;refine⟨λρ=>ρ=_,⟨_,S,λh=>(by cases h),λ_=>rfl⟩,?_⟩;rintro ρ rfl;refine⟨λρ=>ρ=_,⟨_,S,λh=>(by cases h),λ_=>rfl⟩,?_⟩;rintro ρ rfl;refine⟨λρ=>ρ=_,⟨_,S,λh=>(by cases h),λ_=>rfl⟩,?_⟩;rintro ρ rfl;refine⟨λρ=>∃o t,v=o++[t]/\ρ=SY I t o x (.tup [.str "back"]),⟨_,S,λ_=>?_,λh=>(by cases h)⟩,?_⟩
  ·refine⟨⟨_,_,S,S⟩,_,S,S,_,k,v,S,λj=>?_,λo t j=>?_⟩
   ·show⟨_,S,C j⟩
   ·show⟨o,t,j,S⟩
  rintro ρ ⟨o,t,j,rfl⟩;show⟨_,S,q o t j⟩
noncomputable def Pl(n:Nat)(o:Om):Prop:=∃(ns:Y Int)(r st c:Int),o=.lst [.fzl (ns.map D.int),.int r,.int st,.int c]/\ns.length<=63/\0<=c/\c<=n
theorem Pl.mono{n m:Nat}{o:Om}(h:Pl n o)(l:n<=m):Pl m o:=by let⟨ns,r,st,c,e,a,g,j⟩:=h;show⟨ns,r,st,c,e,a,g,()⟩
inductive y__law_pool(as:List Sm)(R:Sm->List Om->Prop)(Rx:XD->List Om->Prop):Prop|mk (ns:List Int) (k:Int) (_:as=[.v (.fzl (ns.map D.int)),.v (.int k)]) (_:ns.length<=63) (_:0<=k) (_:∀o,Pl 0 o->R (.ob ũ o) [])
theorem Fg(F:Fun K "_law_pool" "_law_pool" pF f G)(o:mg "len"=ũ):FnOk P w K mg base bh (n+1) f G ["_law_script","_law_at"] (lSpM K y__law_pool):=by
 refine F.okM qaj (λas R m h=>?_) (λu A outer s H E as R m z t x h l=>?_)
 ·let⟨ns,k,rfl,_⟩:=h;rfl
 let⟨ns,k,rfl,e,p,q⟩:=h;obtain rfl:=cu l
 refine⟨_,(au (ax (i:=2) qaj.nd S Yk (ag ak))
   (aM (aH (aR (PWD.td (lY (ay i9 (ae 1) (PD.q (bO bR S o KO (bj (ae 0) bp aa) aa ah)) (aw _)) (lP (ay lH (PD.q (cQ (ae 0) (ae 1) (λ_ _=>rfl))) (PD.q (aT JT (PD.q ak) (PD.q ak))) (aw _)))))) (ai (ax (i:=2) qaj.nd S Yk (ag (cQ (ae 0) (ae 1) (λ_ _=>rfl))))) aL)
   (ai (aD (eD (eL (af (dv 0) (af (dv 2) (af (aT bx (PD.q ak) (ae 1)) (af ak ao ar) bN) aa) aa))))))),?_⟩
 intro y
 have g:(ns.map D.int).length<=63:=by rw[wy];show e
 have a:∀r:Int,Pl 0 (.lst [.fzl (ns.map D.int),.int r,.int (7+k),.int 0]):=λr=>⟨ns,r,7+k,0,S,e,(),()⟩;refine⟨λρ=>∃r:Int,ρ=[Z (.v (.fzl (ns.map D.int))),Z (.v (.int k)),Z (.v (.int r))],⟨λh=>?_,λh=>?_⟩,?_⟩
 ·have h:=dP h;let⟨v,j⟩:=wN (ns:=ns) (k:=k) p (by rw[wy]at h;show h);show⟨_,j,⟨'b','b','b'⟩,λ_=>⟨_,j,_,S⟩,λ_=>⟨_,S⟩⟩
 ·show⟨λc=>(by cases c),λ_=>⟨_,S⟩⟩
 rintro ρ ⟨r,rfl⟩;show q _ (a r)
inductive y__law_next(as:List Sm)(R:Sm->List Om->Prop)(Rx:XD->List Om->Prop):Prop|mk (a:Option Addr) (o:Om) (z:Int) (n:Nat) (_:as=[.ob a o,.v (.int z)]) (_:Pl n o) (_:n<2^20) (_:0<z) (_:z<2^9000) (_:∀(x:Int)(o':Om),0<=x->x<z->Pl (n+1) o'->R (.v (.int x)) [o'])
theorem HY(F:Fun K "_law_next" "_law_next" oz f G)(j:mg "len"=ũ):FnOk P w K mg base bh (n+1) f G ["_law_pool_here","_law_size"] (lSpM K y__law_next):=by
 refine F.okM qah (λas R t h=>?_) (λM A outer s H E as R t U J O h p=>?_)
 ·let⟨a,o,z,n,rfl,_⟩:=h;rfl
 let⟨a,o,z,n,rfl,g,N,e,I,q⟩:=h;let⟨m,rfl⟩:=dG p
 refine⟨_,(aM (aH (aR (ay jE (PD.q (av (ae 0))) (PD.q ak) (aw _))) (au (ax (i:=2) qah.nd S Yk (ag (aT iB (PD.q (av (ae 0))) (ae 1))))
   (au (mZ 0 (ag (aT Bn (PD.q (av (ae 0))) (ae 1))) (ag ak))
   (ai (aD (ag (dv 2)))))) aL)
   (au (yU 0 Ae (ag ak) (ag ak))
   (au (ax (i:=3) qah.nd S Yk (ag (av (ae 0))))
   (aM (aH (aR (ay jE (PD.q (bO bR S j KO (bj (PD.q (av (ae 0))) bp az) az ah)) (PD.q ak) (aw _))) (ai (ax (i:=3) qah.nd S Yk (ag (cQ (PD.q (av (ae 0))) (PD.q (aT iB (PD.q (av (ae 0))) (PD.q (bO bR S j KO (bj (PD.q (av (ae 0))) bp az) az ah)))) (λ_ _=>rfl))))) aL)
   (au (ax (i:=4) qah.nd S Yk (ag (aT bx (PD.q (aT bx (PD.q (aT bx (PD.q (aT bx (PD.q (av (ae 0))) (ae 3))) (PD.q (aT ik (PD.q (aT ik (PD.q ak) (PD.q (av (ae 0))))) (PD.q (av (ae 0))))))) (PD.q (aT ik (PD.q ak) (PD.q (av (ae 0))))))) (PD.q ak))))
   (au (mZ 0 (ag (aT iB (PD.q (aT ik (ae 4) (PD.q ak))) (PD.q ak))) (ag ak))
   (ai (aD (ag (aT iB (PD.q (aT iB (PD.q (aT ik (PD.q (av (ae 0))) (PD.q ak))) (PD.q ak))) (ae 1))))))))))),?_⟩
 intro Q;let⟨ns,r,st,c,rfl,l,u,B⟩:=g;refine⟨λρ=>ρ=[Z (.ob (Z m) (.lst [.fzl (ns.map D.int),.int r,.int st,.int c])),Z (.v (.int z)),ũ,ũ,ũ],⟨_,S,λh=>?_,λ_=>rfl⟩,?_⟩
 ·show⟨_,S,e,_,S,CDivB.of e I,_,S,_,S,_,S,q _ _ (OR _ ()) (Ob _ e) ⟨ns,_,st,c,S,l,u,()⟩⟩
 rintro ρ rfl;refine⟨trivial,3,c,S,S,(by change 3<4;decide),_,S,_,S,?_⟩;refine⟨λρ=>∃v:Int,ρ=[Z (.ob (Z m) (.lst [.fzl (ns.map D.int),.int r,.int st,.int (c+1)])),Z (.v (.int z)),ũ,Z (.v (.int v)),ũ],⟨_,S,λh=>?_,λ_=>⟨_,S⟩⟩,?_⟩
 ·have h:=dP h
  have g:(0:Int)<((ns.map D.int).length:Int):=by omega
  let⟨v,C⟩:=wN (ns:=ns) (k:=(c+1) % ((ns.map D.int).length:Int)) (OR _ ()) (by have:=Ob (c+1) g;rw[wy]at this ⊢;show this);show⟨_,S,_,S,_,S,g,_,C,_,S⟩
 rintro ρ ⟨v,rfl⟩
 have x:-(2^64)<c+1:=by omega
 have y:c+1<2^64:=by omega
 refine⟨_,S,_,S,nN 'b' 'b',_,S,tw x y,_,S,nN 'b' 'b',tw 'b' 'b',(by decide:(0:Int)<2147483647),_,S,_,S,_,S,tw 'b' 'b',(by decide:(0:Int)<1000000007),e,_,S,?_⟩;show q _ _ (OR _ ()) (Ob _ e) ⟨ns,r,_,c+1,S,l,(),()⟩
theorem dc{z:Int}(h:z<2^64):z<2^9000:=by
 have a:(2:Nat)^64<=2^9000:=Nat.pow_le_pow_right 'b' ()
 have c:(2:Int)^64<=2^9000:=by exact_mod_cast a
 omega
open Tx
inductive y__law_names(as:List Sm)(R:Sm->List Om->Prop)(Rx:XD->List Om->Prop):Prop|mk (a:Option Addr) (o:Om) (n m:Nat) (_:as=[.ob a o,.v (.int (n:Nat))]) (_:Pl m o) (_:m+100<2^20) (_:n<=10) (_:∀(ns:List Str)(o':Om),(∀x∈ns,bQ x=ū)->ns.length=n->Pl (m+3) o'->R (.own (ns.map D.str)) [o'])
noncomputable def dm(l:Y Nat):Str:=⟨l.toArray⟩
theorem BO(l:Y Nat):L (dm l)=l:=rfl
theorem x8(l m:Y Nat):dm l++dm m=dm (l++m):=by change (⟨l.toArray++m.toArray⟩:Str)=⟨(l++m).toArray⟩;rw[List.append_toArray]
theorem sM(l:Y Nat):(dm l).length=l.length:=rfl
theorem nm_iff{l:Y Nat}:bQ (dm l)=ū↔1<=l.length/\l.length<=12/\l.all fm=ū:=by unfold bQ;rw[KQ,KQ,Lj,Lj,sM,BO,and_assoc]
theorem sE{i:Nat}(h:i<26):fm (97+i)=ū:=by unfold fm;simp;omega
noncomputable def noon:Y Nat:=[110,111,111,110]
noncomputable def WD:Y Str:=["at","to","from","least","most","row","unknown","by","try","ask","write","back","x"]
theorem AM:∀w∈WD,bQ w=ū:=by lia
noncomputable def gH(c a at_ n k:Nat):Str:=
 if c=0 then dm (noon.take at_++[97+(a+k) % 26]++noon.drop at_)
 else if c=1 then dm (List.replicate (k+1) (97+a))
 else if c=2 then dm (List.replicate (n+2-k) (97+a))
 else WD.getD ((a+k) % 13) ""
theorem B2{g a at_ n k:Nat}(o:a<26)(r:n<=10)(p:k<n):bQ (gH g a at_ n k)=ū:=by
 unfold gH;split
 ·refine nm_iff.mpr ⟨by simp;omega,?_,?_⟩
  ·have j:=List.length_take_le at_ noon;have l:noon.length=4:=rfl;simp only[Kp,KY,LH,KA,LF];omega
  ·have m:noon.all fm=ū:=by decide
   rw[OQ,OQ];have j:(noon.take at_).all fm=ū:=KZ.mpr λc e=>KZ.mp m c (List.mem_of_mem_take e);have l:(noon.drop at_).all fm=ū:=KZ.mpr λc e=>KZ.mp m c (M1 e);rw[j,l];have:=sE (i:=(a+k) % 26) (Oo _ 'b');simpa using this
 ·split
  ·refine nm_iff.mpr ⟨by simp,by rw[LS];omega,?_⟩;rw[List.all_replicate];simp[sE o]
  ·split
   ·refine nm_iff.mpr ⟨by rw[LS];omega,by rw[LS];omega,?_⟩;rw[List.all_replicate];simp[sE o]
   ·refine AM _ ?_;have h:(a+k) % 13<WD.length:=Oo _ 'b';rw[LB,KG h];show MA h
theorem Im{w:Str}{z:Int}(j:Nat)(h:z=(j:Int)):gB w ũ (Z z)=dm ((L w).take j):=by
 subst h;unfold gB;change dm (bJ (L w) ũ (Z (j:Int)))=_
 have e:bJ (L w) ũ (Z (j:Int))=(L w).take j:=by unfold bJ;rw[HT.sIx_nat,HT.sIx_none,Nk,Nat.sub_zero,←List.take_eq_take_min]
 rw[e]
theorem A4{w:Str}{z:Int}(j:Nat)(h:z=(j:Int)):gB w (Z z) ũ=dm ((L w).drop j):=by
 subst h;unfold gB;change dm (bJ (L w) (Z (j:Int)) ũ)=_
 have e:bJ (L w) (Z (j:Int)) ũ=(L w).drop j:=by
  unfold bJ;rw[HT.sIx_nat,HT.sIx_none];rcases K7 j (L w).length with c|c
  ·rw[Na (),L1 (by rw[LH];omega)]
  ·rw[Nat.min_eq_right c,List.drop_length,List.take_nil,OT c]
 rw[e]
theorem BE:("abcdefghijklmnopqrstuvwxyz":Str).cps.toList=(List.range 26).map (97+·):=by lia
theorem sG{k:Nat}{z:Int}(h:k<26)(e:z=(k:Int)):bZ ("abcdefghijklmnopqrstuvwxyz":Str).cps.toList z=Z (97+k):=by rw[BE];show mD (i:=k) (by rw[Kv,Mn h];rfl) e
theorem tJ:L ("noon":Str)=noon:=by decide
theorem EV{F:Nat->Str}(i:Nat):(List.range (i+1)).map F=(List.range i).map F++[F i]:=by rw[List.range_succ,KW];rfl
theorem vg{c k:Nat}{j:Nat}(h:j=k):fw ⟨#[c]⟩ j=dm (List.replicate k c):=by subst h;unfold fw dm;simp
noncomputable abbrev N7(a:Addr)(n:Nat)(o:Om)(w t c:Nat)(ns:Y Str)(e g:Ū Sm):aj:=[Z (.ob (Z a) o),Z (.v (.int (n:Nat))),Z (.v (.str "abcdefghijklmnopqrstuvwxyz")),Z (.v (.int (w:Nat))),Z (.v (.int (t:Nat))),Z (.v (.int (c:Nat))),Z (.own (ns.map D.str)),e,g]
theorem HK(F:Fun K "_law_names" "_law_names" nX f G)(u:ClM P w K mg base n "_law_next" ["_law_pool_here","_law_size"] y__law_next)(T:mg "range"=ũ):FnOk P w K mg base bh (n+1) f G ["_law_pool_here","_law_count"] (lSpM K y__law_names):=by
 refine F.okM qag (λas R O h=>?_) (λPh A outer s H E as R O qs Pg g h M=>?_)
 ·let⟨a,o,n,m,rfl,_⟩:=h;rfl
 let⟨a,o,n,m,rfl,a_,hm,X,q⟩:=h;let⟨r,rfl⟩:=dG M
 refine⟨_,(au (ax (i:=2) qag.nd S Yk (ag aC))
   (au (ax (i:=3) qag.nd S Yk (bF u g S (bD 0 (aQ (ag ak) bq ar) aa) aa (aG ar ah)))
   (au (ax (i:=4) qag.nd S Yk (bF u g S (bD 0 (aQ (ag ak) bq ar) aa) aa (aG ar ah)))
   (au (ax (i:=5) qag.nd S Yk (bF u g S (bD 0 (aQ (ag ak) bq ar) aa) aa (aG ar ah)))
   (au (ax (i:=6) qag.nd S Yk (eD (eL ao)))
   (au (fE LQ S (gh (rA S T (af (dv 1) ao aa))) (bc (i:=7) qag.nd S Yk) (aM (aH (aR (ay (bz g.units) (ae 3) (PD.q ak) (aw _))) (ai (eK 6 (ag (aT bx (PD.q (aT bx (PD.q (gL (PD.q aC) ic (fZ (ae 5)))) (PD.q (cQ (ae 2) (PD.q (aT iB (PD.q (aT bx (ae 4) (ae 7))) (PD.q ak))) (λ_ _=>rfl))))) (PD.q (gL (PD.q aC) (fZ (ae 5)) ic)))) (bW bN) bN)) aL)
   (aM (aH (aR (ay (bz g.units) (ae 3) (PD.q ak) (aw _))) (ai (eK 6 (ag (aT ik (PD.q (cQ (ae 2) (ae 4) (λ_ _=>rfl))) (PD.q (aT bx (ae 7) (PD.q ak))))) (bW bN) bN)) aL)
   (aM (aH (aR (ay (bz g.units) (ae 3) (PD.q ak) (aw _))) (ai (eK 6 (ag (aT ik (PD.q (cQ (ae 2) (ae 4) (λ_ _=>rfl))) (PD.q (aT iG (PD.q (aT bx (ae 1) (PD.q ak))) (ae 7))))) (bW bN) bN)) aL)
   (ai (aH (aR (ay (bz g.units) (ae 3) (PD.q ak) (aw _))) (au (ax (i:=8) qag.nd S Yk (ag (aO (af aC (af aC (af aC (af aC (af aC (af aC (af aC ao ar) ar) ar) ar) ar) ar) ar))))
   (au (ax (i:=8) qag.nd S Yk (ag (aT bx (ae 8) (PD.q (aO (af aC (af aC (af aC (af aC (af aC (af aC ao ar) ar) ar) ar) ar) ar))))))
   (ai (eK 6 (ag (cQ (ae 8) (PD.q (aT iB (PD.q (aT bx (ae 4) (ae 7))) (PD.q ak))) (λ_ _=>rfl))) (bW az) az)))) aL))))))
   (ai (aD (zG 6))))))))),?_⟩
 intro ke;refine⟨⟨_,_,S⟩,_,S,S,_,_,4,m,S,a_,(),'b',dc 'b',λw' o1 w0 w1 J=>?_⟩;rfl';refine⟨⟨_,_,S⟩,_,S,S,_,_,26,_,S,J,(),'b',dc 'b',λt' o2 t0 t1 N=>?_⟩;rfl';refine⟨⟨_,_,S⟩,_,S,S,_,_,5,_,S,N,(),'b',dc 'b',λc' l ap c1 Q=>?_⟩;rfl';let⟨w,rfl⟩:=Lq w0;let⟨t,rfl⟩:=Lq t0;let⟨c,rfl⟩:=Lq ap
 have z:t<26:=by omega
 have v:("abcdefghijklmnopqrstuvwxyz":Str).length<=sizeLine:=kz 'b';have p:("noon":Str).length<=sizeLine:=kz 'b';have aA:=LD;refine⟨⟨(),()⟩,λi ρ=>∃(C j:Ū Sm),ρ=N7 r n l w t c ((List.range i).map (gH w t c n)) C j,⟨_,_,S⟩,?_,?_⟩
 ·rintro i d ρ hd ⟨C,j,rfl⟩;let⟨hi,rfl⟩:=iH hd
  have U9:i<n:=by omega
  rfl'
  have e:∀{y:Str},y=gH w t c n i->((List.range i).map (gH w t c n)).map D.str++[D.str y]=((List.range (i+1)).map (gH w t c n)).map D.str:=λ{y} h=>by rw[EV,KW,h];rfl
  have len:(((List.range i).map (gH w t c n)).map D.str).length<sizeLine:=by rw[wy,wy,Lm];omega
  have B:w=0\/w=1\/w=2\/w=3:=by omega
  rcases B with rfl|rfl|rfl|rfl
  ·refine⟨λρ=>ρ=N7 r n l 0 t c ((List.range (i+1)).map (gH 0 t c n)) (Z (.v (.int (0+(i:Nat))))) j,⟨λ_=>?_,λh=>(by cases h)⟩,?_⟩
   ·refine⟨p,_,Im c S,(by decide:(0:Int)<26),v,_,sG (k:=(t+i) % 26) (Oo _ 'b') (),?_⟩;have n4:noon.length=4:=rfl
    have ltk:(dm ((L ("noon":Str)).take c)).length<=4:=by rw[sM,tJ,KY];omega
    have ldr:(dm ((L ("noon":Str)).drop c)).length<=4:=by rw[sM,tJ,LH];omega
    refine⟨by change _+1<=sizeLine;omega,p,_,A4 c S,?_⟩;refine⟨by rw[gf];change _+1+_<=sizeLine;omega,len,_,e ?_,S⟩;rw[tJ];change dm (noon.take c)++dm [97+(t+i) % 26]++dm (noon.drop c)=_;rw[x8,x8];rfl
   rintro ρ rfl;refine⟨λρ=>ρ=_,⟨λh=>(by cases h),λ_=>rfl⟩,?_⟩;rintro ρ rfl;refine⟨λρ=>ρ=_,⟨λh=>(by cases h),λ_=>rfl⟩,?_⟩;rintro ρ rfl;show⟨λh=>(by cases h),λ_=>⟨_,_,S⟩⟩
  ·refine⟨λρ=>ρ=_,⟨λh=>(by cases h),λ_=>rfl⟩,?_⟩;rintro ρ rfl;refine⟨λρ=>ρ=N7 r n l 1 t c ((List.range (i+1)).map (gH 1 t c n)) (Z (.v (.int (0+(i:Nat))))) j,⟨λ_=>?_,λh=>(by cases h)⟩,?_⟩
   ·refine⟨v,_,sG z S,?_⟩;refine⟨⟨(),(),by change 1*_<=sizeLine;omega,by change 1<=sizeLine;omega⟩,_,vg (by omega:(0+(i:Int)+1).toNat=i+1),len,_,e S,S⟩
   rintro ρ rfl;refine⟨λρ=>ρ=_,⟨λh=>(by cases h),λ_=>rfl⟩,?_⟩;rintro ρ rfl;show⟨λh=>(by cases h),λ_=>⟨_,_,S⟩⟩
  ·refine⟨λρ=>ρ=_,⟨λh=>(by cases h),λ_=>rfl⟩,?_⟩;rintro ρ rfl;refine⟨λρ=>ρ=_,⟨λh=>(by cases h),λ_=>rfl⟩,?_⟩;rintro ρ rfl;refine⟨λρ=>ρ=N7 r n l 2 t c ((List.range (i+1)).map (gH 2 t c n)) (Z (.v (.int (0+(i:Nat))))) j,⟨λ_=>?_,λh=>(by cases h)⟩,?_⟩
   ·refine⟨v,_,sG z S,?_⟩;refine⟨⟨(),(),by change 1*_<=sizeLine;omega,by change 1<=sizeLine;omega⟩,_,vg (by omega:((n:Int)+2-(0+(i:Int))).toNat=n+2-i),len,_,e S,S⟩
   rintro ρ rfl;show⟨λh=>(by cases h),λ_=>⟨_,_,S⟩⟩
  ·refine⟨λρ=>ρ=_,⟨λh=>(by cases h),λ_=>rfl⟩,?_⟩;rintro ρ rfl;refine⟨λρ=>ρ=_,⟨λh=>(by cases h),λ_=>rfl⟩,?_⟩;rintro ρ rfl;refine⟨λρ=>ρ=_,⟨λh=>(by cases h),λ_=>rfl⟩,?_⟩;rintro ρ rfl;refine⟨λ_=>?_,λh=>(by cases h)⟩;have I:(t+i) % 13<WD.length:=Oo _ 'b';refine⟨by change 7+6<=sizeLine;omega,WD.map D.str,S,(by decide:(0:Int)<13),_,hZ (i:=(t+i) % 13) (KG I) (),len,_,e ?_,_,_,S⟩;change _=WD.getD ((t+i) % 13) "";rw[LB,KG I];rfl
 rintro ρ ⟨C,j,rfl⟩;rw[gA,L4];show⟨_,S,q _ l (λx hx=>by let⟨k,U,rfl⟩:=KP.mp hx;show B2 z X (Ma.mp U)) (by rw[wy,Lm]) Q⟩
open Tx
noncomputable abbrev Pn:=Nat×Int
noncomputable def PnOk(n:Nat)(ts:Y Pn):Prop:=(ts.map (·.1)).Nodup/\∀t∈ts,t.1<n/\bI t.2
theorem xC{j:Type}[DecidableEq j]:∀{xs ys:Y j},xs.Nodup->(∀x∈xs,x∈ys)->xs.length<=ys.length
 | [],_,_,_=>Mq _
 |x::xs,ys,h,c=>by
  rw[K9]at h;have:=xC (ys:=ys.erase x) h.2 λy g=>(List.mem_erase_of_ne λe=>h.1 (by rw[←e];show g)).mpr (c y (Kt _ g));have a:=c x Ku;rw[List.length_erase_of_mem a]at this;have l:=List.length_pos_of_mem a;rw[KA];omega
noncomputable def bU(ns:Y Str)(ts:Y Pn):Y Tm:=ts.map λt=>(t.2,ns.getD t.1 "")
theorem PnOk.len{n:Nat}{ts:Y Pn}(h:PnOk n ts):ts.length<=n:=by
 have:=xC (ys:=List.range n) h.1 λx c=>by let⟨t,a,rfl⟩:=KP.mp c;show Ma.mpr (h.2 t a).1
 rw[Lm,wy]at this;show this
theorem lh{ns:Y Str}{p:Nat}(h:p<ns.length):ns[p]?=Z (ns.getD p ""):=by rw[LB,KG h];rfl
theorem p6{ns:Y Str}{ts:Y Pn}(m:gj ns)(a:PnOk ns.length ts):(∀t∈bU ns ts,gJ t)/\gE ns (bU ns ts)/\(bU ns ts).length<=8:=by
 have mem:∀t∈bU ns ts,t.2∈ns:=λt h=>by let⟨p,o,rfl⟩:=KP.mp h;show KN (lh (a.2 p o).1)
 refine⟨λt h=>⟨?_,m.2.2 _ (mem t h)⟩,⟨mem,?_⟩,?_⟩
 ·let⟨p,o,rfl⟩:=KP.mp h;show (a.2 p o).2
 ·unfold bU;rw[LO]
  have r:∀l:Y Pn,(l.map (·.1)).Nodup->(∀t∈l,t.1<ns.length)->(l.map λt=>ns.getD t.1 "").Nodup:=by
   intro l
   induction l with
   |nil=>intro _ _;show NZ
   |cons t l z=>
    intro j g;rw[K1,K9]at j ⊢;refine⟨λy=>j.1 ?_,z j.2 λx c=>g x (Kt _ c)⟩;let⟨x,c,e⟩:=KP.mp y;have u:=lh (g x (Kt _ c));have v:=lh (g t Ku);rw[e,←v]at u;have:=(Mc (g x (Kt _ c)) m.1).mp u;rw[←this];show List.mem_map_of_mem c
  show r ts a.1 λt h=>(a.2 t h).1
 ·unfold bU;rw[wy];show K3 a.len m.2.1
noncomputable def fW(l:Y Pn)(j:Nat):Int:=match l.find? (λt=>decide (t.1=j))with|some t=>t.2|none=>0
theorem sA{l:Y Pn}{t:Pn}(h:(l.map (·.1)).Nodup)(o:t∈l):fW l t.1=t.2:=by
 unfold fW
 cases e:l.find? (λu=>decide (u.1=t.1))with
 |none=>
  have:=Nh.mp e t o;simp at this
 |some u=>
  have r:u.1=t.1:=KL (List.find?_some (p:=λu:Pn=>decide (u.1=t.1)) e);let⟨i,m⟩:=L9 (Nb e);let⟨j,a⟩:=L9 o
  have c:(l.map (·.1))[i]?=Z u.1:=by rw[Kv,m];rfl
  have g:(l.map (·.1))[j]?=Z t.1:=by rw[Kv,a];rfl
  rw[←r]at g;have:=(Mc (aZ c) h).mp (c.trans g.symm);subst this;rw[m]at a;cases a;rfl
theorem yh{l:Y Pn}{j:Nat}(h:j∉l.map (·.1)):fW l j=0:=by
 unfold fW;have e:l.find? (λu=>decide (u.1=j))=ũ:=Nh.mpr λu c a=>h (by rw[←KL a];show List.mem_map_of_mem c);rw[e]
theorem C5{l m:Y Pn}(a:List.Perm l m)(h:(l.map (·.1)).Nodup)(j:Nat):fW l j=fW m j:=by
 have g:(m.map (·.1)).Nodup:=(a.map _).nodup_iff.mp h;by_cases c:j∈l.map (·.1)
 ·let⟨t,e,rfl⟩:=KP.mp c;rw[sA h e,sA g (a.mem_iff.mp e)]
 ·rw[yh c,yh λz=>c ((a.map _).mem_iff.mpr z)]
theorem uH{ns:Y Str}(l:ns.Nodup){i:Nat}{x:Str}(j:ns[i]?=Z x):∀{ts:Y Pn},(∀t∈ts,t.1<ns.length)->look (bU ns ts) x=fW ts i
 | [],_=>rfl
 |t::ts,h=>by
  have m:=uH l j (ts:=ts) λt o=>h t (Kt _ o);have g:=lh (h t Ku)
  have a:ns.getD t.1 ""=x↔t.1=i:=by
   constructor
   ·intro e;rw[e]at g;show (Mc (h t Ku) l).mp (g.trans j.symm)
   ·intro e;rw[e,j]at g;rw[e];show (K2 g).symm
  unfold look fW at m ⊢;change (match ((t.2,ns.getD t.1 "")::bU ns ts).find? (λt=>decide (t.2=x))with|some t=>t.1|none=>0)=_;by_cases c:t.1=i
  ·rw[MQ (p:=λt:Tm=>decide (t.2=x)) (Ld (a.mpr c)),MQ (p:=λt:Pn=>decide (t.1=i)) (Ld c)]
  ·rw[MC (p:=λt:Tm=>decide (t.2=x)) (by simpa using λz=>c (a.mp z)),MC (p:=λt:Pn=>decide (t.1=i)) (by simpa using c)];show m
theorem vj{ns:Y Str}{ts:Y Pn}(c:ns.Nodup)(e:∀t∈ts,t.1<ns.length):br ns (bU ns ts)=(List.range ns.length).map (fW ts):=by
 unfold br;refine LA λi=>?_;rw[Kv,Kv]
 cases a:ns[i]? with
 |none=>
  have:=L3.mp a;rw[Lc (by rw[Lm];show this)];rfl
 |some x=>
  rw[Mn (aZ a)];change Z _=Z _;rw[uH c a e]
open Tx
inductive y__law_number(as:List Sm)(R:Sm->List Om->Prop)(Rx:XD->List Om->Prop):Prop|mk (a:Option Addr) (o:Om) (m:Nat) (_:as=[.ob a o]) (_:Pl m o) (_:m+10<2^20) (_:∀(x:Int)(o':Om),bI x->Pl (m+2) o'->R (.v (.int x)) [o'])
noncomputable abbrev NB(a:Addr)(o:Om)(x:Int):aj:=[Z (.ob (Z a) o),Z (.v (.int x))]
theorem JA(F:Fun K "_law_number" "_law_number" n6 f G)(j:ClM P w K mg base n "_law_next" ["_law_pool_here","_law_size"] y__law_next):FnOk P w K mg base bh (n+1) f G ["_law_pool_here"] (lSpM K y__law_number):=by
 refine F.okM qai (λas R z h=>?_) (λI A outer s H E as R z N C c h v=>?_)
 ·let⟨a,o,m,rfl,_⟩:=h;rfl
 let⟨a,o,m,rfl,B,J,q⟩:=h;let⟨r,rfl⟩:=dG v
 refine⟨_,(au (ax (i:=1) qai.nd S Yk (bF j c S (bD 0 (aQ (ag ak) bq ar) aa) aa (aG ar ah)))
   (aM (aH (aR (ay (bz c.units) (ae 1) (PD.q ak) (aw _))) (ai (aD (j7 iG (bF j c S (bD 0 (aQ (ag ak) bq ar) aa) aa (aG ar ah)) (ag ak)))) aL)
   (aM (aH (aR (ay (bz c.units) (ae 1) (PD.q ak) (aw _))) (ai (aD (j7 iG (bF j c S (bD 0 (aQ (ag ak) bq ar) aa) aa (aG ar ah)) (ag ak)))) aL)
   (ai (aD (j7 iG (bF j c S (bD 0 (aQ (ag ak) bq ar) aa) aa (aG ar ah)) (ag ak))))))),?_⟩
 intro M;refine⟨⟨_,_,S⟩,_,S,S,_,_,3,m,S,B,(),'b',dc 'b',λx p O Q l=>?_⟩;rfl';refine⟨λρ=>ρ=NB r p x,⟨λ_=>?_,λ_=>rfl⟩,?_⟩
 ·refine⟨⟨_,_,S⟩,_,S,S,_,_,7,_,S,l,(),'b',dc 'b',λy g t u e=>⟨_,S,q _ g (by unfold bI;omega) e⟩⟩
 rintro ρ rfl;refine⟨λρ=>ρ=NB r p x,⟨λ_=>?_,λ_=>rfl⟩,?_⟩
 ·refine⟨⟨_,_,S⟩,_,S,S,_,_,199,_,S,l,(),'b',dc 'b',λy g t u e=>⟨_,S,q _ g (by unfold bI;omega) e⟩⟩
 rintro ρ rfl;show⟨⟨_,_,S⟩,_,S,S,_,_,19999,_,S,l,(),'b',dc 'b',λy g t u e=>⟨_,S,q _ g (by unfold bI;omega) e⟩⟩
theorem cS{x y:Str}{a b:Nat}(c:x.length<=a)(e:y.length<=b)(h:a+b<=100000:=by decide):x.length+y.length<=sizeLine:=by have:=LD;omega
theorem cR{x y:Str}{a b:Nat}(c:x.length<=a)(e:y.length<=b):(x++y).length<=a+b:=by rw[gf];omega
noncomputable def jU(ns:Y Str)(t:Pn):Str:=cT (t.2,ns.getD t.1 "")
theorem wA(ns:Y Str)(ts:Y Pn):(bU ns ts).map cT=ts.map (jU ns):=by unfold bU;rw[LO];rfl
noncomputable abbrev dD(n:Nat)(ts:Y Pn):Y Int:=(List.range n).map (fW ts)
theorem Di{n:Nat}{ts:Y Pn}{p:Nat}{z:Int}(h:PnOk n ts)(r:bI z)(g:p<n)(m:p∉ts.map (·.1)):PnOk n (ts++[(p,z)])/\dD n (ts++[(p,z)])=(dD n ts).set p z:=by
 have nd:((ts++[(p,z)]).map (·.1)).Nodup:=by rw[KW,LI];refine⟨h.1,by simp,λx l y o e=>?_⟩;rw[e,KH.mp o]at l;show m l
 refine⟨⟨nd,λt a=>?_⟩,?_⟩
 ·rcases K6.mp a with a|a
  ·show h.2 t a
  ·rw[KH.mp a];show⟨g,r⟩
 ·refine LA λj=>?_;rw[Kv,Nn,wy,Lm,Kv];rcases K7 j n with c|c
  ·rw[Mn c];change Z (fW _ j)=_;by_cases e:p=j
   ·subst e;rw[Kq S,Kq g,sA (t:=(p,z)) nd (by simp)]
   ·rw[Kr e];change Z _=Z _;rw[C5 (List.perm_append_singleton (p,z) ts) nd];unfold fW;rw[MC (by simpa using e)]
  ·rw[Lc (by rw[Lm];show c),Kr ()];rfl
inductive y__law_sum(as:List Sm)(R:Sm->List Om->Prop)(Rx:XD->List Om->Prop):Prop|mk (a:Option Addr) (o:Om) (ns:List Str) (m:Nat) (_:as=[.ob a o,.v (.tup (ns.map D.str))]) (_:Pl m o) (_:m+100<2^20) (_:gj ns) (_:∀(ts:List Pn)(o':Om),PnOk ns.length ts->Pl (m+30) o'->R (.v (.tup [.str (cB (bU ns ts)),.tup ((dD ns.length ts).map D.int)])) [o'])
noncomputable def mw(p:Nat):D:=.int (p:Nat)
theorem Ak{a c:Type}(f:a->c)(xs:Y a)(j:Nat):(xs.map f).eraseIdx j=(xs.eraseIdx j).map f:=by rw[LV,LV,KW,Oe,O4]
theorem Jg{c:Type}{a:Y c}{j:Nat}{p:c}(h:a[j]?=Z p):List.Perm a (p::a.eraseIdx j):=by
 rw[LV]
 have e:a=a.take j++p::a.drop (j+1):=by have g:=aZ h;rw[KG g]at h;cases h;rw[List.getElem_cons_drop,List.take_append_drop]
 show (List.Perm.of_eq e).trans List.perm_middle
theorem BI(n:Nat):gy 0 n=(List.range n).map mw:=by
 refine LA λi=>?_;rw[Kv];rcases K7 i n with c|c
 ·obtain⟨d,hd⟩:∃d,(gy 0 n)[i]?=Z d:=⟨_,KG (by rw[gA];show c)⟩;let⟨_,rfl⟩:=iH hd;rw[hd,Mn c,Int.zero_add];rfl
 ·rw[Lc (by rw[gA];show c),Lc (by rw[Lm];show c)];rfl
noncomputable abbrev SM(c:Addr)(o:Om)(ns:Y Str)(a:Y Nat)(ts:Y Pn)(e g:Ū Sm):aj:=[Z (.ob (Z c) o),Z (.v (.tup (ns.map D.str))),Z (.own (a.map mw)),Z (.own ((dD ns.length ts).map D.int)),Z (.own ((ts.map (jU ns)).map D.str)),e,g]
structure FrOk(n i:Nat)(fr:List Nat)(ts:List Pn):Prop where
 nd:fr.Nodup
 lt:∀p∈fr,p<n
 no:∀p∈fr,p∉ts.map (·.1)
 fl:fr.length+i=n
theorem EM(F:Fun K "_law_sum" "_law_sum" kP f G)(aA:ClM P w K mg base n "_law_next" ["_law_pool_here","_law_size"] y__law_next)(Pr:ClM P w K mg base n "_law_number" ["_law_pool_here"] y__law_number)(tY:mg "list"=ũ)(dF:mg "range"=ũ)(M:mg "len"=ũ)(bH:mg "tuple"=ũ)(bY:mg "str"=ũ):FnOk P w K mg base bh (n+1) f G ["_law_pool_here","_law_names_here"] (lSpM K y__law_sum):=by
 refine F.okM qap (λas R Rx h=>?_) (λPh A outer s H E as R Rx qs Pg N h Pj=>?_)
 ·let⟨a,o,ns,m,rfl,_⟩:=h;rfl
 let⟨a,o,ns,m,rfl,hp,hm,X,q⟩:=h;let⟨pa,rfl⟩:=dG Pj
 refine⟨_,(au (ax (i:=2) qap.nd S Yk (eD (C3 S S tY S dF (af (bO bR S M KO (bj (ae 1) bp aa) aa ah) ao bX))))
   (au (sX (i:=3) (k:=1) (N':=["_law_name"]) (cap:=[ũ]) S qap.nd S Yk (.ok (show eC ["_law_pool_here","_law_names_here","_law_free","_law_entries","_law_terms_here","_law_k","_law_at"] (aF kP) _ ["_law_name"] [ũ]=ū by lia)) 'a' (eB 'b') (fV (dv 1)) (λ_ _ _ _ _=>(eA (i:=0) (show List.Nodup (["_law_name"]:Y Str)by lia) S Yk)) (λ_ _ _ _ _=>ak))
   (au (ax (i:=4) qap.nd S Yk (eD (eL ao)))
   (au (fE LQ S (xu S dF (aQ (bF aA N S (bD 0 (aQ (ag (aT bx (PD.q (bO bR S M KO (bj (ae 1) bp aa) aa ah)) (PD.q ak))) bq bN) aa) aa (aG bN ah)) bq bX)) (bc (i:=5) qap.nd S Yk) (au (ax (i:=6) qap.nd S Yk (Ip 2 (bF aA N S (bD 0 (aQ (ag (bO bR S M KO (bj (ae 2) bp aa) aa ah)) bq bX) aa) aa (aG bX ah)) (bW bX) bX))
   (au (mZ 3 (bF Pr N S (bD 0 bq aa) aa ah) (ag (dv 6)))
   (ai (eK 4 (ag (aT bx (PD.q (aT bx (PD.q (cL hJ S bY Lx (bj (PD.q (cQ (ae 3) (ae 6) (λ_ _=>rfl))) bp az) az ah)) (PD.q aC))) (PD.q (cQ (ae 1) (ae 6) (λ_ _=>rfl))))) (bW bN) bN)))))
   (aM (aH (aR (ay (bz N.units) (PD.q (bO bR S M KO (bj (ae 4) bp aa) aa ah)) (PD.q ak) (aw _))) (ai (eK 4 (ag aC) (bW ar) ar)) aL)
   (jW 4 (ai (aD (ag (aO (af (kO (PD.q aC) (dv 4) (bW aa) aa) (af (cL fG S bH La (bj (ae 3) bp aa) aa ah) ao bX) bX))))))))))),?_⟩
 intro ke;have n8:=X.2.1;rfl';refine⟨⟨by rw[wy];omega,by rw[wy];omega⟩,?_⟩;rfl';rw[wy,L4,BI];refine ij (f:=D.str) (λ_=>D.int 0) (cq ()) (λx hx=>rfl) ?_
 have e0:(ns.map λ_=>D.int 0)=(dD ns.length []).map D.int:=by
  refine LA λi=>?_;rw[Kv,Kv,Kv];rcases K7 i ns.length with c|c
  ·rw[KG c,Mn c];rfl
  ·rw[Lc c,Lc (by rw[Lm];show c)];rfl
 rw[e0];rfl';refine⟨⟨_,_,S⟩,_,S,S,_,_,_,_,S,hp,(),(),dc (by rw[wy];omega),λa_ O a0 a1 I=>?_⟩;rfl';let⟨c,rfl⟩:=Lq a0;rw[wy]at a1;refine⟨⟨(),()⟩,λi ρ=>∃(g:Y Nat)(ts:Y Pn)(o':Om)(ap T:Ū Sm),ρ=SM pa o' ns g ts ap T/\PnOk ns.length ts/\FrOk ns.length i g ts/\Pl (m+1+3*i) o',⟨List.range ns.length,[],O,_,_,S,⟨NZ,λt h=>by cases h⟩,⟨List.nodup_range,λp h=>Ma.mp h,λp _ h=>(by cases h),by rw[Lm];rfl⟩,I⟩,?_,?_⟩
 ·rintro i d ρ hd ⟨g,ts,o2,ap,T,rfl,y,u,Qk⟩;let⟨hi,rfl⟩:=iH hd;rw[L4]at hi;have UR:=u.fl;rfl';refine⟨⟨_,_,S⟩,_,S,S,_,_,_,_,S,Qk,(),by rw[wy];omega,dc (by rw[wy];omega),λx2 o3 b0 b1 Sv=>?_⟩;rfl';let⟨j,rfl⟩:=Lq b0;rw[wy]at b1
  have hj:j<g.length:=by omega
  obtain⟨p,U⟩:∃p,g[j]?=Z p:=⟨_,KG hj⟩;have C:=KN U;have J:=u.lt p C;refine⟨j,mw p,S,(),by rw[Kv,U];rfl,(g.eraseIdx j).map mw,Ak ..,?_⟩;rfl';refine⟨⟨_,_,S⟩,_,S,S,_,_,_,S,Sv,(),λz o4 l X7=>?_⟩;rfl'
  have el:((dD ns.length ts).map D.int).length=ns.length:=by rw[wy,wy,Lm]
  let⟨k1,k2⟩:=Di y l J (u.no p C);refine⟨p,by rw[el];show xK J,(dD ns.length (ts++[(p,z)])).map D.int,by rw[k2,List.map_set],?_⟩;rfl';have a_:=lh J;have x6:=gv (X.2.2 _ (KN a_));have a6:=c9 l
  have cs:(" ":Str).length<=1:=by decide
  have tl:=y.len;have h3:bZ ((dD ns.length (ts++[(p,z)])).map D.int) ((p:Nat):Int)=Z (.int z):=hZ (i:=p) (by rw[k2,Ls (by rw[wy,Lm];show J)]) S;refine⟨_,h3,_,S,big l,cS a6 cs,_,hZ (i:=p) a_ S,cS (cR a6 cs) x6,by rw[wy,wy];show cq (),((ts++[(p,z)]).map (jU ns)).map D.str,?_,?_⟩
  ·rw[KW,KW]
   have e:(nstr z++" ")++ns.getD p ""=jU ns (p,z):=by unfold jU cT;rw[Lo]
   rw[e];rfl
  have Q:=Jg U;have nd:=K9.mp (Q.nodup_iff.mp u.nd);refine⟨g.eraseIdx j,ts++[(p,z)],o4,_,_,S,k1,⟨nd.2,λr h=>u.lt r (Q.mem_iff.mpr (Kt _ h)),λr h v=>?_,?_⟩,X7⟩
  ·rw[KW]at v;rcases K6.mp v with v|v
   ·show u.no r (Q.mem_iff.mpr (Kt _ h)) v
   ·rw[KH.mp v]at h;show nd.1 h
  ·have:=Q.length_eq;rw[KA]at this;omega
 rintro ρ ⟨g,ts,O,ap,T,rfl,y,u,I⟩;rw[gA,L4]at I;have tl:=y.len;let⟨k1,k2,k3⟩:=p6 X y;refine⟨λρ=>∃B:Y Str,ρ=[Z (.ob (Z pa) O),Z (.v (.tup (ns.map D.str))),Z (.own (g.map mw)),Z (.own ((dD ns.length ts).map D.int)),Z (.own (B.map D.str)),ap,T]/\B.length<=8/\(∀z∈B,z.length<=18)/\ï " + " B=cB (bU ns ts),⟨λh=>?_,λh=>?_⟩,?_⟩
 ·have h:=dq h;rw[wy,wy]at h;have e:ts=[]:=LM.mp ();subst e;show⟨cq (Mq _),[D.str "0"],S,["0"],S,'b','b',S⟩
 ·have PM:ts≠[]:=λz=>by rw[z]at h;show tf h
  have UA:bU ns ts≠[]:=λz=>PM (List.map_eq_nil_iff.mp z);refine⟨ts.map (jU ns),S,by rw[wy];omega,λz l=>?_,?_⟩
  ·rw[←wA]at l;let⟨t,h,rfl⟩:=KP.mp l;have h1:=c9 (k1 t h).1;have v:=gv (k1 t h).2
   have c:(" ":Str).length=1:=by decide
   unfold cT;rw[gf,gf,c];omega
  ·rw[←wA];show (Mm _ _).trans (kJ UA)
 rintro ρ ⟨B,rfl,z8,X8,l⟩;refine⟨_,S,B,S,l9 18 X8 ?_,?_⟩
 ·have c:(" + ":Str).length=3:=by decide
  rw[c];omega
 rw[l];show⟨_,S,q ts O y (I.mono ())⟩
open Tx
noncomputable def bw(s:Dk):D:=.tup [.tup (s.ns.map D.str),.tup (s.bs.map cZ),.tup (s.rs.map bK),.tup (s.gl.map D.int),.int s.sn]
noncomputable def qj(s:Dk)(a:Y Dk):Say->Dk
 |.word _=>a.getLast?.getD s
 |w=>kU s w
noncomputable def cN(s:Dk)(a:Y Dk)(w:Say):Dk:=if bB s a w=0 then qj s a w else s
noncomputable def gp(s:Dk)(a:Y Dk)(x:Str)(w:Say):D:=.tup [.str x,.int (bB s a w),bw (cN s a w)]
structure SOk(s:Dk):Prop where
 pl:PlOk s.ns s.bs s.rs s.gl
 sn:s.sn=1\/s.sn = -1
noncomputable def IE:Say->Prop
 |.frm f=>eI f
 |_=>True
structure Ln(s:Dk)(x:Str)(w:Say):Prop where
 ac:dH x
 len:x.length<=900
 say:eW s.ns.length x=Z w
 num:IE w
 ok:fh s w\/w=.word "back"
theorem Dc{f:Frm}(h:eI f):Í (aP f) " "=cA f:=by
 unfold aP;refine oU (c:=32) ?_ ?_
 ·cases f with
  |unk x l m=>cases m<;>simp[cA]
  |row ts b t=>simp[cA]
  |worth ts s=>simp[cA]
 ·intro w e a;have:=rM h w e 32 a;omega
theorem ym{n:Nat}{f:Frm}(h:eI f):eW n (aP f)=Z (.frm f):=by
 have o:=Dc h;have a:=uy h
 have e:aP f∉(["back","ask","fractions","write"]:Y Str):=λj=>by
  have c:∀x∈(["back","ask","fractions","write"]:Y Str),il x=ũ:=by lia
  rw[c _ j]at a;cases a
 have g:aV (cA f) 0∉(["take","try"]:Y Str):=by
  cases f with
  |unk x l m=>cases m<;>(show ("unknown":Str)∉_;decide)
  |row ts b t=>change ("row":Str)∉_;decide
  |worth ts s=>
   change (if s=1 then ("most":Str) else "least")∉_;split<;>decide
 unfold eW;rw[Kr e,o,Kr g,a];rfl
theorem Ln.frm{s:Dk}{f:Frm}(h:eI f)(c:tT f)(e:kR s f):Ln s (aP f) (.frm f):=by have a:=wz h c;show⟨rG h a,a,ym h,h,.inl e⟩
theorem qJ(n:Nat):eW n "back"=Z (.word "back"):=by unfold eW;rw[Kq 'b']
theorem Ln.nb{s:Dk}{x:Str}{w:Say}(h:Ln s x w)(a:fh s w):x≠"back":=λe=>by have:=h.say;rw[e,qJ]at this;cases this;show a
theorem kh{s:Dk}{w:Say}(a:Y Dk)(h:fh s w):bB s a w=bB s [] w/\cN s a w=cN s [] w:=by
 cases w with
 |word v=>show h.elim
 |tri v=>show h.elim
 |take k=>show⟨S,S⟩
 |frm f=>show⟨S,S⟩
inductive y__law_unknown(as:List Sm)(R:Sm->List Om->Prop)(Rx:XD->List Om->Prop):Prop|mk (a:Option Addr) (o:Om) (s:Dk) (x:Str) (m:Nat) (_:as=[.ob a o,.v (bw s),.v (.str x)]) (_:Pl m o) (_:m+100<2^20) (_:SOk s) (_:bQ x=ū) (_:∀(y:Str)(w:Say)(o':Om),Ln s y w->fh s w->Pl (m+60) o'->R (.v (gp s [] y w)) [o'])
noncomputable abbrev UN(e:Addr)(o:Om)(k:Dk)(x:Str)(l:Int)(c:Ū Int)(y:Str)(a:Ū Sm):aj:=[Z (.ob (Z e) o),Z (.v (bw k)),Z (.v (.str x)),Z (.v (.tup (k.ns.map D.str))),Z (.v (.tup (k.bs.map cZ))),Z (.v (.tup (k.rs.map bK))),Z (.v (.tup (k.gl.map D.int))),Z (.v (.int k.sn)),Z (.v (.int l)),Z (.v (jm c)),Z (.v (.str y)),a]
theorem EC(F:Fun K "_law_unknown" "_law_unknown" ky f G)(M:ClM P w K mg base n "_law_number" ["_law_pool_here"] y__law_number)(Pa:ClM P w K mg base n "_law_next" ["_law_pool_here","_law_size"] y__law_next)(bH:mg "tuple"=ũ)(N:mg "str"=ũ)(aI:mg "len"=ũ):FnOk P w K mg base bh (n+1) f G ["_law_pool_here","_law_state","_law_name"] (lSpM K y__law_unknown):=by
 refine F.okM qat (λas R Rx h=>?_) (λPh A outer s H E as R Rx qs Pg p h Pj=>?_)
 ·let⟨a,o,k,x,m,rfl,_⟩:=h;rfl
 let⟨a,o,k,x,m,rfl,hp,hm,g,Q,q⟩:=h;let⟨J,rfl⟩:=dG Pj
 refine⟨_,(au (fj (ag (dv 1)) (dJ (n:=5) S (bt (bc (i:=3) qat.nd S Yk) (bt (bc (i:=4) qat.nd S Yk) (bt (bc (i:=5) qat.nd S Yk) (bt (bc (i:=6) qat.nd S Yk) (bt (bc (i:=7) qat.nd S Yk) dN)))))))
   (au (ax (i:=8) qat.nd S Yk (bF M p S (bD 0 bq aa) aa ah))
   (au (ax (i:=9) qat.nd S Yk (ag bE))
   (au (ax (i:=10) qat.nd S Yk (ag (aT bx (PD.q (aT bx (PD.q (aT bx (PD.q aC) (ae 2))) (PD.q aC))) (PD.q (cL hJ S N Lx (bj (ae 8) bp aa) aa ah)))))
   (aM (aH (jZ (bz p.units) (bF Pa p S (bD 0 (aQ (ag ak) bq ar) aa) aa (aG ar ah)) (ag ak) (aw _)) (au (ax (i:=9) qat.nd S Yk (bF M p S (bD 0 bq aa) aa ah))
   (ai (ax (i:=10) qat.nd S Yk (ag (aT bx (PD.q (aT bx (ae 10) (PD.q aC))) (PD.q (cL hJ S N Lx (bj (ae 9) bp aa) aa ah))))))) aL)
   (aM (aH (aR (ay kB (ae 2) (ae 3) (by with_unfolding_all rfl))) (ai (aD (ag (aO (af (dv 10) (af ak (af (dv 1) ao aa) ar) aa))))) aL)
   (aM (aH (aR (ay (bz p.units) (PD.q (bO bR S aI KO (bj (ae 3) bp aa) aa ah)) (PD.q ak) (aw _))) (ai (aD (ag (aO (af (dv 10) (af ak (af (dv 1) ao aa) ar) aa))))) aL)
   (au (ax (i:=11) qat.nd S Yk (ag (cL fG S bH La (bj (PD.q (PF.d (g9 (k:=1) (N':=["_law_row"]) (cap:=[ũ]) S (.ok (show eC ["_law_pool_here","_law_state","_law_name","_law_names_here","_law_bounds","_law_rows","_law_goal","_law_sense","_law_least","_law_most","_law_line","_law_wider"] (aF ky) _ ["_law_row"] [ũ]=ū by lia)) 'a' (eB 'b') (fV (dv 5)) (λ_ _ _ _ _=>(eA (i:=0) (show List.Nodup (["_law_row"]:Y Str)by lia) S Yk)) (λ_ _ _ _ _=>(aO (af (aT bx (PD.q (av (ae 0))) (PD.q (aO (af ak ao ar)))) (af (av (ae 0)) ao az) bN)))))) bp dM) dM ah)))
   (ai (aD (ag (aO (af (dv 10) (af ak (af (aO (af (aT bx (ae 3) (PD.q (aO (af (dv 2) ao aa)))) (af (aT bx (ae 4) (PD.q (aO (af (aO (af (dv 8) (af (dv 9) ao aa) aa)) ao cC)))) (af (dv 11) (af (aT bx (ae 6) (PD.q (aO (af ak ao ar)))) (af (dv 7) ao aa) bN) aa) bN) bN)) ao cC) ar) aa))))))))))))),?_⟩
 intro ke;have n8:=g.pl.nm.2.1;have TL:=g.pl.bl;have So:=g.pl.rl;have WN:=g.pl.gn;have z:=gv Q
 have v:("unknown ":Str).length<=8:=by decide
 have B:(" from ":Str).length<=6:=by decide
 have O:(" to ":Str).length<=4:=by decide
 refine⟨S,?_⟩;rfl';refine⟨⟨_,_,S⟩,_,S,S,_,_,_,S,hp,(),λl o1 I aA=>?_⟩;rfl';have ap:=c9 I
 have X:(("unknown ":Str)++x++" from ")++nstr l=aP (.unk x l ũ):=by rw[←lL];simp only[Lo]
 have T:(aP (.unk x l ũ)).length<=100:=by rw[←X];show K3 (cR (cR (cR v z) B) ap) 'b'
 refine⟨cS v z,cS (cR v z) B,_,S,big I,cS (cR (cR v z) B) ap,?_⟩;rfl';rw[X];refine⟨λρ=>∃(c:Ū Int)(U:Om),ρ=UN J U k x l c (aP (.unk x l c)) ũ/\(∀j,c=Z j->bI j)/\Pl (m+60) U,?_,?_⟩
 ·refine⟨⟨_,_,S⟩,_,S,S,_,_,2,_,S,aA,(),'b',dc 'b',λy t y0 y1 u=>?_⟩;rfl';refine⟨λ_=>?_,λ_=>⟨ũ,t,S,λj h=>(by cases h),u.mono ()⟩⟩;refine⟨⟨_,_,S⟩,_,S,S,_,_,_,S,u,(),λj o3 C Sv=>?_⟩;rfl';have j6:=c9 C;refine⟨cS T O,_,S,big C,cS (cR T O) j6,Z j,o3,?_,λj' h=>(by cases h;show C),Sv.mono ()⟩;rw[←rZ,←lL];simp only[Lo];rfl
 rintro ρ ⟨c,t,rfl,WO,u⟩;have fo:eI (.unk x l c):=⟨Q,I,WO⟩;have a_:Ln k (aP (.unk x l c)) (.frm (.unk x l c)):=.frm fo trivial trivial;have q:=q _ (.frm (.unk x l c)) t a_ trivial u
 have eb:bB k [] (.frm (.unk x l c))=if x∈k.ns then 2 else if 8<=k.ns.length then 1 else 0:=rfl
 unfold gp cN at q;rw[eb]at q;refine⟨λρ=>x∉k.ns/\ρ=UN J t k x l c (aP (.unk x l c)) ũ,⟨.inr x,k.ns.map Ø,S,by rw[←pV];rfl,?_⟩,?_⟩
 ·rw[jB,MM];refine⟨λh=>?_,λh=>⟨K8 h,S⟩⟩;rw[Kq (KL h),Kr 'b']at q;show⟨_,S,q⟩
 rintro ρ ⟨n1,rfl⟩;rw[Kr n1]at q;refine⟨λρ=>k.ns.length<8/\ρ=UN J t k x l c (aP (.unk x l c)) ũ,⟨λh=>?_,λh=>?_⟩,?_⟩
 ·have h:=dq h;rw[wy]at h;rw[Kq (),Kr 'b']at q;show⟨_,S,q⟩
 ·have h:=i7 h;rw[wy]at h;show⟨(),S⟩
 rintro ρ ⟨n2,rfl⟩;rw[Kr (),Kq S]at q;refine ij (f:=bK) (λr=>bK (iL r)) (cq ()) (λr Rv=>?_) ?_
 ·have:=(g.pl.ro r Rv).1;show⟨_,S,gq () _,_,gz D.int r.1 0,_,S,S⟩
 have e:(k.rs.map λr=>bK (iL r))=(k.rs.map iL).map bK:=by rw[LO];rfl
 rw[e];show⟨gq () _,_,gz D.str k.ns x,gq () _,_,gz cZ k.bs (l,c),gq () _,_,gz D.int k.gl 0,_,S,q⟩
open Tx
theorem xI{ns:Y Str}{ts:Y Pn}(a:gj ns)(e:PnOk ns.length ts):(cB (bU ns ts)).length<=400:=by
 let⟨k1,k2,k3⟩:=p6 a e;have g:=nF (bU ns ts);have:=kg (s:=" ") (ws:=aY (bU ns ts)) (B:=12) (mG k1)
 have c:(" ":Str).length=1:=by decide
 rw[c]at this;unfold cB;omega
noncomputable def rR(t:Bool):Str:=if t then " at most " else " at least "
theorem yK(ts:Y Tm)(b:Int)(t:Bool):((("row ":Str)++cB ts)++rR t)++nstr b=aP (.row ts b t):=by
 cases t
 ·rw[←vC];simp only[Lo];rfl
 ·rw[←zY];simp only[Lo];rfl
inductive y__law_rowed(as:List Sm)(R:Sm->List Om->Prop)(Rx:XD->List Om->Prop):Prop|mk (a:Option Addr) (o:Om) (s:Dk) (t:Bool) (m:Nat) (_:as=[.ob a o,.v (bw s),.v (.int (if t then 1 else 0))]) (_:Pl m o) (_:m+200<2^20) (_:SOk s) (_:∀(y:Str)(w:Say)(o':Om),Ln s y w->fh s w->Pl (m+60) o'->R (.v (gp s [] y w)) [o'])
theorem zE(F:Fun K "_law_rowed" "_law_rowed" lj f G)(M:ClM P w K mg base n "_law_sum" ["_law_pool_here","_law_names_here"] y__law_sum)(I:ClM P w K mg base n "_law_number" ["_law_pool_here"] y__law_number)(T:mg "str"=ũ)(O:mg "len"=ũ)(ap:mg "tuple"=ũ):FnOk P w K mg base bh (n+1) f G ["_law_pool_here","_law_state","_law_way"] (lSpM K y__law_rowed):=by
 refine F.okM qak (λas R N h=>?_) (λPh A outer s H E as R N qs Pg g h C=>?_)
 ·let⟨a,o,k,t,m,rfl,_⟩:=h;rfl
 let⟨a,o,k,t,m,rfl,aA,hm,c,q⟩:=h;let⟨v,rfl⟩:=dG C
 refine⟨_,(au (fj (ag (dv 1)) (dJ (n:=5) S (bt (bc (i:=3) qak.nd S Yk) (bt (bc (i:=4) qak.nd S Yk) (bt (bc (i:=5) qak.nd S Yk) (bt (bc (i:=6) qak.nd S Yk) (bt (bc (i:=7) qak.nd S Yk) dN)))))))
   (au (fj (bF M g S (bD 0 (aQ (ag (dv 3)) bq aa) aa) aa (aG aa ah)) (dJ (n:=2) S (bt (bc (i:=8) qak.nd S Yk) (bt (bc (i:=9) qak.nd S Yk) dN))))
   (au (ax (i:=10) qak.nd S Yk (bF I g S (bD 0 bq aa) aa ah))
   (au (ax (i:=11) qak.nd S Yk (ag (aT bx (PD.q (aT bx (PD.q (aT bx (PD.q aC) (ae 8))) (PD.q (cQ (PD.q (aO (af aC (af aC ao ar) ar))) (ae 2) (λ_ _=>rfl))))) (PD.q (cL hJ S T Lx (bj (ae 10) bp aa) aa ah)))))
   (aM (aH (aR (ay (bz g.units) (PD.q (bO bR S O KO (bj (ae 5) bp aa) aa ah)) (PD.q ak) (aw _))) (ai (aD (ag (aO (af (dv 11) (af ak (af (dv 1) ao aa) ar) aa))))) aL)
   (au (ax (i:=12) qak.nd S Yk (ag (aO (af (dv 9) (af (dv 10) ao aa) aa))))
   (aM (aH (aR (ay (bz g.units) (ae 2) (PD.q ak) (aw _))) (ai (ax (i:=12) qak.nd S Yk (ag (aO (af (cL fG S ap La (bj (PD.q (PF.d (g9 (k:=1) (N':=["_law_entry"]) (cap:=[ũ]) S (.ok (show eC ["_law_pool_here","_law_state","_law_way","_law_names_here","_law_bounds","_law_rows","_law_goal","_law_sense","_law_text_here","_law_entries","_law_bound","_law_line","_law_row"] (aF lj) _ ["_law_entry"] [ũ]=ū by lia)) 'a' (eB 'b') (fV (dv 9)) (λ_ _ _ _ _=>(eA (i:=0) (show List.Nodup (["_law_entry"]:Y Str)by lia) S Yk)) (λ_ _ _ _ _=>(eG (ae 0)))))) bp dM) dM ah) (af (eG (ae 10)) ao r8) bX))))) aL)
   (ai (aD (ag (aO (af (dv 11) (af ak (af (aO (af (dv 3) (af (dv 4) (af (aT bx (ae 5) (PD.q (aO (af (dv 12) ao aa)))) (af (dv 6) (af (dv 7) ao aa) aa) bN) aa) aa)) ao cC) ar) aa)))))))))))),?_⟩
 intro ke;have n8:=c.pl.nm.2.1;have So:=c.pl.rl;refine⟨S,?_⟩;rfl';refine⟨⟨_,_,S⟩,_,S,S,_,_,k.ns,m,S,aA,(),c.pl.nm,λts o1 l z=>?_⟩;refine⟨S,?_⟩;rfl';refine⟨⟨_,_,S⟩,_,S,S,_,_,_,S,z,(),λb j r J=>?_⟩;rfl';let⟨k1,k2,k3⟩:=p6 c.pl.nm l;have U:br k.ns (bU k.ns ts)=dD k.ns.length ts:=vj c.pl.nm.1 λt e=>(l.2 t e).1;have sl:=xI c.pl.nm l
 have p:("row ":Str).length<=4:=by decide
 have u:(rR t).length<=10:=by cases t<;>decide
 have Q:=c9 r
 have B:bZ [D.str " at least ",.str " at most "] (if t then 1 else 0)=Z (.str (rR t)):=by cases t<;>rfl
 refine⟨cS p sl,_,B,cS (cR p sl) u,_,S,big r,cS (cR (cR p sl) u) Q,?_⟩;rfl';rw[yK];have y:Ln k (aP (.row (bU k.ns ts) b t)) (.frm (.row (bU k.ns ts) b t)):=.frm ⟨k1,r⟩ k3 ⟨k2,()⟩;have q:=q _ (.frm (.row (bU k.ns ts) b t)) j y ⟨k2,()⟩ (J.mono ())
 have X:bB k [] (.frm (.row (bU k.ns ts) b t))=if 12<=k.rs.length then 1 else 0:=rfl
 unfold gp cN at q;rw[X]at q;refine⟨λρ=>k.rs.length<12/\ρ=[Z (.ob (Z v) j),Z (.v (bw k)),Z (.v (.int (if t then 1 else 0))),Z (.v (.tup (k.ns.map D.str))),Z (.v (.tup (k.bs.map cZ))),Z (.v (.tup (k.rs.map bK))),Z (.v (.tup (k.gl.map D.int))),Z (.v (.int k.sn)),Z (.v (.str (cB (bU k.ns ts)))),Z (.v (.tup ((dD k.ns.length ts).map D.int))),Z (.v (.int b)),Z (.v (.str (aP (.row (bU k.ns ts) b t)))),ũ],⟨λh=>?_,λh=>?_⟩,?_⟩
 ·have h:=dq h;rw[wy]at h;rw[Kq (),Kr 'b']at q;show⟨_,S,q⟩
 ·have h:=i7 h;rw[wy]at h;show⟨(),S⟩
 rintro ρ ⟨n2,rfl⟩;rw[Kr (),Kq S]at q;have q:R (.v (.tup [.str (aP (.row (bU k.ns ts) b t)),.int 0,.tup [.tup (k.ns.map D.str),.tup (k.bs.map cZ),.tup ((k.rs++[if t then iU (br k.ns (bU k.ns ts),b) else (br k.ns (bU k.ns ts),b)]).map bK),.tup (k.gl.map D.int),.int k.sn]])) [j]:=q;rw[U]at q
 have a_:(dD k.ns.length ts).length<=1000:=by rw[wy,Lm];omega
 refine⟨λρ=>ρ=[Z (.ob (Z v) j),Z (.v (bw k)),Z (.v (.int (if t then 1 else 0))),Z (.v (.tup (k.ns.map D.str))),Z (.v (.tup (k.bs.map cZ))),Z (.v (.tup (k.rs.map bK))),Z (.v (.tup (k.gl.map D.int))),Z (.v (.int k.sn)),Z (.v (.str (cB (bU k.ns ts)))),Z (.v (.tup ((dD k.ns.length ts).map D.int))),Z (.v (.int b)),Z (.v (.str (aP (.row (bU k.ns ts) b t)))),Z (.v (bK (if t then iU (dD k.ns.length ts,b) else (dD k.ns.length ts,b))))],⟨λh=>?_,λh=>?_⟩,?_⟩
 ·have e:t=ū:=by cases t;show ff h;rfl
  subst e;refine oE (f:=D.int) (λx=>-x) (cq a_) (λx _=>rfl) ?_;rfl
 ·have e:t=Ŭ:=by cases t;rfl;show tf h
  subst e;rfl
 rintro ρ rfl;show⟨gq () _,_,gz bK k.rs _,_,S,q⟩
inductive y__law_sought(as:List Sm)(R:Sm->List Om->Prop)(Rx:XD->List Om->Prop):Prop|mk (a:Option Addr) (o:Om) (s:Dk) (m:Nat) (_:as=[.ob a o,.v (bw s)]) (_:Pl m o) (_:m+200<2^20) (_:SOk s) (_:∀(y:Str)(w:Say)(o':Om),Ln s y w->fh s w->Pl (m+60) o'->R (.v (gp s [] y w)) [o'])
noncomputable def sg(t:Bool):Int:=if t then -1 else 1
theorem IX(F:Fun K "_law_sought" "_law_sought" mf f G)(y:ClM P w K mg base n "_law_next" ["_law_pool_here","_law_size"] y__law_next)(C:ClM P w K mg base n "_law_sum" ["_law_pool_here","_law_names_here"] y__law_sum)(J:mg "tuple"=ũ):FnOk P w K mg base bh (n+1) f G ["_law_pool_here","_law_state"] (lSpM K y__law_sought):=by
 refine F.okM qan (λas R I h=>?_) (λa_ A outer s H E as R I qs X r h z=>?_)
 ·let⟨a,o,k,m,rfl,_⟩:=h;rfl
 let⟨a,o,k,m,rfl,T,aA,c,q⟩:=h;let⟨pa,rfl⟩:=dG z
 refine⟨_,(au (fj (ag (dv 1)) (dJ (n:=5) S (bt (bc (i:=2) qan.nd S Yk) (bt (bc (i:=3) qan.nd S Yk) (bt (bc (i:=4) qan.nd S Yk) (bt (bc (i:=5) qan.nd S Yk) (bt (bc (i:=6) qan.nd S Yk) dN)))))))
   (au (ax (i:=7) qan.nd S Yk (bF y r S (bD 0 (aQ (ag ak) bq ar) aa) aa (aG ar ah)))
   (au (fj (bF C r S (bD 0 (aQ (ag (dv 2)) bq aa) aa) aa (aG aa ah)) (dJ (n:=2) S (bt (bc (i:=8) qan.nd S Yk) (bt (bc (i:=9) qan.nd S Yk) dN))))
   (au (ax (i:=10) qan.nd S (Ř S) (ag (cQ (PD.q (aO (af ak (af (eG (PD.q ak)) ao r8) ar))) (ae 7) (λ_ _=>rfl))))
   (au (ax (i:=5) qan.nd S Yk (ag (cL fG S J La (bj (PD.q (PF.d (g9 (k:=1) (N':=["_law_entry","_law_turns"]) (cap:=[ũ,Z 10]) S (.ok (show eC ["_law_pool_here","_law_state","_law_names_here","_law_bounds","_law_rows","_law_goal","_law_sense","_law_way","_law_text_here","_law_entries","_law_turns"] (aF mf) _ ["_law_entry","_law_turns"] [ũ,Z 10]=ū by lia)) 'a' (eB 'b') (fV (dv 9)) (λ_ _ _ _ _=>(eA (i:=0) (show List.Nodup (["_law_entry","_law_turns"]:Y Str)by lia) S Yk)) (λ_ _ _ _ _=>(aT ik (ae 1) (ae 0)))))) bp dM) dM ah)))
   (ai (aD (ag (aO (af (aT bx (PD.q (cQ (PD.q (aO (af aC (af aC ao ar) ar))) (ae 7) (λ_ _=>rfl))) (ae 8)) (af ak (af (aO (af (dv 2) (af (dv 3) (af (dv 4) (af (dv 5) (af (dv 10) ao aa) aa) aa) aa) aa)) ao cC) ar) bN)))))))))),?_⟩
 intro ke;have n8:=c.pl.nm.2.1;refine⟨S,?_⟩;rfl';refine⟨⟨_,_,S⟩,_,S,S,_,_,2,m,S,T,(),'b',dc 'b',λx o1 x0 x1 v=>?_⟩;rfl';refine⟨⟨_,_,S⟩,_,S,S,_,_,k.ns,_,S,v,(),c.pl.nm,λts u j B=>?_⟩;refine⟨S,?_⟩;rfl';let⟨k1,k2,k3⟩:=p6 c.pl.nm j;have M:br k.ns (bU k.ns ts)=dD k.ns.length ts:=vj c.pl.nm.1 λt p=>(j.2 t p).1
 obtain⟨t,Q,ap,p⟩:∃t:Bool,bZ [D.int 1,.int (-1)] x=Z (.int (sg t))/\bZ [D.str "most ",.str "least "] x=Z (.str (if t then "least " else "most "))/\(if t then ("least ":Str) else "most ")++cB (bU k.ns ts)=aP (.worth (bU k.ns ts) (sg t)):=by
  obtain rfl|rfl:x=0\/x=1:=by omega
  ·show⟨Ŭ,S,S,(jM _).1⟩
  ·show⟨ū,S,S,(jM _).2⟩
 have l:sg t=1\/sg t = -1:=by unfold sg;cases t<;>simp
 have N:(dD k.ns.length ts).length<=1000:=by rw[wy,Lm];omega
 have sl:=xI c.pl.nm j
 have U:(if t then ("least ":Str) else "most ").length<=6:=by cases t<;>decide
 have O:(dD k.ns.length ts).map (λe=>sg t*e)=bT (sg t) (dD k.ns.length ts):=by
  cases t
  ·change List.map (λe:Int=>1*e) _=_;rw[Md (g:=id) λe _=>Int.one_mul e,OU];rfl
  ·change List.map (λe:Int=>-1*e) _=List.map (λx=>-x) _;show Md λe _=>Int.neg_one_mul e
 have q:=q _ (.frm (.worth (bU k.ns ts) (sg t))) u (.frm ⟨k1,l⟩ k3 ⟨k2,()⟩) ⟨k2,()⟩ (B.mono ());have q:R (.v (.tup [.str (aP (.worth (bU k.ns ts) (sg t))),.int 0,.tup [.tup (k.ns.map D.str),.tup (k.bs.map cZ),.tup (k.rs.map bK),.tup ((bT (sg t) (br k.ns (bU k.ns ts))).map D.int),.int (sg t)]])) [u]:=q;rw[M]at q;refine⟨_,Q,?_⟩;rfl';refine oE (f:=D.int) (λe=>sg t*e) (cq N) (λe _=>⟨nN () (),S⟩) ?_;rw[O];rfl';refine⟨_,ap,cS U sl,?_⟩;rw[p];show⟨_,S,q⟩
theorem IW{n:Nat}{k:Int}(h:bI k):eW n ("take "++nstr k)=Z (.take k)/\dH ("take "++nstr k)/\("take "++nstr k).length<=900:=by
 have e:("take ":Str)++nstr k=Str.join " " [("take":Str),nstr k]:=by rw[dh,show ("take ":Str)="take"++" " by decide];rfl
 have p:∀w∈[("take":Str),nstr k],jk w:=λw g=>by
  simp only[Kz,KR,LC]at g;rcases g with rfl|rfl
  ·show oG 'b'
  ·show jd k
 have m:Í ("take "++nstr k) " "=[("take":Str),nstr k]:=by
  rw[e];refine oU (c:=32) (by simp) λw g t=>?_;have:=p w g 32 t;omega
 have y:=c9 h
 have c:("take ":Str).length<=5:=by decide
 have A:("take "++nstr k).length<=900:=K3 (cR c y) 'b';refine⟨?_,⟨?_,()⟩,A⟩
 ·have o:("take ":Str)++nstr k∉(["back","ask","fractions","write"]:Y Str):=λu=>by
   have j:∀x∈(["back","ask","fractions","write"]:Y Str),aV (Í x " ") 0≠"take":=by lia
   show j _ u (by rw[m];rfl)
  unfold eW;rw[Kr o,m,Kq (by change ("take":Str)∈_;decide)]
  have v:jo [nstr k]=Z [k]:=by
   unfold jo;change (if ũ∈[bG (nstr k)] then ũ else Z [(bG (nstr k)).getD 0])=_;rw[jt h,Kr (by simp)];rfl
  change (match jo [nstr k]with|none=>ũ|some l=>if ("take":Str)="take" then (if l.length=1 then Z (Say.take (l.getD 0 0)) else ũ) else _)=_;rw[v];rfl
 ·rw[←M0,KZ];intro z a;rw[e]at a;rcases sZ a with a|⟨w,g,a⟩
  ·have r:L (" ":Str)=[32]:=by decide
   rw[r]at a;have:=KH.mp a;show Ld ()
  ·have:=p w g z a;show Ld ()
inductive y__law_taken(as:List Sm)(R:Sm->List Om->Prop)(Rx:XD->List Om->Prop):Prop|mk (a:Option Addr) (o:Om) (s:Dk) (m:Nat) (_:as=[.ob a o,.v (bw s)]) (_:Pl m o) (_:m+200<2^20) (_:SOk s) (_:∀(y:Str)(w:Say)(o':Om),Ln s y w->fh s w->Pl (m+60) o'->R (.v (gp s [] y w)) [o'])
theorem D5(F:Fun K "_law_taken" "_law_taken" pI f G)(t:ClM P w K mg base n "_law_next" ["_law_pool_here","_law_size"] y__law_next)(y:mg "str"=ũ)(g:mg "len"=ũ):FnOk P w K mg base bh (n+1) f G ["_law_pool_here","_law_state"] (lSpM K y__law_taken):=by
 refine F.okM qaq (λas R v h=>?_) (λaA A outer s H E as R v qs a_ N h u=>?_)
 ·let⟨a,o,k,m,rfl,_⟩:=h;rfl
 let⟨a,o,k,m,rfl,M,hm,J,q⟩:=h;let⟨Q,rfl⟩:=dG u
 refine⟨_,(au (fj (ag (dv 1)) (dJ (n:=5) S (bt (bc (i:=2) qaq.nd S Yk) (bt (bc (i:=3) qaq.nd S Yk) (bt (bc (i:=4) qaq.nd S Yk) (bt (bc (i:=5) qaq.nd S Yk) (bt (bc (i:=6) qaq.nd S Yk) dN)))))))
   (au (ax (i:=7) qaq.nd S Yk (j7 iG (bF t N S (bD 0 (aQ (ag (aT bx (PD.q (bO bR S g KO (bj (ae 4) bp aa) aa ah)) (PD.q ak))) bq bN) aa) aa (aG bN ah)) (ag ak)))
   (au (ax (i:=8) qaq.nd S Yk (ag (aT bx (PD.q aC) (PD.q (cL hJ S y Lx (bj (ae 7) bp aa) aa ah)))))
   (aM (aH (aR (PWD.td (eo (ay i9 (ae 7) (PD.q ak) (aw _)) (ft (ay lH (ae 7) (PD.q (bO bR S g KO (bj (ae 4) bp aa) aa ah)) (aw _)))))) (ai (aD (ag (aO (af (dv 8) (af ak (af (dv 1) ao aa) ar) aa))))) aL)
   (ai (aD (ag (aO (af (dv 8) (af ak (af (aO (af (dv 2) (af (dv 3) (af (aT bx (PD.q (gL (ae 4) ic (fZ (ae 7)))) (PD.q (gL (ae 4) (fZ (PD.q (aT bx (ae 7) (PD.q ak)))) ic))) (af (dv 5) (af (dv 6) ao aa) aa) bN) aa) aa)) ao cC) ar) aa))))))))),?_⟩
 intro ke;have So:=J.pl.rl;refine⟨S,?_⟩;rfl';refine⟨⟨_,_,S⟩,_,S,S,_,_,_,m,S,M,(),by rw[wy];omega,dc (by rw[wy];omega),λx l x0 X r=>?_⟩;rfl';rw[wy]at X
 have e:bI (x-2):=by unfold bI;omega
 have p:=c9 e
 have B:("take ":Str).length<=5:=by decide
 refine⟨_,S,big e,cS B p,?_⟩;rfl';generalize x-2=z at e p ⊢;let⟨ap,T,U⟩:=IW (n:=k.ns.length) e;have q:=q _ (.take z) l ⟨T,U,ap,trivial,.inl trivial⟩ trivial (r.mono ())
 have C:bB k [] (.take z)=if z<0\/(k.rs.length:Int)<=z then 5 else 0:=rfl
 unfold gp cN at q;rw[C]at q;refine⟨λρ=>(0<=z/\z<(k.rs.length:Int))/\ρ=[Z (.ob (Z Q) l),Z (.v (bw k)),Z (.v (.tup (k.ns.map D.str))),Z (.v (.tup (k.bs.map cZ))),Z (.v (.tup (k.rs.map bK))),Z (.v (.tup (k.gl.map D.int))),Z (.v (.int k.sn)),Z (.v (.int z)),Z (.v (.str ("take "++nstr z)))],?_,?_⟩
 ·refine⟨λh=>⟨λ_=>?_,λh=>tf h⟩,λh=>⟨λc=>?_,λc=>?_⟩⟩
  ·rw[Kq (.inl (KL h)),Kr 'b']at q;show⟨_,S,q⟩
  ·have c:=KL c;rw[wy]at c;rw[Kq (.inr c),Kr 'b']at q;show⟨_,S,q⟩
  ·have h:=K8 h;have c:=K8 c;rw[wy]at c;show⟨⟨(),()⟩,S⟩
 rintro ρ ⟨⟨I,h1⟩,rfl⟩;rw[Kr (),Kq S]at q;let⟨j,rfl⟩:=Lq I
 have O:(bJ (k.rs.map bK) ũ (Z (j:Int))).length+(bJ (k.rs.map bK) (Z ((j:Int)+1)) ũ).length<=sizeLine:=by
  have:=LW List.length (pO (f:=bK) (xs:=k.rs) (k:=j) ());rw[Kp]at this;rw[this,wy,NV];have:=LD;split<;>omega
 show⟨_,S,_,S,O,_,pO (),_,S,q⟩
open Tx
theorem Ln.back(s:Dk):Ln s "back" (.word "back"):=⟨⟨'a','b'⟩,'b',qJ _,trivial,.inr S⟩
inductive y__law_change(as:List Sm)(R:Sm->List Om->Prop)(Rx:XD->List Om->Prop):Prop|mk (a a2:Option Addr) (o:Om) (ws:List Str) (s:Dk) (hs:List Dk) (m:Nat) (_:as=[.ob a o,.v (.lst (ws.map D.str)),.v (bw s),.ob a2 (.lst (hs.map bw))]) (_:Pl m o) (_:m+300<2^20) (_:SOk s) (_:(∀x∈ws,bQ x=ū)) (_:ws.length=10) (_:∀(y:Str)(w:Say)(o':Om),Ln s y w->Pl (m+70) o'->R (.v (gp s hs y w)) [o',.lst (hs.map bw)])
noncomputable abbrev CG(c e:Addr)(o:Om)(ws:Y Str)(k:Dk)(a:Y Dk)(x:Int):aj:=[Z (.ob (Z c) o),Z (.v (.lst (ws.map D.str))),Z (.v (bw k)),Z (.ob (Z e) (.lst (a.map bw))),Z (.v (.int x))]
theorem Jh(F:Fun K "_law_change" "_law_change" nq f G)(ap:ClM P w K mg base n "_law_next" ["_law_pool_here","_law_size"] y__law_next)(a_:ClM P w K mg base n "_law_unknown" ["_law_pool_here","_law_state","_law_name"] y__law_unknown)(T:ClM P w K mg base n "_law_rowed" ["_law_pool_here","_law_state","_law_way"] y__law_rowed)(Rz:ClM P w K mg base n "_law_sought" ["_law_pool_here","_law_state"] y__law_sought)(RO:ClM P w K mg base n "_law_taken" ["_law_pool_here","_law_state"] y__law_taken)(Q:mg "len"=ũ):FnOk P w K mg base bh (n+1) f G ["_law_pool_here","_law_words","_law_state","_law_past"] (lSpM K y__law_change):=by
 refine F.okM qae (λas R O h=>?_) (λPh A outer s H E as R O qs Pg g h aA=>?_)
 ·let⟨a,a2,o,ws,k,c,m,rfl,_⟩:=h;rfl
 let⟨a,a2,o,ws,k,c,m,rfl,hp,hm,M,hw,Sk,q⟩:=h;let⟨z,B,rfl⟩:=wg aA
 refine⟨_,(au (ax (i:=4) qae.nd S Yk (bF ap g S (bD 0 (aQ (ag ak) bq ar) aa) aa (aG ar ah)))
   (aM (aH (aR (ay (bz g.units) (ae 4) (PD.q ak) (aw _))) (ai (aD (bF a_ g S (bD 0 (aQ (ag (dv 2)) (aQ (kN (ag (dv 1)) (bF ap g S (bD 0 (aQ (ag (bO bR S Q KO (bj (ae 1) bp aa) aa ah)) bq bX) aa) aa (aG bX ah)) (λ_ _=>rfl)) bq az) aa) aa) aa (aG aa (aG az ah))))) aL)
   (aM (aH (aR (PWD.td (eo (ay (bz g.units) (ae 4) (PD.q ak) (aw _)) (ft (ay (bz g.units) (ae 4) (PD.q ak) (aw _)))))) (ai (aD (bF T g S (bD 0 (aQ (ag (dv 2)) (aQ (ag (aT iG (ae 4) (PD.q ak))) bq bN) aa) aa) aa (aG aa (aG bN ah))))) aL)
   (aM (aH (aR (ay (bz g.units) (ae 4) (PD.q ak) (aw _))) (ai (aD (bF Rz g S (bD 0 (aQ (ag (dv 2)) bq aa) aa) aa (aG aa ah)))) aL)
   (aM (aH (aR (ay (bz g.units) (ae 4) (PD.q ak) (aw _))) (ai (aD (bF RO g S (bD 0 (aQ (ag (dv 2)) bq aa) aa) aa (aG aa ah)))) aL)
   (aM (aH (aR (ay (bz g.units) (PD.q (bO bR S Q KO (bj (ae 3) bp aa) aa ah)) (PD.q ak) (aw _))) (ai (aD (ag (aO (af aC (af ak (af (dv 2) ao aa) ar) ar))))) aL)
   (ai (aD (ag (aO (af aC (af ak (af (cQ (ae 3) (PD.q (aT iG (PD.q (bO bR S Q KO (bj (ae 3) bp aa) aa ah)) (PD.q ak))) (λ_ _=>rfl)) ao az) ar) ar))))))))))),?_⟩
 intro ke
 have J:∀(y:Str)(w:Say)(N:Om),Ln k y w->fh k w->Pl (m+70) N->R (.v (gp k [] y w)) [N,.lst (c.map bw)]:=λy w N r p h3=>by have:=q y w N r h3;unfold gp at this ⊢;rw[(kh c p).1,(kh c p).2]at this;show this
 refine⟨⟨_,_,S⟩,_,S,S,_,_,7,m,S,hp,(),'b',dc 'b',λx l x0 x1 I=>?_⟩;rfl';refine⟨λρ=>ρ=CG z B l ws k c x,⟨λ_=>?_,λ_=>rfl⟩,?_⟩
 ·refine⟨⟨_,_,S⟩,⟨_,_,S⟩,_,S,S,_,_,_,_,S,I,(),by rw[wy];omega,dc (by rw[wy];omega),λj o2 j0 j1 Qk=>?_⟩;let⟨j,rfl⟩:=Lq j0;rw[wy]at j1;have hj:ws[j]?=Z ws[j]:=KG ();refine⟨_,hZ (i:=j) hj S,_,S,S,_,o2,k,ws[j],_,S,Qk,(),M,hw _ (MA _),λy w v r p u=>?_⟩;show⟨_,S,_,S,J y w v r p (u.mono ())⟩
 rintro ρ rfl;refine⟨λρ=>ρ=CG z B l ws k c x,?_,?_⟩
 ·have go:∀t:Bool,x-1=(if t then 1 else 0)->(vD (r6 y__law_rowed λρ R O=>(∃a o,ρ[0]?=Z (Z (Sm.ob a o)))/\ux 0 (se (xD (qE 2)) (se (xD (ia (jj λi j=>D.int (i-j)) (lr 4) (dC (D.int 1)))) nO)) ρ R O)) { nx:=λρ=>True,rt:=λsm ρ=>fB (R sm) [Sm.ob a o,Sm.v (D.lst (List.map D.str ws)),Sm.v (bw k),Sm.ob a2 (Om.lst (List.map bw c))] [z,B] 0 ρ } (CG z B l ws k c x):=λt ht=>by refine⟨⟨_,_,S⟩,_,S,S,_,l,k,t,_,by rw[←ht],I,(),M,λy w v r p u=>?_⟩;show⟨_,S,_,S,J y w v r p (u.mono ())⟩
  refine⟨λh=>⟨λ_=>go Ŭ ?_,λh=>tf h⟩,λ_=>⟨λh=>go ū ?_,λ_=>rfl⟩⟩
  ·have:=dq h;change x-1=0;omega
  ·have:=dq h;change x-1=1;omega
 rintro ρ rfl;refine⟨λρ=>ρ=CG z B l ws k c x,⟨λ_=>?_,λ_=>rfl⟩,?_⟩
 ·refine⟨⟨_,_,S⟩,_,S,S,_,l,k,_,S,I,(),M,λy w v r p u=>?_⟩;show⟨_,S,_,S,J y w v r p (u.mono ())⟩
 rintro ρ rfl;refine⟨λρ=>ρ=CG z B l ws k c x,⟨λ_=>?_,λ_=>rfl⟩,?_⟩
 ·refine⟨⟨_,_,S⟩,_,S,S,_,l,k,_,S,I,(),M,λy w v r p u=>?_⟩;show⟨_,S,_,S,J y w v r p (u.mono ())⟩
 rintro ρ rfl;have q:=q _ _ l (.back k) (I.mono ())
 have eb:bB k c (.word "back")=if ("back":Str)="back"/\c=[] then 6 else 0:=rfl
 unfold gp cN at q;rw[eb]at q;refine⟨λρ=>c≠[]/\ρ=CG z B l ws k c x,⟨λh=>?_,λh=>⟨λe=>?_,S⟩⟩,?_⟩
 ·have h:=dq h;rw[wy]at h;have e:c=[]:=LM.mp ();rw[Kq ⟨S,e⟩,Kr 'b']at q;show⟨_,S,_,S,q⟩
 ·subst e;show tf h
 rintro ρ ⟨X,rfl⟩;rcases NG c with e|⟨C,t,e⟩
 ·show absurd e X
 rw[NH]at e;subst e;rw[Kr (by simp),Kq S]at q;have q:R (.v (.tup [.str "back",.int 0,bw ((C++[t]).getLast?.getD k)])) [l,.lst ((C++[t]).map bw)]:=q;rw[List.getLast?_concat]at q;have U:bZ ((C++[t]).map bw) ((((C++[t]).map bw).length:Int)-1)=Z (bw t):=hZ (i:=C.length) (by rw[Km (Kw _),Lw];rfl) (by rw[wy,Kp];change ((C.length+1:Nat):Int)-1=_;omega);show⟨_,U,_,S,_,S,q⟩
open Tx
theorem Gu{ns:Y Str}{es:Y Int}{x:Str}{e:Int}(h:es.length=ns.length):bC (ns++[x]) (es++[e])=bC ns es++(if e=0 then [] else [(e,x)]):=by
 unfold bC;rw[List.zip_append h,List.filter_append];by_cases c:e=0
 ·rw[Kq c,c];rfl
 ·rw[Kr c];change _++List.filter _ [(e,x)]=_;rw[OM (by simpa using c)];rfl
theorem qA{t:Bool}{e:Int}:(bI e->bI (sg t*e))/\(sg t*e=0↔e=0):=by unfold sg bI;cases t<;>simp
inductive z__law_terms(ds:List D)(R:D->Prop):Prop|mk (ns:List Str) (es:List Int) (t:Bool) (_:ds=[.tup (ns.map D.str),.tup (es.map D.int),.int (sg t)]) (_:gj ns) (_:es.length=ns.length) (_:(∀e∈es,bI e)) (_:R (.str (cB (bC ns (es.map λe=>sg t*e)))))
noncomputable abbrev TE(ns:Y Str)(es:Y Int)(t:Bool)(ts:Y Tm)(a c:Ū Sm):aj:=[Z (.v (.tup (ns.map D.str))),Z (.v (.tup (es.map D.int))),Z (.v (.int (sg t))),Z (.own ((ts.map cT).map D.str)),a,c]
theorem Dl(F:Fun K "_law_terms" "_law_terms" mX f G)(a_:mg "zip"=ũ)(U:mg "len"=ũ)(X:mg "str"=ũ):FnOk P w K mg base bh (n+1) f G ["_law_names_here","_law_entries","_law_turns"] (lSpM K (zM z__law_terms)):=by
 refine F.okM qar (λas R ap h=>?_) (λPh A outer s H E as R ap qs Pg I h Q=>?_)
 ·let⟨_,rfl,ns,es,t,rfl,_⟩:=h;rfl
 let⟨_,rfl,ns,es,t,rfl,p,hl,C,q⟩:=h;obtain rfl:=cu Q
 refine⟨_,(au (ax (i:=3) qar.nd S Yk (eD (eL ao)))
   (au (fE LQ S (gh (lU S a_ (af (dv 0) (af (dv 1) ao aa) aa))) (dJ (n:=2) S (bt (bc (i:=4) qar.nd S Yk) (bt (bc (i:=5) qar.nd S Yk) dN))) (ai (aH (aR (ay (dX I.units) (ae 5) (PD.q ak) (aw _))) (ai (eK 3 (ag (aT bx (PD.q (aT bx (PD.q (cL hJ S X Lx (bj (PD.q (aT ik (ae 2) (ae 5))) bp bN) bN ah)) (PD.q aC))) (ae 4))) (bW bN) bN)) aL)))
   (aM (aH (aR (ay (bz I.units) (PD.q (bO bR S U KO (bj (ae 3) bp aa) aa ah)) (PD.q ak) (aw _))) (ai (eK 3 (ag aC) (bW ar) ar)) aL)
   (jW 3 (ai (aD (ag (kO (PD.q aC) (dv 3) (bW aa) aa)))))))),?_⟩
 intro ke;have n8:=p.2.1
 have B:-(2^64)<sg t/\sg t<2^64:=by unfold sg;cases t<;>decide
 refine⟨_,_,S,S,?_⟩;refine⟨λi ρ=>∃(l m:Ū Sm),ρ=TE ns es t (bC (ns.take i) ((es.map λe=>sg t*e).take i)) l m,⟨_,_,S⟩,?_,?_⟩
 ·rintro i d ρ hd ⟨l,m,rfl⟩;let⟨d1,d2,h1,h2,rfl⟩:=pK hd;let⟨x,rfl,g⟩:=gN h1;let⟨e,rfl,v⟩:=gN h2;have hi:=aZ g;have aA:=C e (KN v);have x6:=gv (p.2.2 x (KN g))
  have hm:(es.map λe=>sg t*e)[i]?=Z (sg t*e):=by rw[Kv,v];rfl
  have sn:=Gu (ns:=ns.take i) (es:=(es.map λe=>sg t*e).take i) (x:=x) (e:=sg t*e) (by rw[KY,KY,wy];omega);rw[←fL g,←fL hm]at sn
  have y:(" ":Str).length<=1:=by decide
  have J:=(qA (t:=t)).1 aA;have M:=c9 J;refine⟨S,λh=>?_,λh=>?_⟩
  ·have o:¬ sg t*e=0:=λz=>by have:=(qA (t:=t)).2.mp z;subst this;show ff h
   rw[Kr o]at sn;refine⟨nN B.1 B.2,_,S,big J,cS M y,cS (cR M y) x6,?_,((bC (ns.take (i+1)) ((es.map λe=>sg t*e).take (i+1))).map cT).map D.str,?_,_,_,S⟩
   ·rw[wy,wy];have:=gQ (ns.take i) ((es.map λe=>sg t*e).take i);rw[KY]at this;show cq ()
   ·rw[sn,KW,KW];change _++[_]=_++[D.str (nstr (sg t*e)++(" "++x))];rw[Lo]
  ·have o:e=0:=by have h:(!(e==0))=Ŭ:=h;simpa using h
   subst o;rw[Kq (Int.mul_zero _),Le]at sn;show⟨Z (.v (.str x)),Z (.v (.int 0)),by rw[sn];rfl⟩
 rintro ρ ⟨l,m,rfl⟩;rw[mW,wy,wy,hl,OI,LL,L1 (by rw[wy];omega)]
 have me:∀e∈es.map (λe=>sg t*e),bI e:=λe h=>by let⟨x,g,rfl⟩:=KP.mp h;show (qA (t:=t)).1 (C x g)
 have N:=gQ ns (es.map λe=>sg t*e);rw[wy]at N;have j:=qt p me;generalize bC ns (es.map λe=>sg t*e)=ts at q N j ⊢;refine⟨λρ=>∃a:Y Str,ρ=[Z (.v (.tup (ns.map D.str))),Z (.v (.tup (es.map D.int))),Z (.v (.int (sg t))),Z (.own (a.map D.str)),l,m]/\a.length<=8/\(∀z∈a,z.length<=18)/\ï " + " a=cB ts,⟨λh=>?_,λh=>?_⟩,?_⟩
 ·have h:=dq h;rw[wy,wy]at h;have e:ts=[]:=LM.mp ();subst e;show⟨cq (Mq _),[D.str "0"],S,["0"],S,'b','b',S⟩
 ·have O:ts≠[]:=λz=>by rw[z]at h;show tf h
  refine⟨ts.map cT,S,by rw[wy];omega,λz r=>?_,(Mm _ _).trans (kJ O)⟩;let⟨u,h,rfl⟩:=KP.mp r;show j u h
 rintro ρ ⟨a,rfl,z8,T,r⟩;refine⟨_,S,a,S,l9 18 T ?_,?_⟩
 ·have c:(" + ":Str).length=3:=by decide
  rw[c];omega
 rw[r];show q
noncomputable abbrev gm(ns:Y Str)(bs:Y cy):Y Frm:=List.zipWith (λx (b:cy)=>Frm.unk x b.1 b.2) ns bs
theorem Dz{ns:Y Str}{bs:Y cy}{x:Str}{b:cy}(h:ns.length=bs.length):gm (ns++[x]) (bs++[b])=gm ns bs++[Frm.unk x b.1 b.2]:=by unfold gm;rw[List.zipWith_append h];rfl
theorem tW(W:Y Frm)(f:Frm){w:Str}(h:w=aP f):(W.map aP).map D.str++[D.str w]=((W++[f]).map aP).map D.str:=by rw[h,KW,KW];rfl
theorem xG(t:Bool)(es:Y Int):(es.map λe=>sg t*e)=bT (sg t) es:=by
 cases t
 ·change List.map (λe:Int=>1*e) _=_;rw[Md (g:=id) λe _=>Int.one_mul e,OU];rfl
 ·change List.map (λe:Int=>-1*e) _=List.map (λx=>-x) _;show Md λe _=>Int.neg_one_mul e
noncomputable def mq(ns:Y Str)(r:Rw):Frm:=.row (bC ns r.1) r.2 Ŭ
inductive z__law_text(ds:List D)(R:D->Prop):Prop|mk (s:Dk) (_:ds=[bw s]) (_:SOk s) (_:R (.str (Str.join "\n" ((bV s.ns s.bs s.rs s.gl s.sn).map aP))))
noncomputable abbrev TT(k:Dk)(fs:Y Frm)(c e g a:Ū Sm):aj:=[Z (.v (bw k)),Z (.v (.tup (k.ns.map D.str))),Z (.v (.tup (k.bs.map cZ))),Z (.v (.tup (k.rs.map bK))),Z (.v (.tup (k.gl.map D.int))),Z (.v (.int k.sn)),Z (.own ((fs.map aP).map D.str)),c,e,g,a]
theorem Ho(F:Fun K "_law_text" "_law_text" nZ f G)(yR:Cl P w K mg base n "_law_terms" ["_law_names_here","_law_entries","_law_turns"] z__law_terms)(dw:mg "zip"=ũ)(I:mg "str"=ũ)(dY:mg "int"=ũ):FnOk P w K mg base bh (n+1) f G ["_law_state"] (lSpM K (zM z__law_text)):=by
 refine F.okM qas (λas R Rx h=>?_) (λPh A outer s H E as R Rx qs Pg O h Pj=>?_)
 ·let⟨_,rfl,k,rfl,_⟩:=h;rfl
 let⟨_,rfl,k,rfl,a,q⟩:=h;obtain rfl:=cu Pj
 refine⟨_,(au (fj (ag (dv 0)) (dJ (n:=5) S (bt (bc (i:=1) qas.nd S Yk) (bt (bc (i:=2) qas.nd S Yk) (bt (bc (i:=3) qas.nd S Yk) (bt (bc (i:=4) qas.nd S Yk) (bt (bc (i:=5) qas.nd S Yk) dN)))))))
   (au (ax (i:=6) qas.nd S Yk (eD (eL ao)))
   (au (fE LQ S (gh (lU S dw (af (dv 1) (af (dv 2) ao aa) aa))) (dJ (n:=2) S (bt (bc (i:=7) qas.nd S Yk) (bt (bc (i:=8) qas.nd S Yk) dN))) (au (ax (i:=9) qas.nd S Yk (ag (aT bx (PD.q (aT bx (PD.q (aT bx (PD.q aC) (ae 7))) (PD.q aC))) (PD.q (cL hJ S I Lx (bj (PD.q (av (ae 8))) bp az) az ah)))))
   (aM (aH (aR (ay rF (PD.q (av (ae 8))) (PD.q bE) (aw _))) (ai (ax (i:=9) qas.nd S Yk (ag (aT bx (PD.q (aT bx (ae 9) (PD.q aC))) (PD.q (cL hJ S I Lx (bj (PD.q (av (ae 8))) bp az) az ah)))))) aL)
   (ai (eK 6 (ag (dv 9)) (bW aa) aa)))))
   (au (fE LQ S (gh (fV (dv 3))) (bc (i:=10) qas.nd S Yk) (ai (eK 6 (ag (aT bx (PD.q (aT bx (PD.q (aT bx (PD.q aC) (PD.q (bP yR O S (af (dv 1) (af (av (ae 10)) (af ak ao ar) az) aa) aa (aG az (aG ar ah)))))) (PD.q aC))) (PD.q (cL hJ S I Lx (bj (PD.q (av (ae 10))) bp az) az ah)))) (bW bN) bN)))
   (au (eK 6 (ag (aT bx (PD.q (cQ (PD.q (aO (af aC (af aC ao ar) ar))) (PD.q (cL xM S dY MV (bj (PD.q (iu (bz O.units) (ae 5) (PD.q ak) (aw _))) bp l0) l0 ah)) (λ_ _=>rfl))) (PD.q (bP yR O S (af (dv 1) (af (dv 4) (af (dv 5) ao aa) aa) aa) aa (aG aa (aG aa ah)))))) (bW bN) bN)
   (jW 6 (ai (aD (ag (kO (PD.q aC) (dv 6) (bW aa) aa)))))))))),?_⟩
 intro ke;have g:=a.pl.nm;have n8:=g.2.1;have TL:=a.pl.bl;have So:=a.pl.rl
 have o:("unknown ":Str).length<=8:=by decide
 have J:(" from ":Str).length<=6:=by decide
 have U:(" to ":Str).length<=4:=by decide
 have M:("row ":Str).length<=4:=by decide
 have X:(" at least ":Str).length<=10:=by decide
 refine⟨S,?_⟩;refine⟨_,_,S,S,?_⟩;refine⟨λi ρ=>∃(p u v:Ū Sm),ρ=TT k (gm (k.ns.take i) (k.bs.take i)) p u v ũ,⟨_,_,_,S⟩,?_,?_⟩
 ·rintro i d ρ hd ⟨p,u,v,rfl⟩;let⟨d1,d2,h1,h2,rfl⟩:=pK hd;let⟨x,rfl,ap⟩:=gN h1;let⟨⟨l,m⟩,rfl,a_⟩:=gN h2;have hi:=aZ ap;have y:=gv (g.2.2 x (KN ap));let⟨aA,T⟩:=a.pl.bo _ (KN a_);have l6:=c9 aA
  have t0:(("unknown ":Str)++x++" from ")++nstr l=aP (.unk x l ũ):=by rw[←lL];simp only[Lo]
  have ll:(aP (.unk x l ũ)).length<=100:=by rw[←t0];show K3 (cR (cR (cR o y) J) l6) 'b'
  have wl:(gm (k.ns.take i) (k.bs.take i)).length<=8:=by rw[Mw,KY];omega
  have sn:=Dz (ns:=k.ns.take i) (bs:=k.bs.take i) (x:=x) (b:=(l,m)) (by rw[KY,KY];omega);rw[←fL ap,←fL a_]at sn;refine⟨S,cS o y,cS (cR o y) J,_,S,_,S,big aA,cS (cR (cR o y) J) l6,?_⟩;rfl';rw[t0];refine⟨λρ=>ρ=TT k (gm (k.ns.take i) (k.bs.take i)) (Z (.v (.str x))) (Z (.v (cZ (l,m)))) (Z (.v (.str (aP (.unk x l m))))) ũ,⟨_,S,?_⟩,?_⟩
  ·cases m with
   |none=>show⟨λh=>(by cases h),λ_=>rfl⟩
   |some j=>
    have j6:=c9 (T j S);refine⟨λ_=>⟨cS ll U,_,S,_,S,big (T j S),cS (cR ll U) j6,?_⟩,λh=>(by cases h)⟩;rw[←rZ,←lL];simp only[Lo];rfl
  rintro ρ rfl;show⟨by rw[wy,wy];show cq (),((gm (k.ns.take (i+1)) (k.bs.take (i+1))).map aP).map D.str,(by rw[sn];show tW _ (.unk x l m) S),_,_,_,S⟩
 rintro ρ ⟨p,u,v,rfl⟩;rw[mW,wy,wy,TL,OI,LL,L1 ()]
 have ul:(gm k.ns k.bs).length<=8:=by rw[Mw];omega
 refine⟨λi ρ=>∃(C:Ū Sm),ρ=TT k (gm k.ns k.bs++(k.rs.take i).map (mq k.ns)) p u v C,⟨ũ,(by rw[O2,Oz,Le])⟩,?_,?_⟩
 ·rintro i d ρ hd ⟨C,rfl⟩;let⟨r,rfl,B⟩:=gN hd;have hi:=aZ B;let⟨r1,r2,r3⟩:=a.pl.ro r (KN B);have sl:=mF g (by omega:r.1.length<=8) r2;have b6:=c9 r3;refine⟨_,S,k.ns,r.1,Ŭ,S,g,r1,r2,?_⟩;rw[xG,show bT (sg Ŭ) r.1=r.1 from rfl];refine⟨cS M sl,cS (cR M sl) X,_,S,_,S,big r3,cS (cR (cR M sl) X) b6,?_,((gm k.ns k.bs++(k.rs.take (i+1)).map (mq k.ns)).map aP).map D.str,?_,_,S⟩
  ·rw[wy,wy,Kp,wy,KY];show cq ()
  ·rw[fL B,KW (f:=mq k.ns),←KS];show tW _ (mq k.ns r) (yK (bC k.ns r.1) r.2 Ŭ)
 rintro ρ ⟨C,rfl⟩;rw[wy,LL]
 obtain⟨t,Q⟩:∃t:Bool,k.sn=sg t:=by
  rcases a.sn with h|h
  ·show⟨Ŭ,h⟩
  ·show⟨ū,h⟩
 have N:k.gl.length<=8:=by rw[a.pl.gn];show n8
 have sl:=mF g (by rw[iw];show N) (lN (sn:=sg t) a.pl.go)
 have tl:(if t then ("least ":Str) else "most ").length<=6:=by cases t<;>decide
 have PB:bZ [D.str "least ",.str "most "] (if (k.sn==1) then 1 else 0)=Z (.str (if t then "least " else "most ")):=by rw[Q];cases t<;>rfl
 have wt:(if t then ("least ":Str) else "most ")++cB (bC k.ns (bT (sg t) k.gl))=aP (.worth (bC k.ns (bT (sg t) k.gl)) (sg t)):=by
  cases t
  ·show (jM _).1
  ·show (jM _).2
 refine⟨_,PB,k.ns,k.gl,t,by rw[Q],g,a.pl.gn,a.pl.go,?_⟩;rw[xG]
 have ef:bV k.ns k.bs k.rs k.gl k.sn=gm k.ns k.bs++k.rs.map (mq k.ns)++[.worth (bC k.ns (bT (sg t) k.gl)) (sg t)]:=by unfold bV fD;rw[Q,LO,KS];rfl
 have fl:=ki (sn:=k.sn) a.pl;have fo:=jP a.pl a.sn;refine⟨cS tl sl,by rw[wy,wy,Kp,wy];show cq (),((bV k.ns k.bs k.rs k.gl k.sn).map aP).map D.str,(by rw[ef];show tW _ _ wt),?_⟩;refine⟨_,S,(bV k.ns k.bs k.rs k.gl k.sn).map aP,S,l9 900 (λz hz=>?_) ?_,?_⟩
 ·let⟨f,hf,rfl⟩:=KP.mp hz;show (fo f hf).2
 ·have c:("\n":Str).length=1:=by decide
  rw[wy,c];omega
 have e:ï "\n" ((bV k.ns k.bs k.rs k.gl k.sn).map aP) = Str.join "\n" ((bV k.ns k.bs k.rs k.gl k.sn).map aP):=Mm _ _;rw[e];show q
open Tx
noncomputable def rK(s:Dk)(a:Y Dk):Say->Y Dk
 |.word _=>a.dropLast
 |_=>a++[s]
noncomputable def cF(s:Dk)(a:Y Dk)(w:Say):Y Dk:=if bB s a w=0 then rK s a w else a
noncomputable def nz(s:Dk)(a:Y Dk)(w:Say):D:=if bB s a w=0 then .str "ok" else .non
theorem SOk.dk{s:Dk}(h:SOk s):DkW s:=⟨h.pl.nm.1,h.pl.nm.2.1,h.pl.bl,h.pl.rl,λr a=>(h.pl.ro r a).1,h.pl.gn⟩
noncomputable abbrev iP(s:Dk):Str:=Str.join "\n" ((bV s.ns s.bs s.rs s.gl s.sn).map aP)
inductive y__law_said(as:List Sm)(R:Sm->List Om->Prop)(Rx:XD->List Om->Prop):Prop|mk (a:Option Addr) (s:Dk) (hs:List Dk) (x:Str) (_:as=[.ob a (bS s hs),.v (.str x)]) (_:SOk s) (_:hs.length<500) (_:((∃w,Ln s x w/\R (.v (.tup [.int (bB s hs w),nz s hs w])) [bS (cN s hs w) (cF s hs w)])\/(x="write"/\R (.v (.tup [.int 0,.str (iP s)])) [bS s hs])))
theorem C6(s:Dk)(a:Y Dk)(w:Say):bB s a w=0\/bB s a w=1\/bB s a w=2\/bB s a w=5\/bB s a w=6:=by
 cases w with
 |tri v=>show .inl S
 |word v=>simp only[bB];split<;>simp
 |take k=>simp only[bB,jJ];split<;>simp
 |frm f=>
  cases f with
  |unk x l m=>simp only[bB,fN];split<;>(try split)<;>simp
  |row ts b t=>simp only[bB,fN];split<;>simp
  |worth ts sn=>show .inl S
theorem lx:∀k:Int,(k=1\/k=2\/k=5\/k=6)->(iA k).nm∈p7:=by rintro k (rfl|rfl|rfl|rfl)<;>decide +kernel
theorem dZ{a b:Str}{p:Prop}(h:jq a b=ū)(c:jq a b=Ŭ:=by lia):p:=by rw[h]at c;cases c
theorem lR{a b:Str}{p:Prop}(c:jq a b=Ŭ)(h:jq a b=ū:=by lia):p:=dZ h c
theorem vV(n:Nat):eW n "write"=Z (.word "write"):=by unfold eW;rw[Kq 'b']
noncomputable abbrev SD(c:Addr)(s:Dk)(a:Y Dk)(x:Str)(k:Int)(d:D)(e:Ū Sm):aj:=[Z (.ob (Z c) (bS s a)),Z (.v (.str x)),Z (.v (.int k)),Z (.v d),Z (.v .non),e]
theorem Cr(F:Fun K "_law_said" "_law_said" oM f G){J:Addr}(I:TxtDesk K mg J)(T:MthMX P w K mg base n J "say" ["self","line"] pk)(o:Exs K mg jq p7)(u:Isa K mg jq p7)(X:∃D,mg "TooGreat"=Z (.ref D))(aA:∃D,mg "Twice"=Z (.ref D))(Rf:∃D,mg "NoName"=Z (.ref D))(Rg:∃D,mg "NoText"=Z (.ref D))(RQ:∃D,mg "NoRow"=Z (.ref D))(a_:∃D,mg "NoChange"=Z (.ref D)):FnOk P w K mg base bh (n+1) f G ["_law_desk","_law_line"] (lSpM K y__law_said):=by
 refine F.okM qal (λas R Rx h=>?_) (λPh A outer s H E as R Rx qs Pg hr h U=>?_)
 ·let⟨a,k,l,x,rfl,_⟩:=h;rfl
 let⟨a,k,l,x,rfl,B,Q,q⟩:=h;let⟨pa,rfl⟩:=dG U
 refine⟨_,(au (ax (i:=2) qal.nd S Yk (ag ak))
   (au (ax (i:=3) qal.nd S Yk (ag bE))
   (au (ax (i:=4) qal.nd S Yk (ag bE))
   (aM (AL (λ_ _=>(ai (ax (i:=3) qal.nd S Yk (EE 0 T hr S I.cl I.ns (aQ (ag (dv 1)) bq aa) aa ah)))) (oK 5 o X 'a' S qal.nd (λ_ _=>(au (ax (i:=2) qal.nd S Yk (ag ak))
   (ai (ax (i:=4) qal.nd S Yk (ag (pA o u (dv 5))))))) (oK 5 o aA 'a' S qal.nd (λ_ _=>(au (ax (i:=2) qal.nd S Yk (ag ak))
   (ai (ax (i:=4) qal.nd S Yk (ag (pA o u (dv 5))))))) (oK 5 o Rf 'a' S qal.nd (λ_ _=>(au (ax (i:=2) qal.nd S Yk (ag ak))
   (ai (ax (i:=4) qal.nd S Yk (ag (pA o u (dv 5))))))) (oK 5 o Rg 'a' S qal.nd (λ_ _=>(au (ax (i:=2) qal.nd S Yk (ag ak))
   (ai (ax (i:=4) qal.nd S Yk (ag (pA o u (dv 5))))))) (vZ o RQ 'a' S (λ_ _=>(ai (ax (i:=2) qal.nd S Yk (ag ak)))) (vZ o a_ 'a' S (λ_ _=>(ai (ax (i:=2) qal.nd S Yk (ag ak)))) HG)))))) S S)
   (aM (aH (aR (ay rF (ae 4) (PD.q bE) (aw _))) (ai (aD (ag (aO (af ak (af (dv 3) ao aa) ar))))) aL)
   (ai (aD (ag (aO (af (dv 2) (af (dv 3) ao aa) aa)))))))))),?_⟩
 intro ke;refine⟨λρ=>∃(s':Dk)(C:Y Dk)(c:Int)(d:D)(ap:Ū Sm),ρ=SD pa s' C x c d ap/\R (.v (.tup [.int c,d])) [bS s' C],?_,?_⟩
 ·rcases q with⟨w,y,q⟩|⟨rfl,q⟩
  ·have M:bB k l w=0->R (.v (.tup [.int 0,.str "ok"])) [bS (qj k l w) (rK k l w)]:=λh=>by unfold nz cN cF at q;rw[h,Kq S,Kq S,Kq S]at q;show q
   have N:bB k l w≠0->R (.v (.tup [.int (bB k l w),.non])) [bS k l]:=λh=>by unfold nz cN cF at q;rw[Kr h,Kr h,Kr h]at q;show q
   refine⟨⟨_,_,S,S⟩,_,S,S,_,k,l,x,w,S,Q,y.ac,y.len,y.say,B.dk,?_⟩;rcases y.ok with r|rfl
   ·refine .inl ⟨r,λh=>?_,λh=>?_⟩
    ·rw[←(kh l r).1]at h;refine⟨_,_,_,_,ũ,S,?_⟩;have:=M h
     cases w with
     |word v=>show r.elim
     |tri v=>show r.elim
     |take j=>show this
     |frm f=>show this
    ·rw[←(kh l r).1]at h ⊢;have m:=N h;rcases C6 k l w with e|e|e|e|e
     ·show absurd e h
     ·rw[e]at m ⊢;have g:=lx 1 'b';show⟨g,λ_=>⟨_,_,S,g,trivial,_,_,_,_,ũ,S,m⟩,λz=>lR z⟩
     ·rw[e]at m ⊢;have g:=lx 2 'b';show⟨g,λz=>dZ z,λ_=>⟨g,λ_=>⟨_,_,S,g,trivial,_,_,_,_,ũ,S,m⟩,λz=>lR z⟩⟩
     ·rw[e]at m ⊢;have g:=lx 5 'b';show⟨g,λz=>dZ z,λ_=>⟨g,λz=>dZ z,λ_=>⟨g,λz=>dZ z,λ_=>⟨g,λz=>dZ z,λ_=>⟨g,λ_=>⟨_,_,_,_,ũ,S,m⟩,λz=>lR z⟩⟩⟩⟩⟩
     ·rw[e]at m ⊢;have g:=lx 6 'b';show⟨g,λz=>dZ z,λ_=>⟨g,λz=>dZ z,λ_=>⟨g,λz=>dZ z,λ_=>⟨g,λz=>dZ z,λ_=>⟨g,λz=>dZ z,λ_=>⟨g,λ_=>⟨_,_,_,_,ũ,S,m⟩,λz=>lR z⟩⟩⟩⟩⟩⟩
   ·refine .inr (.inr ⟨S,λh=>?_,λp t h=>?_⟩)
    ·have e:bB k l (.word "back")=6:=Kq ⟨S,h⟩;have m:=N (by rw[e];decide);rw[e]at m;have g:=lx 6 'b';show⟨g,λz=>dZ z,λ_=>⟨g,λz=>dZ z,λ_=>⟨g,λz=>dZ z,λ_=>⟨g,λz=>dZ z,λ_=>⟨g,λz=>dZ z,λ_=>⟨g,λ_=>⟨_,_,_,_,ũ,S,m⟩,λz=>lR z⟩⟩⟩⟩⟩⟩
    ·subst h;have e:bB k (p++[t]) (.word "back")=0:=Kr (by simp);have O:=M e
     have e1:qj k (p++[t]) (.word "back")=t:=by change (p++[t]).getLast?.getD k=t;rw[List.getLast?_concat];rfl
     have e2:rK k (p++[t]) (.word "back")=p:=M3;rw[e1,e2]at O;show⟨_,_,_,_,ũ,S,O⟩
  ·refine⟨⟨_,_,S,S⟩,_,S,S,_,k,l,"write",.word "write",S,Q,⟨'a','b'⟩,'b',vV _,B.dk,.inr (.inl ⟨S,B.pl,B.sn,?_⟩)⟩;show⟨_,_,_,_,ũ,S,q⟩
 rintro ρ ⟨s',C,c,d,ap,rfl,q⟩;refine⟨λρ=>ρ=_,⟨λh=>(by cases h),λ_=>rfl⟩,?_⟩;rintro ρ rfl;show⟨_,S,q⟩
inductive y__law_standing(as:List Sm)(R:Sm->List Om->Prop)(Rx:XD->List Om->Prop):Prop|mk (a:Option Addr) (s:Dk) (hs:List Dk) (_:as=[.ob a (bS s hs),.v (bw s)]) (_:SOk s) (_:hs.length<500) (_:R (.v (.bl ū)) [bS s hs])
theorem Gg(F:Fun K "_law_standing" "_law_standing" px f G)(m:ClM P w K mg base n "_law_said" ["_law_desk","_law_line"] y__law_said)(j:Cl P w K mg base n "_law_text" ["_law_state"] z__law_text)(r:mg "isinstance"=ũ)(p:mg "str"=ũ):FnOk P w K mg base bh (n+1) f G ["_law_desk","_law_state"] (lSpM K y__law_standing):=by
 refine F.okM qao (λas R o h=>?_) (λx A outer s H E as R o B u c h l=>?_)
 ·let⟨a,k,g,rfl,_⟩:=h;rfl
 let⟨a,k,g,rfl,e,t,q⟩:=h;let⟨z,rfl⟩:=dG l
 refine⟨_,(au (fj (bF m c S (bD 0 (aQ (ag aC) bq ar) aa) aa (aG ar ah)) (dJ (n:=2) S (bt (bc (i:=2) qao.nd S Yk) (bt (bc (i:=3) qao.nd S Yk) dN))))
   (ai (aD (ag (mi (iu (bz c.units) (ae 2) (PD.q ak) (aw _)) (mi (Jc S r (ae 3) (jb (v:=.ty "str") S p Lx S) aa aa) (sV (iu (bz c.units) (ae 3) (PD.q (bP j c S (af (dv 1) ao aa) aa ah)) (aw _))))))))),?_⟩
 intro y;refine⟨⟨_,_,S⟩,_,S,S,_,k,g,"write",S,e,t,.inr ⟨S,?_⟩⟩;refine⟨S,?_⟩;rfl';refine⟨λ_=>⟨_,S,λ_=>⟨k,S,e,?_⟩,λh=>(by cases h)⟩,λh=>(by cases h)⟩;change fB (R (.v (.bl (iP k==iP k)))) _ _ _ _;rw[K5];show⟨_,S,q⟩
open Tx
theorem D1{c:Type}{xs:Y c}{x:c}(h:xs.Nodup)(l:x∉xs):(xs++[x]).Nodup:=by rw[LI];refine⟨h,by simp,λa g b j=>?_⟩;rw[KH.mp j];show λe=>l (e▸g)
theorem fJ{c:Type}{P:c->Prop}{xs:Y c}{x:c}(h:∀y∈xs,P y)(e:P x):∀y∈xs++[x],P y:=λy a=>by
 rcases K6.mp a with a|a
 ·show h y a
 ·rw[KH.mp a];show e
theorem z9{ts:Y Tm}(h:∀t∈ts,gJ t)(x:Str):bI (look ts x):=by
 unfold look
 cases e:ts.find? (λt=>decide (t.2=x))with
 |none=>change bI 0;unfold bI;decide
 |some t=>show (h t (Nb e)).1
theorem uq{ns:Y Str}{ts:Y Tm}(h:∀t∈ts,gJ t):(br ns ts).length=ns.length/\∀e∈br ns ts,bI e:=by
 refine⟨by unfold br;rw[wy],λe a=>?_⟩;let⟨x,_,rfl⟩:=KP.mp a;show z9 h x
theorem vh{x:Int}(h:bI x):bI (-x):=by unfold bI at h ⊢;omega
theorem SOk.aft{s:Dk}{o:Y Dk}{y:Str}{w:Say}(h:SOk s)(N:∀t∈o,SOk t)(J:Ln s y w):SOk (cN s o w):=by
 unfold cN;split
 case isFalse=>show h
 rename_i g;have a:=h.pl;have C:=J.num
 cases w with
 |word v=>
  change SOk (o.getLast?.getD s)
  cases e:o.getLast? with
  |none=>show h
  |some t=>show N t (List.mem_of_getLast? e)
 |tri v=>show h
 |take k=>
  refine⟨⟨a.nm,a.bl,a.bo,?_,λr E=>a.ro r (List.mem_of_mem_eraseIdx E),a.gn,a.go⟩,h.sn⟩;change (s.rs.eraseIdx _).length<=12;have:=a.rl;rw[NV];split<;>omega
 |frm f=>
  cases f with
  |unk x l m=>
   have B:bB s o (.frm (.unk x l m))=if x∈s.ns then 2 else if 8<=s.ns.length then 1 else 0:=rfl
   rw[B]at g
   have F:x∉s.ns:=λz=>by rw[Kq z]at g;cases g
   have Q:s.ns.length<8:=by
    rw[Kr F]at g;rcases K7 s.ns.length 8 with c|c
    ·show c
    ·rw[Kq c]at g;cases g
   let⟨p,j,I⟩:=C;refine⟨⟨⟨D1 a.nm.1 F,by change (s.ns++[x]).length<=8;rw[Kp];change s.ns.length+1<=8;omega,fJ a.nm.2.2 p⟩,by change (s.bs++[_]).length=(s.ns++[x]).length;rw[Kp,Kp,a.bl];rfl,fJ a.bo ⟨j,I⟩,by change (s.rs.map iL).length<=12;rw[wy];show a.rl,λr E=>?_,by change (s.gl++[0]).length=(s.ns++[x]).length;rw[Kp,Kp,a.gn];rfl,fJ a.go (by unfold bI;decide)⟩,h.sn⟩;let⟨r,H,rfl⟩:=KP.mp E;let⟨R,U,T⟩:=a.ro r H;show⟨by change (r.1++[0]).length=(s.ns++[x]).length;rw[Kp,Kp,R];rfl,fJ U (by unfold bI;decide),T⟩
  |row ts b t=>
   let⟨p,j⟩:=C;let⟨u,A⟩:=uq (ns:=s.ns) p
   have B:bB s o (.frm (.row ts b t))=if 12<=s.rs.length then 1 else 0:=rfl
   rw[B]at g
   have Q:s.rs.length<12:=by
    rcases K7 s.rs.length 12 with c|c
    ·show c
    ·rw[Kq c]at g;cases g
   refine⟨⟨a.nm,a.bl,a.bo,by change (s.rs++[_]).length<=12;rw[Kp];change s.rs.length+1<=12;omega,fJ a.ro ?_,a.gn,a.go⟩,h.sn⟩
   cases t with
   |false=>show⟨u,A,j⟩
   |true=>
    refine⟨by change ((br s.ns ts).map _).length=_;rw[wy];show u,λe M=>?_,vh j⟩;let⟨z,O,rfl⟩:=KP.mp M;show vh (A z O)
  |worth ts sn=>
   let⟨p,j⟩:=C;let⟨u,A⟩:=uq (ns:=s.ns) p;show⟨⟨a.nm,a.bl,a.bo,a.rl,a.ro,by change (bT sn _).length=_;rw[iw];show u,lN A⟩,j⟩
theorem qh{s:Dk}{a:Y Dk}{w:Say}(h:SOk s)(c:∀t∈a,SOk t):(∀t∈cF s a w,SOk t)/\(cF s a w).length<=a.length+1:=by
 unfold cF;split
 ·cases w with
  |word v=>show⟨λt e=>c t ((List.dropLast_sublist a).subset e),by change a.dropLast.length<=_;rw[List.length_dropLast];omega⟩
  |tri v=>show⟨fJ c h,by change (a++[s]).length<=_;rw[Kp];show Kw _⟩
  |take v=>show⟨fJ c h,by change (a++[s]).length<=_;rw[Kp];show Kw _⟩
  |frm v=>show⟨fJ c h,by change (a++[s]).length<=_;rw[Kp];show Kw _⟩
 ·show⟨c,N0 _⟩
open Tx
noncomputable def iQ:Nat->D->Prop
 |0,_=>False
 |_+1,.non=>True
 |_+1,.int _=>True
 |_+1,.str _=>True
 |m+1,.tup ds=>ds.length<=1000/\∀d∈ds,iQ m d
 |_+1,_=>False
noncomputable def kX(m:Nat):cD:=λds R=>∃d,ds=[d,d]/\iQ m d/\R (.bl ū)
theorem xw{ds:Y D}{R:D->Prop}(h:kX 0 ds R):False:=by let⟨d,_,h,_⟩:=h;unfold iQ at h;show h
noncomputable abbrev iM(d:D)(a c:Ū Sm):aj:=[Z (.v d),Z (.v d),a,c]
noncomputable abbrev DZ:cD:=kX 6
theorem Ep(F:Fun K "_law_same" "_law_same" mj f G):FnOk P w K mg base bh (n+1) f G ["_law_told","_law_due"] (lSpM K (zM (kX 0))):=
 F.okM qam (λas R a h=>by let⟨ds,_,h⟩:=h;show (xw h).elim) (λe A outer s H E as R a l c j h g=>by let⟨ds,_,h⟩:=h;show (xw h).elim)
theorem jH{m n:Nat}{f:Addr}{G:Ë}(F:Fun K "_law_same" "_law_same" mj f G)(M:Cl P w K mg base n "_law_same" ["_law_told","_law_due"] (kX m))(a:mg "isinstance"=ũ)(o:mg "tuple"=ũ)(p:mg "str"=ũ)(B:mg "zip"=ũ)(z:mg "int"=ũ)(J:mg "bool"=ũ)(l:mg "len"=ũ):FnOk P w K mg base bh (n+1) f G ["_law_told","_law_due"] (lSpM K (zM (kX (m+1)))):=by
 refine F.okM qam (λas R u h=>?_) (λO A outer s H E as R u U N c h t=>?_)
 ·let⟨_,rfl,d,rfl,_⟩:=h;rfl
 let⟨_,rfl,d,rfl,hd,q⟩:=h;obtain rfl:=cu t
 refine⟨_,(aM (aH (aR (ay eX (ae 1) (PD.q bE) (aw _))) (ai (aD (ag (iu eX (ae 0) (PD.q bE) (aw _))))) aL)
   (aM (aH (aR (gu (PD.q (jL S a (ae 1) (jb (v:=.ty "tuple") S o La S) aa aa)) (λ_=>rfl))) (aM (aH (aR (PWD.td (eo (j8 (gu (PD.q (jL S a (ae 0) (jb (v:=.ty "tuple") S o La S) aa aa)) (λ_=>rfl))) (ft (ay (dX c.units) (PD.q (bO bR S l KO (bj (ae 0) bp aa) aa ah)) (PD.q (bO bR S l KO (bj (ae 1) bp aa) aa ah)) (aw _)))))) (ai (aD (ag gD))) aL)
   (au (fE LQ S (gh (lU S B (af (dv 0) (af (dv 1) ao aa) aa))) (dJ (n:=2) S (bt (bc (i:=2) qam.nd S Yk) (bt (bc (i:=3) qam.nd S Yk) dN))) (ai (aH (aR (j8 (gu (PD.q (bP M c S (af (dv 2) (af (dv 3) ao aa) aa) aa (aG aa ah))) (λ_=>rfl)))) (ai (aD (ag gD))) aL)))
   (ai (aD (ag gD))))) aL)
   (aM (aH (aR (gu (PD.q (jL S a (ae 1) (jb (v:=.ty "str") S p Lx S) aa aa)) (λ_=>rfl))) (ai (aD (ag (mi (jL S a (ae 0) (jb (v:=.ty "str") S p Lx S) aa aa) (sV (iu (bz c.units) (ae 0) (ae 1) (aw _))))))) aL)
   (ai (aD (ag (mi (jL S a (ae 0) (jb (v:=.ty "int") S z MV S) aa aa) (mi (DD (PD.q (jL S a (ae 0) (jb (v:=.ty "bool") S J PyProof.Rows.boot_bool S) aa aa))) (sV (iu (bz c.units) (ae 0) (ae 1) (aw _))))))))))),?_⟩
 intro Q
 cases d with
 |non=>show⟨λρ=>False,⟨λ_=>q,λh=>(by cases h)⟩,λρ h=>h.elim⟩
 |int i=>
  refine⟨λρ=>ρ=iM (.int i) ũ ũ,⟨λh=>(by cases h),λ_=>rfl⟩,?_⟩;rintro ρ rfl;refine⟨λρ=>ρ=iM (.int i) ũ ũ,⟨_,S,λh=>(by cases h),λ_=>rfl⟩,?_⟩;rintro ρ rfl;refine⟨λρ=>ρ=iM (.int i) ũ ũ,⟨_,S,λh=>(by cases h),λ_=>rfl⟩,?_⟩;rintro ρ rfl;show⟨_,S,λ_=>⟨_,S,λ_=>(by change R (.v (.bl (i==i))) [];rw[K5];show q),λh=>(by cases h)⟩,λh=>(by cases h)⟩
 |str i=>
  refine⟨λρ=>ρ=iM (.str i) ũ ũ,⟨λh=>(by cases h),λ_=>rfl⟩,?_⟩;rintro ρ rfl;refine⟨λρ=>ρ=iM (.str i) ũ ũ,⟨_,S,λh=>(by cases h),λ_=>rfl⟩,?_⟩;rintro ρ rfl;show⟨λρ=>False,⟨_,S,λ_=>⟨_,S,λ_=>(by change R (.v (.bl (i==i))) [];rw[K5];show q),λh=>(by cases h)⟩,λh=>(by cases h)⟩,λρ h=>h.elim⟩
 |tup ds=>
  have hd:ds.length<=1000/\∀d∈ds,iQ m d:=by unfold iQ at hd;show hd
  refine⟨λρ=>ρ=iM (.tup ds) ũ ũ,⟨λh=>(by cases h),λ_=>rfl⟩,?_⟩;rintro ρ rfl;refine⟨λρ=>False,⟨_,S,λ_=>?_,λh=>(by cases h)⟩,λρ h=>h.elim⟩;refine⟨λρ=>ρ=iM (.tup ds) ũ ũ,⟨_,S,λh=>(by cases h),λ_=>?_⟩,?_⟩
  ·have e:(!(((ds.length:Nat):Int)==((ds.length:Nat):Int)))=Ŭ:=by rw[K5];rfl
   show⟨λh=>(by have:=h.symm.trans e;cases this),λ_=>rfl⟩
  rintro ρ rfl;refine⟨_,_,S,S,λi ρ=>∃g j:Ū Sm,ρ=iM (.tup ds) g j,⟨_,_,S⟩,?_,?_⟩
  ·rintro i d ρ C ⟨g,j,rfl⟩;let⟨x,y,r,I,rfl⟩:=pK C;cases r.symm.trans I;show⟨S,x,S,hd.2 x (KN r),λh=>(by cases h),λ_=>⟨_,_,S⟩⟩
  rintro ρ ⟨g,j,rfl⟩;show q
 |_=>unfold iQ at hd;show hd.elim
open Tx
theorem yp{m:Nat}(a:2<=m){es:Y Int}(h:es.length<=1000):iQ m (.tup (es.map D.int)):=by obtain⟨k,rfl⟩:∃k,m=k+2:=⟨m-2,()⟩;refine⟨by rw[wy];show h,λd hd=>?_⟩;let⟨x,_,rfl⟩:=KP.mp hd;trivial
theorem HE{ns:Y Str}{bs:Y cy}{rs:Y Rw}{gl:Y Int}{sn:Int}(a:PlOk ns bs rs gl):iQ 6 (.tup [.tup (ns.map D.str),hU bs rs gl,.int sn]):=by
 have m:=a.nm.2.1;have h:=a.bl;have g:=a.rl;have j:=a.gn;refine⟨by simp,λd hd=>?_⟩;simp only[Kz,KR,LC]at hd;rcases hd with rfl|rfl|rfl
 ·refine⟨by rw[wy];omega,λd hd=>?_⟩;let⟨x,_,rfl⟩:=KP.mp hd;trivial
 ·refine⟨by simp,λd hd=>?_⟩;simp only[Kz,KR,LC]at hd;rcases hd with rfl|rfl|rfl
  ·refine⟨by rw[wy];omega,λd hd=>?_⟩;let⟨⟨l,e⟩,_,rfl⟩:=KP.mp hd;refine⟨by simp,λd hd=>?_⟩;simp only[Kz,KR,LC]at hd;rcases hd with rfl|rfl
   ·trivial
   ·cases e<;>trivial
  ·refine⟨by rw[wy];omega,λd hd=>?_⟩;let⟨r,c,rfl⟩:=KP.mp hd;have:=(a.ro r c).1;refine⟨by simp,λd hd=>?_⟩;simp only[Kz,KR,LC]at hd;rcases hd with rfl|rfl
   ·show yp 'b' ()
   ·trivial
  ·show yp 'b' ()
 ·trivial
noncomputable abbrev rp(ns:Y Str)(rs:Y Rw):Y jf:=rs.map λr=>(bC ns r.1,r.2,Ŭ)
theorem Ek{ns:Y Str}{bs:Y cy}{rs:Y Rw}{gl:Y Int}{sn:Int}(a:PlOk ns bs rs gl)(t:sn=1\/sn = -1):∃(g:Nat->Rd)(es:Y Int),bV ns bs rs gl sn≠[]/\Rdg (bV ns bs rs gl sn) g/\(g (bV ns bs rs gl sn).length).wo=Z (es,sn)/\es.length<=1000/\rO (g (bV ns bs rs gl sn).length) es sn=.tup [.tup (ns.map D.str),hU bs rs gl,.int sn]:=by
 have u:=a.nm.2.1;have l:=a.bl;have o:=a.rl;have p:=a.gn;have e:=zw (ns:=ns) (bs:=bs) (rs:=rp ns rs) (wts:=bC ns (bT sn gl)) (sn:=sn) l;have h:br ns (bC ns (bT sn gl))=bT sn gl:=qb a.nm.1 (by rw[iw,p])
 have c:(rp ns rs).map (jl ns)=rs:=by
  rw[LO];refine (Md (g:=id) λr j=>?_).trans (OU _);change (br ns (bC ns r.1),r.2)=r;rw[qb a.nm.1 (a.ro r j).1]
 rw[h,c]at e;refine⟨eM ns bs (rp ns rs) (bC ns (bT sn gl)) sn,bT sn gl,?_,?_,?_,?_,?_⟩
 ·unfold bV fD;simp
 ·refine ID a.nm.1 u l (by rw[wy];show o) (λv m=>?_) (pU a.nm.1) ?_
  ·let⟨r,j,rfl⟩:=KP.mp m;refine⟨pU a.nm.1,?_⟩;have:=gQ ns r.1;have:=(a.ro r j).1;change (bC ns r.1).length<=900;omega
  ·have:=gQ ns (bT sn gl);rw[iw]at this;omega
 ·unfold bV;rw[e]
 ·rw[iw];omega
 ·unfold bV;rw[e];unfold rO;rw[vR t];rfl
open Tx
theorem Cw{e:Y Addr}(h:e.length=3):∃a b c,e=[a,b,c]:=by
 match e,h with
 | [a,b,c],_=>show⟨a,b,c,S⟩
theorem uB{n:Nat}{x v:Str}(h:eW n x=Z (.word v)):x=v:=by
 unfold eW at h;split at h
 ·cases h;rfl
 split at h
 ·split at h
  ·cases h
  ·split at h
   ·split at h<;>cases h
   ·split at h<;>cases h
 ·cases a:il x with
  |none=>rw[a]at h;cases h
  |some f=>rw[a]at h;cases h
theorem DK{s:Dk}{a:Y Dk}{y:Str}{w:Say}(h:Ln s y w)(g:bB s a w=0)(m:y="back"):∃c t,a=c++[t]/\cF s a w=c:=by
 have j:=h.say;rw[m,qJ]at j;cases j
 have l:a≠[]:=λe=>by have:bB s a (.word "back")=6:=Kq ⟨S,e⟩;rw[this]at g;cases g
 rcases NG a with e|⟨c,t,e⟩
 ·show absurd e l
 rw[NH]at e;refine⟨c,t,e,?_⟩;unfold cF;rw[Kq g,e];show M3
theorem w8{s:Dk}{c:Y Dk}{y:Str}{w:Say}(h:Ln s y w)(e:bB s c w=0)(g:y≠"back"):cF s c w=c++[s]:=by
 unfold cF;rw[Kq e]
 cases w with
 |word v=>
  rcases h.ok with a|a
  ·show a.elim
  ·cases a;show absurd (uB h.say) g
 |tri v=>rfl
 |take v=>rfl
 |frm v=>rfl
inductive y__law_changed(as:List Sm)(R:Sm->List Om->Prop)(Rx:XD->List Om->Prop):Prop|mk (a b c:Option Addr) (o:Om) (ws:List Str) (s:Dk) (hs:List Dk) (m n:Nat) (_:as=[.ob a o,.ob b (bS s hs),.v (.lst (ws.map D.str)),.v (bw s),.ob c (.lst (hs.map bw)),.v (.int (n:Nat))]) (_:Pl m o) (_:m+100*n+400<2^20) (_:SOk s) (_:(∀t∈hs,SOk t)) (_:hs.length+n<300) (_:(∀x∈ws,bQ x=ū)) (_:ws.length=10) (_:∀(s':Dk)(Sn:List Dk)(o':Om),SOk s'->(∀t∈Sn,SOk t)->Sn.length<=hs.length+n->Pl (m+100*n) o'->R (.v (bw s')) [o',bS s' Sn,.lst (Sn.map bw)])
noncomputable abbrev v3(e g h:Addr)(o:Om)(ws:Y Str)(s s':Dk)(c a:Y Dk)(n:Nat)(j l m p:Ū Sm):aj:=[Z (.ob (Z e) o),Z (.ob (Z g) (bS s' c)),Z (.v (.lst (ws.map D.str))),Z (.v (bw s)),Z (.ob (Z h) (.lst (a.map bw))),Z (.v (.int (n:Nat))),j,l,m,p]
noncomputable abbrev CI(e g h:Addr)(o:Om)(ws:Y Str)(s:Dk)(a:Y Dk)(n i:Nat)(y:Str)(w:Say)(c:Y Dk):aj:=v3 e g h o ws s (cN s a w) (cF s a w) c n (Z (.v (.int (0+(i:Int))))) (Z (.v (.str y))) (Z (.v (.int (bB s a w)))) (Z (.v (bw (cN s a w))))
theorem Aa(F:Fun K "_law_changed" "_law_changed" oX f G)(P2:ClM P w K mg base n "_law_change" ["_law_pool_here","_law_words","_law_state","_law_past"] y__law_change)(Po:ClM P w K mg base n "_law_said" ["_law_desk","_law_line"] y__law_said)(dF:mg "range"=ũ):FnOk P w K mg base bh (n+1) f G ["_law_pool_here","_law_desk","_law_words","_law_state","_law_past","_law_many"] (lSpM K y__law_changed):=by
 refine F.okM qaf (λas R Rx h=>?_) (λPh A outer s H E as R Rx qs Pg p h Pj=>?_)
 ·let⟨a,b,c,o,ws,k,U,m,n,rfl,_⟩:=h;rfl
 let⟨a,b,c,o,ws,k,U,m,n,rfl,hp,hm,hk,T,hl,hw,Sk,q⟩:=h;let⟨N,O,Q,rfl⟩:=Cw Pj
 refine⟨_,(au (fE LQ S (gh (rA S dF (af (dv 5) ao aa))) (bc (i:=6) qaf.nd S Yk) (au (fj (bF P2 p S (bD 0 (aQ (ag (dv 2)) (aQ (ag (dv 3)) (bD 4 bq aa) aa) aa) aa) aa (aG aa (aG aa (aG aa ah)))) (dJ (n:=3) S (bt (bc (i:=7) qaf.nd S Yk) (bt (bc (i:=8) qaf.nd S Yk) (bt (bc (i:=9) qaf.nd S Yk) dN)))))
   (aM (aH (jZ (dX p.units) (kN (bF Po p S (bD 1 (aQ (ag (dv 7)) bq aa) aa) aa (aG aa ah)) (ag ak) (λ_ _=>rfl)) (ag (dv 8)) (aw _)) (ai (aD (ag bE))) aL)
   (aM (aH (aR (PWD.td (lY (ay (bz p.units) (ae 8) (PD.q ak) (aw _)) (lP (ay (bz p.units) (ae 7) (PD.q aC) (aw _)))))) (ai (kq (Bi 4))) aL)
   (aM (aH (aR (PWD.td (lY (ay (bz p.units) (ae 8) (PD.q ak) (aw _)) (lP (ay (dX p.units) (ae 7) (PD.q aC) (aw _)))))) (ai (eK 4 (ag (dv 3)) (bW aa) aa)) aL)
   (ai (ax (i:=3) qaf.nd S Yk (ag (dv 9)))))))))
   (ai (aD (ag (dv 3))))),?_⟩
 intro ke;refine⟨⟨(),()⟩,λi ρ=>∃(x:Om)(s:Dk)(g:Y Dk)(X a_ aA u9:Ū Sm),ρ=v3 N O Q x ws s s g g n X a_ aA u9/\Pl (m+100*i) x/\SOk s/\(∀t∈g,SOk t)/\g.length<=U.length+i,⟨o,k,U,_,_,_,_,S,hp,hk,T,Kw _⟩,?_,?_⟩
 ·rintro i d ρ hd ⟨x,s,g,X,a_,aA,u9,rfl,C,u,B,S9⟩;let⟨hi,rfl⟩:=iH hd
  have hi:i<n:=by omega
  refine⟨⟨_,_,S⟩,⟨_,_,S⟩,_,S,S,_,_,x,ws,s,g,_,S,C,(),u,hw,Sk,λy w M J WQ=>⟨S,?_⟩⟩;rfl';refine⟨λρ=>ρ=CI N O Q M ws s g n i y w g,?_,?_⟩
  ·refine⟨⟨_,_,S⟩,_,S,S,_,s,g,y,S,u,(),.inl ⟨w,J,?_⟩⟩
   have ne:(!(bB s g w==bB s g w))=Ŭ:=by rw[K5];rfl
   show⟨_,S,λh=>(by have:=h.symm.trans ne;cases this),λ_=>rfl⟩
  rintro ρ rfl;refine⟨λρ=>∃v,ρ=CI N O Q M ws s g n i y w v/\((bB s g w=0/\y="back"/\v=cF s g w)\/(¬ (bB s g w=0/\y="back")/\v=g)),?_,?_⟩
  ·refine⟨λh=>⟨λj=>?_,λj=>⟨g,S,.inr ⟨λz=>?_,S⟩⟩⟩,λh=>⟨λj=>ff j,λ_=>⟨g,S,.inr ⟨λz=>?_,S⟩⟩⟩⟩
   ·have l:=dq h;have r:y="back":=eq_of_beq j;let⟨I,t,e,eg⟩:=DK J l r
    have em:g.map bw=I.map bw++[bw t]:=by rw[e,KW];rfl
    have e1:(g.map bw)[(g.map bw).length-1]?=Z (bw t):=by rw[em,Kp,Km (by simp)];simp
    show⟨_,e1,I.map bw,(by rw[em,M3]),I,S,.inl ⟨l,r,eg.symm⟩⟩
   ·rw[z.2]at j;show tf j
   ·rw[z.1]at h;show tf h
  rintro ρ ⟨v,rfl,ap⟩;refine⟨λρ=>ρ=CI N O Q M ws s g n i y w (cF s g w),?_,?_⟩
  ·refine⟨λh=>⟨λj=>?_,λj=>?_⟩,λh=>⟨λj=>ff j,λ_=>?_⟩⟩
   ·have l:=dq h
    have r:y≠"back":=λe=>by rw[e]at j;show ff j
    obtain⟨_,rfl⟩:_/\v=g:=ap.resolve_left λz=>r z.2.1;show⟨by rw[wy];show cq (),(cF s v w).map bw,(by rw[w8 J l r,KW];rfl),S⟩
   ·have l:=dq h
    have r:y="back":=by have j:(!(y == "back"))=Ŭ:=j;simpa using j
    rcases ap with z|z
    ·rw[z.2.2];rfl
    ·show absurd ⟨l,r⟩ z.1
   ·have l:bB s g w≠0:=i7 h;rcases ap with z|z
    ·show absurd z.1 l
    ·have:cF s g w=g:=Kr l
     delta CI
     rw[z.2,this];rfl
  rintro ρ rfl;let⟨g1,I⟩:=qh (w:=w) u B;show⟨M,cN s g w,cF s g w,_,_,_,_,S,WQ.mono (),u.aft B J,g1,()⟩
 rintro ρ ⟨x,s,g,X,a_,aA,u9,rfl,C,u,B,S9⟩;rw[gA]at C S9;show⟨_,S,_,S,_,S,q s g x u B () (C.mono ())⟩
open Tx
inductive y__law_begun(as:List Sm)(R:Sm->List Om->Prop)(Rx:XD->List Om->Prop):Prop|mk (a b:Option Addr) (o:Om) (ws:List Str) (m:Nat) (_:as=[.ob a o,.ob b (bS kI []),.v (.lst (ws.map D.str))]) (_:Pl m o) (_:m+9000<2^20) (_:(∀x∈ws,bQ x=ū)) (_:ws.length=10) (_:∀(s:Dk)(hs:List Dk)(o':Om),SOk s->(∀t∈hs,SOk t)->hs.length<=100->Pl (m+8000) o'->R (.v (bw s)) [o',bS s hs])
theorem vU:SOk kI:=⟨⟨⟨NZ,'b',λx h=>(by cases h)⟩,S,λb h=>(by cases h),'b',λr h=>(by cases h),S,λe h=>(by cases h)⟩,.inl S⟩
noncomputable abbrev BG(h j:Addr)(o:Om)(ws:Y Str)(s s':Dk)(e c:Y Dk)(g rw:Nat)(l m p a:Ū Sm):aj:=[Z (.ob (Z h) o),Z (.ob (Z j) (bS s' e)),Z (.v (.lst (ws.map D.str))),Z (.v (bw s)),Z (.own (c.map bw)),Z (.v (.int (g:Nat))),Z (.v (.int (rw:Nat))),l,m,p,a]
noncomputable abbrev BJ(g h:Addr)(o:Om)(ws:Y Str)(s s':Dk)(c a:Y Dk)(e rw i:Nat)(y:Str)(w:Say):aj:=BG g h o ws s s' c a e rw (Z (.v (.int (0+(i:Int))))) (Z (.v (.str y))) (Z (.v (.int (bB s [] w)))) (Z (.v (bw (cN s [] w))))
theorem IP(F:Fun K "_law_begun" "_law_begun" nU f G)(u:ClM P w K mg base n "_law_next" ["_law_pool_here","_law_size"] y__law_next)(Rh:ClM P w K mg base n "_law_changed" ["_law_pool_here","_law_desk","_law_words","_law_state","_law_past","_law_many"] y__law_changed)(PU:ClM P w K mg base n "_law_unknown" ["_law_pool_here","_law_state","_law_name"] y__law_unknown)(P9:ClM P w K mg base n "_law_rowed" ["_law_pool_here","_law_state","_law_way"] y__law_rowed)(Po:ClM P w K mg base n "_law_said" ["_law_desk","_law_line"] y__law_said)(dF:mg "range"=ũ)(dY:mg "int"=ũ):FnOk P w K mg base bh (n+1) f G ["_law_pool_here","_law_desk","_law_words"] (lSpM K y__law_begun):=by
 refine F.okM qad (λas R Rx h=>?_) (λPh A outer s H E as R Rx qs Pg g h Pj=>?_)
 ·let⟨a,b,o,ws,m,rfl,_⟩:=h;rfl
 let⟨a,b,o,ws,m,rfl,hp,hm,hw,Sk,q⟩:=h;let⟨N,O,rfl⟩:=wg Pj
 refine⟨_,(au (ax (i:=3) qad.nd S Yk (ag (aO (af (aO ao) (af (aO ao) (af (aO ao) (af (aO ao) (af ak ao ar) cC) cC) cC) cC))))
   (au (ax (i:=4) qad.nd S Yk (eD (eL ao)))
   (au (ax (i:=5) qad.nd S Yk (bF u g S (bD 0 (aQ (ag ak) bq ar) aa) aa (aG ar ah)))
   (au (ax (i:=6) qad.nd S Yk (kN (C4 (aQ (bF u g S (bD 0 (aQ (ag ak) bq ar) aa) aa (aG ar ah)) (aQ (ag ak) bq ar) bX)) (HJ xM S dY MV (aQ (Dy (bz g.units) (bF u g S (bD 0 (aQ (ag ak) bq ar) aa) aa (aG ar ah)) (ag ak) (aw _)) bq l0) l0 ah) (λ_ _=>rfl)))
   (au (fE LQ S (gh (rA S dF (af (aT bx (ae 5) (ae 6)) ao bN))) (bc (i:=7) qad.nd S Yk) (aM (aH (aR (ay i9 (ae 7) (ae 5) (aw _))) (ai (fj (bF PU g S (bD 0 (aQ (ag (dv 3)) (aQ (ag (cQ (ae 2) (ae 7) (λ_ _=>rfl))) bq az) aa) aa) aa (aG aa (aG az ah))) (dJ (n:=3) S (bt (bc (i:=8) qad.nd S Yk) (bt (bc (i:=9) qad.nd S Yk) (bt (bc (i:=10) qad.nd S Yk) dN)))))) (ai (fj (bF P9 g S (bD 0 (aQ (ag (dv 3)) (aQ (bF u g S (bD 0 (aQ (ag ak) bq ar) aa) aa (aG ar ah)) bq bX) aa) aa) aa (aG aa (aG bX ah))) (dJ (n:=3) S (bt (bc (i:=8) qad.nd S Yk) (bt (bc (i:=9) qad.nd S Yk) (bt (bc (i:=10) qad.nd S Yk) dN)))))))
   (aM (aH (jZ (dX g.units) (kN (bF Po g S (bD 1 (aQ (ag (dv 8)) bq aa) aa) aa (aG aa ah)) (ag ak) (λ_ _=>rfl)) (ag (dv 9)) (aw _)) (ai (aD (ag bE))) aL)
   (aM (aH (aR (ay (bz g.units) (ae 9) (PD.q ak) (aw _))) (ai (eK 4 (ag (dv 3)) (bW aa) aa)) aL)
   (ai (ax (i:=3) qad.nd S Yk (ag (dv 10))))))))
   (ai (aD (bF Rh g S (bD 0 (bD 1 (aQ (ag (dv 2)) (aQ (ag (dv 3)) (bD 4 (aQ (j7 bx (ag ak) (bF u g S (bD 0 (aQ (ag ak) bq ar) aa) aa (aG ar ah))) bq bN) aa) aa) aa) aa) aa) aa (aG aa (aG aa (aG aa (aG aa (aG bN ah))))))))))))),?_⟩
 intro ke;rfl';refine⟨⟨_,_,S⟩,_,S,S,_,_,10,_,S,hp,(),'b',dc 'b',λx o2 x0 x1 Qk=>?_⟩;rfl';refine⟨⟨_,_,S⟩,_,S,S,_,_,6,_,S,Qk,(),'b',dc 'b',λy o3 y0 y1 Sv=>?_⟩;rfl';refine⟨⟨_,_,S⟩,_,S,S,_,_,4,_,S,Sv,(),'b',dc 'b',λz o4 z0 z1 X7=>?_⟩;rfl';let⟨x,rfl⟩:=Lq x0
 obtain⟨r,aA,r9⟩:∃r:Nat,bZ [D.int y,.int 13] (if z==0 then 1 else 0)=Z (.int (r:Nat))/\r<=13:=by
  let⟨y,rfl⟩:=Lq y0;cases z==0
  ·show⟨y,S,()⟩
  ·show⟨13,S,()⟩
 refine⟨_,aA,?_⟩;rfl';refine⟨⟨(),()⟩,λi ρ=>∃(C:Om)(s:Dk)(c:Y Dk)(u7 u8 u9 Q:Ū Sm),ρ=BG N O C ws s s c c x r u7 u8 u9 Q/\Pl (m+3+100*i) C/\SOk s/\(∀t∈c,SOk t)/\c.length<=i,⟨o4,kI,[],_,_,_,_,S,X7,vU,λt h=>(by cases h),Kw _⟩,?_,?_⟩
 ·rintro i d ρ hd ⟨C,s,c,u7,u8,u9,Q,rfl,B,l,I,S9⟩;let⟨hi,rfl⟩:=iH hd
  have hi:i<30:=by omega
  refine⟨λρ=>∃(y:Str)(w:Say)(M:Om),Ln s y w/\fh s w/\Pl (m+3+100*i+90) M/\ρ=BJ N O M ws s s c c x r i y w,⟨λh=>?_,λh=>?_⟩,?_⟩
  ·have h:=KL h;have hj:ws[i]?=Z (ws[i]'()):=KG ();show⟨⟨_,_,S⟩,_,hZ (i:=i) hj (),_,S,S,_,C,s,_,_,S,B,(),l,hw _ (MA _),λy w j U X p=>⟨S,y,w,j,U,X,p.mono (),S⟩⟩
  ·refine⟨⟨_,_,S⟩,⟨_,_,S⟩,_,S,S,_,_,2,_,S,B,(),'b',dc 'b',λv j v0 v1 p=>?_⟩
   obtain⟨t,rfl⟩:∃t:Bool,v=if t then 1 else 0:=by
    obtain rfl|rfl:v=0\/v=1:=by omega
    ·show⟨Ŭ,S⟩
    ·show⟨ū,S⟩
   show⟨_,S,S,_,j,s,t,_,S,p,(),l,λy w o6 U X a_=>⟨S,y,w,o6,U,X,a_.mono (),S⟩⟩
  rintro ρ ⟨y,w,j,J,hok,p,rfl⟩;let⟨ap,e2⟩:=kh c hok;refine⟨λρ=>ρ=BJ N O j ws s (cN s c w) (cF s c w) c x r i y w,?_,?_⟩
  ·refine⟨⟨_,_,S⟩,_,S,S,_,s,c,y,S,l,(),.inl ⟨w,J,?_⟩⟩
   have ne:(!(bB s c w==bB s [] w))=Ŭ:=by rw[ap,K5];rfl
   show⟨_,S,λh=>(by have:=h.symm.trans ne;cases this),λ_=>rfl⟩
  rintro ρ rfl;refine⟨λρ=>ρ=BJ N O j ws s (cN s c w) (cF s c w) (cF s c w) x r i y w,⟨λh=>?_,λh=>?_⟩,?_⟩
  ·have T:=dq h;show⟨by rw[wy];show cq (),(cF s c w).map bw,(by rw[w8 J (ap.trans T) (J.nb hok),KW];rfl),S⟩
  ·have T:bB s [] w≠0:=i7 h;have e:cF s c w=c:=Kr (by rw[ap];show T)
   delta BJ
   rw[e];rfl
  rintro ρ rfl;let⟨g1,g3⟩:=qh (w:=w) l I;show⟨j,cN s c w,cF s c w,_,_,_,_,(by rw[e2];rfl),p.mono (),l.aft I J,g1,()⟩
 rintro ρ ⟨C,s,c,u7,u8,u9,Q,rfl,B,l,I,S9⟩;rw[gA]at B S9;refine⟨⟨_,_,S⟩,⟨_,_,S⟩,⟨_,_,S⟩,⟨_,_,S⟩,_,S,S,_,_,8,_,S,B,(),'b',dc 'b',λv j v0 v1 p=>?_⟩;let⟨v,rfl⟩:=Lq v0;show⟨_,S,S,_,_,_,j,ws,s,c,_,1+v,S,p,(),l,I,(),hw,Sk,λs' Sn M k1 k2 k3 k4=>⟨_,S,_,S,q s' Sn M k1 k2 () (k4.mono ())⟩⟩
open Tx
noncomputable def cG(k:Dk)(i:Nat):Dk:=if i<=k.ns.length then ⟨k.ns.take i,k.bs.take i,[],List.replicate i 0,1⟩ else if i<=k.ns.length+k.rs.length then ⟨k.ns,k.bs,k.rs.take (i-k.ns.length),List.replicate k.ns.length 0,1⟩ else k
theorem rQ{k:Dk}(a:k.bs.length=k.ns.length){j:Nat}(e:j<=k.rs.length):cG k (k.ns.length+j)=⟨k.ns,k.bs,k.rs.take j,List.replicate k.ns.length 0,1⟩:=by
 unfold cG;by_cases c:j=0
 ·subst c;rw[Kq (),Nat.add_zero,LL,←a,LL];rfl
 ·rw[Kr (),Kq (),LN]
theorem Jn{k:Dk}(a:k.bs.length=k.ns.length):(bV k.ns k.bs k.rs k.gl k.sn).length=k.ns.length+k.rs.length+1:=by unfold bV fD;simp[a];omega
theorem B5{k:Dk}(a:k.bs.length=k.ns.length):cG k (bV k.ns k.bs k.rs k.gl k.sn).length=k:=by rw[Jn a];unfold cG;rw[Kr (),Kr ()]
theorem zS{k:Dk}(t:SOk k){i:Nat}{f:Frm}(a:(bV k.ns k.bs k.rs k.gl k.sn)[i]?=Z f):kR (cG k i) f/\fN (cG k i) f=0/\lZ (cG k i) f=cG k (i+1):=by
 have e:=t.pl;have l:=e.nm.1;have F:=e.nm.2.1;have m:=e.bl;have E:=e.rl
 have B:(List.zipWith (λx b=>Frm.unk x b.1 b.2) k.ns k.bs).length=k.ns.length:=by rw[Mw,m,OI]
 unfold bV fD at a;rcases K7 i k.ns.length with c|c
 ·rw[Kn (),MT]at a;have g:k.ns[i]?=Z k.ns[i]:=KG c;have r:k.bs[i]?=Z (k.bs[i]'()):=KG ();rw[g,r]at a;cases a
  have z:cG k i=⟨k.ns.take i,k.bs.take i,[],List.replicate i 0,1⟩:=by unfold cG;rw[Kq ()]
  have p:cG k (i+1)=⟨k.ns.take (i+1),k.bs.take (i+1),[],List.replicate (i+1) 0,1⟩:=by unfold cG;rw[Kq ()]
  rw[z,p,fL g,fL r,List.replicate_succ'];refine⟨trivial,?_,S⟩
  have v:k.ns[i]∉k.ns.take i:=λA=>by
   let⟨j,o⟩:=L9 A
   have y:j<i:=by have:=aZ o;rw[KY]at this;omega
   rw[Mg y]at o;have:=(Mc (aZ o) l).mp (o.trans g.symm);omega
  change (if k.ns[i]∈k.ns.take i then (2:Int) else if 8<=(k.ns.take i).length then 1 else 0)=0;rw[Kr v,Kr (by rw[KY];omega)]
 ·obtain⟨j,rfl⟩:∃j,i=k.ns.length+j:=⟨i-k.ns.length,()⟩;rw[Km (),B,LN]at a;rcases K7 j k.rs.length with h|h
  ·rw[Kn (by simp;show h)]at a;have g:k.rs[j]?=Z k.rs[j]:=KG h;simp only[Kv,g,Option.map_some]at a;cases a;let⟨C,_⟩:=e.ro k.rs[j] (MA h);have u:=gQ k.ns k.rs[j].1;rw[rQ m (),Nat.add_assoc,rQ m (),fL g];refine⟨⟨pU l,()⟩,?_,?_⟩
   ·change (if 12<=(k.rs.take j).length then (1:Int) else 0)=0;rw[Kr (by rw[KY];omega)]
   ·change Dk.mk _ _ (k.rs.take j++[(br k.ns (bC k.ns k.rs[j].1),k.rs[j].2)]) _ _=_;rw[qb l C]
  ·rw[Km (by simp;show h)]at a
   obtain rfl:j=k.rs.length:=by have:=aZ a;simp at this;omega
   simp only[wy,Lw]at a;cases a
   have p:cG k (k.ns.length+k.rs.length+1)=k:=by unfold cG;rw[Kr (),Kr ()]
   have u:=gQ k.ns (bT k.sn k.gl);rw[iw]at u;rw[rQ m (Kw _),p,LL];refine⟨⟨pU l,by have:=e.gn;omega⟩,S,?_⟩;change Dk.mk k.ns k.bs k.rs (bT k.sn (br k.ns (bC k.ns (bT k.sn k.gl)))) k.sn=k;rw[qb l (by rw[iw];show e.gn),vR t.sn]
theorem Fo{k:Dk}(g:SOk k){i:Nat}{f:Frm}(j:(bV k.ns k.bs k.rs k.gl k.sn)[i]?=Z f)(a:Y Dk):Ln (cG k i) (aP f) (.frm f)/\bB (cG k i) a (.frm f)=0/\cN (cG k i) a (.frm f)=cG k (i+1)/\cF (cG k i) a (.frm f)=a++[cG k i]/\nz (cG k i) a (.frm f)=.str "ok":=by let⟨l,c,m⟩:=zS g j;let⟨e,h⟩:=jP g.pl g.sn f (KN j);show⟨⟨rG e h,h,ym e,e,.inl l⟩,c,(Kq c).trans m,Kq c,Kq c⟩
open Tx
noncomputable abbrev sp_law:=uk
noncomputable abbrev BC:=vS
noncomputable abbrev LX(ns:Y Int)(o:Om)(ws:Y Str)(k:Dk)(m:Y Dk)(p r t u v a j c l e g h:Ū Sm):aj:=[Z (.v (.fzl (ns.map D.int))),Z (.ob ũ o),Z (.v (.lst (ws.map D.str))),Z (.ob ũ (bS k m)),Z (.v (bw k)),p,r,t,u,v,a,j,c,l,e,g,h]
noncomputable abbrev LY(ns:Y Int)(o:Om)(ws:Y Str)(k:Dk)(l:Y Dk)(h a j c e g:Ū Sm):aj:=LX ns o ws k l (Z (.v (.str (iP k)))) (Z (.v (.tup (k.ns.map D.str)))) (Z (.v (.tup (k.bs.map cZ)))) (Z (.v (.tup (k.rs.map bK)))) (Z (.v (.tup (k.gl.map D.int)))) (Z (.v (.int k.sn))) h a j c e g
theorem y8(F:Fun K "law" "law" oR f G){Q:Addr}(p:TxtDesk K mg Q)(R9:ClM P w K mg base (n+1) "_law_pool" ["_law_script","_law_at"] y__law_pool)(RT:ClM P w K mg base (n+1) "_law_names" ["_law_pool_here","_law_count"] y__law_names)(RU:ClM P w K mg base (n+1) "_law_begun" ["_law_pool_here","_law_desk","_law_words"] y__law_begun)(tZ:Cl P w K mg base (n+1) "_law_same" ["_law_told","_law_due"] DZ)(P2:ClM P w K mg base (n+1) "_law_change" ["_law_pool_here","_law_words","_law_state","_law_past"] y__law_change)(O:ClM P w K mg base (n+1) "_law_standing" ["_law_desk","_law_state"] y__law_standing)(Ki:Cl P w K mg base (n+1) "read_plan" ["text"] z_read_plan)(Po:ClM P w K mg base (n+1) "_law_said" ["_law_desk","_law_line"] y__law_said)(Pa:ClM P w K mg base (n+1) "_law_next" ["_law_pool_here","_law_size"] y__law_next)(P6:MkM P w K mg base n Q ["self"] y_Desk____init__)(P0:MthMX P w K mg base (n+1) Q "say" ["self","line"] pk)(dF:mg "range"=ũ):FnOk P w K mg base bh (n+2) f G ["_law_script"] (lSpM K (zM BC)):=by
 refine F.okM qau (λas R Rx h=>?_) (λPh A outer s H E as R Rx qs Pg l h Pj=>?_)
 ·let⟨_,rfl,ns,rfl,_⟩:=h;rfl
 let⟨_,rfl,ns,rfl,hz,q⟩:=h;obtain rfl:=cu Pj
 refine⟨_,(au (ax (i:=1) qau.nd S Yk (bF R9 l S (aQ (ag (dv 0)) (aQ (ag ak) bq ar) aa) aa (aG ar ah)))
   (au (ax (i:=2) qau.nd S Yk (zk (bF RT l S (bD 1 (aQ (ag ak) bq ar) aa) aa (aG ar ah))))
   (au (ax (i:=3) qau.nd S Yk (tV P6 l S p.mgC p.ns))
   (au (ax (i:=4) qau.nd S Yk (bF RU l S (bD 1 (bD 3 (aQ (ag (dv 2)) bq aa) aa) aa) aa (aG aa (aG aa ah))))
   (aM (aH (PXW.toB (y6 (aR (ay eX (ae 4) (PD.q bE) (aw _))) (JO (CD (JZ (bF O l S (bD 3 (aQ (ag (dv 4)) bq aa) aa) aa (aG aa ah)) (λ_=>rfl)))))) (ai (aD (ag gD))) aL)
   (au (ax (i:=5) qau.nd S Yk (jO 3 P0.calm l p.cl p.ns (aQ (ag aC) bq ar) ar ah))
   (au (fj (ag (dv 4)) (dJ (n:=5) S (bt (bc (i:=6) qau.nd S Yk) (bt (bc (i:=7) qau.nd S Yk) (bt (bc (i:=8) qau.nd S Yk) (bt (bc (i:=9) qau.nd S Yk) (bt (bc (i:=10) qau.nd S Yk) dN)))))))
   (aM (aH (aR (j8 (gu (PD.q (bP tZ l S (af (bP Ki l S (af (dv 5) ao aa) aa ah) (af (aO (af (dv 6) (af (aO (af (dv 7) (af (dv 8) (af (dv 9) ao aa) aa) aa)) (af (dv 10) ao aa) cC) aa)) ao cC) bX) bX (aG cC ah))) (λ_=>rfl)))) (ai (aD (ag gD))) aL)
   (au (ax (i:=11) qau.nd S Yk (tV P6 l S p.mgC p.ns))
   (au (fE LQ S (gh (fV (PF.d (p8 (ae 5) aC (bW ar) ar)))) (bc (i:=12) qau.nd S Yk) (ai (aH (jZ (dX l.units) (bF Po l S (bD 11 (aQ (ag (dv 12)) bq aa) aa) aa (aG aa ah)) (ag (aO (af ak (af aC ao ar) ar))) (aw _)) (ai (aD (ag gD))) aL)))
   (aM (aH (jZ (dX l.units) (jO 11 P0.calm l p.cl p.ns (aQ (ag aC) bq ar) ar ah) (ag (dv 5)) (aw _)) (ai (aD (ag gD))) aL)
   (au (ax (i:=13) qau.nd S Yk (ag (dv 4)))
   (au (fE LQ S (xu S dF (aQ (j7 bx (ag ak) (bF Pa l S (bD 1 (aQ (ag ak) bq ar) aa) aa (aG ar ah))) bq bN)) (bc (i:=14) qau.nd S Yk) (au (fj (bF P2 l S (bD 1 (aQ (ag (dv 2)) (aQ (ag (dv 13)) (aQ (eD (eL ao)) bq xQ) aa) aa) aa) aa (aG aa (aG aa (aG xQ ah)))) (dJ (n:=3) S (bt (bc (i:=12) qau.nd S Yk) (bt (bc (i:=15) qau.nd S Yk) (bt (bc (i:=16) qau.nd S Yk) dN)))))
   (ai (aH (aR (ay (dX l.units) (ae 12) (PD.q aC) (aw _))) (aM (aH (jZ (dX l.units) (kN (bF Po l S (bD 11 (aQ (ag (dv 12)) bq aa) aa) aa (aG aa ah)) (ag ak) (λ_ _=>rfl)) (ag (dv 15)) (aw _)) (ai (aD (ag gD))) aL)
   (ai (ax (i:=13) qau.nd S Yk (ag (dv 16))))) aL))))
   (ai (aD (DH (bF O l S (bD 11 (aQ (ag (dv 13)) bq aa) aa) aa (aG aa ah)) (Ja (bF O l S (bD 3 (aQ (ag (dv 4)) bq aa) aa) aa (aG aa ah))))))))))))))))))),?_⟩
 intro ke;change xb _ _ _ ([Z (.v (.fzl (ns.map D.int))),ũ,ũ,ũ,ũ,ũ,ũ,ũ,ũ,ũ,ũ,ũ,ũ,ũ,ũ,ũ,ũ]:aj);refine⟨_,S,S,ns,0,S,hz,'b',λo hp=>?_⟩;rfl';refine⟨⟨_,_,S⟩,_,S,S,_,_,10,0,S,hp,'b','b',λws o1 M Sk P8=>?_⟩;rfl';refine⟨ũ,S,?_⟩;rfl';refine⟨⟨_,_,S⟩,⟨_,_,S⟩,_,S,S,_,_,o1,ws,_,S,P8,'b',M,Sk,λk u N j hks hhl Qk=>?_⟩;rfl';refine⟨λρ=>ρ=LX ns N ws k u ũ ũ ũ ũ ũ ũ ũ ũ ũ ũ ũ ũ,⟨λh=>(by cases h),λ_=>⟨⟨_,_,S⟩,_,S,S,_,k,u,S,j,(),λh=>ff h,λ_=>rfl⟩⟩,?_⟩;rintro ρ rfl;have wr:∀{R:Sm->Y Om->Prop}{c:Y Dk}{a:Ū Addr},c.length<500->R (.v (.str (iP k))) [bS k c]->sO pk [.ob a (bS k c),.v (.str "write")] R λ_ _=>False:=λ{R c a} hl h=>⟨_,k,c,"write",.word "write",S,hl,⟨'a','b'⟩,'b',vV _,j.dk,.inr (.inl ⟨S,j.pl,j.sn,h⟩)⟩;refine⟨⟨_,_,S,S⟩,_,S,S,wr () ?_⟩;rfl';refine⟨S,?_⟩;rfl';let⟨g,es,a1,a2,a3,a4,a5⟩:=Ek j.pl j.sn;refine⟨λρ=>ρ=LY ns N ws k u ũ ũ ũ ũ ũ ũ,⟨_,g,es,k.sn,S,a1,ki j.pl,jP j.pl j.sn,a2,a3,a4,?_⟩,?_⟩
 ·rw[a5];show⟨_,S,HE j.pl,λh=>(by cases h),λ_=>rfl⟩
 rintro ρ rfl;refine⟨ũ,S,?_⟩;rfl';have X4:=ud a1 λf U=>(jP j.pl j.sn f U).1
 have WL:(iP k).length<=100000:=by
  have h1:=kg (s:="\n") (ws:=(bV k.ns k.bs k.rs k.gl k.sn).map aP) (B:=900) λw M=>by let⟨f,U,rfl⟩:=KP.mp M;show (jP j.pl j.sn f U).2
  have e:("\n":Str).length=1:=by decide
  have h2:=ki (sn:=k.sn) j.pl;rw[e,wy]at h1;change (Str.join "\n" ((bV k.ns k.bs k.rs k.gl k.sn).map aP)).length<=_;omega
 refine⟨_,S,_,S,'b',by have:=LD;omega,?_⟩;rw[X4];refine⟨λi ρ=>∃(c:Y Dk)(r:Ū Sm),ρ=LY ns N ws k u (Z (.ob ũ (bS (cG k i) c))) r ũ ũ ũ ũ/\SOk (cG k i)/\(∀t∈c,SOk t)/\c.length=i,⟨[],_,S,?_,λt h=>(by cases h),S⟩,?_,?_⟩
 ·show vU
 ·rintro i d ρ hd ⟨c,r,rfl,T,m,z⟩;let⟨x,rfl,hx⟩:=gN hd;rw[Kv]at hx;let⟨f,VN,rfl⟩:=MB.mp hx;have hi:=aZ VN;have:=ki (sn:=k.sn) j.pl;let⟨I,b0,ea,eh,et⟩:=Fo j VN c;have hn:=T.aft m I;rw[ea]at hn;refine⟨⟨_,_,S⟩,_,S,S,_,cG k i,c,aP f,S,T,(),.inl ⟨_,I,?_⟩⟩;rw[b0,ea,eh,et];show⟨λh=>ff h,λ_=>⟨c++[cG k i],_,S,hn,fJ m T,by rw[Kp,z];rfl⟩⟩
 rintro ρ ⟨c,r,rfl,_,m,z⟩;rw[wy,wy]at z
 have z:c.length<=40:=by have:=ki (sn:=k.sn) j.pl;omega
 rw[wy,wy,B5 j.pl.bl];refine⟨λρ=>ρ=LY ns N ws k u (Z (.ob ũ (bS k c))) r ũ ũ ũ ũ,⟨⟨_,_,S,S⟩,_,S,S,wr () ?_⟩,?_⟩
 ·have e:(!(iP k==iP k))=Ŭ:=by rw[K5];rfl
  show⟨λh=>(by have:=h.symm.trans e;cases this),λ_=>rfl⟩
 rintro ρ rfl;refine⟨⟨_,_,S⟩,_,S,S,_,_,4,_,S,Qk,'b','b',dc 'b',λv o5 v0 v1 Ub=>?_⟩;let⟨v,rfl⟩:=Lq v0;refine⟨⟨(),()⟩,λi ρ=>∃(J:Om)(t:Dk)(c:Y Dk)(r X a_ aA:Ū Sm),ρ=LY ns J ws k u (Z (.ob ũ (bS t c))) r (Z (.v (bw t))) X a_ aA/\Pl (8100+100*i) J/\SOk t/\(∀t∈c,SOk t)/\c.length<=40+i,⟨o5,k,c,_,_,_,_,S,Ub.mono 'b',j,m,()⟩,?_,?_⟩
 ·rintro i d ρ hd ⟨J,t,c,r,X,a_,aA,rfl,ap,C,m,z⟩;let⟨hi,rfl⟩:=iH hd
  have hi:i<5:=by omega
  refine⟨⟨_,_,S⟩,_,S,S,_,_,J,ws,t,[],_,S,ap,(),C,M,Sk,λy w o7 I WQ=>⟨S,?_⟩⟩;rfl';refine⟨λh=>?_,λh=>?_⟩
  ·have hy:y≠"back":=λe=>by rw[e]at h;show ff h
   have hok:fh t w:=I.ok.resolve_right λe=>hy (by have:=I.say;rw[e]at this;show uB this);let⟨e1,e2⟩:=kh c hok;let⟨g1,g3⟩:=qh (w:=w) C m;refine⟨λρ=>ρ=LY ns o7 ws k u (Z (.ob ũ (bS (cN t c w) (cF t c w)))) (Z (.v (.str y))) (Z (.v (bw t))) (Z (.v (.int (0+(i:Int))))) (Z (.v (.int (bB t [] w)))) (Z (.v (bw (cN t [] w)))),?_,?_⟩
   ·refine⟨⟨_,_,S⟩,_,S,S,_,t,c,y,S,C,(),.inl ⟨w,I,?_⟩⟩
    have ne:(!(bB t c w==bB t [] w))=Ŭ:=by rw[e1,K5];rfl
    show⟨_,S,λh=>(by have:=h.symm.trans ne;cases this),λ_=>rfl⟩
   rintro ρ rfl;show⟨o7,cN t c w,cF t c w,_,_,_,_,(by rw[e2];rfl),WQ.mono (),C.aft m I,g1,()⟩
  ·show⟨o7,t,c,_,_,_,_,S,WQ.mono (),C,m,()⟩
 rintro ρ ⟨J,t,c,r,X,a_,aA,rfl,ap,C,m,z⟩;rw[gA]at ap z;show⟨⟨_,_,S⟩,_,S,S,_,t,c,S,C,(),λ_=>⟨⟨_,_,S⟩,_,S,S,_,k,u,S,j,(),q⟩,λh=>(by cases h)⟩
end
theorem all_mk{l:PySem.W.OpenLaw}{w:Å}{K:PySem.W.Frag}{h:Heap}{mg:Str->Ū Value}{fa:Addr}{f:Addr}{g:Addr}(X:K.In h)(G:h.Ns Á mg)(hfa:mg "law"=Z (.ref fa))

  (Qa:PySem.W.nsIn K Á "Reading"=Z (Z (.ref f)))
  (QZ:PySem.W.nsIn K Á "Desk"=Z (Z (.ref g)))
  (a1:Has K kM "turned")
  (a2:Has K lD "is_name")
  (a3:Has K lJ "number_form")
  (a4:Has K n5 "sum_form")
  (a5:Has K mS "unknown_form")
  (a6:Has K nQ "row_form")
  (a7:Has K oh "worth_form")
  (a8:Has K mO "line_form")
  (a9:Has K pT "sum_entries")
  (a10:Has K mm "turned_numbers")
  (a11:Has K mV "read_plan")
  (a12:Has K nV "written_unknown")
  (a13:Has K md "written_sum")
  (a14:Has K oW "written_row")
  (a15:Has K oY "written_worth")
  (a16:Has K j5 "write_plan")
  (a17:Has K mv "with_unknown")
  (a18:Has K pX "with_row")
  (a19:Has K nJ "with_worth")
  (a20:Has K oV "without_row")
  (a21:Has K p9 "changed")
  (a22:Has K lB "numbers_form")
  (a23:Has K oP "say_form")
  (a24:Has K pF "_law_pool")
  (a25:Has K oz "_law_next")
  (a26:Has K mj "_law_same")
  (a27:Has K nX "_law_names")
  (a28:Has K n6 "_law_number")
  (a29:Has K kP "_law_sum")
  (a30:Has K ky "_law_unknown")
  (a31:Has K lj "_law_rowed")
  (a32:Has K mf "_law_sought")
  (a33:Has K pI "_law_taken")
  (a34:Has K nq "_law_change")
  (a35:Has K mX "_law_terms")
  (a36:Has K nZ "_law_text")
  (a37:Has K oM "_law_said")
  (a38:Has K px "_law_standing")
  (a39:Has K oX "_law_changed")
  (a40:Has K nU "_law_begun")
  (a41:Has K oR "law")
  (Ya:HasM K nY f "__init__" "Reading.__init__")
  (Yb:HasM K og f "read_line" "Reading.read_line")
  (Yc:HasM K mL f "read_unknown" "Reading.read_unknown")
  (Yd:HasM K pG f "read_row" "Reading.read_row")
  (Ye:HasM K oZ g "__init__" "Desk.__init__")
  (Yf:HasM K oC g "say" "Desk.say")
  (Yg:HasM K oB g "step_on" "Desk.step_on")
  (Yh:HasM K nj g "step_back" "Desk.step_back")
  (Sw:PySem.W.plainGet K f Str.empty=ū) (Sx:PySem.W.hasDictIn K f=ū) (Sy:PySem.W.plainOver K f=ū) (Sz:PySem.W.findIn K (.ref f) "__setattr__"=Z (Z (.builtin "object.__setattr__"))) (SA:PySem.W.makesIn K f=ū) (SF:PySem.W.keepIn K (.ref f)=ū)
  (QT:PySem.W.findIn K (.ref f) "names"=Z ũ)
  (QH:PySem.W.findIn K (.ref f) "bounds"=Z ũ)
  (Ri:PySem.W.findIn K (.ref f) "rows"=Z ũ)
  (QU:PySem.W.findIn K (.ref f) "worth"=Z ũ)
  (Ud:PySem.W.plainGet K g Str.empty=ū) (Ue:PySem.W.hasDictIn K g=ū) (Ug:PySem.W.plainOver K g=ū) (Uh:PySem.W.findIn K (.ref g) "__setattr__"=Z (Z (.builtin "object.__setattr__"))) (Ui:PySem.W.makesIn K g=ū) (Uj:PySem.W.keepIn K (.ref g)=ū)
  (RV:PySem.W.findIn K (.ref g) "state"=Z ũ)
  (RA:PySem.W.findIn K (.ref g) "states"=Z ũ)
  (Uk:PySem.W.nsIn K Á "tuple"=Z ũ)
  (VT:PySem.W.nsIn K Á "all"=Z ũ)
  {QV:ú} (Rj:PySem.W.nsIn K Á "MOST_LETTERS"=Z (Z (.int 12 QV)))
  (VU:PySem.W.nsIn K Á "len"=Z ũ)
  {SG:ú} (Ta:PySem.W.nsIn K Á "LETTERS"=Z (Z (.str "abcdefghijklmnopqrstuvwxyz" SG)))
  (VW:PySem.W.nsIn K Á "int"=Z ũ)
  {QW:ú} (Rk:PySem.W.nsIn K Á "MOST_FIGURES"=Z (Z (.int 4 QW)))
  {SH:ú} (Tb:PySem.W.nsIn K Á "FIGURES"=Z (Z (.str "0123456789" SH)))
  (Ul:PySem.W.nsIn K Á "range"=Z ũ)
  (Sa:PySem.W.nsIn K Á "enumerate"=Z ũ)
  (VX:PySem.W.nsIn K Á "zip"=Z ũ)
  {QI:ú} (QX:PySem.W.nsIn K Á "MOST_UNKNOWNS"=Z (Z (.int 8 QI)))
  {RW:ú} (Sb:PySem.W.nsIn K Á "MOST_ROWS"=Z (Z (.int 12 RW)))
  (RX:PySem.W.nsIn K Á "isinstance"=Z ũ)
  (VY:PySem.W.nsIn K Á "str"=Z ũ)
  (y_bool:PySem.W.nsIn K Á "bool"=Z ũ)
  (UZ:PySem.W.nsIn K Á "list"=Z ũ)
  (o:jc K jq p7=ū)
  {Se QB:Addr} {Tc Td:Ū Addr} {Te Tf Tg RE Th:Value} {Ti:Array (Ū Value)} (Sf:PySem.W.nsIn K Á "Twice"=Z (Z (.ref Se))) (Sg:PySem.W.findIn K (.ref Se) "__init__"=Z (Z (.ref QB))) (Rl:K.lookup QB=Z ⟨.type "function",Tc,.func (PySem.W.fnOf "__init__" "Twice.__init__" (fu k7) (dR k7) (aF k7) .none Te Tf Tg Td RE Th),Ti⟩) (Rm:PySem.W.codeIn K RE "Twice.__init__"=ū) (Rn:PySem.W.keepIn K (.ref QB)=ū) (Ro:initOf K "Twice"=Z (Z (.ref QB)))
  {QP P1:Addr} {RY RZ:Ū Addr} {R0 R1 R3 QC R4:Value} {R5:Array (Ū Value)} (QQ:PySem.W.nsIn K Á "TooGreat"=Z (Z (.ref QP))) (QR:PySem.W.findIn K (.ref QP) "__init__"=Z (Z (.ref P1))) (Qe:K.lookup P1=Z ⟨.type "function",RY,.func (PySem.W.fnOf "__init__" "TooGreat.__init__" (fu ly) (dR ly) (aF ly) .none R0 R1 R3 RZ QC R4),R5⟩) (Qf:PySem.W.codeIn K QC "TooGreat.__init__"=ū) (Qg:PySem.W.keepIn K (.ref P1)=ū) (Qh:initOf K "TooGreat"=Z (Z (.ref P1)))
  (Rq:initOf K "NoRow"=Z ũ)
  {RF Ql:Addr} {SJ SK:Ū Addr} {SN SO SQ Rr SR:Value} {SS:Array (Ū Value)} (RG:PySem.W.nsIn K Á "NoText"=Z (Z (.ref RF))) (RH:PySem.W.findIn K (.ref RF) "__init__"=Z (Z (.ref Ql))) (QJ:K.lookup Ql=Z ⟨.type "function",SJ,.func (PySem.W.fnOf "__init__" "NoText.__init__" (fu lV) (dR lV) (aF lV) .none SN SO SQ SK Rr SR),SS⟩) (QK:PySem.W.codeIn K Rr "NoText.__init__"=ū) (QL:PySem.W.keepIn K (.ref Ql)=ū) (QM:initOf K "NoText"=Z (Z (.ref Ql)))
  (Qi:initOf K "NoChange"=Z ũ) :
  ∃fd:Ë,(∀(s:À)(v:Value),ċ s fd ⟨[v],[]⟩ [("_law_script",v)])/\∀base:Heap,K.In base->base.Ns Á mg->FnOk l.prog w K mg base bh 10 fa fd ["_law_script"] (sp_law K):=by
 let⟨f1,d1,F1,m1,_⟩:=a1.fn X G;let⟨f2,d2,F2,m2,_⟩:=a2.fn X G;let⟨f3,d3,F3,m3,_⟩:=a3.fn X G;let⟨f4,d4,F4,m4,_⟩:=a4.fn X G;let⟨f5,d5,F5,m5,_⟩:=a5.fn X G;let⟨f6,d6,F6,m6,_⟩:=a6.fn X G;let⟨f7,d7,F7,m7,_⟩:=a7.fn X G;let⟨f8,d8,F8,m8,_⟩:=a8.fn X G;let⟨f9,d9,F9,m9,_⟩:=a9.fn X G;let⟨f10,d10,E,m10,_⟩:=a10.fn X G;let⟨f11,d11,F,m11,_⟩:=a11.fn X G;let⟨f12,d12,H,m12,_⟩:=a12.fn X G;let⟨f13,d13,I,m13,_⟩:=a13.fn X G;let⟨f14,d14,J,m14,_⟩:=a14.fn X G;let⟨f15,d15,M,m15,_⟩:=a15.fn X G;let⟨f16,d16,N,m16,_⟩:=a16.fn X G;let⟨f17,d17,O,m17,_⟩:=a17.fn X G;let⟨f18,d18,Q,m18,_⟩:=a18.fn X G;let⟨f19,d19,R,m19,_⟩:=a19.fn X G;let⟨f20,d20,ap,m20,_⟩:=a20.fn X G;let⟨f21,d21,T,m21,_⟩:=a21.fn X G;let⟨f22,d22,U,m22,_⟩:=a22.fn X G;let⟨f23,d23,a_,m23,_⟩:=a23.fn X G;let⟨f24,d24,aA,m24,_⟩:=a24.fn X G;let⟨f25,d25,F25,m25,_⟩:=a25.fn X G;let⟨f26,d26,j,y,_⟩:=a26.fn X G;let⟨f27,d27,F27,m27,_⟩:=a27.fn X G;let⟨f28,d28,F28,m28,_⟩:=a28.fn X G;let⟨f29,d29,F29,m29,_⟩:=a29.fn X G;let⟨f30,d30,F30,m30,_⟩:=a30.fn X G;let⟨f31,d31,F31,m31,_⟩:=a31.fn X G;let⟨f32,d32,F32,m32,_⟩:=a32.fn X G;let⟨f33,d33,F33,m33,_⟩:=a33.fn X G;let⟨f34,d34,F34,m34,_⟩:=a34.fn X G;let⟨f35,d35,F35,m35,_⟩:=a35.fn X G;let⟨f36,d36,F36,m36,_⟩:=a36.fn X G;let⟨f37,d37,F37,m37,_⟩:=a37.fn X G;let⟨f38,d38,F38,m38,_⟩:=a38.fn X G;let⟨f39,d39,F39,m39,_⟩:=a39.fn X G;let⟨f40,d40,F40,m40,_⟩:=a40.fn X G;let⟨f41,d41,F41,m41,_,_,_,e⟩:=a41.fn X G;let⟨f42,d42,Ya,i42,k42,F42⟩:=Ya;have b42:=F42.bd (ps:=["self"]);let⟨f43,d43,Yb,i43,k43,F43⟩:=Yb;have b43:=F43.bd (ps:=["self","line","at"]);let⟨f44,d44,Yc,i44,k44,F44⟩:=Yc;have b44:=F44.bd (ps:=["self","form","at"]);let⟨f45,d45,Yd,i45,k45,F45⟩:=Yd;have b45:=F45.bd (ps:=["self","form","at"]);let⟨f46,d46,Ye,i46,k46,F46⟩:=Ye;have b46:=F46.bd (ps:=["self"]);let⟨f47,d47,Yf,i47,k47,F47⟩:=Yf;have b47:=F47.bd (ps:=["self","line"]);let⟨f48,d48,Yg,i48,k48,F48⟩:=Yg;have b48:=F48.bd (ps:=["self","state"]);let⟨f49,d49,Yh,i49,k49,F49⟩:=Yh;have b49:=F49.bd (ps:=["self"]);cases hfa.symm.trans m41;refine⟨d41,λs v=>by rw[e];show .of_eq S,λbase _ _=>?_⟩;have c:=LP X G Uk;have kr:=LP X G VT;have PN:∃r,mg "MOST_LETTERS"=Z (.int 12 r):=⟨_,MK X G Rj⟩;have a:=LP X G VU;have QF:∃r,mg "LETTERS"=Z (.str "abcdefghijklmnopqrstuvwxyz" r):=⟨_,MK X G Ta⟩;have x:=LP X G VW;have PR:∃r,mg "MOST_FIGURES"=Z (.int 4 r):=⟨_,MK X G Rk⟩;have QG:∃r,mg "FIGURES"=Z (.str "0123456789" r):=⟨_,MK X G Tb⟩;have B:=LP X G Ul;have t6:=LP X G Sa;have t:=LP X G VX;have Pk:∃r,mg "MOST_UNKNOWNS"=Z (.int 8 r):=⟨_,MK X G QX⟩;have Pu:∃r,mg "MOST_ROWS"=Z (.int 12 r):=⟨_,MK X G Sb⟩;have z:=LP X G RX;have p:=LP X G VY;have C:=LP X G y_bool;have tY:=LP X G UZ;have O6:TxtReading K mg f:=⟨⟨Sw,Sx,Sy,Sz⟩,QT,QH,Ri,QU,MK X G Qa,Qa⟩;have A:TxtDesk K mg g:=⟨⟨Ud,Ue,Ug,Uh⟩,RV,RA,MK X G QZ,QZ⟩;have Ex:=GR X G o;have Is:=AU X G o;have Rf:=jN X G o (nm:="NoName") 'a';have RP:=jN X G o (nm:="Twice") 'a';have Qw:=jN X G o (nm:="TooGreat") 'a';have Rg:=jN X G o (nm:="NoText") 'a';have RQ:=jN X G o (nm:="NoRow") 'a';have Qx:=jN X G o (nm:="NoChange") 'a';have RM:Rz1 l.prog w K mg base "Twice":=so X G o 'a' Ro Rl S Rm Rn IK S Yk Yk (λ_=>rfl) (λ_ _ _ _ _ _=>jy λ_ _=>rfl);have Pz:Rz1 l.prog w K mg base "TooGreat":=so X G o 'a' Qh Qe S Qf Qg HL S Yk Yk (λ_=>rfl) (λ_ _ _ _ _ _=>jy λ_ _=>rfl);have RN:Rz0 K mg "NoRow":=vE X G o 'a' Rq;have Rc:Rz1 l.prog w K mg base "NoText":=so X G o 'a' QM QJ S QK QL EY S Yk Yk (λ_=>rfl) (λ_ _ _ _ _ _=>jy λ_ _=>rfl);have Qu:Rz0 K mg "NoChange":=vE X G o 'a' Qi;have H1:=Do (P:=l.prog) (w:=w) (mg:=mg) (base:=base) (n:=0) F1 c;have Q1:=F1.cl m1 (H1.imp cn);have H2:=AX (P:=l.prog) (w:=w) (mg:=mg) (base:=base) (n:=0) F2 kr PN a QF;have Q2:=F2.cl m2 (H2.imp cn);have H3:=DL (P:=l.prog) (w:=w) (mg:=mg) (base:=base) (n:=0) F3 x PR kr a QG;have Q3:=F3.cl m3 (H3.imp cn);have H4:=BH (n:=1) F4 Q3.mono Q2.mono B c a;have Q4:=F4.cl m4 (H4.imp cn);have H5:=BD (n:=1) F5 Q3.mono Q2.mono a;have Q5:=F5.cl m5 (H5.imp cn);have H6:=DX (n:=2) F6 Q4.mono Q3.mono a;have Q6:=F6.cl m6 (H6.imp cn);have H7:=Fc (n:=2) F7 Q4.mono;have Q7:=F7.cl m7 (H7.imp cn);have H8:=Hs (n:=3) F8 Q5.mono Q6.mono Q7.mono;have Q8:=F8.cl m8 (H8.imp cn);have H9:=Ic (P:=l.prog) (w:=w) (mg:=mg) (base:=base) (n:=0) F9 c a;have Q9:=F9.cl m9 (H9.imp cn);have Xf:=AD (P:=l.prog) (w:=w) (mg:=mg) (base:=base) (n:=0) E c;have Yi:=E.cl m10 (Xf.imp cn);have H12:=FB (P:=l.prog) (w:=w) (mg:=mg) (base:=base) (n:=0) H;have Q12:=H.cl m12 (H12.imp cn);have H13:=zD (P:=l.prog) (w:=w) (mg:=mg) (base:=base) (n:=0) I a t;have Q13:=I.cl m13 (H13.imp cn);have H14:=CS (n:=1) J Q13.mono;have Q14:=J.cl m14 (H14.imp cn);have H15:=G0 (n:=1) M Q13.mono Yi.mono;have Q15:=M.cl m15 (H15.imp cn);have H16:=I0 (n:=2) N Q12.mono Q15.mono Q14.mono t;have Q16:=N.cl m16 (H16.imp cn);have H17:=A3 (P:=l.prog) (w:=w) (mg:=mg) (base:=base) (n:=0) O Pk c a RM Pz;have R17:=O.clMX m17 H17;have H18:=GP (P:=l.prog) (w:=w) (mg:=mg) (base:=base) (n:=0) Q Q9.mono Q1.mono Pu a Pz;have R18:=Q.clMX m18 H18;have H19:=zW (n:=1) R Q9.mono Yi.mono;have Q19:=R.cl m19 (H19.imp cn);have H20:=Ck (P:=l.prog) (w:=w) (mg:=mg) (base:=base) (n:=0) ap a RN;have R20:=ap.clMX m20 H20;have H21:=Hz (P:=l.prog) (w:=w) (mg:=mg) (base:=base) (n:=3) T R20.mono R17.mono R18.mono Q19.mono;have R21:=T.clMX m21 H21;have H22:=Ea (n:=1) U Q3.mono c;have Q22:=U.cl m22 (H22.imp cn);have H23:=Fi (n:=4) a_ Q22.mono Q8.mono a;have Q23:=a_.cl m23 (H23.imp cn);have H24:=Fg (P:=l.prog) (w:=w) (mg:=mg) (base:=base) (n:=0) aA a;have R24:=aA.clM m24 H24;have H25:=HY (P:=l.prog) (w:=w) (mg:=mg) (base:=base) (n:=0) F25 a;have u:=F25.clM m25 H25;have VZ:=Ep (P:=l.prog) (w:=w) (mg:=mg) (base:=base) (n:=0) j;have V0:=j.cl y (VZ.imp cn);have V5:=jH (m:=0) (n:=1) j V0 z c p t x C a;have V6:=j.cl y (V5.imp cn);have V7:=jH (m:=1) (n:=2) j V6 z c p t x C a;have V8:=j.cl y (V7.imp cn);have V9:=jH (m:=2) (n:=3) j V8 z c p t x C a;have Wa:=j.cl y (V9.imp cn);have Wb:=jH (m:=3) (n:=4) j Wa z c p t x C a;have Wc:=j.cl y (Wb.imp cn);have Wd:=jH (m:=4) (n:=5) j Wc z c p t x C a;have We:=j.cl y (Wd.imp cn);have H26:=jH (m:=5) (n:=6) j We z c p t x C a;have Q26:=j.cl y (H26.imp cn);have H27:=HK (n:=1) F27 u.mono B;have R27:=F27.clM m27 H27;have H28:=JA (n:=1) F28 u.mono;have Yj:=F28.clM m28 H28;have H29:=EM (n:=2) F29 u.mono Yj.mono tY B a c p;have R29:=F29.clM m29 H29;have H30:=EC (n:=2) F30 Yj.mono u.mono c p a;have R30:=F30.clM m30 H30;have H31:=zE (n:=3) F31 R29.mono Yj.mono p a c;have R31:=F31.clM m31 H31;have H32:=IX (n:=3) F32 u.mono R29.mono c;have R32:=F32.clM m32 H32;have H33:=D5 (n:=1) F33 u.mono p a;have R33:=F33.clM m33 H33;have H34:=Jh (n:=4) F34 u.mono R30.mono R31.mono R32.mono R33.mono a;have R34:=F34.clM m34 H34;have H35:=Dl (P:=l.prog) (w:=w) (mg:=mg) (base:=base) (n:=0) F35 t a p;have Q35:=F35.cl m35 (H35.imp cn);have H36:=Ho (n:=1) F36 Q35.mono t p x;have Q36:=F36.cl m36 (H36.imp cn);have H42:=Gq (P:=l.prog) (w:=w) (mg:=mg) (base:=base) (n:=0) F42 O6;have R42:=MkM.mk ⟨_,_,H42,b42,⟨SA,Ya,i42,SF⟩⟩;have H44:=GS (P:=l.prog) (w:=w) (mg:=mg) (base:=base) (n:=0) F44 O6 Pk a;have R44:=MthM.mk ⟨_,_,H44,b44,⟨Yc,i44,k44⟩⟩;have H45:=Cc (n:=1) F45 O6 Q9.mono Q1.mono Pu a;have R45:=MthM.mk ⟨_,_,H45,b45,⟨Yd,i45,k45⟩⟩;have H43:=C2 (n:=4) F43 O6 Q8.mono Q9.mono R44.mono R45.mono;have R43:=MthM.mk ⟨_,_,H43,b43,⟨Yb,i43,k43⟩⟩;have H11:=HW (n:=4) F O6 Yi.mono R42.mono R43.mono t6 c a;have Q11:=F.cl m11 (H11.imp cn);have H46:=FR (P:=l.prog) (w:=w) (mg:=mg) (base:=base) (n:=0) F46 A;have R46:=MkM.mk ⟨_,_,H46,b46,⟨Ui,Ye,i46,Uj⟩⟩;have H48:=Gv (P:=l.prog) (w:=w) (mg:=mg) (base:=base) (n:=0) F48 A;have R48:=MthM.mk ⟨_,_,H48,b48,⟨Yg,i48,k48⟩⟩;have H49:=AK (P:=l.prog) (w:=w) (mg:=mg) (base:=base) (n:=0) F49 A a Qu;have R49:=MthMX.mk ⟨_,_,H49,b49,⟨Yh,i49,k49⟩⟩;have H47:=Ib (P:=l.prog) (w:=w) (mg:=mg) (base:=base) (n:=3) F47 A Q23.mono Q16.mono R21.mono R49.mono R48.mono a Rc;have R47:=MthMX.mk ⟨_,_,H47,b47,⟨Yf,i47,k47⟩⟩;have H37:=Cr (P:=l.prog) (w:=w) (mg:=mg) (base:=base) (n:=6) F37 A R47.mono Ex Is Qw RP Rf Rg RQ Qx;have WR:=F37.clM m37 H37;have H38:=Gg (n:=7) F38 WR.mono Q36.mono z p;have R38:=F38.clM m38 H38;have H39:=Aa (n:=7) F39 R34.mono WR.mono B;have R39:=F39.clM m39 H39;have H40:=IP (n:=8) F40 u.mono R39.mono R30.mono R31.mono WR.mono B x;have R40:=F40.clM m40 H40;have H41:=y8 (n:=8) F41 A R24.mono R27.mono R40.mono Q26.mono R34.mono R38.mono Q11.mono WR.mono u.mono R46.mono R47.mono B;show (H41.imp cn).imp zN
theorem walk{l:PySem.W.OpenLaw}{q:Ä}{c:Y Str}{r:(Str->Ū Value)->Heap->Prop}{g:Å->Heap->Prop}{d:DefRec}{K:Į->PySem.W.Frag}(C:l.most=Z 63)(p:d.params.defaults=[])(e:PyProof.Rows.importsNone q=ū)
  (A:∀(w:Å)(h:Heap),g w h->(K w.params).In h) (v:∀w:Å,uw (K w.params)=[])
  (F:∀(w:Å)(mg:Str->Ū Value)(j:Addr)(h:Heap),(K w.params).In h->h.Ns Á mg->mg d.name=Z (.ref j)->
   ∃m:Ë,(∀(s:À)(u:Value),ċ s m ⟨[u],[]⟩ [("_law_script",u)])/\∀base:Heap,(K w.params).In base->base.Ns Á mg->FnOk l.prog w (K w.params) mg base bh 10 j m ["_law_script"] (sp_law (K w.params))) :
  PySem.W.WalkO q c r g l.row.toRowW d [] (λf vs=>PySem.call f vs):=
 L2.walk_of (n:=63) (k:=10) (x:="_law_script") (CX:=λ_=>bh) (sp:=λw=>sp_law (K w.params)) C 'b' p e ⟨S,'b','b'⟩ A F (λw H a ns B _ y=>⟨a,ns,S,y,B,(λt o=>by rw[v w]at o;cases o),λ_=>rfl⟩) λ_ _ _ _ _ z=>z
end Kx
namespace Kx
open PySem PySem.W L2
noncomputable def KK:Params->Frag:=λP=>
 (nat_lit 2,⟨.none,ũ,(.dict #[] 0),#[]⟩) ::
 (nat_lit 3,⟨(.type "dict"),ũ,(.dict #[dE P "__name__" 165 ((.str "law_cutyard_k75_written_and_told_again" 1694)),dE P "__doc__" 166 (.none),dE P "__package__" 167 (.none),dE P "__loader__" 168 ((.builtin "__main__.__loader__#opaque")),dE P "__spec__" 169 (.none),dE P "__annotations__" 170 ((.ref 6)),dE P "__builtins__" 171 ((.ref 4)),dE P "__file__" 173 ((.str "/claim/cut.py" 172)),dE P "__cached__" 174 (.none),dE P "YardError" 206 ((.ref 24)),dE P "NoNumber" 222 ((.ref 37)),dE P "NoName" 247 ((.ref 56)),dE P "Twice" 272 ((.ref 75)),dE P "TooGreat" 297 ((.ref 94)),dE P "NoText" 322 ((.ref 113)),dE P "NoRow" 338 ((.ref 125)),dE P "NoChange" 354 ((.ref 137)),dE P "common_of_two" 367 ((.ref 146)),dE P "common" 376 ((.ref 153)),dE P "up" 384 ((.ref 160)),dE P "nearest" 392 ((.ref 167)),dE P "lowest" 398 ((.ref 172)),dE P "unit" 406 ((.ref 177)),dE P "width" 413 ((.ref 184)),dE P "left" 419 ((.ref 189)),dE P "meets" 427 ((.ref 196)),dE P "turned" 433 ((.ref 201)),dE P "evened" 439 ((.ref 206)),dE P "Stand" 476 ((.ref 223)),dE P "beginning" 482 ((.ref 232)),dE P "growths" 488 ((.ref 237)),dE P "over" 496 ((.ref 244)),dE P "missed_row" 506 ((.ref 251)),dE P "least_grown" 512 ((.ref 256)),dE P "stopping_row" 528 ((.ref 263)),dE P "moved" 534 ((.ref 268)),dE P "exchanged" 540 ((.ref 273)),dE P "fallen" 546 ((.ref 278)),dE P "in_lowest" 552 ((.ref 283)),dE P "none_ending" 562 ((.ref 290)),dE P "best_ending" 571 ((.ref 297)),dE P "endless_ending" 577 ((.ref 302)),dE P "next_step" 591 ((.ref 309)),dE P "walk_on" 603 ((.ref 316)),dE P "walk" 611 ((.ref 323)),dE P "first" 619 ((.ref 330)),dE P "MOST_UNKNOWNS" 623 ((.int 8 622)),dE P "MOST_ROWS" 625 ((.int 12 624)),dE P "givens" 631 ((.ref 335)),dE P "worth" 639 ((.ref 342)),dE P "less" 647 ((.ref 347)),dE P "Basis" 727 ((.ref 397)),dE P "plain_basis" 733 ((.ref 406)),dE P "greatest_first" 741 ((.ref 411)),dE P "gather" 747 ((.ref 416)),dE P "levels" 759 ((.ref 423)),dE P "Lengths" 853 ((.ref 480)),dE P "lean_off" 864 ((.ref 491)),dE P "shorten" 875 ((.ref 498)),dE P "Side" 910 ((.ref 515)),dE P "walk_side" 918 ((.ref 526)),dE P "side_with" 924 ((.ref 531)),dE P "Choice" 958 ((.ref 548)),dE P "shut_lines" 966 ((.ref 559)),dE P "broken_form" 975 ((.ref 566)),dE P "near_choice" 981 ((.ref 571)),dE P "PARTS" 985 ((.int 1048576 984)),dE P "MOST_FITTINGS" 987 ((.int 6 986)),dE P "parts_between" 997 ((.ref 578)),dE P "reaches" 1003 ((.ref 583)),dE P "Shape" 1103 ((.ref 650)),dE P "fitted_shape" 1112 ((.ref 661)),dE P "summed" 1120 ((.ref 666)),dE P "divided" 1126 ((.ref 671)),dE P "ask_still" 1132 ((.ref 676)),dE P "inner" 1146 ((.ref 683)),dE P "FEW_CHOICES" 1150 ((.int 40 1149)),dE P "MOST_SHAPES" 1152 ((.int 100 1151)),dE P "tied_basis" 1158 ((.ref 688)),dE P "corner_spot" 1164 ((.ref 693)),dE P "search_by_forms" 1181 ((.ref 700)),dE P "search" 1187 ((.ref 705)),dE P "along_ray" 1193 ((.ref 710)),dE P "found" 1199 ((.ref 715)),dE P "raised_stand" 1207 ((.ref 720)),dE P "raised_side" 1219 ((.ref 727)),dE P "Climb" 1308 ((.ref 780)),dE P "settled" 1323 ((.ref 791)),dE P "LETTERS" 1327 ((.str "abcdefghijklmnopqrstuvwxyz" 1326)),dE P "FIGURES" 1329 ((.str "0123456789" 1328)),dE P "MOST_LETTERS" 1331 ((.int 12 1330)),dE P "MOST_FIGURES" 1333 ((.int 4 1332)),dE P "is_name" 1339 ((.ref 796)),dE P "number_form" 1345 ((.ref 801)),dE P "sum_form" 1356 ((.ref 808)),dE P "unknown_form" 1365 ((.ref 815)),dE P "row_form" 1374 ((.ref 822)),dE P "worth_form" 1382 ((.ref 829)),dE P "line_form" 1390 ((.ref 836)),dE P "sum_entries" 1403 ((.ref 843)),dE P "turned_numbers" 1409 ((.ref 848)),dE P "Reading" 1470 ((.ref 886)),dE P "read_plan" 1484 ((.ref 897)),dE P "written_unknown" 1494 ((.ref 904)),dE P "written_sum" 1500 ((.ref 909)),dE P "written_row" 1510 ((.ref 916)),dE P "written_worth" 1520 ((.ref 923)),dE P "write_plan" 1526 ((.ref 928)),dE P "with_unknown" 1534 ((.ref 933)),dE P "with_row" 1547 ((.ref 940)),dE P "with_worth" 1558 ((.ref 947)),dE P "without_row" 1567 ((.ref 954)),dE P "changed" 1575 ((.ref 961)),dE P "named" 1586 ((.ref 968)),dE P "asked" 1596 ((.ref 975)),dE P "tried" 1611 ((.ref 982)),dE P "in_fractions" 1624 ((.ref 989)),dE P "numbers_form" 1630 ((.ref 994)),dE P "say_form" 1640 ((.ref 1001)),dE P "Desk" 1693 ((.ref 1039)),dE P "_law_pool" 1704 ((.ref 1050)),dE P "_law_next" 1715 ((.ref 1057)),dE P "_law_same" 1725 ((.ref 1064)),dE P "_law_names" 1740 ((.ref 1071)),dE P "_law_number" 1748 ((.ref 1078)),dE P "_law_sum" 1754 ((.ref 1083)),dE P "_law_unknown" 1760 ((.ref 1088)),dE P "_law_rowed" 1766 ((.ref 1093)),dE P "_law_sought" 1772 ((.ref 1098)),dE P "_law_taken" 1787 ((.ref 1105)),dE P "_law_change" 1798 ((.ref 1112)),dE P "_law_terms" 1810 ((.ref 1119)),dE P "_law_text" 1827 ((.ref 1126)),dE P "_law_said" 1839 ((.ref 1133)),dE P "_law_standing" 1849 ((.ref 1140)),dE P "_law_changed" 1865 ((.ref 1147)),dE P "_law_begun" 1882 ((.ref 1154)),dE P "law" 1905 ((.ref 1161))] 138),#[]⟩) ::
 (nat_lit 15,⟨(.type "tuple"),ũ,(.seq #[(.type "ValueError")] 0),#[]⟩) ::
 (nat_lit 22,⟨(.type "tuple"),ũ,(.seq #[] 0),#[]⟩) ::
 (nat_lit 23,⟨(.type "dict"),ũ,(.dict #[dE P "__module__" 196 ((.str "cutyard.errors" 187)),dE P "__firstlineno__" 200 ((.int 2 199)),dE P "__static_attributes__" 201 ((.ref 22)),dE P "__weakref__" 203 ((.ref 25)),dE P "__doc__" 204 (.none)] 3),#[]⟩) ::
 (nat_lit 24,⟨(.type "type"),ũ,(.cls ⟨"YardError",[(.type "ValueError")],[(.ref 24),(.type "ValueError"),(.type "Exception"),(.type "BaseException"),(.type "object")],23,"YardError",ū,[],[(.ref 37),(.ref 56),(.ref 75),(.ref 94),(.ref 113),(.ref 125),(.ref 137)],Ŭ,ũ,Ŭ⟩),#[(Z (.ref 15)),ũ,(Z (.str "YardError" 189)),(Z (.str "YardError" 197)),(Z (.builtin "ValueError.__new__")),(Z (.bool ū))]⟩) ::
 (nat_lit 25,⟨(.type "getset_descriptor"),ũ,(.fields #[(.str "__weakref__" 202),(.ref 24),(.builtin "ExceptionGroup.__weakref__"),.none]),#[]⟩) ::
 (nat_lit 28,⟨(.type "tuple"),ũ,(.seq #[(.ref 24)] 0),#[]⟩) ::
 (nat_lit 35,⟨(.type "tuple"),ũ,(.seq #[] 0),#[]⟩) ::
 (nat_lit 36,⟨(.type "dict"),ũ,(.dict #[dE P "__module__" 214 ((.str "cutyard.errors" 187)),dE P "__firstlineno__" 218 ((.int 4 217)),dE P "__static_attributes__" 219 ((.ref 35)),dE P "__doc__" 220 (.none)] 2),#[]⟩) ::
 (nat_lit 37,⟨(.type "type"),ũ,(.cls ⟨"NoNumber",[(.ref 24)],[(.ref 37),(.ref 24),(.type "ValueError"),(.type "Exception"),(.type "BaseException"),(.type "object")],36,"NoNumber",ū,[],[],Ŭ,ũ,Ŭ⟩),#[(Z (.ref 28)),ũ,(Z (.str "NoNumber" 207)),(Z (.str "NoNumber" 215)),(Z (.builtin "ValueError.__new__")),(Z (.bool ū))]⟩) ::
 (nat_lit 40,⟨(.type "tuple"),ũ,(.seq #[(.ref 24)] 0),#[]⟩) ::
(nat_lit 52,cO "__init__" 235 "NoName.__init__" 236 237 8 2 3 47 181 48 (.ref 49) (.ref 50) 51 240 241) ::
 (nat_lit 53,fO Bo "__init__" "NoName.__init__" "cutyard.errors" 187 52) ::
 (nat_lit 54,⟨(.type "tuple"),ũ,(.seq #[(.str "at" 243)] 0),#[]⟩) ::
 (nat_lit 55,⟨(.type "dict"),ũ,(.dict #[dE P "__module__" 230 ((.str "cutyard.errors" 187)),dE P "__firstlineno__" 234 ((.int 6 233)),dE P "__init__" 242 ((.ref 53)),dE P "__static_attributes__" 244 ((.ref 54)),dE P "__doc__" 245 (.none)] 2),#[]⟩) ::
 (nat_lit 56,⟨(.type "type"),ũ,(.cls ⟨"NoName",[(.ref 24)],[(.ref 56),(.ref 24),(.type "ValueError"),(.type "Exception"),(.type "BaseException"),(.type "object")],55,"NoName",ū,[],[],Ŭ,ũ,Ŭ⟩),#[(Z (.ref 40)),ũ,(Z (.str "NoName" 223)),(Z (.str "NoName" 231)),(Z (.builtin "ValueError.__new__")),(Z (.bool ū))]⟩) ::
 (nat_lit 59,⟨(.type "tuple"),ũ,(.seq #[(.ref 24)] 0),#[]⟩) ::
(nat_lit 71,cO "__init__" 260 "Twice.__init__" 261 262 12 2 3 66 181 67 (.ref 68) (.ref 69) 70 265 266) ::
 (nat_lit 72,fO k7 "__init__" "Twice.__init__" "cutyard.errors" 187 71) ::
 (nat_lit 73,⟨(.type "tuple"),ũ,(.seq #[(.str "at" 268)] 0),#[]⟩) ::
 (nat_lit 74,⟨(.type "dict"),ũ,(.dict #[dE P "__module__" 255 ((.str "cutyard.errors" 187)),dE P "__firstlineno__" 259 ((.int 10 258)),dE P "__init__" 267 ((.ref 72)),dE P "__static_attributes__" 269 ((.ref 73)),dE P "__doc__" 270 (.none)] 2),#[]⟩) ::
 (nat_lit 75,⟨(.type "type"),ũ,(.cls ⟨"Twice",[(.ref 24)],[(.ref 75),(.ref 24),(.type "ValueError"),(.type "Exception"),(.type "BaseException"),(.type "object")],74,"Twice",ū,[],[],Ŭ,ũ,Ŭ⟩),#[(Z (.ref 59)),ũ,(Z (.str "Twice" 248)),(Z (.str "Twice" 256)),(Z (.builtin "ValueError.__new__")),(Z (.bool ū))]⟩) ::
 (nat_lit 78,⟨(.type "tuple"),ũ,(.seq #[(.ref 24)] 0),#[]⟩) ::
(nat_lit 90,cO "__init__" 285 "TooGreat.__init__" 286 287 16 2 3 85 181 86 (.ref 87) (.ref 88) 89 290 291) ::
 (nat_lit 91,fO ly "__init__" "TooGreat.__init__" "cutyard.errors" 187 90) ::
 (nat_lit 92,⟨(.type "tuple"),ũ,(.seq #[(.str "at" 293)] 0),#[]⟩) ::
 (nat_lit 93,⟨(.type "dict"),ũ,(.dict #[dE P "__module__" 280 ((.str "cutyard.errors" 187)),dE P "__firstlineno__" 284 ((.int 14 283)),dE P "__init__" 292 ((.ref 91)),dE P "__static_attributes__" 294 ((.ref 92)),dE P "__doc__" 295 (.none)] 2),#[]⟩) ::
 (nat_lit 94,⟨(.type "type"),ũ,(.cls ⟨"TooGreat",[(.ref 24)],[(.ref 94),(.ref 24),(.type "ValueError"),(.type "Exception"),(.type "BaseException"),(.type "object")],93,"TooGreat",ū,[],[],Ŭ,ũ,Ŭ⟩),#[(Z (.ref 78)),ũ,(Z (.str "TooGreat" 273)),(Z (.str "TooGreat" 281)),(Z (.builtin "ValueError.__new__")),(Z (.bool ū))]⟩) ::
 (nat_lit 97,⟨(.type "tuple"),ũ,(.seq #[(.ref 24)] 0),#[]⟩) ::
(nat_lit 109,cO "__init__" 310 "NoText.__init__" 311 312 20 2 3 104 181 105 (.ref 106) (.ref 107) 108 315 316) ::
 (nat_lit 110,fO lV "__init__" "NoText.__init__" "cutyard.errors" 187 109) ::
 (nat_lit 111,⟨(.type "tuple"),ũ,(.seq #[(.str "at" 318)] 0),#[]⟩) ::
 (nat_lit 112,⟨(.type "dict"),ũ,(.dict #[dE P "__module__" 305 ((.str "cutyard.errors" 187)),dE P "__firstlineno__" 309 ((.int 18 308)),dE P "__init__" 317 ((.ref 110)),dE P "__static_attributes__" 319 ((.ref 111)),dE P "__doc__" 320 (.none)] 2),#[]⟩) ::
 (nat_lit 113,⟨(.type "type"),ũ,(.cls ⟨"NoText",[(.ref 24)],[(.ref 113),(.ref 24),(.type "ValueError"),(.type "Exception"),(.type "BaseException"),(.type "object")],112,"NoText",ū,[],[],Ŭ,ũ,Ŭ⟩),#[(Z (.ref 97)),ũ,(Z (.str "NoText" 298)),(Z (.str "NoText" 306)),(Z (.builtin "ValueError.__new__")),(Z (.bool ū))]⟩) ::
 (nat_lit 116,⟨(.type "tuple"),ũ,(.seq #[(.ref 24)] 0),#[]⟩) ::
 (nat_lit 123,⟨(.type "tuple"),ũ,(.seq #[] 0),#[]⟩) ::
 (nat_lit 124,⟨(.type "dict"),ũ,(.dict #[dE P "__module__" 330 ((.str "cutyard.errors" 187)),dE P "__firstlineno__" 334 ((.int 22 333)),dE P "__static_attributes__" 335 ((.ref 123)),dE P "__doc__" 336 (.none)] 2),#[]⟩) ::
 (nat_lit 125,⟨(.type "type"),ũ,(.cls ⟨"NoRow",[(.ref 24)],[(.ref 125),(.ref 24),(.type "ValueError"),(.type "Exception"),(.type "BaseException"),(.type "object")],124,"NoRow",ū,[],[],Ŭ,ũ,Ŭ⟩),#[(Z (.ref 116)),ũ,(Z (.str "NoRow" 323)),(Z (.str "NoRow" 331)),(Z (.builtin "ValueError.__new__")),(Z (.bool ū))]⟩) ::
 (nat_lit 128,⟨(.type "tuple"),ũ,(.seq #[(.ref 24)] 0),#[]⟩) ::
 (nat_lit 135,⟨(.type "tuple"),ũ,(.seq #[] 0),#[]⟩) ::
 (nat_lit 136,⟨(.type "dict"),ũ,(.dict #[dE P "__module__" 346 ((.str "cutyard.errors" 187)),dE P "__firstlineno__" 350 ((.int 24 349)),dE P "__static_attributes__" 351 ((.ref 135)),dE P "__doc__" 352 (.none)] 2),#[]⟩) ::
 (nat_lit 137,⟨(.type "type"),ũ,(.cls ⟨"NoChange",[(.ref 24)],[(.ref 137),(.ref 24),(.type "ValueError"),(.type "Exception"),(.type "BaseException"),(.type "object")],136,"NoChange",ū,[],[],Ŭ,ũ,Ŭ⟩),#[(Z (.ref 128)),ũ,(Z (.str "NoChange" 339)),(Z (.str "NoChange" 347)),(Z (.builtin "ValueError.__new__")),(Z (.bool ū))]⟩) ::
(nat_lit 200,cO "turned" 428 "turned" 429 430 62 1 3 197 181 198 .none .none 199 431 432) ::
 (nat_lit 201,fO kM "turned" "turned" "cutyard.rows" 399 200) ::
(nat_lit 795,cO "is_name" 1334 "is_name" 1335 1336 615 1 3 792 181 793 .none .none 794 1337 1338) ::
 (nat_lit 796,fO lD "is_name" "is_name" "cutyard.texts" 1324 795) ::
(nat_lit 800,cO "number_form" 1340 "number_form" 1341 1342 619 1 3 797 181 798 .none .none 799 1343 1344) ::
 (nat_lit 801,fO lJ "number_form" "number_form" "cutyard.texts" 1324 800) ::
(nat_lit 807,cO "sum_form" 1346 "sum_form" 1347 1348 628 1 3 802 181 803 (.ref 804) (.ref 805) 806 1354 1355) ::
 (nat_lit 808,fO n5 "sum_form" "sum_form" "cutyard.texts" 1324 807) ::
(nat_lit 814,cO "unknown_form" 1357 "unknown_form" 1358 1359 643 1 3 809 181 810 (.ref 811) (.ref 812) 813 1363 1364) ::
 (nat_lit 815,fO mS "unknown_form" "unknown_form" "cutyard.texts" 1324 814) ::
(nat_lit 821,cO "row_form" 1366 "row_form" 1367 1368 655 1 3 816 181 817 (.ref 818) (.ref 819) 820 1372 1373) ::
 (nat_lit 822,fO nQ "row_form" "row_form" "cutyard.texts" 1324 821) ::
(nat_lit 828,cO "worth_form" 1375 "worth_form" 1376 1377 663 1 3 823 181 824 (.ref 825) (.ref 826) 827 1380 1381) ::
 (nat_lit 829,fO oh "worth_form" "worth_form" "cutyard.texts" 1324 828) ::
(nat_lit 835,cO "line_form" 1383 "line_form" 1384 1385 668 1 3 830 181 831 (.ref 832) (.ref 833) 834 1388 1389) ::
 (nat_lit 836,fO mO "line_form" "line_form" "cutyard.texts" 1324 835) ::
(nat_lit 842,cO "sum_entries" 1391 "sum_entries" 1392 1393 677 3 3 837 181 838 (.ref 839) (.ref 840) 841 1401 1402) ::
 (nat_lit 843,fO pT "sum_entries" "sum_entries" "cutyard.texts" 1324 842) ::
(nat_lit 847,cO "turned_numbers" 1404 "turned_numbers" 1405 1406 688 1 3 844 181 845 .none .none 846 1407 1408) ::
 (nat_lit 848,fO mm "turned_numbers" "turned_numbers" "cutyard.texts" 1324 847) ::
(nat_lit 861,cO "__init__" 1422 "Reading.__init__" 1423 1424 692 1 3 856 181 857 (.ref 858) (.ref 859) 860 1426 1427) ::
 (nat_lit 862,fO nY "__init__" "Reading.__init__" "cutyard.texts" 1324 861) ::
(nat_lit 868,cO "read_line" 1429 "Reading.read_line" 1430 1431 698 3 3 863 181 864 (.ref 865) (.ref 866) 867 1436 1437) ::
 (nat_lit 869,fO og "read_line" "Reading.read_line" "cutyard.texts" 1324 868) ::
(nat_lit 875,cO "read_unknown" 1439 "Reading.read_unknown" 1440 1441 709 3 3 870 181 871 (.ref 872) (.ref 873) 874 1445 1446) ::
 (nat_lit 876,fO mL "read_unknown" "Reading.read_unknown" "cutyard.texts" 1324 875) ::
(nat_lit 882,cO "read_row" 1448 "Reading.read_row" 1449 1450 719 3 3 877 181 878 (.ref 879) (.ref 880) 881 1456 1457) ::
 (nat_lit 883,fO pG "read_row" "Reading.read_row" "cutyard.texts" 1324 882) ::
 (nat_lit 884,⟨(.type "tuple"),ũ,(.seq #[(.str "bounds" 1459),(.str "names" 1460),(.str "rows" 1461),(.str "worth" 1462)] 0),#[]⟩) ::
 (nat_lit 885,⟨(.type "dict"),ũ,(.dict #[dE P "__module__" 1417 ((.str "cutyard.texts" 1324)),dE P "__firstlineno__" 1421 ((.int 690 1420)),dE P "__init__" 1428 ((.ref 862)),dE P "read_line" 1438 ((.ref 869)),dE P "read_unknown" 1447 ((.ref 876)),dE P "read_row" 1458 ((.ref 883)),dE P "__static_attributes__" 1463 ((.ref 884)),dE P "__dict__" 1465 ((.ref 887)),dE P "__weakref__" 1467 ((.ref 888)),dE P "__doc__" 1468 (.none)] 4),#[]⟩) ::
 (nat_lit 886,⟨(.type "type"),ũ,(.cls ⟨"Reading",[(.type "object")],[(.ref 886),(.type "object")],885,"Reading",ū,[],[],Ŭ,ũ,Ŭ⟩),#[ũ,ũ,(Z (.str "Reading" 1410)),(Z (.str "Reading" 1418)),(Z (.builtin "object.__new__")),(Z (.bool ū))]⟩) ::
 (nat_lit 887,⟨(.type "getset_descriptor"),ũ,(.fields #[(.str "__dict__" 1464),(.ref 886),(.builtin "function.__dict__"),(.builtin "function.__dict__#set")]),#[]⟩) ::
 (nat_lit 888,⟨(.type "getset_descriptor"),ũ,(.fields #[(.str "__weakref__" 1466),(.ref 886),(.builtin "ExceptionGroup.__weakref__"),.none]),#[]⟩) ::
(nat_lit 896,cO "read_plan" 1471 "read_plan" 1472 1473 725 1 3 891 181 892 (.ref 893) (.ref 894) 895 1482 1483) ::
 (nat_lit 897,fO mV "read_plan" "read_plan" "cutyard.texts" 1324 896) ::
(nat_lit 903,cO "written_unknown" 1485 "written_unknown" 1486 1487 738 2 3 898 181 899 (.ref 900) (.ref 901) 902 1492 1493) ::
 (nat_lit 904,fO nV "written_unknown" "written_unknown" "cutyard.texts" 1324 903) ::
(nat_lit 908,cO "written_sum" 1495 "written_sum" 1496 1497 744 2 3 905 181 906 .none .none 907 1498 1499) ::
 (nat_lit 909,fO md "written_sum" "written_sum" "cutyard.texts" 1324 908) ::
(nat_lit 915,cO "written_row" 1501 "written_row" 1502 1503 749 2 3 910 181 911 (.ref 912) (.ref 913) 914 1508 1509) ::
 (nat_lit 916,fO oW "written_row" "written_row" "cutyard.texts" 1324 915) ::
(nat_lit 922,cO "written_worth" 1511 "written_worth" 1512 1513 753 3 3 917 181 918 (.ref 919) (.ref 920) 921 1518 1519) ::
 (nat_lit 923,fO oY "written_worth" "written_worth" "cutyard.texts" 1324 922) ::
(nat_lit 927,cO "write_plan" 1521 "write_plan" 1522 1523 759 3 3 924 181 925 .none .none 926 1524 1525) ::
 (nat_lit 928,fO j5 "write_plan" "write_plan" "cutyard.texts" 1324 927) ::
(nat_lit 932,cO "with_unknown" 1529 "with_unknown" 1530 1531 765 3 3 929 181 930 .none .none 931 1532 1533) ::
 (nat_lit 933,fO mv "with_unknown" "with_unknown" "cutyard.desk" 1527 932) ::
(nat_lit 939,cO "with_row" 1535 "with_row" 1536 1537 774 4 3 934 181 935 (.ref 936) (.ref 937) 938 1545 1546) ::
 (nat_lit 940,fO pX "with_row" "with_row" "cutyard.desk" 1527 939) ::
(nat_lit 946,cO "with_worth" 1548 "with_worth" 1549 1550 781 3 3 941 181 942 (.ref 943) (.ref 944) 945 1556 1557) ::
 (nat_lit 947,fO nJ "with_worth" "with_worth" "cutyard.desk" 1527 946) ::
(nat_lit 953,cO "without_row" 1559 "without_row" 1560 1561 787 2 3 948 181 949 (.ref 950) (.ref 951) 952 1565 1566) ::
 (nat_lit 954,fO oV "without_row" "without_row" "cutyard.desk" 1527 953) ::
(nat_lit 960,cO "changed" 1568 "changed" 1569 1570 792 2 3 955 181 956 (.ref 957) (.ref 958) 959 1573 1574) ::
 (nat_lit 961,fO p9 "changed" "changed" "cutyard.desk" 1527 960) ::
(nat_lit 993,cO "numbers_form" 1625 "numbers_form" 1626 1627 834 1 3 990 181 991 .none .none 992 1628 1629) ::
 (nat_lit 994,fO lB "numbers_form" "numbers_form" "cutyard.desk" 1527 993) ::
(nat_lit 1000,cO "say_form" 1631 "say_form" 1632 1633 837 2 3 995 181 996 (.ref 997) (.ref 998) 999 1638 1639) ::
 (nat_lit 1001,fO oP "say_form" "say_form" "cutyard.desk" 1527 1000) ::
(nat_lit 1014,cO "__init__" 1653 "Desk.__init__" 1654 1655 849 1 3 1009 181 1010 (.ref 1011) (.ref 1012) 1013 1657 1658) ::
 (nat_lit 1015,fO oZ "__init__" "Desk.__init__" "cutyard.desk" 1527 1014) ::
(nat_lit 1021,cO "say" 1660 "Desk.say" 1661 1662 853 2 3 1016 181 1017 (.ref 1018) (.ref 1019) 1020 1666 1667) ::
 (nat_lit 1022,fO oC "say" "Desk.say" "cutyard.desk" 1527 1021) ::
(nat_lit 1028,cO "step_on" 1669 "Desk.step_on" 1670 1671 871 2 3 1023 181 1024 (.ref 1025) (.ref 1026) 1027 1674 1675) ::
 (nat_lit 1029,fO oB "step_on" "Desk.step_on" "cutyard.desk" 1527 1028) ::
(nat_lit 1035,cO "step_back" 1677 "Desk.step_back" 1678 1679 875 1 3 1030 181 1031 (.ref 1032) (.ref 1033) 1034 1681 1682) ::
 (nat_lit 1036,fO nj "step_back" "Desk.step_back" "cutyard.desk" 1527 1035) ::
 (nat_lit 1037,⟨(.type "tuple"),ũ,(.seq #[(.str "state" 1684),(.str "states" 1685)] 0),#[]⟩) ::
 (nat_lit 1038,⟨(.type "dict"),ũ,(.dict #[dE P "__module__" 1648 ((.str "cutyard.desk" 1527)),dE P "__firstlineno__" 1652 ((.int 847 1651)),dE P "__init__" 1659 ((.ref 1015)),dE P "say" 1668 ((.ref 1022)),dE P "step_on" 1676 ((.ref 1029)),dE P "step_back" 1683 ((.ref 1036)),dE P "__static_attributes__" 1686 ((.ref 1037)),dE P "__dict__" 1688 ((.ref 1040)),dE P "__weakref__" 1690 ((.ref 1041)),dE P "__doc__" 1691 (.none)] 4),#[]⟩) ::
 (nat_lit 1039,⟨(.type "type"),ũ,(.cls ⟨"Desk",[(.type "object")],[(.ref 1039),(.type "object")],1038,"Desk",ū,[],[],Ŭ,ũ,Ŭ⟩),#[ũ,ũ,(Z (.str "Desk" 1641)),(Z (.str "Desk" 1649)),(Z (.builtin "object.__new__")),(Z (.bool ū))]⟩) ::
 (nat_lit 1040,⟨(.type "getset_descriptor"),ũ,(.fields #[(.str "__dict__" 1687),(.ref 1039),(.builtin "function.__dict__"),(.builtin "function.__dict__#set")]),#[]⟩) ::
 (nat_lit 1041,⟨(.type "getset_descriptor"),ũ,(.fields #[(.str "__weakref__" 1689),(.ref 1039),(.builtin "ExceptionGroup.__weakref__"),.none]),#[]⟩) ::
(nat_lit 1049,cO "_law_pool" 1696 "_law_pool" 1697 1698 880 2 3 1044 181 1045 (.ref 1046) (.ref 1047) 1048 1702 1703) ::
 (nat_lit 1050,fO pF "_law_pool" "_law_pool" "law_cutyard_k75_written_and_told_again" 1694 1049) ::
(nat_lit 1056,cO "_law_next" 1705 "_law_next" 1706 1707 885 2 3 1051 181 1052 (.ref 1053) (.ref 1054) 1055 1713 1714) ::
 (nat_lit 1057,fO oz "_law_next" "_law_next" "law_cutyard_k75_written_and_told_again" 1694 1056) ::
(nat_lit 1063,cO "_law_same" 1716 "_law_same" 1717 1718 897 2 3 1058 181 1059 (.ref 1060) (.ref 1061) 1062 1723 1724) ::
 (nat_lit 1064,fO mj "_law_same" "_law_same" "law_cutyard_k75_written_and_told_again" 1694 1063) ::
(nat_lit 1070,cO "_law_names" 1726 "_law_names" 1727 1728 910 2 3 1065 181 1066 (.ref 1067) (.ref 1068) 1069 1738 1739) ::
 (nat_lit 1071,fO nX "_law_names" "_law_names" "law_cutyard_k75_written_and_told_again" 1694 1070) ::
(nat_lit 1077,cO "_law_number" 1741 "_law_number" 1742 1743 928 1 3 1072 181 1073 (.ref 1074) (.ref 1075) 1076 1746 1747) ::
 (nat_lit 1078,fO n6 "_law_number" "_law_number" "law_cutyard_k75_written_and_told_again" 1694 1077) ::
(nat_lit 1082,cO "_law_sum" 1749 "_law_sum" 1750 1751 935 2 3 1079 181 1080 .none .none 1081 1752 1753) ::
 (nat_lit 1083,fO kP "_law_sum" "_law_sum" "law_cutyard_k75_written_and_told_again" 1694 1082) ::
(nat_lit 1087,cO "_law_unknown" 1755 "_law_unknown" 1756 1757 946 3 3 1084 181 1085 .none .none 1086 1758 1759) ::
 (nat_lit 1088,fO ky "_law_unknown" "_law_unknown" "law_cutyard_k75_written_and_told_again" 1694 1087) ::
(nat_lit 1092,cO "_law_rowed" 1761 "_law_rowed" 1762 1763 960 3 3 1089 181 1090 .none .none 1091 1764 1765) ::
 (nat_lit 1093,fO lj "_law_rowed" "_law_rowed" "law_cutyard_k75_written_and_told_again" 1694 1092) ::
(nat_lit 1097,cO "_law_sought" 1767 "_law_sought" 1768 1769 971 2 3 1094 181 1095 .none .none 1096 1770 1771) ::
 (nat_lit 1098,fO mf "_law_sought" "_law_sought" "law_cutyard_k75_written_and_told_again" 1694 1097) ::
(nat_lit 1104,cO "_law_taken" 1773 "_law_taken" 1774 1775 978 2 3 1099 181 1100 (.ref 1101) (.ref 1102) 1103 1785 1786) ::
 (nat_lit 1105,fO pI "_law_taken" "_law_taken" "law_cutyard_k75_written_and_told_again" 1694 1104) ::
(nat_lit 1111,cO "_law_change" 1788 "_law_change" 1789 1790 985 4 3 1106 181 1107 (.ref 1108) (.ref 1109) 1110 1796 1797) ::
 (nat_lit 1112,fO nq "_law_change" "_law_change" "law_cutyard_k75_written_and_told_again" 1694 1111) ::
(nat_lit 1118,cO "_law_terms" 1799 "_law_terms" 1800 1801 998 3 3 1113 181 1114 (.ref 1115) (.ref 1116) 1117 1808 1809) ::
 (nat_lit 1119,fO mX "_law_terms" "_law_terms" "law_cutyard_k75_written_and_told_again" 1694 1118) ::
(nat_lit 1125,cO "_law_text" 1811 "_law_text" 1812 1813 1006 1 3 1120 181 1121 (.ref 1122) (.ref 1123) 1124 1825 1826) ::
 (nat_lit 1126,fO nZ "_law_text" "_law_text" "law_cutyard_k75_written_and_told_again" 1694 1125) ::
(nat_lit 1132,cO "_law_said" 1828 "_law_said" 1829 1830 1018 2 3 1127 181 1128 (.ref 1129) (.ref 1130) 1131 1837 1838) ::
 (nat_lit 1133,fO oM "_law_said" "_law_said" "law_cutyard_k75_written_and_told_again" 1694 1132) ::
(nat_lit 1139,cO "_law_standing" 1840 "_law_standing" 1841 1842 1043 2 3 1134 181 1135 (.ref 1136) (.ref 1137) 1138 1847 1848) ::
 (nat_lit 1140,fO px "_law_standing" "_law_standing" "law_cutyard_k75_written_and_told_again" 1694 1139) ::
(nat_lit 1146,cO "_law_changed" 1850 "_law_changed" 1851 1852 1046 6 3 1141 181 1142 (.ref 1143) (.ref 1144) 1145 1863 1864) ::
 (nat_lit 1147,fO oX "_law_changed" "_law_changed" "law_cutyard_k75_written_and_told_again" 1694 1146) ::
(nat_lit 1153,cO "_law_begun" 1866 "_law_begun" 1867 1868 1057 3 3 1148 181 1149 (.ref 1150) (.ref 1151) 1152 1880 1881) ::
 (nat_lit 1154,fO nU "_law_begun" "_law_begun" "law_cutyard_k75_written_and_told_again" 1694 1153) ::
(nat_lit 1160,cO "law" 1883 "law" 1884 1885 1073 1 3 1155 181 1156 (.ref 1157) (.ref 1158) 1159 1903 1904) ::
 (nat_lit 1161,fO oR "law" "law" "law_cutyard_k75_written_and_told_again" 1694 1160)::[]
end Kx
noncomputable def PySem.W.Fast.tw18309315148829604842:=PySem.Challenge.pw_cutyard_k75_written_and_told_again
theorem PySem.W.Fast.te18309315148829604842:PySem.Challenge.pw_cutyard_k75_written_and_told_again=PySem.W.Fast.tw18309315148829604842:=rfl
noncomputable def PySem.W.Fast.tw5385739360559341639:=Kx.KK
theorem PySem.W.Fast.te5385739360559341639:Kx.KK=PySem.W.Fast.tw5385739360559341639:=rfl
structure PySem.W.Fast:Prop where(tw10014655769196499374 tw10057792959993195809 tw10059011649513158450 tw10109845875241693896 tw10115589202344217688 tw10140398342322695193 tw10165721208125986598 tw10172120291264933803 tw10187336517004857291 tw10253126840606382330 tw10338026391923827383 tw10365339071028653160 tw10367898381066319130 tw10377009340380921557 tw10383515835526395472 tw10385728281945492603 tw10418384830666163580 tw10443470279363762539 tw10508421292630431959 tw10510097883514221382 tw10529697739191002052 tw10558443654552778629 tw10614839643620555039 tw10619660658764058984 tw10639136905825544259 tw10675533323514424431 tw10677517401533810466 tw10693524965740377135 tw10719474433738749283 tw10731993983912635860 tw10741654424962441909 tw10754610418696099374 tw10759446985568297299 tw1078761226490163413 tw10794943524664837301 tw10814307111496585720 tw10827922951993793016 tw10881175231563470806 tw10914354214038644545 tw10965456465492247134 tw11040038846592924201 tw11049852476038809754 tw11057638139062473073 tw11094689972086762823 tw11127379701449840477 tw11129118074474852936 tw11134183352929663151 tw11146069120924988945 tw11148237871505952707 tw11154767060073496905 tw11157609682986570662 tw11174656365739997462 tw11201756686931583358 tw11213696566156041906 tw11252982888319522420 tw11258281667111778802 tw1126908401517997649 tw11281178185870981098 tw11355288159232844142 tw11369317445402589886 tw11383493034661653879 tw11401443305202388787 tw1140626367863310492 tw11432327175825828758 tw11447473055937410103 tw11469694016966962926 tw11483975203985833929 tw11492327715591657797 tw11553914136742246155 tw11559739907051882695 tw11560588973703776681 tw11565366090156174198 tw11576562372791272795 tw11593721394309120128 tw11733810985678993083 tw11751351945057222333 tw1180828060531752683 tw11842576378234679074 tw11869590406527542834 tw11874763896648400619 tw11926831312043417914 tw11988280101645675645 tw11989621766234351802 tw11999859591775493003 tw12005533908821019429 tw12010649426583722488 tw12038543096209729065 tw1204913241020403295 tw12063267462557318517 tw12064552559609197620 tw12122523808373425371 tw12126111119604825437 tw12152512761163386702 tw1216534466534357657 tw12208579189346603744 tw1227522608458857886 tw12295877356891238439 tw12311284044792908906 tw12321908413004167675 tw1232423900340871448 tw1233089569519708791 tw123608143981184514 tw12365093762039481450 tw12388157493820822619 tw12399573071379103630 tw12485305927060629752 tw12500368204578272727 tw12500639865813115109 tw1251728795946645909 tw12607104351653876707 tw12657264438315945046 tw12665753314924784455 tw12676411415856592188 tw12700867947750469290 tw12702924369916997113 tw12714211296899081440 tw12716625872128178004 tw12745370404793545717 tw12751864826725667125 tw1276946955721177579 tw12772762401914493812 tw12806018889626186773 tw12833730192381696736 tw1290377849261410717 tw12950153080979449134 tw12974865503628058020 tw12992623070288801510 tw13028846906505301821 tw13031960221888039508 tw13049307116177828901 tw13064099169819854709 tw13095241252590072183 tw13098140737933919541 tw13100512631271419958 tw13106779182441828147 tw13109302170670197891 tw13141125052210869710 tw13158340023040683128 tw1321558295479432267 tw13216194211671399466 tw13216516022924802827 tw1322114335842866582 tw1322538895461922487 tw13236123825673894725 tw13270333060847615764 tw13287720350546528807 tw13293541726102794819 tw13296099790336828678 tw13297072138481994665 tw13308739565667287834 tw13315284084055654181 tw13346510834778547821 tw13379122558876564665 tw1338016858086019302 tw13382802876687319391 tw13387066762700101227 tw1345830763968602779 tw1347974554055423318 tw13487858852561132363 tw13495195418442670362 tw13538679835833885669 tw13547276525262301055 tw13598065853119182401 tw13608149939372843296 tw13633082807295531681 tw13633600542402204681 tw13684390971942858928 tw13707961488686136421 tw13762018866541621388 tw13767721537174622869 tw13769235665445534295 tw1381591952605259309 tw13830251762149360731 tw13830537310774439282 tw13834161756201635444 tw13843188108178676439 tw13846780730259454229 tw13881501444088979717 tw13884626730895888313 tw13938610845303804356 tw13960781370400218467 tw14047900377738040852 tw14070791784153504190 tw14150952775595634786 tw14155106699319833406 tw14220888007926377321 tw14224716285264685113 tw1427615011449513377 tw14299152361802427109 tw14310313085087998920 tw14315139338032166689 tw14350733112616716452 tw14366199575352275565 tw14367607208746198219 tw14379700713478141035 tw14392279995918005506 tw14446837150683111856 tw14465021417768488363 tw14482481433620053071 tw14572984413178667867 tw14619418584447229458 tw14663690346813401689 tw14674358393113341737 tw14676666501174129504 tw14688687907766895333 tw14700310469589782042 tw14741524118179227869 tw14751016472392774162 tw14758865564013133689 tw1478019755334376084 tw1480049311600238659 tw14843584439292766532 tw14865909806731269013 tw14887442905963912556 tw14906334016329022515 tw14910571153814801850 tw14947986279585802303 tw14958303429352033943 tw14975092952242221515 tw14991483601124314987 tw15005961407777935984 tw15033483292517762594 tw15117303295126062083 tw15134876501803660291 tw15135711835497980056 tw15161088920676237885 tw15190960382300920709 tw1522692315670348402 tw15268057078357630570 tw15303206103219127609 tw15326478478177774014 tw15403182211622290752 tw15408919607255020939 tw15429835440107700091 tw15448273357995847782 tw15458084527971525230 tw15462844725824587988 tw15463699511219499657 tw15464945782879483931 tw15477085312097744346 tw15506279691844594904 tw15526718895394724162 tw15550075175914035626 tw15558387802064441965 tw15705779880109818912 tw15718527724638788508 tw15776294889524934376 tw15796521785478945069 tw15810693052874615260 tw15810890502192811935 tw15856568921771917568 tw15861801057154572845 tw15886949978968544489 tw15906458248902804459 tw15916129751487709116 tw15946267921739221020 tw16004293255154045975 tw16039904748424437180 tw16077625540825897835 tw16088424734811977800 tw16114393192282847230 tw16123274640533812713 tw16151189288899396296 tw16229233790282826754 tw16238984649060835620 tw16242532382110637469 tw16279962406892178069 tw16317527756601920849 tw16345001504887558540 tw16403079820207923552 tw16415632897024830647 tw16450607991767951197 tw16451738985220825471 tw16483604365717351574 tw16521132832990401676 tw16656427931364215125 tw16685498129105040031 tw16767181192532449757 tw16774581783616384358 tw16811393657574977215 tw16965926498146039829 tw16983763551762796505 tw17014924321824446513 tw1704809157582191213 tw17083325478638772823 tw17105400708506538821 tw17132742083808415968 tw17138511698565499936 tw17140377942104469050 tw17194040535428415955 tw17236610342416002737 tw17242305069577163913 tw17272464981273812610 tw17272621496756712715 tw17292920437844170712 tw1731237723761653242 tw17367145540918977448 tw17404702968805077054 tw17430756283762395158 tw17464145874514466871 tw17465295979273275951 tw17491233647012524116 tw17497389693305329072 tw17535026579831647926 tw17541757231557855760 tw17563841774133839457 tw17573307002046651871 tw17574139529244470886 tw17590791459558286390 tw17611069349121425199 tw17619329080174338292 tw17719540555123605721 tw17730751411311139242 tw17732893303894488510 tw17744215744316702883 tw17778414811490491171 tw17778878780682647767 tw17803111407372507612 tw17814462936180269674 tw17841604920674233932 tw1786290229547550366 tw17867514816579274492 tw17870251306670349966 tw17926050160126349109 tw17999780485634651956 tw18015814613390401540 tw1804350423513521175 tw18105571614260506276 tw18106754873433677201 tw18120750110541105180 tw18129684909187809121 tw18130815913565789819 tw18196454542009775734 tw18299389654124416069 tw18305125823519679551 tw18306027078898416720 tw18372219295084632069 tw18397263639215932089 tw18419743826474533085 tw18438849502455342525 tw18440439068201712625 tw18441344673278129074 tw18444900636172728303 tw185367254434351851 tw1861362212647103599 tw1875706566300042916 tw187571728782565822 tw1896598115966222979 tw1901634537725661146 tw1904910777687785117 tw1940495077749409244 tw2000703926594937224 tw2039393809982501220 tw2053319658778957545 tw2061316812929467682 tw2098731638845771610 tw2126526523343176738 tw2143509366065290057 tw2163612098730594495 tw2163647277961645804 tw2209273854482938781 tw2232407728909924027 tw2248554441262426708 tw225751102023595044 tw227565046891445213 tw2343285975518654602 tw2420079444663329603 tw2428502844195173046 tw2443228777874291956 tw2480879823409308956 tw2582058100867731405 tw2639845847890809026 tw2642015110073490790 tw271269043487587786 tw2714088669146839009 tw2742398169675918719 tw2759763006036298634 tw2820236363772356661 tw282205593389624799 tw2847472816406751771 tw2899759723078929918 tw2928432340802077087 tw29318102140730074 tw2937263404816949180 tw2946083130714469833 tw2983417831903572178 tw3002952581422416712 tw3036836382928046359 tw3041808406144843617 tw3042795021905522450 tw3048314385160441634 tw308449234735136856 tw310505888094881693 tw3167938583370004767 tw3195911138792176486 tw32282128685119478 tw3245391008079700746 tw325844719554542531 tw3276052678993763179 tw3307840794454721807 tw3319876538491838125 tw3321908254623784506 tw332366702927178328 tw3324213820296886596 tw3363150637953280809 tw3382291264910902874 tw338835570153685668 tw3390495879706149256 tw3412165489955075299 tw3460654663467013357 tw3464427599044821674 tw3523055862072712988 tw3528820995901161715 tw3552765024323870537 tw3571144025318431455 tw3577163925827013291 tw3624310434166683261 tw3653077972001405435 tw365558236992212761 tw3686623660590734445 tw3693462942075559895 tw3710567858248791477 tw3718425108507714015 tw3757059653955871495 tw3765808497940353854 tw3766596188709723317 tw3815983597055881330 tw3823531258856239131 tw3837039322330773744 tw3889269769978558748 tw3902141525552806476 tw3908863736115149341 tw392723857218956953 tw3929276019551364618 tw4057870037799017357 tw4073417812764308850 tw4120844998827206464 tw41494434842789563 tw4161049667871787636 tw4166729009129077205 tw4172414181612209523 tw417536236961702654 tw4253642769392994455 tw4310032635668963381 tw4323056252449059053 tw4329365096220632301 tw4342648707669381466 tw4384604455101423012 tw439884396655795893 tw4404197610927590860 tw4418523490068680143 tw4443622363677469887 tw4461494144297596270 tw45442978278649715 tw457911063872172548 tw4605067397488307914 tw4606810755867254338 tw4632994718454986744 tw4657607983686380264 tw4666942423996147518 tw4676362598832958313 tw4686298568355477246 tw4717802587905383005 tw4754896285947636766 tw475495799910802182 tw4779053450176261390 tw4780723273716891354 tw4799173275681560118 tw4810635196668923719 tw4819632141883361901 tw4835550654716511724 tw4850373950329203553 tw4876910969905109951 tw4896080594125810511 tw4943677897906752010 tw4996290074016802319 tw50083257137385194 tw5015494172097857076 tw5031348134277693375 tw5070346056065443434 tw511268136532817924 tw5165450722811187230 tw5167472049038361609 tw5205011137085107949 tw5262376293427350468 tw5296047534760092865 tw5330542328977321741 tw5342049863365220922 tw5375250649765535004 tw5377734608472828080 tw5379807330915731572 tw5398775865252798400 tw5409420316512114569 tw5433877644546761289 tw544658842994340310 tw549885951642906645 tw5515171780957262987 tw5535074999488456721 tw5541582055494226867 tw5563904808875974828 tw5578247467011330157 tw5595260762759931095 tw5628936096953446027 tw5639613692803519066 tw565403668224889888 tw5656318169574882703 tw5661991834894994722 tw566293208104129684 tw5663950874235048718 tw5674407127945288961 tw5680673869646291185 tw5694829903535716184 tw5720807756085652850 tw574715352019483547 tw5773239308318621686 tw5796291042536076990 tw5830754460368595255 tw5862870819805121728 tw5925271432952664272 tw5935472840847015704 tw595877924299877656 tw5974124745752236812 tw5982929763126211766 tw6025473281387782789 tw6041453038135744862 tw6046045287273561842 tw6057229237420300268 tw6073722747047557943 tw6214034595021160616 tw6228793915545059258 tw6256886615271668388 tw6309957795428772781 tw6376798035929940130 tw6379845883827771253 tw6380713487071721812 tw6403463433492820796 tw6404112982807210932 tw6406937389772121869 tw6416513442922450653 tw64240376186453576 tw6432945758432232107 tw6447521583138890209 tw6461908338266913491 tw6501889972433817457 tw6503437611358380616 tw6514240353836681567 tw6525625097105954312 tw6557641188596797160 tw6568154246361792050 tw6626504071993210785 tw6664367533864023580 tw6680450919538409508 tw669216952908337417 tw6694620282604963829 tw6724132639266625651 tw6732437382845858004 tw6737068043852349344 tw6776439817510669674 tw6833842783515494579 tw684960772398286082 tw6850286004514615471 tw6859054418360357734 tw6891372919282931420 tw6901057250504803927 tw6930619971944032689 tw6930740143506745286 tw6937980405494328533 tw6945452985343988787 tw6972838036764140759 tw7021725278650979756 tw7028074519656259811 tw7029584079416205441 tw7057512677105747581 tw7060185957704548883 tw7102644537419268293 tw7104376546724756964 tw7148157244858847072 tw7180166976981233393 tw7188391263739249690 tw7206659097038797101 tw7242974718766363095 tw7268542654317936902 tw7307260877170297190 tw7309301307992126299 tw7312272827817179253 tw7339417580863112503 tw737518135263520643 tw7406221276682950998 tw7417530939598903725 tw7420112083026718002 tw744293271266406713 tw7452619896256392779 tw745592062933326783 tw7502185930410500971 tw7527260874612533362 tw7534407446873541867 tw7581283657036581105 tw7582535884500812119 tw7606608490133887455 tw7621904334348219385 tw7646566638545888893 tw7691226674277420037 tw7710581513661214188 tw772201038903769960 tw7763258130768702976 tw7827065115134562314 tw7831900235812317194 tw7859875410390286703 tw7881414889535547756 tw7883691537160183493 tw7904319086868685390 tw7931185045510447849 tw8003907426938742056 tw8040990489208650441 tw8064319593410882483 tw8070084237902705926 tw8085596003583256191 tw8181074502799558170 tw8187144272865583497 tw8195971437294299042 tw824157628324168717 tw8244308968656308605 tw8259688591738383362 tw8266031113886067695 tw8317898642363181719 tw833024776313973424 tw8352422270196806031 tw8386655861737090076 tw839100521775363543 tw8407389858979897153 tw8411264647583809940 tw8448204126361373458 tw8462723092778682854 tw8466331105348212580 tw8510641416848947659 tw8552580702110498652 tw8580849596513049902 tw8594268905542081769 tw8644208672616063123 tw8684432281719663482 tw8754680402061303132 tw877449110548161536 tw8784375399977033742 tw8806332118383183982 tw8812245954462014432 tw8819043051935633842 tw8821753873804128562 tw8863044614328518710 tw8920937689008541347 tw8930087538500689926 tw8943061759396793886 tw8953913820701086076 tw9046735078443904249 tw9054900737551049062 tw9056878194806358821 tw9060507543364486486 tw9118019967441416336 tw9135546403326064011 tw9147636814161841914 tw9166428185268504578 tw9185636459361989032 tw9185986499712783702 tw9247947279776046090 tw9261281539200999276 tw9267720680401453024 tw9287627180995798100 tw9317970933844085602 tw935001351921060818 tw9387975341519978563 tw9401904891739861244 tw9408226396600080528 tw9409051144959159858 tw9411647481000051995 tw9463620777524953609 tw9513986065936396432 tw9519402504185266790 tw9536447072774204087 tw9585088503891113573 tw961820169664520225 tw9634626852105489599 tw965714590059719880 tw9662220301005994966 tw9672147131662109043 tw9682667251938875685 tw9700850467556966322 tw9708769440064566874 tw9714017371278494315 tw9723878639194494231 tw9747422252740986198 tw9757708353180914219 tw9786103498412376307 tw982651161745004908 tw9867082497281036636 tw9870922381700651879 tw98801623093921513 tw9938317793834670835 tw9941759956157593952 tw9955420665866755713:True)
end
open PySem PySem.W PyProof.Rows
set_option maxRecDepth 100000 in
set_option maxHeartbeats 0 in
theorem PySem.Challenge.cw_cutyard_k75_written_and_told_again_holds : PySem.Challenge.rw_cutyard_k75_written_and_told_again.Holds := by
 w_on;o_law;o_head (kHook Kx.KK (2::3::15::22::23::24::25::28::35::36::37::40::52::53::54::55::56::59::71::72::73::74::75::78::90::91::92::93::94::97::109::110::111::112::113::116::123::124::125::128::135::136::137::200::201::795::796::800::801::807::808::814::815::821::822::828::829::835::836::842::843::847::848::861::862::868::869::875::876::882::883::884::885::886::887::888::896::897::903::904::908::909::915::916::922::923::927::928::932::933::939::940::946::947::953::954::960::961::993::994::1000::1001::1014::1015::1021::1022::1028::1029::1035::1036::1037::1038::1039::1040::1041::1049::1050::1056::1057::1063::1064::1070::1071::1077::1078::1082::1083::1087::1088::1092::1093::1097::1098::1104::1105::1111::1112::1118::1119::1125::1126::1132::1133::1139::1140::1146::1147::1153::1154::1160::1161::[]) (λ_=>by kernel_rfl));(case hw=>w_witness2)
 k_fill
 refine Kx.walk (l:=PySem.Challenge.rw_cutyard_k75_written_and_told_again) rfl rfl (by decide +kernel) (λw h Y=>kIn_of Y) (λw=>?N1) ?F
 (case N1=>kernel_rfl)
 case F=>
  intro w mg fa h KX G T5;refine' Kx.all_mk KX G T5 ?Qa ?QZ ?_ ?_ ?_ ?_ ?_ ?_ ?_ ?_ ?_ ?_ ?_ ?_ ?_ ?_ ?_ ?_ ?_ ?_ ?_ ?_ ?_ ?_ ?_ ?_ ?_ ?_ ?_ ?_ ?_ ?_ ?_ ?_ ?_ ?_ ?_ ?_ ?_ ?_ ?_ ?_ ?_ ?_ ?_ ?_ ?_ ?_ ?_ ?_ ?_ ?_ ?_ ?_ ?_ ?_ ?_ ?_ ?_ ?_ ?_ ?_ ?_ ?_ ?_ ?_ ?_ ?_ ?_ ?_ ?_ ?_ ?_ ?_ ?_ ?_ ?_ ?_ ?_ ?_ ?_ ?_ ?_ ?_ ?_ ?_ ?SI ?Sf ?Sg ?Rl ?Rm ?Rn ?Ro ?QQ ?QR ?Qe ?Qf ?Qg ?Qh ?Rq ?RG ?RH ?QJ ?QK ?QL ?QM ?Qi
  (case Sf=>k_is);(case Sg=>k_is);(case Rl=>k_is);(case Rm=>k_is);(case Rn=>k_is);(case Ro=>kernel_rfl)
  (case QQ=>k_is);(case QR=>k_is);(case Qe=>k_is);(case Qf=>k_is);(case Qg=>k_is);(case Qh=>kernel_rfl)
  (case Rq=>kernel_rfl)
  (case RG=>k_is);(case RH=>k_is);(case QJ=>k_is);(case QK=>k_is);(case QL=>k_is);(case QM=>kernel_rfl)
  (case Qi=>kernel_rfl)
  (case SI=>kernel_rfl)
  (case Qa=>k_is)
  (case QZ=>k_is)
  all_goals first|(refine' L2.Has.of ?a ?l ?c;(case a=>k_is);(case l=>k_is);(case c=>k_is))|(refine' L2.HasM.of ?a ?i ?l ?c ?k;(case a=>k_is);(case i=>k_is);(case l=>k_is);(case c=>k_is);(case k=>k_is))|k_is|skip

