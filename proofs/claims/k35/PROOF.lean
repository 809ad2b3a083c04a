import PyProof.Rows.All
import Wide.All
import OpenK.AllK
import Wide.FinOn
import Lean
import PyProof.EqAt
import PyProof.EqKinds
import PyProof.TupleCall
import PyProof.NeKinds
import KE.KLam
import KE.KMinKey
import KE.KSortTup
import PyProof.AutoListH
import PyProof.MeetsStr
import PyProof.StrLawsJoin
import PyProof.FitsReplace
import PyProof.Rows.TupDisplay
import PyProof.ListRange
import PyProof.ZipIter
import PyProof.ListNew
import KE.KSortKey
import PyProof.StationsW
import PyProof.ExcClass2
import PyProof.ExcInit
import PyProof.ExcBaseAll.ValueError
import PyProof.RulesAs
import PyProof.NsDelKeeps
import PyProof.ExcAttrAll.ValueError
import PyProof.IsiBase
import KE.KIsAll
import PyProof.InstStoreFacts
import PyProof.Rows.SetFrom
import PyProof.SetRoads
import KE.KRevIter
import PyProof.LongRange
import PySem.Challenge.RW_cutyard_k35_whole_same_best
open PySem.W (instObj methodObj Frag lookIn InstAt plainGet hasDictIn findIn handedIn plainGet_of isFn plainOver takerIn makesIn typeIn emptyDict keepIn callWith_K cellsFrom_some fnOf codeIn kIn_of mg_of nsIn mg_none_of)
set_option Elab.async false
set_option linter.all false
set_option maxRecDepth 100000
section
open List renaming length_map->IY,getElem?_append_right->IZ,getElem?_append_left->I0,length_append->Ja,length_set->Jc,mem_of_getElem?->Je,mem_cons_of_mem->Jh,mem_cons_self->Ji,mem_singleton->Jk,getD_eq_getElem?_getD->Jl,getElem?_map->Jm,size_toArray->Jo,length_cons->Jp,append_assoc->Js,mem_cons->Jt,mem_map->Ju,getElem?_set_ne->Jv,getElem?_set_self->Jy,length_range->Jz,mem_range->JA,map_cons->JB,mem_of_find?_eq_some->JD,nodup_cons->JE,lookup_cons->JF,mem_append->JH,length_replicate->JI,append_nil->JM,mem_filter->JP,flatten_cons->JS,length_singleton->JT,getElem?_eq_none->JU,getElem?_of_mem->JX,mem_append_right->JZ,replicate_succ->J1,getElem?_eq_getElem->J2,map_map->J3,length_eq_zero_iff->J5,getElem?_eq_some_iff->J7,length_take->Kb,find?_cons_of_neg->Kk,nodup_append->Kn,length_filter_le->Kp,getElem?_replicate->Kq,take_length->Kt,length_eraseIdx_of_lt->Kv,ext_getElem?->Kz,length_nil->KC,map_append->KD,mem_of_mem_eraseIdx->KG,foldl_append->KL,length_reverse->KN,find?_cons_of_pos->KO,all_eq_true->KR,find?_cons->KW,set_append_left->KY,map_set->KZ,not_mem_nil->K7,getElem_mem->K8,of_mem_zip->Lb,any_cons->Lc,mem_append_left->Lg,filterMap_cons->Lj,getElem?_range->Lk,mem_filterMap->Lm,range_succ->Lo,find?_some->Lq,mem_eraseIdx_iff_getElem?->Lr,take_of_length_le->Ls,pairwise_lt_range->Lu,getElem?_replicate_of_lt->Lv,getElem?_zipWith->Lz,set_append_right->LB,length_drop->LH,any_eq_true->LI,mem_reverse->LK,nil_append->LM,getElem?_zip_eq_some->LN,getElem?_eq_none_iff->LO,mem_or_eq_of_mem_set->LP,getElem?_take_of_lt->LU,getElem?_drop->LX,filter_append->L0,pairwise_cons->L1,set_cons_zero->L3,filter_cons_of_pos->L7,filter_cons_of_neg->L8,take_succ_eq_append_getElem->Mf,mem_flatMap->Mh,eraseIdxIfInBounds_toArray->Mm,eraseIdx_eq_take_drop_succ->Mn,forIn_cons->Ms,map_congr_left->Mx,dropLast_concat_getLast->MB,filterMap_map->MC,lookup_append->ME,set_cons_succ->MI,drop_eq_getElem_cons->MP,findIdx?_eq_none_iff->MQ,mem_flatten->MX,map_zipWith->MY,eq_of_mem_replicate->MZ,length_erase_of_mem->M0,map_zip_eq_zipWith->M3,getElem?_cons_succ->M4,length_zip->M7,length_pos_of_mem->Nc,forIn_nil->Nd,drop_zero->Nf,pairwise_reverse->Nh,countP_le_length->Nk,all_cons->Nn,any_map->Nq
open PySem renaming wpAny_bind->Jb,wpAny_pure->Jr,boot_len->JQ,wpAny_loadPart'->J8,mem_of_lookup->Ke,wpAny_field->Kh,wpAny_callSpecial?_slot->Kr,wpAny_mono->KP,wpAny_holding->KQ,wpAny_newObj_type->K1,wpAny_call_entry->K4,wpAny_seqItems->K6,wpAny_setField_rec->K9,wpAny_passesOwn->La,wpAny_truthy_bool->Le,call_meets->Lh,wpAny_pyIter_tuple->Ln,sizeLine_eq->LL,wpAny_Call_Name_kw->LQ,wpAny_pyIter_list->L9,wpAny_pyNext_list_item->Ma,wpAny_pyNext_list_end->Mi,wpAny_execs_nil->Mo,wpAny_updateSeq_pair->Mt,call_isinstance->Mv,tupleKind_room_in1->MD,wpAny_standAt->MJ,rangeSize_one->MK,wpAny_onRaise->ML,typeIs_int->MO,codeAny_mono->MT,noFill_tuple_add->MU,wpAny_ite_false->M6,Shared->À,mainGlobals->Á,Expr->Ã,model->Ä,Program->Å,assignEach->Æ,Stmt->Ç,World->È,compareOp->É,Around->Ê,attributeBase->Ë,foldedSetIterable->Ì,FuncData->Í,swapsWith->Î,binaryOp->Ï,IsPair->Ó,keywordEach->Ô,Obj->Õ,Pos->Ö,cellsFrom->Ø,Keyword->Ù,sysModules->Ú,bootBuiltins->Û,backToKw->Þ,sliceBounds->á,Scope->â,getItem->ä,cLine->å,builtinsNs->æ,IsZip->ç,swapsWithSole->è,swappedStores->é,Env->ë,codeAny->ì,IsPart->î,letOwnedTupleGo->ñ,rawInt->ò,pyNext->ó,PassesOwn->ø,valueAt->ü,callerA->ý,argBest->þ,Operator->ÿ,IntMulOk->Ā,tupleKind->Ă,seqIndex?->ă,subscripted->Ć,BindsTo->Ď,wpAny_rule->ď,newFunctionEnv->Đ,field->đ,compEnvC->Ē,atKey->ē,CmpOp->Ĕ,wpAny_binaryOp_repeat_ref->ĕ,wpAny_attempt->ė,seq_tuple_add->Ę,wpAny_pyNext_tuple_item->Ĝ,bindL->ĝ,bindC->Ğ,wpAny_typeOf->ĥ,wpAny_pyNext_tuple_end->Ħ,wpAny_pyIter_tupleiter->ħ,seqIndex_neg->Ĩ,concat_meets->ĩ,Params->ī,wpAny_pyIter_listiter->į,wpAny_pyIter_revIter->Ĵ,wpAny_letGo->ĵ,seqIndex_of->Ķ,IsRangeIter->ķ,wpAny_pyIter_range->Ļ,typeIs_str->ļ,pyIter->Ľ,Tok->Ł,wpAny_sequenceKey->ņ,wpAny_pyIter_enum->Ň,slot_list_getitem->ň,Meets->Ō,wpAny_pyIter_zip->ō,wpAny_isInstance->Ŏ,small_one->ŏ,wpAny_specialOf->Œ,pushCells_keeps->œ,isinstance_true->Ŕ,call_list_range->ŕ
open PySem.Heap renaming get?_push_of_some->Jf,get?_push_size->Jq,lt_size->Jx,size_push->J0
open Nat renaming le_refl->Jg,le_trans->JC,sub_self->JL,ne_of_lt->JN,lt_of_lt_of_le->JR,lt_or_ge->JW,not_lt_zero->Ka,le_of_lt->Ko,add_sub_cancel_left->Ks,pow_lt_pow_right->Ku,lt_irrefl->KH,pow_le_pow_right->KI,lt_of_le_of_lt->KS,zero_le->KU,mul_le_mul_right->K0,lt_succ_of_lt->Lf,lt_succ_self->Li,mul_le_mul->L5,le_add_right->Mg,add_sub_add_right->Mj,mul_comm->Mq,lt_trans->Mr,le_of_eq->MS,add_mul->M9,ne_of_gt->Np
open PyProof.Rows renaming boot_tuple->Jn,callWith_type1->Kc,slot_tuple_getitem->Kf,boot_abs->LC,boot_int->LF,boot_max->Ml,boot_sum->Ng,boot_any->Nj,boot_all->Nl,envOfC->ê,AllBare->ð,subscriptTail->Ě,boot_list->Ġ,IsTup->ġ,subscriptTail_builtinR->ĭ,IntsAre->Į,entry_tuple_getitem->Ĺ,args_tuple_getitem->ł
open PySem.PassesOwn renaming never->Jw
open Option.some renaming inj->JJ
open Bool renaming false_ne_true->JO,and_eq_true->Ki,false_and->K3,and_false->K5,not_eq_true'->MN,eq_iff_iff->M5,false_eq_true->Ĥ,bne_false->ĺ,bne_true->ń,true->ř,false->Ś
open Int renaming zero_add->J6,le_refl->Kj,toNat_natCast->Km,zero_mul->Kw,eq_ofNat_of_zero_le->Ll,mul_le_mul_of_nonneg_left->Lw,mul_le_mul_of_nonpos_left->Lx,add_zero->LD,natAbs_mul->MA,emod_lt_of_pos->MH,natAbs_ediv_le_natAbs->MR,le_trans->MW,sub_zero->M1,emod_nonneg->M8,le_ediv_iff_mul_le->Na,neg_mul->Nb,natAbs_neg->Ni,zero_sub->Nr,mul_zero->Nt
open Classical renaming byContradiction->J9
open Ne renaming symm->Kd
open PySem.W renaming mg_none_of->Kl,Frag->Â,findIn->Ð,nsIn->Ò,emptyDict->Ý,keepIn->ã,instObj->í,plainGet->ô,hasDictIn->ö,plainOver->Ą,codeIn->ą,plainGet_of->ć,fnOf->ę,methodObj->ğ,makesIn->Ī,lookIn->ľ,takerIn->Ŋ
open Array renaming length_toList->KA,toList->Ņ,ext'->ő
open PySem.F renaming plainAttrs_list->KJ,slot_tuple_iterator_next->Ld,slot_tuple_mul->LJ,args_tuple_add_2->LV,slot_list_append->LY,type_list_append->LZ,entry_tuple_add->L6,slot_tuple_add->Mb,slot_int_rmul->Mp,slot_zip_next->Mu,args_tuple_iterator_next_1->Mz,entry_tuple_iterator_next->MF,args_tuple_mul_2->MG,entry_tuple_mul->MM
open Decidable renaming em->LA
open Option renaming isSome_iff_exists->LR,map_eq_some_iff->Mc,isSome_some->Ė,isSome_map->ě,getD_none->Ģ,bind_some->ģ,none->Ń,some->Z,none->ŗ
open PySem.AutoSeq1 renaming sub_tuple_tuple->LW,idx_int->MV
open PySem.Paired renaming length->Md,snoc->Č
open List.cons renaming inj->Me
open False renaming elim->Ñ
open True renaming intro->Ü
open Or renaming inr->ß
open Sum renaming inl->à,inr->ú
open PySem.Data renaming cell->ï,seq->ù,fields->û
open PySem.Obj renaming mapSeq->õ,data_mapFields->Ĭ
open PySem.Calls renaming Name_function_global->ā
open PySem.Around renaming under->Ĉ
open Sum.inl renaming inj->ĉ
open PySem.IsRange renaming new->Ċ
open PySem.Shared renaming heap->ċ
open PySem.Code renaming isFrame->č,frames->Ő
open PySem.MeetsSeq.EqGives renaming int->ĸ
open PySem.W.WShape renaming has->ŋ
open PySem.W.WData renaming int->Ŗ
abbrev Y:=List
abbrev Ř:=Option
theorem S{α:Sort _}{a:α}:a=a:=rfl
local macro_rules|`(())=>`(by omega)
local macro_rules|`('b')=>`(by decide)
local macro_rules|`('a')=>`(by decide +kernel)
local macro_rules|`(tactic|show $e)=>`(tactic|exact $e)
section
open Lean
def cV9:Nat->Term->MacroM (TSyntax `rcasesPat)
 |0,_=>Macro.throwUnsupported
 |n+1,t=>do match t with
  |`($x:ident)=>`(rcasesPat|$x:ident)
  |`(_)=>`(rcasesPat|_)
  |`(⟨$ps,*⟩)=>do
   let qs←ps.getElems.mapM fun p=>do
    let q←cV9 n p
    `(Lean.Parser.Tactic.rcasesPatLo|$q:rcasesPat)
   `(rcasesPat|⟨$qs,*⟩)
  |_=>Macro.throwUnsupported
end
local macro_rules|`(tactic|let $p:term:=$e)=>do
 let q←cV9 99 p
 `(tactic|obtain $q:rcasesPat:=$e)
abbrev fI(x:PySem.Str):Prop:=(x==("__classdict__":PySem.Str))=false
abbrev ab(x:PySem.Str):Prop:=(x==("__debug__":PySem.Str))=false
abbrev Jd:=@if_neg
abbrev Jj:=@if_pos
abbrev JG:=@decide_eq_false
abbrev JK:=@beq_self_eq_true
abbrev JV:=@of_decide_eq_true
abbrev JY:=@congrArg
abbrev J4:=@decide_eq_true
abbrev Kg:=@of_decide_eq_false
abbrev K2:=@beq_eq_false_iff_ne
abbrev Ly:=@decide_eq_true_eq
abbrev LG:=@beq_iff_eq
abbrev L4:=@if_true
abbrev Mw:=@beq_false_of_ne
abbrev Nm:=@if_false
local macro_rules|`(tactic|ac_rfl)=>`(tactic|exact⟨rfl,rfl,rfl,by decide +kernel,rfl,by decide +kernel,by decide +kernel⟩)
local macro_rules|`(tactic|lia)=>`(tactic|decide +kernel)
local macro_rules|`(tactic|nofun)=>`(tactic|first|exact Or.inl rfl|exact Or.inr (Or.inl rfl)|exact Or.inr (Or.inr rfl)|exact .inr rfl|assumption)
theorem V6{c:Sort _}{a:c}{b:Prop}:a=a\/b:=.inl rfl
namespace L2
open PySem PySem.Spec PyProof.Rows
noncomputable abbrev ay:=Sum Int Str
noncomputable def jM:ay->Value->Bool
 |.inl k,v=>Value.isInt k v
 |.inr x,v=>Value.isStrOf x v
noncomputable def zy(w:È):ay->Int
 |.inl k=>hashInt k
 |.inr x=>hashStr w x
def iq:∀{k:ay}{v:Value},jM k v=ř->(∃i t,k=à i/\v=Value.int i t)\/(∃x t,k=ú x/\v=Value.str x t)
 |.inl i,v,h=>by let⟨t,e⟩:=Value.isInt_shape (k:=i) (v:=v) h;show .inl ⟨i,t,S,e⟩
 |.inr x,v,h=>by let⟨t,e⟩:=Value.isStrOf_shape (x:=x) (v:=v) h;show .inr ⟨x,t,S,e⟩
def x8(i:Int)(t:Ł):jM (.inl i) (.int i t)=ř:=by simp[jM,Value.isInt]
def xL(x:Str)(t:Ł):jM (.inr x) (.str x t)=ř:=by simp[jM,Value.isStrOf]
def xX(a b:Int):decide ((à a:ay)=à b)=(a==b):=by
 by_cases e:a=b
 ·subst e;simp
 ·have h:¬ (à a:ay)=à b:=λq=>e (ĉ q);rw[JG h];show (K2.mpr e).symm
def C3(a b:Str):decide ((ú a:ay)=ú b)=decide (a=b):=by
 by_cases e:a=b
 ·subst e;simp
 ·have h:¬ (ú a:ay)=ú b:=λq=>e (ú.inj q);rw[JG h,JG e]
def C8(a:Int)(b:Str):decide ((à a:ay)=ú b)=Ś:=JG (λq=>nomatch q)
def Cf(a:Str)(b:Int):decide ((ú a:ay)=à b)=Ś:=JG (λq=>nomatch q)
noncomputable def fu(prog:Å)(w:È):PySem.KeyKind prog w ay where
 is:=jM
 hash:=zy w
 inj:=λv a b g f=>by
  rcases iq g with⟨i,t,rfl,rfl⟩|⟨x,t,rfl,rfl⟩
  ·rcases iq f with⟨j,u,rfl,e⟩|⟨y,u,rfl,e⟩
   ·injection e with e1 _;rw[e1]
   ·show nomatch e
  ·rcases iq f with⟨j,u,rfl,e⟩|⟨y,u,rfl,e⟩
   ·show nomatch e
   ·injection e with e1 _;rw[e1]
 byValue:=λk v h=>by rcases iq h with⟨i,t,rfl,rfl⟩|⟨x,t,rfl,rfl⟩<;>rfl
 pyHash:=λc h=>by
  rcases iq c with⟨i,t,rfl,rfl⟩|⟨x,t,rfl,rfl⟩
  ·show wpAny_pyHash_int h
  ·show wpAny_pyHash_str h
 eqBool:=λl c h=>by
  rcases iq l with⟨i,t,rfl,rfl⟩|⟨x,t,rfl,rfl⟩
  ·rcases iq c with⟨j,u,rfl,rfl⟩|⟨y,u,rfl,rfl⟩
   ·rw[xX]at h;show wpAny_eqBool_int h
   ·rw[C8]at h;show SeqAt.EqAt.int_str i t y u _ _ _ _ h
  ·rcases iq c with⟨j,u,rfl,rfl⟩|⟨y,u,rfl,rfl⟩
   ·rw[Cf]at h;show SeqAt.EqAt.str_int x t j u _ _ _ _ h
   ·rw[C3]at h;show wpAny_eqBool_str h
 «strs»:=λk x t v h=>by
  rcases iq h with⟨i,u,rfl,e⟩|⟨y,u,rfl,e⟩
  ·show nomatch e
  ·injection e with e1 _;subst e1;cases v<;>rfl
def EV(prog:Å)(w:È)(i:Int)(t:Ł):(fu prog w).is (.inl i) (.int i t)=ř:=x8 i t
def yQ(prog:Å)(w:È)(x:Str)(t:Ł):(fu prog w).is (.inr x) (.str x t)=ř:=xL x t
inductive V where
 |non|bl (b:Bool)|int (i:Int)|str (x:Str)|byt (b:Array UInt8)|flt (b:UInt64)|ref (a:Addr)|ty (n:String)
 deriving DecidableEq
noncomputable def RelV:V->Value->Prop
 |.non,u=>u=Value.none
 |.bl b,u=>u=Value.bool b
 |.int i,u=>∃t,u=Value.int i t
 |.str x,u=>∃t,u=Value.str x t
 |.byt b,u=>∃t,u=Value.bytes b t
 |.flt b,u=>∃t,u=Value.float b t
 |.ref a,u=>u=Value.ref a
 |.ty n,u=>u=Value.type n
noncomputable abbrev Vals:Y V->Y Value->Prop:=Paired RelV
def Vals.length{xs:Y V}{us:Y Value}(r:Vals xs us):xs.length=us.length:=Md r
def Vals.get:∀{xs:Y V}{us:Y Value}{i:Nat}{x:V},Vals xs us->xs[i]?=Z x->∃u,us[i]?=Z u/\RelV x u
 |_,_,_,_,.nil,e=>by simp at e
 |_,_,0,_,.cons r _,e=>by simp at e;subst e;show⟨_,S,r⟩
 |_,_,i+1,x,.cons _ t,e=>by let⟨u,a,c⟩:=Vals.get (i:=i) (x:=x) t (by simpa using e);show⟨u,by simpa using a,c⟩
def Vals.set{x:V}{u:Value}(r:RelV x u):∀{xs:Y V}{us:Y Value}(i:Nat),Vals xs us->Vals (xs.set i x) (us.set i u)
 |_,_,_,.nil=>.nil
 |_,_,0,.cons _ t=>.cons r t
 |_,_,i+1,.cons q t=>.cons q (Vals.set r i t)
def Vals.append:∀{xs ys:Y V}{us a:Y Value},Vals xs us->Vals ys a->Vals (xs++ys) (us++a)
 |_,_,_,_,.nil,s=>s
 |_,_,_,_,.cons r t,s=>.cons r (Vals.append t s)
def Vals.take:∀{xs:Y V}{us:Y Value}(n:Nat),Vals xs us->Vals (xs.take n) (us.take n)
 |_,_,0,_=>.nil
 |_,_,_+1,.nil=>.nil
 |_,_,n+1,.cons r t=>.cons r (Vals.take n t)
def Vals.drop:∀{xs:Y V}{us:Y Value}(n:Nat),Vals xs us->Vals (xs.drop n) (us.drop n)
 |_,_,0,r=>r
 |_,_,_+1,.nil=>.nil
 |_,_,n+1,.cons _ t=>Vals.drop n t
noncomputable def RelO:Ř V->Ř Value->Prop
 |some v,Z u=>RelV v u
 |none,ŗ=>True
 |_,_=>False
noncomputable def KV{a:Type}:Y (a×V)->Y (a×Value)->Prop:=Paired λ(p:a×V)(q:a×Value)=>p.1=q.1/\RelV p.2 q.2
noncomputable def kV:ay->V
 |.inl i=>.int i
 |.inr x=>.str x
inductive HO where
  |lst (xs:List V)
  |tup (xs:List V)
  |dK (Nz:List (ay×V))|dT (Nz:List (List ay×V))
  |set (Q:Int->Bool) (n:Nat)
  |ins (C dx:Addr) (fs:List (Str×V))
  |own (x:Addr)
  |xd (fs:List (Str×V))
  |met (f x:Addr)
  |rng (lo hi:Int)
  |frz (o:Õ) (u:HO)
  |tbl (ps:Array Value)
  |ext (φ:Heap->Prop)
noncomputable abbrev Hp:=Addr->Ř HO
noncomputable def ao(H:Hp)(a:Addr)(o:HO):Hp:=λb=>if b=a then Z o else H b
def bh{H:Hp}{a:Addr}{o:HO}:ao H a o a=Z o:=by unfold ao;rw[Jj S]
def aR{H:Hp}{a b:Addr}{o:HO}(h:b≠a):ao H a o b=H b:=by unfold ao;rw[Jd h]
def Ck{H:Hp}{a:Addr}{o u:HO}:ao (ao H a o) a u=ao H a u:=by
 funext b;unfold ao;split<;>rfl
def Eg{H:Hp}{a b:Addr}{o u:HO}(h:H a=Z o)(h':H b=Z u)(d:o≠u):a≠b:=by intro e;subst e;rw[h]at h';show d (JJ h')
def cU{H:Hp}{a b:Addr}{o:HO}(h:H a=Z o)(h':H b=ŗ):a≠b:=by intro e;subst e;rw[h]at h';cases h'
noncomputable def IsTupD(h:Heap)(a:Addr)(c:Array Value):Prop:=∃o,h.get? a=Z o/\(o.cls=.type "tuple"/\o.dict=ŗ)/\∃n,o.data=.seq c n
def IsTupD.tup{h:Heap}{a:Addr}{f:Array Value}(x:IsTupD h a f):ġ h a f:=let ⟨o,e,c,d⟩:=x;⟨o,e,c.1,d⟩
def IsTupD.lt{h:Heap}{a:Addr}{c:Array Value}(x:IsTupD h a c):a<h.objs.size:=x.tup.lt
def IsTupD.new(h:Heap)(a:Array Value):IsTupD (h.push { cls:=.type "tuple",data:=.seq a }) h.objs.size a:=⟨_,Jq _ S,⟨S,S⟩,_,S⟩
section
variable(P:Å)(w:È)
noncomputable def ObjOk(H:Hp)(h:Heap)(a:Addr):HO->Prop
 |.lst xs=>xs.length<=sizeLine/\∃(its:Y Value)(n:Nat),Vals xs its/\h.get? a=Z { cls:=.type "list",data:=.seq its.toArray n }
 |.tup xs=>xs.length<=sizeLine/\∃its:Y Value,Vals xs its/\IsTupD h a its.toArray
 |.dK g=>g.length<=sizeLine/\(a==Ú)=Ś/\∃vs,KV g vs/\h.DictOf (fu P w) a vs
 |.dT g=>g.length<=sizeLine/\(a==Ú)=Ś/\∃xs:Y (Y ay×Addr×Value),
   Paired (λ(p:Y ay×V)(q:Y ay×Addr×Value)=>p.1=q.1/\H q.2.1=Z (.tup (p.1.map kV))/\RelV p.2 q.2.2) g xs /\
   ∃o es A,h.get? a=Z o/\o.ExactDict/\o.data=.dict es A/\es.toList=xs.map (entryOfKey (Ă (fu P w)))/\(xs.map (·.1)).Nodup
 |.set Q n=>h.SetOf (intKind P w) a Q n
 |.ins C j fs=>H j=Z (.own a)/\fs.length<=1000/\j≠a/\h.get? a=Z (í C j) /\
   ∃e,h.Ns1 j e/\(∀f,RelO (fs.lookup f) (e f))/\PySem.Within e (fs.map (·.1))
 |.own _=>∃o,h.get? a=Z o
 |.xd fs=>∃e,h.Ns1 a e/\∀f,RelO (fs.lookup f) (e f)
 |.rng lo hi=>∃t u v,h.get? a=Z { cls:=.type "range",data:=.fields #[.int lo t,.int hi u,.int 1 v] }
 |.frz o u=>h.get? a=Z o/\ObjOk H h a u
 |.tbl ps=>h.get? a=Z { cls:=.none,data:=.fields #[] }\/∃(c:Addr)(o:Õ)(vs:Array Value)(x y:Value)(q:Str)(t t':Ł),ps=#[x,y,.str q t]/\H c=Z (.frz o (.own a)) /\
   h.get? a=Z { cls:=.none,data:=.fields #[x,y,.ref c] }/\o.data=.fields vs/\vs[1]?=Z (.str q t')
 |.met f x=>h.get? a=Z (ğ (.ref f) (.ref x))
 |.ext l=>l h/\(∃o,h.get? a=Z o)/\∀r z:Heap,l r->(∀o,r.get? a=Z o->z.get? a=Z o)->l z
noncomputable def HOk(H:Hp)(h:Heap):Prop:=∀a o,H a=Z o->ObjOk P w H h a o
end
section
variable{P:Å}{w:È}{H g:Hp}{h h':Heap}{a:Addr}{o:HO}
def ObjOk.lt(x:ObjOk P w H h a o):a<h.objs.size:=by
 cases o with
 |lst xs=>let⟨_,_,_,_,e⟩:=x;show Jx e
 |tup xs=>let⟨_,_,_,p⟩:=x;show p.lt
 |dK c=>let⟨_,_,_,_,o,_,_,e,_⟩:=x;show Jx e
 |dT c=>let⟨_,_,_,_,o,_,_,e,_⟩:=x;show Jx e
 |set Q n=>let⟨o,_,_,_,e,_⟩:=x;show Jx e
 |ins C j fs=>let⟨_,_,_,e,_⟩:=x;show Jx e
 |own y=>let⟨_,e⟩:=x;show Jx e
 |xd fs=>let⟨_,⟨_,_,_,e,_⟩,_⟩:=x;show Jx e
 |rng lo hi=>let⟨_,_,_,e⟩:=x;show Jx e
 |frz l u=>let⟨e,_⟩:=x;show Jx e
 |tbl ps=>rcases x with x|⟨_,_,_,_,_,_,_,_,_,_,x,_⟩<;>show Jx x
 |met f y=>show Jx (show h.get? a=Z _ from x)
 |ext r=>let⟨_,⟨_,e⟩,_⟩:=x;show Jx e
def Paired.mapP{c e:Type}{F G:c->e->Prop}:∀{l₁:Y c}{l₂:Y e},Paired F l₁ l₂->(∀a b,F a b->G a b)->Paired G l₁ l₂
 |_,_,.nil,_=>.nil
 |_,_,.cons r t,f=>.cons (f _ _ r) (Paired.mapP t f)
def ObjOk.stay(x:ObjOk P w H h a o)(k:∀b u,(b=a\/H b=Z (.own a))->h.get? b=Z u->h'.get? b=Z u)
  (L:∀b,H b=Z (.own a)->g b=Z (.own a)) (M:∀b xs,H b=Z (.tup xs)->g b=Z (.tup xs)) (K:∀b o u,H b=Z (.frz o u)->g b=Z (.frz o u)):ObjOk P w g h' a o:=by
 induction o with
 |lst xs=>let⟨z,its,n,r,e⟩:=x;show⟨z,its,n,r,k _ _ (.inl S) e⟩
 |tup xs=>let⟨z,its,r,j,e,c⟩:=x;show⟨z,its,r,j,k _ _ (.inl S) e,c⟩
 |dK F=>let⟨z,y,vs,r,j,es,l,e,c⟩:=x;show⟨z,y,vs,r,j,es,l,k _ _ (.inl S) e,c⟩
 |dT F=>
  let⟨z,y,xs,r,j,es,l,e,c⟩:=x;show⟨z,y,xs,Paired.mapP r λp q z=>⟨z.1,M _ _ z.2.1,z.2.2⟩,j,es,l,k _ _ (.inl S) e,c⟩
 |set U n=>let⟨j,es,l,t,e,c⟩:=x;show⟨j,es,l,t,k _ _ (.inl S) e,c⟩
 |ins C O fs=>
  let⟨d,z,ne,e,B,⟨E,es,l,A,c⟩,r⟩:=x;show⟨L _ d,z,ne,k _ _ (.inl S) e,B,⟨E,es,l,k _ _ (.inr d) A,c⟩,r⟩
 |own y=>let⟨j,e⟩:=x;show⟨j,k _ _ (.inl S) e⟩
 |xd fs=>let⟨B,⟨E,es,l,e,c⟩,r⟩:=x;show⟨B,⟨E,es,l,k _ _ (.inl S) e,c⟩,r⟩
 |rng lo hi=>let⟨t,u,v,e⟩:=x;show⟨t,u,v,k _ _ (.inl S) e⟩
 |frz j u N=>let⟨e,q⟩:=x;show⟨k _ _ (.inl S) e,N q⟩
 |tbl ps=>
  rcases x with x|⟨c,o,vs,y,z,q,t,t',G,A,I,J⟩
  ·show .inl (k a _ (.inl S) x)
  ·show .inr ⟨c,o,vs,y,z,q,t,t',G,K _ _ _ A,k a _ (.inl S) I,J⟩
 |met f y=>
  have e:h.get? a=Z (ğ (.ref f) (.ref y)):=x;change h'.get? a=Z (ğ (.ref f) (.ref y));show k a _ (.inl S) e
 |ext Q=>let⟨p,⟨o,e⟩,st⟩:=x;show⟨st _ _ p λo q=>k _ _ (.inl S) q,⟨o,k _ _ (.inl S) e⟩,st⟩
def HOk.lt(x:HOk P w H h)(e:H a=Z o):a<h.objs.size:=(x a o e).lt
def HOk.fresh(x:HOk P w H h)(e:h.objs.size<=a):H a=ŗ:=by
 cases q:H a with
 |none=>rfl
 |some u=>show absurd (JR (x.lt q) e) (KH _)
def HOk.kept(x:HOk P w H h)(k:∀b u,h.get? b=Z u->h'.get? b=Z u):HOk P w H h':=λa o e=>
 (x a o e).stay (λb u _ q=>k b u q) (λ_ q=>q) (λ_ _ q=>q) λ_ _ _ q=>q
def HOk.laid(x:HOk P w H h)(k:∀b u,h.get? b=Z u->h'.get? b=Z u)(l:h.objs.size<=a)(new:ObjOk P w (ao H a o) h' a o):HOk P w (ao H a o) h':=λb u e=>by
 have f:=x.fresh l;by_cases j:b=a
 ·subst j;rw[bh]at e;cases e;show new
 ·rw[aR j]at e
  show (x b u e).stay (λc v _ q=>k c v q) (λc q=>by rw[aR (cU q f)];show q) (λc xs q=>by rw[aR (cU q f)];show q) λc p r q=>by rw[aR (cU q f)];show q
end
noncomputable def Rd(H:Hp)(a:Addr)(u:HO):Prop:=H a=Z u\/∃o,H a=Z (.frz o u)
def Rd.ok{P:Å}{w:È}{H:Hp}{h:Heap}{a:Addr}{u:HO}(r:Rd H a u)(x:HOk P w H h):ObjOk P w H h a u:=by
 rcases r with r|⟨o,r⟩
 ·show x a u r
 ·let⟨_,q⟩:=x a _ r;show q
noncomputable def kH:Ř HO->Prop
 |some (.lst _)=>True
 |some (.dK _)=>True
 |some (.dT _)=>True
 |some (.set _ _)=>True
 |some (.ins _ _ _)=>True
 |some (.ext _)=>True
 |_=>False
section
variable{P:Å}{w:È}{H:Hp}{h h':Heap}{x e:Addr}{o':HO}
def HOk.write(ok:HOk P w H h)(mu:kH (H x))(p:e=x\/H e=Z (.own x))(k:∀b u,b≠e->h.get? b=Z u->h'.get? b=Z u)(B:∃u,h'.get? e=Z u)
  (new:ObjOk P w (ao H x o') h' x o'):HOk P w (ao H x o') h':=λb u q=>by
 have o:∀c y,H c=Z (.own y)->c≠x:=λc y r z=>by subst z;rw[r]at mu;show mu
 have C:∀c xs,H c=Z (.tup xs)->c≠x:=λc xs r z=>by subst z;rw[r]at mu;show mu
 have E:∀c j l,H c=Z (.frz j l)->c≠x:=λc j l r z=>by subst z;rw[r]at mu;show mu
 by_cases f:b=x
 ·subst f;rw[bh]at q;cases q;show new
 ·rw[aR f]at q;by_cases a:b=e
  ·have A:H b=Z (.own x):=by
    rcases p with z|z
    ·show absurd (a.trans z) f
    ·rw[a];show z
   rw[q]at A;cases A;let⟨v,F⟩:=B;show⟨v,by rw[a];show F⟩
  ·refine (ok b u q).stay (λc v g r=>k c v ?_ r) (λc r=>by rw[aR (o c b r)];show r) (λc xs r=>by rw[aR (C c xs r)];show r) λc j l r=>by rw[aR (E c j l r)];show r
   rcases g with rfl|g
   ·show a
   ·rintro rfl;rcases p with z|z
    ·show o c b g z
    ·rw[g]at z;cases z;show f S
end
structure Un(fs ex:List Addr)(H H':Hp)(h h':Heap):Prop where
 keep:∀b o,h.get? b=Z o->H b=ŗ->b∉fs->b∉ex->h'.get? b=Z o
 slot:∀b o,h.get? b=Z o->H b=ŗ->b∈fs->b∉ex->∃sl,h'.get? b=Z { o with slots:=sl }
 free:∀b o,h.get? b=Z o->H b=ŗ->b∉ex->H' b=ŗ
 there:∀b o,h.get? b=Z o->b∉ex->∃o',h'.get? b=Z o'
 tups:∀b xs,H b=Z (.tup xs)->H' b=Z (.tup xs)
 frzs:∀b o u,H b=Z (.frz o u)->H' b=Z (.frz o u)
 tbls:∀b ps,H b=Z (.tbl ps)->H' b=Z (.tbl ps)
section
variable{fs ex:Y Addr}{H f:Hp}{h c h':Heap}{a x e:Addr}{o:HO}
def Un.any(u:Un fs ex H f h c){b:Addr}{g:Õ}(q:h.get? b=Z g)(n:H b=ŗ)(l:b∉ex):∃sl,c.get? b=Z { g with slots:=sl }:=by
 by_cases j:b∈fs
 ·show u.slot b g q n j l
 ·show⟨g.slots,u.keep b g q n j l⟩
def Un.kept(k:∀b u,h.get? b=Z u->h'.get? b=Z u):Un fs ex H H h h':=
 ⟨λb g q _ _ _=>k b g q,λb g q _ _ _=>⟨g.slots,k b g q⟩,λ_ _ _ n _=>n,λb g q _=>⟨g,k b g q⟩,λ_ _ q=>q,λ_ _ _ q=>q,λ_ _ q=>q⟩
def Un.refl:Un fs ex H H h h:=Un.kept λ_ _ q=>q
def Un.laid(k:∀b u,h.get? b=Z u->h'.get? b=Z u)(j:h.objs.size<=a)(g:H a=ŗ):Un fs ex H (ao H a o) h h' where
 keep:=λb u q _ _ _=>k b u q
 slot:=λb u q _ _ _=>⟨u.slots,k b u q⟩
 free:=λb u q n _=>by rw[aR (JN (JR (Jx q) j))];show n
 there:=λb u q _=>⟨u,k b u q⟩
 tups:=λb xs q=>by rw[aR (cU q g)];show q
 frzs:=λb u xs q=>by rw[aR (cU q g)];show q
 tbls:=λb ps q=>by rw[aR (cU q g)];show q
def Un.write(mu:kH (H x))(w:e=x\/H e=Z (.own x))(k:∀b u,b≠e->h.get? b=Z u->h'.get? b=Z u)(v:∃u,h'.get? e=Z u):Un fs ex H (ao H x o) h h':=by
 have p:∀b,H b=ŗ->b≠x:=λb n z=>by subst z;rw[n]at mu;show mu
 have l:∀b,H b=ŗ->b≠e:=λb n z=>by
  subst z;rcases w with r|r
  ·show p b n r
  ·rw[n]at r;cases r
 have g:∀b u,H b=Z u->¬ kH (Z u)->b≠x:=λb u q nm z=>by subst z;rw[q]at mu;show nm mu
 refine⟨λb u q n _ _=>k b u (l b n) q,λb u q n _ _=>⟨u.slots,k b u (l b n) q⟩,λb u q n _=>by rw[aR (p b n)];show n,λb u q _=>?_,
  λb xs q=>by rw[aR (g b _ q λz=>z)];show q,λb u xs q=>by rw[aR (g b _ q λz=>z)];show q,λb ps q=>by rw[aR (g b _ q λz=>z)];show q⟩
 by_cases j:b=e
 ·subst j;show v
 ·show⟨u,k b u j q⟩
end
noncomputable def mT(h:Heap)(H:Hp):Y Addr:=(List.range h.objs.size).filter λa=>(H a).isSome
noncomputable def io(h:Heap)(H:Hp):Heap:=PySem.W.hideAll h (mT h H)
def Fa(h:Heap)(H:Hp):(io h H).objs.size=h.objs.size:=PySem.W.hideAll_size _ _
def yp{h:Heap}{H:Hp}{b:Addr}{o:Õ}(e:h.get? b=Z o)(n:H b=ŗ):(io h H).get? b=Z o:=
 PySem.W.hideAll_get _ e λa=>by have q:(H b).isSome=ř:=(JP.mp a).2;rw[n]at q;simp at q
def Av{h:Heap}{H:Hp}{b:Addr}{o:Õ}(e:(io h H).get? b=Z o):h.get? b=Z o/\H b=ŗ:=by
 have a:h.get? b=Z o:=PySem.W.of_hideAll (mT h H) e;refine⟨a,?_⟩
 cases q:H b with
 |none=>rfl
 |some x=>
  have c:b∈mT h H:=JP.mpr ⟨JA.mpr (Jx a),by simp[q]⟩;have z:(io h H).get? b=ŗ:=PySem.W.hideAll_none (mT h H) c;rw[z]at e;cases e
structure Mod(K:Â)(mg:Str->Option Value)(base:Heap):Prop where
 kin:K.In base
 glob:base.Ns Á mg
 blt:∃mb,base.Ns æ mb/\∀x:Str,x≠"__name__"->mb x=Û x
 nolimit:base.NoLimit
 bmod:∃bm ob,mg "__builtins__"=Z (.ref bm)/\bm≠æ/\base.get? bm=Z ob/\ob.cls=.type "module"/\ob.dict=Z æ/\ob.data=.plain
 seer:base.NoSeer
 dig:∃mc,base.Ns cStatics mc/\mc "sys.int_max_str_digits"=ŗ
structure Cx where
 prog:Å
 w:È
 K:Â
 mg:Str->Option Value
 base:Heap
 A:Ê
 N:List Str
 s₀:À
 H₀:Hp
 env:ë
 outer:List ë
 stack:List ë
 ex:List Addr
 fn:Str->Bool
 calm:Bool
 pn:List (Addr×Õ)
 xe:Value->À->Prop
noncomputable def gv(l:Y ë):Y Addr:=l.filterMap (·.frame)
noncomputable abbrev Cx.fs(X:Cx):Y Addr:=gv X.outer
noncomputable def cH(a:â)(x:Str):Prop:=a.names.lookup x=Z .local\/a.names.lookup x=Z .cell\/a.names.lookup x=Z .free
noncomputable def eI(a:â)(x:Str):Prop:=a.names.lookup x=Z .local\/a.names.lookup x=Z .cell
noncomputable def Gj(env:ë)(h:Heap)(m:Str->Ř Value)(x:Str)(u:Value):Prop:=
 (env.kindOf x=Z .local/\m x=Z u)\/((env.kindOf x=Z .cell\/env.kindOf x=Z .free)/\∃c,env.cells.lookup x=Z c/\h.IsCell c (Z u))
structure Cx.Ok(X:Cx):Prop where
 mod:Mod X.K X.mg X.base
 kind:X.env.scope.kind=.function
 glob:X.env.globals=Á
 blt:X.env.builtins=æ
 above:X.s₀.heap.objs.size<=X.env.locals
 inj:∀x y c,X.env.cells.lookup x=Z c->X.env.cells.lookup y=Z c->x=y
 has:∀x,(X.env.kindOf x=Z .cell\/X.env.kindOf x=Z .free)->∃c,X.env.cells.lookup x=Z c
 cab:∀x c,X.fn x=ř->X.env.cells.lookup x=Z c->X.s₀.heap.objs.size<=c
 hd:X.calm=ř->X.A.handled=ŗ
 frames:X.A.frames=Z X.stack
 stk:X.stack=X.outer\/(X.stack=X.env::X.outer/\X.env.frame=Z X.env.locals)
 exf:∀b∈X.ex,b≠X.env.locals/\∀x c,X.env.cells.lookup x=Z c->c≠b
 bs:∀b o,X.base.get? b=Z o->X.s₀.heap.get? b=Z o/\X.H₀ b=ŗ
 bsz:X.base.objs.size<=X.s₀.heap.objs.size
 noex:∀b o,X.base.get? b=Z o->b∉X.ex
 exfs:∀b∈X.ex,b∉X.fs
 funs:X.s₀.heap.FunFrames X.base X.outer
 frf:∀b∈X.fs,X.H₀ b=ŗ
structure Inv(X:Cx)(pins:List (Addr×Õ))(σ:List (Option V))(H:Hp)(s:À):Prop where
 ok:X.Ok
 os:s.os=X.s₀.os
 bare:ð s.gens
 base:Un X.fs X.ex X.H₀ H X.s₀.heap s.heap
 loc:∃m,s.heap.Ns X.env.locals m/\∀(i:Nat)(x:Str)(v:V),X.N[i]?=Z x->σ[i]?=Z (Z v)->cH X.env.scope x->∃u,RelV v u/\Gj X.env s.heap m x u
 cell:∀x c,X.env.cells.lookup x=Z c->∃v,s.heap.IsCell c v
 free:H X.env.locals=ŗ
 freeC:∀x c,X.env.cells.lookup x=Z c->H c=ŗ
 pin:∀p∈X.pn++pins,s.heap.get? p.1=Z p.2/\H p.1=ŗ/\p.1≠X.env.locals/\p.1∉X.fs/\∀v,p.2.data≠.cell v
 hok:HOk X.prog X.w H s.heap
 len:σ.length=X.N.length
section
variable{X:Cx}{f:Y (Addr×Õ)}{g:Y (Ř V)}{H w:Hp}{s:À}{h':Heap}
def Cx.Ok.nofr(ok:X.Ok){b:Addr}{o:Õ}(e:X.base.get? b=Z o):b∉X.fs:=λa=>by have:=(ok.funs.mem a).1;rw[e]at this;cases this
def Inv.bs(I:Inv X f g H s):∀b o,X.base.get? b=Z o->s.heap.get? b=Z o/\H b=ŗ:=λb o e=>
 ⟨I.base.keep b o (I.ok.bs b o e).1 (I.ok.bs b o e).2 (I.ok.nofr e) (I.ok.noex b o e),I.base.free b o (I.ok.bs b o e).1 (I.ok.bs b o e).2 (I.ok.noex b o e)⟩
def Inv.bk(I:Inv X f g H s):∀b o,X.base.get? b=Z o->s.heap.get? b=Z o:=λb o e=>(I.bs b o e).1
def Inv.mod(I:Inv X f g H s):Mod X.K X.mg X.base:=I.ok.mod
def Inv.kIn(I:Inv X f g H s):X.K.In s.heap:=I.ok.mod.kin.keeps I.bk
def Inv.lt(I:Inv X f g H s):X.env.locals<s.heap.objs.size:=let ⟨_,hn,_⟩:=I.loc;hn.lt
def Inv.sz(I:Inv X f g H s):X.s₀.heap.objs.size<=s.heap.objs.size:=JC I.ok.above (Ko I.lt)
def Inv.nofs(I:Inv X f g H s){a:Addr}(h:s.heap.objs.size<=a):a∉X.fs:=λc=>by let⟨_,o,e,_⟩:=I.ok.funs.mem c;show absurd (JR (Jx e) (JC I.sz h)) (KH _)
def Inv.cne(I:Inv X f g H s):∀x c,X.env.cells.lookup x=Z c->c≠X.env.locals:=λx c e z=>by let⟨v,o,a,hd⟩:=I.cell x c e;let⟨m,⟨o',es,l,h,j,_⟩,_⟩:=I.loc;rw[z,h]at a;cases a;rw[j]at hd;cases hd
def Inv.funs(I:Inv X f g H s):s.heap.FunFrames X.base X.outer:=by
 have all:∀(l:Y ë),(∀b∈gv l,b∈X.fs)->X.s₀.heap.FunFrames X.base l->s.heap.FunFrames X.base l:=by
  intro l
  induction l with
  |nil=>intro _ _;trivial
  |cons env r A=>
   intro j u;let⟨p,⟨L,o,h,v,x,hd⟩,y⟩:=u;have a:L∈X.fs:=j L (by unfold gv;rw[Lj,h];show Ji);let⟨sl,e⟩:=I.base.slot L o x (I.ok.frf L a) a λz=>I.ok.exfs L z a;show⟨p,⟨L,_,h,v,e,hd⟩,A (λb c=>j b (by unfold gv;rw[Lj,h];show Jh _ c)) y⟩
 show all X.outer (λ_ c=>c) I.ok.funs
def Inv.stack(I:Inv X f g H s):s.heap.FunFrames X.base X.stack:=by
 rcases I.ok.stk with e|⟨e,a⟩
 ·rw[e];show I.funs
 ·rw[e];let⟨m,c,_⟩:=I.loc;refine .cons (by rw[I.ok.kind];decide) a c ?_ I.funs;show Heap.get?_none_of_le (JC I.ok.bsz I.ok.above)
def Inv.stkSub(I:Inv X f g H s):∀b∈gv X.stack,b∈X.env.locals::X.fs:=λb a=>by
 rcases I.ok.stk with e|⟨e,c⟩
 ·rw[e]at a;show Jh _ a
 ·rw[e]at a;unfold gv at a;rw[Lj,c]at a;show a
def Inv.stkFree(I:Inv X f g H s):∀b∈gv X.stack,H b=ŗ:=λb a=>by
 rcases Jt.mp (I.stkSub b a)with e|a
 ·rw[e];show I.free
 ·let⟨_,o,c,_⟩:=I.ok.funs.mem a;show I.base.free b o c (I.ok.frf b a) λz=>I.ok.exfs b z a
def Inv.step{g':Array GenState}{t':Nat}{d':Drawn}{ch:Y Addr}(I:Inv X f g H s)
  (B:∀b∈ch,(b∈X.ex\/X.s₀.heap.objs.size<=b)/\b≠X.env.locals/\(∀x c,X.env.cells.lookup x=Z c->c≠b)/\∀p∈X.pn++f,p.1≠b)
  (keep:∀b o,b≠X.env.locals->b∉X.fs->b∉ch->s.heap.get? b=Z o->H b=ŗ->h'.get? b=Z o)
  (slot:∀b o,b≠X.env.locals->b∈X.fs->b∉ch->s.heap.get? b=Z o->H b=ŗ->∃sl,h'.get? b=Z { o with slots:=sl }) (free:∀b o,b∉ch->s.heap.get? b=Z o->H b=ŗ->w b=ŗ)
  (there:∀b o,b∉ch->s.heap.get? b=Z o->∃o',h'.get? b=Z o')
  (tups:∀b xs,H b=Z (.tup xs)->w b=Z (.tup xs)) (frzs:∀b o u,H b=Z (.frz o u)->w b=Z (.frz o u)) (tbls:∀b ps,H b=Z (.tbl ps)->w b=Z (.tbl ps))
  (ns:∀m,s.heap.Ns X.env.locals m->h'.Ns X.env.locals m) (hok:HOk X.prog X.w w h') (P:ð g') :
  Inv X f g w { s with heap:=h',gens:=g',drawn:=d',toks:=t' }:=by
 have E:∀b o,X.s₀.heap.get? b=Z o->b≠X.env.locals:=λb o e=>JN (JR (Jx e) I.ok.above)
 have F:∀b o,X.s₀.heap.get? b=Z o->b∉X.ex->b∉ch:=λb o e a y=>by
  rcases (B b y).1 with z|z
  ·show a z
  ·show absurd (JR (Jx e) z) (KH _)
 have h:∀x c,X.env.cells.lookup x=Z c->∀v,s.heap.IsCell c v->h'.IsCell c v:=λx c e v N=>by
  let⟨o,A,hd⟩:=N;have C:c∉ch:=λz=>(B c z).2.2.1 x c e S;by_cases K:c∈X.fs
  ·let⟨sl,q⟩:=slot c o (I.cne x c e) K C A (I.freeC x c e);show⟨_,q,hd⟩
  ·show⟨o,keep c o (I.cne x c e) K C A (I.freeC x c e),hd⟩
 refine⟨I.ok,I.os,P,⟨λb o e n y a=>?_,λb o e n y a=>?_,λb o e n a=>?_,λb o e a=>?_,λb xs e=>tups b xs (I.base.tups b xs e),λb o xs e=>frzs b o xs (I.base.frzs b o xs e),λb ps e=>tbls b ps (I.base.tbls b ps e)⟩,?_,λx c e=>?_,?_,λx c e=>?_,λp L=>?_,hok,I.len⟩
 ·show keep b o (E b o e) y (F b o e a) (I.base.keep b o e n y a) (I.base.free b o e n a)
 ·let⟨sl,j⟩:=I.base.slot b o e n y a;let⟨J,G⟩:=slot b _ (E b o e) y (F b o e a) j (I.base.free b o e n a);show⟨J,G⟩
 ·let⟨o',j⟩:=I.base.there b o e a;show free b o' (F b o e a) j (I.base.free b o e n a)
 ·let⟨o',j⟩:=I.base.there b o e a;show there b o' (F b o e a) j
 ·let⟨m,R,Q⟩:=I.loc;refine⟨m,ns m R,λi x v j G O=>?_⟩;let⟨u,r,l⟩:=Q i x v j G O;refine⟨u,r,?_⟩;rcases l with l|⟨k,c,e,z⟩
  ·show .inl l
  ·show .inr ⟨k,c,e,h x c e _ z⟩
 ·let⟨v,z⟩:=I.cell x c e;show⟨v,h x c e v z⟩
 ·let⟨m,⟨o,_,_,A,_⟩,_⟩:=I.loc;show free _ o (λz=>(B _ z).2.1 S) A I.free
 ·let⟨v,o,A,hd⟩:=I.cell x c e;show free c o (λz=>(B c z).2.2.1 x c e S) A (I.freeC x c e)
 ·let⟨e,n,ne,M,d⟩:=I.pin p L;have C:p.1∉ch:=λz=>(B p.1 z).2.2.2 p L S;show⟨keep p.1 p.2 ne M C e n,free p.1 p.2 C e n,ne,M,d⟩
def Inv.un{t':Nat}(I:Inv X f g H s)(u:Un X.fs [] H w s.heap h')(hok:HOk X.prog X.w w h'):Inv X f g w { s with heap:=h',toks:=t' }:=by
 let⟨m,⟨o,es,y,h,r⟩,_⟩:=id I.loc;let⟨sl,p⟩:=u.any h I.free (by simp)
 show I.step (g':=s.gens) (d':=s.drawn) (ch:=[]) (λ_ z=>nomatch z) (λb o _ a _ e n=>u.keep b o e n a (by simp)) (λb o _ a _ e n=>u.slot b o e n a (by simp)) (λb o _ e n=>u.free b o e n (by simp)) (λb o _ e=>u.there b o e (by simp)) u.tups u.frzs u.tbls (λA v=>by
  let⟨o',j,l,c,x⟩:=v;rw[h]at c;cases c
  show⟨_,j,l,p,x⟩) hok I.bare
def Inv.call{g':Array GenState}{t':Nat}{d':Drawn}{ch:Y Addr}(I:Inv X f g H s)(u:Un (gv X.stack) ch H w s.heap h')(hok:HOk X.prog X.w w h')(C:ð g')
  (l:∀b∈ch,(b∈X.ex\/X.s₀.heap.objs.size<=b)/\b≠X.env.locals/\(∀x c,X.env.cells.lookup x=Z c->c≠b)/\∀p∈X.pn++f,p.1≠b) :
  Inv X f g w { s with heap:=h',gens:=g',drawn:=d',toks:=t' }:=by
 let⟨m,⟨o,es,G,v,r⟩,_⟩:=id I.loc;let⟨sl,h⟩:=u.any v I.free λz=>(l _ z).2.1 S
 show I.step (ch:=ch) l (λb o h B a e n=>u.keep b o e n (λz=>(Jt.mp (I.stkSub b z)).elim h B) a) (λb o _ _ a e n=>u.any e n a) (λb o a e n=>u.free b o e n a) (λb o a e=>u.there b o e a) u.tups u.frzs u.tbls (λJ E=>by
  let⟨o',y,A,j,F⟩:=E;rw[v]at j;cases j
  show⟨_,y,A,h,F⟩) hok C
def Inv.turned{t':Nat}{a:Addr}(I:Inv X f g H s)(k:∀b o,b≠a->s.heap.get? b=Z o->h'.get? b=Z o)(G:H a=ŗ)(l:a≠X.env.locals)
  (A:a∈X.ex\/X.s₀.heap.objs.size<=a) (B:∀x c,X.env.cells.lookup x=Z c->c≠a) (C:∀p∈X.pn++f,p.1≠a):Inv X f g H { s with heap:=h',toks:=t' }:=by
 have j:∀b u,H b=Z u->b≠a:=λb u e z=>by rw[z,G]at e;cases e
 refine I.step (g':=s.gens) (d':=s.drawn) (ch:=[a]) (λb E=>?_) (λb o _ _ h e _=>k b o (λz=>h (by simp[z])) e) (λb o _ _ h e _=>⟨o.slots,k b o (λz=>h (by simp[z])) e⟩) (λ_ _ _ _ n=>n)
  (λb o h e=>⟨o,k b o (λz=>h (by simp[z])) e⟩) (λ_ _ e=>e) (λ_ _ _ e=>e) (λb ps e=>e) (λm F=>?_) (λb u e=>?_) I.bare
 ·have e:b=a:=by simpa using E
  subst e;show⟨A,l,B,C⟩
 ·let⟨o,es,y,J,r⟩:=F;show⟨o,es,y,k _ o (Kd l) J,r⟩
 ·refine (I.hok b u e).stay (λc v h q=>k c v ?_ q) (λ_ q=>q) (λ_ _ q=>q) λ_ _ _ q=>q;rcases h with z|z
  ·rw[z];show j b u e
  ·show j c _ z
def Inv.tok(I:Inv X f g H s)(t:Nat):Inv X f g H { s with toks:=t }:=I.un (h':=s.heap) (t':=t) Un.refl I.hok
def Inv.kept{t':Nat}(I:Inv X f g H s)(k:∀b u,s.heap.get? b=Z u->h'.get? b=Z u):Inv X f g H { s with heap:=h',toks:=t' }:=I.un (Un.kept k) (I.hok.kept k)
def Inv.laid{a:Addr}{o:HO}{t':Nat}(I:Inv X f g H s)(k:∀b u,s.heap.get? b=Z u->h'.get? b=Z u)(c:s.heap.objs.size<=a)(new:ObjOk X.prog X.w (ao H a o) h' a o) :
  Inv X f g (ao H a o) { s with heap:=h',toks:=t' }:=I.un (Un.laid k c (I.hok.fresh c)) (I.hok.laid k c new)
def Inv.write{x e:Addr}{o:HO}{t':Nat}(I:Inv X f g H s)(mu:kH (H x))(c:e=x\/H e=Z (.own x))(k:∀b u,b≠e->s.heap.get? b=Z u->h'.get? b=Z u)(a:∃u,h'.get? e=Z u)
  (new:ObjOk X.prog X.w (ao H x o) h' x o):Inv X f g (ao H x o) { s with heap:=h',toks:=t' }:=I.un (Un.write mu c k a) (I.hok.write mu c k a new)
def Inv.pins_of{a:Y (Addr×Õ)}(I:Inv X f g H s)(h:∀p∈a,s.heap.get? p.1=Z p.2/\H p.1=ŗ/\p.1≠X.env.locals/\p.1∉X.fs/\∀v,p.2.data≠.cell v):Inv X a g H s:=
 ⟨I.ok,I.os,I.bare,I.base,I.loc,I.cell,I.free,I.freeC,λp c=>(JH.mp c).elim (λz=>I.pin p (Lg _ z)) (h p),I.hok,I.len⟩
def vi{N:Y Str}(h:N.Nodup){i j:Nat}{x:Str}(a:N[i]?=Z x)(b:N[j]?=Z x):i=j:=by let⟨l,c⟩:=J7.mp a;let⟨o,e⟩:=J7.mp b;show (List.getElem_inj h).mp (c.trans e.symm)
def r8{M:Model}{A:Ê}{E:Value->À->Prop}{i:Nat}{x:Str}{v:V}{u:Value}{Q:Unit->À->Prop}(I:Inv X f g H s)(hN:X.N.Nodup)(hi:X.N[i]?=Z x)(G:eI X.env.scope x)(r:RelV v u)
  (h:∀s',Inv X f (g.set i (Z v)) H s'->(∃a,Heap.SameBut a s.heap s'.heap/\(a=X.env.locals\/X.env.cells.lookup x=Z a))->Q Unit.unit s') (hf:X.fn x=ř\/X.env.scope.names.lookup x=Z .local:=by nofun):wpAny M A (storeName X.env x u) Q E s:=by
 let⟨m,a_,hl⟩:=id I.loc
 have Uu:(X.env.scope.kind==.class ||(X.env.scope.kind==.module&&X.env.locals != X.env.globals))=Ś:=by rw[I.ok.kind];rfl
 have K:i<g.length:=by rw[I.len];show (J7.mp hi).1
 have cne:=I.cne
 have C:∀{a:Addr}{h':Heap},(∃o,s.heap.get? a=Z o/\H a=ŗ)->Heap.SameBut a s.heap h'->HOk X.prog X.w H h':=λ{a h'} ha l b ob e=>by
  let⟨_,_,Ra⟩:=ha;refine (I.hok b ob e).stay (λc be F q=>(l.2 c ?_).trans q) (λ_ q=>q) (λ_ _ q=>q) λ_ _ _ q=>q;rintro rfl;rcases F with rfl|F
  ·rw[Ra]at e;cases e
  ·rw[Ra]at F;cases F
 rcases G with L|L
 ·refine wpAny_storeName_local L a_ (λh' Sr l=>?_) Uu;let⟨oL,_,_,b_,_⟩:=id a_;refine h _ ⟨I.ok,I.os,I.bare,⟨λb o e n N G=>?_,λb o e n N G=>?_,I.base.free,λb o e G=>?_,I.base.tups,I.base.frzs,I.base.tbls⟩,⟨_,Sr,λj y v' B J U=>?_⟩,λy c e=>?_,I.free,I.freeC,λp hp=>?_,C ⟨oL,b_,I.free⟩ l,by simpa using I.len⟩ ⟨_,l,.inl S⟩
  ·show (l.2 b (JN (JR (Jx e) I.ok.above))).trans (I.base.keep b o e n N G)
  ·let⟨sl,B⟩:=I.base.slot b o e n N G;show⟨sl,(l.2 b (JN (JR (Jx e) I.ok.above))).trans B⟩
  ·let⟨o',B⟩:=I.base.there b o e G;show⟨o',(l.2 b (JN (JR (Jx e) I.ok.above))).trans B⟩
  ·by_cases O:j=i
   ·subst O;rw[hi]at B;cases B;rw[Jy K]at J;cases J;show⟨u,r,.inl ⟨L,by simp⟩⟩
   ·rw[Jv (Kd O)]at J;let⟨u',r',q⟩:=hl j y v' B J U;refine⟨u',r',?_⟩;rcases q with⟨k,e⟩|⟨k,c,e,z⟩
    ·refine .inl ⟨k,?_⟩;have:y≠x:=λe=>O (vi hN B (e▸hi));simp[this,e]
    ·show .inr ⟨k,c,e,z.sameBut l (cne y c e)⟩
  ·let⟨be,z⟩:=I.cell y c e;show⟨be,z.sameBut l (cne y c e)⟩
  ·let⟨e,n,ne,nf,d⟩:=I.pin p hp;show⟨(l.2 p.1 ne).trans e,n,ne,nf,d⟩
 ·have T:X.fn x=ř:=by
   rcases hf with z|z
   ·show z
   ·rw[z]at L;cases L
  let⟨c,F⟩:=I.ok.has x (.inl L);let⟨be,z⟩:=I.cell x c F;refine wpAny_storeName_cell I.ok.kind L F z (λh' Ss l=>?_);let⟨oc,P,Uv⟩:=id z;refine h { s with heap:=h' } ⟨I.ok,I.os,I.bare,⟨λb o e n N G=>?_,λb o e n N G=>?_,I.base.free,λb o e G=>?_,I.base.tups,I.base.frzs,I.base.tbls⟩,⟨m,a_.sameBut l (Kd (cne x c F)),λj y v' B J U=>?_⟩,λy R e=>?_,I.free,I.freeC,λp hp=>?_,C ⟨oc,P,I.freeC x c F⟩ l,by simpa using I.len⟩ ⟨c,l,.inr F⟩
  ·show (l.2 b (JN (JR (Jx e) (I.ok.cab x c T F)))).trans (I.base.keep b o e n N G)
  ·let⟨sl,B⟩:=I.base.slot b o e n N G;show⟨sl,(l.2 b (JN (JR (Jx e) (I.ok.cab x c T F)))).trans B⟩
  ·let⟨o',B⟩:=I.base.there b o e G;show⟨o',(l.2 b (JN (JR (Jx e) (I.ok.cab x c T F)))).trans B⟩
  ·by_cases O:j=i
   ·subst O;rw[hi]at B;cases B;rw[Jy K]at J;cases J;show⟨u,r,.inr ⟨.inl L,c,F,Ss⟩⟩
   ·rw[Jv (Kd O)]at J;let⟨u',r',q⟩:=hl j y v' B J U;refine⟨u',r',?_⟩;rcases q with q|⟨k,R,e,z'⟩
    ·show .inl q
    ·refine .inr ⟨k,R,e,z'.sameBut l ?_⟩;rintro rfl;show O (vi hN B (I.ok.inj _ _ _ e F▸hi))
  ·by_cases RB:R=c
   ·subst RB;show⟨_,Ss⟩
   ·let⟨w2,z2⟩:=I.cell y R e;show⟨w2,z2.sameBut l RB⟩
  ·let⟨e,n,ne,nf,d⟩:=I.pin p hp;refine⟨(l.2 p.1 ?_).trans e,n,ne,nf,d⟩;intro q;rw[q,P]at e;have q':oc=p.2:=JJ e;show d be (by rw[←q'];show Uv)
def vv{M:Model}{A:Ê}{E:Value->À->Prop}{i:Nat}{x:Str}{v:V}{u:Value}{Q:Unit->À->Prop}(I:Inv X f g H s)(e:X.N.Nodup)(hi:X.N[i]?=Z x)(l:eI X.env.scope x)(r:RelV v u)
  (h:∀a,Inv X f (g.set i (Z v)) H a->Q Unit.unit a) (j:X.fn x=ř\/X.env.scope.names.lookup x=Z .local:=by nofun):wpAny M A (storeName X.env x u) Q E s:=
 r8 I e hi l r (λa c _=>h a c) j
def Inv.call'{a:À}{ch:Y Addr}(I:Inv X f g H s)(l:a.os=s.os)(u:Un (gv X.stack) ch H w s.heap a.heap)(hok:HOk X.prog X.w w a.heap)(j:ð a.gens)
  (h:∀b∈ch,(b∈X.ex\/X.s₀.heap.objs.size<=b)/\b≠X.env.locals/\(∀x c,X.env.cells.lookup x=Z c->c≠b)/\∀p∈X.pn++f,p.1≠b):Inv X f g w a:=by
 let⟨h',g',d',t',o'⟩:=a;have e:o'=s.os:=l;subst e;show I.call (g':=g') (t':=t') (d':=d') u hok j h
end
noncomputable abbrev XK:=Value->Ř Addr->Hp->Prop
noncomputable abbrev St:=Y (Ř V)
noncomputable abbrev VK:=V->Hp->Prop
noncomputable abbrev TE:=St->Hp->VK->Prop
noncomputable abbrev TT:=St->Hp->(Bool->Hp->Prop)->Prop
noncomputable abbrev TA:=St->Hp->(Y V->Hp->Prop)->Prop
structure Ends where
 nx:St->Hp->Prop
 rt:VK
 bk:St->Hp->Prop:=λ_ _=>False
 ct:St->Hp->Prop:=λ_ _=>False
noncomputable abbrev TS:=Ends->St->Hp->Prop
noncomputable def EP(X:Cx)(a:Y (Addr×Õ))(f:St)(Q:VK)(u:Value)(e:À):Prop:=∃v c,Inv X a f c e/\RelV v u/\Q v c
noncomputable def TP(X:Cx)(a:Y (Addr×Õ))(f:St)(Q:Bool->Hp->Prop)(b:Bool)(e:À):Prop:=∃c,Inv X a f c e/\Q b c
noncomputable def AP(X:Cx)(a:Y (Addr×Õ))(f:St)(Q:Y V->Hp->Prop)(us:Y Value)(e:À):Prop:=∃vs c,Inv X a f c e/\Vals vs us/\Q vs c
noncomputable def SP(X:Cx)(c:Y (Addr×Õ))(D:Ends)(f:Flow)(g:À):Prop:=
 match f with
 |.next=>∃a e,Inv X c a e g/\D.nx a e
 |.brk=>∃a e,Inv X c a e g/\D.bk a e
 |.cont=>∃a e,Inv X c a e g/\D.ct a e
 |.ret u=>∃v a e,Inv X c a e g/\RelV v u/\D.rt v e
noncomputable def PE(X:Cx)(e:Ã)(t:TE):Prop:=
 ∀(a:Y (Addr×Õ))(s:À)(c:St)(H:Hp)(Q:VK),Inv X a c H s->t c H Q->wpAny (Ä X.prog X.w) X.A (eval e X.env) (EP X a c Q) X.xe s
noncomputable def PT(X:Cx)(e:Ã)(t:TT):Prop:=
 ∀(a:Y (Addr×Õ))(s:À)(c:St)(H:Hp)(Q:Bool->Hp->Prop),Inv X a c H s->t c H Q->wpAny (Ä X.prog X.w) X.A (isTrue e X.env (eval e X.env)) (TP X a c Q) X.xe s
noncomputable def PW(X:Cx)(e:Ã)(t:TT):Prop:=
 ∀(c:Sem Value)(a:Y (Addr×Õ))(s:À)(f:St)(H:Hp)(Q:Bool->Hp->Prop),Inv X a f H s->t f H Q->wpAny (Ä X.prog X.w) X.A (isTrue e X.env c) (TP X a f Q) X.xe s
def PW.pt{X:Cx}{e:Ã}{t:TT}(h:PW X e t):PT X e t:=h _
noncomputable def PA(X:Cx)(es:Y Ã)(t:TA):Prop:=
 ∀(c:Ö)(a:Y (Addr×Õ))(s:À)(e:St)(H:Hp)(Q:Y V->Hp->Prop),Inv X a e H s->t e H Q->wpAny (Ä X.prog X.w) X.A (spliced (backTo c (starEach es X.env))) (AP X a e Q) X.xe s
noncomputable def PS(X:Cx)(st:Ç)(t:TS):Prop:=
 ∀(a:Y (Addr×Õ))(s:À)(c:St)(H:Hp)(D:Ends),Inv X a c H s->t D c H->wpAny (Ä X.prog X.w) X.A (exec st X.env) (SP X a D) X.xe s
noncomputable def PSs(X:Cx)(st:Y Ç)(t:TS):Prop:=
 ∀(a:Y (Addr×Õ))(s:À)(c:St)(H:Hp)(D:Ends),Inv X a c H s->t D c H->wpAny (Ä X.prog X.w) X.A (execs st X.env) (SP X a D) X.xe s
def aC{e:Type}{t:Sem e}{Q c:e->À->Prop}{M:Model}{A:Ê}{E:Value->À->Prop}{s:À}(h:wpAny M A t Q E s)(f:∀a s,Q a s->c a s):wpAny M A t c E s:=KP h f λ_ _ x=>x
section
variable{X:Cx}
noncomputable def kQ(i:Nat):TE:=λa H Q=>∃v,a[i]?=Z (Z v)/\Q v H
noncomputable def tC(v:V):TE:=λ_ H Q=>Q v H
def Hj{i:Nat}{x:Str}{f:Ö}(y:X.N[i]?=Z x)(C:cH X.env.scope x)(hd:ab x:=by decide)(w:fI x:=by decide):PE X (.Name x f) (kQ i):=by
 intro j s E H Q I h;let⟨v,e,h⟩:=h;let⟨m,B,z⟩:=I.loc;let⟨u,r,l⟩:=z i x v y e C;have a:EP X j E Q u s:=⟨v,H,I,r,h⟩;rcases l with⟨g,A⟩|⟨g,c,p,o⟩
 ·show wpAny_Name (wpAny_loadName_local I.ok.kind g B A a) hd
 ·rcases g with g|g
  ·show wpAny_Name (wpAny_loadName_cell I.ok.kind g p o a) hd
  ·show wpAny_Name (wpAny_loadName_free I.ok.kind g p o a w) hd
def z9{i j f}:PE X (.Constant (.int i) j f) (tC (.int i)):=λ_ _ _ H _ I h=>wpAny_Constant_int ⟨.int i,H,I.tok _,⟨_,S⟩,h⟩
def C4{b j f}:PE X (.Constant (.bool b) j f) (tC (.bl b)):=λ_ _ _ H _ I h=>Constant_bool ⟨.bl b,H,I,S,h⟩
def AF{j f}:PE X (.Constant .none j f) (tC .non):=λ_ _ _ H _ I h=>Constant_none ⟨.non,H,I,S,h⟩
def DL{x j f}:PE X (.Constant (.str x) j f) (tC (.str x)):=λ_ _ _ H _ I h=>Calls.Constant_str ⟨.str x,H,I.tok _,⟨_,S⟩,h⟩
noncomputable def Gl(X:Cx)(x:Str):Prop:=X.env.kindOf x=Z .globalImplicit
def sD{E:Value->À->Prop}{a:Y (Addr×Õ)}{s:À}{g:St}{H:Hp}{x:Str}{u:Value}{f:Ö}{Q:Value->À->Prop}(I:Inv X a g H s)(c:Gl X x)(e:X.mg x=Z u)(h:Q u s)
  (hd:ab x:=by decide):wpAny (Ä X.prog X.w) X.A (eval (.Name x f) X.env) Q E s:=
 ā I.ok.kind c (Calls.loadGlobal_global (by rw[I.ok.glob];show I.mod.glob.keeps I.bk) e h) hd
def hV{E:Value->À->Prop}{a:Y (Addr×Õ)}{s:À}{p:St}{H:Hp}{x:Str}{u:Value}{f:Ö}{Q:Value->À->Prop}(I:Inv X a p H s)(g:Gl X x)(j:X.mg x=ŗ)(o:Û x=Z u)(h:Q u s)
  (l:x≠"__name__":=by decide) (hd:ab x:=by decide):wpAny (Ä X.prog X.w) X.A (eval (.Name x f) X.env) Q E s:=by
 let⟨r,c,e⟩:=I.mod.blt;show ā I.ok.kind g (Calls.loadGlobal_builtin (by rw[I.ok.glob];show I.mod.glob.keeps I.bk) j (by rw[I.ok.blt];show c.keeps I.bk) ((e x l).trans o) h) hd
def gH{x:Str}{v:V}{u:Value}{f:Ö}(a:Gl X x)(c:X.mg x=ŗ)(g:Û x=Z u)(r:RelV v u)(e:x≠"__name__":=by decide)(hd:ab x:=by decide):PE X (.Name x f) (tC v):=
 λ_ _ _ H _ I h=>hV I a c g ⟨v,H,I,r,h⟩ e hd
variable{a b:Ã}{o tb:TE}{f:Ö}
noncomputable def PC(X:Cx)(j:Ĕ)(a b:Ã)(t:TE):Prop:=
 ∀(c:Y (Addr×Õ))(s:À)(h:St)(H:Hp)(Q:VK),Inv X c h H s->t h H Q->
  wpAny (Ä X.prog X.w) X.A (eval a X.env) (λv e=>wpAny (Ä X.prog X.w) X.A (eval b X.env) (λu g=>wpAny (Ä X.prog X.w) X.A (É j v u) (EP X c h Q) X.xe g) X.xe e) X.xe s
noncomputable def tB(t:TE):TT:=λg H Q=>t g H λx e=>∃c,x=.bl c/\Q c e
def xU{j:Ĕ}{t:TE}(h:PC X j a b t)(g:behindInMarks j b=Ś:=by first|show nobehind _ 'b' 'b'|rfl):PT X (.Compare a [j] [b] f) (tB t):=by intro e s B H Q I y;refine wpAny_isTrue_Compare1 (aC (h e s B H _ I y) λv C g=>aC g λu E w=>aC w λc F r=>?_) g;let⟨x,l,p,A,z⟩:=r;let⟨d,rfl,q⟩:=z;cases A;show Le ⟨l,p,q⟩
variable{p w:TT}{g:Y Ã}
noncomputable def yK(t u:TT):TT:=λh H Q=>t h H λc e=>if c=ř then u h e Q else Q Ś e
noncomputable def FK(t u:TT):TT:=λh H Q=>t h H λc e=>if c=ř then Q ř e else u h e Q
noncomputable def CQ(t:TT):TT:=λh H Q=>t h H λc e=>Q (!c) e
def tq(l:PT X a p):PW X (.BoolOp .And [a] f) p:=by
 intro v j s r H Q I h;refine isTrue_and (aC (l j s r H Q I h) λc u e=>?_)
 cases c with
 |true=>show isTrue_and_nil e
 |false=>show e
def xn(l:PT X a p):PW X (.BoolOp .Or [a] f) p:=by
 intro v j s r H Q I h;refine isTrue_or (aC (l j s r H Q I h) λc u e=>?_)
 cases c with
 |false=>show isTrue_or_nil e
 |true=>show e
def wA(x:PT X a p)(y:PW X (.BoolOp .And (b::g) f) w):PW X (.BoolOp .And (a::b::g) f) (yK p w):=by
 intro A e s u H Q I h;refine isTrue_and (aC (x e s u H _ I h) λc z v=>?_);let⟨j,l,r⟩:=v
 cases c with
 |true=>show y A e z u j Q l r
 |false=>show⟨j,l,r⟩
def vq(x:PT X a p)(y:PW X (.BoolOp .Or (b::g) f) w):PW X (.BoolOp .Or (a::b::g) f) (FK p w):=by
 intro A e s u H Q I h;refine isTrue_or (aC (x e s u H _ I h) λc z v=>?_);let⟨j,l,r⟩:=v
 cases c with
 |true=>show⟨j,l,r⟩
 |false=>show y A e z u j Q l r
def Bu(l:PT X a p):PT X (.UnaryOp .Not a f) (CQ p):=by intro e s r H Q I h;show isTrue_not (l e s r H (λc j=>Q (!c) j) I h)
noncomputable def Eb(o tb:TE):TE:=λh H Q=>o h H λx e=>∃c,x=.bl c/\if c=ř then tb h e Q else Q (.bl Ś) e
noncomputable def Aw(o:TE):TE:=λh H Q=>o h H λx e=>∃c,x=.bl c/\Q (.bl (!c)) e
def sW{op}{t:TE}(h:PE X a t):PE X (.BoolOp op [a] f) t:=λc s j H Q I e=>BoolOp_one (h c s j H Q I e)
def sU(z:PE X a o)(A:PE X (.BoolOp .And (b::g) f) tb):PE X (.BoolOp .And (a::b::g) f) (Eb o tb):=by
 intro e s u H Q I h;refine BoolOp_and (aC (z e s u H _ I h) λv C y=>?_);let⟨x,l,r,B,j⟩:=y;let⟨c,rfl,j⟩:=j;cases B;refine Le ?_
 cases c with
 |true=>show A e C u l Q r j
 |false=>show⟨.bl Ś,l,r,S,j⟩
def Gu(y:PE X a o):PE X (.UnaryOp .Not a f) (Aw o):=by intro e s A H Q I h;refine UnaryOp_ (aC (y e s A H _ I h) λv B u=>?_);let⟨x,l,r,z,j⟩:=u;let⟨c,rfl,j⟩:=j;cases z;show not_of (Le ⟨.bl (!c),l,r,S,j⟩)
noncomputable def Im(t:TT)(o tb:TE):TE:=λe H Q=>t e H λc h=>if c=ř then o e h Q else tb e h Q
def A3{c:Ã}(A:PT X c p)(y:PE X a o)(z:PE X b tb):PE X (.IfExp c a b f) (Im p o tb):=by
 intro e s j H Q I h;refine wpAny_IfExp (aC (A e s j H _ I h) λd v x=>?_);let⟨l,r,u⟩:=x
 cases d with
 |true=>show y e v j l Q r u
 |false=>show z e v j l Q r u
end
noncomputable def SqL(K:Â)(H:Hp)(a:Addr)(xs:Y V):Prop:=
 Rd H a (.lst xs) \/
  ∃(o:Õ)(its:Array Value)(n:Nat),K.lookup a=Z o/\o.cls=.type "list"/\o.dict=ŗ/\o.data=.seq its n/\its.size<=sizeLine/\Vals xs its.toList
noncomputable def SqT(K:Â)(H:Hp)(a:Addr)(xs:Y V):Prop:=
 Rd H a (.tup xs) \/
  ∃(o:Õ)(its:Array Value)(n:Nat),K.lookup a=Z o/\o.cls=.type "tuple"/\o.data=.seq its n/\its.size<=sizeLine/\Vals xs its.toList
noncomputable def Df:Value->Ř V
 |.none=>Z .non
 |.bool b=>Z (.bl b)
 |.int i _=>Z (.int i)
 |.str x _=>Z (.str x)
 |.bytes b _=>Z (.byt b)
 |.float b _=>Z (.flt b)
 |.ref a=>Z (.ref a)
 |.type n=>Z (.ty n)
 |_=>ŗ
def RelV.abs{x:V}{u:Value}(r:RelV x u):Df u=Z x:=by
 cases x with
 |non=>cases r;rfl
 |bl _=>cases r;rfl
 |int _=>let⟨t,rfl⟩:=r;rfl
 |str _=>let⟨t,rfl⟩:=r;rfl
 |byt _=>let⟨t,rfl⟩:=r;rfl
 |flt _=>let⟨t,rfl⟩:=r;rfl
 |ref _=>cases r;rfl
 |ty _=>cases r;rfl
def RelV.inj{x y:V}{u:Value}(r:RelV x u)(q:RelV y u):x=y:=JJ (r.abs.symm.trans q.abs)
def Vals.inj:∀{xs ys:Y V}{us:Y Value},Vals xs us->Vals ys us->xs=ys
 |_,_,_,.nil,.nil=>rfl
 |_,_,_,.cons r t,.cons a t'=>by rw[r.inj a,Vals.inj t t']
section
variable{X:Cx}{c:Y (Addr×Õ)}{f:St}{H:Hp}{s:À}{a:Addr}{xs ys:Y V}
def SqL.of{K:Â}(h:H a=Z (.lst xs)):SqL K H a xs:=.inl (.inl h)
def SqT.of{K:Â}(h:H a=Z (.tup xs)):SqT K H a xs:=.inl (.inl h)
def Inv.list(I:Inv X c f H s)(h:SqL X.K H a xs):∃its:Y Value,Vals xs its/\PlainL s.heap a its.toArray/\xs.length<=sizeLine:=by
 rcases h with h|⟨o,its,n,j,g,hd,l,p,r⟩
 ·let⟨z,its,n,r,e⟩:=h.ok I.hok;show⟨its,r,⟨_,n,e,S,S,S⟩,z⟩
 ·refine⟨its.toList,r,⟨o,n,I.kIn a o j,g,hd,by simpa using l⟩,?_⟩;have e:=r.length;simp only[KA]at e;omega
def Inv.tuple(I:Inv X c f H s)(h:SqT X.K H a xs):∃its:Y Value,Vals xs its/\ġ s.heap a its.toArray/\xs.length<=sizeLine:=by
 rcases h with h|⟨o,its,n,j,g,l,u,r⟩
 ·let⟨z,its,r,p⟩:=h.ok I.hok;show⟨its,r,p.tup,z⟩
 ·refine⟨its.toList,r,⟨o,I.kIn a o j,g,n,by simpa using l⟩,?_⟩;have e:=r.length;simp only[KA]at e;omega
def Inv.list_inj(I:Inv X c f H s)(h:SqL X.K H a xs)(h':SqL X.K H a ys):xs=ys:=by
 let⟨its,r,⟨o,n,e,_,_,d⟩,_⟩:=I.list h;let⟨NP,j,⟨o',l,g,_,_,d'⟩,_⟩:=I.list h';rw[e]at g;cases g;rw[d]at d';injection d' with d1 _
 have:its=NP:=by simpa using JY Ņ d1
 subst this;show r.inj j
def Inv.tuple_inj(I:Inv X c f H s)(h:SqT X.K H a xs)(h':SqT X.K H a ys):xs=ys:=by
 let⟨its,r,⟨o,e,_,n,d⟩,_⟩:=I.tuple h;let⟨NP,j,⟨o',g,_,l,d'⟩,_⟩:=I.tuple h';rw[e]at g;cases g;rw[d]at d';injection d' with d1 _
 have:its=NP:=by simpa using JY Ņ d1
 subst this;show r.inj j
end
noncomputable abbrev Cx.wish(X:Cx)(E:Value->À->Prop):Cx:={ X with xe:=E }
noncomputable abbrev Cx.nox(X:Cx):Cx:=X.wish λ_ _=>False
def Cx.Ok.wish{X:Cx}(ok:X.Ok)(E:Value->À->Prop):(X.wish E).Ok:=
 ⟨ok.mod,ok.kind,ok.glob,ok.blt,ok.above,ok.inj,ok.has,ok.cab,ok.hd,ok.frames,ok.stk,ok.exf,ok.bs,ok.bsz,ok.noex,ok.exfs,ok.funs,ok.frf⟩
def Cx.Ok.unwish{X:Cx}{E:Value->À->Prop}(ok:(X.wish E).Ok):X.Ok:=
 ⟨ok.mod,ok.kind,ok.glob,ok.blt,ok.above,ok.inj,ok.has,ok.cab,ok.hd,ok.frames,ok.stk,ok.exf,ok.bs,ok.bsz,ok.noex,ok.exfs,ok.funs,ok.frf⟩
section
variable{X:Cx}{a:Y (Addr×Õ)}{c:St}{H:Hp}{s:À}{E:Value->À->Prop}
def Inv.wish(I:Inv X a c H s)(E:Value->À->Prop):Inv (X.wish E) a c H s:=⟨I.ok.wish E,I.os,I.bare,I.base,I.loc,I.cell,I.free,I.freeC,I.pin,I.hok,I.len⟩
def Inv.unwish(I:Inv (X.wish E) a c H s):Inv X a c H s:=⟨I.ok.unwish,I.os,I.bare,I.base,I.loc,I.cell,I.free,I.freeC,I.pin,I.hok,I.len⟩
def SP.unwish{D:Ends}{f:Flow}{j:À}(h:SP (X.wish E) a D f j):SP X a D f j:=by
 cases f with
 |next=>let⟨e,g,I,q⟩:=h;show⟨e,g,I.unwish,q⟩
 |brk=>let⟨e,g,I,q⟩:=h;show⟨e,g,I.unwish,q⟩
 |cont=>let⟨e,g,I,q⟩:=h;show⟨e,g,I.unwish,q⟩
 |ret u=>let⟨v,e,g,I,r,q⟩:=h;show⟨v,e,g,I.unwish,r,q⟩
def PSs.nox{st:Y Ç}{t:TS}(h:PSs X.nox st t):PSs X st t:=λa s c H D I e=>
 KP (h a s c H D (I.wish _) e) (λ_ _ q=>q.unwish) λ_ _ z=>Ñ z
end
section
variable{X:Cx}{st:Ç}{l:Y Ç}{t u:TS}{e:Ã}{j:TE}{g:Ö}
noncomputable def yo:TS:=λD a H=>D.nx a H
noncomputable def Ce(t u:TS):TS:=λD a H=>t { D with nx:=u D } a H
def pss_nil:PSs X [] yo:=λ_ _ a H _ I h=>Mo ⟨a,H,I,h⟩
def n5(r:PS X st t)(w:PSs X l u):PSs X (st::l) (Ce t u):=by
 intro a s y H D I h;refine wpAny_execs_cons (aC (r a s y H { D with nx:=u D } I h) λf x q=>?_)
 cases f with
 |next=>
  let⟨c,o,p,q⟩:=q;show w a x c o D p q
 |ret v=>show q
 |brk=>show q
 |cont=>show q
def uI(c:PS X st t):PSs X [st] t:=by
 intro a s o H D I h;refine wpAny_execs_cons (aC (c a s o H D I h) λf p q=>?_)
 cases f with
 |next=>show Mo q
 |ret v=>show q
 |brk=>show q
 |cont=>show q
def Inv.quiet{a:Y (Addr×Õ)}{c:St}{H:Hp}{s:À}(I:Inv X a c H s):interactive X.env=Ś:=by simp[interactive,I.ok.kind]
noncomputable def AR(j:TE):TS:=λD a H=>j a H λ_ c=>D.nx a c
def jQ(r:PE X e j)(w:Î e ŗ g.line X.env=pure Ś:=by rfl):PS X (.Expr e g) (AR j):=by intro a s c H D I h;show wpAny_Expr_any (aC (r a s c H _ I h) λv A p=>by let⟨x,f,o,z,y⟩:=p;show⟨c,f,o,y⟩) I.quiet w
noncomputable def GC(j:TE):TS:=λD a H=>j a H D.rt
def uy(r:PE X e j):PS X (.Return (Z e) g) (GC j):=by intro a s c H D I h;show wpAny_Return_some (aC (r a s c H _ I h) λv z p=>by let⟨x,f,o,y,w⟩:=p;show⟨x,c,f,o,y,w⟩)
noncomputable def Ay(c:TT)(t u:TS):TS:=λD a H=>c a H λb f=>if b=ř then t D a f else u D a f
def wU{c:Ã}{a b:Y Ç}{x:TT}(B:PT X c x)(z:PSs X a t)(A:PSs X b u):PS X (.If c a b g) (Ay x t u):=by
 intro f s o H D I h;refine wpAny_If (aC (B f s o H _ I h) λd w y=>?_);let⟨p,r,v⟩:=y
 cases d with
 |true=>show z f w o p D r v
 |false=>show A f w o p D r v
noncomputable def Ht:TS:=λ_ _ _=>False
def ps_never:PS X st Ht:=λ_ _ _ _ _ _ h=>h.elim
end
noncomputable abbrev TG:=V->St->Hp->(St->Hp->Prop)->Prop
noncomputable abbrev fA:=Y V->St->Hp->(St->Hp->Prop)->Prop
noncomputable def PG(X:Cx)(a:Ã)(t:TG):Prop:=
 ∀(c:Y (Addr×Õ))(s:À)(g:St)(H:Hp)(v:V)(u:Value)(Q:St->Hp->Prop),Inv X c g H s->RelV v u->t v g H Q->
  wpAny (Ä X.prog X.w) X.A (assign a X.env u) (λ_ h=>∃e f,Inv X c e f h/\Q e f) X.xe s
noncomputable def PGs(X:Cx)(h:Y Ã)(t:fA):Prop:=
 ∀(a:Y (Addr×Õ))(s:À)(f:St)(H:Hp)(vs:Y V)(us:Y Value)(Q:St->Hp->Prop),Inv X a f H s->Vals vs us->t vs f H Q->
  wpAny (Ä X.prog X.w) X.A (assignInOrder ((Æ h X.env).map (·.2)) us) (λ_ g=>∃c e,Inv X a c e g/\Q c e) X.xe s
noncomputable abbrev kP:=V->V->V->Hp->(Hp->Prop)->Prop
noncomputable def pG(X:Cx)(t:kP):Prop:=
 ∀(a:Y (Addr×Õ))(s:À)(g:St)(H:Hp)(o i v:V)(f e u:Value)(Q:Hp->Prop),Inv X a g H s->RelV o f->RelV i e->RelV v u->t o i v H Q->
  wpAny (Ä X.prog X.w) X.A (setItem f e u) (λ_ h=>∃c,Inv X a g c h/\Q c) X.xe s
noncomputable abbrev l6:=V->V->Hp->VK->Prop
noncomputable def rK(X:Cx)(e:ÿ)(t:l6):Prop:=
 ∀(a:Y (Addr×Õ))(s:À)(c:St)(H:Hp)(x y:V)(v u:Value)(Q:VK),Inv X a c H s->RelV x v->RelV y u->t x y H Q->
  wpAny (Ä X.prog X.w) X.A (inplaceOp e v u) (EP X a c Q) X.xe s
section
variable{X:Cx}{c:Ö}
noncomputable def iW(i:Nat):TG:=λv a H Q=>Q (a.set i (Z v)) H
def kJ{i:Nat}{x:Str}(f:X.N.Nodup)(hi:X.N[i]?=Z x)(j:eI X.env.scope x)(g:X.fn x=ř\/X.env.scope.names.lookup x=Z .local:=by nofun):PG X (.Name x c) (iW i):=by intro a s o H v u Q I r h;show wpAny_assign_Name (vv I f hi j r (λl e=>⟨_,H,e,h⟩) g)
noncomputable def Ax:fA:=λvs a H Q=>vs=[]/\Q a H
noncomputable def HD(t:TG)(u:fA):fA:=λvs f H Q=>∃v r,vs=v::r/\t v f H λa e=>u r a e Q
def pgs_nil:PGs X [] Ax:=by intro a s f H vs us Q I r h;let⟨e,h⟩:=h;subst e;cases r;show assignInOrder_nil ⟨f,H,I,h⟩
def km{e:Ã}{es:Y Ã}{t:TG}{u:fA}(p:PG X e t)(w:PGs X es u)
  (x:(Æ (e::es) X.env).map (·.2)=assign e X.env::(Æ es X.env).map (·.2):=by rfl):PGs X (e::es) (HD t u):=by
 intro a s A H vs us Q I r h;let⟨v,B,o,h⟩:=h;subst o
 cases r with
 |cons r rr=>
  rw[x];refine assignInOrder_cons (aC (p a s A H _ _ _ I r h) λ_ z l=>?_);let⟨f,g,j,y⟩:=l;show w a z f g _ _ Q j rr y
noncomputable def qN(K:Â)(n:Nat)(t:fA):TG:=λv e H Q=>∃a xs,v=.ref a/\SqT K H a xs/\xs.length=n/\t xs e H Q
def t6{es:Y Ã}{k:Nat}{t:fA}{n:Nat}(y:X.calm=ř)(h:PGs X es t)
  (A:(Æ es X.env).length=n:=by rfl) (w:(Æ es X.env).findIdx? (·.1)=ŗ:=by rfl):PG X (.Tuple es k c) (qN X.K n t):=by
 intro f s l H v u Q I r g;let⟨a,xs,x,B,z,g⟩:=g;subst x;cases r;let⟨its,j,C,F⟩:=I.tuple B;refine assign_Tuple_tuple (I.ok.hd y) C (by simp[A,←z,j.length]) w λh' E=>?_;have p:Inv X f l H { s with heap:=h' }:=I.kept (t':=s.toks) λb o e=>E b o (JN (Jx e)) e;show h f _ l H xs _ Q p (by simpa using j) g
noncomputable def D4(to h:TE)(t:kP):TG:=λv a H Q=>to a H λo e=>h a e λi f=>t o i v f λg=>Q a g
def tE{o i:Ã}{to j:TE}{t:kP}(J:PE X o to)(hi:PE X i j)(K:pG X t)
  (G:∀v,assign (.Subscript o i c) X.env v=(do
   let e ←holding [v] (eval o X.env)
   let f ←holding [v,e] (eval i X.env)
   standAt c
   holding [v,e,f] (setItem e f v)
   release [v,e,f] []):=by intro _;rfl):PG X (.Subscript o i c) (D4 to j t):=by
 intro a s g H v u Q I r h;rw[G];refine Jb (KQ (aC (J a s g H _ I h) λe R E=>?_));let⟨x,l,z,O,L⟩:=E;refine Jb (KQ (aC (hi a R g l _ z L) λf U C=>?_));let⟨y,p,A,P,M⟩:=C;refine Jb (MJ (Jb (KQ (aC (K a U g p x y v e f u _ A O P r M) λ_ T F=>?_))));let⟨w,B,N⟩:=F;show wpAny_release ⟨g,w,B,N⟩
noncomputable def jo(f:TE)(g:TG):TS:=λD a H=>f a H λx e=>g x a e D.nx
def mG{f e:Ã}{j:TE}{g:TG}(w:PE X e j)(y:PG X f g)(z:è [f] e c.line X.env=pure Ś:=by rfl)(A:é [f] e X.env=pure ŗ:=by rfl)
  (u:(Æ [f] X.env).map (·.2)=[assign f X.env]:=by rfl):PS X (.Assign [f] e c) (jo j g):=by
 intro a s l H D I h;refine wpAny_Assign_stores (aC (w a s l H _ I h) λv E r=>?_) z A;let⟨x,o,p,C,B⟩:=r;rw[u];show aC (y a E l o x v _ p C B) λ_ F q=>q
def qZ{i:Nat}{x:Str}{e:Ã}{g:TE}{a:Ö}(r:X.N.Nodup)(hi:X.N[i]?=Z x)(A:eI X.env.scope x)(u:PE X e g)(z:Î e (Z (.Name x a)) c.line X.env=pure Ś:=by rfl)(w:X.fn x=ř\/X.env.scope.names.lookup x=Z .local:=by nofun) :
  PS X (.Assign [.Name x a] e c) (jo g (iW i)):=by
 intro f s E H D I h;refine wpAny_Assign_Name (aC (u f s E H _ I h) λv F p=>?_) z;let⟨y,j,l,C,B⟩:=p;show vv l r hi A C (λG o=>⟨_,j,o,B⟩) w
noncomputable def BE(to w v:TE)(p:V->V->Hp->VK->Prop)(u:l6)(r:kP):TS:=λD a H=>to a H λo e=>w a e λi f=>p o i f λx g=>v a g λy h=>u x y h λz j=>r o i z j λl=>D.nx a l
noncomputable def qe(X:Cx)(t:V->V->Hp->VK->Prop):Prop:=
 ∀(a:Y (Addr×Õ))(s:À)(g:St)(H:Hp)(o i:V)(f e:Value)(Q:VK),Inv X a g H s->RelV o f->RelV i e->t o i H Q->
  wpAny (Ä X.prog X.w) X.A (ä f e) (EP X a g Q) X.xe s
def FM{o i e:Ã}{to A z:TE}{p:V->V->Hp->VK->Prop}{u:l6}{r:kP}{w:ÿ}{a_:Ö}(ho:PE X o to)(hi:PE X i A)(hg:qe X p)(he:PE X e z)(hp:rK X w u)(hs:pG X r)
  (ha:∀g f new,augStore i g f new=(do holding [new,g,f] (setItem g f new);release [new,g,f] [];pure .next):=by intros;rfl):PS X (.AugAssign (.Subscript o i a_) w e c) (BE to A z p u r):=by
 intro a s j H D I h;refine wpAny_AugAssign_SubscriptAny (aC (ho a s j H _ I h) λg s1 T=>?_) ha;let⟨B,E,M,x,q1⟩:=T;refine aC (hi a s1 j E _ M q1) λf s2 be=>?_;let⟨C,F,N,y,q2⟩:=be;refine aC (hg a s2 j F B C g f _ N x y q2) λl s3 U=>?_;let⟨x3,G,O,r3,q3⟩:=U;refine aC (he a s3 j G _ O q3) λv s4 b_=>?_;let⟨x4,J,P,r4,q4⟩:=b_;refine aC (hp a s4 j J x3 x4 l v _ P r3 r4 q4) λnew s5 Uw=>?_;let⟨x5,K,Q,r5,q5⟩:=Uw
 show aC (hs a s5 j K B C x5 g f new _ Q x y r5 q5) λ_ s6 Ux=>by let⟨L,R,q6⟩:=Ux;show⟨j,L,R,q6⟩
noncomputable def sB(f:Int->Int->Int):l6:=λx y H Q=>∃i j,x=.int i/\y=.int j/\Q (.int (f i j)) H
def HV:rK X .Add (sB λi j=>i+j):=by intro a s o H x y v u Q I g l h;let⟨i,j,e,f,q⟩:=h;subst e;subst f;let⟨t,rfl⟩:=g;let⟨t',rfl⟩:=l;show iadd_int ⟨.int _,H,I.tok _,⟨_,S⟩,q⟩
end
section
variable{X:Cx}{a:Ö}
noncomputable def zG(c:TT)(tb:TS):TS:=λD e H=>∃W:Nat->St->Hp->Prop,(∃m,W m e H)/\∀m e H,W m e H->
 c e H λb h=>if b=ř then ∃N:St->Hp->Prop,(∀f g,N f g->∃j,j<m/\W j f g)/\tb { D with nx:=N,ct:=N,bk:=D.nx } e h else D.nx e h
def tX{c:Ã}{l:Y Ç}{K:TT}{tb:TS}(J:ø (Ä X.prog X.w) X.A X.env X.xe)(P:PT X c K)(O:PSs X l tb):PS X (.While c l [] a) (zG K tb):=by
 intro e s b_ H D I h;let⟨W,⟨Q,U⟩,p⟩:=h;refine wpAny_While (codeAny_whileLoop (λn R=>∃r B,Inv X e r B R/\W n r B) ?_ Q ⟨b_,H,I,U⟩);rintro n be ⟨j,C,L,a_⟩;refine La J (aC (P e be j C _ L (p n j C a_)) λb T M=>?_);let⟨E,F,u⟩:=M
 cases b with
 |true=>
  let⟨N,G,u⟩:=u;rw[Jj S];refine La J (aC (O e T j E _ F u) λf s3 w=>?_)
  cases f with
  |next=>
   let⟨g,o,x,n3⟩:=w;let⟨z,y,A⟩:=G g o n3;show⟨z,y,g,o,x,A⟩
  |cont=>
   let⟨g,o,x,n3⟩:=w;let⟨z,y,A⟩:=G g o n3;show⟨z,y,g,o,x,A⟩
  |brk=>show w
  |ret v=>show w
 |false=>
  rw[Jd JO];show Mo ⟨j,E,F,u⟩
end
structure It where
 go:Nat->Hp->Prop
 yld:Nat->Hp->V->Hp->Prop
 stop:Nat->Hp->Prop
noncomputable def ei(X:Cx)(a:Y (Addr×Õ))(H:Hp)(b:Addr):Prop:=
 H b=ŗ/\b≠X.env.locals/\b∉X.fs/\(b∈X.ex\/X.s₀.heap.objs.size<=b)/\(∀x c,X.env.cells.lookup x=Z c->c≠b)/\∀p∈X.pn++a,p.1≠b
def Inv.fpOk{X:Cx}{a:Y (Addr×Õ)}{l:St}{H g:Hp}{s:À}{b:Addr}(I:Inv X a l H s)(f:s.heap.objs.size<=b)(h:g b=ŗ):ei X a g b:=by
 refine⟨h,Np (JR I.lt f),I.nofs f,.inr (JC I.sz f),λx c e z=>?_,λp j z=>?_⟩
 ·let⟨v,q⟩:=I.cell x c e;show absurd (JR q.lt (by rw[z];show f)) (KH _)
 ·show absurd (JR (Jx (I.pin p j).1) (by rw[z];show f)) (KH _)
structure Turn(P:Å)(w:È)(K:Â)(tg:Ã)(J:It)(fp:List Addr)(it:Addr)(tn:Nat->Heap->Prop):Prop where
 mem:it∈fp
 obj:∀i h,tn i h->∀b∈fp,∃o,h.get? b=Z o/\∀v,o.data≠.cell v
 keep:∀i h h',tn i h->(∀b∈fp,∀o,h.get? b=Z o->h'.get? b=Z o)->tn i h'
 item:∀(X:Cx),X.prog=P->X.w=w->X.K=K->X.calm=ř->∀(i:Nat)(pins:List (Addr×Õ))(s:À)(σ:St)(H:Hp)(E:Value->À->Prop),Inv X pins σ H s->(∀b∈fp,ei X pins H b)->tn i s.heap->J.go i H->
  wpAny (Ä P w) X.A (ó (.ref it)) (λr s1=>∃u,r=Z u /\
   wpAny (Ä P w) X.A (ñ tg (.ref it) u) (λ_ s2=>∃x H',Inv X pins σ H' s2/\RelV x u/\J.yld i H x H'/\tn (i+1) s2.heap/\∀b∈fp,H' b=ŗ) E s1) E s
 done:∀(X:Cx),X.prog=P->X.w=w->X.K=K->X.calm=ř->∀(i:Nat)(pins:List (Addr×Õ))(s:À)(σ:St)(H:Hp)(E:Value->À->Prop),Inv X pins σ H s->(∀b∈fp,ei X pins H b)->tn i s.heap->J.stop i H->
  wpAny (Ä P w) X.A (ó (.ref it)) (λr s1=>r=ŗ/\Inv X pins σ H s1) E s
 self:∀(A:Ê)(i:Nat)(s:À)(Q:Value->À->Prop)(E:Value->À->Prop),tn i s.heap->Q (.ref it) s->wpAny (Ä P w) A (Ľ (.ref it)) Q E s
noncomputable abbrev TI:=St->Hp->(It->Hp->Prop)->Prop
noncomputable def pd(X:Cx)(a:Y (Addr×Õ))(o:St)(l:Ã)(R:It->Hp->Prop)(j:Value)(g:À):Prop:=
 ∃(f:Addr)(e:Y Addr)(h:Nat->Heap->Prop)(J:It)(c:Hp),j=.ref f/\Inv X a o c g/\Turn X.prog X.w X.K l J e f h/\h 0 g.heap/\(∀b∈e,ei X a c b)/\R J c
noncomputable def PI(X:Cx)(g c:Ã)(h:TI):Prop:=
 ∀(a:Y (Addr×Õ))(s:À)(e:St)(H:Hp)(R:It->Hp->Prop),Inv X a e H s->h e H R->
  wpAny (Ä X.prog X.w) X.A (eval c X.env) (λv f=>wpAny (Ä X.prog X.w) X.A (Ľ v) (pd X a e g R) X.xe f) X.xe s
def lh{M:Model}{A:Ê}{E:Value->À->Prop}{s:À}{e:Ã}{c:Addr}{u:Value}{o:Õ}{n:String}{vs:Array Value}{Q:Unit->À->Prop}(j:s.heap.get? c=Z o)(f:o.cls=.type n)(hd:o.data=.fields vs)
  (g:["enumerate","zip","dict_itemiterator","dict_reverseitemiterator","odict_iterator","itertools.zip_longest","itertools.pairwise"].contains n=Ś) (a:Q Unit.unit s):wpAny M A (ñ e (.ref c) u) Q E s:=by
 unfold ñ
 cases e<;>first
  |show Jr a
  |(cases u<;>first
   |show Jr a
   |(refine Jb (wpAny_load j ?_)
     rw [f, hd];change wpAny M A (if (["enumerate", "zip", "dict_itemiterator", "dict_reverseitemiterator", "odict_iterator", "itertools.zip_longest", "itertools.pairwise"].contains n&&vs[0]?==Z (ò _)) = ř then _ else _) Q E s;rw [Jd (by intro h; rw [g, K3]at h; cases h)]
     show Jr a))
noncomputable def qI(K:Â)(a:Addr):It:=
 ⟨λi H=>∃xs x,SqL K H a xs/\xs[i]?=Z x,λi H x c=>c=H/\∀xs,SqL K H a xs->xs[i]?=Z x,λi H=>∃xs,SqL K H a xs/\xs.length<=i⟩
noncomputable def ra(K:Â)(a:Addr):It:=
 ⟨λi H=>∃xs x,SqT K H a xs/\xs[i]?=Z x,λi H x c=>c=H/\∀xs,SqT K H a xs->xs[i]?=Z x,λi H=>∃xs,SqT K H a xs/\xs.length<=i⟩
noncomputable def iZ(lo:Int)(n:Nat):It:=⟨λi _=>i<n,λi H x a=>a=H/\x=.int (lo+i),λi _=>n<=i⟩
def xT{P:Å}{w:È}{K:Â}{tg:Ã}(a j:Addr):Turn P w K tg (qI K a) [j] j (λi h=>h.IsListIter j a i) where
 mem:=by simp
 obj:=λi h st b g=>by
  have e:b=j:=by simpa using g
  subst e;let⟨o,e,c,d⟩:=st;show⟨o,e,λv z=>by rw[d]at z;cases z⟩
 keep:=λi h h' st k=>st.at λo e=>k j (by simp) o e
 item:=by
  intro X J M G R i f s be H E I l st L;subst J M G;let⟨xs,x,r,N⟩:=L;let⟨its,O,p,hz⟩:=I.list r;let⟨u,b_,ru⟩:=O.get N;let⟨y,A,a_,B,C,F⟩:=l j (by simp);refine Ma st p.isList (x:=u) (by simpa using b_) λh' Q sb=>?_;have T:Inv X f be H { s with heap:=h' }:=I.turned (t':=s.toks) (λb o g e=>(sb.2 b g).trans e) y A B C F;let⟨o,e,c,d⟩:=id Q;show⟨u,S,lh (s:={ s with heap:=h' }) e c d 'b' ⟨x,H,T,ru,⟨S,λys hy=>by rw[I.list_inj hy r];show N⟩,Q,λb g=>(l b g).1⟩⟩
 done:=by
  intro X J M G R i f s be H E I l st L;subst J M G;let⟨xs,r,N⟩:=L;let⟨its,O,p,hz⟩:=I.list r;let⟨y,A,a_,B,C,F⟩:=l j (by simp);have hl:=O.length;show Mi (I.ok.hd R) st p.isList (by simp;omega) λh' U=>⟨S,I.turned (t':=s.toks) (λb o g e=>U b o g e) y A B C F⟩
 self:=λ_ _ _ _ _ st h=>į st h
def CA{P:Å}{w:È}{K:Â}{tg:Ã}(a j:Addr):Turn P w K tg (ra K a) [j] j (λi h=>h.IsTupleIter j a i) where
 mem:=by simp
 obj:=λi h st b g=>by
  have e:b=j:=by simpa using g
  subst e;let⟨o,e,c,d⟩:=st;show⟨o,e,λv z=>by rw[d]at z;cases z⟩
 keep:=λi h h' st k=>st.at λo e=>k j (by simp) o e
 item:=by
  intro X J M G R i f s be H E I l st L;subst J M G;let⟨xs,x,r,N⟩:=L;let⟨its,O,p,hz⟩:=I.tuple r;let⟨u,b_,ru⟩:=O.get N;let⟨y,A,a_,B,C,F⟩:=l j (by simp);refine Ĝ st (show s.heap.IsTuple a its.toArray from p) (x:=u) (by simpa using b_) λh' Q sb=>?_;have T:Inv X f be H { s with heap:=h' }:=I.turned (t':=s.toks) (λb o g e=>(sb.2 b g).trans e) y A B C F;let⟨o,e,c,d⟩:=id Q;show⟨u,S,lh (s:={ s with heap:=h' }) e c d 'b' ⟨x,H,T,ru,⟨S,λys hy=>by rw[I.tuple_inj hy r];show N⟩,Q,λb g=>(l b g).1⟩⟩
 done:=by
  intro X J M G R i f s be H E I l st L;subst J M G;let⟨xs,r,N⟩:=L;let⟨its,O,p,hz⟩:=I.tuple r;let⟨y,A,a_,B,C,F⟩:=l j (by simp);have hl:=O.length;show Ħ (I.ok.hd R) st (show s.heap.IsTuple a its.toArray from p) (by simp;omega) λh' U=>⟨S,I.turned (t':=s.toks) (λb o g e=>U b o g e) y A B C F⟩
 self:=λ_ _ _ _ _ st h=>ħ st h
def vj{P:Å}{w:È}{K:Â}{R:Ã}(a:Addr)(lo:Int)(n:Nat):Turn P w K R (iZ lo n) [a] a (λi h=>ķ h a (lo+(i:Nat)*1) ((n:Int)-(i:Nat)) 1) where
 mem:=by simp
 obj:=λi h st b f=>by
  have e:b=a:=by simpa using f
  subst e
  show⟨_,st,λv z=>by
   have U:û _=ï v:=z
   cases U⟩
 keep:=λi h h' st k=>k a (by simp) _ st
 item:=by
  intro X y C x A i c s J H E I g st B;subst y C x;let⟨j,l,N,p,r,u⟩:=g a (by simp);have W:=Walks.range (prog:=X.prog) (w:=X.w) (I.ok.hd A) a lo 1 n;refine W.item i s _ _ B st λv h' G O F Q=>?_;let⟨t,rfl⟩:=O;have L:Inv X c J H { s with heap:=h',toks:=G }:=I.turned (λb o f e=>Q b o (by simpa using f) e) j l p r u;refine⟨_,S,lh (s:={ s with heap:=h',toks:=G }) (n:="range_iterator") F S S 'b' ⟨.int (lo+i),H,L,⟨t,?_⟩,⟨S,S⟩,F,λb f=>(g b f).1⟩⟩;rw[Int.mul_one]
 done:=by intro X y C x A i c s J H E I g st B;subst y C x;let⟨j,l,N,p,r,u⟩:=g a (by simp);show wpAny_pyNext_range_end (I.ok.hd A) st (by have:n<=i:=B;omega) λh' M=>⟨S,I.turned (t':=s.toks) (λb o f e=>M b o f e) j l p r u⟩
 self:=λ_ _ _ _ _ st h=>wpAny_pyIter_rangeiter st h
section
variable{X:Cx}{c:Ã}
def CI{a:Y (Addr×Õ)}{h:St}{H:Hp}{s:À}{R:It->Hp->Prop}{E:Value->À->Prop}{lo hi:Int}{t u v:Ł}{g:Nat}(I:Inv X a h H s)(p:-(2^62)<=lo)(r:lo<2^62)(w:-(2^62)<=hi)(x:hi<2^62)
  (q:R (iZ lo (hi-lo).toNat) H):wpAny (Ä X.prog X.w) X.A (Ľ (.ref s.heap.objs.size)) (pd X a h c R) E { s with heap:=s.heap.push { cls:=.type "range",data:=.fields #[.int lo t,.int hi u,.int 1 v] },toks:=g }:=by
 refine Ļ (Ċ ..) (ŏ p r w x) ?_;have f:Inv X a h H { s with heap:=s.heap.push { cls:=.type "range",data:=.fields #[.int lo t,.int hi u,.int 1 v] },toks:=g }:=I.kept λb o e=>Jf _ e
 refine⟨(s.heap.push { cls:=.type "range",data:=.fields #[.int lo t,.int hi u,.int 1 v] }).objs.size,[(s.heap.push { cls:=.type "range",data:=.fields #[.int lo t,.int hi u,.int 1 v] }).objs.size],_,_,H,S,
  f.kept (t':=g) λb o e=>Jf _ e,vj _ lo (hi-lo).toNat,?_,λb y=>?_,q⟩
 ·have j:lo+((0:Nat):Int)*1=lo:=by simp
  have l:(((hi-lo).toNat:Nat):Int)-((0:Nat):Int)=Builtin.Range.rangeSize lo hi 1:=by rw[MK];split<;>omega
  change ķ _ _ (lo+((0:Nat):Int)*1) ((((hi-lo).toNat:Nat):Int)-((0:Nat):Int)) 1;rw[j,l];show Jq _ S
 ·have e:b=(s.heap.push { cls:=.type "range",data:=.fields #[.int lo t,.int hi u,.int 1 v] }).objs.size:=by simpa using y
  subst e;show f.fpOk (Jg _) (f.hok.fresh (Jg _))
noncomputable def Bv(e:TA):TI:=λf H R=>e f H λvs a=>∃j:Int,vs=[.int j]/\-(2^62)<=j/\j<2^62/\R (iZ 0 j.toNat) a
def rY{a:Ã}{o:TA}{p g:Ö}(x:Gl X "range")(y:X.mg "range"=ŗ)(w:PA X [a] o)(z:starEach [a] X.env=[(Ś,eval a X.env)]:=by rfl):PI X c (.Call (.Name "range" p) [a] [] g) (Bv o):=by
 intro f s C H R I h;refine Call_ (hV I x y boot_range (Kc (aC (w g f s C H _ I h) λus F v=>?_) z S));let⟨vs,E,u,B,l⟩:=v;let⟨j,e,l,A,q⟩:=l;subst e
 cases B with
 |cons r rr=>
  cases rr;let⟨t,rfl⟩:=r;show call_range_1 (CI u () () l A (by simpa using q))
noncomputable def AK(p:TI)(g:TG)(tb:TS):TS:=λD a H=>p a H λJ l=>∃W:Nat->Nat->St->Hp->Prop,(∃m,W 0 m a l)/\∀i m a H,W i m a H->
 (J.stop i H/\D.nx a H)\/(J.go i H/\∃N:St->Hp->Prop,(∀f e,N f e->∃j,j<m/\W (i+1) j f e)/\∀x e,J.yld i H x e->g x a e λh o=>tb { D with nx:=N,ct:=N,bk:=D.nx } h o)
noncomputable def la(a:Y Addr)(h:Heap):Y (Addr×Õ):=a.filterMap λb=>(h.get? b).map λo=>(b,o)
def nI{a:Y Addr}{h:Heap}{b:Addr}{o:Õ}(f:b∈a)(e:h.get? b=Z o):(b,o)∈la a h:=Lm.mpr ⟨b,f,by rw[e];rfl⟩
def EC{a:Y Addr}{h:Heap}{p:Addr×Õ}(j:p∈la a h):p.1∈a/\h.get? p.1=Z p.2:=by
 let⟨b,g,e⟩:=Lm.mp j
 cases q:h.get? b with
 |none=>rw[q]at e;cases e
 |some o=>
  rw[q]at e;have f:(b,o)=p:=JJ e;subst f;show⟨g,q⟩
def Inv.pinned{a:Y (Addr×Õ)}{j:St}{H:Hp}{s:À}{f:Y Addr}(I:Inv X a j H s)(w:∀b∈f,ei X a H b)(x:∀b∈f,∃o,s.heap.get? b=Z o/\∀v,o.data≠.cell v):Inv X (a++la f s.heap) j H s:=
 I.pins_of λp y=>(JH.mp y).elim (λz=>I.pin p (JZ _ z)) λz=>by let⟨h,e⟩:=EC z;let⟨l,r,u,_⟩:=w p.1 h;let⟨o,g,d⟩:=x p.1 h;rw[e]at g;cases g;show⟨e,l,r,u,d⟩
def Inv.unpinned{a pl:Y (Addr×Õ)}{e:St}{H:Hp}{s:À}(I:Inv X (a++pl) e H s):Inv X a e H s:=I.pins_of λp f=>I.pin p (JZ _ (Lg _ f))
def vS{y:Ã}{C:Y Ç}{wi:TI}{g:TG}{tb:TS}{a_:Ö}(K:ø (Ä X.prog X.w) X.A X.env X.xe)(hc:X.calm=ř)(hi:PI X c y wi)(hg:PG X c g)(w:PSs X C tb)
  (hs:∀x,Ì y X.env x=pure x:=by intro _;rfl):PS X (.For c y C [] a_) (AK wi g tb):=by
 intro a s σ H D I h;refine wpAny_For (aC (hi a s σ H _ I h) λv s1 h1=>aC h1 λTN s2 h2=>?_) hs;let⟨it,F,tn,J,H2,e,I2,T,Rf,f2,W,⟨m0,w0⟩,O⟩:=h2;subst e;have be:∀{B:Hp},(∀b∈F,B b=ŗ)->∀b∈F,ei X a B b:=λhn b w=>⟨hn b w,(f2 b w).2⟩;refine codeAny_forLoop_any (λn s'=>∃i z B,Inv X a z B s'/\tn i s'.heap/\(∀b∈F,B b=ŗ)/\W i n z B) ?_ m0 ⟨0,σ,H2,I2,Rf,λb w=>(f2 b w).1,w0⟩;rintro n s3 ⟨i,A,P,I3,M,G,w3⟩;rcases O i n A P w3 with⟨stop,qn⟩|⟨go,N,hN,step⟩
 ·refine La K (aC (T.done X S S S hc i a s3 A P X.xe I3 (be G) M stop) λr s4 Nx=>?_);let⟨U,I4⟩:=Nx;subst U;show Mo ⟨A,P,I4,qn⟩
 ·refine La K (aC (T.item X S S S hc i a s3 A P X.xe I3 (be G) M go) λr s4 NR=>?_);let⟨u,U,h4⟩:=NR;subst U;refine La K (aC h4 λ_ s5 Pj=>?_);let⟨x,H5,I5,r5,y5,R,TQ⟩:=Pj;have Q:=I5.pinned (be TQ) (T.obj _ _ R);refine La K (aC (hg _ s5 A H5 x u _ Q r5 (step x H5 y5)) λ_ s6 Su=>?_);let⟨σ6,H6,I6,q6⟩:=Su;refine La K (aC (w _ s6 σ6 H6 _ I6 q6) λf b_ E=>?_)
  have again:∀{j:St}{l:Hp},Inv X (a++la F s5.heap) j l b_->N j l->∃m,m<n/\∃i z B,Inv X a z B b_/\tn i b_.heap/\(∀b∈F,B b=ŗ)/\W i m z B:=λ{j l} p L=>by let⟨m',hm,w7⟩:=hN j l L;refine⟨m',hm,i+1,j,l,p.unpinned,T.keep _ _ _ R λb w o e=>(p.pin (b,o) (JZ _ (JZ _ (nI w e)))).1,λb w=>?_,w7⟩;let⟨o,e,d⟩:=T.obj _ _ R b w;show (p.pin (b,o) (JZ _ (JZ _ (nI w e)))).2.1
  cases f with
  |next=>let⟨j,l,p,L⟩:=E;show again p L
  |cont=>let⟨j,l,p,L⟩:=E;show again p L
  |brk=>let⟨j,l,p,E⟩:=E;show⟨j,l,p.unpinned,E⟩
  |ret v=>let⟨x7,j,l,p,r7,E⟩:=E;show⟨x7,j,l,p.unpinned,r7,E⟩
end
noncomputable abbrev R2:=V->V->Hp->VK->Prop
noncomputable def bV(X:Cx)(f:Value->Value->Sem Value)(r:R2):Prop:=
 ∀(a:Y (Addr×Õ))(s:À)(c:St)(H:Hp)(x y:V)(v u:Value)(Q:VK),Inv X a c H s->RelV x v->RelV y u->r x y H Q->
  wpAny (Ä X.prog X.w) X.A (f v u) (EP X a c Q) X.xe s
noncomputable def pb(X:Cx)(f:Value->Sem Value)(r:V->Hp->VK->Prop):Prop:=
 ∀(a:Y (Addr×Õ))(s:À)(c:St)(H:Hp)(x:V)(v:Value)(Q:VK),Inv X a c H s->RelV x v->r x H Q->
  wpAny (Ä X.prog X.w) X.A (f v) (EP X a c Q) X.xe s
noncomputable def dS(X:Cx)(f:Value)(r:Y V->Hp->VK->Prop):Prop:=
 ∀(a:Y (Addr×Õ))(s:À)(c:St)(H:Hp)(xs:Y V)(us:Y Value)(Q:VK),Inv X a c H s->Vals xs us->r xs H Q->
  wpAny (Ä X.prog X.w) X.A (call f us) (EP X a c Q) X.xe s
noncomputable def zQ(X:Cx)(r:V->Hp->(Bool->Hp->Prop)->Prop):Prop:=
 ∀(a:Y (Addr×Õ))(s:À)(c:St)(H:Hp)(x:V)(v:Value)(Q:Bool->Hp->Prop),Inv X a c H s->RelV x v->r x H Q->
  wpAny (Ä X.prog X.w) X.A (truthy v) (TP X a c Q) X.xe s
noncomputable def iF(r:R2)(f tb:TE):TE:=λa H Q=>f a H λx c=>tb a c λy e=>r x y e Q
noncomputable def Hq(r:V->Hp->VK->Prop)(c:TE):TE:=λe H Q=>c e H λx a=>r x a Q
noncomputable def rI(C:Int->Int->Prop)(g:Int->Int->V):R2:=λx y H Q=>∃i j,x=.int i/\y=.int j/\C i j/\Q (g i j) H
noncomputable def hJ(g:Int->Int->V):R2:=λx y H Q=>∃i j,x=.int i/\y=.int j/\Q (g i j) H
noncomputable def rU(g:Int->V):V->Hp->VK->Prop:=λx H Q=>∃i,x=.int i/\Q (g i) H
section
variable{X:Cx}{a b:Ã}{c tb:TE}{e:Ö}
def qt(E:PE X a c)(F:PE X b tb){g:Y (Addr×Õ)}{s:À}{l:St}{H:Hp}{R:V->V->Hp->Prop}(I:Inv X g l H s)
  (h:c l H λx w=>tb l w λy j=>R x y j) {Q:Value->À->Prop} {f:Value->Value->Sem Value}
  (G:∀v u r x y j,Inv X g l j r->RelV x v->RelV y u->R x y j->wpAny (Ä X.prog X.w) X.A (f v u) Q X.xe r) :
  wpAny (Ä X.prog X.w) X.A (eval a X.env) (λv o=>wpAny (Ä X.prog X.w) X.A (eval b X.env) (λu p=>wpAny (Ä X.prog X.w) X.A (f v u) Q X.xe p) X.xe o) X.xe s:=by
 refine aC (E g s l H _ I h) λv N C=>?_;let⟨x,w,z,L,J⟩:=C;refine aC (F g N l w _ z J) λu r B=>?_;let⟨y,j,A,M,K⟩:=B;show G v u r x y j A L M K
def qE{g:ÿ}{r:R2}(w:bV X (Ï g) r)(o:PE X a c)(p:PE X b tb):PE X (.BinOp a g b e) (iF r c tb):=by intro f s C H Q I h;show wpAny_BinOp (qt o p I h λv u B x y j l z A q=>w f B C j x y v u Q l z A q)
def B2{g:UnaryOp}{r:V->Hp->VK->Prop}(w:pb X (unaryOp g) r)(u:PE X a c):PE X (.UnaryOp g a e) (Hq r c):=by intro f s j H Q I h;show UnaryOp_ (aC (u f s j H _ I h) λv A p=>by let⟨x,l,o,z,y⟩:=p;show w f A j l x v Q o z y)
def nC{f:Value->Value->Sem Value}{C:Int->Int->Prop}{g:Int->Int->Int}
  (rule:∀(i j:Int)(t u:Ł)(s:À)(Q:Value->À->Prop)(E:Value->À->Prop),C i j->Q (.int (g i j) s.toks) { s with toks:=s.toks+1 }->wpAny (Ä X.prog X.w) X.A (f (.int i t) (.int j u)) Q E s) :
  bV X f (rI C λi j=>.int (g i j)):=by
 intro l s w H x y v u Q I p r h;let⟨i,j,rfl,rfl,o,q⟩:=h;let⟨t,rfl⟩:=p;let⟨t',rfl⟩:=r;show rule i j t t' s _ _ o ⟨.int (g i j),H,I.tok _,⟨_,S⟩,q⟩
def t9{f:Value->Value->Sem Value}{g:Int->Int->Int}
  (rule:∀(i j:Int)(t u:Ł)(s:À)(Q:Value->À->Prop)(E:Value->À->Prop),Q (.int (g i j) s.toks) { s with toks:=s.toks+1 }->wpAny (Ä X.prog X.w) X.A (f (.int i t) (.int j u)) Q E s) :
  bV X f (hJ λi j=>.int (g i j)):=by
 intro l s r H x y v u Q I o p h;let⟨i,j,rfl,rfl,q⟩:=h;let⟨t,rfl⟩:=o;let⟨t',rfl⟩:=p;show rule i j t t' s _ _ ⟨.int (g i j),H,I.tok _,⟨_,S⟩,q⟩
def nO{f:Value->Value->Sem Value}{g:Int->Int->Bool}
  (rule:∀(i j:Int)(t u:Ł)(s:À)(Q:Value->À->Prop)(E:Value->À->Prop),Q (.bool (g i j)) s->wpAny (Ä X.prog X.w) X.A (f (.int i t) (.int j u)) Q E s) :
  bV X f (hJ λi j=>.bl (g i j)):=by
 intro l s r H x y v u Q I o p h;let⟨i,j,rfl,rfl,q⟩:=h;let⟨t,rfl⟩:=o;let⟨t',rfl⟩:=p;show rule i j t t' s _ _ ⟨.bl (g i j),H,I,S,q⟩
noncomputable def vP(i j:Int):Prop:=0<=j/\j<=1000000/\i.natAbs<2^64
def DQ:bV X (Ï .Add) (hJ λi j=>.int (i+j)):=t9 λ_ _ _ _ _ _ _ q=>add_int q
def HN:bV X (Ï .Sub) (hJ λi j=>.int (i-j)):=t9 λ_ _ _ _ _ _ _ q=>sub_int q
def D8:bV X (Ï .Mod) (rI (λ_ j=>0<j) λi j=>.int (i % j)):=nC λi j _ _ _ _ _ f q=>by have g:(0:Int)<j:=f;show mod_int' () (by rw[Int.fmod_eq_emod_of_nonneg i ()];show q)
def GR:bV X (Ï .Pow) (rI vP λi j=>.int (i^j.toNat)):=nC λ_ _ _ _ _ _ _ f q=>pow_int_small f.1 f.2.1 f.2.2 q
def D1{f:Value->Sem Value}{g:Int->Int}
  (rule:∀(i:Int)(t:Ł)(s:À)(Q:Value->À->Prop)(E:Value->À->Prop),Q (.int (g i) s.toks) { s with toks:=s.toks+1 }->wpAny (Ä X.prog X.w) X.A (f (.int i t)) Q E s) :
  pb X f (rU λi=>.int (g i)):=by
 intro j s o H x v Q I l h;let⟨i,rfl,q⟩:=h;let⟨t,rfl⟩:=l;show rule i t s _ _ ⟨.int (g i),H,I.tok _,⟨_,S⟩,q⟩
def zP:pb X (unaryOp .USub) (rU λi=>.int (-i)):=D1 λ_ _ _ _ _ q=>neg_int q
end
section
variable{X:Cx}{a b:Ã}{f tb:TE}{g:Ö}
def nW{c:Y (Addr×Õ)}{j:St}{H:Hp}{s:À}{Q:VK}{k h:Bool}(I:Inv X c j H s)(q:Q (.bl k) H)(e:k=h):EP X c j Q (.bool h) s:=by subst e;show⟨.bl k,H,I,S,q⟩
def DI:bV X (É .Lt) (hJ λi j=>.bl (decide (i<j))):=nO λ_ _ _ _ _ _ _ q=>lt_int q
def DP:bV X (É .LtE) (hJ λi j=>.bl (decide (i<=j))):=nO λ_ _ _ _ _ _ _ q=>le_int q
def Bg:bV X (É .Gt) (hJ λi j=>.bl (decide (j<i))):=nO λ_ _ _ _ _ _ _ q=>gt_int q
def A6:bV X (É .GtE) (hJ λi j=>.bl (decide (j<=i))):=nO λ_ _ _ _ _ _ _ q=>ge_int q
def xI:bV X (É .Is) (λx y H Q=>y=.non/\Q (.bl (decide (x=.non))) H):=by
 intro c s l H x y v u Q I e j h;let⟨rfl,q⟩:=h;cases j;refine is_none_gen (nW I q ?_)
 cases x<;>first
  |(cases e;rfl)
  |(let⟨t,rfl⟩:=e;rfl)
def BY:bV X (É .IsNot) (λx y H Q=>y=.non/\Q (.bl (!decide (x=.non))) H):=by
 intro c s l H x y v u Q I e j h;let⟨rfl,q⟩:=h;cases j;refine isnot_none_gen (nW I q ?_)
 cases x<;>first
  |(cases e;rfl)
  |(let⟨t,rfl⟩:=e;rfl)
def az(b:Ã){c:Ĕ}(h:c≠.In:=by decide)(l:c≠.NotIn:=by decide):behindInMarks c b=Ś:=by
 have e:(c==Ĕ.In)=Ś:=by cases c<;>first|rfl|show absurd S h
 have j:(c==Ĕ.NotIn)=Ś:=by cases c<;>first|rfl|show absurd S l
 cases b<;>simp[behindInMarks,e,j]
def sH{e:Ĕ}{r:R2}(z:bV X (É e) r)(o:PE X a f)(p:PE X b tb)(w:behindInMarks e b=Ś):PE X (.Compare a [e] [b] g) (iF r f tb):=by intro c s E H Q I h;show wpAny_Compare1 (qt o p I h λv u C x y j l A B q=>z c C E j x y v u Q l A B q) w
noncomputable def qz(t:TE):TT:=λe H Q=>t e H λx c=>∃k,x=.bl k/\Q k c
def wj{l:Ĕ}{r:R2}(K:bV X (É l) r)(F:PE X a f)(G:PE X b tb)(J:behindInMarks l b=Ś):PT X (.Compare a [l] [b] g) (qz (iF r f tb)):=by
 intro j s o H Q I h
 refine wpAny_isTrue_Compare1 (aC (F j s o H _ I h) λv a_ ⟨x,p,B,O,L⟩=>aC (G j a_ o p _ B L) λu T ⟨y,w,C,P,M⟩=>
  aC (K j T o w x y v u _ C O P M) λc U ⟨z,A,E,R,k,e,N⟩=>?_) J
 subst e;cases R;show Le ⟨A,E,N⟩
noncomputable def rg(K:Â)(x:V)(H:Hp)(k:Bool):Prop:=
 match x with
 |.non=>k=Ś
 |.bl b=>k=b
 |.int i=>k=(i != 0)
 |.str y=>y.length<=sizeLine/\k=((y.length:Int) != 0)
 |.byt y=>y.size<=sizeLine/\k=((y.size:Int) != 0)
 |.ref p=>(∃xs,SqL K H p xs/\k=!xs.isEmpty)\/(∃xs,SqT K H p xs/\k=!xs.isEmpty)\/∃c,H p=Z (.dK c)/\k=!c.isEmpty
 |_=>False
def AB{e:Type}{c:Y (e×V)}{vs:Y (e×Value)}(r:KV c vs):(!vs.isEmpty)=!c.isEmpty:=by cases r<;>rfl
def vI{xs:Y V}{its:Y Value}(r:Vals xs its):(!its.toArray.isEmpty)=!xs.isEmpty:=by cases r<;>simp
def iU:(sizeLine:Nat)<2^63:=by rw[LL];decide
def Hg:zQ X (λx H Q=>∃k,rg X.K x H k/\Q k H):=by
 intro z s F H x v Q I o h;let⟨k,e,q⟩:=h;have C:=iU;have E:sizeLine=16777216:=LL
 cases x with
 |non=>
  cases o;have c:k=Ś:=e;subst c;show truthy_none ⟨H,I,q⟩
 |bl b=>
  cases o;have c:k=b:=e;subst c;show Le ⟨H,I,q⟩
 |int i=>
  let⟨t,rfl⟩:=o;have c:k=(i != 0):=e;subst c;show PySem.P.truthy_int ⟨H,I,q⟩
 |str y=>
  let⟨t,rfl⟩:=o;obtain⟨B,c⟩:y.length<=sizeLine/\k=((y.length:Int) != 0):=e;subst c;show PySem.P.truthy_str () ⟨H,I.tok _,q⟩
 |byt y=>
  let⟨t,rfl⟩:=o;obtain⟨B,c⟩:y.size<=sizeLine/\k=((y.size:Int) != 0):=e;subst c;show PySem.W.truthy_bytes () ⟨H,I.tok _,q⟩
 |ref p=>
  cases o;have c:(∃xs,SqL X.K H p xs/\k=!xs.isEmpty)\/(∃xs,SqT X.K H p xs/\k=!xs.isEmpty)\/∃l,H p=Z (.dK l)/\k=!l.isEmpty:=e;rcases c with⟨xs,u,c⟩|⟨xs,u,c⟩|⟨l,u,c⟩
  ·subst c;let⟨its,r,pl,w⟩:=I.list u;have j:=r.length;show wpAny_truthy_list pl.isList (by simp only[Jo];omega) ⟨H,I.tok _,by rw[vI r];show q⟩
  ·subst c;let⟨its,r,pl,w⟩:=I.tuple u;have j:=r.length;show truthy_tuple pl (by simp only[Jo];omega) ⟨H,I.tok _,by rw[vI r];show q⟩
  ·subst c;obtain⟨w,A,vs,r,m⟩:l.length<=sizeLine/\(p==Ú)=Ś/\∃vs,KV l vs/\s.heap.DictOf (fu X.prog X.w) p vs:=I.hok p _ u;have j:l.length=vs.length:=Md r;show wpAny_truthy_dict A m () ⟨H,I.tok _,by rw[AB r];show q⟩
 |_=>show (show False from e).elim
def wl(u:PE X a f)(w:∀c,isTrue a X.env c=(do let v ←c;standAt a.pos;holding [v] (truthy v))) :
  PT X a (λj H Q=>f j H λx l=>∃k,rg X.K x l k/\Q k l):=by
 intro e s j H Q I h;show isTrue_plain (aC (u e s j H _ I h) λv A r=>by let⟨x,o,p,z,y⟩:=r;show Hg e A j o x v Q p z y) (w _)
def Ie:bV X (Ï .Add) (λx y H Q=>∃i j,x=.str i/\y=.str j/\i.length+j.length<=sizeLine/\Q (.str (i++j)) H):=by intro c s r H x y v u Q I l o h;let⟨i,j,rfl,rfl,e,q⟩:=h;let⟨t,rfl⟩:=l;let⟨t',rfl⟩:=o;show add_str (λt' p=>⟨.str (i++j),H,I.tok _,⟨_,S⟩,q⟩) e
def gZ{x:V}{us:Y Value}(r:Vals [x] us):∃u,us=[u]/\RelV x u:=by
 cases r with
 |cons c e=>cases e;show⟨_,S,c⟩
def se{x y:V}{us:Y Value}(r:Vals [x,y] us):∃u c,us=[u,c]/\RelV x u/\RelV y c:=by
 cases r with
 |cons e h=>
  cases h with
  |cons j l=>cases l;show⟨_,_,S,e,j⟩
def Fb:dS X (.builtin "abs") (λxs H Q=>∃i,xs=[.int i]/\Q (.int (if i<0 then -i else i)) H):=by intro c s j H xs us Q I r h;let⟨i,rfl,q⟩:=h;let⟨u,rfl,t,rfl⟩:=gZ r;show call_abs_int λu e=>⟨.int (if i<0 then -i else i),H,I.tok _,⟨_,S⟩,q⟩
def yn(l:X.calm=ř):dS X (.builtin "max") (λxs H Q=>∃i j,xs=[.int i,.int j]/\Q (.int (if j>i then j else i)) H):=by
 intro e s v H xs us Q I r h;let⟨i,j,rfl,q⟩:=h;let⟨u,p,rfl,⟨t,rfl⟩,⟨t',rfl⟩⟩:=se r;refine max_two_ints (I.ok.hd l) λh' o k=>⟨_,H,I.kept k,?_,q⟩;by_cases c:j>i
 ·rw[Jj c,Jj c];show⟨_,S⟩
 ·rw[Jd c,Jd c];show⟨_,S⟩
def FB(l:X.calm=ř):dS X (.builtin "min") (λxs H Q=>∃i j,xs=[.int i,.int j]/\Q (.int (if j<i then j else i)) H):=by
 intro e s v H xs us Q I r h;let⟨i,j,rfl,q⟩:=h;let⟨u,p,rfl,⟨t,rfl⟩,⟨t',rfl⟩⟩:=se r;refine min_two_ints (I.ok.hd l) λh' o k=>⟨_,H,I.kept k,?_,q⟩;by_cases c:j<i
 ·rw[Jj c,Jj c];show⟨_,S⟩
 ·rw[Jd c,Jd c];show⟨_,S⟩
def xi:dS X (.type "int") (λxs H Q=>(∃i,xs=[.int i]/\Q (.int i) H)\/∃k,xs=[.bl k]/\Q (.int (if k then 1 else 0)) H):=by
 intro c s j H xs us Q I r h;rcases h with⟨i,rfl,q⟩|⟨k,rfl,q⟩
 ·let⟨u,rfl,t,rfl⟩:=gZ r;show call_int_int ⟨.int i,H,I,⟨_,S⟩,q⟩
 ·let⟨u,rfl,e⟩:=gZ r;cases e;show call_int_bool ⟨.int (if k then 1 else 0),H,I.tok _,⟨_,S⟩,q⟩
end
structure ObjM(h:Heap)(x dx C:Addr)(mA:Str->Option Value):Prop where
 obj:h.get? x=Z (í C dx)
 ns:h.Ns1 dx mA
 ne:dx≠x
def za{h:Heap}{c:Addr}{f:Str->Ř Value}(n:h.Ns1 c f):∃g,h.get? c=Z g/\∀name,ľ name g=Z (f name):=by
 let⟨o,es,v,r,hd,l,_,p⟩:=n;refine⟨o,r,λname=>?_⟩;have e:=p name;unfold nsFind findBy at e;rw[←Array.find?_toList]at e;unfold ľ;rw[hd];dsimp only;split
 ·rename_i y q;rw[q]at e;show JY Z e
 ·rename_i q;rw[q]at e
  have a:es.toList.any (·.refKey)=Ś:=by rw[List.any_eq_false];intro y u;let⟨z,t,j⟩:=l y (Array.mem_toList_iff.mp u);simp[DictEntry.refKey,j]
  have a':¬ es.toList.any (·.refKey)=ř:=by rw[a];show JO
  rw[Jd a'];show JY Z e
def ObjM.look{h:Heap}{x c C:Addr}{e:Str->Ř Value}(I:ObjM h x c C e):∃a,InstAt h x (í C c) C (Z a)/\∀name,ľ name a=Z (e name):=
 let ⟨a,ho,hl⟩:=za I.ns
 ⟨a,⟨I.obj,S,S,ho⟩,hl⟩
section
variable{prog:Å}{w:È}{A:Ê}{E:Value->À->Prop}{s:À}{K:Â}{x e C f:Addr}{c:Str->Ř Value}{name:Str}{v:Value}
def yx{a:Bool}{Q:Value->À->Prop}(X:K.In s.heap)(I:ObjM s.heap x e C c)(l:ô K C name=ř)(o:ö K C=ř)
  (j:Ð K (.ref C) name=Z ŗ) (r:c name=Z v) (g:handedIn v=ř) (h:Q v { s with toks:=s.toks+1 }) :
  wpAny (Ä prog w) A (getAttr (.ref x) name a) Q E s:=by
 let⟨u,J,p⟩:=I.look;show PySem.W.get_value X J (ć l).1 (PySem.W.findObj_own o j S (by rw[p,r])) g h
def HK{pl:Sem Bool}{Q:Value×Y Value->À->Prop}(X:K.In s.heap)(I:ObjM s.heap x e C c)(a:ô K C name=ř)
  (g:Ð K (.ref C) name=Z (Z (.ref f))) (l:isFn K (.ref f)=ř) (o:c name=ŗ) (h:Q (.ref f,[.ref x]) s) :
  wpAny (Ä prog w) A (getMethod (.ref x) name pl) Q E s:=by
 let⟨p,J,j⟩:=I.look;show PySem.W.method_fn X J (ć a).1 (ć a).2 g (LG.mp l) (by change (ľ name p).map (·.isSome)=Z Ś;rw[j,o];rfl) h
def BW{ns:Y Str}{Q:Unit->À->Prop}(X:K.In s.heap)(I:ObjM s.heap x e C c)
  (L:Ð K (.ref C) "__setattr__"=Z (Z (.builtin "object.__setattr__"))) (H:Ą K C=ř) (M:Ŋ K C name=Z ŗ) (G:ö K C=ř)
  (N:PySem.Within c ns) (hsz:ns.length<=sizeLine)
  (h:∀h',ObjM h' x e C (λy=>if y=name then Z v else c y)->Heap.SameBut e s.heap h'->Q Unit.unit { s with heap:=h',toks:=s.toks+2 }) :
  wpAny (Ä prog w) A (setAttr (.ref x) name v) Q E s:=by
 let⟨T,J,R⟩:=I.look;refine PySem.W.set_plain X J L (PySem.W.osa_open (s:={ s with toks:=s.toks+1 }) (r:=ŗ) X J H M λb=>?_);let⟨P,F,u⟩:=PySem.W.any_some G;have O:s.heap.get? x=Z ⟨.ref C,Z e,.plain,#[]⟩:=I.obj;refine Jb (Jr (Jb (Jb (wpAny_loadPart O (Jb (PySem.W.Looks.here (s:={ s with toks:=s.toks+1 }) (PySem.W.looks_clsIn X F) ?_))))));rw[u];refine Jr (a:=Z e) (Jb (Jr (Jb ?_)));refine wpAny_nsSet1 (s:={ s with toks:=s.toks+1 }) I.ns λh' p o=>?_;let⟨U,B,z,l,j,g⟩:=p.count (PySem.Within.cons name v N);refine Jb (wpAny_lookBehind l (by rw[j];show pastItsLine_dict (JC g (by rw[Jp];omega))) ?_);show Jr (h _ ⟨(o.2 _ (Kd I.ne)).trans I.obj,p,I.ne⟩ o)
def Ib{R:Result->À->Prop}{vs:Y Value}{a:Y (Str×Value)}(X:K.In s.heap)(l:Ī K C=ř)
  (hi:Ð K (.ref C) "__init__"=Z (Z (.ref f))) (j:typeIn K (.ref f)=Z (.type "function"))
  (h:ì (Ä prog w) (A.under (.builtin "type.__call__" ⟨.ref C::vs,a⟩)) (.call (.ref f) ⟨.ref (s.heap.objs.size+1)::vs,a⟩) (PySem.W.InitBack (s.heap.objs.size+1) R)
   { s with heap:=(s.heap.push Ý).push (í C s.heap.objs.size) }) :
  ì (Ä prog w) A (.call (.ref C) ⟨vs,a⟩) R s:=by
 let⟨o,g,d,t,os⟩:=s;show PySem.W.make_core (PySem.W.makes_of X l) (PySem.W.looks_findIn X hi) (λself=>PySem.W.bind_fn X self j) (.inl S) h
end
noncomputable def cE(f:Str)(v:V):Y (Str×V)->Y (Str×V)
 | []=>[(f,v)]
 |(g,x)::r=>if g=f then (g,v)::r else (g,x)::cE f v r
def wL(f g:Str)(v:V):∀fs:Y (Str×V),(cE f v fs).lookup g=if g=f then Z v else fs.lookup g
 | []=>by
  change List.lookup g [(f,v)]=_;by_cases h:g=f
  ·have a:(g==f)=ř:=LG.mpr h;simp only[List.lookup,a,Jj h]
  ·have a:(g==f)=Ś:=K2.mpr h;simp only[List.lookup,a,Jd h]
 |(k,x)::r=>by
  have j:=wL f g v r;rw[show cE f v ((k,x)::r)=(if k=f then (k,v)::r else (k,x)::cE f v r)from rfl];by_cases c:k=f
  ·rw[Jj c];by_cases h:g=k
   ·have a:(g==k)=ř:=LG.mpr h;simp only[List.lookup,a,Jj (h.trans c)]
   ·have a:(g==k)=Ś:=K2.mpr h;simp only[List.lookup,a,Jd (λe:g=f=>h (e.trans c.symm))]
  ·rw[Jd c];by_cases h:g=k
   ·have a:(g==k)=ř:=LG.mpr h;simp only[List.lookup,a,Jd (λe:g=f=>c (h.symm.trans e))]
   ·have a:(g==k)=Ś:=K2.mpr h;simp only[List.lookup,a];show j
def rL(f:Str)(v:V):∀fs:Y (Str×V),f∈(cE f v fs).map (·.1)/\∀g,g∈fs.map (·.1)->g∈(cE f v fs).map (·.1)
 | []=>⟨by simp[cE],λg h=>by simp at h⟩
 |(k,x)::r=>by
  let⟨c,j⟩:=rL f v r;rw[show cE f v ((k,x)::r)=(if k=f then (k,v)::r else (k,x)::cE f v r)from rfl];by_cases a:k=f
  ·rw[Jj a];subst a;show⟨by simp,λg h=>by simpa using h⟩
  ·rw[Jd a];refine⟨?_,λg h=>?_⟩
   ·rw[JB];show Jh _ c
   ·rw[JB]at h ⊢;rcases Jt.mp h with e|e
    ·show Jt.mpr (.inl e)
    ·show Jh _ (j g e)
def vN(f:Str)(v:V):∀fs:Y (Str×V),(cE f v fs).length<=fs.length+1
 | []=>by simp[cE]
 |(k,x)::r=>by
  have c:=vN f v r;rw[show cE f v ((k,x)::r)=(if k=f then (k,v)::r else (k,x)::cE f v r)from rfl];by_cases a:k=f
  ·rw[Jj a,Jp,Jp];omega
  ·rw[Jd a,Jp,Jp];omega
def RelO.some_of{v:V}{o:Ř Value}(r:RelO (Z v) o):∃u,o=Z u/\RelV v u:=by
 cases o with
 |none=>show (show False from r).elim
 |some u=>show⟨u,S,r⟩
def RelO.none_of{o:Ř Value}(r:RelO ŗ o):o=ŗ:=by
 cases o with
 |none=>rfl
 |some u=>show (show False from r).elim
def Ch{v:V}{u:Value}(r:RelV v u):handedIn u=ř:=by
 cases v with
 |non=>cases (show u=Value.none from r);rfl
 |bl b=>cases (show u=Value.bool b from r);rfl
 |int i=>let⟨t,e⟩:=(show ∃t,u=Value.int i t from r);cases e;rfl
 |str x=>let⟨t,e⟩:=(show ∃t,u=Value.str x t from r);cases e;rfl
 |byt b=>let⟨t,e⟩:=(show ∃t,u=Value.bytes b t from r);cases e;rfl
 |flt b=>let⟨t,e⟩:=(show ∃t,u=Value.float b t from r);cases e;rfl
 |ref a=>cases (show u=Value.ref a from r);rfl
 |ty n=>cases (show u=Value.type n from r);rfl
section
variable{P:Å}{w:È}{H:Hp}{h:Heap}{a C c:Addr}{fs:Y (Str×V)}
def pF(hok:HOk P w H h)(e:H a=Z (.ins C c fs)):∃g,ObjM h a c C g/\(∀f,RelO (fs.lookup f) (g f))/\PySem.Within g (fs.map (·.1))/\fs.length<=1000/\H c=Z (.own a):=by let⟨d,z,ne,j,g,n,r,q⟩:=(show ObjOk P w H h a (.ins C c fs)from hok a _ e);show⟨g,⟨j,n,ne⟩,r,q,z,d⟩
end
structure Cls(K:Â)(C:Addr):Prop where
 pg:ô K C Str.empty=ř
 hd:ö K C=ř
 po:Ą K C=ř
 sa:Ð K (.ref C) "__setattr__"=Z (Z (.builtin "object.__setattr__"))
def Cls.get{K:Â}{C:Addr}(c:Cls K C)(f:Str):ô K C f=ř:=c.pg
noncomputable def NoAttr(K:Â)(C:Addr)(f:Str):Prop:=Ð K (.ref C) f=Z ŗ
def NoAttr.taker{K:Â}{C:Addr}{f:Str}(n:NoAttr K C f):Ŋ K C f=Z ŗ:=by unfold Ŋ;rw[show Ð K (.ref C) f=Z ŗ from n];rfl
structure Meth(K:Â)(C:Addr)(m:Str)(f:Addr):Prop where
 at_:Ð K (.ref C) m=Z (Z (.ref f))
 fn:isFn K (.ref f)=ř
 kp:ã K (.ref f)=ř
section
variable{X:Cx}{j:Y (Addr×Õ)}{p:St}{H:Hp}{s:À}{a C B:Addr}{fs:Y (Str×V)}{f:Str}{v:V}{A:Ê}{E:Value->À->Prop}
def AO{b:Bool}{Q:Value->À->Prop}(I:Inv X j p H s)(e:H a=Z (.ins C B fs))(c:Cls X.K C)(n:NoAttr X.K C f)(l:fs.lookup f=Z v)
  (h:∀u w,Inv X j p H w->RelV v u->Q u w):wpAny (Ä X.prog X.w) A (getAttr (.ref a) f b) Q E s:=by
 let⟨y,O,r,_,_,_⟩:=pF I.hok e;let⟨u,x,g⟩:=RelO.some_of (v:=v) (o:=y f) (by rw[←l];show r f);show yx I.kIn O (c.get f) c.hd n x (Ch g) (h u _ (I.tok _) g)
def zu{m:Str}{g:Addr}{pl:Sem Bool}{Q:Value×Y Value->À->Prop}(I:Inv X j p H s)(e:H a=Z (.ins C B fs))(c:Cls X.K C)(k:Meth X.K C m g)(l:fs.lookup m=ŗ)
  (h:Q (.ref g,[.ref a]) s):wpAny (Ä X.prog X.w) A (getMethod (.ref a) m pl) Q E s:=by
 let⟨u,O,r,_,_,_⟩:=pF I.hok e;have o:u m=ŗ:=RelO.none_of (by rw[←l];show r m);show HK I.kIn O (c.get m) k.at_ k.fn o h
def zV{y:V}{u:Value}{Q:Unit->À->Prop}(I:Inv X j p H s)(e:H a=Z (.ins C B fs))(c:Cls X.K C)(n:NoAttr X.K C f)(P:fs.length<1000)(N:RelV y u)
  (h:∀G,Inv X j p (ao H a (.ins C B (cE f y fs))) G->Q Unit.unit G):wpAny (Ä X.prog X.w) A (setAttr (.ref a) f u) Q E s:=by
 let⟨F,O,r,J,_,w⟩:=pF I.hok e
 have M:(fs.map (·.1)).length<=sizeLine:=by rw[IY,LL];omega
 refine BW I.kIn O c.sa c.po n.taker c.hd J M λh' l sb=>h _ ?_
 have hd:∃o,h'.get? B=Z o:=let ⟨o,_,_,e',_⟩:=l.ns;⟨o,e'⟩
 refine I.write (x:=a) (e:=B) (by rw[e];show Ü) (.inr w) (λb q K z=>(sb.2 b K).trans z) hd ?_;refine⟨by rw[aR O.ne];show w,?_,O.ne,l.obj,_,l.ns,λg=>?_,λg L=>?_⟩
 ·have:=vN f y fs;omega
 ·change RelO ((cE f y fs).lookup g) (if g=f then Z u else F g);rw[wL];by_cases q:g=f
  ·rw[Jj q,Jj q];show N
  ·rw[Jd q,Jd q];show r g
 ·by_cases q:g=f
  ·rw[q];show (rL f y fs).1
  ·refine (rL f y fs).2 g (J g λz=>L ?_);change (if g=f then Z u else F g)=ŗ;rw[Jd q];show z
def Inv.made(I:Inv X j p H s):Inv X j p (ao (ao H s.heap.objs.size (.own (s.heap.objs.size+1))) (s.heap.objs.size+1) (.ins C s.heap.objs.size []))
  { s with heap:=(s.heap.push Ý).push (í C s.heap.objs.size) }:=by
 have c:(s.heap.push Ý).get? s.heap.objs.size=Z Ý:=Jq s.heap S
 have h:((s.heap.push Ý).push (í C s.heap.objs.size)).get? (s.heap.objs.size+1)=Z (í C s.heap.objs.size):=by
  have:=Jq (s.heap.push Ý) (o:=í C s.heap.objs.size) S
  rwa [J0]at this
 have l:(s.heap.push Ý).Ns s.heap.objs.size (λ_=>ŗ):=⟨Ý,#[],_,c,S,(λe r=>absurd r (by simp)),λ_=>rfl⟩;have g:=I.laid (a:=s.heap.objs.size) (o:=.own (s.heap.objs.size+1)) (h':=s.heap.push Ý) (t':=s.toks) (λb u q=>Jf _ q) (Jg _) ⟨_,c⟩;refine g.laid (a:=s.heap.objs.size+1) (o:=.ins C s.heap.objs.size []) (t':=s.toks) (λb u q=>Jf _ q) (MS (J0 _ _)) ?_;have ne:s.heap.objs.size≠s.heap.objs.size+1:=JN (Li _);refine⟨by rw[aR ne,bh],KU _,ne,h,λ_=>ŗ,(Heap.Ns1.of_empty l).at λo q=>Jf _ q,λ_=>Ü,λy w=>absurd rfl w⟩
def FR{prog:Å}{w:È}{env:ë}{e:Ã}{f:Str}{g:Ö}{s:À}{Q:Value->À->Prop}(l:Ë e f env (eval e env)=eval e env)
  (h:wpAny (Ä prog w) A (eval e env) (λo c=>wpAny (Ä prog w) A (getAttr o f ř) Q E c) E s):wpAny (Ä prog w) A (eval (.Attribute e f g) env) Q E s:=
 Attribute_any_ h (by rw[arm_eval_Attribute,l])
end
noncomputable def vm(K:Â)(g:TE)(f:Str):TE:=λh H Q=>g h H λx c=>∃a C e fs v,x=.ref a/\c a=Z (.ins C e fs)/\Cls K C/\NoAttr K C f/\fs.lookup f=Z v/\Q v c
noncomputable def yD(K:Â)(j l:TE)(f:Str):TS:=λD c H=>l c H λy h=>j c h λx e=>∃a C g fs,x=.ref a/\e a=Z (.ins C g fs)/\Cls K C/\NoAttr K C f/\fs.length<1000 /\
 D.nx c (ao e a (.ins C g (cE f y fs)))
section
variable{X:Cx}{o e g:Ã}{f:Str}{p j:Ö}{r w:TE}
def Az(J:PE X e r)(G:Ë e f X.env (eval e X.env)=eval e X.env):PE X (.Attribute e f p) (vm X.K r f):=by intro y s M H Q I h;refine FR G (aC (J y s M H _ I h) λu O E=>?_);let⟨x,z,A,L,a,C,N,fs,v,ex,F,c,n,l,q⟩:=E;subst ex;obtain rfl:u=Value.ref a:=L;show AO A F c n l λu' P B K=>⟨v,z,B,K,q⟩
def qL(J:PE X o r)(L:PE X g w)(K:Î g (Z (.Attribute o f j)) p.line X.env=pure Ś):PS X (.Assign [.Attribute o f j] g p) (yD X.K r w f):=by intro v s z H D I h;refine plainObj_wpAny_Assign_Attribute (aC (L v s z H _ I h) λu Q ⟨y,A,B,P,q⟩=>aC (J v Q z A _ B q) λM T ⟨x,R,E,O,a,C,a_,fs,ex,G,c,n,l,N⟩=>?_) K;subst ex;obtain rfl:M=Value.ref a:=O;show zV E G c n l P λU F=>⟨z,_,F,N⟩
end
structure Room(k:Nat)(A:Ê):Prop where
 hd:A.handled=ŗ
 dp:A.depth+3*k+5<recursionLimit
 un:A.units+16*k+200<å
def Room.mono{j k:Nat}{A:Ê}(r:Room k A)(h:j<=k):Room j A:=⟨r.hd,by have:=r.dp;omega,by have:=r.un;omega⟩
def Room.deeper{k:Nat}{A:Ê}(r:Room (k+1) A)(env:ë):Room k (A.deeper env):=
 ⟨r.hd,by have:=r.dp;change A.depth+1+3*k+5<_;omega,by have:=r.un;change A.units+3+16*k+200<_;omega⟩
def yX{A:Ê}{C:Addr}{us:Y Value}{a:Y (Str×Value)}:(A.under (.builtin "type.__call__" ⟨.ref C::us,a⟩)).depth=A.depth+1:=by
 first|rfl|simp[Ĉ,Code.weight,Code.isCreation,Code.isGuard,Code.isCaller,Ő,č,guardIds]
def Ge{A:Ê}{C:Addr}{us:Y Value}{a:Y (Str×Value)}:(A.under (.builtin "type.__call__" ⟨.ref C::us,a⟩)).units=A.units+1:=by
 first|rfl|simp[Ĉ,Code.cUnits,Ő,č]
def Room.make{k:Nat}{A:Ê}(r:Room (k+1) A)(C:Addr)(us:Y Value)(a:Y (Str×Value)):Room k (A.under (.builtin "type.__call__" ⟨.ref C::us,a⟩)):=
 ⟨r.hd,by have:=r.dp;rw[yX];omega,by have:=r.un;rw[Ge];omega⟩
def Room.depth{k:Nat}{A:Ê}(r:Room k A):A.depth<recursionLimit:=by have:=r.dp;omega
def Room.units{k:Nat}{A:Ê}(r:Room k A):A.units+64<å:=by have:=r.un;omega
noncomputable def CZ:TA:=λ_ H Q=>Q [] H
noncomputable def Dk(f:TE)(g:TA):TA:=λa H Q=>f a H λx c=>g a c λxs e=>Q (x::xs) e
section
variable{X:Cx}{e:Ã}{es:Y Ã}{c:TE}{t:TA}{a:Ö}
def pa_nil:PA X [] CZ:=λ_ _ _ _ H Q I h=>Calls.spliced_nil ⟨[],H,I,.nil,h⟩
def eM(w:PE X e c)(y:PA X es t)(z:starEach (e::es) X.env=(Ś,eval e X.env)::starEach es X.env:=by rfl):PA X (e::es) (Dk c t):=by
 intro a f s g H Q I h;rw[z];change wpAny _ _ (spliced ((Ś,eval e X.env)::backTo a (starEach es X.env))) _ _ s;refine Calls.spliced_cons (aC (w f s g H _ I h) λu F v=>?_);let⟨x,j,o,C,A⟩:=v
 show aC (y a f F g j _ o A) λus G r=>by let⟨xs,l,p,E,B⟩:=r;show⟨x::xs,l,p,.cons C E,B⟩
noncomputable def Gv(t:TA):TE:=λg H Q=>t g H λxs f=>xs.length<=sizeLine/\∀p,f p=ŗ->Q (.ref p) (ao f p (.tup xs))
noncomputable def BR(t:TA):TE:=λg H Q=>t g H λxs f=>xs.length<=sizeLine/\∀p,f p=ŗ->Q (.ref p) (ao f p (.lst xs))
def qc{x1}(h:PA X es t):PE X (.Tuple es x1 a) (Gv t):=by
 intro f s v H Q I p;refine wpAny_Tuple_spliced (aC (h a f s v H _ I p) λus g ⟨xs,j,l,r,z,q⟩=>⟨by rw[←r.length];show z,?_⟩);have o:j g.heap.objs.size=ŗ:=l.hok.fresh (Jg _);refine⟨.ref g.heap.objs.size,ao j g.heap.objs.size (.tup xs),l.laid (t':=g.toks) (λb u e=>Jf _ e) (Jg _) ?_,S,q _ o⟩;show⟨z,us,r,⟨_,Jq _ S,⟨S,S⟩,_,S⟩⟩
def vQ(h:PA X es t):PE X (.List es a) (BR t):=by
 intro f s v H Q I p;refine wpAny_List_spliced (aC (h a f s v H _ I p) λus g ⟨xs,j,l,r,z,q⟩=>⟨by rw[←r.length];show z,?_⟩);have o:j g.heap.objs.size=ŗ:=l.hok.fresh (Jg _);refine⟨.ref g.heap.objs.size,ao j g.heap.objs.size (.lst xs),l.laid (t':=g.toks) (λb u e=>Jf _ e) (Jg _) ?_,S,q _ o⟩;show⟨z,us,0,r,Jq _ S⟩
end
noncomputable abbrev Sp:=Y V->Hp->VK->XK->Prop
noncomputable abbrev dZ:=Y ë->Hp->À->XK->Value->À->Prop
structure Env0(P:Å)(w:È)(K:Â)(mg:Str->Option Value)(base:Heap)(A:Ê)(outer:List ë)(s:À)(H:Hp):Prop where
 frames:A.frames=Z outer
 mod:Mod K mg base
 bs:∀b o,base.get? b=Z o->s.heap.get? b=Z o/\H b=ŗ
 bsz:base.objs.size<=s.heap.objs.size
 funs:s.heap.FunFrames base outer
 frf:∀b∈gv outer,H b=ŗ
 hok:HOk P w H s.heap
 bare:ð s.gens
noncomputable def CE(outer:Y ë)(P:Å)(w:È)(H:Hp)(s:À)(Q:VK)(u:Value)(a:À):Prop:=
 ∃v c,a.os=s.os/\ð a.gens/\Un (gv outer) [] H c s.heap a.heap/\HOk P w c a.heap/\RelV v u/\Q v c
noncomputable def CR(CX:dZ)(outer:Y ë)(P:Å)(w:È)(H:Hp)(s:À)(Q:VK)(E:XK)(r:Result)(a:À):Prop:=
 match r with
 |.ok (.ret u)=>CE outer P w H s Q u a
 |.ok _=>False
 |.error e=>CX outer H s E e a
structure FnOk(P:Å)(w:È)(K:Â)(mg:Str->Option Value)(base:Heap)(CX:dZ)(k:Nat)(f:Addr)(fd:Í)(ps:List Str)(sp:Sp):Prop where
 len:∀vs H Q E,sp vs H Q E->vs.length=ps.length
 run:∀(A:Ê)(outer:List ë)(s:À)(H:Hp)(args:Args)(us:List Value)(vs:List V)(Q:VK)(E:XK),Room k A->Env0 P w K mg base A outer s H->Ď s fd args (ps.zip us)->Vals vs us->sp vs H Q E->
  ì (Ä P w) A (.call (.ref f) args) (CR CX outer P w H s Q E) s
def FnOk.mono{P:Å}{w:È}{K:Â}{mg:Str->Ř Value}{base:Heap}{CX:dZ}{j k:Nat}{f:Addr}{a:Í}{ps:Y Str}{sp:Sp}(F:FnOk P w K mg base CX j f a ps sp)(h:j<=k) :
  FnOk P w K mg base CX k f a ps sp:=⟨F.len,λA outer s H args us vs Q E c=>F.run A outer s H args us vs Q E (c.mono h)⟩
def FnOk.imp{P:Å}{w:È}{K:Â}{mg:Str->Ř Value}{base:Heap}{CX:dZ}{k:Nat}{f:Addr}{c:Í}{ps:Y Str}{sp a:Sp}(F:FnOk P w K mg base CX k f c ps sp)
  (h:∀vs H Q E,a vs H Q E->sp vs H Q E):FnOk P w K mg base CX k f c ps a:=
 ⟨λvs H Q E q=>F.len vs H Q E (h _ _ _ _ q),λA outer s H args us vs Q E j g e o l=>F.run A outer s H args us vs Q E j g e o (h _ _ _ _ l)⟩
def Env0.make{P:Å}{w:È}{K:Â}{mg:Str->Ř Value}{base:Heap}{A:Ê}{outer:Y ë}{s:À}{H:Hp}(e:Env0 P w K mg base A outer s H)(C:Addr)(us:Y Value)(a:Y (Str×Value)) :
  Env0 P w K mg base (A.under (.builtin "type.__call__" ⟨.ref C::us,a⟩)) outer s H:=⟨by first|show e.frames|(simpa [Ĉ,Code.envs,č,pushEnvs] using e.frames),e.mod,e.bs,e.bsz,e.funs,e.frf,e.hok,e.bare⟩
section
variable{X:Cx}{a:Y (Addr×Õ)}{c:St}{H:Hp}{s e:À}
def Inv.env0(I:Inv X a c H s):Env0 X.prog X.w X.K X.mg X.base X.A X.stack s H:=
 ⟨I.ok.frames,I.ok.mod,I.bs,JC I.ok.bsz I.sz,I.stack,I.stkFree,I.hok,I.bare⟩
def Inv.after{Q:VK}{u:Value}(I:Inv X a c H s)(h:CE X.stack X.prog X.w H s Q u e):EP X a c Q u e:=by let⟨v,f,os,bare,un,hok,r,q⟩:=h;let⟨l,g,d,t,j⟩:=e;obtain rfl:j=s.os:=os;show⟨v,f,I.call (h':=l) (g':=g) (d':=d) (t':=t) (ch:=[]) un hok bare (λb z=>absurd z (by simp)),r,q⟩
end
noncomputable def GX(sp:Sp)(dvs:Y V)(E:XK)(t:TA):TE:=λc H Q=>t c H λvs a=>sp (vs++dvs) a Q E
noncomputable def D7(C:Addr)(m:Str)(sp:Sp)(dvs:Y V)(E:XK)(h:TE)(t:TA):TE:=λe H Q=>h e H λx c=>∃a g fs,x=.ref a/\c a=Z (.ins C g fs)/\fs.lookup m=ŗ /\
 t e c λvs f=>sp (x::(vs++dvs)) f Q E
noncomputable def DY(C:Addr)(sp:Sp)(dvs:Y V)(E:XK)(t:TA):TE:=λf H Q=>t f H λvs c=>∀x a,c x=ŗ->c a=ŗ->a≠x->
 sp (.ref x::(vs++dvs)) (ao (ao c a (.own x)) x (.ins C a [])) (λv e=>v=.non/\Q (.ref x) e) E
noncomputable def Binds(K:Â)(a:Í)(ps:Y Str)(ds:Y Value):Prop:=
 ∀(s:À)(us:Y Value),K.In s.heap->(us++ds).length=ps.length->Ď s a ⟨us,[]⟩ (ps.zip (us++ds))
def Binds.all{K:Â}{a:Í}{ps:Y Str}(h:∀us:Y Value,us.length=ps.length->bindArgs a ⟨us,[]⟩=pure (ps.zip us)):Binds K a ps []:=λs us _ c=>by rw[JM]at c ⊢;show .of_eq (h us c)
noncomputable def i6(CX:dZ)(X:Cx)(E:XK):Prop:=∀(a:Y (Addr×Õ))(f:St)(H:Hp)(s:À)(e:Value)(c:À),Inv X a f H s->CX X.stack H s E e c->X.xe e c
section
variable{X:Cx}{CX:dZ}{k:Nat}{f C:Addr}{w:Í}{ps:Y Str}{sp:Sp}{dvs:Y V}{ds:Y Value}{E:XK}{x m:Str}{p g j:Ö}{e o:Ã}{es:Y Ã}{y:TE}{t:TA}
def v6{a:Y (Addr×Õ)}{l:St}{H:Hp}{s:À}{Q:VK}{us:Y Value}{vs:Y V}(F:FnOk X.prog X.w X.K X.mg X.base CX k f w ps sp)(G:Room k X.A)(A:Binds X.K w ps ds)(hd:Vals dvs ds)(J:i6 CX X E)
  (I:Inv X a l H s) (r:Vals vs us) (h:sp (vs++dvs) H Q E):wpAny (Ä X.prog X.w) X.A (call (.ref f) us) (EP X a l Q) X.xe s:=by
 have v:Vals (vs++dvs) (us++ds):=r.append hd
 have B:(us++ds).length=ps.length:=by rw[←v.length];show F.len _ _ _ _ h
 refine wpAny_call (MT (F.run X.A X.stack s H ⟨us,[]⟩ (us++ds) (vs++dvs) Q E G I.env0 (A s us I.kIn B) v h) λr K c=>?_)
 cases r with
 |error e=>show J a l H s e K I c
 |ok z=>
  cases z with
  |ret u=>show I.after c
  |next=>show Ñ c
  |brk=>show Ñ c
  |cont=>show Ñ c
def pU(F:FnOk X.prog X.w X.K X.mg X.base CX k f w ps sp)(K:Room k X.A)(B:Gl X x)(J:X.mg x=Z (.ref f))(G:ã X.K (.ref f)=ř)(z:Binds X.K w ps ds)(hd:Vals dvs ds)(L:i6 CX X E)
  (v:PA X (e::es) t) (u:ab x:=by decide) (A:starEach (e::es) X.env=(Ś,eval e X.env)::starEach es X.env:=by rfl) (l:(backTo g (starEach es X.env)).any (·.1)=Ś:=by rfl) :
  PE X (.Call (.Name x p) (e::es) [] g) (GX sp dvs E t):=by
 intro a s M H Q I h;refine LQ (sD I B J ?_ u);refine callWith_K (h₀:=X.base) I.ok.mod.kin G (aC (v g a s M H _ I h) λus O ⟨vs,N,c,r,q⟩=>⟨c.kIn,?_⟩) A l;show v6 F K z hd L c r q
def we{pl:Sem Bool}(P:PE X o y)(c:Cls X.K C)(B:Meth X.K C m f)(F:FnOk X.prog X.w X.K X.mg X.base CX k f w ps sp)(R:Room k X.A)(O:Binds X.K w ps ds)(hd:Vals dvs ds)(T:i6 CX X E)(N:PA X (e::es) t)
  (L:starEach (e::es) X.env=(Ś,eval e X.env)::starEach es X.env:=by rfl) (K:(backTo g (starEach es X.env)).any (·.1)=Ś:=by rfl)
  (be:eval (.Call (.Attribute o m j) (e::es) [] g) X.env=(do
   let ov ←eval o X.env
   standAt j.atName
   let (f,first) ←holding [ov] (getMethod ov m pl)
   callWith g f first (backTo g (starEach (e::es) X.env)) (Þ g (Ô [] X.env))):=by rfl) :
  PE X (.Call (.Attribute o m j) (e::es) [] g) (D7 C m sp dvs E y t):=by
 intro v s G H Q I h;refine PySem.W.methodCall_KW (pl:=pl) (aC (P v s G H _ I h) λu b_ ⟨x,J,z,a_,a,dx,fs,ex,M,l,q⟩=>?_) be;subst ex;obtain rfl:u=Value.ref a:=a_;refine zu z M c B l ?_;refine callWith_K (first:=[.ref a]) (h₀:=X.base) I.ok.mod.kin B.kp (aC (N g v b_ G J _ z q) λus s2 ⟨vs,H2,A,r,U⟩=>⟨A.kIn,?_⟩) L K;show v6 (us:=.ref a::us) (vs:=.ref a::vs) F R O hd T A (.cons S r) U
structure Mk(K:Â)(C f:Addr):Prop where
 makes:Ī K C=ř
 init:Ð K (.ref C) "__init__"=Z (Z (.ref f))
 fn:isFn K (.ref f)=ř
 kp:ã K (.ref C)=ř
def HM{a:Y (Addr×Õ)}{A:St}{H:Hp}{s:À}{Q:VK}{us:Y Value}{vs:Y V}(M:Mk X.K C f)(F:FnOk X.prog X.w X.K X.mg X.base CX k f w ps sp)(R:Room (k+1) X.A)(O:Binds X.K w ps ds)(hd:Vals dvs ds)
  (be:i6 CX X E) (I:Inv X a A H s) (r:Vals vs us)
  (h:∀x z,H x=ŗ->H z=ŗ->z≠x->sp (.ref x::(vs++dvs)) (ao (ao H z (.own x)) x (.ins C z [])) (λv K=>v=.non/\Q (.ref x) K) E) :
  wpAny (Ä X.prog X.w) X.A (call (.ref C) us) (EP X a A Q) X.xe s:=by
 have B:=h (s.heap.objs.size+1) s.heap.objs.size (I.hok.fresh (Nat.le_succ _)) (I.hok.fresh (Jg _)) (JN (Li _));have l:=Inv.made (C:=C) I;have G:Vals (V.ref (s.heap.objs.size+1)::(vs++dvs)) (Value.ref (s.heap.objs.size+1)::(us++ds)):=.cons S (r.append hd)
 have P:(Value.ref (s.heap.objs.size+1)::us++ds).length=ps.length:=by have e:=G.length;rw[F.len _ _ _ _ B]at e;show e.symm
 refine wpAny_call (Ib (f:=f) I.kIn M.makes M.init (LG.mp M.fn) (MT (F.run _ X.stack _ _ ⟨Value.ref (s.heap.objs.size+1)::us,[]⟩ (Value.ref (s.heap.objs.size+1)::(us++ds)) _ _ E (R.make C us [])
  (l.env0.make C us []) (O _ (Value.ref (s.heap.objs.size+1)::us) l.kIn P) G B) λr a_ c=>?_))
 cases r with
 |error e=>show be a A _ _ e a_ l c
 |ok N=>
  cases N with
  |ret u=>
   let⟨v,J,L,U,ev,T⟩:=l.after c;subst ev;show⟨U,⟨V.ref (s.heap.objs.size+1),J,L,S,T⟩⟩
  |next=>show Ñ c
  |brk=>show Ñ c
  |cont=>show Ñ c
def At(M:Mk X.K C f)(F:FnOk X.prog X.w X.K X.mg X.base CX k f w ps sp)(J:Room (k+1) X.A)(B:Gl X x)(G:X.mg x=Z (.ref C))(z:Binds X.K w ps ds)(hd:Vals dvs ds)(K:i6 CX X E)
  (v:PA X (e::es) t) (u:ab x:=by decide) (A:starEach (e::es) X.env=(Ś,eval e X.env)::starEach es X.env:=by rfl) (l:(backTo g (starEach es X.env)).any (·.1)=Ś:=by rfl) :
  PE X (.Call (.Name x p) (e::es) [] g) (DY C sp dvs E t):=by
 intro a s L H Q I h;refine LQ (sD I B G ?_ u);refine callWith_K (h₀:=X.base) I.ok.mod.kin M.kp (aC (v g a s L H _ I h) λus O ⟨vs,N,c,r,q⟩=>⟨c.kIn,?_⟩) A l;show HM M F J z hd K c r q
end
structure FnScope(N P:List Str)(sc:â):Prop where
 kind:sc.kind=.function
 co:sc.isCoroutine=Ś
 gen:sc.isGenerator=Ś
 nd:N.Nodup
 pre:N.take P.length=P
 par:∀x∈P,sc.names.lookup x=Z .local\/sc.names.lookup x=Z .cell
 nofree:∀y∈sc.names,y.2≠.free
def tJ{kindOf:Str->Ř NameKind}{x:Str}:∀{binds:Y (Str×Value)}{m:Str->Ř Value},(∀v,(x,v)∉binds)->ĝ kindOf binds m x=m x
 | [],_,_=>rfl
 |(n,v)::r,m,h=>by
  unfold ĝ;rw[tJ λw a=>h w (Jh _ a)];split
  ·have:x≠n:=by rintro rfl;show h v Ji
   simp[this]
  ·rfl
def v9{kindOf:Str->Ř NameKind}{x:Str}:∀{binds:Y (Str×Value)}{m:Str->Ř Value},(∀v,(x,v)∉binds)->Ğ kindOf binds m x=m x
 | [],_,_=>rfl
 |(n,v)::r,m,h=>by
  unfold Ğ;rw[v9 λw a=>h w (Jh _ a)];split
  ·rfl
  ·have:x≠n:=by rintro rfl;show h v Ji
   simp[this]
def rV{kindOf:Str->Ř NameKind}{x:Str}{v:Value}:∀{P:Y Str}{vs:Y Value}{i:Nat}{m:Str->Ř Value},P.Nodup->P[i]?=Z x->vs[i]?=Z v->kindOf x=Z .local->
  ĝ kindOf (P.zip vs) m x=Z v
 | [],_,_,_,_,h,_,_=>by simp at h
 |_::_,[],_,_,_,_,h,_=>by simp at h
 |p::P,w::vs,0,m,nd,a,c,e=>by
  simp at a c;subst a;subst c;change ĝ kindOf ((p,w)::P.zip vs) m p=_;unfold ĝ;rw[tJ λv f=>(JE.mp nd).1 (Lb f).1,Jj e];simp
 |p::P,w::vs,i+1,m,nd,a,c,e=>by change ĝ kindOf ((p,w)::P.zip vs) m x=_;unfold ĝ;show rV (i:=i) (JE.mp nd).2 (by simpa using a) (by simpa using c) e
def xh{kindOf:Str->Ř NameKind}{x:Str}{v:Value}:∀{P:Y Str}{vs:Y Value}{i:Nat}{m:Str->Ř Value},P.Nodup->P[i]?=Z x->vs[i]?=Z v->kindOf x≠Z .local->
  Ğ kindOf (P.zip vs) m x=Z v
 | [],_,_,_,_,h,_,_=>by simp at h
 |_::_,[],_,_,_,_,h,_=>by simp at h
 |p::P,w::vs,0,m,nd,a,c,e=>by
  simp at a c;subst a;subst c;change Ğ kindOf ((p,w)::P.zip vs) m p=_;unfold Ğ;rw[v9 λv f=>(JE.mp nd).1 (Lb f).1,Jd e];simp
 |p::P,w::vs,i+1,m,nd,a,c,e=>by change Ğ kindOf ((p,w)::P.zip vs) m x=_;unfold Ğ;show xh (i:=i) (JE.mp nd).2 (by simpa using a) (by simpa using c) e
noncomputable def eK(N:Y Str)(vs:Y V):St:=vs.map Z++List.replicate (N.length-vs.length) ŗ
noncomputable def iz(CX:dZ)(P:Å)(w:È)(K:Â)(mg:Str->Ř Value)(base:Heap)(N:Y Str)(qual:Str)(scope:â)(f:Addr)(a:Value)(A:Ê)(outer:Y ë)(s:À)(H:Hp)(E:XK):Cx where
 prog:=P
 w:=w
 K:=K
 mg:=mg
 base:=base
 A:=A.deeper (ê qual scope s.heap.objs.size f a)
 N:=N
 s₀:=s
 H₀:=H
 env:=ê qual scope s.heap.objs.size f a
 outer:=outer
 stack:=ê qual scope s.heap.objs.size f a::outer
 ex:=[]
 calm:=ř
 fn:=λ_=>ř
 pn:=[]
 xe:=λe h=>wpAny (Ä P w) (A.deeper (ê qual scope s.heap.objs.size f a)) (leaving (ê qual scope s.heap.objs.size f a) e) (λ_ c=>CX outer H s E e c) (λg c=>CX outer H s E g c) h
def qj{a:â}{n:Nat}{x:Str}(h:a.names.lookup x=Z .cell):∃c,(Ø n a.names []).lookup x=Z c:=by have q:=cellsFrom_some a.names n [] (.inl h);show LR.mp q
def Bw{CX:dZ}{P:Å}{w:È}{K:Â}{mg:Str->Ř Value}{base:Heap}{N ps:Y Str}{qual:Str}{scope:â}{f:Addr}{C:Value}{A:Ê}{outer:Y ë}{s L:À}{H:Hp}{E:XK}{us:Y Value}{vs:Y V}
  (a_:FnScope N ps scope) (hd:A.handled=ŗ) (j:Env0 P w K mg base A outer s H) (T:vs.length=ps.length) (r:Vals vs us)
  (x:InCallC s s.heap.objs.size (ĝ (ê qual scope s.heap.objs.size f C).kindOf (ps.zip us) λ_=>ŗ) (Ø (s.heap.objs.size+1) scope.names []) (Ğ (ê qual scope s.heap.objs.size f C).kindOf (ps.zip us) λ_=>ŗ) L) :
  Inv (iz CX P w K mg base N qual scope f C A outer s H E) [] (eK N vs) H L:=by
 have Q:ps.length<=N.length:=by have:=JY List.length a_.pre;rw[Kb]at this;omega
 let⟨F,U,rfl,I⟩:=x.done;have G:∀b:Addr,b∉(iz CX P w K mg base N qual scope f C A outer s H E).ex:=λb z=>absurd (show b∈([]:Y Addr)from z) (by simp)
 refine⟨⟨j.mod,a_.kind,S,S,Jg _,λy z c F g=>?_,λy l=>?_,λy c _ h=>?_,λ_=>hd,Ê.frames_deeper j.frames,.inr ⟨S,S⟩,λb z=>absurd z (G b),j.bs,j.bsz,λb _ _=>G b,λb z=>absurd z (G b),j.funs,j.frf⟩,
  rfl,j.bare,Un.kept I,⟨_,x.toInCall.ns,λi y v F g R=>?_⟩,λy c h=>⟨_,x.cell y c h⟩,j.hok.fresh (Jg _),λy c h=>?_,λp o=>absurd (show p∈([]:Y (Addr×Õ))from o) (by simp),j.hok.kept I,?_⟩
 ·show name_of_addr x.apart (Ke F) (Ke g)
 ·have l:scope.names.lookup y=Z .cell\/scope.names.lookup y=Z .free:=l;rcases l with l|l
  ·show qj l
  ·show absurd S (a_.nofree _ (Ke l))
 ·show Ko (x.above y c (Ke h))
 ·have hi:i<vs.length:=by
   unfold eK at g;by_cases hi:i<vs.length
   ·show hi
   ·rw[IZ (by simpa using hi)]at g;rw[Kq]at g;split at g<;>cases g
  have M:vs[i]?=Z v:=by
   unfold eK at g;rw[I0 (by simpa using hi),Jm]at g
   cases e:vs[i]? with
   |none=>rw[e]at g;cases g
   |some a=>rw[e]at g;cases g;rfl
  let⟨u,J,O⟩:=r.get M
  have o:ps[i]?=Z y:=by rw[←a_.pre,LU ()];show F
  have B:ps.Nodup:=by rw[←a_.pre];show a_.nd.sublist (List.take_sublist _ _)
  refine⟨u,O,?_⟩;rcases a_.par y (Je o)with k|k
  ·show .inl ⟨k,rV B o J k⟩
  ·let⟨c,e⟩:=qj (n:=s.heap.objs.size+1) k;refine .inr ⟨.inl k,c,e,?_⟩;have q:=x.cell y c e;rw[xh B o J (by change scope.names.lookup y≠_;rw[k];decide)]at q;show q
 ·show j.hok.fresh (Ko (x.above y c (Ke h)))
 ·unfold eK;change _=N.length;rw[Ja,IY,JI];omega
def rW{CX:dZ}{P:Å}{w:È}{K:Â}{mg:Str->Ř Value}{base:Heap}{k:Nat}{f:Addr}{name qual:Str}{a:Arguments}{c:Y Ç}{scope:â}{T kV p U j ct oc:Value}{R od:Ř Addr}
  {Qr:Array (Ř Value)} {N ps:Y Str} {sp:Sp} (lk:K.lookup f=Z ⟨oc,od,.func (ę name qual a c scope T kV p U R j ct),Qr⟩) (a_:ą K j qual=ř) (be:FnScope N ps scope)
  (len:∀vs H Q E,sp vs H Q E->vs.length=ps.length)
  (Ov:∀(A:Ê)(outer:Y ë)(s:À)(H:Hp)(vs:Y V)(Q:VK)(E:XK),Room k (A.deeper (ê qual scope s.heap.objs.size f j))->sp vs H Q E->
   ∃t,PSs (iz CX P w K mg base N qual scope f j A outer s H E) c t/\t { nx:=λ_ h=>Q .non h,rt:=Q } (eK N vs) H) :
  FnOk P w K mg base CX (k+1) f (ę name qual a c scope T kV p U R j ct) ps sp:=by
 refine⟨len,λA outer s H args us vs Q E C z hb r O=>?_⟩;have hl:=len _ _ _ _ O;have M:K.In s.heap:=z.mod.kin.keeps λb o e=>(z.bs b o e).1;have F:s.heap.NoLimit:=z.mod.nolimit.keeps λb o e=>(z.bs b o e).1
 have Sy:∀y∈ps.zip us,scope.names.lookup y.1=Z .local\/(scope.names.lookup y.1=Z .cell/\((Ø (s.heap.objs.size+1) scope.names []).lookup y.1).isSome=ř):=λb_ hy=>by
  let⟨n,v⟩:=b_;rcases be.par n (Lb hy).1 with q|q
  ·show .inl q
  ·show .inr ⟨q,cellsFrom_some _ _ _ (.inl q)⟩
 refine codeAny_call_function C.depth (M _ _ lk) S be.co be.gen S (PySem.W.codeRec_of M a_) (hb _ _ _ _ ?_);refine wpAny_newFunctionEnv_cells be.kind Sy λenv he X x=>?_;subst he;refine⟨F.keeps x.toInCall.keep,codeAny_func ?_⟩;let⟨t,ht,hq⟩:=Ov A outer s H vs Q E (C.deeper _) O;have I:Inv (iz CX P w K mg base N qual scope f j A outer s H E) [] (eK N vs) H X:=Bw be C.hd z hl r x;refine KP (ht [] X (eK N vs) H _ I hq) (λfl L l=>?_) λe L l=>l
 have B:∀{g:St}{h:Hp}{v:V}{u:Value},Inv (iz CX P w K mg base N qual scope f j A outer s H E) [] g h L->RelV v u->Q v h->CE outer P w H s Q u L:=
  λ{g h v u} J G q=>⟨v,h,J.os,J.bare,J.base,J.hok,G,q⟩
 cases fl with
 |ret u=>
  let⟨v,g,h,J,G,q⟩:=l;show B J G q
 |next=>
  let⟨g,h,J,q⟩:=l;show B (v:=V.non) (u:=Value.none) J S q
 |brk=>
  let⟨_,_,_,q⟩:=l;show Ñ q
 |cont=>
  let⟨_,_,_,q⟩:=l;show Ñ q
section
variable{X:Cx}{x:Str}{p a:Ö}{e:Ã}{es:Y Ã}{t:TA}{id T:String}{r:Y V->Hp->VK->Prop}
noncomputable def sO(r:Y V->Hp->VK->Prop)(t:TA):TE:=λf H Q=>t f H λvs c=>r vs c Q
def sY(w:dS X (.builtin id) r)(z:Gl X x)(A:X.mg x=ŗ)(C:Û x=Z (.builtin id))(v:PA X (e::es) t)(B:x≠"__name__":=by decide)(u:ab x:=by decide)
  (y:starEach (e::es) X.env=(Ś,eval e X.env)::starEach es X.env:=by rfl) (l:(backTo a (starEach es X.env)).any (·.1)=Ś:=by rfl):PE X (.Call (.Name x p) (e::es) [] a) (sO r t):=by
 intro c s f H Q I h;refine LQ (hV I z A C ?_ B u);show PyProof.Rows.callWith_builtin1 (aC (v a c s f H _ I h) λus G o=>by let⟨vs,g,j,F,E⟩:=o;show w c G f g vs us Q j F E) y l
def kG(w:dS X (.type T) r)(z:Gl X x)(A:X.mg x=ŗ)(C:Û x=Z (.type T))(v:PA X (e::es) t)(B:x≠"__name__":=by decide)(u:ab x:=by decide)
  (y:starEach (e::es) X.env=(Ś,eval e X.env)::starEach es X.env:=by rfl) (l:(backTo a (starEach es X.env)).any (·.1)=Ś:=by rfl):PE X (.Call (.Name x p) (e::es) [] a) (sO r t):=by
 intro c s f H Q I h;refine LQ (hV I z A C ?_ B u);show Kc (aC (v a c s f H _ I h) λus G o=>by let⟨vs,g,j,F,E⟩:=o;show w c G f g vs us Q j F E) y l
end
end L2
namespace HT
open PySem PyProof.Rows
section
variable{prog:Å}{w:È}{A:Ê}{E:Value->À->Prop}{s:À}
def cat_tup{t b:Addr}{vs a:Y Value}{Q:Value->À->Prop}(z:ġ s.heap t vs.toArray)(y:ġ s.heap b a.toArray)(u:vs≠[])
  (v:a=[]->Q (.ref t) s) (x:a≠[]->Q (.ref s.heap.objs.size) { s with heap:=s.heap.push { cls:=.type "tuple",data:=.seq (vs++a).toArray } })
  (hsz:vs.length+a.length<=sizeLine):wpAny (Ä prog w) A (Ï .Add (.ref t) (.ref b)) Q E s:=by
 let⟨⟨cls,p,data,sl⟩,g,r,n,hd⟩:=id z;let⟨⟨B,l,data2,o⟩,f,j,n2,c⟩:=id y;simp only at r hd j c;subst r hd j c
 have e:vs.toArray++a.toArray=(vs++a).toArray:=by simp
 by_cases h:a=[]
 ·show ĩ ⟨_,g,S⟩ ⟨_,f,S⟩ MU Ę Mb L6 (LV _ _)
   (tuple_addW1 t b vs.toArray a.toArray n n2 p l sl o (by simpa using u) (by simp[h])) ⟨g,f,v h⟩
 ·refine ĩ ⟨_,g,S⟩ ⟨_,f,S⟩ MU Ę Mb L6 (LV _ _)
   (tuple_addW2 t b vs.toArray a.toArray n n2 p l sl o (by simpa using u) (by simpa using h) (by rw[Jo,Jo];show hsz)) ⟨g,f,?_⟩
  rw[e];show x h
noncomputable def sIx(n d:Nat):Ř Int->Nat
 |none=>d
 |some v=>if v<0 then (v+(n:Int)).toNat else min v.toNat n
def FO(n d:Nat)(hd:d<=n)(o:Ř Int):sIx n d o<=n:=by
 cases o with
 |none=>show hd
 |some v=>
  change (if v<0 then (v+(n:Int)).toNat else min v.toNat n)<=n;by_cases a:v<0
  ·rw[Jj a];omega
  ·rw[Jd a];show Nat.min_le_right _ _
def wb(v:Int)(n d:Nat):(if v<0 then max (v+(n:Int)) 0 else min v (n:Int))=((sIx n d (Z v):Nat):Int):=by
 change (if v<0 then max (v+(n:Int)) 0 else min v (n:Int))=(((if v<0 then (v+(n:Int)).toNat else min v.toNat n):Nat):Int);by_cases a:v<0
 ·simp only[Jj a];omega
 ·simp only[Jd a];omega
def E8(lo hi:Ř Int)(n:Nat):Builtin.Slice.sliceAdjust lo hi 1 (n:Int)=(((sIx n 0 lo:Nat):Int),((sIx n n hi:Nat):Int)):=by
 have a:¬ ((1:Int)<0):=by omega
 unfold Builtin.Slice.sliceAdjust;simp only[a,Nm];refine Prod.ext ?_ ?_
 ·cases lo with
  |none=>rfl
  |some v=>show wb v n 0
 ·cases hi with
  |none=>rfl
  |some v=>show wb v n n
def AC(i j:Nat):Builtin.Slice.slicePlaces (i:Int) (j:Int) 1=j-i:=by
 unfold Builtin.Slice.slicePlaces
 have a:(1:Int)>0:=by omega
 simp only[a,L4,Int.ediv_one];split<;>omega
def sL{v:Value}{o:Ř Int}{Q:Ř Int->À->Prop}(p:î v o)(h:Q o s):wpAny (Ä prog w) A (Builtin.Slice.slicePartIndex v) Q E s:=by
 cases p with
 |none=>show slicePart_none h
 |int i t=>show slicePart_int h
def vK{sl:Addr}{e f:Value}{lo hi:Ř Int}{n:Nat}{Q:Int×Int×Nat->À->Prop}(g:s.heap.IsSliceOf sl e f .none)(pl:î e lo)(j:î f hi)
  (h:Q (((sIx n 0 lo:Nat):Int),1,sIx n n hi-sIx n 0 lo) s):wpAny (Ä prog w) A (Builtin.Slice.sliceApplied (.ref sl) (pure (n:Int))) Q E s:=by
 let⟨os,a,l,c⟩:=id g;unfold Builtin.Slice.sliceApplied Builtin.Slice.sliceFields;refine Jb (Jb (Kh a c (x:=e) S (Jb (Kh a c (x:=f) S (Jb (Kh a c (x:=.none) S (Jr ?_)))))));refine Jb (slicePart_none ?_);change wpAny _ _ (if ((1:Int)==0)=ř then _ else _) _ _ s;rw[Jd 'b'];refine Jb (sL pl (Jb (sL j (Jb (Jr ?_)))));change wpAny _ _ (match Builtin.Slice.sliceAdjust lo hi 1 (n:Int)with|(lo,hi)=>pure (lo,(1:Int),Builtin.Slice.slicePlaces lo hi 1)) _ _ s;rw[E8 lo hi n];change wpAny _ _ (pure (((sIx n 0 lo:Nat):Int),(1:Int),Builtin.Slice.slicePlaces ((sIx n 0 lo:Nat):Int) ((sIx n n hi:Nat):Int) 1)) _ _ s;rw[AC];show Jr h
def AL(xs:Array Value)(i k:Nat):((List.range k).filterMap λ(m:Nat)=>xs[((i:Int)+(m:Int)*1).toNat]?).toArray=((xs.toList.drop i).take k).toArray:=by
 have e:(λ(m:Nat)=>xs[((i:Int)+(m:Int)*1).toNat]?)=λm=>xs[i+m]?:=by
  funext m
  have:((i:Int)+(m:Int)*1).toNat=i+m:=by omega
  rw[this]
 rw[e];have:=pick_run xs i k;rw[MC]at this;have a:((λx=>xs[x]?) ∘ λx=>i+x)=λm=>xs[i+m]?:=rfl;rw[a]at this;rw[this]
def getItem_tuple_cut{t sl:Addr}{a:Array Value}{g j:Value}{lo hi:Ř Int}{Q:Value->À->Prop}(e:ġ s.heap t a)(f:s.heap.IsSliceOf sl g j .none)(pl:î g lo)(v:î j hi)
  (u:¬ (sIx a.size 0 lo=0/\sIx a.size a.size hi=a.size))
  (h:Q (.ref s.heap.objs.size) { s with heap:=s.heap.push { cls:=.type "tuple",data:=.seq ((a.toList.drop (sIx a.size 0 lo)).take (sIx a.size a.size hi-sIx a.size 0 lo)).toArray } })
  (hsz:a.size<=sizeLine):wpAny (Ä prog w) A (ä (.ref t) (.ref sl)) Q E s:=by
 have c:sizeOk (.seq ((a.toList.drop (sIx a.size 0 lo)).take (sIx a.size a.size hi-sIx a.size 0 lo)).toArray):=by change ((a.toList.drop (sIx a.size 0 lo)).take (sIx a.size a.size hi-sIx a.size 0 lo)).toArray.size<=sizeLine;rw[Jo,Kb,LH,KA];omega
 have y:sIx a.size a.size hi<=a.size:=FO _ _ (Jg _) hi;let⟨os,o,p,x⟩:=id f;have r:s.TypeIs (.ref sl) "slice":=⟨os,o,p⟩;unfold ä
 try with_reducible refine KQ ?_
 first|refine Jb (Jr ?_)|skip
 refine Jb (ņ e.typeIs 'b' ?_)
 refine Jb (Kr (name:=Str.ofString "__getitem__") e.typeIs Kf
  (K4 Kf e.typeIs Ĺ ?_ (ł _ _)))
 change wpAny _ _ (Builtin.Tuple.tupleItemsOf (.ref t) >>= _) _ _ s;refine Jb (tupleItemsOf_ e ?_);refine Jb (ĥ r ?_);rw[Jj 'b'];refine Jb (vK f pl v ?_)
 have l:¬ ((((sIx a.size 0 lo:Nat):Int)==0&&(1:Int)==1&&(sIx a.size a.size hi-sIx a.size 0 lo)==a.size)=ř):=by
  intro q;rw[Ki,Ki]at q;have z:((sIx a.size 0 lo:Nat):Int)=0:=eq_of_beq q.1.1;have B:sIx a.size a.size hi-sIx a.size 0 lo=a.size:=eq_of_beq q.2;show u ⟨(),()⟩
 change wpAny _ _ (if (((sIx a.size 0 lo:Nat):Int)==0&&(1:Int)==1&&(sIx a.size a.size hi-sIx a.size 0 lo)==a.size)=ř then _ else _) _ _ s;rw[Jd l,AL]
 first
  |show Jb (m:=Builtin.Tuple.tupleExact _) (K1 (Jr ⟨_,S,Jr h⟩) c)
  |show Jb (m:=Builtin.Tuple.tupleExact _) (K1 (Jb (Jr (Jr ⟨_,S,Jr h⟩))) c)
  |show Jb (Jb (m:=Builtin.Tuple.tupleExact _) (K1 (Jr (Jr ⟨_,S,Jr h⟩)) c))
  |show Jb (Jb (m:=Builtin.Tuple.tupleExact _) (K1 (Jr ⟨_,S,Jr h⟩) c))
end
end HT
namespace L2
open PySem PySem.Spec PyProof.Rows
noncomputable abbrev TO:=St->Hp->(Ř Int->Hp->Prop)->Prop
noncomputable def PO(X:Cx)(e:Ř Ã)(t:TO):Prop:=
 ∀(a:Y (Addr×Õ))(s:À)(c:St)(H:Hp)(Q:Ř Int->Hp->Prop),Inv X a c H s->t c H Q->
  wpAny (Ä X.prog X.w) X.A (evalPart e X.env) (λu g=>∃o f,Inv X a c f g/\î u o/\Q o f) X.xe s
noncomputable def Dm:TO:=λ_ H Q=>Q ŗ H
noncomputable def AM(t:TE):TO:=λc H Q=>t c H λx a=>∃i,x=.int i/\Q (Z i) a
section
variable{X:Cx}{e:Ã}{c:TE}{lo hi:Ř Ã}{f g:TO}{A j:Ö}
def po_none:PO X ŗ Dm:=by intro a s l H Q I h;rw[evalPart_none];show Jr ⟨ŗ,H,I,.none,h⟩
def zU(h:PE X e c):PO X (Z e) (AM c):=by intro a s y H Q I r;rw[evalPart_some];refine aC (h a s y H _ I r) λu z p=>?_;let⟨x,l,o,w,v⟩:=p;let⟨i,rfl,q⟩:=v;let⟨t,rfl⟩:=w;show⟨Z i,l,o,.int i t,q⟩
noncomputable def SlR(X:Cx)(r:V->Ř Int->Ř Int->Hp->VK->Prop):Prop:=
 ∀(a:Y (Addr×Õ))(s:À)(o:St)(H:Hp)(x:V)(v h l:Value)(lo hi:Ř Int)(sl:Addr)(Q:VK),Inv X a o H s->RelV x v->s.heap.IsSliceOf sl h l .none->î h lo->î l hi->r x lo hi H Q->
  ∃T id,typeLookup (.type T) "__getitem__"=pure (Z (.builtin id))/\s.TypeIs v T/\wpAny (Ä X.prog X.w) X.A (ä v (.ref sl)) (EP X a o Q) X.xe s
def SlR.or{r p:V->Ř Int->Ř Int->Hp->VK->Prop}(h:SlR X r)(h':SlR X p):SlR X (λx lo hi H Q=>r x lo hi H Q\/p x lo hi H Q):=by
 intro a s z H x v w y lo hi sl Q I u l pl o q;rcases q with q|q
 ·show h a s z H x v w y lo hi sl Q I u l pl o q
 ·show h' a s z H x v w y lo hi sl Q I u l pl o q
noncomputable def Hn(r:V->Ř Int->Ř Int->Hp->VK->Prop)(c:TE)(f g:TO):TE:=λa H Q=>c a H λx h=>f a h λl o=>g a o λu p=>r x l u p Q
def Cp{r:V->Ř Int->Ř Int->Hp->VK->Prop}(O:SlR X r)(L:PE X e c)(N:PO X lo f)(R:PO X hi g):PE X (.Subscript e (.Slice lo hi ŗ j) A) (Hn r c f g):=by
 intro a s p H Q I h;refine Subscript_ (aC (L a s p H _ I h) λv s1 ⟨x,B,E,r1,U⟩=>?_);refine wpAny_Slice (aC (N a s1 p B _ E U) λw s2 ⟨l,C,F,pl,a_⟩=>aC (R a s2 p C _ F a_) λy o ⟨u,z,G,be,b_⟩=>?_);rw[evalPart_none];refine Jr ?_;have J:Inv X a p z { o with heap:=o.heap.push { cls:=.type "slice",data:=.fields #[w,y,.none] } }:=G.kept (t':=o.toks) λb ob q=>Jf _ q;let⟨T,id,K,P,M⟩:=O a { o with heap:=o.heap.push { cls:=.type "slice",data:=.fields #[w,y,.none] } } p z x v w y l u o.heap.objs.size Q J r1 (Heap.IsSliceOf.new ..) pl be b_;change wpAny (Ä X.prog X.w) X.A (Ě e (.Slice lo hi ŗ j) v (.ref o.heap.objs.size)) (EP X a p Q) X.xe { o with heap:=o.heap.push { cls:=.type "slice",data:=.fields #[w,y,.none] } };show tail_any (ops:=[.ref o.heap.objs.size,v]) P K M (by with_unfolding_all rfl)
noncomputable def iK(xs:Y V)(lo hi:Ř Int):Y V:=(xs.drop (HT.sIx xs.length 0 lo)).take (HT.sIx xs.length xs.length hi-HT.sIx xs.length 0 lo)
def tR(xs:Y V)(lo hi:Ř Int):(iK xs lo hi).length<=xs.length:=by unfold iK;rw[Kb,LH];omega
noncomputable def wa(K:Â):V->Ř Int->Ř Int->Hp->VK->Prop:=λx lo hi H Q=>∃a xs,x=.ref a/\SqT K H a xs /\
 ¬ (HT.sIx xs.length 0 lo=0/\HT.sIx xs.length xs.length hi=xs.length)/\∀p,H p=ŗ->Q (.ref p) (ao H p (.tup (iK xs lo hi)))
def sl_tup:SlR X (wa X.K):=by
 intro w s K H x v G J lo hi sl Q I E y pl C h;let⟨a,xs,rfl,B,z,q⟩:=h;cases E;let⟨its,r,p,u⟩:=I.tuple B
 have l:its.toArray.size=xs.length:=by rw[Jo];show r.length.symm
 refine⟨"tuple",_,Kf.lookup,p.typeIs,?_⟩;refine HT.getItem_tuple_cut p y pl C (by rw[l];show z) ?_ (by rw[l];show u);rw[l];refine⟨.ref s.heap.objs.size,_,I.laid (t':=s.toks) (o:=.tup (iK xs lo hi)) (λb F q=>Jf _ q) (Jg _) ?_,S,q _ (I.hok.fresh (Jg _))⟩;show⟨JC (tR xs lo hi) u,_,(r.drop (HT.sIx xs.length 0 lo)).take (HT.sIx xs.length xs.length hi-HT.sIx xs.length 0 lo),IsTupD.new _ _⟩
noncomputable def CS(K:Â):R2:=λx y H Q=>∃a b xs ys,x=.ref a/\y=.ref b/\SqT K H a xs/\SqT K H b ys/\xs≠[]/\xs.length+ys.length<=sizeLine /\
 (ys=[]->Q (.ref a) H)/\(ys≠[]->∀p,H p=ŗ->Q (.ref p) (ao H p (.tup (xs++ys))))
def Vals.nil_iff{xs:Y V}{us:Y Value}(r:Vals xs us):us=[]↔xs=[]:=by
 cases r with
 |nil=>simp
 |cons _ _=>simp
def FL:bV X (Ï .Add) (CS X.K):=by intro B s P H x y v u Q I L M h;let⟨a,b,xs,ys,rfl,rfl,C,E,F,r,J,K⟩:=h;cases L;cases M;let⟨its,p,G,_⟩:=I.tuple C;let⟨N,l,j,_⟩:=I.tuple E;refine HT.cat_tup G j (λz=>F (p.nil_iff.mp z)) (λz=>⟨.ref a,H,I,S,J (l.nil_iff.mp z)⟩) (λz=>?_) (by rw[←p.length,←l.length];show r);refine⟨.ref s.heap.objs.size,_,I.laid (t':=s.toks) (o:=.tup (xs++ys)) (λb O q=>Jf _ q) (Jg _) ?_,S,K (λw=>z (l.nil_iff.mpr w)) _ (I.hok.fresh (Jg _))⟩;show⟨by rw[Ja];show r,_,p.append l,IsTupD.new _ _⟩
end
noncomputable def gu(n:Nat)(i:Int):Ř Nat:=if 0<=i then (if i<n then Z i.toNat else ŗ) else if -(n:Int)<=i then Z (i+n).toNat else ŗ
noncomputable def cF{a:Type}(xs:Y a)(i:Int):Ř a:=(gu xs.length i).bind λj=>xs[j]?
def sy{n:Nat}{i:Int}{j:Nat}(h:gu n i=Z j):ă i n=Z j/\j<n/\-(n:Int)<=i/\i<n:=by
 unfold gu at h;by_cases c:0<=i
 ·rw[Jj c]at h;by_cases a:i<n
  ·rw[Jj a]at h;have e:i.toNat=j:=JJ h;show⟨by rw[Ķ c a,e],(),(),a⟩
  ·rw[Jd a]at h;cases h
 ·rw[Jd c]at h;by_cases a:-(n:Int)<=i
  ·rw[Jj a]at h;have e:(i+n).toNat=j:=JJ h;show⟨by rw[Ĩ () a,e],(),a,()⟩
  ·rw[Jd a]at h;cases h
def pY{a:Type}{xs:Y a}{i:Int}{v:a}(h:cF xs i=Z v):∃j,ă i xs.length=Z j/\xs[j]?=Z v/\j<xs.length/\-(xs.length:Int)<=i/\i<xs.length:=by
 unfold cF at h
 cases e:gu xs.length i with
 |none=>rw[e]at h;cases h
 |some j=>
  rw[e]at h;let⟨c,f,g,l⟩:=sy e;show⟨j,c,h,f,g,l⟩
def Iu{a:Type}{xs:Y a}{j:Nat}{v:a}(h:xs[j]?=Z v):cF xs (j:Int)=Z v:=by
 have c:j<xs.length:=(J7.mp h).1
 have e:gu xs.length (j:Int)=Z j:=by unfold gu;rw[Jj (),Jj ()];simp
 unfold cF;rw[e];show h
noncomputable def oA(b:Ã):Prop:=∀o i,Ć b Ś o i=operate [o,i] (ä o i)
noncomputable def jF(X:Cx)(r:R2):Prop:=
 ∀(e a:Ã)(c:Y (Addr×Õ))(s:À)(f:St)(H:Hp)(x y:V)(v u:Value)(Q:VK),Inv X c f H s->RelV x v->RelV y u->r x y H Q->
  Ć a Ś v u=operate [v,u] (ä v u)->wpAny (Ä X.prog X.w) X.A (Ě e a v u) (EP X c f Q) X.xe s
noncomputable def Ih(X:Cx)(id:String)(r:V->Y V->Hp->VK->Prop):Prop:=
 ∀(a:Y (Addr×Õ))(s:À)(c:St)(H:Hp)(x:V)(xs:Y V)(v:Value)(us:Y Value)(Q:VK),Inv X a c H s->RelV x v->Vals xs us->r x xs H Q->
  wpAny (Ä X.prog X.w) X.A (call (.builtin id) (v::us)) (EP X a c Q) X.xe s
section
variable{X:Cx}{a b:Ã}{E tb:TE}{C:Ö}
def pf{r:R2}(l:jF X r)(g:PE X a E)(j:PE X b tb)(o:oA b):PE X (.Subscript a b C) (iF r E tb):=by intro c s A H Q I h;show Subscript_ (qt g j I h λv u z x y e f p w q=>l a b c z A e x y v u Q f p w q (o _ _))
noncomputable def v7(K:Â):R2:=λx y H Q=>∃p xs i v,x=.ref p/\y=.int i/\SqL K H p xs/\cF xs i=Z v/\Q v H
noncomputable def FG(K:Â):R2:=λx y H Q=>∃p xs i v,x=.ref p/\y=.int i/\SqT K H p xs/\cF xs i=Z v/\Q v H
noncomputable def BZ:R2:=λx y H Q=>∃z i c,x=.str z/\y=.int i/\z.length<=sizeLine/\cF z.cps.toList i=Z c/\Q (.str ⟨#[c]⟩) H
def qy:jF X (v7 X.K):=by
 intro o l c s G H x y v u Q I R be h F;let⟨p,xs,i,z,rfl,rfl,P,N,q⟩:=h;cases R;let⟨t,rfl⟩:=be;let⟨its,r,pl,b_⟩:=I.list P;let⟨j,f,K,U,L,M⟩:=pY N;let⟨w,A,J⟩:=r.get K;have O:=r.length;have a_:=iU;have e:EP X c G Q w s:=⟨z,H,I,J,q⟩;by_cases B:0<=i
 ·have g:i.toNat=j:=by rw[Ķ B M]at f;show JJ f
  show item_listR pl.isList B () (by rw[g];simpa using A) e F
 ·have g:(i+(its.toArray.size:Int)).toNat=j:=by rw[Ĩ () L]at f;rw[Jo,←O];show JJ f
  show ĭ (x:=w) pl.isList.typeIs ň.lookup
   (wpAny_getItem_list_neg (Q:=λr T=>r=w/\EP X c G Q r T) pl.isList () (by rw[Jo]<;>omega) () (by rw[g];simpa using A) ⟨S,e⟩) F
def AX:jF X (FG X.K):=by
 intro g f c s l H x y v u Q I M N h L;let⟨p,xs,i,z,rfl,rfl,K,G,q⟩:=h;cases M;let⟨t,rfl⟩:=N;let⟨its,r,pl,U⟩:=I.tuple K;let⟨j,B,F,P,R,a_⟩:=pY G;let⟨w,A,o⟩:=r.get F;have J:=r.length;have T:=iU;have e:EP X c l Q w s:=⟨z,H,I,o,q⟩
 show ĭ (x:=w) pl.typeIs slot_tuple_getitem.lookup
  (getItem_tuple (j:=j) (Q:=λr O=>r=w/\EP X c l Q r O) pl () () (by rw[Jo,←J];show B) (by simpa using A) ⟨S,e⟩) L
def BK:jF X BZ:=by
 intro f e l s O H x y v u Q I J K h G;let⟨z,i,c,rfl,rfl,N,B,q⟩:=h;let⟨t,rfl⟩:=J;let⟨t',rfl⟩:=K;let⟨j,g,r,L,w,A⟩:=pY B
 have F:z.cps.toList.length=z.length:=by simp[Str.length]
 rw[F]at g w A;have M:=iU
 show tail_any (ļ s z t) slot_str_getitem.lookup (getItem_str (c:=c) (by
  have o:decide (i < -(2^63:Int))=Ś:=JG ();have p:decide (i≥2^63)=Ś:=JG ()
  rw[o,p,Bool.or_false]) (by rw[g];simpa using r) ⟨.str ⟨#[c]⟩,H,I.tok _,⟨_,S⟩,q⟩) G
def FA(its:Y Value)(n j:Nat)(u:Value):õ (·.setIfInBounds j u) { cls:=.type "list",data:=.seq its.toArray n }={ cls:=.type "list",data:=.seq (its.set j u).toArray n }:=by simp[õ]
def Inv.lst{c:Y (Addr×Õ)}{f:St}{H:Hp}{s:À}{p:Addr}{xs:Y V}(I:Inv X c f H s)(h:H p=Z (.lst xs)) :
  ∃(its:Y Value)(n:Nat),Vals xs its/\s.heap.get? p=Z { cls:=.type "list",data:=.seq its.toArray n }/\xs.length<=sizeLine:=by
 let⟨z,its,n,r,e⟩:=I.hok p _ h;show⟨its,n,r,e,z⟩
def Inv.lstUpd{c:Y (Addr×Õ)}{l:St}{H:Hp}{s:À}{p:Addr}{xs ys:Y V}{its NP:Y Value}{n g:Nat}{f:Õ->Õ}(I:Inv X c l H s)(h:H p=Z (.lst xs))
  (v:s.heap.get? p=Z { cls:=.type "list",data:=.seq its.toArray n }) (j:f { cls:=.type "list",data:=.seq its.toArray n }={ cls:=.type "list",data:=.seq NP.toArray g }) (r:Vals ys NP) (w:ys.length<=sizeLine) (t:Nat) :
  Inv X c l (ao H p (.lst ys)) { s with heap:=s.heap.update p f,toks:=t }:=by
 have e:(s.heap.update p f).get? p=Z { cls:=.type "list",data:=.seq NP.toArray g }:=by
  rw[Heap.get?_update_self f v (by rw[j]<;>rfl),j]
 refine I.write (x:=p) (e:=p) (by rw[h];trivial) (.inl S) (λb u o q=>(Heap.get?_update_other _ _ (Kd o)).trans q) ⟨_,e⟩ ?_;show⟨w,NP,g,r,e⟩
noncomputable def Ic:V->V->V->Hp->(Hp->Prop)->Prop:=λo i v H Q=>∃p xs k j,o=.ref p/\i=.int k/\H p=Z (.lst xs)/\gu xs.length k=Z j/\Q (ao H p (.lst (xs.set j v)))
def rO:pG X Ic:=by
 intro c s L H o i v P O u Q I J G K h;let⟨p,xs,k,j,rfl,rfl,A,B,q⟩:=h;cases J;let⟨t,rfl⟩:=G;let⟨its,n,r,l,F⟩:=I.lst A;let⟨e,M,y,z⟩:=sy B;have g:=r.length;have N:=iU
 have w:Inv X c L (ao H p (.lst (xs.set j v))) { s with heap:=s.heap.update p (õ (·.setIfInBounds j u)) }:=
  I.lstUpd A l (FA its n j u) (r.set K j) (by rw[Jc];show F) s.toks
 by_cases x:0<=k
 ·have f:k.toNat=j:=by rw[Ķ x z]at e;show JJ e
  show PySem.W.ki_setAt l x () (by rw[Jo,←g];show z) (by rw[f];show⟨_,w,q⟩)
 ·have f:(k+(its.toArray.size:Int)).toNat=j:=by rw[Ĩ () y]at e;rw[Jo,←g];show JJ e
  show PySem.W.ki_setBack l () (by rw[Jo,←g];show y) () (by rw[f];show⟨_,w,q⟩)
def Em(lo hi:Ř Int)(n:Nat):(á lo hi ŗ n).1=((HT.sIx n 0 lo:Nat):Int)/\(á lo hi ŗ n).2.1=((HT.sIx n n hi:Nat):Int)/\(á lo hi ŗ n).2.2=1:=by
 refine⟨?_,?_,S⟩
 ·cases lo with
  |none=>simp[á,HT.sIx]
  |some i=>
   simp only[á,HT.sIx,Ģ,show (1:Int)>0 by decide,L4];by_cases h:i<0
   ·simp only[h,L4]<;>omega
   ·simp only[h,Nm]<;>omega
 ·cases hi with
  |none=>simp[á,HT.sIx]
  |some i=>
   simp only[á,HT.sIx,Ģ,show (1:Int)>0 by decide,L4];by_cases h:i<0
   ·simp only[h,L4]<;>omega
   ·simp only[h,Nm]<;>omega
def Aj(its:Y Value)(lo hi:Ř Int):slicePick its.toArray lo hi ŗ=((its.drop (HT.sIx its.length 0 lo)).take (HT.sIx its.length its.length hi-HT.sIx its.length 0 lo)).toArray:=by let⟨c,e,f⟩:=Em lo hi its.toArray.size;unfold slicePick;rw[c,e,f];simp only[sliceRange_one,pick_run,Jo]<;>rfl
noncomputable def tK(K:Â):V->Ř Int->Ř Int->Hp->VK->Prop:=λx lo hi H Q=>∃a xs,x=.ref a/\SqL K H a xs/\∀p,H p=ŗ->Q (.ref p) (ao H p (.lst (iK xs lo hi)))
def sl_list:SlR X (tK X.K):=by
 intro f s A H x v y z lo hi sl Q I u g pl p h;let⟨a,xs,rfl,j,q⟩:=h;cases u;let⟨its,r,e,l⟩:=I.list j;have c:=r.length;refine⟨"list",_,ň.lookup,e.isList.typeIs,?_⟩;refine wpAny_getItem_list_slice e.isList g pl p .none (by simp) ?_ (by rw[Jo]<;>omega);rw[Aj,←c];refine⟨.ref s.heap.objs.size,_,I.laid (t':=s.toks) (o:=.lst (iK xs lo hi)) (λb w q=>Jf _ q) (Jg _) ?_,S,q _ (I.hok.fresh (Jg _))⟩;show⟨JC (tR xs lo hi) l,_,0,(r.drop (HT.sIx xs.length 0 lo)).take (HT.sIx xs.length xs.length hi-HT.sIx xs.length 0 lo),Jq _ S⟩
noncomputable def iy:V->Bool
 |.non=>ř
 |.bl _=>ř
 |.int _=>ř
 |.str _=>ř
 |_=>Ś
noncomputable def ik:V->V->Bool
 |.non,.non=>ř
 |.bl a,.bl b=>a==b
 |.bl a,.int b=>(if a then 1 else 0)==b
 |.int a,.bl b=>a==(if b then 1 else 0)
 |.int a,.int b=>a==b
 |.str a,.str b=>a==b
 |_,_=>Ś
def Ai{A:Ê}{s:À}{y x:V}{u v:Value}(f:RelV y u)(c:RelV x v)(g:iy y=ř)(e:iy x=ř):SeqAt.EqAt A s u v (ik y x):=by
 cases y with
 |non=>
  cases f
  cases x with
  |non=>cases c;show SeqAt.EqAt.same _
  |bl b=>cases c;show SeqAt.EqAt.none_bool b
  |int b=>let⟨t,rfl⟩:=c;show SeqAt.EqAt.none_int b t
  |str b=>let⟨t,rfl⟩:=c;show SeqAt.EqAt.none_str b t
  |_=>show absurd (show Ś=ř from e) JO
 |bl a=>
  cases f
  cases x with
  |non=>cases c;show SeqAt.EqAt.bool_none a
  |bl b=>cases c;show SeqAt.EqAt.bool_bool a b
  |int b=>let⟨t,rfl⟩:=c;show SeqAt.EqAt.bool_int a b t
  |str b=>let⟨t,rfl⟩:=c;show SeqAt.EqAt.bool_str a b t
  |_=>show absurd (show Ś=ř from e) JO
 |int a=>
  let⟨t',rfl⟩:=f
  cases x with
  |non=>cases c;show SeqAt.EqAt.int_none a t'
  |bl b=>cases c;show SeqAt.EqAt.int_bool a t' b
  |int b=>let⟨t,rfl⟩:=c;show SeqAt.EqAt.int_int a t' b t
  |str b=>let⟨t,rfl⟩:=c;show SeqAt.EqAt.int_str a t' b t
  |_=>show absurd (show Ś=ř from e) JO
 |str a=>
  let⟨t',rfl⟩:=f
  cases x with
  |non=>cases c;show SeqAt.EqAt.str_none a t'
  |bl b=>cases c;show SeqAt.EqAt.str_bool a t' b
  |int b=>let⟨t,rfl⟩:=c;show SeqAt.EqAt.str_int a t' b t
  |str b=>let⟨t,rfl⟩:=c;show SeqAt.EqAt.str_str a t' b t
  |_=>show absurd (show Ś=ř from e) JO
 |_=>show absurd (show Ś=ř from g) JO
noncomputable def ig(x:V)(u:Value):Bool:=match u with
 |.none=>ik .non x
 |.bool b=>ik (.bl b) x
 |.int i _=>ik (.int i) x
 |.str z _=>ik (.str z) x
 |_=>Ś
def vb{x y:V}{u:Value}(r:RelV y u)(f:iy y=ř):ig x u=ik y x:=by
 cases y with
 |non=>cases r;rfl
 |bl b=>cases r;rfl
 |int i=>let⟨t,rfl⟩:=r;rfl
 |str z=>let⟨t,rfl⟩:=r;rfl
 |_=>show absurd (show Ś=ř from f) JO
def qX{x:V}:∀{xs:Y V}{us:Y Value},Vals xs us->xs.all iy=ř->us.any (ig x)=xs.any λy=>ik y x
 |_,_,.nil,_=>rfl
 |y::xs,u::us,.cons r t,f=>by rw[Nn,Ki]at f;rw[Lc,Lc,vb r f.1,qX t f.2]
def oS{A:Ê}{s:À}{x:V}{v:Value}(g:RelV x v)(e:iy x=ř):∀{xs:Y V}{us:Y Value},Vals xs us->xs.all iy=ř->∀u∈us,SeqAt.EqAt A s u v (ig x u)
 |_,_,.nil,_=>λu c=>by cases c
 |y::xs,u::us,.cons r t,f=>λu' c=>by
  rw[Nn,Ki]at f;rcases Jt.mp c with rfl|c
  ·rw[vb r f.1];show Ai r g f.1 e
  ·show oS g e t f.2 u' c
noncomputable def jK(x:V)(xs:Y V):Bool:=xs.any λy=>ik y x
noncomputable def CD(K:Â)(c:Bool):R2:=λx y H Q=>∃p xs,y=.ref p/\(SqL K H p xs\/SqT K H p xs)/\iy x=ř/\xs.all iy=ř/\Q (.bl (if c then !jK x xs else jK x xs)) H
def A8:bV X (É .In) (CD X.K Ś):=by
 intro g s z H x y v u Q I j o h;let⟨p,xs,rfl,c,f,fs,q⟩:=h;cases o;rcases c with c|c
 ·let⟨its,r,pl,l⟩:=I.list c;refine SeqAt.in_listAt (ig x) pl.isList (λw e=>oS j f r fs w (by simpa using e)) ⟨.bl _,H,I,S,?_⟩;rw[show its.toArray.any (ig x)=its.any (ig x)by simp,qX r fs];show q
 ·let⟨its,r,pl,l⟩:=I.tuple c;refine SeqAt.in_tupleAt (ig x) pl (λw e=>oS j f r fs w (by simpa using e)) ⟨.bl _,H,I,S,?_⟩;rw[show its.toArray.any (ig x)=its.any (ig x)by simp,qX r fs];show q
def qh:dS X (.builtin "len") (λxs H Q=>∃p ys,xs=[.ref p]/\(SqL X.K H p ys\/SqT X.K H p ys)/\Q (.int ys.length) H):=by
 intro g s v H xs us Q I r h;let⟨p,ys,rfl,e,q⟩:=h;let⟨u,rfl,l⟩:=gZ r;cases l;have o:=iU;rcases e with e|e
 ·let⟨its,f,pl,j⟩:=I.list e;have c:=f.length;show Calls.call_len_list pl.isList (by simp only[Jo]<;>omega) ⟨.int ys.length,H,I.tok _,⟨s.toks+1,by rw[Jo,c]⟩,q⟩
 ·let⟨its,f,pl,j⟩:=I.tuple e;have c:=f.length;show len_tuple pl (by simp only[Jo]<;>omega) ⟨.int ys.length,H,I.tok _,⟨s.toks+1,by rw[Jo,c]⟩,q⟩
def Gq:dS X (.builtin "len") (λxs H Q=>∃z,xs=[.str z]/\z.length<=sizeLine/\Q (.int z.length) H):=by
 intro c s g H xs us Q I r h;let⟨z,rfl,f,q⟩:=h;let⟨u,rfl,t,rfl⟩:=gZ r;have e:=iU;show len_str () ⟨.int z.length,H,I.tok _,⟨_,S⟩,q⟩
def wn:dS X (.type "list") (λxs H Q=>∃p ys,xs=[.ref p]/\(SqL X.K H p ys\/SqT X.K H p ys)/\∀l,H l=ŗ->Q (.ref l) (ao H l (.lst ys))):=by
 intro x s B H xs us Q I r h;let⟨p,ys,rfl,v,q⟩:=h;let⟨u,rfl,A⟩:=gZ r;cases A
 have g:∀(its:Y Value),Vals ys its->ys.length<=sizeLine->∀(h':Heap)(c:Nat),(∀b o',s.heap.get? b=Z o'->h'.get? b=Z o')->
   h'.get? s.heap.objs.size=Z { cls:=.type "list",dict:=ŗ,data:=.seq its.toArray c,slots:=#[] }->EP X x B Q (.ref s.heap.objs.size) { s with heap:=h' }:=λits f w h' c kp e=>
  ⟨.ref s.heap.objs.size,_,I.laid (t':=s.toks) kp (Jg _) (show ObjOk X.prog X.w _ h' _ (.lst ys)from ⟨w,its,c,f,e⟩),S,q _ (I.hok.fresh (Jg _))⟩
 rcases v with v|v
 ·let⟨its,f,pl,w⟩:=I.list v;have j:=f.length;let⟨o,z,y,n,hd⟩:=pl.isList;show call_list_seq p (.inl S) z y hd (λh' c kp e=>g its f w h' c kp e) (by simp only[Jo]<;>omega)
 ·let⟨its,f,pl,w⟩:=I.tuple v;have j:=f.length;let⟨o,z,y,n,hd⟩:=pl;show call_list_seq p (.inr S) z y hd (λh' c kp e=>g its f w h' c kp e) (by simp only[Jo]<;>omega)
def oV:dS X (.type "tuple") (λxs H Q=>∃p ys,xs=[.ref p]/\((SqL X.K H p ys/\∀l,H l=ŗ->Q (.ref l) (ao H l (.tup ys)))\/(SqT X.K H p ys/\Q (.ref p) H))):=by
 intro c s x H xs us Q I r h;let⟨p,ys,rfl,h⟩:=h;let⟨u,rfl,z⟩:=gZ r;cases z;rcases h with⟨f,q⟩|⟨f,q⟩
 ·let⟨its,g,pl,w⟩:=I.list f;have v:=g.length;refine call_tuple_list pl.isList (λh' kp=>?_) (by simp only[Jo]<;>omega);have j:Inv X c x H { s with heap:=h' }:=I.kept (t':=s.toks) kp
  have y:Inv X c x (ao H h'.objs.size (.tup ys)) { s with heap:=h'.push { cls:=.type "tuple",data:=.seq its.toArray } }:=
   j.laid (t':=s.toks) (λb o e=>Jf _ e) (Jg _) (show ObjOk X.prog X.w _ _ _ (.tup ys)from ⟨w,its,g,IsTupD.new _ _⟩)
  show⟨.ref h'.objs.size,_,y,S,q _ (j.hok.fresh (Jg _))⟩
 ·let⟨its,g,pl,w⟩:=I.tuple f;show call_tuple_same pl ⟨.ref p,H,I,S,q⟩
noncomputable def sq(K:Â)(T:String)(x:V)(H:Hp):Prop:=match x with
 |.str _=>T="str"
 |.int _=>T="int"
 |.ref p=>(T="list"/\∃xs,SqL K H p xs)\/(T="tuple"/\((∃xs,H p=Z (.tup xs))\/∃o,K.lookup p=Z o/\o.cls=.type "tuple"/\o.dict=ŗ)) \/
   (T="dict"/\((∃c,H p=Z (.dK c))\/∃c,H p=Z (.dT c)))\/(T="set"/\∃Q n,H p=Z (.set Q n))
 |_=>False
def C9{h:Y (Addr×Õ)}{A:St}{H:Hp}{s:À}{T:String}{x:V}{v:Value}(I:Inv X h A H s)(r:RelV x v)(j:sq X.K T x H) :
  s.TypeIs v T/\∀a,v=.ref a->∃l,s.heap.get? a=Z l/\l.dict=ŗ:=by
 cases x with
 |str z=>
  let⟨t,rfl⟩:=r;cases (show T="str" from j);show⟨ļ s z t,λ_ e=>nomatch e⟩
 |int i=>
  let⟨t,rfl⟩:=r;cases (show T="int" from j);show⟨MO s i t,λ_ e=>nomatch e⟩
 |ref p=>
  cases r;rcases j with⟨rfl,xs,y⟩|⟨rfl,⟨xs,f⟩|⟨o,f,w,hd⟩⟩|⟨rfl,f⟩|⟨rfl,Q,n,f⟩
  ·let⟨its,_,pl,_⟩:=I.list y;refine⟨pl.isList.typeIs,λa e=>?_⟩;cases e;let⟨o,n,e,c,hd,_⟩:=pl;show⟨o,e,hd⟩
  ·let⟨_,_,_,o,e,⟨c,hd⟩,_⟩:=I.hok p _ f;refine⟨⟨o,e,c⟩,λa g=>?_⟩;cases g;show⟨o,e,hd⟩
  ·refine⟨⟨o,I.kIn p o f,w⟩,λa e=>?_⟩;cases e;show⟨o,I.kIn _ o f,hd⟩
  ·have z:∃o,s.heap.get? p=Z o/\o.ExactDict:=by
    rcases f with⟨u,f⟩|⟨u,f⟩
    ·let⟨_,_,_,_,o,_,_,e,ex,_⟩:=I.hok p _ f;show⟨o,e,ex⟩
    ·let⟨_,_,_,_,o,_,_,e,ex,_⟩:=I.hok p _ f;show⟨o,e,ex⟩
   let⟨o,e,ex⟩:=z;refine⟨⟨o,e,ex.1⟩,λa g=>?_⟩;cases g;show⟨o,e,ex.2.1⟩
  ·let⟨o,_,_,_,e,ex,_⟩:=I.hok p _ f;refine⟨⟨o,e,ex.1⟩,λa g=>?_⟩;cases g;show⟨o,e,ex.2.1⟩
 |_=>show Ñ j
noncomputable def D0(K:Â)(T:String)(r:V->Y V->Hp->VK->Prop)(to:TE)(t:TA):TE:=λe H Q=>to e H λx c=>sq K T x c/\t e c λxs f=>r x xs f Q
variable{o e:Ã}{es:Y Ã}{to:TE}{t:TA}{name:Str}{g B:Ö}{T id:String}{r:V->Y V->Hp->VK->Prop}
def j7(U:PlainAttrs T)(slot:Slot T name id)(f:typeOf (.builtin id)=pure (.type "method_descriptor"))(P:Ih X id r)(R:PE X o to)(O:PA X (e::es) t)
  (F:Ë o name X.env (eval o X.env)=eval o X.env:=by rfl)
  (K:((backTo B (starEach (e::es) X.env)).all (λx=>!x.1)&&(Þ B (Ô [] X.env)).all (λx=>x.1.isSome)
   && decide ((e::es).length+([]:Y Ù).length+(if ([]:Y Ù).isEmpty then 0 else 1)<30))=ř:=by rfl)
  (G:(g.endLine==B.line)=ř:=by rfl) (be:starEach (e::es) X.env=(Ś,eval e X.env)::starEach es X.env:=by rfl) (L:(backTo B (starEach es X.env)).any (·.1)=Ś:=by rfl) :
  PE X (.Call (.Attribute o name g) (e::es) [] B) (D0 X.K T r to t):=by
 intro c s j H Q I h;refine wpAny_Call_method_late F K G S (aC (R c s j H _ I h) λv s1 J=>?_);let⟨x,w,l,u,ty,a_⟩:=J;let⟨M,N⟩:=C9 l u ty;refine⟨T,id,U,slot,f,M,N,?_⟩;have p:=O B c s1 j w _ l a_;rw[be]at p ⊢;refine Calls.callWith_builtin (by change (Ś ||(backTo B (starEach es X.env)).any (·.1))=Ś;rw[L]<;>rfl) (Calls.evalArgs_plain ?_)
 show aC p λus s2 A=>by let⟨vs,y,z,r2,b_⟩:=A;show P c s2 j y x vs v us Q z u r2 b_
end
noncomputable def nq(X:Cx)(id:String)(r:V->Y V->Hp->VK->Prop):Prop:=
 ∀(a:Y (Addr×Õ))(s:À)(c:St)(H:Hp)(x:V)(xs:Y V)(v:Value)(us:Y Value)(Q:VK),Inv X a c H s->RelV x v->Vals xs us->r x xs H Q->
  wpAny (Ä X.prog X.w) X.A (call (.builtin id) (v::us)) (EP X a c Q) X.xe s
def Vals.one:∀{x:V}{us:Y Value},Vals [x] us->∃u,us=[u]/\RelV x u
 |_,_,.cons r .nil=>⟨_,S,r⟩
def Vals.eraseIdx:∀{xs:Y V}{us:Y Value}(i:Nat),Vals xs us->Vals (xs.eraseIdx i) (us.eraseIdx i)
 |_,_,_,.nil=>.nil
 |_,_,0,.cons _ t=>t
 |_,_,i+1,.cons r t=>.cons r (Vals.eraseIdx i t)
def Vals.rep{xs:Y V}{us:Y Value}(h:Vals xs us):∀k:Nat,Vals (List.replicate k xs).flatten (List.replicate k us).flatten
 |0=>.nil
 |k+1=>by rw[J1,J1,JS,JS];show Vals.append h (Vals.rep h k)
def qQ{a:Type}:∀(l:Y a)(i:Nat),(l.eraseIdx i).length<=l.length
 | [],_=>Jg _
 |_::_,0=>Nat.le_succ _
 |_::r,i+1=>Nat.succ_le_succ (qQ r i)
def pC(its:Y Value):∀(k:Nat)(a:Y Value),
  List.foldl (λf g=>f++g) a.toArray (List.replicate k its.toArray)=(a++(List.replicate k its).flatten).toArray
 |0,a=>by simp
 |k+1,a=>by
  have e:a.toArray++its.toArray=(a++its).toArray:=by simp
  have c:(a++its)++(List.replicate k its).flatten=a++(List.replicate (k+1) its).flatten:=by rw[J1,JS,Js]
  rw[←c,←pC its k (a++its),←e,J1,List.foldl_cons]
section
variable{X:Cx}{a:Y (Addr×Õ)}{c:St}{H:Hp}{s:À}{l:Addr}{xs ys:Y V}
def Inv.lset{its NP:Y Value}{n:Nat}{f:Array Value->Array Value}{t':Nat}(I:Inv X a c H s)(g:H l=Z (.lst xs))
  (e:s.heap.get? l=Z { cls:=.type "list",data:=.seq its.toArray n }) (j:f its.toArray=NP.toArray) (p:Vals ys NP) (r:ys.length<=sizeLine) :
  Inv X a c (ao H l (.lst ys)) { s with heap:=s.heap.update l (õ f),toks:=t' }:=by
 have q:=PySem.IsL.update e f;rw[j]at q;refine I.write (x:=l) (e:=l) (by rw[g];show trivial) (.inl S) (λv u h o=>(Heap.get?_update_other s.heap (õ f) (Kd h)).trans o) ⟨_,q⟩ ?_;show⟨r,NP,_,p,q⟩
def Inv.lnew{its:Y Value}{t':Nat}(I:Inv X a c H s)(e:Vals ys its)(f:ys.length<=sizeLine) :
  Inv X a c (ao H s.heap.objs.size (.lst ys)) { s with heap:=s.heap.push { cls:=.type "list",data:=.seq its.toArray },toks:=t' }:=
 I.laid (λ_ _ q=>Jf _ q) (Jg _) ⟨f,its,0,e,Jq _ S⟩
def Inv.fresh(I:Inv X a c H s):H s.heap.objs.size=ŗ:=I.hok.fresh (Jg _)
def Inv.lstM(I:Inv X a c H s)(f:H l=Z (.lst xs)):xs.length<=sizeLine/\∃(its:Y Value)(n:Nat),Vals xs its/\xs.length=its.length/\s.heap.get? l=Z { cls:=.type "list",data:=.seq its.toArray n }:=by let⟨z,its,n,r,e⟩:=I.hok l _ f;show⟨z,its,n,r,r.length,e⟩
def vC{n:Nat}(h:n<=sizeLine):Builtin.List.listTooLong n=Ś:=by unfold Builtin.List.listTooLong;show JG ()
end
section
variable{X:Cx}
noncomputable def xE:V->Y V->Hp->VK->Prop:=λx vs H Q=>∃l xs y,x=.ref l/\vs=[y]/\H l=Z (.lst xs)/\xs.length<sizeLine/\Q .non (ao H l (.lst (xs++[y])))
def oy:nq X "list.append" xE:=by intro c s w H x vs v us Q I j g h;let⟨l,xs,y,rfl,rfl,a,p,q⟩:=h;cases j;let⟨u,rfl,f⟩:=g.one;let⟨z,its,n,r,o,e⟩:=I.lstM a;refine Lh F.slot_list_append ⟨_,e,S⟩ F.entry_list_append (F.args_list_append_2 _ _) (PySem.list_append l its.toArray n u (by rw[Jo];omega)) ⟨e,?_⟩;refine⟨.non,_,I.lset (NP:=its++[u]) a e (by simp) (r.append (.cons f .nil)) ?_,S,q⟩;rw[Ja,JT];omega
noncomputable def r6:V->Y V->Hp->VK->Prop:=λx vs H Q=>∃l b xs a,x=.ref l/\vs=[.ref b]/\H l=Z (.lst xs)/\H b=Z (.lst a)/\xs.length+a.length<=sizeLine/\Q .non (ao H l (.lst (xs++a)))
def E7:nq X "list.extend" r6:=by
 intro f s K H x vs v us Q I A y h;let⟨l,b,xs,J,rfl,rfl,c,o,E,q⟩:=h;cases A;let⟨u,rfl,w⟩:=y.one;cases w;let⟨z,its,n,r,C,e⟩:=I.lstM c;let⟨G,a,n2,p,B,j⟩:=I.lstM o
 have hsz:its.toArray.size+a.toArray.size<=sizeLine:=by rw[Jo,Jo];omega
 have g:¬ (!its.toArray.isEmpty&&Builtin.List.listTooLong (its.toArray.size+a.toArray.size))=ř:=by rw[vC hsz,K5];show JO
 refine Lh F.slot_list_extend ⟨_,e,S⟩ F.entry_list_extend (F.args_list_extend_2 _ _)
  (AutoSeq1.list_extend_list_list_0 l its.toArray n b a.toArray n2 g (by rw[Jo];omega) ()) ⟨e,j,?_⟩
 refine⟨.non,_,I.lset (NP:=its++a) c e (by simp) (r.append p) ?_,S,q⟩;rw[Ja];omega
noncomputable def Bh:V->Y V->Hp->VK->Prop:=λx vs H Q=>∃l xs i k y,x=.ref l/\vs=[.int i]/\H l=Z (.lst xs)/\-(2^63)<=i/\i<2^63/\ă i xs.length=Z k/\xs[k]?=Z y/\Q y (ao H l (.lst (xs.eraseIdx k)))
def AA:nq X "list.pop" Bh:=by
 intro c s J H x vs v us Q I G E h;let⟨l,xs,i,k,y,rfl,rfl,a,g,j,o,B,q⟩:=h;cases G;let⟨u,rfl,C⟩:=E.one;let⟨t,rfl⟩:=C;let⟨z,its,n,r,p,e⟩:=I.lstM a;let⟨w,A,f⟩:=r.get B
 refine Lh F.slot_list_pop ⟨_,e,S⟩ F.entry_list_pop (F.args_list_pop_2 _ _)
  (MeetsSeq.list_pop_at l its.toArray n i t k w (fitsIndex_both g j) (by rw[Jo,←p];show o) (by rw[←Array.getElem?_toList];show A) (by rw[Jo];omega)) ⟨e,?_⟩
 refine⟨y,_,I.lset (NP:=its.eraseIdx k) a e ?_ (r.eraseIdx k) ?_,f,q⟩
 ·change its.toArray.eraseIdxIfInBounds k=(its.eraseIdx k).toArray;rw[Mm]
 ·have:=qQ xs k;omega
noncomputable def F0:R2:=λx y H Q=>∃l b xs a,x=.ref l/\y=.ref b/\H l=Z (.lst xs)/\H b=Z (.lst a)/\xs.length+a.length<=sizeLine/\∀p,H p=ŗ->Q (.ref p) (ao H p (.lst (xs++a)))
def Fy:bV X (Ï .Add) F0:=by
 intro c s J H x y v u Q I w A h;let⟨l,b,xs,G,rfl,rfl,o,j,E,q⟩:=h;cases w;cases A;let⟨z,its,n,r,C,e⟩:=I.lstM o;let⟨F,a,n2,p,B,f⟩:=I.lstM j;refine PySem.P.add_list e f ?_ (by rw[Jo,Jo];omega)
 have g:its.toArray++a.toArray=(its++a).toArray:=by simp
 rw[g];show⟨.ref _,_,I.lnew (t':=s.toks) (r.append p) (by rw[Ja];omega),S,q _ I.fresh⟩
noncomputable def Bi:R2:=λx y H Q=>∃l k xs,x=.ref l/\y=.int k/\H l=Z (.lst xs)/\-(2^63)<=k/\k<2^63/\xs.length*k.toNat<=sizeLine /\
 ∀p,H p=ŗ->Q (.ref p) (ao H p (.lst (List.replicate k.toNat xs).flatten))
def qC{c:Type}(xs:Y c)(k:Nat):(List.replicate k xs).flatten.length=k*xs.length:=by
 induction k with
 |zero=>simp
 |succ k a=>rw[J1,JS,Ja,a,Nat.succ_mul,Nat.add_comm]
def uq:bV X (Ï .Mult) Bi:=by
 intro o s P H x y v u Q I L M h;let⟨l,k,xs,rfl,rfl,J,E,G,j,q⟩:=h;cases L;let⟨t,rfl⟩:=M;let⟨z,its,n,r,K,e⟩:=I.lstM J
 have c:its.toArray.size*k.toNat<=sizeLine:=by rw[Jo,←K];show j
 have p:¬ its.toArray.size*k.toNat>(2^63-1)/8:=by
  have:(sizeLine:Nat)<=(2^63-1)/8:=by decide
  omega
 have B:¬ (!Builtin.List.listFitsIndex k)=ř:=by rw[fitsIndex_both E G];show JO
 have A:¬ Builtin.List.listTooLong (its.toArray.size*k.toNat)=ř:=by rw[vC c];show JO
 have w:List.foldl (λf g=>f++g) #[] (List.replicate (if its.toArray.isEmpty=ř then 0 else k.toNat) its.toArray)=(List.replicate k.toNat its).flatten.toArray:=by
  have C:∀m:Nat,List.foldl (λf g=>f++g) #[] (List.replicate m its.toArray)=(List.replicate m its).flatten.toArray:=λm=>by have:=pC its m [];rw[LM]at this;show this
  rw[C]
  cases its with
  |nil=>simp
  |cons a O=>rw[Jd (by simp)]
 refine ĕ (T:="list") (U:="int") 'b' ⟨_,e,S⟩ (λN=>MO N k t) noFill_list_mul F.fills_int_mul Mp repeat_list F.slot_int_index.lookup
  (Lh Mp (MO s k t) F.entry_int_rmul (F.args_int_rmul_2 _ _) (int___rmul___int_list k t l its.toArray n)
   ⟨e,S,⟨_,e,S⟩,Lh F.slot_list_mul ⟨_,e,S⟩ F.entry_list_mul (F.args_list_mul_2 _ _) (AutoListH.list___mul___list_int_3 l its.toArray n k t B p A) ⟨e,?_⟩⟩)
 rw[w];show⟨.ref _,_,I.lnew (t':=s.toks) (r.rep k.toNat) (by rw[qC,Mq];show j),S,q _ I.fresh⟩
end
end L2
namespace Att
open PySem PySem.W PySem.Calls PyProof.Rows
def Bo{P:ī}{h:Heap}:∀(ns:Y Int)(vs:Y Value),WellAll P h vs (ns.map Ŗ)->Į vs ns:=by
 intro ns
 induction ns with
 |nil=>
  intro vs w;rw[List.map_nil]at w;cases w;show .nil
 |cons n ns c=>
  intro vs w;rw[JB]at w
  cases w with
  |cons a b=>
   cases a;show .cons _ _ (c _ b)
def yy{l:OpenLaw}{n:Nat}(y:l.most=Z n){P:ī}{h:Heap}{args:Y WData}{vals:Y Value}
  (j:l.row.toRowW.claim.pre args=ř) (u:WellAll P h vals args) :
  ∃a vs ns,vals=[Value.ref a]/\args=[WData.list (ns.map Ŗ)]/\h.get? a=Z { cls:=.type "list",data:=.seq vs.toArray }/\Į vs ns/\ns.length<=n:=by
 have g:WShape.hasAll [] args [.list .int]=ř:=(pre_splitW j).1;have o:l.pre.holds [] { args:=args }=ř:=(pre_splitW j).2;let⟨d,r,rfl,v,w⟩:=hasAllW_cons g;obtain rfl:=hasAllW_nil w;let⟨xs,rfl,x⟩:=hasW_list v;let⟨ns,rfl⟩:=items_int x
 have c:ns.length<=n:=by
  unfold OpenLaw.pre at o
  have e:(WTm.not (.lt (.lit (.int (n:Int))) (.len (.arg 0)))).holds [] { args:=[.list (ns.map .int)] }=ř:=by have e:=(holds_andW o).1;rw[y]at e;show e
  have f:=condW_of e (w_not (w_lt w_lit (w_len_list (w_arg S))));rw[IY]at f;refine Nat.le_of_not_lt λq=>?_
  have A:(n:Int)<((ns.length:Nat):Int):=by omega
  first
   |(rw[J4 A]at f;show absurd f 'b')
   |(simp at f;omega)
 cases u with
 |cons B C=>
  cases C
  cases B with
  |list z p=>show⟨_,_,ns,S,S,z,Bo ns _ p,c⟩
def Ah(l:OpenLaw)(args:Y WData):l.row.toRowW.claim.post args (.bool ř) args=ř:=
 postW_of (r:=l.row.toRowW) (X:=(ř==ř))
  (show ŋ [] (.bool ř) .bool=ř by first|rfl|decide|simp[ŋ,WShape.arms,WShape.armsAll])
  (show (WTm.eq .res (.lit (.bool ř))).value [] { args:=args,res:=Z (.bool ř),after:=args }=Z (.bool (ř==ř))from w_eq_bool (w_res S) w_lit) S
def attach_call{l:OpenLaw}{n:Nat}{q:Å}{e:Y Str}{z:(Str->Ř Value)->Heap->Prop}{A:È->Heap->Prop}{d:DefRec}
  (be:l.most=Z n) (K:d.params.defaults=[])
  (call:∀(w:È)(s₀ c:À)(mg x:Str->Ř Value)(j:Addr)(o:Õ)(y u g:Value)(a:Addr)(vs:Y Value)(ns:Y Int),
   Ground q e [] z w s₀ mg x c.heap->A w c.heap->
   c.heap.get? j=Z o->o.data=.func (docDef d.name d.params d.body d.scope y u g)->c.heap.CodeRec u d.name->mg d.name=Z (.ref j)->
   c.heap.get? a=Z { cls:=.type "list",data:=.seq vs.toArray }->Į vs ns->ns.length<=n->c.gens=#[]->
   ì (Ä l.prog w) ý (.call (.ref j) ⟨[.ref a],[]⟩) (λr v=>r=.ok (.ret (.bool ř))/\OldK c.heap v.heap/\v.os=c.os/\ð v.gens) c) :
  WalkO q e z A l.row.toRowW d [] (λf vs=>PySem.call f vs):=by
 intro w s₀ c mg x G a_ j o y u g L kV T hd E B H P args vals as F C X J Q;obtain rfl:L=.none:=Dflts.none B K;obtain rfl:kV=.none:=Dflts.noKw B;let⟨a,vs,ns,rfl,rfl,I,h,p⟩:=yy be F J;refine enter_call (MT (call w s₀ c mg x j o y u g a vs ns G a_ T (fd_plain hd) E H I h p P) λr v U=>?_);let⟨rfl,M,N,O⟩:=U;show⟨.inl ⟨.bool ř,.bool ř,[],S,λ_=>rfl,.bool ř,Ah l _,λ_=>⟨List.Pairwise.nil,λ_ R=>(nomatch R)⟩⟩,M,N,O⟩
end Att
namespace L2
open PySem PySem.Spec PyProof.Rows
def tP:∀{vs:Y Value}{ns:Y Int},Į vs ns->Vals (ns.map V.int) vs
 |_,_,.nil=>.nil
 |_,_,.cons n t h=>.cons ⟨t,S⟩ (tP h)
noncomputable def rH(H:Hp):Prop:=∀b,H b=ŗ\/∃o xs,H b=Z (.frz o (.lst xs))
def FX{P:Å}{w:È}{K:Â}{mg be:Str->Ř Value}{CX:dZ}{k:Nat}{O a:Addr}{X:Í}{x:Str}{sp:Sp}{c:À}{vs:Y Value}{ns:Y Int}
  (T:K.In c.heap) (I:c.heap.Ns Á mg) (g:c.heap.Ns æ be) (TZ:∀x:Str,x≠"__name__"->be x=Û x) (UC:c.heap.NoLimit)
  (T1:∃f p,mg "__builtins__"=Z (.ref f)/\f≠æ/\c.heap.get? f=Z p/\p.cls=.type "module"/\p.dict=Z æ/\p.data=.plain) (M:c.heap.NoSeer) (Q:∃j,c.heap.Ns cStatics j/\j "sys.int_max_str_digits"=ŗ) (hg:c.gens=#[])
  (C:c.heap.get? a=Z { cls:=.type "list",data:=.seq vs.toArray }) (hi:Į vs ns) (b_:ns.length<=sizeLine) (hr:Room k ý)
  (F:∀base:Heap,K.In base->base.Ns Á mg->FnOk P w K mg base CX k O X [x] sp) (SD:∀(s:À)(u:Value),Ď s X ⟨[u],[]⟩ [(x,u)])
  (Po:∀H:Hp,rH H->SqL K H a (ns.map V.int)->sp [.ref a] H (λv _=>v=.bl ř) λ_ _ _=>False)
  (UD:∀H e l,CX [] H c (λ_ _ _=>False) e l->False) :
  ì (Ä P w) ý (.call (.ref O) ⟨[.ref a],[]⟩) (λr l=>r=.ok (.ret (.bool ř))/\OldK c.heap l.heap/\l.os=c.os/\ð l.gens) c:=by
 have rv:=tP hi;have UE:=hi.length
 have A:∀H:Hp,rH H->SqL K H a (ns.map V.int)->HOk P w H c.heap->(∀b,H b≠ŗ->b=a)->(H a≠ŗ->K.lookup a=ŗ)->
   ì (Ä P w) ý (.call (.ref O) ⟨[.ref a],[]⟩) (λr l=>r=.ok (.ret (.bool ř))/\OldK c.heap l.heap/\l.os=c.os/\ð l.gens) c:=by
  intro H a_ hS hok N hK;have L:∀{b:Addr}{o:Õ},c.heap.get? b=Z o->H b=ŗ->(io c.heap H).get? b=Z o:=λe n=>yp e n
  have Sx:∀{b:Addr}{o:Õ}{es:Array DictEntry}{E:Nat},c.heap.get? b=Z o->o.data=.dict es E->H b=ŗ:=λ{b o es E} e d=>by
   cases q:H b with
   |none=>rfl
   |some u=>
    have B:b=a:=N b (by rw[q];simp);subst B;rw[C]at e;cases e;have d':ù vs.toArray _=Data.dict es E:=d;cases d'
  have y:∀{b:Addr}{m:Str->Ř Value},c.heap.Ns b m->(io c.heap H).Ns b m:=λ{b m} Nx=>by let⟨o,es,E,e,d,r⟩:=Nx;show⟨o,es,E,L e (Sx e d),d,r⟩
  have G:K.In (io c.heap H):=λb o e=>L (T b o e) (by
   cases q:H b with
   |none=>rfl
   |some u=>
    have B:b=a:=N b (by rw[q];simp);subst B
    rw[hK (by rw[q];simp)]at e;cases e)
  have hM:Mod K mg (io c.heap H):=⟨G,y I,⟨be,y g,TZ⟩,let ⟨j,h1,h2⟩:=UC;⟨j,y h1,h2⟩,let ⟨f,p,b1,b2,b3,b4,b5,b6⟩:=T1;⟨f,p,b1,b2,L b3 (by
   cases q:H f with
   |none=>rfl
   |some u=>
    have B:f=a:=N f (by rw[q];simp)
    rw[B,C]at b3;cases b3;injection b4 with z;show absurd z 'b'),b4,b5,b6⟩,
   ⟨let ⟨j,h1,h2⟩:=M.statics;⟨j,y h1,h2⟩,let ⟨j,h1,h2⟩:=M.mods;⟨j,y h1,h2⟩,let ⟨j,h1,h2⟩:=M.imp;⟨j,y h1,h2⟩,let ⟨m1,f,p,n1,b1,b3,b4,b5⟩:=M.main;⟨m1,f,p,y n1,b1,L b3 (by
   cases q:H f with
   |none=>rfl
   |some u=>
    have B:f=a:=N f (by rw[q];simp)
    rw[B,C]at b3;cases b3;injection b4 with z;show absurd z 'b'),b4,b5⟩⟩,let ⟨j,h1,h2⟩:=Q;⟨j,y h1,h2⟩⟩
  have e0:Env0 P w K mg (io c.heap H) ý [] c H:=⟨S,hM,λb o e=>Av e,MS (Fa _ _),trivial,λb g=>absurd (show b∈([]:Y Addr)from g) (by simp),hok,.of_eq hg⟩;refine MT ((F _ G (y I)).run ý [] c H ⟨[.ref a],[]⟩ [.ref a] [.ref a] _ _ hr e0 (SD c (.ref a)) (.cons S .nil) (Po H a_ hS)) λr l h=>?_
  cases r with
  |error e=>show (UD H e l h).elim
  |ok fl=>
   cases fl with
   |next=>show Ñ h
   |brk=>show Ñ h
   |cont=>show Ñ h
   |ret u=>
    let⟨v,H',os,bare,un,UG,r',q⟩:=h;have q':v=.bl ř:=q;subst q';obtain rfl:u=Value.bool ř:=r';refine⟨S,OldK.of_keep λb o e=>?_,os,bare⟩
    cases q:H b with
    |none=>show un.keep b o e q (by intro z;show absurd (show b∈([]:Y Addr)from z) (by simp)) (by simp)
    |some u=>
     rcases a_ b with z|⟨p,xs,z⟩
     ·rw[q]at z;cases z
     ·have z2:=un.frzs b p _ z;let⟨U,_⟩:=hok b _ z;let⟨e2,_⟩:=UG b _ z2;rw[e]at U;cases U;show e2
 cases R:K.lookup a with
 |some o=>
  have e:=T a o R;rw[C]at e;cases e;refine A (λ_=>ŗ) (λ_=>.inl S) (.inr ⟨_,vs.toArray,_,R,S,S,S,by rw[Jo,UE];show b_,by simpa using rv⟩) (λb u z=>by have J:(ŗ:Ř HO)=Z u:=z;cases J) (λb z=>absurd S z) λz=>absurd S z
 |none=>
  refine A (λb=>if b=a then Z (.frz { cls:=.type "list",data:=.seq vs.toArray } (.lst (ns.map V.int))) else ŗ) (λb=>?_) (.inl (.inr ⟨{ cls:=.type "list",data:=.seq vs.toArray },Jj S⟩)) (λb u z=>?_) (λb z=>?_) λ_=>R
  ·by_cases g:b=a
   ·show .inr ⟨_,_,Jj g⟩
   ·show .inl (Jd g)
  ·by_cases g:b=a
   ·have J:=(Jj g).symm.trans z;cases J;subst g;show⟨C,by rw[IY];show b_,vs,_,rv,C⟩
   ·have J:=(Jd g).symm.trans z;cases J
  ·by_cases g:b=a
   ·show g
   ·show absurd (Jd g) z
def walk_of{l:PySem.W.OpenLaw}{n k:Nat}{q:Å}{j:Y Str}{N:(Str->Ř Value)->Heap->Prop}{B:È->Heap->Prop}{d:DefRec}{K:ī->Â}{CX:È->dZ}{sp:È->Sp}{x:Str}
  (X:l.most=Z n) (L:n<=sizeLine) (J:d.params.defaults=[]) (hi:importsNone q=ř) (b_:Room k ý)
  (be:∀(w:È)(h:Heap),B w h->(K w.params).In h)
  (F:∀(w:È)(mg:Str->Ř Value)(r:Addr)(h:Heap),(K w.params).In h->h.Ns Á mg->mg d.name=Z (.ref r)->
   ∃y:Í,(∀(s:À)(u:Value),Ď s y ⟨[u],[]⟩ [(x,u)]) /\
    ∀base:Heap,(K w.params).In base->base.Ns Á mg->FnOk l.prog w (K w.params) mg base (CX w) k r y [x] (sp w))
  (C:∀(w:È)(H:Hp)(a:Addr)(ns:Y Int),ns.length<=n->rH H->SqL (K w.params) H a (ns.map V.int)->sp w [.ref a] H (λv _=>v=.bl ř) λ_ _ _=>False)
  (M:∀(w:È)(H:Hp)(s:À)(e:Value)(z:À),CX w [] H s (λ_ _ _=>False) e z->False) :
  PySem.W.WalkO q j N B l.row.toRowW d [] (λf vs=>PySem.call f vs):=by
 refine Att.attach_call X J λw s₀ p mg mb r o pm cd O a vs ns G a_ ho hd NI E I g c U=>?_;have A:=be w _ a_;let⟨y,T,P⟩:=F w mg r _ A G.T.g E;show FX A G.T.g G.T.b G.T.builtins G.T.nolimit G.T.bmain (G.T.seer hi) G.T.nodigits U I g (JC c L) b_ P T (λH Q R=>C w H a ns c Q R) λH e z=>M w H p e z
end L2
/- THE LAST T2 (shape; LID, My.* are yours):
   My.Adr: a structure of T3 addresses that your layer names (classes, Sa); My.Txt K t: a structure (Prop) of T3 equations over K;
   My.txt_mk : {K} {implicit addresses ..} (e1 : nsIn K mainGlobals "law" = some (some (.ref f))) (e2 : K.lookup f = some ⟨oc, od, .func (fnOf "law" "law" params body scope dV kV doc pm an NG ct), sl⟩) (e3 : codeIn K NG "law" = true) .. : ∃t, My.Txt K t
set_option maxRecDepth 100000 in
set_option maxHeartbeats 0 in
theorem PySem.Challenge.cw_LID_holds : PySem.Challenge.rw_LID.Holds := by
 w_on;o_law;k_head;(case hw=>w_witness2)
 k_fill
 refine L2.walk_of (l:=PySem.Challenge.rw_LID) (n:=63) (k:=40) (x:="script") (CX:=λw=>..) (sp:=λ_=>My.sp_law) S 'b' S ⟨S,'b','b'⟩ (λw h Q=>kIn_of Q) ?F ?U ?C
 case F=>
  intro w mg fa h KX G RH
  have T:∃t,My.Txt (L2.KOf KX) t:=by
   dsimp only[L2.KOf]                          -- K must stand as «<heap const> w.params» for k_is;refine' My.txt_mk ?e1 ?e2 ?e3 ..
   (case e1=>PySem.W.k_is)                    -- in T3 order: a name-> its address-> its object-> its parts
   (case e2=>PySem.W.k_is)
   ..
  let⟨t,T⟩:=T;have e0:=RH.symm.trans (mg_of KX G T.law);cases e0                                       -- fa is T3 law's own address
  show⟨_,λs u=>.of_eq S,λbase kb nb=>My.law_fn T kb nb⟩     -- if «.of_eq S» comes too early: refine' ⟨_,?b,λbase kb nb=>My.law_fn T kb nb⟩;show λs u=>.of_eq S
 case U=>show λw H a ns hl hO hS=>..
 case C=>show ..
(T3 tactic k_is has no namespace: write k_is) -/
namespace L2
open PySem PySem.Spec PyProof.Rows
noncomputable def fN(s:Ç)(j:Nat):Ç:=match s with
 |.ClassDef _ _ _ a _ _ _ _ _ _ _=>a.getD j (.Pass ⟨0,0,0,0⟩)
 |_=>.Pass ⟨0,0,0,0⟩
noncomputable def iM(s:Ç):Arguments:=match s with
 |.FunctionDef _ a _ _ _ _ _ _ _ _=>a
 |_=>{ posonlyargs:=[],args:=[],vararg:=ŗ,kwonlyargs:=[],kw_defaults:=[],kwarg:=ŗ,defaults:=[] }
noncomputable def fZ(s:Ç):Y Ç:=match s with
 |.FunctionDef _ _ b _ _ _ _ _ _ _=>b
 |_=>[]
noncomputable def av(s:Ç):â:=match s with
 |.FunctionDef _ _ _ _ _ _ a _ _ _=>a
 |_=>{ kind:=.function,names:=[],isGenerator:=Ś,isCoroutine:=Ś }
noncomputable abbrev aE:dZ:=λ_ _ _ _ _ _=>False
noncomputable abbrev E0:XK:=λ_ _ _=>False
def jZ{X:Cx}:i6 aE X E0:=λ_ _ _ _ _ _ _ h=>h.elim
structure Fun(K:Â)(x qual:Str)(st:Ç)(f:Addr)(fd:Í):Prop where
 ex:∃(oc:Value)(od:Option Addr)(kV doc pm:Value)(an:Option Addr)(NG ct:Value)(Qr:Array (Option Value)),
  fd=ę x qual (iM st) (fZ st) (av st) .none kV doc pm an NG ct/\K.lookup f=Z ⟨oc,od,.func fd,Qr⟩/\ą K NG qual=ř
 kp:ã K (.ref f)=ř
section
variable{P:Å}{w:È}{K:Â}{mg:Str->Ř Value}{base:Heap}
def Fun.ok{x qual:Str}{st:Ç}{f:Addr}{c:Í}{N ps:Y Str}{k:Nat}{sp:Sp}(F:Fun K x qual st f c)(U:FnScope N ps (av st))(len:∀vs H Q E,sp vs H Q E->vs.length=ps.length)
  (j:∀(a:Value)(A:Ê)(outer:Y ë)(s:À)(H:Hp)(vs:Y V)(Q:VK)(E:XK),Room k (A.deeper (ê qual (av st) s.heap.objs.size f a))->sp vs H Q E->
   ∃t,PSs (iz aE P w K mg base N qual (av st) f a A outer s H E).nox (fZ st) t/\t { nx:=λ_ e=>Q .non e,rt:=Q } (eK N vs) H):FnOk P w K mg base aE (k+1) f c ps sp:=by
 let⟨v,y,kV,o,z,u,a,ct,r,rfl,lk,g⟩:=F.ex;refine rW lk g U len λA outer s H vs Q E p l=>?_;let⟨t,h,q⟩:=j a A outer s H vs Q E p l;show⟨t,h.nox,q⟩
def Fun.binds{x qual:Str}{st:Ç}{f:Addr}{j:Í}{ps:Y Str}(F:Fun K x qual st f j)
  (h:∀(kV a g:Value)(e:Ř Addr)(c ct:Value)(us:Y Value),us.length=ps.length->bindArgs (ę x qual (iM st) (fZ st) (av st) .none kV a g e c ct) ⟨us,[]⟩=pure (ps.zip us)):Binds K j ps []:=by
 let⟨p,r,kV,a,g,e,c,ct,o,rfl,lk,l⟩:=F.ex;show .all (h kV a g e c ct)
def vw{x qual:Str}{st:Ç}{f:Addr}{o:Value}{p g:Ř Addr}{j:Array (Ř Value)}{kV a h e ct:Value}(l:K.lookup f=Z ⟨o,p,.func (ę x qual (iM st) (fZ st) (av st) .none kV a h g e ct),j⟩)
  (c:ą K e qual=ř) (k:ã K (.ref f)=ř):Fun K x qual st f (ę x qual (iM st) (fZ st) (av st) .none kV a h g e ct):=⟨⟨o,p,kV,a,h,g,e,ct,j,S,l,c⟩,k⟩
end
def bj{n:Nat}(h:n<=1000):n<sizeLine:=KS h 'b'
section
variable{X:Cx}
def pv(i:Nat){x:Str}{a:Ö}(e:X.N[i]?=Z x:=by rfl)(f:cH X.env.scope x:=by nofun)(hd:ab x:=by decide)
  (c:fI x:=by decide):PE X (.Name x a) (kQ i):=Hj e f hd c
end
def jB{A B:Prop}(h:B):if Ś=ř then A else B:=by rw[Jd JO];show h
def jW{A B:Prop}(h:A):if ř=ř then A else B:=by rw[Jj S];show h
noncomputable def Same(H a:Hp):Prop:=∀b o,H b=Z o->a b=Z o
def Same.refl(H:Hp):Same H H:=λ_ _ h=>h
def Same.trans{H e f:Hp}(a:Same H e)(b:Same e f):Same H f:=λc o h=>b c o (a c o h)
def Same.free{H a:Hp}(e:Same H a){l:Addr}(h:a l=Ń):H l=Ń:=by
 cases q:H l with
 |none=>rfl
 |some o=>
  rw[e l o q]at h;cases h
def Same.seq{K:Â}{H c:Hp}{a:Addr}{xs:Y V}(e:Same H c)(h:SqL K H a xs):SqL K c a xs:=by
 rcases h with (h|⟨o,h⟩)|h
 ·show .inl (.inl (e _ _ h))
 ·show .inl (.inr ⟨o,e _ _ h⟩)
 ·show .inr h
section
variable{a:Type}[DecidableEq a]
noncomputable def fC(c:Y (a×V))(k:a):Ř V:=(c.find? λe=>decide (e.1=k)).map (·.2)
noncomputable def fG(e:Y (a×V))(k:a)(v:V):Y (a×V):=
 if (e.any λc=>decide (c.1=k))=ř then e.map (λc=>if c.1=k then (c.1,v) else c) else e++[(k,v)]
def nT{p:a×V}{r:Y (a×V)}{k:a}(e:p.1=k):fC (p::r) k=Z p.2:=by simp[fC,KW,e]
def l9{p:a×V}{r:Y (a×V)}{k:a}(e:¬ p.1=k):fC (p::r) k=fC r k:=by simp[fC,KW,e]
def xc(k:a):∀c:Y (a×V),(c.any λf=>decide (f.1=k))=(fC c k).isSome
 | []=>rfl
 |p::r=>by
  rw[Lc];by_cases e:p.1=k
  ·simp only[nT e,J4 e,Bool.true_or,Ė]
  ·rw[l9 e,JG e,Bool.false_or];show xc k r
def vW(c:Y (a×V))(k:a)(v:V):(fG c k v).length<=c.length+1:=by
 unfold fG;split
 ·rw[IY];omega
 ·rw[Ja,Jp,KC];omega
def RelO.isSome_eq{o:Ř V}{u:Ř Value}(r:RelO o u):o.isSome=u.isSome:=by
 cases o with
 |none=>cases u with
  |none=>rfl
  |some _=>show (show False from r).elim
 |some _=>cases u with
  |none=>show (show False from r).elim
  |some _=>rfl
def KV.val{g:Y (a×V)}{vs:Y (a×Value)}(r:KV g vs)(k:a):RelO (fC g k) (ü vs k):=by
 unfold KV at r
 induction r with
 |nil=>show Ü
 | @cons p q ps f h t o=>
  let⟨j,l⟩:=h;by_cases e:p.1=k
  ·have c:q.1=k:=j.symm.trans e
   have b:ü (q::f) k=Z q.2:=by simp[ü,KW,c]
   rw[nT e,b];show l
  ·have c:¬ q.1=k:=λz=>e (j.trans z)
   have b:ü (q::f) k=ü f k:=by simp[ü,KW,c]
   rw[l9 e,b];show o
def KV.any{e:Y (a×V)}{vs:Y (a×Value)}(r:KV e vs)(k:a):(e.any λc=>decide (c.1=k))=vs.any λc=>decide (c.1=k):=by
 unfold KV at r
 induction r with
 |nil=>rfl
 |cons h t f=>rw[Lc,Lc,f,h.1]
def KV.repl{g:Y (a×V)}{vs:Y (a×Value)}(r:KV g vs)(k:a){y:V}{u:Value}(o:RelV y u) :
  KV (g.map λc=>if c.1=k then (c.1,y) else c) (vs.map λc=>if c.1=k then (c.1,u) else c):=by
 unfold KV at r ⊢
 induction r with
 |nil=>show .nil
 | @cons p q ps v h t l=>
  rw[JB,JB];refine .cons ?_ l;let⟨f,j⟩:=h;by_cases e:p.1=k
  ·rw[Jj e,Jj (f.symm.trans e)];show⟨f,o⟩
  ·rw[Jd e,Jd (λz=>e (f.trans z))];show⟨f,j⟩
def KV.put{c:Y (a×V)}{vs:Y (a×Value)}(r:KV c vs)(k:a){y:V}{u:Value}(f:RelV y u):KV (fG c k y) (stored vs k u):=by
 unfold fG stored;rw[r.any k];by_cases e:(vs.any λg=>decide (g.1=k))=ř
 ·rw[Jj e,Jj e];show r.repl k f
 ·rw[Jd e,Jd e];show Č r ⟨S,f⟩
def KV.length{c:Y (a×V)}{vs:Y (a×Value)}(r:KV c vs):c.length=vs.length:=Md r
end
def oz{P:Å}{w:È}{k:ay}{u:Value}(r:RelV (kV k) u):(fu P w).is k u=ř:=by
 cases k with
 |inl i=>let⟨t,e⟩:=(show ∃t,u=Value.int i t from r);subst e;show EV P w i t
 |inr x=>let⟨t,e⟩:=(show ∃t,u=Value.str x t from r);subst e;show yQ P w x t
def v8{P:Å}{w:È}:∀{a:Y ay}{us:Y Value},Vals (a.map kV) us->ItemsAre (fu P w) a us
 | [],_,r=>by rw[List.map_nil]at r;cases r;show .nil
 |k::a,_,r=>by
  rw[JB]at r
  cases r with
  |cons h t=>show .cons (oz h) (v8 t)
noncomputable abbrev KT(H:Hp):Y (Y ay×V)->Y (Y ay×Addr×Value)->Prop:=Paired λp q=>p.1=q.1/\H q.2.1=Z (.tup (p.1.map kV))/\RelV p.2 q.2.2
def KT.val{H:Hp}{f:Y (Y ay×V)}{xs:Y (Y ay×Addr×Value)}(r:KT H f xs)(k:Y ay):RelO (fC f k) ((ē xs k).map (·.2)):=by
 induction r with
 |nil=>show Ü
 | @cons p q ps c h t l=>
  let⟨g,_,j⟩:=h;by_cases e:p.1=k
  ·have a:q.1=k:=g.symm.trans e
   have b:ē (q::c) k=Z q.2:=by simp[ē,KW,a]
   rw[nT e,b];show j
  ·have a:¬ q.1=k:=λz=>e (g.trans z)
   have b:ē (q::c) k=ē c k:=by simp[ē,KW,a]
   rw[l9 e,b];show l
def KT.repl{H:Hp}{f:Y (Y ay×V)}{xs:Y (Y ay×Addr×Value)}(r:KT H f xs)(k:Y ay){y:V}{u:Value}(o:RelV y u) :
  KT H (f.map λc=>if c.1=k then (c.1,y) else c) (xs.map (putAt k u)):=by
 induction r with
 |nil=>show .nil
 | @cons p q ps v h t l=>
  rw[JB,JB];refine .cons ?_ l;let⟨a,g,j⟩:=h;unfold putAt;by_cases e:p.1=k
  ·rw[Jj e,Jj (a.symm.trans e)];show⟨a,g,o⟩
  ·rw[Jd e,Jd (λz=>e (a.trans z))];show⟨a,g,j⟩
def KT.put{H:Hp}{a:Y (Y ay×V)}{xs:Y (Y ay×Addr×Value)}(r:KT H a xs)(k:Y ay){b:Addr}{y:V}{u:Value}(f:H b=Z (.tup (k.map kV)))(c:RelV y u) :
  KT H (fG a k y) (storedH xs k b u):=by
 have e:(a.any λg=>decide (g.1=k))=(ē xs k).isSome:=by rw[xc,(r.val k).isSome_eq,ě]
 unfold fG storedH;rw[e];by_cases q:(ē xs k).isSome=ř
 ·rw[Jj q,Jj q];show r.repl k c
 ·rw[Jd q,Jd q];show Č r ⟨S,f,c⟩
def KT.keeps{H a:Hp}{c:Y (Y ay×V)}{xs:Y (Y ay×Addr×Value)}(r:KT H c xs)(e:∀b ys,H b=Z (.tup ys)->a b=Z (.tup ys)):KT a c xs:=
 Paired.mapP r λ_ _ z=>⟨z.1,e _ _ z.2.1,z.2.2⟩
section
variable{P:Å}{w:È}{H:Hp}{h:Heap}{a:Addr}
def tQ{u:HO}(ok:HOk P w H h)(e:Rd H a u):ObjOk P w H h a u:=e.ok ok
def nR{c:Y (ay×V)}(ok:HOk P w H h)(e:Rd H a (.dK c)):c.length<=sizeLine/\(a==Ú)=Ś/\∃vs,KV c vs/\h.DictOf (fu P w) a vs:=
 show ObjOk P w H h a (.dK c)from tQ ok e
def FU{c:Y (ay×V)}(ok:HOk P w H h)(e:H a=Z (.dK c)):c.length<=sizeLine/\(a==Ú)=Ś/\∃vs,KV c vs/\h.DictOf (fu P w) a vs:=nR ok (.inl e)
def na{c:Y ay}(ok:HOk P w H h)(e:H a=Z (.tup (c.map kV))):(Ă (fu P w)).is h c a:=by let⟨_,its,r,o,f,⟨g,_⟩,n,j⟩:=(show ObjOk P w H h a (.tup (c.map kV))from ok a _ e);show⟨o,its.toArray,n,f,g,j,by simpa using v8 r⟩
def nN{f:Y (Y ay×V)}(ok:HOk P w H h)(e:Rd H a (.dT f)):f.length<=sizeLine/\(a==Ú)=Ś /\
  ∃xs,KT H f xs/\h.DictOfH (Ă (fu P w)) a xs:=by
 let⟨z,y,xs,r,o,es,j,u,v,A,B,C⟩:=(show ObjOk P w H h a (.dT f)from tQ ok e);refine⟨z,y,xs,r,o,es,j,u,v,A,B,λx c=>?_,C⟩
 have all:∀{l:Y (Y ay×V)}{m:Y (Y ay×Addr×Value)},KT H l m->∀x∈m,(Ă (fu P w)).is h x.1 x.2.1:=by
  intro l m q
  induction q with
  |nil=>intro x c;show nomatch c
  | @cons p q ps F g t E=>
   intro x c;rcases Jt.mp c with e|c
   ·subst e;show na ok (by rw[←g.1];show g.2.1)
   ·show E x c
 show all r x c
def B8{c:Y (Y ay×V)}(ok:HOk P w H h)(e:H a=Z (.dT c)):c.length<=sizeLine/\(a==Ú)=Ś /\
  ∃xs,KT H c xs/\h.DictOfH (Ă (fu P w)) a xs:=nN ok (.inl e)
end
noncomputable def DGet(H:Hp)(a:Addr)(y:V)(r:Ř V):Prop:=
 (∃c k,Rd H a (.dK c)/\y=kV k/\r=fC c k)\/∃c k b,Rd H a (.dT c)/\y=.ref b/\H b=Z (.tup (k.map kV))/\r=fC c k
noncomputable def DPut(H:Hp)(a:Addr)(y v:V)(e:Hp):Prop:=
 (∃c k,H a=Z (.dK c)/\y=kV k/\c.length<sizeLine/\e=ao H a (.dK (fG c k v))) \/
 ∃c k b,H a=Z (.dT c)/\y=.ref b/\H b=Z (.tup (k.map kV))/\c.length<sizeLine/\e=ao H a (.dT (fG c k v))
def DGet.t{H:Hp}{a b:Addr}{c:Y (Y ay×V)}{k:Y ay}(e:H a=Z (.dT c))(f:H b=Z (.tup (k.map kV))):DGet H a (.ref b) (fC c k):=.inr ⟨c,k,b,.inl e,S,f,S⟩
def DPut.t{H:Hp}{a b:Addr}{c:Y (Y ay×V)}{k:Y ay}{v:V}(e:H a=Z (.dT c))(f:H b=Z (.tup (k.map kV)))(g:c.length<sizeLine) :
  DPut H a (.ref b) v (ao H a (.dT (fG c k v))):=.inr ⟨c,k,b,e,S,f,g,S⟩
section
variable{X:Cx}{f:Y (Addr×Õ)}{j:St}{H:Hp}{s:À}{a:Addr}{y v:V}{u r:Value}{o:Ř V}{A:Ê}{E:Value->À->Prop}
def Inv.big(I:Inv X f j H s):Ú<s.heap.objs.size:=by have h:Á<s.heap.objs.size:=(I.mod.glob.keeps I.bk).lt;show Mr 'b' h
def A5{Q:Value->À->Prop}(O:A.units+1<å)(I:Inv X f j H s)(g:DGet H a y (Z v))(G:RelV y u)(h:∀w J,Inv X f j H J->RelV v w->Q w J) :
  wpAny (Ä X.prog X.w) A (ä (.ref a) u) Q E s:=by
 rcases g with⟨K,k,e,C,l⟩|⟨K,k,b,e,C,M,l⟩
 ·subst C;let⟨z,hd,vs,c,B⟩:=nR I.hok e;let⟨w,F,x⟩:=RelO.some_of (v:=v) (o:=ü vs k) (by rw[l];show c.val k);show wpAny_getItem_of (oz G) B.mapOf F (h w _ (I.tok _) x)
 ·subst C;cases (show u=Value.ref b from G);let⟨z,hd,xs,c,B⟩:=nN I.hok e;let⟨w,F,x⟩:=RelO.some_of (v:=v) (o:=(ē xs k).map (·.2)) (by rw[l];show c.val k);let⟨p,N,L⟩:=Mc.mp F;refine wpAny_getItem_heap (MD O) (na I.hok M) B N ?_;rw[L];show h w _ (I.tok _) x
def DB{Q:Value->À->Prop}(G:A.units+1<å)(I:Inv X f j H s)(g:DGet H a y o)(x:RelV y u)(h:∀B,Inv X f j H B->Q (.bool o.isSome) B) :
  wpAny (Ä X.prog X.w) A (É .In u (.ref a)) Q E s:=by
 rcases g with⟨C,k,e,w,l⟩|⟨C,k,b,e,w,F,l⟩
 ·subst w;let⟨z,hd,vs,c,p⟩:=nR I.hok e;refine wpAny_in_of (oz x) hd p.mapOf ?_;rw[←(c.val k).isSome_eq,←l];show h _ (I.tok _)
 ·subst w;cases (show u=Value.ref b from x);let⟨z,hd,xs,c,p⟩:=nN I.hok e;refine wpAny_in_heap (MD G) (na I.hok F) hd p ?_;have q:=(c.val k).isSome_eq;rw[ě]at q;rw[←q,←l];show h _ (I.tok _)
def uT{h':Heap}{t':Nat}{c:HO}(I:Inv X f j H s)(mu:kH (H a))(l:Heap.SameBut a s.heap h')(h:∃q,h'.get? a=Z q)(new:ObjOk X.prog X.w (ao H a c) h' a c) :
  Inv X f j (ao H a c) { s with heap:=h',toks:=t' }:=
 I.write (x:=a) (e:=a) mu (.inl S) (λb q g z=>(l.2 b g).trans z) h new
def GN{P:Å}{w:È}{g:Hp}{h':Heap}{c:Y (ay×V)}{vs:Y (ay×Value)}(z:c.length<=sizeLine)(hd:(a==Ú)=Ś)(e:KV c vs)(h:h'.DictOf (fu P w) a vs) :
  ObjOk P w g h' a (.dK c):=⟨z,hd,vs,e,h⟩
def xx{M:Hp}{Q:Unit->À->Prop}(hu:A.units+1<å)(I:Inv X f j H s)(g:DPut H a y v M)(R:RelV y u)(P:RelV v r)(h:∀be,Inv X f j M be->Q Unit.unit be) :
  wpAny (Ä X.prog X.w) A (setItem (.ref a) u r) Q E s:=by
 rcases g with⟨w,k,e,G,l,F⟩|⟨w,k,b,e,G,N,l,F⟩
 ·subst G F;let⟨z,hd,vs,p,C⟩:=FU I.hok e
  have L:vs.length<=sizeLine:=by rw[←p.length];show z
  have J:(fG w k v).length<=sizeLine:=by have:=vW w k v;omega
  refine wpAny_setItem_pairs (hsz:=L) (oz R) C λh' x K=>h _ ?_
  have he:∃q,h'.get? a=Z q:=let ⟨q,_,_,B,_⟩:=x;⟨q,B⟩
  show uT I (by rw[e];show Ü) K he (GN J hd (p.put k P) x)
 ·subst G F;cases (show u=Value.ref b from R);let⟨z,hd,xs,p,C⟩:=B8 I.hok e
  have L:xs.length<=sizeLine:=by rw[←Md p];show z
  have J:(fG w k v).length<=sizeLine:=by have:=vW w k v;omega
  refine wpAny_setItem_heap (hsz:=L) (MD hu) (na I.hok N) C λh' x K=>h _ ?_;let⟨q,es,T,B,U,a_,b_,_,h5⟩:=x;refine uT I (by rw[e];show Ü) K ⟨q,B⟩ ⟨J,hd,_,(p.put k N P).keeps λc ys O=>?_,q,es,T,B,U,a_,b_,h5⟩;rw[aR (Eg O e (λz=>nomatch z))];show O
end
noncomputable def p9(i:Ã):Prop:=∀c a,Ć i Ś c a=operate [c,a] (ä c a)
def Bk{prog:Å}{w:È}{A:Ê}{E:Value->À->Prop}{s:À}{env:ë}{c a:Ã}{v:Ö}{T id:String}{Q:Value->À->Prop}
  (z:typeLookup (.type T) "__getitem__"=pure (Z (.builtin id))) (B:p9 a)
  (h:wpAny (Ä prog w) A (eval c env) (λo g=>wpAny (Ä prog w) A (eval a env) (λi e=>e.TypeIs o T/\wpAny (Ä prog w) A (ä o i) Q E e) E g) E s) :
  wpAny (Ä prog w) A (eval (.Subscript c a v) env) Q E s:=by
 refine Subscript_ (KP h (λo g p=>KP p (λi e f=>?_) λ_ _ x=>x) λ_ _ x=>x);let⟨y,f⟩:=f;unfold Ě;refine Jb ?_;rw[getitemInPython_of_ne y.not_modules];refine Jb (Œ y z ?_)
 have l:wpAny (Ä prog w) A (Ć a Ś o i) (λr j=>wpAny (Ä prog w) A (letTemporaryGo c o r >>= λ_=>pure r) Q E j) E e:=by rw[B o i];show wpAny_operating (KP f (λr j u=>Jb (wpAny_letTemporaryGo (Jr u))) λ_ _ x=>x)
 first
  |show Jr (Jb l)
  |show Jb (Jr (Jb l))
  |show Jb l
def ES{X:Cx}{c:Y (Addr×Õ)}{j:St}{H:Hp}{s:À}{a:Addr}{y:V}{o:Ř V}(I:Inv X c j H s)(g:DGet H a y o):s.TypeIs (.ref a) "dict":=by
 rcases g with⟨h,k,e,_,_⟩|⟨h,k,b,e,_,_,_⟩
 ·let⟨_,_,vs,_,f⟩:=nR I.hok e;show f.typeIs
 ·let⟨_,_,xs,_,f⟩:=nN I.hok e;show f.typeIs
noncomputable def Gc(td g:TE):TE:=λe H Q=>td e H λx f=>g e f λy c=>∃a v,x=.ref a/\DGet c a y (Z v)/\Q v c
noncomputable def Ca(g td:TE):TE:=λe H Q=>g e H λy f=>td e f λx c=>∃a o,x=.ref a/\DGet c a y o/\Q (.bl o.isSome) c
noncomputable def zB(td l j:TE):TS:=λD c H=>j c H λv f=>td c f λx g=>l c g λy h=>∃a e,x=.ref a/\DPut h a y v e/\D.nx c e
section
variable{X:Cx}{o i c:Ã}{f e:Ö}{td j l:TE}
def D9(J:X.A.units+1<å)(F:PE X o td)(hi:PE X i j)(G:p9 i):PE X (.Subscript o i f) (Gc td j):=by intro p s w H Q I h;refine Bk PySem.F.slot_dict_getitem.lookup G (aC (F p s w H _ I h) λu O ⟨x,z,B,M,K⟩=>aC (hi p O w z _ B K) λP R ⟨y,A,r,N,a,v,ex,g,L⟩=>?_);subst ex;obtain rfl:u=Value.ref a:=M;show⟨ES r g,A5 J r g N λT U C E=>⟨v,A,C,E,L⟩⟩
def GQ(E:X.A.units+1<å)(hi:PE X i j)(C:PE X o td):PC X .In i o (Ca j td):=by intro p s r H Q I h;refine aC (hi p s r H _ I h) λN M ⟨y,v,z,L,G⟩=>aC (C p M r v _ z G) λu O ⟨x,w,A,K,a,F,ex,g,J⟩=>?_;subst ex;obtain rfl:u=Value.ref a:=K;show DB E A g L λP B=>⟨.bl F.isSome,w,B,S,J⟩
def BH(L:X.A.units+1<å)(J:PE X o td)(hi:PE X i j)(M:PE X c l)(K:Î c (Z (.Subscript o i e)) f.line X.env=pure Ś) :
  PS X (.Assign [.Subscript o i e] c f) (zB td j l):=by
 intro p s w H D I h;refine wpAny_Assign_Subscript (aC (M p s w H _ I h) λr T ⟨v,z,C,Q,N⟩=>aC (J p T w z _ C N) λu U ⟨x,A,E,R,O⟩=>aC (hi p U w A _ E O) λb_ s3 ⟨y,a_,F,be,a,B,ex,g,P⟩=>?_) K;subst ex;obtain rfl:u=Value.ref a:=R;show xx L F g be Q λs4 G=>⟨w,B,G,P⟩
end
def B3{P:Å}{w:È}{H:Hp}(h:Heap)(a:Ú<h.objs.size):ObjOk P w H (h.push { cls:=.type "dict",data:=.dict #[] }) h.objs.size (.dT []):=
 ⟨KU _,K2.mpr (Kd (JN a)),[],.nil,_,#[],0,Jq _ S,⟨S,S,S⟩,S,S,List.nodup_nil⟩
noncomputable def Dj:TE:=λ_ H Q=>∀p,H p=ŗ->Q (.ref p) (ao H p (.dT []))
section
variable{X:Cx}{c:Ö}
def pe_dnewT:PE X (.Dict [] [] c) Dj:=λe s f H Q I h=>
 wpAny_Dict_empty ⟨.ref s.heap.objs.size,_,I.laid (a:=s.heap.objs.size) (o:=.dT []) (t':=s.toks) (λ_ _ q=>Jf _ q) (Jg _) (B3 s.heap I.big),S,h _ (I.hok.fresh (Jg _))⟩
end
end L2
set_option maxHeartbeats 4000000
namespace L2
open PySem PySem.Spec PyProof.Rows
def A4{env:ë}(names:Y (Str×NameKind))(y:∀x∈names,x.2=.free->∃c,env.cells.lookup x.1=Z c):∀f:Y (Str×Addr),
  ∃cl:Y (Str×Addr),(forIn names f (λ(x:Str×NameKind) v=>if (x.2==.free)=ř then do let a ←cellOf env x.1;pure (ForInStep.yield ((x.1,a)::v)) else pure (ForInStep.yield v)):Sem (Y (Str×Addr)))=pure cl /\
   (∀p∈cl,p∈f\/env.cells.lookup p.1=Z p.2)/\(∀p∈f,p∈cl)/\∀x,(x,NameKind.free)∈names->∃c,(x,c)∈cl:=by
 induction names with
 |nil=>intro f;show⟨f,S,λp g=>.inl g,λ_ g=>g,λx h=>by simp at h⟩
 |cons n r B=>
  intro f;let⟨n,k⟩:=n;have A:∀x∈r,x.2=.free->∃c,env.cells.lookup x.1=Z c:=λx h=>y x (Jh _ h);by_cases u:k=.free
  ·subst u;let⟨c,w⟩:=y (n,.free) Ji S;let⟨cl,e,l,j,o⟩:=B A ((n,c)::f);refine⟨cl,?_,λp g=>?_,λp g=>j p (Jh _ g),λx h=>?_⟩
   ·rw[Ms,←e]
    have q:cellOf env n=pure c:=by unfold cellOf;rw[w]
    simp[q]
   ·rcases l p g with z|z
    ·rcases Jt.mp z with rfl|z
     ·show .inr w
     ·show .inl z
    ·show .inr z
   ·rcases Jt.mp h with z|z
    ·cases z;show⟨c,j _ Ji⟩
    ·show o x z
  ·let⟨cl,e,l,j,o⟩:=B A f;refine⟨cl,?_,l,j,λx h=>?_⟩
   ·rw[Ms,←e]
    have q:(k==NameKind.free)=Ś:=by simpa using u
    simp[q]
   ·rcases Jt.mp h with z|z
    ·cases z;show absurd S u
    ·show o x z
def EM{cl:Y (Str×Addr)}{cells:Y (Str×Addr)}(h:∀p∈cl,cells.lookup p.1=Z p.2):∀x c,cl.lookup x=Z c->cells.lookup x=Z c:=λx c e=>h (x,c) (Ke e)
def Cb{cl:Y (Str×Addr)}{x:Str}{c:Addr}:(x,c)∈cl->∃a,cl.lookup x=Z a:=by
 induction cl with
 |nil=>intro h;simp at h
 |cons p r f=>
  intro h;rw[JF]
  cases e:x==p.1 with
  |true=>show⟨_,S⟩
  |false=>
   rcases Jt.mp h with z|z
   ·subst z;simp at e
   ·show f z
def uK{scope:â}{env:ë}(h:∀x∈scope.names,x.2=.free->∃c,env.cells.lookup x.1=Z c) :
  ∃cl,closureFor scope env=pure cl/\(∀x c,cl.lookup x=Z c->env.cells.lookup x=Z c)/\∀x,(x,NameKind.free)∈scope.names->∃c,cl.lookup x=Z c:=by
 let⟨cl,e,a,_,f⟩:=A4 (env:=env) scope.names h [];refine⟨cl,?_,EM λp j=>(a p j).elim (λz=>by simp at z) id,λx l=>?_⟩
 ·unfold closureFor;simp only;rw[←e];simp
 ·let⟨c,g⟩:=f x l;show Cb g
def qS{env:ë}:∀{names:Y (Str×NameKind)}{x:Str}{k:NameKind},
  (names.map λ(n,k)=>if (k==NameKind.free&&env.scope.kind==.function&&env.kindOf n==Z .cell) then (n,NameKind.cell) else (n,k)).lookup x=Z k->(k=.cell\/k=.free)->(x,NameKind.free)∈names\/(x,NameKind.cell)∈names
 | [],_,_,h,_=>by simp at h
 |(n,k)::r,x,j,h,c=>by
  have g:=@qS env r x j;have h:List.lookup x ((if (k==NameKind.free&&env.scope.kind==.function&&env.kindOf n==Z .cell)=ř then (n,NameKind.cell) else (n,k))::_)=_:=h;by_cases a:(k==NameKind.free&&env.scope.kind==.function&&env.kindOf n==Z .cell)=ř
  ·rw[Jj a]at h
   have l:k=.free:=by simp only[Ki,LG]at a;show a.1.1
   rw[JF]at h
   cases e:x==n with
   |true=>
    have:x=n:=by simpa using e
    subst this;subst l;show .inl Ji
   |false=>
    simp only[e]at h;show (g h c).imp (Jh _) (Jh _)
  ·rw[Jd a]at h;rw[JF]at h
   cases e:x==n with
   |true=>
    have f:k=j:=by simpa [e] using h
    have:x=n:=by simpa using e
    subst this;subst f;rcases c with rfl|rfl
    ·show .inr Ji
    ·show .inl Ji
   |false=>
    simp only[e]at h;show (g h c).imp (Jh _) (Jh _)
noncomputable def bS(X:Cx)(scope:â)(N':Y Str)(cl:Y (Str×Addr))(C:Addr)(e:À)(a:Hp)(c:Y Addr):Cx where
 prog:=X.prog
 w:=X.w
 K:=X.K
 mg:=X.mg
 base:=X.base
 A:=X.A
 N:=N'
 s₀:=e
 H₀:=a
 env:=Ē scope cl C X.env
 outer:=X.stack
 stack:=X.stack
 ex:=c
 fn:=λx=>scope.names.lookup x==Z .cell
 calm:=X.calm
 pn:=[]
 xe:=λ_ _=>False
noncomputable def eE(cap:Y (Ř Nat))(a:St):St:=cap.map λo=>o.bind λi=>(a[i]?).join
structure CompScope(N:List Str)(sc scope:â)(N':List Str)(cap:List (Option Nat)):Prop where
 kind:scope.kind=.function
 cel:∀x∈scope.names,x.2=.cell->scope.names.lookup x.1=Z .cell
 names:∀x∈scope.names,x.2=.local->scope.names.lookup x.1=Z .local
 free:∀x∈scope.names,x.2=.free->sc.names.lookup x.1=Z .cell
 fst:∀x∈scope.names,x.2=.free->scope.names.lookup x.1=Z .free
 nd:N'.Nodup
 len:cap.length=N'.length
 at_:∀p∈cap.zip N',∀i,p.1=Z i->N[i]?=Z p.2/\(p.2,NameKind.free)∈scope.names
noncomputable def iX(X:Cx)(e:Y Ã)(t:TT):Prop:=
 ∀(a:Y (Addr×Õ))(s:À)(f:St)(H:Hp)(Q:Bool->Hp->Prop),Inv X a f H s->t f H Q->
  wpAny (Ä X.prog X.w) X.A (forIn e ř λc r=>if r=ř then do let ok ←isTrue c X.env (eval c X.env);pure (ForInStep.yield ok) else pure (ForInStep.yield r)) (TP X a f Q) X.xe s
noncomputable def Ha:TT:=λ_ H Q=>Q ř H
def sG{X:Cx}:iX X [] Ha:=λ_ _ _ H _ I h=>wpAny_tests_nil ⟨H,I,h⟩
def Ad{X:Cx}{c:Ã}{t:TT}(h:PT X c t):iX X [c] t:=λa s f H Q I e=>wpAny_tests_one (h a s f H Q I e)
noncomputable def gS(z:TI)(cap:Y (Ř Nat))(g:TG)(v:TT)(w:TE):TE:=λr H Q=>z r H λJ j=>∀D,j D=ŗ->∃W:Nat->Nat->St->Hp->Prop,(∃m,W 0 m (eE cap r) (ao j D (.lst []))) /\
 ∀i m f c,W i m f c->(J.stop i c/\Q (.ref D) c)\/(J.go i c/\∃N:St->Hp->Prop,(∀h e,N h e->∃p,p<m/\W (i+1) p h e) /\
  ∀x e,J.yld i c x e->g x f e λa u=>v a u λb l=>if b=ř then w a l λy o=>∃ys,o D=Z (.lst ys)/\ys.length<sizeLine/\N a (ao o D (.lst (ys++[y]))) else N a l)
def Bc{prog:Å}{w:È}{A:Ê}{R:Result->À->Prop}{s:À}{B a o:Ã}{E:Y Ã}{scope:â}{J:Ö}{L z:Value}{env:ë}(I:Nat->À->Prop)
  (K:∀n s,I n s->wpAny (Ä prog w) A (ó L) (λr e=>match r with
   |none=>R (.ok .next) e
   |some v=>wpAny (Ä prog w) A (ñ a L v) (λ_ f=>wpAny (Ä prog w) A (assign a env v) (λ_ p=>
     wpAny (Ä prog w) A (forIn E ř λc r=>if r=ř then do let ok ←isTrue c env (eval c env);pure (ForInStep.yield ok) else pure (ForInStep.yield r)) (λok g=>
      if ok=ř then wpAny (Ä prog w) A (eval B env) (λx u=>
       wpAny (Ä prog w) A (call (.builtin "list.append") [z,x]) (λ_ y=>∃m,m<n/\I m y) (λ_ _=>False) u) (λ_ _=>False) g
      else ∃m,m<n/\I m g) (λ_ _=>False) p) (λ_ _=>False) f) (λ_ _=>False) e) (λ_ _=>False) s)
  (n:Nat) (h:I n s):ì (Ä prog w) A (.compLoop (.ListComp B [⟨a,o,E,0⟩] scope J) 0 L z env) R s:=by
 refine codeAny_loop S I (λn s M=>?_) n h;change wpAny _ A ((compTurn (.ListComp B [⟨a,o,E,0⟩] scope J) 0 L z env).onRaise (λx=>do noteFrame x env;theTreesLotGoes x)) _ _ s;refine wpAny_noted ?_;rw[compTurn_list];refine Jb (MJ (Jb (KP (K n s M) (λr e j=>?_) λ_ _ h'=>h'.elim)))
 cases r with
 |none=>show Jr j
 |some v=>
  refine Jb (KP j (λ_ f C=>?_) λ_ _ h'=>h'.elim);refine Jb (KP C (λ_ p F=>Jb (KP F (λok g l=>?_) λ_ _ h'=>h'.elim)) λ_ _ h'=>h'.elim)
  cases ok with
  |false=>show Jr ⟨S,l⟩
  |true=>
   show Jb (Jb (KP l (λx u G=>Jb (KP G (λ_ y H=>Jr (Jr ⟨S,H⟩)) λ_ _ h'=>h'.elim)) λ_ _ h'=>h'.elim))
section
variable{X:Cx}{B G f:Ã}{l:Y Ã}{scope:â}{F:Ö}{N':Y Str}{cap:Y (Ř Nat)}{O:TI}{g:TG}{L:TT}{K:TE}
def lg:∀(names:Y (Str×NameKind))(n:Nat)(a:Y (Str×Addr)),Ø n names a=Ø n names []++a
 | [],_,_=>rfl
 |(x,k)::r,n,a=>by
  unfold Ø;split
  ·rw[lg r (n+1) ((x,n)::a),lg r (n+1) [(x,n)],Js];rfl
  ·show lg r n a
def oW:∀(names:Y (Str×NameKind))(n:Nat){x:Str}{c:Addr},(x,c)∈Ø n names []->(x,NameKind.cell)∈names
 | [],_,_,_,h=>by simp[Ø]at h
 |(y,k)::r,n,x,c,h=>by
  unfold Ø at h;split at h
  ·rename_i a;rw[lg]at h;rcases JH.mp h with h|h
   ·show Jh _ (oW r _ h)
   ·have e:=Jk.mp h;cases e
    have:k=.cell:=by simpa using a
    subst this;show Ji
  ·show Jh _ (oW r _ h)
def CL{M:Model}{A:Ê}{E:Value->À->Prop}{s:À}{globals:Addr}{cl:Y (Str×Addr)}{qual:Str}{outer:ë}{Q:ë->À->Prop}
  (c:∀h',h'.Ns s.heap.objs.size (λ_=>ŗ)->(∀b o,s.heap.get? b=Z o->h'.get? b=Z o)->CellsOk h' (s.heap.objs.size+1) (Ø (s.heap.objs.size+1) scope.names [])->
   Q { scope:=scope,locals:=s.heap.objs.size,globals:=globals,cells:=Ø (s.heap.objs.size+1) scope.names []++cl,qual:=qual,func:=ŗ,code:=outer.code,frame:=outer.frame,builtins:=outer.builtins } { s with heap:=h' }) :
  wpAny M A (Đ scope globals cl [] qual ŗ .none (Z outer)) Q E s:=by
 simp only[Đ,Ė,L4];refine Jb (wpAny_alloc ?_);refine Jb (wpAny_layCells _ (λname kind cells=>by cases a:kind==NameKind.cell<;>simp[a]) _ _ _ _ ?_);have ok:=cellsFrom_ok scope.names (s.heap.push { cls:=.type "dict",data:=.dict #[] }) (s.heap.objs.size+1) [] ⟨λ_ _ h=>(nomatch h),List.Pairwise.nil⟩ (by rw[J0];show Jg _);rw[J0]at ok;rw[show ({ s with heap:=s.heap.push { cls:=.type "dict",data:=.dict #[] } }:À).heap.objs.size=s.heap.objs.size+1 from J0 ..,lg];refine Jb ?_;rw[Nd];show Jr (Jr (c _ ((Heap.Ns.new s.heap (.type "dict")).keeps (œ _ _)) (λb o e=>œ _ _ b o (Jf _ e)) ok))
def Ds{N:Y (Addr×Õ)}{P:St}{H:Hp}{s T:À}{cl A:Y (Str×Addr)}{C:Addr}{fp:Y Addr}{m:Str->Ř Value}(be:CompScope X.N X.env.scope scope N' cap)(I:Inv X N P H s)
  (PR:∀x c,cl.lookup x=Z c->X.env.cells.lookup x=Z c) (RJ:∀x,(x,NameKind.free)∈scope.names->∃c,cl.lookup x=Z c) (E:s.heap.objs.size<=C) (QP:T.os=s.os) (hg:T.gens=s.gens)
  (hk:∀b o,s.heap.get? b=Z o->T.heap.get? b=Z o) (hn:T.heap.Ns C m) (T5:∀b∈fp,ei X N H b) (b_:∀b∈fp,b<s.heap.objs.size) (hw:CellsOk T.heap (C+1) A) (hwm:∀x c,(x,c)∈A->(x,NameKind.cell)∈scope.names) (Rg:∀x,(x,NameKind.cell)∈scope.names->∃c,A.lookup x=Z c) :
  Inv (bS X scope N' (A++cl) C s H fp) [] (eE cap P) H T:=by
 have R:∀x c,(A++cl).lookup x=Z c->((x,c)∈A/\C<c)\/(A.lookup x=ŗ/\X.env.cells.lookup x=Z c):=λx c h=>by
  rw[ME]at h
  cases e:A.lookup x with
  |none=>rw[e]at h;show .inr ⟨S,PR x c (by simpa using h)⟩
  |some U=>
   rw[e]at h
   have:U=c:=by simpa using h
   subst this;show .inl ⟨Ke e,(hw.empty _ _ (Ke e)).2⟩
 have M:∀x c,X.env.cells.lookup x=Z c->c<s.heap.objs.size:=λx c h=>by let⟨v,q⟩:=I.cell x c h;show q.lt
 have SE:∀x,(x,NameKind.free)∈scope.names->∃c,(A++cl).lookup x=Z c/\X.env.cells.lookup x=Z c:=λx w=>by
  let⟨c,hc⟩:=RJ x w;refine⟨c,?_,PR x c hc⟩;rw[ME]
  cases e:A.lookup x with
  |none=>simpa using hc
  |some U=>
   have a1:=be.cel _ (hwm x U (Ke e)) S;have a2:=be.fst _ w S;have a1:scope.names.lookup x=Z .cell:=a1;have a2:scope.names.lookup x=Z .free:=a2;rw[a1]at a2;cases a2
 refine⟨⟨I.ok.mod,be.kind,I.ok.glob,I.ok.blt,E,λx y c h1 a=>?_,λx w=>?_,λx c w h=>?_,I.ok.hd,I.ok.frames,.inl S,
   λb J=>⟨JN (JR (b_ b J) E),λx c e=>?_⟩,I.bs,JC I.ok.bsz I.sz,λb o e J=>?_,λb J hf=>?_,I.stack,I.stkFree⟩,
  QP,by rw[hg];show I.bare,Un.kept hk,⟨m,hn,λi x v h1 a h3=>?_⟩,λx c e=>?_,I.hok.fresh E,λx c e=>?_,λp hp=>absurd (show p∈([]:Y (Addr×Õ))from hp) (by simp),I.hok.kept hk,?_⟩
 ·rcases R x c h1 with⟨a1,a2⟩|⟨_,a2⟩<;>rcases R y c a with⟨b1,b2⟩|⟨_,b2⟩
  ·show name_of_addr hw.apart a1 b1
  ·show absurd (M y c b2) (Nat.not_lt.mpr (JC E (Ko a2)))
  ·show absurd (M x c a2) (Nat.not_lt.mpr (JC E (Ko b2)))
  ·show I.ok.inj x y c a2 b2
 ·have q:(x,NameKind.free)∈scope.names\/(x,NameKind.cell)∈scope.names:=by
   rcases w with w|w
   ·show qS w (.inl S)
   ·show qS w (.inr S)
  rcases q with q|q
  ·let⟨c,h,_⟩:=SE x q;show⟨c,h⟩
  ·let⟨c,h⟩:=Rg x q;show⟨c,by change (A++cl).lookup x=_;rw[ME,h];rfl⟩
 ·have w:(scope.names.lookup x==Z .cell)=ř:=w
  have w:scope.names.lookup x=Z .cell:=by simpa using w
  let⟨U,h'⟩:=Rg x (Ke w);rcases R x c h with⟨_,a2⟩|⟨a1,_⟩
  ·show JC E (Ko a2)
  ·rw[h']at a1;cases a1
 ·rcases R x c e with⟨_,a2⟩|⟨_,a2⟩
  ·show λz=>absurd (b_ b J) (Nat.not_lt.mpr (JC E (by rw[←z];show Ko a2)))
  ·show (T5 b J).2.2.2.2.1 x c a2
 ·rcases (T5 b J).2.2.2.1 with z|z
  ·show I.ok.noex b o e z
  ·show absurd (JR (Jx e) (JC I.ok.bsz z)) (KH _)
 ·rcases Jt.mp (I.stkSub b hf)with z|z
  ·show (T5 b J).2.1 z
  ·show (T5 b J).2.2.1 z
 ·have a:(cap.map λo=>o.bind λi=>(P[i]?).join)[i]?=Z (Z v):=a;rw[Jm]at a
  cases ec:cap[i]? with
  |none=>rw[ec]at a;cases a
  |some o=>
   rw[ec]at a
   have a:(o.bind λi=>(P[i]?).join)=Z v:=by simpa using a
   cases o with
   |none=>cases a
   |some j=>
    have a:(P[j]?).join=Z v:=a
    have hj:P[j]?=Z (Z v):=by
     cases ej:P[j]? with
     |none=>rw[ej]at a;cases a
     |some y=>rw[ej]at a;show JY Z a
    have hz:(cap.zip N')[i]?=Z (Z j,x):=by rw[LN];show⟨ec,h1⟩
    let⟨q1,q2⟩:=be.at_ _ (Je hz) j S;let⟨mx,hnx,hl⟩:=I.loc;have kc:=be.free _ q2 S;let⟨u,r,lk⟩:=hl j x v q1 hj (.inr (.inl kc));refine⟨u,r,?_⟩;rcases lk with⟨k1,_⟩|⟨_,c,e,z⟩
    ·have:X.env.scope.names.lookup x=Z .local:=k1;rw[kc]at this;cases this
    ·let⟨U,Ss,Q0⟩:=SE x q2;rw[e]at Q0;cases Q0
     have Q:(Ē scope (A++cl) C X.env).kindOf x=Z .cell\/(Ē scope (A++cl) C X.env).kindOf x=Z .free\/(Ē scope (A++cl) C X.env).kindOf x=Z .local:=by
      rcases h3 with z|z|z
      ·show .inr (.inr z)
      ·show .inl z
      ·show .inr (.inl z)
     rcases Q with Q|Q|Q
     ·show .inr ⟨.inl Q,c,Ss,let ⟨o,ho,hd⟩:=z;⟨o,hk c o ho,hd⟩⟩
     ·show .inr ⟨.inr Q,c,Ss,let ⟨o,ho,hd⟩:=z;⟨o,hk c o ho,hd⟩⟩
     ·exfalso;have kl:(relabel scope X.env).names.lookup x=Z .local:=Q;have ml:=Ke kl;let⟨⟨n,k⟩,hm,a_⟩:=Ju.mp ml;have a_:(if (k==NameKind.free&&X.env.scope.kind==.function&&X.env.kindOf n==Z .cell)=ř then (n,NameKind.cell) else (n,k))=(x,NameKind.local):=a_;split at a_
      ·cases a_
      ·cases a_;have a1:=be.names _ hm S;have a3:scope.names.lookup x=Z .free:=be.fst _ q2 S;have a1:scope.names.lookup x=Z .local:=a1;rw[a3]at a1;cases a1
 ·rcases R x c e with⟨a1,_⟩|⟨_,a2⟩
  ·show⟨ŗ,(hw.empty x c a1).1⟩
  ·let⟨v,o,ho,hd⟩:=I.cell x c a2;show⟨v,o,hk c o ho,hd⟩
 ·rcases R x c e with⟨_,a2⟩|⟨_,a2⟩
  ·show I.hok.fresh (JC E (Ko a2))
  ·show I.freeC x c a2
 ·change (eE cap P).length=N'.length;unfold eE;rw[IY,be.len]
def xl{H:Y (Addr×Õ)}{σ:St}{j:Hp}{I:À}{it:Addr}{A:Y Addr}{tn:Nat->Heap->Prop}{J:It}{cl:Y (Str×Addr)}{RR:Value->Addr->Result->À->Prop}{E:Value->À->Prop}(NK:X.calm=ř)(be:CompScope X.N X.env.scope scope N' cap)
  (hg:∀(cl:Y (Str×Addr))(C:Addr)(s0:À)(H0:Hp),PG (bS X scope N' cl C s0 H0 A) G g) (ht:∀(cl:Y (Str×Addr))(C:Addr)(s0:À)(H0:Hp),iX (bS X scope N' cl C s0 H0 A) l L) (he:∀(cl:Y (Str×Addr))(C:Addr)(s0:À)(H0:Hp),PE (bS X scope N' cl C s0 H0 A) B K)
  (I2:Inv X H σ j I) (T:Turn X.prog X.w X.K G J A it tn) (Rf:tn 0 I.heap) (f2:∀b∈A,ei X H j b)
  (PR:∀x c,cl.lookup x=Z c->X.env.cells.lookup x=Z c) (RJ:∀x,(x,NameKind.free)∈scope.names->∃c,cl.lookup x=Z c)
  {P:V->Hp->Prop}
  (w:∀D,j D=ŗ->∃W:Nat->Nat->St->Hp->Prop,(∃m,W 0 m (eE cap σ) (ao j D (.lst []))) /\
   ∀i m Q z,W i m Q z->(J.stop i z/\P (.ref D) z)\/(J.go i z/\∃N:St->Hp->Prop,(∀σ2 j,N σ2 j->∃m',m'<m/\W (i+1) m' σ2 j) /\
    ∀x j,J.yld i z x j->g x Q j λU H3=>L U H3 λb H4=>if b=ř then K U H4 λy H5=>∃ys,H5 D=Z (.lst ys)/\ys.length<sizeLine/\N U (ao H5 D (.lst (ys++[y]))) else N U H4))
  (hRR:∀D C z s' m',X.env.locals≠C->X.s₀.heap.objs.size<=C->(∀x c,X.env.cells.lookup x=Z c->c≠C)->(∀p∈X.pn++H,p.1≠C)->z C=ŗ->s'.heap.Ns C m'->Inv X H σ z s'->P (.ref D) z->RR (.ref D) C (.ok .next) s') :
  wpAny (Ä X.prog X.w) X.A (newList []) (λacc M=>wpAny (Ä X.prog X.w) X.A (Đ scope X.env.globals cl [] X.env.qual ŗ .none (Z X.env)) (λSF s₄=>
   ì (Ä X.prog X.w) X.A (.compStart (.ListComp B [⟨G,f,l,0⟩] scope F) 0 (.ref it) acc { SF with scope:=relabel scope X.env }) (RR acc SF.locals) s₄) E M) E I:=by
 refine K1 ?_ (by change 0<=sizeLine;decide);have I3:Inv X H σ (ao j I.heap.objs.size (.lst [])) { I with heap:=I.heap.push { cls:=.type "list",data:=.seq ([]:Y Value).toArray } }:=I2.lnew (t':=I.toks) .nil (by change 0<=sizeLine;decide);have k3:∀b o,I.heap.get? b=Z o->(I.heap.push { cls:=.type "list",data:=.seq ([]:Y Value).toArray }).get? b=Z o:=λb o e=>Jf _ e;have z3:(I.heap.push { cls:=.type "list",data:=.seq ([]:Y Value).toArray }).objs.size=I.heap.objs.size+1:=J0 ..;have hD0:j I.heap.objs.size=ŗ:=I2.fresh;generalize hs3:({ I with heap:=I.heap.push { cls:=.type "list",data:=.seq ([]:Y Value).toArray } }:À)=s3 at I3 ⊢
 have eh3:s3.heap=I.heap.push { cls:=.type "list",data:=.seq ([]:Y Value).toArray }:=by rw[←hs3]
 have eo3:s3.os=I.os:=by rw[←hs3]
 generalize hDD:I.heap.objs.size=D at I3 hD0 z3 ⊢;rw[←eh3]at k3 z3;have live:∀b∈A,∃o,I.heap.get? b=Z o/\∀v,o.data≠.cell v:=λb a=>T.obj 0 _ Rf b a
 have UH:∀b∈A,b<D:=λb a=>by let⟨o,e,_⟩:=live b a;rw[←hDD];show Jx e
 have f3:∀b∈A,ei X H (ao j D (.lst [])) b:=λb a=>⟨by rw[aR (JN (UH b a))];show (f2 b a).1,(f2 b a).2⟩;refine CL λh4 hn4 k4 ok4=>?_;generalize hnw:Ø (s3.heap.objs.size+1) scope.names []=nw at ok4 ⊢;have st4:tn 0 h4:=T.keep 0 _ _ Rf λb _ o e=>k4 b o (k3 b o e)
 have I4:Inv (bS X scope N' (nw++cl) s3.heap.objs.size s3 (ao j D (.lst [])) A) [] (eE cap σ) (ao j D (.lst [])) { s3 with heap:=h4 }:=
  Ds be I3 PR RJ (Jg _) S S k4 hn4 f3 (λb a=>by rw[z3];show Lf (UH b a)) ok4 (λx c h=>oW _ _ (hnw▸h)) λx h=>hnw▸qj (be.cel _ h S)
 let⟨W,⟨m0,w0⟩,turn⟩:=w D hD0
 have UI:∀{z:Hp},(∀b∈A,z b=ŗ)->∀b∈A,ei (bS X scope N' (nw++cl) s3.heap.objs.size s3 (ao j D (.lst [])) A) [] z b:=λhn b a=>
  ⟨hn b a,JN (by change b<s3.heap.objs.size;rw[z3];show Lf (UH b a)),λhf=>I4.ok.exfs b a hf,.inl a,λx c e=>(I4.ok.exf b a).2 x c e,λp hp=>absurd (show p∈([]:Y (Addr×Õ))from hp) (by simp)⟩
 have loop:∀M:À,M={ s3 with heap:=h4 }->
   ì (Ä X.prog X.w) X.A (.compLoop (.ListComp B [⟨G,f,l,0⟩] scope F) 0 (.ref it) (.ref D) (Ē scope (nw++cl) s3.heap.objs.size X.env)) (RR (.ref D) s3.heap.objs.size) M:=by
  rintro M rfl
  refine Bc (λn s'=>∃i Q z,Inv (bS X scope N' (nw++cl) s3.heap.objs.size s3 (ao j D (.lst [])) A) [] Q z s'/\tn i s'.heap/\(∀b∈A,z b=ŗ)/\W i n Q z) ?_ m0
   ⟨0,eE cap σ,ao j D (.lst []),I4,st4,λb a=>(f3 b a).1,w0⟩
  rintro n s5 ⟨i,a_,H5,I5,R8,TQ,w5⟩;rcases turn i n a_ H5 w5 with⟨stop,qn⟩|⟨go,N,hN,step⟩
  ·refine aC (T.done (bS X scope N' (nw++cl) s3.heap.objs.size s3 (ao j D (.lst [])) A) S S S NK i [] s5 a_ H5 _ I5 (UI TQ) R8 stop) λr s6 Nx=>?_;let⟨hr,I6⟩:=Nx;subst hr;let⟨m6,hn6,_⟩:=I6.loc;have un:Un (gv X.stack) A (ao j D (.lst [])) H5 s3.heap s6.heap:=I6.base;refine hRR D s3.heap.objs.size H5 s6 m6 (JN I3.lt) I3.sz (λx c e=>?_) (λp hp=>?_) I6.free hn6 ?_ qn
   ·let⟨v,q⟩:=I3.cell x c e;show JN q.lt
   ·show JN (Jx (I3.pin p hp).1)
   ·show I3.call' I6.os un I6.hok I6.bare λb a=>⟨(f3 b a).2.2.2.1,(f3 b a).2.1,(f3 b a).2.2.2.2.1,(f3 b a).2.2.2.2.2⟩
  ·refine aC (T.item (bS X scope N' (nw++cl) s3.heap.objs.size s3 (ao j D (.lst [])) A) S S S NK i [] s5 a_ H5 (λ_ _=>False) I5 (UI TQ) R8 go) λr s6 NR=>?_;let⟨u,hr,h6⟩:=NR;subst hr;refine aC h6 λ_ s7 Pj=>?_;let⟨x,H7,I7,r7,y7,UJ,fr7⟩:=Pj;have I7':=I7.pinned (UI fr7) (T.obj _ _ UJ);refine aC (hg _ _ _ _ _ s7 a_ H7 x u _ I7' r7 (step x H7 y7)) λ_ s8 Su=>?_;let⟨b_,H8,I8,q8⟩:=Su;refine aC (ht _ _ _ _ _ s8 b_ H8 _ I8 q8) λb s9 Uw=>?_;let⟨H9,I9,q9⟩:=Uw
   have again:∀{R:St}{H9:Hp}{s9:À},Inv (bS X scope N' (nw++cl) s3.heap.objs.size s3 (ao j D (.lst [])) A) ([]++la A s7.heap) R H9 s9->N R H9->∃m,m<n/\∃i Q z,Inv (bS X scope N' (nw++cl) s3.heap.objs.size s3 (ao j D (.lst [])) A) [] Q z s9/\tn i s9.heap/\(∀b∈A,z b=ŗ)/\W i m Q z:=λ{R H9 s9} I9 n9=>by let⟨m',hm,w9⟩:=hN R H9 n9;refine⟨m',hm,i+1,R,H9,I9.unpinned,T.keep _ _ _ UJ λb a o e=>(I9.pin (b,o) (JZ _ (JZ _ (nI a e)))).1,λb a=>?_,w9⟩;let⟨o,e,d⟩:=T.obj _ _ UJ b a;show (I9.pin (b,o) (JZ _ (JZ _ (nI a e)))).2.1
   cases b with
   |false=>
    rw[Jd 'b']at q9 ⊢;show again I9 q9
   |true=>
    rw[Jj S]at q9 ⊢;refine aC (he _ _ _ _ _ s9 b_ H9 _ I9 q9) λyv s10 Ux=>?_;let⟨y,UK,I10,UL,ys,UM,UN,q10⟩:=Ux;refine aC (oy _ s10 b_ UK (.ref D) [y] (.ref D) [yv] (λ_ z=>N b_ z) I10 S (.cons UL .nil) ⟨D,ys,y,S,S,UM,UN,q10⟩) λ_ s11 hq6=>?_;let⟨_,H11,I11,_,q11⟩:=hq6;show again I11 q11
 show codeAny_compStart_list (loop _ S) (T.self _ 0 _ _ _ st4 (loop _ S))
def rZ(E:X.calm=ř)(be:CompScope X.N X.env.scope scope N' cap)(hi:PI X G f O)
  (hg:∀(cl:Y (Str×Addr))(a:Y Addr)(C:Addr)(p:À)(j:Hp),PG (bS X scope N' cl C p j a) G g) (ht:∀(cl:Y (Str×Addr))(a:Y Addr)(C:Addr)(p:À)(j:Hp),iX (bS X scope N' cl C p j a) l L)
  (he:∀(cl:Y (Str×Addr))(a:Y Addr)(C:Addr)(p:À)(j:Hp),PE (bS X scope N' cl C p j a) B K) (hs:∀x,Ì f X.env x=pure x:=by intro _;rfl) :
  PE X (.ListComp B [⟨G,f,l,0⟩] scope F) (gS O cap g L K):=by
 intro c s u H Q I h;let⟨cl,b_,M,R⟩:=uK (scope:=scope) (env:=X.env) λx hx hf=>I.ok.has x.1 (.inl (be.free x hx hf));rw[eval_ListComp];refine wpAny_comprehension_free (use:=ŗ) S hs b_ be.kind be.names (aC (hi c s u H _ I h) λv s1 h1=>aC h1 λTN s2 h2=>?_);let⟨it,a,tn,J,H2,e,A,T,U,f2,w⟩:=h2;subst e;refine xl (RR:=λr C=>compPost (Ä X.prog X.w) X.A X.xe ŗ (EP X c u Q) r C) E be (λcl=>hg cl a) (λcl=>ht cl a) (λcl=>he cl a) A T U f2 M R (P:=Q) w ?_;intro D C y s' m' hL hz N UP hC hn z q;refine⟨m',hn,λh' a_=>⟨.ref D,y,z.turned (t':=s'.toks) (λb o hb e=>(a_.2 b hb).trans e) hC (Kd hL) (.inr hz) N UP,S,q⟩⟩
def nr{i:Nat}{y:Str}{p NJ:Ö}(NK:X.calm=ř)(hN:X.N.Nodup)(hy:X.N[i]?=Z y)(a_:eI X.env.scope y)(be:CompScope X.N X.env.scope scope N' cap)(hi:PI X G f O)
  (hg:∀(cl:Y (Str×Addr))(j:Y Addr)(C:Addr)(A:À)(u:Hp),PG (bS X scope N' cl C A u j) G g) (ht:∀(cl:Y (Str×Addr))(j:Y Addr)(C:Addr)(A:À)(u:Hp),iX (bS X scope N' cl C A u j) l L)
  (he:∀(cl:Y (Str×Addr))(j:Y Addr)(C:Addr)(A:À)(u:Hp),PE (bS X scope N' cl C A u j) B K) (QS:Î (.ListComp B [⟨G,f,l,0⟩] scope F) (Z (.Name y p)) NJ.line X.env=pure ř:=by rfl)
  (hs:∀x,Ì f X.env x=pure x:=by intro _;rfl) (U:X.fn y=ř\/X.env.scope.names.lookup y=Z .local:=by nofun) :
  PS X (.Assign [.Name y p] (.ListComp B [⟨G,f,l,0⟩] scope F) NJ) (jo (gS O cap g L K) (iW i)):=by
 intro c s σ H D I h;let⟨cl,UO,PR,RJ⟩:=uK (scope:=scope) (env:=X.env) λx a_ U=>I.ok.has x.1 (.inl (be.free x a_ U));rw[exec_Assign_Name_used _ _ _ _ QS];refine Jb (MJ (Jb ?_));change wpAny _ X.A (do let _ ←comprehension (.ListComp B [⟨G,f,l,0⟩] scope F) scope X.env _ (newList []) Ś (eval f X.env) (Z (assign (.Name y p) X.env))) _ _ s
 refine Jb (KP (wpAny_comprehension_free (use:=Z (assign (.Name y p) X.env)) (Q:=λ_ r=>SP X c D .next r) S hs UO be.kind be.names
  (aC (hi c s σ H _ I h) λv s1 h1=>aC h1 λTN s2 h2=>?_)) (λ_ r hq=>Jr (Jr hq)) λ_ _ e=>e)
 let⟨it,j,tn,J,H2,e,I2,T,Rf,f2,w⟩:=h2;subst e;refine xl (RR:=λN C=>compPost (Ä X.prog X.w) X.A X.xe (Z (assign (.Name y p) X.env)) (λ_ r=>SP X c D .next r) N C) NK be (λcl=>hg cl j) (λcl=>ht cl j) (λcl=>he cl j) I2 T Rf f2 PR RJ (P:=λv E=>D.nx (σ.set i (Z v)) E) w ?_;intro b_ C E r m' hL hz RB UP hC hn I' q;change wpAny _ X.A (assign (.Name y p) X.env (.ref b_)) _ _ r;refine wpAny_assign_Name (r8 (v:=.ref b_) I' hN hy a_ S (λSw M SH=>?_) U);let⟨a,sb,ha⟩:=SH
 have R:C≠a:=by
  rcases ha with z|z
  ·rw[z];show Kd hL
  ·show Kd (RB y a z)
 refine⟨m',hn.sameBut sb R,λh' SG=>?_⟩;show⟨_,E,M.turned (t':=Sw.toks) (λb o hb e=>(SG.2 b hb).trans e) hC (Kd hL) (.inr hz) RB UP,q⟩
end
open AutoSeq1 (wpAny_loadPart')
def Inv.turnedL{X:Cx}{a:Y (Addr×Õ)}{l:St}{H:Hp}{s:À}{h':Heap}{ch:Y Addr}{t':Nat}(I:Inv X a l H s)(k:∀b o,b∉ch->s.heap.get? b=Z o->h'.get? b=Z o)(g:∀b∈ch,ei X a H b) :
  Inv X a l H { s with heap:=h',toks:=t' }:=by
 have j:∀b u,H b=Z u->b∉ch:=λb u e z=>by rw[(g b z).1]at e;cases e
 refine I.step (g':=s.gens) (d':=s.drawn) (ch:=ch) (λb h=>⟨(g b h).2.2.2.1,(g b h).2.1,(g b h).2.2.2.2.1,(g b h).2.2.2.2.2⟩) (λb o _ _ f e _=>k b o f e) (λb o _ _ f e _=>⟨o.slots,k b o f e⟩) (λ_ _ _ _ n=>n)
  (λb o f e=>⟨o,k b o f e⟩) (λ_ _ e=>e) (λ_ _ _ e=>e) (λb ps e=>e) (λm w=>?_) (λb u e=>?_) I.bare
 ·let⟨o,es,p,x,r⟩:=w;show⟨o,es,p,k _ o (λz=>(g _ z).2.1 S) x,r⟩
 ·refine (I.hok b u e).stay (λc v f q=>k c v ?_ q) (λ_ q=>q) (λ_ _ q=>q) λ_ _ _ q=>q;rcases f with z|z
  ·rw[z];show j b u e
  ·show j c _ z
noncomputable def SqI(b:Bool)(h:Heap)(c a:Addr)(i:Nat):Prop:=match b with|true=>h.IsListIter c a i|false=>h.IsTupleIter c a i
noncomputable def SqO(b:Bool)(h:Heap)(a:Addr)(its:Array Value):Prop:=match b with|true=>h.IsList a its|false=>h.IsTuple a its
noncomputable def SqB(K:Â)(b:Bool)(H:Hp)(a:Addr)(xs:Y V):Prop:=match b with|true=>SqL K H a xs|false=>SqT K H a xs
noncomputable def cT(b:Bool)(a:Addr):Õ:=match b with
 |true=>{ cls:=.type "list_iterator",data:=.fields #[.ref a,.int 0 0] }
 |false=>{ cls:=.type "tuple_iterator",data:=.fields #[.ref a,.int 0 0] }
def SqI.at{b:Bool}{h h':Heap}{c a:Addr}{i:Nat}(x:SqI b h c a i)(k:∀o,h.get? c=Z o->h'.get? c=Z o):SqI b h' c a i:=by cases b<;>(let⟨o,e,r⟩:=x;show⟨o,k o e,r⟩)
def SqO.at{b:Bool}{h h':Heap}{a:Addr}{its:Array Value}(x:SqO b h a its)(k:∀o,h.get? a=Z o->h'.get? a=Z o):SqO b h' a its:=by cases b<;>(let⟨o,e,r⟩:=x;show⟨o,k o e,r⟩)
def SqI.obj{b:Bool}{h:Heap}{c a:Addr}{i:Nat}(x:SqI b h c a i):∃o,h.get? c=Z o/\∀v,o.data≠.cell v:=by cases b<;>(let⟨o,e,_,d⟩:=x;show⟨o,e,λv z=>by rw[d]at z;cases z⟩)
def SqI.lt{b:Bool}{h:Heap}{c a:Addr}{i:Nat}(x:SqI b h c a i):c<h.objs.size:=by let⟨o,e,_⟩:=x.obj;show Jx e
def SqO.lt{b:Bool}{h:Heap}{a:Addr}{its:Array Value}(x:SqO b h a its):a<h.objs.size:=by cases b<;>(let⟨o,e,_⟩:=x;show Jx e)
def Inv.sqb{X:Cx}{c:Y (Addr×Õ)}{g:St}{H:Hp}{s:À}{b:Bool}{a:Addr}{xs:Y V}(I:Inv X c g H s)(h:SqB X.K b H a xs):∃its:Y Value,Vals xs its/\SqO b s.heap a its.toArray/\xs.length<=sizeLine:=by
 cases b with
 |true=>let⟨its,f,p,e⟩:=I.list h;show⟨its,f,p.isList,e⟩
 |false=>let⟨its,f,p,e⟩:=I.tuple h;show⟨its,f,p,e⟩
def Inv.sqb_inj{X:Cx}{c:Y (Addr×Õ)}{e:St}{H:Hp}{s:À}{b:Bool}{a:Addr}{xs ys:Y V}(I:Inv X c e H s)(h:SqB X.K b H a xs)(h':SqB X.K b H a ys):xs=ys:=by
 cases b with
 |true=>show I.list_inj h h'
 |false=>show I.tuple_inj h h'
def SqB.same{K:Â}{b:Bool}{H c:Hp}{a:Addr}{xs:Y V}(e:Same H c)(h:SqB K b H a xs):SqB K b c a xs:=by
 cases b with
 |true=>show e.seq h
 |false=>
  rcases h with (h|⟨o,h⟩)|h
  ·show .inl (.inl (e _ _ h))
  ·show .inl (.inr ⟨o,e _ _ h⟩)
  ·show .inr h
section
variable{prog:Å}{w:È}{A:Ê}{E:Value->À->Prop}{s:À}
def ku{b:Bool}{a:Addr}{its:Array Value}{Q:Value->À->Prop}(h:SqO b s.heap a its)(q:Q (.ref s.heap.objs.size) { s with heap:=s.heap.push (cT b a) }):wpAny (Ä prog w) A (Ľ (.ref a)) Q E s:=by
 cases b with
 |true=>show L9 h q
 |false=>show Ln h q
def jw{b:Bool}{h:Heap}{c a:Addr}(e:h.get? c=Z (cT b a)):SqI b h c a 0:=by cases b<;>show⟨_,e,S,S⟩
def nt{b:Bool}{e a:Addr}{i:Nat}{its:Array Value}{x:Value}{Q:Value->À->Prop}(c:SqI b s.heap e a i)(h:SqO b s.heap a its)(j:its[i]?=Z x)
  (g:∀h',SqI b h' e a (i+1)->Heap.SameBut e s.heap h'->Q x { s with heap:=h' }):wpAny (Ä prog w) A (Builtin.SmallTypes.nextOf (.ref e)) Q E s:=by
 cases b with
 |true=>show wpAny_nextOf_list_item c h j g
 |false=>
  have c:s.heap.IsTupleIter e a i:=c;let⟨o,f,r,hd⟩:=id c;let⟨u,l,_,nl,p⟩:=h;unfold Builtin.SmallTypes.nextOf;refine Jb (Kr (name:=Str.ofString "__next__") c.typeIs Ld (K4 Ld c.typeIs MF ?_ (Mz _)));change wpAny _ _ (đ (.ref e) 0 >>= _) _ _ s;refine Jb (Kh f hd (x:=.ref a) S ?_);change wpAny _ _ (if (Value.ref a==Value.none)=ř then _ else _) _ _ s;rw[Jd (show ¬ ((Value.ref a==Value.none)=ř)from JO)];change wpAny _ _ (đ (.ref e) 1 >>= _) _ _ s;refine Jb (Kh f hd (x:=.int i 0) S ?_);change wpAny _ _ (seqItems? (.ref a) >>= _) _ _ s;refine Jb (K6 l p ?_);simp only[Km,j];refine Jb (wpAny_setField f hd (by simp) (Jr ⟨x,S,Jr (g _ ?_ (Heap.SameBut.update ..))⟩));show⟨_,Heap.get?_update_self _ f (Õ.isFreed_of_fields (Ĭ hd _)),(Õ.cls_mapFields ..).trans r,by rw[Ĭ hd];simp[ò]⟩
def lV{b:Bool}{f a:Addr}{i:Nat}{its:Array Value}{Q:Value->À->Prop}(g:A.handled=ŗ)(c:SqI b s.heap f a i)(l:SqO b s.heap a its)(p:its[i]?=ŗ)
  (j:∀h' e,Heap.ExtBut f s.heap h'->(∃o,h'.get? e=Z o/\o.cls=.type "StopIteration")->E (.ref e) { s with heap:=h' }):wpAny (Ä prog w) A (Builtin.SmallTypes.nextOf (.ref f)) Q E s:=by
 cases b with
 |true=>show wpAny_nextOf_list_end g c l p j
 |false=>
  have c:s.heap.IsTupleIter f a i:=c;let⟨o,h,v,hd⟩:=id c;let⟨y,r,_,nl,u⟩:=l;unfold Builtin.SmallTypes.nextOf;refine Jb (Kr (name:=Str.ofString "__next__") c.typeIs Ld (K4 Ld c.typeIs MF ?_ (Mz _)));change wpAny _ _ (đ (.ref f) 0 >>= _) _ _ s;refine Jb (Kh h hd (x:=.ref a) S ?_);change wpAny _ _ (if (Value.ref a==Value.none)=ř then _ else _) _ _ s;rw[Jd (show ¬ ((Value.ref a==Value.none)=ř)from JO)];change wpAny _ _ (đ (.ref f) 1 >>= _) _ _ s;refine Jb (Kh h hd (x:=.int i 0) S ?_);change wpAny _ _ (seqItems? (.ref a) >>= _) _ _ s;refine Jb (K6 r u ?_);simp only[Km,p];refine Jb (ď (Jb (wpAny_setField h hd (by simp) ?_)));change wpAny _ _ (newExc (.type "StopIteration") [] >>= _) _ _ _;refine Jb ?_;simp only[newExc,newTuple];refine Jb (K1 ?_ (by size_fits));refine Jb (m:=firstArgMember _ _) (wpAny_of_eq (a:=Value.none) (by first|rfl|(simp only[firstArgMember];rfl)) ?_);refine K1 ?_ (by size_fits);simp only[raiseNew];refine Jb (wpAny_handled ?_)
  first|rw[show A.in1.handled=ŗ from g]|rw[g]
  refine Jb (Jr (wpAny_throw ?_));show j _ _ (((Heap.SameBut.update ..).extBut.push _).push _) ⟨_,Jq _ S,S⟩
def Et(l:A.handled=ŗ)(b:Bool)(c a:Addr)(f:a≠c)(its:Array Value):Draws prog w A c [c,a] its.size (λi v=>its[i]?=Z v) (λi h=>SqI b h c a i/\SqO b h a its) where
 live:=λ_ _ st=>let ⟨o,e,_⟩:=st.1.obj;⟨o,e⟩
 frame:=λ_ _ _ st k=>⟨st.1.at λo e=>k c (by simp) o e,st.2.at λo e=>k a (by simp) o e⟩
 item:=λi s Q E hi st j=>nt st.1 st.2 (x:=its[i]) (by simp[hi]) λh' q sb=>j _ h' s.toks (by simp[hi]) ⟨q,st.2.at λo e=>(sb.2 a f).trans e⟩ sb
 done:=λs Q E st g=>lV l st.1 st.2 (by simp) g
def Iw(l:Addr)(a:Array Value)(n:Nat)(dct:Ř Addr)(sl:Array (Ř Value)) :
  Ō (Builtin.«enumerate.__new__» ⟨[.type "enumerate",.ref l],[]⟩) (λ_ R s=>s.heap.get? l=Z { cls:=.type "tuple",dict:=dct,data:=.seq a n,slots:=sl } /\
   R (.ok (.ret (.ref (s.heap.push (cT Ś l)).objs.size)))
    { s with heap:=(s.heap.push (cT Ś l)).push { cls:=.type "enumerate",data:=.fields #[.none,.bool Ś,.ref s.heap.objs.size,ò 0,.none,.none] } }):=
 .of_wp λprog w A R s h=>by
  let⟨j,g,d,o,os⟩:=s;let⟨e,h⟩:=h;have p:=sub_enumerate;have f:Heap.IsTuple (ċ ⟨j,g,d,o,os⟩) l a:=⟨_,e,S,n,S⟩
  wp_walk using J8 e
  refine wpAny_stack_any λst=>Jr ?_;split
  ·rename_i c _ _ _ _ _;cases (c==Value.type "enumerate")
   ·(wp_walk using J8 e,Ln f);show⟨_,S,h⟩
   ·(wp_walk using J8 e,Ln f);show⟨_,S,h⟩
  ·(wp_walk using J8 e,Ln f);show⟨_,S,h⟩
def D3{b:Bool}{l:Addr}{a:Array Value}{Q:Value->À->Prop}(j:SqO b s.heap l a)
  (h:∀h',IsEnum h' (s.heap.objs.size+1) s.heap.objs.size 0 .none->SqI b h' s.heap.objs.size l 0->h'.objs.size=s.heap.objs.size+2->(∀b o,s.heap.get? b=Z o->h'.get? b=Z o)->Q (.ref (s.heap.objs.size+1)) { s with heap:=h' }) :
  wpAny (Ä prog w) A (call (.type "enumerate") [.ref l]) Q E s:=by
 cases b with
 |true=>show call_enumerate_list j h
 |false=>
  let⟨⟨c,dct,p,sl⟩,r,e,n,hd⟩:=j;replace e:c=.type "tuple":=e;replace hd:p=.seq a n:=hd;subst e hd;refine callType_new F.called_enumerate 'b' (F.typeCall_enumerate_1 _) (F.newCall_enumerate_1 _) (λobj=>F.args_object_init_2 obj _) F.entry_enumerate_new (Iw l a n dct sl) ⟨r,?_⟩;have g:(s.heap.push (cT Ś l)).objs.size=s.heap.objs.size+1:=J0 ..;change _/\_;rw[g];have f:=Jq (s.heap.push (cT Ś l)) (o:={ cls:=.type "enumerate",data:=.fields #[.none,.bool Ś,.ref s.heap.objs.size,ò 0,.none,.none] }) S;rw[g]at f;have hi:(s.heap.push (cT Ś l)).get? s.heap.objs.size=Z (cT Ś l):=Jq _ S;show⟨⟨_,f,S⟩,h _ f (jw (Jf _ hi)) (by rw[J0,g]) λb o x=>Jf _ (Jf _ x)⟩
def Dp{b:Bool}{e c a:Addr}{i:Nat}{j:Int}{its:Array Value}{h:Value}{Q:Ř Value->À->Prop}(y:A.handled=ŗ)(p:IsEnum s.heap e c j h)(g:SqI b s.heap c a i)(z:SqO b s.heap a its)(C:its[i]?=ŗ)
  (u:∀h',Heap.ExtBut c s.heap h'->Q ŗ { s with heap:=h' }):wpAny (Ä prog w) A (ó (.ref e)) Q E s:=by
 have l:s.TypeIs (.ref e) "enumerate":=⟨_,p,S⟩;unfold ó;refine Jb (ė (Kr (name:=Str.ofString "__next__") l F.slot_enumerate_next (K4 F.slot_enumerate_next l F.entry_enumerate_next ?_ (F.args_enumerate_next_1 _))));change wpAny _ _ (đ (.ref e) 2 >>= _) _ _ _;refine Jb (Kh p S (x:=.ref c) S (Jb (lV y g z C λh' x f r=>?_)));let⟨o,B,v⟩:=r;show Jb (Ŏ (T:="StopIteration") (b:=ř) ⟨o,B,v⟩ isSubtype_stop (Jr (u _ f)))
end
noncomputable def ox(K:Â)(b:Bool)(a:Addr):It:=
 ⟨λi H=>∃xs x,SqB K b H a xs/\xs[i]?=Z x,λi H x c=>∃t y,H t=ŗ/\x=.ref t/\c=ao H t (.tup [.int i,y])/\∀xs,SqB K b H a xs->xs[i]?=Z y,λi H=>∃xs,SqB K b H a xs/\xs.length<=i⟩
def zm{P:Å}{w:È}{K:Â}{es:Y Ã}{k:Nat}{pos:Ö}(b:Bool)(a e j:Addr)(L:e≠j):Turn P w K (.Tuple es k pos) (ox K b a) [e,j] e (λi h=>(∃g,IsEnum h e j i g)/\SqI b h j a i) where
 mem:=by simp
 obj:=λi h st c f=>by
  let⟨⟨g,l⟩,A⟩:=st;rcases Jt.mp f with rfl|f
  ·show⟨_,l,λv z=>by have z':û _=ï v:=z;cases z'⟩
  ·rw[Jk.mp f];show A.obj
 keep:=λi h h' st k=>by let⟨⟨g,l⟩,A⟩:=st;show⟨⟨g,k e (by simp) _ l⟩,A.at λo q=>k j (by simp) o q⟩
 item:=by
  intro X R U Q f i r s σ H E I G st T;subst R U Q;let⟨xs,x,J,a_⟩:=T;let⟨⟨g,l⟩,A⟩:=st;let⟨its,rv,p,hz⟩:=I.sqb J;let⟨u,hu,ru⟩:=rv.get a_
  have NT:a≠j:=λz=>by
   subst z
   have N:=p;have O:=A
   cases b<;>(let⟨o1,F,M,_⟩:=N;let⟨o2,e2,c2,_⟩:=O;rw[F]at e2;cases e2;rw[M]at c2;show absurd c2 (by simp))
  have UU:a≠e:=λz=>by
   subst z;have N:=p;cases b<;>(let⟨o1,F,M,_⟩:=N;rw[l]at F;cases F;show absurd M (by simp))
  have PZ:i<its.toArray.size:=by have:i<its.length:=(J7.mp hu).1;simpa using this
  have hh:X.A.in1.handled=ŗ:=I.ok.hd f;refine wpAny_pyNext_enum_itemD (Et hh b j a NT its.toArray) l ⟨A,p⟩ PZ L (by simp[L,Kd UU]) λy h' C B ho Ob hT hsz hk=>?_
  have b_:y=u:=by
   have:its.toArray[i]?=Z u:=by simpa using hu
   rw[this]at B;show (JJ B).symm
  subst b_;refine⟨.ref s.heap.objs.size,S,wpAny_letOwnedTupleGo_enum ho λO T6 Ot=>?_⟩;have zn:H s.heap.objs.size=ŗ:=I.fresh
  have I1:Inv X r σ (ao H s.heap.objs.size (.tup [.int i,x])) { s with heap:=s.heap.push { cls:=.type "tuple",data:=.seq #[.int i C,y] },toks:=C }:=
   I.laid (λc o q=>Jf _ q) (Jg _) ⟨by change 2<=sizeLine;decide,[.int i C,y],.cons ⟨C,S⟩ (.cons ru .nil),_,Jq _ S,⟨S,S⟩,0,S⟩
  have UW:∀c∈[e,j],c<s.heap.objs.size:=λc f=>by
   rcases Jt.mp f with rfl|f
   ·show Jx l
   ·rw[Jk.mp f];show A.lt
  have f1:∀c∈[e,j],ei X r (ao H s.heap.objs.size (.tup [.int i,x])) c:=λc f=>⟨by rw[aR (JN (UW c f))];show (G c f).1,(G c f).2⟩;have I2:=I1.turnedL (h':=O) (ch:=[e,j]) (t':=C+1) (λc o f q=>?_) f1
  ·refine⟨.ref s.heap.objs.size,_,I2,S,⟨s.heap.objs.size,x,zn,S,S,λys b_=>by rw[I.sqb_inj b_ J];show a_⟩,⟨⟨_,by simpa using T6⟩,Ob.1.at λo q=>(Ot.2 j (Kd L)).trans q⟩,λc f=>(f1 c f).1⟩
  ·have Rh:c≠e:=λz=>f (by simp[z]);have be:c≠j:=λz=>f (by simp[z]);refine (Ot.2 c Rh).trans ?_;rcases Heap.get?_push_cases q with⟨z,z'⟩|q'
   ·subst z;subst z';show hT
   ·show hk c o Rh be q'
 done:=by
  intro X R U Q f i r s σ H E I G st T;subst R U Q;let⟨xs,J,a_⟩:=T;let⟨⟨g,l⟩,A⟩:=st;let⟨its,rv,p,hz⟩:=I.sqb J;have hl:=rv.length;refine Dp (I.ok.hd f) l A p (by simp;omega) λh' eb=>⟨S,?_⟩;show I.turnedL (ch:=[e,j]) (t':=s.toks) (λc o f q=>eb c o (λz=>f (by simp[z])) q) G
 self:=λ_ _ _ _ _ st h=>by let⟨⟨g,l⟩,_⟩:=st;show Ň l h
end L2
namespace L2
open PySem PySem.Spec PyProof.Rows
open AutoSeq1 (wpAny_loadPart')
structure ZAp(z TI TO i1 i2:Addr):Prop where
 a1:TI≠z
 a2:TO≠z
 a3:i1≠z
 a4:i2≠z
 a5:TI≠TO
 a6:TI≠i1
 a7:TI≠i2
 a8:TO≠i1
 a9:TO≠i2
 a0:i1≠i2
def SqI.but{b:Bool}{h h':Heap}{f a c:Addr}{i:Nat}(x:SqI b h f a i)(s:Heap.SameBut c h h')(n:f≠c):SqI b h' f a i:=x.at λo e=>(s.2 f n).trans e
def SqO.but{b:Bool}{h h':Heap}{a c:Addr}{its:Array Value}(x:SqO b h a its)(s:Heap.SameBut c h h')(n:a≠c):SqO b h' a its:=x.at λo e=>(s.2 a n).trans e
def SqO.ne{b:Bool}{h:Heap}{a c:Addr}{its:Array Value}{o:Õ}(x:SqO b h a its)(e:h.get? c=Z o)(n1:o.cls≠.type "list")(n2:o.cls≠.type "tuple"):a≠c:=λz=>by
 subst z;cases b<;>(let⟨o',g,f,_⟩:=x;rw[e]at g;cases g)
 ·show n2 f
 ·show n1 f
def SqO.ne_it{b f:Bool}{h:Heap}{a g l:Addr}{its:Array Value}{i:Nat}(x:SqO b h a its)(y:SqI f h g l i):a≠g:=by cases f<;>(let⟨o,e,c,_⟩:=y;show x.ne e (by rw[c];simp) (by rw[c];simp))
section
variable{prog:Å}{w:È}{A:Ê}{E:Value->À->Prop}{s:À}
def mv{c z t a b:Addr}(h:c∉[z,t,a,b]):c≠z/\c≠t/\c≠a/\c≠b:=by simpa using h
def kT(z t u a b:Addr):z∈[z,t,u,a,b]/\t∈[z,t,u,a,b]/\u∈[z,t,u,a,b]/\a∈[z,t,u,a,b]/\b∈[z,t,u,a,b]:=by simp
def vB{z t u a b x:Addr}(h:x∈[z,u,a,b]):x∈[z,t,u,a,b]:=(List.Sublist.cons₂ z (.cons t (.refl _))).subset h
def Hm{I J:Bool}{z TI TO g h r l:Addr}{M N:Nat}{xs ys:Array Value}{x y a b:Value}{Q:Value->À->Prop}(D:ZAp z TI TO g h)
  (j:ç s.heap z TI TO .none) (RK:Ó s.heap TI (.ref g) (.ref h)) (RL:Ó s.heap TO a b) (n1:r≠TO) (n2:l≠TO)
  (h1:SqI I s.heap g r M) (h2:SqI J s.heap h l N) (OY:SqO I s.heap r xs) (R:SqO J s.heap l ys) (hx:xs[M]?=Z x) (hy:ys[N]?=Z y)
  (hQ:∀h',ç h' z TI TO (ò s.heap.objs.size)->Ó h' TO x y->SqI I h' g r (M+1)->SqI J h' h l (N+1)->Ó h' s.heap.objs.size x y->h'.objs.size=s.heap.objs.size+1->
   (∀c o,c∉[z,TO,g,h]->s.heap.get? c=Z o->h'.get? c=Z o)->Q (.ref s.heap.objs.size) { s with heap:=h' }) :
  wpAny (Ä prog w) A (Builtin.«zip.__next__» ⟨[.ref z],[]⟩) (λbe s'=>∃v,be=.done (.ret v)/\Q v s') E s:=by
 have T:r≠z:=OY.ne j (by simp) (by simp);have U:l≠z:=R.ne j (by simp) (by simp);have F:l≠g:=R.ne_it h1;change wpAny _ _ (đ (.ref z) 2 >>= _) _ _ _;refine Jb (Kh j S (x:=.bool Ś) S ?_);change wpAny _ _ (đ (.ref z) 3 >>= _) _ _ _;refine Jb (Kh j S (x:=.ref TI) S (Jb (K6 RK S ?_)));change wpAny _ _ (Builtin.SmallTypes.ownedTupleIsFree (.ref z) >>= _) _ _ _;refine Jb ?_;unfold Builtin.SmallTypes.ownedTupleIsFree;refine Jb (Kh j S (x:=.none) S (Jr ?_));simp only[L4];refine Jb (ď (Jb (Kh j S (x:=.ref TO) S (Jb (K9 j (by simp) λg1 z1 p=>?_)))));replace z1:ç g1 z TI TO .ellipsis:=z1;refine Jb ?_;simp only[List.zipIdx_cons,List.zipIdx_nil,Ms,Nd];refine Jb (Jb (ML ?_));change wpAny _ _ (Builtin.SmallTypes.nextOf (.ref g) >>= _) _ _ _;refine Jb (nt (h1.but p D.a3) (OY.but p T) hx λg2 p2 u=>Jr ?_);have t2:Ó g2 TO a b:=u.extBut _ _ D.a8 (p.extBut _ _ D.a2 RL);refine Jb (K6 t2 S (Jb (Mt t2 λg3 b_ B=>Jb (ĵ (Jr ?_)))));replace b_:Ó g3 TO x b:=b_;refine Jb (Jb (ML ?_));change wpAny _ _ (Builtin.SmallTypes.nextOf (.ref h) >>= _) _ _ _;refine Jb (nt (((h2.but p D.a4).but u D.a0.symm).but B D.a9.symm) (((R.but p U).but u F).but B n2) hy λg4 p4 G=>Jr ?_);have t4:Ó g4 TO x b:=G.extBut _ _ D.a9 b_;refine Jb (K6 t4 S (Jb (Mt t4 λf O H=>Jb (ĵ (Jr (Jr ?_))))));replace O:Ó f TO x y:=O;refine Jb (K6 O S (Jb (wpAny_newTuple ?_)))
 have sz:f.objs.size=s.heap.objs.size:=by rw[H.1,G.1,B.1,u.1,p.1]
 have z5:ç f z TI TO .ellipsis:=H.extBut _ _ D.a2.symm (G.extBut _ _ D.a4.symm (B.extBut _ _ D.a2.symm (u.extBut _ _ D.a3.symm z1)))
 have k5:∀c o,c∉[z,TO,g,h]->s.heap.get? c=Z o->f.get? c=Z o:=λc o L e=>by let⟨K,c2,c3,c4⟩:=mv L;show H.extBut _ _ c2 (G.extBut _ _ c4 (B.extBut _ _ c2 (u.extBut _ _ c3 (p.extBut _ _ K e))))
 have q1:SqI I f g r (M+1):=((p2.but B D.a8.symm).but G D.a0).but H D.a8.symm;have q2:SqI J f h l (N+1):=p4.but H D.a9.symm;change wpAny _ _ (Builtin.SmallTypes.ownedTupleHandOut (.ref z) (.ref f.objs.size) >>= _) _ _ _;refine Jb ?_;unfold Builtin.SmallTypes.ownedTupleHandOut;have z6:ç (f.push { cls:=.type "tuple",data:=.seq #[x,y] }) z TI TO .ellipsis:=Jf _ z5;refine Jb (K9 z6 (by simp) λg7 z7 X=>?_);replace z7:ç g7 z TI TO (ò f.objs.size):=z7;refine K9 z7 (by simp) λC P a_=>?_;replace P:ç C z TI TO (ò f.objs.size):=P;have up:∀c o,c≠z->f.get? c=Z o->C.get? c=Z o:=λc o K e=>a_.extBut _ _ K (X.extBut _ _ K (Jf _ e));have zl:f.objs.size≠z:=Np (Jx z5);have t8:Ó C f.objs.size x y:=a_.extBut _ _ zl (X.extBut _ _ zl (Jq _ S))
 have e8:C.objs.size=f.objs.size+1:=by rw[a_.1,X.1,J0]
 rw[sz]at P t8 e8;refine Jr ⟨_,S,?_⟩;change Q (.ref f.objs.size) _;rw[sz];show hQ C P (up _ _ D.a2 O) (q1.at λo e=>up _ o D.a3 e) (q2.at λo e=>up _ o D.a4 e) t8 e8 λc o L e=>up c o (mv L).1 (k5 c o L e)
def Gw{a_ b_:Bool}{z TI TO r y G C:Addr}{be T:Nat}{xs ys:Array Value}{a b:Value}{Q:Fin->À->Prop}(hh:A.handled=ŗ)(D:ZAp z TI TO r y)
  (l:ç s.heap z TI TO .none) (RK:Ó s.heap TI (.ref r) (.ref y)) (RL:Ó s.heap TO a b) (n1:G≠TO) (n2:C≠TO)
  (N:SqI a_ s.heap r G be) (h2:SqI b_ s.heap y C T) (J:SqO a_ s.heap G xs) (I:SqO b_ s.heap C ys) (ON:xs[be]?=ŗ\/ys[T]?=ŗ)
  (hE:∀h' e,(∀c o,c∉[z,TO,r,y]->s.heap.get? c=Z o->h'.get? c=Z o)->(∃o,h'.get? e=Z o/\o.cls=.type "StopIteration")->E (.ref e) { s with heap:=h' }) :
  wpAny (Ä prog w) A (Builtin.«zip.__next__» ⟨[.ref z],[]⟩) Q E s:=by
 have B:G≠z:=J.ne l (by simp) (by simp);have U:C≠z:=I.ne l (by simp) (by simp);have F:C≠r:=I.ne_it N;change wpAny _ _ (đ (.ref z) 2 >>= _) _ _ _;refine Jb (Kh l S (x:=.bool Ś) S ?_);change wpAny _ _ (đ (.ref z) 3 >>= _) _ _ _;refine Jb (Kh l S (x:=.ref TI) S (Jb (K6 RK S ?_)));change wpAny _ _ (Builtin.SmallTypes.ownedTupleIsFree (.ref z) >>= _) _ _ _;refine Jb ?_;unfold Builtin.SmallTypes.ownedTupleIsFree;refine Jb (Kh l S (x:=.none) S (Jr ?_));simp only[L4];refine Jb (ď (Jb (Kh l S (x:=.ref TO) S (Jb (K9 l (by simp) λg1 H f=>?_)))));replace H:ç g1 z TI TO .ellipsis:=H;refine Jb ?_;simp only[List.zipIdx_cons,List.zipIdx_nil,Ms,Nd];refine Jb (Jb (ML ?_));change wpAny _ _ (Builtin.SmallTypes.nextOf (.ref r) >>= _) _ _ _
 cases R:xs[be]? with
 |none=>
  refine Jb (lV hh (N.but f D.a3) (J.but f B) R λM e g P=>?_);let⟨X,j,u⟩:=P;have z2:ç M z TI TO .ellipsis:=g _ _ D.a3.symm H
  have L:e≠z:=λq=>by subst q;rw[z2]at j;cases j;simp at u
  refine K9 z2 (by simp) λg3 _ p=>hE g3 e (λc o O q=>?_) ⟨X,p.extBut _ _ L j,u⟩;let⟨v,c2,K,c4⟩:=mv O;show p.extBut _ _ v (g _ _ K (f.extBut _ _ v q))
 |some x=>
  have hy:ys[T]?=ŗ:=by
   rcases ON with h|h
   ·rw[R]at h;cases h
   ·show h
  refine Jb (nt (N.but f D.a3) (J.but f B) R λM p2 g=>Jr ?_);have t2:Ó M TO a b:=g.extBut _ _ D.a8 (f.extBut _ _ D.a2 RL);refine Jb (K6 t2 S (Jb (Mt t2 λg3 t3 p=>Jb (ĵ (Jr ?_)))));refine Jb (Jb (ML ?_));change wpAny _ _ (Builtin.SmallTypes.nextOf (.ref y) >>= _) _ _ _;refine Jb (lV hh (((h2.but f D.a4).but g D.a0.symm).but p D.a9.symm) (((I.but f U).but g F).but p n2) hy λg4 e s4 P=>?_);let⟨X,j,u⟩:=P;have z4:ç g4 z TI TO .ellipsis:=s4 _ _ D.a4.symm (p.extBut _ _ D.a2.symm (g.extBut _ _ D.a3.symm H))
  have L:e≠z:=λq=>by subst q;rw[z4]at j;cases j;simp at u
  refine K9 z4 (by simp) λg5 _ s5=>hE g5 e (λc o O q=>?_) ⟨X,s5.extBut _ _ L j,u⟩;let⟨v,c2,K,c4⟩:=mv O;show s5.extBut _ _ v (s4 _ _ c4 (p.extBut _ _ c2 (g.extBut _ _ K (f.extBut _ _ v q))))
def BT(c l:Bool)(a j:Addr)(xs ys:Array Value) :
  Ō (Builtin.«zip.__new__» ⟨[.type "zip",.ref a,.ref j],[]⟩) (λ_ R s=>SqO c s.heap a xs/\SqO l s.heap j ys /\
   R (.ok (.ret (.ref (s.heap.objs.size+4)))) { s with heap:=((((s.heap.push (cT c a)).push (cT l j)).push { cls:=.type "tuple",data:=.seq #[.ref s.heap.objs.size,.ref (s.heap.objs.size+1)] }).push { cls:=.type "tuple",data:=.seq #[.none,.none] }).push { cls:=.type "zip",data:=.fields #[.none,.bool Ś,.bool Ś,.ref (s.heap.objs.size+2),.ref (s.heap.objs.size+3)] } }):=
 .of_wp λprog w A R s h=>by
  let⟨f,g,d,u,os⟩:=s;let⟨x,v,h⟩:=h;have z:=sub_zip;have p:SqO c (ċ ⟨f,g,d,u,os⟩) a xs:=x;have r:SqO l (ċ ⟨f.push (cT c a),g,d,u,os⟩) j ys:=SqO.at v λo e=>Jf _ e
  wp_walk using ku p,ku r
  have y:(f.push (cT c a)).objs.size=f.objs.size+1:=J0 ..
  have B:((f.push (cT c a)).push (cT l j)).objs.size=f.objs.size+2:=by rw[J0,y]
  refine⟨_,S,?_⟩;simp only[J0];show h
def D2{a f:Bool}{e g:Addr}{xs ys:Array Value}{Q:Value->À->Prop}(L:SqO a s.heap e xs)(K:SqO f s.heap g ys)
  (h:∀h',ç h' (s.heap.objs.size+4) (s.heap.objs.size+2) (s.heap.objs.size+3) .none->Ó h' (s.heap.objs.size+2) (.ref s.heap.objs.size) (.ref (s.heap.objs.size+1))->Ó h' (s.heap.objs.size+3) .none .none->
   SqI a h' s.heap.objs.size e 0->SqI f h' (s.heap.objs.size+1) g 0->(∀c o,s.heap.get? c=Z o->h'.get? c=Z o)->Q (.ref (s.heap.objs.size+4)) { s with heap:=h' }) :
  wpAny (Ä prog w) A (call (.type "zip") [.ref e,.ref g]) Q E s:=by
 refine callType_new F.called_zip 'b' (F.typeCall_zip_2 _ _) (F.newCall_zip_2 _ _) (λobj=>F.args_object_init_3 obj _ _) F.entry_zip_new (BT a f e g xs ys) ⟨L,K,?_⟩
 have R:(cT a e).isFreed=Ś:=by cases a<;>rfl
 have a_:(cT f g).isFreed=Ś:=by cases f<;>rfl
 have I:(s.heap.push (cT a e)).objs.size=s.heap.objs.size+1:=J0 ..
 have C:((s.heap.push (cT a e)).push (cT f g)).objs.size=s.heap.objs.size+2:=by rw[J0,I]
 generalize x:(s.heap.push (cT a e)).push (cT f g)=j at C ⊢
 have M:j.get? s.heap.objs.size=Z (cT a e):=by rw[←x];show Jf _ (Jq _ R)
 have N:j.get? (s.heap.objs.size+1)=Z (cT f g):=by rw[←x,←I];show Jq _ a_
 have T:∀c o,s.heap.get? c=Z o->j.get? c=Z o:=λc o q=>by rw[←x];show Jf _ (Jf _ q)
 generalize y:j.push { cls:=.type "tuple",data:=.seq #[.ref s.heap.objs.size,.ref (s.heap.objs.size+1)] }=l
 have J:l.objs.size=s.heap.objs.size+3:=by rw[←y,J0,C]
 have O:Ó l (s.heap.objs.size+2) (.ref s.heap.objs.size) (.ref (s.heap.objs.size+1)):=by rw[←y,←C];show Jq _ S
 have B:∀c o,j.get? c=Z o->l.get? c=Z o:=λc o q=>by rw[←y];show Jf _ q
 generalize z:l.push { cls:=.type "tuple",data:=.seq #[.none,.none] }=p
 have U:p.objs.size=s.heap.objs.size+4:=by rw[←z,J0,J]
 have P:Ó p (s.heap.objs.size+3) .none .none:=by rw[←z,←J];show Jq _ S
 have v:∀c o,l.get? c=Z o->p.get? c=Z o:=λc o q=>by rw[←z];show Jf _ q
 generalize r:p.push { cls:=.type "zip",data:=.fields #[.none,.bool Ś,.bool Ś,.ref (s.heap.objs.size+2),.ref (s.heap.objs.size+3)] }=H
 have G:ç H (s.heap.objs.size+4) (s.heap.objs.size+2) (s.heap.objs.size+3) .none:=by rw[←r,←U];show Jq _ S
 have u:∀c o,p.get? c=Z o->H.get? c=Z o:=λc o q=>by rw[←r];show Jf _ q
 change _/\_;show⟨⟨_,G,S⟩,h _ G (u _ _ (v _ _ O)) (u _ _ P) (jw (u _ _ (v _ _ (B _ _ M)))) (jw (u _ _ (v _ _ (B _ _ N)))) λc o q=>u _ _ (v _ _ (B _ _ (T _ _ q)))⟩
def ET{j l:Bool}{z TI TO e f g h:Addr}{p r:Nat}{xs ys:Array Value}{x y a b:Value}{Q:Ř Value->À->Prop}(D:ZAp z TI TO e f)
  (v:ç s.heap z TI TO .none) (G:Ó s.heap TI (.ref e) (.ref f)) (H:Ó s.heap TO a b) (n1:g≠TO) (n2:h≠TO)
  (P:SqI j s.heap e g p) (R:SqI l s.heap f h r) (C:SqO j s.heap g xs) (B:SqO l s.heap h ys) (T:xs[p]?=Z x) (U:ys[r]?=Z y)
  (a_:∀h',ç h' z TI TO (ò s.heap.objs.size)->Ó h' TO x y->SqI j h' e g (p+1)->SqI l h' f h (r+1)->Ó h' s.heap.objs.size x y->h'.objs.size=s.heap.objs.size+1->
   (∀c o,c∉[z,TO,e,f]->s.heap.get? c=Z o->h'.get? c=Z o)->Q (Z (.ref s.heap.objs.size)) { s with heap:=h' }):wpAny (Ä prog w) A (ó (.ref z)) Q E s:=by
 have u:s.TypeIs (.ref z) "zip":=⟨_,v,S⟩;unfold ó
 show Jb (ė (Kr (name:=Str.ofString "__next__") u Mu (K4 Mu u F.entry_zip_next
  (Hm D v G H n1 n2 P R C B T U λh' I J K L M N O=>Jr (a_ h' I J K L M N O)) (F.args_zip_next_1 _))))
def DJ{l p:Bool}{z TI TO f g h j:Addr}{v x:Nat}{xs ys:Array Value}{a b:Value}{Q:Ř Value->À->Prop}(N:A.handled=ŗ)(D:ZAp z TI TO f g)
  (u:ç s.heap z TI TO .none) (G:Ó s.heap TI (.ref f) (.ref g)) (H:Ó s.heap TO a b) (n1:h≠TO) (n2:j≠TO)
  (I:SqI l s.heap f h v) (J:SqI p s.heap g j x) (C:SqO l s.heap h xs) (y:SqO p s.heap j ys) (B:xs[v]?=ŗ\/ys[x]?=ŗ)
  (K:∀h',(∀c o,c∉[z,TO,f,g]->s.heap.get? c=Z o->h'.get? c=Z o)->Q ŗ { s with heap:=h' }):wpAny (Ä prog w) A (ó (.ref z)) Q E s:=by
 have r:s.TypeIs (.ref z) "zip":=⟨_,u,S⟩;unfold ó;refine Jb (ė (Kr (name:=Str.ofString "__next__") r Mu (K4 Mu r F.entry_zip_next (Gw N D u G H n1 n2 I J C y B λh' e O M=>?_) (F.args_zip_next_1 _))));let⟨o,P,L⟩:=M;show Jb (Ŏ (T:="StopIteration") (b:=ř) ⟨o,P,L⟩ isSubtype_stop (Jr (K _ O)))
end
def Inv.sqb_ne{X:Cx}{g:Y (Addr×Õ)}{p:St}{H:Hp}{s:À}{b:Bool}{a c:Addr}{xs:Y V}(I:Inv X g p H s)(h:SqB X.K b H a xs)(f:ei X g H c):a≠c:=λz=>by
 subst z
 have l:∀o,X.K.lookup a=Z o->False:=λo e=>by
  have j:=I.mod.kin a o e;rcases f.2.2.2.1 with q|q
  ·show I.ok.noex a o j q
  ·show absurd (JR (Jx j) (JC I.ok.bsz q)) (KH _)
 cases b with
 |true=>
  rcases h with (h|⟨o,h⟩)|⟨o,_,_,h,_⟩
  ·rw[f.1]at h;cases h
  ·rw[f.1]at h;cases h
  ·show l o h
 |false=>
  rcases h with (h|⟨o,h⟩)|⟨o,_,_,h,_⟩
  ·rw[f.1]at h;cases h
  ·rw[f.1]at h;cases h
  ·show l o h
noncomputable def qi(K:Â)(a:Bool)(a1:Addr)(c:Bool)(a2:Addr):It:=
 ⟨λi H=> ∃xs ys x y, SqB K a H a1 xs /\ SqB K c H a2 ys /\ xs[i]? = Z x /\ ys[i]? = Z y,
  λi H v e=> ∃t x y, H t = ŗ /\ v = .ref t /\ e = ao H t (.tup [x, y]) /\ (∀xs, SqB K a H a1 xs-> xs[i]? = Z x) /\ ∀ys, SqB K c H a2 ys-> ys[i]? = Z y,
  λi H=> ∃xs ys, SqB K a H a1 xs /\ SqB K c H a2 ys /\ (xs.length <= i \/ ys.length <= i)⟩
def DF{P:Å}{w:È}{K:Â}{es:Y Ã}{k:Nat}{pos:Ö}(b1 b2:Bool)(a1 a2 z TI TO g j:Addr)(D:ZAp z TI TO g j) :
  Turn P w K (.Tuple es k pos) (qi K b1 a1 b2 a2) [z,TI,TO,g,j] z (λi h=>ç h z TI TO .none/\Ó h TI (.ref g) (.ref j)/\(∃a b,Ó h TO a b)/\SqI b1 h g a1 i/\SqI b2 h j a2 i) where
 mem:=Ji
 obj:=λi h st c f=>by
  let⟨r,p,⟨a,b,A⟩,B,C⟩:=st;simp only[Jt,K7,or_false]at f;rcases f with rfl|rfl|rfl|rfl|rfl
  ·show⟨_,r,λv q=>by have G:û _=ï v:=q;cases G⟩
  ·show⟨_,p,λv q=>by have G:ù _ _=ï v:=q;cases G⟩
  ·show⟨_,A,λv q=>by have G:ù _ _=ï v:=q;cases G⟩
  ·show B.obj
  ·show C.obj
 keep:=λi h h' st k=>by
  let⟨r,p,⟨a,b,A⟩,B,C⟩:=st;have M:=kT z TI TO g j;show⟨k z M.1 _ r,k TI M.2.1 _ p,⟨a,b,k TO M.2.2.1 _ A⟩,B.at λo q=>k g M.2.2.2.1 o q,C.at λo q=>k j M.2.2.2.2 o q⟩
 item:=by
  intro X U hw T f i l s σ H E I F st b_;subst U hw T;let⟨xs,ys,x,y,J,L,hx,hy⟩:=b_;let⟨r,p,⟨a,b,A⟩,B,C⟩:=st;let⟨RO,R,p1,_⟩:=I.sqb J;let⟨Oz,be,p2,_⟩:=I.sqb L;let⟨u,hu,ru⟩:=R.get hx;let⟨v,hv,rv⟩:=be.get hy;refine ET D r p A (I.sqb_ne J (F TO (kT z TI TO g j).2.2.1)) (I.sqb_ne L (F TO (kT z TI TO g j).2.2.1)) B C p1 p2 (x:=u) (y:=v) (by simpa using hu) (by simpa using hv) λh' z1 z2 z3 z4 z5 z6 O=>?_;refine⟨.ref s.heap.objs.size,S,wpAny_letOwnedTupleGo_zip z1 λg2 zz N=>?_⟩;have zn:H s.heap.objs.size=ŗ:=I.fresh
  have I1:Inv X l σ (ao H s.heap.objs.size (.tup [x,y])) { s with heap:=s.heap.push { cls:=.type "tuple",data:=.seq #[u,v] },toks:=s.toks }:=
   I.laid (λc o q=>Jf _ q) (Jg _) ⟨by change 2<=sizeLine;decide,[u,v],.cons ru (.cons rv .nil),_,Jq _ S,⟨S,S⟩,0,S⟩
  have UW:∀c∈[z,TI,TO,g,j],c<s.heap.objs.size:=λc f=>by
   simp only[Jt,K7,or_false]at f;rcases f with rfl|rfl|rfl|rfl|rfl
   ·show Jx r
   ·show Jx p
   ·show Jx A
   ·show B.lt
   ·show C.lt
  have f1:∀c∈[z,TI,TO,g,j],ei X l (ao H s.heap.objs.size (.tup [x,y])) c:=λc f=>⟨by rw[aR (JN (UW c f))];show (F c f).1,(F c f).2⟩;have I2:=I1.turnedL (h':=g2) (ch:=[z,TI,TO,g,j]) (t':=s.toks) (λc o f q=>?_) f1
  ·refine⟨.ref s.heap.objs.size,_,I2,S,⟨s.heap.objs.size,x,y,zn,S,S,λxs' Q=>by rw[I.sqb_inj Q J];show hx,λys' Q=>by rw[I.sqb_inj Q L];show hy⟩,
    ⟨zz,N.extBut _ _ D.a1 (O TI _ (by simp[D.a1,D.a5,D.a6,D.a7]) p),⟨_,_,N.extBut _ _ D.a2 z2⟩,z3.but N D.a3,z4.but N D.a4⟩,λc f=>(f1 c f).1⟩
  ·have a_:c≠z:=λe=>f (e▸Ji);refine (N.2 c a_).trans ?_;rcases Heap.get?_push_cases q with⟨e,e'⟩|G
   ·subst e;subst e';show z5
   ·show O c o (λe=>f (vB e)) G
 done:=by
  intro X U hw T f i l s σ H E I F st b_;subst U hw T;let⟨xs,ys,J,L,ON⟩:=b_;let⟨r,p,⟨a,b,A⟩,B,C⟩:=st;let⟨RO,R,p1,_⟩:=I.sqb J;let⟨Oz,be,p2,_⟩:=I.sqb L;have l1:=R.length;have l2:=be.length
  have he:RO.toArray[i]?=ŗ\/Oz.toArray[i]?=ŗ:=by
   rcases ON with q|q
   ·show .inl (by simp;omega)
   ·show .inr (by simp;omega)
  refine DJ (I.ok.hd f) D r p A (I.sqb_ne J (F TO (kT z TI TO g j).2.2.1)) (I.sqb_ne L (F TO (kT z TI TO g j).2.2.1)) B C p1 p2 he λh' O=>⟨S,?_⟩;refine I.turnedL (ch:=[z,TI,TO,g,j]) (t':=s.toks) (λc o f q=>O c o (λe=>f (vB e)) q) F
 self:=λ_ _ _ _ _ st h=>ō st.1 h
def Dz(n:Nat):ZAp (n+4) (n+2) (n+3) n (n+1):=
 ⟨(by omega:n+2≠n+4),(by omega:n+3≠n+4),(by omega:n≠n+4),(by omega:n+1≠n+4),(by omega:n+2≠n+3),(by omega:n+2≠n),(by omega:n+2≠n+1),(by omega:n+3≠n),(by omega:n+3≠n+1),(by omega:n≠n+1)⟩
end L2
namespace L2
open PySem PySem.Spec PyProof.Rows
section
variable{X:Cx}
def BI:bV X (Ï .Mult) (rI Ā λi j=>.int (i*j)):=nC λ_ _ _ _ _ _ _ a q=>mul_int q a
noncomputable def CDivB(i j:Int):Prop:=0<j/\j.natAbs.log2<9000
def yu:bV X (Ï .FloorDiv) (rI CDivB λi j=>.int (i/j)):=nC λi j _ _ _ _ _ a q=>by have c:(0:Int)<j:=a.1;show floordiv_int () (by rw[Int.fdiv_eq_ediv_of_nonneg i ()];show q) (.inl (PyProof.noPylong_of_log2 a.2))
end
def wC{n k:Nat}(a:0<k)(h:n<2^k):n.log2<k:=by
 rcases Nat.eq_zero_or_pos n with z|z
 ·subst z;simpa using a
 ·show (Nat.log2_lt (Np z)).mpr h
def CDivB.of{i j:Int}(a:0<j)(h:j<2^9000):CDivB i j:=⟨a,wC 'b' (by
 have e:(j.natAbs:Int)=j:=Int.natAbs_of_nonneg (Int.le_of_lt a)
 have:(j.natAbs:Int)<((2^9000:Nat):Int):=by rw[e];exact_mod_cast h
 exact_mod_cast this)⟩
def vY{a:Int}{k:Nat}(c:0<k)(h:a.natAbs<2^k):Builtin.Int.intBits a<=k:=by
 unfold Builtin.Int.intBits;split
 ·show KU _
 ·show wC c h
def EY{a b:Int}{m n:Nat}(f:0<m)(g:0<n)(c:a.natAbs<2^m)(e:b.natAbs<2^n)(h:m+n<=134217728):Ā a b:=PyProof.Rows.mulOk_of_bits (vY f c) (vY g e) h
def ie{a b:Int}(c:-(2^64)<a)(e:a<2^64):Ā a b:=.of_left (intBits_le_64 c e)
def nD{a b:Int}(c:-(2^64)<b)(e:b<2^64):Ā a b:=.of_right (intBits_le_64 c e)
section
variable{prog:Å}{w:È}{A:Ê}{E:Value->À->Prop}{s:À}
def vG{e t:Addr}{a:Array Value}(h:t≠e):∀(n i:Nat)(s:À)(Q:Y Value->À->Prop),s.heap.IsListIter e t i->s.heap.IsList t a->i+n<=a.size->
  (∀h',h'.IsListIter e t (i+n)->Heap.SameBut e s.heap h'->Q ((a.toList.drop i).take n) { s with heap:=h' })->wpAny (Ä prog w) A (draw (.ref e) n) Q E s
 |0,i,s,Q,c,_,_,f=>by change wpAny _ _ (pure []) Q E s;show Jr (by simpa using f s.heap c (Heap.SameBut.refl ..))
 |n+1,i,s,Q,c,j,u,f=>by
  have g:i<a.size:=by omega
  change wpAny _ _ (ó (.ref e) >>= _) Q E s;refine Jb (Ma c j (x:=a[i]) (by simp[g]) λy o l=>?_);refine Jb (KQ (vG h n (i+1) _ _ o (j.extBut l.extBut h) () λr p v=>Jr ?_))
  have hd:a.toList.drop i=a[i]::a.toList.drop (i+1):=by simp[MP,g]
  have:=f r (by rw[show i+(n+1)=i+1+n by omega];show p) (l.trans v);rw[hd,List.take_succ_cons]at this;show this
def Ip{t:Addr}{a:Array Value}{Q:Y Value->À->Prop}(y:A.handled=ŗ)(c:s.heap.IsList t a)
  (x:∀h',Heap.ExtBut s.heap.objs.size s.heap h'->Q a.toList { s with heap:=h' }):wpAny (Ä prog w) A (unpackItems (.ref t) a.size ŗ) Q E s:=by
 have g:t≠s.heap.objs.size:=by let⟨o,z,_⟩:=c;show JN (Jx z)
 unfold unpackItems;refine Jb ?_;unfold notIterableAtAll;refine Jb (Œ c.typeIs slot_list_iter.lookup (Jr ?_));simp only[Ĥ,Nm];refine Jb (KQ (L9 c (Jb (KQ (vG g a.size 0 _ _ ⟨_,Jq _ S,S,S⟩ (c.push _) () λu p j=>?_)))))
 have l:List.take a.size (List.drop 0 a.toList)=a.toList:=by rw[Nf];show Ls (by simp)
 rw[l,Jd (by simp)];have f:u.IsList t a:=(c.push _).extBut j.extBut g;refine Jb (KQ (Mi y p f (by simp) λv r=>?_));simp only[Option.isSome_none,Ĥ,Nm];show Jr (x v λb o h e=>r b o h (j.extBut b o h (Jf _ e)))
end
section
variable{X:Cx}{c:Ö}
noncomputable def pL(K:Â)(n:Nat)(t:fA):TG:=λv e H Q=>∃a xs,v=.ref a/\SqL K H a xs/\xs.length=n/\t xs e H Q
def BB{es:Y Ã}{k:Nat}{t:fA}{n:Nat}(z:X.calm=ř)(h:PGs X es t)
  (B:(Æ es X.env).length=n:=by rfl) (w:(Æ es X.env).findIdx? (·.1)=ŗ:=by rfl):PG X (.Tuple es k c) (pL X.K n t):=by
 intro f s l H v u Q I r g;let⟨a,xs,y,C,A,g⟩:=g;subst y;cases r;let⟨its,j,E,G⟩:=I.list C;rw[assign_Tuple];refine Jb (MJ ?_);unfold unpack
 have x:(Æ es X.env).length=its.toArray.size:=by simp[B,←A,j.length]
 rw[x,w];refine Jb (KQ (Ip (I.ok.hd z) E.isList λh' F=>?_));have p:Inv X f l H { s with heap:=h' }:=I.kept (t':=s.toks) λb o e=>F b o (JN (Jx e)) e;show h f _ l H xs _ Q p (by simpa using j) g
end
inductive IsiV(K:Â)(H:Hp):V->String->Bool->Prop where
 |int_int (i):IsiV K H (.int i) "int" ř
 |int_bool (i):IsiV K H (.int i) "bool" Ś
 |int_tuple (i):IsiV K H (.int i) "tuple" Ś
 |int_str (i):IsiV K H (.int i) "str" Ś
 |bl_int (b):IsiV K H (.bl b) "int" ř
 |bl_bool (b):IsiV K H (.bl b) "bool" ř
 |bl_tuple (b):IsiV K H (.bl b) "tuple" Ś
 |str_str (x):IsiV K H (.str x) "str" ř
 |str_tuple (x):IsiV K H (.str x) "tuple" Ś
 |tup_tuple {a xs}:SqT K H a xs->IsiV K H (.ref a) "tuple" ř
 |tup_int {a xs}:SqT K H a xs->IsiV K H (.ref a) "int" Ś
 |lst_tuple {a xs}:SqL K H a xs->IsiV K H (.ref a) "tuple" Ś
 |lst_list {a xs}:SqL K H a xs->IsiV K H (.ref a) "list" ř
noncomputable def tW(K:Â):Y V->Hp->VK->Prop:=λvs H Q=>∃x T b,vs=[x,.ty T]/\IsiV K H x T b/\Q (.bl b) H
def Gz{x y:V}{us:Y Value}(r:Vals [x,y] us):∃u v,us=[u,v]/\RelV x u/\RelV y v:=by
 cases r with
 |cons r rr=>
  cases rr with
  |cons a rr=>cases rr;show⟨_,_,S,r,a⟩
def Al{X:Cx}:dS X (.builtin "isinstance") (tW X.K):=by
 intro g s l H xs us Q I r h;let⟨x,T,b,rfl,hi,q⟩:=h;let⟨u,v,rfl,f,j⟩:=Gz r;have j:v=.type T:=j;subst j;have a:∀(c:Bool)(t:Nat),Q (.bl c) H->EP X g l Q (.bool c) { s with toks:=t }:=λc t q=>⟨.bl c,H,I.tok t,S,q⟩
 cases hi with
 |int_int i=>let⟨t,rfl⟩:=f;show IsiPair.int_int (a _ s.toks q)
 |int_bool i=>let⟨t,rfl⟩:=f;show IsiPair.int_bool (a _ _ q)
 |int_tuple i=>let⟨t,rfl⟩:=f;show IsiPair.int_tuple (a _ _ q)
 |int_str i=>let⟨t,rfl⟩:=f;show IsiPair.int_str (a _ _ q)
 |bl_int b=>cases f;show IsiPair.bool_int (a _ s.toks q)
 |bl_bool b=>cases f;show IsiPair.bool_bool (a _ s.toks q)
 |bl_tuple b=>cases f;show IsiPair.bool_tuple (a _ _ q)
 |str_str x=>let⟨t,rfl⟩:=f;show IsiPair.str_str (a _ s.toks q)
 |str_tuple x=>let⟨t,rfl⟩:=f;show IsiPair.str_tuple (a _ _ q)
 |tup_tuple h=>
  cases f;let⟨its,_,p,_⟩:=I.tuple h;show Mv (Ŕ (Tx:="tuple") F.isi_meta_tuple F.sub_tuple_tuple) ⟨p.typeIs,a _ s.toks q⟩
 |tup_int h=>
  cases f;let⟨its,_,⟨o,e,c,_⟩,_⟩:=I.tuple h;show Mv (isinstance_false_tuple 'a' F.isi_meta_int F.sub_tuple_int) ⟨⟨o,e,c⟩,a _ _ q⟩
 |lst_tuple h=>
  cases f;let⟨its,_,p,_⟩:=I.list h;let⟨o,e,c,_⟩:=p.isList;show Mv (isinstance_false_list 'a' F.isi_meta_tuple F.sub_list_tuple) ⟨⟨o,e,c⟩,a _ _ q⟩
 |lst_list h=>
  cases f;let⟨its,_,p,_⟩:=I.list h;show Mv (Ŕ (Tx:="list") F.isi_meta_list F.sub_list_list) ⟨p.isList.typeIs,a _ s.toks q⟩
def rc{prog:Å}{w:È}{A:Ê}(r:A.handled=ŗ)(b:Bool)(j a:Addr)(p:a≠j)(its:Array Value):Walks prog w A j [j,a] [j] its.size (λi v=>its[i]?=Z v) (λi h=>SqI b h j a i/\SqO b h a its) where
 sub:=λc f=>by rw[Jk.mp f];simp
 frame:=λ_ _ _ st k=>⟨st.1.at λo e=>k j (by simp) o e,st.2.at λo e=>k a (by simp) o e⟩
 item:=λi s Q E hi st g=>by
  cases b with
  |true=>show Ma st.1 st.2 (x:=its[i]) (by simp[hi]) λh' q sb=>g _ h' s.toks (by simp[hi]) ⟨q,SqO.at (b:=ř) st.2 λo e=>(sb.2 a p).trans e⟩ λc o f e=>(sb.2 c λz=>f (by simp[z])).trans e
  |false=>show Ĝ st.1 st.2 (x:=its[i]) (by simp[hi]) λh' q sb=>g _ h' s.toks (by simp[hi]) ⟨q,SqO.at (b:=Ś) st.2 λo e=>(sb.2 a p).trans e⟩ λc o f e=>(sb.2 c λz=>f (by simp[z])).trans e
 done:=λs Q E st g=>by
  cases b with
  |true=>show Mi r st.1 st.2 (by simp) λh' l=>g h' s.toks λc o f e=>l c o (λz=>f (by simp[z])) e
  |false=>show Ħ r st.1 st.2 (by simp) λh' l=>g h' s.toks λc o f e=>l c o (λz=>f (by simp[z])) e
 self:=λi s Q E st g=>by
  cases b with
  |true=>show į st.1 g
  |false=>show ħ st.1 g
def oY{x:V}{us:Y Value}(r:Vals [x] us):∃u,us=[u]/\RelV x u:=by
 cases r with
 |cons r rr=>cases rr;show⟨_,S,r⟩
def uJ(val:Nat->Int)(ns:Y Int)(h:∀i n,ns[i]?=Z n->val i=n):∀k,k<=ns.length->preSum val k=(ns.take k).sum
 |0,_=>by simp[preSum]
 |k+1,c=>by
  have a:k<ns.length:=c;have e:=h k ns[k] (by simp[a]);rw[preSum,uJ val ns h k (Ko a),e,Mf a,List.sum_append];simp
noncomputable def Ew(K:Â)(b:Bool):Y V->Hp->VK->Prop:=λvs H Q=>∃(a:Addr)(ns:Y Int),vs=[.ref a]/\SqB K b H a (ns.map V.int)/\Q (.int ns.sum) H
def zN(b:Bool){X:Cx}(L:X.calm=ř):dS X (.builtin "sum") (Ew X.K b):=by
 intro B s σ H xs us Q I r h;let⟨a,ns,rfl,R,q⟩:=h;let⟨u,rfl,T⟩:=oY r;cases T;let⟨its,g,p,a_⟩:=I.sqb R;refine call_sum_walkAnyS (ku p ?_);have C:a≠s.heap.objs.size:=JN p.lt;have W:=rc (prog:=X.prog) (w:=X.w) (A:=X.A.in1) (I.ok.hd L) b s.heap.objs.size a C its.toArray
 have be:∀(i:Nat)(v:Value),its.toArray[i]?=Z v->∃t,v=.int (ns.getD i 0) t:=λi v e=>by
  have l:its[i]?=Z v:=by simpa using e
  have hi:i<ns.length:=by
   have:=(J7.mp l).1;have:=g.length;rw[IY]at this;omega
  let⟨b_,y,K⟩:=g.get (i:=i) (x:=V.int (ns.getD i 0)) (by simp[hi]);rw[l]at y;cases y;show K
 have ln:its.toArray.size=ns.length:=by have:=g.length;rw[IY]at this;simp[this]
 refine⟨s.heap.objs.size,[s.heap.objs.size,a],[s.heap.objs.size],_,its.toArray.size,_,_,λi=>ns.getD i 0,S,W.toS,⟨jw (Jq _ (by cases b<;>rfl)),p.at λo e=>Jf _ e⟩,λc f=>?_,be,λU t' O=>?_⟩
 ·rw[J0];rcases Jt.mp f with rfl|f
  ·show Li _
  ·rw[Jk.mp f];show Lf p.lt
 ·let⟨N,M,hd,P,_⟩:=O;let⟨h',g',d',j,E⟩:=U;have F:g'=s.gens:=M;have G:d'=s.drawn:=hd;have J:E=s.os:=P;subst F G J;refine⟨.int ns.sum,H,I.kept (h':=h') (t':=j) λc o e=>N c o (λz=>?_) (Jf _ e),⟨t',?_⟩,q⟩
  ·rw[Jk.mp z]at e;show absurd (Jx e) (KH _)
  ·rw[ln,uJ (λi=>ns.getD i 0) ns (λi n e=>by
    change ns.getD i 0=n
    rw[Jl,e];rfl) ns.length (Jg _),Kt]
noncomputable def wo(K:Â)(b:Bool)(f:Y Bool->Bool):Y V->Hp->VK->Prop:=λvs H Q=>∃(a:Addr)(bs:Y Bool),vs=[.ref a]/\SqB K b H a (bs.map V.bl)/\Q (.bl (f bs)) H
def uE{prog:Å}{w:È}{A:Ê}{its:Array Value}{bs:Y Bool}(g:Vals (bs.map V.bl) its.toList):TruthOf prog w A (λi v=>its[i]?=Z v) (λi=>bs.getD i Ś):=by
 intro i v s Q E e q
 have c:its.toList[i]?=Z v:=by simpa using e
 have hi:i<bs.length:=by
  have:=(J7.mp c).1;have:=g.length;rw[IY]at this;omega
 let⟨h,f,a⟩:=g.get (i:=i) (x:=V.bl (bs.getD i Ś)) (by simp[hi]);rw[c]at f;cases f;have a:v=.bool (bs.getD i Ś):=a;subst a;show Le q
def Dr(bs:Y Bool):(List.range bs.length).all (λi=>bs.getD i Ś)=bs.all id:=by
 rw[M5];simp only[KR,JA,id];constructor
 ·intro h x a;let⟨i,hi,rfl⟩:=List.mem_iff_getElem.mp a;have:=h i hi;simpa [hi] using this
 ·intro h i hi;have:=h bs[i] (K8 hi);simpa [hi] using this
def G7(bs:Y Bool):(List.range bs.length).any (λi=>bs.getD i Ś)=bs.any id:=by
 rw[M5];simp only[LI,JA,id];constructor
 ·rintro⟨i,hi,h⟩;show⟨bs[i],K8 hi,by simpa [hi] using h⟩
 ·rintro⟨x,a,h⟩;let⟨i,hi,rfl⟩:=List.mem_iff_getElem.mp a;show⟨i,hi,by simpa [hi] using h⟩
def Bp(b:Bool){X:Cx}(l:X.calm=ř):dS X (.builtin "all") (wo X.K b λbs=>bs.all id):=by
 intro f s E H xs us Q I r h;let⟨a,bs,rfl,x,q⟩:=h;let⟨u,rfl,y⟩:=oY r;cases y;let⟨its,g,p,C⟩:=I.sqb x;have j:a≠s.heap.objs.size:=JN p.lt
 have ln:its.toArray.size=bs.length:=by have:=g.length;rw[IY]at this;simp[this]
 have W:=rc (prog:=X.prog) (w:=X.w) (A:=X.A.in1) (I.ok.hd l) b s.heap.objs.size a j its.toArray;refine call_all_walk (ku p ⟨s.heap.objs.size,[s.heap.objs.size,a],[s.heap.objs.size],its.toArray.size,_,_,λi=>bs.getD i Ś,S,W,⟨jw (Jq _ (by cases b<;>rfl)),p.at λo e=>Jf _ e⟩,uE (by simpa using g),λh' B v=>?_⟩);rw[ln,Dr];refine⟨.bl (bs.all id),H,I.kept (h':=h') (t':=B) λc o e=>v c o (λz=>?_) (Jf _ e),S,q⟩;rw[Jk.mp z]at e;show absurd (Jx e) (KH _)
def Fc(b:Bool){X:Cx}(l:X.calm=ř):dS X (.builtin "any") (wo X.K b λbs=>bs.any id):=by
 intro f s E H xs us Q I r h;let⟨a,bs,rfl,x,q⟩:=h;let⟨u,rfl,y⟩:=oY r;cases y;let⟨its,g,p,C⟩:=I.sqb x;have j:a≠s.heap.objs.size:=JN p.lt
 have ln:its.toArray.size=bs.length:=by have:=g.length;rw[IY]at this;simp[this]
 have W:=rc (prog:=X.prog) (w:=X.w) (A:=X.A.in1) (I.ok.hd l) b s.heap.objs.size a j its.toArray;refine call_any_walk (ku p ⟨s.heap.objs.size,[s.heap.objs.size,a],[s.heap.objs.size],its.toArray.size,_,_,λi=>bs.getD i Ś,S,W,⟨jw (Jq _ (by cases b<;>rfl)),p.at λo e=>Jf _ e⟩,uE (by simpa using g),λh' B v=>?_⟩);rw[ln,G7];refine⟨.bl (bs.any id),H,I.kept (h':=h') (t':=B) λc o e=>v c o (λz=>?_) (Jf _ e),S,q⟩;rw[Jk.mp z]at e;show absurd (Jx e) (KH _)
noncomputable def b7(N:Y Str)(a scope:â)(N':Y Str)(cap:Y (Ř Nat)):Bool:=
 decide (scope.kind=.function)&&scope.names.all (λx=>decide (x.2=.cell->scope.names.lookup x.1=Z .cell))&&scope.names.all (λx=>decide (x.2=.local->scope.names.lookup x.1=Z .local)) &&
  scope.names.all (λx=>decide (x.2=.free->a.names.lookup x.1=Z .cell/\scope.names.lookup x.1=Z .free))&&decide N'.Nodup&&decide (cap.length=N'.length) &&
  (cap.zip N').all λp=>match p.1 with|none=>ř|some i=>decide (N[i]?=Z p.2/\(p.2,NameKind.free)∈scope.names)
def CompScope.ok{N:Y Str}{f scope:â}{N':Y Str}{cap:Y (Ř Nat)}(h:b7 N f scope N' cap=ř):CompScope N f scope N' cap:=by
 unfold b7 at h;simp only[Ki,Ly,KR]at h;let⟨⟨⟨⟨⟨⟨g,j⟩,l⟩,e⟩,o⟩,r⟩,u⟩:=h;refine⟨g,j,l,λx c a=>(e x c a).1,λx c a=>(e x c a).2,o,r,λp v i hi=>?_⟩;have:=u p v;rw[hi]at this;simpa using this
def c9{H:Hp}{p:Addr}(h:H p=ŗ)(o:HO):Same H (ao H p o):=λb u q=>by rw[aR (cU q h)];show q
def wB{H a:Hp}{p:Addr}(s:Same H a)(h:H p=ŗ)(o:HO):Same H (ao a p o):=λb u q=>by rw[aR (cU q h)];show s b u q
def Same.sqt{K:Â}{H c:Hp}{a:Addr}{xs:Y V}(e:Same H c)(h:SqT K H a xs):SqT K c a xs:=SqB.same (b:=Ś) e h
def small{n:Nat}(h:n<=1000):n<=sizeLine:=Ko (bj h)
def dP{p:Prop}[Decidable p](h:decide p=ř):p:=JV h
def gF{a:Type}{xs:Y a}{i:Nat}{x:a}(h:xs[i]?=Z x):xs.take (i+1)=xs.take i++[x]:=by let⟨hi,e⟩:=J7.mp h;rw[Mf hi,e]
def aA{a:Type}{xs:Y a}{i:Nat}{x:a}(h:xs[i]?=Z x):i<xs.length:=(J7.mp h).1
def gB{a:Type}{xs:Y a}{i:Nat}{x:a}{k:Int}(h:xs[i]?=Z x)(e:k=(i:Int)):cF xs k=Z x:=by subst e;show Iu h
noncomputable def bp(ns:Y Int):Int:=ns.foldl (λd x=>(Int.gcd x d:Int)) 0
def HY(xs:Y Int)(x:Int):bp (xs++[x])=(Int.gcd x (bp xs):Int):=by unfold bp;rw[KL];rfl
def DZ{g l:Int}(a:0<=g)(c:0<l):Int.gcd l (g % l)=Int.gcd g l:=by
 rw[Int.gcd_comm g l]
 have e:g % l=g-l*(g/l):=by have:=Int.emod_add_mul_ediv g l;omega
 rw[e];simpa using Int.gcd_sub_mul_right_right
def rh(ns:Y Int):0<=bp ns:=by
 have h:∀(ns:Y Int)(d:Int),0<=d->0<=ns.foldl (λd x=>(Int.gcd x d:Int)) d:=by
  intro ns
  induction ns with
  |nil=>intro d hd;show hd
  |cons x r a=>intro d _;show a _ (Int.natCast_nonneg _)
 show h ns 0 'b'
def mU(ns:Y Int):∀x∈ns,bp ns∣x:=by
 have h:∀(ns:Y Int)(d:Int),ns.foldl (λd x=>(Int.gcd x d:Int)) d∣d/\∀x∈ns,ns.foldl (λd x=>(Int.gcd x d:Int)) d∣x:=by
  intro ns
  induction ns with
  |nil=>intro d;show⟨Int.dvd_refl _,λx a=>absurd a K7⟩
  |cons y r f=>
   intro d;let⟨c,e⟩:=f (Int.gcd y d:Int);refine⟨Int.dvd_trans c (Int.gcd_dvd_right ..),λx a=>?_⟩;rcases Jt.mp a with rfl|a
   ·show Int.dvd_trans c (Int.gcd_dvd_left ..)
   ·show e x a
 show (h ns 0).2
noncomputable def ar(es ns:Y Int):Int:=(List.zipWith (·*·) es ns).sum
noncomputable def dY{a:Type}(xs:Y a)(lo hi:Ř Int):Y a:=(xs.drop (HT.sIx xs.length 0 lo)).take (HT.sIx xs.length xs.length hi-HT.sIx xs.length 0 lo)
def Vals.get'{xs:Y V}{us:Y Value}(r:Vals xs us){j:Nat}(h:j<us.length):∃x,xs[j]?=Z x/\RelV x us[j]:=by
 have f:=Vals.length r
 have a:j<xs.length:=by omega
 let⟨u,c,e⟩:=Vals.get (i:=j) (x:=xs[j]) r (by simp[a]);refine⟨xs[j],by simp[a],?_⟩;rw[J2 h]at c;cases c;show e
section
variable{prog:Å}{w:È}{A:Ê}{E:Value->À->Prop}{s:À}
def Eu{t b:Addr}{vs j:Y Value}{Q:Value->À->Prop}(u:ġ s.heap t vs.toArray)(r:ġ s.heap b j.toArray)(v:vs=[])(h:Q (.ref b) s):wpAny (Ä prog w) A (Ï .Add (.ref t) (.ref b)) Q E s:=by let⟨⟨cls,p,data,sl⟩,g,f,n,hd⟩:=id u;let⟨⟨x,l,data2,o⟩,c,e,n2,a⟩:=id r;simp only at f hd e a;subst f hd e a;show ĩ ⟨_,g,S⟩ ⟨_,c,S⟩ MU Ę Mb L6 (LV _ _) (tuple_addW0 t b vs.toArray j.toArray n n2 p l sl o (by simp[v])) ⟨g,c,h⟩
end
def kM{A B:Nat}:∀{es ns:Y Int},(∀x∈es,x.natAbs<=A)->(∀y∈ns,y.natAbs<=B)->(ar es ns).natAbs<=es.length*(A*B)
 | [],_,_,_=>by simp[ar]
 |_::_,[],_,_=>by simp[ar]
 |x::es,y::ns,c,f=>by
  have j:=kM (es:=es) (ns:=ns) (λz a=>c z (Jh _ a)) (λz a=>f z (Jh _ a))
  have e:ar (x::es) (y::ns)=x*y+ar es ns:=by simp[ar]
  have g:(x*y).natAbs<=A*B:=by rw[MA];show L5 (c x Ji) (f y Ji)
  have h:=Int.natAbs_add_le (x*y) (ar es ns);rw[e,Jp,M9];omega
def zc{ns:Y Int}{m:Nat}(h:∀x∈ns,x.natAbs<m)(w:0<m):bp ns<m:=by
 by_cases c:bp ns=0
 ·omega
 ·have a:∃x∈ns,x≠0:=by
   refine J9 λn=>c ?_;have j:∀x∈ns,x=0:=λx a=>J9 λz=>n ⟨x,a,z⟩
   have:∀(l:Y Int) ,(∀x∈l,x=0)->l.foldl (λd x=>(Int.gcd x d:Int)) 0=0:=by
    intro l
    induction l with
    |nil=>intro _;rfl
    |cons y r o=>
     intro e;have:=e y Ji;subst this;show o λx a=>e x (Jh _ a)
   show this ns j
  let⟨x,a,A⟩:=a;have f:=mU ns x a;have g:=Int.natAbs_dvd_natAbs.mpr f;have p:=Nat.le_of_dvd () g;have u:=h x a;have v:=rh ns;omega
def vg{g:Int}(a:g≠0):∀{es ns:Y Int},(∀x∈es,g∣x)->ar es ns=g*ar (es.map (·/g)) ns
 | [],_,_=>by simp[ar]
 |_::_,[],_=>by simp[ar]
 |x::es,y::ns,h=>by
  have j:=vg a (es:=es) (ns:=ns) λz f=>h z (Jh _ f)
  have e:∀(x y:Int)(es ns:Y Int),ar (x::es) (y::ns)=x*y+ar es ns:=λx y es ns=>by simp[ar]
  let⟨k,c⟩:=h x Ji;subst c;rw[JB,e,e,j,Int.mul_ediv_cancel_left _ a,Int.mul_add,Int.mul_assoc]
def ny{b g m:Int}(c:0<g):-(-b/g)<=m↔b<=g*m:=by have:=Na (a:=-m) (b:=-b) c;rw[Nb,Int.mul_comm m g]at this;omega
noncomputable abbrev aq:=Y Int×Int
noncomputable def sS(K:Â):V->V->Hp->VK->Prop:=λx y H Q=>∃p xs i j v,x=.ref p/\y=.int i/\SqL K H p xs/\i=((j:Nat):Int)/\xs[j]?=Z v/\Q v H
def DC{X:Cx}:qe X (sS X.K):=by
 intro c s E H o i C B Q I u l h;let⟨p,xs,i,j,v,rfl,rfl,g,rfl,a,q⟩:=h;cases u;let⟨t,rfl⟩:=l;let⟨its,r,pl,A⟩:=I.list g;let⟨w,f,e⟩:=r.get a;have y:=r.length;have z:=iU;have x:=aA a;show wpAny_getItem_list pl.isList () () (by rw[Km];simpa using f) ⟨v,H,I,e,q⟩
def Db(xs:Y V)(lo hi:Ř Int):iK xs lo hi=dY xs lo hi:=rfl
def eO{n j:Nat}(h:j<n):gu n (j:Int)=Z j:=by unfold gu;rw[Jj (),Jj (),Km]
def sw{a0 a1 a2}{a:Y Ã}{env:ë}:starEach (.BoolOp a0 a1 a2::a) env=(Ś,eval (.BoolOp a0 a1 a2) env)::starEach a env:=rfl
def cz{a0 a1 a2 a3}{a:Y Ã}{env:ë}:starEach (.BinOp a0 a1 a2 a3::a) env=(Ś,eval (.BinOp a0 a1 a2 a3) env)::starEach a env:=rfl
def ip{a0 a1 a2}{a:Y Ã}{env:ë}:starEach (.UnaryOp a0 a1 a2::a) env=(Ś,eval (.UnaryOp a0 a1 a2) env)::starEach a env:=rfl
def bD{a0 a1 a2 a3}{a:Y Ã}{env:ë}:starEach (.ListComp a0 a1 a2 a3::a) env=(Ś,eval (.ListComp a0 a1 a2 a3) env)::starEach a env:=rfl
def jH{a0 a1 a2 a3}{a:Y Ã}{env:ë}:starEach (.Compare a0 a1 a2 a3::a) env=(Ś,eval (.Compare a0 a1 a2 a3) env)::starEach a env:=rfl
def bo{a0 a1 a2 a3}{a:Y Ã}{env:ë}:starEach (.Call a0 a1 a2 a3::a) env=(Ś,eval (.Call a0 a1 a2 a3) env)::starEach a env:=rfl
def aF{a0 a1 a2}{a:Y Ã}{env:ë}:starEach (.Constant a0 a1 a2::a) env=(Ś,eval (.Constant a0 a1 a2) env)::starEach a env:=rfl
def aJ{a0 a1 a2}{a:Y Ã}{env:ë}:starEach (.Attribute a0 a1 a2::a) env=(Ś,eval (.Attribute a0 a1 a2) env)::starEach a env:=rfl
def aB{a0 a1 a2}{a:Y Ã}{env:ë}:starEach (.Subscript a0 a1 a2::a) env=(Ś,eval (.Subscript a0 a1 a2) env)::starEach a env:=rfl
def aa{a0 a1}{a:Y Ã}{env:ë}:starEach (.Name a0 a1::a) env=(Ś,eval (.Name a0 a1) env)::starEach a env:=rfl
def wW{a0 a1}{a:Y Ã}{env:ë}:starEach (.List a0 a1::a) env=(Ś,eval (.List a0 a1) env)::starEach a env:=rfl
def bH{a0 a1 a2}{a:Y Ã}{env:ë}:starEach (.Tuple a0 a1 a2::a) env=(Ś,eval (.Tuple a0 a1 a2) env)::starEach a env:=rfl
def ae{a:Ö}{env:ë}:(backTo a (starEach [] env)).any (·.1)=Ś:=rfl
def au{a:Ö}{e:Ã}{es:Y Ã}{env:ë}(h:starEach (e::es) env=(Ś,eval e env)::starEach es env)(c:(backTo a (starEach es env)).any (·.1)=Ś):(backTo a (starEach (e::es) env)).any (·.1)=Ś:=by rw[h];show c
def dz{a : Ö}{e : Ã}{env : ë}(h : starEach [e] env = (Ś, eval e env) :: starEach [] env) : ((backTo a (starEach [e] env)).all (λx=> !x.1)&&(Þ a (Ô [] env)).all (λx=>x.1.isSome)
      && decide ([e].length + ([] : Y Ù).length + (if ([] : Y Ù).isEmpty then 0 else 1) < 30)) = ř:= by
 rw[h];rfl
section
variable{X:Cx}{K:Â}
def Cu(h:X.K=K):jF X (v7 K):=h▸qy
def Hc(h:X.K=K):dS X (.builtin "isinstance") (tW K):=h▸Al
end
end L2
namespace L2
open PySem PySem.Spec PyProof.Rows
section
variable{X:Cx}
def CO:bV X (É .Is) (λx y H Q=>∃a b:Bool,x=.bl a/\y=.bl b/\Q (.bl (a==b)) H):=by intro c s g H x y v u Q I e f h;let⟨a,b,rfl,rfl,q⟩:=h;cases e;cases f;show wpAny_is_plain S (nW I q (by cases a<;>cases b<;>rfl))
def xP:bV X (É .IsNot) (λx y H Q=>∃a b:Bool,x=.bl a/\y=.bl b/\Q (.bl (!(a==b))) H):=by intro c s g H x y v u Q I e f h;let⟨a,b,rfl,rfl,q⟩:=h;cases e;cases f;show wpAny_isNot_plain S (nW I q (by cases a<;>cases b<;>rfl))
end
end L2
namespace PySem
open Sem (wp)
open Builtin
open AutoSeq1 (wpAny_loadPart')
def CY:fillsNumberSlot (.type "tuple") "mul"=pure Ś:=
 fillsNumberSlot_seq (id:="tuple.__mul__") (r:=Z (.builtin "tuple.__rmul__")) LJ.lookup 'a' F.slot_tuple_rmul.lookup 'a'
def GS:seqRepeat? (.type "tuple")=pure (Z (.builtin "tuple.__mul__")):=by unfold seqRepeat?;rw[seqSlot_of (T:="tuple") (name:="__mul__") (id:="tuple.__mul__") LJ.lookup 'a',seqSlot_of (T:="tuple") (name:="__rmul__") (id:="tuple.__rmul__") F.slot_tuple_rmul.lookup 'a'];rfl
def Fh(a:Int)(t:Ł)(l:Addr)(c:Array Value)(n:Nat)(e:Ř Addr)(sl:Array (Ř Value)) :
  Ō (Builtin.«int.__rmul__» ⟨[.int a t,.ref l],[]⟩) (λ_ R s=>s.heap.get? l=Z { cls:=.type "tuple",dict:=e,data:=.seq c n,slots:=sl }/\R (.ok (.ret Value.notImplemented)) s):=
 .of_wp λprog w A R s h=>by let⟨j,g,d,o,os⟩:=s;let⟨f,h⟩:=h;wp_walk;show⟨_,S,h⟩
def Cd(l:Addr)(a:Array Value)(n:Nat)(c:Ř Addr)(sl:Array (Ř Value))(u:Ł) :
  Ō (Builtin.«tuple.__mul__» ⟨[.ref l,.int 1 u],[]⟩) (λ_ R s=>s.heap.get? l=Z { cls:=.type "tuple",dict:=c,data:=.seq a n,slots:=sl }/\R (.ok (.ret (Value.ref l))) s):=
 .of_wp λprog w A R s h=>by let⟨o,g,d,p,os⟩:=s;let⟨e,h⟩:=h;have f:=MV;have j:=LW;wp_walk using J8 e;show⟨_,S,h⟩
def EN(l:Addr)(a:Array Value)(n:Nat)(f:Ř Addr)(sl:Array (Ř Value))(k:Int)(u:Ł)(e:¬ (decide (k < -(2^63)) ||decide (k≥2^63))=ř)(o:¬ (a.isEmpty ||k==1)=ř)(j:(decide (k<=0) ||a.isEmpty)=ř) :
  Ō (Builtin.«tuple.__mul__» ⟨[.ref l,.int k u],[]⟩) (λ_ R s=>s.heap.get? l=Z { cls:=.type "tuple",dict:=f,data:=.seq a n,slots:=sl }/\R (.ok (.ret (Value.ref s.heap.objs.size))) { s with heap:=s.heap.push { cls:=Value.type "tuple",data:=ù #[] },toks:=s.toks }):=
 .of_wp λprog w A R s h=>by let⟨v,g,d,x,os⟩:=s;let⟨c,h⟩:=h;have p:=MV;have r:=LW;wp_walk using J8 c;refine M6 (JG e) ?_;wp_walk using J8 c;show⟨_,S,h⟩
def G6(l:Addr)(a:Array Value)(n:Nat)(p:Ř Addr)(sl:Array (Ř Value))(k:Int)(u:Ł)(o:¬ (decide (k < -(2^63)) ||decide (k≥2^63))=ř)(x:¬ (a.isEmpty ||k==1)=ř)(v:¬ (decide (k<=0) ||a.isEmpty)=ř)(c:¬ (a.size*k>(2^63-1)/8))(r:¬ Builtin.Tuple.tupleTooMany (a.size*k)=ř)(hsz:(List.foldl (λf j=>f++j) #[] (List.replicate k.toNat a)).size<=sizeLine) :
  Ō (Builtin.«tuple.__mul__» ⟨[.ref l,.int k u],[]⟩) (λ_ R s=>s.heap.get? l=Z { cls:=.type "tuple",dict:=p,data:=.seq a n,slots:=sl }/\R (.ok (.ret (Value.ref s.heap.objs.size))) { s with heap:=s.heap.push { cls:=Value.type "tuple",data:=ù (List.foldl (λf j=>f++j) #[] (List.replicate k.toNat a)) },toks:=s.toks }):=
 .of_wp λprog w A R s h=>by let⟨B,g,d,C,os⟩:=s;let⟨e,h⟩:=h;have y:=MV;have z:=LW;wp_walk using J8 e;refine M6 (JG o) ?_;wp_walk using J8 e;refine M6 (JG c) ?_;wp_walk using J8 e;show⟨_,S,h⟩
end PySem
namespace L2
open PySem PySem.Spec PyProof.Rows
inductive D where
 |int (i:Int)|bl (b:Bool)|str (x:Str)|non|tup (xs:List D)|lst (xs:List D)|fzl (xs:List D)|obj (nm:Str) (fs:List (Str×D))|map (Nz:List (ay×D))|exc (nm:Str) (ats:List D)
noncomputable def wM(a C:Addr)(c:Ř Addr):Heap->Prop:=λh=>∃o vs,h.get? a=Z o/\o.cls=.ref C/\o.dict=c/\o.data=.fields vs
inductive Rp(K:Â)(H:Hp):D->V->Prop where
 |int (i:Int):Rp K H (.int i) (.int i)
 |bl (b:Bool):Rp K H (.bl b) (.bl b)
 |str (x:Str):Rp K H (.str x) (.str x)
 |non:Rp K H .non .non
 |tup {a:Addr} {vs:List V} {ds:List D}:H a=Z (.tup vs)->vs.length=ds.length->(∀(i:Nat)(v:V)(d:D),vs[i]?=Z v->ds[i]?=Z d->Rp K H d v)->Rp K H (.tup ds) (.ref a)
 |lst {a:Addr} {vs:List V} {ds:List D}:H a=Z (.lst vs)->vs.length=ds.length->(∀(i:Nat)(v:V)(d:D),vs[i]?=Z v->ds[i]?=Z d->Rp K H d v)->Rp K H (.lst ds) (.ref a)
 |fzl {a:Addr} {vs:List V} {ds:List D}:SqL K H a vs->vs.length=ds.length->(∀(i:Nat)(v:V)(d:D),vs[i]?=Z v->ds[i]?=Z d->Rp K H d v)->Rp K H (.fzl ds) (.ref a)
 |obj {a C dx:Addr} {nm:Str} {vs:List (Str×V)} {fs:List (Str×D)}:Ò K Á nm=Z (Z (.ref C))->H a=Z (.ins C dx vs)->vs.map (·.1)=fs.map (·.1)->(∀(i:Nat)(v:Str×V)(d:Str×D),vs[i]?=Z v->fs[i]?=Z d->Rp K H d.2 v.2)->Rp K H (.obj nm fs) (.ref a)
 |map {a:Addr} {ws:List (ay×V)} {Nz:List (ay×D)}:H a=Z (.dK ws)->ws.map (·.1)=Nz.map (·.1)->(∀(i:Nat)(w:ay×V)(d:ay×D),ws[i]?=Z w->Nz[i]?=Z d->Rp K H d.2 w.2)->Rp K H (.map Nz) (.ref a)
 |exc0 {a C:Addr} {nm:Str}:Ò K Á nm=Z (Z (.ref C))->H a=Z (.ext (wM a C ŗ))->Rp K H (.exc nm []) (.ref a)
 |exc1 {a C p:Addr} {nm:Str} {v:V} {d:D}:Ò K Á nm=Z (Z (.ref C))->H a=Z (.ext (wM a C (Z p)))->H p=Z (.xd [("at",v)])->Rp K H d v->Rp K H (.exc nm [d]) (.ref a)
noncomputable def RpL(K:Â)(H:Hp)(ds:Y D)(vs:Y V):Prop:=vs.length=ds.length/\∀(i:Nat)(v:V)(d:D),vs[i]?=Z v->ds[i]?=Z d->Rp K H d v
section
variable{K:Â}{H l Φ j y A w z:Hp}{d:D}{v:V}{ds es:Y D}{vs B:Y V}
def Rp.i{n:Int}(h:Rp K H (.int n) v):v=.int n:=by cases h;rfl
def Rp.b{b:Bool}(h:Rp K H (.bl b) v):v=.bl b:=by cases h;rfl
def Rp.s{x:Str}(h:Rp K H (.str x) v):v=.str x:=by cases h;rfl
def Rp.n(h:Rp K H .non v):v=.non:=by cases h;rfl
def jc{P:Int->Prop}(h:match d with|.int n=>P n|_=>False):∃n,d=.int n/\P n:=by
 cases d with
 |int n=>show⟨n,S,h⟩
 |_=>show h.elim
def i9{P:Bool->Prop}(h:match d with|.bl n=>P n|_=>False):∃n,d=.bl n/\P n:=by
 cases d with
 |bl n=>show⟨n,S,h⟩
 |_=>show h.elim
def Rp.same(s:Same H l)(h:Rp K H d v):Rp K l d v:=by
 induction h with
 |int i=>show .int i
 |bl b=>show .bl b
 |str x=>show .str x
 |non=>show .non
 |tup a c _ e=>show .tup (s _ _ a) c e
 |lst a c _ e=>show .lst (s _ _ a) c e
 |fzl a c _ e=>show .fzl (s.seq a) c e
 |obj f a c _ e=>show .obj f (s _ _ a) c e
 |map a c _ e=>show .map (s _ _ a) c e
 |exc0 f a=>show .exc0 f (s _ _ a)
 |exc1 f a c _ e=>show .exc1 f (s _ _ a) (s _ _ c) e
def RpL.same(s:Same H l)(h:RpL K H ds vs):RpL K l ds vs:=⟨h.1,λi v d a hd=>(h.2 i v d a hd).same s⟩
def RpL.nil:RpL K H [] []:=⟨S,λi v d a _=>by simp at a⟩
def RpL.cons(r:Rp K H d v)(h:RpL K H ds vs):RpL K H (d::ds) (v::vs):=⟨by simp[h.1],λi u e c a=>by
 cases i with
 |zero=>cases c;cases a;show r
 |succ i=>show h.2 i u e c a⟩
def RpL.append(h:RpL K H ds vs)(h':RpL K H es B):RpL K H (ds++es) (vs++B):=by
 refine⟨by rw[Ja,Ja,h.1,h'.1],λi u e f a=>?_⟩;rcases JW i vs.length with c|c
 ·rw[I0 c]at f;rw[I0 (by rw[←h.1];show c)]at a;show h.2 i u e f a
 ·rw[IZ c]at f;rw[IZ (by rw[←h.1];show c),←h.1]at a;show h'.2 _ u e f a
def RpL.one(r:Rp K H d v):RpL K H [d] [v]:=.cons r .nil
def RpL.take(h:RpL K H ds vs)(k:Nat):RpL K H (ds.take k) (vs.take k):=⟨by rw[Kb,Kb,h.1],λi u e a f=>by
 rcases JW i k with c|c
 ·rw[LU c]at a f;show h.2 i u e a f
 ·rw[List.getElem?_take_eq_none c]at a
  cases a⟩
def RpL.drop(h:RpL K H ds vs)(k:Nat):RpL K H (ds.drop k) (vs.drop k):=⟨by rw[LH,LH,h.1],λi u e c a=>by
 rw[LX]at c a
 show h.2 _ u e c a⟩
def RpL.set(h:RpL K H ds vs)(r:Rp K H d v)(k:Nat):RpL K H (ds.set k d) (vs.set k v):=⟨by rw[Jc,Jc,h.1],λi u e a f=>by
 by_cases c:k=i
 ·subst c
  have g:k<vs.length:=by have:=aA a;rwa [Jc]at this
  rw[Jy g]at a;rw[Jy (by rw[←h.1];show g)]at f;cases a;cases f;show r
 ·rw[Jv c]at a f
  show h.2 i u e a f⟩
def RpL.rep(h:RpL K H ds vs):∀k:Nat,RpL K H (List.replicate k ds).flatten (List.replicate k vs).flatten
 |0=>.nil
 |k+1=>by rw[J1,J1,JS,JS];show h.append (RpL.rep h k)
def RpL.at(h:RpL K H ds vs){i:Nat}(e:ds[i]?=Z d):∃v,vs[i]?=Z v/\Rp K H d v:=by
 have hi:i<vs.length:=by rw[h.1];show aA e
 show⟨vs[i],by simp[hi],h.2 i _ d (by simp[hi]) e⟩
def RpL.cut(h:RpL K H ds vs)(lo hi:Ř Int):RpL K H (dY ds lo hi) (iK vs lo hi):=by rw[Db];unfold dY;rw[h.1];show (h.drop _).take _
def RpL.tup{a:Addr}(h:RpL K H ds vs)(s:H a=Z (.tup vs)):Rp K H (.tup ds) (.ref a):=.tup s h.1 h.2
def RpL.lst{a:Addr}(h:RpL K H ds vs)(s:H a=Z (.lst vs)):Rp K H (.lst ds) (.ref a):=.lst s h.1 h.2
def RpL.fzl{a:Addr}(h:RpL K H ds vs)(s:SqL K H a vs):Rp K H (.fzl ds) (.ref a):=.fzl s h.1 h.2
def RpL.ints(ns:Y Int):RpL K H (ns.map D.int) (ns.map V.int):=⟨by simp,λi v d a hd=>by
 rw[Jm]at a hd
 cases e:ns[i]? with
 |none=>rw[e]at a;cases a
 |some k=>rw[e]at a hd;cases a;cases hd;show .int k⟩
noncomputable def oM:HO->Prop|.lst _=>True|.dK _=>True|.dT _=>True|.ins _ _ _=>True|_=>False
structure Gr(Φ H j l:Hp):Prop where
 f:Same Φ j
 h:Same H l
 s:Same j l
 o:∀p (u:HO),H p=Z u->Φ p=ŗ->(k:oM u:=by trivial)->j p=ŗ
def Gr.refl(s:Same Φ H):Gr Φ H Φ H:=⟨Same.refl _,Same.refl _,s,λ_ _ _ h _=>h⟩
def Gr.trans(a:Gr Φ H y A)(b:Gr y A w z):Gr Φ H w z:=⟨a.f.trans b.f,a.h.trans b.h,b.s,λp u c e k=>b.o p u (a.h p _ c) (a.o p u c e k) k⟩
def Gr.join(a:Gr Φ H y A)(b:Gr y H w z):Gr Φ H w z:=⟨a.f.trans b.f,b.h,b.s,λp u c e k=>b.o p u c (a.o p u c e k) k⟩
def Fm(s:Same Φ H){p:Addr}(o:HO):Same (ao Φ p o) (ao H p o):=λb u e=>by
 by_cases c:b=p
 ·subst c;rw[bh]at e ⊢;show e
 ·rw[aR c]at e ⊢;show s b u e
def Gr.new(s:Same Φ H){p:Addr}(a:H p=ŗ)(o:HO):Gr Φ H (ao Φ p o) (ao H p o):=
 ⟨c9 (s.free a) o,c9 a o,Fm s o,λq u e c _=>by rw[aR (cU e a)];show c⟩
def Gr.fresh(s:Same Φ H){p:Addr}(a:H p=ŗ)(o:HO):Gr Φ H Φ (ao H p o):=
 ⟨Same.refl _,c9 a o,λb u e=>c9 a o b u (s b u e),λ_ _ _ h _=>h⟩
def Gr.freeze(g:Gr Φ H j l){p:Addr}{o:HO}(h:H p=ŗ)(r:j p=ŗ)(x:l p=Z o):Gr Φ H (ao j p o) l:=
 ⟨g.f.trans (c9 r o),g.h,λb u e=>by
  by_cases c:b=p
  ·subst c;rw[bh]at e;cases e;show x
  ·rw[aR c]at e;show g.s b u e,λq u a f k=>by rw[aR (cU a h)];show g.o q u a f k⟩
def Gr.adoptT{p:Addr}{xs:Y V}(s:Same Φ H)(h:Same H l)(a:l p=Z (.tup xs)):∃j,Gr Φ H j l/\j p=Z (.tup xs):=by
 have f:∀u,Φ p=Z u->u=.tup xs:=λu e=>by have:=h _ _ (s _ _ e);rw[a]at this;cases this;rfl
 refine⟨ao Φ p (.tup xs),⟨λb u e=>?_,h,λb u e=>?_,λb u e n k=>?_⟩,bh⟩
 ·by_cases c:b=p
  ·subst c;rw[bh,f u e]
  ·rw[aR c];show e
 ·by_cases c:b=p
  ·subst c;rw[bh]at e;cases e;show a
  ·rw[aR c]at e;show h _ _ (s _ _ e)
 ·by_cases c:b=p
  ·subst c;have:=h _ _ e;rw[a]at this;cases this;show k.elim
  ·rw[aR c];show n
noncomputable def RpQ(K:Â)(Φ H:Hp)(d:D)(v:V):Prop:=Rp K Φ d v\/∃a vs ds,d=.lst ds/\v=.ref a/\H a=Z (.lst vs)/\RpL K Φ ds vs
def RpQ.gr(g:Gr Φ H j l)(h:RpQ K Φ H d v):RpQ K j l d v:=by
 rcases h with h|⟨a,vs,ds,e,c,f,o⟩
 ·show .inl (h.same g.f)
 ·show .inr ⟨a,vs,ds,e,c,g.h _ _ f,o.same g.f⟩
def RpQ.lst(s:Same Φ H)(h:RpQ K Φ H (.lst ds) v):∃a vs,v=.ref a/\H a=Z (.lst vs)/\RpL K Φ ds vs:=by
 rcases h with h|⟨a,vs,ds,e,g,c,f⟩
 ·cases h with|lst c f h3=>show⟨_,_,S,s _ _ c,f,h3⟩
 ·cases e;show⟨a,vs,g,c,f⟩
def RpQ.fzl(s:Same Φ H)(h:RpQ K Φ H (.fzl ds) v):∃a vs,v=.ref a/\SqL K H a vs/\RpL K Φ ds vs:=by
 rcases h with h|⟨a,vs,ds,e,g,c,f⟩
 ·cases h with|fzl c f h3=>show⟨_,_,S,s.seq c,f,h3⟩
 ·cases e
def RpQ.tup(s:Same Φ H)(h:RpQ K Φ H (.tup ds) v):∃a vs,v=.ref a/\SqT K H a vs/\Φ a=Z (.tup vs)/\RpL K Φ ds vs:=by
 rcases h with h|⟨a,vs,ds,e,g,c,f⟩
 ·cases h with|tup c f h3=>show⟨_,_,S,.of (s _ _ c),c,f,h3⟩
 ·cases e
def RpQ.int{i:Int}(h:RpQ K Φ H (.int i) v):v=.int i:=by
 rcases h with h|⟨a,vs,ds,e,_⟩
 ·obtain rfl:=h.i;rfl
 ·cases e
def RpQ.bl{i:Bool}(h:RpQ K Φ H (.bl i) v):v=.bl i:=by
 rcases h with h|⟨a,vs,ds,e,_⟩
 ·obtain rfl:=h.b;rfl
 ·cases e
def RpQ.str{i:Str}(h:RpQ K Φ H (.str i) v):v=.str i:=by
 rcases h with h|⟨a,vs,ds,e,_⟩
 ·obtain rfl:=h.s;rfl
 ·cases e
def RpQ.non(h:RpQ K Φ H .non v):v=.non:=by
 rcases h with h|⟨a,vs,ds,e,_⟩
 ·obtain rfl:=h.n;rfl
 ·cases e
noncomputable def cV:D->Ř (Y D)
 |.lst ds=>Z ds
 |.tup ds=>Z ds
 |.fzl ds=>Z ds
 |_=>ŗ
def RpQ.seq(s:Same Φ H)(h:RpQ K Φ H d v)(e:cV d=Z ds):∃a vs,v=.ref a/\(SqL K H a vs\/SqT K H a vs)/\RpL K Φ ds vs:=by
 cases d with
 |lst ds=>cases e;let⟨a,vs,e,c,f⟩:=h.lst s;show⟨a,vs,e,.inl (.of c),f⟩
 |tup ds=>cases e;let⟨a,vs,e,c,_,f⟩:=h.tup s;show⟨a,vs,e,.inr c,f⟩
 |fzl ds=>cases e;let⟨a,vs,e,c,f⟩:=h.fzl s;show⟨a,vs,e,.inl c,f⟩
 |_=>cases e
def Rp.seq(h:Rp K Φ d v)(e:cV d=Z ds):∃(b:Bool)(a:Addr)(vs:Y V),v=.ref a/\SqB K b Φ a vs/\RpL K Φ ds vs:=by
 cases d with
 |lst ds=>cases e;cases h with|lst h1 h2 h3=>show⟨ř,_,_,S,SqL.of h1,h2,h3⟩
 |tup ds=>cases e;cases h with|tup h1 h2 h3=>show⟨Ś,_,_,S,SqT.of h1,h2,h3⟩
 |fzl ds=>cases e;cases h with|fzl h1 h2 h3=>show⟨ř,_,_,S,h1,h2,h3⟩
 |_=>cases e
end
inductive Ow where|lst (xs:List D)|dct (ks:List ay)|dcT (ks:List (List ay))
inductive Sl where|v (d:D)|ob (o:Ow)
noncomputable abbrev Sl.own(xs:Y D):Sl:=.ob (.lst xs)
noncomputable abbrev Sl.dct(a:Y ay):Sl:=.ob (.dct a)
noncomputable abbrev Sl.dcT(a:Y (Y ay)):Sl:=.ob (.dcT a)
noncomputable def OwR(K:Â)(Φ:Hp):Ow->HO->Prop
 |.lst ds,.lst vs=>RpL K Φ ds vs
 |.dct c,.dK a=>a.map (·.1)=c
 |.dcT c,.dT a=>a.map (·.1)=c
 |_,_=>False
def OwR.k{K:Â}{Φ:Hp}{o:Ow}{u:HO}(r:OwR K Φ o u):oM u:=by
 cases o with
 |lst ds=>
  cases u with
  |lst vs=>show Ü
  |_=>show r.elim
 |dct c=>
  cases u with
  |dK a=>show Ü
  |_=>show r.elim
 |dcT c=>
  cases u with
  |dT a=>show Ü
  |_=>show r.elim
def OwR.same{K:Â}{Φ a:Hp}{o:Ow}{u:HO}(r:OwR K Φ o u)(s:Same Φ a):OwR K a o u:=by
 cases o with
 |lst ds=>
  cases u with
  |lst vs=>show (show RpL K Φ ds vs from r).same s
  |_=>show r.elim
 |dct e=>
  cases u with
  |dK c=>show r
  |_=>show r.elim
 |dcT e=>
  cases u with
  |dT c=>show r
  |_=>show r.elim
noncomputable abbrev bu:=Y (Ř Sl)
noncomputable def yi:FuncBody->Ř Ö
 |.stmts b=>(match b.getLast? with
  |some (.Return (Z (.Call _ _ a _)) _)=>a.findSome? λk=>(match k.value with|.Lambda _ _ _ pos=>Z pos|_=>ŗ)
  |_=>ŗ)
 |_=>ŗ
noncomputable def qu(K:Â)(x:Str):Ř (Addr×Array Value):=match Ò K Á x with
 |some (Z (.ref f))=>(match K.lookup f with
  |some ⟨_,_,.func e,_⟩=>(match e.code with
   |.ref c=>(match K.lookup c with
    |some ⟨_,_,.fields vs,_⟩=>(match (vs[11]?:Ř Value),yi e.body with
     |some (.ref P),Z a=>Z (P,#[ò a.line,ò a.col,.str (e.qualname++".<locals>."++"<lambda>") 0])
     |_,_=>ŗ)
    |_=>ŗ)
   |_=>ŗ)
  |_=>ŗ)
 |_=>ŗ
noncomputable def pB(K:Â):Y (Addr×Array Value):=(["least_grown","greatest_first"]:Y Str).filterMap (qu K)
noncomputable def TabF(K:Â)(Φ:Hp):Prop:=∀t∈pB K,Φ t.1=Z (.tbl t.2)
def TabF.same{K:Â}{Φ a:Hp}(h:TabF K Φ)(s:Same Φ a):TabF K a:=λt c=>s _ _ (h t c)
structure EnvD(K:Â)(H0 Φ H:Hp)(σ:St)(ρ:bu):Prop where
 fz:Same Φ H
 len:σ.length=ρ.length
 sl:∀(i:Nat)(d:D),ρ[i]?=Z (Z (.v d))->∃v,σ[i]?=Z (Z v)/\Rp K Φ d v
 ow:∀(i:Nat)(o:Ow),ρ[i]?=Z (Z (.ob o))->∃p u,σ[i]?=Z (Z (.ref p))/\H0 p=ŗ/\Φ p=ŗ/\H p=Z u/\OwR K Φ o u
 ne:∀(i j:Nat)(o w:Ow)(p:Addr),ρ[i]?=Z (Z (.ob o))->ρ[j]?=Z (Z (.ob w))->σ[i]?=Z (Z (.ref p))->σ[j]?=Z (Z (.ref p))->i=j
 tb:TabF K Φ
section
variable{K:Â}{f H C Φ A:Hp}{a:St}{ρ:bu}{d:D}{v:V}{ds es:Y D}{vs B:Y V}
def EnvD.owl(E:EnvD K f Φ H a ρ)(i:Nat)(ds:Y D)(h:ρ[i]?=Z (Z (.own ds))):∃p vs,a[i]?=Z (Z (.ref p))/\f p=ŗ/\Φ p=ŗ/\H p=Z (.lst vs)/\RpL K Φ ds vs:=by
 let⟨p,u,e,c,g,j,r⟩:=E.ow i _ h
 cases u with
 |lst vs=>show⟨p,vs,e,c,g,j,r⟩
 |_=>show (show False from r).elim
def EnvD.gr(E:EnvD K f Φ H a ρ)(g:Gr Φ H A C):EnvD K f A C a ρ:=
 ⟨g.s,E.len,λi d h=>let ⟨v,e,r⟩:=E.sl i d h;⟨v,e,r.same g.f⟩,
  λi ds h=>let ⟨p,vs,e,h0,hn,hp,r⟩:=E.ow i ds h;⟨p,vs,e,h0,g.o p _ hp hn r.k,g.h _ _ hp,r.same g.f⟩,E.ne,E.tb.same g.f⟩
def cG{g:Type}{l:Y g}{i j:Nat}{x y:g}(h:(l.set i x)[j]?=Z y):(j=i/\i<l.length/\y=x)\/(j≠i/\l[j]?=Z y):=by
 by_cases c:i=j
 ·subst c
  have hi:i<l.length:=by have:=aA h;rwa [Jc]at this
  rw[Jy hi]at h;cases h;show .inl ⟨S,hi,S⟩
 ·rw[Jv c]at h;show .inr ⟨λe=>c e.symm,h⟩
def EnvD.set(E:EnvD K f Φ H a ρ)(r:Rp K Φ d v)(i:Nat):EnvD K f Φ H (a.set i (Z v)) (ρ.set i (Z (.v d))):=by
 have w:∀{j:Nat}{x:Ř V},j≠i->a[j]?=Z x->(a.set i (Z v))[j]?=Z x:=λc h=>by rw[Jv (Kd c)];show h
 refine⟨E.fz,by rw[Jc,Jc,E.len],λj e h=>?_,λj ds h=>?_,λj k ds es p l o y z=>?_,E.tb⟩
 ·rcases cG h with⟨rfl,hi,g⟩|⟨c,h⟩
  ·cases g;show⟨v,by rw[Jy (by rw[E.len];show hi)],r⟩
  ·let⟨u,I,J⟩:=E.sl j e h;show⟨u,w c I,J⟩
 ·rcases cG h with⟨rfl,hi,g⟩|⟨c,h⟩
  ·cases g
  ·let⟨p,vs,e,q⟩:=E.ow j ds h;show⟨p,vs,w c e,q⟩
 ·rcases cG l with⟨rfl,_,g⟩|⟨F,l⟩
  ·cases g
  rcases cG o with⟨rfl,_,g⟩|⟨G,o⟩
  ·cases g
  rw[Jv (Kd F)]at y;rw[Jv (Kd G)]at z;show E.ne j k ds es p l o y z
def EnvD.setOb(E:EnvD K f Φ H a ρ){p:Addr}{o:Ow}{u:HO}(r:OwR K Φ o u)(P:f p=ŗ)(R:Φ p=ŗ)(a_:H p=Z u)(J:∀(j:Nat)(w:Ow),ρ[j]?=Z (Z (.ob w))->a[j]?≠Z (Z (.ref p)))(i:Nat):EnvD K f Φ H (a.set i (Z (.ref p))) (ρ.set i (Z (.ob o))):=by
 have N:∀{j:Nat}{x:Ř V},j≠i->a[j]?=Z x->(a.set i (Z (.ref p)))[j]?=Z x:=λc h=>by rw[Jv (Kd c)];show h
 refine⟨E.fz,by rw[Jc,Jc,E.len],λj e h=>?_,λj ds h=>?_,λj k ds es q Q M y l=>?_,E.tb⟩
 ·rcases cG h with⟨rfl,hi,g⟩|⟨c,h⟩
  ·cases g
  ·let⟨u,T,U⟩:=E.sl j e h;show⟨u,N c T,U⟩
 ·rcases cG h with⟨rfl,hi,g⟩|⟨c,h⟩
  ·cases g;show⟨p,u,by rw[Jy (by rw[E.len];show hi)],P,R,a_,r⟩
  ·let⟨p,vs,e,q⟩:=E.ow j ds h;show⟨p,vs,N c e,q⟩
 ·rcases cG Q with⟨g,I,_⟩|⟨O,L⟩
  ·rcases cG M with⟨G,_,_⟩|⟨F,z⟩
   ·rw[g,G]
   ·rw[g,Jy (by rw[E.len];show I)]at y;cases y;rw[Jv (Kd F)]at l;show absurd l (J k _ z)
  ·rw[Jv (Kd O)]at y;rcases cG M with⟨G,I,_⟩|⟨F,z⟩
   ·rw[G,Jy (by rw[E.len];show I)]at l;cases l;show absurd y (J j _ L)
   ·rw[Jv (Kd F)]at l;show E.ne j k _ _ q L z y l
def EnvD.putOb(E:EnvD K f Φ H a ρ){i:Nat}{p:Addr}{o o':Ow}{u:HO}(l:ρ[i]?=Z (Z (.ob o)))(F:a[i]?=Z (Z (.ref p)))(r:OwR K Φ o' u):EnvD K f Φ (ao H p u) a (ρ.set i (Z (.ob o'))):=by
 let⟨T,vs,e,L,G,U,_⟩:=E.ow i _ l;rw[F]at e;cases e;have hi:=aA l;refine⟨λb u e=>?_,by rw[Jc,E.len],λj e h=>?_,λj fs h=>?_,λj k fs gs q x y Q R=>?_,E.tb⟩
 ·rw[aR (cU e G)];show E.fz b u e
 ·rcases cG h with⟨rfl,_,w⟩|⟨c,h⟩
  ·cases w
  ·show E.sl j e h
 ·rcases cG h with⟨rfl,_,w⟩|⟨c,h⟩
  ·cases w;show⟨p,u,F,L,G,bh,r⟩
  ·let⟨q,us,e,M,N,O,P⟩:=E.ow j fs h;refine⟨q,us,e,M,N,?_,P⟩;rw[aR λz=>c (E.ne j i fs o p h l (by rw[e,z]) F)];show O
 ·have g:∀{j:Nat}{fs:Ow},(ρ.set i (Z (.ob o')))[j]?=Z (Z (.ob fs))->∃gs,ρ[j]?=Z (Z (.ob gs)):=λ{j fs} h=>by
   rcases cG h with⟨rfl,_,_⟩|⟨_,h⟩
   ·show⟨o,l⟩
   ·show⟨fs,h⟩
  let⟨J,x⟩:=g x;let⟨I,y⟩:=g y;show E.ne j k J I q x y Q R
def EnvD.setOwn(E:EnvD K f Φ H a ρ){p:Addr}(r:RpL K Φ ds vs)(e:f p=ŗ)(g:Φ p=ŗ)(h:H p=Z (.lst vs))(c:∀(j:Nat)(w:Ow),ρ[j]?=Z (Z (.ob w))->a[j]?≠Z (Z (.ref p)))(i:Nat):EnvD K f Φ H (a.set i (Z (.ref p))) (ρ.set i (Z (.own ds))):=E.setOb (o:=.lst ds) (u:=.lst vs) r e g h c i
def EnvD.put(E:EnvD K f Φ H a ρ){i:Nat}{p:Addr}(c:ρ[i]?=Z (Z (.own ds)))(e:a[i]?=Z (Z (.ref p)))(r:RpL K Φ es B):EnvD K f Φ (ao H p (.lst B)) a (ρ.set i (Z (.own es))):=E.putOb (o':=.lst es) (u:=.lst B) c e r
def EnvD.weak{c:bu}(E:EnvD K f Φ H a ρ)(l:c.length=ρ.length)(e:∀(i:Nat) x,c[i]?=Z (Z x)->ρ[i]?=Z (Z x)):EnvD K f Φ H a c:=
 ⟨E.fz,by rw[E.len,l],λi d h=>E.sl i d (e i _ h),λi ds h=>E.ow i ds (e i _ h),λi j ds es p hi g=>E.ne i j ds es p (e i _ hi) (e j _ g),E.tb⟩
end
inductive NF{α:Type}(x:α)(R:α->Prop):Prop|mk (y:α) (_:x=y) (_:R y)
def NF.get{a:Type}{x:a}{R:a->Prop}(h:NF x R):R x:=by let⟨_,rfl,h⟩:=h;show h
noncomputable abbrev TD:=bu->(D->Prop)->Prop
noncomputable abbrev aM:=bu->(Y D->Prop)->Prop
noncomputable abbrev cm:=bu->(Bool->Prop)->Prop
inductive lE(K:Â)(t:TD)(σ:St)(H:Hp)(Q:VK):Prop|mk (H0:Hp) (Φ:Hp) (ρ:bu) (R:D->Prop) (_:EnvD K H0 Φ H σ ρ) (_:t ρ R) (_:∀d Φ' H' v,R d->Gr Φ H Φ' H'->Rp K Φ' d v->Q v H')
inductive lQ(K:Â)(t:TD)(σ:St)(H:Hp)(Q:VK):Prop|mk (H0:Hp) (Φ:Hp) (ρ:bu) (R:D->Prop) (_:EnvD K H0 Φ H σ ρ) (_:t ρ R) (_:∀d Φ' H' v,R d->Gr Φ H Φ' H'->RpQ K Φ' H' d v->Q v H')
inductive lF(K:Â)(t:aM)(σ:St)(H:Hp)(Q:VK):Prop|mk (H0:Hp) (Φ:Hp) (ρ:bu) (R:List D->Prop) (_:EnvD K H0 Φ H σ ρ) (_:t ρ R) (_:∀ds Φ' H' p vs,R ds->Gr Φ H Φ' H'->H p=ŗ->Φ' p=ŗ->H' p=Z (.lst vs)->RpL K Φ' ds vs->Q (.ref p) H')
inductive lA(K:Â)(n:Nat)(t:aM)(σ:St)(H:Hp)(Q:List V->Hp->Prop):Prop|mk (H0:Hp) (Φ:Hp) (ρ:bu) (R:List D->Prop) (_:EnvD K H0 Φ H σ ρ) (_:t ρ R) (_:∀ds Φ' H' vs,R ds->Gr Φ H Φ' H'->RpL K Φ' ds vs->ds.length=n->Q vs H')
inductive lT(K:Â)(t:cm)(σ:St)(H:Hp)(Q:Bool->Hp->Prop):Prop|mk (H0:Hp) (Φ:Hp) (ρ:bu) (R:Bool->Prop) (_:EnvD K H0 Φ H σ ρ) (_:t ρ R) (_:∀b Φ' H',R b->Gr Φ H Φ' H'->Q b H')
structure PD(K:Â)(X:Cx)(e:Ã)(t:TD):Prop where pe:X.K=K->PE X e (lE K t)
structure PQ(K:Â)(X:Cx)(e:Ã)(t:TD):Prop where pe:X.K=K->PE X e (lQ K t)
structure PF(K:Â)(X:Cx)(e:Ã)(t:aM):Prop where pe:X.K=K->PE X e (lF K t)
structure PAD(K:Â)(X:Cx)(es:List Ã)(t:aM):Prop where pa:X.K=K->PA X es (lA K es.length t)
structure PTD(K:Â)(X:Cx)(e:Ã)(t:cm):Prop where pt:X.K=K->PT X e (lT K t)
structure PWD(K:Â)(X:Cx)(e:Ã)(t:cm):Prop where pw:X.K=K->PW X e (lT K t)
def PE.imp{X:Cx}{e:Ã}{t t':TE}(h:PE X e t)(k:∀c H Q,t' c H Q->t c H Q):PE X e t':=λa s c H Q I f=>h a s c H Q I (k c H Q f)
def PT.imp{X:Cx}{e:Ã}{t t':TT}(h:PT X e t)(k:∀c H Q,t' c H Q->t c H Q):PT X e t':=λa s c H Q I f=>h a s c H Q I (k c H Q f)
def PW.imp{X:Cx}{e:Ã}{t t':TT}(h:PW X e t)(k:∀c H Q,t' c H Q->t c H Q):PW X e t':=λg a s c H Q I f=>h g a s c H Q I (k c H Q f)
def PA.imp{X:Cx}{e:Y Ã}{t t':TA}(h:PA X e t)(k:∀c H Q,t' c H Q->t c H Q):PA X e t':=λf a s c H Q I g=>h f a s c H Q I (k c H Q g)
def PS.imp{X:Cx}{e:Ç}{t t':TS}(h:PS X e t)(k:∀D c H,t' D c H->t D c H):PS X e t':=λa s c H D I f=>h a s c H D I (k D c H f)
def PSs.imp{X:Cx}{e:Y Ç}{t t':TS}(h:PSs X e t)(k:∀D c H,t' D c H->t D c H):PSs X e t':=λa s c H D I f=>h a s c H D I (k D c H f)
section
variable{K:Â}{X:Cx}{e a b c:Ã}{es:Y Ã}{l:Ö}{t w tb:TD}{tf:aM}{A:aM}{z B:cm}
def PD.q(h:PD K X e t):PQ K X e t:=⟨λu=>(h.pe u).imp λx H Q p=>by let⟨o,Φ,ρ,R,E,t,k⟩:=p;show⟨o,Φ,ρ,R,E,t,λd f j v r g rr=>k d f j v r g (.inl rr)⟩⟩
noncomputable def nE(t:aM):TD:=λρ R=>t ρ λds=>R (.lst ds)
def PF.d(h:PF K X e tf):PD K X e (nE tf):=⟨λx=>(h.pe x).imp λF H Q u=>by let⟨o,Φ,ρ,R,E,t,k⟩:=u;show⟨o,Φ,ρ,_,E,t,λds C j p vs r g v f y rr=>
 k (.lst ds) _ j _ r (g.freeze v f y) ((rr.same (c9 f _)).lst bh)⟩⟩
noncomputable def uB(i:Nat):TD:=λρ R=>match ρ[i]? with|some (Z (.v d))=>R d|_=>False
noncomputable def tU(i:Nat):TD:=λρ R=>match ρ[i]? with|some (Z (.v d))=>R d|some (Z (.ob (.lst ds)))=>R (.lst ds)|_=>False
def dv(i:Nat){x:Str}(j:X.N[i]?=Z x:=by rfl)(o:cH X.env.scope x:=by nofun)(hd:ab x:=by decide)
  (f:fI x:=by decide):PD K X (.Name x l) (uB i):=⟨λ_=>(pv i j o hd f).imp λu H Q g=>by
 let⟨p,Φ,ρ,R,E,t,k⟩:=g;unfold uB at t;split at t
 ·next d h=>
  let⟨v,e,r⟩:=E.sl i d h;show⟨v,e,k d Φ H v t (.refl E.fz) r⟩
 ·show t.elim⟩
def ac(i:Nat){x:Str}(j:X.N[i]?=Z x:=by rfl)(u:cH X.env.scope x:=by nofun)(hd:ab x:=by decide)
  (f:fI x:=by decide):PQ K X (.Name x l) (tU i):=⟨λ_=>(pv i j u hd f).imp λC H Q g=>by
 let⟨y,Φ,ρ,R,E,t,k⟩:=g;unfold tU at t;split at t
 ·next d h=>
  let⟨v,e,r⟩:=E.sl i d h;show⟨v,e,k d Φ H v t (.refl E.fz) (.inl r)⟩
 ·next ds h=>
  let⟨p,vs,e,_,_,o,r⟩:=E.owl i ds h;show⟨_,e,k _ Φ H _ t (.refl E.fz) (.inr ⟨p,vs,ds,S,S,o,r⟩)⟩
 ·show t.elim⟩
noncomputable def dC(d:D):TD:=λ_ R=>R d
def md{v:V}{d:D}(h:PE X e (tC v))(r:∀Φ,Rp K Φ d v):PD K X e (dC d):=⟨λ_=>h.imp λj H Q f=>by let⟨g,Φ,ρ,R,E,t,k⟩:=f;show k d Φ H v t (.refl E.fz) (r Φ)⟩
def am{i j}:PD K X (.Constant (.int i) j l) (dC (.int i)):=md z9 λ_=>.int i
def dg{i j}:PD K X (.Constant (.bool i) j l) (dC (.bl i)):=md C4 λ_=>.bl i
def jb{i j}:PD K X (.Constant (.str i) j l) (dC (.str i)):=md DL λ_=>.str i
def bi{j}:PD K X (.Constant .none j l) (dC .non):=md AF λ_=>.non
noncomputable abbrev cL:=D->D->(D->Prop)->Prop
inductive lR2(K:Â)(r:cL)(x:V)(y:V)(H:Hp)(Q:VK):Prop|mk (Φ:Hp) (dx:D) (dy:D) (R:D->Prop) (_:Same Φ H) (_:RpQ K Φ H dx x) (_:RpQ K Φ H dy y) (_:r dx dy R) (_:∀d Φ' H' v,R d->Gr Φ H Φ' H'->Rp K Φ' d v->Q v H')
structure OpD(K:Â)(X:Cx)(f:Value->Value->Sem Value)(r:cL):Prop where o:X.K=K->bV X f (lR2 K r)
noncomputable def iY(r:cL)(w tb:TD):TD:=λρ R=>w ρ λx=>tb ρ λy=>r x y R
def nZ{r:cL}{F:St}{H:Hp}{Q:VK}(h:lE K (iY r w tb) F H Q):iF (lR2 K r) (lQ K w) (lQ K tb) F H Q:=by let⟨u,Φ,ρ,R,E,t,k⟩:=h;show⟨u,Φ,ρ,_,E,t,λI o P x N C L=>⟨u,o,ρ,_,E.gr C,N,λJ p U y O f M=>⟨p,I,J,R,f.s,L.gr f,M,O,λd j G v r g rr=>k d j G v r ((C.trans f).trans g) rr⟩⟩⟩
def aS{g:ÿ}{r:cL}(o:OpD K X (Ï g) r)(h:PQ K X a w)(j:PQ K X b tb):PD K X (.BinOp a g b l) (iY r w tb):=
 ⟨λf=>(qE (o.o f) (h.pe f) (j.pe f)).imp λ_ _ _=>nZ⟩
def ed{g:Ĕ}{r:cL}(p:OpD K X (É g) r)(h:PQ K X a w)(j:PQ K X b tb)(o:behindInMarks g b=Ś):PD K X (.Compare a [g] [b] l) (iY r w tb):=
 ⟨λf=>(sH (p.o f) (h.pe f) (j.pe f) o).imp λ_ _ _=>nZ⟩
noncomputable def tG(t:TD):cm:=λρ R=>t ρ λd=>match d with|.bl b=>R b|_=>False
def Af{r:cL}{j:St}{H:Hp}{Q:Bool->Hp->Prop}(h:lT K (tG (iY r w tb)) j H Q):qz (iF (lR2 K r) (lQ K w) (lQ K tb)) j H Q:=by let⟨p,Φ,ρ,R,E,t,k⟩:=h;refine nZ ⟨p,Φ,ρ,_,E,t,λd f o v r g rr=>?_⟩;let⟨b,rfl,r⟩:=i9 r;obtain rfl:=rr.b;show⟨b,S,k b f o r g⟩
def aN{g:Ĕ}{r:cL}(p:OpD K X (É g) r)(h:PQ K X a w)(j:PQ K X b tb)(o:behindInMarks g b=Ś):PTD K X (.Compare a [g] [b] l) (tG (iY r w tb)):=
 ⟨λf=>(wj (p.o f) (h.pe f) (j.pe f) o).imp λ_ _ _=>Af⟩
noncomputable abbrev pQ:=D->(D->Prop)->Prop
noncomputable def w4(r:pQ)(w:TD):TD:=λρ R=>w ρ λx=>r x R
noncomputable def EO:pQ:=λx R=>match x with|.int i=>R (.int (-i))|_=>False
def eD(u:PQ K X a w):PD K X (.UnaryOp .USub a l) (w4 EO w):=⟨λr=>(B2 zP (u.pe r)).imp λC H Q o=>by let⟨h,Φ,ρ,R,E,t,k⟩:=o;show⟨h,Φ,ρ,_,E,t,λy g j x f p v=>by
 let⟨i,rfl,f⟩:=jc f
 show⟨i,v.int,k _ g j _ f p (.int _)⟩⟩⟩
noncomputable def Br:pQ:=λx R=>match x with|.bl i=>R (.bl (!i))|_=>False
def Bt(u:PQ K X a w):PD K X (.UnaryOp .Not a l) (w4 Br w):=⟨λr=>(Gu (u.pe r)).imp λC H Q o=>by let⟨h,Φ,ρ,R,E,t,k⟩:=o;show⟨h,Φ,ρ,_,E,t,λy g j x f p v=>by
 let⟨i,rfl,f⟩:=i9 f
 show⟨i,v.bl,k _ g j _ f p (.bl _)⟩⟩⟩
noncomputable def pW:D->(Bool->Prop)->Prop:=λd R=>match d with
 |.int i=>R (i != 0)|.bl b=>R b|.non=>R Ś|.str x=>x.length<=sizeLine/\R ((x.length:Int) != 0)|.lst ds=>R (!ds.isEmpty)|.tup ds=>R (!ds.isEmpty)|.fzl ds=>R (!ds.isEmpty)|.obj _ _=>False|.map _=>False|.exc _ _=>False
def pK{Φ:Hp}{ds:Y D}{vs:Y V}(h:RpL K Φ ds vs):(!ds.isEmpty)=!vs.isEmpty:=by have:=h.1;cases ds<;>cases vs<;>simp_all
def sP{Φ H:Hp}{d:D}{v:V}{R:Bool->Prop}(s:Same Φ H)(h:RpQ K Φ H d v)(t:pW d R):∃k,rg K v H k/\R k:=by
 cases d with
 |int i=>rw[h.int];show⟨_,S,t⟩
 |bl i=>rw[h.bl];show⟨_,S,t⟩
 |non=>rw[h.non];show⟨_,S,t⟩
 |str i=>rw[h.str];show⟨_,⟨t.1,S⟩,t.2⟩
 |lst ds=>let⟨a,vs,rfl,f,g⟩:=h.lst s;show⟨_,.inl ⟨vs,.of f,S⟩,by rw[←pK g];show t⟩
 |tup ds=>let⟨a,vs,rfl,f,_,g⟩:=h.tup s;show⟨_,.inr (.inl ⟨vs,f,S⟩),by rw[←pK g];show t⟩
 |fzl ds=>let⟨a,vs,rfl,f,g⟩:=h.fzl s;show⟨_,.inl ⟨vs,f,S⟩,by rw[←pK g];show t⟩
 |obj C fs=>show t.elim
 |map j=>show t.elim
 |exc _ _=>show t.elim
noncomputable def A1(t:TD):cm:=λρ R=>t ρ λd=>pW d R
def cn(y:PQ K X a w)(C:∀f,isTrue a X.env f=(do let v ←f;standAt a.pos;holding [v] (truthy v))):PTD K X a (A1 w):=
 ⟨λj=>(wl (y.pe j) C).imp λI H Q r=>by let⟨o,Φ,ρ,R,E,t,k⟩:=r;show⟨o,Φ,ρ,_,E,t,λd g p v G h F=>by
  let⟨b,u,x⟩:=sP h.s F G;rw[j]
  show⟨b,u,k b g p x h⟩⟩⟩
noncomputable def AH(t u:cm):cm:=λρ R=>t ρ λc=>(c=ř->u ρ R)/\(c=Ś->R Ś)
noncomputable def Iv(t u:cm):cm:=λρ R=>t ρ λc=>(c=ř->R ř)/\(c=Ś->u ρ R)
noncomputable def C1(t:cm):cm:=λρ R=>t ρ λc=>R (!c)
def PWD.td(h:PWD K X e z):PTD K X e z:=⟨λf=>(h.pw f).pt⟩
def gI(g:PTD K X a z):PWD K X (.BoolOp .And [a] l) z:=⟨λf=>tq (g.pt f)⟩
def hZ(g:PTD K X a z):PWD K X (.BoolOp .Or [a] l) z:=⟨λf=>xn (g.pt f)⟩
def fh(x:PTD K X a z)(y:PWD K X (.BoolOp .And (b::es) l) B):PWD K X (.BoolOp .And (a::b::es) l) (AH z B):=
 ⟨λo=>(wA (x.pt o) (y.pw o)).imp λF H Q v=>by let⟨j,Φ,ρ,R,E,t,k⟩:=v;show⟨j,Φ,ρ,_,E,t,λc f u r g=>by
  cases c with
  |true=>rw[Jj S];show⟨j,f,ρ,R,E.gr g,r.1 S,λb h p C g'=>k b h p C (g.trans g')⟩
  |false=>rw[Jd 'b'];show k _ f u (r.2 S) g⟩⟩
def ef(x:PTD K X a z)(y:PWD K X (.BoolOp .Or (b::es) l) B):PWD K X (.BoolOp .Or (a::b::es) l) (Iv z B):=
 ⟨λo=>(vq (x.pt o) (y.pw o)).imp λF H Q v=>by let⟨j,Φ,ρ,R,E,t,k⟩:=v;show⟨j,Φ,ρ,_,E,t,λc f u r g=>by
  cases c with
  |true=>rw[Jj S];show k _ f u (r.1 S) g
  |false=>rw[Jd 'b'];show⟨j,f,ρ,R,E.gr g,r.2 S,λb h p C g'=>k b h p C (g.trans g')⟩⟩⟩
def cP(u:PTD K X a z):PTD K X (.UnaryOp .Not a l) (C1 z):=
 ⟨λp=>(Bu (u.pt p)).imp λv H Q o=>by let⟨h,Φ,ρ,R,E,t,k⟩:=o;show⟨h,Φ,ρ,_,E,t,λc f j r g=>k _ f j r g⟩⟩
noncomputable def Go(t u:TD):TD:=λρ R=>t ρ λc=>match c with|.bl c=>(c=ř->u ρ R)/\(c=Ś->R (.bl Ś))|_=>False
def jO{op}(h:PD K X a w):PD K X (.BoolOp op [a] l) w:=⟨λf=>sW (h.pe f)⟩
def iu(y:PD K X a w)(C:PD K X (.BoolOp .And (b::es) l) tb):PD K X (.BoolOp .And (a::b::es) l) (Go w tb):=
 ⟨λo=>(sU (y.pe o) (C.pe o)).imp λI H Q x=>by let⟨j,Φ,ρ,R,E,t,k⟩:=x;show⟨j,Φ,ρ,_,E,t,λc f u v r g G=>by
  let⟨c,rfl,r⟩:=i9 r;obtain rfl:=G.b;refine⟨c,S,?_⟩
  cases c with
  |true=>rw[Jj S];show⟨j,f,ρ,R,E.gr g,r.1 S,λb h p v F g' rr=>k b h p v F (g.trans g') rr⟩
  |false=>rw[Jd 'b'];show k _ f u _ (r.2 S) g (.bl _)⟩⟩
noncomputable def HB(t:cm)(u v:TD):TD:=λρ R=>t ρ λc=>(c=ř->u ρ R)/\(c=Ś->v ρ R)
def oG(F:PTD K X c z)(y:PD K X a w)(C:PD K X b tb):PD K X (.IfExp c a b l) (HB z w tb):=
 ⟨λp=>(A3 (F.pt p) (y.pe p) (C.pe p)).imp λI H Q x=>by let⟨o,Φ,ρ,R,E,t,k⟩:=x;show⟨o,Φ,ρ,_,E,t,λc h G r g=>by
  cases c with
  |true=>rw[Jj S];show⟨o,h,ρ,R,E.gr g,r.1 S,λb f j v u g' rr=>k b f j v u (g.trans g') rr⟩
  |false=>rw[Jd 'b'];show⟨o,h,ρ,R,E.gr g,r.2 S,λb f j v u g' rr=>k b f j v u (g.trans g') rr⟩⟩⟩
noncomputable def xm:aM:=λ_ R=>R []
noncomputable def tm(t:TD)(u:aM):aM:=λρ R=>t ρ λd=>u ρ λds=>R (d::ds)
def ag:PAD K X [] xm:=⟨λ_=>pa_nil.imp λh H Q f=>by let⟨g,Φ,ρ,R,E,t,k⟩:=f;show k [] Φ H [] t (.refl E.fz) .nil S⟩
def ad(y:PD K X e t)(F:PAD K X es A)(G:starEach (e::es) X.env=(Ś,eval e X.env)::starEach es X.env):PAD K X (e::es) (tm t A):=
 ⟨λp=>(eM (y.pe p) (F.pa p) G).imp λM H Q x=>by let⟨j,Φ,ρ,R,E,t,k⟩:=x;show⟨j,Φ,ρ,_,E,t,λd f L v r g J=>⟨j,f,ρ,_,E.gr g,r,λds h u vs I o rl C=>
  k _ h u _ I (g.trans o) (.cons (J.same o.f) rl) (by rw[Jp,Jp,C])⟩⟩⟩
noncomputable def yt(t:aM):TD:=λρ R=>t ρ λds=>R (.tup ds)
noncomputable def BJ(t:aM):aM:=t
def lR{n:Nat}(h:Nat.ble n 1000=ř):n<=sizeLine:=JC (Nat.le_of_ble_eq_true h) 'b'
def bw{x1}(h:PAD K X es A)(u:Nat.ble es.length 1000=ř:=by rfl):PD K X (.Tuple es x1 l) (yt A):=
 ⟨λv=>(qc (h.pa v)).imp λF H Q o=>by let⟨j,Φ,ρ,R,E,t,k⟩:=o;show⟨j,Φ,ρ,_,E,t,λds y C vs r g rl x=>⟨by rw[rl.1,x];show lR u,λp f=>
  k _ _ _ _ r (g.trans (.new g.s f _)) ((rl.same (c9 (g.s.free f) _)).tup bh)⟩⟩⟩
def du(h:PAD K X es A)(u:Nat.ble es.length 1000=ř:=by rfl):PF K X (.List es l) (BJ A):=
 ⟨λv=>(vQ (h.pa v)).imp λF H Q o=>by let⟨j,Φ,ρ,R,E,t,k⟩:=o;show⟨j,Φ,ρ,_,E,t,λds y C vs r g rl x=>⟨by rw[rl.1,x];show lR u,λp f=>
  k _ _ _ p vs r (g.trans (.fresh g.s f _)) (g.h.free f) (g.s.free f) bh rl⟩⟩⟩
end
end L2
namespace L2
open PySem PySem.Spec PyProof.Rows PySem.Builtin PySem.Builtin.Str
section
variable{X:Cx}
noncomputable def kF(z:Str)(lo hi:Ř Int):Str:=⟨(dY z.cps.toList lo hi).toArray⟩
def GV(z:Str)(lo hi:Ř Int):Txt.slice z lo hi=kF z lo hi:=by
 have e:strSliceIndices lo hi 1 z.length=(List.range (HT.sIx z.length z.length hi-HT.sIx z.length 0 lo)).map λk=>HT.sIx z.length 0 lo+k:=by
  have g:∀(i:Int)(d:Nat),max 0 (min (if i<0 then i+(z.length:Int) else i) (z.length:Int))=(HT.sIx z.length d (Z i):Int):=λi d=>by change max 0 (min (if i<0 then i+(z.length:Int) else i) (z.length:Int))=((if i<0 then (i+(z.length:Int)).toNat else min i.toNat z.length:Nat):Int);split<;>omega
  have r:strSliceIndices lo hi 1 z.length=sliceRange (HT.sIx z.length 0 lo:Int) (HT.sIx z.length z.length hi:Int) 1:=by cases lo<;>cases hi<;>simp only[strSliceIndices,show (1:Int)>0 by decide,L4,g _ 0,g _ z.length]<;>rfl
  rw[r];unfold sliceRange;simp only[show (1:Int)>0 by decide,L4]
  have u:(if (HT.sIx z.length 0 lo:Int)<(HT.sIx z.length z.length hi:Int) then ((HT.sIx z.length z.length hi:Int)-(HT.sIx z.length 0 lo:Int)+1-1)/1 else 0).toNat=HT.sIx z.length z.length hi-HT.sIx z.length 0 lo:=by
   split
   ·rw[Int.ediv_one];omega
   ·omega
  rw[u];refine Mx λk _=>?_;omega
 have l:HT.sIx z.length z.length hi<=z.length:=by
  cases hi with
  |none=>show Jg _
  |some i=>
   change (if i<0 then (i+(z.length:Int)).toNat else min i.toNat z.length)<=z.length;split<;>omega
 have w:HT.sIx z.length 0 lo<=z.length:=by
  cases lo with
  |none=>show KU _
  |some i=>
   change (if i<0 then (i+(z.length:Int)).toNat else min i.toNat z.length)<=z.length;split<;>omega
 have f:(strSliceIndices lo hi 1 z.length).filterMap (z.cps[·]?)=dY z.cps.toList lo hi:=by
  rw[e];unfold dY
  have c:z.cps.toList.length=z.length:=by rw[KA];rfl
  rw[c];generalize HT.sIx z.length 0 lo=a;generalize y:HT.sIx z.length z.length hi=b at l;refine Kz λj=>?_;rw[MC]
  have:∀m,m<=b-a->((List.range m).filterMap ((λx=>z.cps[x]?) ∘ λk=>a+k))=(z.cps.toList.drop a).take m:=by
   intro m
   induction m with
   |zero=>intro _;simp
   |succ m v=>
    intro B;rw[Lo,List.filterMap_append,v ()]
    have p:a+m<z.cps.size:=by unfold Str.length at l;omega
    have A:z.cps.toList.drop a=z.cps.toList.drop a:=rfl
    have o:m<(z.cps.toList.drop a).length:=by rw[LH,c];unfold Str.length;omega
    rw[List.take_add_one,LX];congr 1;simp[p]
  rw[this _ (Jg _)]
 unfold Txt.slice kF;split
 ·next h=>
  have o:(strSliceIndices lo hi 1 z.length).length=z.length:=by simpa using h
  have c:z.cps.toList.length=z.length:=by rw[KA];rfl
  have:dY z.cps.toList lo hi=z.cps.toList:=by
   rw[e,IY,Jz]at o;unfold dY;rw[c]
   have:HT.sIx z.length 0 lo=0:=by omega
   rw[this,Nf,Ls (by rw[c];omega)]
  rw[this]
 ·rw[f]
noncomputable def vy:V->Ř Int->Ř Int->Hp->VK->Prop:=λx lo hi H Q=>∃z,x=.str z/\z.length<=sizeLine/\Q (.str (kF z lo hi)) H
def sM{v:Value}{o:Ř Int}(h:î v o):∃p:Ř (Int×Ł),v=partValue p/\p.map (·.1)=o:=by
 cases h with
 |none=>show⟨ŗ,S,S⟩
 |int i t=>show⟨Z (i,t),S,S⟩
def AG:SlR X vy:=by
 intro e s E H x v B C lo hi sl Q I A r pl y h;let⟨z,rfl,w,q⟩:=h;let⟨t,rfl⟩:=A;let⟨a,rfl,rfl⟩:=sM pl;let⟨c,rfl,rfl⟩:=sM y;refine⟨"str",_,F.slot_str_getitem.lookup,ļ _ _ _,?_⟩
 have f:s.heap.IsSlice sl a c ŗ:=by let⟨o,p,g,j⟩:=r;show⟨o,p,g,j⟩
 refine wpAny_getItem_str_slice (l:=a) (u:=c) (st:=ŗ) f S (post_val_or_str ⟨?_,λt' k=>?_⟩)
 ·show JC (Txt.slice_le z _ _) w
 ·refine⟨.str (kF z (a.map (·.1)) (c.map (·.1))),H,?_,⟨t',?_⟩,q⟩
  ·show I.tok _
  ·rw[←GV];rfl
noncomputable def gy(z:Str)(n:Nat):Str:=⟨((List.replicate n z.cps.toList).flatten).toArray⟩
def CU(z:Str):gy z 1=z:=by unfold gy;simp
def uj:∀(n:Nat)(x a:Array Nat),(List.replicate n x).foldl (·++·) a=a++((List.replicate n x.toList).flatten).toArray
 |0,x,a=>by simp
 |n+1,x,a=>by rw[J1,List.foldl_cons,uj n x (a++x),J1,JS];apply ő;simp
def Dq(z:Str)(n:Nat):(gy z n).length=z.length*n:=by unfold gy Str.length;simp[Mq]
noncomputable def Bx:R2:=λx y H Q=>∃z k,x=.str z/\y=.int k/\-(2^62)<=k/\k<2^62/\z.length*k.toNat<=sizeLine/\z.length<=sizeLine/\Q (.str (gy z k.toNat)) H
def DT:bV X (Ï .Mult) Bx:=by
 intro l s J H x y v u Q I w A h;let⟨z,k,rfl,rfl,B,C,g,E,q⟩:=h;let⟨t,rfl⟩:=w;let⟨t',rfl⟩:=A;refine P.mul_str (by rw[JG (),JG ()];rfl) (λo a=>?_) (λo a=>?_) ?_
 ·intro G
  have r:0<k:=by omega
  have p:((z.length:Int))*k<=2^24:=by have:((z.length*k.toNat:Nat):Int)<=(sizeLine:Int):=Int.ofNat_le.mpr g;rw[Int.natCast_mul,Int.toNat_of_nonneg ()]at this;show this
  have F:(z.length:Int)<=(2^63-1)/k:=(Na r).mpr (MW p 'b');omega
 ·unfold tooLong;show JG ()
 ·by_cases c:k<1
  ·rw[Jj c]
   have e:k.toNat=0:=by omega
   rw[e]at q;show⟨'b',.str Str.empty,H,I.tok _,⟨_,S⟩,q⟩
  ·rw[Jd c];by_cases a:(k==1 ||z.length==0)=ř
   ·rw[Jj a]
    have e:gy z k.toNat=z:=by
     rw[Bool.or_eq_true]at a;rcases a with a|a
     ·have:=eq_of_beq a;subst this;show CU z
     ·have j:z.cps.toList=[]:=by have:=eq_of_beq a;unfold Str.length at this;show J5.mp (by rw[KA];show this)
      unfold gy;rw[j]
      have f:z.cps=#[]:=by apply ő;rw[j]
      apply Str.ext';rw[f];simp
    rw[e]at q;show⟨.str z,H,I,⟨t,S⟩,q⟩
   ·rw[Jd a]
    have e:(⟨(List.replicate k.toNat z.cps).foldl (·++·) #[]⟩:Str)=gy z k.toNat:=by rw[uj];unfold gy;simp
    rw[e];refine⟨by rw[Dq];show g,.str (gy z k.toNat),H,I.tok _,⟨_,S⟩,q⟩
end
noncomputable def yB:R2:=λx y H Q=>∃a b xs ys,x=.ref a/\y=.ref b/\H a=Z (.tup xs)/\H b=Z (.tup ys)/\xs.length+ys.length<=sizeLine/\∀p c,Same H c->c p=Z (.tup (xs++ys))->Q (.ref p) c
def Ho{X:Cx}:bV X (Ï .Add) yB:=by
 intro c s C H x y v u Q I l o h;let⟨a,b,xs,ys,rfl,rfl,f,g,w,q⟩:=h;by_cases j:xs=[]
 ·subst j;cases l;cases o;let⟨its,B,z,_⟩:=I.tuple (SqT.of f);let⟨E,F,A,_⟩:=I.tuple (SqT.of g);show Eu z A (B.nil_iff.mpr S) ⟨.ref b,H,I,S,q b H (Same.refl H) g⟩
 ·refine FL c s C H _ _ v u Q I l o ⟨a,b,xs,ys,S,S,SqT.of f,SqT.of g,j,w,λe=>?_,λ_ p r=>q p _ (c9 r _) bh⟩;subst e;show q a H (Same.refl H) (by rw[JM];show f)
noncomputable def Fg:R2:=λx y H Q=>∃(a:Addr)(k:Int)(xs:Y V),x=.ref a/\y=.int k/\H a=Z (.tup xs)/\xs≠[]/\0<=k/\k<=1000/\k.toNat*xs.length<=1000/\∀p c,Same H c->c p=Z (.tup (List.replicate k.toNat xs).flatten)->Q (.ref p) c
def FJ{X:Cx}:bV X (Ï .Mult) Fg:=by
 intro w s σ H x y v u Q I rx ry h;let⟨a,k,xs,rfl,rfl,L,hx,h0,h1,N,q⟩:=h;cases rx;let⟨t,rfl⟩:=ry;let⟨its,r,p1,_⟩:=I.tuple (SqT.of L);have P:its≠[]:=λz=>hx (r.nil_iff.mp z);have b_:=r.length
 have f:its.toArray.isEmpty=Ś:=by cases its with|nil=>show absurd S P|cons _ _=>rfl
 let⟨⟨cls,A,data,sl⟩,c,M,n,hd⟩:=id p1;simp only at M hd;subst M hd
 refine ĕ (T:="tuple") (U:="int") 'b' ⟨_,c,S⟩ (λs'=>MO s' k t) CY F.fills_int_mul Mp GS F.slot_int_index.lookup
  (Lh Mp (MO s k t) F.entry_int_rmul (F.args_int_rmul_2 _ _) (Fh k t a its.toArray n A sl)
   ⟨c,S,⟨_,c,S⟩,?_⟩)
 have E:List.foldl (λx1 x2=>x1++x2) #[] (List.replicate k.toNat its.toArray)=(List.replicate k.toNat its).flatten.toArray:=by have:=pC its k.toNat [];rw[LM]at this;show this
 have G:¬ (decide (k < -(2^63)) ||decide (k≥2^63))=ř:=by rw[JG (),JG ()];show JO
 by_cases K:k=1
 ·subst K;refine Lh LJ ⟨_,c,S⟩ MM (MG _ _) (Cd a its.toArray n A sl t) ⟨c,?_⟩;refine⟨.ref a,H,I,S,q a H (Same.refl H) ?_⟩;change H a=Z (.tup (List.replicate 1 xs).flatten);rw[List.replicate_one,JS,List.flatten_nil,JM];show L
 ·have J:¬ (its.toArray.isEmpty ||k==1)=ř:=by rw[f,K2.mpr K];show JO
  have l:∀ys:Y V,∀us:Y Value,ys.length<=sizeLine->Vals ys us->EP X w σ Q (.ref s.heap.objs.size) { s with heap:=s.heap.push { cls:=Value.type "tuple",data:=ù us.toArray },toks:=s.toks }\/¬ (∀p j,Same H j->j p=Z (.tup ys)->Q (.ref p) j):=λys us C rr=>by
   by_cases O:∀p j,Same H j->j p=Z (.tup ys)->Q (.ref p) j
   ·refine .inl ⟨.ref s.heap.objs.size,_,I.laid (t':=s.toks) (o:=.tup ys) (λb ob z=>Jf _ z) (Jg _) ?_,S,O _ _ (c9 (I.hok.fresh (Jg _)) _) bh⟩;show⟨C,_,rr,IsTupD.new _ _⟩
   ·show .inr O
  by_cases a_:k=0
  ·subst a_;refine Lh LJ ⟨_,c,S⟩ MM (MG _ _) (EN a its.toArray n A sl 0 t G J S) ⟨c,?_⟩;rcases l [] [] (KU _) .nil with z|z
   ·show z
   ·show absurd q z
  ·have R:¬ (decide (k<=0) ||its.toArray.isEmpty)=ř:=by rw[f,JG ()];show JO
   have g:its.length*k.toNat<=1000:=by rw[←b_,Mq];show N
   have B:(its.toArray.size:Int)*k<=1000:=by
    rw[Jo]
    have e:k=((k.toNat:Nat):Int):=by omega
    rw[e]
    exact_mod_cast g
   have hs:(1000:Int)<=((sizeLine:Nat):Int):=by exact_mod_cast small (Jg 1000)
   have be:(List.replicate k.toNat its).flatten.length<=1000:=by rw[qC,Mq];show g
   refine Lh LJ ⟨_,c,S⟩ MM (MG _ _) (G6 a its.toArray n A sl k t G J R () (by unfold Builtin.Tuple.tupleTooMany;rw[JG ()];show JO) (by rw[E,Jo];show small be)) ⟨c,?_⟩;rw[E];rcases l (List.replicate k.toNat xs).flatten (List.replicate k.toNat its).flatten (by rw[qC];show small N) (r.rep k.toNat)with z|z
   ·show z
   ·show absurd q z
end L2
namespace L2
open PySem PySem.Spec PyProof.Rows
section
variable{K:Â}{X:Cx}{e a b:Ã}
noncomputable def AN:cL:=λx y R=>match x,y with
 |.int i,.int j=>R (.int (i+j))
 |.str i,.str j=>i.length+j.length<=sizeLine/\R (.str (i++j))
 |.lst xs,.lst ys=>xs.length+ys.length<=sizeLine/\NF (xs++ys) λc=>R (.lst c)
 |.tup xs,.tup ys=>xs.length+ys.length<=sizeLine/\NF (xs++ys) λc=>R (.tup c)
 |_,_=>False
def bR:OpD K X (Ï .Add) AN:=⟨λU c s B H x y v u Q I z A M=>by
 let⟨Φ,P,o,R,sm,r,w,h,k⟩:=M
 cases P with
 |int i=>
  cases o with
  |int j=>cases r.int;cases w.int;show DQ c s B H _ _ v u Q I z A ⟨i,j,S,S,k _ Φ H _ h (.refl sm) (.int _)⟩
  |_=>show h.elim
 |str i=>
  cases o with
  |str j=>cases r.str;cases w.str;show Ie c s B H _ _ v u Q I z A ⟨i,j,S,S,h.1,k _ Φ H _ h.2 (.refl sm) (.str _)⟩
  |_=>show h.elim
 |lst xs=>
  cases o with
  |lst ys=>
   let⟨a,vs,rfl,F,f⟩:=r.lst sm;let⟨b,C,rfl,G,l⟩:=w.lst sm;show Fy c s B H _ _ v u Q I z A ⟨a,b,vs,C,S,S,F,G,by rw[f.1,l.1];show h.1,λp J=>k _ _ _ _ h.2.get (.new sm J _) (((f.append l).same (c9 (sm.free J) _)).lst bh)⟩
  |_=>show h.elim
 |tup xs=>
  cases o with
  |tup ys=>
   let⟨a,vs,rfl,F,N,f⟩:=r.tup sm;let⟨b,C,rfl,G,O,l⟩:=w.tup sm
   show Ho c s B H _ _ v u Q I z A ⟨a,b,vs,C,S,S,sm _ _ N,sm _ _ O,by rw[f.1,l.1];show h.1,λp L T q=>by
    let⟨E,g,a_⟩:=Gr.adoptT sm T q
    show k _ E L _ h.2.get g (((f.append l).same g.f).tup a_)⟩
  |_=>show h.elim
 |_=>show h.elim⟩
noncomputable def zI(C:Int->Int->Prop)(g:Int->Int->D):cL:=λx y R=>match x,y with|.int i,.int j=>C i j/\R (g i j)|_,_=>False
noncomputable def jf(g:Int->Int->D):cL:=λx y R=>match x,y with|.int i,.int j=>R (g i j)|_,_=>False
def qR{f:Value->Value->Sem Value}{C:Int->Int->Prop}{g:Int->Int->Int}(h:bV X f (rI C λi j=>.int (g i j))):OpD K X f (zI C λi j=>.int (g i j)):=
 ⟨λE c s B H x y v u Q I z A l=>by
  let⟨Φ,o,p,R,sm,r,w,q,k⟩:=l
  cases o with
  |int i=>
   cases p with
   |int j=>cases r.int;cases w.int;show h c s B H _ _ v u Q I z A ⟨i,j,S,S,q.1,k _ Φ H _ q.2 (.refl sm) (.int _)⟩
   |_=>show q.elim
  |_=>show q.elim⟩
def yj{f:Value->Value->Sem Value}{g:Int->Int->Int}(h:bV X f (hJ λi j=>.int (g i j))):OpD K X f (jf λi j=>.int (g i j)):=
 ⟨λC c s B H x y v u Q I z A l=>by
  let⟨Φ,o,p,R,sm,r,w,q,k⟩:=l
  cases o with
  |int i=>
   cases p with
   |int j=>cases r.int;cases w.int;show h c s B H _ _ v u Q I z A ⟨i,j,S,S,k _ Φ H _ q (.refl sm) (.int _)⟩
   |_=>show q.elim
  |_=>show q.elim⟩
def oq{f:Value->Value->Sem Value}{g:Int->Int->Bool}(h:bV X f (hJ λi j=>.bl (g i j))):OpD K X f (jf λi j=>.bl (g i j)):=
 ⟨λC c s B H x y v u Q I z A l=>by
  let⟨Φ,o,p,R,sm,r,w,q,k⟩:=l
  cases o with
  |int i=>
   cases p with
   |int j=>cases r.int;cases w.int;show h c s B H _ _ v u Q I z A ⟨i,j,S,S,k _ Φ H _ q (.refl sm) (.bl _)⟩
   |_=>show q.elim
  |_=>show q.elim⟩
def dh:OpD K X (Ï .Sub) (jf λi j=>.int (i-j)):=yj HN
def qK:OpD K X (Ï .FloorDiv) (zI CDivB λi j=>.int (i/j)):=qR yu
def iR:OpD K X (Ï .Mod) (zI (λ_ j=>0<j) λi j=>.int (i % j)):=qR D8
def pD:OpD K X (Ï .Pow) (zI vP λi j=>.int (i^j.toNat)):=qR GR
def iC:OpD K X (É .Lt) (jf λi j=>.bl (decide (i<j))):=oq DI
def Am:OpD K X (É .LtE) (jf λi j=>.bl (decide (i<=j))):=oq DP
def fq:OpD K X (É .Gt) (jf λi j=>.bl (decide (j<i))):=oq Bg
def ms:OpD K X (É .GtE) (jf λi j=>.bl (decide (j<=i))):=oq A6
noncomputable def Au:cL:=λx y R=>match x,y with
 |.int i,.int j=>Ā i j/\R (.int (i*j))
 |.lst xs,.int k=>(-(2^63)<=k/\k<2^63/\xs.length*k.toNat<=sizeLine)/\NF (List.replicate k.toNat xs).flatten λc=>R (.lst c)
 |.tup xs,.int k=>(xs≠[]/\0<=k/\k<=1000/\k.toNat*xs.length<=1000)/\NF (List.replicate k.toNat xs).flatten λc=>R (.tup c)
 |.str z,.int k=>(-(2^62)<=k/\k<2^62/\z.length*k.toNat<=sizeLine/\z.length<=sizeLine)/\NF (gy z k.toNat) λy=>R (.str y)
 |_,_=>False
def cY:OpD K X (Ï .Mult) Au:=⟨λU c s B H x y v u Q I w A L=>by
 let⟨Φ,N,l,R,sm,o,r,h,k⟩:=L
 cases N with
 |int i=>
  cases l with
  |int j=>cases o.int;cases r.int;show BI c s B H _ _ v u Q I w A ⟨i,j,S,S,h.1,k _ Φ H _ h.2 (.refl sm) (.int _)⟩
  |_=>show h.elim
 |lst xs=>
  cases l with
  |int j=>
   let⟨a,vs,rfl,E,f⟩:=o.lst sm;cases r.int;show uq c s B H _ _ v u Q I w A ⟨a,j,vs,S,S,E,h.1.1,h.1.2.1,by rw[f.1];show h.1.2.2,λp F=>k _ _ _ _ h.2.get (.new sm F _) (((f.rep _).same (c9 (sm.free F) _)).lst bh)⟩
  |_=>show h.elim
 |tup xs=>
  cases l with
  |int j=>
   let⟨a,vs,rfl,E,M,f⟩:=o.tup sm;cases r.int;have J:vs≠[]:=λe=>h.1.1 (J5.mp (by rw[←f.1,e];rfl))
   show FJ c s B H _ _ v u Q I w A ⟨a,j,vs,S,S,sm _ _ M,J,h.1.2.1,h.1.2.2.1,by rw[f.1];show h.1.2.2.2,λp G P q=>by
    let⟨C,g,O⟩:=Gr.adoptT sm P q
    show k _ C G _ h.2.get g (((f.rep _).same g.f).tup O)⟩
  |_=>show h.elim
 |str z=>
  cases l with
  |int j=>
   cases o.str;cases r.int;show DT c s B H _ _ v u Q I w A ⟨z,j,S,S,h.1.1,h.1.2.1,h.1.2.2.1,h.1.2.2.2,k _ Φ H _ h.2.get (.refl sm) (.str _)⟩
  |_=>show h.elim
 |_=>show h.elim⟩
end
noncomputable def gh(f:D->D->Ř Bool):Y D->Y D->Ř Bool
 | [],[]=>Z ř
 |x::xs,y::ys=>(f x y).bind λb=>(gh f xs ys).map (b&&·)
 |_,_=>Z Ś
noncomputable def dL:Nat->D->D->Ř Bool
 |_,.int i,.int j=>Z (i==j)
 |_,.bl i,.bl j=>Z (i==j)
 |_,.str i,.str j=>Z (i==j)
 |_,.non,.non=>Z ř
 |n+1,.tup xs,.tup ys=>gh (dL n) xs ys
 |n+1,.lst xs,.lst ys=>if xs.length=ys.length then gh (dL n) xs ys else Z Ś
 |_,_,_=>ŗ
def oo{f:D->D->Ř Bool}:∀{xs ys:Y D}{b:Bool},gh f xs ys=Z b->∃g:Nat->Bool,(∀(j:Nat)(x y:D),xs[j]?=Z x->ys[j]?=Z y->f x y=Z (g j))/\b=((List.range (min xs.length ys.length)).all g&&xs.length==ys.length)
 | [],[],b,h=>by cases h;show⟨λ_=>ř,λj x y l=>by simp at l,by simp⟩
 | [],_::_,b,h=>by cases h;show⟨λ_=>ř,λj x y l=>by simp at l,by simp⟩
 |_::_,[],b,h=>by cases h;show⟨λ_=>ř,λj x y _ B=>by simp at B,by simp⟩
 |x::xs,y::ys,b,h=>by
  unfold gh at h
  cases e:f x y with
  |none=>rw[e]at h;cases h
  |some c=>
   cases a:gh f xs ys with
   |none=>rw[e,a]at h;cases h
   |some C=>
    rw[e,a]at h;cases h;let⟨g,z,A⟩:=oo a;refine⟨λj=>match j with|0=>c|j+1=>g j,λj u v o p=>?_,?_⟩
    ·cases j with
     |zero=>cases o;cases p;show e
     |succ j=>show z j u v o p
    ·have w:min (x::xs).length (y::ys).length=min xs.length ys.length+1:=by simp only[Jp];omega
     have r:((x::xs).length==(y::ys).length)=(xs.length==ys.length):=by simp
     rw[w,r,List.range_succ_eq_map,Nn,List.all_map,A,Bool.and_assoc];rfl
section
variable{K:Â}{X:Cx}{f:Y (Addr×Õ)}{l:St}{Φ H:Hp}{s:À}
def Cv{n:Nat}{g:Nat->Bool}(h:∀j,j<n->g j=ř):(List.range n).all g=ř:=by rw[KR];intro j a;show h j (JA.mp a)
def bE{a:Type}{xs:Y a}{j:Nat}(h:j<xs.length):xs[j]?=Z xs[j]:=by simp[h]
inductive CmV:Nat->D->D->Bool->Prop
 |int {n:Nat} (i j:Int):CmV n (.int i) (.int j) (i==j)
 |bl {n:Nat} (i j:Bool):CmV n (.bl i) (.bl j) (i==j)
 |str {n:Nat} (i j:Str):CmV n (.str i) (.str j) (i==j)
 |non {n:Nat}:CmV n .non .non ř
 |tup {n:Nat} {xs ys:List D} {b:Bool} (h:gh (dL n) xs ys=Z b):CmV (n+1) (.tup xs) (.tup ys) b
 |lst {n:Nat} {xs ys:List D} {b:Bool} (h:(if xs.length=ys.length then gh (dL n) xs ys else Z Ś)=Z b):CmV (n+1) (.lst xs) (.lst ys) b
def wS{n:Nat}{d e:D}{b:Bool}(h:dL n d e=Z b):CmV n d e b:=by
 unfold dL at h;split at h
 ·cases h;show .int _ _
 ·cases h;show .bl _ _
 ·cases h;show .str _ _
 ·cases h;show .non
 ·show .tup h
 ·show .lst h
 ·cases h
def vE(E:X.K=K)(I:Inv X f l H s)(sm:Same Φ H):∀(n:Nat){d e:D}{b:Bool}{v:V},dL n d e=Z b->Rp K Φ d v->Rp K Φ e v->b=ř:=by
 intro n
 induction n using Nat.strongRecOn with
 |ind n C=>
  intro d e b v h p r
  have all:∀{m:Nat}{xs ys:Y D}{vs:Y V}{b:Bool},m<n->gh (dL m) xs ys=Z b->RpL K Φ xs vs->RpL K Φ ys vs->b=ř:=λ{m xs ys vs b} B h c o=>by
   let⟨g,A,z⟩:=oo h;have G:=c.1;have J:=o.1;rw[z,Cv λj F=>?_]
   ·simp;omega
   ·have w:j<vs.length:=by omega
    have x:j<xs.length:=by omega
    have y:j<ys.length:=by omega
    show C m B (A j _ _ (bE x) (bE y)) (c.2 j _ _ (bE w) (bE x)) (o.2 j _ _ (bE w) (bE y))
  cases wS h with
  |int i j=>obtain rfl:=p.i;cases r;show JK i
  |bl i j=>obtain rfl:=p.b;cases r;show JK i
  |str i j=>obtain rfl:=p.s;cases r;show JK i
  |non=>rfl
  |tup h=>
   cases p with| @tup a vs xs h1 c h3=>cases r with| @tup _ ws ys k1 o k3=>
   have u:vs=ws:=I.tuple_inj (.of (sm _ _ h1)) (.of (sm _ _ k1));subst u;show all (Li _) h ⟨c,h3⟩ ⟨o,k3⟩
  |lst h=>
   cases p with| @lst a vs xs h1 c h3=>cases r with| @lst _ ws ys k1 o k3=>
   have u:vs=ws:=by rw[h1]at k1;cases k1;rfl
   subst u;rw[Jj (c.symm.trans o)]at h;show all (Li _) h ⟨c,h3⟩ ⟨o,k3⟩
open PySem.SeqAt in
def wz(hK:X.K=K)(I:Inv X f l H s)(sm:Same Φ H):∀(n:Nat){d e:D}{b:Bool}{x y:V},dL n d e=Z b->Rp K Φ d x->Rp K Φ e y->
  ∀(A:Ê)(u v:Value),A.units+n<å->RelV x u->RelV y v->EqAt A s u v b/\RcAt A s u v b/\RcNeAt A s u v (!b):=by
 intro n
 induction n using Nat.strongRecOn with
 |ind n ih=>
  intro d e b x y h o p A u v hu M N
  have r:∀{m:Nat}{xs ys:Y D}{vs J:Y V}{its NP:Y Value}{g:Nat->Bool},m+1=n->(∀(j:Nat)(x y:D),xs[j]?=Z x->ys[j]?=Z y->dL m x y=Z (g j))->RpL K Φ xs vs->RpL K Φ ys J->Vals vs its->Vals J NP->∀j (j1:j<its.toArray.size) (j2:j<NP.toArray.size),EqAt A.in1 s its.toArray[j] NP.toArray[j] (g j):=λ{m xs ys vs J its NP g} hm be C E w z j j1 j2=>by
   have l1:=Vals.length w;have l2:=Vals.length z;have m1:=C.1;have m2:=E.1;simp only[Jo]at j1 j2;let⟨x,hx,o⟩:=Vals.get' w j1;let⟨y,hy,p⟩:=Vals.get' z j2
   have i1:j<xs.length:=by omega
   have i2:j<ys.length:=by omega
   show (ih m () (be j _ _ (bE i1) (bE i2)) (C.2 j x _ hx (bE i1)) (E.2 j y _ hy (bE i2)) A.in1 _ _ (by change A.units+1+m<å;omega) o p).1
  have L:A.units<å:=by omega
  cases wS h with
  |int i j=>obtain rfl:=o.i;obtain rfl:=p.i;let⟨t,rfl⟩:=M;let⟨t',rfl⟩:=N;show⟨EqAt.int_int i t j t',RcAt.int_int i t j t',RcNeAt.int_int i t j t'⟩
  |bl i j=>obtain rfl:=o.b;obtain rfl:=p.b;cases M;cases N;show⟨EqAt.bool_bool i j,RcAt.bool_bool i j,RcNeAt.bool_bool i j⟩
  |str i j=>obtain rfl:=o.s;obtain rfl:=p.s;let⟨t,rfl⟩:=M;let⟨t',rfl⟩:=N;show⟨EqAt.str_str i t j t',RcAt.str_str i t j t',RcNeAt.str_str i t j t'⟩
  |non=>obtain rfl:=o.n;obtain rfl:=p.n;cases M;cases N;show⟨EqAt.same _,RcAt.none_none,RcNeAt.none_none⟩
  | @tup n xs ys b q=>
   have T:=o;have U:=p
   cases o with| @tup a vs _ h1 C h3=>cases p with| @tup c J _ k1 E k3=>
   cases M;cases N;let⟨g,be,b_⟩:=oo q;let⟨its,w,F,_⟩:=I.sqb (b:=Ś) (show SqT X.K H a vs from .of (sm _ _ h1));let⟨NP,z,G,_⟩:=I.sqb (b:=Ś) (show SqT X.K H c J from .of (sm _ _ k1));have l1:=Vals.length w;have l2:=Vals.length z;have Q:=r S be ⟨C,h3⟩ ⟨E,k3⟩ w z;have R:=RcAt.tuples (e:=g) F G L Q;have P:=RcNeAt.tuples (e:=g) F G L Q
   have a_:((List.range (min its.toArray.size NP.toArray.size)).all g&&its.toArray.size==NP.toArray.size)=b:=by rw[b_];simp only[Jo];rw[←l1,←l2,C,E]
   rw[a_]at R P;refine⟨?_,R,P⟩;by_cases O:a=c
   ·subst O;rw[vE hK I sm (n+1) h T U];show EqAt.same _
   ·show EqAt.of_refs O R
  | @lst n xs ys b q=>
   have T:=o;have U:=p
   cases o with| @lst a vs _ h1 C h3=>cases p with| @lst c J _ k1 E k3=>
   cases M;cases N;let⟨its,w,F,_⟩:=I.sqb (b:=ř) (show SqL X.K H a vs from SqL.of (sm _ _ h1));let⟨NP,z,G,_⟩:=I.sqb (b:=ř) (show SqL X.K H c J from SqL.of (sm _ _ k1));have l1:=Vals.length w;have l2:=Vals.length z
   have B:RcAt A s (.ref a) (.ref c) b/\RcNeAt A s (.ref a) (.ref c) (!b):=by
    by_cases hl:xs.length=ys.length
    ·rw[Jj hl]at q;let⟨g,be,b_⟩:=oo q;have Q:=r S be ⟨C,h3⟩ ⟨E,k3⟩ w z
     have hsz:its.toArray.size=NP.toArray.size:=by simp;omega
     have R:=RcAt.lists (e:=g) F G hsz L Q;have P:=RcNeAt.lists (e:=g) F G hsz L Q
     have a_:(List.range its.toArray.size).all g=b:=by
      have e1:min xs.length ys.length=its.length:=by omega
      have e2:(xs.length==ys.length)=ř:=by simp[hl]
      rw[b_,e1,e2,Bool.and_true,Jo]
     rw[a_]at R P;show⟨R,P⟩
    ·rw[Jd hl]at q;cases q
     have hsz:(its.toArray.size != NP.toArray.size)=ř:=by simp;omega
     show⟨RcAt.lists_lengths F G hsz L,RcNeAt.lists_lengths F G hsz L⟩
   refine⟨?_,B.1,B.2⟩;by_cases O:a=c
   ·subst O;rw[vE hK I sm (n+1) h T U];show EqAt.same _
   ·show EqAt.of_refs O B.1
end
noncomputable def nQ:cL:=λx y R=>match dL 40 x y with|some b=>R (.bl b)|none=>False
noncomputable def ve:cL:=λx y R=>match dL 40 x y with|some b=>R (.bl (!b))|none=>False
section
variable{K:Â}{X:Cx}
def RpQ.any{Φ H:Hp}{d:D}{v:V}(h:RpQ K Φ H d v)(s:Same Φ H):Rp K H d v:=by
 rcases h with h|⟨a,vs,ds,e,c,f,g⟩
 ·show h.same s
 ·subst e c;show (g.same s).lst f
def dA(r:X.A.units+64<å):OpD K X (É .Eq) nQ:=⟨λe a s w H x y u v Q I j l c=>by
 let⟨Φ,o,p,R,sm,f,g,h,k⟩:=c;unfold nQ at h;split at h
 ·next b hb=>show (wz e I (Same.refl H) 40 hb (f.any sm) (g.any sm) X.A u v () j l).2.1 X.prog X.w _ _ ⟨.bl b,H,I,S,k _ Φ H _ h (.refl sm) (.bl b)⟩
 ·show h.elim⟩
def fH(r:X.A.units+64<å):OpD K X (É .NotEq) ve:=⟨λe a s w H x y u v Q I j l c=>by
 let⟨Φ,o,p,R,sm,f,g,h,k⟩:=c;unfold ve at h;split at h
 ·next b hb=>show (wz e I (Same.refl H) 40 hb (f.any sm) (g.any sm) X.A u v () j l).2.2 X.prog X.w _ _ ⟨.bl (!b),H,I,S,k _ Φ H _ h (.refl sm) (.bl _)⟩
 ·show h.elim⟩
noncomputable def eY:D->Bool
 |.non=>ř
 |_=>Ś
noncomputable def uP(c:Bool):cL:=λx y R=>match y with|.non=>R (.bl (eY x != c))|.bl b=>(match x with|.bl a=>R (.bl ((a==b) != c))|_=>False)|_=>False
def vk{Φ H:Hp}{d:D}{v:V}(h:RpQ K Φ H d v):decide (v=V.non)=eY d:=by
 cases d with
 |int i=>rw[h.int];rfl
 |bl i=>rw[h.bl];rfl
 |str i=>rw[h.str];rfl
 |non=>rw[h.non];rfl
 |tup ds=>rcases h with h|⟨a, vs, ds, e, _⟩
          · cases h; rfl
          · cases e
 |lst ds=>rcases h with h|⟨a, vs, ds, e, c, _⟩
          · cases h; rfl
          · rw [c]; rfl
 |fzl ds=>rcases h with h|⟨a, vs, ds, e, _⟩
          · cases h; rfl
          · cases e
 |obj C fs=>rcases h with h|⟨a, vs, ds, e, _⟩
            · cases h; rfl
            · cases e
 |map f=>rcases h with h|⟨a, vs, ds, e, _⟩
         · cases h; rfl
         · cases e
 |exc _ _=>rcases h with h|⟨a, vs, ds, e, _⟩
           · cases h<;>rfl
           · cases e
def eR:OpD K X (É .Is) (uP Ś):=⟨λw c s l H x y u v Q I g j o=>by
 let⟨Φ,p,r,R,sm,e,f,h,k⟩:=o
 cases r with
 |non=>
  cases f.non;refine xI c s l H _ _ u v Q I g j ⟨S,?_⟩;rw[vk e];have h':R (.bl (eY p != Ś)):=h;rw[ĺ]at h';show k _ Φ H _ h' (.refl sm) (.bl _)
 |bl b=>
  cases f.bl;let⟨a,rfl,h⟩:=i9 h;cases e.bl;have h':R (.bl ((a==b) != Ś)):=h;rw[ĺ]at h';show CO c s l H _ _ u v Q I g j ⟨a,b,S,S,k _ Φ H _ h' (.refl sm) (.bl _)⟩
 |_=>show h.elim⟩
def dN:OpD K X (É .IsNot) (uP ř):=⟨λw c s l H x y u v Q I g j o=>by
 let⟨Φ,p,r,R,sm,e,f,h,k⟩:=o
 cases r with
 |non=>
  cases f.non;refine BY c s l H _ _ u v Q I g j ⟨S,?_⟩;rw[vk e];have h':R (.bl (eY p != ř)):=h;rw[ń]at h';show k _ Φ H _ h' (.refl sm) (.bl _)
 |bl b=>
  cases f.bl;let⟨a,rfl,h⟩:=i9 h;cases e.bl;have h':R (.bl ((a==b) != ř)):=h;rw[ń]at h';show xP c s l H _ _ u v Q I g j ⟨a,b,S,S,k _ Φ H _ h' (.refl sm) (.bl _)⟩
 |_=>show h.elim⟩
end
end L2
namespace HT
open PySem PySem.Spec PyProof.Rows
def getItem_tuple_all{prog:Å}{w:È}{A:Ê}{E:Value->À->Prop}{s:À}{t sl:Addr}{a:Array Value}{j l:Value}{lo hi:Ř Int}{Q:Value->À->Prop}(e:ġ s.heap t a)(f:s.heap.IsSliceOf sl j l .none)(pl:î j lo)(v:î l hi)
  (g:sIx a.size 0 lo=0/\sIx a.size a.size hi=a.size) (h:Q (.ref t) s):wpAny (Ä prog w) A (ä (.ref t) (.ref sl)) Q E s:=by
 let⟨os,o,p,x⟩:=id f;have u:s.TypeIs (.ref sl) "slice":=⟨os,o,p⟩;unfold ä
 try with_reducible refine KQ ?_
 first|refine Jb (Jr ?_)|skip
 refine Jb (ņ e.typeIs 'b' ?_)
 refine Jb (Kr (name:=Str.ofString "__getitem__") e.typeIs Kf
  (K4 Kf e.typeIs Ĺ ?_ (ł _ _)))
 change wpAny _ _ (Builtin.Tuple.tupleItemsOf (.ref t) >>= _) _ _ s;refine Jb (tupleItemsOf_ e ?_);refine Jb (ĥ u ?_);rw[Jj 'b'];refine Jb (vK f pl v ?_)
 have r:(((sIx a.size 0 lo:Nat):Int)==0&&(1:Int)==1&&(sIx a.size a.size hi-sIx a.size 0 lo)==a.size)=ř:=by rw[g.1,g.2];simp
 change wpAny _ _ (if (((sIx a.size 0 lo:Nat):Int)==0&&(1:Int)==1&&(sIx a.size a.size hi-sIx a.size 0 lo)==a.size)=ř then _ else _) _ _ s;rw[Jj r];refine Jb (show wpAny _ _ (typeOf (.ref t) >>= λc=>pure (c==.type "tuple")) _ _ s from Jb (ĥ e.typeIs (Jr ?_)));rw[Jj 'b'];show Jb (ď (Jr ⟨_,S,Jr h⟩))
end HT
namespace L2
open PySem PySem.Spec PyProof.Rows
section
variable{K:Â}{X:Cx}{e a b c:Ã}{es:Y Ã}{A L:Ö}{t B tb:TD}{C:aM}
noncomputable def mJ:cL:=λx y R=>match y with
 |.int i=>(match x with
  |.lst ds=>∃d,cF ds i=Z d/\R d
  |.tup ds=>∃d,cF ds i=Z d/\R d
  |.fzl ds=>∃d,cF ds i=Z d/\R d
  |.str z=>z.length<=sizeLine/\∃c,cF z.cps.toList i=Z c/\R (.str ⟨#[c]⟩)
  |_=>False)
 |_=>False
def nP{Φ:Hp}{ds:Y D}{vs:Y V}{d:D}{i:Int}(h:RpL K Φ ds vs)(e:cF ds i=Z d):∃v,cF vs i=Z v/\Rp K Φ d v:=by
 unfold cF at e ⊢;rw[h.1]
 cases f:gu ds.length i with
 |none=>rw[f]at e;cases e
 |some j=>
  rw[f,ģ]at e;rw[ģ];show h.at e
def uG(P:X.K=K):jF X (lR2 K mJ):=by
 intro g f j s O H x y v u Q I M N ⟨Φ,be,a_,R,sm,J,U,h,k⟩ G;let⟨i,rfl,h⟩:=jc h;cases U.int
 cases be with
 |lst ds=>
  let⟨d,l,o⟩:=h;let⟨a,vs,rfl,E,F⟩:=J.lst sm;let⟨w,r,p⟩:=nP F l;show qy g f j s O H _ _ v u Q I M N ⟨a,vs,i,w,S,S,.of E,r,k _ Φ H _ o (.refl sm) p⟩ G
 |tup ds=>
  let⟨d,l,o⟩:=h;let⟨a,vs,rfl,E,_,F⟩:=J.tup sm;let⟨w,r,p⟩:=nP F l;show AX g f j s O H _ _ v u Q I M N ⟨a,vs,i,w,S,S,P▸E,r,k _ Φ H _ o (.refl sm) p⟩ G
 |fzl ds=>
  let⟨d,l,o⟩:=h;let⟨a,vs,rfl,E,F⟩:=J.fzl sm;let⟨w,r,p⟩:=nP F l;show qy g f j s O H _ _ v u Q I M N ⟨a,vs,i,w,S,S,P▸E,r,k _ Φ H _ o (.refl sm) p⟩ G
 |str z=>
  let⟨T,c,l,o⟩:=h;cases J.str;show BK g f j s O H _ _ v u Q I M N ⟨z,i,c,S,S,T,l,k _ Φ H _ o (.refl sm) (.str _)⟩ G
 |_=>show h.elim
def bA(g:PQ K X a B)(h:PQ K X b tb)(j:oA b):PD K X (.Subscript a b A) (iY mJ B tb):=
 ⟨λf=>(pf (uG f) (g.pe f) (h.pe f) j).imp λ_ _ _=>nZ⟩
noncomputable abbrev jn:=bu->(Ř Int->Prop)->Prop
def ax{i:Int}{j:Ł}{p:Ö}(f:PQ K X a B):PD K X (.Subscript a (.Constant (.int i) j p) A) (iY mJ B (dC (.int i))):=bA f (PD.q am) λ_ _=>rfl
inductive lO(K:Â)(t:jn)(σ:St)(H:Hp)(Q:Option Int->Hp->Prop):Prop|mk (H0:Hp) (Φ:Hp) (ρ:bu) (R:Option Int->Prop) (_:EnvD K H0 Φ H σ ρ) (_:t ρ R) (_:∀o Φ' H',R o->Gr Φ H Φ' H'->Q o H')
structure POD(K:Â)(X:Cx)(e:Option Ã)(t:jn):Prop where po:X.K=K->PO X e (lO K t)
noncomputable def G3:jn:=λ_ R=>R ŗ
noncomputable def Fx(t:TD):jn:=λρ R=>t ρ λd=>match d with|.int i=>R (Z i)|_=>False
def PO.imp{o:Ř Ã}{t t':TO}(h:PO X o t)(k:∀g H Q,t' g H Q->t g H Q):PO X o t':=λf s g H Q I j=>h f s g H Q I (k g H Q j)
def Ab:POD K X ŗ G3:=⟨λ_=>po_none.imp λh H Q f=>by let⟨g,Φ,ρ,R,E,t,k⟩:=f;show k ŗ Φ H t (.refl E.fz)⟩
def Ct(h:PQ K X e t):POD K X (Z e) (Fx t):=⟨λp=>(zU (h.pe p)).imp λw H Q o=>by let⟨j,Φ,ρ,R,E,t,k⟩:=o;show⟨j,Φ,ρ,_,E,t,λd f l v r g u=>by
 let⟨i,rfl,r⟩:=jc r
 show⟨i,u.int,k _ f l r g⟩⟩⟩
variable{lo hi:Ř Ã}{to G:jn}
noncomputable def sZ(K:Â):V->Ř Int->Ř Int->Hp->VK->Prop:=λx lo hi H Q=>∃a xs,x=.ref a/\SqT K H a xs/\(HT.sIx xs.length 0 lo=0/\HT.sIx xs.length xs.length hi=xs.length)/\Q (.ref a) H
def sl_all:SlR X (sZ X.K):=by
 intro j s F H x v z E lo hi sl Q I w l pl u h;let⟨a,xs,rfl,p,o,q⟩:=h;cases w;let⟨its,r,g,y⟩:=I.tuple p
 have f:its.toArray.size=xs.length:=by rw[Jo];show r.length.symm
 refine⟨"tuple",_,Kf.lookup,g.typeIs,?_⟩;show HT.getItem_tuple_all g l pl u (by rw[f];show o) ⟨.ref a,H,I,S,q⟩
def y9{g:Type}{xs:Y g}{l h:Ř Int}(f:HT.sIx xs.length 0 l=0/\HT.sIx xs.length xs.length h=xs.length):dY xs l h=xs:=by unfold dY;rw[f.1,f.2,Nf,Nat.sub_zero,Kt]
noncomputable def Hh(x:D)(l h:Ř Int)(R:D->Prop):Prop:=match x with
 |.lst ds=>NF (dY ds l h) λf=>R (.lst f)
 |.fzl ds=>NF (dY ds l h) λf=>R (.lst f)
 |.tup ds=>NF (dY ds l h) λf=>R (.tup f)
 |.str z=>z.length<=sizeLine/\NF (kF z l h) λy=>R (.str y)
 |_=>False
noncomputable def Ii(t:TD)(to G:jn):TD:=λρ R=>t ρ λx=>to ρ λl=>G ρ λh=>Hh x l h R
def BN(T:PQ K X a B)(a_:POD K X lo to)(U:POD K X hi G):PD K X (.Subscript a (.Slice lo hi ŗ L) A) (Ii B to G):=
 ⟨λv=>(Cp (v▸sl_list.or (sl_tup.or (sl_all.or AG)):SlR X (λx lo hi H Q=>tK K x lo hi H Q\/wa K x lo hi H Q\/sZ K x lo hi H Q\/vy x lo hi H Q)) (T.pe v) (a_.po v) (U.po v)).imp λσ H Q P=>by let⟨w,Φ,ρ,R,E,t,k⟩:=P;exact
  ⟨w,Φ,ρ,_,E,t,λbe J H1 x t1 y rx=>⟨w,J,ρ,_,E.gr y,t1,λl M H2 t2 F=>⟨w,M,ρ,_,(E.gr y).gr F,t2,λh Φ3 H3 o N=>by
   have g:=(y.trans F).trans N;have u:=rx.gr (F.trans N)
   cases be with
   |lst ds=>
    let⟨a,vs,rfl,r,j⟩:=u.lst g.s;show .inl ⟨a,vs,S,.of r,λp f=>k _ _ _ _ o.get (g.trans (.new g.s f _)) (((j.cut l h).same (c9 (g.s.free f) _)).lst bh)⟩
   |fzl ds=>
    let⟨a,vs,rfl,r,j⟩:=u.fzl g.s;show .inl ⟨a,vs,S,r,λp f=>k _ _ _ _ o.get (g.trans (.new g.s f _)) (((j.cut l h).same (c9 (g.s.free f) _)).lst bh)⟩
   |tup ds=>
    let⟨a,vs,rfl,r,b_,j⟩:=u.tup g.s;by_cases I:HT.sIx vs.length 0 l=0/\HT.sIx vs.length vs.length h=vs.length
    ·refine .inr (.inr (.inl ⟨a,vs,S,r,I,?_⟩));have e:dY ds l h=ds:=y9 (by rw[←j.1];show I);have O:=o.get;rw[e]at O;show k _ _ _ _ O g (j.tup b_)
    ·show .inr (.inl ⟨a,vs,S,r,I,λp f=>k _ _ _ _ o.get (g.trans (.new g.s f _)) (((j.cut l h).same (c9 (g.s.free f) _)).tup bh)⟩)
   |str z=>
    cases u.str;show .inr (.inr (.inr ⟨z,S,o.1,k _ _ _ _ o.2.get g (.str _)⟩))
   |_=>show o.elim⟩⟩⟩⟩
noncomputable def Dx(B tb:TD):aM:=λρ R=>B ρ λx=>tb ρ λy=>match x,y with|.lst xs,.int k=>(-(2^63)<=k/\k<2^63/\xs.length*k.toNat<=sizeLine)/\NF (List.replicate k.toNat xs).flatten R|_,_=>False
def Hx(N:PQ K X a B)(O:PQ K X b tb):PF K X (.BinOp a .Mult b A) (Dx B tb):=
 ⟨λz=>(qE uq (N.pe z) (O.pe z)).imp λσ H Q F=>by let⟨r,Φ,ρ,R,E,t,k⟩:=F;show⟨r,Φ,ρ,_,E,t,λI o a_ x T u P=>⟨r,o,ρ,_,E.gr u,T,λJ U b_ y f v be=>by
  have g:=u.trans v;have l:=P.gr v
  cases I with
  |lst xs=>cases J with
   |int j=>
    let⟨a,vs,rfl,M,w⟩:=l.lst g.s;cases be.int;show⟨a,j,vs,S,S,M,f.1.1,f.1.2.1,by rw[w.1];show f.1.2.2,λp h=>k _ _ _ p _ f.2.get (g.trans (.fresh g.s h _)) (g.h.free h) (g.s.free h) bh (w.rep _)⟩
   |_=>show f.elim
  |_=>show f.elim⟩⟩⟩
noncomputable abbrev cb:=Y D->(D->Prop)->Prop
inductive lSp(K:Â)(sp:cb)(vs:List V)(H:Hp)(Q:VK)(E_:XK):Prop|mk (Φ:Hp) (ds:List D) (R:D->Prop) (_:Same Φ H) (_:TabF K Φ) (_:RpL K Φ ds vs) (_:sp ds R) (_:∀d Φ' H' v,R d->Gr Φ H Φ' H'->Rp K Φ' d v->Q v H')
noncomputable def mK(sp:cb)(t:aM):TD:=λρ R=>t ρ λds=>sp ds R
variable{CX:dZ}{k:Nat}{f:Addr}{J:Í}{ps:Y Str}{sp:cb}{x:Str}{p:Ö}{E:XK}
def yk(F:FnOk X.prog X.w X.K X.mg X.base CX k f J ps (lSp K sp))(T:Room k X.A)(O:Gl X x)(be:X.mg x=Z (.ref f))(P:ã X.K (.ref f)=ř)(M:Binds X.K J ps [])(U:i6 CX X E)
  (I:PAD K X (e::es) C) (N:starEach (e::es) X.env=(Ś,eval e X.env)::starEach es X.env) (u:(backTo A (starEach es X.env)).any (·.1)=Ś) (y:ab x:=by decide) :
  PD K X (.Call (.Name x p) (e::es) [] A) (mK sp C):=
 ⟨λz=>(pU F T O be P M .nil U (I.pa z) y N u).imp λσ H Q w=>by let⟨o,Φ,ρ,R,E,t,k⟩:=w;show⟨o,Φ,ρ,_,E,t,λds j H1 vs r g rl _=>⟨j,ds,R,g.s,E.tb.same g.f,by rw[JM];show rl,r,λd h l v a_ g' b_=>k d h l v a_ (g.trans g') b_⟩⟩⟩
noncomputable def ng(K:Â)(Φ H:Hp)(ds:Y D)(vs:Y V):Prop:=vs.length=ds.length/\∀(i:Nat)(v:V)(d:D),vs[i]?=Z v->ds[i]?=Z d->RpQ K Φ H d v
inductive lAQ(K:Â)(t:aM)(σ:St)(H:Hp)(Q:List V->Hp->Prop):Prop|mk (H0:Hp) (Φ:Hp) (ρ:bu) (R:List D->Prop) (_:EnvD K H0 Φ H σ ρ) (_:t ρ R) (_:∀ds Φ' H' vs,R ds->Gr Φ H Φ' H'->ng K Φ' H' ds vs->Q vs H')
structure PAQ(K:Â)(X:Cx)(es:List Ã)(t:aM):Prop where pa:X.K=K->PA X es (lAQ K t)
def aY:PAQ K X [] xm:=⟨λ_=>pa_nil.imp λl H Q g=>by let⟨j,Φ,ρ,R,E,t,k⟩:=g;show k [] Φ H [] t (.refl E.fz) ⟨S,λi v d h _=>by simp at h⟩⟩
def aO(I:PQ K X e t)(M:PAQ K X es C)(N:starEach (e::es) X.env=(Ś,eval e X.env)::starEach es X.env):PAQ K X (e::es) (tm t C):=
 ⟨λw=>(eM (I.pe w) (M.pa w) N).imp λT H Q F=>by let⟨l,Φ,ρ,R,E,t,k⟩:=F;show⟨l,Φ,ρ,_,E,t,λd h U v r g P=>⟨l,h,ρ,_,E.gr g,r,λds j z vs O o rl=>
  k _ j z _ O (g.trans o) ⟨by simp[rl.1],λi u d y hd=>by
   cases i with
   |zero=>cases y;cases hd;show P.gr o
   |succ i=>show rl.2 i u d y hd⟩⟩⟩⟩
inductive lC(K:Â)(r:cb)(vs:List V)(H:Hp)(Q:VK):Prop|mk (Φ:Hp) (ds:List D) (R:D->Prop) (_:Same Φ H) (_:ng K Φ H ds vs) (_:r ds R) (_:∀d Φ' H' v,R d->Gr Φ H Φ' H'->Rp K Φ' d v->Q v H')
structure CallD(K:Â)(X:Cx)(f:Value)(r:cb):Prop where c:X.K=K->dS X f (lC K r)
def bN{id:String}{r:cb}(I:CallD K X (.builtin id) r)(N:Gl X x)(O:X.mg x=ŗ)(be:Û x=Z (.builtin id))(F:PAQ K X (e::es) C)
  (M:starEach (e::es) X.env=(Ś,eval e X.env)::starEach es X.env) (w:(backTo A (starEach es X.env)).any (·.1)=Ś) (P:x≠"__name__":=by decide) (z:ab x:=by decide):PD K X (.Call (.Name x p) (e::es) [] A) (mK r C):=
 ⟨λl=>(sY (I.c l) N O be (F.pa l) P z M w).imp λb_ H Q y=>by let⟨u,Φ,ρ,R,E,t,k⟩:=y;show⟨u,Φ,ρ,_,E,t,λds j a_ vs r g rl=>⟨j,ds,R,g.s,rl,r,λd h o v T g' U=>k d h o v T (g.trans g') U⟩⟩⟩
def cu{T:String}{r:cb}(I:CallD K X (.type T) r)(N:Gl X x)(O:X.mg x=ŗ)(be:Û x=Z (.type T))(F:PAQ K X (e::es) C)
  (M:starEach (e::es) X.env=(Ś,eval e X.env)::starEach es X.env) (w:(backTo A (starEach es X.env)).any (·.1)=Ś) (P:x≠"__name__":=by decide) (z:ab x:=by decide):PD K X (.Call (.Name x p) (e::es) [] A) (mK r C):=
 ⟨λl=>(kG (I.c l) N O be (F.pa l) P z M w).imp λσ H Q y=>by let⟨u,Φ,ρ,R,E,t,k⟩:=y;show⟨u,Φ,ρ,_,E,t,λds j b_ vs r g rl=>⟨j,ds,R,g.s,rl,r,λd h o v U g' a_=>k d h o v U (g.trans g') a_⟩⟩⟩
def fm{Φ H:Hp}{d:D}{vs:Y V}(h:ng K Φ H [d] vs):∃v,vs=[v]/\RpQ K Φ H d v:=by
 let⟨j,g⟩:=h
 match vs,j,g with
 | [v],_,g=>show⟨v,S,g 0 v d S S⟩
def vz{Φ H:Hp}{d e:D}{vs:Y V}(h:ng K Φ H [d,e] vs):∃v w,vs=[v,w]/\RpQ K Φ H d v/\RpQ K Φ H e w:=by
 let⟨j,g⟩:=h
 match vs,j,g with
 | [v,w],_,g=>show⟨v,w,S,g 0 v d S S,g 1 w e S S⟩
noncomputable def Ao:cb:=λds R=>match ds with| [.lst xs]=>R (.int xs.length)| [.tup xs]=>R (.int xs.length)| [.fzl xs]=>R (.int xs.length)| [.str z]=>z.length<=sizeLine/\R (.int z.length)|_=>False
def da:CallD K X (.builtin "len") Ao:=⟨λw g s u H xs us Q I rr y=>by
 let⟨Φ,ds,R,sm,o,h,k⟩:=y
 match ds,h with
 | [.lst xs],h=>
  let⟨v,rfl,r⟩:=fm o;let⟨a,vs,rfl,j,l⟩:=r.lst sm;show qh g s u H _ us Q I rr ⟨a,vs,S,.inl (.of j),by rw[l.1];show k _ Φ H _ h (.refl sm) (.int _)⟩
 | [.tup xs],h=>
  let⟨v,rfl,r⟩:=fm o;let⟨a,vs,rfl,j,_,l⟩:=r.tup sm;show qh g s u H _ us Q I rr ⟨a,vs,S,.inr (w▸j),by rw[l.1];show k _ Φ H _ h (.refl sm) (.int _)⟩
 | [.fzl xs],h=>
  let⟨v,rfl,r⟩:=fm o;let⟨a,vs,rfl,j,l⟩:=r.fzl sm;show qh g s u H _ us Q I rr ⟨a,vs,S,.inl (w▸j),by rw[l.1];show k _ Φ H _ h (.refl sm) (.int _)⟩
 | [.str z],h=>
  let⟨v,rfl,r⟩:=fm o;cases r.str
  show Gq g s u H _ us Q I rr ⟨z,S,h.1,k _ Φ H _ h.2 (.refl sm) (.int _)⟩⟩
noncomputable def x9:cb:=λds R=>match ds with| [.int i]=>R (.int (if i<0 then -i else i))|_=>False
def n6:CallD K X (.builtin "abs") x9:=⟨λu g s o H xs us Q I rr j=>by
 let⟨Φ,ds,R,sm,l,h,k⟩:=j
 match ds,h with
 | [.int i],h=>
  let⟨v,rfl,r⟩:=fm l;cases r.int
  show Fb g s o H _ us Q I rr ⟨i,S,k _ Φ H _ h (.refl sm) (.int _)⟩⟩
noncomputable def EQ:cb:=λds R=>match ds with| [.int i,.int j]=>R (.int (if j>i then j else i))|_=>False
noncomputable def zT:cb:=λds R=>match ds with| [.int i,.int j]=>R (.int (if j<i then j else i))|_=>False
def tw(o:X.calm=ř):CallD K X (.builtin "max") EQ:=⟨λF g s z H xs us Q I rr l=>by
 let⟨Φ,ds,R,sm,r,h,k⟩:=l
 match ds,h with
 | [.int i,.int j],h=>
  let⟨v,w,rfl,u,y⟩:=vz r;cases u.int;cases y.int
  show yn o g s z H _ us Q I rr ⟨i,j,S,k _ Φ H _ h (.refl sm) (.int _)⟩⟩
def G2(o:X.calm=ř):CallD K X (.builtin "min") zT:=⟨λF g s z H xs us Q I rr l=>by
 let⟨Φ,ds,R,sm,r,h,k⟩:=l
 match ds,h with
 | [.int i,.int j],h=>
  let⟨v,w,rfl,u,y⟩:=vz r;cases u.int;cases y.int
  show FB o g s z H _ us Q I rr ⟨i,j,S,k _ Φ H _ h (.refl sm) (.int _)⟩⟩
def ue{Φ:Hp}{ns:Y Int}{vs:Y V}(h:RpL K Φ (ns.map D.int) vs):vs=ns.map V.int:=by
 refine Kz λi=>?_;rw[Jm]
 cases e:ns[i]? with
 |none=>
  have:=LO.mp e;rw[JU (by rw[h.1,IY];show this)];rfl
 |some n=>
  let⟨v,g,r⟩:=h.at (i:=i) (d:=.int n) (by rw[Jm,e];rfl);obtain rfl:=r.i;rw[g];rfl
def tY{Φ:Hp}{bs:Y Bool}{vs:Y V}(h:RpL K Φ (bs.map D.bl) vs):vs=bs.map V.bl:=by
 refine Kz λi=>?_;rw[Jm]
 cases e:bs[i]? with
 |none=>
  have:=LO.mp e;rw[JU (by rw[h.1,IY];show this)];rfl
 |some n=>
  let⟨v,g,r⟩:=h.at (i:=i) (d:=.bl n) (by rw[Jm,e];rfl);obtain rfl:=r.b;rw[g];rfl
def RpQ.sqb{Φ H:Hp}{d:D}{v:V}{ds:Y D}(s:Same Φ H)(h:RpQ K Φ H d v)(e:cV d=Z ds):∃(q:Bool)(a:Addr)(vs:Y V),v=.ref a/\SqB K q H a vs/\RpL K Φ ds vs:=by
 let⟨a,vs,j,g,l⟩:=h.seq s e;rcases g with g|g
 ·show⟨ř,a,vs,j,g,l⟩
 ·show⟨Ś,a,vs,j,g,l⟩
noncomputable def HP:cb:=λds R=>match ds with| [d]=>∃ns:Y Int,cV d=Z (ns.map D.int)/\R (.int ns.sum)|_=>False
def xb(u:X.calm=ř):CallD K X (.builtin "sum") HP:=⟨λo g s z H xs us Q I rr l=>by
 let⟨Φ,ds,R,sm,w,h,k⟩:=l
 match ds,h with
 | [d],⟨ns,e,h⟩=>
  let⟨v,rfl,r⟩:=fm w;let⟨q,a,vs,rfl,j,y⟩:=r.sqb sm e;rw[ue y]at j
  show zN q u g s z H _ us Q I rr ⟨a,ns,S,o▸j,k _ Φ H _ h (.refl sm) (.int _)⟩⟩
noncomputable def sN(f:Y Bool->Bool):cb:=λds R=>match ds with| [d]=>∃bs:Y Bool,cV d=Z (bs.map D.bl)/\R (.bl (f bs))|_=>False
def uM(u:X.calm=ř):CallD K X (.builtin "all") (sN λbs=>bs.all id):=⟨λo g s z H xs us Q I rr l=>by
 let⟨Φ,ds,R,sm,w,h,k⟩:=l
 match ds,h with
 | [d],⟨ns,e,h⟩=>
  let⟨v,rfl,r⟩:=fm w;let⟨q,a,vs,rfl,j,y⟩:=r.sqb sm e;rw[tY y]at j
  show Bp q u g s z H _ us Q I rr ⟨a,ns,S,o▸j,k _ Φ H _ h (.refl sm) (.bl _)⟩⟩
def su(u:X.calm=ř):CallD K X (.builtin "any") (sN λbs=>bs.any id):=⟨λo g s z H xs us Q I rr l=>by
 let⟨Φ,ds,R,sm,w,h,k⟩:=l
 match ds,h with
 | [d],⟨ns,e,h⟩=>
  let⟨v,rfl,r⟩:=fm w;let⟨q,a,vs,rfl,j,y⟩:=r.sqb sm e;rw[tY y]at j
  show Fc q u g s z H _ us Q I rr ⟨a,ns,S,o▸j,k _ Φ H _ h (.refl sm) (.bl _)⟩⟩
noncomputable def EZ:cb:=λds R=>match ds with| [.lst xs]=>R (.tup xs)| [.tup xs]=>R (.tup xs)| [.fzl xs]=>R (.tup xs)|_=>False
def cJ:CallD K X (.type "tuple") EZ:=⟨λy g s w H xs us Q I rr z=>by
 let⟨Φ,ds,R,sm,u,h,k⟩:=z
 match ds,h with
 | [.lst xs],h=>
  let⟨v,rfl,r⟩:=fm u;let⟨a,vs,rfl,l,o⟩:=r.lst sm;show oV g s w H _ us Q I rr ⟨a,vs,S,.inl ⟨.of l,λp j=>k _ _ _ _ h (.new sm j _) ((o.same (c9 (sm.free j) _)).tup bh)⟩⟩
 | [.fzl xs],h=>
  let⟨v,rfl,r⟩:=fm u;let⟨a,vs,rfl,l,o⟩:=r.fzl sm;show oV g s w H _ us Q I rr ⟨a,vs,S,.inl ⟨y▸l,λp j=>k _ _ _ _ h (.new sm j _) ((o.same (c9 (sm.free j) _)).tup bh)⟩⟩
 | [.tup xs],h=>
  let⟨v,rfl,r⟩:=fm u;let⟨a,vs,rfl,l,F,o⟩:=r.tup sm
  show oV g s w H _ us Q I rr ⟨a,vs,S,.inr ⟨y▸l,k _ Φ H _ h (.refl sm) (o.tup F)⟩⟩⟩
noncomputable def Ix(t:TD):aM:=λρ R=>t ρ λd=>∃ds,cV d=Z ds/\R ds
def lJ(F:Gl X "list")(I:X.mg "list"=ŗ)(z:PQ K X e t)(o:starEach [e] X.env=(Ś,eval e X.env)::starEach [] X.env):PF K X (.Call (.Name "list" p) [e] [] A) (Ix t):=
 ⟨λj=>(kG wn F I Ġ (eM (z.pe j) pa_nil o) 'b' 'b' o ae).imp λT H Q w=>by let⟨u,Φ,ρ,R,E,t,k⟩:=w;show⟨u,Φ,ρ,_,E,t,λd P U v r g O=>by
  let⟨ds,y,r⟩:=r;let⟨a,vs,rfl,M,N⟩:=O.seq g.s y
  show⟨a,vs,S,j▸M,λl h=>k _ _ _ l _ r (g.trans (.fresh g.s h _)) (g.h.free h) (g.s.free h) bh N⟩⟩⟩
noncomputable def zv:cb:=λds R=>match ds with| [.int i]=>R (.int i)| [.bl b]=>R (.int (if b then 1 else 0))|_=>False
def qB:CallD K X (.type "int") zv:=⟨λu g s l H xs us Q I rr o=>by
 let⟨Φ,ds,R,sm,j,h,k⟩:=o
 match ds,h with
 | [.int i],h=>
  let⟨v,rfl,r⟩:=fm j;cases r.int;show xi g s l H _ us Q I rr (.inl ⟨i,S,k _ Φ H _ h (.refl sm) (.int _)⟩)
 | [.bl b],h=>
  let⟨v,rfl,r⟩:=fm j;cases r.bl
  show xi g s l H _ us Q I rr (.inr ⟨b,S,k _ Φ H _ h (.refl sm) (.int _)⟩)⟩
noncomputable def kL(d:D)(T:String):Ř Bool:=match d with
 |.int _=>if T="int" then Z ř else if T="bool" then Z Ś else if T="tuple" then Z Ś else if T="str" then Z Ś else ŗ
 |.bl _=>if T="int" then Z ř else if T="bool" then Z ř else if T="tuple" then Z Ś else ŗ
 |.str _=>if T="str" then Z ř else if T="tuple" then Z Ś else ŗ
 |.tup _=>if T="tuple" then Z ř else if T="int" then Z Ś else ŗ
 |.lst _=>if T="tuple" then Z Ś else if T="list" then Z ř else ŗ
 |_=>ŗ
end
structure SteadyD(K:Â)(J:It)(Φ:Hp)(ds:List D):Prop where
 go:∀i H,Same Φ H->i<ds.length->J.go i H
 yl:∀i Φ2 H x H2 d,Same Φ Φ2->Same Φ2 H->ds[i]?=Z d->J.yld i H x H2->∃Φ3,Gr Φ2 H Φ3 H2/\Rp K Φ3 d x
 stop:∀H,Same Φ H->J.stop ds.length H
section
variable{K:Â}{Φ:Hp}{ds es:Y D}{vs c:Y V}{a:Addr}
def Iy(h:SqL K Φ a vs)(r:RpL K Φ ds vs):SteadyD K (qI K a) Φ ds:=
 ⟨λi H s hi=>⟨vs,vs[i]'(by rw[r.1];show hi),s.seq h,bE _⟩,λi f H x j d g s hd y=>by
  let⟨e,y⟩:=y;subst e
  show⟨f,.refl s,(r.2 i x d (y vs ((g.trans s).seq h)) hd).same g⟩,λH s=>⟨vs,s.seq h,by rw[r.1];show Jg _⟩⟩
def yg(h:SqT K Φ a vs)(r:RpL K Φ ds vs):SteadyD K (ra K a) Φ ds:=
 ⟨λi H s hi=>⟨vs,vs[i]'(by rw[r.1];show hi),s.sqt h,bE _⟩,λi f H x j d g s hd y=>by
  let⟨e,y⟩:=y;subst e
  show⟨f,.refl s,(r.2 i x d (y vs ((g.trans s).sqt h)) hd).same g⟩,λH s=>⟨vs,s.sqt h,by rw[r.1];show Jg _⟩⟩
noncomputable def cA(lo:Int)(n:Nat):Y D:=(List.range n).map λi=>D.int (lo+(i:Nat))
def gc(lo:Int)(n:Nat):(cA lo n).length=n:=by unfold cA;simp
def ij{lo:Int}{n i:Nat}{d:D}(h:(cA lo n)[i]?=Z d):i<n/\d=.int (lo+(i:Nat)):=by
 have hi:i<n:=by have:=aA h;rwa [gc]at this
 unfold cA at h;rw[Jm,Lk hi]at h;cases h;show⟨hi,S⟩
def rB{lo:Int}{n:Nat}:SteadyD K (iZ lo n) Φ (cA lo n):=
 ⟨λi H s hi=>by rw[gc]at hi;show hi,λi f H x g d h s hd y=>by
  let⟨e,y⟩:=y;subst e y;rw[(ij hd).2]
  show⟨f,.refl s,.int _⟩,λH s=>by rw[gc];show Jg n⟩
noncomputable def gP(ds:Y D):Y D:=ds.zipIdx.map λp=>.tup [.int (p.2:Nat),p.1]
def eT(ds:Y D):(gP ds).length=ds.length:=by unfold gP;simp
def ge{i:Nat}{d:D}(h:(gP ds)[i]?=Z d):∃e,ds[i]?=Z e/\d=.tup [.int (i:Nat),e]:=by
 unfold gP at h;rw[Jm,List.getElem?_zipIdx]at h
 cases e:ds[i]? with
 |none=>rw[e]at h;cases h
 |some x=>rw[e]at h;cases h;show⟨x,S,by simp⟩
def Rp.pair{H:Hp}{t:Addr}{d e:D}{x y:V}(h:H t=Z (.tup [x,y]))(f:Rp K H d x)(g:Rp K H e y):Rp K H (.tup [d,e]) (.ref t):=(RpL.cons f (.one g)).tup h
def yT{b:Bool}(h:SqB K b Φ a vs)(r:RpL K Φ ds vs):SteadyD K (ox K b a) Φ (gP ds):=
 ⟨λi H s hi=>by rw[eT]at hi;show⟨vs,vs[i]'(by rw[r.1];show hi),SqB.same s h,bE _⟩,λi p H x u d g s hd y=>by
  let⟨t,v,f,e,j,y⟩:=y;subst e j;let⟨e,l,rfl⟩:=ge hd;have o:=(r.2 i v e (y vs (SqB.same (g.trans s) h)) l).same (g.trans (c9 (s.free f) (.tup [.int i,v])))
  show⟨_,.new s f _,.pair bh (.int _) o⟩,λH s=>by rw[eT];show⟨vs,SqB.same s h,by rw[r.1];show Jg _⟩⟩
noncomputable def fL(ds es:Y D):Y D:=List.zipWith (λx y=>.tup [x,y]) ds es
def ud(ds es:Y D):(fL ds es).length=min ds.length es.length:=by unfold fL;simp
def FE{i:Nat}{d:D}(h:(fL ds es)[i]?=Z d):∃x y,ds[i]?=Z x/\es[i]?=Z y/\d=.tup [x,y]:=by
 unfold fL at h;rw[Lz]at h
 cases e:ds[i]? with
 |none=>rw[e]at h;cases h
 |some x=>
  cases f:es[i]? with
  |none=>rw[e,f]at h;cases h
  |some y=>rw[e,f]at h;cases h;show⟨x,y,S,S,S⟩
def xW{o r:Bool}{a1 a2:Addr}(f:SqB K o Φ a1 vs)(g:SqB K r Φ a2 c)(h:RpL K Φ ds vs)(j:RpL K Φ es c):SteadyD K (qi K o a1 r a2) Φ (fL ds es):=
 ⟨λi H s hi=>by
  rw[ud]at hi
  have C:i<vs.length:=by rw[h.1];omega
  have E:i<c.length:=by rw[j.1];omega
  show⟨vs,c,vs[i],c[i],SqB.same s f,SqB.same s g,bE C,bE E⟩,λi I H x J d l s hd y=>by
  let⟨t,u,v,w,e,z,F,G⟩:=y;subst e z;let⟨p,q,A,B,rfl⟩:=FE hd;have sn:=l.trans (c9 (s.free w) (.tup [u,v]))
  show⟨_,.new s w _,.pair bh ((h.2 i u p (F vs (SqB.same (l.trans s) f)) A).same sn) ((j.2 i v q (G c (SqB.same (l.trans s) g)) B).same sn)⟩,λH s=>by
  rw[ud]
  show⟨vs,c,SqB.same s f,SqB.same s g,by rw[h.1,j.1];omega⟩⟩
end
inductive lI(K:Â)(t:aM)(σ:St)(H:Hp)(R':It->Hp->Prop):Prop|mk (H0:Hp) (Φ:Hp) (ρ:bu) (R:List D->Prop) (_:EnvD K H0 Φ H σ ρ) (_:t ρ R) (_:∀ds Φ' H' J,R ds->Gr Φ H Φ' H'->SteadyD K J Φ' ds->R' J H')
structure PID(K:Â)(X:Cx)(tg e:Ã)(t:aM):Prop where pi:X.K=K->PI X tg e (lI K t)
def PI.imp{X:Cx}{f e:Ã}{t t':TI}(h:PI X f e t)(k:∀c H R,t' c H R->t c H R):PI X f e t':=λa s c H R I g=>h a s c H R I (k c H R g)
section
variable{K:Â}{X:Cx}{l e a:Ã}{es:Y Ã}{c p:Ö}{t:TD}{f:aM}
def sE{es:Y Ã}{k:Nat}{t:fA}{n:Nat}(j:X.K=K)(o:X.calm=ř)(h:PGs X es t)(r:(Æ es X.env).length=n)(g:(Æ es X.env).findIdx? (·.1)=ŗ):PG X (.Tuple es k c) (qN K n t):=j▸t6 o h r g
def wF{es:Y Ã}{k:Nat}{t:fA}{n:Nat}(j:X.K=K)(o:X.calm=ř)(h:PGs X es t)(r:(Æ es X.env).length=n)(g:(Æ es X.env).findIdx? (·.1)=ŗ):PG X (.Tuple es k c) (pL K n t):=j▸BB o h r g
noncomputable def Gy(t:aM):aM:=λρ R=>t ρ λds=>match ds with| [.int j]=>(-(2^62)<=j/\j<2^62)/\R (cA 0 j.toNat)|_=>False
def RpL.one_inv{Φ:Hp}{d:D}{vs:Y V}(h:RpL K Φ [d] vs):∃v,vs=[v]/\Rp K Φ d v:=by
 let⟨j,g⟩:=h
 match vs,j,g with
 | [v],_,g=>show⟨v,S,g 0 v d S S⟩
def RpL.two_inv{Φ:Hp}{d e:D}{vs:Y V}(h:RpL K Φ [d,e] vs):∃v w,vs=[v,w]/\Rp K Φ d v/\Rp K Φ e w:=by
 let⟨j,g⟩:=h
 match vs,j,g with
 | [v,w],_,g=>show⟨v,w,S,g 0 v d S S,g 1 w e S S⟩
def je(z:Gl X "range")(A:X.mg "range"=ŗ)(y:PAD K X [a] f)(B:starEach [a] X.env=[(Ś,eval a X.env)]:=by rfl):PID K X l (.Call (.Name "range" p) [a] [] c) (Gy f):=
 ⟨λx=>(rY z A (y.pa x) B).imp λI H G w=>by let⟨o,Φ,ρ,R,E,t,k⟩:=w;show⟨o,Φ,ρ,_,E,t,λds h u vs r g F _=>by
  match ds,r with
  | [.int j],r=>
   let⟨v,rfl,C⟩:=F.one_inv;obtain rfl:=C.i
   show⟨j,S,r.1.1,r.1.2,k _ h u _ r.2 g rB⟩⟩⟩
end
noncomputable abbrev dl:=D->bu->(bu->Prop)->Prop
noncomputable abbrev fK:=Y D->bu->(bu->Prop)->Prop
inductive lG(K:Â)(g:dl)(v:V)(σ:St)(H:Hp)(Q:St->Hp->Prop):Prop|mk (H0:Hp) (Φ:Hp) (ρ:bu) (d:D) (R:bu->Prop) (_:EnvD K H0 Φ H σ ρ) (_:Rp K Φ d v) (_:g d ρ R) (_:∀ρ' σ',R ρ'->EnvD K H0 Φ H σ' ρ'->Q σ' H)
inductive lGs(K:Â)(g:fK)(vs:List V)(σ:St)(H:Hp)(Q:St->Hp->Prop):Prop|mk (H0:Hp) (Φ:Hp) (ρ:bu) (ds:List D) (R:bu->Prop) (_:EnvD K H0 Φ H σ ρ) (_:RpL K Φ ds vs) (_:g ds ρ R) (_:∀ρ' σ',R ρ'->EnvD K H0 Φ H σ' ρ'->Q σ' H)
structure PGD(K:Â)(X:Cx)(e:Ã)(g:dl):Prop where pg:X.K=K->PG X e (lG K g)
structure PGDs(K:Â)(X:Cx)(es:List Ã)(g:fK):Prop where pg:X.K=K->PGs X es (lGs K g)
def PG.imp{X:Cx}{e:Ã}{t t':TG}(h:PG X e t)(k:∀v c H Q,t' v c H Q->t v c H Q):PG X e t':=λa s c H v u Q I r f=>h a s c H v u Q I r (k v c H Q f)
def PGs.imp{X:Cx}{e:Y Ã}{t t':fA}(h:PGs X e t)(k:∀v c H Q,t' v c H Q->t v c H Q):PGs X e t':=λa s c H v u Q I r f=>h a s c H v u Q I r (k v c H Q f)
section
variable{K:Â}{X:Cx}{e:Ã}{es:Y Ã}{a:Ö}{g:dl}{gs:fK}
noncomputable def pP(i:Nat):dl:=λd ρ R=>R (ρ.set i (Z (.v d)))
def bc{i:Nat}{x:Str}(f:X.N.Nodup)(hi:X.N[i]?=Z x)(j:eI X.env.scope x)(h:X.fn x=ř\/X.env.scope.names.lookup x=Z .local:=by nofun):PGD K X (.Name x a) (pP i):=
 ⟨λ_=>(kJ f hi j h).imp λv o H Q c=>by let⟨l,Φ,ρ,d,R,E,r,g,k⟩:=c;show k _ _ g (E.set r i)⟩
noncomputable def ph:fK:=λds ρ R=>match ds with| []=>R ρ|_=>False
noncomputable def mM(t:dl)(u:fK):fK:=λds ρ R=>match ds with|d::r=>t d ρ λc=>u r c R| []=>False
def eG:PGDs K X [] ph:=⟨λ_=>pgs_nil.imp λv h H Q c=>by
 let⟨f,Φ,ρ,ds,R,E,r,g,k⟩:=c
 cases ds with
 |nil=>show⟨J5.mp r.1,k _ _ g E⟩
 |cons=>show g.elim⟩
def bP(p:PGD K X e g)(w:PGDs K X es gs)(y:(Æ (e::es) X.env).map (·.2)=assign e X.env::(Æ es X.env).map (·.2):=by rfl):PGDs K X (e::es) (mM g gs):=
 ⟨λj=>(km (p.pg j) (w.pg j) y).imp λvs B H Q o=>by
  let⟨h,Φ,ρ,ds,R,E,r,g,k⟩:=o
  cases ds with
  |nil=>show g.elim
  |cons d ds=>
   cases vs with
   |nil=>show absurd r.1 (by simp)
   |cons v vs=>
    refine⟨v,vs,S,h,Φ,ρ,d,_,E,r.2 0 v d S S,g,λc A g' l=>⟨h,Φ,c,ds,R,l,⟨by have:=r.1;simpa using this,λi u f z x=>r.2 (i+1) u f z x⟩,g',k⟩⟩⟩
end
noncomputable def fD(cap:Y (Ř Nat))(ρ:bu):bu:=cap.map λo=>o.bind λi=>(ρ[i]?).join
def qO{a:Type}{o:Ř (Ř a)}{x:a}(h:o.join=Z x):o=Z (Z x):=by
 cases o with
 |none=>cases h
 |some o=>cases o with
  |none=>cases h
  |some y=>cases h;rfl
def jL{a:Type}{cap:Y (Ř Nat)}{l:Y (Ř a)}{i:Nat}{x:a}(h:(cap.map λo=>o.bind λi=>(l[i]?).join)[i]?=Z (Z x)):∃j,cap[i]?=Z (Z j)/\l[j]?=Z (Z x):=by
 rw[Jm]at h
 cases e:cap[i]? with
 |none=>rw[e]at h;cases h
 |some o=>
  rw[e]at h
  cases o with
  |none=>cases h
  |some j=>show⟨j,S,qO (by simpa using h)⟩
def EnvD.cap{K:Â}{o Φ H:Hp}{f:St}{ρ:bu}{cap:Y (Ř Nat)}(E:EnvD K o Φ H f ρ)(inj:∀i j k:Nat,cap[i]?=Z (Z k)->cap[j]?=Z (Z k)->i=j):EnvD K o Φ H (eE cap f) (fD cap ρ):=by
 have st:∀{i j:Nat}{v:V},cap[i]?=Z (Z j)->f[j]?=Z (Z v)->(eE cap f)[i]?=Z (Z v):=λg l=>by unfold eE;rw[Jm,g];simp[l]
 have y:∀{i j:Nat}{v:V},cap[i]?=Z (Z j)->(eE cap f)[i]?=Z (Z v)->f[j]?=Z (Z v):=λg l=>by let⟨x,a,c⟩:=jL l;rw[g]at a;cases a;show c
 refine⟨E.fz,by unfold eE fD;simp,λi d h=>?_,λi ds h=>?_,λi j ds es p hi A B C=>?_,E.tb⟩
 ·let⟨j,a,c⟩:=jL h;let⟨v,e,r⟩:=E.sl j d c;show⟨v,st a e,r⟩
 ·let⟨j,a,c⟩:=jL h;let⟨p,vs,e,q⟩:=E.ow j ds c;show⟨p,vs,st a e,q⟩
 ·let⟨w,a,c⟩:=jL hi;let⟨x,u,z⟩:=jL A;have:=E.ne w x ds es p c z (y a B) (y u C);subst this;show inj i j w a u
structure GK(k:Nat)(g:dl):Prop where p:∀d ρ R,g d ρ R->g d ρ λρ1=>ρ1.length=ρ.length/\ρ1.drop k=ρ.drop k/\R ρ1
structure GKs(k:Nat)(g:fK):Prop where p:∀ds ρ R,g ds ρ R->g ds ρ λρ1=>ρ1.length=ρ.length/\ρ1.drop k=ρ.drop k/\R ρ1
def zA{k i:Nat}(h:i<k):GK k (pP i):=⟨λd ρ R r=>⟨by simp,by rw[List.drop_set_of_lt h],r⟩⟩
def B6{k:Nat}:GKs k ph:=⟨λds ρ R r=>by
 cases ds with
 |nil=>show⟨S,S,r⟩
 |cons=>show r⟩
def xS{t:dl}{u:fK}(c:∀d ρ R a,(∀x,R x->a x)->t d ρ R->t d ρ a)(e:∀d ρ R a,(∀x,R x->a x)->u d ρ R->u d ρ a):∀d ρ R a,(∀x,R x->a x)->mM t u d ρ R->mM t u d ρ a:=by
 intro ds ρ R a h r
 cases ds with
 |nil=>show r
 |cons d ds=>show c d ρ _ _ (λx f=>e ds x _ _ h f) r
structure GM(k:Nat)(g:dl):Prop where
 k:GK k g
 m:∀d ρ R R',(∀x,R x->R' x)->g d ρ R->g d ρ R'
structure GMs(k:Nat)(g:fK):Prop where
 k:GKs k g
 m:∀d ρ R R',(∀x,R x->R' x)->g d ρ R->g d ρ R'
def bK{k i:Nat}(h:i<k):GM k (pP i):=⟨zA h,λd ρ R a h r=>h _ r⟩
def iB{k:Nat}:GMs k ph:=⟨B6,λds ρ R a h r=>by
 cases ds with
 |nil=>show h _ r
 |cons=>show r⟩
def eP{k:Nat}{t:dl}{u:fK}(a:GM k t)(c:GMs k u):GMs k (mM t u):=⟨⟨λds ρ R r=>by
 cases ds with
 |nil=>show r
 |cons d ds=>
  have h:t d ρ λf=>u ds f R:=r;refine a.m _ _ _ _ (λg q=>?_) (a.k.p d ρ _ h)
  show c.m _ _ _ _ (λj e=>⟨e.1.trans q.1,e.2.1.trans q.2.1,e.2.2⟩) (c.k.p ds g R q.2.2)⟩,xS a.m c.m⟩
noncomputable def p6:cm:=λ_ R=>R ř
structure PIfD(K:Â)(X:Cx)(ifs:List Ã)(t:cm):Prop where p:X.K=K->iX X ifs (lT K t)
def tT{K:Â}{X:Cx}:PIfD K X [] p6:=⟨λ_ a s e H Q I c=>by let⟨f,Φ,ρ,R,E,t,k⟩:=c;show sG a s e H Q I (k ř Φ H t (.refl E.fz))⟩
def jt{K:Â}{X:Cx}{c:Ã}{t:cm}(h:PTD K X c t):PIfD K X [c] t:=⟨λa=>Ad (h.pt a)⟩
def EnvD.side{K:Â}{a Φ H:Hp}{f:St}{ρ:bu}{p:Addr}{o u:HO}(E:EnvD K a Φ H f ρ)(g:a p=Z u)(j:Φ p=ŗ):EnvD K a Φ (ao H p o) f ρ:=
 ⟨λb w e=>by rw[aR (cU e j)];show E.fz b w e,E.len,E.sl,λi ds h=>by
  let⟨q,vs,e,c,l,r,v⟩:=E.ow i ds h
  show⟨q,vs,e,c,l,by rw[aR λz=>by rw[z,g]at c;cases c];show r,v⟩,E.ne,E.tb⟩
def EnvD.base{K:Â}{a Φ H:Hp}{f:St}{ρ:bu}{p:Addr}{u:HO}(E:EnvD K a Φ H f ρ)(g:H p=ŗ):EnvD K (ao a p u) Φ H f ρ:=
 ⟨E.fz,E.len,E.sl,λi ds h=>by
  let⟨q,vs,e,j,l,c,o⟩:=E.ow i ds h
  show⟨q,vs,e,by rw[aR (cU c g)];show j,l,c,o⟩,E.ne,E.tb⟩
noncomputable def nF(f:aM)(cap:Y (Ř Nat))(g:dl)(c:cm)(e:TD):aM:=λρ R=>f ρ λds=>ds.length<sizeLine/\∃P:Nat->Ř D->Prop,
 (∀i d,ds[i]?=Z d->g d (fD cap ρ) λa=>c a λb=>(b=ř->e a λy=>P i (Z y))/\(b=Ś->P i ŗ))/\∀ys:Y (Ř D),ys.length=ds.length->(∀i y,ys[i]?=Z y->P i y)->R (ys.filterMap id)
def BP(ys:Y (Ř D))(y:D):(ys++[Z y]).filterMap id=ys.filterMap id++[y]:=by simp
def DW(ys:Y (Ř D)):(ys++[ŗ]).filterMap id=ys.filterMap id:=by simp
def yq(ys:Y (Ř D)):(ys.filterMap id).length<=ys.length:=List.length_filterMap_le _ _
def fE{f:Type}{ys:Y f}{y:f}{P:Nat->f->Prop}{n:Nat}(l:ys.length=n)(h:∀i z,ys[i]?=Z z->P i z)(j:P n y):∀i z,(ys++[y])[i]?=Z z->P i z:=by
 intro i z a;rcases JW i ys.length with c|c
 ·rw[I0 c]at a;show h i z a
 ·rw[IZ c]at a
  have g:i-ys.length=0:=by
   rcases Nat.eq_zero_or_pos (i-ys.length)with e|e
   ·show e
   ·rw[JU (by simp only[Jp,KC];omega)]at a;cases a
  rw[g]at a;cases a
  have:i=n:=by omega
  subst this;show j
noncomputable def ga(k:Nat)(cap:Y (Ř Nat)):Bool:=(cap.take k).all (·.isNone)&&decide ((cap.filterMap id).Nodup)
def zD{k:Nat}{cap:Y (Ř Nat)}(h:ga k cap=ř){i:Nat}(hi:i<k){o:Ř Nat}(e:cap[i]?=Z o):o=ŗ:=by
 unfold ga at h;rw[Ki]at h;have:=KR.mp h.1 o (Je (i:=i) (by rw[LU hi];show e))
 cases o with
 |none=>rfl
 |some _=>cases this
def Fo{k:Nat}{cap:Y (Ř Nat)}(h:ga k cap=ř):∀i j n:Nat,cap[i]?=Z (Z n)->cap[j]?=Z (Z n)->i=j:=by
 unfold ga at h;rw[Ki]at h;have nd:=JV h.2;clear h
 induction cap with
 |nil=>intro i j n hi;simp at hi
 |cons o cap l=>
  intro i j n hi a
  have f:(cap.filterMap id).Nodup:=by
   cases o with
   |none=>simpa using nd
   |some m=>have e : (Z m :: cap).filterMap id = m :: cap.filterMap id:= rfl
            rw [e]at nd; show (JE.mp nd).2
  have one:∀{i:Nat},o=Z n->cap[i]?=Z (Z n)->False:=λ{i} g c=>by
   subst g;have e:(Z n::cap).filterMap id=n::cap.filterMap id:=rfl;rw[e]at nd;show (JE.mp nd).1 (Lm.mpr ⟨Z n,Je c,S⟩)
  cases i with
  |zero=>cases j with
   |zero=>rfl
   |succ j=>show (one (by simpa using hi) (by simpa using a)).elim
  |succ i=>cases j with
   |zero=>show (one (by simpa using a) (by simpa using hi)).elim
   |succ j=>show JY Nat.succ (l f i j n (by simpa using hi) (by simpa using a))
section
variable{K:Â}{X:Cx}{w a r:Ã}{F:Y Ã}{scope:â}{B:Ö}{N':Y Str}{cap:Y (Ř Nat)}{l:aM}{g:dl}{A:cm}{f:TD}
def wG{k:Nat}(NS:ga k cap=ř)(hk:GM k g){σ:St}{H:Hp}{Q:VK}{a_ Φ:Hp}{ρ:bu}{R W:Y D->Prop}(E:EnvD K a_ Φ H σ ρ)(t:l ρ W)
  (conv:∀ds,W ds->ds.length<sizeLine/\∃P:Nat->Ř D->Prop,(∀i d,ds[i]?=Z d->g d (fD cap ρ) λz=>A z λb=>(b=ř->f z λy=>P i (Z y))/\(b=Ś->P i ŗ))/\∀ys:Y (Ř D),ys.length=ds.length->(∀i y,ys[i]?=Z y->P i y)->R (ys.filterMap id))
  (kk:∀ds h G p vs,R ds->Gr Φ H h G->H p=ŗ->h p=ŗ->G p=Z (.lst vs)->RpL K h ds vs->Q (.ref p) G):gS (lI K l) cap (lG K g) (lT K A) (lE K f) σ H Q:=by
 refine⟨a_,Φ,ρ,W,E,t,λds I H1 J hW g1 be C hD=>?_⟩
 let⟨hlen,P,hp,hr⟩:=conv ds hW
 have E1:=E.gr g1;have Se:I C=ŗ:=g1.s.free hD;have C0:EnvD K (ao a_ C (.lst [])) I (ao H1 C (.lst [])) (eE cap σ) (fD cap ρ):=((E1.base (u:=.lst []) hD).side (o:=.lst []) bh Se).cap (Fo NS);refine⟨λi m σ' G=>m=ds.length-i/\i<=ds.length/\∃(h:Hp)(vs:Y V)(ys:Y (Ř D)),EnvD K (ao a_ C (.lst [])) h G σ' (fD cap ρ)/\Gr I H1 h G/\h C=ŗ/\G C=Z (.lst vs)/\RpL K h (ys.filterMap id) vs/\ys.length=i/\∀j y,ys[j]?=Z y->P j y,⟨ds.length,by simp,KU _,I,[],[],C0,.fresh g1.s hD _,Se,bh,.nil,S,λj y hj=>by simp at hj⟩,?_⟩;rintro i m σ' G ⟨rfl,hi,h,vs,ys,Ei,L,SJ,Rm,N0,b_,hy⟩;by_cases NL:i<ds.length
 ·refine .inr ⟨be.go i G (L.f.trans L.s) NL,λσ2 U=>∃(h:Hp)(vs:Y V)(ys:Y (Ř D)),EnvD K (ao a_ C (.lst [])) h U σ2 (fD cap ρ)/\Gr I H1 h U/\h C=ŗ/\U C=Z (.lst vs)/\RpL K h (ys.filterMap id) vs/\ys.length=i+1/\∀j y,ys[j]?=Z y->P j y,λσ2 U h2=>⟨ds.length-(i+1),(),S,NL,h2⟩,λx U y=>?_⟩;let⟨O,M,rx⟩:=be.yl i h G x U _ L.f L.s (bE NL) y;have E3:=Ei.gr M;refine⟨_,O,fD cap ρ,_,_,E3,rx,hk.k.p _ _ _ (hp i _ (bE NL)),λz σ3 Nx E4=>?_⟩;let⟨OY,hd1,t1⟩:=Nx
  have wk:∀(j:Nat) x,(fD cap ρ)[j]?=Z (Z x)->z[j]?=Z (Z x):=λj x hj=>by
   rcases JW j k with c|c
   ·let⟨n,h1,_⟩:=jL hj;cases zD NS c h1
   ·have e1:(fD cap ρ)[j]?=((fD cap ρ).drop k)[j-k]?:=by rw[LX];congr 1;omega
    have e2:z[j]?=(z.drop k)[j-k]?:=by rw[LX];congr 1;omega
    rw[e2,hd1,←e1];show hj
  have U6:O C=ŗ:=M.o _ _ Rm SJ;refine⟨_,O,z,_,E4,t1,λb T H4 rb N=>?_⟩;have E5:=(E4.gr N);have RT:=N.h _ _ (M.h _ _ Rm);have hD4:T C=ŗ:=N.o _ _ (M.h _ _ Rm) U6
  cases b with
  |false=>
   refine jB ?_;refine⟨T,vs,ys++[ŗ],E5.weak OY.symm wk,(L.trans M).trans N,hD4,RT,?_,by rw[Ja,b_];rfl,fE b_ hy (rb.2 S)⟩;rw[DW];show (N0.same M.f).same N.f
  |true=>
   refine jW ?_;refine⟨_,T,z,_,E5,rb.1 S,λd Φ5 H5 v rd g5 rv=>?_⟩;have E6:=E5.gr g5;have U7:=g5.h _ _ RT;have U8:Φ5 C=ŗ:=g5.o _ _ RT hD4;have gg:=((L.trans M).trans N).trans g5;refine⟨vs,U7,?_,Φ5,vs++[v],ys++[Z d],(E6.weak OY.symm wk).side bh U8,?_,U8,bh,?_,by rw[Ja,b_];rfl,fE b_ hy rd⟩
   ·have:=yq ys;rw[N0.1];omega
   ·show⟨gg.f,wB gg.h hD _,λb u e=>by rw[aR (cU e U8)];show gg.s b u e,λp u hp hn k=>gg.o p u hp hn k⟩
   ·rw[BP];show (((N0.same M.f).same N.f).same g5.f).append (.one rv)
 ·have e:i=ds.length:=by omega
  subst e;show .inl ⟨be.stop G (L.f.trans L.s),kk _ h G C vs (hr ys b_ hy) (g1.trans L) (g1.h.free hD) SJ Rm N0⟩
def pN{k:Nat}(e:ga k cap=ř)(j:GM k g){c:St}{H:Hp}{Q:VK}(h:lF K (nF l cap g A f) c H Q):gS (lI K l) cap (lG K g) (lT K A) (lE K f) c H Q:=by let⟨p,Φ,ρ,R,E,t,o⟩:=h;show wG e j E t (λds h=>h) o
def pA{k:Nat}(o:X.calm=ř)(Q:CompScope X.N X.env.scope scope N' cap)(p:ga k cap=ř)(y:GM k g)(hi:PID K X w a l)
  (v:∀(cl:Y (Str×Addr))(e:Y Addr)(C:Addr)(h:À)(c:Hp),PGD K (bS X scope N' cl C h c e) w g) (E:∀(cl:Y (Str×Addr))(e:Y Addr)(C:Addr)(h:À)(c:Hp),PIfD K (bS X scope N' cl C h c e) F A)
  (u:∀(cl:Y (Str×Addr))(e:Y Addr)(C:Addr)(h:À)(c:Hp),PD K (bS X scope N' cl C h c e) r f) (z:∀x,Ì a X.env x=pure x:=by intro _;rfl):PF K X (.ListComp r [⟨w,a,F,0⟩] scope B) (nF l cap g A f):=
 ⟨λj=>(rZ o Q (hi.pi j) (λcl e C h c=>(v cl e C h c).pg j) (λcl e C h c=>(E cl e C h c).p j) (λcl e C h c=>(u cl e C h c).pe j) z).imp λ_ _ _=>pN p y⟩
noncomputable def pR(l:aM)(cap:Y (Ř Nat))(g:dl)(f:TD):aM:=λρ R=>l ρ λds=>ds.length<sizeLine/\∃P:Nat->D->Prop,
 (∀i d,ds[i]?=Z d->g d (fD cap ρ) λc=>f c (P i))/\∀ys:Y D,ys.length=ds.length->(∀i y,ys[i]?=Z y->P i y)->R ys
noncomputable def Gm(P:Nat->D->Prop):Nat->Ř D->Prop:=λi o=>match o with|some y=>P i y|none=>False
def wV{P:Nat->D->Prop}:∀(ys:Y (Ř D)),(∀(i:Nat) y,ys[i]?=Z y->∃z,y=Z z)->∃c:Y D,ys=c.map Z
 | [],_=>⟨[],S⟩
 |y::ys,h=>by let⟨z,rfl⟩:=h 0 y S;let⟨c,rfl⟩:=wV (P:=P) ys λi y e=>h (i+1) y e;show⟨z::c,S⟩
def Ee{ds:Y D}{ρ:bu}{R:Y D->Prop}(h:ds.length<sizeLine/\∃P:Nat->D->Prop,(∀i d,ds[i]?=Z d->g d (fD cap ρ) λc=>f c (P i))/\∀ys:Y D,ys.length=ds.length->(∀i y,ys[i]?=Z y->P i y)->R ys){k:Nat}(x:GM k g) :
  ds.length<sizeLine/\∃P:Nat->Ř D->Prop,(∀i d,ds[i]?=Z d->g d (fD cap ρ) λc=>p6 c λb=>(b=ř->f c λy=>P i (Z y))/\(b=Ś->P i ŗ))/\∀ys:Y (Ř D),ys.length=ds.length->(∀i y,ys[i]?=Z y->P i y)->R (ys.filterMap id):=by
 let⟨p,P,u,v⟩:=h;refine⟨p,Gm P,λi d hd=>x.m _ _ _ _ (λc q=>⟨λ_=>q,λe=>by cases e⟩) (u i d hd),λys C o=>?_⟩
 let⟨j,rfl⟩:=wV (P:=P) ys λi y e=>by
  have:=o i y e
  cases y with
  |none=>show this.elim
  |some z=>show⟨z,S⟩
 rw[MC]
 have e:j.filterMap (id ∘ Z)=j:=by simp
 rw[e];refine v j (by simpa using C) λi y e=>?_;show o i (Z y) (by rw[Jm,e];rfl)
def wT{k:Nat}(j:ga k cap=ř)(c:GM k g){e:St}{H:Hp}{Q:VK}(h:lF K (pR l cap g f) e H Q):gS (lI K l) cap (lG K g) (lT K p6) (lE K f) e H Q:=by let⟨p,Φ,ρ,R,E,t,o⟩:=h;show wG j c E t (λds h=>Ee h c) o
def dR{k:Nat}(o:X.calm=ř)(Q:CompScope X.N X.env.scope scope N' cap)(p:ga k cap=ř)(y:GM k g)(hi:PID K X w a l)
  (v:∀(cl:Y (Str×Addr))(e:Y Addr)(C:Addr)(h:À)(c:Hp),PGD K (bS X scope N' cl C h c e) w g)
  (u:∀(cl:Y (Str×Addr))(e:Y Addr)(C:Addr)(h:À)(c:Hp),PD K (bS X scope N' cl C h c e) r f) (z:∀x,Ì a X.env x=pure x:=by intro _;rfl):PF K X (.ListComp r [⟨w,a,[],0⟩] scope B) (pR l cap g f):=
 ⟨λj=>(rZ o Q (hi.pi j) (λcl e C h c=>(v cl e C h c).pg j) (λcl e C h c=>(tT (K:=K)).p j) (λcl e C h c=>(u cl e C h c).pe j) z).imp λ_ _ _=>wT p y⟩
end
structure EndsD where
 nx:bu->Prop
 rt:D->Prop
 bk:bu->Prop:=λ_=>False
 ct:bu->Prop:=λ_=>False
noncomputable abbrev c8:=EndsD->bu->Prop
noncomputable def pI(K:Â)(g h:Hp)(P:bu->Prop)(Q:St->Hp->Prop):Prop:=∀c a f e,P c->Gr g h a f->EnvD K h a f e c->Q e f
structure EndOk(K:Â)(Φ0 H0:Hp)(De:EndsD)(E:Ends):Prop where
 nx:pI K Φ0 H0 De.nx E.nx
 rt:∀d Φ' H' v,De.rt d->Gr Φ0 H0 Φ' H'->Rp K Φ' d v->E.rt v H'
 bk:pI K Φ0 H0 De.bk E.bk
 ct:pI K Φ0 H0 De.ct E.ct
inductive lS(K:Â)(t:c8)(E:Ends)(σ:St)(H:Hp):Prop|mk (Φ0:Hp) (H0:Hp) (Φ:Hp) (ρ:bu) (De:EndsD) (_:Gr Φ0 H0 Φ H) (_:EnvD K H0 Φ H σ ρ) (_:t De ρ) (_:EndOk K Φ0 H0 De E)
structure PSD(K:Â)(X:Cx)(st:Ç)(t:c8):Prop where ps:X.K=K->PS X st (lS K t)
structure PSsD(K:Â)(X:Cx)(st:List Ç)(t:c8):Prop where ps:X.K=K->PSs X st (lS K t)
section
variable{K:Â}{X:Cx}{st:Ç}{l:Y Ç}{t u:c8}{e a:Ã}{o:TD}{tf:aM}{f:Ö}{w:cm}
noncomputable def xz:c8:=λc ρ=>c.nx ρ
noncomputable def EI(t u:c8):c8:=λc ρ=>t { c with nx:=u c } ρ
noncomputable def DD(t u:c8):c8:=λg ρ=>∃I:bu->Prop,t { g with nx:=I } ρ/\∀c,I c->u g c
def cf:PSsD K X [] xz:=⟨λ_=>pss_nil.imp λE j H c=>by let⟨h,r,Φ,ρ,p,g,V,t,k⟩:=c;show k.nx ρ Φ H j t g V⟩
def bt(z:PSD K X st t)(A:PSsD K X l u):PSsD K X (st::l) (EI t u):=⟨λr=>(n5 (z.ps r) (A.ps r)).imp λE F H x=>by let⟨c,p,Φ,ρ,v,g,V,t,k⟩:=x;exact
 ⟨c,p,Φ,ρ,_,g,V,t,⟨λj h C B t' g' y=>⟨c,p,h,j,v,g',y,t',k⟩,k.rt,k.bk,k.ct⟩⟩⟩
def fV(A:PSD K X st t)(B:PSsD K X l u):PSsD K X (st::l) (DD t u):=⟨λv=>(n5 (A.ps v) (B.ps v)).imp λE G H y=>by let⟨h,r,Φ,ρ,x,g,V,⟨I,t,c⟩,k⟩:=y;exact
 ⟨h,r,Φ,ρ,_,g,V,t,⟨λj p F C t' g' z=>⟨h,r,p,j,x,g',z,c j t',k⟩,k.rt,k.bk,k.ct⟩⟩⟩
def aD(c:PSD K X st t):PSsD K X [st] t:=⟨λg=>uI (c.ps g)⟩
noncomputable def Du:c8:=λ_ _=>False
def CN:PSD K X st Du:=⟨λ_=>ps_never.imp λE r H c=>by let⟨h,p,Φ,ρ,j,g,V,t,k⟩:=c;show t⟩
noncomputable def kA(i:Nat)(o:TD):c8:=λc ρ=>o ρ λd=>c.nx (ρ.set i (Z (.v d)))
def yW{i:Nat}{E:Ends}{p:St}{H:Hp}(h:lS K (kA i o) E p H):jo (lE K o) (iW i) E p H:=by let⟨A,x,Φ,ρ,B,g,V,t,k⟩:=h;show⟨x,Φ,ρ,_,V,t,λd c y v r j z=>k.nx _ c y _ r (g.trans j) ((V.gr j).set z i)⟩
def cw{i:Nat}{x:Str}{c:Ö}(h:X.N.Nodup)(hi:X.N[i]?=Z x)(v:eI X.env.scope x)(j:PD K X e o)(r:Î e (Z (.Name x c)) f.line X.env=pure Ś:=by rfl)(p:X.fn x=ř\/X.env.scope.names.lookup x=Z .local:=by nofun) :
  PSD K X (.Assign [.Name x c] e f) (kA i o):=⟨λg=>(qZ h hi v (j.pe g) r p).imp λ_ _ _=>yW⟩
noncomputable def sJ(i:Nat)(tf:aM):c8:=λc ρ=>tf ρ λds=>c.nx (ρ.set i (Z (.own ds)))
def xO{i:Nat}{E:Ends}{x:St}{H:Hp}(h:lS K (sJ i tf) E x H):lF K tf x H λv C=>iW i v x C E.nx:=by let⟨M,F,Φ,ρ,N,g,V,t,k⟩:=h;refine⟨F,Φ,ρ,_,V,t,λds c G p vs r y A L J rl=>k.nx _ c G _ r (g.trans y) ((V.gr y).setOwn rl (g.h.free A) L J (λj es I z=>?_) i)⟩;let⟨q,O,e,_,_,B,_⟩:=V.ow j _ I;rw[e]at z;cases z;rw[A]at B;cases B
def En{i:Nat}{x:Str}{c:Ö}(j:X.N.Nodup)(hi:X.N[i]?=Z x)(y:eI X.env.scope x)(p:PF K X e tf)(v:Î e (Z (.Name x c)) f.line X.env=pure Ś:=by rfl)(r:X.fn x=ř\/X.env.scope.names.lookup x=Z .local:=by nofun) :
  PSD K X (.Assign [.Name x c] e f) (sJ i tf):=⟨λg=>(qZ j hi y (p.pe g) v r).imp λ_ _ _ h=>xO h⟩
noncomputable def zb(o:TD):c8:=λc ρ=>o ρ c.rt
def bf(z:PD K X e o):PSD K X (.Return (Z e) f) (zb o):=
 ⟨λy=>(uy (z.pe y)).imp λE F H p=>by let⟨B,h,Φ,ρ,C,g,V,t,k⟩:=p;show⟨h,Φ,ρ,_,V,t,λd c j v r x A=>k.rt d c j v r (g.trans x) A⟩⟩
noncomputable def zq(c:cm)(t u:c8):c8:=λg ρ=>c ρ λb=>(b=ř->t g ρ)/\(b=Ś->u g ρ)
def bZ{c:Ã}{a b:Y Ç}(C:PTD K X c w)(A:PSsD K X a t)(B:PSsD K X b u):PSD K X (.If c a b f) (zq w t u):=
 ⟨λx=>(wU (C.pt x) (A.ps x) (B.ps x)).imp λE G H z=>by let⟨h,v,Φ,ρ,y,g,V,t,k⟩:=z;show⟨v,Φ,ρ,_,V,t,λc j F r p=>by
  cases c with
  |true=>refine jW ?_;show⟨h,v,j,ρ,y,g.trans p,V.gr p,r.1 S,k⟩
  |false=>refine jB ?_;show⟨h,v,j,ρ,y,g.trans p,V.gr p,r.2 S,k⟩⟩⟩
noncomputable def Cc(c:cm)(tb:c8):c8:=λp ρ=>∃I:Nat->bu->Prop,(∃m,I m ρ)/\∀m g,I m g->c g λb=>(b=ř->tb { p with nx:=λh=>∃j,j<m/\I j h,ct:=λh=>∃j,j<m/\I j h,bk:=p.nx } g)/\(b=Ś->p.nx g)
def FW{c:Ã}{x:Y Ç}{tb:c8}(hp:ø (Ä X.prog X.w) X.A X.env X.xe)(hc:PTD K X c w)(b_:PSsD K X x tb):PSD K X (.While c x [] f) (Cc w tb):=
 ⟨λR=>(tX hp (hc.pt R) (b_.ps R)).imp λE be H U=>by
  let⟨y,B,Φ,ρ,De,g,V,⟨I,⟨m,a_⟩,hw⟩,k⟩:=U;refine⟨λm be H=>∃p j,Gr y B p H/\EnvD K B p H be j/\I m j,⟨m,Φ,ρ,g,V,a_⟩,?_⟩;rintro m Q H' ⟨p,j,g',M,hi⟩;refine⟨B,p,j,_,M,hw m j hi,λb G T r J=>?_⟩
  cases b with
  |false=>refine jB ?_;show k.nx j G T Q (r.2 S) (g'.trans J) (M.gr J)
  |true=>
   refine jW ?_;refine⟨λv F=>∃C,C<m/\∃p j,Gr y B p F/\EnvD K B p F v j/\I C j,λv F h=>h,y,B,G,j,_,g'.trans J,M.gr J,r.1 S,⟨?_,k.rt,k.nx,?_⟩⟩
   ·rintro A z F v ⟨C,P,L⟩ O N;show⟨C,P,z,A,O,N,L⟩
   ·rintro A z F v ⟨C,P,L⟩ O N
    show⟨C,P,z,A,O,N,L⟩⟩
noncomputable def DR(p:aM)(j:dl)(tb:c8):c8:=λg ρ=>p ρ λds=>∃I:Nat->bu->Prop,I 0 ρ/\(∀i d c,ds[i]?=Z d->I i c->j d c λh=>tb { g with nx:=I (i+1),ct:=I (i+1),bk:=g.nx } h)/\∀c,I ds.length c->g.nx c
def eg{tg z:Ã}{F:Y Ç}{ti:aM}{gd:dl}{tb:c8}(hp:ø (Ä X.prog X.w) X.A X.env X.xe)(hc:X.calm=ř)(hi:PID K X tg z ti)(hg:PGD K X tg gd)(hb:PSsD K X F tb)
  (hs:∀x,Ì z X.env x=pure x:=by intro _;rfl):PSD K X (.For tg z F [] f) (DR ti gd tb):=
 ⟨λhK=>(vS hp hc (hi.pi hK) (hg.pg hK) (hb.ps hK) hs).imp λE σ H Nx=>by
  let⟨b_,L,Φ,ρ,De,g,V,t,k⟩:=Nx;refine⟨L,Φ,ρ,_,V,t,λds M H1 J NR g1 be=>?_⟩;let⟨I,h0,Ob,ON⟩:=NR;refine⟨λi m σ G=>m=ds.length-i/\i<=ds.length/\∃c h,Gr b_ L c G/\Same M c/\EnvD K L c G σ h/\I i h,⟨ds.length,by simp,KU _,M,ρ,g.trans g1,Same.refl _,V.gr g1,h0⟩,?_⟩;rintro i m σ' G ⟨rfl,hi,c,h,g',U,R,hI⟩;by_cases NL:i<ds.length
  ·refine .inr ⟨be.go i G (U.trans R.fz) NL,λσ2 P=>∃c h,Gr b_ L c P/\Same M c/\EnvD K L c P σ2 h/\I (i+1) h,λσ2 P h2=>⟨ds.length-(i+1),(),S,NL,h2⟩,λx P y=>?_⟩;let⟨N,B,rx⟩:=be.yl i c G x P _ U R.fz (bE NL) y;refine⟨L,N,h,_,_,R.gr B,rx,Ob i _ h (bE NL) hI,λρ2 σ3 t2 V3=>?_⟩;refine⟨N,L,N,ρ2,_,?_,V3,t2,⟨?_,?_,?_,?_⟩⟩
   ·show⟨Same.refl _,(g'.trans B).h,B.s,λp u hp hn _=>hn⟩
   ·intro A j Q O a_ C T;show⟨j,A,(g'.trans B).join C,(U.trans B.f).trans C.f,T,a_⟩
   ·intro d j Q v r C rv;show k.rt d j Q v r ((g'.trans B).join C) rv
   ·intro A j Q O a_ C T;show k.nx A j Q O a_ ((g'.trans B).join C) T
   ·intro A j Q O a_ C T;show⟨j,A,(g'.trans B).join C,(U.trans B.f).trans C.f,T,a_⟩
  ·have e:i=ds.length:=by omega
   subst e
   show .inl ⟨be.stop G (U.trans R.fz),k.nx h c G σ' (ON h hI) g' R⟩⟩
end
section
variable{K:Â}{X:Cx}{l a f e:Ã}{w:Y Ã}{scope:â}{c B F:Ö}{N':Y Str}{cap:Y (Ř Nat)}{z:aM}{g:dl}{A:cm}{j:TD}{i:Nat}{y:Str}
def uN{tf:aM}{E:Ends}{u:St}{H:Hp}(o:∀{u:St}{H:Hp}{Q:VK},lF K tf u H Q->gS (lI K z) cap (lG K g) (lT K A) (lE K j) u H Q)(h:lS K (kA i (nE tf)) E u H):jo (gS (lI K z) cap (lG K g) (lT K A) (lE K j)) (iW i) E u H:=by let⟨N,J,Φ,ρ,O,gg,V,t,L⟩:=h;show o ⟨J,Φ,ρ,_,V,t,λds M I p vs r x C v G rr=>L.nx _ _ I _ r (gg.trans (x.freeze C v G)) ((V.gr (x.freeze C v G)).set ((rr.same (c9 v _)).lst bh) i)⟩
def rJ{k:Nat}(v:X.calm=ř)(H:X.N.Nodup)(P:X.N[i]?=Z y)(O:eI X.env.scope y)(Q:CompScope X.N X.env.scope scope N' cap)(E:ga k cap=ř)(M:GM k g)(hi:PID K X l a z)
  (L:∀(cl:Y (Str×Addr))(p:Y Addr)(C:Addr)(r:À)(o:Hp),PGD K (bS X scope N' cl C r o p) l g)
  (I:∀(cl:Y (Str×Addr))(p:Y Addr)(C:Addr)(r:À)(o:Hp),PD K (bS X scope N' cl C r o p) f j) (G:Î (.ListComp f [⟨l,a,[],0⟩] scope c) (Z (.Name y B)) F.line X.env=pure ř:=by rfl)
  (N:∀x,Ì a X.env x=pure x:=by intro _;rfl) (J:X.fn y=ř\/X.env.scope.names.lookup y=Z .local:=by nofun) :
  PSD K X (.Assign [.Name y B] (.ListComp f [⟨l,a,[],0⟩] scope c) F) (kA i (nE (pR z cap g j))):=
 ⟨λu=>(nr v H P O Q (hi.pi u) (λcl p C r o=>(L cl p C r o).pg u) (λcl p C r o=>(tT (K:=K)).p u) (λcl p C r o=>(I cl p C r o).pe u) G N J).imp λ_ _ _ h=>uN (λq=>wT E M q) h⟩
def ui{k:Nat}(v:X.calm=ř)(H:X.N.Nodup)(Q:X.N[i]?=Z y)(P:eI X.env.scope y)(U:CompScope X.N X.env.scope scope N' cap)(E:ga k cap=ř)(M:GM k g)(hi:PID K X l a z)
  (L:∀(cl:Y (Str×Addr))(p:Y Addr)(C:Addr)(r:À)(o:Hp),PGD K (bS X scope N' cl C r o p) l g) (O:∀(cl:Y (Str×Addr))(p:Y Addr)(C:Addr)(r:À)(o:Hp),PIfD K (bS X scope N' cl C r o p) w A)
  (I:∀(cl:Y (Str×Addr))(p:Y Addr)(C:Addr)(r:À)(o:Hp),PD K (bS X scope N' cl C r o p) f j) (G:Î (.ListComp f [⟨l,a,w,0⟩] scope c) (Z (.Name y B)) F.line X.env=pure ř:=by rfl)
  (N:∀x,Ì a X.env x=pure x:=by intro _;rfl) (J:X.fn y=ř\/X.env.scope.names.lookup y=Z .local:=by nofun) :
  PSD K X (.Assign [.Name y B] (.ListComp f [⟨l,a,w,0⟩] scope c) F) (kA i (nE (nF z cap g A j))):=
 ⟨λu=>(nr v H Q P U (hi.pi u) (λcl p C r o=>(L cl p C r o).pg u) (λcl p C r o=>(O cl p C r o).p u) (λcl p C r o=>(I cl p C r o).pe u) G N J).imp λ_ _ _ h=>uN (λq=>pN E M q) h⟩
def A2{h r Φ H:Hp}{p:Addr}{o:HO}(g:Gr h r Φ H)(x:r p=ŗ)(v:Φ p=ŗ):Gr h r Φ (ao H p o):=
 ⟨g.f,wB g.h x _,λb u e=>by rw[aR (cU e v)];show g.s b u e,λp u C v k=>g.o p u C v k⟩
noncomputable def ut(i:Nat)(j:TD):c8:=λh ρ=>match ρ[i]? with|some (Z (.ob (.lst ds)))=>j ρ λd=>ds.length<sizeLine/\NF (ds++[d]) λes=>h.nx (ρ.set i (Z (.own es)))|_=>False
def xk{h u o:Ö}{x:Str}(i:Nat)(he:PD K X e j)(be:((backTo u (starEach [e] X.env)).all (λx=>!x.1)&&(Þ u (Ô [] X.env)).all (λx=>x.1.isSome)&&decide (([e]:Y Ã).length+([]:Y Ù).length+(if ([]:Y Ù).isEmpty then 0 else 1)<30))=ř)
  (L:starEach [e] X.env=(Ś,eval e X.env)::starEach [] X.env) (b_:X.N[i]?=Z x:=by rfl) (hv:cH X.env.scope x:=by nofun) (hd:ab x:=by decide) (O:fI x:=by decide)
  (P:Ë (.Name x o) "append" X.env (eval (.Name x o) X.env)=eval (.Name x o) X.env:=by rfl) (Q:(h.endLine==u.line)=ř:=by rfl) (hs:Î (.Call (.Attribute (.Name x o) "append" h) [e] [] u) ŗ c.line X.env=pure Ś:=by rfl) :
  PSD K X (.Expr (.Call (.Attribute (.Name x o) "append" h) [e] [] u) c) (ut i j):=
 ⟨λa_=>(jQ (j7 KJ LY LZ oy (pv i b_ hv hd O) (eM (he.pe a_) pa_nil L) P be Q L ae) hs).imp λE σ H R=>by
  let⟨Φ0,N,Φ,ρ,De,g,V,t,k⟩:=R;unfold ut at t;split at t
  ·next ds ho=>
   let⟨p,vs,M,U,hn,I,rl⟩:=V.owl i ds ho;refine⟨_,M,.inl ⟨S,vs,SqL.of I⟩,N,Φ,ρ,_,V,t,λd J H1 v r C rv=>?_⟩;have T:=C.h _ _ I;have G:=C.o _ _ I hn;refine⟨p,vs,v,S,S,T,by rw[rl.1];show r.1,k.nx _ J _ σ r.2.get (A2 (g.trans C) U G) ((V.gr C).put ho M ((rl.same C.f).append (.one rv)))⟩
  ·show t.elim⟩
end
noncomputable def jV(N:Y Str)(ds:Y D):bu:=ds.map (λd=>Z (.v d))++List.replicate (N.length-ds.length) ŗ
def Ft{K:Â}{Φ H:Hp}{N:Y Str}{ds:Y D}{vs:Y V}(sm:Same Φ H)(tb:TabF K Φ)(r:RpL K Φ ds vs):EnvD K H Φ H (eK N vs) (jV N ds):=by
 have own:∀{i:Nat}{x:Sl},(jV N ds)[i]?=Z (Z x)->∃d,ds[i]?=Z d/\x=.v d:=λ{i x} h=>by
  unfold jV at h;rcases JW i (ds.map λd=>Z (Sl.v d)).length with c|c
  ·rw[I0 c,Jm]at h
   cases e:ds[i]? with
   |none=>rw[e]at h;cases h
   |some d=>rw[e]at h;cases h;show⟨d,S,S⟩
  ·rw[IZ c,Kq]at h;split at h
   ·cases h
   ·cases h
 refine⟨sm,by unfold eK jV;simp[r.1],λi d h=>?_,λi es h=>?_,λi j es fs p h=>?_,tb⟩
 ·let⟨d',f,a⟩:=own h;cases a;let⟨v,g,l⟩:=r.at f;refine⟨v,?_,l⟩;unfold eK;rw[I0 (by rw[IY];show aA g),Jm,g];rfl
 ·let⟨d',f,a⟩:=own h;cases a
 ·let⟨d',f,a⟩:=own h;cases a
section
variable{P:Å}{w:È}{K:Â}{mg:Str->Ř Value}{base:Heap}
def Fun.okD{x qual:Str}{st:Ç}{f:Addr}{e:Í}{N ps:Y Str}{k:Nat}{sp:cb}(F:Fun K x qual st f e)(U:FnScope N ps (av st))(len:∀ds R,sp ds R->ds.length=ps.length)
  (o:∀(a:Value)(A:Ê)(outer:Y ë)(s:À)(H:Hp)(E:XK)(ds:Y D)(R:D->Prop),Room k (A.deeper (ê qual (av st) s.heap.objs.size f a))->sp ds R->
   ∃t,PSsD K (iz aE P w K mg base N qual (av st) f a A outer s H E).nox (fZ st) t/\t { nx:=λ_=>R .non,rt:=R } (jV N ds)):FnOk P w K mg base aE (k+1) f e ps (lSp K sp):=by
 refine F.ok U (λvs H Q E ⟨Φ,ds,R,sm,tb,rl,h,_⟩=>by rw[rl.1];show len ds R h) (λa A outer s H vs Q E u ⟨Φ,ds,R,sm,tb,rl,h,j⟩=>?_);let⟨t,v,p⟩:=o a A outer s H E ds R u h;show⟨lS K t,v.ps S,Φ,H,Φ,jV N ds,_,.refl sm,Ft sm tb rl,p,⟨λy c l z r g V=>j .non c l .non r g .non,j,λ_ _ _ _ h=>h.elim,λ_ _ _ _ h=>h.elim⟩⟩
end
noncomputable def tz(K:Â)(b:Bool)(a:Addr):It:=match b with|true=>qI K a|false=>ra K a
section
variable{K:Â}{X:Cx}{z e a b:Ã}{es:Y Ã}{f p B:Ö}{t A:TD}{j:aM}
def BA{l:Ã}{j:TE}(F:X.K=K)(J:PE X l j):PI X z l (λw H R=>j w H λx r=>∃q a,x=.ref a/\(∃xs,SqB K q r a xs)/\R (tz K q a) r):=by
 subst F;intro g s w H R I h;refine aC (J g s w H _ I h) λv c E=>?_;let⟨x,r,u,N,M⟩:=E;let⟨bb,a,e,⟨xs,C⟩,q⟩:=M;subst e;cases N
 have y:∀b∈[c.heap.objs.size],ei X g r b:=λb G=>by
  have e:b=c.heap.objs.size:=by simpa using G
  subst e;show u.fpOk (Jg _) (u.hok.fresh (Jg _))
 cases bb with
 |true=>
  let⟨its,O,p,L⟩:=u.list C;refine L9 p.isList ?_;show⟨c.heap.objs.size,[c.heap.objs.size],_,_,r,S,u.kept (t':=c.toks) λb o e=>Jf _ e,xT a _,⟨_,Jq _ S,S,S⟩,y,q⟩
 |false=>
  let⟨its,O,p,L⟩:=u.tuple C;refine Ln (show c.heap.IsTuple a its.toArray from p) ?_;show⟨c.heap.objs.size,[c.heap.objs.size],_,_,r,S,u.kept (t':=c.toks) λb o e=>Jf _ e,CA a _,⟨_,Jq _ S,S,S⟩,y,q⟩
def Eo{Φ:Hp}{ds:Y D}{vs:Y V}{a:Addr}{q:Bool}(h:SqB K q Φ a vs)(r:RpL K Φ ds vs):SteadyD K (tz K q a) Φ ds:=by
 cases q with
 |true=>show Iy h r
 |false=>show yg h r
noncomputable def tS(t:TD):aM:=λρ R=>t ρ λd=>match d with|.lst ds=>R ds|.tup ds=>R ds|.fzl ds=>R ds|_=>False
def Ci{d:D}{R:Y D->Prop}(h:match d with|.lst ds=>R ds|.tup ds=>R ds|.fzl ds=>R ds|_=>False):∃ds,cV d=Z ds/\R ds:=by
 cases d with
 |lst ds=>show⟨ds,S,h⟩
 |tup ds=>show⟨ds,S,h⟩
 |fzl ds=>show⟨ds,S,h⟩
 |_=>show h.elim
def bX(h:PD K X e t):PID K X z e (tS t):=⟨λo=>(BA o (h.pe o)).imp λI H G x=>by let⟨u,Φ,ρ,R,E,t,k⟩:=x;show⟨u,Φ,ρ,_,E,t,λd c w v r g F=>by
 let⟨ds,y,r⟩:=Ci r;let⟨q,a,vs,rfl,l,C⟩:=F.seq y
 show⟨q,a,S,⟨vs,SqB.same g.s l⟩,k _ c w _ r g (Eo l C)⟩⟩⟩
def Ak{a:Ã}{A:TA}{es:Y Ã}{k:Nat}(G:X.K=K)(L:Gl X "enumerate")(N:X.mg "enumerate"=ŗ)(J:PA X [a] A)(P:starEach [a] X.env=[(Ś,eval a X.env)]) :
  PI X (.Tuple es k B) (.Call (.Name "enumerate" p) [a] [] f) (λx H R=>A x H λvs o=>∃b a xs,vs=[.ref a]/\SqB K b o a xs/\R (ox K b a) o):=by
 subst G;intro g s x H R I h;refine Call_ (hV I L N boot_enumerate (Kc (aC (J f g s x H _ I h) λus v F=>?_) P S));let⟨vs,o,w,a_,Q⟩:=F;let⟨b,l,xs,e,O,q⟩:=Q;subst e
 cases a_ with
 |cons r rr=>
  cases rr;cases r;let⟨its,U,p,T⟩:=w.sqb O;refine D3 p λh' C hi hsz M=>Ň C ?_;have E:Inv X g x o { v with heap:=h' }:=w.kept (t':=v.toks) M;have y:∀c,v.heap.objs.size<=c->ei X g o c:=λc u=>w.fpOk u (w.hok.fresh u)
  show⟨v.heap.objs.size+1,[v.heap.objs.size+1,v.heap.objs.size],_,_,o,S,E,zm b l _ _ (Nat.succ_ne_self _),⟨⟨_,C⟩,hi⟩,λc u=>by
   rcases Jt.mp u with rfl|u
   ·show y _ (Nat.le_succ _)
   ·rw[Jk.mp u];show y _ (Jg _),q⟩
def yR{a b:Ã}{A:TA}{es:Y Ã}{k:Nat}(M:X.K=K)(O:Gl X "zip")(Q:X.mg "zip"=ŗ)(N:PA X [a,b] A)(be:starEach [a,b] X.env=[(Ś,eval a X.env),(Ś,eval b X.env)])(C:starEach [b] X.env=[(Ś,eval b X.env)]) :
  PI X (.Tuple es k B) (.Call (.Name "zip" p) [a,b] [] f) (λy H R=>A y H λvs l=>∃v w a1 a2 xs ys,vs=[.ref a1,.ref a2]/\SqB K v l a1 xs/\SqB K w l a2 ys/\R (qi K v a1 w a2) l):=by
 subst M;intro g s y H R I h;refine Call_ (hV I O Q boot_zip (Kc (aC (N f g s y H _ I h) λus x ⟨vs,l,o,r1,q1⟩=>?_) (by rw[be,C]) (by rw[C];rfl)));let⟨v,w,T,U,xs,ys,e,G,J,q⟩:=q1;subst e
 cases r1 with
 |cons r rr=>
  cases rr with
  |cons r' rr=>
   cases rr;cases r;cases r';let⟨RO,T7,a_,_⟩:=o.sqb G;let⟨Oz,T8,b_,_⟩:=o.sqb J;refine D2 a_ b_ λh' E z2 z3 z4 z5 P=>ō E ?_;have F:Inv X g y l { x with heap:=h' }:=o.kept (t':=x.toks) P;have L:∀c,x.heap.objs.size<=c->ei X g l c:=λc u=>o.fpOk u (o.hok.fresh u);generalize x.heap.objs.size=n at *;refine⟨n+4,[n+4,n+2,n+3,n,n+1],_,_,l,S,F,DF v w T U (n+4) (n+2) (n+3) n (n+1) (Dz n),⟨E,z2,⟨_,_,z3⟩,z4,z5⟩,λc u=>L c ?_,q⟩;simp only[Jt,K7,or_false]at u;rcases u with rfl|rfl|rfl|rfl|rfl
   ·show Mg _ _
   ·show Mg _ _
   ·show Mg _ _
   ·show Jg _
   ·show Mg _ _
noncomputable def zF(t:aM):aM:=λρ R=>t ρ λds=>match ds with| [.lst xs]=>R (gP xs)| [.tup xs]=>R (gP xs)| [.fzl xs]=>R (gP xs)|_=>False
def gC{F:Y Ã}{G:Nat}(L:Gl X "enumerate")(M:X.mg "enumerate"=ŗ)(J:PAD K X [a] j)(N:starEach [a] X.env=[(Ś,eval a X.env)]:=by rfl):PID K X (.Tuple F G B) (.Call (.Name "enumerate" p) [a] [] f) (zF j):=
 ⟨λw=>(Ak w L M (J.pa w) N).imp λU H C y=>by let⟨x,Φ,ρ,R,E,t,k⟩:=y;show⟨x,Φ,ρ,_,E,t,λds l o vs r g h _=>by
  have c:∀{d:D}{xs:Y D},RpL K l [d] vs->cV d=Z xs->R (gP xs)->∃b a xs,vs=[.ref a]/\SqB K b o a xs/\C (ox K b a) o:=λ{d xs} h O r=>by let⟨v,rfl,P⟩:=h.one_inv;let⟨q,a,Q,rfl,u,I⟩:=P.seq O;show⟨q,a,Q,S,SqB.same g.s u,k _ l o _ r g (yT u I)⟩
  match ds,r with
  | [.lst xs],r=>show c h S r
  | [.tup xs],r=>show c h S r
  | [.fzl xs],r=>show c h S r⟩⟩
noncomputable def Ea(t:aM):aM:=λρ R=>t ρ λds=>match ds with| [d,e]=>∃xs ys,cV d=Z xs/\cV e=Z ys/\R (fL xs ys)|_=>False
def js{F:Y Ã}{G:Nat}(M:Gl X "zip")(N:X.mg "zip"=ŗ)(L:PAD K X [a,b] j)(O:starEach [a,b] X.env=[(Ś,eval a X.env),(Ś,eval b X.env)]:=by rfl)(C:starEach [b] X.env=[(Ś,eval b X.env)]:=by rfl):PID K X (.Tuple F G B) (.Call (.Name "zip" p) [a,b] [] f) (Ea j):=
 ⟨λo=>(yR o M N (L.pa o) O C).imp λσ H R' y=>by let⟨u,Φ,ρ,R,E,t,k⟩:=y;show⟨u,Φ,ρ,_,E,t,λds c x vs r g b_ _=>by
  match ds,r with
  | [d,e],⟨xs,ys,P,Q,r⟩=>
   let⟨v,w,rfl,U,a_⟩:=b_.two_inv;let⟨be,a1,ws,rfl,h,I⟩:=U.seq P;let⟨T,a2,us,rfl,l,J⟩:=a_.seq Q
   show⟨be,T,a1,a2,ws,us,S,SqB.same g.s h,SqB.same g.s l,k _ c x _ r g (xW h l I J)⟩⟩⟩
variable{gs:fK}
noncomputable def uw(n:Nat)(t:fK):dl:=λd ρ R=>match d with|.tup ds=>ds.length=n/\t ds ρ R|.lst ds=>ds.length=n/\t ds ρ R|_=>False
def PG.or{z:Ã}{t t':TG}(h:PG X z t)(h':PG X z t'):PG X z (λv l H Q=>t v l H Q\/t' v l H Q):=by
 intro c s l H v u Q I r g;rcases g with g|g
 ·show h c s l H v u Q I r g
 ·show h' c s l H v u Q I r g
def eC{k n:Nat}(u:X.calm=ř)(h:PGDs K X es gs)(w:(Æ es X.env).length=n:=by rfl)(o:(Æ es X.env).findIdx? (·.1)=ŗ:=by rfl):PGD K X (.Tuple es k f) (uw n gs):=
 ⟨λc=>((sE c u (h.pg c) w o).or (wF c u (h.pg c) w o)).imp λv y H Q x=>by
  let⟨l,Φ,ρ,d,R,E,r,g,k⟩:=x
  cases d with
  |tup ds=>cases r with|tup h1 h2 h3=>show .inl ⟨_,_,S,.of (E.fz _ _ h1),by rw[h2];show g.1,l,Φ,ρ,ds,R,E,⟨h2,h3⟩,g.2,k⟩
  |lst ds=>cases r with|lst h1 h2 h3=>show .inr ⟨_,_,S,.of (E.fz _ _ h1),by rw[h2];show g.1,l,Φ,ρ,ds,R,E,⟨h2,h3⟩,g.2,k⟩
  |_=>show g.elim⟩
def iE{k n:Nat}{t:fK}(h:GMs k t):GM k (uw n t):=⟨⟨λd ρ R r=>by
 cases d with
 |tup ds=>show⟨r.1,h.k.p ds ρ R r.2⟩
 |lst ds=>show⟨r.1,h.k.p ds ρ R r.2⟩
 |_=>show r⟩,λd ρ R c g r=>by
 cases d with
 |tup ds=>show⟨r.1,h.m ds ρ R c g r.2⟩
 |lst ds=>show⟨r.1,h.m ds ρ R c g r.2⟩
 |_=>show r⟩
def Cn{Φ H:Hp}{d:D}{v:V}{T:String}{r:Bool}(s:Same Φ H)(h:RpQ K Φ H d v)(e:kL d T=Z r):IsiV K H v T r:=by
 have sp:∀{c:Prop}[Decidable c]{x:Bool}{y:Ř Bool},(if c then Z x else y)=Z r->(c/\x=r)\/y=Z r:=λ{c _ x y} h=>by
  by_cases l:c
  ·rw[Jj l]at h;cases h;show .inl ⟨l,S⟩
  ·rw[Jd l]at h;show .inr h
 cases d with
 |int i=>
  cases h.int;rcases sp e with⟨rfl,rfl⟩|e
  ·show .int_int _
  rcases sp e with⟨rfl,rfl⟩|e
  ·show .int_bool _
  rcases sp e with⟨rfl,rfl⟩|e
  ·show .int_tuple _
  rcases sp e with⟨rfl,rfl⟩|e
  ·show .int_str _
  cases e
 |bl i=>
  cases h.bl;rcases sp e with⟨rfl,rfl⟩|e
  ·show .bl_int _
  rcases sp e with⟨rfl,rfl⟩|e
  ·show .bl_bool _
  rcases sp e with⟨rfl,rfl⟩|e
  ·show .bl_tuple _
  cases e
 |str i=>
  cases h.str;rcases sp e with⟨rfl,rfl⟩|e
  ·show .str_str _
  rcases sp e with⟨rfl,rfl⟩|e
  ·show .str_tuple _
  cases e
 |non=>cases e
 |tup ds=>
  let⟨a,vs,rfl,g,_,o⟩:=h.tup s;rcases sp e with⟨rfl,rfl⟩|e
  ·show .tup_tuple g
  rcases sp e with⟨rfl,rfl⟩|e
  ·show .tup_int g
  cases e
 |lst ds=>
  let⟨a,vs,rfl,g,o⟩:=h.lst s;rcases sp e with⟨rfl,rfl⟩|e
  ·show .lst_tuple (.of g)
  rcases sp e with⟨rfl,rfl⟩|e
  ·show .lst_list (.of g)
  cases e
 |fzl ds=>cases e
 |obj C fs=>cases e
 |map u=>cases e
 |exc _ _=>cases e
noncomputable def yf(T:String)(t:TD):TD:=λρ R=>t ρ λd=>∃r,kL d T=Z r/\R (.bl r)
def gX{T:String}{h:Str}{c:Ö}(I:Gl X "isinstance")(J:X.mg "isinstance"=ŗ)(G:PQ K X a t)(F:PE X (.Name h c) (tC (.ty T)))
  (w:starEach [a,.Name h c] X.env=(Ś,eval a X.env)::starEach [.Name h c] X.env) (o:starEach [.Name h c] X.env=(Ś,eval (.Name h c) X.env)::starEach [] X.env):PD K X (.Call (.Name "isinstance" p) [a,.Name h c] [] f) (yf T t):=
 ⟨λu=>(sY (Hc u) I J boot_isinstance (eM (G.pe u) (eM F pa_nil o) w) 'b' 'b' w (au o ae)).imp λN H Q C=>by let⟨x,Φ,ρ,R,E,t,k⟩:=C;show⟨x,Φ,ρ,_,E,t,λd l y v r g M=>by
  let⟨rr,L,r⟩:=r
  show⟨v,T,rr,S,Cn g.s M L,k _ l y _ r g (.bl _)⟩⟩⟩
def GH(i:Int):kL (.int i) "int"=Z ř:=rfl
def HW(i:Int):kL (.int i) "bool"=Z Ś:=rfl
def ir(xs:Y D):kL (.tup xs) "tuple"=Z ř:=rfl
end
def bI{a:Type}{f:a->D}{ns:Y a}{i:Nat}{x:D}(h:(ns.map f)[i]?=Z x):∃k,x=f k/\ns[i]?=Z k:=by
 rw[Jm]at h
 cases e:ns[i]? with
 |none=>rw[e]at h;cases h
 |some k=>rw[e]at h;cases h;show⟨k,S,S⟩
def cK{a:Type}{f:a->D}{ns:Y a}{i:Nat}{n:a}{k:Int}(h:ns[i]?=Z n)(e:k=(i:Int)):cF (ns.map f) k=Z (f n):=gB (by rw[Jm,h];rfl) e
def Ef{ns:Y Int}{k:Int}(c:0<=k)(h:k<(ns.length:Int)):∃v:Int,cF (ns.map D.int) k=Z (.int v):=by
 have a:k.toNat<ns.length:=by omega
 show⟨_,cK (bE a) ()⟩
noncomputable def wO:cb:=λds R=>∃ns:Y Int,ds=[.fzl (ns.map D.int)]/\ns.length<=63/\R (.bl ř)
noncomputable def vF(K:Â):Sp:=λvs H Q _=>∃(a:Addr)(ns:Y Int),vs=[.ref a]/\SqL K H a (ns.map V.int)/\ns.length<=63/\TabF K H/\∀c,Q (.bl ř) c
def AV{K:Â}:∀vs H Q E,vF K vs H Q E->lSp K wO vs H Q E:=by rintro vs H Q E ⟨a,ns,rfl,c,e,tb,q⟩;refine⟨H,[.fzl (ns.map D.int)],λd=>d=.bl ř,Same.refl _,tb,.one ((RpL.ints ns).fzl c),⟨ns,S,e,S⟩,λd h j v r g f=>?_⟩;subst r;obtain rfl:=f.b;show q _
noncomputable def aw(r:aq):D:=.tup [.tup (r.1.map D.int),.int r.2]
def D5{a c:Type}(f:a->c)(xs:Y a)(lo hi:Ř Int):dY (xs.map f) lo hi=(dY xs lo hi).map f:=by unfold dY;rw[IY,List.map_take,List.map_drop]
def wX(k:Nat)(z:Int):(List.replicate k [D.int z]).flatten=(List.replicate k z).map D.int:=by
 induction k with
 |zero=>rfl
 |succ k a=>rw[J1,JS,a];rfl
section
variable{g:dl}{a:TD}{ρ:bu}{R:Y D->Prop}
def qD{ds:Y D}(h:Y D)(r:h.length=ds.length)(f:ds.length<sizeLine)(Q:Nat->D->Prop)(j:∀i y,Q i y->h[i]?=Z y)(l:∀i d,ds[i]?=Z d->g d ρ λe=>a e (Q i))(k:R h) :
  ds.length<sizeLine/\∃P:Nat->D->Prop,(∀i d,ds[i]?=Z d->g d ρ λe=>a e (P i))/\∀ys:Y D,ys.length=ds.length->(∀i y,ys[i]?=Z y->P i y)->R ys:=by
 refine⟨f,Q,l,λys p o=>?_⟩
 have:ys=h:=by
  refine Kz λi=>?_;rcases JW i ys.length with c|c
  ·rw[bE c,j i _ (o i _ (bE c))]
  ·rw[JU c,JU ()]
 rw[this];show k
def gq{l:Type}{f:l->D}{xs:Y l}(h:l->D)(j:xs.length<sizeLine)(p:∀x∈xs,g (f x) ρ λc=>a c λy=>y=h x)(k:R (xs.map h)) :
  (xs.map f).length<sizeLine/\∃P:Nat->D->Prop,(∀i d,(xs.map f)[i]?=Z d->g d ρ λc=>a c (P i))/\∀ys:Y D,ys.length=(xs.map f).length->(∀i y,ys[i]?=Z y->P i y)->R ys:=by
 refine qD (xs.map h) (by simp) (by rw[IY];show j) (λi=>match xs[i]? with|some x=>λy=>y=h x|none=>λ_=>False) (λi y q=>?_) (λi d hd=>?_) k
 ·rw[Jm]
  cases e:xs[i]? with
  |none=>rw[e]at q;show q.elim
  |some x=>rw[e]at q;rw[q];rfl
 ·let⟨x,rfl,o⟩:=bI hd
  have e:(match xs[i]? with|some x=>λy=>y=h x|none=>λ_=>False:D->Prop)=λy=>y=h x:=by rw[o]
  rw[e];show p x (Je o)
def mH{lo:Int}{n:Nat}(h:Nat->D)(e:n<sizeLine)(j:∀i,i<n->g (.int (lo+(i:Nat))) ρ λc=>a c λy=>y=h i)(k:R ((List.range n).map h)) :
  (cA lo n).length<sizeLine/\∃P:Nat->D->Prop,(∀i d,(cA lo n)[i]?=Z d->g d ρ λc=>a c (P i))/\∀ys:Y D,ys.length=(cA lo n).length->(∀i y,ys[i]?=Z y->P i y)->R ys:=
 gq (f:=λi:Nat=>D.int (lo+(i:Nat))) (xs:=List.range n) h (by rw[Jz];show e) (λx l=>j x (JA.mp l)) k
def jz{c e:Type}(f:c->D)(h:e->D)(xs:Y c)(ys:Y e):fL (xs.map f) (ys.map h)=(List.zip xs ys).map λp=>.tup [f p.1,h p.2]:=by unfold fL;rw[List.zipWith_map,M3];rfl
def p8{e j:Type}{f:e->D}{h:j->D}{xs:Y e}{ys:Y j}(w:e->j->D)(o:xs.length<sizeLine)(u:∀x∈xs,∀y∈ys,g (.tup [f x,h y]) ρ λc=>a c λz=>z=w x y)(k:R (List.zipWith w xs ys)) :
  (fL (xs.map f) (ys.map h)).length<sizeLine/\∃P:Nat->D->Prop,(∀i d,(fL (xs.map f) (ys.map h))[i]?=Z d->g d ρ λc=>a c (P i))/\∀l:Y D,l.length=(fL (xs.map f) (ys.map h)).length->(∀i y,l[i]?=Z y->P i y)->R l:=by
 rw[jz];refine gq (λp:e×j=>w p.1 p.2) ?_ (λp r=>u p.1 (Lb r).1 p.2 (Lb r).2) ?_
 ·rw[M7];omega
 ·rw[M3];show k
end
end L2
namespace L2
def ff{p:Prop}(h:Ś=ř):p:=by cases h
def tf{p:Prop}(h:ř=Ś):p:=by cases h
end L2
namespace L2
end L2
namespace L2
def gx{a:Type}(f:a->D)(es:Y a)(d:a):es.map f++[f d]=(es++[d]).map f:=by simp
def rM{a:Type}(f:a->D)(es fs:Y a):es.map f++fs.map f=(es++fs).map f:=by simp
end L2
namespace L2
open PySem PySem.Spec PyProof.Rows
section
variable{g:dl}{a:TD}{ρ:bu}{R:Y D->Prop}
def j5{j:Type}{f:j->D}{xs:Y j}(h:j->Int)(e:xs.length<sizeLine)(l:∀x∈xs,g (f x) ρ λc=>a c λy=>y=.int (h x))(k:R ((xs.map h).map D.int)) :
  (xs.map f).length<sizeLine/\∃P:Nat->D->Prop,(∀i d,(xs.map f)[i]?=Z d->g d ρ λc=>a c (P i))/\∀ys:Y D,ys.length=(xs.map f).length->(∀i y,ys[i]?=Z y->P i y)->R ys:=
 gq (λx=>D.int (h x)) e l (by rw[J3]at k;show k)
end
section
variable{K:Â}{X:Cx}
def yS(h:X.K=K):qe X (sS K):=h▸DC
end
section
variable{K:Â}{X:Cx}{Φ H:Hp}{a e:Ã}{o:TD}{C:Addr}{j:Str}{l:Ö}
def u0{g:Str}{d:D}:∀{vs:Y (Str×V)}{fs:Y (Str×D)},vs.map (·.1)=fs.map (·.1)->(∀(i:Nat)(v:Str×V)(e:Str×D),vs[i]?=Z v->fs[i]?=Z e->Rp K Φ e.2 v.2)->fs.lookup g=Z d->∃v,vs.lookup g=Z v/\Rp K Φ d v
 | [],[],_,_,h=>by cases h
 | [],_::_,h,_,_=>by cases h
 |_::_,[],h,_,_=>by cases h
 |(x,v)::vs,(y,f)::fs,h,w,p=>by
  rw[JB,JB]at h;let⟨r,z⟩:=Me h;have r:x=y:=r;subst r;rw[JF]at p ⊢
  cases c:g==x with
  |true=>
   rw[c]at p;cases p;show⟨v,S,w 0 _ _ S S⟩
  |false=>
   rw[c]at p;show u0 z (λi u e B A=>w (i+1) u e B A) p
noncomputable def Dy(nm:Str)(f:Str)(t:TD):TD:=λρ R=>t ρ λx=>match x with|.obj SK fs=>SK=nm/\∃d,fs.lookup f=Z d/\R d|_=>False
def lx{c:TE}(f:X.K=K)(h:PE X a c)(g:Ë a j X.env (eval a X.env)=eval a X.env):PE X (.Attribute a j l) (vm K c j):=f▸Az h g
def aL{nm:Str}(c:Cls K C)(M:NoAttr K C j)(F:Ò K Á nm=Z (Z (.ref C)))(G:PQ K X a o)(I:Ë a j X.env (eval a X.env)=eval a X.env:=by rfl):PD K X (.Attribute a j l) (Dy nm j o):=
 ⟨λu=>(lx u (G.pe u) I).imp λP H Q y=>by let⟨w,Φ,ρ,R,E,t,k⟩:=y;show⟨w,Φ,ρ,_,E,t,λd h x v r g f=>by
  cases d with
  |obj O fs=>
   let⟨rfl,d,J,r⟩:=r;rcases f with f|⟨_,_,_,e,_⟩
   ·cases f with
    |obj p z A B=>
     rw[F]at p;cases p;let⟨v,L,N⟩:=u0 A B J;show⟨_,_,_,_,v,S,g.s _ _ z,c,M,L,k d h x v r g N⟩
   ·cases e
  |_=>show r.elim⟩⟩
end
section
variable{K:Â}{X:Cx}{a:Ã}{c p:Ö}
noncomputable def BD(t:TA):TE:=λf H Q=>t f H λvs e=>∃j:Int,vs=[.int j]/\∀r,e r=ŗ->Q (.ref r) (ao e r (.rng 0 j))
def Fe{u:TA}(x:Gl X "range")(y:X.mg "range"=ŗ)(w:PA X [a] u)(z:starEach [a] X.env=[(Ś,eval a X.env)]:=by rfl):PE X (.Call (.Name "range" p) [a] [] c) (BD u):=by
 intro f s C H R I h;refine Call_ (hV I x y boot_range (Kc (aC (w c f s C H _ I h) λus g v=>?_) z S));let⟨vs,E,l,B,A⟩:=v;let⟨j,e,q⟩:=A;subst e
 cases B with
 |cons r rr=>
  cases rr;let⟨t,rfl⟩:=r;refine call_range_1 ⟨.ref g.heap.objs.size,_,l.laid (a:=g.heap.objs.size) (o:=.rng 0 j) (t':=g.toks+1+1) (λb o e=>Jf _ e) (Jg _) ⟨_,_,_,Jq _ S⟩,S,q _ (l.hok.fresh (Jg _))⟩
noncomputable def gY(n:Nat):Y V:=(List.range n).map λi=>V.int (i:Nat)
def mE(n:Nat):(gY n).length=n:=by unfold gY;simp
def pH{e f:Type}{F:e->f->Prop}:∀{xs:Y e}{ys:Y f},xs.length=ys.length->(∀(i:Nat) x y,xs[i]?=Z x->ys[i]?=Z y->F x y)->Paired F xs ys
 | [],[],_,_=>.nil
 |x::xs,y::ys,g,h=>.cons (h 0 x y S S) (pH (by simpa using g) λi u v j l=>h (i+1) u v j l)
def vo{n i:Nat}{v:V}(h:(gY n)[i]?=Z v):v=.int (i:Nat):=by
 have hi:i<n:=by have:=aA h;rwa [mE]at this
 unfold gY at h;rw[Jm,Lk hi]at h;cases h;rfl
def E9{Φ:Hp}(n:Nat):RpL K Φ (cA 0 n) (gY n):=⟨by rw[mE,gc],λi v d e hd=>by
 rw[vo e,(ij hd).2,J6]
 show .int _⟩
end
section
variable{P:Å}{w:È}{K:Â}{mg:Str->Ř Value}{base:Heap}
def Fun.okL{x qual:Str}{st:Ç}{f:Addr}{c:Í}{N ps:Y Str}{k:Nat}{sp:Sp}(F:Fun K x qual st f c)(U:FnScope N ps (av st))(len:∀vs H Q E,sp vs H Q E->vs.length=ps.length)
  (j:∀(a:Value)(A:Ê)(outer:Y ë)(s:À)(H:Hp)(vs:Y V)(Q:VK)(E:XK),c.code=a->Room k (A.deeper (ê qual (av st) s.heap.objs.size f a))->sp vs H Q E->
   ∃t,PSs (iz aE P w K mg base N qual (av st) f a A outer s H E).nox (fZ st) t/\t { nx:=λ_ e=>Q .non e,rt:=Q } (eK N vs) H):FnOk P w K mg base aE (k+1) f c ps sp:=by
 let⟨v,y,kV,o,z,u,a,ct,r,rfl,lk,g⟩:=F.ex;refine rW lk g U len λA outer s H vs Q E p l=>?_;let⟨t,h,q⟩:=j a A outer s H vs Q E S p l;show⟨t,h.nox,q⟩
end
def v5{K:Â}{x:Str}(a:Ò K Á x=Z ŗ):qu K x=ŗ:=by unfold qu;simp only[a]
end L2
namespace L2
open PySem PySem.W PyProof.Rows
section
variable{a:Nat->Int}{N:Nat}
variable(c:∀i j,i<N->j<N->a i=a j->i=j)
include c
end
end L2
namespace L2
open PySem PySem.Spec PySem.W PyProof.Rows PySem.Calls
end L2
namespace L2
open PySem PySem.Spec PySem.W PyProof.Rows PySem.Calls
end L2
namespace L2
open PySem PySem.Spec PyProof.Rows
noncomputable def gz:ay->D
 |.inl i=>.int i
 |.inr s=>.str s
def Hw{K:Â}{Φ:Hp}{k:ay}{v:V}(r:Rp K Φ (gz k) v):v=kV k:=by
 cases k with
 |inl i=>obtain rfl:=r.i;rfl
 |inr s=>obtain rfl:=r.s;rfl
def AU{K:Â}{Φ H:Hp}{k:ay}{v:V}(r:RpQ K Φ H (gz k) v):v=kV k:=by
 cases k with
 |inl i=>show RpQ.int r
 |inr s=>show RpQ.str r
def wZ{K:Â}{Φ:Hp}{a:Y ay}{vs:Y V}(r:RpL K Φ (a.map gz) vs):vs=a.map kV:=by
 refine Kz λi=>?_;rw[Jm]
 cases h:a[i]? with
 |none=>
  have c:=LO.mp h;show JU (by rw[r.1,IY];show c)
 |some k=>
  let⟨v,e,f⟩:=r.at (i:=i) (d:=gz k) (by rw[Jm,h];rfl);rw[e,Hw f];rfl
noncomputable def jg(k:ay)(a:Y ay):Bool:=a.any λj=>decide (j=k)
def G1(k:ay)(a:Y ay):jg k a=ř↔k∈a:=by unfold jg;rw[LI];show⟨λ⟨j,c,e⟩=>JV e▸c,λh=>⟨k,h,J4 S⟩⟩
def sX(k:ay):iy (kV k)=ř:=by cases k<;>rfl
def zg(j k:ay):ik (kV j) (kV k)=decide (j=k):=by
 cases j with
 |inl a=>
  cases k with
  |inl b=>change (a==b)=_;by_cases h:a=b<;>simp[h]
  |inr b=>change Ś=_;simp
 |inr a=>
  cases k with
  |inl b=>change Ś=_;simp
  |inr b=>change (a==b)=_;by_cases h:a=b<;>simp[h]
def Hu(k:ay)(a:Y ay):jK (kV k) (a.map kV)=jg k a:=by unfold jK jg;rw[Nq];show List.any_congr S λj=>zg j k
noncomputable def FF(a:Bool):cL:=λe f R=>∃(k:ay)(c:Y ay),e=gz k/\cV f=Z (c.map gz)/\R (.bl (a != jg k c))
section
variable{K:Â}{X:Cx}
def Ep:OpD K X (É .In) (FF Ś):=⟨λo c s E H x y u v Q I B C g=>by
 let⟨Φ,F,G,R,sm,p,r,⟨k,f,rfl,e,h⟩,A⟩:=g;cases AU p;let⟨a,vs,rfl,q,rl⟩:=r.seq sm e;cases wZ rl;refine A8 c s E H _ _ u v Q I B C ⟨a,_,S,by rw[o];show q,sX k,?_,?_⟩
 ·rw[KR];intro z w;let⟨j,_,rfl⟩:=Ju.mp w;show sX j
 ·have l:(if Ś=ř then !jK (kV k) (f.map kV) else jK (kV k) (f.map kV))=(Ś != jg k f):=by rw[Hu];simp
  rw[l]
  show A _ Φ H _ h (.refl sm) (.bl _)⟩
end
end L2
namespace L2
open PySem PySem.Spec PySem.W PyProof.Rows PySem.Calls
end L2
namespace L2
open PySem PySem.Spec PyProof.Rows
section
variable{K:Â}{X:Cx}{a:Ã}{f p z A:Ö}{w:aM}
def yd(G:X.calm=ř):dS X (.type "list") (λxs H Q=>∃p j,xs=[.ref p]/\H p=Z (.rng 0 j)/\-(2^62)<=j/\j<=1000/\∀l,H l=ŗ->Q (.ref l) (ao H l (.lst (gY j.toNat)))):=by
 intro B s U H xs us Q I r h;let⟨p,j,rfl,N,be,a_,q⟩:=h;let⟨u,rfl,T⟩:=gZ r;cases T;let⟨t,u,v,M⟩:=(show ObjOk X.prog X.w H s.heap p (.rng 0 j)from I.hok p _ N)
 have L:Builtin.Range.rangeSize 0 j 1=(j.toNat:Int):=by rw[MK];split<;>omega
 refine ŕ (I.ok.hd G) M (ŏ 'b' 'b' be ()) L () λh' E g c kp J C=>?_
 have O:Vals (gY j.toNat) g.toList:=pH (by rw[mE,KA,C.1]) λi x y P R=>by rw[vo P];let⟨t,rfl⟩:=C.2 i y (by simpa using R);show⟨t,by simp⟩
 have F:Inv X B U (ao H s.heap.objs.size (.lst (gY j.toNat))) { s with heap:=h',toks:=E }:=
  I.laid (t':=E) (λb o e=>kp b o e) (Jg _) (show ObjOk X.prog X.w _ _ _ (.lst (gY j.toNat))from ⟨by rw[mE,LL];omega,g.toList,c,O,by simpa using J⟩)
 show⟨.ref s.heap.objs.size,_,F,S,q _ (I.hok.fresh (Jg _))⟩
noncomputable def Be(t:aM):aM:=λρ R=>t ρ λds=>match ds with| [.int j]=>(-(2^62)<=j/\j<=1000)/\R (cA 0 j.toNat)|_=>False
def wP(u:X.calm=ř)(G:Gl X "list")(F:X.mg "list"=ŗ)(C:Gl X "range")(B:X.mg "range"=ŗ)(M:PAD K X [a] w)(N:starEach [a] X.env=[(Ś,eval a X.env)]:=by rfl) :
  PF K X (.Call (.Name "list" p) [.Call (.Name "range" z) [a] [] A] [] f) (Be w):=
 ⟨λL=>(kG (yd u) G F Ġ (eM (Fe C B (M.pa L) N) pa_nil bo) 'b' 'b' bo ae).imp λT H Q x=>by
  let⟨h,Φ,ρ,R,E,t,k⟩:=x
  show⟨h,Φ,ρ,_,E,t,λds U o vs r g rl _=>by
   match ds,r with
   | [.int j],r=>
    let⟨v,rfl,P⟩:=rl.one_inv;obtain rfl:=P.i;refine⟨j,S,λO I=>⟨O,j,S,bh,r.1.1,r.1.2,λl e=>?_⟩⟩;have c:=Gr.fresh g.s I (.rng 0 j);have J:=Gr.fresh c.s e (.lst (gY j.toNat));have y:o l=ŗ:=c.h.free e
    show k _ _ _ l _ r.2 ((g.trans c).trans J) (g.h.free y) (c.s.free e) bh (E9 _)⟩⟩
end
section
variable{K:Â}{x:Str}
noncomputable def sC:D->Prop
 |.int _=>True
 |.bl _=>True
 |.str _=>True
 |.non=>True
 |_=>False
def Rp.flat{Φ a:Hp}{d:D}{v:V}(h:Rp K Φ d v)(c:sC d):Rp K a d v:=by
 cases h with
 |int i=>show .int i
 |bl b=>show .bl b
 |str x=>show .str x
 |non=>show .non
 |_=>show c.elim
end
def yN{K:Â}(h:Ò K Á "least_grown"=Z ŗ/\Ò K Á "greatest_first"=Z ŗ):pB K=[]:=by unfold pB;rw[Lj,v5 h.1,Lj,v5 h.2];rfl
structure Cl(P:Å)(w:È)(K:Â)(mg:Str->Option Value)(base:Heap)(n:Nat)(x:Str)(ps:List Str)(z:cb):Prop where
 ex:∃(f:Addr)(fd:Í),FnOk P w K mg base aE n f fd ps (lSp K z)/\Binds K fd ps []/\ã K (.ref f)=ř/\mg x=Z (.ref f)
section
variable{P:Å}{w:È}{K:Â}{mg:Str->Ř Value}{base:Heap}{n m:Nat}{x:Str}{ps:Y Str}{z:cb}{X:Cx}{e:Ã}{es:Y Ã}{o p:Ö}{u:aM}{st:Ç}{f:Addr}{j:Í}{h:Heap}
def Cl.mono(C:Cl P w K mg base n x ps z)(k:n<=m:=by decide):Cl P w K mg base m x ps z:=by let⟨f,j,F,r⟩:=C.ex;show⟨f,j,F.mono k,r⟩
def Cl.of(F:Fun K x x st f j)(b:Binds K j ps [])(m:mg x=Z (.ref f))(H:FnOk P w K mg base aE n f j ps (lSp K z)):Cl P w K mg base n x ps z:=⟨f,j,H,b,F.kp,m⟩
def aX(C:Cl X.prog X.w K X.mg X.base n x ps z)(y:Room n X.A)(v:Gl X x)
  (l:PAD K X (e::es) u) (r:starEach (e::es) X.env=(Ś,eval e X.env)::starEach es X.env) (a:(backTo o (starEach es X.env)).any (·.1)=Ś) (c:ab x:=by decide) :
  PD K X (.Call (.Name x p) (e::es) [] o) (mK z u):=⟨λg=>by
 subst g;let⟨f,j,F,b,k,m⟩:=C.ex
 show (yk F y v m k b jZ l r a c).pe S⟩
noncomputable def dE(P:ī)(x:Str)(n:Nat)(v:Value):DictEntry:=⟨PyData.keyHash P x,.str x n,v⟩
noncomputable def cO(n:Str)(a:Nat)(q:Str)(b c:Nat)(l m:Int)(k:Int)(r:Nat)(g:Int)(t:Nat)(x y:Value)(z:Nat)(i:Int)(d:Nat):Õ:=⟨.type "code",ŗ,.fields #[.str n a,.str q b,.str "/claim/cut.py" c,.int l 0,.int m 0,.int 0 0,.int 0 0,.int k 0,.ref r,.bool ř,.int g 0,.ref t,.none,x,y,.ref z,.int i 0,.int l 0,.str "/claim/cut.py" d],#[]⟩
noncomputable def fO(s:Ç)(n q m:Str)(i c:Nat):Õ:=⟨.type "function",ŗ,.func (ę n q (iM s) (fZ s) (av s) .none .none .none (.str m i) ŗ (.ref c) .none),#[]⟩
noncomputable def Has(K:Â)(s:Ç)(x:Str):Prop:=∃f m i c,Ò K Á x=Z (Z (.ref f))/\K.lookup f=Z (fO s x x m i c)/\ą K (.ref c) x=ř
def Has.of{s:Ç}{m:Str}{i c:Nat}(a:Ò K Á x=Z (Z (.ref f)))(l:K.lookup f=Z (fO s x x m i c))(k:ą K (.ref c) x=ř):Has K s x:=⟨f,m,i,c,a,l,k⟩
def Has.fn(a:Has K st x)(X:K.In h)(G:h.Ns Á mg):∃f j,Fun K x x st f j/\mg x=Z (.ref f)/\∃m i c,j=ę x x (iM st) (fZ st) (av st) .none .none .none (.str m i) ŗ (.ref c) .none:=by let⟨f,m,i,c,a,l,k⟩:=a;show⟨f,_,vw l k (by unfold ã;simp only[l];rfl),mg_of X G a,m,i,c,S⟩
def qU{A:Type}{p:Y A->Prop}(h:∀a0,p [a0]):∀us:Y A,us.length=1->p us
 | [a0],_=>h a0
def qw{A:Type}{p:Y A->Prop}(h:∀a0 a1,p [a0,a1]):∀us:Y A,us.length=2->p us
 | [a0,a1],_=>h a0 a1
def qY{A:Type}{p:Y A->Prop}(h:∀a0 a1 a2,p [a0,a1,a2]):∀us:Y A,us.length=3->p us
 | [a0,a1,a2],_=>h a0 a1 a2
def qH{A:Type}{p:Y A->Prop}(h:∀a0 a1 a2 a3,p [a0,a1,a2,a3]):∀us:Y A,us.length=4->p us
 | [a0,a1,a2,a3],_=>h a0 a1 a2 a3
inductive HasM(K:Â)(st:Ç)(C:Addr)(m q:Str):Prop|mk (f:Addr) (j:Í) (_:Ð K (.ref C) m=Z (Z (.ref f))) (_:isFn K (.ref f)=ř) (_:ã K (.ref f)=ř) (_:Fun K m q st f j)
def HasM.of{C:Addr}{m q:Str}{A:Value}{B y:Ř Addr}{v:Array (Ř Value)}{kV g E r ct:Value}(a:Ð K (.ref C) m=Z (Z (.ref f)))(i:isFn K (.ref f)=ř)(l:K.lookup f=Z ⟨A,B,.func (ę m q (iM st) (fZ st) (av st) .none kV g E y r ct),v⟩)(c:ą K r q=ř)(k:ã K (.ref f)=ř):HasM K st C m q:=⟨f,_,a,i,k,vw l c k⟩
noncomputable abbrev rD(st:Ç)(x q:Str)(ps:Y Str):Prop:=∀(kV a l:Value)(g:Ř Addr)(c ct:Value)(us:Y Value),us.length=ps.length->bindArgs (ę x q (iM st) (fZ st) (av st) .none kV a l g c ct) ⟨us,[]⟩=pure (ps.zip us)
def Fun.bd{q:Str}(F:Fun K x q st f j)(b:rD st x q ps:=by intro _ _ _ _ _ _;first|show qU λ_=>rfl|show qw λ_ _=>rfl|show qY λ_ _ _=>rfl|show qH λ_ _ _ _=>rfl|show us_0 S|show us_5 λ_ _ _ _ _=>rfl|show us_6 λ_ _ _ _ _ _=>rfl|show us_7 λ_ _ _ _ _ _ _=>rfl|show us_8 λ_ _ _ _ _ _ _ _=>rfl):Binds K j ps []:=F.binds b
def Fun.cl(F:Fun K x x st f j)(m:mg x=Z (.ref f))(H:FnOk P w K mg base aE n f j ps (lSp K z))
  (b:rD st x x ps:=by intro _ _ _ _ _ _;first|show qU λ_=>rfl|show qw λ_ _=>rfl|show qY λ_ _ _=>rfl|show qH λ_ _ _ _=>rfl|show us_0 S|show us_5 λ_ _ _ _ _=>rfl|show us_6 λ_ _ _ _ _ _=>rfl|show us_7 λ_ _ _ _ _ _ _=>rfl|show us_8 λ_ _ _ _ _ _ _ _=>rfl):Cl P w K mg base n x ps z:=.of F (F.binds b) m H
end
section
variable{K:Â}{X:Cx}{n:Nat}{x:Str}{ps:Y Str}{z:cb}{e:Ã}{es:Y Ã}{c p:Ö}{j:aM}
def RpQ.up{Φ f:Hp}{d:D}{v:V}(h:RpQ K Φ f d v)(g:Same Φ f):Rp K f d v:=by
 rcases h with h|⟨a,vs,ds,rfl,rfl,l,rl⟩
 ·show h.same g
 ·show .lst l rl.1 (rl.same g).2
noncomputable def Hi(sp:cb)(t:aM):TD:=λρ R=>t ρ λds=>sp ds λd=>sC d/\R d
def qM(C:Cl X.prog X.w K X.mg X.base n x ps z)(P:Room n X.A)(M:Gl X x)
  (J:PAQ K X (e::es) j) (L:starEach (e::es) X.env=(Ś,eval e X.env)::starEach es X.env) (A:(backTo c (starEach es X.env)).any (·.1)=Ś) (G:ab x:=by decide) :
  PD K X (.Call (.Name x p) (e::es) [] c) (Hi z j):=⟨λI=>by
 subst I;let⟨f,b_,F,b,k,m⟩:=C.ex;refine (pU F P M m k b .nil jZ (J.pa S) G L A).imp λσ H Q B=>?_;let⟨w,Φ,ρ,R,E,t,k⟩:=B;refine⟨w,Φ,ρ,_,E,t,λds a y vs r g rl=>?_⟩;refine⟨y,ds,_,λ_ _ h=>h,(E.tb.same g.f).same g.s,?_,r,λd a_ o v l g' U=>?_⟩
 ·rw[JM];show⟨rl.1,λi v d be hd=>RpQ.up (rl.2 i v d be hd) g.s⟩
 ·show k d a o v l.2 ⟨g.f,g.h.trans g'.h,λb u h=>g'.h b u (g.s b u h),λq u O N T=>g.o q u O N T⟩ (U.flat l.1)⟩
end
end L2
namespace L2
open PySem PySem.Spec PySem.W PyProof.Rows PySem.Calls
end L2
namespace L2
open PySem PySem.Spec PyProof.Rows
def uX(val:Nat->Int):∀k,þ (λi j=>decide (val i>val j)) k<=k/\∀j,j<=k->val j<=val (þ (λi j=>decide (val i>val j)) k)
 |0=>⟨Jg _,λj a=>by rw[Nat.le_zero.mp a];show Kj _⟩
 |k+1=>by
  let⟨f,e⟩:=uX val k;change (if decide (val (k+1)>val (þ _ k)) then k+1 else þ _ k)<=k+1/\∀j,j<=k+1->val j<=val (if decide (val (k+1)>val (þ _ k)) then k+1 else þ _ k);by_cases c:val (k+1)>val (þ (λi j=>decide (val i>val j)) k)
  ·rw[Jj (J4 c)];refine⟨Jg _,λj a=>?_⟩;rcases Nat.lt_or_eq_of_le a with h|h
   ·have:=e j ();omega
   ·rw[h];show Kj _
  ·rw[Jd λz=>c (JV z)];refine⟨(),λj a=>?_⟩;rcases Nat.lt_or_eq_of_le a with h|h
   ·show e j ()
   ·rw[h];omega
section
variable{prog:Å}{w:È}{A:Ê}{E:Value->À->Prop}{s:À}
def Cj{l:Addr}{its:Array Value}{val:Nat->Int}{Q:Value->À->Prop}(z:A.handled=ŗ)(f:s.heap.IsList l its)(r:0<its.size)(u:∀(i:Nat)(v:Value),its[i]?=Z v->∃t,v=.int (val i) t)
  (h:∀(i:Nat)(v:Value)(h':Heap)(g:Nat),its[i]?=Z v->(∀j,j<its.size->val j<=val i)->(∀b o,s.heap.get? b=Z o->h'.get? b=Z o)->Q v { s with heap:=h',toks:=g }) :
  wpAny (Ä prog w) A (call (.builtin "max") [.ref l]) Q E s:=by
 have p:l<s.heap.objs.size:=by let⟨_,e,_⟩:=f;show Jx e
 refine call_max_walk (L9 f ?_);refine⟨_,[_,l],[_],_,_,_,_,S,Walks.list (A:=A.in1) z _ l (JN p) its,⟨⟨_,Jq _ S,S,S⟩,f.push _⟩,λc a=>?_,r,CmpOf.ints_gt val u,λv h' g y B=>?_⟩
 ·change c<(s.heap.push _).objs.size;rw[J0];rcases Jt.mp a with rfl|a
  ·show Li _
  ·rw[Jk.mp a];show Lf p
 ·let⟨C,x⟩:=uX val (its.size-1);show h _ v h' g y (λj F=>x j ()) (old_kept B)
end
section
variable{K:Â}{X:Cx}
noncomputable def AT:cb:=λds R=>∃xs:Y Int,ds=[.lst (xs.map D.int)]/\xs≠[]/\∀m∈xs,(∀x∈xs,x<=m)->R (.int m)
def CW(C:X.calm=ř):CallD K X (.builtin "max") AT:=⟨λN w s P H xs us Q I rr A=>by
 let⟨Φ,ds,R,sm,E,⟨ns,rfl,z,h⟩,k⟩:=A;let⟨v,rfl,r⟩:=fm E;let⟨a,vs,rfl,J,L⟩:=r.lst sm;have ev:=ue L;subst ev;let⟨u,rfl,M⟩:=gZ rr;cases (show u=Value.ref a from M);let⟨_,its,n,y,G⟩:=(show ObjOk X.prog X.w H s.heap a (.lst (ns.map V.int))from I.hok a _ J)
 have c:its.length=ns.length:=by rw[←y.length,IY]
 have at_:∀(i:Nat)(v:Value),its.toArray[i]?=Z v->i<ns.length/\RelV (.int (ns.getD i 0)) v:=λi v f=>by
  rw[List.getElem?_toArray]at f;have hi:=aA f
  have g:ns[i]?=Z (ns.getD i 0):=by rw[Jl,J2 ()];rfl
  let⟨u,o,j⟩:=y.get (i:=i) (x:=.int (ns.getD i 0)) (by rw[Jm,g];rfl);rw[f]at o;cases o;show⟨(),j⟩
 refine Cj (its:=its.toArray) (val:=λi=>ns.getD i 0) (I.ok.hd C) ⟨_,G,S,n,S⟩ (by rw[Jo,c];show List.length_pos_iff.mpr z) (λi v f=>(at_ i v f).2) λi v h' O f B kp=>?_;let⟨hi,j⟩:=at_ i v f
 have g:ns[i]?=Z (ns.getD i 0):=by rw[Jl,J2 hi];rfl
 refine⟨.int (ns.getD i 0),H,I.kept kp,j,k _ Φ H _ (h _ (Je g) λm F=>?_) (.refl sm) (.int _)⟩;let⟨p,l⟩:=JX F;have:=B p (by rw[Jo,c];show aA l)
 have e:ns.getD p 0=m:=by rw[Jl,l];rfl
 rw[e]at this
 show this⟩
end
inductive Fl where|v (d:D)|l (xs:List D)|al (p:Addr)
inductive Om where|lst (xs:List D)|map (Nz:List (ay×D))|mpT (Nz:List (List ay×D))|obj (nm:Str) (fs:List (Str×Fl))|ptr|tl (ps:List (Addr×Option (List D)))|pr (xs:List D) (d:D)
noncomputable def Om.solid:Om->Bool
 |.ptr=>Ś
 |.tl _=>Ś
 |.pr _ _=>Ś
 |_=>ř
inductive Sm where|v (d:D)|ob (a:Option Addr) (o:Om)
noncomputable abbrev Sm.own(xs:Y D):Sm:=.ob ŗ (.lst xs)
noncomputable abbrev ak:=Y (Ř Sm)
noncomputable def fW{c:Type}(K:Â)(Φ:Hp)(a:c×D)(b:c×V):Prop:=a.1=b.1/\Rp K Φ a.2 b.2
inductive FlsR(K:Â)(Φ H:Hp):List (Str×Fl)->List (Str×V)->List Addr->Prop where
 |nil:FlsR K Φ H [] [] []
 |v {f:Str} {d:D} {v:V} {fs:List (Str×Fl)} {vs:List (Str×V)} {qs:List Addr}:Rp K Φ d v->FlsR K Φ H fs vs qs->FlsR K Φ H ((f,.v d)::fs) ((f,v)::vs) qs
 |l {f:Str} {ds:List D} {ws:List V} {q:Addr} {fs:List (Str×Fl)} {vs:List (Str×V)} {qs:List Addr}:H q=Z (.lst ws)->RpL K Φ ds ws->FlsR K Φ H fs vs qs->FlsR K Φ H ((f,.l ds)::fs) ((f,.ref q)::vs) (q::qs)
 |al {f:Str} {p:Addr} {fs:List (Str×Fl)} {vs:List (Str×V)} {qs:List Addr}:FlsR K Φ H fs vs qs->FlsR K Φ H ((f,.al p)::fs) ((f,.ref p)::vs) qs
inductive TlS(K:Â)(Φ H:Hp):List (Addr×Option (List D))->List Addr->Prop where
 |nil:TlS K Φ H [] []
 |ptr {q:Addr} {ps:List (Addr×Option (List D))} {F:List Addr}:TlS K Φ H ps F->TlS K Φ H ((q,ŗ)::ps) F
 |own {q:Addr} {ds:List D} {ws:List V} {ps:List (Addr×Option (List D))} {F:List Addr}:H q=Z (.lst ws)->RpL K Φ ds ws->TlS K Φ H ps F->TlS K Φ H ((q,Z ds)::ps) (q::F)
inductive OmS(K:Â)(Φ H:Hp):Om->Addr->List Addr->Prop where
 |lst {ds:List D} {vs:List V} {p:Addr}:H p=Z (.lst vs)->RpL K Φ ds vs->OmS K Φ H (.lst ds) p [p]
 |map {Nz:List (ay×D)} {ws:List (ay×V)} {p:Addr}:H p=Z (.dK ws)->Paired (fW K Φ) Nz ws->OmS K Φ H (.map Nz) p [p]
 |mpT {Nz:List (List ay×D)} {ws:List (List ay×V)} {p:Addr}:H p=Z (.dT ws)->Paired (fW K Φ) Nz ws->OmS K Φ H (.mpT Nz) p [p]
 |obj {nm:Str} {fs:List (Str×Fl)} {C dx:Addr} {vs:List (Str×V)} {p:Addr} {qs:List Addr}:Ò K Á nm=Z (Z (.ref C))->H p=Z (.ins C dx vs)->FlsR K Φ H fs vs qs->(p::qs).Nodup->OmS K Φ H (.obj nm fs) p (p::qs)
 |ptr {p:Addr}:OmS K Φ H .ptr p []
 |tl {ps:List (Addr×Option (List D))} {p:Addr} {F:List Addr}:Φ p=Z (.tup (ps.map λq=>V.ref q.1))->TlS K Φ H ps F->F.Nodup->OmS K Φ H (.tl ps) p F
 |pr {ds:List D} {d:D} {p q:Addr} {v:V} {ws:List V}:Φ p=Z (.tup [.ref q,v])->H q=Z (.lst ws)->RpL K Φ ds ws->Rp K Φ d v->OmS K Φ H (.pr ds d) p [q]
section
variable{K:Â}{H f Φ a:Hp}{fs:Y (Str×Fl)}{vs:Y (Str×V)}{c F F':Y Addr}{o:Om}{p:Addr}
def nU{e g:Type}{F G:e->g->Prop}(h:∀x y,F x y->G x y):∀{l:Y e}{m:Y g},Paired F l m->Paired G l m
 |_,_,.nil=>.nil
 |_,_,.cons r t=>.cons (h _ _ r) (nU h t)
def FlsR.keep(s:Same Φ a)(h:FlsR K Φ H fs vs c)(k:∀b∈c,∀u,H b=Z u->f b=Z u):FlsR K a f fs vs c:=by
 induction h with
 |nil=>show .nil
 |v r _ e=>show .v (r.same s) (e k)
 |l g j _ e=>show .l (k _ Ji _ g) (j.same s) (e λb w=>k b (Jh _ w))
 |al _ e=>show .al (e k)
def FlsR.at(h:FlsR K Φ H fs vs c):∀b∈c,∃u,H b=Z (.lst u):=by
 induction h with
 |nil=>intro b e;cases e
 |v r _ g=>show g
 |l j w _ g=>
  intro b e;rcases Jt.mp e with rfl|e
  ·show⟨_,j⟩
  ·show g b e
 |al _ g=>show g
def FlsR.names(h:FlsR K Φ H fs vs c):vs.map (·.1)=fs.map (·.1):=by
 induction h with
 |nil=>rfl
 |v r _ e=>rw[JB,JB,e]
 |l g j _ e=>rw[JB,JB,e]
 |al _ e=>rw[JB,JB,e]
def TlS.keep{ps:Y (Addr×Ř (Y D))}(s:Same Φ a)(h:TlS K Φ H ps F)(k:∀b∈F,∀u,H b=Z u->f b=Z u):TlS K a f ps F:=by
 induction h with
 |nil=>show .nil
 |ptr _ e=>show .ptr (e k)
 |own g j _ e=>show .own (k _ Ji _ g) (j.same s) (e λb l=>k b (Jh _ l))
def TlS.at{ps:Y (Addr×Ř (Y D))}(h:TlS K Φ H ps F):∀b∈F,∃l,H b=Z (.lst l):=by
 induction h with
 |nil=>intro b e;cases e
 |ptr _ g=>show g
 |own j r _ g=>
  intro b e;rcases Jt.mp e with rfl|e
  ·show⟨_,j⟩
  ·show g b e
def TlS.out{q:Addr}{ds:Y D}:∀{ps:Y (Addr×Ř (Y D))}{F:Y Addr}{k:Nat},TlS K Φ H ps F->ps[k]?=Z (q,Z ds)->∃e F',H q=Z (.lst e)/\RpL K Φ ds e/\TlS K Φ H (ps.set k (q,ŗ)) F'/\F.Perm (q::F')
 |_,_,k,.nil,h=>by simp at h
 |_,_,0,.ptr _,h=>by simp at h
 |_,_,k+1,.ptr t,h=>by let⟨e,F',g,j,r,u⟩:=TlS.out t h;show⟨e,F',g,j,.ptr r,u⟩
 |_,_,0,.own g j t,h=>by cases h;show⟨_,_,g,j,.ptr t,.refl _⟩
 |_,_,k+1,.own (q:=l) g j t,h=>by let⟨e,F',v,w,x,y⟩:=TlS.out t h;show⟨e,l::F',v,w,.own g j x,(y.cons l).trans (List.Perm.swap q l F')⟩
def OmS.keep(s:Same Φ a)(h:OmS K Φ H o p F)(k:∀b∈F,∀u,H b=Z u->f b=Z u):OmS K a f o p F:=by
 cases h with
 |lst e g=>show .lst (k _ Ji _ e) (g.same s)
 |map e g=>show .map (k _ Ji _ e) (nU (λ_ _ r=>⟨r.1,r.2.same s⟩) g)
 |mpT e g=>show .mpT (k _ Ji _ e) (nU (λ_ _ r=>⟨r.1,r.2.same s⟩) g)
 |obj l e g j=>show .obj l (k _ Ji _ e) (g.keep s λb w=>k b (Jh _ w)) j
 |ptr=>show .ptr
 |tl e g j=>show .tl (s _ _ e) (g.keep s k) j
 |pr e g j v=>show .pr (s _ _ e) (k _ Ji _ g) (j.same s) (v.same s)
def OmS.mem(h:OmS K Φ H o p F)(e:o.solid=ř:=by rfl):p∈F:=by cases h<;>first|show Ji|cases e
def OmS.at(h:OmS K Φ H o p F):∀b∈F,∃u,H b=Z u/\oM u:=by
 intro b g
 cases h with
 |lst e j=>rw[Jk.mp g];show⟨_,e,trivial⟩
 |map e j=>rw[Jk.mp g];show⟨_,e,trivial⟩
 |mpT e j=>rw[Jk.mp g];show⟨_,e,trivial⟩
 |obj w e j r=>
  rcases Jt.mp g with rfl|g
  ·show⟨_,e,trivial⟩
  ·let⟨v,l⟩:=j.at b g;show⟨_,l,trivial⟩
 |ptr=>cases g
 |tl e j r=>
  let⟨v,l⟩:=j.at b g;show⟨_,l,trivial⟩
 |pr e j r x=>rw[Jk.mp g];show⟨_,j,trivial⟩
def OmS.tl_inv{ps:Y (Addr×Ř (Y D))}(h:OmS K Φ H (.tl ps) p F):Φ p=Z (.tup (ps.map λq=>V.ref q.1))/\TlS K Φ H ps F/\F.Nodup:=by
 cases h with
 |tl e g j=>show⟨e,g,j⟩
def OmS.lst_inv{ds:Y D}(h:OmS K Φ H (.lst ds) p F):F=[p]/\∃vs,H p=Z (.lst vs)/\RpL K Φ ds vs:=by
 cases h with
 |lst e g=>show⟨S,_,e,g⟩
def OmS.map_inv{e:Y (ay×D)}(h:OmS K Φ H (.map e) p F):F=[p]/\∃g,H p=Z (.dK g)/\Paired (fW K Φ) e g:=by
 cases h with
 |map j l=>show⟨S,_,j,l⟩
def OmS.mpT_inv{e:Y (Y ay×D)}(h:OmS K Φ H (.mpT e) p F):F=[p]/\∃g,H p=Z (.dT g)/\Paired (fW K Φ) e g:=by
 cases h with
 |mpT j l=>show⟨S,_,j,l⟩
def OmS.obj_inv{nm:Str}(h:OmS K Φ H (.obj nm fs) p F):∃C e vs c,F=p::c/\Ò K Á nm=Z (Z (.ref C))/\H p=Z (.ins C e vs)/\FlsR K Φ H fs vs c/\(p::c).Nodup:=by
 cases h with
 |obj g j l r=>show⟨_,_,_,_,S,g,j,l,r⟩
def OmS.gr(g:Gr Φ H a f)(h:OmS K Φ H o p F):OmS K a f o p F:=h.keep g.f λb _ u e=>g.h b u e
end
structure EnvM'(K:Â)(H0 Φ H:Hp)(σ:St)(ρ:ak)(fp:Nat->List Addr):Prop where
 fz:Same Φ H
 len:σ.length=ρ.length
 sl:∀(i:Nat)(d:D),ρ[i]?=Z (Z (.v d))->∃v,σ[i]?=Z (Z v)/\Rp K Φ d v
 ow:∀(i:Nat)(a:Option Addr)(o:Om),ρ[i]?=Z (Z (.ob a o))->∃p,σ[i]?=Z (Z (.ref p))/\(∀q,a=Z q->q=p)/\OmS K Φ H o p (fp i)
 no:∀(i:Nat)(a:Option Addr)(o:Om),ρ[i]?=Z (Z (.ob a o))->∀b∈fp i,H0 b=ŗ/\Φ b=ŗ
 dj:∀(i j:Nat)(a a':Option Addr)(o o':Om),ρ[i]?=Z (Z (.ob a o))->ρ[j]?=Z (Z (.ob a' o'))->i≠j->∀b∈fp i,b∉fp j
 tb:TabF K Φ
noncomputable def EnvM(K:Â)(a Φ H:Hp)(e:St)(ρ:ak):Prop:=∃c,EnvM' K a Φ H e ρ c
section
variable{K:Â}{l H B Φ A G:Hp}{f I:St}{ρ C:ak}{w:Nat->Y Addr}{F F':Y Addr}{o o':Om}{p:Addr}{d:D}{v:V}{i:Nat}{a:Ř Addr}
def EnvM.fz(E:EnvM K l Φ H f ρ):Same Φ H:=let ⟨_,E⟩:=E;E.fz
def EnvM.tb(E:EnvM K l Φ H f ρ):TabF K Φ:=let ⟨_,E⟩:=E;E.tb
def EnvM.len(E:EnvM K l Φ H f ρ):f.length=ρ.length:=let ⟨_,E⟩:=E;E.len
def EnvM.sl(E:EnvM K l Φ H f ρ)(h:ρ[i]?=Z (Z (.v d))):∃v,f[i]?=Z (Z v)/\Rp K Φ d v:=let ⟨_,E⟩:=E;E.sl i d h
def EnvM'.gr(E:EnvM' K l Φ H f ρ w)(g:Gr Φ H A B):EnvM' K l A B f ρ w:=
 ⟨g.s,E.len,λi d h=>let ⟨v,e,r⟩:=E.sl i d h;⟨v,e,r.same g.f⟩,λi a o h=>let ⟨p,e,ha,r⟩:=E.ow i a o h;⟨p,e,ha,r.gr g⟩,
  λi a o h b c=>by
   let⟨p,_,_,r⟩:=E.ow i a o h;let⟨u,j,k⟩:=r.at b c
   show⟨(E.no i a o h b c).1,g.o b u j (E.no i a o h b c).2 k⟩,E.dj,E.tb.same g.f⟩
def EnvM.gr(E:EnvM K l Φ H f ρ)(g:Gr Φ H A B):EnvM K l A B f ρ:=let ⟨w,E⟩:=E;⟨w,E.gr g⟩
def EnvM.re(m:Nat->Nat)(E:EnvM K l Φ H f ρ)(y:I.length=C.length)(h:∀(i:Nat)(x:Sm),C[i]?=Z (Z x)->ρ[m i]?=Z (Z x)/\I[i]?=f[m i]?)
  (inj:∀(i j:Nat)(a a':Ř Addr)(o o':Om),C[i]?=Z (Z (.ob a o))->C[j]?=Z (Z (.ob a' o'))->m i=m j->i=j):EnvM K l Φ H I C:=by
 let⟨w,E⟩:=E;refine⟨λi=>w (m i),E.fz,y,λi d hd=>?_,λi a o g=>?_,λi a o g=>E.no _ a o (h i _ g).1,λi j a a' o o' hi u c=>E.dj _ _ a a' o o' (h i _ hi).1 (h j _ u).1 λe=>c (inj i j a a' o o' hi u e),E.tb⟩
 ·let⟨v,e,r⟩:=E.sl _ d (h i _ hd).1;show⟨v,by rw[(h i _ hd).2];show e,r⟩
 ·let⟨p,e,r⟩:=E.ow _ a o (h i _ g).1;show⟨p,by rw[(h i _ g).2];show e,r⟩
def EnvM.take{r:St}{h:ak}(E:EnvM K l Φ H (f++r) (ρ++h))(g:ρ.length=f.length):EnvM K l Φ H f ρ:=
 E.re id g.symm (λi x c=>by
  have hi:=aA c
  show⟨by rw[id,I0 hi];show c,by rw[id,I0 ()]⟩) λi j _ _ _ _ _ _ e=>e
def EnvM'.take{z:St}{u:ak}(E:EnvM' K l Φ H (f++z) (ρ++u) w)(g:ρ.length=f.length):EnvM' K l Φ H f ρ w:=by
 have up:∀{i:Nat}{x:Sm},ρ[i]?=Z (Z x)->(ρ++u)[i]?=Z (Z x):=λh=>by rw[I0 (aA h)];show h
 have c:∀{i:Nat}{x:Sm}{y:Ř V},ρ[i]?=Z (Z x)->(f++z)[i]?=Z y->f[i]?=Z y:=λh e=>by rwa [I0 (by rw[←g];show aA h)]at e
 show⟨E.fz,g.symm,λi d h=>let ⟨v,e,r⟩:=E.sl i d (up h);⟨v,c h e,r⟩,λi a o h=>let ⟨p,e,r⟩:=E.ow i a o (up h);⟨p,c h e,r⟩,λi a o h=>E.no i a o (up h),λi j a a' o o' hi J=>E.dj i j a a' o o' (up hi) (up J),E.tb⟩
def EnvM.store{v:V}{x:Sm}(E:EnvM K l Φ H (f++[Z v]) (ρ++[Z x]))(i:Nat):EnvM K l Φ H (f.set i (Z v)) (ρ.set i (Z x)):=by
 have r:f.length=ρ.length:=by have:=E.len;simpa using this
 refine E.re (λj=>if j=i then ρ.length else j) (by rw[Jc,Jc,r]) (λj y g=>?_) λj k a a' o o' g u e=>?_
 ·by_cases c:j=i
  ·subst c
   have h:j<ρ.length:=by have:=aA g;rwa [Jc]at this
   rw[Jy h]at g;cases g;rw[Jj S,Jy (),IZ (Jg _),IZ (),JL,r,JL];show⟨S,S⟩
  ·rw[Jv (Kd c)]at g;have h:=aA g;rw[Jd c,Jv (Kd c),I0 h,I0 ()];show⟨g,S⟩
 ·have J:j<ρ.length:=by have:=aA g;rwa [Jc]at this
  have z:k<ρ.length:=by have:=aA u;rwa [Jc]at this
  have e:(if j=i then ρ.length else j)=(if k=i then ρ.length else k):=e;split at e<;>split at e<;>omega
def EnvM.snocV(E:EnvM K l Φ H f ρ)(r:Rp K Φ d v):EnvM K l Φ H (f++[Z v]) (ρ++[Z (.v d)]):=by
 let⟨w,E⟩:=E
 have g:∀{i:Nat}{a:Ř Addr}{o:Om},(ρ++[Z (Sm.v d)])[i]?=Z (Z (.ob a o))->ρ[i]?=Z (Z (.ob a o)):=λ{i a o} h=>by
  rcases JW i ρ.length with c|c
  ·rwa [I0 c]at h
  ·rw[IZ c]at h
   cases e:i-ρ.length with
   |zero=>rw[e]at h;cases h
   |succ n=>rw[e]at h;cases h
 refine⟨w,E.fz,by rw[Ja,Ja,E.len];rfl,λi d' h=>?_,λi a o h=>?_,λi a o h=>E.no i a o (g h),λi j a a' o o' hi x=>E.dj i j a a' o o' (g hi) (g x),E.tb⟩
 ·rcases JW i ρ.length with c|c
  ·rw[I0 c]at h;let⟨u,e,r⟩:=E.sl i d' h;show⟨u,by rw[I0 (by rw[E.len];show c)];show e,r⟩
  ·rw[IZ c]at h
   cases e:i-ρ.length with
   |zero=>
    rw[e]at h;cases h;show⟨v,by rw[IZ (by rw[E.len];show c),E.len,e];rfl,r⟩
   |succ n=>rw[e]at h;cases h
 ·let⟨p,e,r⟩:=E.ow i a o (g h);have hi:=aA (g h);show⟨p,by rw[I0 (by rw[E.len];show hi)];show e,r⟩
def EnvM.snocO(E:EnvM K l Φ H f ρ)(a_:Same l H)(g:Gr Φ H A B)(X:OmS K A B o p F)(Q:∀b∈F,H b=ŗ/\A b=ŗ):EnvM K l A B (f++[Z (.ref p)]) (ρ++[Z (.ob ŗ o)]):=by
 let⟨w,E⟩:=E
 have O:∀b∈F,∀(i:Nat)(a:Ř Addr)(o:Om),ρ[i]?=Z (Z (.ob a o))->b∉w i:=λb y i a o h z=>by let⟨q,_,_,r⟩:=E.ow i a o h;let⟨u,be,_⟩:=r.at b z;rw[(Q b y).1]at be;cases be
 have N:=E.gr g
 have M:∀{i:Nat}{x:Sm},(ρ++[Z (Sm.ob ŗ o)])[i]?=Z (Z x)->(i<ρ.length/\ρ[i]?=Z (Z x))\/(i=ρ.length/\x=.ob ŗ o):=λ{i x} h=>by
  rcases JW i ρ.length with c|c
  ·rw[I0 c]at h;show .inl ⟨c,h⟩
  ·rw[IZ c]at h
   cases e:i-ρ.length with
   |zero=>rw[e]at h;cases h;show .inr ⟨(),S⟩
   |succ n=>rw[e]at h;cases h
 refine⟨λi=>if i=ρ.length then F else w i,N.fz,by rw[Ja,Ja,E.len];rfl,λi d h=>?_,λi a o' h=>?_,λi a o' h b y=>?_,λi j a a' T U hi J c b y L=>?_,N.tb⟩
 ·rcases M h with⟨c,h⟩|⟨_,h⟩
  ·let⟨v,e,r⟩:=N.sl i d h;show⟨v,by rw[I0 (by rw[E.len];show c)];show e,r⟩
  ·cases h
 ·rcases M h with⟨c,h⟩|⟨c,h⟩
  ·let⟨q,e,r⟩:=N.ow i a o' h;show⟨q,by rw[I0 (by rw[E.len];show c)];show e,by rw[Jd ()];show r⟩
  ·cases h;subst c;refine⟨p,by rw[IZ (by rw[E.len];show Jg _),E.len,JL];rfl,(λq e=>by cases e),by rw[Jj S];show X⟩
 ·rcases M h with⟨c,h⟩|⟨c,h⟩
  ·rw[Jd ()]at y;show N.no i a o' h b y
  ·rw[Jj c]at y;show⟨a_.free (Q b y).1,(Q b y).2⟩
 ·rcases M hi with⟨R,hi⟩|⟨R,hi⟩
  ·rw[Jd ()]at y;rcases M J with⟨P,J⟩|⟨P,J⟩
   ·rw[Jd ()]at L;show E.dj i j a a' T U hi J c b y L
   ·rw[Jj P]at L;show O b L i a T hi y
  ·rw[Jj R]at y;rcases M J with⟨P,J⟩|⟨P,J⟩
   ·rw[Jd ()]at L;show O b y j a' U J L
   ·omega
def EnvM'.put(E:EnvM' K l Φ H f ρ w)(hi:ρ[i]?=Z (Z (.ob a o)))(a_:f[i]?=Z (Z (.ref p)))(T:∀b u,H b=Z u->b∉w i->B b=Z u)(hO:OmS K Φ B o' p F')(be:∀b∈F',b∈w i\/(H b=ŗ/\l b=ŗ/\Φ b=ŗ)) :
  EnvM' K l Φ B f (ρ.set i (Z (.ob a o'))) (λj=>if j=i then F' else w j):=by
 have NL:=aA hi
 have O:∀{j:Nat}{x:Sm},(ρ.set i (Z (Sm.ob a o')))[j]?=Z (Z x)->(j=i/\x=.ob a o')\/(j≠i/\ρ[j]?=Z (Z x)):=λ{j x} h=>by
  rcases cG h with⟨e,_,b_⟩|⟨e,h⟩
  ·cases b_;show .inl ⟨e,S⟩
  ·show .inr ⟨e,h⟩
 have U:∀b∈F',∀(j:Nat)(a':Ř Addr)(y:Om),ρ[j]?=Z (Z (.ob a' y))->j≠i->b∉w j:=λb g j a' y J c z=>by
  rcases be b g with h|⟨h,_⟩
  ·show E.dj j i a' a y o J hi c b z h
  ·let⟨q,_,_,r⟩:=E.ow j a' y J;let⟨u,Q,_⟩:=r.at b z;rw[h]at Q;cases Q
 refine⟨λb u e=>T b u (E.fz b u e) λz=>?_,by rw[Jc,E.len],λj d h=>?_,λj a' y h=>?_,λj a' y h b g=>?_,λj k a1 a2 X y J L c b g N=>?_,E.tb⟩
 ·rw[(E.no i a o hi b z).2]at e;cases e
 ·rcases O h with⟨_,h⟩|⟨_,h⟩
  ·cases h
  ·show E.sl j d h
 ·rcases O h with⟨c,h⟩|⟨c,h⟩
  ·cases h;subst c;let⟨q,e,R,_⟩:=E.ow j a o hi;rw[a_]at e;cases e;show⟨p,a_,R,by rw[Jj S];show hO⟩
  ·let⟨q,e,R,r⟩:=E.ow j a' y h;refine⟨q,e,R,?_⟩;rw[Jd c];show r.keep (Same.refl _) λb g u Q=>T b u Q λz=>E.dj j i a' a y o h hi c b g z
 ·rcases O h with⟨c,h⟩|⟨c,h⟩
  ·rw[Jj c]at g;rcases be b g with z|⟨_,z⟩
   ·show E.no i a o hi b z
   ·show z
  ·rw[Jd c]at g;show E.no j a' y h b g
 ·rcases O J with⟨P,J⟩|⟨P,J⟩
  ·rw[Jj P]at g;rcases O L with⟨M,L⟩|⟨M,L⟩
   ·omega
   ·rw[Jd M]at N;show U b g k a2 y L M N
  ·rw[Jd P]at g;rcases O L with⟨M,L⟩|⟨M,L⟩
   ·rw[Jj M]at N;show U b N j a1 X J P g
   ·rw[Jd M]at N;show E.dj j k a1 a2 X y J L c b g N
def EnvM'.grput(E:EnvM' K l Φ H f ρ w)(g:Gr G l Φ H)(hi:ρ[i]?=Z (Z (.ob a o)))(c:∀b u,H b=Z u->b∉w i->B b=Z u):Gr G l Φ B:=
 ⟨g.f,λb u e=>c b u (g.h b u e) (λz=>by rw[(E.no i a o hi b z).1]at e;cases e),λb u e=>c b u (g.s b u e) (λz=>by rw[(E.no i a o hi b z).2]at e;cases e),λp u h j k=>g.o p u h j k⟩
def EnvM.list{ds:Y D}(E:EnvM K l Φ H f ρ)(g:Gr G l Φ H)(hi:ρ[i]?=Z (Z (.ob a (.lst ds)))):∃q vs,f[i]?=Z (Z (.ref q))/\H q=Z (.lst vs)/\l q=ŗ/\Φ q=ŗ/\RpL K Φ ds vs /\
  ∀(es:Y D)(c:Y V),RpL K Φ es c->EnvM K l Φ (ao H q (.lst c)) f (ρ.set i (Z (.ob a (.lst es))))/\Gr G l Φ (ao H q (.lst c)):=by
 let⟨w,E⟩:=E;let⟨q,e,_,r⟩:=E.ow i a _ hi;have h:=r.mem;have j:=E.no i a _ hi q h;let⟨_,vs,J,L⟩:=r.lst_inv;refine⟨q,vs,e,J,j.1,j.2,L,λes c y=>?_⟩
 have x:∀b u,H b=Z u->b∉w i->ao H q (.lst c) b=Z u:=λb u e N=>by
  rw[aR λz=>N (by rw[z];show h)];show e
 show⟨⟨_,E.put hi e x (F':=[q]) (.lst bh y) λb M=>.inl (by rw[Jk.mp M];show h)⟩,E.grput g hi x⟩
end
noncomputable def pZ:Ř Sm->Ř Sl
 |some (.v d)=>Z (.v d)
 |some (.ob _ (.lst xs))=>Z (.own xs)
 |some (.ob _ (.map a))=>Z (.dct (a.map (·.1)))
 |some (.ob _ (.mpT a))=>Z (.dcT (a.map (·.1)))
 |_=>ŗ
noncomputable abbrev dI(ρ:ak):bu:=ρ.map pZ
def ky{c:Type}{K:Â}{Φ:Hp}:∀{a:Y (c×D)}{b:Y (c×V)},Paired (fW K Φ) a b->b.map (·.1)=a.map (·.1)
 |_,_,.nil=>rfl
 |_,_,.cons r t=>by rw[JB,JB,ky t,r.1]
def EnvM.toD{K:Â}{F Φ H:Hp}{C:St}{ρ:ak}(E:EnvM K F Φ H C ρ):EnvD K F Φ H C (dI ρ):=by
 let⟨L,E⟩:=E
 have at_:∀{i:Nat}{x:Sl},(dI ρ)[i]?=Z (Z x)->∃y,ρ[i]?=Z (Z y)/\pZ (Z y)=Z x:=λ{i x} h=>by
  rw[Jm]at h
  cases e:ρ[i]? with
  |none=>rw[e]at h;cases h
  |some y=>
   rw[e]at h
   cases y with
   |none=>cases h
   |some y=>show⟨y,S,JJ h⟩
 have ow:∀{i:Nat}{o:Ow},(dI ρ)[i]?=Z (Z (.ob o))->∃a f p u,ρ[i]?=Z (Z (.ob a f))/\C[i]?=Z (Z (.ref p))/\p∈L i/\H p=Z u/\OwR K Φ o u:=λ{i o} h=>by
  let⟨y,z,e⟩:=at_ h
  cases y with
  |v d=>cases e
  |ob a f=>
   let⟨p,B,_,r⟩:=E.ow i a f z;refine⟨a,f,p,?_⟩
   cases f with
   |lst ds=>let⟨_,vs,g,l⟩:=r.lst_inv;cases e;show⟨_,z,B,r.mem,g,l⟩
   |map I=>let⟨_,vs,g,l⟩:=r.map_inv;cases e;show⟨_,z,B,r.mem,g,ky l⟩
   |mpT I=>let⟨_,vs,g,l⟩:=r.mpT_inv;cases e;show⟨_,z,B,r.mem,g,ky l⟩
   |obj nm fs=>cases e
   |ptr=>cases e
   |tl ps=>cases e
   |pr ds d=>cases e
 refine⟨E.fz,by rw[IY,E.len],λi d h=>?_,λi o h=>?_,λi j o w p hi O R a_=>?_,E.tb⟩
 ·let⟨y,z,e⟩:=at_ h
  cases y with
  |v d'=>cases e;show E.sl i d z
  |ob a f=>cases f<;>cases e
 ·let⟨a,f,p,u,g,l,A,M,N⟩:=ow h;show⟨p,u,l,(E.no i a f g p A).1,(E.no i a f g p A).2,M,N⟩
 ·let⟨a,f,T,u,g,l,A,_,_⟩:=ow hi;let⟨a',J,U,u',P,G,Q,_,_⟩:=ow O;rw[R]at l;cases l;rw[a_]at G;cases G;rcases LA (i=j)with c|c
  ·show c
  ·show absurd Q (E.dj i j a a' f J g P c p A)
noncomputable def G5(h:Heap)(e:Addr)(vs:Array Value)(T:Ř Addr)(f:Value):Prop:=match T with
 |none=>vs[1]?=Z .none
 |some T=>vs[1]?=Z (.ref T)/\T≠e/\∃a c,h.get? T=Z a/\a.data=.fields c/\c[3]?=Z f
structure Fly(h:Heap)(e:Addr)(T:Option Addr)(fl cls:Value)(dx:Option Addr):Prop where
 ex:∃oe vs,h.get? e=Z oe/\oe.data=.fields vs/\oe.cls=cls/\oe.dict=dx/\G5 h e vs T fl
structure XD where
 nm:Str
 at_:Option D
noncomputable def EH(K:Â)(H:Hp)(at_:Ř D)(a:Ř Addr):Prop:=match at_ with
 |none=>a=ŗ
 |some d=>∃p v,a=Z p/\H p=Z (.xd [("at",v)])/\Rp K (λ_=>ŗ) d v
structure XSt(X:Cx)(pins:List (Addr×Õ))(σ:St)(H:Hp)(xd:XD)(e:Value)(s:À):Prop where
 inv:Inv X pins σ H s
 ex:∃(ea C:Addr)(T dx:Option Addr),e=.ref ea/\Fly s.heap ea T .none (.ref C) dx/\X.mg xd.nm=Z (.ref C)/\EH X.K H xd.at_ dx/\(X.s₀.heap.get? ea=ŗ/\H ea=ŗ/\∀p∈X.pn++pins,p.1≠ea)/\∀T',T=Z T'->X.s₀.heap.get? T'=ŗ/\H T'=ŗ/\∀p∈X.pn++pins,p.1≠T'
noncomputable def XeOk(K:Â)(X:Cx)(j l:Hp)(r:XD->ak->Prop):Prop:=∀p f c h g e o a,r p f->Gr j l c h->EnvM K l c h g f->XSt X a g h p e o->X.xe e o
structure StM(K:Â)(X:Cx)(Φ0 H0 Φ H:Hp)(σ τ:St)(ρ κ:ak)(Rx:XD->ak->Prop):Prop where
 g:Gr Φ0 H0 Φ H
 l:ρ.length=σ.length
 E:EnvM K H0 Φ H (σ++τ) (ρ++κ)
 x:XeOk K X Φ0 H0 Rx
inductive Ar where|t (s:Sm)|s (i:Nat)
noncomputable abbrev TX:=ak->(Sm->ak->Prop)->(XD->ak->Prop)->Prop
noncomputable abbrev cX:=ak->(Bool->ak->Prop)->(XD->ak->Prop)->Prop
noncomputable abbrev db:=ak->(Y Ar->ak->Prop)->(XD->ak->Prop)->Prop
noncomputable def dX(as:Y Ar):ak:=as.filterMap λa=>match a with|.t s=>Z (Z s)|.s _=>ŗ
inductive ArV(σ:St):List Ar->List V->St->Prop where
 |nil:ArV σ [] [] []
 |t {s:Sm} {v:V} {as:List Ar} {vs:List V} {ts:St}:ArV σ as vs ts->ArV σ (.t s::as) (v::vs) (Z v::ts)
 |s {i:Nat} {v:V} {as:List Ar} {vs:List V} {ts:St}:σ[i]?=Z (Z v)->ArV σ as vs ts->ArV σ (.s i::as) (v::vs) ts
inductive lXm(K:Â)(X:Cx)(t:TX)(σ:St)(H:Hp)(Q:VK):Prop|mk (Φ0:Hp) (H0:Hp) (Φ:Hp) (τ:St) (ρ:ak) (κ:ak) (R:Sm->ak->Prop) (Rx:XD->ak->Prop) (_:StM K X Φ0 H0 Φ H σ τ ρ κ Rx) (_:t ρ R Rx) (_:∀sm ρ' Φ' H' v,R sm ρ'->StM K X Φ0 H0 Φ' H' σ (τ++[Z v]) ρ' (κ++[Z sm]) Rx->Same Φ Φ'->Q v H')
inductive lXb(K:Â)(X:Cx)(t:cX)(σ:St)(H:Hp)(Q:Bool->Hp->Prop):Prop|mk (Φ0:Hp) (H0:Hp) (Φ:Hp) (τ:St) (ρ:ak) (κ:ak) (R:Bool->ak->Prop) (Rx:XD->ak->Prop) (_:StM K X Φ0 H0 Φ H σ τ ρ κ Rx) (_:t ρ R Rx) (_:∀b ρ' Φ' H',R b ρ'->StM K X Φ0 H0 Φ' H' σ τ ρ' κ Rx->Same Φ Φ'->Q b H')
inductive lXa(K:Â)(X:Cx)(n:Nat)(t:db)(σ:St)(H:Hp)(Q:List V->Hp->Prop):Prop|mk (Φ0:Hp) (H0:Hp) (Φ:Hp) (τ:St) (ρ:ak) (κ:ak) (R:List Ar->ak->Prop) (Rx:XD->ak->Prop) (_:StM K X Φ0 H0 Φ H σ τ ρ κ Rx) (_:t ρ R Rx) (_:∀as ρ' Φ' H' vs ts,R as ρ'->as.length=n->ArV σ as vs ts->StM K X Φ0 H0 Φ' H' σ (τ++ts) ρ' (κ++dX as) Rx->Same Φ Φ'->Q vs H')
structure PX(K:Â)(X:Cx)(e:Ã)(t:TX):Prop where pe:X.K=K->PE X e (lXm K X t)
structure PXB(K:Â)(X:Cx)(e:Ã)(t:cX):Prop where pt:X.K=K->PT X e (lXb K X t)
structure PXW(K:Â)(X:Cx)(e:Ã)(t:cX):Prop where pw:X.K=K->PW X e (lXb K X t)
structure PXA(K:Â)(X:Cx)(es:List Ã)(t:db):Prop where pa:X.K=K->PA X es (lXa K X es.length t)
section
variable{K:Â}{X:Cx}{a l Φ x H z:Hp}{j f A:St}{ρ c B:ak}{y:XD->ak->Prop}{d:D}{v:V}
def StM.gr(Q:StM K X a l Φ H j f ρ c y)(g:Gr Φ H x z):StM K X a l x z j f ρ c y:=⟨Q.g.trans g,Q.l,Q.E.gr g,Q.x⟩
def StM.env(Q:StM K X a l Φ H j f ρ c y):EnvM K l Φ H j ρ:=Q.E.take Q.l
def StM.lk(Q:StM K X a l Φ H j f ρ c y):c.length=f.length:=by have:=Q.E.len;rw[Ja,Ja]at this;have:=Q.l;omega
def StM.pop(Q:StM K X a l Φ H j (f++A) ρ (c++B) y)(e:c.length=f.length):StM K X a l Φ H j f ρ c y:=⟨Q.g,Q.l,by
 have E:=Q.E;rw[←Js,←Js]at E
 show E.take (by rw[Ja,Ja,Q.l,e]),Q.x⟩
def StM.pushV(Q:StM K X a l Φ H j f ρ c y)(r:Rp K Φ d v):StM K X a l Φ H j (f++[Z v]) ρ (c++[Z (.v d)]) y:=⟨Q.g,Q.l,by
 rw[←Js,←Js]
 show Q.E.snocV r,Q.x⟩
def StM.pushO{o:Om}{p:Addr}{F:Y Addr}(Q:StM K X a l Φ H j f ρ c y)(g:Gr Φ H x z)(h:OmS K x z o p F)(e:∀b∈F,H b=ŗ/\x b=ŗ):StM K X a l x z j (f++[Z (.ref p)]) ρ (c++[Z (.ob ŗ o)]) y:=⟨Q.g.trans g,Q.l,by
 rw[←Js,←Js]
 show Q.E.snocO Q.g.h g h e,Q.x⟩
def StM.at(Q:StM K X a l Φ H j f ρ c y){i:Nat}(h:c[i]?=Z (Z (.v d))):∃v,f[i]?=Z (Z v)/\Rp K Φ d v:=by have hi:=aA h;let⟨v,e,r⟩:=Q.E.sl (i:=ρ.length+i) (d:=d) (by rw[IZ (),Ks];show h);rw[Q.l,IZ (),Ks]at e;show⟨v,e,r⟩
def StM.last(Q:StM K X a l Φ H j (f++[Z v]) ρ (c++[Z (.v d)]) y):Rp K Φ d v:=by
 have g:=Q.lk;rw[Ja,Ja]at g
 have g:c.length=f.length:=by simpa using g
 let⟨u,e,r⟩:=Q.at (i:=c.length) (d:=d) (by rw[IZ (Jg _),JL];rfl);rw[g,IZ (Jg _),JL]at e;cases e;show r
def StM.last2{e:D}{w:V}(Q:StM K X a l Φ H j ((f++[Z v])++[Z w]) ρ ((c++[Z (.v d)])++[Z (.v e)]) y):Rp K Φ d v/\Rp K Φ e w:=by
 refine⟨?_,Q.last⟩;have g:=Q.lk;simp only[Ja,Jp,KC]at g
 have g:c.length=f.length:=by omega
 show (Q.pop (by simp only[Ja,Jp,KC];omega)).last
end
section
variable{K:Â}{X:Cx}{e a b c:Ã}{es:Y Ã}{f p:Ö}{t l tb:TX}{B:db}{A C:cX}
noncomputable def xD(t:TD):TX:=λρ R _=>t (dI ρ) λd=>R (.v d) ρ
def af{t:TD}(h:PD K X e t):PX K X e (xD t):=⟨λx=>(h.pe x).imp λG H Q w=>by
 let⟨z,u,Φ,I,ρ,F,R,E,U,t,k⟩:=w
 show⟨u,Φ,dI ρ,_,U.env.toD,t,λd j o v r g y=>k _ ρ j o v r ((U.gr g).pushV y) g.f⟩⟩
noncomputable def xF(t:aM):TX:=λρ R _=>t (dI ρ) λds=>R (.own ds) ρ
def dr{t:aM}(h:PF K X e t):PX K X e (xF t):=⟨λx=>(h.pe x).imp λJ H Q v=>by
 let⟨F,u,Φ,L,ρ,I,R,G,U,t,k⟩:=v
 show⟨u,Φ,dI ρ,_,U.env.toD,t,λds j o p vs r g w z E rr=>k _ ρ j o _ r (U.pushO g (.lst E rr) λb y=>by rw[Jk.mp y];show⟨w,z⟩) g.f⟩⟩
noncomputable def xB(t:cm):cX:=λρ R _=>t (dI ρ) λb=>R b ρ
def bW{t:cm}(h:PTD K X e t):PXB K X e (xB t):=⟨λw=>(h.pt w).imp λE H Q v=>by
 let⟨x,u,Φ,F,ρ,z,R,y,U,t,k⟩:=v
 show⟨u,Φ,dI ρ,_,U.env.toD,t,λb j o r g=>k b ρ j o r (U.gr g) g.f⟩⟩
noncomputable def xV(k:D->ak->Prop):Sm->ak->Prop:=λs ρ=>match s with|.v d=>k d ρ|_=>False
def xV.get{k:D->ak->Prop}{s:Sm}{ρ:ak}(h:xV k s ρ):∃d,s=.v d/\k d ρ:=by
 cases s with
 |v d=>show⟨d,S,h⟩
 |ob _ _=>show h.elim
noncomputable def jX(r:cL)(l tb:TX):TX:=λρ R j=>l ρ (xV λx g=>tb g (xV λy h=>r x y λd=>R (.v d) h) j) j
def nz{r:cL}{O:St}{H:Hp}{Q:VK}(h:lXm K X (jX r l tb) O H Q):iF (lR2 K r) (lXm K X l) (lXm K X tb) O H Q:=by let⟨j,M,Φ,τ,ρ,κ,R,N,be,t,k⟩:=h;refine⟨j,M,Φ,τ,ρ,κ,_,N,be,t,λs1 J G H1 v z T U=>?_⟩;let⟨x,rfl,z⟩:=z.get;refine⟨j,M,G,_,J,_,_,N,T,z,λs2 L I H2 w E o a_=>?_⟩;let⟨y,rfl,E⟩:=E.get;let⟨rx,ry⟩:=o.last2;refine⟨I,x,y,_,o.g.s,.inl rx,.inl ry,E,λd F P u b_ g ru=>?_⟩;rw[Js,Js]at o;show k _ L F P u b_ (((o.pop be.lk).gr g).pushV ru) ((U.trans a_).trans g.f)
def dO{h:ÿ}{r:cL}(u:OpD K X (Ï h) r)(j:PX K X a l)(o:PX K X b tb):PX K X (.BinOp a h b f) (jX r l tb):=
 ⟨λg=>(qE (u.o g) (j.pe g) (o.pe g)).imp λ_ _ _=>nz⟩
def Hd{h:Ĕ}{r:cL}(v:OpD K X (É h) r)(j:PX K X a l)(o:PX K X b tb)(u:behindInMarks h b=Ś):PX K X (.Compare a [h] [b] f) (jX r l tb):=
 ⟨λg=>(sH (v.o g) (j.pe g) (o.pe g) u).imp λ_ _ _=>nz⟩
noncomputable def vp(t:TX):cX:=λρ R h=>t ρ (xV λd g=>match d with|.bl b=>R b g|_=>False) h
def HI{r:cL}{y:St}{H:Hp}{Q:Bool->Hp->Prop}(h:lXb K X (vp (jX r l tb)) y H Q):qz (iF (lR2 K r) (lXm K X l) (lXm K X tb)) y H Q:=by
 let⟨j,z,Φ,L,ρ,J,R,F,U,t,k⟩:=h;refine nz ⟨j,z,Φ,L,ρ,J,_,F,U,t,λM u o E v g w G=>?_⟩;let⟨x,rfl,g⟩:=g.get;have I:=w.last;let⟨b,rfl,g⟩:=i9 g;obtain rfl:=I.b;show⟨b,S,k b u o E g (w.pop U.lk) G⟩
def Fw{h:Ĕ}{r:cL}(v:OpD K X (É h) r)(j:PX K X a l)(o:PX K X b tb)(u:behindInMarks h b=Ś):PXB K X (.Compare a [h] [b] f) (vp (jX r l tb)):=
 ⟨λg=>(wj (v.o g) (j.pe g) (o.pe g) u).imp λ_ _ _=>HI⟩
noncomputable def ya(t u:cX):cX:=λρ R h=>t ρ (λc g=>(c=ř->u g R h)/\(c=Ś->R Ś g)) h
noncomputable def CG(t u:cX):cX:=λρ R h=>t ρ (λc g=>(c=ř->R ř g)/\(c=Ś->u g R h)) h
def PXW.toB(h:PXW K X e A):PXB K X e A:=⟨λg=>(h.pw g).pt⟩
def tZ(h:PXB K X a A):PXW K X (.BoolOp .And [a] f) A:=⟨λg=>tq (h.pt g)⟩
def AD(h:PXB K X a A):PXW K X (.BoolOp .Or [a] f) A:=⟨λg=>xn (h.pt g)⟩
def nV(N:PXB K X a A)(O:PXW K X (.BoolOp .And (b::es) f) C):PXW K X (.BoolOp .And (a::b::es) f) (ya A C):=
 ⟨λy=>(wA (N.pt y) (O.pw y)).imp λT H Q J=>by
  let⟨g,u,Φ,F,ρ,E,R,v,U,t,k⟩:=J;refine⟨g,u,Φ,F,ρ,E,_,v,U,t,λc j h I z w x=>?_⟩
  cases c with
  |true=>rw[Jj S];show⟨g,u,h,F,j,E,R,v,w,z.1 S,λb r o G P L M=>k b r o G P L (x.trans M)⟩
  |false=>rw[Jd 'b'];show k _ j h I (z.2 S) w x⟩
def Dt(N:PXB K X a A)(O:PXW K X (.BoolOp .Or (b::es) f) C):PXW K X (.BoolOp .Or (a::b::es) f) (CG A C):=
 ⟨λy=>(vq (N.pt y) (O.pw y)).imp λT H Q J=>by
  let⟨g,u,Φ,F,ρ,E,R,v,U,t,k⟩:=J;refine⟨g,u,Φ,F,ρ,E,_,v,U,t,λc j h I z w x=>?_⟩
  cases c with
  |true=>rw[Jj S];show k _ j h I (z.1 S) w x
  |false=>rw[Jd 'b'];show⟨g,u,h,F,j,E,R,v,w,z.2 S,λb r o G P L M=>k b r o G P L (x.trans M)⟩⟩
noncomputable def HC(t:TX):cX:=λρ R h=>t ρ (xV λd g=>pW d λb=>R b g) h
def wQ(L:PX K X a l)(M:∀g,isTrue a X.env g=(do let v ←g;standAt a.pos;holding [v] (truthy v))):PXB K X a (HC l):=
 ⟨λw=>(wl (L.pe w) M).imp λT H Q E=>by
  let⟨r,y,Φ,O,ρ,N,R,F,U,t,k⟩:=E;refine⟨r,y,Φ,O,ρ,N,_,F,U,t,λP h u z v o j G=>?_⟩;let⟨x,rfl,o⟩:=o.get;let⟨b,I,J⟩:=sP (R:=λb=>R b h) j.g.s (.inl j.last) o;rw[w]
  show⟨b,I,k b h u z J (j.pop U.lk) G⟩⟩
noncomputable def FN:db:=λρ R _=>R [] ρ
noncomputable def yh(t:TX)(u:db):db:=λρ R j=>t ρ (λs g=>u g (λas h=>R (.t s::as) h) j) j
noncomputable def GG(i:Nat)(u:db):db:=λρ R h=>u ρ (λas g=>R (.s i::as) g) h
def bg:PXA K X [] FN:=⟨λ_=>pa_nil.imp λu H Q g=>by
 let⟨h,j,Φ,v,ρ,r,R,o,U,t,k⟩:=g
 show k [] ρ Φ H [] [] t S .nil (by rw[JM,show dX []=[]from rfl,JM];show U) (Same.refl _)⟩
def aI(J:PX K X e t)(M:PXA K X es B)(N:starEach (e::es) X.env=(Ś,eval e X.env)::starEach es X.env):PXA K X (e::es) (yh t B):=
 ⟨λy=>(eM (J.pe y) (M.pa y) N).imp λσ H Q E=>by
  let⟨g,u,Φ,b_,ρ,a_,R,w,be,t,k⟩:=E;refine⟨g,u,Φ,b_,ρ,a_,_,w,be,t,λs1 o h H1 v P F G=>?_⟩;refine⟨g,u,h,_,o,_,_,w,F,P,λas r j z vs U T L O x I=>?_⟩;refine k _ r j z (v::vs) (Z v::U) T (by rw[Jp,Jp,L]) (.t O) ?_ (G.trans I);rw[Js,Js]at x
  show x⟩
def bT(i:Nat){x:Str}(N:PXA K X es B)(O:starEach (.Name x f::es) X.env=(Ś,eval (.Name x f) X.env)::starEach es X.env)(J:X.N[i]?=Z x:=by rfl)(h:cH X.env.scope x:=by nofun)(hd:ab x:=by decide)
  (y:fI x:=by decide):PXA K X (.Name x f::es) (λρ R g=>(∃a o,ρ[i]?=Z (Z (.ob a o)))/\GG i B ρ R g):=
 ⟨λI=>(eM (pv i J h hd y) (N.pa I) O).imp λσ H Q z=>by
  let⟨j,v,Φ,a_,ρ,U,R,g,be,⟨⟨a,o,M⟩,t⟩,k⟩:=z;let⟨b_,E⟩:=be.env;let⟨q,e,_⟩:=E.ow i a o M;refine⟨_,e,j,v,Φ,a_,ρ,U,_,g,be,t,λas u r w vs T P L h F G=>?_⟩
  show k _ u r w (.ref q::vs) T P (by rw[Jp,Jp,L]) (.s e h) F G⟩
noncomputable def gK:Y Ar->Ř (Y D)
 | []=>Z []
 |.t (.v d)::as=>(gK as).map (d::·)
 |_=>ŗ
noncomputable def xaD(k:Y D->ak->Prop):Y Ar->ak->Prop:=λas ρ=>match gK as with|some ds=>k ds ρ|none=>False
def xaD.get{k:Y D->ak->Prop}{as:Y Ar}{ρ:ak}(h:xaD k as ρ):∃ds,gK as=Z ds/\k ds ρ:=by
 unfold xaD at h;split at h
 ·next ds e=>show⟨ds,e,h⟩
 ·show h.elim
def oE:∀{as:Y Ar}{ds:Y D},gK as=Z ds->dX as=ds.map (λd=>Z (.v d))/\as.length=ds.length
 | [],ds,h=>by cases h;show⟨S,S⟩
 |.t (.v d)::as,ds,h=>by
  have h':(gK as).map (d::·)=Z ds:=h
  cases e:gK as with
  |none=>rw[e]at h';cases h'
  |some es=>
   rw[e]at h';cases h';let⟨g,j⟩:=oE e;show⟨by change Z (Sm.v d)::dX as=_;rw[g];rfl,by rw[Jp,Jp,j]⟩
 |.t (.ob _ _)::_,_,h=>by cases h
 |.s _::_,_,h=>by cases h
def Id{w:St}:∀{as:Y Ar}{ds:Y D}{vs:Y V}{g:St},gK as=Z ds->ArV w as vs g->g=vs.map Z:=by
 intro as ds vs g h j
 induction j generalizing ds with
 |nil=>rfl
 | @t u v as vs g j r=>
  cases u with
  |v d=>
   have h':(gK as).map (d::·)=Z ds:=h
   cases e:gK as with
   |none=>rw[e]at h';cases h'
   |some es=>rw[r e];rfl
  |ob a o=>cases h
 |s=>cases h
def StM.vals{h F Φ H:Hp}{z E y:St}{ρ j:ak}{I:XD->ak->Prop}{as:Y Ar}{ds:Y D}{vs:Y V}(Q:StM K X h F Φ H z (E++y) ρ (j++dX as) I)(L:j.length=E.length)(hd:gK as=Z ds)(M:ArV z as vs y):RpL K Φ ds vs:=by
 have o:=Id hd M;let⟨u,N⟩:=oE hd
 have g:vs.length=ds.length:=by have:=Q.lk;rw[Ja,Ja,o,u,IY,IY]at this;omega
 refine⟨g,λi v d J G=>?_⟩;let⟨w,x,r⟩:=Q.at (i:=j.length+i) (d:=d) (by rw[IZ (),Ks,u,Jm,G];rfl);rw[L,IZ (),Ks,o,Jm,J]at x;cases x;show r
noncomputable def EA(t:db):TX:=λρ R h=>t ρ (xaD λds g=>R (.v (.tup ds)) g) h
def GZ{x1}(h:PXA K X es B)(y:Nat.ble es.length 1000=ř:=by rfl):PX K X (.Tuple es x1 f) (EA B):=
 ⟨λF=>(qc (h.pa F)).imp λP H Q x=>by
  let⟨r,w,Φ,M,ρ,L,R,z,U,t,k⟩:=x;refine⟨r,w,Φ,M,ρ,L,_,z,U,t,λas u J N vs O o G I j E=>?_⟩;let⟨ds,hd,o⟩:=o.get;have rl:=j.vals U.lk hd I;refine⟨by rw[rl.1,←(oE hd).2,G];show lR y,λp v=>?_⟩;have g:=Gr.new j.g.s v (.tup vs)
  show k _ u _ _ _ o (((j.pop U.lk).gr g).pushV ((rl.same (c9 (j.g.s.free v) _)).tup bh)) (E.trans g.f)⟩
noncomputable def By(t:db):TX:=λρ R h=>t ρ (xaD λds g=>R (.own ds) g) h
def GA(h:PXA K X es B)(y:Nat.ble es.length 1000=ř:=by rfl):PX K X (.List es f) (By B):=
 ⟨λF=>(vQ (h.pa F)).imp λT H Q x=>by
  let⟨u,w,Φ,N,ρ,M,R,z,U,t,k⟩:=x;refine⟨u,w,Φ,N,ρ,M,_,z,U,t,λas v L O vs P r I J j E=>?_⟩;let⟨ds,hd,r⟩:=r.get;have rl:=j.vals U.lk hd J;refine⟨by rw[rl.1,←(oE hd).2,I];show lR y,λp o=>?_⟩;have g:=Gr.fresh j.g.s o (.lst vs)
  show k _ v _ _ _ r ((j.pop U.lk).pushO g (.lst bh rl) λb G=>by rw[Jk.mp G];show⟨o,j.g.s.free o⟩) E⟩
noncomputable def Ac(t:TX):TX:=λρ R h=>t ρ (λs g=>match s with|.ob ŗ (.lst ds)=>R (.v (.lst ds)) g|_=>False) h
def StM.fzl{J N Φ H:Hp}{T M:St}{ρ x:ak}{b_:XD->ak->Prop}{v:V}{ds:Y D}(be:StM K X J N Φ H T (M++[Z v]) ρ (x++[Z (.ob ŗ (.lst ds))]) b_):∃I,StM K X J N I H T (M++[Z v]) ρ (x++[Z (.v (.lst ds))]) b_/\Same Φ I:=by
 have hk:x.length=M.length:=by have:=be.lk;rw[Ja,Ja]at this;simpa using this
 let⟨fp,E⟩:=be.E
 have P:(ρ++(x++[Z (Sm.ob ŗ (.lst ds))]))[ρ.length+x.length]?=Z (Z (.ob ŗ (.lst ds))):=by rw[←Js,IZ (by rw[Ja];omega),Ja,JL];rfl
 let⟨p,e,_,r⟩:=E.ow _ _ _ P;have R:=r.mem;have no:=E.no _ _ _ P
 have ev:v=.ref p:=by
  rw[←Js,IZ (by rw[Ja,be.l];omega),Ja,be.l,hk,JL]at e;cases e;rfl
 subst ev;let⟨_,vs,h1,h2⟩:=r.lst_inv
 next=>
  have hn:=(no p R).2;have h0:=(no p R).1;have G:=c9 hn (.lst vs);refine⟨ao Φ p (.lst vs),⟨be.g.freeze h0 hn h1,be.l,?_,be.x⟩,G⟩
  have E0:EnvM K N (ao Φ p (.lst vs)) H (T++M) (ρ++x):=by
   refine⟨fp,λb u L=>?_,by rw[Ja,Ja,be.l,hk],λj d hd=>?_,λj a o y=>?_,λj a o y b hb=>?_,λj k a a' o o' g U c=>?_,E.tb.same G⟩
   ·by_cases c:b=p
    ·subst c;rw[bh]at L;cases L;show h1
    ·rw[aR c]at L;show E.fz b u L
   ·have g:=aA hd;let⟨w,F,O⟩:=E.sl j d (by rw[←Js,I0 g];show hd);rw[←Js,I0 (by rw[Ja]at g ⊢;have:=be.l;omega)]at F;show⟨w,F,O.same G⟩
   ·have g:=aA y;let⟨w,F,ha,O⟩:=E.ow j a o (by rw[←Js,I0 g];show y);rw[←Js,I0 (by rw[Ja]at g ⊢;have:=be.l;omega)]at F;show⟨w,F,ha,O.keep G λ_ _ _ h=>h⟩
   ·have g:=aA y
    have a_:(ρ++(x++[Z (Sm.ob ŗ (.lst ds))]))[j]?=Z (Z (.ob a o)):=by rw[←Js,I0 g];show y
    have c:b≠p:=λz=>E.dj j _ a _ o _ a_ P (by rw[Ja]at g;omega) b hb (by rw[z];show R);rw[aR c];show E.no j a o a_ b hb
   ·have Ub:=aA g;have Q:=aA U;show E.dj j k a a' o o' (by rw[←Js,I0 Ub];show g) (by rw[←Js,I0 Q];show U) c
  rw[←Js,←Js];show E0.snocV ((h2.same G).lst bh)
def vJ(h:PX K X e t):PX K X e (Ac t):=⟨λI=>(h.pe I).imp λO H Q x=>by
 let⟨j,u,Φ,M,ρ,L,R,y,U,t,k⟩:=x;refine⟨j,u,Φ,M,ρ,L,_,y,U,t,λN r J w v g z F=>?_⟩;split at g
 ·next ds=>
  let⟨o,E,G⟩:=z.fzl;show k _ r o w v g E (F.trans G)
 ·show g.elim⟩
end
noncomputable def b8(H:Hp)(B:Y Addr):Hp:=λb=>if b∈B then ŗ else H b
def uR{H:Hp}{B:Y Addr}{b:Addr}(h:b∈B):b8 H B b=ŗ:=Jj h
def gJ{H:Hp}{B:Y Addr}{b:Addr}(h:b∉B):b8 H B b=H b:=Jd h
def uz{H:Hp}{B:Y Addr}{b:Addr}{u:HO}(h:b8 H B b=Z u):b∉B/\H b=Z u:=by
 unfold b8 at h;split at h
 ·cases h
 ·next c=>show⟨c,h⟩
def A9{H:Hp}{B:Y Addr}:Same (b8 H B) H:=λb u e=>(uz e).2
noncomputable abbrev dW:=Y Sm->(Sm->Y Om->Prop)->(XD->Y Om->Prop)->Prop
inductive ArgM(K:Â)(Φ H:Hp):List Sm->List V->List (List Addr)->Prop where
 |nil:ArgM K Φ H [] [] []
 |v {d:D} {v:V} {as:List Sm} {vs:List V} {Fs:List (List Addr)}:Rp K Φ d v->ArgM K Φ H as vs Fs->ArgM K Φ H (.v d::as) (v::vs) ([]::Fs)
 |o {a:Option Addr} {o:Om} {p:Addr} {F:List Addr} {as:List Sm} {vs:List V} {Fs:List (List Addr)}:OmS K Φ H o p F->ArgM K Φ H as vs Fs->ArgM K Φ H (.ob a o::as) (.ref p::vs) (F::Fs)
inductive OutM(K:Â)(Φ H:Hp):List Sm->List V->List Om->List (List Addr)->Prop where
 |nil:OutM K Φ H [] [] [] []
 |v {d:D} {v:V} {as:List Sm} {vs:List V} {os:List Om} {Fs:List (List Addr)}:OutM K Φ H as vs os Fs->OutM K Φ H (.v d::as) (v::vs) os ([]::Fs)
 |o {a:Option Addr} {o o':Om} {p:Addr} {F:List Addr} {as:List Sm} {vs:List V} {os:List Om} {Fs:List (List Addr)}:OmS K Φ H o' p F->OutM K Φ H as vs os Fs->OutM K Φ H (.ob a o::as) (.ref p::vs) (o'::os) (F::Fs)
inductive ResM(K:Â)(Φ H:Hp):Sm->V->List Addr->Prop where
 |v {d:D} {v:V}:Rp K Φ d v->ResM K Φ H (.v d) v []
 |o {a:Option Addr} {o:Om} {p:Addr} {F:List Addr}:(∀q,a=Z q->q=p)->OmS K Φ H o p F->ResM K Φ H (.ob a o) (.ref p) F
inductive lSpM(K:Â)(sp:dW)(vs:List V)(H:Hp)(Q:VK)(E_:XK):Prop|mk (Φ:Hp) (as:List Sm) (Fs:List (List Addr)) (R:Sm->List Om->Prop) (Rx:XD->List Om->Prop) (_:Same Φ H) (_:TabF K Φ) (_:ArgM K Φ H as vs Fs) (_:Fs.flatten.Nodup) (_:(∀b∈Fs.flatten,Φ b=ŗ)) (_:sp as R Rx) (_:∀sm os Φ' H' v F N8,R sm os->Gr Φ (b8 H Fs.flatten) Φ' H'->ResM K Φ' H' sm v F->OutM K Φ' H' as vs os N8->(F++N8.flatten).Nodup->(∀b∈F++N8.flatten,b8 H Fs.flatten b=ŗ/\Φ' b=ŗ)->Q v H')
def OmS.nodup{K:Â}{Φ H:Hp}{o:Om}{p:Addr}{F:Y Addr}(h:OmS K Φ H o p F):F.Nodup:=by
 cases h with
 |lst _ _=>simp
 |map _ _=>simp
 |mpT _ _=>simp
 |obj _ _ _ h=>show h
 |ptr=>show .nil
 |tl _ _ h=>show h
 |pr _ _ _ _=>simp
def ArgM.len{K:Â}{Φ H:Hp}{as:Y Sm}{vs:Y V}{c:Y (Y Addr)}(h:ArgM K Φ H as vs c):vs.length=as.length/\c.length=as.length:=by
 induction h with
 |nil=>show⟨S,S⟩
 |v _ _ a=>show⟨by simp[a.1],by simp[a.2]⟩
 |o _ _ a=>show⟨by simp[a.1],by simp[a.2]⟩
section
variable{K:Â}{w H G Φ l C:Hp}{A:St}{ρ y:ak}{f:Nat->Y Addr}{F F' B:Y Addr}{o o':Om}{p:Addr}{d:D}{v:V}{i:Nat}{a:Ř Addr}
noncomputable def gN(new:Nat->Ř (Om×Y Addr))(f:Nat->Y Addr):Nat->Y Addr:=λi=>match new i with|some q=>q.2|none=>f i
def EnvM'.lend{new:Nat->Ř (Om×Y Addr)}(E:EnvM' K w Φ H A ρ f)(s0:Same w H)(hB:∀b,b∈B->∃i a o q,new i=Z q/\ρ[i]?=Z (Z (.ob a o))/\b∈f i)(hB2:∀i q,new i=Z q->∀b∈f i,b∈B)(g:Gr Φ (b8 H B) l G)
  (hl:y.length=ρ.length) (hv:∀(i:Nat)(d:D),y[i]?=Z (Z (.v d))->ρ[i]?=Z (Z (.v d)))
  (P:∀(i:Nat)(a:Ř Addr)(o:Om),y[i]?=Z (Z (.ob a o))->(new i=ŗ/\ρ[i]?=Z (Z (.ob a o)))\/∃be F',new i=Z (o,F')/\ρ[i]?=Z (Z (.ob a be)))
  (hn:∀(i:Nat)(q:Om×Y Addr),new i=Z q->∃p,A[i]?=Z (Z (.ref p))/\OmS K l G q.1 p q.2) (hF:∀(i:Nat)(q:Om×Y Addr),new i=Z q->∀b∈q.2,b8 H B b=ŗ/\l b=ŗ)
  (hd:∀(i j:Nat)(q r:Om×Y Addr),new i=Z q->new j=Z r->i≠j->∀b∈q.2,b∉r.2):EnvM' K w l G A y (gN new f):=by
 have B0:∀b∈B,w b=ŗ:=λb I=>let ⟨i,a,o,_,_,h,X⟩:=hB b I;(E.no i a o h b X).1
 have out:∀{i:Nat}{a:Ř Addr}{o:Om},new i=ŗ->ρ[i]?=Z (Z (.ob a o))->∀b∈f i,b∉B:=λ{i a o} hi h b I z=>by
  let⟨j,a',o2,q,T,J,X⟩:=hB b z
  have c:i≠j:=λe=>by rw[e,T]at hi;cases hi
  show E.dj i j a a' o o2 h J c b I X
 have N:∀{i:Nat},new i=ŗ->gN new f i=f i:=λh=>by unfold gN;rw[h]
 have O:∀{i:Nat}{q:Om×Y Addr},new i=Z q->gN new f i=q.2:=λh=>by unfold gN;rw[h]
 refine⟨g.s,by rw[hl];show E.len,λi d h=>?_,λi a o h=>?_,λi a o h b I=>?_,λi j a a' o o' hi T c b I M=>?_,E.tb.same g.f⟩
 ·let⟨v,e,r⟩:=E.sl i d (hv i d h);show⟨v,e,r.same g.f⟩
 ·rcases P i a o h with⟨x,J⟩|⟨be,F',x,J⟩
  ·let⟨p,e,U,r⟩:=E.ow i a o J;refine⟨p,e,U,?_⟩;rw[N x];show r.keep g.f λb I u Q=>g.h b u (by rw[gJ (out x J b I)];show Q)
  ·let⟨p,e,U,_⟩:=E.ow i a be J;let⟨p',b_,r⟩:=hn i _ x;rw[e]at b_;cases b_;show⟨p,e,U,by rw[O x];show r⟩
 ·rcases P i a o h with⟨x,J⟩|⟨be,F',x,J⟩
  ·rw[N x]at I;let⟨p,_,_,r⟩:=E.ow i a o J;let⟨u,Q,k⟩:=r.at b I;show⟨(E.no i a o J b I).1,g.o b u (by rw[gJ (out x J b I)];show Q) (E.no i a o J b I).2 k⟩
  ·rw[O x]at I;let⟨a_,z2⟩:=hF i _ x b I;refine⟨?_,z2⟩;rcases LA (b∈B)with c|c
   ·show B0 b c
   ·rw[gJ c]at a_
    cases e:w b with
    |none=>rfl
    |some u=>rw[s0 b u e]at a_;cases a_
 ·have no:∀{i j:Nat}{q:Om×Y Addr}{a:Ř Addr}{o:Om},new i=Z q->new j=ŗ->ρ[j]?=Z (Z (.ob a o))->b∈q.2->b∈f j->False:=λ{i j q a o} x J h3 h4 h5=>by
   let⟨p,_,_,r⟩:=E.ow j a o h3;let⟨u,Q,_⟩:=r.at b h5;have:=(hF i q x b h4).1;rw[gJ (out J h3 b h5),Q]at this;cases this
  rcases P i a o hi with⟨x,J⟩|⟨be,F',x,J⟩
  ·rw[N x]at I;rcases P j a' o' T with⟨L,R⟩|⟨o1,F1,L,R⟩
   ·rw[N L]at M;show E.dj i j a a' o o' J R c b I M
   ·rw[O L]at M;show no L x J M I
  ·rw[O x]at I;rcases P j a' o' T with⟨L,R⟩|⟨o1,F1,L,R⟩
   ·rw[N L]at M;show no x L R I M
   ·rw[O L]at M;show hd i j _ _ x L c b I M
def Gr.lend(c:Gr C w Φ H)(g:Gr Φ (b8 H B) l G)(j:∀b∈B,w b=ŗ):Gr C w l G:=by
 have up:∀{b:Addr}{u:HO},w b=Z u->b8 H B b=Z u:=λ{b u} e=>by
  rw[gJ λz=>by rw[j b z]at e;cases e];show c.h b u e
 show⟨c.f.trans g.f,λb u e=>g.h b u (up e),g.s,λb u h r k=>g.o b u (up h) (c.o b u h r k) k⟩
def EnvM'.snocG(E:EnvM' K w Φ H A ρ f){sm:Sm}(R:ResM K Φ H sm v F)(P:∀b∈F,w b=ŗ/\Φ b=ŗ)(hd:∀b∈F,∀(i:Nat)(a:Ř Addr)(o:Om),ρ[i]?=Z (Z (.ob a o))->b∉f i):EnvM K w Φ H (A++[Z v]) (ρ++[Z sm]):=by
 cases R with
 |v r=>show EnvM.snocV ⟨f,E⟩ r
 | @o a0 o p F L Q=>
  have I:∀{i:Nat}{x:Sm},(ρ++[Z (Sm.ob a0 o)])[i]?=Z (Z x)->(i<ρ.length/\ρ[i]?=Z (Z x))\/(i=ρ.length/\x=.ob a0 o):=λ{i x} h=>by
   rcases JW i ρ.length with c|c
   ·rw[I0 c]at h;show .inl ⟨c,h⟩
   ·rw[IZ c]at h
    cases e:i-ρ.length with
    |zero=>rw[e]at h;cases h;show .inr ⟨(),S⟩
    |succ n=>rw[e]at h;cases h
  refine⟨λi=>if i=ρ.length then F else f i,E.fz,by rw[Ja,Ja,E.len];rfl,λi d h=>?_,λi a o' h=>?_,λi a o' h b g=>?_,λi j a a' N O hi u c b g z=>?_,E.tb⟩
  ·rcases I h with⟨c,h⟩|⟨_,h⟩
   ·let⟨v,e,r⟩:=E.sl i d h;show⟨v,by rw[I0 (by rw[E.len];show c)];show e,r⟩
   ·cases h
  ·rcases I h with⟨c,h⟩|⟨c,h⟩
   ·let⟨q,e,r⟩:=E.ow i a o' h;show⟨q,by rw[I0 (by rw[E.len];show c)];show e,by rw[Jd ()];show r⟩
   ·cases h;subst c;refine⟨p,by rw[IZ (by rw[E.len];show Jg _),E.len,JL];rfl,L,by rw[Jj S];show Q⟩
  ·rcases I h with⟨c,h⟩|⟨c,h⟩
   ·rw[Jd ()]at g;show E.no i a o' h b g
   ·rw[Jj c]at g;show P b g
  ·rcases I hi with⟨M,hi⟩|⟨M,hi⟩
   ·rw[Jd ()]at g;rcases I u with⟨J,u⟩|⟨J,u⟩
    ·rw[Jd ()]at z;show E.dj i j a a' N O hi u c b g z
    ·rw[Jj J]at z;show hd b z i a N hi g
   ·rw[Jj M]at g;rcases I u with⟨J,u⟩|⟨J,u⟩
    ·rw[Jd ()]at z;show hd b g j a' O u z
    ·omega
end
noncomputable def fo(ρ:ak):Y Ar->Ř (Y Sm)
 | []=>Z []
 |.t s::as=>(fo ρ as).map (s::·)
 |.s i::as=>match ρ[i]? with
  |some (Z (.ob _ o))=>(fo ρ as).map (.ob ŗ o::·)
  |_=>ŗ
noncomputable def ba(o:Om):Ř Sm->Ř Sm
 |some (.ob a _)=>Z (.ob a o)
 |x=>x
noncomputable def setA:ak->Nat->Om->ak
 | [],_,_=>[]
 |x::ρ,0,o=>ba o x::ρ
 |x::ρ,i+1,o=>x::setA ρ i o
def jE:∀(ρ:ak)(i:Nat)(o:Om),setA ρ i o=(match ρ[i]? with
  |some (Z (.ob a _))=>ρ.set i (Z (.ob a o))
  |_=>ρ)
 | [],_,_=>rfl
 |some (.ob _ _)::_,0,_=>rfl
 |some (.v _)::_,0,_=>rfl
 |none::_,0,_=>rfl
 |x::ρ,i+1,o=>by
  change x::setA ρ i o=_;rw[jE ρ i o,M4]
  match ρ[i]? with
  |some (Z (.ob _ _))=>rfl
  |some (Z (.v _))=>rfl
  |some ŗ=>rfl
  |none=>rfl
noncomputable def aG(ρ:ak):Y Ar->Y Om->ak
 | [],_=>ρ
 |.t (.v _)::as,os=>aG ρ as os
 |.t (.ob _ _)::as,_::os=>aG ρ as os
 |.t (.ob _ _)::as,[]=>aG ρ as []
 |.s i::as,o::os=>aG (setA ρ i o) as os
 |.s _::as,[]=>aG ρ as []
noncomputable def eh:Y Ar->Y Nat
 | []=>[]
 |.t _::as=>eh as
 |.s i::as=>i::eh as
noncomputable def wg(as:Y Ar):Bool:=decide (eh as).Nodup
noncomputable def newA:Nat->Y Ar->Y Om->Y (Y Addr)->Nat->Ř (Om×Y Addr)
 |n,.t (.v _)::as,os,_::a,i=>newA (n+1) as os a i
 |n,.t (.ob _ _)::as,o::os,F::a,i=>if i=n then Z (o,F) else newA (n+1) as os a i
 |n,.s j::as,o::os,F::a,i=>if i=j then Z (o,F) else newA n as os a i
 |_,_,_,_,_=>ŗ
section
variable{K:Â}{A H Φ:Hp}{g:St}{ρ:ak}{f:Nat->Y Addr}
noncomputable def dH(f:Nat->Y Addr):Nat->Y Ar->Y (Y Addr)
 |_,[]=>[]
 |n,.t (.v _)::as=>[]::dH f (n+1) as
 |n,.t (.ob _ _)::as=>f n::dH f (n+1) as
 |n,.s j::as=>f j::dH f n as
noncomputable def dD:Nat->Y Ar->Y Nat
 |_,[]=>[]
 |n,.t (.v _)::as=>dD (n+1) as
 |n,.t (.ob _ _)::as=>n::dD (n+1) as
 |n,.s j::as=>j::dD n as
def fpA_mem:∀{n:Nat}{as:Y Ar}{b:Addr},b∈(dH f n as).flatten↔∃i∈dD n as,b∈f i
 |n,[],b=>by simp[dH,dD]
 |n,.t (.v _)::as,b=>by simp only[dH,dD,JS,LM];show fpA_mem
 |n,.t (.ob _ _)::as,b=>by simp only[dH,dD,JS,JH,Jt,fpA_mem (n:=n+1) (as:=as),exists_eq_or_imp]
 |n,.s j::as,b=>by simp only[dH,dD,JS,JH,Jt,fpA_mem (n:=n) (as:=as),exists_eq_or_imp]
def jx:∀{n:Nat}{as:Y Ar}{i:Nat},i∈dD n as->i∈eh as\/(n<=i/\i<n+(dX as).length)
 |n,[],i,h=>by cases h
 |n,.t (.v d)::as,i,h=>by
  have h:i∈dD (n+1) as:=h;rcases jx h with z|z
  ·show .inl z
  ·refine .inr ⟨(),?_⟩;change i<n+((dX as).length+1);omega
 |n,.t (.ob a o)::as,i,h=>by
  rcases Jt.mp h with rfl|h
  ·refine .inr ⟨Jg _,?_⟩;change i<i+((dX as).length+1);omega
  ·rcases jx h with z|z
   ·show .inl z
   ·refine .inr ⟨(),?_⟩;change i<n+((dX as).length+1);omega
 |n,.s j::as,i,h=>by
  rcases Jt.mp h with rfl|h
  ·show .inl Ji
  ·rcases jx h with z|z
   ·show .inl (Jh _ z)
   ·show .inr z
def l8:∀{n:Nat}{as:Y Ar},(eh as).Nodup->(∀i∈eh as,i<n)->(dD n as).Nodup
 |n,[],_,_=>by simp[dD]
 |n,.t (.v d)::as,h,c=>l8 (n:=n+1) h λi hi=>Lf (c i hi)
 |n,.t (.ob a o)::as,h,c=>by
  refine JE.mpr ⟨λz=>?_,l8 (n:=n+1) h λi hi=>Lf (c i hi)⟩;rcases jx z with z|z
  ·show KH _ (c n z)
  ·omega
 |n,.s j::as,h,c=>by
  let⟨e,l⟩:=JE.mp h;refine JE.mpr ⟨λz=>?_,l8 l λi hi=>c i (Jh _ hi)⟩;rcases jx z with z|z
  ·show e z
  ·have:=c j Ji;omega
def jv{s:Sm}{as:Y Ar}{a:Y Sm}(h:fo ρ (.t s::as)=Z a):∃q,fo ρ as=Z q/\a=s::q:=by let⟨q,e,h⟩:=Mc.mp h;show⟨q,e,h.symm⟩
def kS{i:Nat}{as:Y Ar}{c:Y Sm}(h:fo ρ (.s i::as)=Z c):∃a o q,ρ[i]?=Z (Z (.ob a o))/\fo ρ as=Z q/\c=.ob ŗ o::q:=by
 unfold fo at h;split at h
 ·next a o ho=>
  let⟨q,e,h⟩:=Mc.mp h;show⟨a,o,q,ho,e,h.symm⟩
 ·cases h
def OutM.cv{d:D}{as:Y Sm}{v:V}{vs:Y V}{os:Y Om}{a:Y (Y Addr)}(h:OutM K Φ H (.v d::as) (v::vs) os a):∃c,a=[]::c/\OutM K Φ H as vs os c:=by
 cases h with
 |v h=>show⟨_,S,h⟩
def OutM.co{a:Ř Addr}{o:Om}{as:Y Sm}{v:V}{vs:Y V}{os:Y Om}{c:Y (Y Addr)}(h:OutM K Φ H (.ob a o::as) (v::vs) os c):∃p o' j F e,v=.ref p/\os=o'::j/\c=F::e/\OmS K Φ H o' p F/\OutM K Φ H as vs j e:=by
 cases h with
 |o l h=>show⟨_,_,_,_,_,S,S,S,l,h⟩
def iH{a:Type}{l m:Y a}{n:Nat}{y:a}(h:∀(j:Nat) x,(y::l)[j]?=Z x->m[n+j]?=Z x)(j:Nat)(x:a)(c:l[j]?=Z x):m[n+1+j]?=Z x:=by rw[show n+1+j=n+(j+1)by omega];show h (j+1) x c
def zj{σx:St}{c:ak}(E:EnvM' K A Φ H σx c f)(I:∀(i:Nat)(x:Sm),ρ[i]?=Z (Z x)->c[i]?=Z (Z x))(F:∀(i:Nat)(v:V),g[i]?=Z (Z v)->σx[i]?=Z (Z v)) :
  ∀{n:Nat}{as:Y Ar}{y:Y Sm}{vs:Y V}{u:St},(∀(j:Nat) x,(dX as)[j]?=Z x->c[n+j]?=Z x)->(∀(j:Nat) x,u[j]?=Z x->σx[n+j]?=Z x)->fo ρ as=Z y->ArV g as vs u->ArgM K Φ H y vs (dH f n as):=by
 intro n as y vs u h l B C
 induction C generalizing n y with
 |nil=>cases B;show .nil
 | @t J v as vs u C z=>
  let⟨q,e,rfl⟩:=jv B
  cases J with
  |v d=>
   let⟨w,p,r⟩:=E.sl n d (h 0 _ S);obtain rfl:=JJ (JJ ((l 0 _ S).symm.trans p));show .v r (z (n:=n+1) (iH h) (iH l) e)
  |ob a o=>
   let⟨w,p,_,r⟩:=E.ow n a o (h 0 _ S);obtain rfl:=JJ (JJ ((l 0 _ S).symm.trans p));show .o r (z (n:=n+1) (iH h) (iH l) e)
 | @s i v as vs u hi C z=>
  let⟨a,o,q,G,e,rfl⟩:=kS B;let⟨w,p,_,r⟩:=E.ow i a o (I i _ G);obtain rfl:=JJ (JJ ((F i _ hi).symm.trans p));show .o r (z h l e)
def lL{σx:St}{c:ak}(u:∀(i:Nat)(x:Sm),ρ[i]?=Z (Z x)->c[i]?=Z (Z x)) :
  ∀{n:Nat}{as:Y Ar}{r:Y Sm},(∀(j:Nat) x,(dX as)[j]?=Z x->c[n+j]?=Z x)->fo ρ as=Z r->∀i∈dD n as,∃a o,c[i]?=Z (Z (.ob a o))
 |n,[],r,_,p,i,h=>by cases h
 |n,.t (.v d)::as,r,l,p,i,h=>by let⟨q,e,rfl⟩:=jv p;show lL (σx:=σx) u (n:=n+1) (iH l) e i h
 |n,.t (.ob a o)::as,r,l,p,i,h=>by
  let⟨q,e,rfl⟩:=jv p;rcases Jt.mp h with rfl|h
  ·show⟨a,o,l 0 _ S⟩
  ·show lL (σx:=σx) u (n:=n+1) (iH l) e i h
 |n,.s j::as,r,l,p,i,h=>by
  let⟨a,o,q,v,e,rfl⟩:=kS p;rcases Jt.mp h with rfl|h
  ·show⟨a,o,u _ _ v⟩
  ·show lL (σx:=σx) u (n:=n) (as:=as) l e i h
def mD{σx:St}{u:ak}(E:EnvM' K A Φ H σx u f):∀{n:Nat}{as:Y Ar},(dD n as).Nodup->(∀i∈dD n as,∃a o,u[i]?=Z (Z (.ob a o)))->(dH f n as).flatten.Nodup
 |n,[],_,_=>by simp[dH]
 |n,.t (.v d)::as,h,l=>by change ([]++(dH f (n+1) as).flatten).Nodup;rw[LM];show mD E (n:=n+1) h l
 |n,.t (.ob a o)::as,h,l=>by change (f n++(dH f (n+1) as).flatten).Nodup;let⟨x,y⟩:=JE.mp h;let⟨a',o',p⟩:=l n Ji;let⟨_,_,_,r⟩:=E.ow n a' o' p;refine Kn.mpr ⟨r.nodup,mD E (n:=n+1) y λi hi=>l i (Jh _ hi),λb z c B e=>?_⟩;subst e;let⟨i,hi,v⟩:=fpA_mem.mp B;let⟨a2,C,w⟩:=l i (Jh _ hi);show E.dj n i a' a2 o' C p w (λe=>x (e▸hi)) b z v
 |n,.s j::as,h,l=>by change (f j++(dH f n as).flatten).Nodup;let⟨x,y⟩:=JE.mp h;let⟨a',o',p⟩:=l j Ji;let⟨_,_,_,r⟩:=E.ow j a' o' p;refine Kn.mpr ⟨r.nodup,mD E y λi hi=>l i (Jh _ hi),λb z c B e=>?_⟩;subst e;let⟨i,hi,v⟩:=fpA_mem.mp B;let⟨a2,C,w⟩:=l i (Jh _ hi);show E.dj j i a' a2 o' C p w (λe=>x (e▸hi)) b z v
def lb:∀{n:Nat}{as:Y Ar}{os:Y Om}{e:Y (Y Addr)}{i:Nat}{q:Om×Y Addr},newA n as os e i=Z q->i∈dD n as
 |n,[],_,_,_,_,h=>by cases h
 |n,.t (.v d)::as,os,[],i,q,h=>by cases h
 |n,.t (.v d)::as,os,F::e,i,q,h=>lb (n:=n+1) h
 |n,.t (.ob a o)::as,[],e,i,q,h=>by cases e<;>cases h
 |n,.t (.ob a o)::as,_::_,[],i,q,h=>by cases h
 |n,.t (.ob a o)::as,o'::os,F::e,i,q,h=>by
  have h:(if i=n then Z (o',F) else newA (n+1) as os e i)=Z q:=h;split at h
  ·next c=>rw[c];show Ji
  ·show Jh _ (lb h)
 |n,.s j::as,[],e,i,q,h=>by cases e<;>cases h
 |n,.s j::as,_::_,[],i,q,h=>by cases h
 |n,.s j::as,o'::os,F::e,i,q,h=>by
  have h:(if i=j then Z (o',F) else newA n as os e i)=Z q:=h;split at h
  ·next c=>rw[c];show Ji
  ·show Jh _ (lb h)
noncomputable def OutS(K:Â)(Φ H:Hp)(σx:St)(ps:Y Nat)(a:Nat->Ř (Om×Y Addr))(G:Y Addr):Prop:=
 (∀i∈ps,∃q,a i=Z q)/\∀(i:Nat)(q:Om×Y Addr),a i=Z q->(∃p,σx[i]?=Z (Z (.ref p))/\OmS K Φ H q.1 p q.2)/\(∀b∈q.2,b∈G)/\∀(j:Nat)(r:Om×Y Addr),a j=Z r->i≠j->∀b∈q.2,b∉r.2
def OutS.cons{σx:St}{ps:Y Nat}{y v:Nat->Ř (Om×Y Addr)}{F G:Y Addr}{m:Nat}{o:Om}{p:Addr}(x:OutS K Φ H σx ps y G)(u:∀i,v i=if i=m then Z (o,F) else y i)(E:σx[m]?=Z (Z (.ref p)))(C:OmS K Φ H o p F)(I:(F++G).Nodup):OutS K Φ H σx (m::ps) v (F++G):=by
 have l:=(Kn.mp I).2.2;refine⟨λi hi=>?_,λi q h=>?_⟩
 ·rw[u];split
  ·show⟨_,S⟩
  ·next c=>show x.1 i ((Jt.mp hi).resolve_left c)
 ·rw[u]at h;split at h
  ·next c=>
   subst c;cases h;refine⟨⟨p,E,C⟩,λb a=>JH.mpr (.inl a),λj r e c b a w=>?_⟩;rw[u,Jd (Kd c)]at e;show l b a b ((x.2 j r e).2.1 b w) S
  ·next c=>
   let⟨J,z,L⟩:=x.2 i q h;refine⟨J,λb a=>JH.mpr (.inr (z b a)),λj r e B b a w=>?_⟩;rw[u]at e;split at e
   ·next c3=>
    cases e;show l b w b (z b a) S
   ·show L j r e B b a w
def Cr{σx:St}(J:∀(i:Nat)(v:V),g[i]?=Z (Z v)->σx[i]?=Z (Z v)) :
  ∀{n:Nat}{as:Y Ar}{y:Y Sm}{vs:Y V}{w:St}{os:Y Om}{l:Y (Y Addr)},(∀(j:Nat) x,w[j]?=Z x->σx[n+j]?=Z x)->fo ρ as=Z y->ArV g as vs w->OutM K Φ H y vs os l->(dD n as).Nodup->l.flatten.Nodup->OutS K Φ H σx (dD n as) (newA n as os l) l.flatten:=by
 intro n as y vs w os l z I E
 induction E generalizing n y os l with
 |nil=>
  intro c _ _;show⟨λi hi=>(by cases hi),λi q h=>(by cases h)⟩
 | @t M v as vs w E B=>
  intro c C r;let⟨q,e,rfl⟩:=jv I
  cases M with
  |v d=>
   let⟨G,rfl,u⟩:=c.cv;show B (n:=n+1) (iH z) e u C r
  |ob a o=>
   let⟨p,o',L,F,G,rfl,rfl,rfl,u,c⟩:=c.co;show (B (n:=n+1) (iH z) e c (JE.mp C).2 (Kn.mp r).2.1).cons (λ_=>rfl) (z 0 _ S) u r
 | @s N v as vs w hi E B=>
  intro c C r;let⟨a,o,q,_,e,rfl⟩:=kS I;let⟨p,o',L,F,G,rfl,rfl,rfl,u,c⟩:=c.co;show (B z e c (JE.mp C).2 (Kn.mp r).2.1).cons (λ_=>rfl) (J _ _ hi) u r
def EX{ρ:ak}{i j:Nat}{o:Om}{x:Ř Sm}(h:(setA ρ i o)[j]?=Z x)(c:j≠i):ρ[j]?=Z x:=by
 rw[jE]at h;split at h
 ·rwa [Jv (Kd c)]at h
 ·show h
def xf{ρ:ak}{i:Nat}{o:Om}:(setA ρ i o).length=ρ.length:=by
 rw[jE];split
 ·rw[Jc]
 ·rfl
def cp:∀{as:Y Ar}{ρ:ak}{os:Y Om},(aG ρ as os).length=ρ.length
 | [],_,_=>rfl
 |.t (.v _)::as,ρ,os=>cp (as:=as)
 |.t (.ob _ _)::as,ρ,_::os=>cp (as:=as)
 |.t (.ob _ _)::as,ρ,[]=>cp (as:=as)
 |.s i::as,ρ,o::os=>by change (aG (setA ρ i o) as os).length=_;rw[cp,xf]
 |.s _::as,ρ,[]=>cp (as:=as)
def im:∀{as:Y Ar}{ρ:ak}{os:Y Om}{i:Nat}{x:Ř Sm},i∉eh as->(aG ρ as os)[i]?=Z x->ρ[i]?=Z x
 | [],_,_,_,_,_,h=>h
 |.t (.v _)::as,ρ,os,i,x,a,h=>im (as:=as) (os:=os) a h
 |.t (.ob _ _)::as,ρ,_::os,i,x,a,h=>im (as:=as) (os:=os) a h
 |.t (.ob _ _)::as,ρ,[],i,x,a,h=>im (as:=as) (os:=[]) a h
 |.s j::as,ρ,o::os,i,x,a,h=>by have h':=im (as:=as) (λz=>a (Jh _ z)) (show (aG (setA ρ j o) as os)[i]?=Z x from h);show EX h' λe=>a (by rw[e];show Ji)
 |.s j::as,ρ,[],i,x,a,h=>im (as:=as) (os:=[]) (λz=>a (Jh _ z)) h
def kK{ρ:ak}{i j:Nat}{o:Om}(c:j≠i):(setA ρ i o)[j]?=ρ[j]?:=by
 rw[jE];split
 ·rw[Jv (Kd c)]
 ·rfl
def p7{O:ak}:∀{as:Y Ar}{ρ:ak}{y:Y Sm}{vs:Y V}{G:St}{os:Y Om}{w:Y (Y Addr)}{n i:Nat}{x:Sm},fo O as=Z y->ArV g as vs G->OutM K Φ H y vs os w->i∈eh as->i<n->(eh as).Nodup->(aG ρ as os)[i]?=Z (Z x)->(∀j∈eh as,∃a o,ρ[j]?=Z (Z (.ob a o)))->
  ∃a r q,x=.ob a q.1/\newA n as os w i=Z q/\ρ[i]?=Z (Z (.ob a r)):=by
 intro as ρ y vs G os w n i x U N
 induction N generalizing ρ y os w n i x with
 |nil=>intro _ h;cases h
 | @t b_ v as vs G N E=>
  intro l h hi nd C u;let⟨q,e,rfl⟩:=jv U
  cases b_ with
  |v d=>
   let⟨P,rfl,L⟩:=l.cv;show E (n:=n+1) e L h () nd C u
  |ob a1 o1=>
   let⟨p,o',Q,F,P,rfl,rfl,rfl,L,l⟩:=l.co;let⟨a,r,q,I,J,B⟩:=E (n:=n+1) (ρ:=ρ) e l h () nd C u;show⟨a,r,q,I,(Jd (JN hi)).trans J,B⟩
 | @s j v as vs G _ N E=>
  intro l h hi nd C u;let⟨_,o,q,_,e,rfl⟩:=kS U;let⟨p,o',Q,F,P,rfl,rfl,rfl,L,l⟩:=l.co;let⟨R,a_⟩:=JE.mp nd;have be:(aG (setA ρ j o') as Q)[i]?=Z (Z x):=C;by_cases c:i=j
  ·subst c;let⟨a,r,M⟩:=u i Ji;have:=im R be;rw[jE]at this;rw[M]at this;simp only at this;rw[Jy (aA M)]at this;cases this;show⟨a,r,(o',F),S,Jj S,M⟩
  ·have X:=(Jt.mp h).resolve_left c
   let⟨a,r,q,I,J,B⟩:=E (ρ:=setA ρ j o') (n:=n) e l X hi a_ be λk T=>by
    rw[kK λz=>R (by rw[←z];show T)];show u k (Jh _ T)
   show⟨a,r,q,I,(Jd c).trans J,by rw[kK c]at B;show B⟩
def qa:∀{as:Y Ar}{c:Y Sm},fo ρ as=Z c->∀j∈eh as,∃a o,ρ[j]?=Z (Z (.ob a o))
 | [],_,_,j,h=>by cases h
 |.t s::as,c,l,j,h=>by let⟨q,e,rfl⟩:=jv l;show qa e j h
 |.s i::as,c,l,j,h=>by
  let⟨a,o,q,p,e,rfl⟩:=kS l;rcases Jt.mp h with rfl|h
  ·show⟨a,o,p⟩
  ·show qa e j h
end
section
variable{K:Â}{X:Cx}{e:Ã}{es:Y Ã}{l p:Ö}{y:db}
inductive CallM(sp:dW)(R:Sm->ak->Prop)(Rx:XD->ak->Prop)(as:List Ar)(ρ:ak):Prop|mk (N3:List Sm) (_:fo ρ as=Z N3) (_:wg as=ř) (_:sp N3 (λsm os=>R sm (aG ρ as os)) (λxd os=>Rx xd (aG ρ as os)))
noncomputable def Bj(sp:dW)(y:db):TX:=λρ R a=>y ρ (CallM sp R a) a
def StM.lend{Φ0 H0 Φ H:Hp}{L O C:St}{ρ f:ak}{Rx:XD->ak->Prop}{as:Y Ar}{N3:Y Sm}{vs:Y V}(be:StM K X Φ0 H0 Φ H L (O++C) ρ (f++dX as) Rx)(hl:f.length=O.length)(P:fo ρ as=Z N3)(b_:ArV L as vs C)(hs:wg as=ř) :
  ∃U,ArgM K Φ H N3 vs U/\U.flatten.Nodup/\(∀b∈U.flatten,Φ b=ŗ)/\∀sm os G R v F N,Gr Φ (b8 H U.flatten) G R->ResM K G R sm v F->OutM K G R N3 vs os N->(F++N.flatten).Nodup->(∀b∈F++N.flatten,b8 H U.flatten b=ŗ/\G b=ŗ)->
   StM K X Φ0 H0 G R L (O++[Z v]) (aG ρ as os) (f++[Z sm]) Rx:=by
 have nd:(eh as).Nodup:=JV hs;let⟨T,E⟩:=be.E;have lS:=be.l
 have NL:(dX as).length=C.length:=by have:=be.lk;rw[Ja,Ja]at this;omega
 have a1:∀(i:Nat)(x:Sm),ρ[i]?=Z (Z x)->(ρ++(f++dX as))[i]?=Z (Z x):=λi x h=>by rw[I0 (aA h)];show h
 have a2:∀(i:Nat)(v:V),L[i]?=Z (Z v)->(L++(O++C))[i]?=Z (Z v):=λi x h=>by rw[I0 (aA h)];show h
 have a3:∀(j:Nat) x,(dX as)[j]?=Z x->(ρ++(f++dX as))[ρ.length+f.length+j]?=Z x:=λj x h=>by rw[IZ (),IZ (),show ρ.length+f.length+j-ρ.length-f.length=j by omega];show h
 have a4:∀(j:Nat) x,C[j]?=Z x->(L++(O++C))[ρ.length+f.length+j]?=Z x:=λj x h=>by rw[IZ (),IZ (),show ρ.length+f.length+j-L.length-O.length=j by omega];show h
 have sl:=qa P
 have slt:∀i∈eh as,i<ρ.length:=λi hi=>let ⟨_,_,h⟩:=sl i hi;aA h
 have pn:(dD (ρ.length+f.length) as).Nodup:=l8 nd λi hi=>by have:=slt i hi;omega
 have po:=lL (σx:=L) a1 a3 P;refine⟨dH T (ρ.length+f.length) as,zj E a1 a2 a3 a4 P b_,mD E pn po,λb A=>?_,λsm os G R v F N g Qw QU hnd OH=>?_⟩
 ·let⟨i,hi,J⟩:=fpA_mem.mp A;let⟨a,o,a_⟩:=po i hi;show (E.no i a o a_ b J).2
 let⟨SO,QJ,nd3⟩:=Kn.mp hnd;let⟨n1,n2⟩:=Cr (n:=ρ.length+f.length) a2 a4 P b_ QU pn QJ
 have B0:∀b∈(dH T (ρ.length+f.length) as).flatten,H0 b=ŗ:=λb A=>by let⟨i,hi,J⟩:=fpA_mem.mp A;let⟨a,o,a_⟩:=po i hi;show (E.no i a o a_ b J).1
 have pl:∀{i:Nat},i<ρ.length+f.length->i∉eh as->newA (ρ.length+f.length) as os N i=ŗ:=λ{i} hi hn=>by
  cases e:newA (ρ.length+f.length) as os N i with
  |none=>rfl
  |some q=>
   rcases jx (lb e)with z|z
   ·show absurd z hn
   ·omega
 have E2:EnvM' K H0 G R (L++(O++C)) (aG ρ as os++(f++List.replicate C.length ŗ)) (gN (newA (ρ.length+f.length) as os N) T):=by
  have cs:∀{i:Nat}{x:Sm},(aG ρ as os++(f++List.replicate C.length ŗ))[i]?=Z (Z x)->(i<ρ.length/\(aG ρ as os)[i]?=Z (Z x))\/(ρ.length<=i/\i<ρ.length+f.length/\f[i-ρ.length]?=Z (Z x)):=λ{i x} h=>by
   rcases JW i ρ.length with c|c
   ·rw[I0 (by rw[cp];show c)]at h;show .inl ⟨c,h⟩
   ·rw[IZ (by rw[cp];show c),cp]at h;rcases JW (i-ρ.length) f.length with I|I
    ·rw[I0 I]at h;show .inr ⟨c,(),h⟩
    ·rw[IZ I,Kq]at h;split at h
     ·cases h
     ·cases h
  have kx:∀{i:Nat}{x:Sm},ρ.length<=i->i<ρ.length+f.length->f[i-ρ.length]?=Z (Z x)->(ρ++(f++dX as))[i]?=Z (Z x):=λ{i x} w I h=>by rw[IZ w,I0 ()];show h
  refine E.lend be.g.h (B:=(dH T (ρ.length+f.length) as).flatten) (new:=newA (ρ.length+f.length) as os N) (λb A=>?_) (λi q M b A=>fpA_mem.mpr ⟨i,lb M,A⟩) g (by rw[Ja,Ja,Ja,Ja,JI,cp,NL]) (λi d h=>?_) (λi a o h=>?_) (λi q M=>(n2 i q M).1) (λi q M b A=>OH b (JH.mpr (.inr ((n2 i q M).2.1 b A)))) λi j q r M NX c b A=>(n2 i q M).2.2 j r NX c b A
  ·let⟨i,hi,J⟩:=fpA_mem.mp A;let⟨a,o,a_⟩:=po i hi;let⟨q,M⟩:=n1 i hi;show⟨i,a,o,q,M,a_,J⟩
  ·rcases cs h with⟨c,h⟩|⟨w,I,h⟩
   ·rcases LA (i∈eh as)with z|z
    ·let⟨a,o0,q,e1,_⟩:=p7 (n:=ρ.length+f.length) P b_ QU z () nd h sl;cases e1
    ·show a1 _ _ (im z h)
   ·show kx w I h
  ·rcases cs h with⟨c,h⟩|⟨w,I,h⟩
   ·rcases LA (i∈eh as)with z|z
    ·let⟨a',o0,q,e1,e2,e3⟩:=p7 (n:=ρ.length+f.length) P b_ QU z () nd h sl;cases e1;show .inr ⟨o0,q.2,e2,a1 _ _ e3⟩
    ·show .inl ⟨pl () z,a1 _ _ (im z h)⟩
   ·show .inl ⟨pl I λz=>by have:=slt i z;omega,kx w I h⟩
 have g0:=be.g.lend g B0
 have E3:=E2.snocG Qw (λb A=>by
   let⟨z1,z2⟩:=OH b (JH.mpr (.inl A));refine⟨?_,z2⟩;rcases LA (b∈(dH T (ρ.length+f.length) as).flatten)with c|c
   ·show B0 b c
   ·rw[gJ c]at z1
    show be.g.h.free z1) λb A i a o hi J=>by
  unfold gN at J
  cases e:newA (ρ.length+f.length) as os N i with
  |some q=>
   rw[e]at J;show nd3 b A b ((n2 i q e).2.1 b J) S
  |none=>
   rw[e]at J;let⟨p,_,_,r⟩:=E2.ow i a o hi;unfold gN at r;rw[e]at r;let⟨z1,z2⟩:=OH b (JH.mpr (.inl A))
   have own:∃o',(ρ++(f++dX as))[i]?=Z (Z (.ob a o')):=by
    rcases JW i ρ.length with c|c
    ·rw[I0 (by rw[cp];show c)]at hi;rcases LA (i∈eh as)with z|z
     ·let⟨a',o0,q,_,e2,_⟩:=p7 (n:=ρ.length+f.length) P b_ QU z () nd hi sl;rw[e]at e2;cases e2
     ·show⟨o,a1 _ _ (im z hi)⟩
    ·rw[IZ (by rw[cp];show c),cp]at hi;rcases JW (i-ρ.length) f.length with I|I
     ·rw[I0 I]at hi;show⟨o,by rw[IZ c,I0 I];show hi⟩
     ·rw[IZ I,Kq]at hi;split at hi
      ·cases hi
      ·cases hi
   let⟨o',PY⟩:=own;let⟨p',_,_,r'⟩:=E.ow i a o' PY;let⟨u,hu,_⟩:=r'.at b J
   have c:b∉(dH T (ρ.length+f.length) as).flatten:=λz=>by
    let⟨j,hj,hbj⟩:=fpA_mem.mp z;let⟨q,M⟩:=n1 j hj
    have cj:i≠j:=λz=>by rw[z,M]at e;cases e
    let⟨a2',o2,Ve⟩:=po j hj;show E.dj i j a a2' o' o2 PY Ve cj b J hbj
   rw[gJ c,hu]at z1;cases z1
 refine⟨g0,by rw[cp];show lS,?_,be.x⟩;refine E3.re (λi=>if i<ρ.length+f.length then i else ρ.length+f.length+C.length) (by simp only[Ja,Jp,KC,cp];omega) (λi x Q=>?_) λi j a a' o o' hi hj e=>?_
 ·rcases JW i (ρ.length+f.length)with c|c
  ·rw[Jj c];constructor
   ·rcases JW i ρ.length with w|w
    ·rw[I0 (by rw[cp];show w)]at Q;rw[I0 (by simp only[Ja,cp];omega),I0 (by rw[cp];show w)];show Q
    ·rw[IZ (by rw[cp];show w),cp,I0 ()]at Q;rw[I0 (by simp only[Ja,cp];omega),IZ (by rw[cp];show w),cp,I0 ()];show Q
   ·rcases JW i L.length with w|w
    ·rw[I0 w,I0 (by simp only[Ja];omega),I0 w]
    ·rw[IZ w,I0 (),I0 (by simp only[Ja];omega),IZ w,I0 ()]
  ·have hi:i=ρ.length+f.length:=by have:=aA Q;simp only[Ja,Jp,KC,cp]at this;omega
   subst hi;rw[Jd ()];rw[IZ (by rw[cp];omega),IZ (by rw[cp];omega),cp,show ρ.length+f.length-ρ.length-f.length=0 by omega]at Q;cases Q;constructor
   ·rw[IZ (by simp only[Ja,JI,cp];omega)];simp only[Ja,JI,cp];rw[show ρ.length+f.length+C.length-(ρ.length+(f.length+C.length))=0 by omega];rfl
   ·rw[IZ (),IZ (),IZ (by simp only[Ja];omega)];simp only[Ja];rw[show ρ.length+f.length-L.length-O.length=0 by omega,show ρ.length+f.length+C.length-(L.length+(O.length+C.length))=0 by omega]
 ·have hi1:=aA hi;have Ub:=aA hj;simp only[Ja,Jp,KC,cp]at hi1 Ub;have e:(if i<ρ.length+f.length then i else ρ.length+f.length+C.length)=(if j<ρ.length+f.length then j else ρ.length+f.length+C.length):=e;split at e<;>split at e<;>omega
structure ClM(P:Å)(w:È)(K:Â)(mg:Str->Option Value)(base:Heap)(n:Nat)(x:Str)(ps:List Str)(z:dW):Prop where
 ex:∃(f:Addr)(fd:Í),FnOk P w K mg base aE n f fd ps (lSpM K z)/\Binds K fd ps []/\ã K (.ref f)=ř/\mg x=Z (.ref f)
def bO{n:Nat}{x:Str}{ps:Y Str}{z:dW}(C:ClM X.prog X.w K X.mg X.base n x ps z)(hr:Room n X.A)(hg:Gl X x)
  (ha:PXA K X (e::es) y) (he:starEach (e::es) X.env=(Ś,eval e X.env)::starEach es X.env) (I:(backTo l (starEach es X.env)).any (·.1)=Ś) (M:ab x:=by decide) :
  PX K X (.Call (.Name x p) (e::es) [] l) (Bj z y):=⟨λc=>by
 let⟨f,a_,F,b,k,m⟩:=C.ex;refine (pU (dvs:=[]) (ds:=[]) (E:=E0) (c▸F:FnOk X.prog X.w X.K X.mg X.base aE n f a_ ps (lSpM K z)) hr hg m (c▸k) (c▸b) .nil jZ (ha.pa c) M he I).imp λσ H Q L=>?_;let⟨j,A,Φ,τ,ρ,κ,R,T,be,t,k⟩:=L;refine⟨j,A,Φ,τ,ρ,κ,_,T,be,t,λas ρ1 o H1 vs ts h hl hv g U=>?_⟩;let⟨B,P,O,h⟩:=h;let⟨w,b_,g2,g3,g4⟩:=g.lend be.lk P hv O;rw[JM]
 show⟨o,B,w,_,_,g.g.s,g.E.tb,b_,g2,g3,h,λsm os a u v F G r gr J ho hn N=>k sm _ a u v r (g4 sm os a u v F G gr J ho hn N) (U.trans gr.f)⟩⟩
end
structure EndsM where
 nx:ak->Prop
 rt:Sm->ak->Prop
 bk:ak->Prop:=λ_=>False
 ct:ak->Prop:=λ_=>False
 ex:XD->ak->Prop:=λ_ _=>False
noncomputable abbrev bC:=EndsM->ak->Prop
noncomputable def rN(K:Â)(g h:Hp)(P:ak->Prop)(Q:St->Hp->Prop):Prop:=∀c a f e,P c->Gr g h a f->EnvM K h a f e c->Q e f
structure EndOkM(K:Â)(X:Cx)(Φ0 H0:Hp)(De:EndsM)(E:Ends):Prop where
 nx:rN K Φ0 H0 De.nx E.nx
 rt:∀sm ρ' Φ' H' v σ',De.rt sm ρ'->Gr Φ0 H0 Φ' H'->EnvM K H0 Φ' H' (σ'++[Z v]) (ρ'++[Z sm])->E.rt v H'
 bk:rN K Φ0 H0 De.bk E.bk
 ct:rN K Φ0 H0 De.ct E.ct
 ex:XeOk K X Φ0 H0 De.ex
inductive lM(K:Â)(X:Cx)(t:bC)(E:Ends)(σ:St)(H:Hp):Prop|mk (Φ0:Hp) (H0:Hp) (Φ:Hp) (ρ:ak) (De:EndsM) (_:Gr Φ0 H0 Φ H) (_:EnvM K H0 Φ H σ ρ) (_:t De ρ) (_:EndOkM K X Φ0 H0 De E)
structure PSM(K:Â)(X:Cx)(st:Ç)(t:bC):Prop where ps:X.K=K->PS X st (lM K X t)
structure PSsM(K:Â)(X:Cx)(st:List Ç)(t:bC):Prop where ps:X.K=K->PSs X st (lM K X t)
section
variable{K:Â}{X:Cx}{a c Φ H:Hp}{e:St}{ρ:ak}{f:XD->ak->Prop}{v:V}{sm:Sm}
def de(g:Gr a c Φ H)(V:EnvM K c Φ H e ρ)(x:XeOk K X a c f):StM K X a c Φ H e [] ρ [] f:=⟨g,V.len.symm,by rw[JM,JM];show V,x⟩
def StM.env1(Q:StM K X a c Φ H e ([]++[Z v]) ρ ([]++[Z sm]) f):EnvM K c Φ H (e++[Z v]) (ρ++[Z sm]):=Q.E
end
section
variable{K:Â}{X:Cx}{st:Ç}{p:Y Ç}{t u:bC}{e a:Ã}{l:TX}{f:Ö}{w:cX}
noncomputable def HS:bC:=λc ρ=>c.nx ρ
noncomputable def yw(t u:bC):bC:=λc ρ=>t { c with nx:=u c } ρ
inductive mCut(t u:bC)(De:EndsM)(ρ:ak):Prop|mk (I:ak->Prop) (_:t { De with nx:=I } ρ) (_:∀ρ',I ρ'->u De ρ')
def cy:PSsM K X [] HS:=⟨λ_=>pss_nil.imp λE j H c=>by let⟨h,r,Φ,ρ,o,g,V,t,k⟩:=c;show k.nx ρ Φ H j t g V⟩
def ap(z:PSM K X st t)(A:PSsM K X p u):PSsM K X (st::p) (yw t u):=⟨λr=>(n5 (z.ps r) (A.ps r)).imp λE F H x=>by let⟨c,o,Φ,ρ,v,g,V,t,k⟩:=x;exact
 ⟨c,o,Φ,ρ,_,g,V,t,⟨λj h C B t' g' y=>⟨c,o,h,j,v,g',y,t',k⟩,k.rt,k.bk,k.ct,k.ex⟩⟩⟩
def cB(A:PSM K X st t)(B:PSsM K X p u):PSsM K X (st::p) (mCut t u):=⟨λv=>(n5 (A.ps v) (B.ps v)).imp λE G H y=>by let⟨h,r,Φ,ρ,x,g,V,⟨I,t,c⟩,k⟩:=y;exact
 ⟨h,r,Φ,ρ,_,g,V,t,⟨λj o F C t' g' z=>⟨h,r,o,j,x,g',z,c j t',k⟩,k.rt,k.bk,k.ct,k.ex⟩⟩⟩
def aQ(c:PSM K X st t):PSsM K X [st] t:=⟨λg=>uI (c.ps g)⟩
noncomputable def lv(i:Nat)(l:TX):bC:=λg ρ=>l ρ (λs c=>g.nx (c.set i (Z s))) g.ex
def Gd{i:Nat}{E:Ends}{x:St}{H:Hp}(h:lM K X (lv i l) E x H):jo (lXm K X l) (iW i) E x H:=by let⟨c,z,Φ,ρ,y,g,V,t,k⟩:=h;show⟨c,z,Φ,[],ρ,[],_,y.ex,de g V k.ex,t,λs B j A v r o _=>k.nx _ j A _ r o.g (o.env1.store i)⟩
def aH{i:Nat}{x:Str}{c:Ö}(h:X.N.Nodup)(hi:X.N[i]?=Z x)(v:eI X.env.scope x)(j:PX K X e l)(r:Î e (Z (.Name x c)) f.line X.env=pure Ś:=by rfl)(o:X.fn x=ř\/X.env.scope.names.lookup x=Z .local:=by nofun) :
  PSM K X (.Assign [.Name x c] e f) (lv i l):=⟨λg=>(qZ h hi v (j.pe g) r o).imp λ_ _ _=>Gd⟩
noncomputable def Ff(l:TX):bC:=λg ρ=>l ρ (λ_ c=>g.nx c) g.ex
def fQ(B:PX K X e l)(C:Î e ŗ f.line X.env=pure Ś:=by rfl):PSM K X (.Expr e f) (Ff l):=
 ⟨λA=>(jQ (B.pe A) C).imp λE G H z=>by
  let⟨c,x,Φ,ρ,o,g,V,t,k⟩:=z
  show⟨c,x,Φ,[],ρ,[],_,o.ex,de g V k.ex,t,λs F h y v r j _=>k.nx _ h y G r j.g j.env⟩⟩
noncomputable def Da(l:TX):bC:=λc ρ=>l ρ c.rt c.ex
def cq(C:PX K X e l):PSM K X (.Return (Z e) f) (Da l):=
 ⟨λB=>(uy (C.pe B)).imp λE F H A=>by
  let⟨c,y,Φ,ρ,x,g,V,t,k⟩:=A
  show⟨c,y,Φ,[],ρ,[],_,x.ex,de g V k.ex,t,λs j h z v r o _=>k.rt s j h z v F r o.g o.env1⟩⟩
noncomputable def vM(i:Nat):TX:=λρ R _=>match ρ[i]? with|some (Z (.ob ŗ o))=>R (.ob ŗ o) (ρ.set i ŗ)|_=>False
def jG(i:Nat){x:Str}(M:X.N[i]?=Z x:=by rfl)(P:cH X.env.scope x:=by nofun)(hd:ab x:=by decide)
  (F:fI x:=by decide):PX K X (.Name x f) (vM i):=⟨λ_=>(pv i M P hd F).imp λU H Q G=>by
 let⟨T,b_,Φ,a_,ρ,r,R,Rx,be,t,k⟩:=G;unfold vM at t;split at t
 ·next o h=>
  have hi:=aA h;have O:=be.l;let⟨fp,E⟩:=be.env;let⟨q,e,_⟩:=E.ow i ŗ o h;refine⟨_,e,k _ _ Φ H _ t ⟨be.g,by rw[Jc];show O,?_,be.x⟩ (Same.refl _)⟩;have hk:=be.lk;refine be.E.re (λj=>if j=ρ.length+r.length then i else j) (by simp only[Ja,Jc,Jp,KC];omega) (λj x g=>?_) λA B a a' o1 o2 J L v=>?_
  ·have N:=aA g;simp only[Ja,Jc,Jp,KC]at N;rcases JW j ρ.length with c|c
   ·rw[I0 (by rw[Jc];show c)]at g;rw[Jd (),I0 c,I0 (),I0 ()];rcases cG g with⟨_,_,z⟩|⟨_,z⟩
    ·cases z
    ·show⟨z,S⟩
   ·rw[IZ (by rw[Jc];show c),Jc]at g;rcases JW j (ρ.length+r.length)with I|I
    ·rw[I0 ()]at g;rw[Jd ()];constructor
     ·rw[IZ c];show g
     ·rw[IZ (),I0 (),IZ ()]
    ·have y:j=ρ.length+r.length:=by omega
     subst y;rw[IZ (),show ρ.length+r.length-ρ.length-r.length=0 by omega]at g;cases g;rw[Jj S,I0 hi,IZ (),IZ (),show ρ.length+r.length-U.length-a_.length=0 by omega,I0 (),e];show⟨h,S⟩
  ·have no:∀{j:Nat}{a:Ř Addr}{o:Om},(ρ.set i ŗ++(r++[Z (Sm.ob ŗ o)]))[j]?=Z (Z (.ob a o))->True:=λ_=>trivial
   have C:∀{j:Nat}{x:Sm},(ρ.set i ŗ++(r++[Z (Sm.ob ŗ o)]))[j]?=Z (Z x)->j≠i:=λ{j x} g y=>by subst y;rw[I0 (by rw[Jc];show hi),Jy hi]at g;cases g
   have n1:=C J;have n2:=C L;have v:(if A=ρ.length+r.length then i else A)=(if B=ρ.length+r.length then i else B):=v;split at v<;>split at v<;>omega
 ·show t.elim⟩
noncomputable def xv(c:cX)(t u:bC):bC:=λh ρ=>c ρ (λb g=>(b=ř->t h g)/\(b=Ś->u h g)) h.ex
def ce{c:Ã}{a b:Y Ç}(F:PXB K X c w)(B:PSsM K X a t)(C:PSsM K X b u):PSM K X (.If c a b f) (xv w t u):=
 ⟨λz=>(wU (F.pt z) (B.ps z) (C.ps z)).imp λE I H A=>by
  let⟨h,y,Φ,ρ,x,g,V,t,k⟩:=A;refine⟨h,y,Φ,[],ρ,[],_,x.ex,de g V k.ex,t,λc o j G r v _=>?_⟩
  cases c with
  |true=>refine jW ?_;show⟨h,y,j,o,x,v.g,v.env,r.1 S,k⟩
  |false=>refine jB ?_;show⟨h,y,j,o,x,v.g,v.env,r.2 S,k⟩⟩
noncomputable abbrev fP:=D->ak->(ak->Prop)->Prop
noncomputable abbrev i8:=Y D->ak->(ak->Prop)->Prop
inductive lGM(K:Â)(g:fP)(v:V)(σ:St)(H:Hp)(Q:St->Hp->Prop):Prop|mk (H0:Hp) (Φ:Hp) (ρ:ak) (d:D) (R:ak->Prop) (_:EnvM K H0 Φ H σ ρ) (_:Rp K Φ d v) (_:g d ρ R) (_:∀ρ' σ',R ρ'->EnvM K H0 Φ H σ' ρ'->Q σ' H)
inductive lGMs(K:Â)(g:i8)(vs:List V)(σ:St)(H:Hp)(Q:St->Hp->Prop):Prop|mk (H0:Hp) (Φ:Hp) (ρ:ak) (ds:List D) (R:ak->Prop) (_:EnvM K H0 Φ H σ ρ) (_:RpL K Φ ds vs) (_:g ds ρ R) (_:∀ρ' σ',R ρ'->EnvM K H0 Φ H σ' ρ'->Q σ' H)
structure PGM(K:Â)(X:Cx)(e:Ã)(g:fP):Prop where pg:X.K=K->PG X e (lGM K g)
structure PGMs(K:Â)(X:Cx)(es:List Ã)(g:i8):Prop where pg:X.K=K->PGs X es (lGMs K g)
end
section
variable{K:Â}{X:Cx}{e:Ã}{es:Y Ã}{a:Ö}{g:fP}{gs:i8}
noncomputable def AS(i:Nat):fP:=λd ρ R=>R (ρ.set i (Z (.v d)))
def cg{i:Nat}{x:Str}(f:X.N.Nodup)(hi:X.N[i]?=Z x)(j:eI X.env.scope x)(h:X.fn x=ř\/X.env.scope.names.lookup x=Z .local:=by nofun):PGM K X (.Name x a) (AS i):=
 ⟨λ_=>(kJ f hi j h).imp λv o H Q c=>by let⟨l,Φ,ρ,d,R,E,r,g,k⟩:=c;show k _ _ g ((E.snocV r).store i)⟩
noncomputable def C2:i8:=λds ρ R=>match ds with| []=>R ρ|_=>False
noncomputable def Dl(t:fP)(u:i8):i8:=λds ρ R=>match ds with|d::r=>t d ρ λc=>u r c R| []=>False
def gL:PGMs K X [] C2:=⟨λ_=>pgs_nil.imp λv h H Q c=>by
 let⟨f,Φ,ρ,ds,R,E,r,g,k⟩:=c
 cases ds with
 |nil=>show⟨J5.mp r.1,k _ _ g E⟩
 |cons=>show g.elim⟩
def dc(p:PGM K X e g)(w:PGMs K X es gs)(y:(Æ (e::es) X.env).map (·.2)=assign e X.env::(Æ es X.env).map (·.2):=by rfl):PGMs K X (e::es) (Dl g gs):=
 ⟨λj=>(km (p.pg j) (w.pg j) y).imp λvs B H Q o=>by
  let⟨h,Φ,ρ,ds,R,E,r,g,k⟩:=o
  cases ds with
  |nil=>show g.elim
  |cons d ds=>
   cases vs with
   |nil=>show absurd r.1 (by simp)
   |cons v vs=>
    refine⟨v,vs,S,h,Φ,ρ,d,_,E,r.2 0 v d S S,g,λc A g' l=>⟨h,Φ,c,ds,R,l,⟨by have:=r.1;simpa using this,λi u f z x=>r.2 (i+1) u f z x⟩,g',k⟩⟩⟩
noncomputable def GI(n:Nat)(t:i8):fP:=λd ρ R=>match d with|.tup ds=>ds.length=n/\t ds ρ R|.lst ds=>ds.length=n/\t ds ρ R|_=>False
noncomputable def uD(K:Â)(n:Nat)(t:fA):TG:=λv c H Q=>qN K n t v c H Q\/pL K n t v c H Q
def yb{k n:Nat}{t:fA}(l:X.K=K)(o:X.calm=ř)(h:PGs X es t)(p:(Æ es X.env).length=n)(j:(Æ es X.env).findIdx? (·.1)=ŗ):PG X (.Tuple es k a) (uD K n t):=λc s w H v u Q I r f=>by
 rcases f with f|f
 ·show sE l o h p j c s w H v u Q I r f
 ·show wF l o h p j c s w H v u Q I r f
def gQ{k n:Nat}(o:X.calm=ř)(h:PGMs K X es gs)(p:(Æ es X.env).length=n:=by rfl)(l:(Æ es X.env).findIdx? (·.1)=ŗ:=by rfl):PGM K X (.Tuple es k a) (GI n gs):=
 ⟨λf=>(yb f o (h.pg f) p l:PG X (.Tuple es k a) (uD K n (lGMs K gs))).imp λv u H Q j=>by
  let⟨c,Φ,ρ,d,R,E,r,g,k⟩:=j
  cases d with
  |tup ds=>cases r with|tup h1 h2 h3=>show .inl ⟨_,_,S,.of (E.fz _ _ h1),by rw[h2];show g.1,c,Φ,ρ,ds,R,E,⟨h2,h3⟩,g.2,k⟩
  |lst ds=>cases r with|lst h1 h2 h3=>show .inr ⟨_,_,S,.of (E.fz _ _ h1),by rw[h2];show g.1,c,Φ,ρ,ds,R,E,⟨h2,h3⟩,g.2,k⟩
  |_=>show g.elim⟩
end
section
variable{K:Â}{X:Cx}{t u:bC}{e a:Ã}{l:TX}{f:Ö}{o:cX}
noncomputable def Ev(l:TX)(g:fP):bC:=λh ρ=>l ρ (xV λd c=>g d c h.nx) h.ex
def xj{c:Ã}{A:fP}(L:PX K X e l)(M:PGM K X c A)(N:è [c] e f.line X.env=pure Ś:=by rfl)(O:é [c] e X.env=pure ŗ:=by rfl)
  (J:(Æ [c] X.env).map (·.2)=[assign c X.env]:=by rfl):PSM K X (.Assign [c] e f) (Ev l A):=
 ⟨λB=>(mG (L.pe B) (M.pg B) N O J).imp λE Q H G=>by
  let⟨p,z,Φ,ρ,C,g,V,t,k⟩:=G;refine⟨p,z,Φ,[],ρ,[],_,C.ex,de g V k.ex,t,λs x h F v r j _=>?_⟩;let⟨d,rfl,r⟩:=r.get
  show⟨z,h,x,d,_,j.env,j.last,r,λw y P I=>k.nx w h F y P j.g I⟩⟩
noncomputable def GJ(c:cX)(tb:bC):bC:=λr ρ=>∃I:Nat->ak->Prop,(∃m,I m ρ)/\∀m j,I m j->c j (λb p=>(b=ř->tb { r with nx:=λg=>∃h,h<m/\I h g,ct:=λg=>∃h,h<m/\I h g,bk:=r.nx } p)/\(b=Ś->r.nx p)) r.ex
def EE{c:Ã}{x:Y Ç}{tb:bC}(hp:ø (Ä X.prog X.w) X.A X.env X.xe)(hc:PXB K X c o)(hb:PSsM K X x tb):PSM K X (.While c x [] f) (GJ o tb):=
 ⟨λQ=>(tX hp (hc.pt Q) (hb.ps Q)).imp λE R H U=>by
  let⟨v,A,Φ,ρ,be,g,V,⟨I,⟨m,b_⟩,hw⟩,k⟩:=U;refine⟨λm R H=>∃p j,Gr v A p H/\EnvM K A p H R j/\I m j,⟨m,Φ,ρ,g,V,b_⟩,?_⟩;rintro m P H' ⟨p,j,g',a_,hi⟩;refine⟨v,A,p,[],j,[],_,be.ex,de g' a_ k.ex,hw m j hi,λb G F T r J _=>?_⟩
  cases b with
  |false=>refine jB ?_;show k.nx G F T P (r.2 S) J.g J.env
  |true=>
   refine jW ?_;refine⟨λw C=>∃B,B<m/\∃p j,Gr v A p C/\EnvM K A p C w j/\I B j,λw C h=>h,v,A,F,G,_,J.g,J.env,r.1 S,⟨?_,k.rt,k.nx,?_,k.ex⟩⟩
   ·rintro z y C w ⟨B,O,L⟩ N M;show⟨B,O,y,z,N,M,L⟩
   ·rintro z y C w ⟨B,O,L⟩ N M
    show⟨B,O,y,z,N,M,L⟩⟩
noncomputable abbrev iV:=ak->(Y D->ak->Prop)->(XD->ak->Prop)->Prop
inductive lIM(K:Â)(X:Cx)(t:iV)(σ:St)(H:Hp)(R':It->Hp->Prop):Prop|mk (Φ0:Hp) (H0:Hp) (Φ:Hp) (τ:St) (ρ:ak) (κ:ak) (R:List D->ak->Prop) (Rx:XD->ak->Prop) (_:StM K X Φ0 H0 Φ H σ τ ρ κ Rx) (_:t ρ R Rx) (_:∀ds ρ' Φ' H' J,R ds ρ'->StM K X Φ0 H0 Φ' H' σ τ ρ' κ Rx->Same Φ Φ'->SteadyD K J Φ' ds->R' J H')
structure PIM(K:Â)(X:Cx)(tg e:Ã)(t:iV):Prop where pi:X.K=K->PI X tg e (lIM K X t)
noncomputable def iD(t:aM):iV:=λρ R _=>t (dI ρ) λds=>R ds ρ
def fw{j:Ã}{t:aM}(h:PID K X j e t):PIM K X j e (iD t):=⟨λy=>(h.pi y).imp λE H A w=>by
 let⟨z,v,Φ,F,ρ,C,R,B,Q,t,k⟩:=w
 show⟨v,Φ,dI ρ,_,Q.env.toD,t,λds c p J r g x=>k ds ρ c p J r (Q.gr g) g.f x⟩⟩
noncomputable def BX(t:db):iV:=λρ R g=>t ρ (xaD λds c=>match ds with| [.int j]=>(-(2^62)<=j/\j<2^62)/\R (cA 0 j.toNat) c|_=>False) g
def sx{N:Ã}{y:db}{p:Ö}(I:Gl X "range")(J:X.mg "range"=ŗ)(G:PXA K X [a] y)(L:starEach [a] X.env=[(Ś,eval a X.env)]:=by rfl):PIM K X N (.Call (.Name "range" p) [a] [] f) (BX y):=
 ⟨λF=>(rY I J (G.pa F) L).imp λa_ H Q B=>by
  let⟨g,z,Φ,P,ρ,O,R,C,be,t,k⟩:=B;refine⟨g,z,Φ,P,ρ,O,_,C,be,t,λas w h A vs U c T M x E=>?_⟩;let⟨ds,hd,c⟩:=c.get;have rl:=x.vals be.lk hd M
  match ds,c,rl with
  | [.int j],r,rl=>
   let⟨v,rfl,c⟩:=rl.one_inv;obtain rfl:=c.i
   show⟨j,S,r.1.1,r.1.2,k _ w h A _ r.2 (x.pop be.lk) E rB⟩⟩
def XeOk.join{j v H p:Hp}{A:XD->ak->Prop}(x:XeOk K X j v A)(g:Gr j v p H):XeOk K X p v A:=λE y w B z e C c r g' V h=>x E y w B z e C c r (g.join g') V h
inductive ForM(gd:fP)(tb:bC)(De:EndsM)(ds:List D)(ρ0:ak):Prop|mk (I:Nat->ak->Prop) (_:I 0 ρ0) (_:∀(i:Nat)(d:D)(ρ':ak),ds[i]?=Z d->I i ρ'->gd d ρ' λρ2=>tb { De with nx:=I (i+1),ct:=I (i+1),bk:=De.nx } ρ2) (_:∀ρ',I ds.length ρ'->De.nx ρ')
noncomputable def Bl(j:iV)(h:fP)(tb:bC):bC:=λg ρ=>j ρ (λds c=>ForM h tb g ds c) g.ex
def e9{tg z:Ã}{F:Y Ç}{ti:iV}{gd:fP}{tb:bC}(hp:ø (Ä X.prog X.w) X.A X.env X.xe)(hc:X.calm=ř)(hi:PIM K X tg z ti)(hg:PGM K X tg gd)(hb:PSsM K X F tb)
  (hs:∀x,Ì z X.env x=pure x:=by intro _;rfl):PSM K X (.For tg z F [] f) (Bl ti gd tb):=
 ⟨λhK=>(vS hp hc (hi.pi hK) (hg.pg hK) (hb.ps hK) hs).imp λE σ H Nx=>by
  let⟨N,L,Φ,ρ,De,g,V,t,k⟩:=Nx;refine⟨N,L,Φ,[],ρ,[],_,De.ex,de g V k.ex,t,λds ρ0 O H1 J NR S1 _ Sd=>?_⟩;let⟨I,h0,Ob,ON⟩:=NR;refine⟨λi m σ G=>m=ds.length-i/\i<=ds.length/\∃c h,Gr N L c G/\Same O c/\EnvM K L c G σ h/\I i h,⟨ds.length,by simp,KU _,O,ρ0,S1.g,Same.refl _,S1.env,h0⟩,?_⟩;rintro i m σ' G ⟨rfl,hi,c,h,g',T,be,hI⟩;by_cases b_:i<ds.length
  ·refine .inr ⟨Sd.go i G (T.trans be.fz) b_,λa_ Q=>∃c h,Gr N L c Q/\Same O c/\EnvM K L c Q a_ h/\I (i+1) h,λa_ Q h2=>⟨ds.length-(i+1),(),S,b_,h2⟩,λx Q y=>?_⟩;let⟨P,B,rx⟩:=Sd.yl i c G x Q _ T be.fz (bE b_) y;refine⟨L,P,h,_,_,be.gr B,rx,Ob i _ h (bE b_) hI,λρ2 σ3 t2 V3=>?_⟩;refine⟨P,L,P,ρ2,_,?_,V3,t2,⟨?_,?_,?_,?_,k.ex.join (g'.trans B)⟩⟩
   ·show⟨Same.refl _,(g'.trans B).h,B.s,λp u hp hn _=>hn⟩
   ·intro w j R A U C M;show⟨j,w,(g'.trans B).join C,(T.trans B.f).trans C.f,M,U⟩
   ·intro sm w j R v A r C M;show k.rt sm w j R v A r ((g'.trans B).join C) M
   ·intro w j R A U C M;show k.nx w j R A U ((g'.trans B).join C) M
   ·intro w j R A U C M;show⟨j,w,(g'.trans B).join C,(T.trans B.f).trans C.f,M,U⟩
  ·have e:i=ds.length:=by omega
   subst e
   show .inl ⟨Sd.stop G (T.trans be.fz),k.nx h c G σ' (ON h hI) g' be⟩⟩
end
noncomputable def aK:Y Sm->Y Addr->ak
 | [],_=>[]
 |.v d::as,ps=>Z (.v d)::aK as ps
 |.ob _ o::as,p::ps=>Z (.ob (Z p) o)::aK as ps
 |.ob _ _::as,[]=>ŗ::aK as []
noncomputable def gR(N:Y Str)(as:Y Sm)(ps:Y Addr):ak:=aK as ps++List.replicate (N.length-as.length) ŗ
noncomputable def aT:Y Str->Y Sm->Y Addr->ak
 | [],as,ps=>aK as ps
 |_::N,[],ps=>ŗ::aT N [] ps
 |_::N,.v d::as,ps=>Z (.v d)::aT N as ps
 |_::N,.ob _ o::as,p::ps=>Z (.ob (Z p) o)::aT N as ps
 |_::N,.ob _ _::as,[]=>ŗ::aT N as []
def kn:∀(N:Y Str)(as:Y Sm)(ps:Y Addr),gR N as ps=aT N as ps
 | [],as,ps=>by unfold gR;rw[KC,Nat.zero_sub,List.replicate_zero,JM];rfl
 |n::N,[],ps=>by
  have:=kn N [] ps;unfold gR at this ⊢;change List.replicate (N.length+1-0) ŗ=ŗ::aT N [] ps;rw[←this];rfl
 |n::N,.v d::as,ps=>by have:=kn N as ps;unfold gR at this ⊢;rw[Jp,Jp,Mj];show JY (Z (Sm.v d)::·) this
 |n::N,.ob a o::as,p::ps=>by have:=kn N as ps;unfold gR at this ⊢;rw[Jp,Jp,Mj];show JY (Z (Sm.ob (Z p) o)::·) this
 |n::N,.ob _ _::as,[]=>by have:=kn N as [];unfold gR at this ⊢;rw[Jp,Jp,Mj];show JY (ŗ::·) this
noncomputable def jm(k:Y Om->Prop):Y Sm->Y Addr->Nat->ak->Prop
 | [],_,_,_=>k []
 |.v _::as,ps,i,ρ=>jm k as ps (i+1) ρ
 |.ob _ _::as,p::ps,i,ρ=>∃o,ρ[i]?=Z (Z (.ob (Z p) o))/\jm (λos=>k (o::os)) as ps (i+1) ρ
 |.ob _ _::_,[],_,_=>False
noncomputable def nu:Y Sm->Nat
 | []=>0
 |.v _::as=>nu as
 |.ob _ _::as=>nu as+1
noncomputable def fX:Y Sm->Y V->Y Addr
 |.v _::as,_::vs=>fX as vs
 |.ob _ _::as,.ref p::vs=>p::fX as vs
 |_,_=>[]
section
variable{K:Â}{Φ H f l g:Hp}
def FV:∀{as:Y Sm}{vs:Y V}{c:Y (Y Addr)},ArgM K Φ H as vs c->(fX as vs).length=nu as:=by
 intro as vs c h
 induction h with
 |nil=>rfl
 |v _ _ a=>show a
 |o _ _ a=>show JY (·+1) a
def oK:∀{as:Y Sm}{ps:Y Addr},(aK as ps).length=as.length
 | [],_=>rfl
 |.v d::as,ps=>by change (aK as ps).length+1=_;rw[oK];rfl
 |.ob _ o::as,p::ps=>by change (aK as ps).length+1=_;rw[oK];rfl
 |.ob _ _::as,[]=>by change (aK as []).length+1=_;rw[oK];rfl
def lz:∀{as:Y Sm}{vs:Y V}{a:Y (Y Addr)},ArgM K Φ H as vs a->∀{i:Nat}{x:Sm},(aK as (fX as vs))[i]?=Z (Z x)->
  (∃d v,x=.v d/\vs[i]?=Z v/\Rp K Φ d v)\/∃o p F,x=.ob (Z p) o/\vs[i]?=Z (.ref p)/\a[i]?=Z F/\OmS K Φ H o p F:=by
 intro as vs a h
 induction h with
 |nil=>intro i x h;simp[aK]at h
 | @v d _ _ _ _ r t c=>
  intro i x h
  cases i with
  |zero=>cases h;show .inl ⟨d,_,S,S,r⟩
  |succ i=>show c (i:=i) h
 | @o _ o p F _ _ _ r t c=>
  intro i x h
  cases i with
  |zero=>cases h;show .inr ⟨o,p,F,S,S,S,r⟩
  |succ i=>show c (i:=i) h
def wf:∀{a:Y (Y Addr)},a.flatten.Nodup->∀{i j:Nat}{F G:Y Addr},a[i]?=Z F->a[j]?=Z G->i≠j->∀b∈F,b∉G
 | [],_,i,j,F,G,h,_,_,_,_=>by simp at h
 |L::a,nd,i,j,F,G,hi,r,c,b,p=>by
  let⟨n1,n2,n3⟩:=Kn.mp (show (L++a.flatten).Nodup from nd);intro o
  cases i with
  |zero=>
   cases hi
   cases j with
   |zero=>show c S
   |succ j=>show n3 b p b (MX.mpr ⟨G,Je (i:=j) (by simpa using r),o⟩) S
  |succ i=>
   cases j with
   |zero=>
    cases r;show n3 b o b (MX.mpr ⟨F,Je (i:=i) (by simpa using hi),p⟩) S
   |succ j=>show wf n2 (by simpa using hi) (by simpa using r) (λe=>c (by rw[e])) b p o
def xZ{N:Y Str}{as:Y Sm}{vs:Y V}{u:Y (Y Addr)}(sm:Same Φ H)(tb:TabF K Φ)(w:ArgM K Φ H as vs u)(nd:u.flatten.Nodup)(L:∀b∈u.flatten,Φ b=ŗ):EnvM K (b8 H u.flatten) Φ H (eK N vs) (gR N as (fX as vs)):=by
 have y:∀{i:Nat}{x:Sm},(gR N as (fX as vs))[i]?=Z (Z x)->(aK as (fX as vs))[i]?=Z (Z x):=λ{i x} h=>by
  unfold gR at h;rcases JW i (aK as (fX as vs)).length with c|c
  ·rwa [I0 c]at h
  ·rw[IZ c,Kq]at h;split at h<;>cases h
 have I:∀{i:Nat}{v:V},vs[i]?=Z v->(eK N vs)[i]?=Z (Z v):=λ{i v} h=>by unfold eK;rw[I0 (by rw[IY];show aA h),Jm,h];rfl
 let⟨M,Q⟩:=w.len;refine⟨λi=>u.getD i [],sm,by unfold eK gR;rw[Ja,Ja,IY,JI,JI,oK,M],λi d h=>?_,λi a o h=>?_,λi a o h b B=>?_,λi j a a' o o' hi J c b B=>?_,tb⟩
 ·rcases lz w (y h)with⟨d',v,e,C,r⟩|⟨o,p,F,e,_⟩
  ·cases e;show⟨v,I C,r⟩
  ·cases e
 ·rcases lz w (y h)with⟨d',v,e,C,r⟩|⟨o',p,F,e,C,E,r⟩
  ·cases e
  ·cases e;refine⟨p,I C,(λq e=>by cases e;rfl),?_⟩;rw[Jl,E];show r
 ·rcases lz w (y h)with⟨d',v,e,_⟩|⟨o',p,F,e,C,E,r⟩
  ·cases e
  ·rw[Jl,E]at B;have G:b∈u.flatten:=MX.mpr ⟨F,Je E,B⟩;show⟨uR G,L b G⟩
 ·rcases lz w (y hi)with⟨d',v,e,_⟩|⟨R,T,O,e,_,z,_⟩
  ·cases e
  ·rcases lz w (y J)with⟨d',v,e,_⟩|⟨a_,U,P,e,_,A,_⟩
   ·cases e
   ·rw[Jl,z]at B;rw[Jl,A];show wf nd z A c b B
def y8{x:Nat->Y Addr}{U:St}{ρ:ak}{k:Y Om->Prop}(E:EnvM' K g f l U ρ x):∀{as:Y Sm}{vs:Y V}{C:Y (Y Addr)}{i:Nat}{k:Y Om->Prop},ArgM K Φ H as vs C->jm k as (fX as vs) i ρ->
  ∃os w,OutM K f l as vs os w/\k os/\w.flatten.Nodup/\(∀b∈w.flatten,g b=ŗ/\f b=ŗ)/\∀b∈w.flatten,∃j a o,i<=j/\j<i+as.length/\ρ[j]?=Z (Z (.ob a o))/\b∈x j:=by
 intro as vs C i k h
 induction h generalizing i k with
 |nil=>show λh=>⟨[],[],.nil,h,by simp,λb u=>(by cases u),λb u=>(by cases u)⟩
 |v r t M=>
  intro h;let⟨os,w,G,I,J,L,A⟩:=M (k:=k) (i:=i+1) h;refine⟨os,[]::w,.v G,I,by simpa using J,λb u=>L b (by simpa using u),λb u=>?_⟩;let⟨j,a,o,N,O,y⟩:=A b (by simpa using u);show⟨j,a,o,(),by rw[Jp];omega,y⟩
 | @o _ T p F as vs C r t M=>
  intro h;let⟨o',B,h⟩:=(show ∃o,ρ[i]?=Z (Z (.ob (Z p) o))/\jm (λos=>k (o::os)) as (fX as vs) (i+1) ρ from h);let⟨os,w,G,I,J,L,A⟩:=M (k:=λos=>k (o'::os)) (i:=i+1) h;let⟨q,e,P,rr⟩:=E.ow i _ o' B;cases P p S;refine⟨o'::os,x i::w,.o rr G,I,?_,λb u=>?_,λb u=>?_⟩
  ·refine Kn.mpr ⟨rr.nodup,J,λb u c Q e=>?_⟩;subst e;let⟨j,a,o,N,O,y,R⟩:=A b Q;show E.dj i j _ a o' o B y () b u R
  ·rcases JH.mp (show b∈x i++w.flatten from u)with z|z
   ·show E.no i _ o' B b z
   ·show L b z
  ·rcases JH.mp (show b∈x i++w.flatten from u)with z|z
   ·show⟨i,_,o',Jg _,by rw[Jp];omega,B,z⟩
   ·let⟨j,a,o,N,O,y⟩:=A b z;show⟨j,a,o,(),by rw[Jp];omega,y⟩
end
section
variable{P:Å}{w:È}{K:Â}{mg:Str->Ř Value}{base:Heap}
def Fun.okM{x qual:Str}{st:Ç}{f:Addr}{b_:Í}{N ps:Y Str}{k:Nat}{sp:dW}(F:Fun K x qual st f b_)(be:FnScope N ps (av st))(len:∀as R C,sp as R C->as.length=ps.length)
  (Ov:∀(L:Value)(A:Ê)(outer:Y ë)(s:À)(H:Hp)(E:XK)(as:Y Sm)(R:Sm->Y Om->Prop)(C:XD->Y Om->Prop)(a_:Y Addr),b_.code=L->Room k (A.deeper (ê qual (av st) s.heap.objs.size f L))->sp as R C->a_.length=nu as->
   ∃t,PSsM K (iz aE P w K mg base N qual (av st) f L A outer s H E).nox (fZ st) t/\let ke:EndsM:={ nx:=λρ=>jm (R (.v .non)) as a_ 0 ρ,rt:=λsm ρ=>jm (R sm) as a_ 0 ρ };t ke (aT N as a_)):FnOk P w K mg base aE (k+1) f b_ ps (lSpM K sp):=by
 refine F.okL be (λvs H Q E ⟨Φ,as,J,R,C,sm,tb,O,nd,hn,h,_⟩=>by rw[O.len.1];show len as R C h) (λL A outer s H vs Q E NI hr ⟨Φ,as,J,R,C,sm,tb,O,nd,hn,h,kk⟩=>?_);let⟨t,ht,hq⟩:=Ov L A outer s H E as R C (fX as vs) NI hr h (FV O);dsimp only at hq;rw[←kn]at hq;have al:=len as R C h
 have nl:ps.length<=N.length:=by have:=JY List.length be.pre;rw[Kb]at this;omega
 have M:∀sm l p B v y,jm (R sm) as (fX as vs) 0 l->Gr Φ (b8 H J.flatten) p B->EnvM K (b8 H J.flatten) p B (y++[Z v]) (l++[Z sm])->Q v B:=λI l p B v y hk g V=>by
  let⟨fp,G⟩:=V
  have hl:y.length=l.length:=by have:=G.len;simpa using this
  let⟨os,N8,h1,h2,h3,h4,h5⟩:=y8 (k:=R I) (G.take hl.symm) O hk
  have X:(l++[Z I])[l.length]?=Z (Z I):=by rw[IZ (Jg _),JL];rfl
  cases I with
  |v d=>
   let⟨u,U,r⟩:=G.sl _ d X;rw[←hl,IZ (Jg _),JL]at U;cases U;show kk (.v d) os p B v [] N8 h2 g (.v r) h1 (by simpa using h3) (λb T=>h4 b (by simpa using T))
  |ob a o=>
   let⟨u,U,hau,r⟩:=G.ow _ a o X;rw[←hl,IZ (Jg _),JL]at U;cases U;refine kk (.ob a o) os p B _ (fp l.length) N8 h2 g (.o hau r) h1 ?_ λb T=>?_
   ·refine Kn.mpr ⟨r.nodup,h3,λb T c hc e=>?_⟩;subst e;let⟨j,a2,o2,_,_,j3,j4⟩:=h5 b hc;have hj:=aA j3;show G.dj _ j a a2 o o2 X (by rw[I0 hj];show j3) () b T j4
   ·rcases JH.mp T with z|z
    ·show G.no _ a o X b z
    ·show h4 b z
 have g0:Gr Φ (b8 H J.flatten) Φ H:=⟨Same.refl _,A9,sm,λ_ _ _ h _=>h⟩;refine⟨lM K _ t,ht.ps S,Φ,b8 H J.flatten,Φ,_,_,g0,xZ sm tb O nd hn,hq,⟨λl p B y r g V=>?_,λI l p B v y r g V=>M I l p B v y r g V,λ_ _ _ _ h=>h.elim,λ_ _ _ _ h=>h.elim,λ_ _ _ _ _ _ _ _ h=>h.elim⟩⟩;show M (.v .non) l p B .non y r g (V.snocV .non)
def Fun.clM{x:Str}{st:Ç}{f:Addr}{a:Í}{ps:Y Str}{n:Nat}{z:dW}(F:Fun K x x st f a)(m:mg x=Z (.ref f))(H:FnOk P w K mg base aE n f a ps (lSpM K z))
  (b:rD st x x ps:=by intro _ _ _ _ _ _;first|show qU λ_=>rfl|show qw λ_ _=>rfl|show qY λ_ _ _=>rfl|show qH λ_ _ _ _=>rfl|show us_0 S|show us_5 λ_ _ _ _ _=>rfl|show us_6 λ_ _ _ _ _ _=>rfl|show us_7 λ_ _ _ _ _ _ _=>rfl|show us_8 λ_ _ _ _ _ _ _ _=>rfl):ClM P w K mg base n x ps z:=⟨f,a,H,F.binds b,F.kp,m⟩
def ClM.mono{n m:Nat}{x:Str}{ps:Y Str}{z:dW}(C:ClM P w K mg base n x ps z)(k:n<=m:=by decide):ClM P w K mg base m x ps z:=by let⟨f,a,F,r⟩:=C.ex;show⟨f,a,F.mono k,r⟩
end
section
variable{K:Â}{X:Cx}{e a b:Ã}{A G:TX}{B l C y I:Ö}{x:Str}{i:Nat}
noncomputable def ownL(ρ:ak)(i:Nat)(k:Ř Addr->Y D->Prop):Prop:=match ρ[i]? with|some (Z (.ob a (.lst ds)))=>k a ds|_=>False
def ownL.get{ρ:ak}{i:Nat}{k:Ř Addr->Y D->Prop}(h:ownL ρ i k):∃a ds,ρ[i]?=Z (Z (.ob a (.lst ds)))/\k a ds:=by
 unfold ownL at h;split at h
 ·next a ds e=>show⟨a,ds,e,h⟩
 ·show h.elim
def StM.list{c j Φ H:Hp}{h v:St}{ρ u:ak}{o:XD->ak->Prop}{a:Ř Addr}{ds:Y D}(Q:StM K X c j Φ H h v ρ u o)(hi:ρ[i]?=Z (Z (.ob a (.lst ds)))):∃q vs,h[i]?=Z (Z (.ref q))/\H q=Z (.lst vs)/\RpL K Φ ds vs /\
  ∀(es:Y D)(f:Y V),RpL K Φ es f->StM K X c j Φ (ao H q (.lst f)) h v (ρ.set i (Z (.ob a (.lst es)))) u o:=by
 have g:=aA hi;let⟨q,vs,e,w,J,L,z,E⟩:=Q.E.list (i:=i) (a:=a) (ds:=ds) Q.g (by rw[I0 g];show hi);rw[I0 (by rw[←Q.l];show g)]at e;refine⟨q,vs,e,w,z,λes f r=>?_⟩;let⟨p,F⟩:=E es f r;refine⟨F,by rw[Jc];show Q.l,?_,Q.x⟩;rw[KY _ _ g]at p;show p
noncomputable def HJ(i:Nat)(A:TX):bC:=λf ρ=>ownL ρ i λ_ _=>A ρ (xV λd c=>ownL c i λa ds=>ds.length<sizeLine/\NF (ds++[d]) λes=>f.nx (c.set i (Z (.ob a (.lst es))))) f.ex
def gG(i:Nat)(a_:PX K X e A)(O:((backTo C (starEach [e] X.env)).all (λx=>!x.1)&&(Þ C (Ô [] X.env)).all (λx=>x.1.isSome)&&decide (([e]:Y Ã).length+([]:Y Ù).length+(if ([]:Y Ù).isEmpty then 0 else 1)<30))=ř)
  (h:starEach [e] X.env=(Ś,eval e X.env)::starEach [] X.env) (U:X.N[i]?=Z x:=by rfl) (hv:cH X.env.scope x:=by nofun) (hd:ab x:=by decide) (J:fI x:=by decide)
  (L:Ë (.Name x y) "append" X.env (eval (.Name x y) X.env)=eval (.Name x y) X.env:=by rfl) (M:(l.endLine==C.line)=ř:=by rfl) (hs:Î (.Call (.Attribute (.Name x y) "append" l) [e] [] C) ŗ B.line X.env=pure Ś:=by rfl) :
  PSM K X (.Expr (.Call (.Attribute (.Name x y) "append" l) [e] [] C) B) (HJ i A):=
 ⟨λT=>(jQ (j7 KJ LY LZ oy (pv i U hv hd J) (eM (a_.pe T) pa_nil h) L O M h ae) hs).imp λE σ H N=>by
  let⟨c,F,Φ,ρ,z,g,V,t,k⟩:=N;let⟨a,ds,ho,t⟩:=ownL.get t;have be:=de g V k.ex;let⟨q,vs,u,hp,rl,_⟩:=be.list ho;refine⟨_,u,.inl ⟨S,vs,SqL.of hp⟩,c,F,Φ,[],ρ,[],_,z.ex,be,t,λs ρ1 f H1 v r o _=>?_⟩;let⟨d,rfl,r⟩:=r.get;let⟨a1,Ud,Q,b_,r⟩:=ownL.get r;let⟨q1,R,w,P,j,k1⟩:=o.list Q;rw[u]at w;cases w;have p:=k1 _ _ (j.append (.one o.last))
  show⟨q,R,v,S,S,P,by rw[j.1];show b_,k.nx _ f _ σ r.get p.g p.env⟩⟩
def RpL.eraseIdx{Φ:Hp}{ds:Y D}{vs:Y V}(h:RpL K Φ ds vs)(j:Nat):RpL K Φ (ds.eraseIdx j) (vs.eraseIdx j):=by rw[Mn,Mn];show (h.take j).append (h.drop (j+1))
def CH{j n:Nat}(h:j<n):ă (j:Int) n=Z j:=by unfold ă;simp;omega
noncomputable def Er(i:Nat)(A G:TX):bC:=λg ρ=>A ρ (xV λd c=>ownL c i λ_ _=>G c (xV λh f=>match h with|.int n=>ownL f i λa ds=>∃j,gu ds.length n=Z j/\NF (ds.set j d) λes=>g.nx (f.set i (Z (.ob a (.lst es))))|_=>False) g.ex) g.ex
def j8(i:Nat)(he:PX K X e A)(hk:PX K X b G)(hN:X.N[i]?=Z x:=by rfl)(hv:cH X.env.scope x:=by nofun)(hd:ab x:=by decide)(Q:fI x:=by decide)
  (ha:∀v,assign (.Subscript (.Name x y) b I) X.env v=(do
   let ov ←holding [v] (eval (.Name x y) X.env)
   let iv ←holding [v,ov] (eval b X.env)
   standAt I
   holding [v,ov,iv] (setItem ov iv v)
   release [v,ov,iv] []):=by intro _;rfl)
  (hs:è [.Subscript (.Name x y) b I] e B.line X.env=pure Ś:=by rfl) (hw:é [.Subscript (.Name x y) b I] e X.env=pure ŗ:=by rfl)
  (b_:(Æ [.Subscript (.Name x y) b I] X.env).map (·.2)=[assign (.Subscript (.Name x y) b I) X.env]:=by rfl) :
  PSM K X (.Assign [.Subscript (.Name x y) b I] e B) (Er i A G):=
 ⟨λP=>(mG (he.pe P) (tE (pv i hN hv hd Q) (hk.pe P) rO ha) hs hw b_).imp λE σ H R=>by
  let⟨f,z,Φ,ρ,u,g,V,t,k⟩:=R;refine⟨f,z,Φ,[],ρ,[],_,u.ex,de g V k.ex,t,λs p h H1 v r F _=>?_⟩;let⟨d,rfl,r⟩:=r.get;let⟨a1,Ud,U,r⟩:=ownL.get r;let⟨q,vs,N,_⟩:=F.list U;refine⟨_,N,f,z,h,_,p,_,_,u.ex,F,r,λs2 ρ2 o H2 w c J _=>?_⟩;let⟨kk,rfl,c⟩:=c.get;let⟨rd,rk⟩:=J.last2;let⟨n,rfl,c⟩:=jc c;obtain rfl:=rk.i;let⟨a2,Ue,be,j,hj,c⟩:=ownL.get c;let⟨q2,a_,O,T,M,k2⟩:=J.list be;rw[N]at O;cases O;have L:=k2 _ _ (M.set rd j)
  show⟨q,a_,n,j,S,S,T,by rw[M.1];show hj,k.nx _ o _ σ c.get L.g L.env⟩⟩
noncomputable def Gx(i:Nat)(f:Int->Int->Int)(G A:TX):bC:=λh ρ=>(ownL ρ i λ_ _=>True)/\G ρ (xV λp c=>match p with|.int n=>ownL c i λa ds=>∃(j:Nat)(v:Int),n=(j:Int)/\ds[j]?=Z (.int v)/\A c (xV λd g=>match d with|.int m=>ownL g i λa2 o=>j<o.length/\NF (o.set j (.int (f v m))) λes=>h.nx (g.set i (Z (.ob a2 (.lst es))))|_=>False) h.ex|_=>False) h.ex
def EG{op:ÿ}{f:Int->Int->Int}(i:Nat)(O:rK X op (sB f))(hk:PX K X b G)(he:PX K X e A)(hN:X.N[i]?=Z x:=by rfl)(hv:cH X.env.scope x:=by nofun)(hd:ab x:=by decide)(NI:fI x:=by decide)
  (ha:∀r p new,augStore b r p new=(do holding [new,r,p] (setItem r p new);release [new,r,p] [];pure .next):=by intros;rfl) :
  PSM K X (.AugAssign (.Subscript (.Name x y) b I) op e B) (Gx i f G A):=
 ⟨λL=>(FM (pv i hN hv hd NI) (hk.pe L) (yS L) (he.pe L) O rO ha).imp λE σ H Nx=>by
  let⟨o,U,Φ,ρ,T,g,V,⟨N,t⟩,k⟩:=Nx;let⟨a,ds,N,_⟩:=ownL.get N;have be:=de g V k.ex;let⟨q,vs,J,hp,rl,_⟩:=be.list N;refine⟨_,J,o,U,Φ,[],ρ,[],_,T.ex,be,t,λs1 R P H1 w c F _=>?_⟩;let⟨kk,rfl,c⟩:=c.get;have rk:=F.last;let⟨n,rfl,c⟩:=jc c;obtain rfl:=rk.i;let⟨a1,Ud,Qx,j,v,rfl,hj,c⟩:=ownL.get c;let⟨q1,SR,e2,OI,RV,_⟩:=F.list Qx;rw[J]at e2;cases e2;let⟨u,hu,ru⟩:=RV.at hj;obtain rfl:=ru.i;refine⟨q,SR,_,j,_,S,S,.of OI,S,hu,o,U,P,_,R,_,_,T.ex,F,c,λs2 ρ2 Q H2 z h a_ _=>?_⟩;let⟨d,rfl,h⟩:=h.get;have rd:=a_.last;let⟨m,rfl,h⟩:=jc h;obtain rfl:=rd.i;let⟨a2,Ue,OL,M,h⟩:=ownL.get h;let⟨q2,Vf,e3,OX,SU,k2⟩:=a_.list OL;rw[J]at e3;cases e3;have b_:=k2 _ _ (SU.set (.int (f v m)) j)
  show⟨v,m,S,S,q,Vf,_,j,S,S,OX,eO (by rw[SU.1];show M),k.nx _ Q _ σ h.get b_.g b_.env⟩⟩
noncomputable def HG(i:Nat)(A:TX):bC:=λf ρ=>ownL ρ i λ_ _=>A ρ (λs c=>match s with|.ob _ (.lst zs)=>ownL c i λa ds=>ds.length+zs.length<=sizeLine/\NF (ds++zs) λes=>f.nx (c.set i (Z (.ob a (.lst es))))|.v (.lst zs)=>ownL c i λa ds=>ds.length+zs.length<=sizeLine/\NF (ds++zs) λes=>f.nx (c.set i (Z (.ob a (.lst es))))|_=>False) f.ex
def Hk(i:Nat)(he:PX K X e A)(OA:((backTo C (starEach [e] X.env)).all (λx=>!x.1)&&(Þ C (Ô [] X.env)).all (λx=>x.1.isSome)&&decide (([e]:Y Ã).length+([]:Y Ù).length+(if ([]:Y Ù).isEmpty then 0 else 1)<30))=ř)
  (O:starEach [e] X.env=(Ś,eval e X.env)::starEach [] X.env) (hN:X.N[i]?=Z x:=by rfl) (hv:cH X.env.scope x:=by nofun) (hd:ab x:=by decide) (NI:fI x:=by decide)
  (NY:Ë (.Name x y) "extend" X.env (eval (.Name x y) X.env)=eval (.Name x y) X.env:=by rfl) (NZ:(l.endLine==C.line)=ř:=by rfl) (hs:Î (.Call (.Attribute (.Name x y) "extend" l) [e] [] C) ŗ B.line X.env=pure Ś:=by rfl) :
  PSM K X (.Expr (.Call (.Attribute (.Name x y) "extend" l) [e] [] C) B) (HG i A):=
 ⟨λhK=>(jQ (j7 KJ PySem.F.slot_list_extend PySem.F.type_list_extend E7 (pv i hN hv hd NI) (eM (he.pe hK) pa_nil O) NY OA NZ O ae) hs).imp λE b_ H Nx=>by
  let⟨L,H0,Φ,ρ,M,g,V,t,k⟩:=Nx;let⟨a,ds,ho,t⟩:=ownL.get t;have be:=de g V k.ex;let⟨q,vs,T,hp,rl,_⟩:=be.list ho;refine⟨_,T,.inl ⟨S,vs,SqL.of hp⟩,L,H0,Φ,[],ρ,[],_,M.ex,be,t,λs f w N v r h _=>?_⟩
  have j:∀{c:Y D}{u:Y L2.V}{p:Addr},v=.ref p->N p=Z (.lst u)->RpL K w c u->(ownL f i λa ds=>ds.length+c.length<=sizeLine/\NF (ds++c) λes=>M.nx (f.set i (Z (.ob a (.lst es)))))->r6 (.ref q) [v] N λx H'=>E.nx b_ H':=λ{c u p} ev J a_ r=>by
   let⟨a1,Ud,Qx,hl,r⟩:=ownL.get r;let⟨q1,SR,U,OI,P,k1⟩:=h.list Qx;rw[T]at U;cases U;have Q:=k1 _ _ (P.append a_);show⟨q,p,SR,u,S,by rw[ev],OI,J,by rw[P.1,a_.1];show hl,k.nx _ w _ b_ r.get Q.g Q.env⟩
  cases s with
  |v d=>
   have rd:=h.last
   cases d with
   |lst c=>cases rd with|lst z F h3=>show j S (h.g.s _ _ z) ⟨F,h3⟩ r
   |_=>show r.elim
  |ob a0 o=>
   cases o with
   |lst c=>
    let⟨fp,E1⟩:=h.E;let⟨p,R,_,rr⟩:=E1.ow f.length a0 (.lst c) (by rw[IZ (Jg _),JL];rfl);rw[h.l,IZ (Jg _),JL]at R;cases R;let⟨_,u,z,F⟩:=rr.lst_inv;show j S z F r
   |_=>show r.elim⟩
noncomputable def aZ:Ř Sm->Ř Sm
 |some (.ob ŗ (.lst ds))=>Z (.v (.lst ds))
 |some (.ob ŗ (.map c))=>Z (.v (.map c))
 |x=>x
noncomputable def aU:Nat->ak->ak
 |_,[]=>[]
 |0,x::ρ=>aZ x::ρ
 |i+1,x::ρ=>x::aU i ρ
def tM:∀(i:Nat)(ρ:ak),aU i ρ=(match ρ[i]? with
  |some (Z (.ob ŗ (.lst ds)))=>ρ.set i (Z (.v (.lst ds)))
  |some (Z (.ob ŗ (.map c)))=>ρ.set i (Z (.v (.map c)))
  |_=>ρ)
 |0,[]=>rfl
 |_+1,[]=>rfl
 |0,Z (.ob ŗ (.lst _))::_=>rfl
 |0,Z (.ob ŗ (.map _))::_=>rfl
 |0,Z (.ob ŗ (.mpT _))::_=>rfl
 |0,Z (.ob ŗ (.obj _ _))::_=>rfl
 |0,Z (.ob ŗ .ptr)::_=>rfl
 |0,Z (.ob ŗ (.tl _))::_=>rfl
 |0,Z (.ob ŗ (.pr _ _))::_=>rfl
 |0,Z (.ob (Z _) _)::_=>rfl
 |0,Z (.v _)::_=>rfl
 |0,ŗ::_=>rfl
 |i+1,x::ρ=>by
  change x::aU i ρ=_;rw[tM i ρ,M4]
  match ρ[i]? with
  |some (Z (.ob ŗ (.lst _)))=>rfl
  |some (Z (.ob ŗ (.map _)))=>rfl
  |some (Z (.ob ŗ (.mpT _)))=>rfl
  |some (Z (.ob ŗ (.obj _ _)))=>rfl
  |some (Z (.ob ŗ .ptr))=>rfl
  |some (Z (.ob ŗ (.tl _)))=>rfl
  |some (Z (.ob ŗ (.pr _ _)))=>rfl
  |some (Z (.ob (Z _) _))=>rfl
  |some (Z (.v _))=>rfl
  |some ŗ=>rfl
  |none=>rfl
def Rp.map_of{Φ:Hp}{g:Y (ay×D)}{j:Y (ay×V)}{p:Addr}(h:Φ p=Z (.dK j))(r:Paired (fW K Φ) g j):Rp K Φ (.map g) (.ref p):=by
 refine .map h ?_ ?_
 ·clear h
  induction r with
  |nil=>rfl
  |cons q _ f=>rw[JB,JB,f,q.1]
 ·clear h
  induction r with
  |nil=>intro i w d c;simp at c
  |cons q _ f=>
   intro i w d c hd
   cases i with
   |zero=>cases c;cases hd;show q.2
   |succ i=>show f i w d c hd
def EnvM.frz1f{N O Φ H:Hp}{a_:St}{ρ:ak}{o:Om}{P:D}(E:EnvM K O Φ H a_ ρ)(g:Gr N O Φ H){i:Nat}(R:ρ[i]?=Z (Z (.ob ŗ o)))
  (hr:∀p F,OmS K Φ H o p F->∃u,H p=Z u/\∀f,Same Φ f->f p=Z u->Rp K f P (.ref p)) (hs:o.solid=ř:=by rfl):∃f,Gr N O f H/\EnvM K O f H a_ (ρ.set i (Z (.v P)))/\Same Φ f:=by
 let⟨fp,E⟩:=E;let⟨p,e,_,r⟩:=E.ow i ŗ _ R;have U:=r.mem hs;have no:=E.no i ŗ _ R p U;let⟨u,be,h2⟩:=hr p _ r;have M:=c9 no.2 u
 have w:∀{j:Nat}{x:Sm},(ρ.set i (Z (Sm.v P)))[j]?=Z (Z x)->(j=i/\x=.v P)\/(j≠i/\ρ[j]?=Z (Z x)):=λ{j x} h=>by
  rcases cG h with⟨e,_,b_⟩|⟨e,h⟩
  ·cases b_;show .inl ⟨e,S⟩
  ·show .inr ⟨e,h⟩
 refine⟨ao Φ p u,g.freeze no.1 no.2 be,⟨fp,λb u' Q=>?_,by rw[Jc,E.len],λj d h=>?_,λj a o h=>?_,λj a o h b T=>?_,λj k a a' o o' J L c=>?_,E.tb.same M⟩,M⟩
 ·by_cases c:b=p
  ·subst c;rw[bh]at Q;cases Q;show be
  ·rw[aR c]at Q;show E.fz b u' Q
 ·rcases w h with⟨c,h⟩|⟨_,h⟩
  ·cases h;subst c;show⟨_,e,h2 _ M bh⟩
  ·let⟨v,hv,rv⟩:=E.sl j d h;show⟨v,hv,rv.same M⟩
 ·rcases w h with⟨_,h⟩|⟨_,h⟩
  ·cases h
  ·let⟨q,hq,ha,rq⟩:=E.ow j a o h;show⟨q,hq,ha,rq.keep M λ_ _ _ h=>h⟩
 ·rcases w h with⟨_,h⟩|⟨c,h⟩
  ·cases h
  ·have:b≠p:=λz=>E.dj j i a ŗ o _ h R c b T (by rw[z];show U);rw[aR this];show E.no j a o h b T
 ·rcases w J with⟨_,J⟩|⟨_,J⟩
  ·cases J
  rcases w L with⟨_,L⟩|⟨_,L⟩
  ·cases L
  show E.dj j k a a' o o' J L c
def EnvM.frz1{f h Φ H:Hp}{r:St}{ρ:ak}{o:Om}{j:D}(E:EnvM K h Φ H r ρ)(g:Gr f h Φ H){i:Nat}(v:ρ[i]?=Z (Z (.ob ŗ o)))
  (w:∀p F,OmS K Φ H o p F->∃u,H p=Z u/\∀c,Same Φ c->c p=Z u->Rp K c j (.ref p)) (z:o.solid=ř:=by rfl):∃c,Gr f h c H/\EnvM K h c H r (ρ.set i (Z (.v j))):=
 let ⟨c,g',E',_⟩:=E.frz1f g v w z
 ⟨c,g',E'⟩
def EnvM.frz{f j Φ H:Hp}{v:St}{ρ:ak}(E:EnvM K j Φ H v ρ)(g:Gr f j Φ H)(i:Nat):∃c,Gr f j c H/\EnvM K j c H v (aU i ρ):=by
 rw[tM];split
 ·next ds ho=>
  refine E.frz1 g ho λp F r=>?_;let⟨_,vs,o,u⟩:=r.lst_inv;show⟨_,o,λc s h=>(u.same s).lst h⟩
 ·next Nz ho=>
  refine E.frz1 g ho λp F r=>?_;let⟨_,w,o,u⟩:=r.map_inv;show⟨_,o,λc s h=>Rp.map_of h (nU (λ_ _ r=>⟨r.1,r.2.same s⟩) u)⟩
 ·show⟨Φ,g,E⟩
noncomputable def EL(i:Nat)(t:bC):bC:=λc ρ=>t c (aU i ρ)
def jJ{c:Y Ç}{t:bC}(i:Nat)(h:PSsM K X c t):PSsM K X c (EL i t):=⟨λv=>(h.ps v).imp λE w H r=>by
 let⟨j,p,Φ,ρ,o,g,V,t,k⟩:=r;let⟨f,g',u⟩:=V.frz g i
 show⟨j,p,f,aU i ρ,o,g',u,t,k⟩⟩
end
noncomputable def zM(z:cb):dW:=λas R _=>∃ds,as=ds.map Sm.v/\z ds λd=>R (.v d) []
def GE{H:Hp}:b8 H []=H:=funext λb=>Jd (by simp)
def uO{K:Â}{Φ H:Hp}:∀{ds:Y D}{vs:Y V},RpL K Φ ds vs->ArgM K Φ H (ds.map Sm.v) vs (ds.map λ_=>[])
 | [],[],_=>.nil
 | [],_::_,h=>by cases h.1
 |_::_,[],h=>by cases h.1
 |d::ds,v::vs,h=>.v (h.2 0 v d S S) (uO ⟨by have:=h.1;simpa using this,λi u e c a=>h.2 (i+1) u e c a⟩)
def qv{a:Type}:∀(ds:Y a),(ds.map λ_=>([]:Y Addr)).flatten=[]
 | []=>rfl
 |_::ds=>by simp
def mR{K:Â}{z:cb}:∀vs H Q E,lSp K z vs H Q E->lSpM K (zM z) vs H Q E:=λvs H Q E h=>by
 let⟨Φ,ds,R,sm,tb,rl,l,k⟩:=h;refine⟨Φ,ds.map Sm.v,ds.map λ_=>[],λs os=>∃d,s=.v d/\R d,λ_ _=>False,sm,tb,uO rl,by rw[qv];show List.nodup_nil,λb c=>(by rw[qv]at c;cases c),⟨ds,S,?_⟩,λs os a f v F p r g j x w u=>?_⟩
 ·have e:R=λd=>∃d',(Sm.v d:Sm)=.v d'/\R d':=funext λd=>propext ⟨λh=>⟨d,S,h⟩,λ⟨d',e,h⟩=>by cases e;show h⟩;rw[←e];show l
 ·let⟨d,rfl,r⟩:=r
  cases j with
  |v o=>
   rw[qv,GE]at g;show k d a f v r g o
noncomputable def pinned:Ř Sm->Ř Sm
 |some (.v d)=>Z (.v d)
 |some (.ob (Z p) o)=>Z (.ob (Z p) o)
 |_=>ŗ
noncomputable def jP(cap:Y (Ř Nat))(ρ:ak):ak:=cap.map λo=>o.bind λi=>pinned (ρ[i]?).join
noncomputable def iN:Y (Ř Nat)->ak->ak->(ak->Prop)->Prop
 | [],_,ρ,k=>k ρ
 |none::cap,_::ρc,ρ,k=>iN cap ρc ρ k
 |some i::cap,x::ρc,ρ,k=>match ρ[i]? with
  |some (Z (.ob (Z p) _))=>∃o,x=Z (.ob (Z p) o)/\iN cap ρc (setA ρ i o) k
  |_=>iN cap ρc ρ k
 |_::_,[],_,_=>False
noncomputable def gO(cap:Y (Ř Nat)):Y Nat:=cap.filterMap id
def pS{cap:Y (Ř Nat)}{j i:Nat}(h:cap[j]?=Z (Z i)):i∈gO cap:=Lm.mpr ⟨Z i,Je h,S⟩
def mL:∀{cap:Y (Ř Nat)}{ρc ρ:ak}{k:ak->Prop},(gO cap).Nodup->iN cap ρc ρ k->∃g,k g/\g.length=ρ.length/\(∀(i:Nat)(x:Sm),g[i]?=Z (Z x)->(∃(j:Nat)(p:Addr)(a o:Om),cap[j]?=Z (Z i)/\ρ[i]?=Z (Z (.ob (Z p) a))/\ρc[j]?=Z (Z (.ob (Z p) o))/\x=.ob (Z p) o)\/(ρ[i]?=Z (Z x)/\∀(j:Nat)(p:Addr)(a:Om),cap[j]?=Z (Z i)->ρ[i]?≠Z (Z (.ob (Z p) a)))) /\
  ∀(j i:Nat)(p:Addr)(a:Om),cap[j]?=Z (Z i)->ρ[i]?=Z (Z (.ob (Z p) a))->∃o:Om,ρc[j]?=Z (Z (.ob (Z p) o))
 | [],ρc,ρ,k,_,h=>⟨ρ,h,S,λi x L=>.inr ⟨L,λj p a f=>(by simp at f)⟩,λj i p a f=>(by simp at f)⟩
 |none::cap,x::ρc,ρ,k,nd,h=>by
  let⟨g,w,z,A,B⟩:=mL (cap:=cap) (ρc:=ρc) (ρ:=ρ) (k:=k) nd h;refine⟨g,w,z,λi y C=>?_,λj i p a f hi=>?_⟩
  ·rcases A i y C with⟨j,p,a,o,l,r,G,H⟩|⟨l,r⟩
   ·show .inl ⟨j+1,p,a,o,l,r,G,H⟩
   ·refine .inr ⟨l,λj p a f=>?_⟩
    cases j with
    |zero=>cases f
    |succ j=>show r j p a f
  ·cases j with
   |zero=>cases f
   |succ j=>show B j i p a f hi
 |some v::cap,x::ρc,ρ,k,nd,h=>by
  let⟨K,I⟩:=JE.mp (show (v::gO cap).Nodup from nd);have h':(match ρ[v]? with|some (Z (.ob (Z p) _))=>∃o,x=Z (.ob (Z p) o)/\iN cap ρc (setA ρ v o) k|_=>iN cap ρc ρ k):=h;by_cases u:∃p a,ρ[v]?=Z (Z (.ob (Z p) a))
  ·let⟨p,a,u⟩:=u;rw[u]at h';let⟨o,rfl,h'⟩:=h';let⟨g,w,z,A,B⟩:=mL I h';have ne:∀{j i:Nat},cap[j]?=Z (Z i)->i≠v:=λf e=>K (e▸pS f);refine⟨g,w,by rw[z,xf],λi y C=>?_,λj i F E f hi=>?_⟩
   ·rcases A i y C with⟨j,F,E,o',l,r,G,H⟩|⟨l,r⟩
    ·rw[kK (ne l)]at r;show .inl ⟨j+1,F,E,o',l,r,G,H⟩
    ·by_cases c:i=v
     ·subst c;rw[jE]at l;rw[u]at l;simp only at l;rw[Jy (aA u)]at l;cases l;show .inl ⟨0,p,a,o,S,u,S,S⟩
     ·rw[kK c]at l r;refine .inr ⟨l,λj F E f=>?_⟩
      cases j with
      |zero=>cases f;show absurd S c
      |succ j=>show r j F E f
   ·cases j with
    |zero=>cases f;rw[u]at hi;cases hi;show⟨o,S⟩
    |succ j=>show B j i F E f (by rw[kK (ne f)];show hi)
  ·have J:iN cap ρc ρ k:=by
    split at h'
    ·next p a e=>show absurd ⟨p,a,e⟩ u
    ·show h'
   let⟨g,w,z,A,B⟩:=mL I J;refine⟨g,w,z,λi y C=>?_,λj i p a f hi=>?_⟩
   ·rcases A i y C with⟨j,p,a,o,l,r,G,H⟩|⟨l,r⟩
    ·show .inl ⟨j+1,p,a,o,l,r,G,H⟩
    ·refine .inr ⟨l,λj p a f=>?_⟩
     cases j with
     |zero=>cases f;show λe=>u ⟨p,a,e⟩
     |succ j=>show r j p a f
   ·cases j with
    |zero=>cases f;show absurd ⟨p,a,hi⟩ u
    |succ j=>show B j i p a f hi
 |none::_,[],_,_,_,h=>h.elim
 |some _::_,[],_,_,_,h=>h.elim
section
variable{K:Â}{X:Cx}{z H B Φ A:Hp}{c:St}{ρ:ak}{cap:Y (Ř Nat)}
def uF{i:Nat}{x:Sm}(h:(jP cap ρ)[i]?=Z (Z x)):∃j,cap[i]?=Z (Z j)/\ρ[j]?=Z (Z x)/\pinned (Z x)=Z x:=by
 unfold jP at h;rw[Jm]at h
 cases e:cap[i]? with
 |none=>rw[e]at h;cases h
 |some o=>
  rw[e]at h
  cases o with
  |none=>cases h
  |some j=>
   have h':pinned (ρ[j]?).join=Z x:=JJ h
   cases f:(ρ[j]?).join with
   |none=>rw[f]at h';cases h'
   |some y=>
    rw[f]at h'
    cases y with
    |v d=>cases h';show⟨j,S,qO f,S⟩
    |ob a o=>
     cases a with
     |none=>cases h'
     |some p=>cases h';show⟨j,S,qO f,S⟩
def ux{i j:Nat}{v:V}(a:cap[i]?=Z (Z j))(e:c[j]?=Z (Z v)):(eE cap c)[i]?=Z (Z v):=by unfold eE;rw[Jm,a];simp[e]
def EnvM.side{p:Addr}{u u':HO}(E:EnvM K z Φ H c ρ)(j:z p=Z u)(l:Φ p=ŗ):EnvM K (ao z p u') Φ (ao H p u') c ρ:=by
 let⟨g,E⟩:=E
 have ne:∀{i:Nat}{a:Ř Addr}{o:Om},ρ[i]?=Z (Z (.ob a o))->∀b∈g i,b≠p:=λh b f e=>by have:=(E.no _ _ _ h b f).1;rw[e,j]at this;cases this
 show⟨g,λb w e=>by rw[aR (cU e l)];show E.fz b w e,E.len,E.sl,λi a o h=>let ⟨q,e,ha,r⟩:=E.ow i a o h;⟨q,e,ha,r.keep (Same.refl _) λb f w v=>by rw[aR (ne h b f)];show v⟩,
  λi a o h b f=>by rw[aR (ne h b f)];show E.no i a o h b f,E.dj,E.tb⟩
structure StN(K:Â)(Φ0 z Φ H:Hp)(c τ:St)(ρ κ:ak):Prop where
 g:Gr Φ0 z Φ H
 l:ρ.length=c.length
 E:EnvM K z Φ H (c++τ) (ρ++κ)
noncomputable def nox:XD->ak->Prop:=λ_ _=>False
def StM.n{a z:Hp}{f:St}{e:ak}{g:XD->ak->Prop}(Q:StM K X a z Φ H c f ρ e g):StN K a z Φ H c f ρ e:=⟨Q.g,Q.l,Q.E⟩
def StN.m{a z:Hp}{f:St}{e:ak}(Q:StN K a z Φ H c f ρ e):StM K X a z Φ H c f ρ e nox:=⟨Q.g,Q.l,Q.E,λ_ _ _ _ _ _ _ _ h=>h.elim⟩
inductive lNm(K:Â)(t:TX)(c:St)(H:Hp)(Q:VK):Prop|mk (Φ0:Hp) (z:Hp) (Φ:Hp) (τ:St) (ρ:ak) (κ:ak) (R:Sm->ak->Prop) (_:StN K Φ0 z Φ H c τ ρ κ) (_:t ρ R nox) (_:∀sm ρ' A B v,R sm ρ'->StN K Φ0 z A B c (τ++[Z v]) ρ' (κ++[Z sm])->Same Φ A->Q v B)
inductive lNb(K:Â)(t:cX)(c:St)(H:Hp)(Q:Bool->Hp->Prop):Prop|mk (Φ0:Hp) (z:Hp) (Φ:Hp) (τ:St) (ρ:ak) (κ:ak) (R:Bool->ak->Prop) (_:StN K Φ0 z Φ H c τ ρ κ) (_:t ρ R nox) (_:∀b ρ' A B,R b ρ'->StN K Φ0 z A B c τ ρ' κ->Same Φ A->Q b B)
def lNm.m{t:TX}{Q:VK}(h:lNm K t c H Q):lXm K X t c H Q:=by let⟨a,z,Φ,l,ρ,j,R,U,t,k⟩:=h;show⟨a,z,Φ,l,ρ,j,R,nox,U.m,t,λsm e A B v r g f=>k sm e A B v r g.n f⟩
def lNb.m{t:cX}{Q:Bool->Hp->Prop}(h:lNb K t c H Q):lXb K X t c H Q:=by let⟨a,z,Φ,l,ρ,j,R,U,t,k⟩:=h;show⟨a,z,Φ,l,ρ,j,R,nox,U.m,t,λb e A B r g f=>k b e A B r g.n f⟩
noncomputable def uv(p:iV)(cap:Y (Ř Nat))(j:fP)(l:cX)(o:TX):TX:=λρ R h=>p ρ (λds e=>ds.length<sizeLine/\∃I:Nat->Y D->ak->Prop,I 0 [] (jP cap e) /\
 (∀i d ys ρc,ds[i]?=Z d->I i ys ρc->j d ρc λf=>l f (λb a=>(b=ř->o a (xV λy g=>I (i+1) (ys++[y]) g) nox)/\(b=Ś->I (i+1) ys a)) nox) /\
 ∀ys ρc,I ds.length ys ρc->iN cap ρc e λa=>R (.own ys) a) h
noncomputable def Hy:cX:=λρ R _=>R ř ρ
structure PIfM(K:Â)(X:Cx)(ifs:List Ã)(t:cX):Prop where p:X.K=K->iX X ifs (lXb K X t)
def Io:PIfM K X [] Hy:=⟨λ_ a s c H Q I e=>by let⟨f,z,Φ,j,ρ,h,R,g,U,t,k⟩:=e;show sG a s c H Q I (k ř ρ Φ H t U (Same.refl _))⟩
end
section
variable{K:Â}{X:Cx}{L f w:Ã}{l:Y Ã}{scope:â}{A:Ö}{N':Y Str}{cap:Y (Ř Nat)}{G:iV}{O:fP}{N:cX}{M:TX}
def vd{n:Nat}:∀{cap:Y (Ř Nat)},(gO cap).Nodup->∀{i j:Nat},cap[i]?=Z (Z n)->cap[j]?=Z (Z n)->i=j:=by
 intro cap
 induction cap with
 |nil=>intro _ i j h;simp at h
 |cons o cap p=>
  intro nd i j a c
  have e:(gO cap).Nodup:=by
   cases o with
   |none=>show nd
   |some m=>show (JE.mp (show (m::gO cap).Nodup from nd)).2
  have one:∀{i:Nat},o=Z n->cap[i]?=Z (Z n)->False:=λ{i} g hi=>by subst g;show (JE.mp (show (n::gO cap).Nodup from nd)).1 (pS hi)
  cases i with
  |zero=>cases j with
   |zero=>rfl
   |succ j=>show (one (by simpa using a) (by simpa using c)).elim
  |succ i=>cases j with
   |zero=>show (one (by simpa using c) (by simpa using a)).elim
   |succ j=>show JY Nat.succ (p e (by simpa using a) (by simpa using c))
def Ga(NS:(gO cap).Nodup){σ:St}{H:Hp}{Q:VK}{Φ0 H0 Φ:Hp}{ρ:ak}{R:Sm->ak->Prop}{Rx:XD->ak->Prop}{τ:St}{κ:ak}(be:StM K X Φ0 H0 Φ H σ τ ρ κ Rx)(t:uv G cap O N M ρ R Rx)
  (k:∀sm ρ' g H' v,R sm ρ'->StM K X Φ0 H0 g H' σ (τ++[Z v]) ρ' (κ++[Z sm]) Rx->Same Φ g->Q v H'):gS (lIM K X G) cap (lGM K O) (lNb K N) (lNm K M) σ H Q:=by
 refine⟨Φ0,H0,Φ,τ,ρ,κ,_,Rx,be,t,λds P Φ1 H1 J NR S1 f1 Sd T hD=>?_⟩;let⟨hlen,I,h0,Ob,ON⟩:=NR;let⟨fp,Ex⟩:=S1.E;have E:=Ex.take S1.l
 have up:∀{i:Nat}{x:Sm},P[i]?=Z (Z x)->(P++κ)[i]?=Z (Z x):=λh=>by rw[I0 (aA h)];show h
 have ups:∀{i:Nat}{x:V},σ[i]?=Z (Z x)->(σ++τ)[i]?=Z (Z x):=λh=>by rw[I0 (aA h)];show h
 let P2:Nat->Prop:=λi=>(∃j:Nat,cap[j]?=Z (Z i))/\∃p o,P[i]?=Z (Z (.ob (Z p) o))
 obtain⟨B,hB⟩:∃B:Y Addr,∀b,b∈B↔∃i,P2 i/\b∈fp i:=by
  refine⟨((gO cap).filter λi=>match P[i]? with|some (Z (.ob (Z _) _))=>ř|_=>Ś).flatMap fp,λb=>?_⟩;rw[Mh];constructor
  ·rintro⟨i,hi,C⟩;let⟨hi,hp⟩:=JP.mp hi;refine⟨i,⟨?_,?_⟩,C⟩
   ·let⟨o,ho,e⟩:=Lm.mp hi
    cases o with
    |none=>cases e
    |some i'=>cases e;show JX ho
   ·split at hp
    ·next p o e=>show⟨p,o,e⟩
    ·cases hp
  ·rintro⟨i,⟨⟨j,hj⟩,p,o,hp⟩,C⟩;show⟨i,JP.mpr ⟨pS hj,by rw[hp]⟩,C⟩
 have hDB:T∉B:=λh=>by let⟨i,⟨_,p,o,ho⟩,C⟩:=(hB T).mp h;let⟨_,_,_,r⟩:=E.ow i _ o ho;let⟨u,hu,_⟩:=r.at T C;rw[hD]at hu;cases hu
 have Se:Φ1 T=ŗ:=S1.g.s.free hD
 have hDm:b8 H1 B T=ŗ:=by rw[gJ hDB];show hD
 have m2:∀{b:Addr}{u:HO},b8 H1 B b=Z u->b≠T:=λh=>cU h hDm
 have C0:EnvM K (ao (b8 H1 B) T (.lst [])) Φ1 (ao H1 T (.lst [])) (eE cap σ) (jP cap P):=by
  have no:∀{i:Nat}{a:Ř Addr}{o:Om},(jP cap P)[i]?=Z (Z (.ob a o))->∃j:Nat,cap[i]?=Z (Z j)/\P[j]?=Z (Z (.ob a o))/\P2 j:=λ{i a o} h=>by
   let⟨j,U,b_,h3⟩:=uF h
   cases a with
   |none=>cases h3
   |some p=>show⟨j,U,b_,⟨i,U⟩,p,o,b_⟩
  have inB:∀{i j:Nat}{a:Ř Addr}{o:Om},P[j]?=Z (Z (.ob a o))->P2 j->∀b∈fp j,b∈B/\b≠T:=λ{i j a o} h hl b C=>⟨(hB b).mpr ⟨j,hl,C⟩,λe=>hDB (e▸(hB b).mpr ⟨j,hl,C⟩)⟩;have cj:∀{i j n:Nat},cap[i]?=Z (Z n)->cap[j]?=Z (Z n)->i=j:=λU b_=>vd NS U b_;refine⟨λi=>match cap[i]? with|some (Z j)=>fp j|_=>[],λb u e=>?_,by unfold eE jP;rw[IY,IY],λi d h=>?_,λi a o h=>?_,λi a o h b C=>?_,λi j a a' o o' hi hj c b C NM=>?_,S1.E.tb⟩
  ·rw[aR (cU e Se)];show S1.g.s b u e
  ·let⟨j,U,b_,_⟩:=uF h;let⟨v,hv,r⟩:=E.sl j d b_;show⟨v,ux U hv,r⟩
  ·let⟨j,U,b_,hl⟩:=no h;let⟨p,hp,ha,r⟩:=E.ow j a o b_;refine⟨p,ux U hp,ha,?_⟩;rw[U]
   show r.keep (Same.refl _) λb C u hu=>by rw[aR (inB (i:=i) b_ hl b C).2];show hu
  ·let⟨j,U,b_,hl⟩:=no h;rw[U]at C;let⟨a_,z2⟩:=inB (i:=i) b_ hl b C;show⟨by rw[aR z2];show uR a_,(E.no j a o b_ b C).2⟩
  ·let⟨i',U,b_,_⟩:=no hi;let⟨j',h3,h4,_⟩:=no hj;rw[U]at C;rw[h3]at NM;show E.dj i' j' a a' o o' b_ h4 (λe=>c (by subst e;show cj U h3)) b C NM
 refine⟨λi m σ' H'=>m=ds.length-i/\i<=ds.length/\∃(g:Hp)(ρc:ak)(vs:Y V)(ys:Y D),EnvM K (ao (b8 H1 B) T (.lst vs)) g H' σ' ρc/\Gr Φ1 (b8 H1 B) g H'/\g T=ŗ/\H' T=Z (.lst vs)/\RpL K g ys vs/\ys.length<=i/\I i ys ρc,⟨ds.length,by simp,KU _,Φ1,_,[],[],C0,⟨Same.refl _,λb u e=>by rw[aR (m2 e)];show (uz e).2,λb u e=>by rw[aR (cU e Se)];show S1.g.s b u e,λ_ _ _ h _=>h⟩,Se,bh,.nil,KU _,h0⟩,?_⟩;rintro i m σ' H' ⟨rfl,hi,g,ρc,vs,ys,Ei,gi,SJ,Rm,N0,Ox,hI⟩;by_cases NL:i<ds.length
 ·refine .inr ⟨Sd.go i H' (gi.f.trans gi.s) NL,λσ2 H2=>∃(g:Hp)(ρc:ak)(vs:Y V)(ys:Y D),EnvM K (ao (b8 H1 B) T (.lst vs)) g H2 σ2 ρc/\Gr Φ1 (b8 H1 B) g H2/\g T=ŗ/\H2 T=Z (.lst vs)/\RpL K g ys vs/\ys.length<=i+1/\I (i+1) ys ρc,λσ2 H2 b_=>⟨ds.length-(i+1),(),S,NL,b_⟩,λx H2 y=>?_⟩;let⟨Φ3,g3,rx⟩:=Sd.yl i g H' x H2 _ gi.f gi.s (bE NL) y;have E3:=Ei.gr g3;refine⟨_,Φ3,ρc,_,_,E3,rx,Ob i _ ys ρc (bE NL) hI,λρ1 σ3 t1 E4=>?_⟩;have U6:Φ3 T=ŗ:=g3.o _ _ Rm SJ;have Vg:=g3.h _ _ Rm
  have gt:Gr Φ3 (ao (b8 H1 B) T (.lst vs)) Φ3 H2:=⟨Same.refl _,λb u e=>by
   by_cases c:b=T
   ·subst c;rw[bh]at e;cases e;show Vg
   ·rw[aR c]at e;show g3.h b u (gi.h b u e),g3.s,λ_ _ _ h _=>h⟩
  have join:∀{Φ5 H5:Hp},Gr Φ3 (ao (b8 H1 B) T (.lst vs)) Φ5 H5->Gr Φ1 (b8 H1 B) Φ5 H5/\Φ5 T=ŗ/\H5 T=Z (.lst vs):=λ{Φ5 H5} g5=>by
   refine⟨⟨(gi.f.trans g3.f).trans g5.f,λb u e=>g5.h b u (by rw[aR (m2 e)];show e),g5.s,λb u U b_ kk=>?_⟩,g5.o _ _ bh U6 trivial,g5.h _ _ bh⟩;have a_:=gi.o b u U b_ kk;have z2:=g3.o b u (gi.h b u U) a_ kk;show g5.o b u (by rw[aR (m2 U)];show U) z2 kk
  refine⟨Φ3,_,Φ3,[],ρ1,[],_,⟨gt,E4.len.symm,by rw[JM,JM];show E4⟩,t1,λb ρ2 Φ4 H4 rb S4 f4=>?_⟩
  cases b with
  |false=>
   refine jB ?_;let⟨j1,j2,j3⟩:=join S4.g;show⟨Φ4,ρ2,vs,ys,(S4.m (X:=X)).env,j1,j2,j3,(N0.same g3.f).same f4,(),rb.2 S⟩
  |true=>
   refine jW ?_;refine⟨Φ3,_,Φ4,[],ρ2,[],_,S4,rb.1 S,λs ρ3 Φ5 H5 v rs S5' f5=>?_⟩;have S5:=S5'.m (X:=X);let⟨d,rfl,rs⟩:=rs.get;let⟨j1,j2,j3⟩:=join S5.g;have rl5:=(N0.same g3.f).same (f4.trans f5);refine⟨vs,j3,by rw[N0.1];omega,Φ5,ρ3,vs++[v],ys++[d],?_,?_,j2,bh,rl5.append (.one S5.last),by rw[Ja];show Nat.succ_le_succ Ox,rs⟩
   ·have:=S5.env.side (p:=T) (u:=.lst vs) (u':=.lst (vs++[v])) bh j2;rw[Ck]at this;show this
   ·show⟨j1.f,λb u e=>by rw[aR (m2 e)];show j1.h b u e,λb u e=>by rw[aR (cU e j2)];show j1.s b u e,λb u U b_ kk=>j1.o b u U b_ kk⟩
 ·have e:i=ds.length:=by omega
  subst e;refine .inl ⟨Sd.stop H' (gi.f.trans gi.s),?_⟩;let⟨ρ2,hR,O1,h3,h4⟩:=mL NS (ON ys ρc hI);let⟨fc,Ec⟩:=Ei;have inj:∀{i j n:Nat},cap[i]?=Z (Z n)->cap[j]?=Z (Z n)->i=j:=λU b_=>vd NS U b_
  have ex:∀i,P2 i->∃(j:Nat)(p:Addr)(o0 o:Om),cap[j]?=Z (Z i)/\P[i]?=Z (Z (.ob (Z p) o0))/\ρc[j]?=Z (Z (.ob (Z p) o)):=λi hl=>by let⟨⟨j,hj⟩,p,o0,ho⟩:=hl;let⟨o,h⟩:=h4 j i p o0 hj ho;show⟨j,p,o0,o,hj,ho,h⟩
  have cho:∀i,∃y:Ř (Om×Y Addr),(∀q,y=Z q->∃(j:Nat)(p:Addr)(o0:Om),cap[j]?=Z (Z i)/\P[i]?=Z (Z (.ob (Z p) o0))/\ρc[j]?=Z (Z (.ob (Z p) q.1))/\q.2=fc j)/\(y=ŗ↔¬ P2 i):=λi=>by
   by_cases h:P2 i
   ·let⟨j,p,o0,o,a_,z2,z3⟩:=ex i h;show⟨Z (o,fc j),λq hq=>by cases hq;show⟨j,p,o0,a_,z2,z3,S⟩,λe=>(by cases e),λn=>absurd h n⟩
   ·show⟨ŗ,λq hq=>(by cases hq),λ_=>h,λ_=>rfl⟩
  let⟨new,SV⟩:=Classical.axiomOfChoice cho;have Oc:=λi=>(SV i).1;have OF:=λi=>(SV i).2
  have Dfc:∀{j:Nat}{a:Ř Addr}{o:Om},ρc[j]?=Z (Z (.ob a o))->∀b∈fc j,b≠T/\b8 H1 B b=ŗ/\g b=ŗ:=λ{j a o} h b C=>by
   let⟨a_,z2⟩:=Ec.no j a o h b C
   have c:b≠T:=λe=>by rw[e,bh]at a_;cases a_
   rw[aR c]at a_;show⟨c,a_,z2⟩
  have adr:∀{j i:Nat}{p:Addr}{o0 o:Om},P[i]?=Z (Z (.ob (Z p) o0))->ρc[j]?=Z (Z (.ob (Z p) o))->σ[i]?=Z (Z (.ref p))/\OmS K g H' o p (fc j):=λ{j i p o0 o} U b_=>by let⟨q1,e1,a1,_⟩:=E.ow i _ o0 U;let⟨q2,e2,a2,r⟩:=Ec.ow j _ o b_;cases a1 p S;cases a2 p S;show⟨e1,r⟩
  have lnt:∀{i:Nat},P.length<=i->new i=ŗ:=λ{i} c=>(OF i).mpr λhl=>by
   let⟨_,p,o,ho⟩:=hl;have:=aA ho;omega
  have cs:∀{i:Nat}{x:Sm},(ρ2++κ)[i]?=Z (Z x)->(i<P.length/\ρ2[i]?=Z (Z x))\/(P.length<=i/\(P++κ)[i]?=Z (Z x)):=λ{i x} h=>by
   rcases JW i P.length with c|c
   ·rw[I0 ()]at h;show .inl ⟨c,h⟩
   ·rw[IZ (),O1]at h;show .inr ⟨c,by rw[IZ c];show h⟩
  have E2:EnvM' K H0 g H' (σ++τ) (ρ2++κ) (gN new fp):=by
   refine Ex.lend S1.g.h (B:=B) (λb C=>?_) (λi q hq b C=>(hB b).mpr ⟨i,(J9 λz=>by rw[(OF i).mpr z]at hq;cases hq),C⟩) gi (by rw[Ja,Ja,O1]) (λi d h=>?_) (λi a o h=>?_) (λi q hq=>?_) (λi q hq b C=>?_) λi j q r hq hr c b C NM=>?_
   ·let⟨i,hl,Od⟩:=(hB b).mp C;let⟨_,p,o,ho⟩:=id hl
    cases e:new i with
    |none=>show absurd hl ((OF i).mp e)
    |some q=>show⟨i,_,o,q,e,up ho,Od⟩
   ·rcases cs h with⟨_,h⟩|⟨_,h⟩
    ·rcases h3 i _ h with⟨_,_,_,_,_,_,_,z⟩|⟨z,_⟩
     ·cases z
     ·show up z
    ·show h
   ·rcases cs h with⟨_,h⟩|⟨c,h⟩
    ·rcases h3 i _ h with⟨j,p,o0,o',a_,z2,z3,z4⟩|⟨a_,z2⟩
     ·cases z4
      cases e:new i with
      |none=>show absurd ⟨⟨j,a_⟩,p,o0,z2⟩ ((OF i).mp e)
      |some q=>
       let⟨j',p',o1,y1,y2,y3,y4⟩:=Oc i q e;cases inj a_ y1;rw[z3]at y3;cases y3;show .inr ⟨o0,q.2,S,up z2⟩
     ·refine .inl ⟨(OF i).mpr λhl=>?_,up a_⟩;let⟨⟨j,hj⟩,p,o0,ho⟩:=hl;show z2 j p o0 hj ho
    ·show .inl ⟨lnt c,h⟩
   ·let⟨j,p,o0,a_,z2,z3,z4⟩:=Oc i q hq;let⟨y1,y2⟩:=adr z2 z3;show⟨p,ups y1,by rw[z4];show y2⟩
   ·let⟨j,p,o0,a_,z2,z3,z4⟩:=Oc i q hq;rw[z4]at C;show (Dfc z3 b C).2
   ·let⟨j1,p1,o1,a_,z2,z3,z4⟩:=Oc i q hq;let⟨j2,p2,o2,y1,y2,y3,y4⟩:=Oc j r hr;rw[z4]at C;rw[y4]at NM;show Ec.dj j1 j2 _ _ _ _ z3 y3 (λe=>c (by rw[e,y1]at a_;cases a_;rfl)) b C NM
  have B0:∀b∈B,H0 b=ŗ:=λb C=>by let⟨i,⟨_,p,o,ho⟩,Od⟩:=(hB b).mp C;show (E.no i _ o ho b Od).1
  have g0:=S1.g.lend gi B0
  have E3:=E2.snocG (sm:=.own ys) (F:=[T]) (.o (λq e=>by cases e) (.lst Rm N0)) (λb C=>by rw[Jk.mp C];show⟨S1.g.h.free hD,SJ⟩) λb C i a o ho Od=>by
   rw[Jk.mp C]at Od;unfold gN at Od
   cases e:new i with
   |some q=>
    rw[e]at Od;let⟨j,p,o0,a_,z2,z3,z4⟩:=Oc i q e;have Od:T∈q.2:=Od;rw[z4]at Od;show (Dfc z3 T Od).1 S
   |none=>
    rw[e]at Od
    have old:(P++κ)[i]?=Z (Z (.ob a o)):=by
     rcases cs ho with⟨_,ho⟩|⟨_,ho⟩
     ·rcases h3 i _ ho with⟨j,p,o0,o',a_,z2,_⟩|⟨a_,_⟩
      ·show absurd ⟨⟨j,a_⟩,p,o0,z2⟩ ((OF i).mp e)
      ·show up a_
     ·show ho
    let⟨_,_,_,r⟩:=Ex.ow i a o old;let⟨u,hu,_⟩:=r.at T Od;rw[hD]at hu;cases hu
  rw[Js,Js]at E3;show k _ ρ2 g H' _ hR ⟨g0,by rw[O1];show S1.l,E3,S1.x⟩ (f1.trans gi.f)
def zo{i:Nat}{y:Str}{B u:Ö}(P:X.calm=ř)(a_:X.N.Nodup)(hy:X.N[i]?=Z y)(hx:eI X.env.scope y)(U:CompScope X.N X.env.scope scope N' cap)(R:(gO cap).Nodup)(hi:PIM K X L f G)
  (hg:∀(cl:Y (Str×Addr))(c:Y Addr)(C:Addr)(e:À)(a:Hp),PGM K (bS X scope N' cl C e a c) L O) (ht:∀(cl:Y (Str×Addr))(c:Y Addr)(C:Addr)(e:À)(a:Hp),PIfM K (bS X scope N' cl C e a c) l N)
  (b_:∀(cl:Y (Str×Addr))(c:Y Addr)(C:Addr)(e:À)(a:Hp),PX K (bS X scope N' cl C e a c) w M) (T:Î (.ListComp w [⟨L,f,l,0⟩] scope A) (Z (.Name y B)) u.line X.env=pure ř:=by rfl)
  (hs:∀x,Ì f X.env x=pure x:=by intro _;rfl) (hf:X.fn y=ř\/X.env.scope.names.lookup y=Z .local:=by nofun) :
  PSM K X (.Assign [.Name y B] (.ListComp w [⟨L,f,l,0⟩] scope A) u) (lv i (uv G cap O N M)):=
 ⟨λo=>(nr P a_ hy hx U (hi.pi o) (λcl c C e a=>(hg cl c C e a).pg o) (λcl c C e a j s F H Q I h=>(ht cl c C e a).p o j s F H Q I (lNb.m h)) (λcl c C e a=>((b_ cl c C e a).pe o).imp λ_ _ _ h=>lNm.m h) T hs hf).imp λE F H be=>by
  let⟨Φ0,a,Φ,ρ,De,g,V,t,k⟩:=be
  show Ga R (de g V k.ex) t λsm ρ1 p J v r z _=>k.nx _ p J _ r z.g (z.env1.store i)⟩
end
def jl{a:Y Addr}(h:a.length=0):a=[]:=J5.mp h
def eu{c:Y Addr}(h:c.length=1):∃a,c=[a]:=by
 match c,h with
 | [a],_=>show⟨a,S⟩
section
variable{K:Â}{X:Cx}{a b:Ã}{c:Ö}{e tb:TX}
def oX(g:PX K X a e)(h:PX K X b tb)(j:oA b):PX K X (.Subscript a b c) (jX mJ e tb):=
 ⟨λf=>(pf (uG f) (g.pe f) (h.pe f) j).imp λ_ _ _=>nz⟩
end
section
variable{o:Type}[DecidableEq o]{K:Â}{Φ:Hp}
noncomputable def bB(a:Y (o×D))(k:o):Ř D:=(a.find? λc=>decide (c.1=k)).map (·.2)
noncomputable def iJ(c:Y (o×D))(k:o)(d:D):Y (o×D):=if c.any (λa=>decide (a.1=k)) then c.map (λa=>if a.1=k then (a.1,d) else a) else c++[(k,d)]
def pT:∀{e:Y (o×D)}{f:Y (o×V)},Paired (fW K Φ) e f->∀k,(bB e k=ŗ/\fC f k=ŗ)\/∃d v,bB e k=Z d/\fC f k=Z v/\Rp K Φ d v
 |_,_,.nil,k=>.inl ⟨S,S⟩
 |_,_,.cons (a:=x) (b:=y) (l₁:=l) r t,k=>by
  by_cases c:x.1=k
  ·refine .inr ⟨x.2,y.2,?_,?_,r.2⟩
   ·unfold bB;rw[KO (by simpa using c)];rfl
   ·show nT (by rw[←r.1];show c)
  ·have g:bB (x::l) k=bB l k:=by unfold bB;rw[Kk (by simpa using c)]
   rw[g,l9 (by rw[←r.1];show c)];show pT t k
def t7:∀{c:Y (o×D)}{e:Y (o×V)},Paired (fW K Φ) c e->∀k,(e.any λa=>decide (a.1=k))=c.any λa=>decide (a.1=k)
 |_,_,.nil,k=>rfl
 |_,_,.cons r t,k=>by rw[Lc,Lc,t7 t k,r.1]
def ww{a c:Type}{F:a->c->Prop}{f:a->a}{g:c->c}(h:∀x y,F x y->F (f x) (g y)):∀{l:Y a}{m:Y c},Paired F l m->Paired F (l.map f) (m.map g)
 |_,_,.nil=>.nil
 |_,_,.cons r t=>.cons (h _ _ r) (ww h t)
def yP{a:Y (o×D)}{c:Y (o×V)}(h:Paired (fW K Φ) a c)(k:o){d:D}{v:V}(r:Rp K Φ d v):Paired (fW K Φ) (iJ a k d) (fG c k v):=by
 unfold iJ fG;rw[t7 h k];split
 ·refine ww (λx y q=>?_) h;rw[←q.1];split
  ·show⟨S,r⟩
  ·show q
 ·show Č h ⟨S,r⟩
def qJ(a:Y (o×D))(k:o):(bB a k).isSome=a.any λf=>decide (f.1=k):=by
 unfold bB
 induction a with
 |nil=>rfl
 |cons x r e=>
  rw[Lc];by_cases c:x.1=k
  ·rw[KO (by simpa using c),J4 c];rfl
  ·rw[Kk (by simpa using c),JG c,e];rfl
def Fq{a:Y (o×D)}{k:o}{d:D}(h:bB a k=ŗ):iJ a k d=a++[(k,d)]:=by have:=qJ a k;rw[h]at this;unfold iJ;rw[←this];rfl
def FI(f:Y (o×D))(k j:o)(d:D):bB (iJ f k d) j=if j=k then Z d else bB f j:=by
 unfold iJ;split
 ·next h=>
  have:∀l:Y (o×D),bB (l.map λa=>if a.1=k then (a.1,d) else a) j=if j=k then (bB l k).map (λ_=>d) else bB l j:=by
   intro l
   induction l with
   |nil=>unfold bB;simp
   |cons x r u=>
    rw[JB];by_cases c:x.1=k
    ·rw[Jj c];by_cases p:j=k
     ·rw[Jj p];subst p;unfold bB;rw[KO (by simpa using c),KO (by simpa using c)];rfl
     ·rw[Jd p]at u ⊢;have g:¬ x.1=j:=λe=>p (e▸c▸rfl);unfold bB at u ⊢;rw[Kk (by simpa using g),Kk (by simpa using g)];show u
    ·rw[Jd c];by_cases g:x.1=j
     ·have p:¬ j=k:=λe=>c (g.trans e);rw[Jd p];unfold bB;rw[KO (by simpa using g),KO (by simpa using g)]
     ·have w:bB (x::List.map (λa=>if a.1=k then (a.1,d) else a) r) j=bB (List.map (λa=>if a.1=k then (a.1,d) else a) r) j:=by unfold bB;rw[Kk (by simpa using g)]
      have z:bB (x::r) j=bB r j:=by unfold bB;rw[Kk (by simpa using g)]
      have A:bB (x::r) k=bB r k:=by unfold bB;rw[Kk (by simpa using c)]
      rw[w,u,z,A]
  rw[this];split
  ·have:=qJ f k;rw[h]at this
   cases e:bB f k with
   |none=>rw[e]at this;cases this
   |some y=>rfl
  ·rfl
 ·next h=>
  have v:bB f k=ŗ:=by
   cases e:bB f k with
   |none=>rfl
   |some y=>have:=qJ f k;rw[e]at this;show absurd this.symm h
  unfold bB at v ⊢;rw[List.find?_append];by_cases c:j=k
  ·subst c;rw[Jj S]
   cases e:f.find? λa=>decide (a.1=j)with
   |none=>simp
   |some y=>rw[e]at v;cases v
  ·rw[Jd c]
   cases e:f.find? λa=>decide (a.1=j)with
   |none=>rw[Kk (by simpa using λe=>c e.symm)];rfl
   |some y=>rfl
def HZ{a c:Type}{F:a->c->Prop}:∀{l:Y a}{m:Y c},Paired F l m->l.length=m.length:=Md
end
section
variable{K:Â}{X:Cx}{e a b ev:Ã}{c l:TD}{f A B:Ö}{x:Str}{i:Nat}
noncomputable def Fd(o:Om):TX:=λρ R _=>R (.ob ŗ o) ρ
def DU:PX K X (.Dict [] [] f) (Fd (.mpT [])):=⟨λv=>pe_dnewT.imp λy H Q h=>by
 let⟨o,r,Φ,z,ρ,w,R,u,U,t,k⟩:=h;intro p g
 show k _ ρ Φ _ _ t (U.pushO (Gr.fresh U.g.s g _) (.mpT bh .nil) λb j=>by rw[Jk.mp j];show⟨g,U.g.s.free g⟩) (Same.refl _)⟩
def EnvM.dictT{j o Φ H:Hp}{w:St}{ρ:ak}{a:Ř Addr}{y:Y (Y ay×D)}(E:EnvM K o Φ H w ρ)(g:Gr j o Φ H)(hi:ρ[i]?=Z (Z (.ob a (.mpT y)))):∃q p,w[i]?=Z (Z (.ref q))/\H q=Z (.dT p)/\Paired (fW K Φ) y p /\
  ∀(v:Y (Y ay×D))(h:Y (Y ay×V)),Paired (fW K Φ) v h->EnvM K o Φ (ao H q (.dT h)) w (ρ.set i (Z (.ob a (.mpT v))))/\Gr j o Φ (ao H q (.dT h)):=by
 let⟨G,E⟩:=E;let⟨q,e,_,r⟩:=E.ow i a _ hi;have F:=r.mem;let⟨_,p,I,J⟩:=r.mpT_inv;refine⟨q,p,e,I,J,λv h N=>?_⟩
 have C:∀b u,H b=Z u->b∉G i->ao H q (.dT h) b=Z u:=λb u e M=>by
  rw[aR λz=>M (by rw[z];show F)];show e
 show⟨⟨_,E.put hi e C (F':=[q]) (.mpT bh N) λb L=>.inl (by rw[Jk.mp L];show F)⟩,E.grput g hi C⟩
noncomputable def ownT(ρ:ak)(i:Nat)(k:Ř Addr->Y (Y ay×D)->Prop):Prop:=match ρ[i]? with|some (Z (.ob a (.mpT Nz)))=>k a Nz|_=>False
def ownT.get{ρ:ak}{i:Nat}{k:Ř Addr->Y (Y ay×D)->Prop}(h:ownT ρ i k):∃a g,ρ[i]?=Z (Z (.ob a (.mpT g)))/\k a g:=by
 unfold ownT at h;split at h
 ·next a ds e=>show⟨a,ds,e,h⟩
 ·show h.elim
def pz{Φ:Hp}{g:Y ay}{v:V}(r:Rp K Φ (.tup (g.map gz)) v):∃q,v=.ref q/\Φ q=Z (.tup (g.map kV)):=by
 cases r with
 |tup h j o=>
  cases wZ ⟨j,o⟩;show⟨_,S,h⟩
noncomputable def wH(g:Bool)(i:Nat)(c:TD):cX:=λρ R _=>c (dI ρ) λd=>∃h:Y ay,d=.tup (h.map gz)/\ownT ρ i λ_ j=>R (g != (bB j h).isSome) ρ
def Ik{j:Bool}{F:St}{H:Hp}{Q:Bool->Hp->Prop}(h:lXb K X (wH j i c) F H Q):lE K c F H λy u=>kQ i F u λx G=>∃a o,x=.ref a/\DGet G a y o/\Q (j != o.isSome) G:=by
 let⟨b_,L,Φ,τ,ρ,κ,R,Rx,be,t,k⟩:=h;refine⟨L,Φ,dI ρ,_,be.env.toD,t,λd E u v r g U=>?_⟩;let⟨z,rfl,r⟩:=r;let⟨a,M,O,r⟩:=ownT.get r;let⟨p,rfl,P⟩:=pz U;have w:=be.gr g;let⟨q,a_,N,T,C,_⟩:=w.env.dictT w.g O;refine⟨_,N,q,_,S,DGet.t T (g.s _ _ P),?_⟩
 have e:(fC a_ z).isSome=(bB M z).isSome:=by rcases pT C z with⟨I,J⟩|⟨d,v,I,J,_⟩<;>rw[I,J]<;>rfl
 rw[e];show k _ ρ E u r w g.f
def yL(b:Bool):(Ś != b)=b:=by cases b<;>rfl
def xJ{t:TD}{u:St}{H:Hp}{Q p:VK}(h:lE K t u H Q)(y:∀v j,Q v j->p v j):lE K t u H p:=by let⟨w,Φ,ρ,R,E,t,k⟩:=h;show⟨w,Φ,ρ,R,E,t,λd o j v r g z=>y _ _ (k d o j v r g z)⟩
def xA{j:Nat}{p:St}{H:Hp}{Q o:VK}(h:kQ j p H Q)(r:∀v g,Q v g->o v g):kQ j p H o:=let ⟨v,e,q⟩:=h;⟨v,e,r _ _ q⟩
def He(i:Nat)(J:X.A.units+64<å)(C:PD K X e c)(y:X.N[i]?=Z x:=by rfl)(F:cH X.env.scope x:=by nofun)(hd:ab x:=by decide)(h:fI x:=by decide)
  (E:behindInMarks .In (.Name x A)=Ś:=by rfl):PXB K X (.Compare e [.In] [.Name x A] f) (wH Ś i c):=
 ⟨λu=>(xU (GQ () (C.pe u) (pv i y F hd h)) E).imp λL H Q j=>xJ (Ik j) λv G q=>xA q λw I z=>by
  let⟨a,o,p,r,g⟩:=z;rw[yL]at g
  show⟨a,o,p,r,_,S,g⟩⟩
noncomputable def yJ(i:Nat)(c:TD)(l:TD):bC:=λj ρ=>l (dI ρ) λd=>c (dI ρ) λp=>∃h:Y ay,p=.tup (h.map gz)/\ownT ρ i λa g=>g.length<sizeLine/\NF (iJ g h d) λo=>j.nx (ρ.set i (Z (.ob a (.mpT o))))
def Ij(i:Nat)(hu:X.A.units+64<å)(be:PD K X e c)(R:PD K X ev l)(Q:X.N[i]?=Z x:=by rfl)(a_:cH X.env.scope x:=by nofun)(hd:ab x:=by decide)(N:fI x:=by decide)
  (U:Î ev (Z (.Subscript (.Name x A) e B)) f.line X.env=pure Ś:=by rfl):PSM K X (.Assign [.Subscript (.Name x A) e B] ev f) (λC ρ=>(ownT ρ i λ_ _=>True)/\yJ i c l C ρ):=
 ⟨λM=>(BH () (pv i Q a_ hd N) (be.pe M) (R.pe M) U).imp λE σ H O=>by
  let⟨Φ0,F,Φ,ρ,C,g,V,⟨h,t⟩,k⟩:=O;let⟨a,Nz,h,_⟩:=ownT.get h;refine⟨F,Φ,dI ρ,_,V.toD,t,λd y H1 v r1 r rv=>?_⟩;have p:=V.gr r;let⟨q,ws,J,hq,rel,_⟩:=p.dictT (g.trans r) h;refine⟨_,J,F,y,dI ρ,_,p.toD,r1,λkd z H2 w j o rw=>?_⟩;let⟨kk,rfl,j⟩:=j;let⟨a2,Vh,G,T,j⟩:=ownT.get j;rw[h]at G;cases G;let⟨pk,rfl,u⟩:=pz rw;let⟨q2,ws2,L,P,I,b_⟩:=(p.gr o).dictT ((g.trans r).trans o) h;rw[J]at L;cases L;let⟨z1,z2⟩:=b_ _ _ (yP I kk (rv.same o.f))
  show⟨q,_,S,DPut.t P (o.s _ _ u) (by rw[←HZ I];show T),k.nx _ z _ σ j.get z2 z1⟩⟩
end
end L2
namespace PySem.SeqAt
open AutoSeq1 (wpAny_loadPart')
open MeetsSeq MeetsSeq2 MeetsSeq3 SeqRoads2
end PySem.SeqAt
namespace L2
open PySem PySem.Spec PyProof.Rows
open Builtin Builtin.ObjectAttr
end L2
namespace L2
open PySem PySem.Spec PyProof.Rows
end L2
namespace L2
open PySem PySem.Spec PyProof.Rows
section
variable{K:Â}{l H Φ:Hp}{g:St}{ρ:ak}{f:Nat->Y Addr}{o o' w u:Om}{p q:Addr}{i j:Nat}{a a' b A:Ř Addr}
def EnvM'.two(E:EnvM' K l Φ H g ρ f)(Ug:i≠j)(hi:ρ[i]?=Z (Z (.ob a o)))(hj:ρ[j]?=Z (Z (.ob a' o'))){U X:Addr}{N O:Y Addr}(si:g[i]?=Z (Z (.ref U)))(sj:g[j]?=Z (Z (.ref X)))
  (ai:∀q,b=Z q->q=U) (aj:∀q,A=Z q->q=X) (Oi:OmS K Φ H w U N) (Oj:OmS K Φ H u X O) (sub:∀x,x∈N\/x∈O->x∈f i\/x∈f j) (R:∀x∈N,x∉O) :
  EnvM K l Φ H g ((ρ.set i (Z (.ob b w))).set j (Z (.ob A u))):=by
 have P:∀{m:Nat}{x:Sm},((ρ.set i (Z (Sm.ob b w))).set j (Z (Sm.ob A u)))[m]?=Z (Z x)->(m=j/\x=.ob A u)\/(m≠j/\m=i/\x=.ob b w)\/(m≠j/\m≠i/\ρ[m]?=Z (Z x)):=λ{m x} h=>by
  rcases cG h with⟨e,_,e1⟩|⟨e,h⟩
  ·cases e1;show .inl ⟨e,S⟩
  ·rcases cG h with⟨e',_,e1⟩|⟨e',h⟩
   ·cases e1;show .inr (.inl ⟨e,e',S⟩)
   ·show .inr (.inr ⟨e,e',h⟩)
 have T:∀x,x∈N\/x∈O->∀(m:Nat)(c:Ř Addr)(J:Om),ρ[m]?=Z (Z (.ob c J))->m≠i->m≠j->x∉f m:=λx I m c J be v B z=>by
  rcases sub x I with h|h
  ·show E.dj m i c a J o be hi v x z h
  ·show E.dj m j c a' J o' be hj B x z h
 have no:∀x,x∈N\/x∈O->l x=ŗ/\Φ x=ŗ:=λx I=>by
  rcases sub x I with h|h
  ·show E.no i a o hi x h
  ·show E.no j a' o' hj x h
 refine⟨λm=>if m=j then O else if m=i then N else f m,E.fz,by rw[Jc,Jc,E.len],λm d h=>?_,λm c J h=>?_,λm c J h x I=>?_,λm k c b_ J a_ be hk cc x I SY=>?_,E.tb⟩
 ·rcases P h with⟨_,C⟩|⟨_,_,C⟩|⟨_,_,C⟩
  ·cases C
  ·cases C
  ·show E.sl m d C
 ·rcases P h with⟨v,C⟩|⟨v,B,C⟩|⟨v,B,C⟩
  ·cases C;show⟨X,by rw[v];show sj,aj,by rw[Jj v];show Oj⟩
  ·cases C;show⟨U,by rw[B];show si,ai,by rw[Jd v,Jj B];show Oi⟩
  ·let⟨p,e,ha,r⟩:=E.ow m c J C;show⟨p,e,ha,by rw[Jd v,Jd B];show r⟩
 ·rcases P h with⟨v,C⟩|⟨v,B,C⟩|⟨v,B,C⟩
  ·rw[Jj v]at I;show no x (.inr I)
  ·rw[Jd v,Jj B]at I;show no x (.inl I)
  ·rw[Jd v,Jd B]at I;show E.no m c J C x I
 ·have M:x∈(if m=j then O else if m=i then N else f m):=I;have F:x∈(if k=j then O else if k=i then N else f k):=SY;rcases P be with⟨v,Q⟩|⟨v,B,Q⟩|⟨v,B,Q⟩
  ·rw[Jj v]at M;rcases P hk with⟨y,L⟩|⟨y,G,L⟩|⟨y,G,L⟩
   ·show cc (v.trans y.symm)
   ·rw[Jd y,Jj G]at F;show R x F M
   ·rw[Jd y,Jd G]at F;show T x (.inr M) k b_ a_ L G y F
  ·rw[Jd v,Jj B]at M;rcases P hk with⟨y,L⟩|⟨y,G,L⟩|⟨y,G,L⟩
   ·rw[Jj y]at F;show R x M F
   ·show cc (B.trans G.symm)
   ·rw[Jd y,Jd G]at F;show T x (.inl M) k b_ a_ L G y F
  ·rw[Jd v,Jd B]at M;rcases P hk with⟨y,L⟩|⟨y,G,L⟩|⟨y,G,L⟩
   ·rw[Jj y]at F;show T x (.inr F) m c J Q B v M
   ·rw[Jd y,Jj G]at F;show T x (.inl F) m c J Q B v M
   ·rw[Jd y,Jd G]at F;show E.dj m k c b_ J a_ Q L cc x M F
def G4{ps:Y (Addr×Ř (Y D))}{k:Nat}{x y:Ř (Y D)}(h:ps[k]?=Z (q,x)):((ps.set k (q,y)).map λq=>V.ref q.1)=ps.map λq=>V.ref q.1:=by
 refine Kz λm=>?_;rw[Jm,Jm];by_cases c:k=m
 ·subst c;rw[Jy (aA h),h];rfl
 ·rw[Jv c]
def EnvM.opn{ps:Y (Addr×Ř (Y D))}{k:Nat}{ds:Y D}(E:EnvM K l Φ H g ρ)(B:i≠j)(hi:ρ[i]?=Z (Z (.ob (Z q) .ptr)))(r:ρ[j]?=Z (Z (.ob a' (.tl ps))))(v:ps[k]?=Z (q,Z ds)) :
  EnvM K l Φ H g ((ρ.set i (Z (.ob (Z q) (.lst ds)))).set j (Z (.ob a' (.tl (ps.set k (q,ŗ)))))):=by
 let⟨f,E⟩:=E;let⟨p,O,e,Q⟩:=E.ow i _ _ hi;have C:=e q S;subst C;let⟨t,P,z,N⟩:=E.ow j _ _ r;let⟨F,G,I⟩:=N.tl_inv;let⟨R,F',J,L,M,y⟩:=G.out v;have nd:=y.nodup_iff.mp I;rw[JE]at nd;refine E.two B hi r O P e z (.lst J L) (.tl (by rw[G4 v];show F) M nd.2) (λx c=>.inr (y.mem_iff.mpr ?_)) λx c=>?_
 ·rcases c with h|h
  ·rw[Jk.mp h];show Ji
  ·show Jh _ h
 ·rw[Jk.mp c];show nd.1
def EnvM.pnt(E:EnvM K l Φ H g ρ)(i:Nat)(p:Addr):EnvM K l Φ H (g.set i (Z (.ref p))) (ρ.set i (Z (.ob (Z p) .ptr))):=by
 let⟨f,E⟩:=E
 have F:∀{m:Nat}{x:Sm},(ρ.set i (Z (Sm.ob (Z p) .ptr)))[m]?=Z (Z x)->(m=i/\i<ρ.length/\x=.ob (Z p) .ptr)\/(m≠i/\ρ[m]?=Z (Z x)):=λ{m x} h=>by
  rcases cG h with⟨e,M,a_⟩|⟨e,h⟩
  ·cases a_;show .inl ⟨e,M,S⟩
  ·show .inr ⟨e,h⟩
 refine⟨λm=>if m=i then [] else f m,E.fz,by rw[Jc,Jc,E.len],λm d h=>?_,λm c G h=>?_,λm c G h x C=>?_,λm k c z G P U T R x C Q=>?_,E.tb⟩
 ·rcases F h with⟨_,_,h⟩|⟨c,h⟩
  ·cases h
  ·let⟨v,e,r⟩:=E.sl m d h;show⟨v,by rw[Jv (Kd c)];show e,r⟩
 ·rcases F h with⟨y,M,B⟩|⟨z,B⟩
  ·cases B;show⟨p,by rw[y];show Jy (by rw[E.len];show M),λq e=>by cases e;rfl,by rw[Jj y];show .ptr⟩
  ·let⟨q,e,r⟩:=E.ow m c G B;show⟨q,by rw[Jv (Kd z)];show e,by rw[Jd z];show r⟩
 ·rcases F h with⟨y,_,B⟩|⟨z,B⟩
  ·rw[Jj y]at C;cases C
  ·rw[Jd z]at C;show E.no m c G B x C
 ·have I:x∈(if m=i then [] else f m):=C;have J:x∈(if k=i then [] else f k):=Q;rcases F U with⟨y,_,O⟩|⟨y,O⟩
  ·rw[Jj y]at I;cases I
  rcases F T with⟨L,_,N⟩|⟨L,N⟩
  ·rw[Jj L]at J;cases J
  rw[Jd y]at I;rw[Jd L]at J;show E.dj m k c z G P O N R x I J
end
section
variable{K:Â}{X:Cx}{t:bC}{c e:Ö}
noncomputable def zH(i:Nat)(tb:TX):TX:=λρ R g=>(∃a ds,ρ[i]?=Z (Z (.ob a (.lst ds))))/\tb ρ (xV λk f=>∃a ds n d,f[i]?=Z (Z (.ob a (.lst ds)))/\k=.int n/\cF ds n=Z d/\R (.v d) f) g
def Eh{y:Str}{b:Ã}{tb:TX}(i:Nat)(T:X.N[i]?=Z y)(L:PX K X b tb)(N:oA b)
  (P:cH X.env.scope y:=by nofun) (hd:ab y:=by decide) (z:fI y:=by decide) :
  PX K X (.Subscript (.Name y e) b c) (zH i tb):=
 ⟨λl=>(pf (Cu l) (pv i T P hd z) (L.pe l) N).imp λσ H Q A=>by
  let⟨g,w,Φ,τ,ρ,κ,R,B,be,⟨⟨a,ds,J⟩,t⟩,k⟩:=A;let⟨fp,E⟩:=be.env;let⟨q,s,_,_⟩:=E.ow i _ _ J;refine⟨.ref q,s,g,w,Φ,τ,ρ,κ,_,B,be,t,λsm j h x v r f G=>?_⟩;let⟨kd,rfl,a1,Ud,n,d,C,rfl,F,r⟩:=r.get;have M:=f.last;obtain rfl:=M.i;let⟨I,p⟩:=f.env;let⟨q1,o,_,U⟩:=p.ow i _ _ C;rw[s]at o;cases o;let⟨_,ws,b_,w2⟩:=U.lst_inv;let⟨u,O,a_⟩:=nP w2 F
  show⟨q,ws,n,u,S,S,SqL.of b_,O,k _ j h x u r ((f.pop be.lk).pushV a_) G⟩⟩
end
noncomputable def GY:Fl->Ř D
 |.v d=>Z d
 |.l xs=>Z (.lst xs)
 |.al _=>ŗ
noncomputable def eN:Y (Str×Fl)->Ř (Y (Str×D))
 | []=>Z []
 |(f,x)::r=>match GY x,eN r with
  |some d,Z ds=>Z ((f,d)::ds)
  |_,_=>ŗ
noncomputable def uc:Ř Sm->Ř Sl
 |some (.ob _ (.obj nm fs))=>(eN fs).map λds=>.v (.obj nm ds)
 |x=>pZ x
noncomputable abbrev eS(ρ:ak):bu:=ρ.map uc
noncomputable def uk:HO->Bool
 |.lst _=>ř
 |.dK _=>ř
 |.dT _=>ř
 |.ins _ _ _=>ř
 |_=>Ś
def yY{u:HO}(h:oM u):uk u=ř:=by cases u<;>first|rfl|show h.elim
inductive NoL:D->Prop where
 |int (i:Int):NoL (.int i)
 |bl (b:Bool):NoL (.bl b)
 |str (x:Str):NoL (.str x)
 |non:NoL .non
 |tup {ds:List D}:(∀d∈ds,NoL d)->NoL (.tup ds)
noncomputable def dU(Φ H:Hp)(A:Y Addr):Hp:=λb=>match Φ b with
 |some u=>Z u
 |none=>if b∈A then H b else ŗ
noncomputable def fJ(Φ a:Hp):Hp:=λb=>match Φ b with
 |some u=>Z u
 |none=>match a b with
  |some u=>if uk u then ŗ else Z u
  |none=>ŗ
section
variable{K:Â}{J H I Φ B:Hp}{G:St}{ρ:ak}{F:Nat->Y Addr}{A:Y Addr}{d:D}{v:V}{b:Addr}{u:HO}
def Gb(h:Φ b=Z u):dU Φ H A b=Z u:=by unfold dU;rw[h]
def vh(a:b∈A)(h:H b=Z u)(s:Same Φ H):dU Φ H A b=Z u:=by
 unfold dU
 cases e:Φ b with
 |some w=>have:=s _ _ e;rw[h]at this;cases this;rfl
 |none=>simp only;rw[Jj a];show h
def rA(h:dU Φ H A b=Z u):Φ b=Z u\/(b∈A/\H b=Z u):=by
 unfold dU at h
 cases e:Φ b with
 |some w=>rw[e]at h;show .inl h
 |none=>
  rw[e]at h;simp only at h;split at h
  ·next c=>show .inr ⟨c,h⟩
  ·cases h
def view_same:Same Φ (dU Φ H A):=λ_ _ h=>Gb h
def pc(s:Same Φ H):Same (dU Φ H A) H:=λb u h=>(rA h).elim (s b u) (·.2)
def Cq(h:Φ b=Z u):fJ Φ B b=Z u:=by unfold fJ;rw[h]
def HE{vs:Y V}(s:Same Φ B)(h:B b=Z (.tup vs)):fJ Φ B b=Z (.tup vs):=by
 unfold fJ
 cases e:Φ b with
 |some w=>have:=s _ _ e;rw[h]at this;cases this;rfl
 |none=>simp only;rw[h];rfl
def jp(s:Same Φ H)(g:Gr (dU Φ H A) H B I):Gr Φ H (fJ Φ B) I:=by
 refine⟨λb u e=>Cq e,g.h,λb u e=>?_,λp u j h k=>?_⟩
 ·unfold fJ at e
  cases c:Φ b with
  |some w=>rw[c]at e;cases e;show g.h _ _ (s _ _ c)
  |none=>
   rw[c]at e;simp only at e
   cases a:B b with
   |none=>rw[a]at e;cases e
   |some w=>
    rw[a]at e;simp only at e;split at e
    ·cases e
    ·cases e;show g.s _ _ a
 ·unfold fJ;rw[h];simp only
  cases a:B p with
  |none=>rfl
  |some w=>
   have f:=g.s _ _ a;rw[g.h _ _ j]at f;cases f;simp only;rw[Jj (yY k)]
def Rp.thawN(s:Same Φ B)(f:NoL d)(r:Rp K B d v):Rp K (fJ Φ B) d v:=by
 induction f generalizing v with
 |int i=>obtain rfl:=r.i;show .int i
 |bl b=>obtain rfl:=r.b;show .bl b
 |str x=>obtain rfl:=r.s;show .str x
 |non=>obtain rfl:=r.n;show .non
 |tup _ h=>
  cases r with
  |tup a c e=>show .tup (HE s a) c λi v d g hd=>h d (Je hd) (e i v d g hd)
noncomputable def oB:Ř (Ř Sm)->Bool
 |some (Z (.ob _ (.obj _ _)))=>ř
 |_=>Ś
noncomputable def iG(F:Nat->Y Addr)(ρ:ak):Y Addr:=(List.range ρ.length).flatMap λi=>if oB (ρ[i]?) then F i else []
def Cs{i:Nat}{a:Ř Addr}{nm:Str}{fs:Y (Str×Fl)}(h:ρ[i]?=Z (Z (.ob a (.obj nm fs))))(c:b∈F i):b∈iG F ρ:=by unfold iG;refine Mh.mpr ⟨i,JA.mpr (aA h),?_⟩;rw[h,Jj (show oB (Z (Z (Sm.ob a (Om.obj nm fs))))=ř from rfl)];show c
def EU(h:b∈iG F ρ):∃i a nm fs,ρ[i]?=Z (Z (.ob a (.obj nm fs)))/\b∈F i:=by
 unfold iG at h;let⟨i,_,h⟩:=Mh.mp h;by_cases c:oB (ρ[i]?)=ř
 ·rw[Jj c]at h;unfold oB at c;split at c
  ·next a nm fs e=>show⟨i,a,nm,fs,e,h⟩
  ·cases c
 ·rw[Jd c]at h;cases h
def uo{fs:Y (Str×Fl)}{ds:Y (Str×D)}{vs:Y (Str×V)}{E:Y Addr}(a:eN fs=Z ds)(h:FlsR K Φ H fs vs E)(C:Same Φ B)(x:∀b∈E,∀u,H b=Z u->B b=Z u) :
  vs.map (·.1)=ds.map (·.1)/\∀(i:Nat)(v:Str×V)(d:Str×D),vs[i]?=Z v->ds[i]?=Z d->Rp K B d.2 v.2:=by
 induction h generalizing ds with
 |nil=>cases a;show⟨S,λi v d g=>by simp at g⟩
 |v r _ j=>
  rename_i f o Q c y z _;have a:(match Z o,eN c with|some d,Z ds=>Z ((f,d)::ds)|_,_=>ŗ)=Z ds:=a
  cases e:eN c with
  |none=>rw[e]at a;cases a
  |some es=>
   rw[e]at a;cases a;let⟨p,w⟩:=j e x;refine⟨by rw[JB,JB,p],λi v d g hd=>?_⟩
   cases i with
   |zero=>cases g;cases hd;show r.same C
   |succ i=>show w i v d g hd
 |l p w _ j=>
  rename_i f o R P c y z _;have a:(match Z (D.lst o),eN c with|some d,Z ds=>Z ((f,d)::ds)|_,_=>ŗ)=Z ds:=a
  cases e:eN c with
  |none=>rw[e]at a;cases a
  |some es=>
   rw[e]at a;cases a;let⟨M,N⟩:=j e λb L=>x b (Jh _ L);refine⟨by rw[JB,JB,M],λi v d g hd=>?_⟩
   cases i with
   |zero=>
    cases g;cases hd;have r:=w.same C;show .lst (x _ Ji _ p) r.1 r.2
   |succ i=>show N i v d g hd
 |al _ j=>
  rename_i f O c y z _;have a:(match (ŗ:Ř D),eN c with|some d,Z ds=>Z ((f,d)::ds)|_,_=>ŗ)=Z ds:=a;cases a
def EnvM'.view(E:EnvM' K J Φ H G ρ F):EnvD K J (dU Φ H (iG F ρ)) H G (eS ρ):=by
 have R:Same Φ (dU Φ H (iG F ρ)):=view_same
 have at_:∀{i:Nat}{x:Sl},(eS ρ)[i]?=Z (Z x)->∃y,ρ[i]?=Z (Z y)/\uc (Z y)=Z x:=λ{i x} h=>by
  rw[Jm]at h
  cases e:ρ[i]? with
  |none=>rw[e]at h;cases h
  |some y=>
   rw[e]at h
   cases y with
   |none=>cases h
   |some y=>show⟨y,S,JJ h⟩
 have ow:∀{i:Nat}{o:Ow},(eS ρ)[i]?=Z (Z (.ob o))->∃a f p u,ρ[i]?=Z (Z (.ob a f))/\(∀nm fs,f≠.obj nm fs)/\G[i]?=Z (Z (.ref p))/\p∈F i/\H p=Z u/\OwR K Φ o u:=λ{i o} h=>by
  let⟨y,L,e⟩:=at_ h
  cases y with
  |v d=>cases e
  |ob a f=>
   let⟨p,M,_,r⟩:=E.ow i a f L;refine⟨a,f,p,?_⟩
   cases f with
   |lst ds=>let⟨_,vs,g,l⟩:=r.lst_inv;cases e;show⟨_,L,(λ_ _ z=>by cases z),M,r.mem,g,l⟩
   |map a_=>let⟨_,vs,g,l⟩:=r.map_inv;cases e;show⟨_,L,(λ_ _ z=>by cases z),M,r.mem,g,ky l⟩
   |mpT a_=>let⟨_,vs,g,l⟩:=r.mpT_inv;cases e;show⟨_,L,(λ_ _ z=>by cases z),M,r.mem,g,ky l⟩
   |obj nm fs=>
    have e:(eN fs).map (λds=>Sl.v (.obj nm ds))=Z (.ob o):=e
    cases O:eN fs with
    |none=>rw[O]at e;cases e
    |some ds=>rw[O]at e;cases e
   |ptr=>cases e
   |tl ps=>cases e
   |pr _ _=>cases e
 refine⟨pc E.fz,by rw[IY,E.len],λi d h=>?_,λi o h=>?_,λi j o w p hi hj si sj=>?_,E.tb.same R⟩
 ·let⟨y,L,e⟩:=at_ h
  cases y with
  |v d'=>cases e;let⟨v,M,r⟩:=E.sl i d L;show⟨v,M,r.same R⟩
  |ob a f=>
   cases f with
   |obj nm fs=>
    have e:(eN fs).map (λds=>Sl.v (.obj nm ds))=Z (.v d):=e
    cases O:eN fs with
    |none=>rw[O]at e;cases e
    |some ds=>
     rw[O]at e;cases e;let⟨p,M,_,r⟩:=E.ow i a _ L;let⟨C,dx,vs,qs,X,c1,c2,c3,_⟩:=r.obj_inv;have U:∀b∈F i,∀u,H b=Z u->dU Φ H (iG F ρ) b=Z u:=λb T u hu=>vh (Cs L T) hu E.fz;let⟨N,P⟩:=uo O c3 R λb T=>U b (by rw[X];show Jh _ T);show⟨.ref p,M,.obj c1 (U p (by rw[X];show Ji) _ c2) N P⟩
   |_=>cases e
 ·let⟨a,f,p,u,g,b_,l,Q,h4,be⟩:=ow h;have n1:=E.no i a f g p Q;refine⟨p,u,l,n1.1,?_,h4,?_⟩
  ·cases e:dU Φ H (iG F ρ) p with
   |none=>rfl
   |some w=>
    rcases rA e with z|⟨z,_⟩
    ·rw[n1.2]at z;cases z
    ·let⟨j,a',nm,fs,N,P⟩:=EU z
     have Ug:i≠j:=λc=>by subst c;rw[g]at N;cases N;show b_ _ _ S
     show absurd P (E.dj i j a a' f _ g N Ug p Q)
  ·cases o with
   |lst ds=>cases u with
    |lst vs=>show RpL.same R be
    |_=>show be.elim
   |_=>cases u<;>show be
 ·let⟨a,f,p1,u,g,_,l,Q,_,_⟩:=ow hi;let⟨a',PU,p2,u',N,_,P,k3,_,_⟩:=ow hj;rw[si]at l;cases l;rw[sj]at P;cases P;rcases LA (i=j)with c|c
  ·show c
  ·show absurd k3 (E.dj i j a a' f PU g N c p Q)
end
section
variable{K:Â}{X:Cx}{e:Ã}
noncomputable def ye(t:TD):TX:=λρ R _=>t (eS ρ) λd=>NoL d/\R (.v d) ρ
def cr{t:TD}(h:PD K X e t):PX K X e (ye t):=⟨λj=>(h.pe j).imp λy H Q f=>by
 let⟨o,a,Φ,z,ρ,x,R,u,U,t,k⟩:=f;let⟨w,E⟩:=U.env;refine⟨a,_,eS ρ,_,E.view,t,λd p c v r g l=>?_⟩;have g':=jp E.fz g
 show k _ ρ _ c v r.2 ((U.gr g').pushV (l.thawN (view_same.trans g.f) r.1)) g'.f⟩
noncomputable def qg(t:aM):TX:=λρ R _=>t (eS ρ) λds=>(∀d∈ds,NoL d)/\R (.own ds) ρ
def sK{t:aM}(h:PF K X e t):PX K X e (qg t):=⟨λy=>(h.pe y).imp λL H Q o=>by
 let⟨F,j,Φ,M,ρ,J,R,G,U,t,k⟩:=o;let⟨I,E⟩:=U.env;refine⟨j,_,eS ρ,_,E.view,t,λds c l p vs r g B a A rl=>?_⟩;have g':=jp E.fz g;have f:=view_same.trans g.f
 have u:fJ Φ c p=ŗ:=by
  unfold fJ
  cases x:Φ p with
  |some w=>rw[f _ _ x]at a;cases a
  |none=>simp only;rw[a]
 refine k _ ρ _ l _ r.2 (U.pushO g' (.lst A ⟨rl.1,λi v d C hd=>(rl.2 i v d C hd).thawN f (r.1 d (Je hd))⟩) λb z=>by rw[Jk.mp z];show⟨B,u⟩) g'.f⟩
end
noncomputable def cR(f:Str)(x:Fl):Y (Str×Fl)->Y (Str×Fl)
 | []=>[(f,x)]
 |(g,y)::r=>if g=f then (g,x)::r else (g,y)::cR f x r
section
variable{K:Â}{Φ H a:Hp}{fs:Y (Str×Fl)}{vs:Y (Str×V)}{o:Y Addr}{f:Str}{ds es:Y D}{j:Y V}{d:D}{v:V}
def FlsR.look(h:FlsR K Φ H fs vs o)(nd:o.Nodup)(p:fs.lookup f=Z (.l ds)):∃q j,vs.lookup f=Z (.ref q)/\q∈o/\H q=Z (.lst j)/\RpL K Φ ds j /\
  ∀(a:Hp)(es:Y D)(w:Y V),(∀b∈o,b≠q->∀u,H b=Z u->a b=Z u)->a q=Z (.lst w)->RpL K Φ es w->FlsR K Φ a (cR f (.l es) fs) vs o:=by
 induction h with
 |nil=>cases p
 |v r t I=>
  rename_i g P T L M N;rw[JF]at p
  cases c:f==g with
  |true=>rw[c]at p;cases p
  |false=>
   rw[c]at p;let⟨q,j,C,B,E,F,G⟩:=I nd p;refine⟨q,j,by rw[JF,c];show C,B,E,F,λa es w x y A=>?_⟩;change FlsR K Φ a (if g=f then _ else _) _ _;rw[Jd λe=>by rw[e,JK]at c;cases c];show .v r (G a es w x y A)
 |l a1 a2 t I=>
  rename_i g P R O L M N;rw[JE]at nd;rw[JF]at p
  cases c:f==g with
  |true=>
   rw[c]at p;cases p;refine⟨O,R,by rw[JF,c],Ji,a1,a2,λa es w x y A=>?_⟩;change FlsR K Φ a (if g=f then _ else _) _ _;rw[Jj (eq_of_beq c).symm];show .l y A (t.keep (Same.refl _) λb J u Q=>x b (Jh _ J) (λz=>nd.1 (z▸J)) u Q)
  |false=>
   rw[c]at p;let⟨q,j,C,B,E,F,G⟩:=I nd.2 p;refine⟨q,j,by rw[JF,c];show C,Jh _ B,E,F,λa es w x y A=>?_⟩;change FlsR K Φ a (if g=f then _ else _) _ _;rw[Jd λe=>by rw[e,JK]at c;cases c];show .l (x O Ji (λz=>nd.1 (z▸B)) _ a1) a2 (G a es w (λb J=>x b (Jh _ J)) y A)
 |al t I=>
  rename_i g U L M N;rw[JF]at p
  cases c:f==g with
  |true=>rw[c]at p;cases p
  |false=>
   rw[c]at p;let⟨q,j,C,B,E,F,G⟩:=I nd p;refine⟨q,j,by rw[JF,c];show C,B,E,F,λa es w x y A=>?_⟩;change FlsR K Φ a (if g=f then _ else _) _ _;rw[Jd λe=>by rw[e,JK]at c;cases c];show .al (G a es w x y A)
noncomputable def iO(f:Str)(fs:Y (Str×Fl)):Bool:=match fs.lookup f with
 |none=>ř
 |some (.v _)=>ř
 |_=>Ś
def FlsR.setV(h:FlsR K Φ H fs vs o)(e:iO f fs=ř)(r:Rp K Φ d v):FlsR K Φ H (cR f (.v d) fs) (cE f v vs) o:=by
 induction h with
 |nil=>show .v r .nil
 |v A t p=>
  rename_i g y E u w x;change FlsR K Φ H (if g=f then _ else _) (if g=f then _ else _) _;by_cases c:g=f
  ·rw[Jj c,Jj c];show .v r t
  ·rw[Jd c,Jd c];refine .v A (p ?_);unfold iO at e ⊢;rw[JF,show (f==g)=Ś from Mw λz=>c z.symm]at e;show e
 |l a1 a2 t p=>
  rename_i g y F C u w x;change FlsR K Φ H (if g=f then _ else _) (if g=f then _ else _) _;by_cases c:g=f
  ·subst c;unfold iO at e;rw[JF,JK]at e;cases e
  ·rw[Jd c,Jd c];refine .l a1 a2 (p ?_);unfold iO at e ⊢;rw[JF,show (f==g)=Ś from Mw λz=>c z.symm]at e;show e
 |al t p=>
  rename_i g B u w x;change FlsR K Φ H (if g=f then _ else _) (if g=f then _ else _) _;by_cases c:g=f
  ·subst c;unfold iO at e;rw[JF,JK]at e;cases e
  ·rw[Jd c,Jd c];refine .al (p ?_);unfold iO at e ⊢;rw[JF,show (f==g)=Ś from Mw λz=>c z.symm]at e;show e
def FlsR.setL{q:Addr}(h:FlsR K Φ H fs vs o)(u:fs.lookup f=ŗ)(E:H q=Z (.lst j))(r:RpL K Φ ds j):FlsR K Φ H (cR f (.l ds) fs) (cE f (.ref q) vs) (o++[q]):=by
 have p:∀{g:Str}{y:Fl}{r:Y (Str×Fl)},List.lookup f ((g,y)::r)=ŗ->g≠f/\r.lookup f=ŗ:=λ{g y r} e=>by
  rw[JF]at e
  cases c:f==g with
  |true=>rw[c]at e;cases e
  |false=>rw[c]at e;show⟨(λz=>by rw[z,JK]at c;cases c),e⟩
 induction h with
 |nil=>show .l E r .nil
 |v F t w=>
  rename_i g C J x A B;let⟨c,u⟩:=p u;change FlsR K Φ H (if g=f then _ else _) (if g=f then _ else _) _;rw[Jd c,Jd c];show .v F (w u)
 |l a1 a2 t w=>
  rename_i g C L I x A B;let⟨c,u⟩:=p u;change FlsR K Φ H (if g=f then _ else _) (if g=f then _ else _) _;rw[Jd c,Jd c];show .l a1 a2 (w u)
 |al t w=>
  rename_i g G x A B;let⟨c,u⟩:=p u;change FlsR K Φ H (if g=f then _ else _) (if g=f then _ else _) _;rw[Jd c,Jd c];show .al (w u)
def FlsR.len(h:FlsR K Φ H fs vs o):vs.length=fs.length:=by have:=JY List.length h.names;rwa [IY,IY]at this
end
section
variable{K:Â}{X:Cx}{c h Φ H:Hp}{j l:St}{ρ o:ak}{w:XD->ak->Prop}{a:Ř Addr}{nm f:Str}{fs:Y (Str×Fl)}{ds:Y D}{i:Nat}{C:Addr}
def EnvM.flist(E:EnvM K h Φ H j ρ)(g:Gr c h Φ H)(L:Ò K Á nm=Z (Z (.ref C)))(hi:ρ[i]?=Z (Z (.ob a (.obj nm fs))))(be:fs.lookup f=Z (.l ds)):∃p y vs q x,j[i]?=Z (Z (.ref p))/\H p=Z (.ins C y vs)/\vs.lookup f=Z (.ref q)/\H q=Z (.lst x)/\RpL K Φ ds x /\
  ∀(es:Y D)(v:Y V),RpL K Φ es v->EnvM K h Φ (ao H q (.lst v)) j (ρ.set i (Z (.ob a (.obj nm (cR f (.l es) fs)))))/\Gr c h Φ (ao H q (.lst v)):=by
 let⟨J,E⟩:=E;let⟨p,e,_,r⟩:=E.ow i a _ hi;let⟨C',y,vs,qs,I,F,G,R,nd⟩:=r.obj_inv;rw[L]at F;cases F;rw[JE]at nd;let⟨q,x,a_,O,b_,l4,l5⟩:=R.look nd.2 be
 have B:q∈J i:=by rw[I];show Jh _ O
 have A:p≠q:=λz=>nd.1 (z▸O);refine⟨p,y,vs,q,x,e,G,a_,b_,l4,λes v Q=>?_⟩
 have M:∀b u,H b=Z u->b∉J i->ao H q (.lst v) b=Z u:=λb u e T=>by
  rw[aR λz=>T (by rw[z];show B)];show e
 refine⟨⟨_,E.put hi e M (F':=p::qs) (.obj L ((aR A).trans G) (l5 _ es v (λb N P u U=>by rw[aR P];show U) bh Q) (JE.mpr nd)) λb N=>.inl (by rw[I];show N)⟩,E.grput g hi M⟩
def StM.flist(Q:StM K X c h Φ H j l ρ o w)(G:Ò K Á nm=Z (Z (.ref C)))(hi:ρ[i]?=Z (Z (.ob a (.obj nm fs))))(I:fs.lookup f=Z (.l ds)):∃p x vs q u,j[i]?=Z (Z (.ref p))/\H p=Z (.ins C x vs)/\vs.lookup f=Z (.ref q)/\H q=Z (.lst u)/\RpL K Φ ds u /\
  ∀(es:Y D)(g:Y V),RpL K Φ es g->StM K X c h Φ (ao H q (.lst g)) j l (ρ.set i (Z (.ob a (.obj nm (cR f (.l es) fs))))) o w:=by
 have v:=aA hi;let⟨p,x,vs,q,u,e,z,A,B,E,F⟩:=Q.E.flist (i:=i) Q.g G (by rw[I0 v];show hi) I;rw[I0 (by rw[←Q.l];show v)]at e;refine⟨p,x,vs,q,u,e,z,A,B,E,λes g r=>?_⟩;let⟨y,J⟩:=F es g r;refine⟨J,by rw[Jc];show Q.l,?_,Q.x⟩;rw[KY _ _ v]at y;show y
def EnvM.fsetV{d:D}{v:V}(E:EnvM K h Φ H j ρ)(g:Gr c h Φ H)(J:Ò K Á nm=Z (Z (.ref C)))(hi:ρ[i]?=Z (Z (.ob a (.obj nm fs))))(O:iO f fs=ř)(r:Rp K Φ d v):∃p x vs,j[i]?=Z (Z (.ref p))/\H p=Z (.ins C x vs)/\vs.length=fs.length /\
  EnvM K h Φ (ao H p (.ins C x (cE f v vs))) j (ρ.set i (Z (.ob a (.obj nm (cR f (.v d) fs)))))/\Gr c h Φ (ao H p (.ins C x (cE f v vs))):=by
 let⟨I,E⟩:=E;let⟨p,e,_,U⟩:=E.ow i a _ hi;let⟨T,x,vs,R,G,B,N,F,nd⟩:=U.obj_inv;rw[J]at B;cases B
 have M:p∈I i:=by rw[G];show Ji
 have L:∀b u,H b=Z u->b∉I i->ao H p (.ins C x (cE f v vs)) b=Z u:=λb u e P=>by
  rw[aR λz=>P (by rw[z];show M)];show e
 have A:=nd;rw[JE]at A;refine⟨p,x,vs,e,N,F.len,⟨_,E.put hi e L (F':=p::R) (.obj J bh ((F.setV O r).keep (Same.refl _) λb y u Q=>by rw[aR (show b≠p from λz=>A.1 (by rw[←z];show y))];show Q) nd) λb y=>.inl (by rw[G];show y)⟩,E.grput g hi L⟩
end
noncomputable def nc(ρ:ak)(i:Nat)(nm f:Str)(k:Ř Addr->Y (Str×Fl)->Y D->Prop):Prop:=∃a fs ds,ρ[i]?=Z (Z (.ob a (.obj nm fs)))/\fs.lookup f=Z (.l ds)/\k a fs ds
section
variable{K:Â}{X:Cx}{e a b:Ã}{z:TX}{t tb:TD}{u h o y l A:Ö}{x nm f:Str}{C:Addr}
noncomputable def AZ(i:Nat)(nm f:Str)(t:TD):bC:=λc ρ=>nc ρ i nm f λa fs ds=>t (eS ρ) λd=>NoL d/\ds.length<sizeLine/\NF (cR f (.l (ds++[d])) fs) λg=>c.nx (ρ.set i (Z (.ob a (.obj nm g))))
def qT(i:Nat)(c:Cls K C)(nA:NoAttr K C f)(O:Ò K Á nm=Z (Z (.ref C)))(he:PD K X e t)(OA:((backTo y (starEach [e] X.env)).all (λx=>!x.1)&&(Þ y (Ô [] X.env)).all (λx=>x.1.isSome)&&decide (([e]:Y Ã).length+([]:Y Ù).length+(if ([]:Y Ù).isEmpty then 0 else 1)<30))=ř)
  (w:starEach [e] X.env=(Ś,eval e X.env)::starEach [] X.env) (hN:X.N[i]?=Z x:=by rfl) (hv:cH X.env.scope x:=by nofun) (hd:ab x:=by decide) (a_:fI x:=by decide)
  (Rk:Ë (.Name x h) f X.env (eval (.Name x h) X.env)=eval (.Name x h) X.env:=by rfl)
  (b_:Ë (.Attribute (.Name x h) f l) "append" X.env (eval (.Attribute (.Name x h) f l) X.env)=eval (.Attribute (.Name x h) f l) X.env:=by rfl) (NZ:(o.endLine==y.line)=ř:=by rfl) (hs:Î (.Call (.Attribute (.Attribute (.Name x h) f l) "append" o) [e] [] y) ŗ u.line X.env=pure Ś:=by rfl) :
  PSM K X (.Expr (.Call (.Attribute (.Attribute (.Name x h) f l) "append" o) [e] [] y) u) (AZ i nm f t):=
 ⟨λP=>(jQ (j7 KJ LY LZ oy (lx P (pv i hN hv hd a_) Rk) (eM (he.pe P) pa_nil w) b_ OA NZ w ae) hs).imp λE σ H Nx=>by
  let⟨Φ0,T,Φ,ρ,De,g,V,⟨a0,Oy,Vi,R,Q,t⟩,k⟩:=Nx;have be:=de g V k.ex;let⟨p,dx,vs,q,ws,L,M,N,h3,rl,_⟩:=be.flist O R Q;let⟨fp,E0⟩:=id V;refine⟨_,L,p,C,dx,vs,.ref q,S,M,c,nA,N,.inl ⟨S,ws,SqL.of h3⟩,T,_,eS ρ,_,E0.view,t,λd Φ1 H1 v r j rv=>?_⟩;have S1:=be.gr (jp E0.fz j);let⟨p',Vj,Vk,q',U,I,F,B,QT,G,k1⟩:=S1.flist O R Q;rw[L]at I;cases I;rw[j.h _ _ M]at F;cases F;rw[N]at B;cases B;have J:=k1 _ _ (G.append (.one (rv.thawN (view_same.trans j.f) r.1)))
  show⟨q,U,v,S,S,QT,by rw[G.1];show r.2.1,k.nx _ _ _ σ r.2.2.get J.g J.env⟩⟩
noncomputable def Bn(i:Nat)(nm f:Str)(t:TD):TX:=λρ R _=>nc ρ i nm f λa fs ds=>t (eS ρ) λn=>∃(j:Nat)(d:D),n=.int (j:Int)/\j<2^62/\ds[j]?=Z d/\NF (cR f (.l (ds.eraseIdx j)) fs) λc=>R (.v d) (ρ.set i (Z (.ob a (.obj nm c))))
def wv(i:Nat)(c:Cls K C)(nA:NoAttr K C f)(O:Ò K Á nm=Z (Z (.ref C)))(he:PD K X e t)(OA:((backTo y (starEach [e] X.env)).all (λx=>!x.1)&&(Þ y (Ô [] X.env)).all (λx=>x.1.isSome)&&decide (([e]:Y Ã).length+([]:Y Ù).length+(if ([]:Y Ù).isEmpty then 0 else 1)<30))=ř)
  (B:starEach [e] X.env=(Ś,eval e X.env)::starEach [] X.env) (hN:X.N[i]?=Z x:=by rfl) (g:cH X.env.scope x:=by nofun) (hd:ab x:=by decide) (NI:fI x:=by decide)
  (Rk:Ë (.Name x h) f X.env (eval (.Name x h) X.env)=eval (.Name x h) X.env:=by rfl)
  (NY:Ë (.Attribute (.Name x h) f l) "pop" X.env (eval (.Attribute (.Name x h) f l) X.env)=eval (.Attribute (.Name x h) f l) X.env:=by rfl) (NZ:(o.endLine==y.line)=ř:=by rfl):PX K X (.Call (.Attribute (.Attribute (.Name x h) f l) "pop" o) [e] [] y) (Bn i nm f t):=
 ⟨λP=>(j7 KJ PySem.F.slot_list_pop PySem.F.type_list_pop AA (lx P (pv i hN g hd NI) Rk) (eM (he.pe P) pa_nil B) NY OA NZ B ae).imp λσ H Q Nx=>by
  let⟨Φ0,a_,Φ,τ,ρ,κ,R,Rx,be,⟨a0,Oy,Vi,U,T,t⟩,k⟩:=Nx;let⟨p,dx,vs,q,ws,J,M,N,h3,rl,_⟩:=be.flist O U T;let⟨fp,E0⟩:=be.env;refine⟨_,J,p,C,dx,vs,.ref q,S,M,c,nA,N,.inl ⟨S,ws,SqL.of h3⟩,a_,_,eS ρ,_,E0.view,t,λn Φ1 H1 v r L w=>?_⟩;let⟨j,d,rfl,h62,hj,r⟩:=r;obtain rfl:=w.i;have g':=jp E0.fz L;have S1:=be.gr g';let⟨p',Vj,Vk,q',b_,I,F,E,QT,G,k1⟩:=S1.flist O U T;rw[J]at I;cases I;rw[L.h _ _ M]at F;cases F;rw[N]at E;cases E;let⟨v,g,w⟩:=G.at hj;have S2:=k1 _ _ (G.eraseIdx j)
  show⟨q,b_,_,j,v,S,S,QT,(),(),CH (aA g),g,k _ _ _ _ v r.get (S2.pushV w) g'.f⟩⟩
noncomputable def Co(i:Nat)(nm f:Str)(z:TX)(tb:TD):bC:=λg ρ=>z ρ (xV λd c=>nc c i nm f λa fs ds=>tb (eS c) λr=>∃n j,r=.int n/\gu ds.length n=Z j/\NF (cR f (.l (ds.set j d)) fs) λp=>g.nx (c.set i (Z (.ob a (.obj nm p))))) g.ex
def iP(i:Nat)(c:Cls K C)(nA:NoAttr K C f)(b_:Ò K Á nm=Z (Z (.ref C)))(he:PX K X e z)(hk:PD K X b tb)(hN:X.N[i]?=Z x:=by rfl)(hv:cH X.env.scope x:=by nofun)(hd:ab x:=by decide)(NI:fI x:=by decide)
  (Rk:Ë (.Name x h) f X.env (eval (.Name x h) X.env)=eval (.Name x h) X.env:=by rfl)
  (ha:∀v,assign (.Subscript (.Attribute (.Name x h) f l) b A) X.env v=(do
   let ov ←holding [v] (eval (.Attribute (.Name x h) f l) X.env)
   let iv ←holding [v,ov] (eval b X.env)
   standAt A
   holding [v,ov,iv] (setItem ov iv v)
   release [v,ov,iv] []):=by intro _;rfl)
  (hs:è [.Subscript (.Attribute (.Name x h) f l) b A] e u.line X.env=pure Ś:=by rfl) (hw:é [.Subscript (.Attribute (.Name x h) f l) b A] e X.env=pure ŗ:=by rfl)
  (F:(Æ [.Subscript (.Attribute (.Name x h) f l) b A] X.env).map (·.2)=[assign (.Subscript (.Attribute (.Name x h) f l) b A) X.env]:=by rfl) :
  PSM K X (.Assign [.Subscript (.Attribute (.Name x h) f l) b A] e u) (Co i nm f z tb):=
 ⟨λG=>(mG (he.pe G) (tE (lx G (pv i hN hv hd NI) Rk) (hk.pe G) rO ha) hs hw F).imp λE σ H Nx=>by
  let⟨L,N,Φ,ρ,De,g,V,t,k⟩:=Nx;refine⟨L,N,Φ,[],ρ,[],_,De.ex,de g V k.ex,t,λs M Φ1 H1 v r B _=>?_⟩;let⟨d,rfl,a0,Oy,Vi,ho,hf,r⟩:=r.get;have rv:=B.last;let⟨p,dx,vs,q,ws,T,F,a_,h3,rl,_⟩:=B.flist b_ ho hf;let⟨fp,E0⟩:=B.env;refine⟨_,T,p,C,dx,vs,.ref q,S,F,c,nA,a_,N,_,eS M,_,E0.view,r,λn Φ2 H2 w I U J=>?_⟩;let⟨n,j,rfl,hj,I⟩:=I;obtain rfl:=J.i;have g':=jp E0.fz U;have S2:=B.gr g';let⟨p',Vj,Vk,q',N5,R,P,O,QT,Q,k1⟩:=S2.flist b_ ho hf;rw[T]at R;cases R;rw[U.h _ _ F]at P;cases P;rw[a_]at O;cases O;have be:=k1 _ _ (Q.set (rv.same g'.f) j)
  show⟨q,N5,n,j,S,S,QT,by rw[Q.1];show hj,k.nx _ _ _ σ I.get be.g be.env⟩⟩
noncomputable def xY(i:Nat)(nm f:Str)(z:TX):bC:=λg ρ=>z ρ (xV λd c=>∃a fs,c[i]?=Z (Z (.ob a (.obj nm fs)))/\iO f fs=ř/\fs.length<1000/\NF (cR f (.v d) fs) λj=>g.nx (c.set i (Z (.ob a (.obj nm j))))) g.ex
def eW(i:Nat)(c:Cls K C)(nA:NoAttr K C f)(R:Ò K Á nm=Z (Z (.ref C)))(U:PX K X e z)(be:X.N[i]?=Z x:=by rfl)(hv:cH X.env.scope x:=by nofun)(hd:ab x:=by decide)(L:fI x:=by decide)
  (hs:Î e (Z (.Attribute (.Name x h) f l)) u.line X.env=pure Ś:=by rfl):PSM K X (.Assign [.Attribute (.Name x h) f l] e u) (xY i nm f z):=
 ⟨λw=>(qL (f:=f) (pv i be hv hd L) (U.pe w) hs).imp λE σ H M=>by
  let⟨B,J,Φ,ρ,G,g,V,t,k⟩:=M;refine⟨B,J,Φ,[],ρ,[],_,G.ex,de g V k.ex,t,λs ρ1 F H1 v r j _=>?_⟩;let⟨d,rfl,a0,Oy,b_,T,a_,r⟩:=r.get;let⟨p,N,vs,O,P,Q,I,g'⟩:=j.env.fsetV (f:=f) j.g R b_ T j.last
  show⟨_,O,p,C,N,vs,S,P,w▸c,w▸nA,by rw[Q];show a_,k.nx _ F _ σ r.get g' I⟩⟩
end
def FlsR.lookN{K:Â}{Φ H:Hp}{fs:Y (Str×Fl)}{vs:Y (Str×V)}{u:Y Addr}{f:Str}(h:FlsR K Φ H fs vs u)(j:fs.lookup f=ŗ):vs.lookup f=ŗ:=by
 have a:∀{p:Type}{g:Str}{y:p}{r:Y (Str×p)},List.lookup f ((g,y)::r)=ŗ->(f==g)=Ś/\r.lookup f=ŗ:=λ{p g y r} e=>by
  rw[JF]at e
  cases c:f==g with
  |true=>rw[c]at e;cases e
  |false=>rw[c]at e;show⟨S,e⟩
 induction h with
 |nil=>rfl
 |v r t o=>let⟨c,j⟩:=a j;rw[JF,c];show o j
 |l a1 a2 t o=>let⟨c,j⟩:=a j;rw[JF,c];show o j
 |al t o=>let⟨c,j⟩:=a j;rw[JF,c];show o j
structure MthM(P:Å)(w:È)(K:Â)(mg:Str->Option Value)(base:Heap)(n:Nat)(C:Addr)(m:Str)(ps:List Str)(z:dW):Prop where
 ex:∃(f:Addr)(fd:Í),FnOk P w K mg base aE n f fd ps (lSpM K z)/\Binds K fd ps []/\Meth K C m f
structure MkM(P:Å)(w:È)(K:Â)(mg:Str->Option Value)(base:Heap)(n:Nat)(C:Addr)(ps:List Str)(z:dW):Prop where
 ex:∃(f:Addr)(fd:Í),FnOk P w K mg base aE n f fd ps (lSpM K z)/\Binds K fd ps []/\Mk K C f
section
variable{K:Â}{X:Cx}{e:Ã}{es:Y Ã}{g p j w:Ö}{l:db}{C:Addr}{nm m x:Str}
noncomputable def GL(i:Nat)(nm m:Str)(z:dW)(l:db):TX:=λρ R f=>(∃a fs,ρ[i]?=Z (Z (.ob a (.obj nm fs)))/\fs.lookup m=ŗ)/\l ρ (λas c=>CallM z R f (.s i::as) c) f
def eQ(i:Nat){n:Nat}{ps:Y Str}{z:dW}{pl:Sem Bool}(M:MthM X.prog X.w K X.mg X.base n C m ps z)(hr:Room n X.A)(c:Cls K C)(hC:Ò K Á nm=Z (Z (.ref C)))
  (ha:PXA K X (e::es) l) (he:starEach (e::es) X.env=(Ś,eval e X.env)::starEach es X.env) (NV:(backTo g (starEach es X.env)).any (·.1)=Ś)
  (ht:eval (.Call (.Attribute (.Name x w) m j) (e::es) [] g) X.env=(do
   let ov ←eval (.Name x w) X.env
   standAt j.atName
   let (f,first) ←holding [ov] (getMethod ov m pl)
   callWith g f first (backTo g (starEach (e::es) X.env)) (Þ g (Ô [] X.env))):=by rfl)
  (hN:X.N[i]?=Z x:=by rfl) (A:cH X.env.scope x:=by nofun) (hd:ab x:=by decide) (b_:fI x:=by decide) :
  PX K X (.Call (.Attribute (.Name x w) m j) (e::es) [] g) (GL i nm m z l):=⟨λh=>by
 let⟨f,fd,F,b,hm⟩:=M.ex;refine (we (dvs:=[]) (ds:=[]) (E:=E0) (pl:=pl) (pv i hN A hd b_) (h▸c) (h▸hm) (h▸F:FnOk X.prog X.w X.K X.mg X.base aE n f fd ps (lSpM K z)) hr (h▸b) .nil jZ (ha.pa h) he NV ht).imp λσ H Q Nx=>?_;let⟨G,T,Φ,τ,ρ,κ,R,Rx,be,⟨⟨a,fs,y,O⟩,t⟩,k⟩:=Nx;let⟨fp,E⟩:=be.env;let⟨q,N,_,ro⟩:=E.ow i a _ y;let⟨C',dx,vs,qs,eF,L,c2,c3,nd⟩:=ro.obj_inv;rw[hC]at L;cases L;refine⟨_,N,q,dx,vs,S,c2,c3.lookN O,G,T,Φ,τ,ρ,κ,_,Rx,be,t,λas ρ1 I H1 us ts B O A u f1=>?_⟩;let⟨U,Qw,PH,B⟩:=B;let⟨P,g1,g2,g3,g4⟩:=u.lend (as:=.s i::as) be.lk Qw (.s N A) PH;rw[JM]
 show⟨I,U,P,_,_,u.g.s,u.E.tb,g1,g2,g3,B,λsm os o J v F a_ r gr NX y hn OH=>k sm _ o J v r (g4 sm os o J v F a_ gr NX y hn OH) (f1.trans gr.f)⟩⟩
noncomputable def Ez(nm:Str)(z:dW)(l:db):TX:=λρ R c=>l ρ (xaD λds a=>z (.ob ŗ (.obj nm [])::ds.map Sm.v) (λsm os=>match sm,os with|.v .non,[o]=>R (.ob ŗ o) a|_,_=>False) (λ_ _=>False)) c
def uC{Φ H:Hp}:∀{ds:Y D}{vs:Y V},RpL K Φ ds vs->ArgM K Φ H (ds.map Sm.v) vs (ds.map λ_=>[])
 | [],[],_=>.nil
 | [],_::_,h=>by cases h.1
 |_::_,[],h=>by cases h.1
 |d::ds,v::vs,h=>.v (h.2 0 v d S S) (uC ⟨by have:=h.1;simpa using this,λi c d' a hd=>h.2 (i+1) c d' a hd⟩)
def vA{Φ H:Hp}:∀{ds:Y D}{vs:Y V}{os:Y Om}{a:Y (Y Addr)},OutM K Φ H (ds.map Sm.v) vs os a->os=[]/\a.flatten=[]
 | [],_,_,_,.nil=>⟨S,S⟩
 |_::ds,_,_,_,.v h=>by let⟨c,f⟩:=vA (ds:=ds) h;show⟨c,by rw[JS,f];rfl⟩
def lK{a c:Type}:∀(ds:Y a),(ds.map λ_=>([]:Y c)).flatten=[]
 | []=>rfl
 |_::ds=>by rw[JB,JS,lK ds];rfl
def sF{n:Nat}{ps:Y Str}{z:dW}(M:MkM X.prog X.w K X.mg X.base n C ps z)(hr:Room (n+1) X.A)(hg:Gl X x)(hm:X.mg x=Z (.ref C))(hC:Ò K Á x=Z (Z (.ref C)))
  (ha:PXA K X (e::es) l) (he:starEach (e::es) X.env=(Ś,eval e X.env)::starEach es X.env) (NV:(backTo g (starEach es X.env)).any (·.1)=Ś) (O0:ab x:=by decide) :
  PX K X (.Call (.Name x p) (e::es) [] g) (Ez x z l):=⟨λL=>by
 let⟨f,fd,F,b,mk⟩:=M.ex;refine (At (dvs:=[]) (ds:=[]) (E:=E0) (L▸mk) (L▸F:FnOk X.prog X.w X.K X.mg X.base aE n f fd ps (lSpM K z)) hr hg hm (L▸b) .nil jZ (ha.pa L) O0 he NV).imp λσ H Q Nx=>?_;let⟨U,H0,Φ,τ,ρ,κ,R,Rx,be,t,k⟩:=Nx;refine⟨U,H0,Φ,τ,ρ,κ,_,Rx,be,t,λas a_ J a vs ts T hl hv h f1=>?_⟩;let⟨ds,hd,T⟩:=T.get;have rl:=h.vals be.lk hd hv;intro y A O B NT;rw[JM]
 have G:∀b u,a b=Z u->ao (ao a A (.own y)) y (.ins C A []) b=Z u:=λb u e=>by rw[aR (cU e O),aR (cU e B)];show e
 refine⟨J,_,_,_,_,λb u e=>G b u (h.g.s b u e),h.E.tb,.o (.obj hC bh .nil (by simp)) (uC rl),?_,λb N=>?_,T,λsm os I b_ v F N8 r gr NX ho hn OH=>?_⟩
 ·rw[JS,lK];simp
 ·rw[JS,lK,JM,Jk]at N;rw[N];show h.g.s.free O
 ·split at r
  ·next o=>
   cases NX with
   |v rv=>
    obtain rfl:=rv.n
    cases ho with
    |o Qx OL=>
     rename_i F' N8;let⟨_,eF⟩:=vA OL
     have P:(([y]:Y Addr)::ds.map λ_=>([]:Y Addr)).flatten=[y]:=by rw[JS,lK];rfl
     rw[P]at gr OH
     have up:∀b u,a b=Z u->b8 (ao (ao a A (.own y)) y (.ins C A [])) [y] b=Z u:=λb u e=>by rw[gJ λz=>cU e O (Jk.mp z)];show G b u e
     have g':Gr J a I b_:=⟨gr.f,λb u e=>gr.h b u (up b u e),gr.s,λb u h1 h2 k=>gr.o b u (up b u h1) h2 k⟩;refine⟨S,k _ a_ I b_ _ r ((h.pop be.lk).pushO g' Qx λb N=>?_) (f1.trans gr.f)⟩;let⟨z1,z2⟩:=OH b (by rw[LM,JS];show JH.mpr (.inl N));refine⟨?_,z2⟩;by_cases c:b=y
     ·rw[c];show O
     ·rw[gJ (by simpa using c),aR c]at z1;by_cases c2:b=A
      ·rw[c2];show B
      ·rwa [aR c2]at z1
  ·show r.elim⟩
end
section
variable{K:Â}{y H B Φ A:Hp}{w:St}{ρ:ak}{l:Nat->Y Addr}{F':Y Addr}{o o':Om}{p:Addr}{d:D}{v:V}{i:Nat}{a:Ř Addr}
def EnvM'.put2(E:EnvM' K y Φ H w ρ l)(hi:ρ[i]?=Z (Z (.ob a o)))(R:w[i]?=Z (Z (.ref p)))(O:∀b u,H b=Z u->b∉l i->B b=Z u)(T:OmS K Φ B o' p F')(N:∀b∈F',b∈l i\/(y b=ŗ/\Φ b=ŗ/\∀(j:Nat)(a':Ř Addr)(g:Om),ρ[j]?=Z (Z (.ob a' g))->b∉l j)) :
  EnvM' K y Φ B w (ρ.set i (Z (.ob a o'))) (λj=>if j=i then F' else l j):=by
 have b_:=aA hi
 have J:∀{j:Nat}{x:Sm},(ρ.set i (Z (Sm.ob a o')))[j]?=Z (Z x)->(j=i/\x=.ob a o')\/(j≠i/\ρ[j]?=Z (Z x)):=λ{j x} h=>by
  rcases cG h with⟨e,_,be⟩|⟨e,h⟩
  ·cases be;show .inl ⟨e,S⟩
  ·show .inr ⟨e,h⟩
 have P:∀b∈F',∀(j:Nat)(a':Ř Addr)(g:Om),ρ[j]?=Z (Z (.ob a' g))->j≠i->b∉l j:=λb f j a' g C c z=>by
  rcases N b f with h|⟨_,_,h⟩
  ·show E.dj j i a' a g o C hi c b z h
  ·show h j a' g C z
 refine⟨λb u e=>O b u (E.fz b u e) λz=>?_,by rw[Jc,E.len],λj d h=>?_,λj a' g h=>?_,λj a' g h b f=>?_,λj k a1 a2 Q g C F c b f I=>?_,E.tb⟩
 ·rw[(E.no i a o hi b z).2]at e;cases e
 ·rcases J h with⟨_,h⟩|⟨_,h⟩
  ·cases h
  ·show E.sl j d h
 ·rcases J h with⟨c,h⟩|⟨c,h⟩
  ·cases h;subst c;let⟨q,e,M,_⟩:=E.ow j a o hi;rw[R]at e;cases e;show⟨p,R,M,by rw[Jj S];show T⟩
  ·let⟨q,e,M,r⟩:=E.ow j a' g h;refine⟨q,e,M,?_⟩;rw[Jd c];show r.keep (Same.refl _) λb f u U=>O b u U λz=>E.dj j i a' a g o h hi c b f z
 ·rcases J h with⟨c,h⟩|⟨c,h⟩
  ·rw[Jj c]at f;rcases N b f with z|⟨X,a_,_⟩
   ·show E.no i a o hi b z
   ·show⟨X,a_⟩
  ·rw[Jd c]at f;show E.no j a' g h b f
 ·rcases J C with⟨L,C⟩|⟨L,C⟩
  ·rw[Jj L]at f;rcases J F with⟨G,F⟩|⟨G,F⟩
   ·omega
   ·rw[Jd G]at I;show P b f k a2 g F G I
  ·rw[Jd L]at f;rcases J F with⟨G,F⟩|⟨G,F⟩
   ·rw[Jj G]at I;show P b I j a1 Q C L f
   ·rw[Jd G]at I;show E.dj j k a1 a2 Q g C F c b f I
def EnvM.fsetL{nm f:Str}{fs:Y (Str×Fl)}{ds:Y D}{C:Addr}{a':Ř Addr}(E:EnvM K y Φ H (w++[Z v]) (ρ++[Z (.ob a' (.lst ds))]))(b_:ρ.length=w.length)(g:Gr A y Φ H)(U:Ò K Á nm=Z (Z (.ref C)))(hi:ρ[i]?=Z (Z (.ob a (.obj nm fs))))(P:fs.lookup f=ŗ):∃p F vs,w[i]?=Z (Z (.ref p))/\H p=Z (.ins C F vs)/\vs.length=fs.length /\
  EnvM K y Φ (ao H p (.ins C F (cE f v vs))) w (ρ.set i (Z (.ob a (.obj nm (cR f (.l ds) fs)))))/\Gr A y Φ (ao H p (.ins C F (cE f v vs))):=by
 let⟨l,E⟩:=E
 have L:(ρ++[Z (Sm.ob a' (.lst ds))])[ρ.length]?=Z (Z (.ob a' (.lst ds))):=by rw[IZ (Jg _),JL];rfl
 let⟨q,eq,_,rq⟩:=E.ow _ _ _ L
 have ev:v=.ref q:=by rw[b_,IZ (Jg _),JL]at eq;cases eq;rfl
 subst ev;let⟨O,ws,q1,q2⟩:=rq.lst_inv
 have hq:q∈l ρ.length:=by rw[O];show Jk.mpr S
 have I:=E.no _ _ _ L q hq
 have up:∀{j:Nat}{x:Sm},ρ[j]?=Z (Z x)->(ρ++[Z (Sm.ob a' (.lst ds))])[j]?=Z (Z x):=λh=>by rw[I0 (aA h)];show h
 have G:∀(j:Nat)(a2:Ř Addr)(Q:Om),ρ[j]?=Z (Z (.ob a2 Q))->q∉l j:=λj a2 Q a_ z=>E.dj j ρ.length a2 a' Q _ (up a_) L (by have:=aA a_;omega) q z hq;have J:EnvM' K y Φ H w ρ l:=E.take b_;let⟨p,e,_,ro⟩:=J.ow i a _ hi;let⟨C',F,vs,R,N,be,c2,T,nd⟩:=ro.obj_inv;rw[U]at be;cases be
 have S7:p∈l i:=by rw[N];show Ji
 have X:∀b u,H b=Z u->b∉l i->ao H p (.ins C F (cE f (.ref q) vs)) b=Z u:=λb u e hn=>by
  rw[aR λz=>hn (by rw[z];show S7)];show e
 have Qu:=nd;rw[JE]at Qu
 have U1:q∉p::R:=by rw[←N];show G i a _ hi
 have M:(p::(R++[q])).Nodup:=by rw[←List.cons_append,Kn];show⟨nd,by simp,λb r c P z=>by rw[Jk.mp P]at z;show U1 (z▸r)⟩
 refine⟨p,F,vs,e,c2,T.len,⟨_,J.put2 hi e X (F':=p::(R++[q])) (.obj U bh ((T.setL P q1 q2).keep (Same.refl _) λb r u hu=>?_) M) λb r=>?_⟩,J.grput g hi X⟩
 ·rw[aR (show b≠p from λz=>?_)]
  ·show hu
  ·rw[JE]at M;show M.1 (by rw[←z];show r)
 ·rw[←List.cons_append]at r;rcases JH.mp r with r|r
  ·show .inl (by rw[N];show r)
  ·rw[Jk.mp r];show .inr ⟨I.1,I.2,G⟩
end
section
variable{K:Â}{X:Cx}{e a:Ã}{L:TX}{t:TD}{B A o J G:Ö}{x nm f:Str}{C:Addr}
noncomputable def yV(i:Nat)(nm f:Str)(L:TX):bC:=λg ρ=>L ρ (λs c=>match s with|.ob _ (.lst ds)=>(∃a fs,c[i]?=Z (Z (.ob a (.obj nm fs)))/\fs.lookup f=ŗ/\fs.length<1000/\NF (cR f (.l ds) fs) λh=>g.nx (c.set i (Z (.ob a (.obj nm h)))))|_=>False) g.ex
def iw(i:Nat)(c:Cls K C)(nA:NoAttr K C f)(Q:Ò K Á nm=Z (Z (.ref C)))(T:PX K X e L)(R:X.N[i]?=Z x:=by rfl)(hv:cH X.env.scope x:=by nofun)(hd:ab x:=by decide)(F:fI x:=by decide)
  (b_:Î e (Z (.Attribute (.Name x A) f G)) B.line X.env=pure Ś:=by rfl):PSM K X (.Assign [.Attribute (.Name x A) f G] e B) (yV i nm f L):=
 ⟨λj=>(qL (f:=f) (pv i R hv hd F) (T.pe j) b_).imp λE σ H I=>by
  let⟨l,z,Φ,ρ,w,g,V,t,k⟩:=I;refine⟨l,z,Φ,[],ρ,[],_,w.ex,de g V k.ex,t,λs ρ1 u H1 v r h _=>?_⟩;split at r
  ·next a1 ds=>
   let⟨a0,Oy,a_,be,U,r⟩:=r;let⟨p,M,vs,N,O,P,y,g'⟩:=EnvM.fsetL (f:=f) h.E h.l h.g Q a_ be;show⟨_,N,p,C,M,vs,S,O,j▸c,j▸nA,by rw[P];show U,k.nx _ u _ σ r.get g' y⟩
  ·show r.elim⟩
noncomputable def xw:V->Y V->Hp->VK->Prop:=λx vs H Q=>∃(l:Addr)(xs:Y V)(ns:Y Int)(i:Int)(k:Nat),x=.ref l/\vs=[.int i]/\H l=Z (.lst xs)/\xs=ns.map V.int/\ns[k]?=Z i/\(∀m<k,ns[m]?≠Z i)/\Q .non (ao H l (.lst (xs.eraseIdx k)))
def BQ:nq X "list.remove" xw:=by
 intro U s σ H x vs v us Q I rx rv h;let⟨l,xs,ns,i,k,rfl,rfl,P,ex,R,b_,q⟩:=h;cases rx;let⟨u,rfl,ru⟩:=rv.one;let⟨t,rfl⟩:=ru;let⟨z,its,n,r,be,e⟩:=I.lstM P;have S8:k<ns.length:=aA R
 have g:∀(m:Nat)(y:Value),its[m]?=Z y->∃j t',ns[m]?=Z j/\y=.int j t':=λm y p=>by
  have c:m<xs.length:=by rw[be];show aA p
  let⟨w,T,O⟩:=r.get (J2 c);rw[p]at T;cases T
  have QI:m<ns.length:=by rw[ex,IY]at c;show c
  have:xs[m]=V.int ns[m]:=by subst ex;simp
  rw[this]at O;let⟨t',rfl⟩:=O;show⟨_,t',J2 QI,S⟩
 have hsz:its.toArray.size=xs.length:=by rw[Jo,be]
 have M:k<its.toArray.size:=by rw[hsz,ex,IY];show S8
 refine Lh F.slot_list_remove ⟨_,e,S⟩ F.entry_list_remove (F.args_list_remove_2 _ _)
  (MeetsSeq.list_remove l its.toArray n (.int i t) (λy=>match y with|.int j _=>j==i|_=>Ś) (λy p=>?_) k M ?_ (λm c a_=>?_) (by rw[hsz];show z)) ⟨e,?_⟩
 ·rw[List.mem_toArray]at p;let⟨m,c⟩:=JX p;let⟨j,t',_,rfl⟩:=g m y c;show ĸ j i t' t
 ·let⟨j,t',E,N⟩:=g k _ (J2 (by rw[Jo]at M;show M));rw[R]at E;cases E;change (match its.toArray[k]with|.int j _=>j==i|_=>Ś)=ř;rw[List.getElem_toArray,N];show JK i
 ·let⟨j,t',E,N⟩:=g m _ (J2 (by rw[Jo]at c;show c));change (match its.toArray[m]with|.int j _=>j==i|_=>Ś)=Ś;rw[List.getElem_toArray,N];show Mw λz=>b_ m a_ (by rw[E,z])
 ·refine⟨.non,_,I.lset (NP:=its.eraseIdx k) P e ?_ (r.eraseIdx k) ?_,S,q⟩
  ·change its.toArray.eraseIdxIfInBounds k=(its.eraseIdx k).toArray;rw[Mm]
  ·have:=qQ xs k;omega
def lN{c g:Type}(f:c->g):∀(ns:Y c)(m:Nat),(ns.map f).eraseIdx m=(ns.eraseIdx m).map f
 | [],_=>rfl
 |_::_,0=>rfl
 |n::ns,m+1=>by change f n::(ns.map f).eraseIdx m=f n::(ns.eraseIdx m).map f;rw[lN f ns m]
def uH{Φ:Hp}:∀{ns:Y Int}{vs:Y V},RpL K Φ (ns.map D.int) vs->vs=ns.map V.int
 | [],[],_=>rfl
 | [],_::_,h=>by cases h.1
 |_::_,[],h=>by cases h.1
 |n::ns,v::vs,h=>by have c:=h.2 0 v (.int n) S S;obtain rfl:=c.i;rw[uH (ns:=ns) (vs:=vs) ⟨by have:=h.1;simpa using this,λi j d' g hd=>h.2 (i+1) j d' g hd⟩];rfl
noncomputable def zp(i:Nat)(nm f:Str)(t:TD):bC:=λc ρ=>nc ρ i nm f λa fs ds=>t (eS ρ) λd=>∃(ns:Y Int)(j:Int)(k:Nat),d=.int j/\ds=ns.map D.int/\ns[k]?=Z j/\(∀m<k,ns[m]?≠Z j)/\NF (cR f (.l ((ns.eraseIdx k).map D.int)) fs) λg=>c.nx (ρ.set i (Z (.ob a (.obj nm g))))
def Di(i:Nat)(c:Cls K C)(nA:NoAttr K C f)(T:Ò K Á nm=Z (Z (.ref C)))(he:PD K X e t)(OA:((backTo J (starEach [e] X.env)).all (λx=>!x.1)&&(Þ J (Ô [] X.env)).all (λx=>x.1.isSome)&&decide (([e]:Y Ã).length+([]:Y Ù).length+(if ([]:Y Ù).isEmpty then 0 else 1)<30))=ř)
  (w:starEach [e] X.env=(Ś,eval e X.env)::starEach [] X.env) (hN:X.N[i]?=Z x:=by rfl) (h:cH X.env.scope x:=by nofun) (hd:ab x:=by decide) (NI:fI x:=by decide)
  (Rk:Ë (.Name x A) f X.env (eval (.Name x A) X.env)=eval (.Name x A) X.env:=by rfl)
  (NY:Ë (.Attribute (.Name x A) f G) "remove" X.env (eval (.Attribute (.Name x A) f G) X.env)=eval (.Attribute (.Name x A) f G) X.env:=by rfl) (NZ:(o.endLine==J.line)=ř:=by rfl) (hs:Î (.Call (.Attribute (.Attribute (.Name x A) f G) "remove" o) [e] [] J) ŗ B.line X.env=pure Ś:=by rfl) :
  PSM K X (.Expr (.Call (.Attribute (.Attribute (.Name x A) f G) "remove" o) [e] [] J) B) (zp i nm f t):=
 ⟨λU=>(jQ (j7 KJ PySem.F.slot_list_remove PySem.F.type_list_remove BQ (lx U (pv i hN h hd NI) Rk) (eM (he.pe U) pa_nil w) NY OA NZ w ae) hs).imp λE σ H Nx=>by
  let⟨Φ0,H0,Φ,ρ,De,g,V,⟨a0,Oy,Vi,b_,a_,t⟩,k⟩:=Nx;have be:=de g V k.ex;let⟨p,dx,vs,q,ws,N,Q,R,h3,rl,_⟩:=be.flist T b_ a_;let⟨fp,E0⟩:=id V;refine⟨_,N,p,C,dx,vs,.ref q,S,Q,c,nA,R,.inl ⟨S,ws,SqL.of h3⟩,H0,_,eS ρ,_,E0.view,t,λd l H1 v r P rv=>?_⟩;let⟨ns,j,m,rfl,rfl,hm,OH,r⟩:=r;obtain rfl:=rv.i;have S1:=be.gr (jp E0.fz P);let⟨p',Vj,Vk,q',u,F,z,y,QT,QK,k1⟩:=S1.flist T b_ a_;rw[N]at F;cases F;rw[P.h _ _ Q]at z;cases z;rw[R]at y;cases y;have O:=uH QK
  have rE:RpL K (fJ Φ l) ((ns.eraseIdx m).map D.int) (u.eraseIdx m):=by
   rw[O];have:(ns.map L2.V.int).eraseIdx m=(ns.eraseIdx m).map L2.V.int:=lN _ ns m;rw[this];refine⟨by simp,λi v d h hd=>?_⟩;rw[Jm]at h hd
   cases M:(ns.eraseIdx m)[i]? with
   |none=>rw[M]at h;cases h
   |some n=>rw[M]at h hd;cases h;cases hd;show .int n
  have I:=k1 _ _ rE
  show⟨q,u,ns,j,m,S,S,QT,O,hm,OH,k.nx _ _ _ σ r.get I.g I.env⟩⟩
end
section
variable{K:Â}{B H Φ A:Hp}{F:St}{ρ:ak}{w:Nat->Y Addr}{a:Ř Addr}{nm:Str}{fs:Y (Str×Fl)}{ds:Y (Str×D)}{k:Nat}
def EnvM'.fzO(E:EnvM' K B Φ H F ρ w)(g:Gr A B Φ H)(M:ρ[k]?=Z (Z (.ob a (.obj nm fs))))(b_:eN fs=Z ds):∃p f,F[k]?=Z (Z (.ref p))/\(∀q,a=Z q->q=p)/\Rp K f (.obj nm ds) (.ref p)/\Gr A B f H/\Same Φ f/\EnvM' K B f H F (ρ.set k (Z (.v (.obj nm ds)))) w:=by
 let⟨p,J,a_,r⟩:=E.ow k a _ M;let⟨C,dx,vs,qs,P,T,U,X,_⟩:=r.obj_inv;have G:Same Φ (dU Φ H (w k)):=view_same;have N:∀b∈w k,∀u,H b=Z u->dU Φ H (w k) b=Z u:=λb y u hu=>vh y hu E.fz;let⟨k1,k2⟩:=uo b_ X G λb y=>N b (by rw[P];show Jh _ y);have Q:Rp K (dU Φ H (w k)) (.obj nm ds) (.ref p):=.obj T (N p (by rw[P];show Ji) _ U) k1 k2
 have R:∀{b:Addr},Φ b=ŗ->b∉w k->dU Φ H (w k) b=ŗ:=λ{b} l I=>by
  cases e:dU Φ H (w k) b with
  |none=>rfl
  |some u=>
   rcases rA e with z|⟨z,_⟩
   ·rw[l]at z;cases z
   ·show absurd z I
 have O:∀{j:Nat}{x:Sm},(ρ.set k (Z (Sm.v (.obj nm ds))))[j]?=Z (Z x)->(j=k/\x=.v (.obj nm ds))\/(j≠k/\ρ[j]?=Z (Z x)):=λ{j x} h=>by
  rcases cG h with⟨e,_,J⟩|⟨e,h⟩
  ·cases J;show .inl ⟨e,S⟩
  ·show .inr ⟨e,h⟩
 have L:∀{j:Nat}{a':Ř Addr}{o:Om},(ρ.set k (Z (Sm.v (.obj nm ds))))[j]?=Z (Z (.ob a' o))->j≠k/\ρ[j]?=Z (Z (.ob a' o)):=λ{j a' o} h=>by
  rcases O h with⟨_,z⟩|z
  ·cases z
  ·show z
 refine⟨p,_,J,a_,Q,⟨g.f.trans G,g.h,pc E.fz,λb u l I kk=>R (g.o b u l I kk) λz=>by rw[(E.no k a _ M b z).1]at l;cases l⟩,G,?_⟩;refine⟨pc E.fz,by rw[Jc,E.len],λj d h=>?_,λj a' o h=>?_,λj a' o h b y=>?_,λj j2 a1 a2 o1 o2 l I c=>E.dj j j2 a1 a2 o1 o2 (L l).2 (L I).2 c,E.tb.same G⟩
 ·rcases O h with⟨c,z⟩|⟨c,z⟩
  ·cases z;subst c;show⟨_,J,Q⟩
  ·let⟨v,e,r⟩:=E.sl j d z;show⟨v,e,r.same G⟩
 ·let⟨c,z⟩:=L h;let⟨q,e,be,r'⟩:=E.ow j a' o z;show⟨q,e,be,r'.keep G λ_ _ _ h=>h⟩
 ·let⟨c,z⟩:=L h;show⟨(E.no j a' o z b y).1,R (E.no j a' o z b y).2 (E.dj j k a' a o _ z M c b y)⟩
def FlsR.setA{vs:Y (Str×V)}{z:Y Addr}{f:Str}{p:Addr}{d:D}(h:FlsR K Φ H fs vs z)(j:fs.lookup f=Z (.al p))(r:Rp K Φ d (.ref p)):FlsR K Φ H (cR f (.v d) fs) vs z:=by
 induction h with
 |nil=>cases j
 |v E t o=>
  rename_i g C J u x y;rw[JF]at j
  cases c:f==g with
  |true=>rw[c]at j;cases j
  |false=>
   rw[c]at j;change FlsR K Φ H (if g=f then _ else _) _ _;rw[Jd λe=>by rw[e,JK]at c;cases c];show .v E (o j)
 |l a1 a2 t o=>
  rename_i g C L I u x y;rw[JF]at j
  cases c:f==g with
  |true=>rw[c]at j;cases j
  |false=>
   rw[c]at j;change FlsR K Φ H (if g=f then _ else _) _ _;rw[Jd λe=>by rw[e,JK]at c;cases c];show .l a1 a2 (o j)
 |al t o=>
  rename_i g G u x y;rw[JF]at j
  cases c:f==g with
  |true=>
   rw[c]at j;cases j;change FlsR K Φ H (if g=f then _ else _) _ _;rw[Jj (eq_of_beq c).symm];show .v r t
  |false=>
   rw[c]at j;change FlsR K Φ H (if g=f then _ else _) _ _;rw[Jd λe=>by rw[e,JK]at c;cases c];show .al (o j)
def FlsR.newA{vs:Y (Str×V)}{G:Y Addr}{f:Str}{p:Addr}(h:FlsR K Φ H fs vs G)(o:fs.lookup f=ŗ):FlsR K Φ H (cR f (.al p) fs) (cE f (.ref p) vs) G:=by
 have j:∀{g:Str}{y:Fl}{r:Y (Str×Fl)},List.lookup f ((g,y)::r)=ŗ->g≠f/\r.lookup f=ŗ:=λ{g y r} e=>by
  rw[JF]at e
  cases c:f==g with
  |true=>rw[c]at e;cases e
  |false=>rw[c]at e;show⟨(λz=>by rw[z,JK]at c;cases c),e⟩
 induction h with
 |nil=>show .al .nil
 |v J t u=>
  rename_i g I N x C E;let⟨c,o⟩:=j o;change FlsR K Φ H (if g=f then _ else _) (if g=f then _ else _) _;rw[Jd c,Jd c];show .v J (u o)
 |l a1 a2 t u=>
  rename_i g I O M x C E;let⟨c,o⟩:=j o;change FlsR K Φ H (if g=f then _ else _) (if g=f then _ else _) _;rw[Jd c,Jd c];show .l a1 a2 (u o)
 |al t u=>
  rename_i g L x C E;let⟨c,o⟩:=j o;change FlsR K Φ H (if g=f then _ else _) (if g=f then _ else _) _;rw[Jd c,Jd c];show .al (u o)
def EnvM.seal{j:Nat}{p:Addr}{l f:Str}{h:Y (Str×Fl)}(E:EnvM K B Φ H F ρ)(g:Gr A B Φ H)(v:j≠k)(O:ρ[k]?=Z (Z (.ob (Z p) (.obj nm fs))))(M:eN fs=Z ds)(N:ρ[j]?=Z (Z (.ob a (.obj l h))))(P:h.lookup f=Z (.al p)) :
  ∃c,Gr A B c H/\EnvM K B c H F ((ρ.set k (Z (.v (.obj nm ds)))).set j (Z (.ob a (.obj l (cR f (.v (.obj nm ds)) h))))):=by
 let⟨w,E⟩:=E;let⟨X,c,U,J,be,g',a_,o⟩:=E.fzO g O M;cases J p S
 have r:(ρ.set k (Z (Sm.v (.obj nm ds))))[j]?=Z (Z (.ob a (.obj l h))):=by rw[Jv (Kd v)];show N
 let⟨q,G,_,R⟩:=o.ow j a _ r;let⟨C,T,vs,Q,I,x,y,z,nd⟩:=R.obj_inv;show⟨c,g',_,o.put r G (λb u e _=>e) (F':=q::Q) (.obj x y (z.setA P be) nd) λb L=>.inl (by rw[I];show L)⟩
end
section
variable{K:Â}{X:Cx}{e a:Ã}{es:Y Ã}{J:TX}{I:TD}{G:aM}{l O A L N p:Ö}{x y nm f m:Str}{C:Addr}{B:Y Ç}{t:bC}
noncomputable def xK(j k:Nat)(f:Str)(t:bC):bC:=λh ρ=>∃a p nm fs ds g c,ρ[k]?=Z (Z (.ob (Z p) (.obj nm fs)))/\eN fs=Z ds/\ρ[j]?=Z (Z (.ob a (.obj g c)))/\c.lookup f=Z (.al p)/\t h ((ρ.set k (Z (.v (.obj nm ds)))).set j (Z (.ob a (.obj g (cR f (.v (.obj nm ds)) c)))))
def zk(j k:Nat)(f:Str)(h:PSsM K X B t)(z:j≠k:=by decide):PSsM K X B (xK j k f t):=⟨λR=>(h.ps R).imp λE U H v=>by
 let⟨o,u,Φ,ρ,r,g,V,⟨a,p,nm,fs,ds,T,a_,F,M,P,Q,t⟩,k⟩:=v;let⟨c,g',w⟩:=V.seal g z F M P Q
 show⟨o,u,c,_,r,g',w,t,k⟩⟩
noncomputable def C5(i k:Nat)(nm f:Str):bC:=λc ρ=>∃a fs a' o,ρ[i]?=Z (Z (.ob a (.obj nm fs)))/\ρ[k]?=Z (Z (.ob a' o))/\fs.lookup f=ŗ/\fs.length<1000/\∀p,(∀q,a'=Z q->q=p)->NF (cR f (.al p) fs) λg=>c.nx ((ρ.set k (Z (.ob (Z p) o))).set i (Z (.ob a (.obj nm g))))
def zd(i v:Nat)(c:Cls K C)(nA:NoAttr K C f)(hC:Ò K Á nm=Z (Z (.ref C)))(hN:X.N[i]?=Z x:=by rfl)(hv:cH X.env.scope x:=by nofun)(hd:ab x:=by decide)(NI:fI x:=by decide)
  (R:X.N[v]?=Z y:=by rfl) (a_:cH X.env.scope y:=by nofun) (T:ab y:=by decide) (Vn:fI y:=by decide) (F:i≠v:=by decide)
  (hs:Î (.Name y N) (Z (.Attribute (.Name x O) f L)) l.line X.env=pure Ś:=by rfl):PSM K X (.Assign [.Attribute (.Name x O) f L] (.Name y N) l) (C5 i v nm f):=
 ⟨λhK=>(qL (f:=f) (pv i hN hv hd NI) (pv v R a_ T Vn) hs).imp λE σ H Nx=>by
  let⟨Φ0,H0,Φ,ρ,De,g,⟨P,V⟩,⟨a,fs,a',o,U,b_,hc,hl,t⟩,k⟩:=Nx;let⟨p,e,_,ro⟩:=V.ow i a _ U;let⟨q,M,S0,ro2⟩:=V.ow _ a' _ b_;let⟨C',dx,vs,qs,eF,c1,c2,c3,nd⟩:=ro.obj_inv;rw[hC]at c1;cases c1
  have S7:p∈P i:=by rw[eF];show Ji
  have hH:∀b u,H b=Z u->b∉P i->ao H p (.ins C dx (cE f (.ref q) vs)) b=Z u:=λb u e hn=>by
   rw[aR λz=>hn (by rw[z];show S7)];show e
  have Qu:=nd;rw[JE]at Qu;refine⟨_,M,_,e,p,C,dx,vs,S,c2,hK▸c,hK▸nA,by rw[c3.len];show hl,?_⟩;refine k.nx _ Φ _ σ (t q S0).get (V.grput g U hH) ?_;have V2:=V.put U e hH (F':=p::qs) (o':=.obj nm (cR f (.al q) fs)) (.obj hC bh ((c3.newA hc).keep (Same.refl _) λb be u hu=>by rw[aR (show b≠p from λz=>Qu.1 (by rw[←z];show be))];show hu) nd) λb be=>.inl (by rw[eF];show be)
  have Q:(ρ.set i (Z (Sm.ob a (.obj nm (cR f (.al q) fs)))))[v]?=Z (Z (Sm.ob a' o)):=by rw[Jv F];show b_
  rw[List.set_comm _ _ (Kd F)];let⟨fz,len,sl,ow,no,dj,tb⟩:=V2;refine⟨λj=>if j=i then p::qs else P j,fz,by rw[Jc,len],λj d h=>?_,λj a1 r h=>?_,λj a1 r h=>?_,λj j2 a1 a2 r o2 hj Ve=>?_,tb⟩
  ·rcases cG h with⟨_,_,z⟩|⟨_,z⟩
   ·cases z
   ·show sl j d z
  ·rcases cG h with⟨w,_,z⟩|⟨_,z⟩
   ·cases z;subst w;let⟨q',e',_,r'⟩:=ow _ a' _ Q;rw[M]at e';cases e';show⟨q,M,(λ_ z=>by cases z;rfl),r'⟩
   ·show ow j a1 r z
  ·rcases cG h with⟨w,_,z⟩|⟨_,z⟩
   ·cases z;subst w;show no _ a' _ Q
   ·show no j a1 r z
  ·have up:∀{j:Nat}{a1:Ř Addr}{r:Om},((ρ.set i (Z (Sm.ob a (.obj nm (cR f (.al q) fs))))).set v (Z (Sm.ob (Z q) o)))[j]?=Z (Z (.ob a1 r))->∃a3,(ρ.set i (Z (Sm.ob a (.obj nm (cR f (.al q) fs)))))[j]?=Z (Z (.ob a3 r)):=λ{j a1 r} h=>by
    rcases cG h with⟨w,_,z⟩|⟨_,z⟩
    ·cases z;subst w;show⟨a',Q⟩
    ·show⟨a1,z⟩
   let⟨_,z1⟩:=up hj;let⟨_,z2⟩:=up Ve
   show dj j j2 _ _ r o2 z1 z2⟩
noncomputable def Aa(t:TX):TX:=λρ R g=>t ρ (λs c=>match s with|.ob _ (.obj nm fs)=>(∃ds,eN fs=Z ds/\R (.v (.obj nm ds)) c)|_=>False) g
def xH(h:PX K X e J):PX K X e (Aa J):=⟨λb_=>(h.pe b_).imp λσ H Q M=>by
 let⟨u,z,Φ,τ,ρ,g,R,T,be,t,k⟩:=M;refine⟨u,z,Φ,τ,ρ,g,_,T,be,t,λs1 c Φ1 F v j o a_=>?_⟩;split at j
 ·next a nm fs=>
  let⟨ds,hf,j⟩:=j;let⟨fp,E⟩:=o.E
  have P:(c++(g++[Z (Sm.ob a (.obj nm fs))]))[c.length+g.length]?=Z (Z (.ob a (.obj nm fs))):=by rw[←Js,IZ (by rw[Ja];omega),Ja,JL];rfl
  let⟨p,r,_,_,_,g',sf,w⟩:=E.fzO o.g P hf
  have U:(c++(g++[Z (Sm.ob a (.obj nm fs))])).set (c.length+g.length) (Z (.v (.obj nm ds)))=c++(g++[Z (.v (.obj nm ds))]):=by rw[LB _ _ (),LB _ _ (),show c.length+g.length-c.length-g.length=0 by omega];rfl
  rw[U]at w;show k _ c r F v j ⟨g',o.l,⟨_,w⟩,o.x⟩ (a_.trans sf)
 ·show j.elim⟩
structure MthD(P:Å)(w:È)(K:Â)(mg:Str->Option Value)(base:Heap)(n:Nat)(C:Addr)(m:Str)(ps:List Str)(z:cb):Prop where
 ex:∃(f:Addr)(fd:Í),FnOk P w K mg base aE n f fd ps (lSp K z)/\Binds K fd ps []/\Meth K C m f
def vT{Φ:Hp}{g:Str}:∀{vs:Y (Str×V)}{fs:Y (Str×D)},vs.map (·.1)=fs.map (·.1)->fs.lookup g=ŗ->vs.lookup g=ŗ
 | [],_,_,_=>rfl
 |_::_,[],h,_=>by cases h
 |(x,v)::vs,(y,f)::fs,h,j=>by
  rw[JB,JB]at h;let⟨o,r⟩:=Me h;have o:x=y:=o;subst o;rw[JF]at j ⊢
  cases c:g==x with
  |true=>rw[c]at j;cases j
  |false=>rw[c]at j;show vT (Φ:=Φ) r j
noncomputable def B9(nm m:Str)(z:cb)(I:TD)(G:aM):TD:=λρ R=>I ρ λx=>match x with|.obj SK fs=>SK=nm/\fs.lookup m=ŗ/\G ρ λds=>z (.obj SK fs::ds) R|_=>False
def ot{n:Nat}{ps:Y Str}{z:cb}{pl:Sem Bool}(M:MthD X.prog X.w K X.mg X.base n C m ps z)(hr:Room n X.A)(c:Cls K C)(hC:Ò K Á nm=Z (Z (.ref C)))
  (hx:PD K X a I) (ha:PAD K X (e::es) G) (he:starEach (e::es) X.env=(Ś,eval e X.env)::starEach es X.env) (NV:(backTo l (starEach es X.env)).any (·.1)=Ś)
  (ht:eval (.Call (.Attribute a m A) (e::es) [] l) X.env=(do
   let ov ←eval a X.env
   standAt A.atName
   let (f,first) ←holding [ov] (getMethod ov m pl)
   callWith l f first (backTo l (starEach (e::es) X.env)) (Þ l (Ô [] X.env))):=by rfl) :
  PD K X (.Call (.Attribute a m A) (e::es) [] l) (B9 nm m z I G):=⟨λh=>by
 let⟨f,fd,F,b,hm⟩:=M.ex;refine (we (dvs:=[]) (ds:=[]) (E:=E0) (pl:=pl) (hx.pe h) (h▸c) (h▸hm) (h▸F:FnOk X.prog X.w X.K X.mg X.base aE n f fd ps (lSp K z)) hr (h▸b) .nil jZ (ha.pa h) he NV ht).imp λσ H Q Nx=>?_;let⟨U,Φ,ρ,R,E,t,k⟩:=Nx;refine⟨U,Φ,ρ,_,E,t,λd j H1 v r g w=>?_⟩
 cases d with
 |obj SK fs=>
  let⟨rfl,hl,r⟩:=r;have P:=w
  cases w with
  |obj a_ h1 h2 h3=>
   rw[hC]at a_;cases a_;refine⟨_,_,_,S,g.s _ _ h1,vT (Φ:=j) h2 hl,U,j,ρ,_,E.gr g,r,λds T H2 vs r2 o rl _=>?_⟩;refine⟨T,_::ds,R,o.s,(E.tb.same g.f).same o.f,?_,r2,λd be H' v rd g' w=>k d be H' v rd ((g.trans o).trans g') w⟩;rw[JM];refine⟨by rw[Jp,Jp,rl.1],λi u d b_ hd=>?_⟩
   cases i with
   |zero=>cases b_;cases hd;show P.same o.f
   |succ i=>show rl.2 i u d b_ hd
 |_=>show r.elim⟩
end
noncomputable def qA(K:Â)(a:Addr)(n:Nat):It:=
 ⟨λi H=>i<n/\∃xs,SqL K H a xs/\xs.length=n,λi H x c=>c=H/\∀xs,SqL K H a xs->xs[n-1-i]?=Z x,λi H=>i=n⟩
def Ia{P:Å}{w:È}{K:Â}{tg:Ã}(a j:Addr)(n:Nat):Turn P w K tg (qA K a n) [j] j (λi h=>h.IsRevIter j a ((n:Int)-1-(i:Int))) where
 mem:=by simp
 obj:=λi h st b g=>by
  have e:b=j:=by simpa using g
  subst e;let⟨o,e,c,d⟩:=st;show⟨o,e,λv z=>by rw[d]at z;cases z⟩
 keep:=λi h h' st k=>st.at λo e=>k j (by simp) o e
 item:=by
  intro X M N L O i f s be H E I r st l;subst M N L;let⟨hi,xs,Q,hn⟩:=l;let⟨its,rv,p,hz⟩:=I.list Q;have R:xs[n-1-i]?=Z (xs[n-1-i]'()):=J2 ();let⟨u,hu,ru⟩:=rv.get R;let⟨B,C,b_,F,G,J⟩:=r j (by simp)
  have A:(n:Int)-1-(i:Int)=((n-1-i:Nat):Int):=by omega
  have U:((n-1-i:Nat):Int)-1=(n:Int)-1-((i+1:Nat):Int):=by omega
  have de:=st;rw[A]at de;refine wpAny_pyNext_rev_item de p.isList (x:=u) (by simpa using hu) λh' y sb=>?_;rw[U]at y;have T:Inv X f be H { s with heap:=h' }:=I.turned (t':=s.toks) (λb o g e=>(sb.2 b g).trans e) B C F G J;let⟨o,e,c,d⟩:=id y;show⟨u,S,lh (s:={ s with heap:=h' }) e c d 'b' ⟨_,H,T,ru,⟨S,λys hy=>by rw[I.list_inj hy Q];show R⟩,y,λb g=>(r b g).1⟩⟩
 done:=by
  intro X M N L O i f s be H E I r st l;subst M N L;have l:i=n:=l;subst l;let⟨B,C,b_,F,G,J⟩:=r j (by simp)
  have A:(i:Int)-1-(i:Int) = -1:=by omega
  rw[A]at st;show wpAny_pyNext_rev_end (I.ok.hd O) st λh' a_=>⟨S,I.turned (t':=s.toks) (λb o g e=>a_ b o g e) B C F G J⟩
 self:=λ_ _ _ _ _ st h=>Ĵ st h
section
variable{K:Â}{X:Cx}{f a:Ã}{c p:Ö}
noncomputable def vt(K:Â)(g:TA):TI:=λh H R=>g h H λvs e=>∃l xs,vs=[.ref l]/\SqL K e l xs/\R (qA K l xs.length) e
def FZ{w:TA}(B:Gl X "reversed")(C:X.mg "reversed"=ŗ)(z:PA X [a] w)(F:starEach [a] X.env=[(Ś,eval a X.env)]):PI X f (.Call (.Name "reversed" p) [a] [] c) (vt X.K w):=by
 intro j s M H R I h;refine Call_ (hV I B C boot_reversed (Kc (aC (z c j s M H _ I h) λus g y=>?_) F S));let⟨vs,x,u,J,G⟩:=y;let⟨l,xs,e,E,q⟩:=G;subst e
 cases J with
 |cons r rr=>
  cases rr;cases r;let⟨its,L,p,N⟩:=u.list E;refine call_reversed_list p.isList ?_;have v:(g.heap.push (revObj l ((its.toArray.size:Int)-1))).IsRevIter g.heap.objs.size l ((its.toArray.size:Int)-1):=⟨_,Jq _ S,S,S⟩;refine Ĵ (s:={ g with heap:=g.heap.push (revObj l ((its.toArray.size:Int)-1)) }) v ?_;refine⟨g.heap.objs.size,[g.heap.objs.size],_,_,x,S,u.kept (t':=g.toks) λb o e=>Jf _ e,Ia l _ xs.length,?_,λb A=>?_,q⟩
  ·have e:((its.toArray.size:Nat):Int)-1=(xs.length:Int)-1-((0:Nat):Int):=by rw[Jo,←L.length];omega
   rw[e]at v;rw[e];show v
  ·have e:b=g.heap.objs.size:=by simpa using A
   subst e;show u.fpOk (Jg _) (u.hok.fresh (Jg _))
def FY{e:TA}(h:X.K=K)(j:Gl X "reversed")(l:X.mg "reversed"=ŗ)(g:PA X [a] e)(o:starEach [a] X.env=[(Ś,eval a X.env)]):PI X f (.Call (.Name "reversed" p) [a] [] c) (vt K e):=h▸FZ j l g o
def GP{Φ:Hp}{ds:Y D}{vs:Y V}{l:Addr}(h:SqL K Φ l vs)(r:RpL K Φ ds vs):SteadyD K (qA K l vs.length) Φ ds.reverse:=
 ⟨λi H s hi=>⟨by rw[r.1];simpa using hi,vs,s.seq h,S⟩,λi g H x o d j s hd y=>by
  let⟨e,y⟩:=y;subst e
  have hi:i<ds.length:=by have:=aA hd;simpa using this
  rw[List.getElem?_reverse hi]at hd;have:=y vs ((j.trans s).seq h);rw[r.1]at this
  show⟨g,.refl s,(r.2 _ x d this hd).same j⟩,λH s=>by
  change ds.reverse.length=vs.length
  rw[KN,r.1]⟩
noncomputable def zC(t:aM):aM:=λρ R=>t ρ λds=>match ds with| [d]=>(match d with|.lst xs=>R xs.reverse|_=>False)|_=>False
def vU{t:aM}(z:Gl X "reversed")(A:X.mg "reversed"=ŗ)(h:PAD K X [a] t)(B:starEach [a] X.env=[(Ś,eval a X.env)]:=by rfl):PID K X f (.Call (.Name "reversed" p) [a] [] c) (zC t):=⟨λl=>(FY l z A (h.pa l) B).imp λI H F w=>by
 let⟨o,Φ,ρ,R,E,t,k⟩:=w
 show⟨o,Φ,ρ,_,E,t,λds e u vs r g rl G=>by
  match ds,r with
  | [],r=>show r.elim
  |_::_::_,r=>show r.elim
  | [d],r=>
   let⟨v,rfl,C⟩:=rl.one_inv
   cases d with
   |lst xs=>
    cases C with
    |lst j x y=>show⟨_,_,S,.of (g.s _ _ j),k _ e u _ r g (GP (.of j) ⟨x,y⟩)⟩
   |_=>show r.elim⟩⟩
end
section
variable{P:Å}{w:È}{K:Â}{mg:Str->Ř Value}{base:Heap}{n m:Nat}{C:Addr}{x:Str}{ps:Y Str}
def MthM.mono{z:dW}(M:MthM P w K mg base n C x ps z)(k:n<=m:=by decide):MthM P w K mg base m C x ps z:=by let⟨f,a,F,r⟩:=M.ex;show⟨f,a,F.mono k,r⟩
def MkM.mono{z:dW}(M:MkM P w K mg base n C ps z)(k:n<=m:=by decide):MkM P w K mg base m C ps z:=by let⟨f,a,F,r⟩:=M.ex;show⟨f,a,F.mono k,r⟩
def MthD.mono{z:cb}(M:MthD P w K mg base n C x ps z)(k:n<=m:=by decide):MthD P w K mg base m C x ps z:=by let⟨f,a,F,r⟩:=M.ex;show⟨f,a,F.mono k,r⟩
end
section
variable{K:Â}{X:Cx}{l a e:Ã}{c:Y Ã}{scope:â}{f z A:Ö}{N':Y Str}{cap:Y (Ř Nat)}{j:aM}{g:dl}{u:cm}{o:TD}{i:Nat}{y:Str}{C:Addr}
def Fn{tf:aM}{E:Ends}{B:St}{H:Hp}(x:∀{B:St}{H:Hp}{Q:VK},lF K tf B H Q->gS (lI K j) cap (lG K g) (lT K u) (lE K o) B H Q)(h:lM K X (lv i (qg tf)) E B H):jo (gS (lI K j) cap (lG K g) (lT K u) (lE K o)) (iW i) E B H:=by
 let⟨b_,M,Φ,ρ,De,gg,V,t,a_⟩:=h;let⟨fp,I⟩:=id V;refine x ⟨M,_,eS ρ,_,I.view,t,λds G N p vs r J T F be rl=>?_⟩;have g':=jp I.fz J;have L:=view_same.trans J.f
 have O:fJ Φ G p=ŗ:=by
  unfold fJ
  cases P:Φ p with
  |some w=>rw[L _ _ P]at F;cases F
  |none=>simp only;rw[F]
 show a_.nx _ _ N _ r.2 (gg.trans g') ((V.snocO gg.h g' (.lst be ⟨rl.1,λi v d U hd=>(rl.2 i v d U hd).thawN L (r.1 d (Je hd))⟩) λb R=>by rw[Jk.mp R];show⟨T,O⟩).store i)
def zL{k:Nat}(B:X.calm=ř)(G:X.N.Nodup)(P:X.N[i]?=Z y)(O:eI X.env.scope y)(Q:CompScope X.N X.env.scope scope N' cap)(E:ga k cap=ř)(L:GM k g)(hi:PID K X l a j)
  (J:∀(cl:Y (Str×Addr))(r:Y Addr)(C:Addr)(v:À)(p:Hp),PGD K (bS X scope N' cl C v p r) l g) (N:∀(cl:Y (Str×Addr))(r:Y Addr)(C:Addr)(v:À)(p:Hp),PIfD K (bS X scope N' cl C v p r) c u)
  (H:∀(cl:Y (Str×Addr))(r:Y Addr)(C:Addr)(v:À)(p:Hp),PD K (bS X scope N' cl C v p r) e o) (F:Î (.ListComp e [⟨l,a,c,0⟩] scope f) (Z (.Name y z)) A.line X.env=pure ř:=by rfl)
  (M:∀x,Ì a X.env x=pure x:=by intro _;rfl) (I:X.fn y=ř\/X.env.scope.names.lookup y=Z .local:=by nofun) :
  PSM K X (.Assign [.Name y z] (.ListComp e [⟨l,a,c,0⟩] scope f) A) (lv i (qg (nF j cap g u o))):=
 ⟨λw=>(nr B G P O Q (hi.pi w) (λcl r C v p=>(J cl r C v p).pg w) (λcl r C v p=>(N cl r C v p).p w) (λcl r C v p=>(H cl r C v p).pe w) F M I).imp λ_ _ _ h=>Fn (λq=>pN E L q) h⟩
end
section
variable{K:Â}{X:Cx}{a b:Ã}{f p A B:Ö}{z:aM}
noncomputable def DV(e:TA):TE:=λg H Q=>e g H λvs c=>∃i j:Int,vs=[.int i,.int j]/\∀r,c r=ŗ->Q (.ref r) (ao c r (.rng i j))
def yF{v:TA}(y:Gl X "range")(C:X.mg "range"=ŗ)(x:PA X [a,b] v)(E:starEach [a,b] X.env=[(Ś,eval a X.env),(Ś,eval b X.env)]:=by rfl)(u:starEach [b] X.env=[(Ś,eval b X.env)]:=by rfl):PE X (.Call (.Name "range" p) [a,b] [] f) (DV v):=by
 intro c s L H R I h;refine Call_ (hV I y C boot_range (Kc (aC (x f c s L H _ I h) λus g w=>?_) (by rw[E,u]) (by rw[u];rfl)));let⟨vs,M,l,G,F⟩:=w;let⟨i,j,e,q⟩:=F;subst e
 cases G with
 |cons r rr=>
  cases rr with
  |cons J rr=>
   cases rr;let⟨t,rfl⟩:=r;let⟨N,rfl⟩:=J;refine call_range_2 ⟨.ref g.heap.objs.size,_,l.laid (a:=g.heap.objs.size) (o:=.rng i j) (t':=g.toks+1) (λb o e=>Jf _ e) (Jg _) ⟨_,_,_,Jq _ S⟩,S,q _ (l.hok.fresh (Jg _))⟩
noncomputable def gT(lo:Int)(n:Nat):Y V:=(List.range n).map λi=>V.int (lo+(i:Nat))
def mX(lo:Int)(n:Nat):(gT lo n).length=n:=by unfold gT;simp
def wY{lo:Int}{n i:Nat}{v:V}(h:(gT lo n)[i]?=Z v):v=.int (lo+(i:Nat)):=by
 have hi:i<n:=by have:=aA h;rwa [mX]at this
 unfold gT at h;rw[Jm,Lk hi]at h;cases h;rfl
def AY{Φ:Hp}(lo:Int)(n:Nat):RpL K Φ (cA lo n) (gT lo n):=⟨by rw[mX,gc],λi v d c hd=>by
 rw[wY c,(ij hd).2]
 show .int _⟩
def A0(G:X.calm=ř):dS X (.type "list") (λxs H Q=>∃p i j,xs=[.ref p]/\H p=Z (.rng i j)/\(-(2^62)<=i/\i<2^62/\-(2^62)<=j/\j<2^62)/\j-i<=1000/\∀l,H l=ŗ->Q (.ref l) (ao H l (.lst (gT i (j-i).toNat)))):=by
 intro w s σ H xs us Q I r h;let⟨p,i,j,rfl,N,⟨be,T,U,a_⟩,jj,q⟩:=h;let⟨u,rfl,b_⟩:=gZ r;cases b_;let⟨t,u,v,M⟩:=(show ObjOk X.prog X.w H s.heap p (.rng i j)from I.hok p _ N)
 have L:Builtin.Range.rangeSize i j 1=((j-i).toNat:Int):=by rw[MK];split<;>omega
 refine ŕ (I.ok.hd G) M (ŏ be T U a_) L () λh' E g c kp J C=>?_
 have O:Vals (gT i (j-i).toNat) g.toList:=pH (by rw[mX,KA,C.1]) λk x y P R=>by rw[wY P];let⟨t,rfl⟩:=C.2 k y (by simpa using R);show⟨t,by simp⟩
 have F:Inv X w σ (ao H s.heap.objs.size (.lst (gT i (j-i).toNat))) { s with heap:=h',toks:=E }:=
  I.laid (t':=E) (λb o e=>kp b o e) (Jg _) (show ObjOk X.prog X.w _ _ _ (.lst (gT i (j-i).toNat))from ⟨by rw[mX,LL];omega,g.toList,c,O,by simpa using J⟩)
 show⟨.ref s.heap.objs.size,_,F,S,q _ (I.hok.fresh (Jg _))⟩
noncomputable def x6(t:aM):aM:=λρ R=>t ρ λds=>match ds with| [.int i,.int j]=>((-(2^62)<=i/\i<2^62/\-(2^62)<=j/\j<2^62)/\j-i<=1000)/\R (cA i (j-i).toNat)|_=>False
def ym(u:X.calm=ř)(J:Gl X "list")(I:X.mg "list"=ŗ)(G:Gl X "range")(F:X.mg "range"=ŗ)(O:PAD K X [a,b] z)(P:starEach [a,b] X.env=[(Ś,eval a X.env),(Ś,eval b X.env)]:=by rfl)(C:starEach [b] X.env=[(Ś,eval b X.env)]:=by rfl) :
  PF K X (.Call (.Name "list" p) [.Call (.Name "range" A) [a,b] [] B] [] f) (x6 z):=
 ⟨λN=>(kG (A0 u) J I Ġ (eM (yF G F (O.pa N) P C) pa_nil bo) 'b' 'b' bo ae).imp λb_ H Q x=>by
  let⟨h,Φ,ρ,R,E,t,k⟩:=x
  show⟨h,Φ,ρ,_,E,t,λds a_ o vs r g rl _=>by
   match ds,r with
   | [.int i,.int j],r=>
    let⟨v,w,rfl,T,U⟩:=rl.two_inv;obtain rfl:=T.i;obtain rfl:=U.i;refine⟨i,j,S,λbe L=>⟨be,i,j,S,bh,r.1.1,r.1.2,λl e=>?_⟩⟩;have c:=Gr.fresh g.s L (.rng i j);have M:=Gr.fresh c.s e (.lst (gT i (j-i).toNat));have y:o l=ŗ:=c.h.free e
    show k _ _ _ l _ r.2 ((g.trans c).trans M) (g.h.free y) (c.s.free e) bh (AY _ _)⟩⟩
end
section
variable{K:Â}{X:Cx}
noncomputable def BL:cL:=λx y R=>match x with
 |.int i=>(match y with|.int j=>R (.bl (i==j))|.non=>R (.bl Ś)|_=>False)
 |_=>False
def yC(z:X.A.units+64<å):OpD K X (É .Eq) BL:=⟨λw c s A H x y u v Q I o e f=>by
 let⟨Φ,r,g,R,sm,l,a,h,k⟩:=f;let⟨i,rfl,h⟩:=jc h;cases l.int;let⟨t,rfl⟩:=o
 cases g with
 |int j=>
  cases a.int;let⟨p,rfl⟩:=e;show (PySem.SeqAt.RcAt.int_int i t j p) X.prog X.w _ _ ⟨.bl (i==j),H,I,S,k _ Φ H _ h (.refl sm) (.bl _)⟩
 |non=>
  cases a.non;cases e;show (PySem.SeqAt.RcAt.int_none i t) X.prog X.w _ _ ⟨.bl Ś,H,I,S,k _ Φ H _ h (.refl sm) (.bl _)⟩
 |_=>show h.elim⟩
end
section
variable{K:Â}{X:Cx}{e:Ã}{c:TD}{f h:Ö}{x:Str}
noncomputable def Fv(i:Nat)(c:TD):TX:=λρ R _=>ownT ρ i λ_ _=>c (dI ρ) λd=>∃a:Y ay,d=.tup (a.map gz)/\ownT ρ i λ_ g=>∃y,bB g a=Z y/\R (.v y) ρ
def y6(i:Nat)(hu:X.A.units+64<å)(M:PD K X e c)(P:p9 e)(L:X.N[i]?=Z x:=by rfl)(T:cH X.env.scope x:=by nofun)(hd:ab x:=by decide)(E:fI x:=by decide) :
  PX K X (.Subscript (.Name x h) e f) (Fv i c):=
 ⟨λJ=>(D9 () (pv i L T hd E) (M.pe J) P).imp λσ H Q F=>by
  let⟨Φ0,B,Φ,τ,ρ,κ,R,Rx,be,t,k⟩:=F;let⟨a,Nz,z,t⟩:=ownT.get t;let⟨q,ws,G,O,l,_⟩:=be.env.dictT be.g z;refine⟨_,G,B,Φ,dI ρ,_,be.env.toD,t,λd o C v r g b_=>?_⟩;let⟨U,rfl,r⟩:=r;let⟨a2,Vh,u,y,A,r⟩:=ownT.get r;rw[z]at u;cases u;let⟨p,rfl,N⟩:=pz b_;rcases pT l U with⟨j,_⟩|⟨d,w,j,I,a_⟩
  ·rw[A]at j;cases j
  ·rw[A]at j;cases j
   refine⟨q,w,S,by rw[←I];show DGet.t (g.h _ _ O) (g.s _ _ N),k _ ρ o C w r ((be.gr g).pushV (a_.same g.f)) g.f⟩⟩
end
section
variable{K:Â}{w H A Φ u:Hp}{f:St}{ρ:ak}{l:Nat->Y Addr}{p q:Addr}{i k:Nat}
def EnvM.noadr{a:Ř Addr}{o:Om}(E:EnvM K w Φ H f ρ)(hi:ρ[i]?=Z (Z (.ob a o))):EnvM K w Φ H f (ρ.set i (Z (.ob ŗ o))):=by
 let⟨l,E⟩:=E
 have B:∀{m:Nat}{x:Sm},(ρ.set i (Z (Sm.ob ŗ o)))[m]?=Z (Z x)->(m=i/\x=.ob ŗ o)\/(m≠i/\ρ[m]?=Z (Z x)):=λ{m x} h=>by
  rcases cG h with⟨e,_,C⟩|⟨e,h⟩
  ·cases C;show .inl ⟨e,S⟩
  ·show .inr ⟨e,h⟩
 have g:∀{m:Nat}{c:Ř Addr}{j:Om},(ρ.set i (Z (Sm.ob ŗ o)))[m]?=Z (Z (.ob c j))->∃y,ρ[m]?=Z (Z (.ob y j)):=λ{m c j} h=>by
  rcases B h with⟨z,v⟩|⟨_,v⟩
  ·cases v;show⟨_,by rw[z];show hi⟩
  ·show⟨_,v⟩
 refine⟨l,E.fz,by rw[Jc,E.len],λm d h=>?_,λm c j h=>?_,λm c j h=>?_,λm k c y j F M L=>?_,E.tb⟩
 ·rcases B h with⟨_,h⟩|⟨_,h⟩
  ·cases h
  ·show E.sl m d h
 ·rcases B h with⟨z,v⟩|⟨_,v⟩
  ·cases v;let⟨p,e,_,r⟩:=E.ow i a o hi;show⟨p,by rw[z];show e,(λq e=>by cases e),by rw[z];show r⟩
  ·show E.ow m c j v
 ·let⟨y,h'⟩:=g h;show E.no m y j h'
 ·let⟨C,I⟩:=g M;let⟨G,J⟩:=g L;show E.dj m k C G j F I J
def EnvM.outT{ps:Y (Addr×Ř (Y D))}{ds:Y D}{v:V}(E:EnvM K w Φ H (f++[Z v]) (ρ++[Z (.ob ŗ (.tl ps))]))(i:Nat)(hi:i<ρ.length)(g:ps[k]?=Z (q,Z ds)) :
  EnvM K w Φ H (f.set i (Z (.ref q))++[Z v]) (ρ.set i (Z (.own ds))++[Z (.ob ŗ (.tl (ps.set k (q,ŗ))))]):=by
 have h:f.length=ρ.length:=by have:=E.len;simpa using this
 have c:=(E.pnt i q).opn (i:=i) (j:=ρ.length) (k:=k) (a':=ŗ) (ps:=ps) (q:=q) (ds:=ds) ()
  (by rw[Jy (by rw[Ja];omega)]) (by rw[Jv (),IZ (Jg _),JL];rfl) g
 rw[KY _ _ (),KY _ _ hi,KY _ _ (by rw[Jc];show hi),LB _ _ (by rw[Jc,Jc];show Jg _),List.set_set,Jc,JL]at c;have e:=c.noadr (i:=i) (a:=Z q) (o:=.lst ds) (by rw[I0 (by rw[Jc];show hi),Jy hi]);rw[KY _ _ (by rw[Jc];show hi),List.set_set]at e;show e
def EnvM.gath{v1 v2 v3:V}{G I J:Y D}(E:EnvM K w Φ H (f++[Z v1,Z v2,Z v3]) (ρ++[Z (.own G),Z (.own I),Z (.own J)]))(X:ρ.length=f.length)(g:Gr Φ H u A)(hp:u p=Z (.tup [v1,v2,v3])) :
  ∃a o B,EnvM K w u A (f++[Z (.ref p)]) (ρ++[Z (.ob ŗ (.tl [(a,Z G),(o,Z I),(B,Z J)]))]):=by
 let⟨l,E⟩:=E.gr g
 have P:(ρ++[Z (Sm.own G),Z (.own I),Z (.own J)])[ρ.length]?=Z (Z (.ob ŗ (.lst G))):=by rw[IZ (Jg _),JL];rfl
 have Q:(ρ++[Z (Sm.own G),Z (.own I),Z (.own J)])[ρ.length+1]?=Z (Z (.ob ŗ (.lst I))):=by rw[IZ (),Ks];rfl
 have R:(ρ++[Z (Sm.own G),Z (.own I),Z (.own J)])[ρ.length+2]?=Z (Z (.ob ŗ (.lst J))):=by rw[IZ (),Ks];rfl
 let⟨a,e1,_,r1⟩:=E.ow _ _ _ P;let⟨o,e2,_,r2⟩:=E.ow _ _ _ Q;let⟨B,e3,_,r3⟩:=E.ow _ _ _ R;rw[X,IZ (Jg _),JL]at e1;rw[X,IZ (),Ks]at e2 e3;cases e1;cases e2;cases e3;let⟨f1,w1,a1,b1⟩:=r1.lst_inv;let⟨f2,w2,a2,b2⟩:=r2.lst_inv;let⟨f3,w3,a3,b3⟩:=r3.lst_inv;have n12:a≠o:=λe=>E.dj _ _ _ _ _ _ P Q () a (by rw[f1];show Jk.mpr S) (by rw[f2,e];show Jk.mpr S);have n13:a≠B:=λe=>E.dj _ _ _ _ _ _ P R () a (by rw[f1];show Jk.mpr S) (by rw[f3,e];show Jk.mpr S);have n23:o≠B:=λe=>E.dj _ _ _ _ _ _ Q R () o (by rw[f2];show Jk.mpr S) (by rw[f3,e];show Jk.mpr S)
 have S9:∀b∈[a,o,B],b∈l ρ.length\/b∈l (ρ.length+1)\/b∈l (ρ.length+2):=λb L=>by rw[f1,f2,f3];simpa using L
 have M:∀{m:Nat}{x:Sm},(ρ++[Z (Sm.ob ŗ (.tl [(a,Z G),(o,Z I),(B,Z J)]))])[m]?=Z (Z x)->(m<ρ.length/\ρ[m]?=Z (Z x))\/(m=ρ.length/\x=.ob ŗ (.tl [(a,Z G),(o,Z I),(B,Z J)])):=λ{m x} h=>by
  rcases JW m ρ.length with c|c
  ·rw[I0 c]at h;show .inl ⟨c,h⟩
  ·rw[IZ c]at h
   cases e:m-ρ.length with
   |zero=>rw[e]at h;cases h;show .inr ⟨(),S⟩
   |succ n=>rw[e]at h;cases h
 have up:∀{m:Nat}{x:Sm},ρ[m]?=Z (Z x)->(ρ++[Z (Sm.own G),Z (.own I),Z (.own J)])[m]?=Z (Z x):=λ{m x} h=>by rw[I0 (aA h)];show h
 have dn:∀{m:Nat}{y:Ř V},m<ρ.length->(f++[Z (V.ref a),Z (.ref o),Z (.ref B)])[m]?=Z y->(f++[Z (V.ref p)])[m]?=Z y:=λ{m y} c e=>by rw[I0 ()]at e ⊢;show e
 refine⟨a,o,B,λm=>if m=ρ.length then [a,o,B] else l m,E.fz,by rw[Ja,Ja,X];rfl,λm d h=>?_,λm c F h=>?_,λm c F h b L=>?_,λm n c c' F PU hm hn hc b L NM=>?_,E.tb⟩
 ·rcases M h with⟨c,j⟩|⟨_,j⟩
  ·let⟨v,e,r⟩:=E.sl m d (up j);show⟨v,dn c e,r⟩
  ·cases j
 ·rcases M h with⟨C,j⟩|⟨C,j⟩
  ·let⟨v,e,ha,r⟩:=E.ow m c F (up j);show⟨v,dn C e,ha,by rw[Jd ()];show r⟩
  ·cases j;refine⟨p,by rw[C,X,IZ (Jg _),JL];rfl,(λ_ z=>by cases z),?_⟩;rw[Jj C];show .tl hp (.own a1 b1 (.own a2 b2 (.own a3 b3 .nil))) (by simp[n12,n13,n23])
 ·rcases M h with⟨C,j⟩|⟨C,j⟩
  ·rw[Jd ()]at L;show E.no m c F (up j) b L
  ·rw[Jj C]at L;rcases S9 b L with h|h|h
   ·show E.no _ _ _ P b h
   ·show E.no _ _ _ Q b h
   ·show E.no _ _ _ R b h
 ·have U:b∈(if m=ρ.length then [a,o,B] else l m):=L;have N:b∈(if n=ρ.length then [a,o,B] else l n):=NM
  have T:∀(a_:Nat)(c:Ř Addr)(F:Om),a_<ρ.length->ρ[a_]?=Z (Z (.ob c F))->b∈l a_->b∈[a,o,B]->False:=λa_ c F Uh b_ hx hy=>by
   rcases S9 b hy with h|h|h
   ·show E.dj _ _ _ _ _ _ (up b_) P () b hx h
   ·show E.dj _ _ _ _ _ _ (up b_) Q () b hx h
   ·show E.dj _ _ _ _ _ _ (up b_) R () b hx h
  rcases M hm with⟨C,j⟩|⟨C,j⟩
  ·rw[Jd ()]at U;rcases M hn with⟨O,be⟩|⟨O,be⟩
   ·rw[Jd ()]at N;show E.dj m n c c' F PU (up j) (up be) hc b U N
   ·rw[Jj O]at N;show T m c F C j U N
  ·rw[Jj C]at U;rcases M hn with⟨O,be⟩|⟨O,be⟩
   ·rw[Jd ()]at N;show T n c' PU O be N U
   ·omega
end
section
variable{K:Â}{X:Cx}{e a b:Ã}{es:Y Ã}{w y tb:TX}{A:db}{f u o j z:Ö}
noncomputable def xR(A:db):TX:=λρ R p=>A ρ (λas c=>∃g h l,as=[.t (.own g),.t (.own h),.t (.own l)]/\∀r v x,R (.ob ŗ (.tl [(r,Z g),(v,Z h),(x,Z l)])) c) p
def BF{k:Nat}(h:PXA K X es A)(Pb:Nat.ble es.length 1000=ř:=by rfl):PX K X (.Tuple es k f) (xR A):=
 ⟨λa_=>(qc (h.pa a_)).imp λσ H Q P=>by
  let⟨x,I,Φ,F,ρ,C,R,T,be,t,k⟩:=P;refine⟨x,I,Φ,F,ρ,C,_,T,be,t,λas v B O vs ts r1 hl c l U=>?_⟩;let⟨z1,z2,z3,rfl,r⟩:=r1
  cases c with|t c=>cases c with|t c=>cases c with|t c=>
  cases c;rename_i J L M;refine⟨by rw[LL];change 3<=16777216;decide,λp b_=>?_⟩;have g:=Gr.new l.g.s b_ (.tup [J,L,M]);have lk:C.length=F.length:=be.lk;have l2:=l.l;have E:=l.E
  have N:EnvM K I B O ((σ++F)++[Z J,Z L,Z M]) ((v++C)++[Z (.own z1),Z (.own z2),Z (.own z3)]):=by rw[Js,Js];show E
  let⟨q1,q2,q3,G⟩:=N.gath (p:=p) (by rw[Ja,Ja];omega) g bh;rw[Js,Js]at G
  show k _ v _ _ _ (r q1 q2 q3) ⟨l.g.trans g,l2,G,l.x⟩ (U.trans g.f)⟩
noncomputable def yz(h l p:Nat)(w:TX):bC:=λg ρ=>w ρ (λs c=>∃B C E r v x,s=.ob ŗ (.tl [(B,Z r),(C,Z v),(E,Z x)])/\(h<c.length/\l<c.length/\p<c.length)/\g.nx (((c.set h (Z (.own r))).set l (Z (.own v))).set p (Z (.own x)))) g.ex
def Fu{k:Nat}{n1 n2 n3:Str}(B C F:Nat)(hc:X.calm=ř)(x:X.N.Nodup)(h1:X.N[B]?=Z n1)(h2:X.N[C]?=Z n2)(h3:X.N[F]?=Z n3)(l1:eI X.env.scope n1)(l2:eI X.env.scope n2)(l3:eI X.env.scope n3)(he:PX K X e w)
  (f1:X.fn n1=ř\/X.env.scope.names.lookup n1=Z .local:=by nofun) (f2:X.fn n2=ř\/X.env.scope.names.lookup n2=Z .local:=by nofun) (f3:X.fn n3=ř\/X.env.scope.names.lookup n3=Z .local:=by nofun)
  (hs:è [.Tuple [.Name n1 u,.Name n2 o,.Name n3 j] k z] e f.line X.env=pure Ś:=by rfl) (hw:é [.Tuple [.Name n1 u,.Name n2 o,.Name n3 j] k z] e X.env=pure ŗ:=by rfl)
  (ha:(Æ [.Tuple [.Name n1 u,.Name n2 o,.Name n3 j] k z] X.env).map (·.2)=[assign (.Tuple [.Name n1 u,.Name n2 o,.Name n3 j] k z) X.env]:=by rfl)
  (c1:(Æ [.Name n1 u,.Name n2 o,.Name n3 j] X.env).map (·.2)=assign (.Name n1 u) X.env::(Æ [.Name n2 o,.Name n3 j] X.env).map (·.2):=by rfl) (c2:(Æ [.Name n2 o,.Name n3 j] X.env).map (·.2)=assign (.Name n2 o) X.env::(Æ [.Name n3 j] X.env).map (·.2):=by rfl) (c3:(Æ [.Name n3 j] X.env).map (·.2)=assign (.Name n3 j) X.env::(Æ [] X.env).map (·.2):=by rfl)
  (hn:(Æ [.Name n1 u,.Name n2 o,.Name n3 j] X.env).length=3:=by rfl) (Ob:(Æ [.Name n1 u,.Name n2 o,.Name n3 j] X.env).findIdx? (·.1)=ŗ:=by rfl) :
  PSM K X (.Assign [.Tuple [.Name n1 u,.Name n2 o,.Name n3 j] k z] e f) (yz B C F w):=
 ⟨λhK=>(mG (he.pe hK) (t6 hc (km (kJ x h1 l1 f1) (km (kJ x h2 l2 f2) (km (kJ x h3 l3 f3) pgs_nil c3) c2) c1) hn Ob) hs hw ha).imp λE σ H Nx=>by
  let⟨G,J,Φ,ρ,T,g,V,t,k⟩:=Nx;refine⟨G,J,Φ,[],ρ,[],_,T.ex,de g V k.ex,t,λs l h L v r p _=>?_⟩;let⟨N,O,P,Q,R,be,rfl,⟨y1,y2,y3⟩,r⟩:=r;have I:EnvM K J h L (σ++[Z v]) (l++[Z (.ob ŗ (.tl [(N,Z Q),(O,Z R),(P,Z be)]))]):=p.E;have M:=p.l;let⟨fp,c⟩:=id I;let⟨tp,s,_,rr⟩:=c.ow l.length ŗ _ (by rw[IZ (Jg _),JL];rfl);rw[M,IZ (Jg _),JL]at s;cases s;let⟨hp,_,_⟩:=rr.tl_inv;have U:=I.outT B y1 (k:=0) (q:=N) (ds:=Q) S;have a_:=U.outT C (by rw[Jc];show y2) (k:=1) (q:=O) (ds:=R) S;have b_:=a_.outT F (by rw[Jc,Jc];show y3) (k:=2) (q:=P) (ds:=be) S;refine⟨tp,_,S,SqT.of (c.fz _ _ hp),S,_,_,S,_,_,S,_,_,S,S,?_⟩
  show k.nx _ h L _ r p.g (b_.take (by rw[Jc,Jc,Jc,Jc,Jc,Jc];show M))⟩
noncomputable def zZ(t:TX):TX:=λρ R g=>t ρ (xV λd c=>∃ds,cV d=Z ds/\R (.own ds) c) g
def zx{p:Ö}(T:Gl X "list")(U:X.mg "list"=ŗ)(O:PX K X e w)(F:starEach [e] X.env=(Ś,eval e X.env)::starEach [] X.env):PX K X (.Call (.Name "list" p) [e] [] f) (zZ w):=
 ⟨λE=>(kG wn T U Ġ (eM (O.pe E) pa_nil F) 'b' 'b' F ae).imp λσ H Q J=>by
  let⟨h,G,Φ,τ,ρ,κ,R,L,be,t,k⟩:=J;refine⟨h,G,Φ,τ,ρ,κ,_,L,be,t,λs1 B x I v r1 c N=>?_⟩;let⟨d,rfl,ds,M,r⟩:=r1.get;have rv:RpQ K x I d v:=.inl c.last;let⟨a,vs,rfl,a_,b_⟩:=rv.seq c.g.s M;refine⟨a,vs,S,E▸a_,λl g=>?_⟩;have C:=Gr.fresh c.g.s g (.lst vs)
  show k _ B _ _ _ r ((c.pop be.lk).pushO C (.lst bh b_) λb P=>by rw[Jk.mp P];show⟨g,c.g.s.free g⟩) (N.trans C.f)⟩
noncomputable def Gk(y tb:TX):TX:=λρ R h=>y ρ (xV λd g=>match d with|.bl c=>(c=ř->tb g R h)/\(c=Ś->R (.v (.bl Ś)) g)|_=>False) h
def Ba{op}(h:PX K X a y):PX K X (.BoolOp op [a] f) y:=⟨λc=>sW (h.pe c)⟩
def zf(U:PX K X a y)(a_:PX K X (.BoolOp .And (b::es) f) tb):PX K X (.BoolOp .And (a::b::es) f) (Gk y tb):=
 ⟨λI=>(sU (U.pe I) (a_.pe I)).imp λσ H Q O=>by
  let⟨h,E,Φ,L,ρ,J,R,F,be,t,k⟩:=O;refine⟨h,E,Φ,L,ρ,J,_,F,be,t,λs1 p l N v g r G=>?_⟩;let⟨x,rfl,g⟩:=g.get;have rx:=r.last;let⟨c,rfl,g⟩:=i9 g;obtain rfl:=rx.b;refine⟨c,S,?_⟩
  cases c with
  |true=>rw[Jj S];show⟨h,E,l,L,p,J,R,F,r.pop be.lk,g.1 S,λsm C B M v' b_ P T=>k sm C B M v' b_ P (G.trans T)⟩
  |false=>rw[Jd 'b'];show k _ p l N _ (g.2 S) ((r.pop be.lk).pushV (.bl _)) G⟩
end
def BC{P:Å}{w:È}{K:Â}{R:Ã}(a:Addr)(lo:Int)(n:Nat):Turn P w K R (iZ lo n) [a] a (λi h=>IsLongIter h a (lo+(i:Nat)*1) ((n:Int)-(i:Nat)) 1) where
 mem:=by simp
 obj:=λi h st b f=>by
  have e:b=a:=by simpa using f
  subst e
  show⟨_,st,λv z=>by
   have U:û _=ï v:=z
   cases U⟩
 keep:=λi h h' st k=>k a (by simp) _ st
 item:=by
  intro X y C x A i c s J H E I g st B;subst y C x;let⟨j,l,N,p,r,u⟩:=g a (by simp);have W:=Walks.longrange (prog:=X.prog) (w:=X.w) (I.ok.hd A) a lo 1 n;refine W.item i s _ _ B st λv h' G O F Q=>?_;let⟨t,rfl⟩:=O;have L:Inv X c J H { s with heap:=h',toks:=G }:=I.turned (λb o f e=>Q b o (by simpa using f) e) j l p r u;refine⟨_,S,lh (s:={ s with heap:=h',toks:=G }) (n:="longrange_iterator") F S S 'b' ⟨.int (lo+i),H,L,⟨t,?_⟩,⟨S,S⟩,F,λb f=>(g b f).1⟩⟩;rw[Int.mul_one]
 done:=by intro X y C x A i c s J H E I g st B;subst y C x;let⟨j,l,N,p,r,u⟩:=g a (by simp);show wpAny_pyNext_long_end (I.ok.hd A) st (by have:n<=i:=B;omega) λh' M=>⟨S,I.turned (t':=s.toks) (λb o f e=>M b o f e) j l p r u⟩
 self:=λ_ _ _ _ _ st h=>wpAny_pyIter_longiter st h
section
variable{X:Cx}{c:Ã}
def HQ{a:Y (Addr×Õ)}{l:St}{H:Hp}{s:À}{R:It->Hp->Prop}{E:Value->À->Prop}{lo hi:Int}{t u v:Ł}{h:Nat}(I:Inv X a l H s)
  (q:R (iZ lo (hi-lo).toNat) H):wpAny (Ä X.prog X.w) X.A (Ľ (.ref s.heap.objs.size)) (pd X a l c R) E { s with heap:=s.heap.push { cls:=.type "range",data:=.fields #[.int lo t,.int hi u,.int 1 v] },toks:=h }:=by
 have f:Inv X a l H { s with heap:=s.heap.push { cls:=.type "range",data:=.fields #[.int lo t,.int hi u,.int 1 v] },toks:=h }:=I.kept λb o e=>Jf _ e
 have p:lo+((0:Nat):Int)*1=lo:=by simp
 have r:(((hi-lo).toNat:Nat):Int)-((0:Nat):Int)=Builtin.Range.rangeSize lo hi 1:=by rw[MK];split<;>omega
 cases g:Builtin.Range.small lo hi 1 with
 |true=>
  refine Ļ (Ċ ..) g ?_
  refine⟨(s.heap.push { cls:=.type "range",data:=.fields #[.int lo t,.int hi u,.int 1 v] }).objs.size,[(s.heap.push { cls:=.type "range",data:=.fields #[.int lo t,.int hi u,.int 1 v] }).objs.size],_,_,H,S,
   f.kept (t':=h) λb o e=>Jf _ e,vj _ lo (hi-lo).toNat,?_,λb j=>?_,q⟩
  ·change ķ _ _ (lo+((0:Nat):Int)*1) ((((hi-lo).toNat:Nat):Int)-((0:Nat):Int)) 1;rw[p,r];show Jq _ S
  ·have e:b=(s.heap.push { cls:=.type "range",data:=.fields #[.int lo t,.int hi u,.int 1 v] }).objs.size:=by simpa using j
   subst e;show f.fpOk (Jg _) (f.hok.fresh (Jg _))
 |false=>
  refine wpAny_pyIter_longrange (Ċ ..) g ?_
  refine⟨(s.heap.push { cls:=.type "range",data:=.fields #[.int lo t,.int hi u,.int 1 v] }).objs.size,[(s.heap.push { cls:=.type "range",data:=.fields #[.int lo t,.int hi u,.int 1 v] }).objs.size],_,_,H,S,
   f.kept (t':=h) λb o e=>Jf _ e,BC _ lo (hi-lo).toNat,?_,λb j=>?_,q⟩
  ·change IsLongIter _ _ (lo+((0:Nat):Int)*1) ((((hi-lo).toNat:Nat):Int)-((0:Nat):Int)) 1;rw[p,r];show Jq _ S
  ·have e:b=(s.heap.push { cls:=.type "range",data:=.fields #[.int lo t,.int hi u,.int 1 v] }).objs.size:=by simpa using j
   subst e;show f.fpOk (Jg _) (f.hok.fresh (Jg _))
noncomputable def GT(e:TA):TI:=λf H R=>e f H λvs a=>∃i j:Int,vs=[.int i,.int j]/\R (iZ i (j-i).toNat) a
def CV{a b:Ã}{o:TA}{p g:Ö}(x:Gl X "range")(y:X.mg "range"=ŗ)(w:PA X [a,b] o)(z:starEach [a,b] X.env=[(Ś,eval a X.env),(Ś,eval b X.env)]:=by rfl)(l:starEach [b] X.env=[(Ś,eval b X.env)]:=by rfl) :
  PI X c (.Call (.Name "range" p) [a,b] [] g) (GT o):=by
 intro f s E H R I h;refine Call_ (hV I x y boot_range (Kc (aC (w g f s E H _ I h) λus G v=>?_) (by rw[z,l]) (by rw[l];rfl)));let⟨vs,F,u,C,A⟩:=v;let⟨i,j,e,q⟩:=A;subst e
 cases C with
 |cons r rr=>
  cases rr with
  |cons B rr=>
   cases rr;let⟨t,rfl⟩:=r;let⟨t',rfl⟩:=B;show call_range_2 (HQ u q)
end
section
variable{K:Â}{X:Cx}{f a b:Ã}{e:aM}{p c:Ö}
noncomputable def Bb(t:aM):aM:=λρ R=>t ρ λds=>match ds with| [.int i,.int j]=>R (cA i (j-i).toNat)|_=>False
def zw(A:Gl X "range")(B:X.mg "range"=ŗ)(z:PAD K X [a,b] e)(C:starEach [a,b] X.env=[(Ś,eval a X.env),(Ś,eval b X.env)]:=by rfl)(x:starEach [b] X.env=[(Ś,eval b X.env)]:=by rfl):PID K X f (.Call (.Name "range" p) [a,b] [] c) (Bb e):=
 ⟨λy=>(CV A B (z.pa y) C x).imp λL H J u=>by let⟨l,Φ,ρ,R,E,t,k⟩:=u;show⟨l,Φ,ρ,_,E,t,λds h o vs r g I _=>by
  match ds,r with
  | [.int i,.int j],r=>
   let⟨v,w,rfl,F,G⟩:=I.two_inv;obtain rfl:=F.i;obtain rfl:=G.i
   show⟨i,j,S,k _ h o _ r g rB⟩⟩⟩
end
end L2
namespace Kx
open PySem L2
section
local macro_rules|`(tactic|rfl')=>`(tactic|dsimp only[aT,aK,aG,setA,ba,aU,aZ,List.set])
variable{P:Å}{w:È}{K:Â}{mg:Str->Ř Value}{base:Heap}{n:Nat}{f:Addr}{J:Í}
noncomputable def top(i:Nat):Ç:=PySem.Challenge.pw_cutyard_k35_whole_same_best.main.body.getD i (.Pass ⟨0,0,0,0⟩)
noncomputable abbrev HF:Ç:=top 0
noncomputable abbrev mj:Ç:=top 5
def qat:FnScope ["one","other","greater","lesser","rest"] ["one","other"] (av mj):=by ac_rfl
noncomputable abbrev nJ:Ç:=top 6
def qas:FnScope ["numbers","divisor","number"] ["numbers"] (av nJ):=by ac_rfl
noncomputable abbrev lY:Ç:=top 7
def CF:FnScope ["top","bottom"] ["top","bottom"] (av lY):=by ac_rfl
noncomputable abbrev k6:Ç:=top 9
def DA:FnScope ["n","place"] ["n","place"] (av k6):=by ac_rfl
noncomputable abbrev lw:Ç:=top 10
def Gg:FnScope ["entries","spot"] ["entries","spot"] (av lw):=by ac_rfl
noncomputable abbrev li:Ç:=top 11
def DH:FnScope ["row"] ["row"] (av li):=by ac_rfl
noncomputable abbrev kN:Ç:=top 12
def qaw:FnScope ["row","divisor"] ["row"] (av kN):=by ac_rfl
noncomputable abbrev ju:Ç:=top 14
def qaz:FnScope ["plan","bounds","n","least_rows","most_rows"] ["plan"] (av ju):=by ac_rfl
noncomputable abbrev kU:Ç:=top 16
def Ae:FnScope ["entries","unknown"] ["entries","unknown"] (av kU):=by ac_rfl
noncomputable abbrev kB:Ç:=top 17
def yU:FnScope ["entries"] ["entries"] (av kB):=by ac_rfl
noncomputable abbrev mz:Ç:=top 18
def qax:FnScope ["bounds","marks","number","pair"] ["bounds"] (av mz):=by ac_rfl
noncomputable abbrev mi:Ç:=top 21
def A7:FnScope ["pair"] ["pair"] (av mi):=by ac_rfl
noncomputable abbrev nM:Ç:=top 22
def qaA:FnScope ["bounds","entries","total","pair","entry"] ["bounds","entries"] (av nM):=by ac_rfl
noncomputable abbrev lj:Ç:=top 23
def qaH:FnScope ["bounds","entries","total"] ["bounds","entries"] (av lj):=by ac_rfl
noncomputable abbrev oh:Ç:=top 24
def qau:FnScope ["bounds","staying","unknown"] ["bounds","staying"] (av oh):=by ac_rfl
noncomputable abbrev nh:Ç:=top 25
def qaC:FnScope ["bounds","rows","place","row","total"] ["bounds","rows"] (av nh):=by ac_rfl
noncomputable abbrev mh:Ç:=top 26
def qaE:FnScope ["bounds","rows","place","row","total"] ["bounds","rows"] (av mh):=by ac_rfl
noncomputable abbrev k7:Ç:=top 27
def qaK:FnScope ["rows","place","row"] ["rows"] (av k7):=by ac_rfl
noncomputable abbrev mC:Ç:=top 28
def qaP:FnScope ["rows","place","row"] ["rows"] (av mC):=by ac_rfl
noncomputable abbrev nX:Ç:=top 29
def qav:FnScope ["rows","came","place","row","earlier"] ["rows"] (av nX):=by ac_rfl
noncomputable abbrev mZ:Ç:=top 30
def qay:FnScope ["bounds","staying","unknown"] ["bounds","staying"] (av mZ):=by ac_rfl
noncomputable abbrev lq:Ç:=top 31
def Fk:FnScope ["rows","unknown"] ["rows","unknown"] (av lq):=by ac_rfl
noncomputable abbrev kX:Ç:=top 32
def FT:FnScope ["rows","unknown"] ["rows","unknown"] (av kX):=by ac_rfl
noncomputable abbrev mP:Ç:=top 33
def qaL:FnScope ["bounds","rows","goal","staying","unknown"] ["bounds","rows","goal","staying"] (av mP):=by ac_rfl
noncomputable abbrev nj:Ç:=top 34
def qaI:FnScope ["bounds","rows","goal","staying","unknown","pair"] ["bounds","rows","goal","staying"] (av nj):=by ac_rfl
noncomputable abbrev on:Ç:=top 35
def qaB:FnScope ["bounds","rows","goal","staying","unknown"] ["bounds","rows","goal","staying"] (av on):=by ac_rfl
noncomputable abbrev oF:Ç:=top 37
def qaJ:FnScope ["ledger","place"] ["ledger"] (av oF):=by ac_rfl
noncomputable abbrev mS:Ç:=top 38
def qaQ:FnScope ["ledger","unknown"] ["ledger"] (av mS):=by ac_rfl
noncomputable abbrev ls:Ç:=top 39
def qaD:FnScope ["ledger","unknown","place","entries","shares"] ["ledger"] (av ls):=by ac_rfl
noncomputable abbrev mW:Ç:=top 40
def qaO:FnScope ["ledger","shares"] ["ledger"] (av mW):=by ac_rfl
noncomputable abbrev kq:Ç:=top 41
def DM:FnScope ["numbers","places"] ["numbers","places"] (av kq):=by ac_rfl
noncomputable abbrev kO:Ç:=top 42
def qaM:FnScope ["ledger","rows"] ["ledger"] (av kO):=by ac_rfl
noncomputable abbrev mt:Ç:=top 43
def qaN:FnScope ["numbers","places","n","spot","place","number"] ["numbers","places","n"] (av mt):=by ac_rfl
noncomputable abbrev lu:Ç:=top 44
def qaG:FnScope ["unknown","least","rows","spot","needs"] ["unknown","least","rows","spot"] (av lu):=by ac_rfl
noncomputable abbrev lZ:Ç:=top 47
def DE:FnScope ["_law_told"] ["_law_told"] (av lZ):=by ac_rfl
noncomputable abbrev kD:Ç:=top 48
def Dv:FnScope ["_law_told","_law_size"] ["_law_told","_law_size"] (av kD):=by ac_rfl
noncomputable abbrev mI:Ç:=top 49
def qao:FnScope ["_law_script","_law_seed","_law_cell","_law_rest"] ["_law_script"] (av mI):=by ac_rfl
noncomputable abbrev lU:Ç:=top 50
def qaj:FnScope ["_law_pool_here","_law_many","_law_digit","_law_step","_law_mixed"] ["_law_pool_here","_law_many"] (av lU):=by ac_rfl
noncomputable abbrev lc:Ç:=top 51
def Do:FnScope ["_law_entries","_law_spot"] ["_law_entries","_law_spot"] (av lc):=by ac_rfl
noncomputable abbrev nS:Ç:=top 52
def qai:FnScope ["_law_pool_here","_law_count","_law_opens","_law_rate","_law_bounds_here","_law_goal","_law_hung","_law_k","_law_least","_law_pick","_law_most"] ["_law_pool_here","_law_count","_law_opens"] (av nS):=by ac_rfl
noncomputable abbrev mO:Ç:=top 53
def qap:FnScope ["_law_pool_here","_law_many","_law_spot","_law_hung","_law_rows_here","_law_i","_law_entries","_law_one","_law_number","_law_manner","_law_bound"] ["_law_pool_here","_law_many","_law_spot","_law_hung"] (av mO):=by ac_rfl
noncomputable abbrev lW:Ç:=top 54
def qaq:FnScope ["_law_pool_here","_law_count","_law_many","_law_opens","_law_bounds_here","_law_goal","_law_hung","_law_spot","_law_least","_law_most","_law_wide","_law_rows_here","_law_entries"] ["_law_pool_here","_law_count","_law_many","_law_opens"] (av lW):=by ac_rfl
noncomputable abbrev jk:Ç:=top 55
def qak:FnScope ["_law_pool_here","_law_plan","_law_spot","_law_far_here","_law_many","_law_shifts","_law_bounds_here","_law_shift","_law_least","_law_most","_law_rows_here","_law_entries","_law_bound","_law_factor","_law_moved"] ["_law_pool_here","_law_plan","_law_spot"] (av jk):=by ac_rfl
noncomputable abbrev oJ:Ç:=top 56
def qan:FnScope ["_law_plan","_law_count","_law_pair","_law_row"] ["_law_plan","_law_count"] (av oJ):=by ac_rfl
noncomputable abbrev kR:Ç:=top 57
def qal:FnScope ["_law_struck","_law_count","_law_kept"] ["_law_struck","_law_count"] (av kR):=by ac_rfl
noncomputable abbrev jN:Ç:=top 58
def qam:FnScope ["_law_plan","_law_count","_law_rows_here","_law_k","_law_least","_law_most"] ["_law_plan"] (av jN):=by ac_rfl
noncomputable abbrev kE:Ç:=top 59
def CJ:FnScope ["_law_rows_here","_law_spot"] ["_law_rows_here","_law_spot"] (av kE):=by ac_rfl
noncomputable abbrev lf:Ç:=top 60
def qar:FnScope ["_law_bounds_here","_law_wide","_law_spots","_law_least","_law_most","_law_top","_law_longer","_law_spot"] ["_law_bounds_here","_law_wide"] (av lf):=by ac_rfl
noncomputable abbrev ma:Ç:=top 61
def qah:FnScope ["_law_spots","_law_rows_here","_law_goal","_law_most","_law_spot","_law_total"] ["_law_spots","_law_rows_here","_law_goal"] (av ma):=by ac_rfl
noncomputable abbrev og:Ç:=top 62
def qag:FnScope ["_law_plan","_law_struck","_law_spots","_law_rows_here","_law_given","_law_spot","_law_told"] ["_law_plan","_law_struck","_law_spots","_law_rows_here"] (av og):=by ac_rfl
noncomputable abbrev lr:Ç:=top 63
def qaF:FnScope ["_law_script","_law_pool_here","_law_count","_law_plan","_law_spot","_law_struck","_law_most","_law_spots","_law_rows_here","_law_again"] ["_law_script"] (av lr):=by ac_rfl
noncomputable abbrev lP:Ç:=fN (top 19) 0
def Aq:FnScope ["self","plan"] ["self","plan"] (av lP):=by ac_rfl
noncomputable abbrev nK:Ç:=fN (top 19) 1
def Bf:FnScope ["self","shares","divisor"] ["self","shares","divisor"] (av nK):=by ac_rfl
noncomputable abbrev ou:Ç:=fN (top 19) 2
def yH:FnScope ["self","place"] ["self","place"] (av ou):=by ac_rfl
noncomputable abbrev mw:Ç:=fN (top 19) 3
def qad:FnScope ["self","place","row","mark","unknown","entry","pair","bound"] ["self","place"] (av mw):=by ac_rfl
noncomputable abbrev nv:Ç:=fN (top 19) 4
def qaa:FnScope ["self","place","row"] ["self","place"] (av nv):=by ac_rfl
noncomputable abbrev oa:Ç:=fN (top 19) 5
def Gi:FnScope ["self","unknown","entry"] ["self","unknown","entry"] (av oa):=by ac_rfl
noncomputable abbrev me:Ç:=fN (top 19) 6
def qab:FnScope ["self","unknown","number","place","row","entry","shares","worth"] ["self","unknown","number"] (av me):=by ac_rfl
noncomputable abbrev jI:Ç:=fN (top 19) 7
def qac:FnScope ["self","unknown","places","place"] ["self","unknown"] (av jI):=by ac_rfl
noncomputable abbrev nG:Ç:=fN (top 19) 8
def HX:FnScope ["self","unknown","least","rows"] ["self","unknown","least","rows"] (av nG):=by ac_rfl
noncomputable abbrev lX:Ç:=fN (top 45) 0
def qae:FnScope ["self","plan","ledger","shares","mark"] ["self","plan"] (av lX):=by ac_rfl
noncomputable abbrev nH:Ç:=fN (top 45) 1
def qaf:FnScope ["self","spot","numbers","unknown","least","rows"] ["self","spot"] (av nH):=by ac_rfl
noncomputable abbrev xN:Ç:=fN (top 45) 2
noncomputable abbrev Dc:Ç:=fN (top 45) 3
structure TxtLedger(K:Â)(mg:Str->Option Value)(C:Addr):Prop where
 cl:Cls K C
 n_bounds:NoAttr K C "bounds"
 n_rows:NoAttr K C "rows"
 n_goal:NoAttr K C "goal"
 n_staying:NoAttr K C "staying"
 n_told:NoAttr K C "told"
 n_lines:NoAttr K C "lines"
 n_least_marks:NoAttr K C "least_marks"
 n_most_marks:NoAttr K C "most_marks"
 n_row_marks:NoAttr K C "row_marks"
 n_goal_shares:NoAttr K C "goal_shares"
 n_extra:NoAttr K C "extra"
 n_gone:NoAttr K C "gone"
 mgC:mg "Ledger"=Z (.ref C)
 ns:Ò K Á "Ledger"=Z (Z (.ref C))
structure TxtStruck(K:Â)(mg:Str->Option Value)(C:Addr):Prop where
 cl:Cls K C
 n_ledger:NoAttr K C "ledger"
 n_breadth:NoAttr K C "breadth"
 n_kind:NoAttr K C "kind"
 n_paper:NoAttr K C "paper"
 n_slim:NoAttr K C "slim"
 n_kept:NoAttr K C "kept"
 n_extra:NoAttr K C "extra"
 mgC:mg "Struck"=Z (.ref C)
 ns:Ò K Á "Struck"=Z (Z (.ref C))
noncomputable abbrev bz(x:Int):Prop:=x.natAbs<2^60000
def iT{a b:Int}(c:bz a)(e:bz b):Ā a b:=EY (m:=60000) (n:=60000) 'b' 'b' c e 'b'
def toB{R:D->Prop}{a b:Bool}(q:R (.bl a))(e:b=a):R (.bl b):=e▸q
def fj{x:Int}{m:Nat}(h:x.natAbs<=2^m)(a:m<60000):bz x:=KS h (Ku 'b' a)
def cI{a:Type}{xs:Y a}{i:Nat}{d:a}(h:i<xs.length):xs.getD i d∈xs:=by rw[Jl,bE h];show K8 h
def bQ{a:Type}{xs:Y a}{i:Nat}{d:a}(h:i<xs.length):xs[i]?=Z (xs.getD i d):=by rw[Jl,bE h];rfl
def df{a:Type}{xs:Y a}{i:Nat}{x d:a}(h:xs[i]?=Z x):xs.getD i d=x:=by rw[Jl,h];rfl
inductive z_left(ds:List D)(R:D->Prop):Prop|mk (d1 d2:D) (xs ys:List Int) (_:ds=[d1,d2]) (_:cV d1=Z (xs.map D.int)) (_:cV d2=Z (ys.map D.int)) (_:xs.length<=1000) (_:(∀x∈xs,bz x)) (_:(∀y∈ys,bz y)) (_:R (.int (ar xs ys)))
def CK(F:Fun K "left" "left" lw f J)(v:mg "sum"=ŗ)(j:mg "zip"=ŗ):FnOk P w K mg base aE (n+1) f J ["entries","spot"] (lSp K z_left):=by
 refine F.okD Gg (λds R h=>?_) (λz A outer s H E ds R B h=>?_)
 ·let⟨e,g,xs,ys,rfl,_⟩:=h;rfl
 let⟨e,g,xs,ys,rfl,l,o,p,r,u,q⟩:=h;refine⟨_,(aD (bf (bN (xb S) S v Ng (aO (PD.q (PF.d (dR (k:=2) (N':=["entry","number"]) (cap:=[ŗ,ŗ]) S (.ok (show b7 ["entries","spot"] (av lw) _ ["entry","number"] [ŗ,ŗ]=ř by lia)) 'a' (iE (n:=2) (eP (bK 'b') (eP (bK 'b') iB))) (js S j (ad (dv 0) (ad (dv 1) ag aa) aa)) (λ_ _ _ _ _=>(eC (n:=2) S (bP (bc (i:=0) (show List.Nodup (["entry","number"]:Y Str)by lia) S V6) (bP (bc (i:=1) (show List.Nodup (["entry","number"]:Y Str)by lia) S V6) eG)))) (λ_ _ _ _ _=>(aS cY (ac 0) (ac 1)))))) aY bD) bD ae))),?_⟩;refine⟨_,_,l,o,?_⟩;refine p8 (λx y=>D.int (x*y)) (bj p) (λx a y c=>⟨S,iT (r x a) (u y c),S⟩) ?_;show⟨List.zipWith (λx y=>x*y) xs ys,by rw[MY];rfl,q⟩
noncomputable def dk(n k:Nat):Y Int:=(List.range n).map λo=>if o=k then 1 else 0
inductive z_unit(ds:List D)(R:D->Prop):Prop|mk (n k:Nat) (_:ds=[.int (n:Int),.int (k:Int)]) (_:n<=1000) (_:R (.tup ((dk n k).map D.int)))
def HL(F:Fun K "unit" "unit" k6 f J)(a:mg "tuple"=ŗ)(g:mg "range"=ŗ):FnOk P w K mg base aE (n+1) f J ["n","place"] (lSp K z_unit):=by
 refine F.okD DA (λds R h=>?_) (λl A outer s H E ds R j h=>?_)
 ·let⟨m,k,rfl,_⟩:=h;rfl
 let⟨m,k,rfl,p,q⟩:=h;refine⟨_,(aD (bf (cu cJ S a Jn (aO (PD.q (PF.d (dR (k:=1) (N':=["other","place"]) (cap:=[ŗ,Z 1]) S (.ok (show b7 ["n","place"] (av k6) _ ["other","place"] [ŗ,Z 1]=ř by lia)) 'a' (bK 'b') (je S g (ad (dv 0) ag aa)) (λ_ _ _ _ _=>(bc (i:=0) (show List.Nodup (["other","place"]:Y Str)by lia) S V6)) (λ_ _ _ _ _=>(oG (aN (dA j.units) (ac 0) (ac 1) (az _)) am am))))) aY bD) bD ae))),?_⟩;refine⟨⟨(),()⟩,?_⟩;refine mH (λo=>D.int (if o=k then 1 else 0)) (bj ()) (λi hi=>?_) ?_
 ·by_cases c:i=k
  ·subst c;refine⟨λ_=>by rw[Jj S];rfl,λh=>?_⟩;have:((0+(i:Int))==(i:Int))=Ś:=h;rw[J6]at this;simp at this
  ·refine⟨λh=>?_,λ_=>by rw[Jd c];rfl⟩;have:((0+(i:Int))==(k:Int))=ř:=h;have:=eq_of_beq this;omega
 have e:(List.range ((m:Int)).toNat).map (λo=>D.int (if o=k then 1 else 0))=(dk m k).map D.int:=by unfold dk;rw[J3,Km];rfl
 rw[e];show q
noncomputable def jY(r:aq):aq:=(r.1.map (- ·),-r.2)
inductive z_turned(ds:List D)(R:D->Prop):Prop|mk (r:aq) (_:ds=[aw r]) (_:r.1.length<=1000) (_:R (aw (jY r)))
def Cw(F:Fun K "turned" "turned" li f J)(a:mg "tuple"=ŗ):FnOk P w K mg base aE (n+1) f J ["row"] (lSp K z_turned):=by
 refine F.okD DH (λds R h=>?_) (λe A outer s H E ds R g h=>?_)
 ·let⟨r,rfl,_⟩:=h;rfl
 let⟨r,rfl,c,q⟩:=h;refine⟨_,(aD (bf (bw (ad (cu cJ S a Jn (aO (PD.q (PF.d (dR (k:=1) (N':=["entry"]) (cap:=[ŗ]) S (.ok (show b7 ["row"] (av li) _ ["entry"] [ŗ]=ř by lia)) 'a' (bK 'b') (bX (ax (ac 0))) (λ_ _ _ _ _=>(bc (i:=0) (show List.Nodup (["entry"]:Y Str)by lia) S V6)) (λ_ _ _ _ _=>(eD (ac 0)))))) aY bD) bD ae) (ad (eD (PD.q (ax (ac 0)))) ag ip) bo)))),?_⟩;refine⟨_,S,?_⟩;refine j5 (f:=D.int) (λx=>-x) (bj c) (λx _=>rfl) ?_;show⟨_,S,q⟩
noncomputable abbrev Bd:=Int×Ř Int
noncomputable def oI:Ř Int->D
 |none=>.non
 |some m=>.int m
noncomputable def aP(b:Bd):D:=.tup [.int b.1,oI b.2]
noncomputable def ah(bs:Y Bd)(k:Nat):Bd:=bs.getD k (0,ŗ)
noncomputable def fi(bs:Y Bd)(k:Nat):aq:=(dk bs.length k,(ah bs k).1)
noncomputable def cD(bs:Y Bd)(k:Nat):aq:=jY (dk bs.length k,((ah bs k).2.getD 0))
noncomputable def cN(bs:Y Bd)(k:Nat):Bool:=(ah bs k).2.isSome
noncomputable def br(bs:Y Bd)(rs:Y aq):Y aq:=(List.range bs.length).map (fi bs)++((List.range bs.length).filter (cN bs)).map (cD bs)++rs
noncomputable def cC(bs:Y Bd)(rs:Y aq)(gs:Y Int):D:=.tup [.tup (bs.map aP),.tup (rs.map aw),.tup (gs.map D.int)]
noncomputable def iQ(c:Nat->Bool)(h:Nat->D)(i:Nat):Ř D->Prop
 |some y=>y=h i/\c i=ř
 |none=>c i=Ś
def jU{c:Nat->Bool}{h:Nat->D}{n:Nat}{ys:Y (Ř D)}(r:ys.length=n)(p:∀i y,ys[i]?=Z y->iQ c h i y):ys.filterMap id=((List.range n).filter c).map h:=by
 have e:ys=(List.range n).map λi=>if c i then Z (h i) else ŗ:=by
  refine Kz λi=>?_;rw[Jm];by_cases hi:i<n
  ·rw[Lk hi,bE (show i<ys.length by omega)];have q:=p i _ (bE (show i<ys.length by omega))
   cases e:ys[i]'()with
   |none=>
    rw[e]at q;have g:c i=Ś:=q;change Z ŗ=Z (if c i=ř then _ else _);rw[g];rfl
   |some y=>
    rw[e]at q;have g:y=h i/\c i=ř:=q;change Z (Z y)=Z (if c i=ř then _ else _);rw[g.2,g.1];rfl
  ·rw[JU (),JU (by rw[Jz];omega)];rfl
 have j:∀l:Y Nat,(l.map λi=>if c i then Z (h i) else ŗ).filterMap id=(l.filter c).map h:=by
  intro l
  induction l with
  |nil=>rfl
  |cons x l o=>
   rw[JB]
   cases e:c x with
   |true=>rw[Jj S,List.filterMap_cons_some (f:=id) (a:=Z (h x)) (b:=h x) S,L7 e,JB,o]
   |false=>rw[Jd 'b',List.filterMap_cons_none (f:=id) (a:=ŗ) S,L8 (by rw[e];decide),o]
 rw[e,j]
def fB{bs:Y Bd}{k:Nat}{i:Int}(h:k<bs.length)(e:i=(k:Int)):cF (bs.map aP) i=Z (aP (ah bs k)):=cK (i:=k) (bQ h) e
def qP(n k:Nat):(dk n k).length=n:=by unfold dk;rw[IY,Jz]
inductive z_givens(ds:List D)(R:D->Prop):Prop|mk (bs:List Bd) (rs:List aq) (g:D) (_:ds=[.tup [.tup (bs.map aP),.tup (rs.map aw),g]]) (_:bs.length<=8) (_:rs.length<=30) (_:R (.tup ((br bs rs).map aw)))
def DG(F:Fun K "givens" "givens" ju f J)(v:Cl P w K mg base n "turned" ["row"] z_turned)(u:Cl P w K mg base n "unit" ["n","place"] z_unit)(x:mg "len"=ŗ)(p:mg "range"=ŗ)(o:mg "tuple"=ŗ):FnOk P w K mg base aE (n+1) f J ["plan"] (lSp K z_givens):=by
 refine F.okD qaz (λds R h=>?_) (λM A outer s H E ds R c h=>?_)
 ·let⟨bs,rs,g,rfl,_⟩:=h;rfl
 let⟨bs,rs,g,rfl,O,L,q⟩:=h
 refine⟨_,(bt (cw (i:=1) qaz.nd S (ß S) (ax (ac 0)))
   (bt (cw (i:=2) qaz.nd S (ß S) (bN da S x JQ (aO (ac 1) aY aa) aa ae))
   (bt (rJ (i:=3) (k:=1) (N':=["place","n","bounds"]) (cap:=[ŗ,Z 2,Z 1]) S qaz.nd S V6 (.ok (show b7 ["plan","bounds","n","least_rows","most_rows"] (av ju) _ ["place","n","bounds"] [ŗ,Z 2,Z 1]=ř by lia)) 'a' (bK 'b') (je S p (ad (dv 2) ag aa)) (λ_ _ _ _ _=>(bc (i:=0) (show List.Nodup (["place","n","bounds"]:Y Str)by lia) S V6)) (λ_ _ _ _ _=>(bw (ad (aX u c S (ad (dv 1) (ad (dv 0) ag aa) aa) aa (au aa ae)) (ad (ax (PD.q (bA (ac 2) (ac 0) (λ_ _=>rfl)))) ag aB) bo))))
   (bt (ui (i:=4) (k:=1) (N':=["place","n","bounds"]) (cap:=[ŗ,Z 2,Z 1]) S qaz.nd S V6 (.ok (show b7 ["plan","bounds","n","least_rows","most_rows"] (av ju) _ ["place","n","bounds"] [ŗ,Z 2,Z 1]=ř by lia)) 'a' (bK 'b') (je S p (ad (dv 2) ag aa)) (λ_ _ _ _ _=>(bc (i:=0) (show List.Nodup (["place","n","bounds"]:Y Str)by lia) S V6)) (λ_ _ _ _ _=>(jt (aN dN (PD.q (ax (PD.q (bA (ac 2) (ac 0) (λ_ _=>rfl))))) (PD.q bi) (az _)))) (λ_ _ _ _ _=>(aX v c S (ad (bw (ad (aX u c S (ad (dv 1) (ad (dv 0) ag aa) aa) aa (au aa ae)) (ad (ax (PD.q (bA (ac 2) (ac 0) (λ_ _=>rfl)))) ag aB) bo)) ag bH) bH ae)))
   (aD (bf (aS bR (PD.q (aS bR (PD.q (cu cJ S o Jn (aO (ac 3) aY aa) aa ae)) (PD.q (cu cJ S o Jn (aO (ac 4) aY aa) aa ae)))) (PD.q (ax (ac 0)))))))))),?_⟩
 have r:((bs.map aP).length:Int)=(bs.length:Int):=by rw[IY]
 have C:(((bs.map aP).length:Nat):Int).toNat=bs.length:=by omega
 refine⟨_,S,⟨(),()⟩,?_⟩;refine mH (λk=>aw (fi bs k)) (bj ()) (λk G=>⟨bs.length,k,by rw[r,J6],(),_,fB () (J6 _),_,S,S⟩) ?_;refine⟨⟨(),()⟩,by rw[gc];show bj (),iQ (cN bs) (λk=>aw (cD bs k)),λk d hd=>?_,λys l I=>?_⟩
 ·let⟨G,rfl⟩:=ij hd
  have j:k<bs.length:=by omega
  refine⟨_,fB j (J6 _),_,S,?_⟩
  cases a:(ah bs k).2 with
  |none=>
   refine⟨λh=>(by cases h),λ_=>?_⟩;change cN bs k=Ś;unfold cN;rw[a];rfl
  |some m=>
   have e:cD bs k=jY (dk bs.length k,m):=by unfold cD;rw[a];rfl
   refine⟨λ_=>?_,λh=>(by cases h)⟩;refine⟨bs.length,k,by rw[r,J6],(),_,fB j (J6 _),_,(JY (λz=>cF [D.int (ah bs k).1,oI z] 1) a).trans S,(dk bs.length k,m),S,by rw[qP];omega,?_⟩;refine⟨JY aw e.symm,?_⟩;unfold cN;rw[a];rfl
 rw[gc]at l;rw[jU l I,C]
 have y:(List.range bs.length).map (λk=>aw (fi bs k))=((List.range bs.length).map (fi bs)).map aw:=by rw[J3];rfl
 have B:((List.range bs.length).filter (cN bs)).map (λk=>aw (cD bs k))=(((List.range bs.length).filter (cN bs)).map (cD bs)).map aw:=by rw[J3];rfl
 have N:((List.range bs.length).filter (cN bs)).length<=bs.length:=by
  have:=Kp (cN bs) (List.range bs.length)
  rwa [Jz]at this
 rw[y,B];refine⟨?_,_,rM aw _ _,_,S,?_,_,rM aw _ _,q⟩
 ·rw[IY,IY,IY,IY,Jz];show small ()
 ·rw[IY,IY,Ja,IY,IY,Jz];show small ()
noncomputable abbrev Gn:=Nat×Int×Y aq
noncomputable def ly(g:Gn):D:=.tup [.int (g.1:Nat),.int g.2.1,.tup (g.2.2.map aw)]
structure Led where
 bs:List Bd
 rs:List aq
 gl:List Int
 st:List Nat
 td:Int
 ln:List D
 lm:List D
 mm:List D
 rm:List D
 gs:List D
 ex:Int
 gn:List Gn
noncomputable def aW(n:Nat):D:=.int (n:Nat)
noncomputable def dG(s:Led):Y (Str×Fl):=[("bounds",.l (s.bs.map aP)),("rows",.l (s.rs.map aw)),("goal",.v (.tup (s.gl.map D.int))),("staying",.l (s.st.map aW)),("told",.v (.int s.td)),("lines",.l s.ln),("least_marks",.l s.lm),("most_marks",.l s.mm),("row_marks",.l s.rm),("goal_shares",.l s.gs),("extra",.v (.int s.ex)),("gone",.l (s.gn.map ly))]
noncomputable abbrev bJ(s:Led):Om:=.obj "Ledger" (dG s)
noncomputable def ix(s:Led):D:=.obj "Ledger" [("bounds",.lst (s.bs.map aP)),("rows",.lst (s.rs.map aw)),("goal",.tup (s.gl.map D.int)),("staying",.lst (s.st.map aW)),("told",.int s.td),("lines",.lst s.ln),("least_marks",.lst s.lm),("most_marks",.lst s.mm),("row_marks",.lst s.rm),("goal_shares",.lst s.gs),("extra",.int s.ex),("gone",.lst (s.gn.map ly))]
noncomputable def eJ(a:D)(d:Int):D:=.tup [.str "cut",a,.int d]
noncomputable def fY(s:Led)(a:D)(d:Int):Led:={ s with ln:=s.ln++[eJ a d] }
def cW:∀d∈([]:Y D),NoL d:=λd h=>by cases h
def bv{d:D}{ds:Y D}(h:NoL d)(t:∀e∈ds,NoL e):∀e∈d::ds,NoL e:=λe a=>by
 rcases Jt.mp a with rfl|a
 ·show h
 ·show t e a
def nL{a:D}{d:Int}(h:NoL a):NoL (eJ a d):=.tup (bv (.str _) (bv h (bv (.int _) cW)))
inductive y_Ledger__put_line(as:List Sm)(R:Sm->List Om->Prop)(Rx:XD->List Om->Prop):Prop|mk (a:Option Addr) (s:Led) (sh:D) (d:Int) (_:as=[.ob a (bJ s),.v sh,.v (.int d)]) (_:NoL sh) (_:s.ln.length<1000) (_:R (.v (.int (s.td+(s.ln.length:Nat)))) [bJ (fY s sh d)])
def ER(F:Fun K "put_line" "Ledger.put_line" nK f J){l:Addr}(c:TxtLedger K mg l)(p:mg "len"=ŗ):FnOk P w K mg base aE (n+1) f J ["self","shares","divisor"] (lSpM K y_Ledger__put_line):=by
 refine F.okM Bf (λas R o h=>?_) (λu A outer s H E as R o G v y h j=>?_)
 ·let⟨a,s,g,d,rfl,_⟩:=h;rfl
 let⟨a,s,g,d,rfl,r,x,q⟩:=h;let⟨C,rfl⟩:=eu j
 refine⟨_,(ap (qT 0 c.cl c.n_lines c.ns (bw (ad jb (ad (dv 1) (ad (dv 2) ag aa) aa) aF)) (dz bH) bH)
   (aQ (cq (cr (aS dh (PD.q (aS bR (PD.q (aL c.cl c.n_told c.ns (ac 0))) (PD.q (bN da S p JQ (aO (PD.q (aL c.cl c.n_lines c.ns (ac 0))) aY aJ) aJ ae)))) (PD.q am)))))),?_⟩
 intro B;refine⟨_,_,s.ln,S,S,nL r,bj (),dG (fY s g d),S,?_⟩;refine⟨S,_,S,S,_,S,?_⟩;refine⟨.int _,_,S,?_⟩
 have e:s.td+(((fY s g d).ln.length:Nat):Int)-1=s.td+(s.ln.length:Nat):=by change s.td+(((s.ln++[eJ g d]).length:Nat):Int)-1=_;rw[Ja,JT];omega
 show (JY (λz=>R (Sm.v (D.int z)) [bJ (fY s g d)]) e).mpr q
inductive y_Ledger__drop_row(as:List Sm)(R:Sm->List Om->Prop)(Rx:XD->List Om->Prop):Prop|mk (a:Option Addr) (s:Led) (p:Nat) (_:as=[.ob a (bJ s),.v (.int (p:Nat))]) (_:p<s.rs.length) (_:p<s.rm.length) (_:p<1000) (_:R (.v .non) [bJ { s with rs:=s.rs.eraseIdx p,rm:=s.rm.eraseIdx p }])
def Cz(F:Fun K "drop_row" "Ledger.drop_row" ou f J){g:Addr}(c:TxtLedger K mg g):FnOk P w K mg base aE (n+1) f J ["self","place"] (lSpM K y_Ledger__drop_row):=by
 refine F.okM yH (λas R j h=>?_) (λr A outer s H E as R j B u x h e=>?_)
 ·let⟨a,s,p,rfl,_⟩:=h;rfl
 let⟨a,s,p,rfl,l,o,v,q⟩:=h;let⟨z,rfl⟩:=eu e
 refine⟨_,(ap (fQ (wv 0 c.cl c.n_rows c.ns (dv 1) (dz aa) aa))
   (aQ (fQ (wv 0 c.cl c.n_row_marks c.ns (dv 1) (dz aa) aa)))),?_⟩
 intro y;refine⟨_,_,s.rs.map aw,S,S,p,_,S,(),bE (by rw[IY];show l),dG { s with rs:=s.rs.eraseIdx p },by rw[lN];rfl,?_⟩;refine⟨_,_,s.rm,S,S,p,_,S,(),bE o,dG { s with rs:=s.rs.eraseIdx p,rm:=s.rm.eraseIdx p },S,?_⟩;show⟨_,S,q⟩
inductive z_common_of_two(ds:List D)(R:D->Prop):Prop|mk (a b:Int) (_:ds=[.int a,.int b]) (_:R (.int (Int.gcd a b)))
def FQ(F:Fun K "common_of_two" "common_of_two" mj f J)(o:mg "abs"=ŗ):FnOk P w K mg base aE (n+1) f J ["one","other"] (lSp K z_common_of_two):=by
 refine F.okD qat (λds R h=>?_) (λG A outer s H E ds R C h=>?_)
 ·let⟨a,b,rfl,_⟩:=h;rfl
 let⟨a,b,rfl,q⟩:=h
 refine⟨_,(bt (cw (i:=2) qat.nd S V6 (bN n6 S o LC (aO (ac 0) aY aa) aa ae))
   (bt (cw (i:=3) qat.nd S V6 (bN n6 S o LC (aO (ac 1) aY aa) aa ae))
   (bt (FW Jw (aN (fH C.units) (ac 3) (PD.q am) (az _)) (bt (cw (i:=4) qat.nd S V6 (aS iR (ac 2) (ac 3)))
   (bt (cw (i:=2) qat.nd S V6 (dv 3))
   (aD (cw (i:=3) qat.nd S V6 (dv 4))))))
   (aD (bf (dv 2)))))),?_⟩
 refine⟨λm ρ=>∃(g l:Int)(p:Ř Sl),ρ=[Z (.v (.int a)),Z (.v (.int b)),Z (.v (.int g)),Z (.v (.int l)),p]/\m=l.toNat/\0<=g/\0<=l/\Int.gcd g l=Int.gcd a b,⟨_,_,_,_,S,S,by split<;>omega,by split<;>omega,?_⟩,?_⟩
 ·have j:∀x:Int,(if x<0 then -x else x)=(x.natAbs:Int):=λx=>by split<;>omega
  rw[j,j];unfold Int.gcd;simp
 rintro m ρ ⟨g,l,p,rfl,rfl,z,B,e⟩;refine⟨λh=>?_,λh=>?_⟩
 ·have I:l≠0:=λr=>by rw[r]at h;cases h
  have c:0<l:=by omega
  have j:=MH g c;have y:=M8 g (b:=l) ();show⟨c,(g % l).toNat,(),l,g % l,_,S,S,B,y,(DZ z c).trans e⟩
 ·have v:l=0:=by have:(!(l==0))=Ś:=h;simp at this;show this
  subst v
  have u:g=(Int.gcd a b:Int):=by rw[←e];simp;omega
  rw[u];show q
inductive z_common(ds:List D)(R:D->Prop):Prop|mk (ns:List Int) (_:ds=[.tup (ns.map D.int)]) (_:R (.int (bp ns)))
def EB(F:Fun K "common" "common" nJ f J)(c:Cl P w K mg base n "common_of_two" ["one","other"] z_common_of_two):FnOk P w K mg base aE (n+1) f J ["numbers"] (lSp K z_common):=by
 refine F.okD qas (λds R h=>?_) (λj A outer s H E ds R g h=>?_)
 ·let⟨ns,rfl,_⟩:=h;rfl
 let⟨ns,rfl,q⟩:=h
 refine⟨_,(bt (cw (i:=1) qas.nd S V6 am)
   (bt (eg Jw S (bX (dv 0)) (bc (i:=2) qas.nd S V6) (aD (cw (i:=1) qas.nd S V6 (aX c g S (ad (dv 2) (ad (dv 1) ag aa) aa) aa (au aa ae)))))
   (aD (bf (dv 1))))),?_⟩
 refine⟨λi ρ=>∃a:Ř Sl,ρ=[Z (.v (.tup (ns.map D.int))),Z (.v (.int (bp (ns.take i)))),a],⟨_,S⟩,?_,?_⟩
 ·rintro i d ρ hd ⟨a,rfl⟩;let⟨k,rfl,e⟩:=bI hd;refine⟨_,_,S,Z (.v (.int k)),?_⟩;rw[gF e,HY];rfl
 ·rintro ρ ⟨a,rfl⟩;rw[IY,Kt];show q
inductive z_up(ds:List D)(R:D->Prop):Prop|mk (a d:Int) (_:ds=[.int a,.int d]) (_:1<=d) (_:d<2^9000) (_:R (.int (-(-a/d))))
def xu(F:Fun K "up" "up" lY f J) :FnOk P w K mg base aE (n+1) f J ["top","bottom"] (lSp K z_up):=by
 refine F.okD CF (λds R h=>?_) (λe A outer s H E ds R j h=>?_)
 ·let⟨a,d,rfl,_⟩:=h;rfl
 let⟨a,d,rfl,g,c,q⟩:=h
 refine⟨_,(fV (bZ (aN iC (ac 1) (PD.q am) (az _)) (aD CN) cf)
   (aD (bf (eD (PD.q (aS qK (PD.q (eD (ac 0))) (ac 1))))))),?_⟩
 refine⟨λρ=>ρ=[Z (.v (.int a)),Z (.v (.int d))],⟨λh=>absurd (dP h) (),λ_=>rfl⟩,?_⟩;rintro ρ rfl;show⟨CDivB.of () c,q⟩
noncomputable def fR(r:aq):aq:=if bp r.1=0 then r else (r.1.map (·/bp r.1),-(-r.2/bp r.1))
inductive z_evened(ds:List D)(R:D->Prop):Prop|mk (r:aq) (_:ds=[aw r]) (_:r.1.length<=1000) (_:0<=bp r.1) (_:bp r.1<2^9000) (_:R (aw (fR r)))
def Cg(F:Fun K "evened" "evened" kN f J)(p:Cl P w K mg base n "common" ["numbers"] z_common)(u:Cl P w K mg base n "up" ["top","bottom"] z_up)(j:mg "tuple"=ŗ):FnOk P w K mg base aE (n+1) f J ["row"] (lSp K z_evened):=by
 refine F.okD qaw (λds R h=>?_) (λv A outer s H E ds R a h=>?_)
 ·let⟨r,rfl,_⟩:=h;rfl
 let⟨r,rfl,l,y,c,q⟩:=h
 refine⟨_,(bt (cw (i:=1) qaw.nd S (ß S) (aX p a S (ad (ax (ac 0)) ag aB) aB ae))
   (fV (bZ (aN (dA a.units) (ac 1) (PD.q am) (az _)) (aD (bf (dv 0))) cf)
   (aD (bf (bw (ad (cu cJ S j Jn (aO (PD.q (PF.d (dR (k:=1) (N':=["entry","divisor"]) (cap:=[ŗ,Z 1]) S (.ok (show b7 ["row","divisor"] (av kN) _ ["entry","divisor"] [ŗ,Z 1]=ř by lia)) 'a' (bK 'b') (bX (ax (ac 0))) (λ_ _ _ _ _=>(bc (i:=0) (show List.Nodup (["entry","divisor"]:Y Str)by lia) S V6)) (λ_ _ _ _ _=>(aS qK (ac 0) (ac 1)))))) aY bD) bD ae) (ad (aX u a S (ad (ax (ac 0)) (ad (dv 1) ag aa) aB) aB (au aa ae)) ag bo) bo)))))),?_⟩
 refine⟨_,S,r.1,S,?_⟩;refine⟨λρ=>bp r.1≠0/\ρ=[Z (.v (aw r)),Z (.v (.int (bp r.1)))],⟨λh=>?_,λh=>⟨?_,S⟩⟩,?_⟩
 ·have e:bp r.1=0:=eq_of_beq h
  have:fR r=r:=by unfold fR;rw[Jj e]
  rw[this]at q;show q
 ·intro e;have h':(bp r.1==0)=Ś:=h;rw[e]at h';cases h'
 rintro ρ ⟨g,rfl⟩
 have o:0<bp r.1:=by omega
 refine⟨_,S,?_⟩;refine j5 (f:=D.int) (λx=>x/bp r.1) (bj l) (λx _=>⟨CDivB.of o c,S⟩) ?_;refine⟨_,S,r.2,bp r.1,S,(),c,?_⟩
 have:fR r=(r.1.map (·/bp r.1),-(-r.2/bp r.1)):=by unfold fR;rw[Jd g]
 rw[this]at q;show q
inductive z_without(ds:List D)(R:D->Prop):Prop|mk (es:List Int) (u:Nat) (_:ds=[.tup (es.map D.int),.int (u:Nat)]) (_:es.length<=1000) (_:R (.tup ((es.set u 0).map D.int)))
def yc(F:Fun K "without" "without" kU f J)(g:mg "tuple"=ŗ)(j:mg "enumerate"=ŗ):FnOk P w K mg base aE (n+1) f J ["entries","unknown"] (lSp K z_without):=by
 refine F.okD Ae (λds R h=>?_) (λr A outer s H E ds R p h=>?_)
 ·let⟨es,u,rfl,_⟩:=h;rfl
 let⟨es,u,rfl,o,q⟩:=h;refine⟨_,(aD (bf (cu cJ S g Jn (aO (PD.q (PF.d (dR (k:=2) (N':=["place","entry","unknown"]) (cap:=[ŗ,ŗ,Z 1]) S (.ok (show b7 ["entries","unknown"] (av kU) _ ["place","entry","unknown"] [ŗ,ŗ,Z 1]=ř by lia)) 'a' (iE (n:=2) (eP (bK 'b') (eP (bK 'b') iB))) (gC S j (ad (dv 0) ag aa)) (λ_ _ _ _ _=>(eC (n:=2) S (bP (bc (i:=0) (show List.Nodup (["place","entry","unknown"]:Y Str)by lia) S V6) (bP (bc (i:=1) (show List.Nodup (["place","entry","unknown"]:Y Str)by lia) S V6) eG)))) (λ_ _ _ _ _=>(oG (aN (dA p.units) (ac 0) (ac 2) (az _)) am (dv 1)))))) aY bD) bD ae))),?_⟩;refine qD ((es.set u 0).map D.int) (by rw[eT,IY,IY,Jc]) (by rw[eT,IY];show bj o) (λi y=>((es.set u 0).map D.int)[i]?=Z y) (λi y h=>h) (λi d hd=>?_) q;let⟨e,l,rfl⟩:=ge hd;let⟨x,rfl,a⟩:=bI l;by_cases c:i=u
 ·subst c;refine⟨S,λ_=>?_,λh=>?_⟩
  ·change ((es.set i 0).map D.int)[i]?=Z (D.int 0);rw[Jm,Jy (aA a)];rfl
  ·have h':((i:Int)==(i:Int))=Ś:=h;rw[JK]at h';cases h'
 ·refine⟨S,λh=>?_,λ_=>?_⟩
  ·have h':((i:Int)==(u:Int))=ř:=h;have:=eq_of_beq h';omega
  ·change ((es.set u 0).map D.int)[i]?=Z (D.int x);rw[Jm,Jv (λe=>c e.symm),a];rfl
noncomputable def di(es:Y Int):Y Nat:=(List.range es.length).filter λi=>decide (es.getD i 0≠0)
def zE{es:Y Int}{ys:Y (Ř D)}(a:ys.length=es.length)(c:∀i y,ys[i]?=Z y->iQ (λi=>decide (es.getD i 0≠0)) (λi=>aW i) i y):ys.filterMap id=(di es).map aW:=jU a c
inductive z_only_unknown(ds:List D)(R:D->Prop):Prop|mk (es:List Int) (u:Nat) (_:ds=[.tup (es.map D.int)]) (_:es.length<=1000) (_:(di es)[0]?=Z u) (_:R (aW u))
def Bz(F:Fun K "only_unknown" "only_unknown" kB f J)(c:mg "enumerate"=ŗ):FnOk P w K mg base aE (n+1) f J ["entries"] (lSp K z_only_unknown):=by
 refine F.okD yU (λds R h=>?_) (λr A outer s H E ds R j h=>?_)
 ·let⟨es,u,rfl,_⟩:=h;rfl
 let⟨es,u,rfl,v,l,q⟩:=h;refine⟨_,(aD (bf (ax (PD.q (PF.d (pA (k:=2) (N':=["place","entry"]) (cap:=[ŗ,ŗ]) S (.ok (show b7 ["entries"] (av kB) _ ["place","entry"] [ŗ,ŗ]=ř by lia)) 'a' (iE (n:=2) (eP (bK 'b') (eP (bK 'b') iB))) (gC S c (ad (dv 0) ag aa)) (λ_ _ _ _ _=>(eC (n:=2) S (bP (bc (i:=0) (show List.Nodup (["place","entry"]:Y Str)by lia) S V6) (bP (bc (i:=1) (show List.Nodup (["place","entry"]:Y Str)by lia) S V6) eG)))) (λ_ _ _ _ _=>(jt (aN (fH j.units) (ac 1) (PD.q am) (az _)))) (λ_ _ _ _ _=>(dv 0)))))))),?_⟩;refine⟨by rw[eT,IY];show bj (),iQ (λi=>decide (es.getD i 0≠0)) (λi=>aW i),λi d hd=>?_,λys a p=>?_⟩
 ·let⟨e,g,rfl⟩:=ge hd;let⟨x,rfl,o⟩:=bI g;have ex:es.getD i 0=x:=df o;refine⟨S,λh=>⟨S,?_⟩,λh=>?_⟩
  ·change decide (es.getD i 0≠0)=ř;rw[ex]
   show J4 λe=>by rw[e]at h;cases h
  ·change decide (es.getD i 0≠0)=Ś;rw[ex];refine JG λe=>?_;have h':(!(x==0))=Ś:=h
   have:(x==0)=ř:=by simpa using h'
   show e (eq_of_beq this)
 rw[eT,IY]at a;rw[zE a p];show⟨_,cK (i:=0) l S,q⟩
noncomputable def i5(bs:Y Bd):Nat:=(bs.filter λb=>b.2.isSome).length
noncomputable def gb(bs:Y Bd)(i:Nat):D:=if (ah bs i).2.isSome then .int (bs.length+i5 (bs.take i):Nat) else .non
noncomputable def nB(bs:Y Bd):Y D:=(List.range bs.length).map (gb bs)
def tI{bs:Y Bd}{i:Nat}{b:Bd}(h:bs[i]?=Z b):i5 (bs.take (i+1))=i5 (bs.take i)+if b.2.isSome then 1 else 0:=by unfold i5;rw[gF h,L0,Ja];congr 1;cases e:b.2.isSome<;>simp[e]
inductive y_first_most_marks(as:List Sm)(R:Sm->List Om->Prop)(Rx:XD->List Om->Prop):Prop|mk (bs:List Bd) (_:as=[.v (.tup (bs.map aP))]) (_:bs.length<=1000) (_:R (.ob ŗ (.lst (nB bs))) [])
def ze(F:Fun K "first_most_marks" "first_most_marks" mz f J)(p:mg "len"=ŗ):FnOk P w K mg base aE (n+1) f J ["bounds"] (lSpM K y_first_most_marks):=by
 refine F.okM qax (λas R o h=>?_) (λr A outer s H E as R o z u x h l=>?_)
 ·let⟨bs,rfl,_⟩:=h;rfl
 let⟨bs,rfl,v,q⟩:=h;obtain rfl:=jl l
 refine⟨_,(ap (aH (i:=1) qax.nd S V6 (dr (du ag)))
   (ap (aH (i:=2) qax.nd S V6 (af (bN da S p JQ (aO (ac 0) aY aa) aa ae)))
   (ap (e9 Jw S (fw (bX (dv 0))) (cg (i:=3) qax.nd S V6) (aQ (ce (bW (aN eR (PD.q (ax (ac 3))) (PD.q bi) (az _))) (aQ (gG 1 (af bi) (dz aF) aF)) (ap (gG 1 (af (dv 2)) (dz aa) aa)
   (aQ (aH (i:=2) qax.nd S V6 (af (aS bR (ac 2) (PD.q am)))))))))
   (aQ (cq (jG 1)))))),?_⟩
 intro y;refine⟨λi ρ=>∃e:Ř Sm,ρ=[Z (.v (.tup (bs.map aP))),Z (.own ((List.range i).map (gb bs))),Z (.v (.int (bs.length+i5 (bs.take i):Nat))),e],⟨ŗ,?_⟩,?_,?_⟩
 ·change [_,_,_,_]=_
  have:(((bs.map aP).length:Nat):Int)=((bs.length+i5 (bs.take 0):Nat):Int):=by rw[IY];rfl
  rw[←this];rfl
 ·rintro i d ρ hd ⟨e,rfl⟩;let⟨b,rfl,a⟩:=bI hd;have g:ah bs i=b:=df a
  have j:(List.range (i+1)).map (gb bs)=(List.range i).map (gb bs)++[gb bs i]:=by rw[Lo,KD];rfl
  have hsz:((List.range i).map (gb bs)).length<sizeLine:=by have:=aA a;rw[IY,Jz];show bj ()
  refine⟨oI b.2,S,?_⟩
  cases c:b.2 with
  |none=>
   refine⟨λ_=>?_,λh=>(by cases h)⟩;refine⟨hsz,_,S,Z (.v (aP b)),?_⟩;rw[j,tI a,c]
   have:gb bs i=.non:=by unfold gb;rw[g,c];rfl
   rw[this];rfl
  |some m=>
   refine⟨λh=>(by cases h),λ_=>?_⟩;refine⟨hsz,_,S,Z (.v (aP b)),?_⟩;rw[j,tI a,c]
   have:gb bs i=.int (bs.length+i5 (bs.take i):Nat):=by unfold gb;rw[g,c];rfl
   rw[this];rfl
 ·rintro ρ ⟨e,rfl⟩;rw[IY];show q
noncomputable def eo(s:Led)(u:Nat)(e:Int):D:=if 0<e then .tup [s.mm.getD u .non,.int e] else .tup [s.lm.getD u .non,.int (-e)]
inductive z_Ledger__bound_share(ds:List D)(R:D->Prop):Prop|mk (s:Led) (u:Nat) (e:Int) (_:ds=[ix s,aW u,.int e]) (_:u<s.mm.length) (_:u<s.lm.length) (_:R (eo s u e))
def Dh(F:Fun K "bound_share" "Ledger.bound_share" oa f J){c:Addr}(a:TxtLedger K mg c):FnOk P w K mg base aE (n+1) f J ["self","unknown","entry"] (lSp K z_Ledger__bound_share):=by
 refine F.okD Gi (λds R h=>?_) (λo A outer s H E ds R p h=>?_)
 ·let⟨s,u,e,rfl,_⟩:=h;rfl
 let⟨s,u,e,rfl,g,j,q⟩:=h
 refine⟨_,(fV (bZ (aN fq (ac 2) (PD.q am) (az _)) (aD (bf (bw (ad (bA (PD.q (aL a.cl a.n_most_marks a.ns (ac 0))) (ac 1) (λ_ _=>rfl)) (ad (dv 2) ag aa) aB)))) cf)
   (aD (bf (bw (ad (bA (PD.q (aL a.cl a.n_least_marks a.ns (ac 0))) (ac 1) (λ_ _=>rfl)) (ad (eD (ac 2)) ag ip) aB))))),?_⟩
 refine⟨λρ=>¬ 0<e/\ρ=[Z (.v (ix s)),Z (.v (aW u)),Z (.v (.int e))],⟨λh=>?_,λh=>⟨?_,S⟩⟩,?_⟩
 ·have h:=dP h;unfold eo at q;rw[Jj h]at q;show⟨S,_,S,s.mm.getD u .non,gB (bQ g) S,q⟩
 ·show Kg h
 rintro ρ ⟨l,rfl⟩;unfold eo at q;rw[Jd l]at q;show⟨S,_,S,s.lm.getD u .non,gB (bQ j) S,q⟩
noncomputable def gj(s:Led)(u:Nat)(l:Int)(rs:Y aq):Led:={ s with st:=s.st.erase u,gn:=s.gn++[(u,l,rs)] }
def DO{st:Y Nat}{u:Nat}(h:u∈st):∃k,st[k]?=Z u/\(∀m<k,st[m]?≠Z u)/\st.eraseIdx k=st.erase u:=by
 induction st with
 |nil=>cases h
 |cons x st o=>
  by_cases c:x=u
  ·subst c;show⟨0,S,λm a=>absurd a (Ka _),by rw[List.erase_cons_head];rfl⟩
  ·let⟨k,g,j,l⟩:=o ((Jt.mp h).resolve_left λe=>c e.symm);refine⟨k+1,g,λm a=>?_,?_⟩
   ·cases m with
    |zero=>intro e;show c (JJ e)
    |succ m=>show j m ()
   ·rw[List.erase_cons_tail (by simpa using c),←l];rfl
def pV(rs:Y aq):∀d∈rs.map aw,NoL d:=λd hd=>by let⟨r,_,rfl⟩:=Ju.mp hd;show .tup (bv (.tup λe a=>by let⟨x,_,rfl⟩:=Ju.mp a;show .int x) (bv (.int _) cW))
def mq(r:aq):NoL (aw r):=pV [r] _ (by simp)
def mf(st:Y Nat):st.map aW=(st.map λn:Nat=>(n:Int)).map D.int:=by rw[J3];rfl
inductive y_Ledger__let_go(as:List Sm)(R:Sm->List Om->Prop)(Rx:XD->List Om->Prop):Prop|mk (a:Option Addr) (s:Led) (u:Nat) (l:Int) (rs:List aq) (_:as=[.ob a (bJ s),.v (aW u),.v (.int l),.v (.lst (rs.map aw))]) (_:u∈s.st) (_:s.gn.length<1000) (_:R (.v .non) [bJ (gj s u l rs)])
def Iq(F:Fun K "let_go" "Ledger.let_go" nG f J){o:Addr}(c:TxtLedger K mg o)(r:mg "tuple"=ŗ):FnOk P w K mg base aE (n+1) f J ["self","unknown","least","rows"] (lSpM K y_Ledger__let_go):=by
 refine F.okM HX (λas R p h=>?_) (λG A outer s H E as R p Q I M h j=>?_)
 ·let⟨a,s,u,l,rs,rfl,_⟩:=h;rfl
 let⟨a,s,u,l,rs,rfl,C,L,q⟩:=h;let⟨O,rfl⟩:=eu j
 refine⟨_,(ap (qT 0 c.cl c.n_gone c.ns (bw (ad (dv 1) (ad (dv 2) (ad (cu cJ S r Jn (aO (ac 3) aY aa) aa ae) ag bo) aa) aa)) (dz bH) bH)
   (aQ (Di 0 c.cl c.n_staying c.ns (dv 1) (dz aa) aa))),?_⟩
 intro N;refine⟨_,_,s.gn.map ly,S,S,.tup (bv (.int _) (bv (.int _) (bv (.tup (pV rs)) cW))),by rw[IY];show bj (),dG { s with gn:=s.gn++[(u,l,rs)] },by rw[show s.gn.map ly++[D.tup [aW u,D.int l,D.tup (rs.map aw)]]=(s.gn++[(u,l,rs)]).map ly from by rw[KD];rfl];rfl,?_⟩;let⟨k,v,y,z⟩:=DO C;refine⟨_,_,s.st.map aW,S,S,s.st.map (λn:Nat=>(n:Int)),u,k,S,mf s.st,by rw[Jm,v];rfl,λm B e=>?_,dG (gj s u l rs),?_,?_⟩
 ·rw[Jm]at e
  cases g:s.st[m]? with
  |none=>rw[g]at e;cases e
  |some x=>
   rw[g]at e;have:(x:Int)=(u:Int):=JJ e;show y m B (by rw[g];congr 1;omega)
 ·rw[lN,z,←mf];rfl
 ·show⟨_,S,q⟩
noncomputable def gA(d:D):D:=.tup [.tup [d,.int 1]]
def jA{d:D}(h:NoL d):NoL (gA d):=.tup (bv (.tup (bv h (bv (.int _) cW))) cW)
noncomputable def fT(s:Led):D:=.int (s.td+(s.ln.length:Nat))
noncomputable def jh(s:Led)(p:Nat)(r:aq):Led:={ s with ln:=s.ln++[eJ (gA (s.rm.getD p .non)) (bp r.1)],rm:=s.rm.set p (fT s),rs:=s.rs.set p (fR r) }
inductive y_Ledger__even_row(as:List Sm)(R:Sm->List Om->Prop)(Rx:XD->List Om->Prop):Prop|mk (a:Option Addr) (s:Led) (p:Nat) (r:aq) (_:as=[.ob a (bJ s),.v (aW p)]) (_:s.rs[p]?=Z r) (_:p<s.rm.length) (_:(∀d∈s.rm,NoL d)) (_:s.ln.length<1000) (_:r.1.length<=1000) (_:0<=bp r.1) (_:bp r.1<2^9000) (_:R (.v .non) [bJ (jh s p r)])
def yO(F:Fun K "even_row" "Ledger.even_row" nv f J){l:Addr}(c:TxtLedger K mg l)(v:Cl P w K mg base n "evened" ["row"] z_evened)(L:Cl P w K mg base n "common" ["numbers"] z_common)(y:MthM P w K mg base n l "put_line" ["self","shares","divisor"] y_Ledger__put_line):FnOk P w K mg base aE (n+1) f J ["self","place"] (lSpM K y_Ledger__even_row):=by
 refine F.okM qaa (λas R B h=>?_) (λM A outer s H E as R B U N g h z=>?_)
 ·let⟨a,s,p,r,rfl,_⟩:=h;rfl
 let⟨a,s,p,r,rfl,j,e,u,I,x,C,G,q⟩:=h;let⟨Q,rfl⟩:=eu z
 refine⟨_,(ap (aH (i:=2) qaa.nd S V6 (cr (bA (PD.q (aL c.cl c.n_rows c.ns (ac 0))) (ac 1) (λ_ _=>rfl))))
   (ap (iP 0 c.cl c.n_row_marks c.ns (eQ 0 y g c.cl c.ns (aI (cr (bw (ad (bw (ad (bA (PD.q (aL c.cl c.n_row_marks c.ns (ac 0))) (ac 1) (λ_ _=>rfl)) (ad am ag aF) aB)) ag bH))) (aI (af (aX L g S (ad (ax (ac 2)) ag aB) aB ae)) bg bo) bH) bH (au bo ae)) (dv 1))
   (aQ (iP 0 c.cl c.n_rows c.ns (af (aX v g S (ad (dv 2) ag aa) aa ae)) (dv 1))))),?_⟩
 intro O;have o:s.rm.getD p .non∈s.rm:=cI e;refine⟨S,_,S,aw r,cK j S,mq r,?_⟩;refine⟨⟨_,_,S,S⟩,S,_,S,s.rm.getD p .non,gB (bQ e) S,jA (u _ o),_,S,r.1,S,_,S,S,_,s,_,_,S,jA (u _ o),I,?_⟩;rfl';refine⟨_,_,s.rm,S,S,_,p,S,eO e,dG { s with ln:=s.ln++[eJ (gA (s.rm.getD p .non)) (bp r.1)],rm:=s.rm.set p (fT s) },S,?_⟩;refine⟨r,S,x,C,G,_,_,s.rs.map aw,S,S,_,p,S,eO (by rw[IY];show aA j),dG (jh s p r),by rw[←KZ];rfl,?_⟩;show⟨_,S,q⟩
noncomputable def dq(a d:Int):Int:=-(-a/d)
noncomputable def bG(s:Led)(p u:Nat)(r:aq):Led:=
 if 0<r.1.getD u 0/\(ah s.bs u).1<dq r.2 ((r.1.getD u 0).natAbs:Int) then { s with bs:=s.bs.set u (dq r.2 ((r.1.getD u 0).natAbs:Int),(ah s.bs u).2),ln:=s.ln++[eJ (gA (s.rm.getD p .non)) (r.1.getD u 0)],lm:=s.lm.set u (fT s) }
 else if r.1.getD u 0<0/\(∀m,(ah s.bs u).2=Z m->-dq r.2 ((r.1.getD u 0).natAbs:Int)<m) then { s with bs:=s.bs.set u ((ah s.bs u).1,Z (-dq r.2 ((r.1.getD u 0).natAbs:Int))),ln:=s.ln++[eJ (gA (s.rm.getD p .non)) (-r.1.getD u 0)],mm:=s.mm.set u (fT s) }
 else s
noncomputable def bY(s:Led)(p:Nat):Led:={ s with rs:=s.rs.eraseIdx p,rm:=s.rm.eraseIdx p }
noncomputable def kC(s:Led)(p u:Nat)(r:aq):Led:=bY (bG s p u r) p
def sQ(s:Led)(p u:Nat)(r:aq):(bG s p u r).rs=s.rs/\(bG s p u r).rm=s.rm:=by
 unfold bG;split
 ·show⟨S,S⟩
 ·split<;>show⟨S,S⟩
inductive y_Ledger__turn_to_bound(as:List Sm)(R:Sm->List Om->Prop)(Rx:XD->List Om->Prop):Prop|mk (a:Option Addr) (s:Led) (p u:Nat) (r:aq) (_:as=[.ob a (bJ s),.v (aW p)]) (_:s.rs[p]?=Z r) (_:p<s.rm.length) (_:p<1000) (_:(∀d∈s.rm,NoL d)) (_:s.ln.length<1000) (_:r.1.length<=1000) (_:(di r.1)[0]?=Z u) (_:u<s.bs.length) (_:u<s.lm.length) (_:u<s.mm.length) (_:(∀x∈r.1,x.natAbs<2^9000)) (_:R (.v .non) [bJ (kC s p u r)])
def CC(F:Fun K "turn_to_bound" "Ledger.turn_to_bound" mw f J){M:Addr}(c:TxtLedger K mg M)(b_:Cl P w K mg base n "only_unknown" ["entries"] z_only_unknown)(lD:Cl P w K mg base n "up" ["top","bottom"] z_up)(ND:MthM P w K mg base n M "drop_row" ["self","place"] y_Ledger__drop_row)(T:MthM P w K mg base n M "put_line" ["self","shares","divisor"] y_Ledger__put_line)(ic:mg "abs"=ŗ):FnOk P w K mg base aE (n+1) f J ["self","place"] (lSpM K y_Ledger__turn_to_bound):=by
 refine F.okM qad (λas R Rx h=>?_) (λNG A outer s H E as R Rx qs NI v h NW=>?_)
 ·let⟨a,s,p,u,r,rfl,_⟩:=h;rfl
 let⟨a,s,p,u,r,rfl,U,O,OI,hm,L,N0,a_,B,Pe,X,h9,q⟩:=h;let⟨pa,rfl⟩:=eu NW
 refine⟨_,(ap (aH (i:=2) qad.nd S V6 (cr (bA (PD.q (aL c.cl c.n_rows c.ns (ac 0))) (ac 1) (λ_ _=>rfl))))
   (ap (aH (i:=3) qad.nd S V6 (cr (bA (PD.q (aL c.cl c.n_row_marks c.ns (ac 0))) (ac 1) (λ_ _=>rfl))))
   (ap (aH (i:=4) qad.nd S V6 (af (aX b_ v S (ad (ax (ac 2)) ag aB) aB ae)))
   (ap (aH (i:=5) qad.nd S V6 (af (bA (PD.q (ax (ac 2))) (ac 4) (λ_ _=>rfl))))
   (ap (aH (i:=6) qad.nd S V6 (cr (bA (PD.q (aL c.cl c.n_bounds c.ns (ac 0))) (ac 4) (λ_ _=>rfl))))
   (ap (aH (i:=7) qad.nd S V6 (af (aX lD v S (ad (ax (ac 2)) (ad (bN n6 S ic LC (aO (ac 5) aY aa) aa ae) ag bo) aB) aB (au bo ae))))
   (cB (ce (bW (PWD.td (fh (aN fq (ac 5) (PD.q am) (az _)) (gI (aN fq (ac 7) (PD.q (ax (ac 6))) (az _)))))) (ap (iP 0 c.cl c.n_bounds c.ns (af (bw (ad (dv 7) (ad (ax (ac 6)) ag aB) aa))) (dv 4))
   (aQ (iP 0 c.cl c.n_least_marks c.ns (eQ 0 T v c.cl c.ns (aI (af (bw (ad (bw (ad (dv 3) (ad am ag aF) aa)) ag bH))) (aI (af (dv 5)) bg aa) bH) bH (au aa ae)) (dv 4)))) (aQ (ce (bW (PWD.td (fh (aN iC (ac 5) (PD.q am) (az _)) (gI (PWD.td (ef (aN eR (PD.q (ax (ac 6))) (PD.q bi) (az _)) (hZ (aN iC (PD.q (eD (ac 7))) (PD.q (ax (ac 6))) (az _))))))))) (ap (iP 0 c.cl c.n_bounds c.ns (af (bw (ad (ax (ac 6)) (ad (eD (ac 7)) ag ip) aB))) (dv 4))
   (aQ (iP 0 c.cl c.n_most_marks c.ns (eQ 0 T v c.cl c.ns (aI (af (bw (ad (bw (ad (dv 3) (ad am ag aF) aa)) ag bH))) (aI (af (eD (ac 5))) bg ip) bH) bH (au ip ae)) (dv 4)))) cy)))
   (aQ (fQ (eQ 0 ND v c.cl c.ns (aI (af (dv 1)) bg aa) aa ae)))))))))),?_⟩
 intro ke;have y:NoL (s.rm.getD p .non):=hm _ (cI O);have RZ:u∈di r.1:=Je a_;let⟨C,Q⟩:=JP.mp RZ;have C:u<r.1.length:=JA.mp C;have NT:r.1.getD u 0≠0:=JV Q;refine⟨S,_,S,aw r,cK U S,mq r,?_⟩;refine⟨S,_,S,s.rm.getD p .non,gB (bQ O) S,y,?_⟩;refine⟨_,S,r.1,u,S,N0,a_,?_⟩;refine⟨_,S,_,cK (i:=u) (bQ (d:=0) C) S,?_⟩;refine⟨S,_,S,aP (ah s.bs u),fB B S,.tup (bv (.int _) (bv (by cases (ah s.bs u).2<;>constructor) cW)),?_⟩
 have Vp:(if r.1.getD u 0<0 then -r.1.getD u 0 else r.1.getD u 0)=((r.1.getD u 0).natAbs:Int):=by split<;>omega
 have Vq:(((r.1.getD u 0).natAbs:Nat):Int)<2^9000:=by exact_mod_cast h9 _ (cI C)
 refine⟨_,S,r.2,((r.1.getD u 0).natAbs:Int),JY (λz=>[D.int r.2,D.int z]) Vp,(),Vq,?_⟩;generalize o:r.1.getD u 0=e at *;generalize hb:(-(-r.2/((e.natAbs:Nat):Int)))=b at *;have l:dq r.2 ((e.natAbs:Nat):Int)=b:=hb;refine⟨λρ=>ρ=[Z (.ob (Z pa) (bJ (bG s p u r))),Z (.v (aW p)),Z (.v (aw r)),Z (.v (s.rm.getD p .non)),Z (.v (aW u)),Z (.v (.int e)),Z (.v (aP (ah s.bs u))),Z (.v (.int b))],?_,?_⟩
 ·have hs1:s.ln.length<1000:=L;by_cases j:0<e
  ·refine⟨λ_=>⟨_,S,?_⟩,λh=>absurd j (Kg h)⟩;by_cases G:(ah s.bs u).1<b
   ·refine⟨λ_=>?_,λh=>absurd G (Kg h)⟩
    have g:bG s p u r={ s with bs:=s.bs.set u (b,(ah s.bs u).2),ln:=s.ln++[eJ (gA (s.rm.getD p .non)) e],lm:=s.lm.set u (fT s) }:=by unfold bG;rw[o,l,Jj ⟨j,G⟩]
    refine⟨_,S,_,_,s.bs.map aP,S,S,_,u,S,eO (by rw[IY];show B),dG { s with bs:=s.bs.set u (b,(ah s.bs u).2) },by rw[show D.tup [D.int b,oI (ah s.bs u).2]=aP (b,(ah s.bs u).2)from rfl,←KZ];rfl,?_⟩;refine⟨⟨_,_,S,S⟩,_,S,S,_,{ s with bs:=s.bs.set u (b,(ah s.bs u).2) },_,_,S,jA y,L,?_⟩;rfl';refine⟨_,_,s.lm,S,S,_,u,S,eO Pe,dG (bG s p u r),by rw[g];rfl,S⟩
   ·refine⟨λh=>absurd (dP h) G,λ_=>?_⟩;refine⟨λh=>absurd (dP h) (),λ_=>⟨ff,λ_=>?_⟩⟩
    have g:bG s p u r=s:=by unfold bG;rw[o,l,Jd (λh=>G h.2),Jd (λh=>by omega)]
    rw[g];rfl
  ·refine⟨λh=>absurd (dP h) j,λ_=>⟨ff,λ_=>?_⟩⟩;refine⟨λ_=>⟨oI (ah s.bs u).2,S,?_⟩,λh=>absurd (Kg h) ()⟩
   cases x:(ah s.bs u).2 with
   |none=>
    refine⟨λ_=>⟨λ_=>?_,tf⟩,tf⟩
    have N:∀m,(ah s.bs u).2=Z m->-b<m:=λm h=>by rw[x]at h;cases h
    have g:bG s p u r={ s with bs:=s.bs.set u ((ah s.bs u).1,Z (-b)),ln:=s.ln++[eJ (gA (s.rm.getD p .non)) (-e)],mm:=s.mm.set u (fT s) }:=by unfold bG;rw[o,l,Jd (λh=>j h.1),Jj ⟨(),N⟩]
    refine⟨_,S,_,_,s.bs.map aP,S,S,_,u,S,eO (by rw[IY];show B),dG { s with bs:=s.bs.set u ((ah s.bs u).1,Z (-b)) },by rw[show D.tup [D.int (ah s.bs u).1,D.int (-b)]=aP ((ah s.bs u).1,Z (-b))from rfl,←KZ];rfl,?_⟩;refine⟨⟨_,_,S,S⟩,_,S,S,_,{ s with bs:=s.bs.set u ((ah s.bs u).1,Z (-b)) },_,_,S,jA y,L,?_⟩;rfl';refine⟨_,_,s.mm,S,S,_,u,S,eO X,dG (bG s p u r),by rw[g];rfl,S⟩
   |some m=>
    refine⟨ff,λ_=>⟨D.int m,(JY (λz=>cF [D.int (ah s.bs u).1,oI z] 1) x).trans S,?_⟩⟩;by_cases I:-b<m
    ·refine⟨λ_=>?_,λh=>absurd I (Kg h)⟩
     have N:∀be,(ah s.bs u).2=Z be->-b<be:=λbe h=>by rw[x]at h;cases h;show I
     have g:bG s p u r={ s with bs:=s.bs.set u ((ah s.bs u).1,Z (-b)),ln:=s.ln++[eJ (gA (s.rm.getD p .non)) (-e)],mm:=s.mm.set u (fT s) }:=by unfold bG;rw[o,l,Jd (λh=>j h.1),Jj ⟨(),N⟩]
     refine⟨_,S,_,_,s.bs.map aP,S,S,_,u,S,eO (by rw[IY];show B),dG { s with bs:=s.bs.set u ((ah s.bs u).1,Z (-b)) },by rw[show D.tup [D.int (ah s.bs u).1,D.int (-b)]=aP ((ah s.bs u).1,Z (-b))from rfl,←KZ];rfl,?_⟩;refine⟨⟨_,_,S,S⟩,_,S,S,_,{ s with bs:=s.bs.set u ((ah s.bs u).1,Z (-b)) },_,_,S,jA y,L,?_⟩;rfl';refine⟨_,_,s.mm,S,S,_,u,S,eO X,dG (bG s p u r),by rw[g];rfl,S⟩
    ·refine⟨λh=>absurd (dP h) I,λ_=>?_⟩
     have g:bG s p u r=s:=by unfold bG;rw[o,l,Jd (λh=>j h.1),Jd (λh=>I (h.2 m x))]
     rw[g];rfl
 rintro ρ rfl;let⟨t1,t2⟩:=sQ s p u r;show⟨⟨_,_,S,S⟩,_,S,S,_,bG s p u r,p,S,by rw[t1];show aA U,by rw[t2];show O,OI,_,S,q⟩
noncomputable abbrev bL(rs:Y aq)(p:Nat):aq:=rs.getD p ([],0)
noncomputable def iI(u:Nat)(n:Int)(s:Led)(p:Nat):Led:=
 if (bL s.rs p).1.getD u 0=0 then s else { s with ln:=s.ln++[eJ (.tup [.tup [s.rm.getD p .non,.int 1],eo s u ((bL s.rs p).1.getD u 0)]) 1],rm:=s.rm.set p (fT s),rs:=s.rs.set p ((bL s.rs p).1.set u 0,(bL s.rs p).2-(bL s.rs p).1.getD u 0*n) }
noncomputable def dQ(s:Led)(u:Nat)(n:Int)(i:Nat):Led:=(List.range i).foldl (iI u n) s
def mB(s:Led)(u:Nat)(n:Int)(i:Nat):dQ s u n (i+1)=iI u n (dQ s u n i) i:=by unfold dQ;rw[Lo,KL];rfl
noncomputable def bU(u:Nat)(n:Int)(s:Led):Led:=if s.gl.getD u 0=0 then s else { s with gs:=s.gs++[eo s u (s.gl.getD u 0)],ex:=s.ex+s.gl.getD u 0*n }
noncomputable def ft(s:Led)(u:Nat)(n:Int):Led:=gj (bU u n (dQ s u n s.rs.length)) u n []
structure FixI(s:Led)(i:Nat)(t:Led):Prop where
 rl:t.rs.length=s.rs.length
 ml:t.rm.length=s.rm.length
 ll:t.ln.length<=s.ln.length+i
 at_:∀j,i<=j->t.rs[j]?=s.rs[j]?
 nl:(∀d∈s.rm,NoL d)->∀d∈t.rm,NoL d
 eq:t.bs=s.bs/\t.gl=s.gl/\t.st=s.st/\t.td=s.td/\t.lm=s.lm/\t.mm=s.mm/\t.gs=s.gs/\t.ex=s.ex/\t.gn=s.gn
def jS(s:Led)(u:Nat)(n:Int):∀i,FixI s i (dQ s u n i)
 |0=>⟨S,S,Jg _,λ_ _=>rfl,λh=>h,S,S,S,S,S,S,S,S,S⟩
 |i+1=>by
  have h:=jS s u n i;rw[mB];generalize dQ s u n i=t at h;unfold iI;split
  ·show⟨h.rl,h.ml,by have:=h.ll;omega,λj a=>h.at_ j (),h.nl,h.eq⟩
  ·refine⟨by rw[Jc];show h.rl,by rw[Jc];show h.ml,by rw[Ja,JT];have:=h.ll;omega,λj a=>?_,λc d hd=>?_,h.eq⟩
   ·change (t.rs.set i _)[j]?=_;rw[Jv ()];show h.at_ j ()
   ·rcases LP hd with hd|rfl
    ·show h.nl c d hd
    ·show .int _
def oC{s:Led}{u:Nat}{e:Int}(a:∀d∈s.mm,NoL d)(c:∀d∈s.lm,NoL d)(g:u<s.mm.length)(h:u<s.lm.length):NoL (eo s u e):=by
 unfold eo;split
 ·show .tup (bv (a _ (cI g)) (bv (.int _) cW))
 ·show .tup (bv (c _ (cI h)) (bv (.int _) cW))
structure FixP(s:Led)(u:Nat)(n:Int):Prop where
 us:u∈s.st
 um:u<s.mm.length
 ul:u<s.lm.length
 ug:u<s.gl.length
 ml:s.rm.length=s.rs.length
 rl:s.rs.length<=100
 ll:s.ln.length<800
 gl:s.gs.length<1000
 nl:s.gn.length<1000
 bn:bz n
 rr:∀r∈s.rs,u<r.1.length/\r.1.length<=1000/\∀x∈r.1,bz x
 gg:∀x∈s.gl,bz x
 n1:∀d∈s.rm,NoL d
 n2:∀d∈s.mm,NoL d
 n3:∀d∈s.lm,NoL d
inductive y_Ledger__fix(as:List Sm)(R:Sm->List Om->Prop)(Rx:XD->List Om->Prop):Prop|mk (a:Option Addr) (s:Led) (u:Nat) (n:Int) (_:as=[.ob a (bJ s),.v (aW u),.v (.int n)]) (_:FixP s u n) (_:R (.v .non) [bJ (ft s u n)])
def G0(F:Fun K "fix" "Ledger.fix" me f J){C:Addr}(g:TxtLedger K mg C)(IR:Cl P w K mg base n "without" ["entries","unknown"] z_without)(NQ:MthM P w K mg base n C "let_go" ["self","unknown","least","rows"] y_Ledger__let_go)(NC:MthM P w K mg base n C "put_line" ["self","shares","divisor"] y_Ledger__put_line)(oO:MthD P w K mg base n C "bound_share" ["self","unknown","entry"] z_Ledger__bound_share)(b9:mg "range"=ŗ)(bq:mg "len"=ŗ):FnOk P w K mg base aE (n+1) f J ["self","unknown","number"] (lSpM K y_Ledger__fix):=by
 refine F.okM qab (λas R Rx h=>?_) (λNG A outer s H E as R Rx qs NI l h NW=>?_)
 ·let⟨a,s,u,m,rfl,_⟩:=h;rfl
 let⟨a,s,u,m,rfl,j,q⟩:=h;let⟨pa,rfl⟩:=eu NW
 refine⟨_,(ap (e9 Jw S (sx S b9 (aI (cr (bN da S bq JQ (aO (PD.q (aL g.cl g.n_rows g.ns (ac 0))) aY aJ) aJ ae)) bg bo)) (cg (i:=3) qab.nd S V6) (ap (aH (i:=4) qab.nd S V6 (cr (bA (PD.q (aL g.cl g.n_rows g.ns (ac 0))) (ac 3) (λ_ _=>rfl))))
   (ap (aH (i:=5) qab.nd S V6 (af (bA (PD.q (ax (ac 4))) (ac 1) (λ_ _=>rfl))))
   (aQ (ce (bW (aN (fH l.units) (ac 5) (PD.q am) (az _))) (ap (aH (i:=6) qab.nd S V6 (cr (bw (ad (bw (ad (bA (PD.q (aL g.cl g.n_row_marks g.ns (ac 0))) (ac 3) (λ_ _=>rfl)) (ad am ag aF) aB)) (ad (ot oO l g.cl g.ns (dv 0) (ad (dv 1) (ad (dv 5) ag aa) aa) aa (au aa ae)) ag bo) bH))))
   (ap (iP 0 g.cl g.n_row_marks g.ns (eQ 0 NC l g.cl g.ns (aI (af (dv 6)) (aI (af am) bg aF) aa) aa (au aF ae)) (dv 3))
   (aQ (iP 0 g.cl g.n_rows g.ns (af (bw (ad (aX IR l S (ad (ax (ac 4)) (ad (dv 1) ag aa) aB) aB (au aa ae)) (ad (aS dh (PD.q (ax (ac 4))) (PD.q (aS cY (ac 5) (ac 2)))) ag cz) bo))) (dv 3))))) cy)))))
   (ap (aH (i:=7) qab.nd S V6 (cr (bA (PD.q (aL g.cl g.n_goal g.ns (ac 0))) (ac 1) (λ_ _=>rfl))))
   (cB (ce (bW (aN (fH l.units) (ac 7) (PD.q am) (az _))) (ap (qT 0 g.cl g.n_goal_shares g.ns (ot oO l g.cl g.ns (dv 0) (ad (dv 1) (ad (dv 7) ag aa) aa) aa (au aa ae)) (dz bo) bo)
   (aQ (eW 0 g.cl g.n_extra g.ns (cr (aS bR (PD.q (aL g.cl g.n_extra g.ns (ac 0))) (PD.q (aS cY (ac 7) (ac 2)))))))) cy)
   (aQ (fQ (eQ 0 NQ l g.cl g.ns (aI (af (dv 1)) (aI (af (dv 2)) (aI (af (PF.d (du ag))) bg wW) aa) aa) aa (au aa (au wW ae)))))))),?_⟩
 intro ke;have N0:=j.rl;refine⟨S,_,S,.int _,⟨by rw[IY];omega,by rw[IY];omega⟩,λi ρ=>∃L M N B:Ř Sm,ρ=[Z (.ob (Z pa) (bJ (dQ s u m i))),Z (.v (aW u)),Z (.v (.int m)),L,M,N,B,ŗ],⟨_,_,_,_,S⟩,?_,?_⟩
 ·rintro i d ρ hd ⟨L,M,N,B,rfl⟩;let⟨hi,rfl⟩:=ij hd
  have O:i<s.rs.length:=by rw[IY]at hi;omega
  have I:=jS s u m i;have b_:=mB s u m i;generalize dQ s u m i=t at *
  have Q:t.rs[i]?=Z s.rs[i]:=by rw[I.at_ i (Jg _)];show bE O
  have X:bL t.rs i=s.rs[i]:=df Q;let⟨a_,Vr,QC⟩:=j.rr s.rs[i] (K8 O)
  have be:i<t.rm.length:=by rw[I.ml,j.ml];show O
  let⟨q1,U,q3,q4,y,z,q7,q8,q9⟩:=I.eq
  have p:u<t.mm.length:=by rw[z];show j.um
  have o:u<t.lm.length:=by rw[y];show j.ul
  have x:NoL (t.rm.getD i .non):=I.nl j.n1 _ (cI be);have G:∀e,NoL (eo t u e):=λe=>oC (by rw[z];show j.n2) (by rw[y];show j.n3) p o;have hll:=I.ll;have hlr:=j.ll;refine⟨S,_,S,aw s.rs[i],cK Q (J6 _),mq _,?_⟩;refine⟨_,S,_,cK (i:=u) (bQ (d:=0) a_) S,?_⟩;have QM:bz (s.rs[i].1.getD u 0):=QC _ (cI a_);generalize l:s.rs[i]=r at *;generalize v:r.1.getD u 0=e at *;by_cases c:e=0
  ·have e2:dQ s u m (i+1)=t:=by rw[b_];unfold iI;rw[X,v,Jj c]
   refine⟨λh=>?_,λ_=>⟨Z (.v (.int (0+(i:Nat)))),Z (.v (aw r)),Z (.v (.int e)),B,by rw[e2];rfl⟩⟩;rw[c]at h;cases h
  ·refine⟨λ_=>?_,λh=>?_⟩
   ·refine⟨S,_,S,t.rm.getD i .non,gB (bQ be) (J6 _),S,S,t,u,e,S,p,o,.tup (bv (.tup (bv x (bv (.int _) cW))) (bv (G e) cW)),?_⟩;refine⟨⟨_,_,S,S⟩,_,S,S,_,t,_,_,S,.tup (bv (.tup (bv x (bv (.int _) cW))) (bv (G e) cW)),(),?_⟩;rfl';refine⟨_,_,t.rm,S,S,_,i,S,by rw[J6];show eO be,dG { t with ln:=t.ln++[eJ (.tup [.tup [t.rm.getD i .non,.int 1],eo t u e]) 1],rm:=t.rm.set i (fT t) },S,?_⟩;refine⟨_,S,r.1,u,S,Vr,_,S,iT QM j.bn,_,_,t.rs.map aw,S,S,_,i,S,by rw[J6,IY];show eO (aA Q),dG (iI u m t i),?_,?_⟩
    ·unfold iI;rw[X,v,Jd c];rw[show D.tup [D.tup ((r.1.set u 0).map D.int),D.int (r.2-e*m)]=aw (r.1.set u 0,r.2-e*m)from rfl,←KZ];rfl
    ·show⟨Z (.v (.int (0+(i:Nat)))),Z (.v (aw r)),Z (.v (.int e)),Z (.v (.tup [.tup [t.rm.getD i .non,.int 1],eo t u e])),by rw[b_];rfl⟩
   ·have h':(!(e==0))=Ś:=h
    have:(e==0)=ř:=by simpa using h'
    show absurd (eq_of_beq this) c
 ·rintro ρ ⟨L,M,N,B,rfl⟩
  have eL:(cA 0 (((s.rs.map aw).length:Nat):Int).toNat).length=s.rs.length:=by rw[gc,IY];omega
  rw[eL];have I:=jS s u m s.rs.length;have e0:ft s u m=gj (bU u m (dQ s u m s.rs.length)) u m []:=rfl;generalize dQ s u m s.rs.length=t at *;let⟨q1,U,q3,q4,y,z,q7,q8,q9⟩:=I.eq
  have p:u<t.mm.length:=by rw[z];show j.um
  have o:u<t.lm.length:=by rw[y];show j.ul
  have hg:u<t.gl.length:=by rw[U];show j.ug
  have G:∀e,NoL (eo t u e):=λe=>oC (by rw[z];show j.n2) (by rw[y];show j.n3) p o;have Uk:bz (t.gl.getD u 0):=j.gg _ (by rw[←U];show cI hg);refine⟨S,_,S,_,cK (i:=u) (bQ (d:=0) hg) S,.int _,?_⟩;refine⟨λρ=>ρ=[Z (.ob (Z pa) (bJ (bU u m t))),Z (.v (aW u)),Z (.v (.int m)),L,M,N,B,Z (.v (.int (t.gl.getD u 0)))],?_,?_⟩
  ·generalize v:t.gl.getD u 0=e at *;by_cases c:e=0
   ·refine⟨λh=>?_,λ_=>?_⟩
    ·rw[c]at h;cases h
    ·have:bU u m t=t:=by unfold bU;rw[v,Jj c]
     rw[this];rfl
   ·refine⟨λ_=>?_,λh=>?_⟩
    ·refine⟨_,_,t.gs,S,S,S,S,t,u,e,S,p,o,G e,by rw[q7];show bj (by have:=j.gl;omega),dG { t with gs:=t.gs++[eo t u e] },S,?_⟩;refine⟨S,_,S,iT Uk j.bn,.int _,_,_,S,S,(by change 12<1000;decide),dG (bU u m t),?_,S⟩;unfold bU;rw[v,Jd c];rfl
    ·have h':(!(e==0))=Ś:=h
     have:(e==0)=ř:=by simpa using h'
     show absurd (eq_of_beq this) c
  rintro ρ rfl
  have Ob:(bU u m t).st=t.st:=by unfold bU;split<;>rfl
  have T:(bU u m t).gn=t.gn:=by unfold bU;split<;>rfl
  rw[e0]at q;show⟨⟨_,_,S,S⟩,_,S,S,_,bU u m t,u,m,[],S,by rw[Ob,q3];show j.us,by rw[T,q9];show j.nl,_,S,q⟩
noncomputable def bM(s:Led)(u:Nat):Y Nat:=(List.range s.rs.length).filter λi=>decide ((bL s.rs i).1.getD u 0≠0)
noncomputable def fM(s:Led)(u:Nat):Led:=(bM s u).reverse.foldl bY (gj s u (ah s.bs u).1 ((bM s u).map (bL s.rs)))
def uZ:∀{e:Y Nat}{n i p:Nat},e.Pairwise (λx y=>y<x)->(∀x∈e,x<n)->e[i]?=Z p->p+i<n
 | [],n,i,p,_,_,h=>by cases h
 |q::t,n,0,p,_,a,h=>by cases h;show a _ Ji
 |q::t,n,i+1,p,c,a,h=>by
  rw[L1]at c;have:=uZ (n:=q) c.2 (λx g=>c.1 x g) (show t[i]?=Z p from h);have:=a q Ji;omega
def wJ(s:Led)(u:Nat):(bM s u).reverse.Pairwise (λx y=>y<x):=by rw[Nh];show Lu.filter _
def pq{s:Led}{u x:Nat}(h:x∈bM s u):x<s.rs.length:=JA.mp (JP.mp h).1
def qk(s:Led):∀(ps:Y Nat),ps.Pairwise (λx y=>y<x)->(∀x∈ps,x<s.rs.length)->s.rm.length=s.rs.length->(ps.foldl bY s).rs.length=s.rs.length-ps.length/\(ps.foldl bY s).rm.length=s.rs.length-ps.length
 | [],_,_,a=>⟨S,a⟩
 |p::ps,c,h,a=>by
  rw[L1]at c;have g:=h p Ji;have e:(bY s p).rs.length=s.rs.length-1:=Kv g
  have l:(bY s p).rm.length=s.rs.length-1:=by rw[←a];show Kv (by rw[a];show g)
  have:=qk (bY s p) ps c.2 (λx j=>by rw[e];have:=c.1 x j;omega) (by rw[e,l]);rw[e]at this;change (ps.foldl bY (bY s p)).rs.length=_/\(ps.foldl bY (bY s p)).rm.length=_;rw[this.1,this.2,Jp];omega
structure HangP(s:Led)(u:Nat):Prop where
 us:u∈s.st
 ub:u<s.bs.length
 ml:s.rm.length=s.rs.length
 rl:s.rs.length<=100
 nl:s.gn.length<1000
 rr:∀r∈s.rs,u<r.1.length
inductive y_Ledger__hang(as:List Sm)(R:Sm->List Om->Prop)(Rx:XD->List Om->Prop):Prop|mk (a:Option Addr) (s:Led) (u:Nat) (_:as=[.ob a (bJ s),.v (aW u)]) (_:HangP s u) (_:R (.v .non) [bJ (fM s u)])
def Ej(F:Fun K "hang" "Ledger.hang" jI f J){o:Addr}(c:TxtLedger K mg o)(M:MthM P w K mg base n o "let_go" ["self","unknown","least","rows"] y_Ledger__let_go)(I:MthM P w K mg base n o "drop_row" ["self","place"] y_Ledger__drop_row)(ki:mg "reversed"=ŗ)(U:mg "enumerate"=ŗ):FnOk P w K mg base aE (n+1) f J ["self","unknown"] (lSpM K y_Ledger__hang):=by
 refine F.okM qac (λas R Q h=>?_) (λNG A outer s H E as R Q qs NI y h N=>?_)
 ·let⟨a,s,u,rfl,_⟩:=h;rfl
 let⟨a,s,u,rfl,g,q⟩:=h;let⟨pa,rfl⟩:=eu N
 refine⟨_,(ap (zL (i:=2) (k:=2) (N':=["place","row","unknown"]) (cap:=[ŗ,ŗ,Z 1]) S qac.nd S V6 (.ok (show b7 ["self","unknown","places","place"] (av jI) _ ["place","row","unknown"] [ŗ,ŗ,Z 1]=ř by lia)) 'a' (iE (n:=2) (eP (bK 'b') (eP (bK 'b') iB))) (gC S U (ad (aL c.cl c.n_rows c.ns (ac 0)) ag aJ)) (λ_ _ _ _ _=>(eC (n:=2) S (bP (bc (i:=0) (show List.Nodup (["place","row","unknown"]:Y Str)by lia) S V6) (bP (bc (i:=1) (show List.Nodup (["place","row","unknown"]:Y Str)by lia) S V6) eG)))) (λ_ _ _ _ _=>(jt (aN (fH y.units) (PD.q (bA (PD.q (ax (ac 1))) (ac 2) (λ_ _=>rfl))) (PD.q am) (az _)))) (λ_ _ _ _ _=>(dv 0)))
   (jJ 2 (ap (fQ (eQ 0 M y c.cl c.ns (aI (af (dv 1)) (aI (cr (ax (PD.q (bA (PD.q (aL c.cl c.n_bounds c.ns (ac 0))) (ac 1) (λ_ _=>rfl))))) (aI (vJ (sK (dR (k:=1) (N':=["place","self"]) (cap:=[ŗ,Z 0]) S (.ok (show b7 ["self","unknown","places","place"] (av jI) _ ["place","self"] [ŗ,Z 0]=ř by lia)) 'a' (bK 'b') (bX (dv 2)) (λ_ _ _ _ _=>(bc (i:=0) (show List.Nodup (["place","self"]:Y Str)by lia) S V6)) (λ_ _ _ _ _=>(bA (PD.q (aL c.cl c.n_rows c.ns (ac 1))) (ac 0) (λ_ _=>rfl)))))) bg bD) aB) aa) aa (au aB (au bD ae))))
   (aQ (e9 Jw S (fw (vU S ki (ad (dv 2) ag aa))) (cg (i:=3) qac.nd S V6) (aQ (fQ (eQ 0 I y c.cl c.ns (aI (af (dv 3)) bg aa) aa ae)))))))),?_⟩
 intro ke;have N0:=g.rl
 have hps:(bM s u).length<=s.rs.length:=by
  have:=Kp (λi=>decide ((bL s.rs i).1.getD u 0≠0)) (List.range s.rs.length)
  rwa [Jz]at this
 refine⟨S,_,S,by rw[eT,IY];show bj (),iQ (λi=>decide ((bL s.rs i).1.getD u 0≠0)) (λi=>aW i),λi d hd=>?_,λys C hy=>?_⟩
 ·let⟨e,b_,rfl⟩:=ge hd;let⟨r,rfl,j⟩:=bI b_;have ex:bL s.rs i=r:=df j;have T:=g.rr r (Je j);refine⟨S,_,S,_,cK (i:=u) (bQ (d:=0) T) S,λh=>⟨S,?_⟩,λh=>?_⟩
  ·change decide ((bL s.rs i).1.getD u 0≠0)=ř;rw[ex]
   show J4 λe=>by rw[e]at h;cases h
  ·change decide ((bL s.rs i).1.getD u 0≠0)=Ś;rw[ex];refine JG λe=>?_;have h':(!(r.1.getD u 0==0))=Ś:=h
   have:(r.1.getD u 0==0)=ř:=by simpa using h'
   show e (eq_of_beq this)
 rw[eT,IY]at C;rw[show ys.filterMap id=(bM s u).map aW from jU C hy];refine⟨λd hd=>by let⟨x,_,rfl⟩:=Ju.mp hd;show .int _,?_⟩;rfl';refine⟨⟨_,_,S,S⟩,S,_,S,_,fB g.ub S,_,S,.int _,gq (f:=aW) (λp=>aw (bL s.rs p)) (bj ()) (λp l=>⟨S,_,S,_,cK (bQ (pq l)) S,S⟩) ?_⟩;refine⟨λd hd=>?_,_,S,S,_,s,u,(ah s.bs u).1,(bM s u).map (bL s.rs),by rw[J3];rfl,g.us,g.nl,?_⟩
 ·let⟨x,_,rfl⟩:=Ju.mp hd;show mq _
 rfl';have X:fM s u=(bM s u).reverse.foldl bY (gj s u (ah s.bs u).1 ((bM s u).map (bL s.rs))):=rfl;have v:(gj s u (ah s.bs u).1 ((bM s u).map (bL s.rs))).rs=s.rs:=rfl;have be:(gj s u (ah s.bs u).1 ((bM s u).map (bL s.rs))).rm=s.rm:=rfl;generalize gj s u (ah s.bs u).1 ((bM s u).map (bL s.rs))=t at *;have G:=wJ s u;have B:∀x∈(bM s u).reverse,x<s.rs.length:=λx j=>pq (LK.mp j);refine⟨λi ρ=>∃z:Ř Sm,ρ=[Z (.ob (Z pa) (bJ (((bM s u).reverse.take i).foldl bY t))),Z (.v (aW u)),Z (.v (.lst ((bM s u).map aW))),z],⟨_,S⟩,?_,?_⟩
 ·rintro i d ρ hd ⟨z,rfl⟩;rw[←List.map_reverse]at hd;let⟨p,rfl,l⟩:=bI hd;have hpi:=uZ G B l;have L:=qk t ((bM s u).reverse.take i) (G.sublist (List.take_sublist _ _)) (λx j=>by rw[v];show B x (List.mem_of_mem_take j)) (by rw[v,be];show g.ml)
  have O:((bM s u).reverse.take i).length=i:=by rw[Kb];have:=aA l;omega
  rw[v,O]at L
  have a_:((bM s u).reverse.take (i+1)).foldl bY t=bY (((bM s u).reverse.take i).foldl bY t) p:=by rw[gF l,KL];rfl
  generalize ((bM s u).reverse.take i).foldl bY t=t2 at *;refine⟨⟨_,_,S,S⟩,_,S,S,_,t2,p,S,(),(),(),?_⟩;rfl';show⟨Z (.v (aW p)),by rw[a_];rfl⟩
 ·rintro ρ ⟨z,rfl⟩;rw[KN,IY,←KN,Kt,←X];show⟨_,S,q⟩
noncomputable def dF(bs:Y Bd)(rs:Y aq)(gs:Y Int):Led:=⟨bs,rs,gs,List.range bs.length,((br bs rs).length:Nat),[],(List.range bs.length).map aW,nB bs,cA ((br bs rs).length-(rs.length:Nat)) rs.length,[],0,[]⟩
def rF(bs:Y Bd)(rs:Y aq):rs.length<=(br bs rs).length/\(br bs rs).length<=2*bs.length+rs.length:=by
 unfold br;have:=Kp (cN bs) (List.range bs.length);rw[Jz]at this;simp only[Ja,IY,Jz];omega
def Bq(n:Nat):cA 0 n=(List.range n).map aW:=by unfold cA;refine Mx λi _=>?_;rw[J6];rfl
inductive y_Ledger____init__(as:List Sm)(R:Sm->List Om->Prop)(Rx:XD->List Om->Prop):Prop|mk (a:Option Addr) (bs:List Bd) (rs:List aq) (gs:List Int) (_:as=[.ob a (.obj "Ledger" []),.v (cC bs rs gs)]) (_:bs.length<=8) (_:rs.length<=30) (_:R (.v .non) [bJ (dF bs rs gs)])
def DS(F:Fun K "__init__" "Ledger.__init__" lP f J){y:Addr}(c:TxtLedger K mg y)(z:ClM P w K mg base n "first_most_marks" ["bounds"] y_first_most_marks)(u:Cl P w K mg base n "givens" ["plan"] z_givens)(e:mg "list"=ŗ)(j:mg "len"=ŗ)(l:mg "range"=ŗ):FnOk P w K mg base aE (n+1) f J ["self","plan"] (lSpM K y_Ledger____init__):=by
 refine F.okM Aq (λas R B h=>?_) (λL A outer s H E as R B T M r h x=>?_)
 ·let⟨a,bs,rs,gs,rfl,_⟩:=h;rfl
 let⟨a,bs,rs,gs,rfl,I,v,q⟩:=h;let⟨U,rfl⟩:=eu x
 refine⟨_,(ap (iw 0 c.cl c.n_bounds c.ns (dr (lJ S e (PD.q (ax (ac 1))) aB)))
   (ap (iw 0 c.cl c.n_rows c.ns (dr (lJ S e (PD.q (ax (ac 1))) aB)))
   (ap (eW 0 c.cl c.n_goal c.ns (af (ax (ac 1))))
   (ap (iw 0 c.cl c.n_staying c.ns (dr (wP S S e S l (ad (bN da S j JQ (aO (PD.q (ax (ac 1))) aY aB) aB ae) ag bo))))
   (ap (eW 0 c.cl c.n_told c.ns (af (bN da S j JQ (aO (PD.q (aX u r S (ad (dv 1) ag aa) aa ae)) aY bo) bo ae)))
   (ap (iw 0 c.cl c.n_lines c.ns (dr (du ag)))
   (ap (iw 0 c.cl c.n_least_marks c.ns (dr (wP S S e S l (ad (bN da S j JQ (aO (PD.q (ax (ac 1))) aY aB) aB ae) ag bo))))
   (ap (iw 0 c.cl c.n_most_marks c.ns (bO z r S (aI (af (ax (ac 1))) bg aB) aB ae))
   (ap (iw 0 c.cl c.n_row_marks c.ns (sK (ym S S e S l (ad (aS dh (PD.q (aL c.cl c.n_told c.ns (ac 0))) (PD.q (bN da S j JQ (aO (PD.q (ax (ac 1))) aY aB) aB ae))) (ad (aL c.cl c.n_told c.ns (ac 0)) ag aJ) cz))))
   (ap (iw 0 c.cl c.n_goal_shares c.ns (dr (du ag)))
   (ap (eW 0 c.cl c.n_extra c.ns (af am))
   (aQ (iw 0 c.cl c.n_gone c.ns (dr (du ag))))))))))))))),?_⟩
 intro Q;have O:=rF bs rs
 have N:((bs.map aP).length:Int)=(bs.length:Int):=by rw[IY]
 have p:(((bs.map aP).length:Nat):Int).toNat=bs.length:=by rw[IY];omega
 refine⟨_,S,_,S,_,_,S,S,'b',_,S,?_⟩;refine⟨_,S,_,S,_,_,S,S,(by change 1<1000;decide),_,S,?_⟩;refine⟨_,S,_,_,S,S,(by change 2<1000;decide),_,S,?_⟩;refine⟨_,S,⟨(),()⟩,_,_,S,S,(by change 3<1000;decide),_,S,?_⟩;refine⟨bs,rs,_,S,I,v,_,_,S,S,(by change 4<1000;decide),_,S,?_⟩;refine⟨_,_,S,S,(by change 5<1000;decide),_,S,?_⟩;refine⟨_,S,⟨(),()⟩,_,_,S,S,(by change 6<1000;decide),_,S,?_⟩;refine⟨_,S,_,S,S,bs,S,(),_,_,S,S,(by change 7<1000;decide),_,S,?_⟩;rfl'
 have g:((((br bs rs).map aw).length:Nat):Int)=((br bs rs).length:Nat):=by rw[IY]
 have o:(((rs.map aw).length:Nat):Int)=(rs.length:Nat):=by rw[IY]
 refine⟨S,_,S,_,S,S,_,S,⟨⟨(),(),(),()⟩,()⟩,λd hd=>?_,_,_,S,S,(by change 8<1000;decide),_,S,?_⟩
 ·let⟨i,hi⟩:=JX hd;rw[(ij hi).2];show .int _
 refine⟨_,_,S,S,(by change 9<1000;decide),_,S,?_⟩;refine⟨_,_,S,S,(by change 10<1000;decide),_,S,?_⟩;refine⟨_,_,S,S,(by change 11<1000;decide),dG (dF bs rs gs),?_,?_⟩
 ·have C:cA 0 (((bs.map aP).length:Nat):Int).toNat=(List.range bs.length).map aW:=by rw[p,Bq]
  have G:cA (((((br bs rs).map aw).length:Nat):Int)-(((rs.map aw).length:Nat):Int)) ((((((br bs rs).map aw).length:Nat):Int)-(((((br bs rs).map aw).length:Nat):Int)-(((rs.map aw).length:Nat):Int))).toNat)=cA ((br bs rs).length-(rs.length:Nat)) rs.length:=by rw[g,o];congr 1;omega
  rw[C,G,g];rfl
 ·show⟨_,S,q⟩
noncomputable def ii(b:Bd):Bool:=match b.2 with|some m=>decide (m<b.1)|none=>Ś
inductive z_is_crossed(ds:List D)(R:D->Prop):Prop|mk (b:Bd) (_:ds=[aP b]) (_:R (.bl (ii b)))
def Fr(F:Fun K "is_crossed" "is_crossed" mi f J) :FnOk P w K mg base aE (n+1) f J ["pair"] (lSp K z_is_crossed):=by
 refine F.okD A7 (λds R h=>?_) (λa A outer s H E ds R c h=>?_)
 ·let⟨b,rfl,_⟩:=h;rfl
 let⟨b,rfl,q⟩:=h;refine⟨_,(aD (bf (iu (ed dN (PD.q (ax (ac 0))) (PD.q bi) (az _)) (jO (ed fq (PD.q (ax (ac 0))) (PD.q (ax (ac 0))) (az _)))))),?_⟩;let⟨l,m⟩:=b
 cases m with
 |none=>show⟨_,S,ff,λ_=>q⟩
 |some m=>show⟨_,S,λ_=>⟨_,S,_,S,q⟩,tf⟩
noncomputable def fk(b:Bd)(e:Int):Int:=if 0<e then e*b.2.getD 0 else if e<0 then e*b.1 else 0
noncomputable def gD(b:Bd)(e:Int):Bool:=!(decide (0<e)&&b.2.isNone)
noncomputable def gU(bs:Y Bd)(es:Y Int):Bool:=(List.zipWith gD bs es).all id
noncomputable def fb(bs:Y Bd)(es:Y Int):Ř Int:=if gU bs es then Z (List.zipWith fk bs es).sum else ŗ
noncomputable abbrev kr(b:Bd):Prop:=bz b.1/\∀m,b.2=Z m->bz m
def vO{c e j:Type}{f:c->e->j}{as:Y c}{bs:Y e}{i:Nat}{a:c}{b:e}(g:as[i]?=Z a)(h:bs[i]?=Z b):List.zipWith f (as.take (i+1)) (bs.take (i+1))=List.zipWith f (as.take i) (bs.take i)++[f a b]:=by
 rw[gF g,gF h,List.zipWith_append (by rw[Kb,Kb];have:=aA g;have:=aA h;omega)];rfl
def uh{a c e:Type}{f:a->c->e}{as:Y a}{bs:Y c}{n:Nat}(h:n=min as.length bs.length):List.zipWith f (as.take n) (bs.take n)=List.zipWith f as bs:=by
 rw[←List.take_zipWith,Ls (by rw[List.length_zipWith];omega)]
def qx{bs:Y Bd}{es:Y Int}{i:Nat}{b:Bd}{e:Int}(a:bs[i]?=Z b)(c:es[i]?=Z e)(h:gU (bs.take i) (es.take i)=ř)(g:gD b e=ř):gU (bs.take (i+1)) (es.take (i+1))=ř:=by unfold gU at h ⊢;rw[vO a c,List.all_append,h];simp[g]
def B7{bs:Y Bd}{es:Y Int}{i:Nat}{b:Bd}{e:Int}(a:bs[i]?=Z b)(c:es[i]?=Z e)(g:gD b e=Ś):gU bs es=Ś:=by unfold gU;rw[List.all_eq_false];refine⟨gD b e,Je (i:=i) (by rw[Lz,a,c]),?_⟩;rw[g];decide
def oR{bs:Y Bd}{es:Y Int}{i:Nat}{b:Bd}{e x:Int}(a:bs[i]?=Z b)(c:es[i]?=Z e)(g:fk b e=x):(List.zipWith fk (bs.take i) (es.take i)).sum+x=(List.zipWith fk (bs.take (i+1)) (es.take (i+1))).sum:=by rw[vO a c,List.sum_append,g];simp
inductive z_greatest_sum(ds:List D)(R:D->Prop):Prop|mk (d1 d2:D) (bs:List Bd) (es:List Int) (_:ds=[d1,d2]) (_:cV d1=Z (bs.map aP)) (_:cV d2=Z (es.map D.int)) (_:(∀b∈bs,kr b)) (_:(∀x∈es,bz x)) (_:R (oI (fb bs es)))
def As(F:Fun K "greatest_sum" "greatest_sum" nM f J)(G:mg "zip"=ŗ):FnOk P w K mg base aE (n+1) f J ["bounds","entries"] (lSp K z_greatest_sum):=by
 refine F.okD qaA (λds R h=>?_) (λU A outer s H E ds R T h=>?_)
 ·let⟨p,r,bs,es,rfl,_⟩:=h;rfl
 let⟨p,r,bs,es,rfl,I,L,M,N,q⟩:=h
 refine⟨_,(bt (cw (i:=2) qaA.nd S V6 am)
   (bt (eg Jw S (js S G (ad (dv 0) (ad (dv 1) ag aa) aa)) (eC (n:=2) S (bP (bc (i:=3) qaA.nd S V6) (bP (bc (i:=4) qaA.nd S V6) eG))) (aD (bZ (aN fq (ac 4) (PD.q am) (az _)) (fV (bZ (aN eR (PD.q (ax (ac 3))) (PD.q bi) (az _)) (aD (bf bi)) cf)
   (aD (cw (i:=2) qaA.nd S V6 (aS bR (ac 2) (PD.q (aS cY (ac 4) (PD.q (ax (ac 3))))))))) (aD (bZ (aN iC (ac 4) (PD.q am) (az _)) (aD (cw (i:=2) qaA.nd S V6 (aS bR (ac 2) (PD.q (aS cY (ac 4) (PD.q (ax (ac 3)))))))) cf)))))
   (aD (bf (dv 2))))),?_⟩
 refine⟨_,_,I,L,λi ρ=>∃u v:Ř Sl,ρ=[Z (.v p),Z (.v r),Z (.v (.int (List.zipWith fk (bs.take i) (es.take i)).sum)),u,v]/\gU (bs.take i) (es.take i)=ř,⟨_,_,S,S⟩,?_,?_⟩
 ·rintro i d ρ hd ⟨u,v,rfl,j⟩;rw[jz]at hd;let⟨⟨b,e⟩,rfl,Q⟩:=bI hd;let⟨a,c⟩:=LN.mp Q;have bb:=M b (Je a);have y:=N e (Je c);refine⟨S,?_⟩;by_cases g:0<e
  ·refine⟨λ_=>?_,λh=>absurd g (Kg h)⟩;let⟨l,m⟩:=b
   cases m with
   |none=>
    have z:fb bs es=ŗ:=by unfold fb;rw[B7 a c (by unfold gD;simp[g])];rfl
    rw[z]at q;show⟨λ_=>False,⟨_,S,λ_=>q,tf⟩,λρ h=>h.elim⟩
   |some m=>
    refine⟨λρ=>ρ=[Z (.v p),Z (.v r),Z (.v (.int (List.zipWith fk (bs.take i) (es.take i)).sum)),Z (.v (aP (l,Z m))),Z (.v (.int e))],⟨_,S,ff,λ_=>rfl⟩,?_⟩;rintro ρ rfl;refine⟨_,S,iT y (bb.2 m S),Z (.v (aP (l,Z m))),Z (.v (.int e)),?_,qx a c j (by unfold gD;simp)⟩;rw[←oR a c (x:=e*m) (by unfold fk;rw[Jj g];rfl)];rfl
  ·refine⟨λh=>absurd (dP h) g,λ_=>?_⟩;by_cases o:e<0
   ·refine⟨λ_=>?_,λh=>absurd o (Kg h)⟩;refine⟨_,S,iT y bb.1,Z (.v (aP b)),Z (.v (.int e)),?_,qx a c j (by unfold gD;simp[g])⟩;rw[←oR a c (x:=e*b.1) (by unfold fk;rw[Jd g,Jj o])];rfl
   ·refine⟨λh=>absurd (dP h) o,λ_=>⟨Z (.v (aP b)),Z (.v (.int e)),?_,qx a c j (by unfold gD;simp[g])⟩⟩;rw[←oR a c (x:=0) (by unfold fk;rw[Jd g,Jd o]),LD];rfl
 ·rintro ρ ⟨u,v,rfl,j⟩
  have O:(fL (bs.map aP) (es.map D.int)).length=min bs.length es.length:=by rw[jz,IY,M7]
  rw[O]at j ⊢
  have B:gU bs es=ř:=by unfold gU at j ⊢;rw[uh S]at j;show j
  have C:fb bs es=Z (List.zipWith fk bs es).sum:=by unfold fb;rw[Jj B]
  rw[C]at q;rw[uh S];show q
noncomputable def i7(bs:Y Bd)(es:Y Int):Ř Int:=(fb bs (es.map (- ·))).map (- ·)
inductive z_least_sum(ds:List D)(R:D->Prop):Prop|mk (d1:D) (bs:List Bd) (es:List Int) (_:ds=[d1,.tup (es.map D.int)]) (_:cV d1=Z (bs.map aP)) (_:es.length<=1000) (_:(∀b∈bs,kr b)) (_:(∀x∈es,bz x)) (_:R (oI (i7 bs es)))
def GU(F:Fun K "least_sum" "least_sum" lj f J)(u:Cl P w K mg base n "greatest_sum" ["bounds","entries"] z_greatest_sum):FnOk P w K mg base aE (n+1) f J ["bounds","entries"] (lSp K z_least_sum):=by
 refine F.okD qaH (λds R h=>?_) (λv A outer s H E ds R o h=>?_)
 ·let⟨a,bs,es,rfl,_⟩:=h;rfl
 let⟨a,bs,es,rfl,c,l,g,j,q⟩:=h
 refine⟨_,(bt (cw (i:=2) qaH.nd S V6 (aX u o S (ad (dv 0) (ad (PF.d (dR (k:=1) (N':=["entry"]) (cap:=[ŗ]) S (.ok (show b7 ["bounds","entries","total"] (av lj) _ ["entry"] [ŗ]=ř by lia)) 'a' (bK 'b') (bX (dv 1)) (λ_ _ _ _ _=>(bc (i:=0) (show List.Nodup (["entry"]:Y Str)by lia) S V6)) (λ_ _ _ _ _=>(eD (ac 0))))) ag bD) aa) aa (au bD ae)))
   (aD (bf (oG (aN eR (ac 2) (PD.q bi) (az _)) bi (eD (ac 2)))))),?_⟩
 refine j5 (f:=D.int) (λx=>-x) (bj l) (λx _=>rfl) ?_;refine⟨_,_,bs,es.map (- ·),S,c,S,g,λx p=>?_,?_⟩
 ·let⟨y,r,rfl⟩:=Ju.mp p;change (-y).natAbs<_;rw[Ni];show j y r
 unfold i7 at q
 cases e:fb bs (es.map (- ·))with
 |none=>rw[e]at q;show⟨λ_=>q,tf⟩
 |some t=>rw[e]at q;show⟨ff,λ_=>q⟩
noncomputable def oN:Ř Nat->D
 |none=>.non
 |some p=>aW p
def kW{g:Type}{c:g->Bool}:∀{rs:Y g}{i:Nat}{r:g},rs[i]?=Z r->c r=ř->(∀j a,j<i->rs[j]?=Z a->c a=Ś)->rs.findIdx? c=Z i
 | [],i,r,h,_,_=>by cases h
 |x::rs,0,r,h,e,_=>by cases h;rw[List.findIdx?_cons,e];rfl
 |x::rs,i+1,r,h,e,l=>by rw[List.findIdx?_cons,l 0 x () S,kW (rs:=rs) (i:=i) h e (λj a p o=>l (j+1) a () o)];rfl
def l7{g:Type}{c:g->Bool}{rs:Y g}(h:∀j e,j<rs.length->rs[j]?=Z e->c e=Ś):rs.findIdx? c=ŗ:=by rw[MQ];intro x l;let⟨j,a⟩:=JX l;show h j x (aA a) a
noncomputable def fS(bs:Y Bd)(r:aq):Bool:=match fb bs r.1 with|some t=>decide (t<r.2)|none=>Ś
noncomputable def e7(bs:Y Bd)(r:aq):Bool:=match i7 bs r.1 with|some t=>decide (r.2<=t)|none=>Ś
def dB{h:Type}{c:h->Bool}{rs:Y h}{i:Nat}{r:h}(o:∀j a,j<i->rs[j]?=Z a->c a=Ś)(p:rs[i]?=Z r)(l:c r=Ś):∀j a,j<i+1->rs[j]?=Z a->c a=Ś:=λj a u g=>by
 by_cases e:j=i
 ·rw[e,p]at g;cases g;show l
 ·show o j a () g
structure RowsP(bs:List Bd)(rs:List aq):Prop where
 bb:∀b∈bs,kr b
 rr:∀r∈rs,r.1.length<=1000/\∀x∈r.1,bz x
inductive z_hopeless_row(ds:List D)(R:D->Prop):Prop|mk (bs:List Bd) (rs:List aq) (_:ds=[.lst (bs.map aP),.lst (rs.map aw)]) (_:RowsP bs rs) (_:R (oN (rs.findIdx? (fS bs))))
def zX(F:Fun K "hopeless_row" "hopeless_row" nh f J)(I:Cl P w K mg base n "greatest_sum" ["bounds","entries"] z_greatest_sum)(z:mg "enumerate"=ŗ):FnOk P w K mg base aE (n+1) f J ["bounds","rows"] (lSp K z_hopeless_row):=by
 refine F.okD qaC (λds R h=>?_) (λM A outer s H E ds R C h=>?_)
 ·let⟨bs,rs,rfl,_⟩:=h;rfl
 let⟨bs,rs,rfl,u,q⟩:=h
 refine⟨_,(bt (eg Jw S (gC S z (ad (dv 1) ag aa)) (eC (n:=2) S (bP (bc (i:=2) qaC.nd S V6) (bP (bc (i:=3) qaC.nd S V6) eG))) (bt (cw (i:=4) qaC.nd S V6 (aX I C S (ad (dv 0) (ad (ax (ac 3)) ag aB) aa) aa (au aB ae)))
   (aD (bZ (PWD.td (fh (aN dN (ac 4) (PD.q bi) (az _)) (gI (aN iC (ac 4) (PD.q (ax (ac 3))) (az _))))) (aD (bf (dv 2))) cf))))
   (aD (bf bi))),?_⟩
 refine⟨λi ρ=>∃l o p:Ř Sl,ρ=[Z (.v (.lst (bs.map aP))),Z (.v (.lst (rs.map aw))),l,o,p]/\∀j v,j<i->rs[j]?=Z v->fS bs v=Ś,⟨_,_,_,S,λj _ B=>absurd B (Ka _)⟩,?_,?_⟩
 ·rintro i d ρ hd ⟨l,o,p,rfl,a⟩;let⟨x,G,rfl⟩:=ge hd;let⟨r,rfl,g⟩:=bI G;let⟨L,y⟩:=u.rr r (Je g);refine⟨S,_,S,_,_,bs,r.1,S,S,S,u.bb,y,?_⟩
  cases e:fb bs r.1 with
  |none=>
   have c:fS bs r=Ś:=by unfold fS;rw[e]
   show⟨ff,λ_=>⟨ff,λ_=>⟨_,_,_,S,dB a g c⟩⟩⟩
  |some t=>
   refine⟨λ_=>⟨_,S,λh=>?_,λh=>?_⟩,tf⟩
   ·have c:fS bs r=ř:=by unfold fS;rw[e];show h
    rw[kW g c a]at q;show q
   ·have c:fS bs r=Ś:=by unfold fS;rw[e];show h
    show⟨_,_,_,S,dB a g c⟩
 ·rintro ρ ⟨l,o,p,rfl,a⟩;rw[eT,IY]at a;rw[l7 a]at q;show q
inductive z_idle_row(ds:List D)(R:D->Prop):Prop|mk (bs:List Bd) (rs:List aq) (_:ds=[.lst (bs.map aP),.lst (rs.map aw)]) (_:RowsP bs rs) (_:R (oN (rs.findIdx? (e7 bs))))
def zY(F:Fun K "idle_row" "idle_row" mh f J)(y:Cl P w K mg base n "least_sum" ["bounds","entries"] z_least_sum)(C:mg "enumerate"=ŗ):FnOk P w K mg base aE (n+1) f J ["bounds","rows"] (lSp K z_idle_row):=by
 refine F.okD qaE (λds R h=>?_) (λM A outer s H E ds R I h=>?_)
 ·let⟨bs,rs,rfl,_⟩:=h;rfl
 let⟨bs,rs,rfl,u,q⟩:=h
 refine⟨_,(bt (eg Jw S (gC S C (ad (dv 1) ag aa)) (eC (n:=2) S (bP (bc (i:=2) qaE.nd S V6) (bP (bc (i:=3) qaE.nd S V6) eG))) (bt (cw (i:=4) qaE.nd S V6 (aX y I S (ad (dv 0) (ad (ax (ac 3)) ag aB) aa) aa (au aB ae)))
   (aD (bZ (PWD.td (fh (aN dN (ac 4) (PD.q bi) (az _)) (gI (aN ms (ac 4) (PD.q (ax (ac 3))) (az _))))) (aD (bf (dv 2))) cf))))
   (aD (bf bi))),?_⟩
 refine⟨λi ρ=>∃l o p:Ř Sl,ρ=[Z (.v (.lst (bs.map aP))),Z (.v (.lst (rs.map aw))),l,o,p]/\∀j v,j<i->rs[j]?=Z v->e7 bs v=Ś,⟨_,_,_,S,λj _ G=>absurd G (Ka _)⟩,?_,?_⟩
 ·rintro i d ρ hd ⟨l,o,p,rfl,a⟩;let⟨x,L,rfl⟩:=ge hd;let⟨r,rfl,g⟩:=bI L;let⟨z,B⟩:=u.rr r (Je g);refine⟨S,_,S,_,bs,r.1,S,S,z,u.bb,B,?_⟩
  cases e:i7 bs r.1 with
  |none=>
   have c:e7 bs r=Ś:=by unfold e7;rw[e]
   show⟨ff,λ_=>⟨ff,λ_=>⟨_,_,_,S,dB a g c⟩⟩⟩
  |some t=>
   refine⟨λ_=>⟨_,S,λh=>?_,λh=>?_⟩,tf⟩
   ·have c:e7 bs r=ř:=by unfold e7;rw[e];show h
    rw[kW g c a]at q;show q
   ·have c:e7 bs r=Ś:=by unfold e7;rw[e];show h
    show⟨_,_,_,S,dB a g c⟩
 ·rintro ρ ⟨l,o,p,rfl,a⟩;rw[eT,IY]at a;rw[l7 a]at q;show q
def j9{c:Nat->Bool}:∀{st:Y Nat}{i u:Nat},st[i]?=Z u->c u=ř->(∀j u',j<i->st[j]?=Z u'->c u'=Ś)->st.find? c=Z u
 | [],i,u,h,_,_=>by cases h
 |x::st,0,u,h,a,_=>by cases h;rw[KW,a]
 |x::st,i+1,u,h,a,e=>by rw[KW,e 0 x () S];show j9 (st:=st) (i:=i) h a (λj u' l g=>e (j+1) u' () g)
def kt{c:Nat->Bool}{st:Y Nat}(e:∀j u',j<st.length->st[j]?=Z u'->c u'=Ś):st.find? c=ŗ:=by rw[List.find?_eq_none];intro x g h;let⟨j,a⟩:=JX g;rw[e j x (aA a) a]at h;cases h
noncomputable def jq(bs:Y Bd)(u:Nat):Bool:=ii (ah bs u)
inductive z_crossed_unknown(ds:List D)(R:D->Prop):Prop|mk (bs:List Bd) (st:List Nat) (_:ds=[.lst (bs.map aP),.lst (st.map aW)]) (_:(∀u∈st,u<bs.length)) (_:R (oN (st.find? (jq bs))))
def D6(F:Fun K "crossed_unknown" "crossed_unknown" oh f J)(p:Cl P w K mg base n "is_crossed" ["pair"] z_is_crossed):FnOk P w K mg base aE (n+1) f J ["bounds","staying"] (lSp K z_crossed_unknown):=by
 refine F.okD qau (λds R h=>?_) (λr A outer s H E ds R l h=>?_)
 ·let⟨bs,st,rfl,_⟩:=h;rfl
 let⟨bs,st,rfl,o,q⟩:=h
 refine⟨_,(bt (eg Jw S (bX (dv 1)) (bc (i:=2) qau.nd S V6) (aD (bZ (cn (PD.q (aX p l S (ad (bA (ac 0) (ac 2) (λ_ _=>rfl)) ag aB) aB ae)) (λ_=>rfl)) (aD (bf (dv 2))) cf)))
   (aD (bf bi))),?_⟩
 refine⟨λi ρ=>∃e:Ř Sl,ρ=[Z (.v (.lst (bs.map aP))),Z (.v (.lst (st.map aW))),e]/\∀j u',j<i->st[j]?=Z u'->jq bs u'=Ś,⟨_,S,λj _ g=>absurd g (Ka _)⟩,?_,?_⟩
 ·rintro i d ρ hd ⟨e,rfl,a⟩;let⟨u,rfl,c⟩:=bI hd;refine⟨_,fB (o u (Je c)) S,ah bs u,S,λh=>?_,λh=>?_⟩
  ·rw[j9 c h a]at q;show q
  ·show⟨_,S,dB a c h⟩
 ·rintro ρ ⟨e,rfl,a⟩;rw[IY]at a;rw[kt a]at q;show q
noncomputable def eB(bs:Y Bd)(u:Nat):Bool:=match (ah bs u).2 with|some m=>decide ((ah bs u).1=m)|none=>Ś
inductive z_fixed_unknown(ds:List D)(R:D->Prop):Prop|mk (bs:List Bd) (st:List Nat) (_:ds=[.lst (bs.map aP),.lst (st.map aW)]) (_:(∀u∈st,u<bs.length)) (_:R (oN (st.find? (eB bs))))
def Ir(F:Fun K "fixed_unknown" "fixed_unknown" mZ f J) :FnOk P w K mg base aE (n+1) f J ["bounds","staying"] (lSp K z_fixed_unknown):=by
 refine F.okD qay (λds R h=>?_) (λy A outer s H E ds R v h=>?_)
 ·let⟨bs,st,rfl,_⟩:=h;rfl
 let⟨bs,st,rfl,x,q⟩:=h
 refine⟨_,(bt (eg Jw S (bX (dv 1)) (bc (i:=2) qay.nd S V6) (aD (bZ (aN (yC v.units) (PD.q (ax (PD.q (bA (ac 0) (ac 2) (λ_ _=>rfl))))) (PD.q (ax (PD.q (bA (ac 0) (ac 2) (λ_ _=>rfl))))) (az _)) (aD (bf (dv 2))) cf)))
   (aD (bf bi))),?_⟩
 refine⟨λi ρ=>∃o:Ř Sl,ρ=[Z (.v (.lst (bs.map aP))),Z (.v (.lst (st.map aW))),o]/\∀j u',j<i->st[j]?=Z u'->eB bs u'=Ś,⟨_,S,λj _ r=>absurd r (Ka _)⟩,?_,?_⟩
 ·rintro i d ρ hd ⟨o,rfl,a⟩;let⟨u,rfl,g⟩:=bI hd;have p:=x u (Je g);refine⟨_,fB p S,_,S,_,fB p S,oI (ah bs u).2,S,?_⟩
  cases l:(ah bs u).2 with
  |none=>
   have c:eB bs u=Ś:=by unfold eB;rw[l]
   show⟨ff,λ_=>⟨_,S,dB a g c⟩⟩
  |some m=>
   refine⟨λh=>?_,λh=>?_⟩
   ·have c:eB bs u=ř:=by unfold eB;rw[l];show J4 (eq_of_beq h)
    rw[j9 g c a]at q;show q
   ·have c:eB bs u=Ś:=by
     unfold eB;rw[l];refine JG λe=>?_;have h':((ah bs u).1==m)=Ś:=h;rw[e,JK]at h';cases h'
    show⟨_,S,dB a g c⟩
 ·rintro ρ ⟨o,rfl,a⟩;rw[IY]at a;rw[kt a]at q;show q
noncomputable def kZ(rs:Y aq)(u:Nat):Bool:=rs.any λr=>decide (0<r.1.getD u 0)
noncomputable def gM(rs:Y aq)(u:Nat):Bool:=rs.any λr=>decide (r.1.getD u 0<0)
inductive z_has_above(ds:List D)(R:D->Prop):Prop|mk (rs:List aq) (u:Nat) (_:ds=[.lst (rs.map aw),aW u]) (_:rs.length<=1000) (_:(∀r∈rs,u<r.1.length)) (_:R (.bl (kZ rs u)))
def EK(F:Fun K "has_above" "has_above" lq f J)(j:mg "any"=ŗ):FnOk P w K mg base aE (n+1) f J ["rows","unknown"] (lSp K z_has_above):=by
 refine F.okD Fk (λds R h=>?_) (λl A outer s H E ds R o h=>?_)
 ·let⟨rs,u,rfl,_⟩:=h;rfl
 let⟨rs,u,rfl,e,g,q⟩:=h;refine⟨_,(aD (bf (bN (su S) S j Nj (aO (PD.q (PF.d (dR (k:=1) (N':=["row","unknown"]) (cap:=[ŗ,Z 1]) S (.ok (show b7 ["rows","unknown"] (av lq) _ ["row","unknown"] [ŗ,Z 1]=ř by lia)) 'a' (bK 'b') (bX (dv 0)) (λ_ _ _ _ _=>(bc (i:=0) (show List.Nodup (["row","unknown"]:Y Str)by lia) S V6)) (λ_ _ _ _ _=>(ed fq (PD.q (bA (PD.q (ax (ac 0))) (ac 1) (λ_ _=>rfl))) (PD.q am) (az _)))))) aY bD) bD ae))),?_⟩;refine gq (f:=aw) (λr=>D.bl (decide (0<r.1.getD u 0))) (bj e) (λr a=>⟨_,S,_,cK (i:=u) (bQ (d:=0) (g r a)) S,S⟩) ?_
 have c:((rs.map λr=>decide (0<r.1.getD u 0)).any id)=kZ rs u:=by unfold kZ;rw[Nq];rfl
 refine⟨rs.map λr=>decide (0<r.1.getD u 0),by rw[J3];rfl,?_⟩;show (JY (λz=>R (.bl z)) c).mpr q
inductive z_has_below(ds:List D)(R:D->Prop):Prop|mk (rs:List aq) (u:Nat) (_:ds=[.lst (rs.map aw),aW u]) (_:rs.length<=1000) (_:(∀r∈rs,u<r.1.length)) (_:R (.bl (gM rs u)))
def yZ(F:Fun K "has_below" "has_below" kX f J)(j:mg "any"=ŗ):FnOk P w K mg base aE (n+1) f J ["rows","unknown"] (lSp K z_has_below):=by
 refine F.okD FT (λds R h=>?_) (λl A outer s H E ds R o h=>?_)
 ·let⟨rs,u,rfl,_⟩:=h;rfl
 let⟨rs,u,rfl,e,g,q⟩:=h;refine⟨_,(aD (bf (bN (su S) S j Nj (aO (PD.q (PF.d (dR (k:=1) (N':=["row","unknown"]) (cap:=[ŗ,Z 1]) S (.ok (show b7 ["rows","unknown"] (av kX) _ ["row","unknown"] [ŗ,Z 1]=ř by lia)) 'a' (bK 'b') (bX (dv 0)) (λ_ _ _ _ _=>(bc (i:=0) (show List.Nodup (["row","unknown"]:Y Str)by lia) S V6)) (λ_ _ _ _ _=>(ed iC (PD.q (bA (PD.q (ax (ac 0))) (ac 1) (λ_ _=>rfl))) (PD.q am) (az _)))))) aY bD) bD ae))),?_⟩;refine gq (f:=aw) (λr=>D.bl (decide (r.1.getD u 0<0))) (bj e) (λr a=>⟨_,S,_,cK (i:=u) (bQ (d:=0) (g r a)) S,S⟩) ?_
 have c:((rs.map λr=>decide (r.1.getD u 0<0)).any id)=gM rs u:=by unfold gM;rw[Nq];rfl
 refine⟨rs.map λr=>decide (r.1.getD u 0<0),by rw[J3];rfl,?_⟩;show (JY (λz=>R (.bl z)) c).mpr q
noncomputable def fe(bs:Y Bd)(rs:Y aq)(gl:Y Int)(u:Nat):Bool:=!ii (ah bs u)&&decide (gl.getD u 0<=0)&&!kZ rs u
structure StayP(bs:List Bd)(rs:List aq)(gl:List Int)(st:List Nat):Prop where
 sb:∀u∈st,u<bs.length
 sg:∀u∈st,u<gl.length
 rl:rs.length<=1000
 sr:∀u∈st,∀r∈rs,u<r.1.length
inductive z_sinking_unknown(ds:List D)(R:D->Prop):Prop|mk (bs:List Bd) (rs:List aq) (gl:List Int) (st:List Nat) (_:ds=[.lst (bs.map aP),.lst (rs.map aw),.tup (gl.map D.int),.lst (st.map aW)]) (_:StayP bs rs gl st) (_:R (oN (st.find? (fe bs rs gl))))
def xG(F:Fun K "sinking_unknown" "sinking_unknown" mP f J)(z:Cl P w K mg base n "is_crossed" ["pair"] z_is_crossed)(v:Cl P w K mg base n "has_above" ["rows","unknown"] z_has_above):FnOk P w K mg base aE (n+1) f J ["bounds","rows","goal","staying"] (lSp K z_sinking_unknown):=by
 refine F.okD qaL (λds R h=>?_) (λB A outer s H E ds R r h=>?_)
 ·let⟨bs,rs,gl,st,rfl,_⟩:=h;rfl
 let⟨bs,rs,gl,st,rfl,e,q⟩:=h
 refine⟨_,(bt (eg Jw S (bX (dv 3)) (bc (i:=4) qaL.nd S V6) (aD (bZ (PWD.td (fh (cP (cn (PD.q (aX z r S (ad (bA (ac 0) (ac 4) (λ_ _=>rfl)) ag aB) aB ae)) (λ_=>rfl))) (fh (aN Am (PD.q (bA (ac 2) (ac 4) (λ_ _=>rfl))) (PD.q am) (az _)) (gI (cP (cn (PD.q (aX v r S (ad (dv 1) (ad (dv 4) ag aa) aa) aa (au aa ae))) (λ_=>rfl))))))) (aD (bf (dv 4))) cf)))
   (aD (bf bi))),?_⟩
 refine⟨λi ρ=>∃p:Ř Sl,ρ=[Z (.v (.lst (bs.map aP))),Z (.v (.lst (rs.map aw))),Z (.v (.tup (gl.map D.int))),Z (.v (.lst (st.map aW))),p]/\∀j u',j<i->st[j]?=Z u'->fe bs rs gl u'=Ś,⟨_,S,λj _ y=>absurd y (Ka _)⟩,?_,?_⟩
 ·rintro i d ρ hd ⟨p,rfl,a⟩;let⟨u,rfl,c⟩:=bI hd;have o:=Je c;refine⟨_,fB (e.sb u o) S,ah bs u,S,λh=>⟨_,cK (i:=u) (bQ (d:=0) (e.sg u o)) S,λg=>⟨rs,u,S,e.rl,e.sr u o,λl=>?_,λl=>?_⟩,λg=>⟨ff,λ_=>?_⟩⟩,λh=>⟨ff,λ_=>?_⟩⟩
  ·have x:fe bs rs gl u=ř:=by unfold fe;rw[h,g,l];rfl
   rw[j9 c x a]at q;show q
  ·show⟨_,S,dB a c (by unfold fe;rw[l,K5])⟩
  ·show⟨_,S,dB a c (by unfold fe;rw[g,K5,K3])⟩
  ·show⟨_,S,dB a c (by unfold fe;rw[h,K3,K3])⟩
 ·rintro ρ ⟨p,rfl,a⟩;rw[IY]at a;rw[kt a]at q;show q
noncomputable def fg(bs:Y Bd)(rs:Y aq)(gl:Y Int)(u:Nat):Bool:=(ah bs u).2.isSome&&!ii (ah bs u)&&decide (0<=gl.getD u 0)&&!gM rs u
inductive z_rising_unknown(ds:List D)(R:D->Prop):Prop|mk (bs:List Bd) (rs:List aq) (gl:List Int) (st:List Nat) (_:ds=[.lst (bs.map aP),.lst (rs.map aw),.tup (gl.map D.int),.lst (st.map aW)]) (_:StayP bs rs gl st) (_:R (oN (st.find? (fg bs rs gl))))
def Gp(F:Fun K "rising_unknown" "rising_unknown" nj f J)(B:Cl P w K mg base n "is_crossed" ["pair"] z_is_crossed)(C:Cl P w K mg base n "has_below" ["rows","unknown"] z_has_below):FnOk P w K mg base aE (n+1) f J ["bounds","rows","goal","staying"] (lSp K z_rising_unknown):=by
 refine F.okD qaI (λds R h=>?_) (λG A outer s H E ds R x h=>?_)
 ·let⟨bs,rs,gl,st,rfl,_⟩:=h;rfl
 let⟨bs,rs,gl,st,rfl,e,q⟩:=h
 refine⟨_,(bt (eg Jw S (bX (dv 3)) (bc (i:=4) qaI.nd S V6) (bt (cw (i:=5) qaI.nd S V6 (bA (ac 0) (ac 4) (λ_ _=>rfl)))
   (aD (bZ (PWD.td (fh (aN dN (PD.q (ax (ac 5))) (PD.q bi) (az _)) (fh (cP (cn (PD.q (aX B x S (ad (dv 5) ag aa) aa ae)) (λ_=>rfl))) (fh (aN ms (PD.q (bA (ac 2) (ac 4) (λ_ _=>rfl))) (PD.q am) (az _)) (gI (cP (cn (PD.q (aX C x S (ad (dv 1) (ad (dv 4) ag aa) aa) aa (au aa ae))) (λ_=>rfl)))))))) (aD (bf (dv 4))) cf))))
   (aD (bf bi))),?_⟩
 refine⟨λi ρ=>∃p r:Ř Sl,ρ=[Z (.v (.lst (bs.map aP))),Z (.v (.lst (rs.map aw))),Z (.v (.tup (gl.map D.int))),Z (.v (.lst (st.map aW))),p,r]/\∀j u',j<i->st[j]?=Z u'->fg bs rs gl u'=Ś,⟨_,_,S,λj _ z=>absurd z (Ka _)⟩,?_,?_⟩
 ·rintro i d ρ hd ⟨p,r,rfl,a⟩;let⟨u,rfl,c⟩:=bI hd;have o:=Je c;refine⟨_,fB (e.sb u o) S,oI (ah bs u).2,S,?_⟩
  cases v:(ah bs u).2 with
  |none=>show⟨ff,λ_=>⟨ff,λ_=>⟨_,_,S,dB a c (by unfold fg;rw[v];rfl)⟩⟩⟩
  |some mm=>
   refine⟨λ_=>⟨ah bs u,S,λh=>⟨_,cK (i:=u) (bQ (d:=0) (e.sg u o)) S,λg=>⟨rs,u,S,e.rl,e.sr u o,λl=>?_,λl=>?_⟩,λg=>⟨ff,λ_=>?_⟩⟩,λh=>⟨ff,λ_=>?_⟩⟩,tf⟩
   ·have y:fg bs rs gl u=ř:=by unfold fg;rw[v,h,g,l];rfl
    rw[j9 c y a]at q;show q
   ·show⟨_,_,S,dB a c (by unfold fg;rw[l,K5])⟩
   ·show⟨_,_,S,dB a c (by unfold fg;rw[g,K5,K3])⟩
   ·show⟨_,_,S,dB a c (by unfold fg;rw[h,K5,K3,K3])⟩
 ·rintro ρ ⟨p,r,rfl,a⟩;rw[IY]at a;rw[kt a]at q;show q
noncomputable def eZ(bs:Y Bd)(rs:Y aq)(gl:Y Int)(u:Nat):Bool:=(ah bs u).2.isNone&&(gl.getD u 0==0)&&!gM rs u
inductive z_hanging_unknown(ds:List D)(R:D->Prop):Prop|mk (bs:List Bd) (rs:List aq) (gl:List Int) (st:List Nat) (_:ds=[.lst (bs.map aP),.lst (rs.map aw),.tup (gl.map D.int),.lst (st.map aW)]) (_:StayP bs rs gl st) (_:R (oN (st.find? (eZ bs rs gl))))
def HR(F:Fun K "hanging_unknown" "hanging_unknown" on f J)(z:Cl P w K mg base n "has_below" ["rows","unknown"] z_has_below):FnOk P w K mg base aE (n+1) f J ["bounds","rows","goal","staying"] (lSp K z_hanging_unknown):=by
 refine F.okD qaB (λds R h=>?_) (λB A outer s H E ds R v h=>?_)
 ·let⟨bs,rs,gl,st,rfl,_⟩:=h;rfl
 let⟨bs,rs,gl,st,rfl,e,q⟩:=h
 refine⟨_,(bt (eg Jw S (bX (dv 3)) (bc (i:=4) qaB.nd S V6) (aD (bZ (PWD.td (fh (aN eR (PD.q (ax (PD.q (bA (ac 0) (ac 4) (λ_ _=>rfl))))) (PD.q bi) (az _)) (fh (aN (dA v.units) (PD.q (bA (ac 2) (ac 4) (λ_ _=>rfl))) (PD.q am) (az _)) (gI (cP (cn (PD.q (aX z v S (ad (dv 1) (ad (dv 4) ag aa) aa) aa (au aa ae))) (λ_=>rfl))))))) (aD (bf (dv 4))) cf)))
   (aD (bf bi))),?_⟩
 refine⟨λi ρ=>∃p:Ř Sl,ρ=[Z (.v (.lst (bs.map aP))),Z (.v (.lst (rs.map aw))),Z (.v (.tup (gl.map D.int))),Z (.v (.lst (st.map aW))),p]/\∀j u',j<i->st[j]?=Z u'->eZ bs rs gl u'=Ś,⟨_,S,λj _ y=>absurd y (Ka _)⟩,?_,?_⟩
 ·rintro i d ρ hd ⟨p,rfl,a⟩;let⟨u,rfl,c⟩:=bI hd;have o:=Je c;refine⟨_,fB (e.sb u o) S,oI (ah bs u).2,S,?_⟩
  cases r:(ah bs u).2 with
  |some mm=>show⟨ff,λ_=>⟨ff,λ_=>⟨_,S,dB a c (by unfold eZ;rw[r];rfl)⟩⟩⟩
  |none=>
   refine⟨λ_=>⟨_,cK (i:=u) (bQ (d:=0) (e.sg u o)) S,λg=>⟨rs,u,S,e.rl,e.sr u o,λl=>?_,λl=>?_⟩,λg=>⟨ff,λ_=>?_⟩⟩,tf⟩
   ·have x:eZ bs rs gl u=ř:=by unfold eZ;rw[r,g,l];rfl
    rw[j9 c x a]at q;show q
   ·show⟨_,S,dB a c (by unfold eZ;rw[l,K5])⟩
   ·show⟨_,S,dB a c (by unfold eZ;rw[g,K5,K3])⟩
 ·rintro ρ ⟨p,rfl,a⟩;rw[IY]at a;rw[kt a]at q;show q
noncomputable def dJ(r:aq):Bool:=decide (1<bp r.1)
inductive z_uneven_row(ds:List D)(R:D->Prop):Prop|mk (rs:List aq) (_:ds=[.lst (rs.map aw)]) (_:R (oN (rs.findIdx? dJ)))
def EJ(F:Fun K "uneven_row" "uneven_row" mC f J)(y:Cl P w K mg base n "common" ["numbers"] z_common)(o:mg "enumerate"=ŗ):FnOk P w K mg base aE (n+1) f J ["rows"] (lSp K z_uneven_row):=by
 refine F.okD qaP (λds R h=>?_) (λz A outer s H E ds R u h=>?_)
 ·let⟨rs,rfl,_⟩:=h;rfl
 let⟨rs,rfl,q⟩:=h
 refine⟨_,(bt (eg Jw S (gC S o (ad (dv 0) ag aa)) (eC (n:=2) S (bP (bc (i:=1) qaP.nd S V6) (bP (bc (i:=2) qaP.nd S V6) eG))) (aD (bZ (aN fq (PD.q (aX y u S (ad (ax (ac 2)) ag aB) aB ae)) (PD.q am) (az _)) (aD (bf (dv 1))) cf)))
   (aD (bf bi))),?_⟩
 refine⟨λi ρ=>∃c e:Ř Sl,ρ=[Z (.v (.lst (rs.map aw))),c,e]/\∀j l,j<i->rs[j]?=Z l->dJ l=Ś,⟨_,_,S,λj _ p=>absurd p (Ka _)⟩,?_,?_⟩
 ·rintro i d ρ hd ⟨c,e,rfl,a⟩;let⟨x,v,rfl⟩:=ge hd;let⟨r,rfl,g⟩:=bI v;refine⟨S,_,S,r.1,S,λh=>?_,λh=>?_⟩
  ·rw[kW g h a]at q;show q
  ·show⟨_,_,S,dB a g h⟩
 ·rintro ρ ⟨c,e,rfl,a⟩;rw[eT,IY]at a;rw[l7 a]at q;show q
noncomputable def gE(r:aq):Bool:=decide ((di r.1).length=1)
inductive z_single_row(ds:List D)(R:D->Prop):Prop|mk (rs:List aq) (_:ds=[.lst (rs.map aw)]) (_:(∀r∈rs,r.1.length<=1000)) (_:R (oN (rs.findIdx? gE)))
def Ed(F:Fun K "single_row" "single_row" k7 f J)(C:mg "enumerate"=ŗ)(B:mg "len"=ŗ):FnOk P w K mg base aE (n+1) f J ["rows"] (lSp K z_single_row):=by
 refine F.okD qaK (λds R h=>?_) (λO A outer s H E ds R v h=>?_)
 ·let⟨rs,rfl,_⟩:=h;rfl
 let⟨rs,rfl,M,q⟩:=h
 refine⟨_,(bt (eg Jw S (gC S C (ad (dv 0) ag aa)) (eC (n:=2) S (bP (bc (i:=1) qaK.nd S V6) (bP (bc (i:=2) qaK.nd S V6) eG))) (aD (bZ (aN (dA v.units) (PD.q (bN da S B JQ (aO (PD.q (PF.d (pA (k:=1) (N':=["entry"]) (cap:=[ŗ]) S (.ok (show b7 ["rows","place","row"] (av k7) _ ["entry"] [ŗ]=ř by lia)) 'a' (bK 'b') (bX (ax (ac 2))) (λ_ _ _ _ _=>(bc (i:=0) (show List.Nodup (["entry"]:Y Str)by lia) S V6)) (λ_ _ _ _ _=>(jt (aN (fH v.units) (ac 0) (PD.q am) (az _)))) (λ_ _ _ _ _=>(dv 0))))) aY bD) bD ae)) (PD.q am) (az _)) (aD (bf (dv 1))) cf)))
   (aD (bf bi))),?_⟩
 refine⟨λi ρ=>∃o p:Ř Sl,ρ=[Z (.v (.lst (rs.map aw))),o,p]/\∀j y,j<i->rs[j]?=Z y->gE y=Ś,⟨_,_,S,λj _ L=>absurd L (Ka _)⟩,?_,?_⟩
 ·rintro i d ρ hd ⟨o,p,rfl,a⟩;let⟨x,l,rfl⟩:=ge hd;let⟨r,rfl,c⟩:=bI l;have z:=M r (Je c);refine⟨S,_,S,by rw[IY];show bj z,iQ (λi=>decide (r.1.getD i 0≠0)) (λi=>D.int (r.1.getD i 0)),λk d hd=>?_,λys u N=>?_⟩
  ·let⟨x,rfl,l⟩:=bI hd;have ex:r.1.getD k 0=x:=df l;refine⟨λh=>⟨?_,?_⟩,λh=>?_⟩
   ·change D.int x=D.int (r.1.getD k 0);rw[ex]
   ·change decide (r.1.getD k 0≠0)=ř;rw[ex]
    show J4 λe=>by rw[e]at h;cases h
   ·change decide (r.1.getD k 0≠0)=Ś;rw[ex];refine JG λe=>?_;have h':(!(x==0))=Ś:=h
    have:(x==0)=ř:=by simpa using h'
    show e (eq_of_beq this)
  rw[IY]at u;have I:ys.filterMap id=(di r.1).map (λi=>D.int (r.1.getD i 0)):=jU u N
  have G:(ys.filterMap id).length=(di r.1).length:=by rw[I,IY]
  refine⟨λh=>?_,λh=>?_⟩
  ·have h':((((ys.filterMap id).length:Nat):Int)==1)=ř:=h
   have g:gE r=ř:=by
    unfold gE;have:=eq_of_beq h';show J4 ()
   rw[kW c g a]at q;show q
  ·have h':((((ys.filterMap id).length:Nat):Int)==1)=Ś:=h
   have g:gE r=Ś:=by unfold gE;refine JG λe=>?_;rw[G,e]at h';cases h'
   show⟨_,_,S,dB a c g⟩
 ·rintro ρ ⟨o,p,rfl,a⟩;rw[eT,IY]at a;rw[l7 a]at q;show q
structure Dbl(rs:List aq)(j i:Nat)(a b:aq):Prop where
 ji:j<i
 ja:rs[j]?=Z a
 ib:rs[i]?=Z b
 eq:a.1=b.1
 no:∀k l x y,k<l->l<i->rs[k]?=Z x->rs[l]?=Z y->x.1≠y.1
noncomputable def kI(es:Y Int):Y ay:=es.map à
def Es{a b:Y Int}(h:kI a=kI b):a=b:=List.map_inj_right (f:=(à:Int->ay)) (λ_ _ e=>ĉ e)|>.mp h
def mF(es:Y Int):es.map D.int=(kI es).map gz:=by unfold kI;rw[J3];rfl
structure Came(rs:List aq)(i:Nat)(Nz:List (List ay×D)):Prop where
 ln:Nz.length<=i
 at_:∀es,(bB Nz (kI es)=ŗ/\∀j r,j<i->rs[j]?=Z r->r.1≠es)\/∃j r,j<i/\rs[j]?=Z r/\r.1=es/\bB Nz (kI es)=Z (aW j)
 no:∀k l x y,k<l->l<i->rs[k]?=Z x->rs[l]?=Z y->x.1≠y.1
def Came.next{rs:Y aq}{i:Nat}{g:Y (Y ay×D)}{r:aq}(h:Came rs i g)(p:rs[i]?=Z r)(C:bB g (kI r.1)=ŗ)(v:∀j x,j<i->rs[j]?=Z x->x.1≠r.1):Came rs (i+1) (iJ g (kI r.1) (aW i)):=by
 refine⟨?_,λes=>?_,λk l x y z E a u=>?_⟩
 ·rw[Fq C,Ja,JT];have:=h.ln;omega
 ·rw[FI];by_cases c:r.1=es
  ·subst c;show .inr ⟨i,r,(),p,S,by rw[Jj S]⟩
  ·rw[Jd λe=>c (Es e).symm];rcases h.at_ es with⟨o,A⟩|⟨j,x,B,a,e,o⟩
   ·refine .inl ⟨o,λj x B a=>?_⟩;by_cases e:j=i
    ·rw[e,p]at a;cases a;show c
    ·show A j x () a
   ·show .inr ⟨j,x,(),a,e,o⟩
 ·by_cases e:l=i
  ·rw[e,p]at u;cases u;show v k x () a
  ·show h.no k l x y z () a u
inductive z_doubled_row(ds:List D)(R:D->Prop):Prop|mk (rs:List aq) (_:ds=[.lst (rs.map aw)]) (_:rs.length<=1000) (_:(∀r∈rs,r.1.length<=30)) (_:((∀(k l:Nat)(x y:aq),k<l->rs[k]?=Z x->rs[l]?=Z y->x.1≠y.1)->R .non)) (_:∀j i a b,Dbl rs j i a b->R (aW (if a.2<b.2 then j else i)))
def xy(F:Fun K "doubled_row" "doubled_row" nX f J)(be:mg "enumerate"=ŗ):FnOk P w K mg base aE (n+1) f J ["rows"] (lSpM K (zM z_doubled_row)):=by
 refine F.okM qav (λas R O h=>?_) (λNG A outer s H E as R O qs NI z h N=>?_)
 ·let⟨_,rfl,rs,rfl,_⟩:=h;rfl
 let⟨_,rfl,rs,rfl,L,b_,X,a_⟩:=h;obtain rfl:=jl N
 refine⟨_,(ap (aH (i:=1) qav.nd S V6 DU)
   (ap (e9 Jw S (fw (gC S be (ad (dv 0) ag aa))) (gQ (n:=2) S (dc (cg (i:=2) qav.nd S V6) (dc (cg (i:=3) qav.nd S V6) gL))) (cB (ce (He 1 z.units (ax (ac 3))) (ap (aH (i:=4) qav.nd S V6 (y6 1 z.units (ax (ac 3)) (λ_ _=>rfl)))
   (aQ (cq (af (oG (aN iC (PD.q (ax (PD.q (bA (ac 0) (ac 4) (λ_ _=>rfl))))) (PD.q (ax (ac 3))) (az _)) (dv 4) (dv 2)))))) cy)
   (aQ (Ij 1 z.units (ax (ac 3)) (dv 2)))))
   (aQ (cq (af bi))))),?_⟩
 intro ke;refine⟨λi ρ=>∃(a:Y (Y ay×D))(C G o:Ř Sm),ρ=[Z (.v (.lst (rs.map aw))),Z (.ob ŗ (.mpT a)),C,G,o]/\Came rs i a,⟨[],_,_,_,S,Jg _,λes=>.inl ⟨S,λj _ v=>absurd v (Ka _)⟩,λ_ _ _ _ _ L=>absurd L (Ka _)⟩,?_,?_⟩
 ·rintro i d ρ hd ⟨a,C,G,o,rfl,c⟩;let⟨x,B,rfl⟩:=ge hd;let⟨r,rfl,u⟩:=bI B;have PZ:=aA u;refine⟨S,?_⟩;rcases c.at_ r.1 with⟨g,T⟩|⟨j,x,v,I,e,g⟩
  ·refine⟨λρ=>ρ=[Z (.v (.lst (rs.map aw))),Z (.ob ŗ (.mpT a)),Z (.v (aW i)),Z (.v (aw r)),o],⟨_,S,kI r.1,JY D.tup (mF r.1),?_⟩,?_⟩
   ·change ((Ś != (bB a (kI r.1)).isSome)=ř->_)/\((Ś != (bB a (kI r.1)).isSome)=Ś->_);rw[g];show⟨ff,λ_=>rfl⟩
   rintro ρ rfl;refine⟨trivial,_,S,kI r.1,JY D.tup (mF r.1),?_⟩;refine⟨bj (by have:=c.ln;omega),_,S,_,Z (.v (aW i)),Z (.v (aw r)),o,S,c.next u g T⟩
  ·refine⟨λ_=>False,⟨_,S,kI r.1,JY D.tup (mF r.1),?_⟩,λρ h=>h.elim⟩;change ((Ś != (bB a (kI r.1)).isSome)=ř->_)/\((Ś != (bB a (kI r.1)).isSome)=Ś->_);rw[g];refine⟨λ_=>⟨_,S,kI r.1,JY D.tup (mF r.1),aW j,g,?_⟩,tf⟩;have U:Dbl rs j i x r:=⟨v,I,u,e,c.no⟩;have p:=a_ j i x r U;refine⟨_,cK (i:=j) I S,_,S,_,S,λh=>?_,λh=>?_⟩
   ·rw[Jj (dP h)]at p;show p
   ·rw[Jd (Kg h)]at p;show p
 ·rintro ρ ⟨a,C,G,o,rfl,c⟩;rw[eT,IY]at c;show X λk l x y Q B M=>c.no k l x y Q (aA M) B M
structure LedP(n:Nat)(s:Led):Prop where
 n8:n<=8
 bl:s.bs.length=n
 gl:s.gl.length=n
 ll:s.lm.length=n
 ml:s.mm.length=n
 sl:∀u∈s.st,u<n
 nd:s.st.Nodup
 rl:s.rs.length<=30
 rm:s.rm.length=s.rs.length
 rr:∀r∈s.rs,r.1.length=n/\(∀x∈r.1,x.natAbs<2^9000)/\0<=bp r.1/\bp r.1<2^9000
 bb:∀b∈s.bs,kr b
 gg:∀x∈s.gl,bz x
 ln:s.ln.length<700
 gs:s.gs.length<=8
 gn:s.gn.length<=8
 n1:∀d∈s.rm,NoL d
 n2:∀d∈s.mm,NoL d
 n3:∀d∈s.lm,NoL d
 n4:∀d∈s.ln,NoL d
def oH{x:Int}(h:x.natAbs<2^9000):bz x:=Mr h (Ku 'b' 'b')
def LedP.rows{n:Nat}{s:Led}(h:LedP n s):RowsP s.bs s.rs:=⟨h.bb,λr a=>⟨by rw[(h.rr r a).1];have:=h.n8;omega,λx c=>oH ((h.rr r a).2.1 x c)⟩⟩
noncomputable def Fz(rs:Y aq):Prop:=∀(k l:Nat)(x y:aq),k<l->rs[k]?=Z x->rs[l]?=Z y->x.1≠y.1
inductive RowSt(s:Led):Bool->Led->Prop where
 |idle {p:Nat}:s.rs.findIdx? (e7 s.bs)=Z p->RowSt s ř (bY s p)
 |single {p u:Nat} {r:aq}:s.rs.findIdx? (e7 s.bs)=ŗ->s.rs.findIdx? gE=Z p->s.rs[p]?=Z r->(di r.1)[0]?=Z u->RowSt s ř (kC s p u r)
 |uneven {p:Nat} {r:aq}:s.rs.findIdx? (e7 s.bs)=ŗ->s.rs.findIdx? gE=ŗ->s.rs.findIdx? dJ=Z p->s.rs[p]?=Z r->RowSt s ř (jh s p r)
 |doubled {j i:Nat} {a b:aq}:s.rs.findIdx? (e7 s.bs)=ŗ->s.rs.findIdx? gE=ŗ->s.rs.findIdx? dJ=ŗ->Dbl s.rs j i a b->RowSt s ř (bY s (if a.2<b.2 then j else i))
 |no:s.rs.findIdx? (e7 s.bs)=ŗ->s.rs.findIdx? gE=ŗ->s.rs.findIdx? dJ=ŗ->Fz s.rs->RowSt s Ś s
def gW{a:Type}{c:a->Bool}{rs:Y a}{p:Nat}(h:rs.findIdx? c=Z p):∃r,rs[p]?=Z r/\c r=ř:=by let⟨g,e,_⟩:=List.findIdx?_eq_some_iff_getElem.mp h;show⟨rs[p],J2 g,e⟩
def i4(o:Ř Nat):NoL (oN o):=by cases o<;>constructor
inductive y_row_struck(as:List Sm)(R:Sm->List Om->Prop)(Rx:XD->List Om->Prop):Prop|mk (a:Option Addr) (n:Nat) (s:Led) (_:as=[.ob a (bJ s)]) (_:LedP n s) (_:∀b s',RowSt s b s'->R (.v (.bl b)) [bJ s'])
def CM(F:Fun K "row_struck" "row_struck" oF f J){C:Addr}(c:TxtLedger K mg C)(U:Cl P w K mg base n "idle_row" ["bounds","rows"] z_idle_row)(T:Cl P w K mg base n "single_row" ["rows"] z_single_row)(X:Cl P w K mg base n "uneven_row" ["rows"] z_uneven_row)(a_:Cl P w K mg base n "doubled_row" ["rows"] z_doubled_row)(O:MthM P w K mg base n C "drop_row" ["self","place"] y_Ledger__drop_row)(b_:MthM P w K mg base n C "turn_to_bound" ["self","place"] y_Ledger__turn_to_bound)(Oh:MthM P w K mg base n C "even_row" ["self","place"] y_Ledger__even_row):FnOk P w K mg base aE (n+1) f J ["ledger"] (lSpM K y_row_struck):=by
 refine F.okM qaJ (λas R Rx h=>?_) (λNG A outer s H E as R Rx qs NI l h NW=>?_)
 ·let⟨a,k,s,rfl,_⟩:=h;rfl
 let⟨a,k,s,rfl,e,q⟩:=h;let⟨I,rfl⟩:=eu NW
 refine⟨_,(ap (aH (i:=1) qaJ.nd S V6 (cr (aX U l S (ad (aL c.cl c.n_bounds c.ns (ac 0)) (ad (aL c.cl c.n_rows c.ns (ac 0)) ag aJ) aJ) aJ (au aJ ae))))
   (cB (ce (bW (aN dN (ac 1) (PD.q bi) (az _))) (ap (fQ (eQ 0 O l c.cl c.ns (aI (af (dv 1)) bg aa) aa ae))
   (aQ (cq (af dg)))) cy)
   (ap (aH (i:=1) qaJ.nd S V6 (cr (aX T l S (ad (aL c.cl c.n_rows c.ns (ac 0)) ag aJ) aJ ae)))
   (cB (ce (bW (aN dN (ac 1) (PD.q bi) (az _))) (ap (fQ (eQ 0 b_ l c.cl c.ns (aI (af (dv 1)) bg aa) aa ae))
   (aQ (cq (af dg)))) cy)
   (ap (aH (i:=1) qaJ.nd S V6 (cr (aX X l S (ad (aL c.cl c.n_rows c.ns (ac 0)) ag aJ) aJ ae)))
   (cB (ce (bW (aN dN (ac 1) (PD.q bi) (az _))) (ap (fQ (eQ 0 Oh l c.cl c.ns (aI (af (dv 1)) bg aa) aa ae))
   (aQ (cq (af dg)))) cy)
   (ap (aH (i:=1) qaJ.nd S V6 (cr (aX a_ l S (ad (aL c.cl c.n_rows c.ns (ac 0)) ag aJ) aJ ae)))
   (cB (ce (bW (aN dN (ac 1) (PD.q bi) (az _))) (ap (fQ (eQ 0 O l c.cl c.ns (aI (af (dv 1)) bg aa) aa ae))
   (aQ (cq (af dg)))) cy)
   (aQ (cq (af dg))))))))))),?_⟩
 intro ke;have h8:=e.n8;have N0:=e.rl
 have UL:∀r∈s.rs,r.1.length<=1000:=λr l=>by rw[(e.rr r l).1];omega
 refine⟨S,_,S,S,_,S,s.bs,s.rs,S,e.rows,i4 _,?_⟩
 cases u:s.rs.findIdx? (e7 s.bs)with
 |some p=>
  let⟨r,g,_⟩:=gW u;refine⟨λ_=>False,⟨λ_=>?_,tf⟩,λρ h=>h.elim⟩;refine⟨⟨_,_,S,S⟩,_,S,S,_,s,p,S,aA g,by rw[e.rm];show aA g,by have:=aA g;omega,?_⟩;rfl';show⟨_,S,q _ _ (.idle u)⟩
 |none=>
  refine⟨λρ=>ρ=[Z (.ob (Z I) (bJ s)),Z (.v .non)],⟨ff,λ_=>rfl⟩,?_⟩;rintro ρ rfl;refine⟨S,_,S,s.rs,S,UL,i4 _,?_⟩
  cases v:s.rs.findIdx? gE with
  |some p=>
   let⟨r,g,Q⟩:=gW v;have o:=aA g;have OY:(di r.1).length=1:=JV Q;have N:(di r.1)[0]?=Z ((di r.1)[0]'()):=J2 ();let⟨rn,be,z,B⟩:=e.rr r (Je g)
   have L:(di r.1)[0]'()<k:=by have:=JA.mp (JP.mp (Je N)).1;omega
   refine⟨λ_=>False,⟨λ_=>?_,tf⟩,λρ h=>h.elim⟩;refine⟨⟨_,_,S,S⟩,_,S,S,_,s,p,_,r,S,g,by rw[e.rm];show o,(),e.n1,by have:=e.ln;omega,(),N,by rw[e.bl];show L,by rw[e.ll];show L,by rw[e.ml];show L,be,?_⟩;rfl';show⟨_,S,q _ _ (.single u v g N)⟩
  |none=>
   refine⟨λρ=>ρ=[Z (.ob (Z I) (bJ s)),Z (.v .non)],⟨ff,λ_=>rfl⟩,?_⟩;rintro ρ rfl;refine⟨S,_,S,s.rs,S,i4 _,?_⟩
   cases G:s.rs.findIdx? dJ with
   |some p=>
    let⟨r,g,Q⟩:=gW G;have o:=aA g;let⟨rn,be,z,B⟩:=e.rr r (Je g);refine⟨λ_=>False,⟨λ_=>?_,tf⟩,λρ h=>h.elim⟩;refine⟨⟨_,_,S,S⟩,_,S,S,_,s,p,r,S,g,by rw[e.rm];show o,e.n1,by have:=e.ln;omega,(),z,B,?_⟩;rfl';show⟨_,S,q _ _ (.uneven u v G g)⟩
   |none=>
    refine⟨λρ=>ρ=[Z (.ob (Z I) (bJ s)),Z (.v .non)],⟨ff,λ_=>rfl⟩,?_⟩;rintro ρ rfl;refine⟨S,_,S,s.rs,S,(),λr l=>by rw[(e.rr r l).1];omega,λOH=>⟨.non,?_⟩,λj i x y M=>⟨.int _,?_⟩⟩
    ·refine⟨λρ=>ρ=[Z (.ob (Z I) (bJ s)),Z (.v .non)],⟨ff,λ_=>rfl⟩,?_⟩;rintro ρ rfl;show⟨_,S,q _ _ (.no u v G OH)⟩
    ·have o:(if x.2<y.2 then j else i)<s.rs.length:=by
      have:=aA M.ib;have:=M.ji;split<;>omega
     have hR:=RowSt.doubled (s:=s) u v G M;generalize (if x.2<y.2 then j else i)=p at *;refine⟨λ_=>False,⟨λ_=>?_,tf⟩,λρ h=>h.elim⟩;refine⟨⟨_,_,S,S⟩,_,S,S,_,s,p,S,o,by rw[e.rm];show o,(),?_⟩;rfl';show⟨_,S,q _ _ hR⟩
inductive UnkSt(s:Led):Bool->Led->Prop where
 |fixed {u:Nat}:s.st.find? (eB s.bs)=Z u->UnkSt s ř (ft s u (ah s.bs u).1)
 |sink {u:Nat}:s.st.find? (eB s.bs)=ŗ->s.st.find? (fe s.bs s.rs s.gl)=Z u->UnkSt s ř (ft s u (ah s.bs u).1)
 |rise {u:Nat} {m:Int}:s.st.find? (eB s.bs)=ŗ->s.st.find? (fe s.bs s.rs s.gl)=ŗ->s.st.find? (fg s.bs s.rs s.gl)=Z u->(ah s.bs u).2=Z m->UnkSt s ř (ft s u m)
 |hang {u:Nat}:s.st.find? (eB s.bs)=ŗ->s.st.find? (fe s.bs s.rs s.gl)=ŗ->s.st.find? (fg s.bs s.rs s.gl)=ŗ->s.st.find? (eZ s.bs s.rs s.gl)=Z u->UnkSt s ř (fM s u)
 |no:s.st.find? (eB s.bs)=ŗ->s.st.find? (fe s.bs s.rs s.gl)=ŗ->s.st.find? (fg s.bs s.rs s.gl)=ŗ->s.st.find? (eZ s.bs s.rs s.gl)=ŗ->UnkSt s Ś s
def LedP.stay{n:Nat}{s:Led}(h:LedP n s):StayP s.bs s.rs s.gl s.st:=⟨λu a=>by rw[h.bl];show h.sl u a,λu a=>by rw[h.gl];show h.sl u a,by have:=h.rl;omega,λu a r c=>by rw[(h.rr r c).1];show h.sl u a⟩
def LedP.fix{n:Nat}{s:Led}(h:LedP n s){u:Nat}{m:Int}(e:u∈s.st)(g:bz m):FixP s u m:=by
 have a:=h.sl u e;have:=h.n8;have:=h.rl;have:=h.ln;have:=h.gs;have:=h.gn;show⟨e,by rw[h.ml];show a,by rw[h.ll];show a,by rw[h.gl];show a,h.rm,(),(),(),(),g,λr c=>⟨by rw[(h.rr r c).1];show a,by rw[(h.rr r c).1];omega,λx j=>oH ((h.rr r c).2.1 x j)⟩,h.gg,h.n1,h.n2,h.n3⟩
def LedP.hang{n:Nat}{s:Led}(h:LedP n s){u:Nat}(a:u∈s.st):HangP s u:=
 ⟨a,by rw[h.bl];show h.sl u a,h.rm,by have:=h.rl;omega,by have:=h.gn;omega,λr c=>by rw[(h.rr r c).1];show h.sl u a⟩
def LedP.low{n:Nat}{s:Led}(h:LedP n s){u:Nat}(a:u∈s.st):kr (ah s.bs u):=h.bb _ (cI (by rw[h.bl];show h.sl u a))
inductive y_unknown_struck(as:List Sm)(R:Sm->List Om->Prop)(Rx:XD->List Om->Prop):Prop|mk (a:Option Addr) (n:Nat) (s:Led) (_:as=[.ob a (bJ s)]) (_:LedP n s) (_:∀b s',UnkSt s b s'->R (.v (.bl b)) [bJ s'])
def xM(F:Fun K "unknown_struck" "unknown_struck" mS f J){B:Addr}(c:TxtLedger K mg B)(O:Cl P w K mg base n "fixed_unknown" ["bounds","staying"] z_fixed_unknown)(Q:Cl P w K mg base n "rising_unknown" ["bounds","rows","goal","staying"] z_rising_unknown)(T:Cl P w K mg base n "hanging_unknown" ["bounds","rows","goal","staying"] z_hanging_unknown)(be:Cl P w K mg base n "sinking_unknown" ["bounds","rows","goal","staying"] z_sinking_unknown)(N:MthM P w K mg base n B "fix" ["self","unknown","number"] y_Ledger__fix)(a_:MthM P w K mg base n B "hang" ["self","unknown"] y_Ledger__hang):FnOk P w K mg base aE (n+1) f J ["ledger"] (lSpM K y_unknown_struck):=by
 refine F.okM qaQ (λas R Rx h=>?_) (λNG A outer s H E as R Rx qs NI p h U=>?_)
 ·let⟨a,k,s,rfl,_⟩:=h;rfl
 let⟨a,k,s,rfl,g,q⟩:=h;let⟨y,rfl⟩:=eu U
 refine⟨_,(ap (aH (i:=1) qaQ.nd S V6 (cr (aX O p S (ad (aL c.cl c.n_bounds c.ns (ac 0)) (ad (aL c.cl c.n_staying c.ns (ac 0)) ag aJ) aJ) aJ (au aJ ae))))
   (cB (ce (bW (aN eR (ac 1) (PD.q bi) (az _))) (aQ (aH (i:=1) qaQ.nd S V6 (cr (aX be p S (ad (aL c.cl c.n_bounds c.ns (ac 0)) (ad (aL c.cl c.n_rows c.ns (ac 0)) (ad (aL c.cl c.n_goal c.ns (ac 0)) (ad (aL c.cl c.n_staying c.ns (ac 0)) ag aJ) aJ) aJ) aJ) aJ (au aJ (au aJ (au aJ ae))))))) cy)
   (cB (ce (bW (aN dN (ac 1) (PD.q bi) (az _))) (ap (fQ (eQ 0 N p c.cl c.ns (aI (af (dv 1)) (aI (cr (ax (PD.q (bA (PD.q (aL c.cl c.n_bounds c.ns (ac 0))) (ac 1) (λ_ _=>rfl))))) bg aB) aa) aa (au aB ae)))
   (aQ (cq (af dg)))) cy)
   (ap (aH (i:=1) qaQ.nd S V6 (cr (aX Q p S (ad (aL c.cl c.n_bounds c.ns (ac 0)) (ad (aL c.cl c.n_rows c.ns (ac 0)) (ad (aL c.cl c.n_goal c.ns (ac 0)) (ad (aL c.cl c.n_staying c.ns (ac 0)) ag aJ) aJ) aJ) aJ) aJ (au aJ (au aJ (au aJ ae))))))
   (cB (ce (bW (aN dN (ac 1) (PD.q bi) (az _))) (ap (fQ (eQ 0 N p c.cl c.ns (aI (af (dv 1)) (aI (cr (ax (PD.q (bA (PD.q (aL c.cl c.n_bounds c.ns (ac 0))) (ac 1) (λ_ _=>rfl))))) bg aB) aa) aa (au aB ae)))
   (aQ (cq (af dg)))) cy)
   (ap (aH (i:=1) qaQ.nd S V6 (cr (aX T p S (ad (aL c.cl c.n_bounds c.ns (ac 0)) (ad (aL c.cl c.n_rows c.ns (ac 0)) (ad (aL c.cl c.n_goal c.ns (ac 0)) (ad (aL c.cl c.n_staying c.ns (ac 0)) ag aJ) aJ) aJ) aJ) aJ (au aJ (au aJ (au aJ ae))))))
   (cB (ce (bW (aN dN (ac 1) (PD.q bi) (az _))) (ap (fQ (eQ 0 a_ p c.cl c.ns (aI (af (dv 1)) bg aa) aa ae))
   (aQ (cq (af dg)))) cy)
   (aQ (cq (af dg)))))))))),?_⟩
 intro ke;have C:∀u∈s.st,u<s.bs.length:=g.stay.sb;refine⟨S,_,S,S,_,S,s.bs,s.st,S,C,i4 _,?_⟩;refine⟨λρ=>∃o:Ř Nat,ρ=[Z (.ob (Z y) (bJ s)),Z (.v (oN o))]/\(∀u,o=Z u->u∈s.st/\UnkSt s ř (ft s u (ah s.bs u).1))/\(o=ŗ->s.st.find? (eB s.bs)=ŗ/\s.st.find? (fe s.bs s.rs s.gl)=ŗ),?_,?_⟩
 ·cases l:s.st.find? (eB s.bs)with
  |some u=>show⟨ff,λ_=>⟨Z u,S,λv x=>by cases x;show⟨JD l,.fixed l⟩,λh=>by cases h⟩⟩
  |none=>
   refine⟨λ_=>⟨S,_,S,S,_,S,S,_,S,S,_,S,s.bs,s.rs,s.gl,s.st,S,g.stay,i4 _,s.st.find? (fe s.bs s.rs s.gl),S,λv x=>⟨JD x,.sink l x⟩,λh=>⟨S,h⟩⟩,tf⟩
 rintro ρ ⟨o,rfl,b_,X⟩
 cases o with
 |some u=>
  let⟨j,hU⟩:=b_ u S;refine⟨λ_=>False,⟨λ_=>?_,tf⟩,λρ h=>h.elim⟩;refine⟨⟨_,_,S,S⟩,S,_,S,_,fB (C u j) S,_,S,.int _,_,S,S,_,s,u,_,S,g.fix j (g.low j).1,?_⟩;rfl';show⟨_,S,q _ _ hU⟩
 |none=>
  let⟨l,G⟩:=X S;refine⟨λρ=>ρ=[Z (.ob (Z y) (bJ s)),Z (.v .non)],⟨ff,λ_=>rfl⟩,?_⟩;rintro ρ rfl;refine⟨S,_,S,S,_,S,S,_,S,S,_,S,s.bs,s.rs,s.gl,s.st,S,g.stay,i4 _,?_⟩
  cases r:s.st.find? (fg s.bs s.rs s.gl)with
  |some u=>
   have j:=JD r;have L:=Lq r
   obtain⟨m,M⟩:∃m,(ah s.bs u).2=Z m:=by
    cases e:(ah s.bs u).2 with
    |some m=>show⟨m,S⟩
    |none=>unfold fg at L;rw[e]at L;cases L
   refine⟨λ_=>False,⟨λ_=>?_,tf⟩,λρ h=>h.elim⟩;refine⟨⟨_,_,S,S⟩,S,_,S,_,fB (C u j) S,D.int m,(JY (λz=>cF [D.int (ah s.bs u).1,oI z] 1) M).trans S,.int _,_,S,S,_,s,u,m,S,g.fix j ((g.low j).2 m M),?_⟩;rfl';show⟨_,S,q _ _ (.rise l G r M)⟩
  |none=>
   refine⟨λρ=>ρ=[Z (.ob (Z y) (bJ s)),Z (.v .non)],⟨ff,λ_=>rfl⟩,?_⟩;rintro ρ rfl;refine⟨S,_,S,S,_,S,S,_,S,S,_,S,s.bs,s.rs,s.gl,s.st,S,g.stay,i4 _,?_⟩
   cases I:s.st.find? (eZ s.bs s.rs s.gl)with
   |some u=>
    have j:=JD I;refine⟨λ_=>False,⟨λ_=>?_,tf⟩,λρ h=>h.elim⟩;refine⟨⟨_,_,S,S⟩,_,S,S,_,s,u,S,g.hang j,?_⟩;rfl';show⟨_,S,q _ _ (.hang l G r I)⟩
   |none=>
    refine⟨λρ=>ρ=[Z (.ob (Z y) (bJ s)),Z (.v .non)],⟨ff,λ_=>rfl⟩,?_⟩;rintro ρ rfl;show⟨_,S,q _ _ (.no l G r I)⟩
noncomputable def pX(s:Led)(p:Nat):D:=.tup (.tup [s.rm.getD p .non,.int 1]::(di (bL s.rs p).1).map λu=>eo s u ((bL s.rs p).1.getD u 0))
noncomputable def bx(s:Led):D:=match s.st.find? (jq s.bs)with
 |some u=>.tup [.tup [s.lm.getD u .non,.int 1],.tup [s.mm.getD u .non,.int 1]]
 |none=>match s.rs.findIdx? (fS s.bs)with
  |none=>.non
  |some p=>pX s p
inductive z_hopeless_shares(ds:List D)(R:D->Prop):Prop|mk (n:Nat) (s:Led) (_:ds=[ix s]) (_:LedP n s) (_:R (bx s))
def Ap(F:Fun K "hopeless_shares" "hopeless_shares" ls f J){v:Addr}(a:TxtLedger K mg v)(G:Cl P w K mg base n "crossed_unknown" ["bounds","staying"] z_crossed_unknown)(I:Cl P w K mg base n "hopeless_row" ["bounds","rows"] z_hopeless_row)(a_:MthD P w K mg base n v "bound_share" ["self","unknown","entry"] z_Ledger__bound_share)(N:mg "tuple"=ŗ)(O:mg "enumerate"=ŗ):FnOk P w K mg base aE (n+1) f J ["ledger"] (lSp K z_hopeless_shares):=by
 refine F.okD qaD (λds R h=>?_) (λb_ A outer s H E ds R l h=>?_)
 ·let⟨k,s,rfl,_⟩:=h;rfl
 let⟨k,s,rfl,c,q⟩:=h
 refine⟨_,(bt (cw (i:=1) qaD.nd S V6 (aX G l S (ad (aL a.cl a.n_bounds a.ns (ac 0)) (ad (aL a.cl a.n_staying a.ns (ac 0)) ag aJ) aJ) aJ (au aJ ae)))
   (fV (bZ (aN dN (ac 1) (PD.q bi) (az _)) (aD (bf (bw (ad (bw (ad (bA (PD.q (aL a.cl a.n_least_marks a.ns (ac 0))) (ac 1) (λ_ _=>rfl)) (ad am ag aF) aB)) (ad (bw (ad (bA (PD.q (aL a.cl a.n_most_marks a.ns (ac 0))) (ac 1) (λ_ _=>rfl)) (ad am ag aF) aB)) ag bH) bH)))) cf)
   (bt (cw (i:=2) qaD.nd S V6 (aX I l S (ad (aL a.cl a.n_bounds a.ns (ac 0)) (ad (aL a.cl a.n_rows a.ns (ac 0)) ag aJ) aJ) aJ (au aJ ae)))
   (fV (bZ (aN eR (ac 2) (PD.q bi) (az _)) (aD (bf bi)) cf)
   (bt (cw (i:=3) qaD.nd S V6 (ax (PD.q (bA (PD.q (aL a.cl a.n_rows a.ns (ac 0))) (ac 2) (λ_ _=>rfl)))))
   (bt (ui (i:=4) (k:=2) (N':=["other","entry","ledger"]) (cap:=[ŗ,ŗ,Z 0]) S qaD.nd S V6 (.ok (show b7 ["ledger","unknown","place","entries","shares"] (av ls) _ ["other","entry","ledger"] [ŗ,ŗ,Z 0]=ř by lia)) 'a' (iE (n:=2) (eP (bK 'b') (eP (bK 'b') iB))) (gC S O (ad (dv 3) ag aa)) (λ_ _ _ _ _=>(eC (n:=2) S (bP (bc (i:=0) (show List.Nodup (["other","entry","ledger"]:Y Str)by lia) S V6) (bP (bc (i:=1) (show List.Nodup (["other","entry","ledger"]:Y Str)by lia) S V6) eG)))) (λ_ _ _ _ _=>(jt (aN (fH l.units) (ac 1) (PD.q am) (az _)))) (λ_ _ _ _ _=>(ot a_ l a.cl a.ns (dv 2) (ad (dv 0) (ad (dv 1) ag aa) aa) aa (au aa ae))))
   (aD (bf (aS bR (PD.q (bw (ad (bw (ad (bA (PD.q (aL a.cl a.n_row_marks a.ns (ac 0))) (ac 2) (λ_ _=>rfl)) (ad am ag aF) aB)) ag bH))) (PD.q (cu cJ S N Jn (aO (ac 4) aY aa) aa ae))))))))))),?_⟩
 have h8:=c.n8;refine⟨S,_,S,S,_,S,s.bs,s.st,S,c.stay.sb,?_⟩
 cases j:s.st.find? (jq s.bs)with
 |some u=>
  have U:=JD j;have B:=c.sl u U
  have:bx s=.tup [.tup [s.lm.getD u .non,.int 1],.tup [s.mm.getD u .non,.int 1]]:=by unfold bx;rw[j]
  rw[this]at q;show⟨λ_=>False,⟨λ_=>⟨S,_,S,s.lm.getD u .non,gB (bQ (by rw[c.ll];show B)) S,S,_,S,s.mm.getD u .non,gB (bQ (by rw[c.ml];show B)) S,q⟩,tf⟩,λρ h=>h.elim⟩
 |none=>
  refine⟨λρ=>ρ=[Z (.v (ix s)),Z (.v .non),ŗ,ŗ,ŗ],⟨ff,λ_=>rfl⟩,?_⟩;rintro ρ rfl;refine⟨S,_,S,S,_,S,s.bs,s.rs,S,c.rows,?_⟩
  cases o:s.rs.findIdx? (fS s.bs)with
  |none=>
   have:bx s=.non:=by unfold bx;rw[j,o]
   rw[this]at q;show⟨λ_=>False,⟨λ_=>q,tf⟩,λρ h=>h.elim⟩
  |some p=>
   let⟨r,g,_⟩:=gW o;have L:bL s.rs p=r:=df g;have M:=aA g;let⟨rn,r9,_,_⟩:=c.rr r (Je g)
   have:bx s=pX s p:=by unfold bx;rw[j,o]
   rw[this]at q;unfold pX at q;rw[L]at q;refine⟨λρ=>ρ=[Z (.v (ix s)),Z (.v .non),Z (.v (aW p)),ŗ,ŗ],⟨ff,λ_=>rfl⟩,?_⟩;rintro ρ rfl;refine⟨S,_,S,_,cK g S,_,S,?_⟩;refine⟨by rw[eT,IY];show bj (),iQ (λi=>decide (r.1.getD i 0≠0)) (λu=>eo s u (r.1.getD u 0)),λi d hd=>?_,λys y X=>?_⟩
   ·let⟨e,be,rfl⟩:=ge hd;let⟨x,rfl,C⟩:=bI be;have ex:r.1.getD i 0=x:=df C
    have z:i<k:=by have:=aA C;omega
    refine⟨S,λh=>?_,λh=>?_⟩
    ·refine⟨S,S,s,i,x,S,by rw[c.ml];show z,by rw[c.ll];show z,?_,?_⟩
     ·change eo s i x=eo s i (r.1.getD i 0);rw[ex]
     ·change decide (r.1.getD i 0≠0)=ř;rw[ex]
      show J4 λe=>by rw[e]at h;cases h
    ·change decide (r.1.getD i 0≠0)=Ś;rw[ex];refine JG λe=>?_;have h':(!(x==0))=Ś:=h
     have:(x==0)=ř:=by simpa using h'
     show e (eq_of_beq this)
   rw[eT,IY]at y;have Q:ys.filterMap id=(di r.1).map (λu=>eo s u (r.1.getD u 0)):=jU y X;rw[Q]
   have T:(di r.1).length<=8:=by
    have:=Kp (λi=>decide (r.1.getD i 0≠0)) (List.range r.1.length);rw[Jz]at this;have:(di r.1).length<=r.1.length:=this;omega
   refine⟨S,_,S,s.rm.getD p .non,gB (bQ (by rw[c.rm];show M)) S,by rw[IY];change 1+_<=_;have:=bj (n:=9) 'b';omega,_,S,q⟩
noncomputable def jy(xs:Y D)(st:Y Nat):Y D:=st.map λu=>xs.getD u .non
inductive z_picked(ds:List D)(R:D->Prop):Prop|mk (d1:D) (xs:List D) (st:List Nat) (_:ds=[d1,.lst (st.map aW)]) (_:(d1=.tup xs\/d1=.lst xs)) (_:st.length<=1000) (_:(∀u∈st,u<xs.length)) (_:R (.tup (jy xs st)))
def zO(F:Fun K "picked" "picked" kq f J)(g:mg "tuple"=ŗ):FnOk P w K mg base aE (n+1) f J ["numbers","places"] (lSp K z_picked):=by
 refine F.okD DM (λds R h=>?_) (λo A outer s H E ds R p h=>?_)
 ·let⟨j,xs,st,rfl,_⟩:=h;rfl
 let⟨j,xs,st,rfl,l,c,e,q⟩:=h;refine⟨_,(aD (bf (cu cJ S g Jn (aO (PD.q (PF.d (dR (k:=1) (N':=["place","numbers"]) (cap:=[ŗ,Z 0]) S (.ok (show b7 ["numbers","places"] (av kq) _ ["place","numbers"] [ŗ,Z 0]=ř by lia)) 'a' (bK 'b') (bX (dv 1)) (λ_ _ _ _ _=>(bc (i:=0) (show List.Nodup (["place","numbers"]:Y Str)by lia) S V6)) (λ_ _ _ _ _=>(bA (ac 1) (ac 0) (λ_ _=>rfl)))))) aY bD) bD ae))),?_⟩;rcases l with rfl|rfl
 ·show gq (f:=aW) (λu=>xs.getD u .non) (bj c) (λu a=>⟨_,gB (bQ (d:=D.non) (e u a)) S,S⟩) q
 ·show gq (f:=aW) (λu=>xs.getD u .non) (bj c) (λu a=>⟨_,gB (bQ (d:=D.non) (e u a)) S,S⟩) q
noncomputable def pk{a:Type}(d:a)(xs:Y a)(st:Y Nat):Y a:=st.map λu=>xs.getD u d
def rf{a:Type}{f:a->D}{d:a}{xs:Y a}{st:Y Nat}(h:∀u∈st,u<xs.length):jy (xs.map f) st=(pk d xs st).map f:=by
 unfold jy pk;rw[J3];refine Mx λu c=>?_;change (xs.map f).getD u .non=f (xs.getD u d);have:=h u c;rw[Jl,Jl,Jm,bE this];rfl
noncomputable def cS(st:Y Nat)(r:aq):aq:=(pk 0 r.1 st,r.2)
noncomputable def kz(s:Led):D:=cC (pk (0,ŗ) s.bs s.st) (s.rs.map (cS s.st)) (pk 0 s.gl s.st)
def w6{n:Nat}{s:Led}(h:LedP n s):s.st.length<=n:=by
 have a:s.st ⊆ List.range n:=λu c=>JA.mpr (h.sl u c);have:=h.nd.length_le_of_subset a
 rwa [Jz]at this
inductive z_slim_plan(ds:List D)(R:D->Prop):Prop|mk (n:Nat) (s:Led) (_:ds=[ix s]) (_:LedP n s) (_:R (kz s))
def GO(F:Fun K "slim_plan" "slim_plan" kO f J){v:Addr}(a:TxtLedger K mg v)(o:Cl P w K mg base n "picked" ["numbers","places"] z_picked)(x:mg "tuple"=ŗ):FnOk P w K mg base aE (n+1) f J ["ledger"] (lSp K z_slim_plan):=by
 refine F.okD qaM (λds R h=>?_) (λB A outer s H E ds R l h=>?_)
 ·let⟨k,s,rfl,_⟩:=h;rfl
 let⟨k,s,rfl,c,q⟩:=h
 refine⟨_,(bt (rJ (i:=1) (k:=1) (N':=["row","ledger"]) (cap:=[ŗ,Z 0]) S qaM.nd S V6 (.ok (show b7 ["ledger","rows"] (av kO) _ ["row","ledger"] [ŗ,Z 0]=ř by lia)) 'a' (bK 'b') (bX (aL a.cl a.n_rows a.ns (ac 0))) (λ_ _ _ _ _=>(bc (i:=0) (show List.Nodup (["row","ledger"]:Y Str)by lia) S V6)) (λ_ _ _ _ _=>(bw (ad (aX o l S (ad (ax (ac 0)) (ad (aL a.cl a.n_staying a.ns (ac 1)) ag aJ) aB) aB (au aJ ae)) (ad (ax (ac 0)) ag aB) bo))))
   (aD (bf (bw (ad (aX o l S (ad (aL a.cl a.n_bounds a.ns (ac 0)) (ad (aL a.cl a.n_staying a.ns (ac 0)) ag aJ) aJ) aJ (au aJ ae)) (ad (cu cJ S x Jn (aO (ac 1) aY aa) aa ae) (ad (aX o l S (ad (aL a.cl a.n_goal a.ns (ac 0)) (ad (aL a.cl a.n_staying a.ns (ac 0)) ag aJ) aJ) aJ (au aJ ae)) ag bo) bo) bo))))),?_⟩
 have G:=c.n8;have C:=w6 c
 have y:∀u∈s.st,u<(s.bs.map aP).length:=λu g=>by rw[IY];show c.stay.sb u g
 have z:∀u∈s.st,u<(s.gl.map D.int).length:=λu g=>by rw[IY];show c.stay.sg u g
 refine⟨S,_,S,?_⟩;refine gq (f:=aw) (λr=>aw (cS s.st r)) (bj (by have:=c.rl;omega)) (λr p=>?_) ?_
 ·have j:∀u∈s.st,u<r.1.length:=λu g=>c.stay.sr u g r p;refine⟨_,S,S,_,S,_,r.1.map D.int,s.st,S,.inl S,(),λu g=>by rw[IY];show j u g,_,S,?_⟩;change D.tup [D.tup (jy (r.1.map D.int) s.st),D.int r.2]=aw (cS s.st r);rw[rf (d:=0) j];rfl
 refine⟨S,_,S,S,_,S,_,s.bs.map aP,s.st,S,.inr S,(),y,?_⟩;refine⟨S,_,S,S,_,S,_,s.gl.map D.int,s.st,S,.inl S,(),z,?_⟩
 have e:D.tup [D.tup (jy (s.bs.map aP) s.st),D.tup (s.rs.map λr=>aw (cS s.st r)),D.tup (jy (s.gl.map D.int) s.st)]=kz s:=by unfold kz cC;rw[rf (d:=(0,ŗ)) c.stay.sb,rf (d:=0) c.stay.sg,J3];rfl
 show (JY R e).mpr q
noncomputable def eX(sp:Y Int)(ps:Y (Nat×Int)):Y Int:=ps.foldl (λsp p=>sp.set p.1 p.2) sp
noncomputable def dw(n:Nat)(ps:Y Nat)(xs:Y Int):Y Int:=eX (List.replicate n 0) (List.zip ps xs)
def wK(ps:Y (Nat×Int)):∀sp:Y Int,(eX sp ps).length=sp.length:=by
 induction ps with
 |nil=>intro sp;rfl
 |cons p ps a=>
  intro sp;change (eX (sp.set p.1 p.2) ps).length=_;rw[a,Jc]
def Dg(sp:Y Int){ps:Y (Nat×Int)}{i:Nat}{p:Nat×Int}(h:ps[i]?=Z p):eX sp (ps.take (i+1))=(eX sp (ps.take i)).set p.1 p.2:=by rw[gF h];unfold eX;rw[KL];rfl
inductive y_spread(as:List Sm)(R:Sm->List Om->Prop)(Rx:XD->List Om->Prop):Prop|mk (d1 d2:D) (xs:List Int) (ps:List Nat) (n:Nat) (_:as=[.v d1,.v d2,.v (.int (n:Nat))]) (_:cV d1=Z (xs.map D.int)) (_:cV d2=Z (ps.map aW)) (_:n<=1000) (_:(∀p∈ps,p<n)) (_:R (.ob ŗ (.lst ((dw n ps xs).map D.int))) [])
def CT(F:Fun K "spread" "spread" mt f J)(y:mg "zip"=ŗ):FnOk P w K mg base aE (n+1) f J ["numbers","places","n"] (lSpM K y_spread):=by
 refine F.okM qaN (λas R u h=>?_) (λG A outer s H E as R u O I M h r=>?_)
 ·let⟨j,l,xs,ps,m,rfl,_⟩:=h;rfl
 let⟨j,l,xs,ps,m,rfl,z,B,L,C,q⟩:=h;obtain rfl:=jl r
 refine⟨_,(ap (aH (i:=3) qaN.nd S V6 (dr (Hx (PD.q (PF.d (du (ad am ag aF)))) (ac 2))))
   (ap (e9 Jw S (fw (js S y (ad (dv 1) (ad (dv 0) ag aa) aa))) (gQ (n:=2) S (dc (cg (i:=4) qaN.nd S V6) (dc (cg (i:=5) qaN.nd S V6) gL))) (aQ (j8 3 (af (dv 5)) (af (dv 4)))))
   (aQ (cq (jG 3))))),?_⟩
 intro N;refine⟨⟨(),(),by have:=bj (n:=m) ();change 1*_<=_;omega⟩,(List.replicate m 0).map D.int,by rw[show ((m:Nat):Int).toNat=m from Km m];show wX m 0,?_⟩;refine⟨_,_,B,z,λi ρ=>∃e g:Ř Sm,ρ=[Z (.v j),Z (.v l),Z (.v (.int (m:Nat))),Z (.ob ŗ (.lst ((eX (List.replicate m 0) ((List.zip ps xs).take i)).map D.int))),e,g],⟨_,_,S⟩,?_,?_⟩
 ·rintro i d ρ hd ⟨e,g,rfl⟩;rw[jz]at hd;let⟨⟨p,x⟩,rfl,o⟩:=bI hd;have c:p<m:=C p (Lb (Je o)).1
  have a:(eX (List.replicate m 0) ((List.zip ps xs).take i)).length=m:=by rw[wK,JI]
  have v:=Dg (List.replicate m 0) o;refine⟨S,p,eO (by rw[IY,a];show c),_,S,Z (.v (aW p)),Z (.v (.int x)),?_⟩;rw[v,←KZ];rfl
 ·rintro ρ ⟨e,g,rfl⟩
  have a:(fL (ps.map aW) (xs.map D.int)).length=(List.zip ps xs).length:=by rw[jz,IY]
  rw[a,Kt];show q
noncomputable def fF(u:Nat)(sp:Y Int)(r:aq):Int:=dq (r.2-ar r.1 sp) (r.1.getD u 0)
noncomputable def jd(u:Nat)(l:Int)(rs:Y aq)(sp:Y Int):Int:=(rs.map (fF u sp)).foldl max l
def mQ:∀(xs:Y Int)(l:Int),l<=xs.foldl max l/\(∀x∈xs,x<=xs.foldl max l)/\xs.foldl max l∈l::xs
 | [],l=>⟨Kj _,λx h=>(by cases h),Ji⟩
 |y::xs,l=>by
  let⟨e,g,j⟩:=mQ xs (max l y);refine⟨MW (Int.le_max_left l y) e,λx a=>?_,?_⟩
  ·rcases Jt.mp a with rfl|a
   ·show MW (Int.le_max_right l x) e
   ·show g x a
  ·change xs.foldl max (max l y)∈l::y::xs;rcases Jt.mp j with h|h
   ·rw[h];rcases Int.le_total l y with c|c
    ·rw[Int.max_eq_right c];simp
    ·rw[Int.max_eq_left c];simp
   ·show Jh _ (Jh _ h)
def rX{xs:Y Int}{l m:Int}(e:m∈l::xs)(g:∀x∈l::xs,x<=m):m=xs.foldl max l:=by
 let⟨j,a,c⟩:=mQ xs l;have:=g _ c;rcases Jt.mp e with rfl|h
 ·omega
 ·have:=a m h;omega
inductive z_least_meeting(ds:List D)(R:D->Prop):Prop|mk (u:Nat) (l:Int) (d3 d4:D) (rs:List aq) (sp:List Int) (_:ds=[aW u,.int l,d3,d4]) (_:(d3=.lst (rs.map aw)\/d3=.tup (rs.map aw))) (_:cV d4=Z (sp.map D.int)) (_:rs.length<=100) (_:(∀r∈rs,u<r.1.length/\r.1.length<=1000/\0<r.1.getD u 0/\(∀x∈r.1,x.natAbs<2^9000))) (_:(∀x∈sp,bz x)) (_:R (.int (jd u l rs sp)))
def zS(F:Fun K "least_meeting" "least_meeting" lu f J)(L:Cl P w K mg base n "up" ["top","bottom"] z_up)(y:Cl P w K mg base n "left" ["entries","spot"] z_left)(I:mg "max"=ŗ):FnOk P w K mg base aE (n+1) f J ["unknown","least","rows","spot"] (lSp K z_least_meeting):=by
 refine F.okD qaG (λds R h=>?_) (λM A outer s H E ds R p h=>?_)
 ·let⟨u,l,B,C,rs,sp,rfl,_⟩:=h;rfl
 let⟨u,l,B,C,rs,sp,rfl,G,o,N,j,v,q⟩:=h
 refine⟨_,(bt (rJ (i:=4) (k:=1) (N':=["row","unknown","spot"]) (cap:=[ŗ,Z 0,Z 3]) S qaG.nd S V6 (.ok (show b7 ["unknown","least","rows","spot","needs"] (av lu) _ ["row","unknown","spot"] [ŗ,Z 0,Z 3]=ř by lia)) 'a' (bK 'b') (bX (dv 2)) (λ_ _ _ _ _=>(bc (i:=0) (show List.Nodup (["row","unknown","spot"]:Y Str)by lia) S V6)) (λ_ _ _ _ _=>(aX L p S (ad (aS dh (PD.q (ax (ac 0))) (PD.q (aX y p S (ad (ax (ac 0)) (ad (dv 2) ag aa) aB) aB (au aa ae)))) (ad (bA (PD.q (ax (ac 0))) (ac 1) (λ_ _=>rfl)) ag aB) cz) cz (au aB ae))))
   (aD (bf (bN (CW S) S I Ml (aO (PD.q (aS bR (PD.q (PF.d (du (ad (dv 1) ag aa)))) (ac 4))) aY cz) cz ae)))),?_⟩
 rcases G with rfl|rfl
 ·refine j5 (f:=aw) (fF u sp) (bj ()) (λr c=>?_) ?_
  ·let⟨a1,a2,a3,a4⟩:=j r c
   have e:r.1.getD u 0<2^9000:=by
    have z:((((r.1.getD u 0).natAbs:Nat)):Int)<2^9000:=by exact_mod_cast a4 _ (cI a1)
    omega
   show⟨_,S,_,S,_,_,r.1,sp,S,S,o,a2,λx a=>oH (a4 x a),v,_,S,_,cK (i:=u) (bQ (d:=0) a1) S,_,_,S,(),e,S⟩
  refine⟨by rw[IY,IY];have:=bj (n:=102) 'b';change 1+_<=_;omega,(l::rs.map (fF u sp)).map D.int,S,l::rs.map (fF u sp),S,by simp,λm g a=>?_⟩;have:=rX g a;rw[this];show q
 ·refine j5 (f:=aw) (fF u sp) (bj ()) (λr c=>?_) ?_
  ·let⟨a1,a2,a3,a4⟩:=j r c
   have e:r.1.getD u 0<2^9000:=by
    have z:((((r.1.getD u 0).natAbs:Nat)):Int)<2^9000:=by exact_mod_cast a4 _ (cI a1)
    omega
   show⟨_,S,_,S,_,_,r.1,sp,S,S,o,a2,λx a=>oH (a4 x a),v,_,S,_,cK (i:=u) (bQ (d:=0) a1) S,_,_,S,(),e,S⟩
  refine⟨by rw[IY,IY];have:=bj (n:=102) 'b';change 1+_<=_;omega,(l::rs.map (fF u sp)).map D.int,S,l::rs.map (fF u sp),S,by simp,λm g a=>?_⟩;have:=rX g a;rw[this];show q
noncomputable def gk(n:Nat)(s:Led):D:=.obj "Struck" [("ledger",ix s),("breadth",.int (n:Nat)),("kind",.str "slim"),("paper",.non),("slim",kz s),("kept",.tup (s.st.map aW)),("extra",.int s.ex)]
def mV(n:Nat)(ps:Y Nat)(xs:Y Int):(dw n ps xs).length=n:=by unfold dw;rw[wK,JI]
structure Way(P:Led->Prop)(μ:Led->Nat):Prop where
 ok:∀t,P t->∃n,LedP n t
 row:∀t t',P t->bx t=.non->RowSt t ř t'->P t'/\μ t'<μ t
 unk:∀t t',P t->bx t=.non->RowSt t Ś t->UnkSt t ř t'->P t'/\μ t'<μ t
def ld{n:Nat}{s:Led}(a:LedP n s):NoL (bx s):=by
 unfold bx
 cases j:s.st.find? (jq s.bs)with
 |some u=>
  have c:=a.sl u (JD j);show .tup (bv (.tup (bv (a.n3 _ (cI (by rw[a.ll];show c))) (bv (.int _) cW))) (bv (.tup (bv (a.n2 _ (cI (by rw[a.ml];show c))) (bv (.int _) cW))) cW))
 |none=>
  cases l:s.rs.findIdx? (fS s.bs)with
  |none=>show .non
  |some p=>
   let⟨r,e,_⟩:=gW l;have h:bL s.rs p=r:=df e;let⟨o,_⟩:=a.rr r (Je e);refine .tup (bv (.tup (bv (a.n1 _ (cI (by rw[a.rm];show aA e))) (bv (.int _) cW))) λd hd=>?_);let⟨u,c,rfl⟩:=Ju.mp hd
   have g:u<n:=by have:=JA.mp (JP.mp c).1;rw[h]at this;omega
   show oC a.n2 a.n3 (by rw[a.ml];show g) (by rw[a.ll];show g)
def GF{s t:Led}(h:RowSt s Ś t):t=s:=by cases h;rfl
def Cm{s t:Led}(h:UnkSt s Ś t):t=s:=by cases h;rfl
inductive y_strike(as:List Sm)(R:Sm->List Om->Prop)(Rx:XD->List Om->Prop):Prop|mk (a:Option Addr) (s:Led) (P:Led->Prop) (μ:Led->Nat) (_:as=[.ob a (bJ s)]) (_:P s) (_:Way P μ) (_:∀t,P t->(eY (bx t)=Ś\/(RowSt t Ś t/\UnkSt t Ś t))->R (.v (bx t)) [bJ t])
def Cy(F:Fun K "strike" "strike" mW f J)(L:Cl P w K mg base n "hopeless_shares" ["ledger"] z_hopeless_shares)(O:ClM P w K mg base n "row_struck" ["ledger"] y_row_struck)(N:ClM P w K mg base n "unknown_struck" ["ledger"] y_unknown_struck):FnOk P w K mg base aE (n+1) f J ["ledger"] (lSpM K y_strike):=by
 refine F.okM qaO (λas R Q h=>?_) (λU A outer s H E as R Q b_ X u h M=>?_)
 ·let⟨a,s,z,y,rfl,_⟩:=h;rfl
 let⟨a,s,z,y,rfl,G,g,q⟩:=h;let⟨T,rfl⟩:=eu M
 refine⟨_,(ap (aH (i:=1) qaO.nd S V6 (cr (aX L u S (ad (dv 0) ag aa) aa ae)))
   (ap (EE Jw (PXW.toB (nV (bW (aN eR (ac 1) (PD.q bi) (az _))) (tZ (PXW.toB (Dt (wQ (bO O u S (bT 0 bg aa) aa ae) (λ_=>rfl)) (AD (wQ (bO N u S (bT 0 bg aa) aa ae) (λ_=>rfl)))))))) (aQ (aH (i:=1) qaO.nd S V6 (cr (aX L u S (ad (dv 0) ag aa) aa ae)))))
   (aQ (cq (af (dv 1)))))),?_⟩
 intro a_;let⟨be,C⟩:=g.ok s G;refine⟨be,s,S,C,ld C,?_⟩;rfl';refine⟨λm ρ=>∃t,ρ=[Z (.ob (Z T) (bJ t)),Z (.v (bx t))]/\z t/\m=y t,⟨y s,s,S,G,S⟩,?_⟩;rintro m ρ ⟨t,rfl,p,rfl⟩;let⟨n,I⟩:=g.ok t p
 cases l:eY (bx t)with
 |false=>
  refine⟨λh=>?_,λ_=>⟨ff,λ_=>⟨_,S,q t p (.inl l)⟩⟩⟩;have h':(eY (bx t) != Ś)=ř:=h;rw[l]at h';cases h'
 |true=>
  have B:bx t=.non:=by
   cases e:bx t with
   |non=>rfl
   |_=>rw[e]at l;cases l
  refine⟨λ_=>?_,λh=>?_⟩
  ·refine⟨⟨_,_,S⟩,_,S,S,_,n,t,S,I,λb c r=>?_⟩;rfl'
   cases b with
   |true=>
    let⟨o,v⟩:=g.row t c p B r;let⟨n1,j⟩:=g.ok c o;show⟨λ_=>⟨λ_=>⟨n1,c,S,j,ld j,_,v,c,S,o,S⟩,tf⟩,tf⟩
   |false=>
    cases GF r;refine⟨ff,λ_=>⟨⟨_,_,S⟩,_,S,S,_,n,t,S,I,λb c x=>?_⟩⟩;rfl'
    cases b with
    |true=>
     let⟨o,v⟩:=g.unk t c p B r x;let⟨n1,j⟩:=g.ok c o;show⟨λ_=>⟨n1,c,S,j,ld j,_,v,c,S,o,S⟩,tf⟩
    |false=>
     cases Cm x;show⟨ff,λ_=>⟨_,S,q t p (.inr ⟨r,x⟩)⟩⟩
  ·have h':(eY (bx t) != Ś)=Ś:=h;rw[l]at h';cases h'
noncomputable def oU(s:Led)(n:Nat)(k a sl kp:D)(ex:Int):Y (Str×Fl):=[("ledger",.v (ix s)),("breadth",.v (.int (n:Nat))),("kind",.v k),("paper",.v a),("slim",.v sl),("kept",.v kp),("extra",.v (.int ex))]
noncomputable def uL:dW:=λas R _=>∃(a:Ř Addr)(bs:Y Bd)(rs:Y aq)(gs:Y Int)(P:Led->Prop)(c:Led->Nat),as=[.ob a (.obj "Struck" []),.v (cC bs rs gs)]/\bs.length<=8/\rs.length<=30/\P (dF bs rs gs)/\Way P c /\
 (∀t,P t->RowSt t Ś t->UnkSt t Ś t->bx t=.non->R (.v .non) [.obj "Struck" (oU t bs.length (.str "slim") .non (kz t) (.tup (t.st.map aW)) t.ex)]) /\
 (∀t,P t->eY (bx t)=Ś->R (.v .non) [.obj "Struck" (oU (fY t (bx t) 1) bs.length (.str "none") (.tup ((fY t (bx t) 1).ln++[.tup [.str "shut",fT t]])) .non (.tup []) 0)])
def Hv(xs:Y Int):NoL (.tup (xs.map D.int)):=.tup λd hd=>by let⟨x,_,rfl⟩:=Ju.mp hd;show .int x
def EF(b:Bd):NoL (aP b):=.tup (bv (.int _) (bv (by cases b.2<;>constructor) cW))
def HA(bs:Y Bd)(rs:Y aq)(gs:Y Int):NoL (cC bs rs gs):=.tup (bv (.tup λd hd=>by
 let⟨b,_,rfl⟩:=Ju.mp hd
 show EF b) (bv (.tup (pV rs)) (bv (Hv gs) cW)))
def Hs(st:Y Nat):NoL (.tup (st.map aW)):=.tup λd hd=>by let⟨x,_,rfl⟩:=Ju.mp hd;show .int _
def Fp(F:Fun K "__init__" "Struck.__init__" lX f J){M:Addr}(c:TxtStruck K mg M){r:Addr}(g:TxtLedger K mg r)(T:ClM P w K mg base (n+1) "strike" ["ledger"] y_strike)(L:Cl P w K mg base (n+1) "slim_plan" ["ledger"] z_slim_plan)(Q:MkM P w K mg base n r ["self","plan"] y_Ledger____init__)(N:MthM P w K mg base (n+1) r "put_line" ["self","shares","divisor"] y_Ledger__put_line)(X:mg "len"=ŗ)(B:mg "tuple"=ŗ):FnOk P w K mg base aE (n+2) f J ["self","plan"] (lSpM K uL):=by
 refine F.okM qae (λas R U h=>?_) (λNG A outer s H E as R U qs NI o h O=>?_)
 ·let⟨a,bs,rs,gs,z,I,rfl,_⟩:=h;rfl
 let⟨a,bs,rs,gs,z,I,rfl,hb,hl,a_,C,q1,q2⟩:=h;let⟨pa,rfl⟩:=eu O
 refine⟨_,(ap (aH (i:=2) qae.nd S V6 (sF Q o S g.mgC g.ns (aI (af (dv 1)) bg aa) aa ae))
   (ap (aH (i:=3) qae.nd S V6 (bO T o S (bT 2 bg aa) aa ae))
   (ap (zd 0 2 c.cl c.n_ledger c.ns)
   (ap (eW 0 c.cl c.n_breadth c.ns (af (bN da S X JQ (aO (PD.q (ax (ac 1))) aY aB) aB ae)))
   (cB (ce (bW (aN eR (ac 3) (PD.q bi) (az _))) (ap (eW 0 c.cl c.n_kind c.ns (af jb))
   (ap (eW 0 c.cl c.n_paper c.ns (af bi))
   (ap (eW 0 c.cl c.n_slim c.ns (cr (aX L o S (ad (dv 2) ag aa) aa ae)))
   (ap (eW 0 c.cl c.n_kept c.ns (cr (cu cJ S B Jn (aO (PD.q (aL g.cl g.n_staying g.ns (ac 2))) aY aJ) aJ ae)))
   (aQ (eW 0 c.cl c.n_extra c.ns (cr (aL g.cl g.n_extra g.ns (ac 2))))))))) (ap (aH (i:=4) qae.nd S V6 (eQ 2 N o g.cl g.ns (aI (af (dv 3)) (aI (af am) bg aF) aa) aa (au aF ae)))
   (ap (eW 0 c.cl c.n_kind c.ns (af jb))
   (ap (eW 0 c.cl c.n_paper c.ns (cr (aS bR (PD.q (cu cJ S B Jn (aO (PD.q (aL g.cl g.n_lines g.ns (ac 2))) aY aJ) aJ ae)) (PD.q (bw (ad (bw (ad jb (ad (dv 4) ag aa) aF)) ag bH))))))
   (ap (eW 0 c.cl c.n_slim c.ns (af bi))
   (ap (eW 0 c.cl c.n_kept c.ns (af (bw ag)))
   (aQ (eW 0 c.cl c.n_extra c.ns (af am)))))))))
   (zk 0 2 "ledger" cy)))))),?_⟩
 intro ke;refine⟨_,bs,rs,gs,S,hb,hl,?_⟩;refine⟨⟨_,_,S⟩,_,S,S,_,dF bs rs gs,z,I,S,a_,C,λt x hc=>?_⟩;rfl';let⟨n0,j⟩:=C.ok t x;have h8:=j.n8;have Ob:=w6 j;refine⟨_,_,_,_,S,S,S,'b',λp _=>⟨_,S,?_⟩⟩;rfl';refine⟨_,S,_,_,S,S,(by change 1<1000;decide),[("ledger",.al p),("breadth",.v (.int (bs.length:Nat)))],by rw[IY];rfl,?_⟩;rfl';refine⟨λρ=>∃(t':Led)(k y sl kp:D)(ex:Int)(G:Ř Sm),ρ=[Z (.ob (Z pa) (.obj "Struck" [("ledger",.al p),("breadth",.v (.int (bs.length:Nat))),("kind",.v k),("paper",.v y),("slim",.v sl),("kept",.v kp),("extra",.v (.int ex))])),Z (.v (cC bs rs gs)),Z (.ob (Z p) (bJ t')),Z (.v (bx t)),G]/\R (.v .non) [.obj "Struck" (oU t' bs.length k y sl kp ex)],⟨λh=>?_,λh=>?_⟩,?_⟩
 ·have l:eY (bx t)=ř:=by
   have h':(eY (bx t) != Ś)=ř:=h
   cases e:eY (bx t)with
   |true=>rfl
   |false=>rw[e]at h';cases h'
  have be:bx t=.non:=by
   cases e:bx t with
   |non=>rfl
   |_=>rw[e]at l;cases l
  let⟨u,b_⟩:=hc.resolve_left (by rw[l];decide);refine⟨_,_,S,S,(by change 2<1000;decide),_,S,?_⟩;refine⟨_,_,S,S,(by change 3<1000;decide),_,S,?_⟩;refine⟨n0,t,S,j,HA _ _ _,_,_,S,S,(by change 4<1000;decide),_,S,?_⟩;refine⟨S,_,S,Hs _,_,_,S,S,(by change 5<1000;decide),_,S,?_⟩;refine⟨S,_,S,.int _,_,_,S,S,(by change 6<1000;decide),_,S,?_⟩;show⟨t,_,_,_,_,_,_,S,q1 t x u b_ be⟩
 ·have l:eY (bx t)=Ś:=by
   have h':(eY (bx t) != Ś)=Ś:=h
   cases e:eY (bx t)with
   |false=>rfl
   |true=>rw[e]at h';cases h'
  refine⟨⟨_,_,S,S⟩,_,S,S,_,t,bx t,1,S,ld j,by have:=j.ln;omega,?_⟩;rfl';refine⟨_,_,S,S,(by change 2<1000;decide),_,S,?_⟩
  have hll:(fY t (bx t) 1).ln.length<800:=by
   change (t.ln++[_]).length<800;rw[Ja,JT];have:=j.ln;omega
  have v:∀d∈(fY t (bx t) 1).ln,NoL d:=λd hd=>by
   rcases JH.mp (show d∈t.ln++[eJ (bx t) 1]from hd)with hd|hd
   ·show j.n4 d hd
   ·rw[Jk.mp hd];show nL (ld j)
  refine⟨S,_,S,small (by change (fY t (bx t) 1).ln.length+1<=1000;omega),_,S,.tup (λd hd=>?_),_,_,S,S,(by change 3<1000;decide),_,S,?_⟩
  ·rcases JH.mp hd with hd|hd
   ·show v d hd
   ·rw[Jk.mp hd];show .tup (bv (.str _) (bv (.int _) cW))
  refine⟨_,_,S,S,(by change 4<1000;decide),_,S,?_⟩;refine⟨_,_,S,S,(by change 5<1000;decide),_,S,?_⟩;refine⟨_,_,S,S,(by change 6<1000;decide),_,S,?_⟩;show⟨fY t (bx t) 1,_,_,_,_,_,_,S,q2 t x l⟩
 rintro ρ ⟨t',k,y,sl,kp,ex,G,rfl,u⟩;show⟨_,p,_,_,_,_,_,S,S,S,S,_,S,u⟩
noncomputable def Pl(n:Nat)(o:Om):Prop:=∃(r a c:Int),o=.lst [.int r,.int a,.int c]/\0<=c/\c<=n
def Pl.mono{n m:Nat}{o:Om}(h:Pl n o)(j:n<=m):Pl m o:=by let⟨r,st,c,e,a,g⟩:=h;show⟨r,st,c,e,a,()⟩
def cM{z:Int}(h:z<2^64):z<2^9000:=by
 have a:(2:Nat)^64<=2^9000:=KI 'b' ()
 have c:(2:Int)^64<=2^9000:=by exact_mod_cast a
 omega
inductive y__law_pool(as:List Sm)(R:Sm->List Om->Prop)(Rx:XD->List Om->Prop):Prop|mk (ns:List Int) (_:as=[.v (.fzl (ns.map D.int))]) (_:ns.length<=63) (_:∀o,Pl 0 o->R (.ob ŗ o) [])
def Hb(F:Fun K "_law_pool" "_law_pool" mI f J)(p:mg "len"=ŗ):FnOk P w K mg base aE (n+1) f J ["_law_script"] (lSpM K y__law_pool):=by
 refine F.okM qao (λas R o h=>?_) (λu A outer s H E as R o L z C h l=>?_)
 ·let⟨ns,rfl,_⟩:=h;rfl
 let⟨ns,rfl,B,q⟩:=h;obtain rfl:=jl l
 refine⟨_,(ap (aH (i:=1) qao.nd S V6 (af am))
   (ap (e9 Jw S (fw (bX (BN (ac 0) Ab (Ct (PD.q am))))) (cg (i:=2) qao.nd S V6) (aQ (aH (i:=1) qao.nd S V6 (af (aS iR (PD.q (aS bR (PD.q (aS bR (PD.q (aS cY (ac 1) (PD.q am))) (PD.q (aS iR (ac 2) (PD.q am))))) (PD.q am))) (PD.q am))))))
   (ap (aH (i:=3) qao.nd S V6 (af am))
   (cB (ce (bW (PWD.td (fh (aN fq (PD.q (bN da S p JQ (aO (ac 0) aY aa) aa ae)) (PD.q am) (az _)) (gI (aN ms (PD.q (ax (ac 0))) (PD.q (aS pD (PD.q am) (PD.q am))) (az _)))))) (aQ (aH (i:=3) qao.nd S V6 (af (ax (ac 0))))) cy)
   (aQ (cq (dr (du (ad (dv 3) (ad (dv 1) (ad am ag aF) aa) aa))))))))),?_⟩
 intro I;have e:∀r g:Int,Pl 0 (.lst [.int r,.int g,.int 0]):=λr g=>⟨r,g,0,S,(),()⟩;refine⟨(dY ns ŗ (Z 63)).map D.int,D5 D.int ns ŗ (Z 63),?_⟩;refine⟨λi ρ=>∃(v:Int)(a:Ř Sm),ρ=[Z (.v (.fzl (ns.map D.int))),Z (.v (.int v)),a,ŗ],⟨_,_,S⟩,?_,?_⟩
 ·rintro i d ρ hd ⟨v,a,rfl⟩;let⟨x,rfl,G⟩:=bI hd;show⟨nD 'b' 'b',(by decide:(0:Int)<1000000007),(by decide:(0:Int)<2147483647),_,Z (.v (.int x)),S⟩
 rintro ρ ⟨v,a,rfl⟩;refine⟨λρ=>∃r:Int,ρ=[Z (.v (.fzl (ns.map D.int))),Z (.v (.int v)),a,Z (.v (.int r))],⟨λh=>?_,λh=>?_⟩,?_⟩
 ·have h:=dP h;let⟨y,j⟩:=Ef (ns:=ns) (k:=0) 'b' (by rw[IY]at h;show h);show⟨_,j,⟨'b','b','b'⟩,λ_=>⟨_,j,_,S⟩,λ_=>⟨_,S⟩⟩
 ·show⟨λc=>(by cases c),λ_=>⟨_,S⟩⟩
 rintro ρ ⟨r,rfl⟩;show q _ (e r v)
inductive y__law_draw(as:List Sm)(R:Sm->List Om->Prop)(Rx:XD->List Om->Prop):Prop|mk (a:Option Addr) (o:Om) (z:Int) (n:Nat) (_:as=[.ob a o,.v (.int z)]) (_:Pl n o) (_:n<2^20) (_:0<z) (_:z<2^9000) (_:∀(x:Int)(o':Om),0<=x->x<z->Pl (n+1) o'->R (.v (.int x)) [o'])
def Bs(F:Fun K "_law_draw" "_law_draw" lU f J) :FnOk P w K mg base aE (n+1) f J ["_law_pool_here","_law_many"] (lSpM K y__law_draw):=by
 refine F.okM qaj (λas R l h=>?_) (λC A outer s H E as R l N G L h g=>?_)
 ·let⟨a,o,z,n,rfl,_⟩:=h;rfl
 let⟨a,o,z,n,rfl,x,I,e,y,q⟩:=h;let⟨B,rfl⟩:=eu g
 refine⟨_,(cB (ce (bW (aN fq (PD.q (ax (ac 0))) (PD.q am) (az _))) (ap (aH (i:=2) qaj.nd S V6 (af (aS iR (PD.q (ax (ac 0))) (ac 1))))
   (ap (j8 0 (af (aS qK (PD.q (ax (ac 0))) (ac 1))) (af am))
   (aQ (cq (af (dv 2)))))) cy)
   (ap (EG 0 HV (af am) (af am))
   (ap (aH (i:=3) qaj.nd S V6 (af (ax (ac 0))))
   (ap (aH (i:=4) qaj.nd S V6 (af (aS cY (PD.q (aS bR (PD.q (aS bR (PD.q (aS bR (PD.q (ax (ac 0))) (PD.q (aS cY (PD.q (aS cY (PD.q am) (ac 3))) (ac 3))))) (PD.q (aS cY (PD.q am) (ac 3))))) (PD.q am))) (PD.q am))))
   (aQ (cq (af (aS iR (PD.q (aS iR (PD.q (aS cY (PD.q (aS iR (ac 4) (PD.q am))) (PD.q am))) (PD.q am))) (ac 1))))))))),?_⟩
 intro M;let⟨r,st,c,rfl,j,v⟩:=x;refine⟨λρ=>ρ=[Z (.ob (Z B) (.lst [.int r,.int st,.int c])),Z (.v (.int z)),ŗ,ŗ,ŗ],⟨_,S,λh=>?_,λ_=>rfl⟩,?_⟩
 ·show⟨_,S,e,_,S,CDivB.of e y,_,S,_,S,_,S,q _ _ (M8 _ ()) (MH _ e) ⟨_,st,c,S,j,()⟩⟩
 rintro ρ rfl;refine⟨trivial,2,c,S,S,(by change 2<3;decide),_,S,_,S,?_⟩
 have p:-(2^64)<c+1:=by omega
 have u:c+1<2^64:=by omega
 refine⟨_,S,ie 'b' 'b',nD p u,ie 'b' 'b',nD 'b' 'b',(by decide:(0:Int)<2147483647),nD 'b' 'b',(by decide:(0:Int)<1000000007),e,?_⟩;show⟨_,S,q _ _ (M8 _ ()) (MH _ e) ⟨r,st,c+1,S,(),()⟩⟩
noncomputable def BdS(n:Nat)(bs:Y Bd):Prop:=bs.length=n/\∀b∈bs,b.1.natAbs<=5/\∀m,b.2=Z m->m.natAbs<=8
noncomputable def iS(bs:Y Bd):Prop:=∀b∈bs,∃m,b.2=Z m/\m<=b.1+3
inductive y__law_bounds(as:List Sm)(R:Sm->List Om->Prop)(Rx:XD->List Om->Prop):Prop|mk (a:Option Addr) (o:Om) (n m:Nat) (op:Int) (_:as=[.ob a o,.v (.int (n:Nat)),.v (.int op)]) (_:Pl m o) (_:m+100<2^20) (_:n<=8) (_:0<=op) (_:op<=4) (_:∀(bs:List Bd)(gs:List Int)(hs:List Bool)(o':Om)(q1 q2 q3:Addr),BdS n bs->(op<=0->iS bs)->gs.length=n->(∀g∈gs,g.natAbs<=2)->hs.length=n->Pl (m+100) o'->R (.ob ŗ (.tl [(q1,Z (bs.map aP)),(q2,Z (gs.map D.int)),(q3,Z (hs.map D.bl))])) [o'])
def fE{c:Type}{P:c->Prop}{xs:Y c}{x:c}(h:∀y∈xs,P y)(e:P x):∀y∈xs++[x],P y:=λy a=>by
 rcases JH.mp a with a|a
 ·show h y a
 ·rw[Jk.mp a];show e
def BdS.snoc{n:Nat}{bs:Y Bd}{b:Bd}(h:BdS n bs)(a:b.1.natAbs<=5)(c:∀m,b.2=Z m->m.natAbs<=8):BdS (n+1) (bs++[b]):=⟨by rw[Ja,h.1];rfl,fE h.2 ⟨a,c⟩⟩
def qm{xs:Y Int}{i:Nat}{v:Int}{P:Int->Prop}(h:∀x∈xs,P x)(c:P v):∀x∈xs.set i v,P x:=λx a=>by
 rcases LP a with a|rfl
 ·show h x a
 ·show c
noncomputable abbrev BS(g:Addr)(k:Nat)(e rt:Int)(o:Om)(bs:Y Bd)(gs:Y Int)(c:Y Bool)(h j l a:Ř Sm):ak:=[Z (.ob (Z g) o),Z (.v (.int (k:Nat))),Z (.v (.int e)),Z (.v (.int rt)),Z (.own (bs.map aP)),Z (.own (gs.map D.int)),Z (.own (c.map D.bl)),h,j,l,a]
def FD(F:Fun K "_law_bounds" "_law_bounds" nS f J)(v:ClM P w K mg base n "_law_draw" ["_law_pool_here","_law_many"] y__law_draw)(b9:mg "range"=ŗ)(ia:mg "int"=ŗ)(iA:mg "max"=ŗ):FnOk P w K mg base aE (n+1) f J ["_law_pool_here","_law_count","_law_opens"] (lSpM K y__law_bounds):=by
 refine F.okM qai (λas R Rx h=>?_) (λNG A outer s H E as R Rx qs NI r h NW=>?_)
 ·let⟨a,o,k,m,p,rfl,_⟩:=h;rfl
 let⟨a,o,k,m,p,rfl,hp,hm,hk,h0,h4,q⟩:=h;let⟨O,rfl⟩:=eu NW
 refine⟨_,(ap (aH (i:=3) qai.nd S V6 (dO cY (bO v r S (bT 0 (aI (af am) bg aF) aa) aa (au aF ae)) (af (cu qB S ia LF (aO (PD.q (ed fq (ac 2) (PD.q am) (az _))) aY jH) jH ae))))
   (ap (aH (i:=4) qai.nd S V6 (dr (du ag)))
   (ap (aH (i:=5) qai.nd S V6 (dr (du ag)))
   (ap (aH (i:=6) qai.nd S V6 (dr (du ag)))
   (ap (e9 Jw S (fw (je S b9 (ad (dv 1) ag aa))) (cg (i:=7) qai.nd S V6) (ap (aH (i:=8) qai.nd S V6 (dO dh (bO v r S (bT 0 (aI (af am) bg aF) aa) aa (au aF ae)) (af am)))
   (ap (aH (i:=9) qai.nd S V6 (bO v r S (bT 0 (aI (af am) bg aF) aa) aa (au aF ae)))
   (cB (gG 6 (zf (af (ed fq (ac 3) (PD.q am) (az _))) (Ba (Hd (dA r.units) (bO v r S (bT 0 (aI (af (aS cY (PD.q am) (PD.q (bN (tw S) S iA Ml (aO (PD.q am) (aO (ac 3) aY aa) aF) aF (au aa ae))))) bg cz) aa) aa (au cz ae)) (af am) (az _)))) (dz sw) sw)
   (ap (aH (i:=10) qai.nd S V6 (af (aS bR (ac 8) (PD.q (aS iR (ac 9) (PD.q am))))))
   (ap (gG 5 (dO dh (bO v r S (bT 0 (aI (af am) bg aF) aa) aa (au aF ae)) (af am)) (dz cz) cz)
   (cB (ce (bW (cn (PD.q (bA (ac 6) (ac 7) (λ_ _=>rfl))) (λ_=>rfl))) (ap (j8 5 (af am) (af (dv 7)))
   (aQ (aH (i:=9) qai.nd S V6 (af am)))) cy)
   (cB (ce (bW (aN iC (ac 9) (PD.q (aS cY (PD.q am) (ac 2))) (az _))) (aQ (aH (i:=10) qai.nd S V6 (af bi))) (aQ (ce (bW (aN (dA r.units) (ac 9) (PD.q am) (az _))) (aQ (aH (i:=10) qai.nd S V6 (af (aS dh (ac 8) (PD.q am))))) cy)))
   (aQ (gG 4 (af (bw (ad (dv 8) (ad (dv 10) ag aa) aa))) (dz bH) bH))))))))))
   (aQ (cq (BF (aI (jG 4) (aI (jG 5) (aI (jG 6) bg aa) aa) aa))))))))),?_⟩
 intro ke;refine⟨⟨_,_,S⟩,_,S,S,_,_,3,m,S,hp,(),'b',cM 'b',λx o1 hx0 QL OI=>?_⟩;rfl';obtain⟨rt,hrt,r0,r2⟩:∃rt:Int,x*(if decide (0<p) then 1 else 0)=rt/\0<=rt/\rt<=2:=⟨_,S,by split<;>omega,by split<;>omega⟩;refine⟨ie () (),?_⟩;simp only[hrt];refine⟨⟨(),()⟩,λi ρ=>∃bs gs e o' u7 u8 u9 L,ρ=BS O k p rt o' bs gs e u7 u8 u9 L/\(BdS i bs/\(p<=0->iS bs))/\gs.length=i/\(∀g∈gs,g.natAbs<=2)/\e.length=i/\Pl (m+1+5*i) o',⟨[],[],[],o1,_,_,_,_,S,⟨⟨S,λb j=>by cases j⟩,λ_ b j=>by cases j⟩,S,λg u=>(by cases u),S,OI⟩,?_,?_⟩
 ·rintro i d ρ hd ⟨bs,gs,e,o2,u7,u8,u9,L,rfl,⟨C,T⟩,z,u,B,M⟩;let⟨hi,rfl⟩:=ij hd
  have Pc:i<k:=by omega
  refine⟨⟨_,_,S⟩,_,S,S,_,_,5,_,S,M,(),'b',cM 'b',λl o3 a0 a1 Pt=>?_⟩;rfl';refine⟨⟨_,_,S⟩,_,S,S,_,_,32,_,S,Pt,(),'b',cM 'b',λQ o4 b0 b1 OZ=>?_⟩;rfl'
  have hz:(e.map D.bl).length<sizeLine:=by rw[IY];show bj ()
  refine⟨λρ=>∃(j:Bool)(I:Om),ρ=BS O k p rt I bs gs (e++[j]) (Z (.v (.int (0+(i:Nat))))) (Z (.v (.int (l-2)))) (Z (.v (.int Q))) L/\Pl (m+1+5*i+3) I,⟨λc=>?_,λc=>⟨hz,_,gx D.bl e Ś,Ś,o4,S,OZ.mono ()⟩⟩,?_⟩
  ·refine⟨⟨_,_,S⟩,ie 'b' 'b',_,S,S,_,_,_,_,S,OZ,(),?_,cM ?_,λx3 I c0 c1 be=>?_⟩
   ·change (0:Int)<2*(if rt>1 then rt else 1);split<;>omega
   ·change 2*(if rt>1 then rt else 1)<2^64;split<;>omega
   rfl';show⟨hz,_,gx D.bl e _,_,I,S,be.mono ()⟩
  rintro ρ ⟨j,I,rfl,be⟩
  have a_:(gs.map D.int).length<sizeLine:=by rw[IY];show bj ()
  refine⟨(by decide:(0:Int)<4),?_⟩;refine⟨⟨_,_,S⟩,_,S,S,_,_,5,_,S,be,(),'b',cM 'b',λx4 o6 d0 d1 Rv=>?_⟩;rfl';refine⟨a_,_,gx D.int gs _,?_⟩;rfl';have Pd:cF ((e++[j]).map D.bl) (0+(i:Int))=Z (.bl j):=cK (i:=i) (by rw[IZ (),B,JL];rfl) (J6 _)
  have U:(bs.map aP).length<sizeLine:=by rw[IY,C.1];show bj ()
  refine⟨λρ=>∃(y:Y Int)(N:Int),ρ=BS O k p rt o6 bs y (e++[j]) (Z (.v (.int (0+(i:Nat))))) (Z (.v (.int (l-2)))) (Z (.v (.int N))) (Z (.v (.int (l-2+Q % 4))))/\0<=N/\y.length=i+1/\(∀g∈y,g.natAbs<=2),⟨_,Pd,λc=>?_,λc=>⟨gs++[x4-2],Q,S,b0,by rw[Ja,z];rfl,fE u ()⟩⟩,?_⟩
  ·refine⟨i,by rw[J6];show eO (by rw[IY,Ja];change i<gs.length+1;omega),_,(KZ ..).symm,?_⟩;show⟨_,0,S,'b',by rw[Jc,Ja,z];rfl,qm (fE u ()) 'b'⟩
  rintro ρ ⟨y,N,rfl,hpk,Vt,X⟩;refine⟨λρ=>∃G:Ř Int,ρ=BS O k p rt o6 bs y (e++[j]) (Z (.v (.int (0+(i:Nat))))) (Z (.v (.int (l-2)))) (Z (.v (.int N))) (Z (.v (oI G)))/\(∀mm,G=Z mm->mm.natAbs<=8)/\(p<=0->∃m,G=Z m/\m<=l-2+3),⟨ie 'b' 'b',λc=>⟨ŗ,S,λmm h=>(by cases h),λh0'=>by have:=dP c;omega⟩,λc=>⟨λc2=>⟨Z (l-2-1),S,λmm h=>(by cases h;omega),λ_=>⟨_,S,()⟩⟩,λc2=>⟨Z (l-2+Q % 4),S,λmm h=>(by cases h;omega),λ_=>⟨_,S,()⟩⟩⟩⟩,?_⟩;rintro ρ ⟨G,rfl,Vu,b_⟩;show⟨U,_,gx aP bs (l-2,G),_,_,_,o6,_,_,_,_,S,⟨C.snoc (by change (l-2).natAbs<=5;omega) Vu,λh=>fE (T h) (b_ h)⟩,Vt,X,by rw[Ja,B];rfl,Rv.mono ()⟩
 ·rintro ρ ⟨bs,gs,e,o2,u7,u8,u9,L,rfl,⟨C,T⟩,z,u,B,M⟩;rw[gc,Km]at C z B M;show⟨_,_,_,S,λq1 q2 q3=>⟨_,S,q bs gs e o2 q1 q2 q3 C T z u B (M.mono ())⟩⟩
noncomputable def nY:D->D
 |.lst l=>.tup l
 |d=>d
def tD{d:D}{l:Y D}(h:nY d=.tup l):d=.tup l\/d=.lst l:=by
 cases d with
 |tup m=>show .inl h
 |lst m=>refine .inr ?_;cases h;rfl
 |_=>cases h
inductive z__law_times(ds:List D)(R:D->Prop):Prop|mk (xs ys:List Int) (_:ds.map nY=[.tup (xs.map D.int),.tup (ys.map D.int)]) (_:xs.length<=1000) (_:(∀x∈xs,bz x)) (_:(∀y∈ys,bz y)) (_:R (.int (ar xs ys)))
def GB(F:Fun K "_law_times" "_law_times" lc f J)(z:mg "sum"=ŗ)(p:mg "zip"=ŗ):FnOk P w K mg base aE (n+1) f J ["_law_entries","_law_spot"] (lSp K z__law_times):=by
 refine F.okD Do (λds R h=>?_) (λB A outer s H E ds R C h=>?_)
 ·let⟨xs,ys,e,_⟩:=h;have:=JY List.length e;rw[IY]at this;show this
 let⟨xs,ys,e,r,u,v,q⟩:=h
 obtain⟨a,c,rfl⟩:∃a c,ds=[a,c]:=by
  have:=JY List.length e;rw[IY]at this
  match ds,this with
  | [a,c],_=>show⟨a,c,S⟩
 have l:nY a=.tup (xs.map D.int):=(Me e).1;have o:nY c=.tup (ys.map D.int):=(Me (Me e).2).1;refine⟨_,(aD (bf (bN (xb S) S z Ng (aO (PD.q (PF.d (dR (k:=2) (N':=["_law_number","_law_one"]) (cap:=[ŗ,ŗ]) S (.ok (show b7 ["_law_entries","_law_spot"] (av lc) _ ["_law_number","_law_one"] [ŗ,ŗ]=ř by lia)) 'a' (iE (n:=2) (eP (bK 'b') (eP (bK 'b') iB))) (js S p (ad (dv 0) (ad (dv 1) ag aa) aa)) (λ_ _ _ _ _=>(eC (n:=2) S (bP (bc (i:=0) (show List.Nodup (["_law_number","_law_one"]:Y Str)by lia) S V6) (bP (bc (i:=1) (show List.Nodup (["_law_number","_law_one"]:Y Str)by lia) S V6) eG)))) (λ_ _ _ _ _=>(aS cY (ac 0) (ac 1)))))) aY bD) bD ae))),?_⟩;rcases tD l with rfl|rfl<;>rcases tD o with rfl|rfl
 all_goals
  refine⟨_,_,S,S,?_⟩;refine p8 (λx y=>D.int (x*y)) (bj r) (λx g y j=>⟨S,iT (u x g) (v y j),S⟩) ?_;show⟨List.zipWith (λx y=>x*y) xs ys,by rw[MY];rfl,q⟩
noncomputable def jT(n:Nat)(rs:Y aq):Prop:=∀r∈rs,r.1.length=n/\(∀x∈r.1,x.natAbs<=3)/\r.2.natAbs<=400
inductive y__law_rows(as:List Sm)(R:Sm->List Om->Prop)(Rx:XD->List Om->Prop):Prop|mk (a:Option Addr) (o:Om) (n m:Nat) (mn:Int) (sp:List Int) (hs:List Bool) (_:as=[.ob a o,.v (.int mn),.v (.lst (sp.map D.int)),.v (.lst (hs.map D.bl))]) (_:Pl m o) (_:m+200<2^20) (_:n<=8) (_:0<=mn) (_:mn<=12) (_:sp.length=n) (_:hs.length=n) (_:(∀x∈sp,x.natAbs<=10)) (_:∀(rs:List aq)(o':Om),jT n rs->(rs.length:Int)<=mn->Pl (m+200) o'->R (.own (rs.map aw)) [o'])
noncomputable abbrev RS(g:Addr)(e:Int)(sp:Y Int)(c:Y Bool)(o:Om)(rs:Y aq)(h j l p r a:Ř Sm):ak:=[Z (.ob (Z g) o),Z (.v (.int e)),Z (.v (.lst (sp.map D.int))),Z (.v (.lst (c.map D.bl))),Z (.own (rs.map aw)),h,j,l,p,r,a]
noncomputable def nums12:Y Int:=[0,0,0,0,0,0,-3,-2,-1,1,2,3]
def zh{x:Int}(c:0<=x)(e:x<12):∃v:Int,cF (nums12.map D.int) x=Z (.int v)/\v.natAbs<=3:=by
 let⟨k,rfl⟩:=Ll c
 have a:k<12:=by omega
 refine⟨nums12.getD k 0,cK (i:=k) (bQ (show k<nums12.length from a)) S,?_⟩
 have:∀j<12,(nums12.getD j 0).natAbs<=3:=by decide
 show this k a
def yE(F:Fun K "_law_rows" "_law_rows" mO f J)(u:ClM P w K mg base n "_law_draw" ["_law_pool_here","_law_many"] y__law_draw)(gw:Cl P w K mg base n "_law_times" ["_law_entries","_law_spot"] z__law_times)(b9:mg "range"=ŗ)(eU:mg "list"=ŗ)(ic:mg "abs"=ŗ)(bq:mg "len"=ŗ)(aV:mg "tuple"=ŗ):FnOk P w K mg base aE (n+1) f J ["_law_pool_here","_law_many","_law_spot","_law_hung"] (lSpM K y__law_rows):=by
 refine F.okM qap (λas R Rx h=>?_) (λNG A outer s H E as R Rx qs NI e h NW=>?_)
 ·let⟨a,o,k,m,I,sp,G,rfl,_⟩:=h;rfl
 let⟨a,o,k,m,I,sp,G,rfl,hp,hm,hk,h0,h12,PH,Ru,hsz,q⟩:=h;let⟨Q,rfl⟩:=eu NW
 refine⟨_,(ap (aH (i:=4) qap.nd S V6 (dr (du ag)))
   (ap (e9 Jw S (sx S b9 (aI (bO u e S (bT 0 (aI (af (aS bR (ac 1) (PD.q am))) bg cz) aa) aa (au cz ae)) bg bo)) (cg (i:=5) qap.nd S V6) (ap (aH (i:=6) qap.nd S V6 (dr (du ag)))
   (ap (e9 Jw S (fw (bX (dv 3))) (cg (i:=7) qap.nd S V6) (ap (aH (i:=8) qap.nd S V6 (oX (af (bw (ad am (ad am (ad am (ad am (ad am (ad am (ad (eD (PD.q am)) (ad (eD (PD.q am)) (ad (eD (PD.q am)) (ad am (ad am (ad am ag aF) aF) aF) ip) ip) ip) aF) aF) aF) aF) aF) aF))) (bO u e S (bT 0 (aI (af am) bg aF) aa) aa (au aF ae)) (λ_ _=>rfl)))
   (cB (ce (bW (cn (ac 7) (λ_=>rfl))) (aQ (aH (i:=8) qap.nd S V6 (af (bN n6 S ic LC (aO (ac 8) aY aa) aa ae)))) cy)
   (aQ (gG 6 (af (dv 8)) (dz aa) aa)))))
   (ap (aH (i:=9) qap.nd S V6 (bO u e S (bT 0 (aI (af am) bg aF) aa) aa (au aF ae)))
   (cB (ce (bW (PWD.td (fh (aN (dA e.units) (ac 9) (PD.q am) (az _)) (gI (aN fq (PD.q (bN da S bq JQ (aO (ac 4) aY aa) aa ae)) (PD.q am) (az _)))))) (aQ (aH (i:=6) qap.nd S V6 (zx S eU (oX (Eh 4 S (bO u e S (bT 0 (aI (af (bN da S bq JQ (aO (ac 4) aY aa) aa ae)) bg bo) aa) aa (au bo ae)) (λ_ _=>rfl)) (af am) (λ_ _=>rfl)) aB))) cy)
   (ap (aH (i:=10) qap.nd S V6 (dO dh (af (qM gw e S (aO (ac 6) (aO (ac 2) aY aa) aa) aa (au aa ae))) (bO u e S (bT 0 (aI (af am) bg aF) aa) aa (au aF ae))))
   (cB (ce (bW (aN (dA e.units) (ac 9) (PD.q am) (az _))) (aQ (aH (i:=10) qap.nd S V6 (dO dh (bO u e S (bT 0 (aI (af am) bg aF) aa) aa (au aF ae)) (af am)))) cy)
   (aQ (gG 4 (af (bw (ad (cu cJ S aV Jn (aO (ac 6) aY aa) aa ae) (ad (dv 10) ag aa) bo))) (dz bH) bH)))))))))
   (aQ (cq (jG 4))))),?_⟩
 intro ke;refine⟨⟨_,_,S⟩,_,S,S,_,_,_,_,S,hp,(),(),cM (),λc o1 c0 c1 OI=>?_⟩;rfl';refine⟨⟨(),()⟩,λi ρ=>∃rs o' u5 u6 g l be B,ρ=RS Q I sp G o' rs u5 u6 g l be B/\jT k rs/\rs.length=i/\Pl (m+1+14*i) o',⟨[],o1,_,_,_,_,_,_,S,λr e=>(by cases e),S,OI⟩,?_,?_⟩
 ·rintro i d ρ hd ⟨rs,o2,u5,u6,g,l,be,B,rfl,X,a_,T⟩;let⟨hi,rfl⟩:=ij hd
  have Pc:i<12:=by omega
  refine⟨λj ρ=>∃es o' g l,ρ=RS Q I sp G o' rs (Z (.v (.int (0+(i:Nat))))) (Z (.own (es.map D.int))) g l be B/\es.length=j/\(∀x∈es,x.natAbs<=3)/\Pl (m+1+14*i+j) o',⟨[],o2,_,_,S,S,λx N=>(by cases N),T⟩,?_,?_⟩
  ·rintro j d ρ hd ⟨es,o3,g,l,rfl,M,p,U⟩;let⟨hb,rfl,hhb⟩:=bI hd;have hj:=aA hhb;refine⟨⟨_,_,S⟩,_,S,S,_,_,12,_,S,U,(),'b',cM 'b',λx O x0 x1 L=>?_⟩;rfl';let⟨v,hv,hv3⟩:=zh x0 x1;refine⟨_,hv,?_⟩;refine⟨λρ=>∃y:Int,ρ=RS Q I sp G O rs (Z (.v (.int (0+(i:Nat))))) (Z (.own (es.map D.int))) (Z (.v (.bl hb))) (Z (.v (.int y))) be B/\y.natAbs<=3,⟨λc=>⟨_,S,?_⟩,λc=>⟨v,S,hv3⟩⟩,?_⟩
   ·split<;>omega
   rintro ρ ⟨y,rfl,hy⟩;show⟨by rw[IY];show bj (),_,gx D.int es y,_,O,_,_,S,by rw[Ja,M];rfl,fE p hy,L.mono ()⟩
  ·rintro ρ ⟨es,o3,g,l,rfl,M,p,U⟩;rw[IY]at M U;refine⟨⟨_,_,S⟩,_,S,S,_,_,5,_,S,U,(),'b',cM 'b',λmr O x0 x1 L=>?_⟩;rfl';refine⟨λρ=>∃(es:Y Int)(o':Om),ρ=RS Q I sp G o' rs (Z (.v (.int (0+(i:Nat))))) (Z (.own (es.map D.int))) g l (Z (.v (.int mr))) B/\es.length=k/\(∀x∈es,x.natAbs<=3)/\Pl (m+1+14*i+10) o',⟨λc=>⟨λC=>?_,λC=>⟨es,O,S,(),p,L.mono ()⟩⟩,λc=>⟨λC=>ff C,λC=>⟨es,O,S,(),p,L.mono ()⟩⟩⟩,?_⟩
   ·have C:0<rs.length:=by have:=dP C;rw[IY]at this;omega
    refine⟨⟨_,_,S⟩,⟨_,_,S⟩,_,S,S,_,_,_,_,S,L,(),by rw[IY];omega,cM (by rw[IY];omega),λy o5 y0 y1 b_=>?_⟩;rfl';rw[IY]at y1;let⟨z,rfl⟩:=Ll y0
    have hz:z<rs.length:=by omega
    let⟨r1,r2,r3⟩:=X rs[z] (K8 hz);show⟨_,_,_,_,S,S,cK (i:=z) (bE hz) S,_,S,_,S,rs[z].1,o5,S,r1,r2,b_.mono ()⟩
   rintro ρ ⟨es,o5,rfl,M,p,b_⟩;have QC:∀x∈es,bz x:=λx N=>fj (m:=10) (by have:=p x N;omega) 'b';have Vv:∀x∈sp,bz x:=λx N=>fj (m:=10) (by have:=hsz x N;omega) 'b';have R1:=kM p hsz
   have hd9:(ar es sp).natAbs<=300:=by have:es.length*(3*10)<=8*(3*10):=K0 _ ();omega
   refine⟨es,sp,S,(),QC,Vv,trivial,?_⟩;refine⟨⟨_,_,S⟩,_,S,S,_,_,4,_,S,b_,(),'b',cM 'b',λy o6 y0 y1 Rv=>?_⟩;rfl';refine⟨λρ=>∃(b:Int)(o':Om),ρ=RS Q I sp G o' rs (Z (.v (.int (0+(i:Nat))))) (Z (.own (es.map D.int))) g l (Z (.v (.int mr))) (Z (.v (.int b)))/\b.natAbs<=400/\Pl (m+1+14*i+12) o',⟨λc=>?_,λc=>⟨_,o6,S,(),Rv.mono ()⟩⟩,?_⟩
   ·refine⟨⟨_,_,S⟩,_,S,S,_,_,13,_,S,Rv,(),'b',cM 'b',λz o7 z0 z1 Tf=>?_⟩;rfl';show⟨_,o7,S,(),Tf.mono ()⟩
   rintro ρ ⟨b,o7,rfl,hb,Tf⟩;show⟨by rw[IY];show bj (),_,gx aw rs (es,b),_,o7,_,_,_,_,_,_,S,fE X ⟨M,p,hb⟩,by rw[Ja,a_];rfl,Tf.mono ()⟩
 ·rintro ρ ⟨rs,o2,u5,u6,g,l,be,B,rfl,X,a_,T⟩;rw[gc]at a_ T;show⟨_,S,q rs o2 X () (T.mono ())⟩
structure PlS(n:Nat)(mn:Int)(bs:List Bd)(rs:List aq)(gs sp:List Int):Prop where
 b:BdS n bs
 r:jT n rs
 rl:(rs.length:Int)<=mn
 gl:gs.length=n
 g:∀g∈gs,g.natAbs<=2
 sl:sp.length=n
 s:∀x∈sp,x.natAbs<=10
inductive y__law_small(as:List Sm)(R:Sm->List Om->Prop)(Rx:XD->List Om->Prop):Prop|mk (a:Option Addr) (o:Om) (n m:Nat) (mn op:Int) (_:as=[.ob a o,.v (.int (n:Nat)),.v (.int mn),.v (.int op)]) (_:Pl m o) (_:m+500<2^20) (_:n<=8) (_:1<=mn) (_:mn<=12) (_:0<=op) (_:op<=4) (_:∀(bs:List Bd)(rs:List aq)(gs sp:List Int)(o':Om),PlS n mn bs rs gs sp->(op<=0->iS bs)->Pl (m+500) o'->R (.v (.tup [cC bs rs gs,.tup (sp.map D.int)])) [o'])
noncomputable abbrev SS(j:Addr)(k:Nat)(g h:Int)(o:Om)(bs:Y Bd)(gs:Y Int)(l p r u a e c:Ř Sm):ak:=[Z (.ob (Z j) o),Z (.v (.int (k:Nat))),Z (.v (.int g)),Z (.v (.int h)),Z (.v (.lst (bs.map aP))),Z (.own (gs.map D.int)),l,p,r,u,a,e,c]
def zr(F:Fun K "_law_small" "_law_small" lW f J)(O2:ClM P w K mg base n "_law_bounds" ["_law_pool_here","_law_count","_law_opens"] y__law_bounds)(Pu:ClM P w K mg base n "_law_rows" ["_law_pool_here","_law_many","_law_spot","_law_hung"] y__law_rows)(I:ClM P w K mg base n "_law_draw" ["_law_pool_here","_law_many"] y__law_draw)(gw:Cl P w K mg base n "_law_times" ["_law_entries","_law_spot"] z__law_times)(X:mg "tuple"=ŗ)(iA:mg "max"=ŗ):FnOk P w K mg base aE (n+1) f J ["_law_pool_here","_law_count","_law_many","_law_opens"] (lSpM K y__law_small):=by
 refine F.okM qaq (λas R Rx h=>?_) (λNG A outer s H E as R Rx qs NI B h NW=>?_)
 ·let⟨a,o,k,m,C,L,rfl,_⟩:=h;rfl
 let⟨a,o,k,m,C,L,rfl,hp,hm,hk,h1,h12,h0,h4,q⟩:=h;let⟨b_,rfl⟩:=eu NW
 refine⟨_,(ap (Fu 4 5 6 S qaq.nd S S S V6 V6 V6 (bO O2 B S (bT 0 (aI (af (dv 1)) (aI (af (dv 3)) bg aa) aa) aa) aa (au aa (au aa ae))))
   (ap (aH (i:=7) qaq.nd S V6 (dr (du ag)))
   (jJ 4 (ap (e9 Jw S (fw (bX (dv 4))) (gQ (n:=2) S (dc (cg (i:=8) qaq.nd S V6) (dc (cg (i:=9) qaq.nd S V6) gL))) (ap (aH (i:=10) qaq.nd S V6 (af am))
   (cB (ce (bW (aN dN (ac 9) (PD.q bi) (az _))) (aQ (aH (i:=10) qaq.nd S V6 (af (bN (tw S) S iA Ml (aO (PD.q am) (aO (PD.q (aS bR (PD.q (aS dh (ac 9) (ac 8))) (PD.q am))) aY cz) aF) aF (au cz ae))))) cy)
   (aQ (gG 7 (dO bR (af (dv 8)) (bO I B S (bT 0 (aI (af (dv 10)) bg aa) aa) aa (au aa ae))) (dz cz) cz)))))
   (jJ 7 (jJ 6 (ap (aH (i:=11) qaq.nd S V6 (bO Pu B S (bT 0 (aI (af (aS dh (ac 2) (PD.q am))) (aI (af (dv 7)) (aI (af (dv 6)) bg aa) aa) cz) aa) aa (au cz (au aa (au aa ae)))))
   (cB (ce (PXW.toB (nV (Fw (dA B.units) (bO I B S (bT 0 (aI (af am) bg aF) aa) aa (au aF ae)) (af am) (az _)) (nV (bW (aN fq (ac 1) (PD.q am) (az _))) (nV (bW (cP (cn (PD.q (bA (ac 6) (PD.q (aS dh (ac 1) (PD.q am))) (λ_ _=>rfl))) (λ_=>rfl)))) (tZ (bW (cP (cn (PD.q (bA (ac 6) (PD.q (aS dh (ac 1) (PD.q am))) (λ_ _=>rfl))) (λ_=>rfl))))))))) (ap (aH (i:=12) qaq.nd S V6 (dO bR (af (aS cY (PD.q (PF.d (du (ad am ag aF)))) (PD.q (aS dh (ac 1) (PD.q am))))) (vJ (GA (aI (dO dh (af (eD (PD.q am))) (bO I B S (bT 0 (aI (af am) bg aF) aa) aa (au aF ae))) (aI (dO dh (af (eD (PD.q am))) (bO I B S (bT 0 (aI (af am) bg aF) aa) aa (au aF ae))) bg cz) cz)))))
   (ap (gG 11 (GZ (aI (af (cu cJ S X Jn (aO (ac 12) aY aa) aa ae)) (aI (dO dh (af (qM gw B S (aO (ac 12) (aO (ac 7) aY aa) aa) aa (au aa ae))) (bO I B S (bT 0 (aI (af am) bg aF) aa) aa (au aF ae))) bg cz) bo)) (dz bH) bH)
   (ap (j8 5 (dO bR (af am) (bO I B S (bT 0 (aI (af am) bg aF) aa) aa (au aF ae))) (af (aS dh (ac 1) (PD.q am))))
   (aQ (j8 5 (dO bR (af am) (bO I B S (bT 0 (aI (af am) bg aF) aa) aa (au aF ae))) (af (aS dh (ac 1) (PD.q am)))))))) cy)
   (aQ (cq (af (bw (ad (bw (ad (cu cJ S X Jn (aO (ac 4) aY aa) aa ae) (ad (cu cJ S X Jn (aO (ac 11) aY aa) aa ae) (ad (cu cJ S X Jn (aO (ac 5) aY aa) aa ae) ag bo) bo) bo)) (ad (cu cJ S X Jn (aO (ac 7) aY aa) aa ae) ag bo) bH))))))))))))),?_⟩
 intro ke;refine⟨⟨_,_,S⟩,_,S,S,_,_,k,m,L,S,hp,(),hk,h0,h4,λbs gs G o1 q1 q2 q3 hB hNr Qm hg Ru OI=>?_⟩;refine⟨_,_,_,_,_,_,S,⟨(by change 4<13;decide),(by change 5<13;decide),(by change 6<13;decide)⟩,?_⟩;rfl';refine⟨λi ρ=>∃sp o' Q be N,ρ=SS b_ k C L o' bs gs (Z (.own (G.map D.bl))) (Z (.own (sp.map D.int))) Q be N ŗ ŗ/\sp.length=i/\(∀x∈sp,x.natAbs<=10)/\Pl (m+100+i) o',⟨[],o1,_,_,_,S,S,λx u=>(by cases u),OI⟩,?_,?_⟩
 ·rintro i d ρ hd ⟨sp,a_,Q,be,N,rfl,U,O,OX⟩;let⟨b,rfl,hb⟩:=bI hd;let⟨b1,b2⟩:=hB.2 b (Je hb);have hi:=aA hb;have hBl:=hB.1;refine⟨S,?_⟩;refine⟨λρ=>∃M:Int,ρ=SS b_ k C L a_ bs gs (Z (.own (G.map D.bl))) (Z (.own (sp.map D.int))) (Z (.v (.int b.1))) (Z (.v (oI b.2))) (Z (.v (.int M))) ŗ ŗ/\0<M/\M<=14/\(M<=5\/b.1+M<=10),?_,?_⟩
  ·let⟨l,mo⟩:=b
   cases mo with
   |none=>show⟨ff,λ_=>⟨4,S,'b','b',.inl 'b'⟩⟩
   |some mm=>
    have b2:=b2 mm S;have b1:l.natAbs<=5:=b1;refine⟨λ_=>⟨if mm-l+1>1 then mm-l+1 else 1,S,?_,?_,?_⟩,tf⟩
    ·split<;>omega
    ·split<;>omega
    ·change _\/l+_<=10;split
     ·show .inr ()
     ·show .inl ()
  rintro ρ ⟨M,rfl,w0,w14,w5⟩;refine⟨⟨_,_,S⟩,_,S,S,_,_,M,_,S,OX,(),w0,cM (),λx o3 x0 x1 Pt=>?_⟩;rfl';show⟨by rw[IY];show bj (),_,gx D.int sp _,_,o3,_,_,_,S,by rw[Ja,U];rfl,fE O (),Pt.mono ()⟩
 rintro ρ ⟨sp,a_,Q,be,N,rfl,U,O,OX⟩;rw[IY,hB.1]at U OX;refine⟨⟨_,_,S⟩,_,S,S,_,_,k,_,_,sp,G,S,OX,(),hk,(),(),U,Ru,O,λrs o3 hR N0 Pt=>?_⟩;rfl';have fin:∀(r:Y aq)(p:Y Int)(o':Om),jT k r->(r.length:Int)<=C->p.length=k->(∀g∈p,g.natAbs<=2)->Pl (m+400) o'->R (.v (.tup [cC bs r p,.tup (sp.map D.int)])) [o']:=λr p o' r1 r2 r3 r4 r5=>q bs r p sp o' ⟨hB,r1,r2,r3,r4,U,O⟩ hNr (r5.mono ());refine⟨λρ=>∃(r:Y aq)(p:Y Int)(o':Om)(Qn:Ř Sm),ρ=[Z (.ob (Z b_) o'),Z (.v (.int (k:Nat))),Z (.v (.int C)),Z (.v (.int L)),Z (.v (.lst (bs.map aP))),Z (.own (p.map D.int)),Z (.v (.lst (G.map D.bl))),Z (.v (.lst (sp.map D.int))),Q,be,N,Z (.own (r.map aw)),Qn]/\jT k r/\(r.length:Int)<=C/\p.length=k/\(∀g∈p,g.natAbs<=2)/\Pl (m+400) o',?_,?_⟩
 ·have stay:∀o',Pl (m+400) o'->∃(r:Y aq)(p:Y Int)(a_:Om)(Qn:Ř Sm),[Z (Sm.ob (Z b_) o'),Z (.v (.int (k:Nat))),Z (.v (.int C)),Z (.v (.int L)),Z (.v (.lst (bs.map aP))),Z (.own (gs.map D.int)),Z (.v (.lst (G.map D.bl))),Z (.v (.lst (sp.map D.int))),Q,be,N,Z (.own (rs.map aw)),ŗ]=[Z (.ob (Z b_) a_),Z (.v (.int (k:Nat))),Z (.v (.int C)),Z (.v (.int L)),Z (.v (.lst (bs.map aP))),Z (.own (p.map D.int)),Z (.v (.lst (G.map D.bl))),Z (.v (.lst (sp.map D.int))),Q,be,N,Z (.own (r.map aw)),Qn]/\jT k r/\(r.length:Int)<=C/\p.length=k/\(∀g∈p,g.natAbs<=2)/\Pl (m+400) a_:=λo' h=>⟨rs,gs,o',ŗ,S,hR,(),Qm,hg,h⟩;refine⟨⟨_,_,S⟩,_,S,S,_,_,2,_,S,Pt,(),'b',cM 'b',λx o4 x0 x1 T=>?_⟩;rfl';refine⟨λc=>⟨λc2=>?_,λc2=>⟨ff,λ_=>stay o4 (T.mono ())⟩⟩,λc=>⟨ff,λ_=>stay o4 (T.mono ())⟩⟩
  have c2:1<k:=by have:=dP c2;omega
  have Pd:∀j:Nat,j<k->∀z:Int,z=(j:Int)->cF (G.map D.bl) z=Z (.bl (G.getD j Ś)):=λj hj z e=>cK (i:=j) (bQ ()) e;refine⟨_,Pd (k-1) () _ (),λc3=>⟨_,Pd (k-2) () _ (),λc4=>?_,λc4=>stay o4 (T.mono ())⟩,λc3=>⟨ff,λ_=>stay o4 (T.mono ())⟩⟩;refine⟨⟨(),(),small (by change 1*((k:Int)-2).toNat<=1000;omega)⟩,(List.replicate (k-2) 0).map D.int,by rw[show ((k:Int)-2).toNat=k-2 by omega];show wX (k-2) 0,?_⟩;refine⟨⟨_,_,S⟩,_,S,S,_,_,3,_,S,T,(),'b',cM 'b',λy o5 y0 y1 P4=>?_⟩;rfl';refine⟨⟨_,_,S⟩,_,S,S,_,_,3,_,S,P4,(),'b',cM 'b',λz o6 z0 z1 Rv=>?_⟩;rfl'
  have Pb:((List.replicate (k-2) 0++[-1-y,-1-z]):Y Int).length=k:=by rw[Ja,JI];change k-2+2=k;omega
  have Vw:∀x∈(List.replicate (k-2) 0++[-1-y,-1-z]:Y Int),x.natAbs<=3:=λx u=>by
   rcases JH.mp u with u|u
   ·rw[MZ u];decide
   ·simp only[Jt,K7,or_false]at u;rcases u with rfl|rfl<;>omega
  refine⟨small (by rw[IY,JI];change _+2<=1000;omega),((List.replicate (k-2) 0++[-1-y,-1-z]):Y Int).map D.int,by rw[KD];rfl,?_⟩;generalize (List.replicate (k-2) 0++[-1-y,-1-z]:Y Int)=es at *;have QC:∀x∈es,bz x:=λx u=>fj (m:=10) (by have:=Vw x u;omega) 'b';have Vv:∀x∈sp,bz x:=λx u=>fj (m:=10) (by have:=O x u;omega) 'b';have R1:=kM Vw O
  have hd9:(ar es sp).natAbs<=300:=by have:es.length*(3*10)<=8*(3*10):=K0 _ ();omega
  refine⟨es,sp,S,(),QC,Vv,trivial,?_⟩;refine⟨⟨_,_,S⟩,_,S,S,_,_,2,_,S,Rv,(),'b',cM 'b',λv o7 v0 v1 Tf=>?_⟩;rfl';refine⟨by rw[IY];show bj (),_,gx aw rs (es,ar es sp-v),?_⟩;rfl';refine⟨⟨_,_,S⟩,_,S,S,_,_,2,_,S,Tf,(),'b',cM 'b',λg1 o8 g0 g2 hp8=>?_⟩;rfl';refine⟨k-1,by rw[show (k:Int)-1=((k-1:Nat):Int)by omega];show eO (by rw[IY,Qm];omega),_,(KZ ..).symm,?_⟩;rfl';refine⟨⟨_,_,S⟩,_,S,S,_,_,2,_,S,hp8,(),'b',cM 'b',λg3 o9 g4 g5 hp9=>?_⟩;rfl';refine⟨k-2,by rw[show (k:Int)-2=((k-2:Nat):Int)by omega];show eO (by rw[IY,Jc,Qm];omega),_,(KZ ..).symm,?_⟩;rfl';show⟨rs++[(es,ar es sp-v)],_,o9,_,S,fE hR ⟨Pb,Vw,by change (ar es sp-v).natAbs<=400;omega⟩,by rw[Ja,JT];omega,by rw[Jc,Jc,Qm],qm (qm hg ()) (),hp9.mono ()⟩
 rintro ρ ⟨r,p,o',Qn,rfl,r1,r2,r3,r4,r5⟩;show⟨_,S,fin r p o' r1 r2 r3 r4 r5⟩
def B1{m:Int}:∀{ns:Y Int},(∀x∈ns,m∣x)->m∣bp ns:=by
 have a:∀(ns:Y Int)(d:Int),m∣d->(∀x∈ns,m∣x)->m∣ns.foldl (λd x=>(Int.gcd x d:Int)) d:=by
  intro ns
  induction ns with
  |nil=>intro d hd _;show hd
  |cons x r g=>
   intro d hd c;show g _ (Int.dvd_coe_gcd (c x Ji) hd) λy e=>c y (Jh _ e)
 intro ns h;show a ns 0 (Int.dvd_zero m) h
def FC{l:Y Int}(h:0<bp l):bp (l.map (·/bp l))=1:=by
 generalize hd:bp l=d at h
 have j:d*bp (l.map (·/d))∣d:=by
  conv=>rhs;rw[←hd]
  refine B1 λx a=>?_
  have c:d∣x:=by rw[←hd];show mU l x a
  have g:=mU (l.map (·/d)) (x/d) (Ju.mpr ⟨x,a,S⟩);have:=Int.mul_dvd_mul_left d g;rw[Int.mul_ediv_cancel' c]at this;show this
 have u:=rh (l.map (·/d));generalize bp (l.map (·/d))=e at *;let⟨k,r⟩:=j
 have o:d*(e*k)=d*1:=by rw[←Int.mul_assoc,←r,Int.mul_one]
 have p:e*k=1:=Int.eq_of_mul_eq_mul_left () o;show Int.eq_one_of_dvd_one u ⟨k,p.symm⟩
noncomputable def mu(s:Led):Nat:=64*s.st.length+2*s.rs.length+s.rs.countP dJ
structure Wy(n:Nat)(s:Led):Prop where
 n8:n<=8
 bl:s.bs.length=n
 gl:s.gl.length=n
 ll:s.lm.length=n
 ml:s.mm.length=n
 sl:∀u∈s.st,u<n
 so:s.st.Pairwise (·<·)
 rl:s.rs.length<=30
 rm:s.rm.length=s.rs.length
 rr:∀r∈s.rs,r.1.length=n/\(∀x∈r.1,x.natAbs<2^64)/\r.2.natAbs<=2^(200+65*(n-s.st.length))
 bb:∀b∈s.bs,b.1.natAbs<=2^(200+65*(n-s.st.length))/\∀m,b.2=Z m->m.natAbs<=2^(200+65*(n-s.st.length))
 gg:∀x∈s.gl,x.natAbs<2^64
 ln:s.ln.length+mu s<=602
 gs:s.gs.length+s.st.length<=n
 gn:s.gn.length+s.st.length=n
 n1:∀d∈s.rm,NoL d
 n2:∀d∈s.mm,NoL d
 n3:∀d∈s.lm,NoL d
 n4:∀d∈s.ln,NoL d
 z:∀r∈s.rs,∀u,u<n->u∉s.st->r.1.getD u 0=0
 gr:∀g∈s.gn,g.1<n/\g.1∉s.st/\g.2.1.natAbs<=2^720/\g.2.2.length<=30/\∀r∈g.2.2,r.1.length=n/\0<r.1.getD g.1 0/\(∀x∈r.1,x.natAbs<2^64)/\r.2.natAbs<=2^720
def Wy.nd{n:Nat}{s:Led}(h:Wy n s):s.st.Nodup:=h.so.imp λh e=>by omega
def Wy.sn{n:Nat}{s:Led}(h:Wy n s):s.st.length<=n:=by have:=h.gn;omega
def k8{n k x:Nat}(a:n<=8)(h:x<=2^(200+65*(n-k))):x<=2^720:=JC h (KI 'b' ())
def wt{x:Int}(h:x.natAbs<=2^720):bz x:=KS h (Ku 'b' 'b')
def Wy.led{n:Nat}{s:Led}(h:Wy n s):LedP n s:=by
 have j:=h.n8;have v:=h.ln;have y:=h.sn;refine⟨h.n8,h.bl,h.gl,h.ll,h.ml,h.sl,h.nd,h.rl,h.rm,λr p=>?_,λb l=>?_,λx g=>?_,(),by have:=h.gs;omega,by have:=h.gn;omega,h.n1,h.n2,h.n3,h.n4⟩
 ·let⟨c,a,u⟩:=h.rr r p;refine⟨c,λx g=>Mr (a x g) (Ku 'b' 'b'),rh _,?_⟩;have:=zc a 'b'
  have e:((2^64:Nat):Int)<2^9000:=by lia
  omega
 ·let⟨c,a⟩:=h.bb b l;show⟨wt (k8 j c),λm o=>wt (k8 j (a m o))⟩
 ·show Mr (h.gg x g) (Ku 'b' 'b')
def iL{a:Type}{xs:Y a}{i:Nat}{y x:a}(h:x∈xs.set i y):x∈xs\/x=y:=LP h
def vR{a:Type}(c:a->Bool)(xs:Y a)(p:Nat):(xs.eraseIdx p).countP c<=xs.countP c:=(List.eraseIdx_sublist xs p).countP_le
def Wy.drop{n:Nat}{s:Led}(h:Wy n s){p:Nat}(e:p<s.rs.length):Wy n (bY s p)/\mu (bY s p)<mu s:=by
 have c:∀x∈s.rs.eraseIdx p,x∈s.rs:=λx j=>KG j;have l:(s.rs.eraseIdx p).length=s.rs.length-1:=Kv e;have o:(s.rm.eraseIdx p).length=s.rm.length-1:=Kv (by rw[h.rm];show e)
 have g:mu (bY s p)<mu s:=by have:=vR dJ s.rs p;unfold mu bY;simp only;omega
 have:=h.ln;have:=h.rm;have:=h.rl;show⟨⟨h.n8,h.bl,h.gl,h.ll,h.ml,h.sl,h.so,by change (s.rs.eraseIdx p).length<=_;omega,by change (s.rm.eraseIdx p).length=(s.rs.eraseIdx p).length;omega,λr a=>h.rr r (c r a),h.bb,h.gg,by change s.ln.length+_<=_;omega,h.gs,h.gn,λd hd=>h.n1 d (KG hd),h.n2,h.n3,h.n4,λr a=>h.z r (c r a),h.gr⟩,g⟩
def qF{a d:Int}(hd:0<d):(dq a d).natAbs<=a.natAbs:=by
 unfold dq;have c:=MR (-a) d;omega
def Wy.bnd{n:Nat}{s:Led}(h:Wy n s)(g:s.ln.length+mu s<=601){u:Nat}{b:Bd}{d:D}{lm mm:Y D}(e:b.1.natAbs<=2^(200+65*(n-s.st.length))/\∀m,b.2=Z m->m.natAbs<=2^(200+65*(n-s.st.length)))(hd:NoL d)(j:lm.length=n)(l:mm.length=n)(o:∀d∈lm,NoL d)(p:∀d∈mm,NoL d):Wy n { s with bs:=s.bs.set u b,ln:=s.ln++[d],lm:=lm,mm:=mm }/\mu { s with bs:=s.bs.set u b,ln:=s.ln++[d],lm:=lm,mm:=mm }=mu s:=by
 have c:mu { s with bs:=s.bs.set u b,ln:=s.ln++[d],lm:=lm,mm:=mm }=mu s:=rfl;refine⟨⟨h.n8,by change (s.bs.set u b).length=n;rw[Jc];show h.bl,h.gl,j,l,h.sl,h.so,h.rl,h.rm,h.rr,λx a=>?_,h.gg,?_,h.gs,h.gn,h.n1,p,o,λx a=>?_,h.z,h.gr⟩,c⟩
 ·rcases iL a with a|rfl
  ·show h.bb x a
  ·show e
 ·rw[c];change (s.ln++[d]).length+_<=_;rw[Ja,JT];omega
 ·rcases JH.mp a with a|a
  ·show h.n4 x a
  ·rw[Jk.mp a];show hd
def Wy.lowU{n:Nat}{s:Led}(h:Wy n s){u:Nat}(a:u<n):(ah s.bs u).1.natAbs<=2^(200+65*(n-s.st.length))/\∀m,(ah s.bs u).2=Z m->m.natAbs<=2^(200+65*(n-s.st.length)):=h.bb _ (cI (by rw[h.bl];show a))
def pM{a:D}{d:Int}(h:NoL a):NoL (eJ (gA a) d):=nL (jA h)
def oZ{ds:Y D}{i:Nat}{d:D}(h:∀d∈ds,NoL d)(hd:NoL d):∀x∈ds.set i d,NoL x:=λx a=>by
 rcases iL a with a|rfl
 ·show h x a
 ·show hd
def Wy.tb{n:Nat}{s:Led}(h:Wy n s){p u:Nat}{r:aq}(A:s.rs[p]?=Z r)(E:u<n)(F:r.1.getD u 0≠0):Wy n (kC s p u r)/\mu (kC s p u r)<mu s:=by
 have j:=aA A;let⟨g,c⟩:=h.drop j
 have z:mu (bY s p)+2<=mu s:=by
  have:=vR dJ s.rs p;have G:(s.rs.eraseIdx p).length=s.rs.length-1:=Kv j;unfold mu bY;simp only;omega
 have y:(bY s p).ln.length+mu (bY s p)<=601:=by have:=h.ln;change s.ln.length+_<=_;omega
 have B:(0:Int)<((r.1.getD u 0).natAbs:Int):=by omega
 have l:=qF (a:=r.2) B;have o:=(h.rr r (Je A)).2.2;have x:=h.lowU E;have v:NoL (s.rm.getD p .non):=h.n1 _ (cI (by rw[h.rm];show j));unfold kC bG;split
 ·let⟨w,e⟩:=g.bnd (u:=u) (b:=(dq r.2 ((r.1.getD u 0).natAbs:Int),(ah s.bs u).2)) (d:=eJ (gA (s.rm.getD p .non)) (r.1.getD u 0)) (lm:=s.lm.set u (fT s)) (mm:=s.mm) y ⟨JC l o,x.2⟩ (pM v) (by rw[Jc];show h.ll) h.ml (oZ h.n3 (.int _)) h.n2;show⟨w,KS (MS e) c⟩
 ·split
  ·let⟨w,e⟩:=g.bnd (u:=u) (b:=((ah s.bs u).1,Z (-dq r.2 ((r.1.getD u 0).natAbs:Int)))) (d:=eJ (gA (s.rm.getD p .non)) (-r.1.getD u 0)) (lm:=s.lm) (mm:=s.mm.set u (fT s)) y ⟨x.1,λm C=>by cases C;rw[Ni];show JC l o⟩ (pM v) h.ll (by rw[Jc];show h.ml) h.n3 (oZ h.n2 (.int _));show⟨w,KS (MS e) c⟩
  ·show⟨g,c⟩
def wI{r:aq}(h:dJ r=ř):fR r=(r.1.map (·/bp r.1),dq r.2 (bp r.1))/\dJ (fR r)=Ś/\1<bp r.1:=by
 have a:1<bp r.1:=JV h
 have e:fR r=(r.1.map (·/bp r.1),dq r.2 (bp r.1)):=by unfold fR;rw[Jd ()];rfl
 refine⟨e,?_,a⟩;rw[e];unfold dJ;rw[show (r.1.map (·/bp r.1),dq r.2 (bp r.1)).1=r.1.map (·/bp r.1)from rfl,FC ()];rfl
def Hz{e:Type}{c:e->Bool}{xs:Y e}{i:Nat}{x y:e}(h:xs[i]?=Z x)(g:c x=ř)(j:c y=Ś):(xs.set i y).countP c+1=xs.countP c:=by
 induction xs generalizing i with
 |nil=>cases h
 |cons a xs l=>
  cases i with
  |zero=>
   cases h;rw[L3,List.countP_cons_of_neg (by rw[j];decide),List.countP_cons_of_pos g]
  |succ i=>
   have:=l (i:=i) h;rw[MI,List.countP_cons,List.countP_cons];omega
def tV(f:Int->Int)(a:f 0=0)(xs:Y Int)(u:Nat):(xs.map f).getD u 0=f (xs.getD u 0):=by
 rw[Jl,Jl,Jm]
 cases xs[u]? with
 |none=>show a.symm
 |some x=>rfl
def Wy.ev{n:Nat}{s:Led}(h:Wy n s){p:Nat}{r:aq}(g:s.rs[p]?=Z r)(o:dJ r=ř):Wy n (jh s p r)/\mu (jh s p r)<mu s:=by
 have C:=aA g;let⟨l,B,M⟩:=wI o;have e:=Je g;let⟨G,H,I⟩:=h.rr r e;have A:NoL (s.rm.getD p .non):=h.n1 _ (cI (by rw[h.rm];show C))
 have L:mu (jh s p r)+1=mu s:=by have:=Hz (c:=dJ) (y:=fR r) g o B;unfold mu jh;simp only[Jc];omega
 have:=h.ln;refine⟨⟨h.n8,h.bl,h.gl,h.ll,h.ml,h.sl,h.so,by change (s.rs.set p _).length<=_;rw[Jc];show h.rl,by change (s.rm.set p _).length=(s.rs.set p _).length;rw[Jc,Jc];show h.rm,λx a=>?_,h.bb,h.gg,by change (s.ln++[_]).length+_<=_;rw[Ja,JT];omega,h.gs,h.gn,oZ h.n1 (.int _),h.n2,h.n3,λx a=>?_,λx a v u j=>?_,h.gr⟩,()⟩
 ·rcases iL a with a|rfl
  ·show h.rr x a
  ·rw[l];refine⟨by change (r.1.map _).length=n;rw[IY];show G,λy E=>?_,JC (qF ()) I⟩;let⟨z,F,rfl⟩:=Ju.mp E;have:=MR z (bp r.1);have:=H z F;omega
 ·rcases JH.mp a with a|a
  ·show h.n4 x a
  ·rw[Jk.mp a];show pM A
 ·rcases iL a with a|rfl
  ·show h.z x a v u j
  ·rw[l];change (r.1.map (·/bp r.1)).getD v 0=0;rw[tV (·/bp r.1) (Int.zero_ediv _),h.z r e v u j,Int.zero_ediv]
def kY{xs:Y Int}{k j:Nat}{v:Int}:(xs.set k v).getD j 0=if j=k/\k<xs.length then v else xs.getD j 0:=by
 rw[Jl,Jl,List.getElem?_set];by_cases c:k=j
 ·subst c;by_cases a:k<xs.length
  ·simp[a]
  ·simp[a]
 ·rw[Jd c,Jd (λh=>c h.1.symm)]
noncomputable def eA(u:Nat)(v:Int)(r:aq):aq:=if r.1.getD u 0=0 then r else (r.1.set u 0,r.2-r.1.getD u 0*v)
def sI(s:Led)(u:Nat)(v:Int):∀i,i<=s.rs.length->(dQ s u v i).rs=(s.rs.take i).map (eA u v)++s.rs.drop i
 |0,_=>rfl
 |i+1,hi=>by
  have a:=sI s u v i ();have I:=jS s u v i
  have g:(dQ s u v i).rs[i]?=Z s.rs[i]:=by rw[I.at_ i (Jg _)];show bE ()
  have e:bL (dQ s u v i).rs i=s.rs[i]:=df g;rw[mB];generalize dQ s u v i=t at *
  have h:((s.rs.take i).map (eA u v)).length=i:=by rw[IY,Kb];omega
  have hd:s.rs.drop i=s.rs[i]::s.rs.drop (i+1):=MP ();rw[gF (bE (show i<s.rs.length by omega)),KD];unfold iI;rw[e];split
  ·rename_i c;rw[a,hd,Js];congr 1;change _=[eA u v s.rs[i]]++_;unfold eA;rw[Jj c];rfl
  ·rename_i c;change t.rs.set i _=_;rw[a,hd,LB _ _ (),h,JL,L3,Js];congr 1;change _=[eA u v s.rs[i]]++_;unfold eA;rw[Jd c];rfl
def tN(u:Nat)(v:Int)(t:Led):(bU u v t).bs=t.bs/\(bU u v t).rs=t.rs/\(bU u v t).gl=t.gl/\(bU u v t).st=t.st/\(bU u v t).td=t.td/\(bU u v t).ln=t.ln/\(bU u v t).lm=t.lm/\(bU u v t).mm=t.mm/\(bU u v t).rm=t.rm/\(bU u v t).gs.length<=t.gs.length+1/\(bU u v t).ex=t.ex+t.gl.getD u 0*v/\(bU u v t).gn=t.gn:=by
 unfold bU;split
 ·rename_i c;rw[c];show⟨S,S,S,S,S,S,S,S,S,(),(),S⟩
 ·show⟨S,S,S,S,S,S,S,S,S,by simp,S,S⟩
structure FixE(s:Led)(u:Nat)(v:Int)(t:Led):Prop where
 bs:t.bs=s.bs
 rs:t.rs=s.rs.map (eA u v)
 gl:t.gl=s.gl
 st:t.st=s.st.erase u
 td:t.td=s.td
 lm:t.lm=s.lm
 mm:t.mm=s.mm
 ml:t.rm.length=s.rm.length
 ll:t.ln.length<=s.ln.length+s.rs.length
 gs:t.gs.length<=s.gs.length+1
 ex:t.ex=s.ex+s.gl.getD u 0*v
 gn:t.gn=s.gn++[(u,v,[])]
 n1:(∀d∈s.rm,NoL d)->∀d∈t.rm,NoL d
def pJ(s:Led)(u:Nat)(v:Int):FixE s u v (ft s u v):=by
 have I:=jS s u v s.rs.length;have j:=sI s u v s.rs.length (Jg _);rw[Kt,List.drop_length,JM]at j;unfold ft;generalize dQ s u v s.rs.length=t at *;let⟨C,l,E,F,G,H,L,M,N⟩:=I.eq;let⟨o,p,r,x,y,z,A,B,g,a,c,e⟩:=tN u v t;show⟨o.trans C,p.trans j,r.trans l,JY (List.erase · u) (x.trans E),y.trans F,A.trans G,B.trans H,by change (bU u v t).rm.length=_;rw[g];show I.ml,by change (bU u v t).ln.length<=_;rw[z];show I.ll,by change (bU u v t).gs.length<=_;rw[←L];show a,by change (bU u v t).ex=_;rw[c,M,l],by change (bU u v t).gn++_=_;rw[e,N],λh=>by change ∀d∈(bU u v t).rm,NoL d;rw[g];show I.nl h⟩
def BU{u:Nat}{v:Int}{r:aq}(w:Nat)(a:u<r.1.length):(eA u v r).1.getD w 0=if w=u then 0 else r.1.getD w 0:=by
 unfold eA;split
 ·rename_i c;split
  ·rename_i e;rw[e];show c
  ·rfl
 ·change (r.1.set u 0).getD w 0=_;rw[kY];by_cases e:w=u
  ·rw[Jj ⟨e,a⟩,Jj e]
  ·rw[Jd (λh=>e h.1),Jd e]
def BG(u:Nat)(v:Int)(r:aq):(eA u v r).1.length=r.1.length:=by
 unfold eA;split
 ·rfl
 ·show Jc
def AI{u:Nat}{v:Int}{r:aq}{x:Int}(h:x∈(eA u v r).1):x∈r.1\/x=0:=by
 unfold eA at h;split at h
 ·show .inl h
 ·show iL h
def j6{st:Y Nat}{u v:Nat}(h:v∈st.erase u):v∈st:=List.mem_of_mem_erase h
def Wy.er{n:Nat}{s:Led}(h:Wy n s){u v:Nat}:v∈s.st.erase u↔v≠u/\v∈s.st:=by rw[List.Nodup.mem_erase_iff h.nd]
def wm{s:Led}{u:Nat}{v:Int}(n1:∀d∈s.rm,NoL d)(n2:∀d∈s.mm,NoL d)(n3:∀d∈s.lm,NoL d)(n4:∀d∈s.ln,NoL d)(a:s.rm.length=s.rs.length)(h:u<s.mm.length)(j:u<s.lm.length):∀i,i<=s.rs.length->∀d∈(dQ s u v i).ln,NoL d
 |0,_=>n4
 |i+1,hi=>by
  have c:=wm (v:=v) n1 n2 n3 n4 a h j i ();have I:=jS s u v i;rw[mB];generalize dQ s u v i=t at *;let⟨l,o,p,r,e,g,x,y,z⟩:=I.eq;unfold iI;split
  ·show c
  ·intro d hd;rcases JH.mp hd with hd|hd
   ·show c d hd
   ·rw[Jk.mp hd];show nL (.tup (bv (.tup (bv (I.nl n1 _ (cI (by rw[I.ml,a];omega))) (bv (.int _) cW))) (bv (oC (by rw[g];show n2) (by rw[e];show n3) (by rw[g];show h) (by rw[e];show j)) cW)))
def Il{n:Nat}{s:Led}(h:Wy n s){u:Nat}(a:u<n)(v:Int):∀d∈(ft s u v).ln,NoL d:=by
 have:=wm (v:=v) h.n1 h.n2 h.n3 h.n4 h.rm (by rw[h.ml];show a) (by rw[h.ll];show a) s.rs.length (Jg _);unfold ft;change ∀d∈(bU u v (dQ s u v s.rs.length)).ln,NoL d;rw[(tN u v _).2.2.2.2.2.1];show this
def Wy.fix{n:Nat}{s:Led}(h:Wy n s){u:Nat}{v:Int}(o:u∈s.st)(H:v.natAbs<=2^(200+65*(n-s.st.length))):Wy n (ft s u v)/\mu (ft s u v)<mu s:=by
 have E:=pJ s u v;have X:=Il h (h.sl u o) v;generalize ft s u v=t at *;have B:=h.sl u o
 have Ob:t.st.length=s.st.length-1:=by rw[E.st];show M0 o
 have QW:0<s.st.length:=Nc o
 have M:t.rs.length=s.rs.length:=by rw[E.rs,IY]
 have Qk:=h.sn;have C:=h.n8;have N0:=h.rl;have G:t.rs.countP dJ<=t.rs.length:=Nk
 have N:200+65*(n-t.st.length)=65+(200+65*(n-s.st.length)):=by omega
 have z:∀{x:Nat},x<=2^(200+65*(n-s.st.length))->x<=2^(200+65*(n-t.st.length)):=λl=>JC l (KI 'b' ());have a_:=h.ln
 have Rw:mu t+s.rs.length<mu s:=by unfold mu;omega
 have he:t.ln.length<=s.ln.length+s.rs.length:=E.ll;refine⟨⟨C,by rw[E.bs];show h.bl,by rw[E.gl];show h.gl,by rw[E.lm];show h.ll,by rw[E.mm];show h.ml,λw p=>h.sl w (by rw[E.st]at p;show j6 p),by rw[E.st];show h.so.sublist List.erase_sublist,(),by rw[E.ml,M];show h.rm,λr c=>?_,λb F=>?_,by rw[E.gl];show h.gg,(),by have:=h.gs;have:=E.gs;omega,?_,E.n1 h.n1,by rw[E.mm];show h.n2,by rw[E.lm];show h.n3,X,λr c w p L=>?_,λg j=>?_⟩,()⟩
 ·rw[E.rs]at c;let⟨x,l,rfl⟩:=Ju.mp c;let⟨x1,I,x3⟩:=h.rr x l;refine⟨by rw[BG];show x1,λy A=>?_,?_⟩
  ·rcases AI A with A|rfl
   ·show I y A
   ·decide
  ·have b_:(x.1.getD u 0).natAbs<2^64:=I _ (cI ());unfold eA;split
   ·show z x3
   ·change (x.2-x.1.getD u 0*v).natAbs<=_;rw[N,Nat.pow_add]
    have h1:(x.1.getD u 0*v).natAbs<=2^64*2^(200+65*(n-s.st.length)):=by rw[MA];show L5 () H
    have h2:(x.2-x.1.getD u 0*v).natAbs<=x.2.natAbs+(x.1.getD u 0*v).natAbs:=by omega
    have U:2^65=2^64+2^64:=by decide
    rw[U,M9];have h5:2^(200+65*(n-s.st.length))<=2^64*2^(200+65*(n-s.st.length)):=Nat.le_mul_of_pos_left _ 'b';omega
 ·rw[E.bs]at F;let⟨O,Q⟩:=h.bb b F;show⟨z O,λm a=>z (Q m a)⟩
 ·rw[E.gn,Ja,JT];have:=h.gn;omega
 ·rw[E.rs]at c;let⟨x,l,rfl⟩:=Ju.mp c;rw[BU w (by rw[(h.rr x l).1];show B)];by_cases e:w=u
  ·rw[Jj e]
  ·rw[Jd e];show h.z x l w p λa=>L (by rw[E.st];show h.er.mpr ⟨e,a⟩)
 ·rw[E.gn]at j;rcases JH.mp j with j|j
  ·let⟨R,be,T⟩:=h.gr g j;show⟨R,λa=>be (by rw[E.st]at a;show j6 a),T⟩
  ·rw[Jk.mp j];refine⟨B,λa=>?_,k8 C H,by change 0<=30;decide,λr c=>by cases c⟩;rw[E.st]at a;show (h.er.mp a).1 S
def tL{e:Type}{ys:Y e}:∀{ps:Y Nat}{xs:Y e},ps.Pairwise (λx y=>y<x)->(∀x∈ps,x<xs.length)->ps.foldl List.eraseIdx (xs++ys)=ps.foldl List.eraseIdx xs++ys
 | [],xs,_,_=>rfl
 |p::ps,xs,a,g=>by
  rw[L1]at a;have c:=g p Ji;change ps.foldl List.eraseIdx ((xs++ys).eraseIdx p)=ps.foldl List.eraseIdx (xs.eraseIdx p)++ys;rw[List.eraseIdx_append_of_lt_length c];refine tL a.2 λx h=>?_;rw[Kv c];have:=a.1 x h;omega
def l0{g:Type}{P:Y g->Prop}(j:P [])(l:∀xs x,P xs->P (xs++[x])):∀xs,P xs:=λxs=>by
 have c:∀n (xs:Y g),xs.length=n->P xs:=by
  intro n
  induction n with
  |zero=>intro xs a;rw[J5.mp a];show j
  |succ n o=>
   intro xs a
   have h:xs≠[]:=λe=>by rw[e]at a;cases a
   rw[←MB h];show l _ _ (o _ (by rw[List.length_dropLast];omega))
 show c _ xs S
def G9{a:Type}(c:a->Bool)(d:a):∀xs:Y a,((List.range xs.length).filter λi=>c (xs.getD i d)).reverse.foldl List.eraseIdx xs=xs.filter λx=>!c x:=by
 refine l0 S λxs x h=>?_
 have j:(List.range (xs++[x]).length).filter (λi=>c ((xs++[x]).getD i d))=(List.range xs.length).filter (λi=>c (xs.getD i d))++if c x then [xs.length] else []:=by
  rw[Ja,JT,Lo,L0];congr 1
  ·refine List.filter_congr λi hi=>?_;rw[Jl,Jl,I0 (JA.mp hi)]
  ·have:(xs++[x]).getD xs.length d=x:=by rw[Jl,IZ (Jg _),JL];rfl
   cases g:c x with
   |true=>rw[L7 (by rw[this];show g)];rfl
   |false=>rw[L8 (by rw[this,g];decide)];rfl
 rw[j,L0]
 have hd:((List.range xs.length).filter λi=>c (xs.getD i d)).reverse.Pairwise (λx y=>y<x):=by rw[Nh];show Lu.filter _
 have l:∀y∈((List.range xs.length).filter λi=>c (xs.getD i d)).reverse,y<xs.length:=λy o=>JA.mp (JP.mp (LK.mp o)).1
 cases e:c x with
 |true=>
  rw[Jj S,List.reverse_append];change List.foldl List.eraseIdx ((xs++[x]).eraseIdx xs.length) ((List.range xs.length).filter λi=>c (xs.getD i d)).reverse=_;rw[List.eraseIdx_append_of_length_le (Jg _),JL,show [x].eraseIdx 0=[]from rfl,JM,h];simp[e]
 |false=>
  rw[Jd 'b',JM,tL hd l,h];simp[e]
def w8:∀(ps:Y Nat)(t:Led),ps.foldl bY t={ t with rs:=ps.foldl List.eraseIdx t.rs,rm:=ps.foldl List.eraseIdx t.rm }
 | [],t=>rfl
 |p::ps,t=>by change ps.foldl bY (bY t p)=_;rw[w8 ps];rfl
def vH{a:Type}:∀(ps:Y Nat){xs:Y a}{x:a},x∈ps.foldl List.eraseIdx xs->x∈xs
 | [],_,_,h=>h
 |p::ps,xs,x,h=>KG (vH ps (xs:=xs.eraseIdx p) h)
noncomputable def z0(u:Nat)(r:aq):Bool:=r.1.getD u 0==0
def qb(s:Led)(u:Nat):fM s u={ s with st:=s.st.erase u,gn:=s.gn++[(u,(ah s.bs u).1,(bM s u).map (bL s.rs))],rs:=s.rs.filter (z0 u),rm:=(bM s u).reverse.foldl List.eraseIdx s.rm }:=by
 unfold fM;rw[w8];have e:=G9 (λr:aq=>decide (r.1.getD u 0≠0)) ([],0) s.rs
 have a:s.rs.filter (λr=>!decide (r.1.getD u 0≠0))=s.rs.filter (z0 u):=by
  refine List.filter_congr λr _=>?_;unfold z0;generalize r.1.getD u 0=e;by_cases c:e=0
  ·simp[c]
  ·simp[c]
 rw[a]at e;have g:(bM s u).reverse.foldl List.eraseIdx (gj s u (ah s.bs u).1 ((bM s u).map (bL s.rs))).rs=s.rs.filter (z0 u):=e;rw[g];rfl
def hgP_rows{s:Led}{u:Nat}{r:aq}:r∈(bM s u).map (bL s.rs)↔r∈s.rs/\r.1.getD u 0≠0:=by
 constructor
 ·intro h;let⟨i,hi,rfl⟩:=Ju.mp h;let⟨a,c⟩:=JP.mp hi;show⟨cI (JA.mp a),JV c⟩
 ·rintro⟨a,c⟩;let⟨i,hi⟩:=JX a;have e:bL s.rs i=r:=df hi;show Ju.mpr ⟨i,JP.mpr ⟨JA.mpr (aA hi),J4 (by rw[e];show c)⟩,e⟩
def Wy.hang{n:Nat}{s:Led}(h:Wy n s){u:Nat}(A:u∈s.st)(o:gM s.rs u=Ś):Wy n (fM s u)/\mu (fM s u)<mu s:=by
 have F:=h.sl u A;have a:=qk (gj s u (ah s.bs u).1 ((bM s u).map (bL s.rs))) _ (wJ s u) (λx C=>pq (LK.mp C)) h.rm;rw[←show fM s u=(bM s u).reverse.foldl bY (gj s u (ah s.bs u).1 ((bM s u).map (bL s.rs)))from rfl]at a;have E:=qb s u;generalize fM s u=t at *
 have z:t.rm.length=t.rs.length:=by rw[a.1,a.2]
 subst E;have Ob:(s.st.erase u).length=s.st.length-1:=M0 A;have QW:0<s.st.length:=Nc A;have Qk:=h.sn;have y:=h.n8;have H:=h.rl;have b_:=h.ln;have X:=h.gn;have a_:=h.gs;have l1:(s.rs.filter (z0 u)).length<=s.rs.length:=Kp _ _;have l2:(s.rs.filter (z0 u)).countP dJ<=s.rs.countP dJ:=List.filter_sublist.countP_le;have v:∀{x:Nat},x<=2^(200+65*(n-s.st.length))->x<=2^(200+65*(n-(s.st.erase u).length)):=λC=>JC C (KI 'b' ())
 have N:mu { s with st:=s.st.erase u,gn:=s.gn++[(u,(ah s.bs u).1,(bM s u).map (bL s.rs))],rs:=s.rs.filter (z0 u),rm:=(bM s u).reverse.foldl List.eraseIdx s.rm }<mu s:=by unfold mu;simp only;omega
 have hps:(bM s u).length<=s.rs.length:=by
  have:=Kp (λi=>decide ((bL s.rs i).1.getD u 0≠0)) (List.range s.rs.length)
  rwa [Jz]at this
 refine⟨⟨y,h.bl,h.gl,h.ll,h.ml,λw B=>h.sl w (j6 B),h.so.sublist List.erase_sublist,JC l1 H,z,λr l=>?_,λb o=>?_,h.gg,by change s.ln.length+_<=_;omega,by change s.gs.length+(s.st.erase u).length<=n;omega,?_,λd hd=>h.n1 d (vH _ hd),h.n2,h.n3,h.n4,λr l w B M=>?_,λg j=>?_⟩,N⟩
 ·let⟨p,G,r3⟩:=h.rr r (JP.mp l).1;show⟨p,G,v r3⟩
 ·let⟨Q,R⟩:=h.bb b o;show⟨v Q,λm c=>v (R m c)⟩
 ·change (s.gn++[_]).length+(s.st.erase u).length=n;rw[Ja,JT];omega
 ·let⟨L,O⟩:=JP.mp l;by_cases e:w=u
  ·rw[e];show eq_of_beq O
  ·show h.z r L w B λc=>M (h.er.mpr ⟨e,c⟩)
 ·rcases JH.mp j with j|j
  ·let⟨be,T,U⟩:=h.gr g j;show⟨be,λc=>T (j6 c),U⟩
  ·rw[Jk.mp j];refine⟨F,λc=>(h.er.mp c).1 S,k8 y (h.lowU F).1,by change ((bM s u).map _).length<=30;rw[IY];omega,λr l=>?_⟩;let⟨p,G⟩:=hgP_rows.mp l;let⟨q1,q2,q3⟩:=h.rr r p;refine⟨q1,?_,q2,k8 y q3⟩
   have hnb:¬ r.1.getD u 0<0:=λI=>by have:gM s.rs u=ř:=LI.mpr ⟨r,p,J4 I⟩;rw[this]at o;cases o
   change 0<r.1.getD u 0;omega
def qV{bs:Y Bd}{rs:Y aq}{gl:Y Int}{u:Nat}(h:eZ bs rs gl u=ř):(ah bs u).2=ŗ/\gl.getD u 0=0/\gM rs u=Ś:=by unfold eZ at h;simp only[Ki,Option.isNone_iff_eq_none,LG,MN]at h;show⟨h.1.1,h.1.2,h.2⟩
def xa{r:aq}{u:Nat}(h:(di r.1)[0]?=Z u):u<r.1.length/\r.1.getD u 0≠0:=by let⟨a,c⟩:=JP.mp (Je h);show⟨JA.mp a,JV c⟩
def Wy.row{n:Nat}{s t:Led}(h:Wy n s)(o:RowSt s ř t):Wy n t/\mu t<mu s:=by
 cases o with
 |idle j=>
  let⟨r,a,_⟩:=gW j;show h.drop (aA a)
 |single _ v a u=>
  let⟨c,l⟩:=xa u;show h.tb a (by rw[(h.rr _ (Je a)).1]at c;show c) l
 |uneven _ _ c a=>
  let⟨x,e,p⟩:=gW c;rw[a]at e;cases e;show h.ev a p
 |doubled _ _ _ g=>
  have:=aA g.ib;have:=g.ji;show h.drop (by split<;>omega)
def Wy.unk{n:Nat}{s t:Led}(h:Wy n s)(c:UnkSt s ř t):Wy n t/\mu t<mu s:=by
 cases c with
 |fixed a=>show h.fix (JD a) (h.lowU (h.sl _ (JD a))).1
 |sink _ a=>show h.fix (JD a) (h.lowU (h.sl _ (JD a))).1
 |rise _ _ a e=>show h.fix (JD a) ((h.lowU (h.sl _ (JD a))).2 _ e)
 |hang _ _ _ a=>show h.hang (JD a) (qV (Lq a)).2.2
def dm(x y:Int)(xs ys:Y Int):ar (x::xs) (y::ys)=x*y+ar xs ys:=by simp[ar]
def gp:∀{xs ys:Y Int}{k:Nat}(v:Int),xs.length=ys.length->k<ys.length->ar xs (ys.set k v)=ar xs ys+xs.getD k 0*(v-ys.getD k 0)
 | [],[],k,v,_,h=>absurd h (Ka _)
 |x::xs,y::ys,0,v,_,_=>by
  rw[L3,dm,dm];change x*v+_=x*y+_+x*(v-y);rw[Int.mul_sub];omega
 |x::xs,y::ys,k+1,v,c,a=>by
  rw[MI,dm,dm,gp (xs:=xs) (ys:=ys) (k:=k) v (by simpa using c) (by simpa using a)];change x*y+(ar xs ys+xs.getD k 0*(v-ys.getD k 0))=x*y+ar xs ys+xs.getD k 0*(v-ys.getD k 0);omega
def le:∀{xs ys:Y Int}{k:Nat}(v:Int),xs.length=ys.length->k<ys.length->ar (xs.set k v) ys=ar xs ys+(v-xs.getD k 0)*ys.getD k 0
 | [],[],k,v,_,h=>absurd h (Ka _)
 |x::xs,y::ys,0,v,_,_=>by
  rw[L3,dm,dm];change v*y+_=x*y+_+(v-x)*y;rw[Int.sub_mul];omega
 |x::xs,y::ys,k+1,v,c,a=>by
  rw[MI,dm,dm,le (xs:=xs) (ys:=ys) (k:=k) v (by simpa using c) (by simpa using a)];change x*y+(ar xs ys+(v-xs.getD k 0)*ys.getD k 0)=x*y+ar xs ys+(v-xs.getD k 0)*ys.getD k 0;omega
def qW:∀{as bs xs ys:Y Int},as.length=bs.length->xs.length=as.length->ys.length=bs.length->(∀i,i<as.length->as.getD i 0*xs.getD i 0<=bs.getD i 0*ys.getD i 0)->ar as xs<=ar bs ys
 | [],[],[],[],_,_,_,_=>Kj _
 |a::as,b::bs,x::xs,y::ys,c,e,g,h=>by
  rw[dm,dm];have j:a*x<=b*y:=h 0 (by simp);have l:=qW (as:=as) (bs:=bs) (xs:=xs) (ys:=ys) (by simpa using c) (by simpa using e) (by simpa using g) λi hi=>h (i+1) (by simpa using hi);omega
def AJ{xs ys:Y Int}(c:xs.length=ys.length)(h:∀i,i<xs.length->0<=xs.getD i 0*ys.getD i 0):0<=ar xs ys:=by
 have e:∀(a:Y Int),ar (List.replicate a.length 0) a=0:=by
  intro a
  induction a with
  |nil=>rfl
  |cons z a g=>rw[Jp,J1,dm,g,Kw];rfl
 have:=qW (as:=List.replicate ys.length 0) (bs:=xs) (xs:=ys) (ys:=ys) (by rw[JI];show c.symm) (by rw[JI]) c.symm λi hi=>by
  rw[JI]at hi;rw[Jl,Lv hi];change 0*_<=_;rw[Kw];show h i ()
 rw[e]at this;show this
structure SpotAt(n:Nat)(s:Led)(r:List Int):Prop where
 l:r.length=n
 z:∀u,u<n->u∉s.st->r.getD u 0=0
 b:∀u∈s.st,(ah s.bs u).1<=r.getD u 0/\∀m,(ah s.bs u).2=Z m->r.getD u 0<=m
 m:∀q∈s.rs,q.2<=ar q.1 r
def xQ{bs:Y Bd}{es:Y Int}{t:Int}(h:fb bs es=Z t):∀(i:Nat)(b:Bd)(e:Int),bs[i]?=Z b->es[i]?=Z e->0<e->b.2.isSome=ř:=λi b e g j l=>by
 unfold fb at h;split at h
 ·rename_i a;unfold gU at a;rw[KR]at a;have c:id (gD b e)=ř:=a (gD b e) (Je (i:=i) (by rw[Lz,g,j]));unfold gD id at c
  cases o:b.2 with
  |some m=>rfl
  |none=>rw[o]at c;simp[l]at c
 ·cases h
def pO{a:Type}{xs:Y a}{p:Nat}{x:a}(h:x∈xs):x∈xs.eraseIdx p\/xs[p]?=Z x:=by
 let⟨i,hi⟩:=JX h;by_cases c:i=p
 ·show .inr (c▸hi)
 ·refine .inl ?_;rw[Lr];show⟨i,c,hi⟩
def FP{a:Type}{xs:Y a}{p:Nat}{x y:a}(h:x∈xs)(g:p<xs.length):x∈xs.set p y\/xs[p]?=Z x:=by
 let⟨i,hi⟩:=JX h;by_cases c:i=p
 ·show .inr (c▸hi)
 ·show .inl (Je (i:=i) (by rw[Jv (λe=>c e.symm)];show hi))
def C7{a:Type}{xs:Y a}{p:Nat}{y:a}(c:p<xs.length):y∈xs.set p y:=Je (i:=p) (Jy c)
def tO{n u:Nat}{es r:Y Int}(h:(di es).length=1)(g:(di es)[0]?=Z u)(L:es.length=n)(M:r.length=n):ar es r=es.getD u 0*r.getD u 0:=by
 have H:u<n:=by
  have:=(JP.mp (Je g)).1;have:=JA.mp this;omega
 have A:∀i,i<n->i≠u->es.getD i 0=0:=λi hi v=>by
  refine J9 λF=>v ?_;have o:i∈di es:=JP.mpr ⟨JA.mpr (),J4 F⟩
  cases p:di es with
  |nil=>rw[p]at h;cases h
  |cons a l=>
   rw[p]at h g o;have e:l=[]:=J5.mp (by simpa using h);subst e;have z:a=u:=JJ g;rw[←z];show Jk.mp o
 have B:ar (es.set u 0) r=0:=by
  have a1:∀i,i<(es.set u 0).length->(es.set u 0).getD i 0=0:=λi hi=>by
   rw[kY];by_cases c:i=u
   ·rw[Jj ⟨c,()⟩]
   ·rw[Jd (λh=>c h.1)];show A i (by rw[Jc]at hi;omega) c
  have e:(es.set u 0).length=r.length:=by rw[Jc];omega
  have I:=AJ e λi hi=>by rw[a1 i hi,Kw];show Kj _
  have C:=qW (as:=es.set u 0) (bs:=es.set u 0) (xs:=r) (ys:=r.map (- ·)) S e.symm (by rw[IY];show e.symm) λi hi=>by rw[a1 i hi,Kw,Kw];show Kj _
  have E:∀(xs ys:Y Int),ar xs (ys.map (- ·)) =-ar xs ys:=by
   intro xs
   induction xs with
   |nil=>intro ys;simp[ar]
   |cons x xs G=>
    intro ys
    cases ys with
    |nil=>simp[ar]
    |cons y ys=>rw[JB,dm,dm,G,Int.mul_neg];omega
  rw[E]at C;omega
 have j:=le (xs:=es) (ys:=r) (k:=u) 0 () ();rw[B]at j;rw[Nr,Nb]at j;omega
def wx(s:Led)(p u:Nat)(r:aq):(bG s p u r).st=s.st/\(bG s p u r).gl=s.gl/\(bG s p u r).gn=s.gn/\(bG s p u r).ex=s.ex:=by
 unfold bG;split
 ·show⟨S,S,S,S⟩
 ·split<;>show⟨S,S,S,S⟩
def jC{bs:Y Bd}{u v:Nat}{b:Bd}(a:u<bs.length):ah (bs.set u b) v=if v=u then b else ah bs v:=by
 unfold ah;rw[Jl,Jl];by_cases c:v=u
 ·subst c;rw[Jy a,Jj S];rfl
 ·rw[Jv (λe=>c e.symm),Jd c]
def Hf{n:Nat}{s:Led}{p u:Nat}{r:aq}(Q:s.bs.length=n)(R:u<n)(M:r.1.getD u 0≠0){x:Nat->Int}(e:∀v∈s.st,(ah (bG s p u r).bs v).1<=x v/\∀m,(ah (bG s p u r).bs v).2=Z m->x v<=m)(l:u∈s.st):(∀v∈s.st,(ah s.bs v).1<=x v/\∀m,(ah s.bs v).2=Z m->x v<=m)/\r.2<=r.1.getD u 0*x u:=by
 have G:(0:Int)<((r.1.getD u 0).natAbs:Int):=by omega
 have F:=λm=>ny (b:=r.2) (m:=m) G;have C:dq r.2 ((r.1.getD u 0).natAbs:Int) = -(-r.2/((r.1.getD u 0).natAbs:Int)):=rfl
 have A:0<r.1.getD u 0->dq r.2 ((r.1.getD u 0).natAbs:Int)<=x u->r.2<=r.1.getD u 0*x u:=λI a=>by
  rw[C]at a;have:=(F _).mp a
  rwa [show (((r.1.getD u 0).natAbs:Nat):Int)=r.1.getD u 0 by omega]at this
 have E:r.1.getD u 0<0->x u<=-dq r.2 ((r.1.getD u 0).natAbs:Int)->r.2<=r.1.getD u 0*x u:=λI a=>by
  rw[C]at a;have:=(F (-x u)).mp ();rw[show (((r.1.getD u 0).natAbs:Nat):Int) = -r.1.getD u 0 by omega,Int.neg_mul_neg]at this;show this
 unfold bG at e;generalize dq r.2 ((r.1.getD u 0).natAbs:Int)=b at *;split at e
 ·rename_i h;have g:∀v∈s.st,(ah (s.bs.set u (b,(ah s.bs u).2)) v).1<=x v/\∀m,(ah (s.bs.set u (b,(ah s.bs u).2)) v).2=Z m->x v<=m:=e;refine⟨λv z=>?_,A h.1 ?_⟩
  ·have:=g v z;rw[jC ()]at this;by_cases c:v=u
   ·rw[Jj c]at this;subst c;show⟨MW (Int.le_of_lt h.2) this.1,this.2⟩
   ·rwa [Jd c]at this
  ·have:=(g u l).1
   rwa [jC (),Jj S]at this
 ·rename_i h;split at e
  ·rename_i a;have g:∀v∈s.st,(ah (s.bs.set u ((ah s.bs u).1,Z (-b))) v).1<=x v/\∀m,(ah (s.bs.set u ((ah s.bs u).1,Z (-b))) v).2=Z m->x v<=m:=e;have j:=g u l;rw[jC (),Jj S]at j;have o:x u<=-b:=j.2 _ S;refine⟨λv z=>?_,E a.1 o⟩;have:=g v z;rw[jC ()]at this;by_cases c:v=u
   ·rw[Jj c]at this;subst c;show⟨this.1,λm y=>by have:=a.2 m y;omega⟩
   ·rwa [Jd c]at this
  ·rename_i a;refine⟨e,?_⟩;let⟨N,H⟩:=e u l;by_cases c:0<r.1.getD u 0
   ·show A c (by have:¬ (ah s.bs u).1<b:=λL=>h ⟨c,L⟩;omega)
   ·have B:r.1.getD u 0<0:=by omega
    refine E B (J9 λO=>a ⟨B,λm y=>?_⟩);have:=H m y;omega
def qo{n:Nat}{s:Led}(h:Wy n s){r:aq}(e:r∈s.rs){u:Nat}(g:u<n)(a:r.1.getD u 0≠0):u∈s.st:=J9 λc=>a (h.z r e u g c)
def tF{g:Gn}{gs:Y Gn}{f:Y Int->Gn->Y Int}{x:Y Int}:(gs++[g]).reverse.foldl f x=gs.reverse.foldl f (f x g):=by rw[List.reverse_append];rfl
def gm{xs:Y Int}{k j:Nat}{v:Int}(a:k<xs.length):(xs.set k v).getD j 0=if j=k then v else xs.getD j 0:=by
 rw[kY];by_cases c:j=k
 ·rw[Jj ⟨c,a⟩,Jj c]
 ·rw[Jd (λh=>c h.1),Jd c]
def uU{s t:Led}(h:RowSt s ř t):t.st=s.st/\t.gl=s.gl/\t.gn=s.gn/\t.ex=s.ex:=by
 cases h with
 |idle=>show⟨S,S,S,S⟩
 |single=>show wx _ _ _ _
 |uneven=>show⟨S,S,S,S⟩
 |doubled=>show⟨S,S,S,S⟩
def Bm(u:Nat)(l:Int)(rs:Y aq)(sp:Y Int):l<=jd u l rs sp/\(∀r∈rs,fF u sp r<=jd u l rs sp):=by let⟨a,c,_⟩:=mQ (rs.map (fF u sp)) l;show⟨a,λr e=>c _ (Ju.mpr ⟨r,e,S⟩)⟩
def zJ{u n:Nat}{sp:Y Int}{r:aq}{v:Int}(a:0<r.1.getD u 0)(h:fF u sp r<=v)(c:sp.getD u 0=0)(e:r.1.length=n)(g:sp.length=n)(j:u<n):r.2<=ar r.1 (sp.set u v):=by
 rw[gp v () (),c,M1];have:=(ny (b:=r.2-ar r.1 sp) (m:=v) a).mp h;omega
def rC:∀(ps:Y (Nat×Int))(sp:Y Int)(u:Nat),u∉ps.map (·.1)->(eX sp ps).getD u 0=sp.getD u 0
 | [],sp,u,_=>rfl
 |p::ps,sp,u,h=>by change (eX (sp.set p.1 p.2) ps).getD u 0=_;rw[rC ps _ u (λa=>h (Jh _ a)),kY,Jd (λe=>h (by rw[e.1];show Ji))]
def sT{st:Y Nat}{xs:Y Int}(h:xs.length=st.length):(List.zip st xs).map (·.1)=st:=by rw[List.map_fst_zip ()]
def wu{n:Nat}{st:Y Nat}{xs:Y Int}{u:Nat}(h:xs.length=st.length)(a:u∉st):(dw n st xs).getD u 0=0:=by unfold dw;rw[rC _ _ u (by rw[sT h];show a)];rw[Jl,Kq];split<;>rfl
def vf:∀{st:Y Nat}{xs sp:Y Int}{k u:Nat},xs.length=st.length->st.Nodup->(∀u∈st,u<sp.length)->st[k]?=Z u->(eX sp (List.zip st xs)).getD u 0=xs.getD k 0
 | [],_,_,k,u,_,_,_,h=>by cases h
 |a::st,x::xs,sp,0,u,c,hd,e,h=>by
  cases h;rw[JE]at hd;change (eX (sp.set a x) (List.zip st xs)).getD a 0=x;rw[rC _ _ a (by rw[sT (by simpa using c)];show hd.1),gm (e a Ji),Jj S]
 |a::st,x::xs,sp,k+1,u,c,hd,e,h=>by rw[JE]at hd;show vf (sp:=sp.set a x) (by simpa using c) hd.2 (λu g=>by rw[Jc];show e u (Jh _ g)) h
def px{n:Nat}{st:Y Nat}{xs:Y Int}{k u:Nat}(a:xs.length=st.length)(hd:st.Nodup)(c:∀u∈st,u<n)(h:st[k]?=Z u):(dw n st xs).getD u 0=xs.getD k 0:=vf a hd (λu e=>by rw[JI];show c u e) h
def v4:∀{st:Y Nat}{xs sp es:Y Int},xs.length=st.length->st.Nodup->(∀u∈st,u<sp.length/\sp.getD u 0=0)->es.length=sp.length->ar es (eX sp (List.zip st xs))=ar es sp+ar (pk 0 es st) xs
 | [],[],sp,es,_,_,_,_=>by change ar es sp=ar es sp+0;omega
 |a::st,x::xs,sp,es,j,hd,g,c=>by
  rw[JE]at hd;let⟨a1,a2⟩:=g a Ji;change ar es (eX (sp.set a x) (List.zip st xs))=ar es sp+ar (es.getD a 0::pk 0 es st) (x::xs);rw[v4 (by simpa using j) hd.2 (λu h=>?_) (by rw[Jc];show c),gp x c a1,a2,M1,dm]
  ·omega
  ·let⟨l,o⟩:=g u (Jh _ h);refine⟨by rw[Jc];show l,?_⟩;rw[kY,Jd (λe:u=a/\a<sp.length=>hd.1 (e.1▸h))];show o
def ur:∀(es:Y Int)(n:Nat),ar es (List.replicate n 0)=0
 | [],_=>rfl
 |_::_,0=>rfl
 |e::es,n+1=>by rw[J1,dm,ur es n,Nt];rfl
def mY{n:Nat}{st:Y Nat}{xs es:Y Int}(c:xs.length=st.length)(hd:st.Nodup)(e:∀u∈st,u<n)(a:es.length=n):ar es (dw n st xs)=ar (pk 0 es st) xs:=by unfold dw;rw[v4 c hd (λu g=>⟨by rw[JI];show e u g,?_⟩) (by rw[JI];show a),ur,J6];rw[Jl,Kq];split<;>rfl
def vZ{n k:Nat}{xs:Y Int}(g:k<n)(h:xs.length=n):ar (dk n k) xs=xs.getD k 0:=by
 have e:dk n k=(List.replicate n 0).set k 1:=by
  refine Kz λi=>?_;unfold dk;rw[Jm];by_cases hi:i<n
  ·rw[Lk hi];by_cases c:i=k
   ·subst c;rw[Jy (by rw[JI];show hi)];simp
   ·rw[Jv (λe=>c e.symm),Lv hi];simp[c]
  ·rw[JU (by rw[Jz];omega),JU (by rw[Jc,JI];omega)];rfl
 have a:ar (List.replicate n 0) xs=0:=by
  have:∀(m:Nat)(ys:Y Int),ar (List.replicate m 0) ys=0:=by
   intro m
   induction m with
   |zero=>intro ys;rfl
   |succ m j=>intro ys;cases ys with
    |nil=>rfl
    |cons y ys=>rw[J1,dm,j,Kw];rfl
  show this n xs
 rw[e,le 1 (by rw[JI,h]) (),a];rw[Jl,Lv g];change 0+(1-0)*_=_;omega
def yG{n k:Nat}{xs:Y Int}{b:Int}(c:k<n)(e:xs.length=n):ar (jY (dk n k,b)).1 xs = -xs.getD k 0:=by
 have a:∀(xs ys:Y Int),ar (xs.map (- ·)) ys =-ar xs ys:=by
  intro xs
  induction xs with
  |nil=>intro ys;rfl
  |cons x xs g=>
   intro ys
   cases ys with
   |nil=>rfl
   |cons y ys=>rw[JB,dm,dm,g,Nb];omega
 change ar ((dk n k).map (- ·)) xs=_;rw[a,vZ c e]
def giv_all{P:aq->Prop}{bs:Y Bd}{rs:Y aq}:(∀r∈br bs rs,P r)↔(∀k,k<bs.length->P (fi bs k))/\(∀k,k<bs.length->(ah bs k).2.isSome=ř->P (cD bs k))/\∀r∈rs,P r:=by
 unfold br;constructor
 ·intro h;refine⟨λk e=>h _ ?_,λk e o=>h _ ?_,λr c=>h _ ?_⟩
  ·show Lg _ (Lg _ (Ju.mpr ⟨k,JA.mpr e,S⟩))
  ·show Lg _ (JZ _ (Ju.mpr ⟨k,JP.mpr ⟨JA.mpr e,o⟩,S⟩))
  ·show JZ _ c
 ·rintro⟨g,j,l⟩ r c;rcases JH.mp c with c|c
  ·rcases JH.mp c with c|c
   ·let⟨k,e,rfl⟩:=Ju.mp c;show g k (JA.mp e)
   ·let⟨k,e,rfl⟩:=Ju.mp c;let⟨a,b⟩:=JP.mp e;show j k (JA.mp a) b
  ·show l r c
def jD{n:Nat}{bs:Y Bd}{rs:Y aq}{x:Y Int}(j:bs.length=n)(u:x.length=n):(∀r∈br bs rs,r.2<=ar r.1 x)↔(∀k,k<n->(ah bs k).1<=x.getD k 0/\∀m,(ah bs k).2=Z m->x.getD k 0<=m)/\∀r∈rs,r.2<=ar r.1 x:=by
 have l:∀k,k<n->ar (fi bs k).1 x=x.getD k 0:=λk c=>by change ar (dk bs.length k) x=_;rw[j];show vZ c u
 have o:∀k,k<n->ar (cD bs k).1 x = -x.getD k 0:=λk c=>by unfold cD;rw[j];show yG c u
 have p:∀k m,(ah bs k).2=Z m->(cD bs k).2 = -m:=λk m e=>by unfold cD jY;rw[e];rfl
 rw[giv_all,j];constructor
 ·rintro⟨g,v,h⟩;refine⟨λk c=>?_,h⟩;have a:=g k c;rw[l k c]at a;refine⟨a,λm e=>?_⟩;have b:=v k c (by rw[e];rfl);rw[o k c,p k m e]at b;omega
 ·rintro⟨g,h⟩;refine⟨λk c=>by rw[l k c];show (g k c).1,λk c e=>?_,h⟩;let⟨m,e⟩:=LR.mp e;rw[o k c,p k m e];have:=(g k c).2 m e;omega
structure PlOk(n:Nat)(bs:List Bd)(rs:List aq)(gs:List Int):Prop where
 n8:n<=8
 bl:bs.length=n
 gl:gs.length=n
 rl:rs.length<=15
 rr:∀r∈rs,r.1.length=n/\(∀x∈r.1,x.natAbs<2^64)/\r.2.natAbs<=2^200
 bb:∀b∈bs,b.1.natAbs<=2^200/\∀m,b.2=Z m->m.natAbs<=2^200
 gg:∀x∈gs,x.natAbs<2^64
def DN(n:Nat):∀d∈(List.range n).map aW,NoL d:=λd hd=>by let⟨i,_,rfl⟩:=Ju.mp hd;show .int _
def PlOk.wy{n:Nat}{bs:Y Bd}{rs:Y aq}{gs:Y Int}(h:PlOk n bs rs gs):Wy n (dF bs rs gs):=by
 have x:=h.n8;have a:=h.bl
 have j:(dF bs rs gs).st.length=n:=by change (List.range bs.length).length=n;rw[Jz];show a
 have v:=h.rl
 have c:200+65*(n-(dF bs rs gs).st.length)=200:=by rw[j];omega
 refine⟨h.n8,h.bl,h.gl,by change ((List.range bs.length).map aW).length=n;rw[IY,Jz];show a,by change (nB bs).length=n;unfold nB;rw[IY,Jz];show a,λu e=>by rw[←a];show JA.mp e,Lu,by change rs.length<=30;omega,by change (cA _ rs.length).length=rs.length;unfold cA;rw[IY,Jz],λr l=>by rw[c];show h.rr r l,λb a=>by rw[c];show h.bb b a,h.gg,?_,by change 0+(List.range bs.length).length<=n;rw[Jz];omega,by change 0+(List.range bs.length).length=n;rw[Jz];omega,λd hd=>?_,λd hd=>?_,DN _,cW,λr l u e o=>absurd (JA.mpr (by rw[a];show e)) o,λg p=>by cases p⟩
 ·have:rs.countP dJ<=rs.length:=Nk;unfold mu;rw[j];change 0+(64*n+2*rs.length+rs.countP dJ)<=602;omega
 ·let⟨i,_,rfl⟩:=Ju.mp (show d∈(List.range rs.length).map _ from hd);show .int _
 ·let⟨i,_,rfl⟩:=Ju.mp (show d∈(List.range bs.length).map (gb bs)from hd);unfold gb;split
  ·show .int _
  ·show .non
noncomputable def dM(sp:Y Int)(g:Gn):Y Int:=sp.set g.1 (jd g.1 g.2.1 g.2.2 sp)
noncomputable def il(n:Nat)(s:Led)(x:Y Int):Y Int:=s.gn.reverse.foldl dM (dw n s.st x)
structure GOk(n:Nat)(g:Gn):Prop where
 u:g.1<n
 l:g.2.1.natAbs<=2^720
 r:g.2.2.length<=30
 rr:∀r∈g.2.2,r.1.length=n/\0<r.1.getD g.1 0/\(∀x∈r.1,x.natAbs<2^64)/\r.2.natAbs<=2^720
def Wy.gok{n:Nat}{s:Led}(h:Wy n s){g:Gn}(j:g∈s.gn):GOk n g:=by let⟨a,b,c,d,e⟩:=h.gr g j;show⟨a,c,d,e⟩
def yM{n k u:Nat}{l:Int}{rs:Y aq}{sp:Y Int}(y:n<=8)(z:720<=k)(E:∀x∈sp,x.natAbs<=2^k)(h:GOk n (u,l,rs)):(jd u l rs sp).natAbs<=2^(k+68):=by
 let⟨_,_,p⟩:=mQ (rs.map (fF u sp)) l;have c:2^720<=2^k:=KI 'b' z;have j:2^(k+68)=2^k*2^68:=Nat.pow_add ..
 have v:1<=2^68:=by decide
 have g:2^k<=2^k*2^68:=Nat.le_mul_of_pos_right _ 'b';rcases Jt.mp p with e|e
 ·change ((rs.map (fF u sp)).foldl max l).natAbs<=_;rw[e,j];show JC h.l (JC c g)
 ·let⟨r,C,e⟩:=Ju.mp e;change ((rs.map (fF u sp)).foldl max l).natAbs<=_;rw[←e];let⟨G,H,I,L⟩:=h.rr r C;unfold fF;have M:(dq (r.2-ar r.1 sp) (r.1.getD u 0)).natAbs<=(r.2-ar r.1 sp).natAbs:=qF (a:=r.2-ar r.1 sp) H;have o:=kM (A:=2^64) (B:=2^k) (λx F=>Ko (I x F)) E;rw[G]at o;have N:n*(2^64*2^k)<=8*(2^64*2^k):=K0 _ y
  have O:(r.2-ar r.1 sp).natAbs<=r.2.natAbs+(ar r.1 sp).natAbs:=by omega
  have Q:8*(2^64*2^k)+2^k<=2^k*2^68:=by
   rw[←Nat.mul_assoc,Mq (2^k) (2^68)];have:(8*2^64+1)*2^k<=2^68*2^k:=K0 _ 'b';rw[M9,Nat.one_mul]at this;show this
  rw[j];have R:r.2.natAbs<=2^720:=L;omega
def va{n:Nat}(e:n<=8):∀{gs:Y Gn}{sp:Y Int}{k:Nat},720<=k->(∀g∈gs,GOk n g)->(∀x∈sp,x.natAbs<=2^k)->∀x∈gs.foldl dM sp,x.natAbs<=2^(k+68*gs.length)
 | [],sp,k,_,_,c=>c
 |g::gs,sp,k,j,h,c=>by
  have:=va e (gs:=gs) (sp:=dM sp g) (k:=k+68) () (λx a=>h x (Jh _ a)) λx a=>by
   rcases iL a with a|rfl
   ·show JC (c x a) (KI 'b' ())
   ·show yM e j c (h g Ji)
  rw[show k+68*(g::gs).length=k+68+68*gs.length by rw[Jp];omega];show this
def wR:∀(ps:Y (Nat×Int)){sp:Y Int}{x:Int},x∈eX sp ps->x∈sp\/x∈ps.map (·.2)
 | [],_,_,h=>.inl h
 |p::ps,sp,x,h=>by
  rcases wR ps (sp:=sp.set p.1 p.2) h with h|h
  ·rcases iL h with h|rfl
   ·show .inl h
   ·show .inr Ji
  ·show .inr (Jh _ h)
def Hr{n:Nat}{st:Y Nat}{xs:Y Int}{x:Int}(h:x∈dw n st xs):x=0\/x∈xs:=by
 rcases wR _ h with h|h
 ·show .inl (MZ h)
 ·let⟨p,a,rfl⟩:=Ju.mp h;show .inr (Lb a).2
def DX{n:Nat}{st:Y Nat}{xs:Y Int}{k:Nat}(h:∀x∈xs,x.natAbs<=2^k):∀x∈dw n st xs,x.natAbs<=2^k:=λx a=>by
 rcases Hr a with rfl|a
 ·show KU _
 ·show h x a
def CB{x k:Nat}(h:x<=2^k)(a:k<=1300):x<2^60000:=KS h (Ku 'b' ())
def GD{n:Nat}:∀{bs:Y Bd}{es xs:Y Int},bs.length=n->es.length=n->xs.length=n->(∀i,i<n->es.getD i 0*xs.getD i 0<=fk (ah bs i) (es.getD i 0))->ar es xs<=(List.zipWith fk bs es).sum:=by
 induction n with
 |zero=>
  intro bs es xs a c g _;rw[J5.mp a,J5.mp c];show Kj _
 |succ n j=>
  intro bs es xs a c g h
  match bs,es,xs,a,c,g with
  |b::bs,e::es,x::xs,a,c,g=>
   rw[dm,List.zipWith_cons_cons,List.sum_cons];have l:e*x<=fk b e:=h 0 ();have:=j (bs:=bs) (es:=es) (xs:=xs) (by simpa using a) (by simpa using c) (by simpa using g) λi hi=>h (i+1) ();omega
def wE{n:Nat}{bs:Y Bd}{es xs:Y Int}{t:Int}(a:fb bs es=Z t)(p:bs.length=n)(r:es.length=n)(v:xs.length=n)(h:∀i,i<n->es.getD i 0≠0->(ah bs i).1<=xs.getD i 0/\∀m,(ah bs i).2=Z m->xs.getD i 0<=m):ar es xs<=t:=by
 have u:=xQ a;unfold fb at a;split at a
 ·rw[←JJ a];refine GD p r v λi hi=>?_;have o:=u i (ah bs i) (es.getD i 0) (bQ ()) (bQ ());have j:=h i hi;generalize es.getD i 0=e at *;generalize xs.getD i 0=x at *;generalize ah bs i=b at *;unfold fk;by_cases c:0<e
  ·rw[Jj c];let⟨m,l⟩:=LR.mp (o c);rw[l];show Lw ((j ()).2 m l) ()
  ·rw[Jd c];by_cases g:e<0
   ·rw[Jj g];show Lx () (j ()).1
   ·rw[Jd g,show e=0 by omega,Kw];show Kj _
 ·cases a
def uf:∀(xs ys:Y Int),ar (xs.map (- ·)) ys =-ar xs ys
 | [],_=>rfl
 |_::_,[]=>rfl
 |x::xs,y::ys=>by rw[JB,dm,dm,uf xs ys,Nb];omega
def AQ{n:Nat}{bs:Y Bd}{es xs:Y Int}{t:Int}(a:i7 bs es=Z t)(j:bs.length=n)(l:es.length=n)(o:xs.length=n)(h:∀i,i<n->es.getD i 0≠0->(ah bs i).1<=xs.getD i 0/\∀m,(ah bs i).2=Z m->xs.getD i 0<=m):t<=ar es xs:=by
 unfold i7 at a
 cases c:fb bs (es.map (- ·))with
 |none=>rw[c]at a;cases a
 |some t'=>
  rw[c]at a;have p:-t'=t:=JJ a;have:=wE c j (by rw[IY];show l) o λi hi g=>h i hi λe=>g (by rw[tV (- ·) S,e];rfl);rw[uf]at this;omega
def SpotAt.within{n:Nat}{s:Led}{x:Y Int}(h:Wy n s)(e:SpotAt n s x){q:aq}(c:q∈s.rs):∀i,i<n->q.1.getD i 0≠0->(ah s.bs i).1<=x.getD i 0/\∀m,(ah s.bs i).2=Z m->x.getD i 0<=m:=λi hi a=>e.b i (qo h c hi a)
def SpotAt.row{n:Nat}{s t:Led}{x:Y Int}(h:Wy n s)(hR:RowSt s ř t):SpotAt n t x↔SpotAt n s x:=by
 cases hR with
 | @idle p h1=>
  let⟨r,A,B⟩:=gW h1;refine⟨λl=>⟨l.l,l.z,l.b,λq z=>?_⟩,λl=>⟨l.l,l.z,l.b,λq z=>l.m q (KG z)⟩⟩;rcases pO (p:=p) z with o|o
  ·show l.m q o
  ·rw[A]at o;cases o;unfold e7 at B
   cases T:i7 s.bs r.1 with
   |none=>rw[T]at B;cases B
   |some t=>
    rw[T]at B;have:=AQ T h.bl (h.rr r z).1 l.l λi hi NT=>l.b i (qo h z hi NT);have:=JV B;omega
 | @single p u r _ h2 A U=>
  let⟨r',G,B⟩:=gW h2;rw[A]at G;cases G;have C:=Je A;let⟨R,h4⟩:=xa U
  have Q:u<n:=by rw[(h.rr r C).1]at R;show R
  let⟨L,e2⟩:=sQ s p u r;let⟨M,e4,e5,e6⟩:=wx s p u r;have a_:=qo h C Q h4;constructor
  ·intro l;have hb:∀v∈s.st,(ah (bG s p u r).bs v).1<=x.getD v 0/\∀m,(ah (bG s p u r).bs v).2=Z m->x.getD v 0<=m:=λv F=>l.b v (show v∈(bG s p u r).st by rw[M];show F);let⟨b1,b2⟩:=Hf (x:=λv=>x.getD v 0) h.bl Q h4 hb a_;refine⟨l.l,λv F be=>l.z v F (show v∉(bG s p u r).st by rw[M];show be),b1,λq z=>?_⟩;rcases pO (p:=p) z with o|o
   ·show l.m q (show q∈(bG s p u r).rs.eraseIdx p by rw[L];show o)
   ·rw[A]at o;cases o;rw[tO (JV B) U (h.rr r z).1 l.l];show b2
  ·intro l;have Ti:=l.m r C;rw[tO (JV B) U (h.rr r C).1 l.l]at Ti
   have Qt:(0:Int)<((r.1.getD u 0).natAbs:Int):=by omega
   have H:=λm=>ny (b:=r.2) (m:=m) Qt;have b_:dq r.2 ((r.1.getD u 0).natAbs:Int) = -(-r.2/((r.1.getD u 0).natAbs:Int)):=rfl;have Vx:=l.b u a_;refine⟨l.l,λv F be=>l.z v F (λC=>be (show v∈(bG s p u r).st by rw[M];show C)),λv F=>?_,λq z=>l.m q ?_⟩
   ·have Sv:v∈s.st:=by have:v∈(bG s p u r).st:=F;rwa [M]at this
    have I:=l.b v Sv;change (ah (bG s p u r).bs v).1<=_/\∀m,(ah (bG s p u r).bs v).2=Z m->_;unfold bG;split
    ·rename_i c;change (ah (s.bs.set u _) v).1<=_/\∀m,(ah (s.bs.set u _) v).2=Z m->_;rw[jC (by rw[h.bl];show Q)];by_cases e:v=u
     ·subst e;rw[Jj S];refine⟨?_,I.2⟩;change dq _ _<=_;rw[b_];refine (H _).mpr ?_
      rwa [show (((r.1.getD v 0).natAbs:Nat):Int)=r.1.getD v 0 by omega]
     ·rw[Jd e];show I
    ·split
     ·rename_i c;change (ah (s.bs.set u _) v).1<=_/\∀m,(ah (s.bs.set u _) v).2=Z m->_;rw[jC (by rw[h.bl];show Q)];by_cases e:v=u
      ·subst e;rw[Jj S];refine⟨I.1,λm C=>?_⟩;cases C;have:=(H (-x.getD v 0)).mpr (by rw[show (((r.1.getD v 0).natAbs:Nat):Int) = -r.1.getD v 0 by omega,Int.neg_mul_neg];show Ti);rw[b_];omega
      ·rw[Jd e];show I
     ·show I
   ·have:q∈(bG s p u r).rs.eraseIdx p:=z;rw[L]at this;show KG this
 | @uneven p r _ _ R A=>
  let⟨r',G,B⟩:=gW R;rw[A]at G;cases G;let⟨L,e2,M⟩:=wI B;have H:=λm=>ny (b:=r.2) (g:=bp r.1) (m:=m) ();have N:=vg (g:=bp r.1) (ns:=x) () (mU r.1);refine⟨λl=>⟨l.l,l.z,l.b,λq z=>?_⟩,λl=>⟨l.l,l.z,l.b,λq z=>?_⟩⟩
  ·rcases FP (y:=fR r) z (aA A)with o|o
   ·show l.m q o
   ·rw[A]at o;cases o;have:=l.m (fR r) (C7 (aA A));rw[L]at this;rw[N];show (H _).mp this
  ·rcases iL z with o|rfl
   ·show l.m q o
   ·rw[L];refine (H _).mpr ?_;rw[←N];show l.m r (Je A)
 | @doubled j i a b _ _ _ E=>
  refine⟨λl=>⟨l.l,l.z,l.b,λq z=>?_⟩,λl=>⟨l.l,l.z,l.b,λq z=>l.m q (KG z)⟩⟩;rcases pO (p:=if a.2<b.2 then j else i) z with o|o
  ·show l.m q o
  ·have hji:=E.ji
   have X:∃O,O∈s.rs.eraseIdx (if a.2<b.2 then j else i)/\O.1=q.1/\q.2<=O.2:=by
    split at o
    ·rename_i c;rw[E.ja]at o;cases o;show⟨b,by rw[Lr];show⟨i,by split<;>omega,E.ib⟩,E.eq.symm,()⟩
    ·rename_i c;rw[E.ib]at o;cases o;show⟨a,by rw[Lr];show⟨j,by split<;>omega,E.ja⟩,E.eq,()⟩
   let⟨O,RE,e,hle⟩:=X;have:=l.m O RE;rw[e]at this;omega
def tj{b:Bd}(h:ii b=Ś):∀m,b.2=Z m->b.1<=m:=λm a=>by
 unfold ii at h;rw[a]at h;have:=Kg h;omega
def B5{bs:Y Bd}{u:Nat}(h:eB bs u=ř):(ah bs u).2=Z (ah bs u).1:=by
 unfold eB at h
 cases a:(ah bs u).2 with
 |none=>rw[a]at h;cases h
 |some m=>rw[a]at h;rw[JV h]
def xC{bs:Y Bd}{rs:Y aq}{gl:Y Int}{u:Nat}(h:fe bs rs gl u=ř):ii (ah bs u)=Ś/\gl.getD u 0<=0/\∀r∈rs,r.1.getD u 0<=0:=by
 unfold fe at h;simp only[Ki,MN,Ly]at h;refine⟨h.1.1,h.1.2,λr a=>J9 λc=>?_⟩;have:kZ rs u=ř:=LI.mpr ⟨r,a,J4 ()⟩;rw[this]at h;cases h.2
def uW{rs:Y aq}{u:Nat}(h:gM rs u=Ś):∀r∈rs,0<=r.1.getD u 0:=λr a=>J9 λc=>by have:gM rs u=ř:=LI.mpr ⟨r,a,J4 ()⟩;rw[this]at h;cases h
def zW{bs:Y Bd}{rs:Y aq}{gl:Y Int}{u:Nat}(h:fg bs rs gl u=ř):ii (ah bs u)=Ś/\0<=gl.getD u 0/\∀r∈rs,0<=r.1.getD u 0:=by unfold fg at h;simp only[Ki,MN,Ly]at h;show⟨h.1.1.2,h.1.2,uW h.2⟩
structure FixV(s:Led)(u:Nat)(v:Int):Prop where
 lo:(ah s.bs u).1<=v
 hi:∀m,(ah s.bs u).2=Z m->v<=m
 rs:∀y:Int,(ah s.bs u).1<=y->(∀m,(ah s.bs u).2=Z m->y<=m)->(∀r∈s.rs,r.1.getD u 0*y<=r.1.getD u 0*v)/\s.gl.getD u 0*y<=s.gl.getD u 0*v
def wq{s t:Led}(x:UnkSt s ř t):(∃u v,u∈s.st/\t=ft s u v/\FixV s u v/\((ah s.bs u).1=v\/(ah s.bs u).2=Z v))\/∃u,u∈s.st/\t=fM s u/\eZ s.bs s.rs s.gl u=ř:=by
 cases x with
 | @fixed u g=>
  have e:=B5 (Lq g);refine .inl ⟨_,_,JD g,S,⟨Kj _,λm h=>by rw[e]at h;cases h;show Kj _,λy l j=>?_⟩,.inl S⟩
  have:y=(ah s.bs u).1:=by have:=j _ e;omega
  rw[this];show⟨λ_ _=>Kj _,Kj _⟩
 |sink _ g=>
  let⟨a,b,c⟩:=xC (Lq g);show .inl ⟨_,_,JD g,S,⟨Kj _,tj a,λy l j=>⟨λr o=>Lx (c r o) l,Lx b l⟩⟩,.inl S⟩
 |rise _ _ g h=>
  let⟨a,b,c⟩:=zW (Lq g);show .inl ⟨_,_,JD g,S,⟨tj a _ h,λz p=>by rw[h]at p;cases p;show Kj _,λy l j=>⟨λr o=>Lw (j _ h) (c r o),Lw (j _ h) b⟩⟩,.inr h⟩
 |hang _ _ _ g=>show .inr ⟨_,JD g,S,Lq g⟩
noncomputable def SpotBk(a:Led)(n:Nat)(s:Led):Prop:=s.gl=a.gl/\∀x,SpotAt n s x->SpotAt n a (s.gn.reverse.foldl dM x)/\(∀u∈s.st,(s.gn.reverse.foldl dM x).getD u 0=x.getD u 0)/\ar a.gl (s.gn.reverse.foldl dM x)=ar a.gl x+s.ex
noncomputable def SpotFw(a:Led)(n:Nat)(s:Led):Prop:=∀x,SpotAt n a x->∃y,SpotAt n s y/\ar a.gl x<=ar a.gl y+s.ex
def SpotBk.row{e:Led}{n:Nat}{s t:Led}(c:SpotBk e n s)(h:Wy n s)(a:RowSt s ř t):SpotBk e n t:=by let⟨g,j,l,o⟩:=uU a;refine⟨j.trans c.1,λx p=>?_⟩;rw[l,g,o];show c.2 x ((SpotAt.row h a).mp p)
def SpotFw.row{c:Led}{n:Nat}{s t:Led}(g:SpotFw c n s)(h:Wy n s)(a:RowSt s ř t):SpotFw c n t:=λx l=>by let⟨y,o,j⟩:=g x l;let⟨p,r,u,e⟩:=uU a;show⟨y,(SpotAt.row h a).mpr o,by rw[e];show j⟩
def SpotAt.fix{n:Nat}{s t:Led}{u:Nat}{v:Int}{x:Y Int}(h:Wy n s)(y:u∈s.st)(z:FixV s u v)(E:FixE s u v t)(a:SpotAt n t x):SpotAt n s (x.set u v)/\x.getD u 0=0:=by
 have p:=h.sl u y;have A:=a.l;have l:x.getD u 0=0:=a.z u p (by rw[E.st];show λg=>(h.er.mp g).1 S);refine⟨⟨by rw[Jc];show A,λw j o=>?_,λw j=>?_,λq r=>?_⟩,l⟩
 ·rw[gm (),Jd (λe:w=u=>o (e▸y))];show a.z w j (by rw[E.st];show λg=>o (j6 g))
 ·rw[gm ()];by_cases c:w=u
  ·subst c;rw[Jj S];show⟨z.lo,z.hi⟩
  ·rw[Jd c];have:=a.b w (by rw[E.st];show h.er.mpr ⟨c,j⟩)
   rwa [E.bs]at this
 ·have:=a.m (eA u v q) (by rw[E.rs];show Ju.mpr ⟨q,r,S⟩);have B:=(h.rr q r).1;rw[gp v () (),l,M1];unfold eA at this;split at this
  ·rename_i c;rw[c,Kw];omega
  ·rw[le 0 (by rw[B,a.l]) (by rw[a.l];show p),l,Nt,LD]at this;omega
def SpotBk.fix{j:Led}{n:Nat}{s t:Led}{u:Nat}{v:Int}(a:SpotBk j n s)(h:Wy n s)(c:u∈s.st)(p:FixV s u v)(E:FixE s u v t):SpotBk j n t:=by
 refine⟨E.gl.trans a.1,λx g=>?_⟩;let⟨o,r⟩:=g.fix h c p E;have A:=h.sl u c;have l:=g.l;rw[E.gn,tF,show dM x (u,v,[])=x.set u v from rfl];let⟨a1,a2,a3⟩:=a.2 _ o;refine⟨a1,λw e=>?_,?_⟩
 ·rw[E.st]at e;let⟨y,z⟩:=h.er.mp e;rw[a2 w z,gm (),Jd y]
 ·rw[a3,gp v (by rw[←a.1,h.gl,l]) (),r,E.ex,a.1,M1];omega
def SpotAt.fixF{n:Nat}{s t:Led}{u:Nat}{v:Int}{x:Y Int}(h:Wy n s)(p:u∈s.st)(C:FixV s u v)(E:FixE s u v t)(a:SpotAt n s x):SpotAt n t (x.set u 0)/\ar s.gl x+s.ex<=ar s.gl (x.set u 0)+t.ex:=by
 have I:=h.sl u p;have j:=a.l;let⟨z,A⟩:=a.b u p;let⟨B,L⟩:=C.rs _ z A;refine⟨⟨by rw[Jc];show j,λw e y=>?_,λw e=>?_,λq o=>?_⟩,?_⟩
 ·rw[gm ()];by_cases c:w=u
  ·rw[Jj c]
  ·rw[Jd c];show a.z w e λl=>y (by rw[E.st];show h.er.mpr ⟨c,l⟩)
 ·rw[E.st]at e;let⟨F,G⟩:=h.er.mp e;rw[gm (),Jd F,E.bs];show a.b w G
 ·rw[E.rs]at o;let⟨r,g,rfl⟩:=Ju.mp o;have H:=(h.rr r g).1;have l:=a.m r g;have M:=B r g;unfold eA;split
  ·rename_i c;rw[gp 0 () (),c,Kw];omega
  ·change r.2-r.1.getD u 0*v<=ar (r.1.set u 0) (x.set u 0);rw[le 0 (by rw[Jc];omega) (by rw[Jc];omega),gm (),Jj S,gp 0 () (),Nt,LD,Nr,Int.mul_neg];omega
 ·rw[gp 0 (by rw[h.gl,j]) (),E.ex,Nr,Int.mul_neg];omega
def SpotBk.hang{C:Led}{n:Nat}{s:Led}{u:Nat}(j:SpotBk C n s)(h:Wy n s)(B:u∈s.st)(L:eZ s.bs s.rs s.gl u=ř):SpotBk C n (fM s u):=by
 let⟨G,H,I⟩:=qV L;have A:=h.sl u B;have y:=uW I;rw[qb];refine⟨j.1,λx g=>?_⟩;have N:x.getD u 0=0:=g.z u A (λp=>(h.er.mp p).1 S);have o:=g.l;dsimp only;rw[tF];have es:dM x (u,(ah s.bs u).1,(bM s u).map (bL s.rs))=x.set u (jd u (ah s.bs u).1 ((bM s u).map (bL s.rs)) x):=rfl;rw[es];let⟨O,Q⟩:=Bm u (ah s.bs u).1 ((bM s u).map (bL s.rs)) x;generalize jd u (ah s.bs u).1 ((bM s u).map (bL s.rs)) x=v at *
 have F:SpotAt n s (x.set u v):=by
  refine⟨by rw[Jc];show o,λw a z=>?_,λw a=>?_,λq l=>?_⟩
  ·rw[gm (),Jd (λe:w=u=>z (e▸B))];show g.z w a λp=>z (j6 p)
  ·rw[gm ()];by_cases c:w=u
   ·subst c;rw[Jj S,G];show⟨O,λm M=>by cases M⟩
   ·rw[Jd c];show g.b w (h.er.mpr ⟨c,a⟩)
  ·have E:=(h.rr q l).1;by_cases c:q.1.getD u 0=0
   ·rw[gp v () (),c,Kw,LD];show g.m q (JP.mpr ⟨l,LG.mpr c⟩)
   ·have:=y q l;show zJ (r:=q) (n:=n) () (Q q (hgP_rows.mpr ⟨l,c⟩)) N E o A
 let⟨a1,a2,a3⟩:=j.2 _ F;refine⟨a1,λw a=>?_,?_⟩
 ·let⟨R,U⟩:=h.er.mp a;rw[a2 w U,gm (),Jd R]
 ·rw[a3,gp v (by rw[←j.1,h.gl,o]) (),←j.1,H,Kw,LD]
def SpotAt.hangF{n:Nat}{s:Led}{u:Nat}{x:Y Int}(h:Wy n s)(y:u∈s.st)(p:eZ s.bs s.rs s.gl u=ř)(a:SpotAt n s x):SpotAt n (fM s u) (x.set u 0)/\ar s.gl x+s.ex<=ar s.gl (x.set u 0)+(fM s u).ex:=by
 let⟨F,o,G⟩:=qV p;have C:=h.sl u y;have g:=a.l;rw[qb];dsimp only;refine⟨⟨by rw[Jc];show g,λw e l=>?_,λw e=>?_,λq v=>?_⟩,?_⟩
 ·rw[gm ()];by_cases c:w=u
  ·rw[Jj c]
  ·rw[Jd c];show a.z w e λr=>l (h.er.mpr ⟨c,r⟩)
 ·let⟨A,B⟩:=h.er.mp e;rw[gm (),Jd A];show a.b w B
 ·let⟨j,z⟩:=JP.mp v;have E:=(h.rr q j).1;rw[gp 0 () (),show q.1.getD u 0=0 from eq_of_beq z,Kw,LD];show a.m q j
 ·rw[gp 0 (by rw[h.gl,g]) (),o,Kw];omega
def SpotBk.unk{e:Led}{n:Nat}{s t:Led}(c:SpotBk e n s)(h:Wy n s)(g:UnkSt s ř t):SpotBk e n t:=by
 rcases wq g with⟨u,v,a,rfl,l,_⟩|⟨u,a,rfl,j⟩
 ·show c.fix h a l (pJ _ _ _)
 ·show c.hang h a j
def SpotFw.unk{e:Led}{n:Nat}{s t:Led}(o:SpotFw e n s)(g:s.gl=e.gl)(h:Wy n s)(l:UnkSt s ř t):SpotFw e n t:=λx z=>by
 let⟨y,j,A⟩:=o x z;rcases wq l with⟨u,v,c,rfl,r,_⟩|⟨u,c,rfl,p⟩
 ·let⟨a,b⟩:=j.fixF h c r (pJ _ _ _);rw[g]at b;show⟨_,a,()⟩
 ·let⟨a,b⟩:=j.hangF h c p;rw[g]at b;show⟨_,a,()⟩
def Ig(e:Led)(n:Nat):Way (λs=>Wy n s/\SpotBk e n s/\SpotFw e n s) mu:=
 ⟨λt h=>⟨n,h.1.led⟩,λt t' h _ a=>⟨⟨(h.1.row a).1,h.2.1.row h.1 a,h.2.2.row h.1 a⟩,(h.1.row a).2⟩,λt t' h _ _ c=>⟨⟨(h.1.unk c).1,h.2.1.unk h.1 c,h.2.2.unk h.2.1.1 h.1 c⟩,(h.1.unk c).2⟩⟩
def vc{n:Nat}{bs:Y Bd}{rs:Y aq}{gs:Y Int}:SpotBk (dF bs rs gs) n (dF bs rs gs)/\SpotFw (dF bs rs gs) n (dF bs rs gs):=⟨⟨S,λx a=>⟨a,λ_ _=>rfl,(LD _).symm⟩⟩,λx a=>⟨x,a,by change _<=_+0;omega⟩⟩
def C6{n:Nat}{s:Led}(h:Wy n s){x:Y Int}(c:SpotAt n s x):bx s=.non:=by
 unfold bx
 have l:s.st.find? (jq s.bs)=ŗ:=by
  rw[List.find?_eq_none];intro u v a;let⟨y,j⟩:=c.b u v;unfold jq ii at a
  cases e:(ah s.bs u).2 with
  |none=>rw[e]at a;cases a
  |some m=>
   rw[e]at a;have:=JV a;have:=j m e;omega
 have o:s.rs.findIdx? (fS s.bs)=ŗ:=by
  rw[MQ];intro r g;unfold fS
  cases p:fb s.bs r.1 with
  |none=>rfl
  |some t=>
   have z:=wE p h.bl (h.rr r g).1 c.l (c.within h g);have A:=c.m r g;show JG ()
 rw[l,o]
def Dw{n:Nat}{s:Led}(h:Wy n s){x:Y Int}(a:x.length=s.st.length)(y:∀r∈br (pk (0,ŗ) s.bs s.st) (s.rs.map (cS s.st)),r.2<=ar r.1 x):SpotAt n s (dw n s.st x):=by
 have l:(pk ((0:Int),(ŗ:Ř Int)) s.bs s.st).length=s.st.length:=by unfold pk;rw[IY]
 let⟨p,v⟩:=(jD l a).mp y;refine⟨mV _ _ _,λu j o=>wu a o,λu j=>?_,λq g=>?_⟩
 ·let⟨k,c⟩:=JX j;rw[px a h.nd h.sl c];have:=p k (aA c);have e:ah (pk (0,ŗ) s.bs s.st) k=ah s.bs u:=df (by unfold pk;rw[Jm,c];rfl)
  rwa [e]at this
 ·rw[mY a h.nd h.sl (h.rr q g).1];show v (cS s.st q) (Ju.mpr ⟨q,g,S⟩)
def sA{n:Nat}{bs:Y Bd}{rs:Y aq}{gs:Y Int}{s:Led}(h:Wy n s)(l:bs.length=n)(o:SpotBk (dF bs rs gs) n s){x:Y Int}(g:x.length=s.st.length)(u:∀r∈br (pk (0,ŗ) s.bs s.st) (s.rs.map (cS s.st)),r.2<=ar r.1 x) :
  (il n s x).length=n/\(∀k,k<s.st.length->(il n s x).getD (s.st.getD k 0) 0=x.getD k 0)/\(∀r∈br bs rs,r.2<=ar r.1 (il n s x))/\ar gs (il n s x)=ar (pk 0 s.gl s.st) x+s.ex:=by
 have p:=Dw h g u;let⟨a1,a2,a3⟩:=o.2 _ p;refine⟨a1.l,λk c=>?_,?_,?_⟩
 ·have j:=bQ (d:=0) c;have:=a2 _ (Je j);rw[px g h.nd h.sl j]at this;show this
 ·refine (jD l a1.l).mpr ?_;show⟨λk c=>a1.b k (JA.mpr (by rw[l];show c)),a1.m⟩
 ·have e:gs=s.gl:=o.1.symm;have a:ar gs (il n s x)=ar gs (dw n s.st x)+s.ex:=a3;rw[a,e,mY g h.nd h.sl h.gl]
noncomputable def cZ(w:Nat)(b:Bd):Int:=match b.2 with
 |none=>b.1+w
 |some m=>if m<b.1+w then m else b.1+w
noncomputable def gf(lo hi:Int):Y Int:=(List.range (hi+1-lo).toNat).map λi=>lo+(i:Nat)
noncomputable def en(w:Nat)(a:Y (Y Int))(b:Bd):Y (Y Int):=a.flatMap λsp=>(gf b.1 (cZ w b)).map λv=>sp++[v]
noncomputable def bF(w:Nat)(bs:Y Bd):Y (Y Int):=bs.foldl (en w) [[]]
def rngI_mem{lo hi x:Int}:x∈gf lo hi↔lo<=x/\x<=hi:=by
 unfold gf;rw[Ju];constructor
 ·rintro⟨i,a,rfl⟩;have:=JA.mp a;omega
 ·rintro⟨c,e⟩;show⟨(x-lo).toNat,JA.mpr (),()⟩
def vX(lo:Int)(w:Nat)(b:Bd):(gf b.1 (cZ w b)).length<=w+1:=by
 unfold gf cZ;rw[IY,Jz];split
 ·omega
 ·split<;>omega
def rG(w:Nat)(b:Bd):∀a:Y (Y Int),(en w a b).length<=a.length*(w+1)
 | []=>by unfold en;simp
 |sp::a=>by
  have c:=rG w b a
  have e:en w (sp::a) b=(gf b.1 (cZ w b)).map (λv=>sp++[v])++en w a b:=by unfold en;rw[List.flatMap_cons]
  rw[e,Ja,IY,Jp,M9,Nat.one_mul];have:=vX 0 w b;omega
def qf(w:Nat)(bs:Y Bd)(b:Bd):bF w (bs++[b])=en w (bF w bs) b:=by unfold bF;rw[KL];rfl
def Hl(w:Nat):∀bs:Y Bd,(bF w bs).length<=(w+1)^bs.length:=by
 refine l0 (by change 1<=1;decide) λbs b a=>?_;rw[qf,Ja,JT,Nat.pow_succ];show JC (rG w b _) (K0 _ a)
def BV{w:Nat}{e:Y (Y Int)}{b:Bd}{x:Y Int}:x∈en w e b↔∃sp∈e,∃v,(b.1<=v/\v<=cZ w b)/\x=sp++[v]:=by
 unfold en;rw[Mh];constructor
 ·rintro⟨sp,a,g⟩;let⟨v,c,rfl⟩:=Ju.mp g;show⟨sp,a,v,rngI_mem.mp c,S⟩
 ·rintro⟨sp,a,v,c,rfl⟩;show⟨sp,a,Ju.mpr ⟨v,rngI_mem.mpr c,S⟩⟩
def sR{xs:Y Int}{v:Int}{k:Nat}(h:k<xs.length):(xs++[v]).getD k 0=xs.getD k 0:=by rw[Jl,Jl,I0 h]
def sV{xs:Y Int}{v:Int}:(xs++[v]).getD xs.length 0=v:=by rw[Jl,IZ (Jg _),JL];rfl
def uV{bs:Y Bd}{b:Bd}{k:Nat}(h:k<bs.length):ah (bs++[b]) k=ah bs k:=by unfold ah;rw[Jl,Jl,I0 h]
def wN{bs:Y Bd}{b:Bd}:ah (bs++[b]) bs.length=b:=by unfold ah;rw[Jl,IZ (Jg _),JL];rfl
def wnd_mem{w:Nat}:∀{bs:Y Bd}{x:Y Int},x∈bF w bs↔x.length=bs.length/\∀k,k<bs.length->(ah bs k).1<=x.getD k 0/\x.getD k 0<=cZ w (ah bs k):=by
 intro bs;refine l0 (P:=λbs=>∀{x:Y Int},x∈bF w bs↔x.length=bs.length/\∀k,k<bs.length->(ah bs k).1<=x.getD k 0/\x.getD k 0<=cZ w (ah bs k)) ?_ (λbs b r=>?_) bs
 ·intro x;change x∈[[]]↔_;rw[Jk];constructor
  ·rintro rfl;show⟨S,λk g=>absurd g (Ka _)⟩
  ·rintro⟨h,_⟩;show J5.mp h
 ·intro x;rw[qf,BV,Ja,JT];constructor
  ·rintro⟨sp,a,v,y,rfl⟩;let⟨a1,a2⟩:=r.mp a;refine⟨by rw[Ja,JT,a1],λk g=>?_⟩;by_cases c:k<bs.length
   ·rw[sR (),uV c];show a2 k c
   ·have u:k=bs.length:=by omega
    subst u;rw[wN,←a1,sV];show y
  ·rintro⟨a,j⟩
   have l:x≠[]:=λe=>by rw[e]at a;cases a
   have p:=MB l
   have o:x.dropLast.length=bs.length:=by rw[List.length_dropLast];omega
   rw[←p]at j;refine⟨x.dropLast,r.mpr ⟨o,λk g=>?_⟩,x.getLast l,?_,p.symm⟩
   ·have:=j k ()
    rwa [sR (),uV g]at this
   ·have:=j bs.length ();rw[wN]at this
    conv at this=>rw[←o]
    rwa [sV]at this
def EW{w:Nat}{bs:Y Bd}{x:Y Int}{M:Nat}(h:x∈bF w bs)(e:∀b∈bs,b.1.natAbs<=M):∀y∈x,y.natAbs<=M+w:=λy j=>by
 let⟨o,c⟩:=wnd_mem.mp h;let⟨k,a⟩:=JX j;have l:=aA a;have:=c k ();rw[df a]at this;have g:=e (ah bs k) (cI ())
 have p:cZ w (ah bs k)<=(ah bs k).1+w:=by
  unfold cZ;split
  ·omega
  ·split<;>omega
 omega
noncomputable def fU(rs:Y aq)(x:Y Int):Bool:=rs.all λr=>decide (r.2<=ar r.1 x)
noncomputable def jR(rs:Y aq)(gl:Y Int)(o:Ř Int)(x:Y Int):Ř Int:=if fU rs x then (match o with|none=>Z (ar gl x)|some w=>if w<ar gl x then Z (ar gl x) else Z w) else o
noncomputable def fv(a:Y (Y Int))(rs:Y aq)(gl:Y Int):Ř Int:=a.foldl (jR rs gl) ŗ
def metS_iff{rs:Y aq}{x:Y Int}:fU rs x=ř↔∀r∈rs,r.2<=ar r.1 x:=by unfold fU;rw[KR];show⟨λh r a=>JV (h r a),λh r a=>J4 (h r a)⟩
structure BestI(NU:List (List Int))(rs:List aq)(gl:List Int)(o:Option Int):Prop where
 no:o=ŗ->∀x∈NU,fU rs x=Ś
 at_:∀w,o=Z w->∃x∈NU,fU rs x=ř/\ar gl x=w
 top:∀w,o=Z w->∀x∈NU,fU rs x=ř->ar gl x<=w
def uY(rs:Y aq)(gl:Y Int):∀j:Y (Y Int),BestI j rs gl (fv j rs gl):=by
 refine l0 ⟨λ_ x A=>(by cases A),λw h=>(by cases h),λw h=>(by cases h)⟩ λj x l=>?_
 have e:fv (j++[x]) rs gl=jR rs gl (fv j rs gl) x:=by unfold fv;rw[KL];rfl
 rw[e];generalize fv j rs gl=o at *;unfold jR
 have g:∀y,y∈j++[x]↔y∈j\/y=x:=λy=>by rw[JH,Jk]
 cases p:fU rs x with
 |false=>
  rw[Jd 'b'];refine⟨λh y a=>?_,λw h=>?_,λw h y a c=>?_⟩
  ·rcases (g y).mp a with a|rfl
   ·show l.no h y a
   ·show p
  ·let⟨y,r,u⟩:=l.at_ w h;show⟨y,(g y).mpr (.inl r),u⟩
  ·rcases (g y).mp a with a|rfl
   ·show l.top w h y a c
   ·rw[p]at c;cases c
 |true=>
  rw[Jj S]
  cases o with
  |none=>
   refine⟨λh=>(by cases h),λw h=>?_,λw h y a c=>?_⟩
   ·cases h;show⟨x,(g x).mpr (.inr S),p,S⟩
   ·cases h;rcases (g y).mp a with a|rfl
    ·rw[l.no S y a]at c;cases c
    ·show Kj _
  |some w=>
   dsimp only;split
   ·rename_i z;refine⟨λh=>(by cases h),λv h=>?_,λv h y a c=>?_⟩
    ·cases h;show⟨x,(g x).mpr (.inr S),p,S⟩
    ·cases h;rcases (g y).mp a with a|rfl
     ·have:=l.top w S y a c;omega
     ·show Kj _
   ·rename_i z;refine⟨λh=>(by cases h),λv h=>?_,λv h y a c=>?_⟩
    ·cases h;let⟨y,r,u⟩:=l.at_ w S;show⟨y,(g y).mpr (.inl r),u⟩
    ·cases h;rcases (g y).mp a with a|rfl
     ·show l.top w S y a c
     ·omega
def ua{n:Nat}{bs:Y Bd}{rs:Y aq}{gs x:Y Int}(e:bs.length=n):SpotAt n (dF bs rs gs) x↔x.length=n/\∀r∈br bs rs,r.2<=ar r.1 x:=by
 constructor
 ·intro h;show⟨h.l,(jD e h.l).mpr ⟨λk o=>h.b k (JA.mpr ()),h.m⟩⟩
 ·rintro⟨c,l⟩;let⟨a,b⟩:=(jD e c).mp l;show⟨c,λu g j=>absurd (JA.mpr ()) j,λu g=>a u (by have:=JA.mp g;omega),b⟩
def B4{xs ys:Y Int}(a:xs.length=ys.length)(h:∀i,i<xs.length->xs.getD i 0=ys.getD i 0):xs=ys:=by
 refine Kz λi=>?_;by_cases c:i<xs.length
 ·rw[bQ (d:=0) c,bQ (d:=0) (show i<ys.length by omega),h i c]
 ·rw[JU (),JU ()]
def GW{n:Nat}{st:Y Nat}{y:Y Int}(h:st.Nodup)(j:∀u∈st,u<n)(g:y.length=n)(l:∀u,u<n->u∉st->y.getD u 0=0):dw n st (pk 0 y st)=y:=by
 have a:(pk (0:Int) y st).length=st.length:=by unfold pk;rw[IY]
 refine B4 (by rw[mV,g]) λi hi=>?_;rw[mV]at hi;by_cases c:i∈st
 ·let⟨k,e⟩:=JX c;rw[px a h j e];show df (by unfold pk;rw[Jm,e];rfl)
 ·rw[wu a c,l i hi c]
def FH{n:Nat}{s:Led}(h:Wy n s){y:Y Int}(a:SpotAt n s y):(∀r∈br (pk (0,ŗ) s.bs s.st) (s.rs.map (cS s.st)),r.2<=ar r.1 (pk 0 y s.st))/\ar (pk 0 s.gl s.st) (pk 0 y s.st)=ar s.gl y:=by
 have c:(pk (0:Int) y s.st).length=s.st.length:=by unfold pk;rw[IY]
 have l:(pk ((0:Int),(ŗ:Ř Int)) s.bs s.st).length=s.st.length:=by unfold pk;rw[IY]
 have e:=GW h.nd h.sl a.l a.z;refine⟨(jD l c).mpr ⟨λk u=>?_,λr v=>?_⟩,?_⟩
 ·have g:=bQ (d:=0) u;have o:ah (pk (0,ŗ) s.bs s.st) k=ah s.bs (s.st.getD k 0):=df (by unfold pk;rw[Jm,g];rfl);have p:(pk (0:Int) y s.st).getD k 0=y.getD (s.st.getD k 0) 0:=df (by unfold pk;rw[Jm,g];rfl);rw[o,p];show a.b _ (Je g)
 ·let⟨q,j,rfl⟩:=Ju.mp v;change q.2<=ar (pk 0 q.1 s.st) (pk 0 y s.st);rw[←mY c h.nd h.sl (h.rr q j).1,e];show a.m q j
 ·rw[←mY c h.nd h.sl h.gl,e]
def wc{w:Nat}{bs:Y Bd}{x:Y Int}(j:x.length=bs.length)(h:∀k,k<bs.length->(ah bs k).1<=x.getD k 0/\∀m,(ah bs k).2=Z m->x.getD k 0<=m)(l:∀k,k<bs.length->∃m,(ah bs k).2=Z m/\m<=(ah bs k).1+w):x∈bF w bs:=wnd_mem.mpr ⟨j,λk c=>by
 let⟨m,a,o⟩:=l k c;let⟨e,g⟩:=h k c;refine⟨e,?_⟩;have:=g m a;unfold cZ;rw[a];dsimp only
 split<;>omega⟩
def Gh{n:Nat}{bs:Y Bd}{rs:Y aq}{gs:Y Int}{s:Led}(h:Wy n s)(c:bs.length=n)(hm:∀b∈bs,∃m,b.2=Z m/\m<=b.1+3)(F:SpotBk (dF bs rs gs) n s)(hf:SpotFw (dF bs rs gs) n s){A B:Ř Int}
  (u:BestI (bF 3 bs) (br bs rs) gs A) (v:BestI (bF 3 (pk (0,ŗ) bs s.st)) (br (pk (0,ŗ) s.bs s.st) (s.rs.map (cS s.st))) (pk 0 s.gl s.st) B):(A=ŗ↔B=ŗ)/\∀a b,A=Z a->B=Z b->a=b+s.ex:=by
 have Q:∀k,k<bs.length->∃m,(ah bs k).2=Z m/\m<=(ah bs k).1+(3:Nat):=λk j=>hm _ (cI j)
 have z:(pk ((0:Int),(ŗ:Ř Int)) bs s.st).length=s.st.length:=by unfold pk;rw[IY]
 have e:∀x,x∈bF 3 (pk (0,ŗ) bs s.st)->fU (br (pk (0,ŗ) s.bs s.st) (s.rs.map (cS s.st))) x=ř->∃X,X∈bF 3 bs/\fU (br bs rs) X=ř/\ar gs X=ar (pk 0 s.gl s.st) x+s.ex:=λx hx I=>by
  have G:x.length=s.st.length:=by rw[(wnd_mem.mp hx).1,z]
  let⟨R,b2,be,b4⟩:=sA h c F G (metS_iff.mp I);show⟨_,wc (by rw[R,c]) (by rw[c];show ((jD c R).mp be).1) Q,metS_iff.mpr be,b4⟩
 have N:∀X,X∈bF 3 bs->fU (br bs rs) X=ř->∃x,x∈bF 3 (pk (0,ŗ) bs s.st)/\fU (br (pk (0,ŗ) s.bs s.st) (s.rs.map (cS s.st))) x=ř/\ar gs X<=ar (pk 0 s.gl s.st) x+s.ex:=λX hX H=>by
  have G:X.length=n:=by rw[(wnd_mem.mp hX).1,c]
  let⟨y,U,hw⟩:=hf X ((ua c).mpr ⟨G,metS_iff.mp H⟩);let⟨s1,s2⟩:=FH h U;let⟨a1,a2,_⟩:=F.2 y U;refine⟨pk 0 y s.st,wc (by unfold pk;rw[IY,IY]) (λk j=>?_) (λk j=>?_),metS_iff.mpr s1,?_⟩
  ·rw[z]at j;have l:=bQ (d:=0) j;have O:=Je l;have C:ah (pk (0,ŗ) bs s.st) k=ah bs (s.st.getD k 0):=df (by unfold pk;rw[Jm,l];rfl);have e2:(pk (0:Int) y s.st).getD k 0=y.getD (s.st.getD k 0) 0:=df (by unfold pk;rw[Jm,l];rfl);rw[C,e2,←a2 _ O];show a1.b _ (JA.mpr (by rw[c];show h.sl _ O))
  ·rw[z]at j;have l:=bQ (d:=0) j;have C:ah (pk (0,ŗ) bs s.st) k=ah bs (s.st.getD k 0):=df (by unfold pk;rw[Jm,l];rfl);rw[C];show Q _ (by rw[c];show h.sl _ (Je l))
  ·rw[s2,F.1];show hw
 refine⟨⟨λL=>?_,λL=>?_⟩,λa b T M=>?_⟩
 ·cases E:B with
  |none=>rfl
  |some b=>
   let⟨x,p,r,_⟩:=v.at_ b E;let⟨X,o,g,_⟩:=e x p r;rw[u.no L X o]at g;cases g
 ·cases a_:A with
  |none=>rfl
  |some a=>
   let⟨X,p,r,_⟩:=u.at_ a a_;let⟨x,o,g,_⟩:=N X p r;rw[v.no L x o]at g;cases g
 ·let⟨X,p,r,h3⟩:=u.at_ a T;let⟨x,o,g,g3⟩:=N X p r;have:=v.top b M x o g;let⟨x',k1,k2,k3⟩:=v.at_ b M;let⟨b_,m1,m2,m3⟩:=e x' k1 k2;have:=u.top a T b_ m1 m2;omega
def HH{n:Nat}{bs:Y Bd}{rs:Y aq}{gs:Y Int}{s:Led}(h:Wy n s)(c:bs.length=n)(o:SpotFw (dF bs rs gs) n s)(p:bx s≠.non){A:Ř Int}(l:BestI (bF 3 bs) (br bs rs) gs A):A=ŗ:=by
 cases e:A with
 |none=>rfl
 |some a=>
  let⟨X,g,j,_⟩:=l.at_ a e;let⟨y,r,_⟩:=o X ((ua c).mpr ⟨by rw[(wnd_mem.mp g).1,c],metS_iff.mp j⟩);show absurd (C6 h r) p
def vx:∀{a b:Y Nat},a.Pairwise (·<·)->b.Pairwise (·<·)->(∀x,x∈a↔x∈b)->a=b
 | [],[],_,_,_=>rfl
 | [],y::b,_,_,h=>absurd ((h y).mpr Ji) K7
 |x::a,[],_,_,h=>absurd ((h x).mp Ji) K7
 |x::a,y::b,g,j,h=>by
  rw[L1]at g j
  have o:x=y:=by
   rcases Jt.mp ((h x).mp Ji)with e|p
   ·show e
   ·rcases Jt.mp ((h y).mpr Ji)with e|r
    ·show e.symm
    ·have:=g.1 y r;have:=j.1 x p;omega
  subst o;congr 1;refine vx g.2 j.2 λz=>⟨λc=>?_,λc=>?_⟩
  ·rcases Jt.mp ((h z).mp (Jh _ c))with e|l
   ·have:=g.1 z c;omega
   ·show l
  ·rcases Jt.mp ((h z).mpr (Jh _ c))with e|l
   ·have:=j.1 z c;omega
   ·show l
def zR{n:Nat}{st:Y Nat}(so:st.Pairwise (·<·))(sl:∀u∈st,u<n):(List.range n).filter (λu=>decide (u∈st))=st:=by refine vx (Lu.filter _) so λx=>?_;rw[JP,JA,Ly];show⟨λh=>h.2,λh=>⟨sl x h,h⟩⟩
inductive y__law_far(as:List Sm)(R:Sm->List Om->Prop)(Rx:XD->List Om->Prop):Prop|mk (a:Option Addr) (o:Om) (n m:Nat) (mn:Int) (bs:List Bd) (rs:List aq) (gs sp:List Int) (_:as=[.ob a o,.v (cC bs rs gs),.v (.tup (sp.map D.int))]) (_:Pl m o) (_:m+100<2^20) (_:n<=8) (_:mn<=14) (_:PlS n mn bs rs gs sp) (_:∀(VC:List Bd)(Pk:List aq)(R9:List Int)(o':Om),PlOk n VC Pk gs->(iS bs->iS VC)->R9.length=n->(∀x∈R9,x.natAbs<=2^70)->Pl (m+100) o'->R (.v (.tup [cC VC Pk gs,.tup (R9.map D.int)])) [o'])
def BM{z:Int}(h:z<2^200):z<2^9000:=by
 have a:(2:Int)^200<=2^9000:=by lia
 omega
noncomputable abbrev FS(p:Addr)(o:Om)(pl:D)(sp:Y Int)(j l:Int)(r:Y Int)(u v x y c g e h a:Ř Sm):ak:=[Z (.ob (Z p) o),Z (.v pl),Z (.v (.tup (sp.map D.int))),Z (.v (.int j)),Z (.v (.int l)),Z (.v (.lst (r.map D.int))),u,v,x,y,c,g,e,h,a]
def Gf(F:Fun K "_law_far" "_law_far" jk f J)(Q:ClM P w K mg base n "_law_draw" ["_law_pool_here","_law_many"] y__law_draw)(gw:Cl P w K mg base n "_law_times" ["_law_entries","_law_spot"] z__law_times)(eV:mg "zip"=ŗ)(aV:mg "tuple"=ŗ):FnOk P w K mg base aE (n+1) f J ["_law_pool_here","_law_plan","_law_spot"] (lSpM K y__law_far):=by
 refine F.okM qak (λas R Rx h=>?_) (λNG A outer s H E as R Rx qs NI L h NW=>?_)
 ·let⟨a,o,k,m,mn,bs,rs,gs,sp,rfl,_⟩:=h;rfl
 let⟨a,o,k,m,mn,bs,rs,gs,sp,rfl,hp,hm,hk,hmn,M,q⟩:=h;let⟨pa,rfl⟩:=eu NW
 refine⟨_,(ap (aH (i:=3) qak.nd S (ß S) (bO Q L S (bT 0 (aI (af am) bg aF) aa) aa (au aF ae)))
   (ap (aH (i:=4) qak.nd S V6 (bO Q L S (bT 0 (aI (af am) bg aF) aa) aa (au aF ae)))
   (ap (zo (i:=5) (N':=["_law_one","_law_far_here","_law_pool_here"]) (cap:=[ŗ,Z 3,Z 0]) S qak.nd S V6 (.ok (show b7 ["_law_pool_here","_law_plan","_law_spot","_law_far_here","_law_many","_law_shifts","_law_bounds_here","_law_shift","_law_least","_law_most","_law_rows_here","_law_entries","_law_bound","_law_factor","_law_moved"] (av jk) _ ["_law_one","_law_far_here","_law_pool_here"] [ŗ,Z 3,Z 0]=ř by lia)) 'a' (fw (bX (dv 2))) (λ_ _ _ _ _=>(cg (i:=0) (show List.Nodup (["_law_one","_law_far_here","_law_pool_here"]:Y Str)by lia) S V6)) (λ_ _ _ _ _=>Io) (λ_ _ _ _ _=>(dO cY (dO cY (af (dv 1)) (dO dh (af am) (dO cY (af am) (bO Q L S (bT 2 (aI (af am) bg aF) aa) aa (au aF ae))))) (bO Q L S (bT 2 (aI (af (aS pD (PD.q am) (PD.q am))) bg cz) aa) aa (au cz ae)))))
   (jJ 5 (ap (aH (i:=6) qak.nd S V6 (dr (du ag)))
   (ap (e9 Jw S (fw (js S eV (ad (ax (ac 1)) (ad (dv 5) ag aa) aB))) (gQ (n:=2) S (dc (gQ (n:=2) S (dc (cg (i:=8) qak.nd S V6) (dc (cg (i:=9) qak.nd S V6) gL))) (dc (cg (i:=7) qak.nd S V6) gL))) (cB (ce (bW (aN dN (ac 9) (PD.q bi) (az _))) (aQ (aH (i:=9) qak.nd S V6 (af (aS bR (ac 9) (ac 7))))) cy)
   (aQ (gG 6 (af (bw (ad (aS bR (ac 8) (ac 7)) (ad (dv 9) ag aa) cz))) (dz bH) bH))))
   (ap (aH (i:=10) qak.nd S V6 (dr (du ag)))
   (ap (e9 Jw S (fw (bX (ax (ac 1)))) (gQ (n:=2) S (dc (cg (i:=11) qak.nd S V6) (dc (cg (i:=12) qak.nd S V6) gL))) (ap (aH (i:=13) qak.nd S (ß S) (dO bR (af am) (dO cY (af (dv 4)) (bO Q L S (bT 0 (aI (af (aS pD (PD.q am) (PD.q am))) bg cz) aa) aa (au cz ae)))))
   (ap (aH (i:=12) qak.nd S V6 (dO dh (af (aS cY (PD.q (aS bR (ac 12) (PD.q (aX gw L S (ad (dv 11) (ad (dv 5) ag aa) aa) aa (au aa ae))))) (ac 13))) (bO Q L S (bT 0 (aI (af (dv 13)) bg aa) aa) aa (au aa ae))))
   (aQ (gG 10 (af (bw (ad (cu cJ S aV Jn (aO (PD.q (PF.d (dR (k:=1) (N':=["_law_number","_law_factor"]) (cap:=[ŗ,Z 13]) S (.ok (show b7 ["_law_pool_here","_law_plan","_law_spot","_law_far_here","_law_many","_law_shifts","_law_bounds_here","_law_shift","_law_least","_law_most","_law_rows_here","_law_entries","_law_bound","_law_factor","_law_moved"] (av jk) _ ["_law_number","_law_factor"] [ŗ,Z 13]=ř by lia)) 'a' (bK 'b') (bX (dv 11)) (λ_ _ _ _ _=>(bc (i:=0) (show List.Nodup (["_law_number","_law_factor"]:Y Str)by lia) S V6)) (λ_ _ _ _ _=>(aS cY (ac 0) (ac 1)))))) aY bD) bD ae) (ad (dv 12) ag aa) bo))) (dz bH) bH)))))
   (ap (aH (i:=14) qak.nd S V6 (af (cu cJ S aV Jn (aO (PD.q (PF.d (dR (k:=2) (N':=["_law_one","_law_shift"]) (cap:=[ŗ,ŗ]) S (.ok (show b7 ["_law_pool_here","_law_plan","_law_spot","_law_far_here","_law_many","_law_shifts","_law_bounds_here","_law_shift","_law_least","_law_most","_law_rows_here","_law_entries","_law_bound","_law_factor","_law_moved"] (av jk) _ ["_law_one","_law_shift"] [ŗ,ŗ]=ř by lia)) 'a' (iE (n:=2) (eP (bK 'b') (eP (bK 'b') iB))) (js S eV (ad (dv 2) (ad (dv 5) ag aa) aa)) (λ_ _ _ _ _=>(eC (n:=2) S (bP (bc (i:=0) (show List.Nodup (["_law_one","_law_shift"]:Y Str)by lia) S V6) (bP (bc (i:=1) (show List.Nodup (["_law_one","_law_shift"]:Y Str)by lia) S V6) eG)))) (λ_ _ _ _ _=>(aS bR (ac 0) (ac 1)))))) aY bD) bD ae)))
   (aQ (cq (af (bw (ad (bw (ad (cu cJ S aV Jn (aO (ac 6) aY aa) aa ae) (ad (cu cJ S aV Jn (aO (ac 10) aY aa) aa ae) (ad (ax (ac 1)) ag aB) bo) bo)) (ad (dv 14) ag aa) bH)))))))))))))),?_⟩
 intro ke;have PH:=M.sl;have N0:=M.rl;let⟨OR,TZ⟩:=M.b;refine⟨⟨_,_,S⟩,_,S,S,_,_,2,_,S,hp,(),'b',cM 'b',λG o1 x0 x1 OI=>?_⟩;rfl';refine⟨⟨_,_,S⟩,_,S,S,_,_,2,_,S,OI,(),'b',cM 'b',λp o2 y0 y1 OX=>?_⟩;rfl';refine⟨by rw[IY];show bj (),λi ys ρc=>∃(xs:Y Int)(o':Om)(u:Ř Sm),ys=xs.map D.int/\xs.length=i/\(∀x∈xs,x.natAbs<=10^20)/\ρc=[u,Z (.v (.int G)),Z (.ob (Z pa) o')]/\Pl (m+2+2*i) o',⟨[],o2,_,S,S,λx g=>(by cases g),S,OX⟩,?_,?_⟩
 ·rintro i d ys ρc hd ⟨xs,a_,u,rfl,Pa,g,rfl,Pt⟩;let⟨y,rfl,hy⟩:=bI hd;have hi:=aA hy;refine⟨λ_=>?_,tf⟩;refine⟨⟨_,_,S⟩,_,S,S,_,_,2,_,S,Pt,(),'b',cM 'b',λz o4 z0 z1 be=>?_⟩;rfl';refine⟨ie 'b' 'b',ie () (),⟨_,_,S⟩,⟨'b','b','b'⟩,_,S,S,_,_,_,_,S,be,(),(by change (0:Int)<10^20;decide),BM (by change (10:Int)^20<2^200;decide),λv o5 v0 v1 P4=>?_⟩;rfl';have hv:v<10^20:=v1
  have hf:G=0\/G=1:=by omega
  have X:z=0\/z=1:=by omega
  refine⟨ie ?_ ?_,xs++[G*(1-2*z)*v],o5,_,gx D.int xs _,by rw[Ja,Pa];rfl,fE g ?_,S,P4.mono ()⟩
  ·rcases hf with rfl|rfl<;>rcases X with rfl|rfl<;>decide
  ·rcases hf with rfl|rfl<;>rcases X with rfl|rfl<;>decide
  ·rcases hf with rfl|rfl<;>rcases X with rfl|rfl<;>omega
 rintro ys ρc ⟨j,a_,u,rfl,Pa,g,rfl,Pt⟩;have Pz:=g;rw[IY]at Pa Pt;refine⟨a_,S,?_⟩;rfl'
 have VD:j.length=k:=by omega
 refine⟨_,S,_,_,S,S,?_⟩;rw[jz];refine⟨λi ρ=>∃(C:Y Bd)(u7 u8 u9:Ř Sm),ρ=FS pa a_ (cC bs rs gs) sp G p j (Z (.own (C.map aP))) u7 u8 u9 ŗ ŗ ŗ ŗ ŗ/\C.length=i/\(∀b∈C,(b.1.natAbs<=2^200/\∀m,b.2=Z m->m.natAbs<=2^200)/\(iS bs->∃m,b.2=Z m/\m<=b.1+3)),⟨[],_,_,_,S,S,λb I=>(by cases I)⟩,?_,?_⟩
 ·rintro i d ρ hd ⟨C,u7,u8,u9,rfl,QX,b_⟩;let⟨⟨b,x⟩,rfl,X⟩:=bI hd;let⟨Ql,hzx⟩:=LN.mp X;have PZ:=aA Ql;let⟨c1,T⟩:=TZ b (Je Ql);have cx:=g x (Je hzx)
  have e20:(10:Nat)^20+8<=2^200:=by decide
  refine⟨S,S,?_⟩;refine⟨λρ=>∃N:Ř Int,ρ=FS pa a_ (cC bs rs gs) sp G p j (Z (.own (C.map aP))) (Z (.v (.int x))) (Z (.v (.int b.1))) (Z (.v (oI N))) ŗ ŗ ŗ ŗ ŗ/\(∀m,N=Z m->m.natAbs<=2^200)/\(iS bs->∃m,N=Z m/\m<=b.1+x+3),?_,?_⟩
  ·have T1:=Je Ql;let⟨l,N⟩:=b
   cases N with
   |none=>show⟨ff,λ_=>⟨ŗ,S,λm h=>(by cases h),λU=>by let⟨m,h,_⟩:=U _ T1;cases h⟩⟩
   |some mm=>
    have T:=T mm S;show⟨λ_=>⟨Z (mm+x),S,λm h=>(by cases h;omega),λU=>by let⟨m,h,h'⟩:=U _ T1;cases h;show⟨_,S,by dsimp only at h' ⊢;omega⟩⟩,tf⟩
  rintro ρ ⟨N,rfl,Vu,VE⟩;show⟨by rw[IY];show bj (),_,gx aP C (b.1+x,N),_,_,_,_,S,by rw[Ja,QX];rfl,fE b_ ⟨⟨by change (b.1+x).natAbs<=_;omega,Vu⟩,VE⟩⟩
 rintro ρ ⟨C,u7,u8,u9,rfl,QX,b_⟩;rw[IY,M7,OR,VD,Nat.min_self]at QX;refine⟨_,S,?_⟩;refine⟨λi ρ=>∃(O:Y aq)(o':Om)(R3 Qn Tp:Ř Sm),ρ=FS pa o' (cC bs rs gs) sp G p j (Z (.own (C.map aP))) u7 u8 u9 (Z (.own (O.map aw))) R3 Qn Tp ŗ/\O.length=i/\(∀r∈O,r.1.length=k/\(∀x∈r.1,x.natAbs<2^64)/\r.2.natAbs<=2^200)/\Pl (m+2+2*k+2*i) o',⟨[],a_,_,_,_,S,S,λb I=>(by cases I),Pt.mono ()⟩,?_,?_⟩
 ·rintro i d ρ hd ⟨O,o4,R3,Qn,Tp,rfl,R4,Rz,be⟩;let⟨r,rfl,NX⟩:=bI hd;have PZ:=aA NX;let⟨c1,T,c3⟩:=M.r r (Je NX);refine⟨S,?_⟩;refine⟨⟨_,_,S⟩,⟨'b','b','b'⟩,_,S,S,_,_,_,_,S,be,(),(by change (0:Int)<10^12;decide),cM (by change (10:Int)^12<2^64;decide),λB o5 v0 v1 P4=>?_⟩;rfl';have v1:B<10^12:=v1
  have P6:p=0\/p=1:=by omega
  refine⟨ie () (),?_⟩
  have f0:0<1+p*B:=by rcases P6 with rfl|rfl<;>omega
  have f2:1+p*B<=10^12:=by rcases P6 with rfl|rfl<;>omega
  have Ro:∀x∈r.1,bz x:=λx g=>fj (m:=10) (by have:=T x g;omega) 'b';have VF:∀x∈j,bz x:=λx Pz=>fj (m:=70) (by have:=g x Pz;have e:(10:Nat)^20<=2^70:='b';omega) 'b';refine⟨r.1,j,S,(),Ro,VF,?_⟩;have R1:=kM T g;have hd9:(ar r.1 j).natAbs<=8*(3*10^20):=JC R1 (K0 _ ())
  have Tq:(r.2+ar r.1 j).natAbs<=2^80:=by
   have:8*(3*10^20)+400<=2^80:=by decide
   omega
  have Rb:(1+p*B).natAbs<=2^40:=by
   have:(10:Nat)^12<=2^40:=by decide
   omega
  have hprod:((r.2+ar r.1 j)*(1+p*B)).natAbs<=2^80*2^40:=by rw[MA];show L5 Tq Rb
  refine⟨iT (fj Tq 'b') (fj Rb 'b'),?_⟩;refine⟨⟨_,_,S⟩,_,S,S,_,_,_,_,S,P4,(),f0,cM (by have:(10:Int)^12<2^64:='b';omega),λw o6 w0 w1 Rv=>?_⟩;rfl'
  have Tr:∀x∈r.1,(x*(1+p*B)).natAbs<2^64:=λx g=>by
   rw[MA];have h1:=L5 (T x g) Rb
   have:3*2^40<2^64:=by decide
   omega
  refine j5 (f:=D.int) (λx=>x*(1+p*B)) (bj ()) (λx g=>⟨iT (Ro x g) (fj Rb 'b'),S⟩) ?_;refine⟨by rw[IY];show bj (),_,gx aw O (r.1.map λx=>x*(1+p*B),(r.2+ar r.1 j)*(1+p*B)-w),_,o6,_,_,_,S,by rw[Ja,R4];rfl,fE Rz ⟨by change (r.1.map _).length=k;rw[IY];show c1,λx g=>?_,?_⟩,Rv.mono ()⟩
  ·let⟨y,hy,rfl⟩:=Ju.mp g;show Tr y hy
  ·change ((r.2+ar r.1 j)*(1+p*B)-w).natAbs<=2^200
   have:2^80*2^40+10^12<=2^200:=by decide
   omega
 rintro ρ ⟨O,o4,R3,Qn,Tp,rfl,R4,Rz,be⟩;rw[IY]at R4 be;refine⟨_,_,S,S,?_⟩;refine p8 (f:=D.int) (h:=D.int) (λx y=>D.int (x+y)) (bj ()) (λx _ y _=>⟨S,S⟩) ?_
 have e1:List.zipWith (λx y=>D.int (x+y)) sp j=(List.zipWith (λx y=>x+y) sp j).map D.int:=by rw[MY]
 rw[e1];refine⟨_,S,_,S,q C O (List.zipWith (λx y=>x+y) sp j) o4 ⟨hk,QX,M.gl,(),Rz,λb I=>(b_ b I).1,λx g=>by have:=M.g x g;have e:(2:Nat)<2^64:='b';omega⟩ (λU b I=>(b_ b I).2 U) (by rw[List.length_zipWith];omega) (λx g=>?_) (be.mono ())⟩;let⟨i,hi⟩:=JX g;rw[Lz]at hi
 have PZ:i<sp.length:=J9 λc=>by rw[JU (show sp.length<=i by omega)]at hi;cases hi
 rw[bE PZ,bE (show i<j.length by omega)]at hi;have e:sp[i]+j[i]=x:=JJ hi;have h1:=M.s sp[i] (K8 PZ);have h2:=Pz j[i] (K8 _)
 have e20:(10:Nat)^20+10<=2^70:=by decide
 omega
inductive z__law_whole(ds:List D)(R:D->Prop):Prop|mk (i:Int) (_:ds=[.int i]) (_:R (.bl ř))
def zi(F:Fun K "_law_whole" "_law_whole" lZ f J)(a:mg "isinstance"=ŗ)(c:mg "int"=ŗ)(e:mg "bool"=ŗ):FnOk P w K mg base aE (n+1) f J ["_law_told"] (lSp K z__law_whole):=by
 refine F.okD DE (λds R h=>?_) (λg A outer s H E ds R j h=>?_)
 ·let⟨i,rfl,_⟩:=h;rfl
 let⟨i,rfl,q⟩:=h;refine⟨_,(aD (bf (iu (gX S a (ac 0) (gH (v:=.ty "int") S c LF S) aa aa) (jO (Bt (PD.q (gX S a (ac 0) (gH (v:=.ty "bool") S e PyProof.Rows.boot_bool S) aa aa))))))),?_⟩;show⟨ř,GH i,λ_=>⟨Ś,HW i,q⟩,λh=>tf h⟩
inductive z__law_wholes(ds:List D)(R:D->Prop):Prop|mk (xs:List Int) (n:Int) (_:ds=[.tup (xs.map D.int),.int n]) (_:n=(xs.length:Int)) (_:xs.length<=500) (_:R (.bl ř))
def Ag(F:Fun K "_law_wholes" "_law_wholes" kD f J)(p:Cl P w K mg base n "_law_whole" ["_law_told"] z__law_whole)(j:mg "isinstance"=ŗ)(e:mg "tuple"=ŗ)(r:mg "all"=ŗ)(g:mg "len"=ŗ):FnOk P w K mg base aE (n+1) f J ["_law_told","_law_size"] (lSp K z__law_wholes):=by
 refine F.okD Dv (λds R h=>?_) (λu A outer s H E ds R c h=>?_)
 ·let⟨xs,n,rfl,_⟩:=h;rfl
 let⟨xs,n,rfl,o,y,q⟩:=h;refine⟨_,(aD (bf (iu (gX S j (ac 0) (gH (v:=.ty "tuple") S e Jn S) aa aa) (iu (ed (dA c.units) (PD.q (bN da S g JQ (aO (ac 0) aY aa) aa ae)) (ac 1) (az _)) (jO (bN (uM S) S r Nl (aO (PD.q (PF.d (dR (k:=1) (N':=["_law_one"]) (cap:=[ŗ]) S (.ok (show b7 ["_law_told","_law_size"] (av kD) _ ["_law_one"] [ŗ]=ř by lia)) 'a' (bK 'b') (bX (dv 0)) (λ_ _ _ _ _=>(bc (i:=0) (show List.Nodup (["_law_one"]:Y Str)by lia) S V6)) (λ_ _ _ _ _=>(aX p c S (ad (dv 0) ag aa) aa ae))))) aY bD) bD ae)))))),?_⟩
 have l:((xs.map D.int).length:Int)=n:=by rw[IY,o]
 have a:(((xs.map D.int).length:Int)==n)=ř:=by rw[l];show JK _
 refine⟨ř,ir _,λ_=>⟨λ_=>?_,λh=>?_⟩,λh=>tf h⟩
 ·refine gq (f:=D.int) (λ_=>D.bl ř) (bj ()) (λx _=>⟨x,S,S⟩) ?_;refine⟨xs.map λ_=>ř,by rw[J3];rfl,?_⟩;refine toB q ?_;change (xs.map λ_=>ř).all id=ř;rw[KR];intro b a;let⟨_,_,rfl⟩:=Ju.mp a;rfl
 ·have h':(((xs.map D.int).length:Int)==n)=Ś:=h;rw[a]at h';cases h'
inductive z__law_plan_is(ds:List D)(R:D->Prop):Prop|mk (n:Nat) (bs:List Bd) (rs:List aq) (gs:List Int) (_:ds=[cC bs rs gs,.int (n:Nat)]) (_:n<=8) (_:bs.length=n) (_:gs.length=n) (_:rs.length<=100) (_:(∀r∈rs,r.1.length=n)) (_:R (.bl ř))
def BO(F:Fun K "_law_plan_is" "_law_plan_is" oJ f J)(x:Cl P w K mg base n "_law_wholes" ["_law_told","_law_size"] z__law_wholes)(p:Cl P w K mg base n "_law_whole" ["_law_told"] z__law_whole)(e:mg "isinstance"=ŗ)(c:mg "tuple"=ŗ)(g:mg "len"=ŗ):FnOk P w K mg base aE (n+1) f J ["_law_plan","_law_count"] (lSp K z__law_plan_is):=by
 refine F.okD qan (λds R h=>?_) (λL A outer s H E ds R a h=>?_)
 ·let⟨k,bs,rs,gs,rfl,_⟩:=h;rfl
 let⟨k,bs,rs,gs,rfl,O,C,G,M,o,q⟩:=h
 refine⟨_,(fV (bZ (PWD.td (ef (cP (cn (PD.q (gX S e (ac 0) (gH (v:=.ty "tuple") S c Jn S) aa aa)) (λ_=>rfl))) (ef (aN (fH a.units) (PD.q (bN da S g JQ (aO (ac 0) aY aa) aa ae)) (PD.q am) (az _)) (hZ (cP (cn (PD.q (aX x a S (ad (ax (ac 0)) (ad (dv 1) ag aa) aB) aB (au aa ae))) (λ_=>rfl))))))) (aD (bf dg)) cf)
   (fV (bZ (PWD.td (ef (cP (cn (PD.q (gX S e (PD.q (ax (ac 0))) (gH (v:=.ty "tuple") S c Jn S) aB aa)) (λ_=>rfl))) (ef (cP (cn (PD.q (gX S e (PD.q (ax (ac 0))) (gH (v:=.ty "tuple") S c Jn S) aB aa)) (λ_=>rfl))) (hZ (aN (fH a.units) (PD.q (bN da S g JQ (aO (PD.q (ax (ac 0))) aY aB) aB ae)) (ac 1) (az _)))))) (aD (bf dg)) cf)
   (bt (eg Jw S (bX (ax (ac 0))) (bc (i:=2) qan.nd S V6) (fV (bZ (PWD.td (ef (cP (cn (PD.q (gX S e (ac 2) (gH (v:=.ty "tuple") S c Jn S) aa aa)) (λ_=>rfl))) (ef (aN (fH a.units) (PD.q (bN da S g JQ (aO (ac 2) aY aa) aa ae)) (PD.q am) (az _)) (hZ (cP (cn (PD.q (aX p a S (ad (ax (ac 2)) ag aB) aB ae)) (λ_=>rfl))))))) (aD (bf dg)) cf)
   (aD (bZ (PWD.td (fh (aN dN (PD.q (ax (ac 2))) (PD.q bi) (az _)) (gI (cP (cn (PD.q (aX p a S (ad (ax (ac 2)) ag aB) aB ae)) (λ_=>rfl)))))) (aD (bf dg)) cf))))
   (bt (eg Jw S (bX (ax (ac 0))) (bc (i:=3) qan.nd S V6) (aD (bZ (PWD.td (ef (cP (cn (PD.q (gX S e (ac 3) (gH (v:=.ty "tuple") S c Jn S) aa aa)) (λ_=>rfl))) (ef (aN (fH a.units) (PD.q (bN da S g JQ (aO (ac 3) aY aa) aa ae)) (PD.q am) (az _)) (ef (cP (cn (PD.q (aX x a S (ad (ax (ac 3)) (ad (dv 1) ag aa) aB) aB (au aa ae))) (λ_=>rfl))) (hZ (cP (cn (PD.q (aX p a S (ad (ax (ac 3)) ag aB) aB ae)) (λ_=>rfl)))))))) (aD (bf dg)) cf)))
   (aD (bf dg)))))),?_⟩
 refine⟨λρ=>ρ=[Z (.v (cC bs rs gs)),Z (.v (.int (k:Nat))),ŗ,ŗ],⟨ř,ir _,ff,λ_=>⟨ff,λ_=>⟨_,S,gs,k,S,by rw[G],(),ff,λ_=>rfl⟩⟩⟩,?_⟩;rintro ρ rfl
 have B:((bs.map aP).length:Int)=(k:Nat):=by rw[IY,C]
 refine⟨λρ=>ρ=[Z (.v (cC bs rs gs)),Z (.v (.int (k:Nat))),ŗ,ŗ],⟨_,S,ř,ir _,ff,λ_=>⟨_,S,ř,ir _,ff,λ_=>⟨_,S,λh=>?_,λ_=>rfl⟩⟩⟩,?_⟩
 ·have h':(!((((bs.map aP).length:Nat):Int)==((k:Nat):Int)))=ř:=h;rw[B,JK]at h';cases h'
 rintro ρ rfl;refine⟨_,S,λi ρ=>∃j:Ř Sl,ρ=[Z (.v (cC bs rs gs)),Z (.v (.int (k:Nat))),j,ŗ],⟨_,S⟩,?_,?_⟩
 ·rintro i d ρ hd ⟨j,rfl⟩;let⟨b,rfl,N⟩:=bI hd;refine⟨λρ=>ρ=[Z (.v (cC bs rs gs)),Z (.v (.int (k:Nat))),Z (.v (aP b)),ŗ],⟨ř,ir _,ff,λ_=>⟨ff,λ_=>⟨_,S,b.1,S,ff,λ_=>rfl⟩⟩⟩,?_⟩;rintro ρ rfl;refine⟨oI b.2,S,?_⟩;let⟨l,I⟩:=b
  cases I with
  |none=>show⟨ff,λ_=>⟨ff,λ_=>⟨_,S⟩⟩⟩
  |some mm=>show⟨λ_=>⟨_,S,mm,S,ff,λ_=>⟨_,S⟩⟩,tf⟩
 rintro ρ ⟨j,rfl⟩;refine⟨_,S,λi ρ=>∃u:Ř Sl,ρ=[Z (.v (cC bs rs gs)),Z (.v (.int (k:Nat))),j,u],⟨_,S⟩,?_,?_⟩
 ·rintro i d ρ hd ⟨u,rfl⟩;let⟨r,rfl,z⟩:=bI hd;have y:=o r (Je z);show⟨ř,ir _,ff,λ_=>⟨ff,λ_=>⟨_,S,r.1,k,S,by rw[y],(),ff,λ_=>⟨_,S,r.2,S,ff,λ_=>⟨_,S⟩⟩⟩⟩⟩
 rintro ρ ⟨u,rfl⟩;show q
inductive z__law_givens(ds:List D)(R:D->Prop):Prop|mk (bs:List Bd) (rs:List aq) (g:D) (_:ds=[.tup [.tup (bs.map aP),.tup (rs.map aw),g]]) (_:bs.length<=8) (_:rs.length<=30) (_:R (.lst ((br bs rs).map aw)))
def uA{i j:Nat}:(if ((0+(i:Int))==(j:Int)) then (1:Int) else 0)=if i=j then 1 else 0:=by
 by_cases c:i=j
 ·subst c;rw[Jj (by rw[J6,JK]),Jj S]
 ·rw[Jd c,Jd];intro h;have:=eq_of_beq h;omega
def yA{bs:Y Bd}{i:Nat}{b:Bd}(h:bs[i]?=Z b):((List.range (i+1)).filter (cN bs)).map (cD bs)=((List.range i).filter (cN bs)).map (cD bs)++if b.2.isSome then [cD bs i] else []:=by
 rw[Lo,L0,KD];congr 1
 have e:cN bs i=b.2.isSome:=by unfold cN;rw[show ah bs i=b from df h]
 cases a:b.2.isSome with
 |true=>rw[L7 (by rw[e];show a)];rfl
 |false=>rw[L8 (by rw[e,a];decide)];rfl
def CP(F:Fun K "_law_givens" "_law_givens" jN f J)(N:mg "len"=ŗ)(G:mg "enumerate"=ŗ)(O:mg "list"=ŗ)(B:mg "tuple"=ŗ)(L:mg "int"=ŗ)(C:mg "range"=ŗ):FnOk P w K mg base aE (n+1) f J ["_law_plan"] (lSp K z__law_givens):=by
 refine F.okD qam (λds R h=>?_) (λU A outer s H E ds R I h=>?_)
 ·let⟨bs,rs,g,rfl,_⟩:=h;rfl
 let⟨bs,rs,g,rfl,b_,T,q⟩:=h
 refine⟨_,(bt (cw (i:=1) qam.nd S V6 (bN da S N JQ (aO (PD.q (ax (ac 0))) aY aB) aB ae))
   (bt (En (i:=2) qam.nd S V6 (du ag))
   (bt (eg Jw S (gC S G (ad (ax (ac 0)) ag aB)) (eC (n:=2) S (bP (bc (i:=3) qam.nd S (ß S)) (bP (eC (n:=2) S (bP (bc (i:=4) qam.nd S V6) (bP (bc (i:=5) qam.nd S V6) eG))) eG))) (aD (xk 2 (bw (ad (cu cJ S B Jn (aO (PD.q (PF.d (dR (k:=1) (N':=["_law_i","_law_k"]) (cap:=[ŗ,Z 3]) S (.ok (show b7 ["_law_plan","_law_count","_law_rows_here","_law_k","_law_least","_law_most"] (av jN) _ ["_law_i","_law_k"] [ŗ,Z 3]=ř by lia)) 'a' (bK 'b') (je S C (ad (dv 1) ag aa)) (λ_ _ _ _ _=>(bc (i:=0) (show List.Nodup (["_law_i","_law_k"]:Y Str)by lia) S V6)) (λ_ _ _ _ _=>(cu qB S L LF (aO (PD.q (ed (dA I.units) (ac 0) (ac 1) (az _))) aY jH) jH ae))))) aY bD) bD ae) (ad (dv 4) ag aa) bo)) (dz bH) bH)))
   (bt (eg Jw S (gC S G (ad (ax (ac 0)) ag aB)) (eC (n:=2) S (bP (bc (i:=3) qam.nd S (ß S)) (bP (eC (n:=2) S (bP (bc (i:=4) qam.nd S V6) (bP (bc (i:=5) qam.nd S V6) eG))) eG))) (aD (bZ (aN dN (ac 5) (PD.q bi) (az _)) (aD (xk 2 (bw (ad (cu cJ S B Jn (aO (PD.q (PF.d (dR (k:=1) (N':=["_law_i","_law_k"]) (cap:=[ŗ,Z 3]) S (.ok (show b7 ["_law_plan","_law_count","_law_rows_here","_law_k","_law_least","_law_most"] (av jN) _ ["_law_i","_law_k"] [ŗ,Z 3]=ř by lia)) 'a' (bK 'b') (je S C (ad (dv 1) ag aa)) (λ_ _ _ _ _=>(bc (i:=0) (show List.Nodup (["_law_i","_law_k"]:Y Str)by lia) S V6)) (λ_ _ _ _ _=>(eD (PD.q (cu qB S L LF (aO (PD.q (ed (dA I.units) (ac 0) (ac 1) (az _))) aY jH) jH ae))))))) aY bD) bD ae) (ad (eD (ac 5)) ag ip) bo)) (dz bH) bH)) cf)))
   (aD (bf (aS bR (ac 2) (PD.q (PF.d (lJ S O (PD.q (ax (ac 0))) aB)))))))))),?_⟩
 have Q:((bs.map aP).length:Int)=(bs.length:Int):=by rw[IY]
 have a_:(((bs.map aP).length:Nat):Int).toNat=bs.length:=by omega
 refine⟨_,S,?_⟩;refine⟨_,S,λi ρ=>∃a c e:Ř Sl,ρ=[Z (.v (.tup [.tup (bs.map aP),.tup (rs.map aw),g])),Z (.v (.int (bs.length:Nat))),Z (.own (((List.range i).map (fi bs)).map aw)),a,c,e],⟨_,_,_,by rw[Q];rfl⟩,?_,?_⟩
 ·rintro i d ρ hd ⟨a,c,e,rfl⟩;let⟨x,u,rfl⟩:=ge hd;let⟨b,rfl,j⟩:=bI u;have M:=aA j;refine⟨S,S,?_⟩;refine⟨⟨(),()⟩,?_⟩;refine mH (λo=>D.int (if o=i then 1 else 0)) (bj ()) (λo _=>JY D.int uA) ?_;have r:ah bs i=b:=df j;refine⟨by rw[IY,IY,Jz];show bj (),((List.range (i+1)).map (fi bs)).map aw,?_,_,_,_,S⟩;rw[Lo,KD,KD];congr 1;change [D.tup [D.tup ((List.range ((bs.length:Nat):Int).toNat).map λo=>D.int (if o=i then 1 else 0)),D.int b.1]]=[aw (fi bs i)];unfold fi aw dk;rw[r,Km,J3];rfl
 rintro ρ ⟨a,c,e,rfl⟩
 have y:(gP (bs.map aP)).length=bs.length:=by rw[eT,IY]
 rw[y];refine⟨_,S,λi ρ=>∃a c e:Ř Sl,ρ=[Z (.v (.tup [.tup (bs.map aP),.tup (rs.map aw),g])),Z (.v (.int (bs.length:Nat))),Z (.own (((List.range bs.length).map (fi bs)++((List.range i).filter (cN bs)).map (cD bs)).map aw)),a,c,e],⟨_,_,_,by rw[show (List.range bs.length).map (fi bs)++((List.range 0).filter (cN bs)).map (cD bs)=(List.range bs.length).map (fi bs)from JM _]⟩,?_,?_⟩
 ·rintro i d ρ hd ⟨a,c,e,rfl⟩;let⟨x,u,rfl⟩:=ge hd;let⟨b,rfl,j⟩:=bI u;have M:=aA j;have r:ah bs i=b:=df j
  have X:(((List.range i).filter (cN bs)).map (cD bs)).length<=i:=by
   rw[IY];have:=Kp (cN bs) (List.range i)
   rwa [Jz]at this
  refine⟨S,S,?_⟩;have v:=yA j;let⟨l,be⟩:=b
  cases be with
  |none=>
   have p:((List.range (i+1)).filter (cN bs)).map (cD bs)=((List.range i).filter (cN bs)).map (cD bs):=by rw[v];show JM _
   show⟨ff,λ_=>⟨Z (.v (.int (i:Nat))),Z (.v (.int l)),Z (.v .non),by rw[p];rfl⟩⟩
  |some mm=>
   refine⟨λ_=>?_,tf⟩;refine⟨⟨(),()⟩,?_⟩;refine mH (λo=>D.int (-(if o=i then 1 else 0))) (bj ()) (λo _=>JY (λz:Int=>D.int (-z)) uA) ?_;refine⟨by rw[IY,Ja,IY,Jz];show bj (),((List.range bs.length).map (fi bs)++((List.range (i+1)).filter (cN bs)).map (cD bs)).map aw,?_,_,_,_,S⟩;have p:((List.range (i+1)).filter (cN bs)).map (cD bs)=((List.range i).filter (cN bs)).map (cD bs)++[cD bs i]:=v;rw[p,←Js,KD (l₂:=[cD bs i])];congr 1;change [D.tup [D.tup ((List.range ((bs.length:Nat):Int).toNat).map λo=>D.int (-(if o=i then 1 else 0))),D.int (-mm)]]=[aw (cD bs i)];unfold cD aw jY dk;rw[r,Km,J3,J3];rfl
 rintro ρ ⟨a,c,e,rfl⟩;rw[y];refine⟨_,S,_,S,small ?_,_,rM aw _ _,?_⟩
 ·rw[IY,IY,Ja,IY,Jz,IY];have:=Kp (cN bs) (List.range bs.length);rw[Jz]at this;omega
 ·show q
noncomputable def qG(n:Nat)(s:Led)(a:Y D):D:=.obj "Struck" [("ledger",ix s),("breadth",.int (n:Nat)),("kind",.str "none"),("paper",.tup a),("slim",.non),("kept",.tup []),("extra",.int 0)]
def vL:∀(n:Nat)(xs:Y Int),gh (dL n) (xs.map D.int) (xs.map D.int)=Z ř
 |_,[]=>rfl
 |n,x::xs=>by
  have e:dL n (D.int x) (D.int x)=Z ř:=by
   have:dL n (D.int x) (D.int x)=Z (x==x):=by cases n<;>rfl
   rw[this,JK]
  change ((dL n (D.int x) (D.int x)).bind λb=>(gh (dL n) (xs.map D.int) (xs.map D.int)).map (b&&·))=_;rw[e,vL n xs];rfl
def ED{R:D->Prop}(xs:Y Int)(q:R (.bl ř)):nQ (.lst (xs.map D.int)) (.lst (xs.map D.int)) R:=by
 have e:dL 40 (.lst (xs.map D.int)) (.lst (xs.map D.int))=Z ř:=by change (if (xs.map D.int).length=(xs.map D.int).length then gh (dL 39) (xs.map D.int) (xs.map D.int) else Z Ś)=_;rw[Jj S,vL]
 unfold nQ;rw[e];show q
def uS{x:Nat}{st:Y Nat}:jg (.inl (x:Int)) (st.map λn:Nat=>(à (n:Int):ay))=decide (x∈st):=by
 rw[M5,G1,Ly,Ju];constructor
 ·rintro⟨y,a,e⟩;have:(y:Int)=(x:Int):=ĉ e
  have:y=x:=by omega
  show this▸a
 ·intro h;show⟨x,h,S⟩
def uu(b:Bool):(Ś != b)=b:=by cases b<;>rfl
inductive z__law_fields(ds:List D)(R:D->Prop):Prop|mk (d:D) (n:Nat) (s:Led) (_:ds=[d,.int (n:Nat)]) (_:((d=gk n s/\Wy n s)\/∃pp,d=qG n s pp)) (_:R (.bl ř))
def HU(F:Fun K "_law_fields" "_law_fields" kR f J){z:Addr}(a:TxtStruck K mg z)(M:Cl P w K mg base n "_law_wholes" ["_law_told","_law_size"] z__law_wholes)(L:Cl P w K mg base n "_law_whole" ["_law_told"] z__law_whole)(y:Cl P w K mg base n "_law_plan_is" ["_law_plan","_law_count"] z__law_plan_is)(G:mg "list"=ŗ)(p:mg "isinstance"=ŗ)(l:mg "tuple"=ŗ)(o:mg "len"=ŗ)(C:mg "range"=ŗ):FnOk P w K mg base aE (n+1) f J ["_law_struck","_law_count"] (lSp K z__law_fields):=by
 refine F.okD qal (λds R h=>?_) (λO A outer s H E ds R e h=>?_)
 ·let⟨d,k,s,rfl,_⟩:=h;rfl
 let⟨d,k,s,rfl,hd,q⟩:=h
 refine⟨_,(bt (cw (i:=2) qal.nd S (ß S) (aL a.cl a.n_kept a.ns (ac 0)))
   (fV (bZ (PWD.td (ef (cP (cn (PD.q (gX S p (ac 2) (gH (v:=.ty "tuple") S l Jn S) aa aa)) (λ_=>rfl))) (ef (cP (cn (PD.q (aX M e S (ad (dv 2) (ad (bN da S o JQ (aO (ac 2) aY aa) aa ae) ag bo) aa) aa (au bo ae))) (λ_=>rfl))) (hZ (cP (cn (PD.q (aX L e S (ad (aL a.cl a.n_extra a.ns (ac 0)) ag aJ) aJ ae)) (λ_=>rfl))))))) (aD (bf dg)) cf)
   (fV (bZ (aN (dA e.units) (PD.q (aL a.cl a.n_kind a.ns (ac 0))) (PD.q jb) (az _)) (aD (bf (iu (ed (dA e.units) (ac 2) (PD.q (bw ag)) (az _)) (iu (ed (dA e.units) (PD.q (aL a.cl a.n_extra a.ns (ac 0))) (PD.q am) (az _)) (iu (ed eR (PD.q (aL a.cl a.n_slim a.ns (ac 0))) (PD.q bi) (az _)) (jO (gX S p (PD.q (aL a.cl a.n_paper a.ns (ac 0))) (gH (v:=.ty "tuple") S l Jn S) aJ aa))))))) cf)
   (fV (bZ (PWD.td (ef (aN (fH e.units) (PD.q (aL a.cl a.n_kind a.ns (ac 0))) (PD.q jb) (az _)) (ef (aN dN (PD.q (aL a.cl a.n_paper a.ns (ac 0))) (PD.q bi) (az _)) (hZ (cP (cn (PD.q (aX y e S (ad (aL a.cl a.n_slim a.ns (ac 0)) (ad (bN da S o JQ (aO (ac 2) aY aa) aa ae) ag bo) aJ) aJ (au bo ae))) (λ_=>rfl))))))) (aD (bf dg)) cf)
   (aD (bf (ed (dA e.units) (PD.q (PF.d (lJ S G (ac 2) aa))) (PD.q (PF.d (pA (k:=1) (N':=["_law_k","_law_kept"]) (cap:=[ŗ,Z 2]) S (.ok (show b7 ["_law_struck","_law_count","_law_kept"] (av kR) _ ["_law_k","_law_kept"] [ŗ,Z 2]=ř by lia)) 'a' (bK 'b') (je S C (ad (dv 1) ag aa)) (λ_ _ _ _ _=>(bc (i:=0) (show List.Nodup (["_law_k","_law_kept"]:Y Str)by lia) S V6)) (λ_ _ _ _ _=>(jt (aN Ep (ac 0) (ac 1) (by with_unfolding_all rfl)))) (λ_ _ _ _ _=>(dv 0))))) (az _)))))))),?_⟩
 rcases hd with⟨rfl,g⟩|⟨N,rfl⟩
 ·have U:=g.n8;have Q:=g.sn;refine⟨S,_,S,?_⟩;refine⟨λρ=>ρ=[Z (.v (gk k s)),Z (.v (.int (k:Nat))),Z (.v (.tup (s.st.map aW)))],⟨ř,ir _,ff,λ_=>⟨s.st.map λn:Nat=>(n:Int),_,by rw[mf],by rw[IY,IY],by rw[IY];omega,ff,λ_=>⟨S,_,S,s.ex,S,ff,λ_=>rfl⟩⟩⟩,?_⟩;rintro ρ rfl;refine⟨λρ=>ρ=[Z (.v (gk k s)),Z (.v (.int (k:Nat))),Z (.v (.tup (s.st.map aW)))],⟨S,_,S,λh=>absurd h 'a',λ_=>rfl⟩,?_⟩;rintro ρ rfl;refine⟨λρ=>ρ=[Z (.v (gk k s)),Z (.v (.int (k:Nat))),Z (.v (.tup (s.st.map aW)))],⟨S,_,S,λh=>absurd h 'a',λ_=>⟨S,_,S,ff,λ_=>⟨S,_,S,s.st.length,pk (0,ŗ) s.bs s.st,s.rs.map (cS s.st),pk 0 s.gl s.st,?_,(),by unfold pk;rw[IY],by unfold pk;rw[IY],by rw[IY];have:=g.rl;omega,λr B=>?_,ff,λ_=>rfl⟩⟩⟩,?_⟩
  ·rw[IY];rfl
  ·let⟨x,T,rfl⟩:=Ju.mp B;change (pk 0 x.1 s.st).length=_;unfold pk;rw[IY]
  rintro ρ rfl;refine⟨_,S,⟨(),()⟩,by rw[gc];show bj (),iQ (λu=>decide (u∈s.st)) (λu=>aW u),λi d hd=>?_,λys j I=>?_⟩
  ·let⟨hi,rfl⟩:=ij hd;refine⟨.inl (0+(i:Int)),s.st.map λn:Nat=>(à (n:Int):ay),S,?_,λc=>?_,λc=>?_⟩
   ·change Z (s.st.map aW)=_;rw[J3];rfl
   ·rw[uu,J6,uS]at c;show⟨by change D.int _=D.int _;rw[J6],c⟩
   ·rw[uu,J6,uS]at c;show c
  rw[gc]at j;rw[jU j I,Km,zR g.so g.sl,mf];show ED _ q
 ·refine⟨S,_,S,?_⟩;refine⟨λρ=>ρ=[Z (.v (qG k s N)),Z (.v (.int (k:Nat))),Z (.v (.tup []))],⟨ř,ir _,ff,λ_=>⟨[],_,S,S,'b',ff,λ_=>⟨S,_,S,0,S,ff,λ_=>rfl⟩⟩⟩,?_⟩;rintro ρ rfl;refine⟨λ_=>False,⟨S,_,S,λ_=>⟨λ_=>⟨S,_,S,λ_=>⟨S,_,S,λ_=>⟨S,_,S,ř,ir _,q⟩,tf⟩,tf⟩,tf⟩,λh=>absurd h 'a'⟩,λρ h=>h.elim⟩
structure PointP(n:Nat)(s:Led)(x:List Int):Prop where
 n8:n<=8
 sl:∀u∈s.st,u<n
 gn:∀g∈s.gn,g.1<n/\g.2.2.length<=100/\∀r∈g.2.2,g.1<r.1.length/\r.1.length<=1000/\0<r.1.getD g.1 0/\∀x∈r.1,x.natAbs<2^9000
 sz:∀i,∀y∈(s.gn.reverse.take i).foldl dM (dw n s.st x),bz y
def Wy.pointP{n:Nat}{s:Led}(h:Wy n s){x:Y Int}(j:∀y∈x,y.natAbs<=2^725):PointP n s x:=by
 have l:=h.n8;refine⟨l,h.sl,λg e=>?_,λi y p=>?_⟩
 ·have G:=h.gok e;refine⟨G.u,by have:=G.r;omega,λr o=>?_⟩;let⟨a,b,c,d⟩:=G.rr r o;show⟨by rw[a];show G.u,(),b,λx j=>Mr (c x j) (Ku 'b' 'b')⟩
 ·have:=va l (show 720<=725 by decide) (gs:=s.gn.reverse.take i) (λg e=>h.gok (LK.mp (List.mem_of_mem_take e))) (DX (n:=n) (st:=s.st) j) y p;refine CB this ?_;rw[Kb,KN];have:=h.gn;omega
def AE(gs:Y Gn):∀sp:Y Int,(gs.foldl dM sp).length=sp.length:=by
 induction gs with
 |nil=>intro sp;rfl
 |cons g gs a=>
  intro sp;change (gs.foldl dM (dM sp g)).length=_;rw[a];show Jc
inductive z_Struck__point_back(ds:List D)(R:D->Prop):Prop|mk (n:Nat) (s:Led) (x:List Int) (_:ds=[gk n s,.tup (x.map D.int)]) (_:PointP n s x) (_:R (.tup ((il n s x).map D.int)))
def AW(F:Fun K "point_back" "Struck.point_back" nH f J){v:Addr}(a:TxtStruck K mg v){z:Addr}(e:TxtLedger K mg z)(B:ClM P w K mg base n "spread" ["numbers","places","n"] y_spread)(u:Cl P w K mg base n "least_meeting" ["unknown","least","rows","spot"] z_least_meeting)(be:mg "reversed"=ŗ)(G:mg "tuple"=ŗ):FnOk P w K mg base aE (n+1) f J ["self","spot"] (lSpM K (zM z_Struck__point_back)):=by
 refine F.okM qaf (λas R C h=>?_) (λT A outer s H E as R C b_ U r h y=>?_)
 ·let⟨_,rfl,m,s,x,rfl,_⟩:=h;rfl
 let⟨_,rfl,m,s,x,rfl,c,q⟩:=h;obtain rfl:=jl y
 refine⟨_,(ap (aH (i:=2) qaf.nd S V6 (bO B r S (aI (af (dv 1)) (aI (af (aL a.cl a.n_kept a.ns (ac 0))) (aI (af (aL a.cl a.n_breadth a.ns (ac 0))) bg aJ) aJ) aa) aa (au aJ (au aJ ae))))
   (ap (e9 Jw S (fw (vU S be (ad (aL e.cl e.n_gone e.ns (PD.q (aL a.cl a.n_ledger a.ns (ac 0)))) ag aJ))) (gQ (n:=3) S (dc (cg (i:=3) qaf.nd S V6) (dc (cg (i:=4) qaf.nd S V6) (dc (cg (i:=5) qaf.nd S V6) gL)))) (aQ (j8 2 (af (qM u r S (aO (ac 3) (aO (ac 4) (aO (ac 5) (aO (ac 2) aY aa) aa) aa) aa) aa (au aa (au aa (au aa ae))))) (af (dv 3)))))
   (aQ (cq (af (cu cJ S G Jn (aO (ac 2) aY aa) aa ae)))))),?_⟩
 intro a_;have X:=c.n8;refine⟨S,_,S,S,_,S,_,S,S,_,_,x,s.st,m,S,S,S,(),c.sl,?_⟩;rfl';refine⟨S,_,S,S,_,S,λi ρ=>∃j l o:Ř Sm,ρ=[Z (.v (gk m s)),Z (.v (.tup (x.map D.int))),Z (.ob ŗ (.lst (((s.gn.reverse.take i).foldl dM (dw m s.st x)).map D.int))),j,l,o],⟨_,_,_,S⟩,?_,?_⟩
 ·rintro i d ρ hd ⟨j,l,o,rfl⟩;rw[←List.map_reverse]at hd;let⟨g,rfl,p⟩:=bI hd;let⟨L,M,N⟩:=c.gn g (LK.mp (Je p))
  have I:(s.gn.reverse.take (i+1)).foldl dM (dw m s.st x)=dM ((s.gn.reverse.take i).foldl dM (dw m s.st x)) g:=by rw[gF p,KL];rfl
  have O:((s.gn.reverse.take i).foldl dM (dw m s.st x)).length=m:=by rw[AE,mV]
  have Q:=c.sz i;generalize (s.gn.reverse.take i).foldl dM (dw m s.st x)=sp at *;refine⟨S,?_⟩;refine⟨g.1,g.2.1,_,_,g.2.2,sp,S,.inr S,S,M,N,Q,trivial,g.1,eO (by rw[IY,O];show L),_,S,Z (.v (aW g.1)),Z (.v (.int g.2.1)),Z (.v (.tup (g.2.2.map aw))),?_⟩;rw[I];unfold dM;rw[←KZ];rfl
 ·rintro ρ ⟨j,l,o,rfl⟩;rw[KN,IY,←KN,Kt];show q
noncomputable abbrev cQ(x:Y Int):D:=.tup (x.map D.int)
inductive z__law_meet(ds:List D)(R:D->Prop):Prop|mk (rs:List aq) (x:List Int) (_:ds=[.lst (rs.map aw),cQ x]) (_:rs.length<=100) (_:(∀r∈rs,r.1.length<=1000/\∀y∈r.1,bz y)) (_:(∀y∈x,bz y)) (_:R (.bl (fU rs x)))
def zt(F:Fun K "_law_meet" "_law_meet" kE f J)(e:Cl P w K mg base n "_law_times" ["_law_entries","_law_spot"] z__law_times)(l:mg "all"=ŗ):FnOk P w K mg base aE (n+1) f J ["_law_rows_here","_law_spot"] (lSp K z__law_meet):=by
 refine F.okD CJ (λds R h=>?_) (λo A outer s H E ds R g h=>?_)
 ·let⟨rs,x,rfl,_⟩:=h;rfl
 let⟨rs,x,rfl,p,a,j,q⟩:=h;refine⟨_,(aD (bf (bN (uM S) S l Nl (aO (PD.q (PF.d (dR (k:=2) (N':=["_law_entries","_law_bound","_law_spot"]) (cap:=[ŗ,ŗ,Z 1]) S (.ok (show b7 ["_law_rows_here","_law_spot"] (av kE) _ ["_law_entries","_law_bound","_law_spot"] [ŗ,ŗ,Z 1]=ř by lia)) 'a' (iE (n:=2) (eP (bK 'b') (eP (bK 'b') iB))) (bX (dv 0)) (λ_ _ _ _ _=>(eC (n:=2) S (bP (bc (i:=0) (show List.Nodup (["_law_entries","_law_bound","_law_spot"]:Y Str)by lia) S V6) (bP (bc (i:=1) (show List.Nodup (["_law_entries","_law_bound","_law_spot"]:Y Str)by lia) S V6) eG)))) (λ_ _ _ _ _=>(ed ms (PD.q (aX e g S (ad (dv 0) (ad (dv 2) ag aa) aa) aa (au aa ae))) (ac 1) (az _)))))) aY bD) bD ae))),?_⟩;refine gq (f:=aw) (λr=>D.bl (decide (r.2<=ar r.1 x))) (bj ()) (λr c=>⟨S,r.1,x,S,(a r c).1,(a r c).2,j,S⟩) ?_;refine⟨rs.map λr=>decide (r.2<=ar r.1 x),by rw[J3];rfl,?_⟩;refine toB q ?_;change (rs.map _).all id=_;rw[List.all_map];rfl
def An(w:Nat)(a:Y (Y Int))(b:Bd)(x:Y Int):en w (a++[x]) b=en w a b++(gf b.1 (cZ w b)).map λv=>x++[v]:=by
 unfold en;rw[List.flatMap_append];change _++(_++[])=_;rw[JM]
def zK{d:D}{ds:Y D}{R:Y D->Prop}{ρ:bu}(h:cV d=Z ds)(q:R ds):tS (λ_ k=>k d) ρ R:=by
 cases d with
 |lst _=>cases h;show q
 |tup _=>cases h;show q
 |fzl _=>cases h;show q
 |_=>cases h
inductive z__law_window(ds:List D)(R:D->Prop):Prop|mk (d:D) (bs:List Bd) (w:Nat) (_:ds=[d,.int (w:Nat)]) (_:cV d=Z (bs.map aP)) (_:bs.length<=8) (_:(∀k,k<=bs.length->(bF w (bs.take k)).length<=500)) (_:w<=3) (_:R (.lst ((bF w bs).map cQ)))
def yr(F:Fun K "_law_window" "_law_window" lf f J)(U:mg "min"=ŗ)(M:mg "range"=ŗ):FnOk P w K mg base aE (n+1) f J ["_law_bounds_here","_law_wide"] (lSpM K (zM z__law_window)):=by
 refine F.okM qar (λas R L h=>?_) (λX A outer s H E as R L qs a_ hr h G=>?_)
 ·let⟨_,rfl,d,bs,w,rfl,_⟩:=h;rfl
 let⟨_,rfl,d,bs,w,rfl,hd,hl,I,hw,q⟩:=h;obtain rfl:=jl G
 refine⟨_,(ap (aH (i:=2) qar.nd S V6 (af (PF.d (du (ad (bw ag) ag bH)))))
   (ap (e9 Jw S (fw (bX (dv 0))) (gQ (n:=2) S (dc (cg (i:=3) qar.nd S V6) (dc (cg (i:=4) qar.nd S V6) gL))) (ap (aH (i:=5) qar.nd S V6 (af (aS bR (ac 3) (ac 1))))
   (cB (ce (bW (aN dN (ac 4) (PD.q bi) (az _))) (aQ (aH (i:=5) qar.nd S V6 (af (bN (G2 S) S U PyProof.Rows.boot_min (aO (ac 5) (aO (ac 4) aY aa) aa) aa (au aa ae))))) cy)
   (ap (aH (i:=6) qar.nd S V6 (dr (du ag)))
   (ap (e9 Jw S (fw (bX (dv 2))) (cg (i:=7) qar.nd S (ß S)) (aQ (Hk 6 (dr (dR (k:=1) (N':=["_law_number","_law_spot"]) (cap:=[ŗ,Z 7]) S (.ok (show b7 ["_law_bounds_here","_law_wide","_law_spots","_law_least","_law_most","_law_top","_law_longer","_law_spot"] (av lf) _ ["_law_number","_law_spot"] [ŗ,Z 7]=ř by lia)) 'a' (bK 'b') (zw S M (ad (dv 3) (ad (aS bR (ac 5) (PD.q am)) ag cz) aa)) (λ_ _ _ _ _=>(bc (i:=0) (show List.Nodup (["_law_number","_law_spot"]:Y Str)by lia) S V6)) (λ_ _ _ _ _=>(aS bR (ac 1) (PD.q (bw (ad (dv 0) ag aa))))))) (dz bD) bD)))
   (jJ 6 (aQ (aH (i:=2) qar.nd S V6 (af (dv 6))))))))))
   (aQ (cq (af (dv 2)))))),?_⟩
 intro ke;refine zK (ρ:=[]) hd ?_;refine⟨λi ρ=>∃r u z o a:Ř Sm,ρ=[Z (.v d),Z (.v (.int (w:Nat))),Z (.v (.lst ((bF w (bs.take i)).map cQ))),r,u,z,o,a],⟨_,_,_,_,_,S⟩,?_,?_⟩
 ·rintro i e ρ c ⟨r,u,z,o,a,rfl⟩;let⟨b,rfl,B⟩:=bI c;have b_:=aA B;refine⟨S,?_⟩;have C:cZ w b=cZ w b:=rfl;refine⟨λρ=>ρ=[Z (.v d),Z (.v (.int (w:Nat))),Z (.v (.lst ((bF w (bs.take i)).map cQ))),Z (.v (.int b.1)),Z (.v (oI b.2)),Z (.v (.int (cZ w b))),o,a],?_,?_⟩
  ·let⟨l,T⟩:=b
   cases T with
   |none=>show⟨ff,λ_=>rfl⟩
   |some mm=>show⟨λ_=>rfl,tf⟩
  rintro ρ rfl;refine⟨λj ρ=>∃a:Ř Sm,ρ=[Z (.v d),Z (.v (.int (w:Nat))),Z (.v (.lst ((bF w (bs.take i)).map cQ))),Z (.v (.int b.1)),Z (.v (oI b.2)),Z (.v (.int (cZ w b))),Z (.own ((en w ((bF w (bs.take i)).take j) b).map cQ)),a],⟨_,S⟩,?_,?_⟩
  ·rintro j e ρ c ⟨a,rfl⟩;let⟨x,rfl,p⟩:=bI c
   have Pa:x.length<=8:=by have:=(wnd_mem.mp (Je p)).1;rw[Kb]at this;omega
   have Q:=I i ();have hj:=aA p
   have er:cA b.1 (cZ w b+1-b.1).toNat=(gf b.1 (cZ w b)).map D.int:=by unfold cA gf;rw[J3];rfl
   have N:=vX 0 w b
   have be:(en w ((bF w (bs.take i)).take j) b).length<=500*4:=by refine JC (rG w b _) (L5 ?_ ());rw[Kb];omega
   have g:(cA b.1 (cZ w b+1-b.1).toNat).length=(gf b.1 (cZ w b)).length:=by rw[er,IY]
   refine qD ((gf b.1 (cZ w b)).map λv=>cQ (x++[v])) (by rw[IY,g]) (by rw[g];show bj ()) (λi y=>((gf b.1 (cZ w b)).map λv=>cQ (x++[v]))[i]?=Z y) (λi y h=>h) (λi e c=>?_) ?_
   ·rw[er]at c;let⟨v,rfl,O⟩:=bI c;refine⟨small (by rw[IY];change _+1<=1000;omega),_,S,?_⟩;rw[Jm,O];change Z (D.tup ((x++[v]).map D.int))=_;rw[KD];rfl
   refine⟨?_,(en w ((bF w (bs.take i)).take (j+1)) b).map cQ,?_,_,S⟩
   ·rw[IY,IY]
    have:3000<=sizeLine:=by rw[LL];decide
    omega
   ·rw[gF p,An,KD,J3];rfl
  rintro ρ ⟨a,rfl⟩;rw[IY,Kt]
  have e:bF w (bs.take (i+1))=en w (bF w (bs.take i)) b:=by rw[gF B,qf]
  show⟨Z (.v (.int b.1)),Z (.v (oI b.2)),Z (.v (.int (cZ w b))),Z (.v (.lst ((en w (bF w (bs.take i)) b).map cQ))),a,by rw[e];rfl⟩
 rintro ρ ⟨r,u,z,o,a,rfl⟩;rw[IY,Kt];show q
def uQ{n k:Nat}:∀y∈dk n k,y.natAbs<=1:=λy a=>by let⟨o,_,rfl⟩:=Ju.mp a;split<;>decide
def vV{n:Nat}{bs:Y Bd}{rs:Y aq}(l:bs.length=n)(g:n<=1000)(e:∀r∈rs,r.1.length=n/\∀x∈r.1,x.natAbs<2^64):∀r∈br bs rs,r.1.length<=1000/\∀y∈r.1,bz y:=by
 refine giv_all.mpr ⟨λk h=>⟨by change (dk bs.length k).length<=_;rw[qP];omega,λy a=>fj (m:=1) (JC (uQ y a) 'b') 'b'⟩,λk h _=>⟨by change ((dk bs.length k).map _).length<=_;rw[IY,qP];omega,λy a=>?_⟩,λr c=>⟨by rw[(e r c).1];show g,λy a=>fj (m:=64) (Ko ((e r c).2 y a)) 'b'⟩⟩;let⟨z,j,rfl⟩:=Ju.mp (show y∈(dk bs.length k).map (- ·)from a);refine fj (m:=1) ?_ 'b';rw[Ni];show JC (uQ z j) 'b'
inductive z__law_best(ds:List D)(R:D->Prop):Prop|mk (NU:List (List Int)) (rs:List aq) (gl:List Int) (_:ds=[.lst (NU.map cQ),.lst (rs.map aw),.tup (gl.map D.int)]) (_:rs.length<=100) (_:(∀r∈rs,r.1.length<=1000/\∀y∈r.1,bz y)) (_:gl.length<=1000) (_:(∀y∈gl,bz y)) (_:(∀x∈NU,∀y∈x,bz y)) (_:R (oI (fv NU rs gl)))
def xt{a:Y (Y Int)}{rs:Y aq}{gl:Y Int}{i:Nat}{x:Y Int}(h:a[i]?=Z x):fv (a.take (i+1)) rs gl=jR rs gl (fv (a.take i) rs gl) x:=by unfold fv;rw[gF h,KL];rfl
def G8(F:Fun K "_law_best" "_law_best" ma f J)(I:Cl P w K mg base n "_law_meet" ["_law_rows_here","_law_spot"] z__law_meet)(z:Cl P w K mg base n "_law_times" ["_law_entries","_law_spot"] z__law_times):FnOk P w K mg base aE (n+1) f J ["_law_spots","_law_rows_here","_law_goal"] (lSp K z__law_best):=by
 refine F.okD qah (λds R h=>?_) (λL A outer s H E ds R u h=>?_)
 ·let⟨g,rs,gl,rfl,_⟩:=h;rfl
 let⟨g,rs,gl,rfl,C,v,y,B,G,q⟩:=h
 refine⟨_,(bt (cw (i:=3) qah.nd S V6 bi)
   (bt (eg Jw S (bX (dv 0)) (bc (i:=4) qah.nd S V6) (aD (bZ (cn (PD.q (aX I u S (ad (dv 1) (ad (dv 4) ag aa) aa) aa (au aa ae))) (λ_=>rfl)) (bt (cw (i:=5) qah.nd S V6 (aX z u S (ad (dv 2) (ad (dv 4) ag aa) aa) aa (au aa ae)))
   (aD (bZ (PWD.td (ef (aN eR (ac 3) (PD.q bi) (az _)) (hZ (aN fq (ac 5) (ac 3) (az _))))) (aD (cw (i:=3) qah.nd S V6 (dv 5))) cf))) cf)))
   (aD (bf (dv 3))))),?_⟩
 refine⟨λi ρ=>∃p j:Ř Sl,ρ=[Z (.v (.lst (g.map cQ))),Z (.v (.lst (rs.map aw))),Z (.v (.tup (gl.map D.int))),Z (.v (oI (fv (g.take i) rs gl))),p,j],⟨_,_,S⟩,?_,?_⟩
 ·rintro i d ρ hd ⟨p,j,rfl⟩;let⟨x,rfl,r⟩:=bI hd;have e:=G x (Je r);have a:=xt (rs:=rs) (gl:=gl) r;refine⟨rs,x,S,C,v,e,λc=>?_,λc=>?_⟩
  ·refine⟨gl,x,S,y,B,e,?_⟩;unfold jR at a;rw[Jj c]at a;generalize fv (g.take i) rs gl=o at *
   cases o with
   |none=>show⟨λ_=>⟨λ_=>⟨Z (.v (cQ x)),Z (.v (.int (ar gl x))),by rw[a];rfl⟩,tf⟩,tf⟩
   |some w=>
    dsimp only at a;refine⟨ff,λ_=>⟨λl=>?_,λl=>?_⟩⟩
    ·rw[Jj (dP l)]at a;show⟨Z (.v (cQ x)),Z (.v (.int (ar gl x))),by rw[a];rfl⟩
    ·rw[Jd (Kg l)]at a;show⟨Z (.v (cQ x)),Z (.v (.int (ar gl x))),by rw[a];rfl⟩
  ·unfold jR at a;rw[Jd (by rw[c];decide)]at a;show⟨Z (.v (cQ x)),j,by rw[a];rfl⟩
 rintro ρ ⟨p,j,rfl⟩;rw[IY,Kt];show q
def tH{n:Nat}{s:Led}(a:Wy n s):∀r∈br (pk (0,ŗ) s.bs s.st) (s.rs.map (cS s.st)),r.1.length<=1000/\∀y∈r.1,bz y:=by
 have l:=a.n8;have j:=a.sn;refine vV (n:=s.st.length) (by unfold pk;rw[IY]) () λr e=>?_;let⟨y,c,rfl⟩:=Ju.mp e;refine⟨by change (pk 0 y.1 s.st).length=_;unfold pk;rw[IY],λz h=>?_⟩;let⟨u,g,rfl⟩:=Ju.mp (show z∈s.st.map _ from h);show (a.rr y c).2.1 _ (cI (by rw[(a.rr y c).1];show a.sl u g))
def wD{n:Nat}{s:Led}(a:Wy n s):(br (pk (0,ŗ) s.bs s.st) (s.rs.map (cS s.st))).length<=100:=by
 have h:=a.n8;have g:=a.sn;have c:=a.rl;have:=rF (pk (0,ŗ) s.bs s.st) (s.rs.map (cS s.st));rw[IY]at this
 have e:(pk ((0:Int),(ŗ:Ř Int)) s.bs s.st).length=s.st.length:=by unfold pk;rw[IY]
 omega
def xg{n:Nat}{s:Led}{bs:Y Bd}{rs:Y aq}{gs:Y Int}(a:Wy n s):∀y∈pk 0 s.gl s.st,bz y:=λz e=>by let⟨u,c,rfl⟩:=Ju.mp (show z∈s.st.map _ from e);show fj (m:=64) (Ko (a.gg _ (cI (by rw[a.gl];show a.sl u c)))) 'b'
def pE{y:Int}(h:y.natAbs<=2^725):bz y:=KS h (Ku 'b' 'b')
def DK{n:Nat}{s:Led}(c:Wy n s){x:Y Int}(e:∀y∈x,y.natAbs<=2^725):∀y∈il n s x,bz y:=λv a=>(c.pointP e).sz s.gn.length v (by rw[Ls (by rw[KN];show Jg _)];show a)
def vD{n:Nat}{bs:Y Bd}{rs:Y aq}{gs:Y Int}(a:PlOk n bs rs gs):(∀r∈br bs rs,r.1.length<=1000/\∀y∈r.1,bz y)/\(br bs rs).length<=100/\∀y∈gs,bz y:=by
 have j:=a.n8;have l:=rF bs rs;have g:=a.rl;have h:=a.bl;show⟨vV a.bl () λr c=>⟨(a.rr r c).1,(a.rr r c).2.1⟩,(),λz e=>fj (m:=64) (Ko (a.gg z e)) 'b'⟩
inductive z__law_all_back(ds:List D)(R:D->Prop):Prop|mk (n:Nat) (bs:List Bd) (rs:List aq) (gs:List Int) (s:Led) (NU:List (List Int)) (_:ds=[cC bs rs gs,gk n s,.lst (NU.map cQ),.lst ((br (pk (0,ŗ) s.bs s.st) (s.rs.map (cS s.st))).map aw)]) (_:Wy n s) (_:PlOk n bs rs gs) (_:SpotBk (dF bs rs gs) n s) (_:(∀x∈NU,x.length=s.st.length/\∀y∈x,y.natAbs<=2^725)) (_:R (.bl ř))
def Dn(F:Fun K "_law_all_back" "_law_all_back" og f J){z:Addr}(a:TxtStruck K mg z)(b_:Cl P w K mg base n "_law_givens" ["_law_plan"] z__law_givens)(C:Cl P w K mg base n "_law_meet" ["_law_rows_here","_law_spot"] z__law_meet)(B:Cl P w K mg base n "_law_times" ["_law_entries","_law_spot"] z__law_times)(T:Cl P w K mg base n "_law_wholes" ["_law_told","_law_size"] z__law_wholes)(IO:MthD P w K mg base n z "point_back" ["self","spot"] z_Struck__point_back)(M:mg "len"=ŗ):FnOk P w K mg base aE (n+1) f J ["_law_plan","_law_struck","_law_spots","_law_rows_here"] (lSp K z__law_all_back):=by
 refine F.okD qag (λds R h=>?_) (λNG A outer s H E ds R e h=>?_)
 ·let⟨k,bs,rs,gs,s,p,rfl,_⟩:=h;rfl
 let⟨k,bs,rs,gs,s,p,rfl,g,j,O,Q,q⟩:=h
 refine⟨_,(bt (cw (i:=4) qag.nd S V6 (aX b_ e S (ad (dv 0) ag aa) aa ae))
   (bt (eg Jw S (bX (dv 2)) (bc (i:=5) qag.nd S V6) (aD (bZ (cn (PD.q (aX C e S (ad (dv 3) (ad (dv 5) ag aa) aa) aa (au aa ae))) (λ_=>rfl)) (bt (cw (i:=6) qag.nd S V6 (ot IO e a.cl a.ns (dv 1) (ad (dv 5) ag aa) aa ae))
   (fV (bZ (PWD.td (ef (cP (cn (PD.q (aX T e S (ad (dv 6) (ad (bN da S M JQ (aO (PD.q (ax (ac 0))) aY aB) aB ae) ag bo) aa) aa (au bo ae))) (λ_=>rfl))) (hZ (cP (cn (PD.q (aX C e S (ad (dv 4) (ad (dv 6) ag aa) aa) aa (au aa ae))) (λ_=>rfl)))))) (aD (bf dg)) cf)
   (aD (bZ (aN (fH e.units) (PD.q (aX B e S (ad (ax (ac 0)) (ad (dv 6) ag aa) aB) aB (au aa ae))) (PD.q (aS bR (PD.q (aX B e S (ad (ax (PD.q (aL a.cl a.n_slim a.ns (ac 1)))) (ad (dv 5) ag aa) aB) aB (au aa ae))) (PD.q (aL a.cl a.n_extra a.ns (ac 1))))) (az _)) (aD (bf dg)) cf)))) cf)))
   (aD (bf dg)))),?_⟩
 have N:=g.n8;have Qk:=g.sn;let⟨p1,p2,p3⟩:=vD j;refine⟨bs,rs,_,S,by rw[j.bl];show N,by have:=j.rl;omega,?_⟩;refine⟨λi ρ=>∃u v:Ř Sl,ρ=[Z (.v (cC bs rs gs)),Z (.v (gk k s)),Z (.v (.lst (p.map cQ))),Z (.v (.lst ((br (pk (0,ŗ) s.bs s.st) (s.rs.map (cS s.st))).map aw))),Z (.v (.lst ((br bs rs).map aw))),u,v],⟨_,_,S⟩,?_,?_⟩
 ·rintro i d ρ hd ⟨u,v,rfl⟩;let⟨x,rfl,I⟩:=bI hd;let⟨G,r⟩:=Q x (Je I);have l:∀y∈x,bz y:=λy be=>pE (r y be);refine⟨_,x,S,wD g,tH g,l,λc=>?_,λc=>⟨_,_,S⟩⟩;let⟨U,l2,X,a_⟩:=sA g j.bl O G (metS_iff.mp c);have o:=DK g r;refine⟨S,S,k,s,x,S,g.pointP r,?_⟩;have L:fU (br bs rs) (il k s x)=ř:=metS_iff.mpr X;generalize il k s x=y at *;refine⟨λρ=>ρ=[Z (.v (cC bs rs gs)),Z (.v (gk k s)),Z (.v (.lst (p.map cQ))),Z (.v (.lst ((br (pk (0,ŗ) s.bs s.st) (s.rs.map (cS s.st))).map aw))),Z (.v (.lst ((br bs rs).map aw))),Z (.v (cQ x)),Z (.v (cQ y))],⟨_,S,y,_,S,by rw[IY,j.bl,U],(),ff,λ_=>⟨br bs rs,y,S,p2,p1,o,?_⟩⟩,?_⟩
  ·rw[L];show⟨ff,λ_=>rfl⟩
  rintro ρ rfl;refine⟨_,S,gs,y,S,by rw[j.gl];omega,p3,o,?_⟩;refine⟨S,_,S,_,S,pk 0 s.gl s.st,x,S,by unfold pk;rw[IY];omega,xg (bs:=bs) (rs:=rs) (gs:=gs) g,l,?_⟩;refine⟨S,_,S,?_⟩;change ((!(ar gs y==ar (pk 0 s.gl s.st) x+s.ex))=ř->_)/\((!(ar gs y==ar (pk 0 s.gl s.st) x+s.ex))=Ś->_);rw[a_,JK];show⟨ff,λ_=>⟨_,_,S⟩⟩
 rintro ρ ⟨u,v,rfl⟩;show q
noncomputable abbrev sp_law:=vF
noncomputable abbrev Ek:=wO
noncomputable def nums8:Y Int:=[0,1,2,2,3,3,3,3]
def yI{x:Int}(g:0<=x)(l:x<8):∃c:Nat,cF (nums8.map D.int) x=Z (.int (c:Nat))/\c<=3:=by
 let⟨k,rfl⟩:=Ll g
 have e:k<8:=by omega
 have:∀j<8,0<=nums8.getD j 0/\nums8.getD j 0<=3:=by decide
 let⟨a,b⟩:=this k e;let⟨c,h⟩:=Ll a;show⟨c,cK (i:=k) (by rw[←h];show bQ (show k<nums8.length from e)) S,()⟩
def qd{bs:Y Bd}{k:Nat}(h:bs.length<=3):(bF 3 (bs.take k)).length<=500:=by
 refine JC (Hl 3 _) ?_
 have:(bs.take k).length<=3:=by rw[Kb];omega
 show JC (KI 'b' this) 'b'
def ql{bs:Y Bd}(h:∀b∈bs,b.1.natAbs<=2^200):∀x∈bF 3 bs,∀y∈x,y.natAbs<=2^725:=λx a y c=>by
 have e:=EW a h y c
 have g:2^200+3<=2^725:=by lia
 omega
noncomputable abbrev LS(ns:Y Int)(o:Om)(n:Nat)(pl:D)(sp:Y Int)(st:D)(a c e g:Ř Sm):ak:=[Z (.v (.fzl (ns.map D.int))),Z (.ob ŗ o),Z (.v (.int (n:Nat))),Z (.v pl),Z (.v (cQ sp)),Z (.v st),a,c,e,g]
def Ey(F:Fun K "law" "law" lr f J){b_:Addr}(g:TxtStruck K mg b_)(Pw:ClM P w K mg base (n+1) "_law_pool" ["_law_script"] y__law_pool)(Pg:ClM P w K mg base (n+1) "_law_small" ["_law_pool_here","_law_count","_law_many","_law_opens"] y__law_small)(PL:ClM P w K mg base (n+1) "_law_far" ["_law_pool_here","_law_plan","_law_spot"] y__law_far)(xo:Cl P w K mg base (n+1) "_law_best" ["_law_spots","_law_rows_here","_law_goal"] z__law_best)(xq:Cl P w K mg base (n+1) "_law_window" ["_law_bounds_here","_law_wide"] z__law_window)(oQ:Cl P w K mg base (n+1) "_law_givens" ["_law_plan"] z__law_givens)(Ny:ClM P w K mg base (n+1) "_law_draw" ["_law_pool_here","_law_many"] y__law_draw)(IC:Cl P w K mg base (n+1) "_law_fields" ["_law_struck","_law_count"] z__law_fields)(IU:Cl P w K mg base (n+1) "_law_all_back" ["_law_plan","_law_struck","_law_spots","_law_rows_here"] z__law_all_back)(Oo:MkM P w K mg base n b_ ["self","plan"] uL):FnOk P w K mg base aE (n+2) f J ["_law_script"] (lSpM K (zM Ek)):=by
 refine F.okM qaF (λas R Rx h=>?_) (λNG A outer s H E as R Rx qs NI l h NW=>?_)
 ·let⟨_,rfl,ns,rfl,_⟩:=h;rfl
 let⟨_,rfl,ns,rfl,hz,q⟩:=h;obtain rfl:=jl NW
 refine⟨_,(ap (aH (i:=1) qaF.nd S V6 (bO Pw l S (aI (af (dv 0)) bg aa) aa ae))
   (ap (aH (i:=2) qaF.nd S V6 (oX (af (bw (ad am (ad am (ad am (ad am (ad am (ad am (ad am (ad am ag aF) aF) aF) aF) aF) aF) aF) aF))) (bO Ny l S (bT 1 (aI (af am) bg aF) aa) aa (au aF ae)) (λ_ _=>rfl)))
   (ap (xj (bO Pg l S (bT 1 (aI (af (dv 2)) (aI (af am) (aI (af am) bg aF) aF) aa) aa) aa (au aa (au aF (au aF ae)))) (gQ (n:=2) S (dc (cg (i:=3) qaF.nd S (ß S)) (dc (cg (i:=4) qaF.nd S V6) gL))))
   (ap (xj (bO PL l S (bT 1 (aI (af (dv 3)) (aI (af (dv 4)) bg aa) aa) aa) aa (au aa (au aa ae))) (gQ (n:=2) S (dc (cg (i:=3) qaF.nd S (ß S)) (dc (cg (i:=4) qaF.nd S V6) gL))))
   (ap (aH (i:=5) qaF.nd S V6 (xH (sF Oo l S g.mgC g.ns (aI (af (dv 3)) bg aa) aa ae)))
   (cB (ce (bW (cP (cn (PD.q (aX IC l S (ad (dv 5) (ad (dv 2) ag aa) aa) aa (au aa ae))) (λ_=>rfl)))) (aQ (cq (af dg))) cy)
   (ap (aH (i:=6) qaF.nd S V6 (af (aX xo l S (ad (aX xq l S (ad (ax (ac 3)) (ad am ag aF) aB) aB (au aF ae)) (ad (aX oQ l S (ad (dv 3) ag aa) aa ae) (ad (ax (ac 3)) ag aB) bo) bo) bo (au bo (au aB ae)))))
   (cB (ce (bW (aN (dA l.units) (PD.q (aL g.cl g.n_kind g.ns (ac 5))) (PD.q jb) (az _))) (aQ (cq (af (ed eR (ac 6) (PD.q bi) (az _))))) cy)
   (ap (aH (i:=7) qaF.nd S V6 (af (aX xq l S (ad (PF.d (dR (k:=1) (N':=["_law_k","_law_plan"]) (cap:=[ŗ,Z 3]) S (.ok (show b7 ["_law_script","_law_pool_here","_law_count","_law_plan","_law_spot","_law_struck","_law_most","_law_spots","_law_rows_here","_law_again"] (av lr) _ ["_law_k","_law_plan"] [ŗ,Z 3]=ř by lia)) 'a' (bK 'b') (bX (aL g.cl g.n_kept g.ns (ac 5))) (λ_ _ _ _ _=>(bc (i:=0) (show List.Nodup (["_law_k","_law_plan"]:Y Str)by lia) S V6)) (λ_ _ _ _ _=>(bA (PD.q (ax (ac 1))) (ac 0) (λ_ _=>rfl))))) (ad am ag aF) bD) bD (au aF ae))))
   (ap (aH (i:=8) qaF.nd S V6 (af (aX oQ l S (ad (aL g.cl g.n_slim g.ns (ac 5)) ag aJ) aJ ae)))
   (ap (aH (i:=9) qaF.nd S V6 (af (aX xo l S (ad (dv 7) (ad (dv 8) (ad (ax (PD.q (aL g.cl g.n_slim g.ns (ac 5)))) ag aB) aa) aa) aa (au aa (au aB ae)))))
   (cB (ce (bW (PWD.td (ef (aN eR (ac 6) (PD.q bi) (az _)) (hZ (aN eR (ac 9) (PD.q bi) (az _)))))) (aQ (cq (af (iu (ed eR (ac 6) (PD.q bi) (az _)) (jO (ed eR (ac 9) (PD.q bi) (az _))))))) cy)
   (aQ (cq (af (iu (ed (dA l.units) (ac 6) (PD.q (aS bR (ac 9) (PD.q (aL g.cl g.n_extra g.ns (ac 5))))) (az _)) (jO (aX IU l S (ad (dv 3) (ad (dv 5) (ad (dv 7) (ad (dv 8) ag aa) aa) aa) aa) aa (au aa (au aa (au aa ae))))))))))))))))))))),?_⟩
 intro ke;refine⟨_,S,S,ns,S,hz,λo0 Ul=>?_⟩;rfl';refine⟨⟨_,_,S⟩,_,S,S,_,_,8,0,S,Ul,'b','b',cM 'b',λx o1 x0 x1 OI=>?_⟩;rfl';let⟨n,hc,G⟩:=yI x0 x1;refine⟨_,hc,?_⟩;refine⟨⟨_,_,S⟩,_,S,S,_,_,n,_,6,0,S,OI,'b',(),'b','b','b','b',λbs rs gs sp o3 hS I Pt=>?_⟩;rfl';refine⟨S,?_⟩;refine⟨⟨_,_,S⟩,_,S,S,_,_,n,_,6,bs,rs,gs,sp,S,Pt,'b',(),'b',hS,λc j M L p be PH hsz OZ=>?_⟩;rfl';refine⟨S,?_⟩;have OR:=p.bl;subst OR;have VJ:iS c:=be (I 'b');let⟨p1,p2,p3⟩:=vD p;have RA:∀b∈c,b.1.natAbs<=2^200:=λb C=>(p.bb b C).1;have hA:=uY (br c j) gs (bF 3 c);have z:∀x∈bF 3 c,∀y∈x,bz y:=λx r y a_=>pE (ql RA x r y a_);refine⟨_,c,j,gs,λs=>Wy c.length s/\SpotBk (dF c j gs) c.length s/\SpotFw (dF c j gs) c.length s,mu,S,(),by have:=p.rl;omega,⟨p.wy,vc.1,vc.2⟩,Ig _ _,λt U hR hU QD=>⟨_,S,?_⟩,λt U I=>⟨_,S,?_⟩⟩
 ·let⟨o,C,T⟩:=U;rfl';have Qk:=o.sn;refine⟨λρ=>ρ=LS ns L c.length (cC c j gs) M (gk c.length t) ŗ ŗ ŗ ŗ,⟨_,c.length,t,S,.inl ⟨S,o⟩,ff,λ_=>rfl⟩,?_⟩;rintro ρ rfl;refine⟨_,S,_,c,3,S,S,(),λk _=>qd G,'b',c,j,_,S,(),by have:=p.rl;omega,_,S,bF 3 c,br c j,gs,S,p2,p1,by rw[p.gl];omega,p3,z,?_⟩
  have NV:(pk ((0:Int),(ŗ:Ř Int)) c t.st).length=t.st.length:=by unfold pk;rw[IY]
  have hB:=uY (br (pk (0,ŗ) t.bs t.st) (t.rs.map (cS t.st))) (pk 0 t.gl t.st) (bF 3 (pk (0,ŗ) c t.st));let⟨v,N⟩:=Gh o S VJ C T hA hB;generalize fv (bF 3 c) (br c j) gs=A at *;refine⟨λρ=>ρ=LS ns L c.length (cC c j gs) M (gk c.length t) (Z (.v (oI A))) ŗ ŗ ŗ,⟨S,_,S,λh=>absurd h 'a',λ_=>rfl⟩,?_⟩;rintro ρ rfl
  have QG:∀b∈pk ((0:Int),(ŗ:Ř Int)) c t.st,b.1.natAbs<=2^200:=λb PJ=>by let⟨u,X,rfl⟩:=Ju.mp (show b∈t.st.map _ from PJ);show RA _ (cI (o.sl u X))
  refine⟨S,_,S,?_⟩;refine gq (f:=aW) (λu=>aP (c.getD u (0,ŗ))) (bj ()) (λu X=>⟨_,S,_,fB (o.sl u X) S,S⟩) ?_;refine⟨.lst ((pk (0,ŗ) c t.st).map aP),pk (0,ŗ) c t.st,3,?_,S,(),λk _=>qd (),'b',?_⟩
  ·unfold pk;rw[J3];rfl
  rfl';refine⟨S,_,S,pk (0,ŗ) t.bs t.st,t.rs.map (cS t.st),_,S,by unfold pk;rw[IY];omega,by rw[IY];show o.rl,?_⟩;rfl';refine⟨S,_,S,_,S,bF 3 (pk (0,ŗ) c t.st),br (pk (0,ŗ) t.bs t.st) (t.rs.map (cS t.st)),pk 0 t.gl t.st,S,wD o,tH o,by unfold pk;rw[IY];omega,xg (bs:=c) (rs:=j) (gs:=gs) o,λx r y a_=>pE (ql QG x r y a_),?_⟩;rfl';generalize fv (bF 3 (pk (0,ŗ) c t.st)) (br (pk (0,ŗ) t.bs t.st) (t.rs.map (cS t.st))) (pk 0 t.gl t.st)=B at *
  cases A with
  |none=>
   have Q:B=ŗ:=v.mp S;subst Q;show⟨λ_=>False,⟨λ_=>⟨λ_=>⟨λ_=>q,tf⟩,tf⟩,tf⟩,λρ h=>h.elim⟩
  |some a=>
   cases B with
   |none=>cases (v.mpr S)
   |some b=>
    have e:=N a b S S;refine⟨λρ=>ρ=LS ns L c.length (cC c j gs) M (gk c.length t) (Z (.v (.int a))) (Z (.v (.lst ((bF 3 (pk (0,ŗ) c t.st)).map cQ)))) (Z (.v (.lst ((br (pk (0,ŗ) t.bs t.st) (t.rs.map (cS t.st))).map aw)))) (Z (.v (.int b))),⟨ff,λ_=>⟨ff,λ_=>rfl⟩⟩,?_⟩;rintro ρ rfl;refine⟨S,_,S,?_⟩;change ((a==b+t.ex)=ř->_)/\((a==b+t.ex)=Ś->_);rw[e,JK];show⟨λ_=>⟨c.length,c,j,gs,t,bF 3 (pk (0,ŗ) c t.st),S,o,p,C,λx r=>⟨by rw[(wnd_mem.mp r).1,NV],ql QG x r⟩,q⟩,tf⟩
 ·let⟨o,C,T⟩:=U;rfl';refine⟨λρ=>ρ=LS ns L c.length (cC c j gs) M (qG c.length (fY t (bx t) 1) ((fY t (bx t) 1).ln++[D.tup [D.str "shut",fT t]])) ŗ ŗ ŗ ŗ,⟨_,c.length,_,S,.inr ⟨_,S⟩,ff,λ_=>rfl⟩,?_⟩;rintro ρ rfl;refine⟨_,S,_,c,3,S,S,(),λk _=>qd G,'b',c,j,_,S,(),by have:=p.rl;omega,_,S,bF 3 c,br c j,gs,S,p2,p1,by rw[p.gl];omega,p3,z,?_⟩
  have NT:bx t≠.non:=λe=>by rw[e]at I;cases I
  have O:=HH o S T NT hA;generalize fv (bF 3 c) (br c j) gs=A at *;subst O;show⟨λ_=>False,⟨S,_,S,λ_=>q,λh=>absurd h 'a'⟩,λρ h=>h.elim⟩
end
def all_mk{l:PySem.W.OpenLaw}{w:È}{K:Â}{h:Heap}{mg:Str->Ř Value}{fa:Addr}{a:Addr}{f:Addr}(X:K.In h)(G:h.Ns Á mg)(hfa:mg "law"=Z (.ref fa))

  (N9:Ò K Á "Ledger"=Z (Z (.ref a)))
  (Oa:Ò K Á "Struck"=Z (Z (.ref f)))
  (a1:Has K mj "common_of_two")
  (a2:Has K nJ "common")
  (a3:Has K lY "up")
  (a4:Has K k6 "unit")
  (a5:Has K lw "left")
  (a6:Has K li "turned")
  (a7:Has K kN "evened")
  (a8:Has K ju "givens")
  (a9:Has K kU "without")
  (a10:Has K kB "only_unknown")
  (a11:Has K mz "first_most_marks")
  (a12:Has K mi "is_crossed")
  (a13:Has K nM "greatest_sum")
  (a14:Has K lj "least_sum")
  (a15:Has K oh "crossed_unknown")
  (a16:Has K nh "hopeless_row")
  (a17:Has K mh "idle_row")
  (a18:Has K k7 "single_row")
  (a19:Has K mC "uneven_row")
  (a20:Has K nX "doubled_row")
  (a21:Has K mZ "fixed_unknown")
  (a22:Has K lq "has_above")
  (a23:Has K kX "has_below")
  (a24:Has K mP "sinking_unknown")
  (a25:Has K nj "rising_unknown")
  (a26:Has K on "hanging_unknown")
  (a27:Has K oF "row_struck")
  (a28:Has K mS "unknown_struck")
  (a29:Has K ls "hopeless_shares")
  (a30:Has K mW "strike")
  (a31:Has K kq "picked")
  (a32:Has K kO "slim_plan")
  (a33:Has K mt "spread")
  (a34:Has K lu "least_meeting")
  (a35:Has K lZ "_law_whole")
  (a36:Has K kD "_law_wholes")
  (a37:Has K mI "_law_pool")
  (a38:Has K lU "_law_draw")
  (a39:Has K lc "_law_times")
  (a40:Has K nS "_law_bounds")
  (a41:Has K mO "_law_rows")
  (a42:Has K lW "_law_small")
  (a43:Has K jk "_law_far")
  (a44:Has K oJ "_law_plan_is")
  (a45:Has K kR "_law_fields")
  (a46:Has K jN "_law_givens")
  (a47:Has K kE "_law_meet")
  (a48:Has K lf "_law_window")
  (a49:Has K ma "_law_best")
  (a50:Has K og "_law_all_back")
  (a51:Has K lr "law")
  (VL:HasM K lP a "__init__" "Ledger.__init__")
  (VM:HasM K nK a "put_line" "Ledger.put_line")
  (VN:HasM K ou a "drop_row" "Ledger.drop_row")
  (VO:HasM K mw a "turn_to_bound" "Ledger.turn_to_bound")
  (VP:HasM K nv a "even_row" "Ledger.even_row")
  (VQ:HasM K oa a "bound_share" "Ledger.bound_share")
  (VR:HasM K me a "fix" "Ledger.fix")
  (VS:HasM K jI a "hang" "Ledger.hang")
  (VT:HasM K nG a "let_go" "Ledger.let_go")
  (VU:HasM K lX f "__init__" "Struck.__init__")
  (VW:HasM K nH f "point_back" "Struck.point_back")
  (P7:ô K a Str.empty=ř) (P8:ö K a=ř) (P9:Ą K a=ř) (Qa:Ð K (.ref a) "__setattr__"=Z (Z (.builtin "object.__setattr__"))) (Qb:Ī K a=ř) (Qc:ã K (.ref a)=ř)
  (OJ:Ð K (.ref a) "bounds"=Z ŗ)
  (O3:Ð K (.ref a) "rows"=Z ŗ)
  (O4:Ð K (.ref a) "goal"=Z ŗ)
  (OC:Ð K (.ref a) "staying"=Z ŗ)
  (O5:Ð K (.ref a) "told"=Z ŗ)
  (OS:Ð K (.ref a) "lines"=Z ŗ)
  (N6:Ð K (.ref a) "least_marks"=Z ŗ)
  (Oe:Ð K (.ref a) "most_marks"=Z ŗ)
  (Oq:Ð K (.ref a) "row_marks"=Z ŗ)
  (N7:Ð K (.ref a) "goal_shares"=Z ŗ)
  (OT:Ð K (.ref a) "extra"=Z ŗ)
  (O6:Ð K (.ref a) "gone"=Z ŗ)
  (Qd:ô K f Str.empty=ř) (Qe:ö K f=ř) (Qf:Ą K f=ř) (Qg:Ð K (.ref f) "__setattr__"=Z (Z (.builtin "object.__setattr__"))) (Qh:Ī K f=ř) (Qi:ã K (.ref f)=ř)
  (OK:Ð K (.ref f) "ledger"=Z ŗ)
  (OD:Ð K (.ref f) "breadth"=Z ŗ)
  (O7:Ð K (.ref f) "kind"=Z ŗ)
  (OU:Ð K (.ref f) "paper"=Z ŗ)
  (O8:Ð K (.ref f) "slim"=Z ŗ)
  (O9:Ð K (.ref f) "kept"=Z ŗ)
  (OV:Ð K (.ref f) "extra"=Z ŗ)
  (Tt:Ò K Á "abs"=Z ŗ)
  (QY:Ò K Á "tuple"=Z ŗ)
  (QZ:Ò K Á "range"=Z ŗ)
  (Tu:Ò K Á "sum"=Z ŗ)
  (Tv:Ò K Á "zip"=Z ŗ)
  (Tw:Ò K Á "len"=Z ŗ)
  (Px:Ò K Á "enumerate"=Z ŗ)
  (Tz:Ò K Á "any"=Z ŗ)
  (TB:Ò K Á "max"=Z ŗ)
  (Ph:Ò K Á "isinstance"=Z ŗ)
  (TC:Ò K Á "int"=Z ŗ)
  (y_bool:Ò K Á "bool"=Z ŗ)
  (TF:Ò K Á "all"=Z ŗ)
  (R6:Ò K Á "list"=Z ŗ)
  (TH:Ò K Á "min"=Z ŗ)
  (PM:Ò K Á "reversed"=Z ŗ) :
  ∃fd:Í,(∀(s:À)(v:Value),Ď s fd ⟨[v],[]⟩ [("_law_script",v)])/\∀base:Heap,K.In base->base.Ns Á mg->FnOk l.prog w K mg base aE 9 fa fd ["_law_script"] (sp_law K):=by
 let⟨f1,d1,F1,m1,_⟩:=a1.fn X G;let⟨f2,d2,F2,m2,_⟩:=a2.fn X G;let⟨f3,d3,F3,m3,_⟩:=a3.fn X G;let⟨f4,d4,F4,m4,_⟩:=a4.fn X G;let⟨f5,d5,F5,m5,_⟩:=a5.fn X G;let⟨f6,d6,F6,m6,_⟩:=a6.fn X G;let⟨f7,d7,F7,m7,_⟩:=a7.fn X G;let⟨f8,d8,F8,m8,_⟩:=a8.fn X G;let⟨f9,d9,F9,m9,_⟩:=a9.fn X G;let⟨f10,d10,u,m10,_⟩:=a10.fn X G;let⟨f11,d11,x,m11,_⟩:=a11.fn X G;let⟨f12,d12,y,m12,_⟩:=a12.fn X G;let⟨f13,d13,z,m13,_⟩:=a13.fn X G;let⟨f14,d14,A,m14,_⟩:=a14.fn X G;let⟨f15,d15,B,m15,_⟩:=a15.fn X G;let⟨f16,d16,C,m16,_⟩:=a16.fn X G;let⟨f17,d17,E,m17,_⟩:=a17.fn X G;let⟨f18,d18,F,m18,_⟩:=a18.fn X G;let⟨f19,d19,H,m19,_⟩:=a19.fn X G;let⟨f20,d20,I,m20,_⟩:=a20.fn X G;let⟨f21,d21,J,m21,_⟩:=a21.fn X G;let⟨f22,d22,L,m22,_⟩:=a22.fn X G;let⟨f23,d23,M,m23,_⟩:=a23.fn X G;let⟨f24,d24,N,m24,_⟩:=a24.fn X G;let⟨f25,d25,O,m25,_⟩:=a25.fn X G;let⟨f26,d26,Q,m26,_⟩:=a26.fn X G;let⟨f27,d27,R,m27,_⟩:=a27.fn X G;let⟨f28,d28,be,m28,_⟩:=a28.fn X G;let⟨f29,d29,T,m29,_⟩:=a29.fn X G;let⟨f30,d30,U,m30,_⟩:=a30.fn X G;let⟨f31,d31,a_,m31,_⟩:=a31.fn X G;let⟨f32,d32,b_,m32,_⟩:=a32.fn X G;let⟨f33,d33,F33,m33,_⟩:=a33.fn X G;let⟨f34,d34,F34,m34,_⟩:=a34.fn X G;let⟨f35,d35,F35,m35,_⟩:=a35.fn X G;let⟨f36,d36,F36,m36,_⟩:=a36.fn X G;let⟨f37,d37,F37,m37,_⟩:=a37.fn X G;let⟨f38,d38,F38,m38,_⟩:=a38.fn X G;let⟨f39,d39,F39,m39,_⟩:=a39.fn X G;let⟨f40,d40,F40,m40,_⟩:=a40.fn X G;let⟨f41,d41,F41,m41,_⟩:=a41.fn X G;let⟨f42,d42,F42,m42,_⟩:=a42.fn X G;let⟨f43,d43,F43,m43,_⟩:=a43.fn X G;let⟨f44,d44,F44,m44,_⟩:=a44.fn X G;let⟨f45,d45,F45,m45,_⟩:=a45.fn X G;let⟨f46,d46,F46,m46,_⟩:=a46.fn X G;let⟨f47,d47,F47,m47,_⟩:=a47.fn X G;let⟨f48,d48,F48,m48,_⟩:=a48.fn X G;let⟨f49,d49,F49,m49,_⟩:=a49.fn X G;let⟨f50,d50,F50,m50,_⟩:=a50.fn X G;let⟨f51,d51,F51,m51,_,_,_,e⟩:=a51.fn X G;let⟨f52,d52,VL,i52,k52,F52⟩:=VL;have b52:=F52.bd (ps:=["self","plan"]);let⟨f53,d53,VM,i53,k53,F53⟩:=VM;have b53:=F53.bd (ps:=["self","shares","divisor"]);let⟨f54,d54,VN,i54,k54,F54⟩:=VN;have b54:=F54.bd (ps:=["self","place"]);let⟨f55,d55,VO,i55,k55,F55⟩:=VO;have b55:=F55.bd (ps:=["self","place"]);let⟨f56,d56,VP,i56,k56,F56⟩:=VP;have b56:=F56.bd (ps:=["self","place"]);let⟨f57,d57,VQ,i57,k57,F57⟩:=VQ;have b57:=F57.bd (ps:=["self","unknown","entry"]);let⟨f58,d58,VR,i58,k58,F58⟩:=VR;have b58:=F58.bd (ps:=["self","unknown","number"]);let⟨f59,d59,VS,i59,k59,F59⟩:=VS;have b59:=F59.bd (ps:=["self","unknown"]);let⟨f60,d60,VT,i60,k60,F60⟩:=VT;have b60:=F60.bd (ps:=["self","unknown","least","rows"]);let⟨f61,d61,VU,i61,k61,F61⟩:=VU;have b61:=F61.bd (ps:=["self","plan"]);let⟨f62,d62,VW,i62,k62,F62⟩:=VW;have b62:=F62.bd (ps:=["self","spot"]);cases hfa.symm.trans m51;refine⟨d51,λs v=>by rw[e];show .of_eq S,λbase _ _=>?_⟩;have ic:=Kl X G Tt;have c:=Kl X G QY;have p:=Kl X G QZ;have kg:=Kl X G Tu;have eV:=Kl X G Tv;have j:=Kl X G Tw;have o:=Kl X G Px;have kj:=Kl X G Tz;have iA:=Kl X G TB;have ee:=Kl X G Ph;have ia:=Kl X G TC;have rQ:=Kl X G y_bool;have ka:=Kl X G TF;have eU:=Kl X G R6;have rP:=Kl X G TH;have ki:=Kl X G PM;have g:TxtLedger K mg a:=⟨⟨P7,P8,P9,Qa⟩,OJ,O3,O4,OC,O5,OS,N6,Oe,Oq,N7,OT,O6,mg_of X G N9,N9⟩;have Nv:TxtStruck K mg f:=⟨⟨Qd,Qe,Qf,Qg⟩,OK,OD,O7,OU,O8,O9,OV,mg_of X G Oa,Oa⟩;have H1:=FQ (P:=l.prog) (w:=w) (mg:=mg) (base:=base) (n:=0) F1 ic;have Q1:=F1.cl m1 H1;have H2:=EB (n:=1) F2 Q1.mono;have Q2:=F2.cl m2 H2;have H3:=xu (P:=l.prog) (w:=w) (mg:=mg) (base:=base) (n:=0) F3;have Q3:=F3.cl m3 H3;have H4:=HL (P:=l.prog) (w:=w) (mg:=mg) (base:=base) (n:=0) F4 c p;have Q4:=F4.cl m4 H4;have H5:=CK (P:=l.prog) (w:=w) (mg:=mg) (base:=base) (n:=0) F5 kg eV;have Q5:=F5.cl m5 H5;have H6:=Cw (P:=l.prog) (w:=w) (mg:=mg) (base:=base) (n:=0) F6 c;have Q6:=F6.cl m6 H6;have H7:=Cg (n:=2) F7 Q2.mono Q3.mono c;have Q7:=F7.cl m7 H7;have H8:=DG (n:=1) F8 Q6.mono Q4.mono j p c;have Q8:=F8.cl m8 H8;have H9:=yc (P:=l.prog) (w:=w) (mg:=mg) (base:=base) (n:=0) F9 c o;have Q9:=F9.cl m9 H9;have UK:=Bz (P:=l.prog) (w:=w) (mg:=mg) (base:=base) (n:=0) u o;have Q10:=u.cl m10 UK;have H11:=ze (P:=l.prog) (w:=w) (mg:=mg) (base:=base) (n:=0) x j;have R11:=x.clM m11 H11;have H12:=Fr (P:=l.prog) (w:=w) (mg:=mg) (base:=base) (n:=0) y;have VX:=y.cl m12 H12;have H13:=As (P:=l.prog) (w:=w) (mg:=mg) (base:=base) (n:=0) z eV;have Q13:=z.cl m13 H13;have H14:=GU (n:=1) A Q13.mono;have Q14:=A.cl m14 H14;have H15:=D6 (n:=1) B VX.mono;have Q15:=B.cl m15 H15;have H16:=zX (n:=1) C Q13.mono o;have Q16:=C.cl m16 H16;have H17:=zY (n:=2) E Q14.mono o;have Q17:=E.cl m17 H17;have H18:=Ed (P:=l.prog) (w:=w) (mg:=mg) (base:=base) (n:=0) F o j;have Q18:=F.cl m18 H18;have H19:=EJ (n:=2) H Q2.mono o;have Q19:=H.cl m19 H19;have H20:=xy (P:=l.prog) (w:=w) (mg:=mg) (base:=base) (n:=0) I o;have Q20:=I.cl m20 (H20.imp mR);have H21:=Ir (P:=l.prog) (w:=w) (mg:=mg) (base:=base) (n:=0) J;have Q21:=J.cl m21 H21;have H22:=EK (P:=l.prog) (w:=w) (mg:=mg) (base:=base) (n:=0) L kj;have Q22:=L.cl m22 H22;have H23:=yZ (P:=l.prog) (w:=w) (mg:=mg) (base:=base) (n:=0) M kj;have Q23:=M.cl m23 H23;have H24:=xG (n:=1) N VX.mono Q22.mono;have Q24:=N.cl m24 H24;have H25:=Gp (n:=1) O VX.mono Q23.mono;have Q25:=O.cl m25 H25;have H26:=HR (n:=1) Q Q23.mono;have Q26:=Q.cl m26 H26;have H31:=zO (P:=l.prog) (w:=w) (mg:=mg) (base:=base) (n:=0) a_ c;have Q31:=a_.cl m31 H31;have H32:=GO (n:=1) b_ g Q31.mono c;have Q32:=b_.cl m32 H32;have H33:=CT (P:=l.prog) (w:=w) (mg:=mg) (base:=base) (n:=0) F33 eV;have R33:=F33.clM m33 H33;have H34:=zS (n:=1) F34 Q3.mono Q5.mono iA;have Q34:=F34.cl m34 H34;have H35:=zi (P:=l.prog) (w:=w) (mg:=mg) (base:=base) (n:=0) F35 ee ia rQ;have VY:=F35.cl m35 H35;have H36:=Ag (n:=1) F36 VY.mono ee c ka j;have VZ:=F36.cl m36 H36;have H37:=Hb (P:=l.prog) (w:=w) (mg:=mg) (base:=base) (n:=0) F37 j;have R37:=F37.clM m37 H37;have H38:=Bs (P:=l.prog) (w:=w) (mg:=mg) (base:=base) (n:=0) F38;have TJ:=F38.clM m38 H38;have H39:=GB (P:=l.prog) (w:=w) (mg:=mg) (base:=base) (n:=0) F39 kg eV;have r:=F39.cl m39 H39;have H40:=FD (n:=1) F40 TJ.mono p ia iA;have R40:=F40.clM m40 H40;have H41:=yE (n:=1) F41 TJ.mono r.mono p eU ic j c;have R41:=F41.clM m41 H41;have H42:=zr (n:=2) F42 R40.mono R41.mono TJ.mono r.mono c iA;have R42:=F42.clM m42 H42;have H43:=Gf (n:=1) F43 TJ.mono r.mono eV c;have R43:=F43.clM m43 H43;have H44:=BO (n:=2) F44 VZ.mono VY.mono ee c j;have Q44:=F44.cl m44 H44;have H45:=HU (n:=3) F45 Nv VZ.mono VY.mono Q44.mono eU ee c j p;have Q45:=F45.cl m45 H45;have H46:=CP (P:=l.prog) (w:=w) (mg:=mg) (base:=base) (n:=0) F46 j o eU c ia p;have Q46:=F46.cl m46 H46;have H47:=zt (n:=1) F47 r.mono ka;have Q47:=F47.cl m47 H47;have H48:=yr (P:=l.prog) (w:=w) (mg:=mg) (base:=base) (n:=0) F48 rP p;have Q48:=F48.cl m48 (H48.imp mR);have H49:=G8 (n:=2) F49 Q47.mono r.mono;have Q49:=F49.cl m49 H49;have H52:=DS (n:=2) F52 g R11.mono Q8.mono eU j p;have R52:=MkM.mk ⟨_,_,H52,b52,⟨Qb,VL,i52,Qc⟩⟩;have H53:=ER (P:=l.prog) (w:=w) (mg:=mg) (base:=base) (n:=0) F53 g j;have Up:=MthM.mk ⟨_,_,H53,b53,⟨VM,i53,k53⟩⟩;have H54:=Cz (P:=l.prog) (w:=w) (mg:=mg) (base:=base) (n:=0) F54 g;have V5:=MthM.mk ⟨_,_,H54,b54,⟨VN,i54,k54⟩⟩;have H55:=CC (n:=1) F55 g Q10.mono Q3.mono V5.mono Up.mono ic;have R55:=MthM.mk ⟨_,_,H55,b55,⟨VO,i55,k55⟩⟩;have H56:=yO (n:=3) F56 g Q7.mono Q2.mono Up.mono;have R56:=MthM.mk ⟨_,_,H56,b56,⟨VP,i56,k56⟩⟩;have H27:=CM (n:=4) R g Q17.mono Q18.mono Q19.mono Q20.mono V5.mono R55.mono R56.mono;have R27:=R.clM m27 H27;have H57:=Dh (P:=l.prog) (w:=w) (mg:=mg) (base:=base) (n:=0) F57 g;have Q57:=MthD.mk ⟨_,_,H57,b57,⟨VQ,i57,k57⟩⟩;have H29:=Ap (n:=2) T g Q15.mono Q16.mono Q57.mono c o;have Q29:=T.cl m29 H29;have H60:=Iq (P:=l.prog) (w:=w) (mg:=mg) (base:=base) (n:=0) F60 g c;have R60:=MthM.mk ⟨_,_,H60,b60,⟨VT,i60,k60⟩⟩;have H58:=G0 (n:=1) F58 g Q9.mono R60.mono Up.mono Q57.mono p j;have R58:=MthM.mk ⟨_,_,H58,b58,⟨VR,i58,k58⟩⟩;have H59:=Ej (n:=1) F59 g R60.mono V5.mono ki o;have R59:=MthM.mk ⟨_,_,H59,b59,⟨VS,i59,k59⟩⟩;have H28:=xM (n:=2) be g Q21.mono Q25.mono Q26.mono Q24.mono R58.mono R59.mono;have R28:=be.clM m28 H28;have H30:=Cy (n:=5) U Q29.mono R27.mono R28.mono;have R30:=U.clM m30 H30;have H61:=Fp (n:=5) F61 Nv g R30.mono Q32.mono R52.mono Up.mono j c;have R61:=MkM.mk ⟨_,_,H61,b61,⟨Qh,VU,i61,Qi⟩⟩;have H62:=AW (n:=2) F62 Nv g R33.mono Q34.mono ki c;have Q62:=MthD.mk ⟨_,_,H62.imp mR,b62,⟨VW,i62,k62⟩⟩;have H50:=Dn (n:=3) F50 Nv Q46.mono Q47.mono r.mono VZ.mono Q62.mono j;have Q50:=F50.cl m50 H50;have H51:=Ey (n:=7) F51 Nv R37.mono R42.mono R43.mono Q49.mono Q48.mono Q46.mono TJ.mono Q45.mono Q50.mono R61.mono;show (H51.imp mR).imp AV
def walk{l:PySem.W.OpenLaw}{q:Å}{c:Y Str}{v:(Str->Ř Value)->Heap->Prop}{e:È->Heap->Prop}{d:DefRec}{K:ī->Â}(E:l.most=Z 63)(p:d.params.defaults=[])(r:PyProof.Rows.importsNone q=ř)
  (B:∀(w:È)(h:Heap),e w h->(K w.params).In h) (y:∀w:È,Ò (K w.params) Á "least_grown"=Z ŗ/\Ò (K w.params) Á "greatest_first"=Z ŗ)
  (F:∀(w:È)(mg:Str->Ř Value)(g:Addr)(h:Heap),(K w.params).In h->h.Ns Á mg->mg d.name=Z (.ref g)->
   ∃j:Í,(∀(s:À)(u:Value),Ď s j ⟨[u],[]⟩ [("_law_script",u)])/\∀base:Heap,(K w.params).In base->base.Ns Á mg->FnOk l.prog w (K w.params) mg base aE 9 g j ["_law_script"] (sp_law (K w.params))) :
  PySem.W.WalkO q c v e l.row.toRowW d [] (λf vs=>PySem.call f vs):=
 L2.walk_of (n:=63) (k:=9) (x:="_law_script") (CX:=λ_=>aE) (sp:=λw=>sp_law (K w.params)) E 'b' p r ⟨S,'b','b'⟩ B F (λw H a ns C _ A=>⟨a,ns,S,A,C,(λt o=>by rw[yN (y w)]at o;cases o),λ_=>rfl⟩) λ_ _ _ _ _ z=>z
end Kx
namespace Kx
open PySem PySem.W L2
noncomputable def KK:Params->Frag:=λP=>
 (nat_lit 2,⟨.none,ŗ,(.dict #[] 0),#[]⟩) ::
 (nat_lit 3,⟨(.type "dict"),ŗ,(.dict #[dE P "__name__" 165 ((.str "law_cutyard_k35_whole_same_best" 704)),dE P "__doc__" 166 (.none),dE P "__package__" 167 (.none),dE P "__loader__" 168 ((.builtin "__main__.__loader__#opaque")),dE P "__spec__" 169 (.none),dE P "__annotations__" 170 ((.ref 6)),dE P "__builtins__" 171 ((.ref 4)),dE P "__file__" 173 ((.str "/claim/cut.py" 172)),dE P "__cached__" 174 (.none),dE P "_wall" 193 ((.ref 21)),dE P "YardError" 213 ((.ref 31)),dE P "NoNumber" 229 ((.ref 44)),dE P "common_of_two" 242 ((.ref 53)),dE P "common" 251 ((.ref 60)),dE P "up" 259 ((.ref 67)),dE P "unit" 267 ((.ref 72)),dE P "left" 273 ((.ref 77)),dE P "turned" 279 ((.ref 82)),dE P "evened" 285 ((.ref 87)),dE P "givens" 293 ((.ref 92)),dE P "without" 301 ((.ref 97)),dE P "only_unknown" 307 ((.ref 102)),dE P "first_most_marks" 317 ((.ref 109)),dE P "Ledger" 436 ((.ref 180)),dE P "is_crossed" 445 ((.ref 191)),dE P "greatest_sum" 456 ((.ref 198)),dE P "least_sum" 462 ((.ref 203)),dE P "crossed_unknown" 471 ((.ref 210)),dE P "hopeless_row" 482 ((.ref 217)),dE P "idle_row" 493 ((.ref 224)),dE P "single_row" 499 ((.ref 229)),dE P "uneven_row" 508 ((.ref 236)),dE P "doubled_row" 519 ((.ref 243)),dE P "fixed_unknown" 528 ((.ref 250)),dE P "has_above" 534 ((.ref 255)),dE P "has_below" 540 ((.ref 260)),dE P "sinking_unknown" 551 ((.ref 267)),dE P "rising_unknown" 563 ((.ref 274)),dE P "hanging_unknown" 574 ((.ref 281)),dE P "row_struck" 584 ((.ref 288)),dE P "unknown_struck" 592 ((.ref 295)),dE P "hopeless_shares" 598 ((.ref 300)),dE P "strike" 606 ((.ref 307)),dE P "picked" 612 ((.ref 312)),dE P "slim_plan" 618 ((.ref 317)),dE P "spread" 630 ((.ref 324)),dE P "least_meeting" 636 ((.ref 329)),dE P "Struck" 703 ((.ref 367)),dE P "_law_whole" 712 ((.ref 378)),dE P "_law_wholes" 718 ((.ref 383)),dE P "_law_pool" 728 ((.ref 390)),dE P "_law_draw" 739 ((.ref 397)),dE P "_law_times" 745 ((.ref 402)),dE P "_law_bounds" 762 ((.ref 409)),dE P "_law_rows" 779 ((.ref 416)),dE P "_law_small" 798 ((.ref 423)),dE P "_law_far" 804 ((.ref 428)),dE P "_law_plan_is" 814 ((.ref 435)),dE P "_law_fields" 820 ((.ref 440)),dE P "_law_givens" 826 ((.ref 445)),dE P "_law_meet" 832 ((.ref 450)),dE P "_law_window" 838 ((.ref 455)),dE P "_law_best" 850 ((.ref 462)),dE P "_law_all_back" 863 ((.ref 469)),dE P "law" 869 ((.ref 474))] 65),#[]⟩) ::
(nat_lit 20,cO "_wall" 187 "_wall" 188 189 1 1 3 15 181 16 (.ref 17) (.ref 18) 19 191 192) ::
 (nat_lit 21,fO HF "_wall" "_wall" "__main__" 164 20) ::
(nat_lit 52,cO "common_of_two" 232 "common_of_two" 233 234 10 2 3 47 181 48 (.ref 49) (.ref 50) 51 240 241) ::
 (nat_lit 53,fO mj "common_of_two" "common_of_two" "cutyard.wholes" 230 52) ::
(nat_lit 59,cO "common" 243 "common" 244 245 18 1 3 54 181 55 (.ref 56) (.ref 57) 58 249 250) ::
 (nat_lit 60,fO nJ "common" "common" "cutyard.wholes" 230 59) ::
(nat_lit 66,cO "up" 252 "up" 253 254 23 2 3 61 181 62 (.ref 63) (.ref 64) 65 257 258) ::
 (nat_lit 67,fO lY "up" "up" "cutyard.wholes" 230 66) ::
(nat_lit 71,cO "unit" 262 "unit" 263 264 28 2 3 68 181 69 .none .none 70 265 266) ::
 (nat_lit 72,fO k6 "unit" "unit" "cutyard.rows" 260 71) ::
(nat_lit 76,cO "left" 268 "left" 269 270 30 2 3 73 181 74 .none .none 75 271 272) ::
 (nat_lit 77,fO lw "left" "left" "cutyard.rows" 260 76) ::
(nat_lit 81,cO "turned" 274 "turned" 275 276 32 1 3 78 181 79 .none .none 80 277 278) ::
 (nat_lit 82,fO li "turned" "turned" "cutyard.rows" 260 81) ::
(nat_lit 86,cO "evened" 280 "evened" 281 282 34 1 3 83 181 84 .none .none 85 283 284) ::
 (nat_lit 87,fO kN "evened" "evened" "cutyard.rows" 260 86) ::
(nat_lit 91,cO "givens" 288 "givens" 289 290 40 1 3 88 181 89 .none .none 90 291 292) ::
 (nat_lit 92,fO ju "givens" "givens" "cutyard.plans" 286 91) ::
(nat_lit 96,cO "without" 296 "without" 297 298 47 2 3 93 181 94 .none .none 95 299 300) ::
 (nat_lit 97,fO kU "without" "without" "cutyard.ledger" 294 96) ::
(nat_lit 101,cO "only_unknown" 302 "only_unknown" 303 304 49 1 3 98 181 99 .none .none 100 305 306) ::
 (nat_lit 102,fO kB "only_unknown" "only_unknown" "cutyard.ledger" 294 101) ::
(nat_lit 108,cO "first_most_marks" 308 "first_most_marks" 309 310 51 1 3 103 181 104 (.ref 105) (.ref 106) 107 315 316) ::
 (nat_lit 109,fO mz "first_most_marks" "first_most_marks" "cutyard.ledger" 294 108) ::
(nat_lit 122,cO "__init__" 330 "Ledger.__init__" 331 332 63 2 3 117 181 118 (.ref 119) (.ref 120) 121 335 336) ::
 (nat_lit 123,fO lP "__init__" "Ledger.__init__" "cutyard.ledger" 294 122) ::
(nat_lit 129,cO "put_line" 338 "Ledger.put_line" 339 340 77 3 3 124 181 125 (.ref 126) (.ref 127) 128 344 345) ::
 (nat_lit 130,fO nK "put_line" "Ledger.put_line" "cutyard.ledger" 294 129) ::
(nat_lit 136,cO "drop_row" 347 "Ledger.drop_row" 348 349 81 2 3 131 181 132 (.ref 133) (.ref 134) 135 352 353) ::
 (nat_lit 137,fO ou "drop_row" "Ledger.drop_row" "cutyard.ledger" 294 136) ::
(nat_lit 143,cO "turn_to_bound" 355 "Ledger.turn_to_bound" 356 357 85 2 3 138 181 139 (.ref 140) (.ref 141) 142 366 367) ::
 (nat_lit 144,fO mw "turn_to_bound" "Ledger.turn_to_bound" "cutyard.ledger" 294 143) ::
(nat_lit 150,cO "even_row" 369 "Ledger.even_row" 370 371 100 2 3 145 181 146 (.ref 147) (.ref 148) 149 375 376) ::
 (nat_lit 151,fO nv "even_row" "Ledger.even_row" "cutyard.ledger" 294 150) ::
(nat_lit 157,cO "bound_share" 378 "Ledger.bound_share" 379 380 105 3 3 152 181 153 (.ref 154) (.ref 155) 156 384 385) ::
 (nat_lit 158,fO oa "bound_share" "Ledger.bound_share" "cutyard.ledger" 294 157) ::
(nat_lit 164,cO "fix" 387 "Ledger.fix" 388 389 110 3 3 159 181 160 (.ref 161) (.ref 162) 163 398 399) ::
 (nat_lit 165,fO me "fix" "Ledger.fix" "cutyard.ledger" 294 164) ::
(nat_lit 169,cO "hang" 401 "Ledger.hang" 402 403 124 2 3 166 181 167 .none .none 168 404 405) ::
 (nat_lit 170,fO jI "hang" "Ledger.hang" "cutyard.ledger" 294 169) ::
(nat_lit 176,cO "let_go" 407 "Ledger.let_go" 408 409 130 4 3 171 181 172 (.ref 173) (.ref 174) 175 414 415) ::
 (nat_lit 177,fO nG "let_go" "Ledger.let_go" "cutyard.ledger" 294 176) ::
 (nat_lit 178,⟨(.type "tuple"),ŗ,(.seq #[(.str "bounds" 417),(.str "extra" 418),(.str "goal" 419),(.str "goal_shares" 420),(.str "gone" 421),(.str "least_marks" 422),(.str "lines" 423),(.str "most_marks" 424),(.str "row_marks" 425),(.str "rows" 426),(.str "staying" 427),(.str "told" 428)] 0),#[]⟩) ::
 (nat_lit 179,⟨(.type "dict"),ŗ,(.dict #[dE P "__module__" 325 ((.str "cutyard.ledger" 294)),dE P "__firstlineno__" 329 ((.int 61 328)),dE P "__init__" 337 ((.ref 123)),dE P "put_line" 346 ((.ref 130)),dE P "drop_row" 354 ((.ref 137)),dE P "turn_to_bound" 368 ((.ref 144)),dE P "even_row" 377 ((.ref 151)),dE P "bound_share" 386 ((.ref 158)),dE P "fix" 400 ((.ref 165)),dE P "hang" 406 ((.ref 170)),dE P "let_go" 416 ((.ref 177)),dE P "__static_attributes__" 429 ((.ref 178)),dE P "__dict__" 431 ((.ref 181)),dE P "__weakref__" 433 ((.ref 182)),dE P "__doc__" 434 (.none)] 4),#[]⟩) ::
 (nat_lit 180,⟨(.type "type"),ŗ,(.cls ⟨"Ledger",[(.type "object")],[(.ref 180),(.type "object")],179,"Ledger",ř,[],[],Ś,ŗ,Ś⟩),#[ŗ,ŗ,(Z (.str "Ledger" 318)),(Z (.str "Ledger" 326)),(Z (.builtin "object.__new__")),(Z (.bool ř))]⟩) ::
 (nat_lit 181,⟨(.type "getset_descriptor"),ŗ,(.fields #[(.str "__dict__" 430),(.ref 180),(.builtin "function.__dict__"),(.builtin "function.__dict__#set")]),#[]⟩) ::
 (nat_lit 182,⟨(.type "getset_descriptor"),ŗ,(.fields #[(.str "__weakref__" 432),(.ref 180),(.builtin "ExceptionGroup.__weakref__"),.none]),#[]⟩) ::
(nat_lit 190,cO "is_crossed" 439 "is_crossed" 440 441 134 1 3 185 181 186 (.ref 187) (.ref 188) 189 443 444) ::
 (nat_lit 191,fO mi "is_crossed" "is_crossed" "cutyard.rules" 437 190) ::
(nat_lit 197,cO "greatest_sum" 446 "greatest_sum" 447 448 136 2 3 192 181 193 (.ref 194) (.ref 195) 196 454 455) ::
 (nat_lit 198,fO nM "greatest_sum" "greatest_sum" "cutyard.rules" 437 197) ::
(nat_lit 202,cO "least_sum" 457 "least_sum" 458 459 146 2 3 199 181 200 .none .none 201 460 461) ::
 (nat_lit 203,fO lj "least_sum" "least_sum" "cutyard.rules" 437 202) ::
(nat_lit 209,cO "crossed_unknown" 463 "crossed_unknown" 464 465 149 2 3 204 181 205 (.ref 206) (.ref 207) 208 469 470) ::
 (nat_lit 210,fO oh "crossed_unknown" "crossed_unknown" "cutyard.rules" 437 209) ::
(nat_lit 216,cO "hopeless_row" 472 "hopeless_row" 473 474 154 2 3 211 181 212 (.ref 213) (.ref 214) 215 480 481) ::
 (nat_lit 217,fO nh "hopeless_row" "hopeless_row" "cutyard.rules" 437 216) ::
(nat_lit 223,cO "idle_row" 483 "idle_row" 484 485 160 2 3 218 181 219 (.ref 220) (.ref 221) 222 491 492) ::
 (nat_lit 224,fO mh "idle_row" "idle_row" "cutyard.rules" 437 223) ::
(nat_lit 228,cO "single_row" 494 "single_row" 495 496 166 1 3 225 181 226 .none .none 227 497 498) ::
 (nat_lit 229,fO k7 "single_row" "single_row" "cutyard.rules" 437 228) ::
(nat_lit 235,cO "uneven_row" 500 "uneven_row" 501 502 171 1 3 230 181 231 (.ref 232) (.ref 233) 234 506 507) ::
 (nat_lit 236,fO mC "uneven_row" "uneven_row" "cutyard.rules" 437 235) ::
(nat_lit 242,cO "doubled_row" 509 "doubled_row" 510 511 176 1 3 237 181 238 (.ref 239) (.ref 240) 241 517 518) ::
 (nat_lit 243,fO nX "doubled_row" "doubled_row" "cutyard.rules" 437 242) ::
(nat_lit 249,cO "fixed_unknown" 520 "fixed_unknown" 521 522 184 2 3 244 181 245 (.ref 246) (.ref 247) 248 526 527) ::
 (nat_lit 250,fO mZ "fixed_unknown" "fixed_unknown" "cutyard.rules" 437 249) ::
(nat_lit 254,cO "has_above" 529 "has_above" 530 531 189 2 3 251 181 252 .none .none 253 532 533) ::
 (nat_lit 255,fO lq "has_above" "has_above" "cutyard.rules" 437 254) ::
(nat_lit 259,cO "has_below" 535 "has_below" 536 537 191 2 3 256 181 257 .none .none 258 538 539) ::
 (nat_lit 260,fO kX "has_below" "has_below" "cutyard.rules" 437 259) ::
(nat_lit 266,cO "sinking_unknown" 541 "sinking_unknown" 542 543 193 4 3 261 181 262 (.ref 263) (.ref 264) 265 549 550) ::
 (nat_lit 267,fO mP "sinking_unknown" "sinking_unknown" "cutyard.rules" 437 266) ::
(nat_lit 273,cO "rising_unknown" 552 "rising_unknown" 553 554 198 4 3 268 181 269 (.ref 270) (.ref 271) 272 561 562) ::
 (nat_lit 274,fO nj "rising_unknown" "rising_unknown" "cutyard.rules" 437 273) ::
(nat_lit 280,cO "hanging_unknown" 564 "hanging_unknown" 565 566 204 4 3 275 181 276 (.ref 277) (.ref 278) 279 572 573) ::
 (nat_lit 281,fO on "hanging_unknown" "hanging_unknown" "cutyard.rules" 437 280) ::
(nat_lit 287,cO "row_struck" 577 "row_struck" 578 579 210 1 3 282 181 283 (.ref 284) (.ref 285) 286 582 583) ::
 (nat_lit 288,fO oF "row_struck" "row_struck" "cutyard.strikes" 575 287) ::
(nat_lit 294,cO "unknown_struck" 585 "unknown_struck" 586 587 228 1 3 289 181 290 (.ref 291) (.ref 292) 293 590 591) ::
 (nat_lit 295,fO mS "unknown_struck" "unknown_struck" "cutyard.strikes" 575 294) ::
(nat_lit 299,cO "hopeless_shares" 593 "hopeless_shares" 594 595 244 1 3 296 181 297 .none .none 298 596 597) ::
 (nat_lit 300,fO ls "hopeless_shares" "hopeless_shares" "cutyard.strikes" 575 299) ::
(nat_lit 306,cO "strike" 599 "strike" 600 601 254 1 3 301 181 302 (.ref 303) (.ref 304) 305 604 605) ::
 (nat_lit 307,fO mW "strike" "strike" "cutyard.strikes" 575 306) ::
(nat_lit 311,cO "picked" 607 "picked" 608 609 259 2 3 308 181 309 .none .none 310 610 611) ::
 (nat_lit 312,fO kq "picked" "picked" "cutyard.strikes" 575 311) ::
(nat_lit 316,cO "slim_plan" 613 "slim_plan" 614 615 261 1 3 313 181 314 .none .none 315 616 617) ::
 (nat_lit 317,fO kO "slim_plan" "slim_plan" "cutyard.strikes" 575 316) ::
(nat_lit 323,cO "spread" 619 "spread" 620 621 264 3 3 318 181 319 (.ref 320) (.ref 321) 322 628 629) ::
 (nat_lit 324,fO mt "spread" "spread" "cutyard.strikes" 575 323) ::
(nat_lit 328,cO "least_meeting" 631 "least_meeting" 632 633 269 4 3 325 181 326 .none .none 327 634 635) ::
 (nat_lit 329,fO lu "least_meeting" "least_meeting" "cutyard.strikes" 575 328) ::
(nat_lit 342,cO "__init__" 649 "Struck.__init__" 650 651 274 2 3 337 181 338 (.ref 339) (.ref 340) 341 657 658) ::
 (nat_lit 343,fO lX "__init__" "Struck.__init__" "cutyard.strikes" 575 342) ::
(nat_lit 349,cO "point_back" 660 "Struck.point_back" 661 662 293 2 3 344 181 345 (.ref 346) (.ref 347) 348 669 670) ::
 (nat_lit 350,fO nH "point_back" "Struck.point_back" "cutyard.strikes" 575 349) ::
(nat_lit 356,cO "ray_back" 672 "Struck.ray_back" 673 674 299 2 3 351 181 352 (.ref 353) (.ref 354) 355 677 678) ::
 (nat_lit 357,fO xN "ray_back" "Struck.ray_back" "cutyard.strikes" 575 356) ::
(nat_lit 363,cO "paper_back" 680 "Struck.paper_back" 681 682 302 3 3 358 181 359 (.ref 360) (.ref 361) 362 686 687) ::
 (nat_lit 364,fO Dc "paper_back" "Struck.paper_back" "cutyard.strikes" 575 363) ::
 (nat_lit 365,⟨(.type "tuple"),ŗ,(.seq #[(.str "breadth" 689),(.str "extra" 690),(.str "kept" 691),(.str "kind" 692),(.str "ledger" 693),(.str "paper" 694),(.str "slim" 695)] 0),#[]⟩) ::
 (nat_lit 366,⟨(.type "dict"),ŗ,(.dict #[dE P "__module__" 644 ((.str "cutyard.strikes" 575)),dE P "__firstlineno__" 648 ((.int 272 647)),dE P "__init__" 659 ((.ref 343)),dE P "point_back" 671 ((.ref 350)),dE P "ray_back" 679 ((.ref 357)),dE P "paper_back" 688 ((.ref 364)),dE P "__static_attributes__" 696 ((.ref 365)),dE P "__dict__" 698 ((.ref 368)),dE P "__weakref__" 700 ((.ref 369)),dE P "__doc__" 701 (.none)] 4),#[]⟩) ::
 (nat_lit 367,⟨(.type "type"),ŗ,(.cls ⟨"Struck",[(.type "object")],[(.ref 367),(.type "object")],366,"Struck",ř,[],[],Ś,ŗ,Ś⟩),#[ŗ,ŗ,(Z (.str "Struck" 637)),(Z (.str "Struck" 645)),(Z (.builtin "object.__new__")),(Z (.bool ř))]⟩) ::
 (nat_lit 368,⟨(.type "getset_descriptor"),ŗ,(.fields #[(.str "__dict__" 697),(.ref 367),(.builtin "function.__dict__"),(.builtin "function.__dict__#set")]),#[]⟩) ::
 (nat_lit 369,⟨(.type "getset_descriptor"),ŗ,(.fields #[(.str "__weakref__" 699),(.ref 367),(.builtin "ExceptionGroup.__weakref__"),.none]),#[]⟩) ::
(nat_lit 377,cO "_law_whole" 706 "_law_whole" 707 708 305 1 3 372 181 373 (.ref 374) (.ref 375) 376 710 711) ::
 (nat_lit 378,fO lZ "_law_whole" "_law_whole" "law_cutyard_k35_whole_same_best" 704 377) ::
(nat_lit 382,cO "_law_wholes" 713 "_law_wholes" 714 715 307 2 3 379 181 380 .none .none 381 716 717) ::
 (nat_lit 383,fO kD "_law_wholes" "_law_wholes" "law_cutyard_k35_whole_same_best" 704 382) ::
(nat_lit 389,cO "_law_pool" 719 "_law_pool" 720 721 309 1 3 384 181 385 (.ref 386) (.ref 387) 388 726 727) ::
 (nat_lit 390,fO mI "_law_pool" "_law_pool" "law_cutyard_k35_whole_same_best" 704 389) ::
(nat_lit 396,cO "_law_draw" 729 "_law_draw" 730 731 317 2 3 391 181 392 (.ref 393) (.ref 394) 395 737 738) ::
 (nat_lit 397,fO lU "_law_draw" "_law_draw" "law_cutyard_k35_whole_same_best" 704 396) ::
(nat_lit 401,cO "_law_times" 740 "_law_times" 741 742 326 2 3 398 181 399 .none .none 400 743 744) ::
 (nat_lit 402,fO lc "_law_times" "_law_times" "law_cutyard_k35_whole_same_best" 704 401) ::
(nat_lit 408,cO "_law_bounds" 746 "_law_bounds" 747 748 328 3 3 403 181 404 (.ref 405) (.ref 406) 407 760 761) ::
 (nat_lit 409,fO nS "_law_bounds" "_law_bounds" "law_cutyard_k35_whole_same_best" 704 408) ::
(nat_lit 415,cO "_law_rows" 763 "_law_rows" 764 765 348 4 3 410 181 411 (.ref 412) (.ref 413) 414 777 778) ::
 (nat_lit 416,fO mO "_law_rows" "_law_rows" "law_cutyard_k35_whole_same_best" 704 415) ::
(nat_lit 422,cO "_law_small" 780 "_law_small" 781 782 365 4 3 417 181 418 (.ref 419) (.ref 420) 421 796 797) ::
 (nat_lit 423,fO lW "_law_small" "_law_small" "law_cutyard_k35_whole_same_best" 704 422) ::
(nat_lit 427,cO "_law_far" 799 "_law_far" 800 801 380 3 3 424 181 425 .none .none 426 802 803) ::
 (nat_lit 428,fO jk "_law_far" "_law_far" "law_cutyard_k35_whole_same_best" 704 427) ::
(nat_lit 434,cO "_law_plan_is" 805 "_law_plan_is" 806 807 396 2 3 429 181 430 (.ref 431) (.ref 432) 433 812 813) ::
 (nat_lit 435,fO oJ "_law_plan_is" "_law_plan_is" "law_cutyard_k35_whole_same_best" 704 434) ::
(nat_lit 439,cO "_law_fields" 815 "_law_fields" 816 817 410 2 3 436 181 437 .none .none 438 818 819) ::
 (nat_lit 440,fO kR "_law_fields" "_law_fields" "law_cutyard_k35_whole_same_best" 704 439) ::
(nat_lit 444,cO "_law_givens" 821 "_law_givens" 822 823 419 1 3 441 181 442 .none .none 443 824 825) ::
 (nat_lit 445,fO jN "_law_givens" "_law_givens" "law_cutyard_k35_whole_same_best" 704 444) ::
(nat_lit 449,cO "_law_meet" 827 "_law_meet" 828 829 428 2 3 446 181 447 .none .none 448 830 831) ::
 (nat_lit 450,fO kE "_law_meet" "_law_meet" "law_cutyard_k35_whole_same_best" 704 449) ::
(nat_lit 454,cO "_law_window" 833 "_law_window" 834 835 430 2 3 451 181 452 .none .none 453 836 837) ::
 (nat_lit 455,fO lf "_law_window" "_law_window" "law_cutyard_k35_whole_same_best" 704 454) ::
(nat_lit 461,cO "_law_best" 839 "_law_best" 840 841 441 3 3 456 181 457 (.ref 458) (.ref 459) 460 848 849) ::
 (nat_lit 462,fO ma "_law_best" "_law_best" "law_cutyard_k35_whole_same_best" 704 461) ::
(nat_lit 468,cO "_law_all_back" 851 "_law_all_back" 852 853 449 4 3 463 181 464 (.ref 465) (.ref 466) 467 861 862) ::
 (nat_lit 469,fO og "_law_all_back" "_law_all_back" "law_cutyard_k35_whole_same_best" 704 468) ::
(nat_lit 473,cO "law" 864 "law" 865 866 459 1 3 470 181 471 .none .none 472 867 868) ::
 (nat_lit 474,fO lr "law" "law" "law_cutyard_k35_whole_same_best" 704 473)::[]
end Kx
noncomputable def PySem.W.Fast.tw8437839649829072718:=PySem.Challenge.pw_cutyard_k35_whole_same_best
theorem PySem.W.Fast.te8437839649829072718:PySem.Challenge.pw_cutyard_k35_whole_same_best=PySem.W.Fast.tw8437839649829072718:=rfl
noncomputable def PySem.W.Fast.tw5385739360559341639:=Kx.KK
theorem PySem.W.Fast.te5385739360559341639:Kx.KK=PySem.W.Fast.tw5385739360559341639:=rfl
structure PySem.W.Fast:Prop where(tw10018473381507994383 tw10047496492529432498 tw10110714355201790395 tw10112430226270079893 tw10141428067102080074 tw10226537487123435569 tw10277044915372432722 tw10291865491385144176 tw10335055401972696046 tw10434242576115376999 tw10451315199333253180 tw10478061264177730502 tw10532232654538834303 tw10647789299053762503 tw10692391223259431681 tw10730865499164884473 tw10870905681423989841 tw10883430103290892756 tw10932427071357070431 tw10971646092749244842 tw11011013025258743790 tw11034905358746044126 tw11195311112642265857 tw1123369784962440840 tw11247662957775174345 tw11282940989245697889 tw11332793815562771729 tw11367454519686546705 tw1142312194237859956 tw11459682333858012274 tw11715351916086188690 tw11747373793779127112 tw11751746709493482048 tw11800992116471821064 tw11825962899723561264 tw11867183688652861429 tw11896294045795099851 tw11955963719871563521 tw11957981510107543537 tw11964301519937932339 tw12023749296141248945 tw12132365772431182327 tw12368054229512155650 tw12397183021678490826 tw12422451259854640120 tw12425987477780961868 tw12517989049130346434 tw12528340609965469725 tw12649012098265832550 tw1265001672771449856 tw12702309091562813457 tw12751277228764707727 tw12797677231859419776 tw12902738965055780921 tw12926196764352379168 tw12941256535019268901 tw12948933829991587513 tw13021969917296359152 tw13050104959195535072 tw13149249616639773971 tw13237933248170051978 tw13266291435513501159 tw13268561006419939720 tw13277752409491301629 tw1332131823862252737 tw13341661093783424177 tw13361775941032170614 tw13400927038755197843 tw1345775199859179257 tw13466473920450992559 tw13493098321701177488 tw13504476582101049080 tw13538673694890833265 tw13574044848075210103 tw13653068700436564483 tw13695243952396167436 tw13788433010411978518 tw13801338137564100026 tw13812469303882804245 tw13919346428905699778 tw13950917823979578392 tw1396672604309067505 tw13969112582196496604 tw14006492937891993318 tw14149820260353794394 tw14231138984095592807 tw14282070004709397887 tw14306039469758790267 tw14310971483789336676 tw14488404666787687696 tw14630496995823590098 tw14643997413226799862 tw14680940954883194713 tw14690490856781803835 tw14710461328389286840 tw14831267754398967161 tw14845063080872462924 tw14851294454726989895 tw15046195837934193770 tw15105840332470999012 tw15215614037171506721 tw15373599436245466478 tw15457626276526116216 tw15468312362864117739 tw15523745935793424892 tw15544634287762629987 tw1560929008183595220 tw15648570256836784113 tw15674868972590039266 tw15825477398024895296 tw15988125652062218496 tw16103527541889932739 tw16201285526249791325 tw16250004830678770579 tw16376889100295400928 tw16451087934107517692 tw16467999525640400181 tw16480013342447886983 tw16562592047539917713 tw16734928465055648368 tw16815212040959857451 tw1684214351117761437 tw1685811603776532060 tw16935180126689274981 tw1702421295284743452 tw17062934534952140330 tw17163795394768381 tw17282632073162747161 tw17353955704227311281 tw17517077294716168541 tw17564187949280729827 tw17621333417531698458 tw17672966963157254574 tw17724438323078600329 tw17792211880507326948 tw17989668709759050855 tw18031209622098548070 tw1803871317171371655 tw18073673882935874902 tw18107618955434759747 tw18259088365803179644 tw18339198146807887007 tw18346690787030471072 tw18388072652214368892 tw18401634190620434036 tw1869844815387424572 tw1887856987540401560 tw1982082586395193923 tw198702174813593014 tw2019119386999860482 tw2041634915275620524 tw2104667499846160451 tw2154572195758409673 tw2182910419616240709 tw2259864527909123497 tw2282186114918682722 tw2287902292273372662 tw2403931614530521807 tw242896906014354692 tw2431685202453660114 tw2438526800698218888 tw2457353632146708770 tw2520962725690266423 tw256868660769195538 tw2644278593916869504 tw2655802295304668305 tw2663401082159358635 tw2671120774262820129 tw2709376587675014033 tw2709624005127945956 tw2757172551174406402 tw2799662770622038135 tw2981225289079257145 tw3042068450981136061 tw3130120517862612812 tw3150759017062140725 tw322465884211979032 tw3310952448299598137 tw334692042551280514 tw338947691300034366 tw3432275321565813474 tw3470174875554847448 tw3473169989023641383 tw3477869468245221373 tw3504180776983515628 tw3576242294896023006 tw3606473402066629360 tw3652101372994364579 tw3792775128200025310 tw3842552236453685268 tw3898096656527078488 tw3911910843060653745 tw3934051388558551164 tw4022611430440255690 tw4023081341268822563 tw4040424806032575542 tw4102506445730005930 tw4149528118965997239 tw4201469248460478438 tw4225289712768347431 tw4228469393520117481 tw424646510327373857 tw4496690809542368662 tw4557713823562900392 tw4568386314589412305 tw4627998740583397303 tw4709588168639603859 tw4721047762495430935 tw4725559725350157231 tw4742589620090152781 tw4748146562184687308 tw5052564851536119318 tw5127575196780261110 tw5160477942448291187 tw5314034802842905438 tw5319680469298097264 tw5362540547943579154 tw5423311604254030371 tw5497981309705550244 tw5500608376212975240 tw5518031442732165570 tw5639404148828603572 tw5697595648721369818 tw5813414814112065484 tw6048373218565574840 tw6079288346731316241 tw6088287749743745160 tw6104506245886110396 tw6130007787840954801 tw6152235839554352921 tw6196244439364921853 tw6210671420065412657 tw6270600006567291773 tw6302101227938780406 tw6316511552435695479 tw6381836322125456128 tw6462440746570817178 tw6466472310201087473 tw6629012192470249384 tw6635571922718793685 tw6638228461070526290 tw6663524715736144386 tw6890507786576370216 tw6975977567678930888 tw7046188695678328690 tw7106930767900083268 tw7260904450388815263 tw7377371762598472211 tw7386292734820800441 tw7397306672592271273 tw7445098729764956969 tw7510733598671346743 tw7582354580633718737 tw7657016325933537284 tw7747698541204428683 tw797487710265320734 tw8061777820477440961 tw8100238114954575373 tw8125759311295838236 tw8205818863157208174 tw8256060605719121411 tw8307142953551026654 tw8318964931881176122 tw8353252486854562520 tw8462202471639802881 tw84709661265702342 tw8504521710778287201 tw8555104434239474542 tw8613070765344848849 tw8772540809042910637 tw8794907604305670940 tw880113416021093795 tw8857372120203884911 tw8861219081041132751 tw9142106830220691725 tw9185508232037337656 tw9250645451017923502 tw935227399461870327 tw9437693347232796035 tw9468911506825017552 tw9481612353661526251 tw9531638576124454336 tw9603889508019936741 tw9679965227473591562 tw9715203927012579798 tw9731597116181118653 tw9753435006513363837 tw9840267335642936466 tw9858150705899614260 tw9927615693899430718 tw9975543609512407350:True)
end
open PySem PySem.W PyProof.Rows
set_option maxRecDepth 100000 in
set_option maxHeartbeats 0 in
theorem PySem.Challenge.cw_cutyard_k35_whole_same_best_holds : PySem.Challenge.rw_cutyard_k35_whole_same_best.Holds := by
 w_on;o_law;o_head (kHook Kx.KK (2::3::20::21::52::53::59::60::66::67::71::72::76::77::81::82::86::87::91::92::96::97::101::102::108::109::122::123::129::130::136::137::143::144::150::151::157::158::164::165::169::170::176::177::178::179::180::181::182::190::191::197::198::202::203::209::210::216::217::223::224::228::229::235::236::242::243::249::250::254::255::259::260::266::267::273::274::280::281::287::288::294::295::299::300::306::307::311::312::316::317::323::324::328::329::342::343::349::350::356::357::363::364::365::366::367::368::369::377::378::382::383::389::390::396::397::401::402::408::409::415::416::422::423::427::428::434::435::439::440::444::445::449::450::454::455::461::462::468::469::473::474::[]) (λ_=>by kernel_rfl));(case hw=>w_witness2)
 k_fill
 refine Kx.walk (l:=PySem.Challenge.rw_cutyard_k35_whole_same_best) rfl rfl (by decide +kernel) (λw h Y=>kIn_of Y) (λw=>⟨?N1,?N2⟩) ?F
 (case N1=>k_is);(case N2=>k_is)
 case F=>
  intro w mg fa h KX G RH;refine' Kx.all_mk KX G RH ?N9 ?Oa ?_ ?_ ?_ ?_ ?_ ?_ ?_ ?_ ?_ ?_ ?_ ?_ ?_ ?_ ?_ ?_ ?_ ?_ ?_ ?_ ?_ ?_ ?_ ?_ ?_ ?_ ?_ ?_ ?_ ?_ ?_ ?_ ?_ ?_ ?_ ?_ ?_ ?_ ?_ ?_ ?_ ?_ ?_ ?_ ?_ ?_ ?_ ?_ ?_ ?_ ?_ ?_ ?_ ?_ ?_ ?_ ?_ ?_ ?_ ?_ ?_ ?_ ?_ ?_ ?_ ?_ ?_ ?_ ?_ ?_ ?_ ?_ ?_ ?_ ?_ ?_ ?_ ?_ ?_ ?_ ?_ ?_ ?_ ?_ ?_ ?_ ?_ ?_ ?_ ?_ ?_ ?_ ?_ ?_ ?_ ?_ ?_ ?_ ?_ ?_ ?_ ?_ ?_ ?_ ?_ ?_ ?_ ?_ ?_
  (case N9=>k_is)
  (case Oa=>k_is)
  all_goals first|(refine' L2.Has.of ?a ?l ?c;(case a=>k_is);(case l=>k_is);(case c=>k_is))|(refine' L2.HasM.of ?a ?i ?l ?c ?k;(case a=>k_is);(case i=>k_is);(case l=>k_is);(case c=>k_is);(case k=>k_is))|k_is

