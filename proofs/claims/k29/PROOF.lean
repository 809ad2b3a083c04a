import PyProof.Rows.All
import Wide.All
import OpenK.AllK
import Wide.FinOn
import Lean
import PyProof.EqAt
import PyProof.EqKinds
import PyProof.TupleCall
import PyProof.NeKinds
import KE.KLam
import KE.KMinKey
import KE.KSortTup
import PyProof.AutoListH
import PyProof.MeetsStr
import PyProof.StrLawsJoin
import PyProof.FitsReplace
import PyProof.Rows.TupDisplay
import PyProof.ListRange
import PyProof.ZipIter
import PyProof.ListNew
import KE.KSortKey
import PyProof.StationsW
import PyProof.ExcClass2
import PyProof.ExcInit
import PyProof.ExcBaseAll.ValueError
import PyProof.RulesAs
import PyProof.NsDelKeeps
import PyProof.ExcAttrAll.ValueError
import PyProof.IsiBase
import KE.KIsAll
import PyProof.InstStoreFacts
import PyProof.Rows.SetFrom
import PyProof.SetRoads
import KE.KRevIter
import PySem.Challenge.RW_cutyard_k29_struck_state
open PySem.W (instObj methodObj Frag lookIn InstAt plainGet hasDictIn findIn handedIn plainGet_of isFn plainOver takerIn makesIn typeIn emptyDict keepIn callWith_K cellsFrom_some fnOf codeIn kIn_of mg_of nsIn mg_none_of)
set_option Elab.async false
set_option linter.all false
set_option maxRecDepth 100000
noncomputable section
open List renaming length_map->Hj,getElem?_append_left->Hk,getElem?_append_right->Hl,length_append->Hm,length_set->Hs,mem_cons_self->Ht,mem_of_getElem?->Hu,mem_cons_of_mem->Hv,mem_singleton->Hw,getElem?_map->Hy,size_toArray->HB,length_cons->HD,getD_eq_getElem?_getD->HE,append_assoc->HF,mem_map->HG,mem_cons->HH,map_cons->HK,length_range->HM,lookup_cons->HN,getElem?_set_ne->HP,mem_range->HQ,nodup_cons->HS,mem_append->HU,getElem?_set_self->HV,mem_of_find?_eq_some->HY,getElem?_eq_none->Ib,flatten_cons->Ih,append_nil->Ii,length_singleton->Im,map_map->Ip,mem_filter->Ir,getElem?_eq_some_iff->Iu,mem_append_right->Iy,getElem?_of_mem->IA,length_take->IB,getElem?_eq_getElem->IC,replicate_succ->ID,find?_cons_of_neg->IJ,ext_getElem?->IP,nodup_append->IQ,length_replicate->IS,length_eraseIdx_of_lt->IX,length_nil->IZ,take_length->Ja,all_eq_true->Jb,length_eq_zero_iff->Je,map_congr_left->Jg,take_of_length_le->Jh,find?_cons_of_pos->Ji,length_filter_le->Jk,find?_cons->Jm,set_append_left->Jn,getElem?_replicate->Jp,getElem?_range->Jr,not_mem_nil->Jv,getElem_mem->Jw,pairwise_lt_range->Jz,getElem?_zipWith->JC,any_cons->JE,getElem?_take_of_lt->JJ,map_set->JK,filterMap_cons->JL,filter_cons_of_pos->JN,filter_cons_of_neg->JO,mem_filterMap->JP,any_map->JV,set_append_right->JX,length_drop->J0,of_mem_zip->J3,nil_append->J4,getElem?_zip_eq_some->J5,range_succ->J7,getElem?_eq_none_iff->J8,mem_or_eq_of_mem_set->J9,getElem?_drop->Kd,filter_append->Kf,pairwise_cons->Kg,mem_of_mem_eraseIdx->Kh,filter_congr->Kl,sum_cons->Kr,take_succ_eq_append_getElem->Ks,eraseIdxIfInBounds_toArray->Kz,eraseIdx_eq_take_drop_succ->KA,forIn_cons->KI,map_append->KR,length_reverse->KU,drop_zero->KY,filterMap_map->K1,lookup_append->K3,foldl_append->K9,drop_eq_getElem_cons->Ld,findIdx?_eq_none_iff->Le,any_eq_true->Lk,mem_flatten->Lm,mem_flatMap->Lq,mem_reverse->Lr,map_zipWith->Ls,length_erase_of_mem->Lu,map_zip_eq_zipWith->Lw,getElem?_cons_succ->Lx,countP_cons_of_neg->Ly,countP_cons_of_pos->Lz,sum_append->LA,length_zip->LC,length_pos_of_mem->LF,zipWith_map_right->LG,forIn_nil->LH,pairwise_reverse->LI,countP_le_length->LK,all_cons->LM
open PySem renaming wpAny_bind->Hn,wpAny_pure->HA,boot_len->HW,wpAny_loadPart'->Iv,mem_of_lookup->Iz,wpAny_field->II,wpAny_newObj_type->IL,wpAny_callSpecial?_slot->IT,wpAny_mono->Jd,wpAny_holding->Jj,wpAny_call_entry->Jt,wpAny_seqItems->Ju,wpAny_setField_rec->JA,wpAny_passesOwn->JB,wpAny_truthy_bool->JG,call_meets->JQ,wpAny_pyIter_tuple->JS,sizeLine_eq->JT,wpAny_Call_Name_kw->Ka,wpAny_pyNext_list_item->Km,wpAny_standAt->Kp,wpAny_pyNext_list_end->Ku,wpAny_execs_nil->KC,codeAny_mono->KD,wpAny_updateSeq_pair->KJ,call_isinstance->KN,tupleKind_room_in1->K2,rangeSize_one->K6,wpAny_onRaise->K7,wpAny_pyIter_list->K8,wpAny_rule->Lb,typeIs_int->Lc,noFill_tuple_add->Lh,wpAny_typeOf->Li,wpAny_ite_false->LB,codeAny_builtin->LD,Shared->À,mainGlobals->Á,Expr->Ã,model->Ä,Program->Å,assignEach->Æ,Stmt->Ç,World->È,compareOp->É,Around->Ê,foldedSetIterable->Ë,FuncData->Ì,binaryOp->Í,attributeBase->Î,swapsWith->Ð,IsPair->Ó,Obj->Ô,Pos->Õ,swapsWithSole->Ö,swappedStores->Ø,cellsFrom->Ù,sysModules->Ú,keywordEach->Û,bootBuiltins->Ü,Keyword->ß,sliceBounds->á,Scope->â,getItem->ä,cLine->å,builtinsNs->æ,backToKw->ç,IsZip->è,codeAny->é,Operator->ë,Env->ì,IsPart->î,letOwnedTupleGo->ð,rawInt->ò,pyNext->ó,PassesOwn->ø,valueAt->û,callerA->ü,IntMulOk->ý,tupleKind->ÿ,seqIndex?->Ā,subscripted->ă,BindsTo->Ċ,newFunctionEnv->ċ,field->Č,compEnvC->č,atKey->Ď,CmpOp->ď,wpAny_binaryOp_repeat_ref->Đ,wpAny_attempt->Ē,seq_tuple_add->ē,wpAny_pyNext_tuple_item->ė,small_one->Ę,bindL->ę,bindC->Ě,wpAny_pyNext_tuple_end->ġ,wpAny_pyIter_tupleiter->Ģ,seqIndex_neg->ģ,concat_meets->Ĥ,Params->Ħ,ItemsOf->Ĩ,wpAny_pyIter_listiter->Ĭ,wpAny_pyIter_revIter->ĭ,wpAny_letGo->Į,seqIndex_of->į,bindName->Ĵ,Tok->ĵ,typeIs_str->Ĺ,wpAny_sequenceKey->Ł,wpAny_pyIter_enum->ł,slot_list_getitem->Ń,Meets->ņ,wpAny_pyIter_zip->Ň,wpAny_isInstance->ň,storeName->Ŋ,wpAny_specialOf->ō,pushCells_keeps->Ŏ,isinstance_true->ŏ,call_list_range->Ő
open PySem.Heap renaming get?_push_of_some->Ho,get?_push_size->HC,lt_size->HI,size_push->Iq
open Nat renaming le_refl->Hr,ne_of_lt->HX,le_trans->HZ,sub_self->Ic,lt_of_lt_of_le->Ie,lt_or_ge->Ik,not_lt_zero->IH,add_sub_cancel_left->IU,lt_irrefl->Jc,le_of_lt->Jl,pow_lt_pow_right->Jo,zero_le->Jx,lt_of_le_of_lt->JR,lt_succ_of_lt->JU,lt_succ_self->JZ,pow_le_pow_right->J2,le_add_right->Kt,add_sub_add_right->Kv,lt_trans->KH,mul_le_mul_right->KS,mul_le_mul->K0,le_of_eq->Lg,mul_comm->Lj,ne_of_gt->LN
open PyProof.Rows renaming boot_tuple->Hz,callWith_type1->IF,slot_tuple_getitem->IG,boot_any->I0,boot_abs->JD,boot_int->Kw,boot_max->LJ,envOfC->ê,AllBare->ï,assignInOrder_cons->ú,subscriptTail->ĕ,boot_list->Ĝ,IsTup->ĝ,subscriptTail_builtinR->ĩ,IntsAre->Ī,entry_tuple_getitem->ķ,args_tuple_getitem->Ļ
open PySem.PassesOwn renaming never->HL
open Option.some renaming inj->HR
open Bool renaming false_ne_true->Ig,and_eq_true->IW,false_and->Js,and_false->JI,eq_iff_iff->J6,false_eq_true->Ġ,eq_false_iff->ī,bne_false->ĸ,bne_true->Ľ,true->Ŕ,false->ŕ
open Int renaming zero_add->Io,toNat_natCast->IY,emod_lt_of_pos->Ke,eq_ofNat_of_zero_le->Kk,emod_nonneg->KQ,natAbs_mul->KZ,natAbs_ediv_le_natAbs->Lf,mul_comm->Lv
open Ne renaming symm->IE
open Array renaming length_toList->IK,toList->ľ,ext'->Ō
open PySem.W renaming mg_none_of->IV,Frag->Â,findIn->Ï,nsIn->Ò,emptyDict->Þ,keepIn->ã,instObj->í,plainGet->ô,hasDictIn->ö,plainOver->ā,codeIn->Ă,plainGet_of->Ą,fnOf->Ĕ,methodObj->ě,makesIn->ĥ,lookIn->ĺ,takerIn->ń
open Option renaming map_eq_some_iff->Jy,isSome_some->đ,isSome_map->Ė,getD_none->Ğ,bind_some->ğ,none->ļ,some->Z,none->Œ
open PySem.F renaming slot_tuple_iterator_next->JF,plainAttrs_list->JM,slot_tuple_mul->J1,args_tuple_add_2->Kb,entry_tuple_add->Kj,slot_tuple_add->Kn,slot_int_rmul->KG,slot_zip_next->KL,args_tuple_iterator_next_1->KW,entry_tuple_iterator_next->K4,args_tuple_mul_2->K5,entry_tuple_mul->La,slot_list_append->Ln,type_list_append->Lo
open Classical renaming byContradiction->JH
open Decidable renaming em->JW
open PySem.AutoSeq1 renaming sub_tuple_tuple->Kc,idx_int->Ll
open PySem.Paired renaming length->Ko,snoc->Ĉ
open List.cons renaming inj->Kq
open PySem.Around renaming under_plainId->KO,under->ą
open False renaming elim->Ñ
open True renaming intro->Ý
open Sum renaming inl->à,inr->ù
open Or renaming inr->ñ
open PySem.Obj renaming mapSeq->õ,data_mapFields->ħ
open PySem.Calls renaming Name_function_global->þ
open Sum.inl renaming inj->Ć
open PySem.Shared renaming heap->ć
open PySem.Code renaming isFrame->ĉ,frames->ŋ
open PySem.MeetsSeq.EqGives renaming int->Ķ
open PySem.W.WShape renaming has->Ņ
open PySem.W.WData renaming int->ő
abbrev Y:=List
abbrev œ:=Option
theorem S{α:Sort _}{a:α}:a=a:=rfl
local macro_rules|`(())=>`(by omega)
local macro_rules|`('b')=>`(by decide)
local macro_rules|`('a')=>`(by decide +kernel)
local macro_rules|`(tactic|show $e)=>`(tactic|exact $e)
section
open Lean
def cV9:Nat->Term->MacroM (TSyntax `rcasesPat)
 |0,_=>Macro.throwUnsupported
 |n+1,t=>do match t with
  |`($x:ident)=>`(rcasesPat|$x:ident)
  |`(_)=>`(rcasesPat|_)
  |`(⟨$ps,*⟩)=>do
   let qs←ps.getElems.mapM fun p=>do
    let q←cV9 n p
    `(Lean.Parser.Tactic.rcasesPatLo|$q:rcasesPat)
   `(rcasesPat|⟨$qs,*⟩)
  |_=>Macro.throwUnsupported
end
local macro_rules|`(tactic|let $p:term:=$e)=>do
 let q←cV9 99 p
 `(tactic|obtain $q:rcasesPat:=$e)
abbrev fI(x:PySem.Str):Prop:=(x==("__classdict__":PySem.Str))=false
abbrev ab(x:PySem.Str):Prop:=(x==("__debug__":PySem.Str))=false
abbrev Hq:=@if_neg
abbrev Hx:=@if_pos
abbrev HJ:=@decide_eq_false
abbrev Ia:=@beq_self_eq_true
abbrev Ij:=@decide_eq_true
abbrev Il:=@congrArg
abbrev Iw:=@of_decide_eq_false
abbrev IM:=@of_decide_eq_true
abbrev Jf:=@decide_eq_true_eq
abbrev Jq:=@beq_eq_false_iff_ne
abbrev JY:=@beq_iff_eq
abbrev Ki:=@if_true
abbrev KP:=@beq_false_of_ne
abbrev LL:=@if_false
local macro_rules|`(tactic|ac_rfl)=>`(tactic|exact⟨rfl,rfl,rfl,by decide +kernel,rfl,by decide +kernel,by decide +kernel⟩)
local macro_rules|`(tactic|lia)=>`(tactic|decide +kernel)
local macro_rules|`(tactic|nofun)=>`(tactic|first|exact Or.inl rfl|exact Or.inr (Or.inl rfl)|exact Or.inr (Or.inr rfl)|exact .inr rfl|assumption)
theorem T3{c:Sort _}{a:c}{b:Prop}:a=a\/b:=.inl rfl
namespace L2
open PySem PySem.Spec PyProof.Rows
noncomputable abbrev av:=Sum Int Str
noncomputable def jB:av->Value->Bool
 |.inl k,v=>Value.isInt k v
 |.inr x,v=>Value.isStrOf x v
noncomputable def zU(w:È):av->Int
 |.inl k=>hashInt k
 |.inr x=>hashStr w x
theorem hX:∀{k:av}{v:Value},jB k v=Ŕ->(∃i t,k=à i/\v=Value.int i t)\/(∃x t,k=ù x/\v=Value.str x t)
 |.inl i,v,h=>by let⟨t,e⟩:=Value.isInt_shape (k:=i) (v:=v) h;show .inl ⟨i,t,S,e⟩
 |.inr x,v,h=>by let⟨t,e⟩:=Value.isStrOf_shape (x:=x) (v:=v) h;show .inr ⟨x,t,S,e⟩
theorem yG(i:Int)(t:ĵ):jB (.inl i) (.int i t)=Ŕ:=by simp[jB,Value.isInt]
theorem Es(x:Str)(t:ĵ):jB (.inr x) (.str x t)=Ŕ:=by simp[jB,Value.isStrOf]
theorem yY(a b:Int):decide ((à a:av)=à b)=(a==b):=by
 by_cases e:a=b
 ·subst e;simp
 ·have h:¬ (à a:av)=à b:=λq=>e (Ć q);rw[HJ h];show (Jq.mpr e).symm
theorem Av(a b:Str):decide ((ù a:av)=ù b)=decide (a=b):=by
 by_cases e:a=b
 ·subst e;simp
 ·have h:¬ (ù a:av)=ù b:=λq=>e (ù.inj q);rw[HJ h,HJ e]
theorem Di(a:Int)(b:Str):decide ((à a:av)=ù b)=ŕ:=HJ (λq=>nomatch q)
theorem zx(a:Str)(b:Int):decide ((ù a:av)=à b)=ŕ:=HJ (λq=>nomatch q)
noncomputable def eZ(prog:Å)(w:È):PySem.KeyKind prog w av where
 is:=jB
 hash:=zU w
 inj:=λv a b g f=>by
  rcases hX g with⟨i,t,rfl,rfl⟩|⟨x,t,rfl,rfl⟩
  ·rcases hX f with⟨j,u,rfl,e⟩|⟨y,u,rfl,e⟩
   ·injection e with e1 _;rw[e1]
   ·show nomatch e
  ·rcases hX f with⟨j,u,rfl,e⟩|⟨y,u,rfl,e⟩
   ·show nomatch e
   ·injection e with e1 _;rw[e1]
 byValue:=λk v h=>by rcases hX h with⟨i,t,rfl,rfl⟩|⟨x,t,rfl,rfl⟩<;>rfl
 pyHash:=λc h=>by
  rcases hX c with⟨i,t,rfl,rfl⟩|⟨x,t,rfl,rfl⟩
  ·show wpAny_pyHash_int h
  ·show wpAny_pyHash_str h
 eqBool:=λl c h=>by
  rcases hX l with⟨i,t,rfl,rfl⟩|⟨x,t,rfl,rfl⟩
  ·rcases hX c with⟨j,u,rfl,rfl⟩|⟨y,u,rfl,rfl⟩
   ·rw[yY]at h;show wpAny_eqBool_int h
   ·rw[Di]at h;show SeqAt.EqAt.int_str i t y u _ _ _ _ h
  ·rcases hX c with⟨j,u,rfl,rfl⟩|⟨y,u,rfl,rfl⟩
   ·rw[zx]at h;show SeqAt.EqAt.str_int x t j u _ _ _ _ h
   ·rw[Av]at h;show wpAny_eqBool_str h
 «strs»:=λk x t v h=>by
  rcases hX h with⟨i,u,rfl,e⟩|⟨y,u,rfl,e⟩
  ·show nomatch e
  ·injection e with e1 _;subst e1;cases v<;>rfl
theorem zN(prog:Å)(w:È)(i:Int)(t:ĵ):(eZ prog w).is (.inl i) (.int i t)=Ŕ:=yG i t
theorem CJ(prog:Å)(w:È)(x:Str)(t:ĵ):(eZ prog w).is (.inr x) (.str x t)=Ŕ:=Es x t
inductive V where
 |non|bl (b:Bool)|int (i:Int)|str (x:Str)|byt (b:Array UInt8)|flt (b:UInt64)|ref (a:Addr)|ty (n:String)
 deriving DecidableEq
noncomputable def RelV:V->Value->Prop
 |.non,u=>u=Value.none
 |.bl b,u=>u=Value.bool b
 |.int i,u=>∃t,u=Value.int i t
 |.str x,u=>∃t,u=Value.str x t
 |.byt b,u=>∃t,u=Value.bytes b t
 |.flt b,u=>∃t,u=Value.float b t
 |.ref a,u=>u=Value.ref a
 |.ty n,u=>u=Value.type n
noncomputable abbrev Vals:Y V->Y Value->Prop:=Paired RelV
theorem Vals.length{xs:Y V}{us:Y Value}(r:Vals xs us):xs.length=us.length:=Ko r
theorem Vals.get:∀{xs:Y V}{us:Y Value}{i:Nat}{x:V},Vals xs us->xs[i]?=Z x->∃u,us[i]?=Z u/\RelV x u
 |_,_,_,_,.nil,e=>by simp at e
 |_,_,0,_,.cons r _,e=>by simp at e;subst e;show⟨_,S,r⟩
 |_,_,i+1,x,.cons _ t,e=>by let⟨u,a,c⟩:=Vals.get (i:=i) (x:=x) t (by simpa using e);show⟨u,by simpa using a,c⟩
theorem Vals.set{x:V}{u:Value}(r:RelV x u):∀{xs:Y V}{us:Y Value}(i:Nat),Vals xs us->Vals (xs.set i x) (us.set i u)
 |_,_,_,.nil=>.nil
 |_,_,0,.cons _ t=>.cons r t
 |_,_,i+1,.cons q t=>.cons q (Vals.set r i t)
theorem Vals.append:∀{xs c:Y V}{us a:Y Value},Vals xs us->Vals c a->Vals (xs++c) (us++a)
 |_,_,_,_,.nil,s=>s
 |_,_,_,_,.cons r t,s=>.cons r (Vals.append t s)
theorem Vals.take:∀{xs:Y V}{us:Y Value}(n:Nat),Vals xs us->Vals (xs.take n) (us.take n)
 |_,_,0,_=>.nil
 |_,_,_+1,.nil=>.nil
 |_,_,n+1,.cons r t=>.cons r (Vals.take n t)
theorem Vals.drop:∀{xs:Y V}{us:Y Value}(n:Nat),Vals xs us->Vals (xs.drop n) (us.drop n)
 |_,_,0,r=>r
 |_,_,_+1,.nil=>.nil
 |_,_,n+1,.cons _ t=>Vals.drop n t
noncomputable def RelO:œ V->œ Value->Prop
 |some v,Z u=>RelV v u
 |none,Œ=>True
 |_,_=>False
noncomputable def KV{a:Type}:Y (a×V)->Y (a×Value)->Prop:=Paired λ(p:a×V)(q:a×Value)=>p.1=q.1/\RelV p.2 q.2
noncomputable def kV:av->V
 |.inl i=>.int i
 |.inr x=>.str x
inductive HO where
  |lst (xs:List V)
  |tup (xs:List V)
  |dK (LV:List (av×V))|dT (LV:List (List av×V))
  |set (Q:Int->Bool) (n:Nat)
  |ins (C dx:Addr) (fs:List (Str×V))
  |own (x:Addr)
  |xd (fs:List (Str×V))
  |met (f x:Addr)
  |rng (lo hi:Int)
  |frz (o:Ô) (u:HO)
  |tbl (ps:Array Value)
  |ext (φ:Heap->Prop)
noncomputable abbrev Hp:=Addr->œ HO
noncomputable def am(H:Hp)(a:Addr)(o:HO):Hp:=λb=>if b=a then Z o else H b
theorem bg{H:Hp}{a:Addr}{o:HO}:am H a o a=Z o:=by unfold am;rw[Hx S]
theorem aS{H:Hp}{a b:Addr}{o:HO}(h:b≠a):am H a o b=H b:=by unfold am;rw[Hq h]
theorem FL{H:Hp}{a:Addr}{o u:HO}:am (am H a o) a u=am H a u:=by
 funext b;unfold am;split<;>rfl
theorem EO{H:Hp}{a b:Addr}{o u:HO}(h:H a=Z o)(h':H b=Z u)(d:o≠u):a≠b:=by intro e;subst e;rw[h]at h';show d (HR h')
theorem da{H:Hp}{a b:Addr}{o:HO}(h:H a=Z o)(h':H b=Œ):a≠b:=by intro e;subst e;rw[h]at h';cases h'
noncomputable def IsTupD(h:Heap)(a:Addr)(items:Array Value):Prop:=∃o,h.get? a=Z o/\(o.cls=.type "tuple"/\o.dict=Œ)/\∃n,o.data=.seq items n
theorem IsTupD.tup{h:Heap}{a:Addr}{items:Array Value}(x:IsTupD h a items):ĝ h a items:=let ⟨o,e,c,d⟩:=x;⟨o,e,c.1,d⟩
theorem IsTupD.lt{h:Heap}{a:Addr}{items:Array Value}(x:IsTupD h a items):a<h.objs.size:=x.tup.lt
theorem IsTupD.new(h:Heap)(items:Array Value):IsTupD (h.push { cls:=.type "tuple",data:=.seq items }) h.objs.size items:=⟨_,HC _ S,⟨S,S⟩,_,S⟩
section
variable(P:Å)(w:È)
noncomputable def ObjOk(H:Hp)(h:Heap)(a:Addr):HO->Prop
 |.lst xs=>xs.length<=sizeLine/\∃(g:Y Value)(n:Nat),Vals xs g/\h.get? a=Z { cls:=.type "list",data:=.seq g.toArray n }
 |.tup xs=>xs.length<=sizeLine/\∃g:Y Value,Vals xs g/\IsTupD h a g.toArray
 |.dK j=>j.length<=sizeLine/\(a==Ú)=ŕ/\∃vs,KV j vs/\h.DictOf (eZ P w) a vs
 |.dT j=>j.length<=sizeLine/\(a==Ú)=ŕ/\∃xs:Y (Y av×Addr×Value),
   Paired (λ(p:Y av×V)(q:Y av×Addr×Value)=>p.1=q.1/\H q.2.1=Z (.tup (p.1.map kV))/\RelV p.2 q.2.2) j xs /\
   ∃o es B,h.get? a=Z o/\o.ExactDict/\o.data=.dict es B/\es.toList=xs.map (entryOfKey (ÿ (eZ P w)))/\(xs.map (·.1)).Nodup
 |.set Q n=>h.SetOf (intKind P w) a Q n
 |.ins C l fs=>H l=Z (.own a)/\fs.length<=1000/\l≠a/\h.get? a=Z (í C l) /\
   ∃e,h.Ns1 l e/\(∀f,RelO (fs.lookup f) (e f))/\PySem.Within e (fs.map (·.1))
 |.own _=>∃o,h.get? a=Z o
 |.xd fs=>∃e,h.Ns1 a e/\∀f,RelO (fs.lookup f) (e f)
 |.rng lo E=>∃t u v,h.get? a=Z { cls:=.type "range",data:=.fields #[.int lo t,.int E u,.int 1 v] }
 |.frz o u=>h.get? a=Z o/\ObjOk H h a u
 |.tbl ps=>h.get? a=Z { cls:=.none,data:=.fields #[] }\/∃(c:Addr)(o:Ô)(vs:Array Value)(x y:Value)(q:Str)(t t':ĵ),ps=#[x,y,.str q t]/\H c=Z (.frz o (.own a)) /\
   h.get? a=Z { cls:=.none,data:=.fields #[x,y,.ref c] }/\o.data=.fields vs/\vs[1]?=Z (.str q t')
 |.met f x=>h.get? a=Z (ě (.ref f) (.ref x))
 |.ext r=>r h/\(∃o,h.get? a=Z o)/\∀z A:Heap,r z->(∀o,z.get? a=Z o->A.get? a=Z o)->r A
noncomputable def HOk(H:Hp)(h:Heap):Prop:=∀a o,H a=Z o->ObjOk P w H h a o
end
section
variable{P:Å}{w:È}{H g:Hp}{h h':Heap}{a:Addr}{o:HO}
theorem ObjOk.lt(x:ObjOk P w H h a o):a<h.objs.size:=by
 cases o with
 |lst xs=>let⟨_,_,_,_,e⟩:=x;show HI e
 |tup xs=>let⟨_,_,_,p⟩:=x;show p.lt
 |dK c=>let⟨_,_,_,_,o,_,_,e,_⟩:=x;show HI e
 |dT c=>let⟨_,_,_,_,o,_,_,e,_⟩:=x;show HI e
 |set Q n=>let⟨o,_,_,_,e,_⟩:=x;show HI e
 |ins C j fs=>let⟨_,_,_,e,_⟩:=x;show HI e
 |own y=>let⟨_,e⟩:=x;show HI e
 |xd fs=>let⟨_,⟨_,_,_,e,_⟩,_⟩:=x;show HI e
 |rng lo l=>let⟨_,_,_,e⟩:=x;show HI e
 |frz r u=>let⟨e,_⟩:=x;show HI e
 |tbl ps=>rcases x with x|⟨_,_,_,_,_,_,_,_,_,_,x,_⟩<;>show HI x
 |met f y=>show HI (show h.get? a=Z _ from x)
 |ext v=>let⟨_,⟨_,e⟩,_⟩:=x;show HI e
theorem Paired.mapP{e j:Type}{F G:e->j->Prop}:∀{l₁:Y e}{c:Y j},Paired F l₁ c->(∀a b,F a b->G a b)->Paired G l₁ c
 |_,_,.nil,_=>.nil
 |_,_,.cons r t,f=>.cons (f _ _ r) (Paired.mapP t f)
theorem ObjOk.stay(x:ObjOk P w H h a o)(k:∀b u,(b=a\/H b=Z (.own a))->h.get? b=Z u->h'.get? b=Z u)
  (ho:∀b,H b=Z (.own a)->g b=Z (.own a)) (M:∀b xs,H b=Z (.tup xs)->g b=Z (.tup xs)) (L:∀b o u,H b=Z (.frz o u)->g b=Z (.frz o u)):ObjOk P w g h' a o:=by
 induction o with
 |lst xs=>let⟨z,A,n,r,e⟩:=x;show⟨z,A,n,r,k _ _ (.inl S) e⟩
 |tup xs=>let⟨z,A,r,j,e,c⟩:=x;show⟨z,A,r,j,k _ _ (.inl S) e,c⟩
 |dK G=>let⟨z,y,vs,r,j,es,l,e,c⟩:=x;show⟨z,y,vs,r,j,es,l,k _ _ (.inl S) e,c⟩
 |dT G=>
  let⟨z,y,xs,r,j,es,l,e,c⟩:=x;show⟨z,y,xs,Paired.mapP r λp q z=>⟨z.1,M _ _ z.2.1,z.2.2⟩,j,es,l,k _ _ (.inl S) e,c⟩
 |set U n=>let⟨j,es,l,t,e,c⟩:=x;show⟨j,es,l,t,k _ _ (.inl S) e,c⟩
 |ins C O fs=>
  let⟨d,z,ne,e,E,⟨F,es,l,B,c⟩,r⟩:=x;show⟨ho _ d,z,ne,k _ _ (.inl S) e,E,⟨F,es,l,k _ _ (.inr d) B,c⟩,r⟩
 |own y=>let⟨j,e⟩:=x;show⟨j,k _ _ (.inl S) e⟩
 |xd fs=>let⟨E,⟨F,es,l,e,c⟩,r⟩:=x;show⟨E,⟨F,es,l,k _ _ (.inl S) e,c⟩,r⟩
 |rng lo Q=>let⟨t,u,v,e⟩:=x;show⟨t,u,v,k _ _ (.inl S) e⟩
 |frz j u N=>let⟨e,q⟩:=x;show⟨k _ _ (.inl S) e,N q⟩
 |tbl ps=>
  rcases x with x|⟨c,o,vs,y,z,q,t,t',I,B,J,K⟩
  ·show .inl (k a _ (.inl S) x)
  ·show .inr ⟨c,o,vs,y,z,q,t,t',I,L _ _ _ B,k a _ (.inl S) J,K⟩
 |met f y=>
  have e:h.get? a=Z (ě (.ref f) (.ref y)):=x;change h'.get? a=Z (ě (.ref f) (.ref y));show k a _ (.inl S) e
 |ext R=>let⟨p,⟨o,e⟩,st⟩:=x;show⟨st _ _ p λo q=>k _ _ (.inl S) q,⟨o,k _ _ (.inl S) e⟩,st⟩
theorem HOk.lt(x:HOk P w H h)(e:H a=Z o):a<h.objs.size:=(x a o e).lt
theorem HOk.fresh(x:HOk P w H h)(e:h.objs.size<=a):H a=Œ:=by
 cases q:H a with
 |none=>rfl
 |some u=>show absurd (Ie (x.lt q) e) (Jc _)
theorem HOk.kept(x:HOk P w H h)(k:∀b u,h.get? b=Z u->h'.get? b=Z u):HOk P w H h':=λa o e=>
 (x a o e).stay (λb u _ q=>k b u q) (λ_ q=>q) (λ_ _ q=>q) λ_ _ _ q=>q
theorem HOk.laid(x:HOk P w H h)(k:∀b u,h.get? b=Z u->h'.get? b=Z u)(j:h.objs.size<=a)(new:ObjOk P w (am H a o) h' a o):HOk P w (am H a o) h':=λb u e=>by
 have hn:=x.fresh j;by_cases f:b=a
 ·subst f;rw[bg]at e;cases e;show new
 ·rw[aS f]at e
  show (x b u e).stay (λc v _ q=>k c v q) (λc q=>by rw[aS (da q hn)];show q) (λc xs q=>by rw[aS (da q hn)];show q) λc l p q=>by rw[aS (da q hn)];show q
end
noncomputable def Rd(H:Hp)(a:Addr)(u:HO):Prop:=H a=Z u\/∃o,H a=Z (.frz o u)
theorem Rd.ok{P:Å}{w:È}{H:Hp}{h:Heap}{a:Addr}{u:HO}(r:Rd H a u)(x:HOk P w H h):ObjOk P w H h a u:=by
 rcases r with r|⟨o,r⟩
 ·show x a u r
 ·let⟨_,q⟩:=x a _ r;show q
noncomputable def kj:œ HO->Prop
 |some (.lst _)=>True
 |some (.dK _)=>True
 |some (.dT _)=>True
 |some (.set _ _)=>True
 |some (.ins _ _ _)=>True
 |some (.ext _)=>True
 |_=>False
section
variable{P:Å}{w:È}{H:Hp}{h h':Heap}{x e:Addr}{o':HO}
theorem HOk.write(ok:HOk P w H h)(mu:kj (H x))(p:e=x\/H e=Z (.own x))(k:∀b u,b≠e->h.get? b=Z u->h'.get? b=Z u)(B:∃u,h'.get? e=Z u)
  (new:ObjOk P w (am H x o') h' x o'):HOk P w (am H x o') h':=λb u q=>by
 have o:∀c y,H c=Z (.own y)->c≠x:=λc y r z=>by subst z;rw[r]at mu;show mu
 have E:∀c xs,H c=Z (.tup xs)->c≠x:=λc xs r z=>by subst z;rw[r]at mu;show mu
 have C:∀c j l,H c=Z (.frz j l)->c≠x:=λc j l r z=>by subst z;rw[r]at mu;show mu
 by_cases f:b=x
 ·subst f;rw[bg]at q;cases q;show new
 ·rw[aS f]at q;by_cases a:b=e
  ·have A:H b=Z (.own x):=by
    rcases p with z|z
    ·show absurd (a.trans z) f
    ·rw[a];show z
   rw[q]at A;cases A;let⟨v,F⟩:=B;show⟨v,by rw[a];show F⟩
  ·refine (ok b u q).stay (λc v g r=>k c v ?_ r) (λc r=>by rw[aS (o c b r)];show r) (λc xs r=>by rw[aS (E c xs r)];show r) λc j l r=>by rw[aS (C c j l r)];show r
   rcases g with rfl|g
   ·show a
   ·rintro rfl;rcases p with z|z
    ·show o c b g z
    ·rw[g]at z;cases z;show f S
end
structure Un(fs ex:List Addr)(H H':Hp)(h h':Heap):Prop where
 keep:∀b o,h.get? b=Z o->H b=Œ->b∉fs->b∉ex->h'.get? b=Z o
 slot:∀b o,h.get? b=Z o->H b=Œ->b∈fs->b∉ex->∃sl,h'.get? b=Z { o with slots:=sl }
 free:∀b o,h.get? b=Z o->H b=Œ->b∉ex->H' b=Œ
 there:∀b o,h.get? b=Z o->b∉ex->∃o',h'.get? b=Z o'
 tups:∀b xs,H b=Z (.tup xs)->H' b=Z (.tup xs)
 frzs:∀b o u,H b=Z (.frz o u)->H' b=Z (.frz o u)
 tbls:∀b ps,H b=Z (.tbl ps)->H' b=Z (.tbl ps)
section
variable{fs ex:Y Addr}{H f:Hp}{h c h':Heap}{a x e:Addr}{o:HO}
theorem Un.any(u:Un fs ex H f h c){b:Addr}{g:Ô}(q:h.get? b=Z g)(n:H b=Œ)(l:b∉ex):∃sl,c.get? b=Z { g with slots:=sl }:=by
 by_cases j:b∈fs
 ·show u.slot b g q n j l
 ·show⟨g.slots,u.keep b g q n j l⟩
theorem Un.kept(k:∀b u,h.get? b=Z u->h'.get? b=Z u):Un fs ex H H h h':=
 ⟨λb g q _ _ _=>k b g q,λb g q _ _ _=>⟨g.slots,k b g q⟩,λ_ _ _ n _=>n,λb g q _=>⟨g,k b g q⟩,λ_ _ q=>q,λ_ _ _ q=>q,λ_ _ q=>q⟩
theorem Un.refl:Un fs ex H H h h:=Un.kept λ_ _ q=>q
theorem Un.laid(k:∀b u,h.get? b=Z u->h'.get? b=Z u)(g:h.objs.size<=a)(hn:H a=Œ):Un fs ex H (am H a o) h h' where
 keep:=λb u q _ _ _=>k b u q
 slot:=λb u q _ _ _=>⟨u.slots,k b u q⟩
 free:=λb u q n _=>by rw[aS (HX (Ie (HI q) g))];show n
 there:=λb u q _=>⟨u,k b u q⟩
 tups:=λb xs q=>by rw[aS (da q hn)];show q
 frzs:=λb u xs q=>by rw[aS (da q hn)];show q
 tbls:=λb ps q=>by rw[aS (da q hn)];show q
theorem Un.write(mu:kj (H x))(w:e=x\/H e=Z (.own x))(k:∀b u,b≠e->h.get? b=Z u->h'.get? b=Z u)(v:∃u,h'.get? e=Z u):Un fs ex H (am H x o) h h':=by
 have p:∀b,H b=Œ->b≠x:=λb n z=>by subst z;rw[n]at mu;show mu
 have l:∀b,H b=Œ->b≠e:=λb n z=>by
  subst z;rcases w with r|r
  ·show p b n r
  ·rw[n]at r;cases r
 have g:∀b u,H b=Z u->¬ kj (Z u)->b≠x:=λb u q nm z=>by subst z;rw[q]at mu;show nm mu
 refine⟨λb u q n _ _=>k b u (l b n) q,λb u q n _ _=>⟨u.slots,k b u (l b n) q⟩,λb u q n _=>by rw[aS (p b n)];show n,λb u q _=>?_,
  λb xs q=>by rw[aS (g b _ q λz=>z)];show q,λb u xs q=>by rw[aS (g b _ q λz=>z)];show q,λb ps q=>by rw[aS (g b _ q λz=>z)];show q⟩
 by_cases j:b=e
 ·subst j;show v
 ·show⟨u,k b u j q⟩
end
noncomputable def nz(h:Heap)(H:Hp):Y Addr:=(List.range h.objs.size).filter λa=>(H a).isSome
noncomputable def gS(h:Heap)(H:Hp):Heap:=PySem.W.hideAll h (nz h H)
theorem Ez(h:Heap)(H:Hp):(gS h H).objs.size=h.objs.size:=PySem.W.hideAll_size _ _
theorem xi{h:Heap}{H:Hp}{b:Addr}{o:Ô}(e:h.get? b=Z o)(n:H b=Œ):(gS h H).get? b=Z o:=
 PySem.W.hideAll_get _ e λa=>by have q:(H b).isSome=Ŕ:=(Ir.mp a).2;rw[n]at q;simp at q
theorem yo{h:Heap}{H:Hp}{b:Addr}{o:Ô}(e:(gS h H).get? b=Z o):h.get? b=Z o/\H b=Œ:=by
 have a:h.get? b=Z o:=PySem.W.of_hideAll (nz h H) e;refine⟨a,?_⟩
 cases q:H b with
 |none=>rfl
 |some x=>
  have c:b∈nz h H:=Ir.mpr ⟨HQ.mpr (HI a),by simp[q]⟩;have z:(gS h H).get? b=Œ:=PySem.W.hideAll_none (nz h H) c;rw[z]at e;cases e
structure Mod(K:Â)(mg:Str->Option Value)(base:Heap):Prop where
 kin:K.In base
 glob:base.Ns Á mg
 blt:∃mb,base.Ns æ mb/\∀x:Str,x≠"__name__"->mb x=Ü x
 nolimit:base.NoLimit
 bmod:∃bm ob,mg "__builtins__"=Z (.ref bm)/\bm≠æ/\base.get? bm=Z ob/\ob.cls=.type "module"/\ob.dict=Z æ/\ob.data=.plain
 seer:base.NoSeer
 dig:∃mc,base.Ns cStatics mc/\mc "sys.int_max_str_digits"=Œ
structure Cx where
 prog:Å
 w:È
 K:Â
 mg:Str->Option Value
 base:Heap
 A:Ê
 N:List Str
 s₀:À
 H₀:Hp
 env:ì
 outer:List ì
 stack:List ì
 ex:List Addr
 fn:Str->Bool
 calm:Bool
 pn:List (Addr×Ô)
 xe:Value->À->Prop
noncomputable def fW(l:Y ì):Y Addr:=l.filterMap (·.frame)
noncomputable abbrev Cx.fs(X:Cx):Y Addr:=fW X.outer
noncomputable def cI(a:â)(x:Str):Prop:=a.names.lookup x=Z .local\/a.names.lookup x=Z .cell\/a.names.lookup x=Z .free
noncomputable def dA(a:â)(x:Str):Prop:=a.names.lookup x=Z .local\/a.names.lookup x=Z .cell
noncomputable def Dl(env:ì)(h:Heap)(m:Str->œ Value)(x:Str)(u:Value):Prop:=
 (env.kindOf x=Z .local/\m x=Z u)\/((env.kindOf x=Z .cell\/env.kindOf x=Z .free)/\∃c,env.cells.lookup x=Z c/\h.IsCell c (Z u))
structure Cx.Ok(X:Cx):Prop where
 mod:Mod X.K X.mg X.base
 kind:X.env.scope.kind=.function
 glob:X.env.globals=Á
 blt:X.env.builtins=æ
 above:X.s₀.heap.objs.size<=X.env.locals
 inj:∀x y c,X.env.cells.lookup x=Z c->X.env.cells.lookup y=Z c->x=y
 has:∀x,(X.env.kindOf x=Z .cell\/X.env.kindOf x=Z .free)->∃c,X.env.cells.lookup x=Z c
 cab:∀x c,X.fn x=Ŕ->X.env.cells.lookup x=Z c->X.s₀.heap.objs.size<=c
 hd:X.calm=Ŕ->X.A.handled=Œ
 frames:X.A.frames=Z X.stack
 stk:X.stack=X.outer\/(X.stack=X.env::X.outer/\X.env.frame=Z X.env.locals)
 exf:∀b∈X.ex,b≠X.env.locals/\∀x c,X.env.cells.lookup x=Z c->c≠b
 bs:∀b o,X.base.get? b=Z o->X.s₀.heap.get? b=Z o/\X.H₀ b=Œ
 bsz:X.base.objs.size<=X.s₀.heap.objs.size
 noex:∀b o,X.base.get? b=Z o->b∉X.ex
 exfs:∀b∈X.ex,b∉X.fs
 funs:X.s₀.heap.FunFrames X.base X.outer
 frf:∀b∈X.fs,X.H₀ b=Œ
structure Inv(X:Cx)(pins:List (Addr×Ô))(σ:List (Option V))(H:Hp)(s:À):Prop where
 ok:X.Ok
 os:s.os=X.s₀.os
 bare:ï s.gens
 base:Un X.fs X.ex X.H₀ H X.s₀.heap s.heap
 loc:∃m,s.heap.Ns X.env.locals m/\∀(i:Nat)(x:Str)(v:V),X.N[i]?=Z x->σ[i]?=Z (Z v)->cI X.env.scope x->∃u,RelV v u/\Dl X.env s.heap m x u
 cell:∀x c,X.env.cells.lookup x=Z c->∃v,s.heap.IsCell c v
 free:H X.env.locals=Œ
 freeC:∀x c,X.env.cells.lookup x=Z c->H c=Œ
 pin:∀p∈X.pn++pins,s.heap.get? p.1=Z p.2/\H p.1=Œ/\p.1≠X.env.locals/\p.1∉X.fs/\∀v,p.2.data≠.cell v
 hok:HOk X.prog X.w H s.heap
 len:σ.length=X.N.length
section
variable{X:Cx}{f:Y (Addr×Ô)}{g:Y (œ V)}{H w:Hp}{s:À}{h':Heap}
theorem Cx.Ok.nofr(ok:X.Ok){b:Addr}{o:Ô}(e:X.base.get? b=Z o):b∉X.fs:=λa=>by have:=(ok.funs.mem a).1;rw[e]at this;cases this
theorem Inv.bs(I:Inv X f g H s):∀b o,X.base.get? b=Z o->s.heap.get? b=Z o/\H b=Œ:=λb o e=>
 ⟨I.base.keep b o (I.ok.bs b o e).1 (I.ok.bs b o e).2 (I.ok.nofr e) (I.ok.noex b o e),I.base.free b o (I.ok.bs b o e).1 (I.ok.bs b o e).2 (I.ok.noex b o e)⟩
theorem Inv.bk(I:Inv X f g H s):∀b o,X.base.get? b=Z o->s.heap.get? b=Z o:=λb o e=>(I.bs b o e).1
theorem Inv.mod(I:Inv X f g H s):Mod X.K X.mg X.base:=I.ok.mod
theorem Inv.kIn(I:Inv X f g H s):X.K.In s.heap:=I.ok.mod.kin.keeps I.bk
theorem Inv.lt(I:Inv X f g H s):X.env.locals<s.heap.objs.size:=let ⟨_,hn,_⟩:=I.loc;hn.lt
theorem Inv.sz(I:Inv X f g H s):X.s₀.heap.objs.size<=s.heap.objs.size:=HZ I.ok.above (Jl I.lt)
theorem Inv.nofs(I:Inv X f g H s){a:Addr}(h:s.heap.objs.size<=a):a∉X.fs:=λc=>by let⟨_,o,ho,_⟩:=I.ok.funs.mem c;show absurd (Ie (HI ho) (HZ I.sz h)) (Jc _)
theorem Inv.cne(I:Inv X f g H s):∀x c,X.env.cells.lookup x=Z c->c≠X.env.locals:=λx c e z=>by let⟨v,o,ho,hd⟩:=I.cell x c e;let⟨m,⟨o',es,j,a,h,_⟩,_⟩:=I.loc;rw[z,a]at ho;cases ho;rw[h]at hd;cases hd
theorem Inv.funs(I:Inv X f g H s):s.heap.FunFrames X.base X.outer:=by
 have all:∀(l:Y ì),(∀b∈fW l,b∈X.fs)->X.s₀.heap.FunFrames X.base l->s.heap.FunFrames X.base l:=by
  intro l
  induction l with
  |nil=>intro _ _;trivial
  |cons env r x=>
   intro j u;let⟨p,⟨L,o,h,hn,ho,hd⟩,v⟩:=u;have a:L∈X.fs:=j L (by unfold fW;rw[JL,h];show Ht);let⟨sl,e⟩:=I.base.slot L o ho (I.ok.frf L a) a λz=>I.ok.exfs L z a;show⟨p,⟨L,_,h,hn,e,hd⟩,x (λb c=>j b (by unfold fW;rw[JL,h];show Hv _ c)) v⟩
 show all X.outer (λ_ c=>c) I.ok.funs
theorem Inv.stack(I:Inv X f g H s):s.heap.FunFrames X.base X.stack:=by
 rcases I.ok.stk with e|⟨e,a⟩
 ·rw[e];show I.funs
 ·rw[e];let⟨m,hn,_⟩:=I.loc;refine .cons (by rw[I.ok.kind];decide) a hn ?_ I.funs;show Heap.get?_none_of_le (HZ I.ok.bsz I.ok.above)
theorem Inv.stkSub(I:Inv X f g H s):∀b∈fW X.stack,b∈X.env.locals::X.fs:=λb a=>by
 rcases I.ok.stk with e|⟨e,c⟩
 ·rw[e]at a;show Hv _ a
 ·rw[e]at a;unfold fW at a;rw[JL,c]at a;show a
theorem Inv.stkFree(I:Inv X f g H s):∀b∈fW X.stack,H b=Œ:=λb a=>by
 rcases HH.mp (I.stkSub b a)with e|a
 ·rw[e];show I.free
 ·let⟨_,o,ho,_⟩:=I.ok.funs.mem a;show I.base.free b o ho (I.ok.frf b a) λz=>I.ok.exfs b z a
theorem Inv.step{g':Array GenState}{t':Nat}{d':Drawn}{ch:Y Addr}(I:Inv X f g H s)
  (A:∀b∈ch,(b∈X.ex\/X.s₀.heap.objs.size<=b)/\b≠X.env.locals/\(∀x c,X.env.cells.lookup x=Z c->c≠b)/\∀p∈X.pn++f,p.1≠b)
  (keep:∀b o,b≠X.env.locals->b∉X.fs->b∉ch->s.heap.get? b=Z o->H b=Œ->h'.get? b=Z o)
  (slot:∀b o,b≠X.env.locals->b∈X.fs->b∉ch->s.heap.get? b=Z o->H b=Œ->∃sl,h'.get? b=Z { o with slots:=sl }) (free:∀b o,b∉ch->s.heap.get? b=Z o->H b=Œ->w b=Œ)
  (there:∀b o,b∉ch->s.heap.get? b=Z o->∃o',h'.get? b=Z o')
  (tups:∀b xs,H b=Z (.tup xs)->w b=Z (.tup xs)) (frzs:∀b o u,H b=Z (.frz o u)->w b=Z (.frz o u)) (tbls:∀b ps,H b=Z (.tbl ps)->w b=Z (.tbl ps))
  (ns:∀m,s.heap.Ns X.env.locals m->h'.Ns X.env.locals m) (hok:HOk X.prog X.w w h') (O:ï g') :
  Inv X f g w { s with heap:=h',gens:=g',drawn:=d',toks:=t' }:=by
 have C:∀b o,X.s₀.heap.get? b=Z o->b≠X.env.locals:=λb o e=>HX (Ie (HI e) I.ok.above)
 have E:∀b o,X.s₀.heap.get? b=Z o->b∉X.ex->b∉ch:=λb o e a y=>by
  rcases (A b y).1 with z|z
  ·show a z
  ·show absurd (Ie (HI e) z) (Jc _)
 have h:∀x c,X.env.cells.lookup x=Z c->∀v,s.heap.IsCell c v->h'.IsCell c v:=λx c e v M=>by
  let⟨o,ho,hd⟩:=M;have B:c∉ch:=λz=>(A c z).2.2.1 x c e S;by_cases J:c∈X.fs
  ·let⟨sl,q⟩:=slot c o (I.cne x c e) J B ho (I.freeC x c e);show⟨_,q,hd⟩
  ·show⟨o,keep c o (I.cne x c e) J B ho (I.freeC x c e),hd⟩
 refine⟨I.ok,I.os,O,⟨λb o e n y a=>?_,λb o e n y a=>?_,λb o e n a=>?_,λb o e a=>?_,λb xs e=>tups b xs (I.base.tups b xs e),λb o xs e=>frzs b o xs (I.base.frzs b o xs e),λb ps e=>tbls b ps (I.base.tbls b ps e)⟩,?_,λx c e=>?_,?_,λx c e=>?_,λp K=>?_,hok,I.len⟩
 ·show keep b o (C b o e) y (E b o e a) (I.base.keep b o e n y a) (I.base.free b o e n a)
 ·let⟨sl,j⟩:=I.base.slot b o e n y a;let⟨G,F⟩:=slot b _ (C b o e) y (E b o e a) j (I.base.free b o e n a);show⟨G,F⟩
 ·let⟨o',j⟩:=I.base.there b o e a;show free b o' (E b o e a) j (I.base.free b o e n a)
 ·let⟨o',j⟩:=I.base.there b o e a;show there b o' (E b o e a) j
 ·let⟨m,hn,P⟩:=I.loc;refine⟨m,ns m hn,λi x v j F N=>?_⟩;let⟨u,r,l⟩:=P i x v j F N;refine⟨u,r,?_⟩;rcases l with l|⟨k,c,e,z⟩
  ·show .inl l
  ·show .inr ⟨k,c,e,h x c e _ z⟩
 ·let⟨v,z⟩:=I.cell x c e;show⟨v,h x c e v z⟩
 ·let⟨m,⟨o,_,_,ho,_⟩,_⟩:=I.loc;show free _ o (λz=>(A _ z).2.1 S) ho I.free
 ·let⟨v,o,ho,hd⟩:=I.cell x c e;show free c o (λz=>(A c z).2.2.1 x c e S) ho (I.freeC x c e)
 ·let⟨e,n,ne,L,d⟩:=I.pin p K;have B:p.1∉ch:=λz=>(A p.1 z).2.2.2 p K S;show⟨keep p.1 p.2 ne L B e n,free p.1 p.2 B e n,ne,L,d⟩
theorem Inv.un{t':Nat}(I:Inv X f g H s)(u:Un X.fs [] H w s.heap h')(hok:HOk X.prog X.w w h'):Inv X f g w { s with heap:=h',toks:=t' }:=by
 let⟨m,⟨o,es,x,ho,r⟩,_⟩:=id I.loc;let⟨sl,l⟩:=u.any ho I.free (by simp)
 show I.step (g':=s.gens) (d':=s.drawn) (ch:=[]) (λ_ z=>nomatch z) (λb o _ a _ e n=>u.keep b o e n a (by simp)) (λb o _ a _ e n=>u.slot b o e n a (by simp)) (λb o _ e n=>u.free b o e n (by simp)) (λb o _ e=>u.there b o e (by simp)) u.tups u.frzs u.tbls (λy p=>by
  let⟨o',h,j,c,v⟩:=p;rw[ho]at c;cases c
  show⟨_,h,j,l,v⟩) hok I.bare
theorem Inv.call{g':Array GenState}{t':Nat}{d':Drawn}{ch:Y Addr}(I:Inv X f g H s)(u:Un (fW X.stack) ch H w s.heap h')(hok:HOk X.prog X.w w h')(B:ï g')
  (l:∀b∈ch,(b∈X.ex\/X.s₀.heap.objs.size<=b)/\b≠X.env.locals/\(∀x c,X.env.cells.lookup x=Z c->c≠b)/\∀p∈X.pn++f,p.1≠b) :
  Inv X f g w { s with heap:=h',gens:=g',drawn:=d',toks:=t' }:=by
 let⟨m,⟨o,es,F,ho,r⟩,_⟩:=id I.loc;let⟨sl,h⟩:=u.any ho I.free λz=>(l _ z).2.1 S
 show I.step (ch:=ch) l (λb o h A a e n=>u.keep b o e n (λz=>(HH.mp (I.stkSub b z)).elim h A) a) (λb o _ _ a e n=>u.any e n a) (λb o a e n=>u.free b o e n a) (λb o a e=>u.there b o e a) u.tups u.frzs u.tbls (λG C=>by
  let⟨o',v,y,j,E⟩:=C;rw[ho]at j;cases j
  show⟨_,v,y,h,E⟩) hok B
theorem Inv.turned{t':Nat}{a:Addr}(I:Inv X f g H s)(k:∀b o,b≠a->s.heap.get? b=Z o->h'.get? b=Z o)(hn:H a=Œ)(l:a≠X.env.locals)
  (A:a∈X.ex\/X.s₀.heap.objs.size<=a) (B:∀x c,X.env.cells.lookup x=Z c->c≠a) (C:∀p∈X.pn++f,p.1≠a):Inv X f g H { s with heap:=h',toks:=t' }:=by
 have j:∀b u,H b=Z u->b≠a:=λb u e z=>by rw[z,hn]at e;cases e
 refine I.step (g':=s.gens) (d':=s.drawn) (ch:=[a]) (λb E=>?_) (λb o _ _ h e _=>k b o (λz=>h (by simp[z])) e) (λb o _ _ h e _=>⟨o.slots,k b o (λz=>h (by simp[z])) e⟩) (λ_ _ _ _ n=>n)
  (λb o h e=>⟨o,k b o (λz=>h (by simp[z])) e⟩) (λ_ _ e=>e) (λ_ _ _ e=>e) (λb ps e=>e) (λm F=>?_) (λb u e=>?_) I.bare
 ·have e:b=a:=by simpa using E
  subst e;show⟨A,l,B,C⟩
 ·let⟨o,es,y,ho,r⟩:=F;show⟨o,es,y,k _ o (IE l) ho,r⟩
 ·refine (I.hok b u e).stay (λc v h q=>k c v ?_ q) (λ_ q=>q) (λ_ _ q=>q) λ_ _ _ q=>q;rcases h with z|z
  ·rw[z];show j b u e
  ·show j c _ z
theorem Inv.tok(I:Inv X f g H s)(t:Nat):Inv X f g H { s with toks:=t }:=I.un (h':=s.heap) (t':=t) Un.refl I.hok
theorem Inv.kept{t':Nat}(I:Inv X f g H s)(k:∀b u,s.heap.get? b=Z u->h'.get? b=Z u):Inv X f g H { s with heap:=h',toks:=t' }:=I.un (Un.kept k) (I.hok.kept k)
theorem Inv.laid{a:Addr}{o:HO}{t':Nat}(I:Inv X f g H s)(k:∀b u,s.heap.get? b=Z u->h'.get? b=Z u)(c:s.heap.objs.size<=a)(new:ObjOk X.prog X.w (am H a o) h' a o) :
  Inv X f g (am H a o) { s with heap:=h',toks:=t' }:=I.un (Un.laid k c (I.hok.fresh c)) (I.hok.laid k c new)
theorem Inv.write{x e:Addr}{o:HO}{t':Nat}(I:Inv X f g H s)(mu:kj (H x))(c:e=x\/H e=Z (.own x))(k:∀b u,b≠e->s.heap.get? b=Z u->h'.get? b=Z u)(a:∃u,h'.get? e=Z u)
  (new:ObjOk X.prog X.w (am H x o) h' x o):Inv X f g (am H x o) { s with heap:=h',toks:=t' }:=I.un (Un.write mu c k a) (I.hok.write mu c k a new)
theorem Inv.pins_of{a:Y (Addr×Ô)}(I:Inv X f g H s)(h:∀p∈a,s.heap.get? p.1=Z p.2/\H p.1=Œ/\p.1≠X.env.locals/\p.1∉X.fs/\∀v,p.2.data≠.cell v):Inv X a g H s:=
 ⟨I.ok,I.os,I.bare,I.base,I.loc,I.cell,I.free,I.freeC,λp c=>(HU.mp c).elim (λz=>I.pin p (List.mem_append_left _ z)) (h p),I.hok,I.len⟩
theorem uJ{N:Y Str}(h:N.Nodup){i j:Nat}{x:Str}(a:N[i]?=Z x)(b:N[j]?=Z x):i=j:=by let⟨l,c⟩:=Iu.mp a;let⟨o,e⟩:=Iu.mp b;show (List.getElem_inj h).mp (c.trans e.symm)
theorem vt{M:Model}{A:Ê}{E:Value->À->Prop}{i:Nat}{x:Str}{v:V}{u:Value}{Q:Unit->À->Prop}(I:Inv X f g H s)(hN:X.N.Nodup)(P:X.N[i]?=Z x)(G:dA X.env.scope x)(r:RelV v u)
  (h:∀s',Inv X f (g.set i (Z v)) H s'->(∃a,Heap.SameBut a s.heap s'.heap/\(a=X.env.locals\/X.env.cells.lookup x=Z a))->Q Unit.unit s') (hf:X.fn x=Ŕ\/X.env.scope.names.lookup x=Z .local:=by nofun):wpAny M A (Ŋ X.env x u) Q E s:=by
 let⟨m,hn,hl⟩:=id I.loc
 have R4:(X.env.scope.kind==.class ||(X.env.scope.kind==.module&&X.env.locals != X.env.globals))=ŕ:=by rw[I.ok.kind];rfl
 have K:i<g.length:=by rw[I.len];show (Iu.mp P).1
 have cne:=I.cne
 have C:∀{a:Addr}{h':Heap},(∃o,s.heap.get? a=Z o/\H a=Œ)->Heap.SameBut a s.heap h'->HOk X.prog X.w H h':=λ{a h'} ha l b ob e=>by
  let⟨_,_,O2⟩:=ha;refine (I.hok b ob e).stay (λc T F q=>(l.2 c ?_).trans q) (λ_ q=>q) (λ_ _ q=>q) λ_ _ _ q=>q;rintro rfl;rcases F with rfl|F
  ·rw[O2]at e;cases e
  ·rw[O2]at F;cases F
 rcases G with L|L
 ·refine wpAny_storeName_local L hn (λh' Qq l=>?_) R4;let⟨oL,_,_,a_,_⟩:=id hn;refine h _ ⟨I.ok,I.os,I.bare,⟨λb o e n N G=>?_,λb o e n N G=>?_,I.base.free,λb o e G=>?_,I.base.tups,I.base.frzs,I.base.tbls⟩,⟨_,Qq,λj y v' B J be=>?_⟩,λy c e=>?_,I.free,I.freeC,λp hp=>?_,C ⟨oL,a_,I.free⟩ l,by simpa using I.len⟩ ⟨_,l,.inl S⟩
  ·show (l.2 b (HX (Ie (HI e) I.ok.above))).trans (I.base.keep b o e n N G)
  ·let⟨sl,B⟩:=I.base.slot b o e n N G;show⟨sl,(l.2 b (HX (Ie (HI e) I.ok.above))).trans B⟩
  ·let⟨o',B⟩:=I.base.there b o e G;show⟨o',(l.2 b (HX (Ie (HI e) I.ok.above))).trans B⟩
  ·by_cases O:j=i
   ·subst O;rw[P]at B;cases B;rw[HV K]at J;cases J;show⟨u,r,.inl ⟨L,by simp⟩⟩
   ·rw[HP (IE O)]at J;let⟨u',r',q⟩:=hl j y v' B J be;refine⟨u',r',?_⟩;rcases q with⟨k,e⟩|⟨k,c,e,z⟩
    ·refine .inl ⟨k,?_⟩;have:y≠x:=λe=>O (uJ hN B (e▸P));simp[this,e]
    ·show .inr ⟨k,c,e,z.sameBut l (cne y c e)⟩
  ·let⟨T,z⟩:=I.cell y c e;show⟨T,z.sameBut l (cne y c e)⟩
  ·let⟨e,n,ne,nf,d⟩:=I.pin p hp;show⟨(l.2 p.1 ne).trans e,n,ne,nf,d⟩
 ·have U:X.fn x=Ŕ:=by
   rcases hf with z|z
   ·show z
   ·rw[z]at L;cases L
  let⟨c,F⟩:=I.ok.has x (.inl L);let⟨T,z⟩:=I.cell x c F;refine wpAny_storeName_cell I.ok.kind L F z (λh' Qr l=>?_);let⟨oc,R,R5⟩:=id z;refine h { s with heap:=h' } ⟨I.ok,I.os,I.bare,⟨λb o e n N G=>?_,λb o e n N G=>?_,I.base.free,λb o e G=>?_,I.base.tups,I.base.frzs,I.base.tbls⟩,⟨m,hn.sameBut l (IE (cne x c F)),λj y v' B J be=>?_⟩,λy b_ e=>?_,I.free,I.freeC,λp hp=>?_,C ⟨oc,R,I.freeC x c F⟩ l,by simpa using I.len⟩ ⟨c,l,.inr F⟩
  ·show (l.2 b (HX (Ie (HI e) (I.ok.cab x c U F)))).trans (I.base.keep b o e n N G)
  ·let⟨sl,B⟩:=I.base.slot b o e n N G;show⟨sl,(l.2 b (HX (Ie (HI e) (I.ok.cab x c U F)))).trans B⟩
  ·let⟨o',B⟩:=I.base.there b o e G;show⟨o',(l.2 b (HX (Ie (HI e) (I.ok.cab x c U F)))).trans B⟩
  ·by_cases O:j=i
   ·subst O;rw[P]at B;cases B;rw[HV K]at J;cases J;show⟨u,r,.inr ⟨.inl L,c,F,Qr⟩⟩
   ·rw[HP (IE O)]at J;let⟨u',r',q⟩:=hl j y v' B J be;refine⟨u',r',?_⟩;rcases q with q|⟨k,b_,e,z'⟩
    ·show .inl q
    ·refine .inr ⟨k,b_,e,z'.sameBut l ?_⟩;rintro rfl;show O (uJ hN B (I.ok.inj _ _ _ e F▸P))
  ·by_cases Pp:b_=c
   ·subst Pp;show⟨_,Qr⟩
   ·let⟨w2,z2⟩:=I.cell y b_ e;show⟨w2,z2.sameBut l Pp⟩
  ·let⟨e,n,ne,nf,d⟩:=I.pin p hp;refine⟨(l.2 p.1 ?_).trans e,n,ne,nf,d⟩;intro q;rw[q,R]at e;have q':oc=p.2:=HR e;show d T (by rw[←q'];show R5)
theorem kX{M:Model}{A:Ê}{E:Value->À->Prop}{i:Nat}{x:Str}{v:V}{u:Value}{Q:Unit->À->Prop}(I:Inv X f g H s)(e:X.N.Nodup)(l:X.N[i]?=Z x)(o:dA X.env.scope x)(r:RelV v u)
  (h:∀a,Inv X f (g.set i (Z v)) H a->Q Unit.unit a) (j:X.fn x=Ŕ\/X.env.scope.names.lookup x=Z .local:=by nofun):wpAny M A (Ŋ X.env x u) Q E s:=
 vt I e l o r (λa c _=>h a c) j
theorem Inv.call'{a:À}{ch:Y Addr}(I:Inv X f g H s)(ho:a.os=s.os)(u:Un (fW X.stack) ch H w s.heap a.heap)(hok:HOk X.prog X.w w a.heap)(j:ï a.gens)
  (h:∀b∈ch,(b∈X.ex\/X.s₀.heap.objs.size<=b)/\b≠X.env.locals/\(∀x c,X.env.cells.lookup x=Z c->c≠b)/\∀p∈X.pn++f,p.1≠b):Inv X f g w a:=by
 let⟨h',g',d',t',o'⟩:=a;have e:o'=s.os:=ho;subst e;show I.call (g':=g') (t':=t') (d':=d') u hok j h
end
noncomputable abbrev XK:=Value->œ Addr->Hp->Prop
noncomputable abbrev St:=Y (œ V)
noncomputable abbrev VK:=V->Hp->Prop
noncomputable abbrev TE:=St->Hp->VK->Prop
noncomputable abbrev TT:=St->Hp->(Bool->Hp->Prop)->Prop
noncomputable abbrev TA:=St->Hp->(Y V->Hp->Prop)->Prop
structure Ends where
 nx:St->Hp->Prop
 rt:VK
 bk:St->Hp->Prop:=λ_ _=>False
 ct:St->Hp->Prop:=λ_ _=>False
noncomputable abbrev TS:=Ends->St->Hp->Prop
noncomputable def EP(X:Cx)(a:Y (Addr×Ô))(f:St)(Q:VK)(u:Value)(e:À):Prop:=∃v c,Inv X a f c e/\RelV v u/\Q v c
noncomputable def TP(X:Cx)(a:Y (Addr×Ô))(f:St)(Q:Bool->Hp->Prop)(b:Bool)(e:À):Prop:=∃c,Inv X a f c e/\Q b c
noncomputable def AP(X:Cx)(a:Y (Addr×Ô))(f:St)(Q:Y V->Hp->Prop)(us:Y Value)(e:À):Prop:=∃vs c,Inv X a f c e/\Vals vs us/\Q vs c
noncomputable def SP(X:Cx)(c:Y (Addr×Ô))(D:Ends)(f:Flow)(g:À):Prop:=
 match f with
 |.next=>∃a e,Inv X c a e g/\D.nx a e
 |.brk=>∃a e,Inv X c a e g/\D.bk a e
 |.cont=>∃a e,Inv X c a e g/\D.ct a e
 |.ret u=>∃v a e,Inv X c a e g/\RelV v u/\D.rt v e
noncomputable def PE(X:Cx)(e:Ã)(t:TE):Prop:=
 ∀(a:Y (Addr×Ô))(s:À)(c:St)(H:Hp)(Q:VK),Inv X a c H s->t c H Q->wpAny (Ä X.prog X.w) X.A (eval e X.env) (EP X a c Q) X.xe s
noncomputable def PT(X:Cx)(e:Ã)(t:TT):Prop:=
 ∀(a:Y (Addr×Ô))(s:À)(c:St)(H:Hp)(Q:Bool->Hp->Prop),Inv X a c H s->t c H Q->wpAny (Ä X.prog X.w) X.A (isTrue e X.env (eval e X.env)) (TP X a c Q) X.xe s
noncomputable def PW(X:Cx)(e:Ã)(t:TT):Prop:=
 ∀(c:Sem Value)(a:Y (Addr×Ô))(s:À)(f:St)(H:Hp)(Q:Bool->Hp->Prop),Inv X a f H s->t f H Q->wpAny (Ä X.prog X.w) X.A (isTrue e X.env c) (TP X a f Q) X.xe s
theorem PW.pt{X:Cx}{e:Ã}{t:TT}(h:PW X e t):PT X e t:=h _
noncomputable def PA(X:Cx)(es:Y Ã)(t:TA):Prop:=
 ∀(c:Õ)(a:Y (Addr×Ô))(s:À)(e:St)(H:Hp)(Q:Y V->Hp->Prop),Inv X a e H s->t e H Q->wpAny (Ä X.prog X.w) X.A (spliced (backTo c (starEach es X.env))) (AP X a e Q) X.xe s
noncomputable def PS(X:Cx)(st:Ç)(t:TS):Prop:=
 ∀(a:Y (Addr×Ô))(s:À)(c:St)(H:Hp)(D:Ends),Inv X a c H s->t D c H->wpAny (Ä X.prog X.w) X.A (exec st X.env) (SP X a D) X.xe s
noncomputable def PSs(X:Cx)(st:Y Ç)(t:TS):Prop:=
 ∀(a:Y (Addr×Ô))(s:À)(c:St)(H:Hp)(D:Ends),Inv X a c H s->t D c H->wpAny (Ä X.prog X.w) X.A (execs st X.env) (SP X a D) X.xe s
theorem ax{e:Type}{t:Sem e}{Q c:e->À->Prop}{M:Model}{A:Ê}{E:Value->À->Prop}{s:À}(h:wpAny M A t Q E s)(f:∀a s,Q a s->c a s):wpAny M A t c E s:=Jd h f λ_ _ x=>x
section
variable{X:Cx}
noncomputable def jS(i:Nat):TE:=λa H Q=>∃v,a[i]?=Z (Z v)/\Q v H
noncomputable def tC(v:V):TE:=λ_ H Q=>Q v H
theorem Dc{i:Nat}{x:Str}{f:Õ}(y:X.N[i]?=Z x)(B:cI X.env.scope x)(hd:ab x:=by decide)(w:fI x:=by decide):PE X (.Name x f) (jS i):=by
 intro j s C H Q I h;let⟨v,e,h⟩:=h;let⟨m,hn,z⟩:=I.loc;let⟨u,r,l⟩:=z i x v y e B;have a:EP X j C Q u s:=⟨v,H,I,r,h⟩;rcases l with⟨g,A⟩|⟨g,c,p,o⟩
 ·show wpAny_Name (wpAny_loadName_local I.ok.kind g hn A a) hd
 ·rcases g with g|g
  ·show wpAny_Name (wpAny_loadName_cell I.ok.kind g p o a) hd
  ·show wpAny_Name (wpAny_loadName_free I.ok.kind g p o a w) hd
theorem wI{i j f}:PE X (.Constant (.int i) j f) (tC (.int i)):=λ_ _ _ H _ I h=>wpAny_Constant_int ⟨.int i,H,I.tok _,⟨_,S⟩,h⟩
theorem yu{b j f}:PE X (.Constant (.bool b) j f) (tC (.bl b)):=λ_ _ _ H _ I h=>Constant_bool ⟨.bl b,H,I,S,h⟩
theorem Cs{j f}:PE X (.Constant .none j f) (tC .non):=λ_ _ _ H _ I h=>Constant_none ⟨.non,H,I,S,h⟩
theorem xu{x j f}:PE X (.Constant (.str x) j f) (tC (.str x)):=λ_ _ _ H _ I h=>Calls.Constant_str ⟨.str x,H,I.tok _,⟨_,S⟩,h⟩
noncomputable def Gl(X:Cx)(x:Str):Prop:=X.env.kindOf x=Z .globalImplicit
theorem tL{E:Value->À->Prop}{a:Y (Addr×Ô)}{s:À}{g:St}{H:Hp}{x:Str}{u:Value}{f:Õ}{Q:Value->À->Prop}(I:Inv X a g H s)(c:Gl X x)(e:X.mg x=Z u)(h:Q u s)
  (hd:ab x:=by decide):wpAny (Ä X.prog X.w) X.A (eval (.Name x f) X.env) Q E s:=
 þ I.ok.kind c (Calls.loadGlobal_global (by rw[I.ok.glob];show I.mod.glob.keeps I.bk) e h) hd
theorem hZ{E:Value->À->Prop}{a:Y (Addr×Ô)}{s:À}{o:St}{H:Hp}{x:Str}{u:Value}{f:Õ}{Q:Value->À->Prop}(I:Inv X a o H s)(g:Gl X x)(j:X.mg x=Œ)(l:Ü x=Z u)(h:Q u s)
  (hn:x≠"__name__":=by decide) (hd:ab x:=by decide):wpAny (Ä X.prog X.w) X.A (eval (.Name x f) X.env) Q E s:=by
 let⟨p,c,e⟩:=I.mod.blt;show þ I.ok.kind g (Calls.loadGlobal_builtin (by rw[I.ok.glob];show I.mod.glob.keeps I.bk) j (by rw[I.ok.blt];show c.keeps I.bk) ((e x hn).trans l) h) hd
theorem gG{x:Str}{v:V}{u:Value}{f:Õ}(a:Gl X x)(c:X.mg x=Œ)(e:Ü x=Z u)(r:RelV v u)(hn:x≠"__name__":=by decide)(hd:ab x:=by decide):PE X (.Name x f) (tC v):=
 λ_ _ _ H _ I h=>hZ I a c e ⟨v,H,I,r,h⟩ hn hd
variable{a b:Ã}{o tb:TE}{f:Õ}
noncomputable def PC(X:Cx)(j:ď)(a b:Ã)(t:TE):Prop:=
 ∀(c:Y (Addr×Ô))(s:À)(h:St)(H:Hp)(Q:VK),Inv X c h H s->t h H Q->
  wpAny (Ä X.prog X.w) X.A (eval a X.env) (λv e=>wpAny (Ä X.prog X.w) X.A (eval b X.env) (λu g=>wpAny (Ä X.prog X.w) X.A (É j v u) (EP X c h Q) X.xe g) X.xe e) X.xe s
noncomputable def tB(t:TE):TT:=λg H Q=>t g H λx e=>∃c,x=.bl c/\Q c e
theorem wx{j:ď}{t:TE}(h:PC X j a b t)(g:behindInMarks j b=ŕ:=by first|show nobehind _ 'b' 'b'|rfl):PT X (.Compare a [j] [b] f) (tB t):=by intro e s B H Q I y;refine wpAny_isTrue_Compare1 (ax (h e s B H _ I y) λv C g=>ax g λu E w=>ax w λc F r=>?_) g;let⟨x,l,p,A,z⟩:=r;let⟨d,rfl,q⟩:=z;cases A;show JG ⟨l,p,q⟩
variable{p w:TT}{g:Y Ã}
noncomputable def zj(t u:TT):TT:=λh H Q=>t h H λc e=>if c=Ŕ then u h e Q else Q ŕ e
noncomputable def xK(t u:TT):TT:=λh H Q=>t h H λc e=>if c=Ŕ then Q Ŕ e else u h e Q
noncomputable def Ff(t:TT):TT:=λh H Q=>t h H λc e=>Q (!c) e
theorem vp(l:PT X a p):PW X (.BoolOp .And [a] f) p:=by
 intro v j s r H Q I h;refine isTrue_and (ax (l j s r H Q I h) λc u e=>?_)
 cases c with
 |true=>show isTrue_and_nil e
 |false=>show e
theorem sM(l:PT X a p):PW X (.BoolOp .Or [a] f) p:=by
 intro v j s r H Q I h;refine isTrue_or (ax (l j s r H Q I h) λc u e=>?_)
 cases c with
 |false=>show isTrue_or_nil e
 |true=>show e
theorem uw(x:PT X a p)(y:PW X (.BoolOp .And (b::g) f) w):PW X (.BoolOp .And (a::b::g) f) (zj p w):=by
 intro A e s u H Q I h;refine isTrue_and (ax (x e s u H _ I h) λc z v=>?_);let⟨j,l,r⟩:=v
 cases c with
 |true=>show y A e z u j Q l r
 |false=>show⟨j,l,r⟩
theorem vZ(x:PT X a p)(y:PW X (.BoolOp .Or (b::g) f) w):PW X (.BoolOp .Or (a::b::g) f) (xK p w):=by
 intro A e s u H Q I h;refine isTrue_or (ax (x e s u H _ I h) λc z v=>?_);let⟨j,l,r⟩:=v
 cases c with
 |true=>show⟨j,l,r⟩
 |false=>show y A e z u j Q l r
theorem yt(l:PT X a p):PT X (.UnaryOp .Not a f) (Ff p):=by intro e s r H Q I h;show isTrue_not (l e s r H (λc j=>Q (!c) j) I h)
noncomputable def wt(o tb:TE):TE:=λh H Q=>o h H λx e=>∃c,x=.bl c/\if c=Ŕ then tb h e Q else Q (.bl ŕ) e
noncomputable def y6(o:TE):TE:=λh H Q=>o h H λx e=>∃c,x=.bl c/\Q (.bl (!c)) e
theorem u0{op}{t:TE}(h:PE X a t):PE X (.BoolOp op [a] f) t:=λc s j H Q I e=>BoolOp_one (h c s j H Q I e)
theorem tS(z:PE X a o)(A:PE X (.BoolOp .And (b::g) f) tb):PE X (.BoolOp .And (a::b::g) f) (wt o tb):=by
 intro e s u H Q I h;refine BoolOp_and (ax (z e s u H _ I h) λv C y=>?_);let⟨x,l,r,B,j⟩:=y;let⟨c,rfl,j⟩:=j;cases B;refine JG ?_
 cases c with
 |true=>show A e C u l Q r j
 |false=>show⟨.bl ŕ,l,r,S,j⟩
theorem Dp(y:PE X a o):PE X (.UnaryOp .Not a f) (y6 o):=by intro e s A H Q I h;refine UnaryOp_ (ax (y e s A H _ I h) λv B u=>?_);let⟨x,l,r,z,j⟩:=u;let⟨c,rfl,j⟩:=j;cases z;show not_of (JG ⟨.bl (!c),l,r,S,j⟩)
noncomputable def GD(t:TT)(o tb:TE):TE:=λe H Q=>t e H λc h=>if c=Ŕ then o e h Q else tb e h Q
theorem Ae{c:Ã}(A:PT X c p)(y:PE X a o)(z:PE X b tb):PE X (.IfExp c a b f) (GD p o tb):=by
 intro e s j H Q I h;refine wpAny_IfExp (ax (A e s j H _ I h) λd v x=>?_);let⟨l,r,u⟩:=x
 cases d with
 |true=>show y e v j l Q r u
 |false=>show z e v j l Q r u
end
noncomputable def SqL(K:Â)(H:Hp)(a:Addr)(xs:Y V):Prop:=
 Rd H a (.lst xs) \/
  ∃(o:Ô)(c:Array Value)(n:Nat),K.lookup a=Z o/\o.cls=.type "list"/\o.dict=Œ/\o.data=.seq c n/\c.size<=sizeLine/\Vals xs c.toList
noncomputable def SqT(K:Â)(H:Hp)(a:Addr)(xs:Y V):Prop:=
 Rd H a (.tup xs) \/
  ∃(o:Ô)(c:Array Value)(n:Nat),K.lookup a=Z o/\o.cls=.type "tuple"/\o.data=.seq c n/\c.size<=sizeLine/\Vals xs c.toList
noncomputable def yL:Value->œ V
 |.none=>Z .non
 |.bool b=>Z (.bl b)
 |.int i _=>Z (.int i)
 |.str x _=>Z (.str x)
 |.bytes b _=>Z (.byt b)
 |.float b _=>Z (.flt b)
 |.ref a=>Z (.ref a)
 |.type n=>Z (.ty n)
 |_=>Œ
theorem RelV.abs{x:V}{u:Value}(r:RelV x u):yL u=Z x:=by
 cases x with
 |non=>cases r;rfl
 |bl _=>cases r;rfl
 |int _=>let⟨t,rfl⟩:=r;rfl
 |str _=>let⟨t,rfl⟩:=r;rfl
 |byt _=>let⟨t,rfl⟩:=r;rfl
 |flt _=>let⟨t,rfl⟩:=r;rfl
 |ref _=>cases r;rfl
 |ty _=>cases r;rfl
theorem RelV.inj{x y:V}{u:Value}(r:RelV x u)(q:RelV y u):x=y:=HR (r.abs.symm.trans q.abs)
theorem Vals.inj:∀{xs a:Y V}{us:Y Value},Vals xs us->Vals a us->xs=a
 |_,_,_,.nil,.nil=>rfl
 |_,_,_,.cons r t,.cons c t'=>by rw[r.inj c,Vals.inj t t']
section
variable{X:Cx}{c:Y (Addr×Ô)}{f:St}{H:Hp}{s:À}{a:Addr}{xs g:Y V}
theorem SqL.of{K:Â}(h:H a=Z (.lst xs)):SqL K H a xs:=.inl (.inl h)
theorem SqT.of{K:Â}(h:H a=Z (.tup xs)):SqT K H a xs:=.inl (.inl h)
theorem Inv.list(I:Inv X c f H s)(h:SqL X.K H a xs):∃j:Y Value,Vals xs j/\PlainL s.heap a j.toArray/\xs.length<=sizeLine:=by
 rcases h with h|⟨o,j,n,p,l,hd,u,v,r⟩
 ·let⟨z,j,n,r,e⟩:=h.ok I.hok;show⟨j,r,⟨_,n,e,S,S,S⟩,z⟩
 ·refine⟨j.toList,r,⟨o,n,I.kIn a o p,l,hd,by simpa using u⟩,?_⟩;have e:=r.length;simp only[IK]at e;omega
theorem Inv.tuple(I:Inv X c f H s)(h:SqT X.K H a xs):∃j:Y Value,Vals xs j/\ĝ s.heap a j.toArray/\xs.length<=sizeLine:=by
 rcases h with h|⟨o,j,n,u,l,v,w,r⟩
 ·let⟨z,j,r,p⟩:=h.ok I.hok;show⟨j,r,p.tup,z⟩
 ·refine⟨j.toList,r,⟨o,I.kIn a o u,l,n,by simpa using v⟩,?_⟩;have e:=r.length;simp only[IK]at e;omega
theorem Inv.list_inj(I:Inv X c f H s)(h:SqL X.K H a xs)(h':SqL X.K H a g):xs=g:=by
 let⟨l,r,⟨o,n,e,_,_,d⟩,_⟩:=I.list h;let⟨Mc,p,⟨o',u,j,_,_,d'⟩,_⟩:=I.list h';rw[e]at j;cases j;rw[d]at d';injection d' with d1 _
 have:l=Mc:=by simpa using Il ľ d1
 subst this;show r.inj p
theorem Inv.tuple_inj(I:Inv X c f H s)(h:SqT X.K H a xs)(h':SqT X.K H a g):xs=g:=by
 let⟨l,r,⟨o,e,_,n,d⟩,_⟩:=I.tuple h;let⟨Mc,p,⟨o',j,_,u,d'⟩,_⟩:=I.tuple h';rw[e]at j;cases j;rw[d]at d';injection d' with d1 _
 have:l=Mc:=by simpa using Il ľ d1
 subst this;show r.inj p
end
noncomputable abbrev Cx.wish(X:Cx)(E:Value->À->Prop):Cx:={ X with xe:=E }
noncomputable abbrev Cx.nox(X:Cx):Cx:=X.wish λ_ _=>False
theorem Cx.Ok.wish{X:Cx}(ok:X.Ok)(E:Value->À->Prop):(X.wish E).Ok:=
 ⟨ok.mod,ok.kind,ok.glob,ok.blt,ok.above,ok.inj,ok.has,ok.cab,ok.hd,ok.frames,ok.stk,ok.exf,ok.bs,ok.bsz,ok.noex,ok.exfs,ok.funs,ok.frf⟩
theorem Cx.Ok.unwish{X:Cx}{E:Value->À->Prop}(ok:(X.wish E).Ok):X.Ok:=
 ⟨ok.mod,ok.kind,ok.glob,ok.blt,ok.above,ok.inj,ok.has,ok.cab,ok.hd,ok.frames,ok.stk,ok.exf,ok.bs,ok.bsz,ok.noex,ok.exfs,ok.funs,ok.frf⟩
section
variable{X:Cx}{a:Y (Addr×Ô)}{c:St}{H:Hp}{s:À}{E:Value->À->Prop}
theorem Inv.wish(I:Inv X a c H s)(E:Value->À->Prop):Inv (X.wish E) a c H s:=⟨I.ok.wish E,I.os,I.bare,I.base,I.loc,I.cell,I.free,I.freeC,I.pin,I.hok,I.len⟩
theorem Inv.unwish(I:Inv (X.wish E) a c H s):Inv X a c H s:=⟨I.ok.unwish,I.os,I.bare,I.base,I.loc,I.cell,I.free,I.freeC,I.pin,I.hok,I.len⟩
theorem SP.unwish{D:Ends}{f:Flow}{j:À}(h:SP (X.wish E) a D f j):SP X a D f j:=by
 cases f with
 |next=>let⟨e,g,I,q⟩:=h;show⟨e,g,I.unwish,q⟩
 |brk=>let⟨e,g,I,q⟩:=h;show⟨e,g,I.unwish,q⟩
 |cont=>let⟨e,g,I,q⟩:=h;show⟨e,g,I.unwish,q⟩
 |ret u=>let⟨v,e,g,I,r,q⟩:=h;show⟨v,e,g,I.unwish,r,q⟩
theorem PSs.nox{st:Y Ç}{t:TS}(h:PSs X.nox st t):PSs X st t:=λa s c H D I e=>
 Jd (h a s c H D (I.wish _) e) (λ_ _ q=>q.unwish) λ_ _ z=>Ñ z
end
section
variable{X:Cx}{st:Ç}{l:Y Ç}{t u:TS}{e:Ã}{j:TE}{g:Õ}
noncomputable def EZ:TS:=λD a H=>D.nx a H
noncomputable def AU(t u:TS):TS:=λD a H=>t { D with nx:=u D } a H
theorem pss_nil:PSs X [] EZ:=λ_ _ a H _ I h=>KC ⟨a,H,I,h⟩
theorem mI(r:PS X st t)(w:PSs X l u):PSs X (st::l) (AU t u):=by
 intro a s y H D I h;refine wpAny_execs_cons (ax (r a s y H { D with nx:=u D } I h) λf x q=>?_)
 cases f with
 |next=>
  let⟨c,o,p,q⟩:=q;show w a x c o D p q
 |ret v=>show q
 |brk=>show q
 |cont=>show q
theorem uA(c:PS X st t):PSs X [st] t:=by
 intro a s o H D I h;refine wpAny_execs_cons (ax (c a s o H D I h) λf p q=>?_)
 cases f with
 |next=>show KC q
 |ret v=>show q
 |brk=>show q
 |cont=>show q
theorem Inv.quiet{a:Y (Addr×Ô)}{c:St}{H:Hp}{s:À}(I:Inv X a c H s):interactive X.env=ŕ:=by simp[interactive,I.ok.kind]
noncomputable def Ew(j:TE):TS:=λD a H=>j a H λ_ c=>D.nx a c
theorem nO(r:PE X e j)(w:Ð e Œ g.line X.env=pure ŕ:=by rfl):PS X (.Expr e g) (Ew j):=by intro a s c H D I h;show wpAny_Expr_any (ax (r a s c H _ I h) λv A p=>by let⟨x,f,o,z,y⟩:=p;show⟨c,f,o,y⟩) I.quiet w
noncomputable def zY(j:TE):TS:=λD a H=>j a H D.rt
theorem sZ(r:PE X e j):PS X (.Return (Z e) g) (zY j):=by intro a s c H D I h;show wpAny_Return_some (ax (r a s c H _ I h) λv z p=>by let⟨x,f,o,y,w⟩:=p;show⟨x,c,f,o,y,w⟩)
noncomputable def D0(c:TT)(t u:TS):TS:=λD a H=>c a H λb f=>if b=Ŕ then t D a f else u D a f
theorem vc{c:Ã}{a b:Y Ç}{x:TT}(B:PT X c x)(z:PSs X a t)(A:PSs X b u):PS X (.If c a b g) (D0 x t u):=by
 intro f s o H D I h;refine wpAny_If (ax (B f s o H _ I h) λd w y=>?_);let⟨p,r,v⟩:=y
 cases d with
 |true=>show z f w o p D r v
 |false=>show A f w o p D r v
noncomputable def EK:TS:=λ_ _ _=>False
theorem ps_never:PS X st EK:=λ_ _ _ _ _ _ h=>h.elim
end
noncomputable abbrev TG:=V->St->Hp->(St->Hp->Prop)->Prop
noncomputable abbrev e6:=Y V->St->Hp->(St->Hp->Prop)->Prop
noncomputable def PG(X:Cx)(a:Ã)(t:TG):Prop:=
 ∀(c:Y (Addr×Ô))(s:À)(g:St)(H:Hp)(v:V)(u:Value)(Q:St->Hp->Prop),Inv X c g H s->RelV v u->t v g H Q->
  wpAny (Ä X.prog X.w) X.A (assign a X.env u) (λ_ h=>∃e f,Inv X c e f h/\Q e f) X.xe s
noncomputable def PGs(X:Cx)(h:Y Ã)(t:e6):Prop:=
 ∀(a:Y (Addr×Ô))(s:À)(f:St)(H:Hp)(vs:Y V)(us:Y Value)(Q:St->Hp->Prop),Inv X a f H s->Vals vs us->t vs f H Q->
  wpAny (Ä X.prog X.w) X.A (assignInOrder ((Æ h X.env).map (·.2)) us) (λ_ g=>∃c e,Inv X a c e g/\Q c e) X.xe s
noncomputable abbrev kQ:=V->V->V->Hp->(Hp->Prop)->Prop
noncomputable def qu(X:Cx)(t:kQ):Prop:=
 ∀(a:Y (Addr×Ô))(s:À)(g:St)(H:Hp)(o i v:V)(f e u:Value)(Q:Hp->Prop),Inv X a g H s->RelV o f->RelV i e->RelV v u->t o i v H Q->
  wpAny (Ä X.prog X.w) X.A (setItem f e u) (λ_ h=>∃c,Inv X a g c h/\Q c) X.xe s
noncomputable abbrev jh:=V->V->Hp->VK->Prop
noncomputable def jZ(X:Cx)(e:ë)(t:jh):Prop:=
 ∀(a:Y (Addr×Ô))(s:À)(c:St)(H:Hp)(x y:V)(v u:Value)(Q:VK),Inv X a c H s->RelV x v->RelV y u->t x y H Q->
  wpAny (Ä X.prog X.w) X.A (inplaceOp e v u) (EP X a c Q) X.xe s
section
variable{X:Cx}{A:Õ}
noncomputable def iQ(i:Nat):TG:=λv a H Q=>Q (a.set i (Z v)) H
theorem j6{i:Nat}{x:Str}(e:X.N.Nodup)(g:X.N[i]?=Z x)(j:dA X.env.scope x)(f:X.fn x=Ŕ\/X.env.scope.names.lookup x=Z .local:=by nofun):PG X (.Name x A) (iQ i):=by intro a s o H v u Q I r h;show wpAny_assign_Name (kX I e g j r (λl c=>⟨_,H,c,h⟩) f)
noncomputable def FF:e6:=λvs a H Q=>vs=[]/\Q a H
noncomputable def Gb(t:TG)(u:e6):e6:=λvs e H Q=>∃v r,vs=v::r/\t v e H λa c=>u r a c Q
theorem pgs_nil:PGs X [] FF:=by intro a s c H vs us Q I r h;let⟨e,h⟩:=h;subst e;cases r;show assignInOrder_nil ⟨c,H,I,h⟩
theorem ky{e:Ã}{es:Y Ã}{t:TG}{u:e6}(o:PG X e t)(p:PGs X es u)
  (w:(Æ (e::es) X.env).map (·.2)=assign e X.env::(Æ es X.env).map (·.2):=by rfl):PGs X (e::es) (Gb t u):=by
 intro a s z H vs us Q I r h;let⟨v,B,l,h⟩:=h;subst l
 cases r with
 |cons r rr=>
  rw[w];refine ú (ax (o a s z H _ _ _ I r h) λ_ y j=>?_);let⟨c,f,g,x⟩:=j;show p a y c f _ _ Q g rr x
noncomputable def pN(K:Â)(n:Nat)(t:e6):TG:=λv c H Q=>∃a xs,v=.ref a/\SqT K H a xs/\xs.length=n/\t xs c H Q
theorem vf{es:Y Ã}{k:Nat}{t:e6}{n:Nat}(x:X.calm=Ŕ)(h:PGs X es t)
  (hn:(Æ es X.env).length=n:=by rfl) (p:(Æ es X.env).findIdx? (·.1)=Œ:=by rfl):PG X (.Tuple es k A) (pN X.K n t):=by
 intro c s j H v u Q I r f;let⟨a,xs,w,z,y,f⟩:=f;subst w;cases r;let⟨E,g,B,F⟩:=I.tuple z;refine assign_Tuple_tuple (I.ok.hd x) B (by simp[hn,←y,g.length]) p λh' C=>?_;have l:Inv X c j H { s with heap:=h' }:=I.kept (t':=s.toks) λb o e=>C b o (HX (HI e)) e;show h c _ j H xs _ Q l (by simpa using g) f
noncomputable def AJ(to g:TE)(t:kQ):TG:=λv a H Q=>to a H λo c=>g a c λi e=>t o i v e λf=>Q a f
theorem r6{o i:Ã}{to g:TE}{t:kQ}(ho:PE X o to)(J:PE X i g)(K:qu X t)
  (G:∀v,assign (.Subscript o i A) X.env v=(do
   let c ←holding [v] (eval o X.env)
   let e ←holding [v,c] (eval i X.env)
   standAt A
   holding [v,c,e] (setItem c e v)
   release [v,c,e] []):=by intro _;rfl):PG X (.Subscript o i A) (AJ to g t):=by
 intro a s f H v u Q I r h;rw[G];refine Hn (Jj (ax (ho a s f H _ I h) λc R C=>?_));let⟨x,j,w,O,L⟩:=C;refine Hn (Jj (ax (J a R f j _ w L) λe U E=>?_));let⟨y,l,z,P,M⟩:=E;refine Hn (Kp (Hn (Jj (ax (K a U f l x y v c e u _ z O P r M) λ_ T F=>?_))));let⟨p,B,N⟩:=F;show wpAny_release ⟨f,p,B,N⟩
noncomputable def iP(e:TE)(g:TG):TS:=λD a H=>e a H λx c=>g x a c D.nx
theorem jO{c e:Ã}{f:TE}{g:TG}(u:PE X e f)(w:PG X c g)(y:Ö [c] e A.line X.env=pure ŕ:=by rfl)(z:Ø [c] e X.env=pure Œ:=by rfl)
  (r:(Æ [c] X.env).map (·.2)=[assign c X.env]:=by rfl):PS X (.Assign [c] e A) (iP f g):=by
 intro a s j H D I h;refine wpAny_Assign_stores (ax (u a s j H _ I h) λv E p=>?_) y z;let⟨x,l,o,C,B⟩:=p;rw[r];show ax (w a E j l x v _ o C B) λ_ F q=>q
theorem tZ{i:Nat}{x:Str}{e:Ã}{f:TE}{a:Õ}(p:X.N.Nodup)(w:X.N[i]?=Z x)(B:dA X.env.scope x)(r:PE X e f)(z:Ð e (Z (.Name x a)) A.line X.env=pure ŕ:=by rfl)(u:X.fn x=Ŕ\/X.env.scope.names.lookup x=Z .local:=by nofun) :
  PS X (.Assign [.Name x a] e A) (iP f (iQ i)):=by
 intro c s F H D I h;refine wpAny_Assign_Name (ax (r c s F H _ I h) λv G o=>?_) z;let⟨y,g,j,E,C⟩:=o;show kX j p w B E (λJ l=>⟨_,g,l,C⟩) u
noncomputable def CQ(i j:Nat)(e:TA):TS:=λD a H=>e a H λvs c=>∃v w,vs=[v,w]/\D.nx ((a.set i (Z v)).set j (Z w)) c
theorem FH{i j:Nat}{x y:Str}{a b:Ã}{J:TA}{r u pt:Õ}{kt k2 Pq}(be:X.calm=Ŕ)(E:X.N.Nodup)(a_:X.N[i]?=Z x)(hj:X.N[j]?=Z y)(R:i≠j)
  (F:X.env.scope.names.lookup x=Z .local) (G:X.env.scope.names.lookup y=Z .local) (U:PA X [a,b] J)
  (hw:Ø [.Tuple [.Name x r,.Name y u] kt pt] (.Tuple [a,b] k2 Pq) X.env=pure (Z [x,y]))
  (hs:Ö [.Tuple [.Name x r,.Name y u] kt pt] (.Tuple [a,b] k2 Pq) A.line X.env=pure ŕ:=by rfl) :
  PS X (.Assign [.Tuple [.Name x r,.Name y u] kt pt] (.Tuple [a,b] k2 Pq) A) (CQ i j J):=by
 intro c s K H D I h;rw[exec_Assign_arm];refine Hn (Kp ?_);rw[hs];refine Hn (HA ?_);rw[Hq 'b'];refine Hn (Tuple_ (ax (U _ c s K H _ I h) λus f P=>?_));let⟨vs,B,L,r1,z⟩:=P;let⟨v,w,T,z⟩:=z;subst T
 obtain⟨g,l,rfl,rv,Q⟩:∃g l,us=[g,l]/\RelV v g/\RelV w l:=by
  cases r1 with
  |cons p q=>
   cases q with
   |cons p' q'=>
    cases q';show⟨_,_,S,p,p'⟩
 refine IL ?_ (by change 2<=sizeLine;decide);have M:Inv X c K B { f with heap:=f.heap.push { cls:=.type "tuple",data:=.seq [g,l].toArray } }:=L.kept (t':=f.toks) λb o e=>Ho _ e;rw[hw];refine Hn (HA ?_);change wpAny (Ä X.prog X.w) X.A (do rule "assign.swapped-stores";let items ←unpackItems (.ref f.heap.objs.size) 2 Œ;assignInOrder [λv=>Ĵ X.env y v,λv=>Ĵ X.env x v] items.reverse;pure Flow.next) _ _ _;refine Hn (Lb (Hn (unpackItems_tuple (items:=#[g,l]) (I.ok.hd be) (ĝ.new f.heap _) λh' b_=>?_)));have N:=M.kept (h':=h') (t':=f.toks) λb o e=>b_ b o (HX (HI e)) e;change wpAny _ _ (assignInOrder [λv=>Ĵ X.env y v,λv=>Ĵ X.env x v] [l,g] >>= λ_=>pure Flow.next) _ _ _;refine Hn (ú (wpAny_bindName (kX N E hj (.inl G) Q (λs2 O=>?_) (.inr G))));refine ú (wpAny_bindName (kX O E a_ (.inl F) rv (λs3 C=>assignInOrder_nil (HA ?_)) (.inr F)));rw[List.set_comm _ _ (IE R)]at C;show⟨_,B,C,z⟩
noncomputable def Da(i:Nat)(f:TE)(g:jh):TS:=λD a H=>∃x,a[i]?=Z (Z x)/\f a H λy c=>g x y c λz e=>D.nx (a.set i (Z z)) e
theorem Db{i:Nat}{x:Str}{e:Ã}{F:TE}{B:ë}{G:jh}{g:Õ}(T:X.N.Nodup)(E:X.N[i]?=Z x)(p:dA X.env.scope x)(be:PE X e F)(ho:jZ X B G)(a_:X.fn x=Ŕ\/X.env.scope.names.lookup x=Z .local:=by nofun) :
  PS X (.AugAssign (.Name x g) B e A) (Da i F G):=by
 intro a s J H D I h;let⟨v,b_,h⟩:=h;let⟨m,hn,hl⟩:=I.loc
 have C:cI X.env.scope x:=by rcases p with k|k;show .inl k;show .inr (.inl k)
 let⟨u,r,l⟩:=hl i x v E b_ C;refine wpAny_AugAssign_Name ?_
 have go:wpAny (Ä X.prog X.w) X.A (eval e X.env) (λw j=>wpAny (Ä X.prog X.w) X.A (inplaceOp B u w) (λr o=>wpAny (Ä X.prog X.w) X.A (Ŋ X.env x r) (λ_=>SP X a D .next) X.xe o) X.xe j) X.xe s:=by refine ax (be a s J H _ I h) λw s1 P=>?_;let⟨y,K,M,r1,q1⟩:=P;refine ax (ho a s1 J K v y u w _ M r r1 q1) λz s2 Q=>?_;let⟨zv,L,N,r2,q2⟩:=Q;show kX N T E p r2 (λs3 O=>⟨_,L,O,q2⟩) a_
 rcases l with⟨f,hm⟩|⟨f,c,U,R⟩
 ·show wpAny_loadName_local I.ok.kind f hn hm go
 ·rcases f with f|f
  ·show wpAny_loadName_cell I.ok.kind f U R go
  ·rcases p with k|k
   ·have:X.env.scope.names.lookup x=Z .free:=f;rw[k]at this;cases this
   ·have:X.env.scope.names.lookup x=Z .free:=f;rw[k]at this;cases this
noncomputable def yM(to v u:TE)(l:V->V->Hp->VK->Prop)(r:jh)(p:kQ):TS:=λD a H=>to a H λo c=>v a c λi e=>l o i e λx f=>u a f λy g=>r x y g λz h=>p o i z h λj=>D.nx a j
noncomputable def pD(X:Cx)(t:V->V->Hp->VK->Prop):Prop:=
 ∀(a:Y (Addr×Ô))(s:À)(f:St)(H:Hp)(o i:V)(e c:Value)(Q:VK),Inv X a f H s->RelV o e->RelV i c->t o i H Q->
  wpAny (Ä X.prog X.w) X.A (ä e c) (EP X a f Q) X.xe s
theorem AF{o i e:Ã}{to z y:TE}{l:V->V->Hp->VK->Prop}{r:jh}{p:kQ}{u:ë}{be:Õ}(ho:PE X o to)(hi:PE X i z)(hg:pD X l)(he:PE X e y)(hp:jZ X u r)(hs:qu X p)
  (ha:∀f c new,augStore i f c new=(do holding [new,f,c] (setItem f c new);release [new,f,c] [];pure .next):=by intros;rfl):PS X (.AugAssign (.Subscript o i be) u e A) (yM to z y l r p):=by
 intro a s g H D I h;refine wpAny_AugAssign_SubscriptAny (ax (ho a s g H _ I h) λf s1 b_=>?_) ha;let⟨B,E,M,w,q1⟩:=b_;refine ax (hi a s1 g E _ M q1) λc s2 T=>?_;let⟨C,F,N,x,q2⟩:=T;refine ax (hg a s2 g F B C f c _ N w x q2) λj s3 U=>?_;let⟨x3,G,O,r3,q3⟩:=U;refine ax (he a s3 g G _ O q3) λv s4 a_=>?_;let⟨x4,J,P,r4,q4⟩:=a_;refine ax (hp a s4 g J x3 x4 j v _ P r3 r4 q4) λnew s5 R6=>?_;let⟨x5,K,Q,r5,q5⟩:=R6
 show ax (hs a s5 g K B C x5 f c new _ Q w x r5 q5) λ_ s6 R7=>by let⟨L,R,q6⟩:=R7;show⟨g,L,R,q6⟩
noncomputable def qh(f:Int->Int->Int):jh:=λx y H Q=>∃i j,x=.int i/\y=.int j/\Q (.int (f i j)) H
theorem rO:jZ X .Add (qh λi j=>i+j):=by intro a s l H x y v u Q I f g h;let⟨i,j,c,e,q⟩:=h;subst c;subst e;let⟨t,rfl⟩:=f;let⟨t',rfl⟩:=g;show iadd_int ⟨.int _,H,I.tok _,⟨_,S⟩,q⟩
end
section
variable{X:Cx}{a:Õ}
noncomputable def E8(c:TT)(tb:TS):TS:=λD e H=>∃W:Nat->St->Hp->Prop,(∃m,W m e H)/\∀m e H,W m e H->
 c e H λb h=>if b=Ŕ then ∃N:St->Hp->Prop,(∀f g,N f g->∃j,j<m/\W j f g)/\tb { D with nx:=N,ct:=N,bk:=D.nx } e h else D.nx e h
theorem rQ{c:Ã}{l:Y Ç}{K:TT}{tb:TS}(J:ø (Ä X.prog X.w) X.A X.env X.xe)(P:PT X c K)(O:PSs X l tb):PS X (.While c l [] a) (E8 K tb):=by
 intro e s a_ H D I h;let⟨W,⟨Q,U⟩,p⟩:=h;refine wpAny_While (codeAny_whileLoop (λn R=>∃r B,Inv X e r B R/\W n r B) ?_ Q ⟨a_,H,I,U⟩);rintro n b_ ⟨j,C,L,be⟩;refine JB J (ax (P e b_ j C _ L (p n j C be)) λb T M=>?_);let⟨E,F,u⟩:=M
 cases b with
 |true=>
  let⟨N,G,u⟩:=u;rw[Hx S];refine JB J (ax (O e T j E _ F u) λf s3 w=>?_)
  cases f with
  |next=>
   let⟨g,o,x,n3⟩:=w;let⟨z,y,A⟩:=G g o n3;show⟨z,y,g,o,x,A⟩
  |cont=>
   let⟨g,o,x,n3⟩:=w;let⟨z,y,A⟩:=G g o n3;show⟨z,y,g,o,x,A⟩
  |brk=>show w
  |ret v=>show w
 |false=>
  rw[Hq Ig];show KC ⟨j,E,F,u⟩
end
structure It where
 go:Nat->Hp->Prop
 yld:Nat->Hp->V->Hp->Prop
 stop:Nat->Hp->Prop
noncomputable def dR(X:Cx)(a:Y (Addr×Ô))(H:Hp)(b:Addr):Prop:=
 H b=Œ/\b≠X.env.locals/\b∉X.fs/\(b∈X.ex\/X.s₀.heap.objs.size<=b)/\(∀x c,X.env.cells.lookup x=Z c->c≠b)/\∀p∈X.pn++a,p.1≠b
theorem Inv.fpOk{X:Cx}{a:Y (Addr×Ô)}{j:St}{H g:Hp}{s:À}{b:Addr}(I:Inv X a j H s)(f:s.heap.objs.size<=b)(hn:g b=Œ):dR X a g b:=by
 refine⟨hn,LN (Ie I.lt f),I.nofs f,.inr (HZ I.sz f),λx c e z=>?_,λp h z=>?_⟩
 ·let⟨v,q⟩:=I.cell x c e;show absurd (Ie q.lt (by rw[z];show f)) (Jc _)
 ·show absurd (Ie (HI (I.pin p h).1) (by rw[z];show f)) (Jc _)
structure Turn(P:Å)(w:È)(K:Â)(tg:Ã)(J:It)(fp:List Addr)(it:Addr)(tn:Nat->Heap->Prop):Prop where
 mem:it∈fp
 obj:∀i h,tn i h->∀b∈fp,∃o,h.get? b=Z o/\∀v,o.data≠.cell v
 keep:∀i h h',tn i h->(∀b∈fp,∀o,h.get? b=Z o->h'.get? b=Z o)->tn i h'
 item:∀(X:Cx),X.prog=P->X.w=w->X.K=K->X.calm=Ŕ->∀(i:Nat)(pins:List (Addr×Ô))(s:À)(σ:St)(H:Hp)(E:Value->À->Prop),Inv X pins σ H s->(∀b∈fp,dR X pins H b)->tn i s.heap->J.go i H->
  wpAny (Ä P w) X.A (ó (.ref it)) (λr s1=>∃u,r=Z u /\
   wpAny (Ä P w) X.A (ð tg (.ref it) u) (λ_ s2=>∃x H',Inv X pins σ H' s2/\RelV x u/\J.yld i H x H'/\tn (i+1) s2.heap/\∀b∈fp,H' b=Œ) E s1) E s
 done:∀(X:Cx),X.prog=P->X.w=w->X.K=K->X.calm=Ŕ->∀(i:Nat)(pins:List (Addr×Ô))(s:À)(σ:St)(H:Hp)(E:Value->À->Prop),Inv X pins σ H s->(∀b∈fp,dR X pins H b)->tn i s.heap->J.stop i H->
  wpAny (Ä P w) X.A (ó (.ref it)) (λr s1=>r=Œ/\Inv X pins σ H s1) E s
 self:∀(A:Ê)(i:Nat)(s:À)(Q:Value->À->Prop)(E:Value->À->Prop),tn i s.heap->Q (.ref it) s->wpAny (Ä P w) A (pyIter (.ref it)) Q E s
noncomputable abbrev TI:=St->Hp->(It->Hp->Prop)->Prop
noncomputable def vq(X:Cx)(a:Y (Addr×Ô))(o:St)(l:Ã)(R:It->Hp->Prop)(j:Value)(g:À):Prop:=
 ∃(f:Addr)(e:Y Addr)(h:Nat->Heap->Prop)(J:It)(c:Hp),j=.ref f/\Inv X a o c g/\Turn X.prog X.w X.K l J e f h/\h 0 g.heap/\(∀b∈e,dR X a c b)/\R J c
noncomputable def PI(X:Cx)(g c:Ã)(h:TI):Prop:=
 ∀(a:Y (Addr×Ô))(s:À)(e:St)(H:Hp)(R:It->Hp->Prop),Inv X a e H s->h e H R->
  wpAny (Ä X.prog X.w) X.A (eval c X.env) (λv f=>wpAny (Ä X.prog X.w) X.A (pyIter v) (vq X a e g R) X.xe f) X.xe s
theorem mL{M:Model}{A:Ê}{E:Value->À->Prop}{s:À}{e:Ã}{c:Addr}{u:Value}{o:Ô}{n:String}{vs:Array Value}{Q:Unit->À->Prop}(ho:s.heap.get? c=Z o)(f:o.cls=.type n)(hd:o.data=.fields vs)
  (hn:["enumerate","zip","dict_itemiterator","dict_reverseitemiterator","odict_iterator","itertools.zip_longest","itertools.pairwise"].contains n=ŕ) (a:Q Unit.unit s):wpAny M A (ð e (.ref c) u) Q E s:=by
 unfold ð
 cases e<;>first
  |show HA a
  |(cases u<;>first
   |show HA a
   |(refine Hn (wpAny_load ho ?_)
     rw [f, hd];change wpAny M A (if (["enumerate", "zip", "dict_itemiterator", "dict_reverseitemiterator", "odict_iterator", "itertools.zip_longest", "itertools.pairwise"].contains n&&vs[0]?==Z (ò _)) = Ŕ then _ else _) Q E s;rw [Hq (by intro h; rw [hn, Js]at h; cases h)]
     show HA a))
noncomputable def oC(K:Â)(a:Addr):It:=
 ⟨λi H=>∃xs x,SqL K H a xs/\xs[i]?=Z x,λi H x c=>c=H/\∀xs,SqL K H a xs->xs[i]?=Z x,λi H=>∃xs,SqL K H a xs/\xs.length<=i⟩
noncomputable def qm(K:Â)(a:Addr):It:=
 ⟨λi H=>∃xs x,SqT K H a xs/\xs[i]?=Z x,λi H x c=>c=H/\∀xs,SqT K H a xs->xs[i]?=Z x,λi H=>∃xs,SqT K H a xs/\xs.length<=i⟩
noncomputable def mZ(lo:Int)(n:Nat):It:=⟨λi _=>i<n,λi H x a=>a=H/\x=.int (lo+i),λi _=>n<=i⟩
theorem Ea{P:Å}{w:È}{K:Â}{tg:Ã}(a j:Addr):Turn P w K tg (oC K a) [j] j (λi h=>h.IsListIter j a i) where
 mem:=by simp
 obj:=λi h st b g=>by
  have e:b=j:=by simpa using g
  subst e;let⟨o,e,c,d⟩:=st;show⟨o,e,λv z=>by rw[d]at z;cases z⟩
 keep:=λi h h' st k=>st.at λo e=>k j (by simp) o e
 item:=by
  intro X J M G R i f s b_ H E I l st L;subst J M G;let⟨xs,x,r,N⟩:=L;let⟨U,O,p,hz⟩:=I.list r;let⟨u,hu,ru⟩:=O.get N;let⟨y,A,a_,B,C,F⟩:=l j (by simp);refine Km st p.isList (x:=u) (by simpa using hu) λh' Q sb=>?_;have T:Inv X f b_ H { s with heap:=h' }:=I.turned (t':=s.toks) (λb o g e=>(sb.2 b g).trans e) y A B C F;let⟨o,e,c,d⟩:=id Q;show⟨u,S,mL (s:={ s with heap:=h' }) e c d 'b' ⟨x,H,T,ru,⟨S,λys hy=>by rw[I.list_inj hy r];show N⟩,Q,λb g=>(l b g).1⟩⟩
 done:=by
  intro X J M G R i f s b_ H E I l st L;subst J M G;let⟨xs,r,N⟩:=L;let⟨U,O,p,hz⟩:=I.list r;let⟨y,A,a_,B,C,F⟩:=l j (by simp);have hl:=O.length;show Ku (I.ok.hd R) st p.isList (by simp;omega) λh' be=>⟨S,I.turned (t':=s.toks) (λb o g e=>be b o g e) y A B C F⟩
 self:=λ_ _ _ _ _ st h=>Ĭ st h
theorem z9{P:Å}{w:È}{K:Â}{tg:Ã}(a j:Addr):Turn P w K tg (qm K a) [j] j (λi h=>h.IsTupleIter j a i) where
 mem:=by simp
 obj:=λi h st b g=>by
  have e:b=j:=by simpa using g
  subst e;let⟨o,e,c,d⟩:=st;show⟨o,e,λv z=>by rw[d]at z;cases z⟩
 keep:=λi h h' st k=>st.at λo e=>k j (by simp) o e
 item:=by
  intro X L N J b_ i f s T H E I l st M;subst L N J;let⟨xs,x,r,O⟩:=M;let⟨y,Q,p,hz⟩:=I.tuple r;let⟨u,hu,ru⟩:=Q.get O;let⟨A,B,a_,C,F,G⟩:=l j (by simp);refine ė st (show s.heap.IsTuple a y.toArray from p) (x:=u) (by simpa using hu) λh' R sb=>?_;have U:Inv X f T H { s with heap:=h' }:=I.turned (t':=s.toks) (λb o g e=>(sb.2 b g).trans e) A B C F G;let⟨o,e,c,d⟩:=id R;show⟨u,S,mL (s:={ s with heap:=h' }) e c d 'b' ⟨x,H,U,ru,⟨S,λys hy=>by rw[I.tuple_inj hy r];show O⟩,R,λb g=>(l b g).1⟩⟩
 done:=by
  intro X L N J b_ i f s T H E I l st M;subst L N J;let⟨xs,r,O⟩:=M;let⟨y,Q,p,hz⟩:=I.tuple r;let⟨A,B,a_,C,F,G⟩:=l j (by simp);have hl:=Q.length;show ġ (I.ok.hd b_) st (show s.heap.IsTuple a y.toArray from p) (by simp;omega) λh' be=>⟨S,I.turned (t':=s.toks) (λb o g e=>be b o g e) A B C F G⟩
 self:=λ_ _ _ _ _ st h=>Ģ st h
theorem Gk{P:Å}{w:È}{K:Â}{R:Ã}(a:Addr)(lo:Int)(n:Nat):Turn P w K R (mZ lo n) [a] a (λi h=>IsRangeIter h a (lo+(i:Nat)*1) ((n:Int)-(i:Nat)) 1) where
 mem:=by simp
 obj:=λi h st b f=>by
  have e:b=a:=by simpa using f
  subst e
  show⟨_,st,λv z=>by
   have U:Data.fields _=Data.cell v:=z
   cases U⟩
 keep:=λi h h' st k=>k a (by simp) _ st
 item:=by
  intro X y C x A i c s J H E I g st B;subst y C x;let⟨j,l,N,p,r,u⟩:=g a (by simp);have W:=Walks.range (prog:=X.prog) (w:=X.w) (I.ok.hd A) a lo 1 n;refine W.item i s _ _ B st λv h' G O F Q=>?_;let⟨t,rfl⟩:=O;have L:Inv X c J H { s with heap:=h',toks:=G }:=I.turned (λb o f e=>Q b o (by simpa using f) e) j l p r u;refine⟨_,S,mL (s:={ s with heap:=h',toks:=G }) (n:="range_iterator") F S S 'b' ⟨.int (lo+i),H,L,⟨t,?_⟩,⟨S,S⟩,F,λb f=>(g b f).1⟩⟩;rw[Int.mul_one]
 done:=by intro X y C x A i c s J H E I g st B;subst y C x;let⟨j,l,N,p,r,u⟩:=g a (by simp);show wpAny_pyNext_range_end (I.ok.hd A) st (by have:n<=i:=B;omega) λh' M=>⟨S,I.turned (t':=s.toks) (λb o f e=>M b o f e) j l p r u⟩
 self:=λ_ _ _ _ _ st h=>wpAny_pyIter_rangeiter st h
section
variable{X:Cx}{c:Ã}
theorem Aj{f:Y (Addr×Ô)}{j:St}{H:Hp}{s:À}{R:It->Hp->Prop}{E:Value->À->Prop}{lo a:Int}{t u v:ĵ}{h:Nat}(I:Inv X f j H s)(r:-(2^62)<=lo)(w:lo<2^62)(x:-(2^62)<=a)(y:a<2^62)
  (q:R (mZ lo (a-lo).toNat) H):wpAny (Ä X.prog X.w) X.A (pyIter (.ref s.heap.objs.size)) (vq X f j c R) E { s with heap:=s.heap.push { cls:=.type "range",data:=.fields #[.int lo t,.int a u,.int 1 v] },toks:=h }:=by
 refine wpAny_pyIter_range (IsRange.new ..) (Ę r w x y) ?_;have g:Inv X f j H { s with heap:=s.heap.push { cls:=.type "range",data:=.fields #[.int lo t,.int a u,.int 1 v] },toks:=h }:=I.kept λb o e=>Ho _ e
 refine⟨(s.heap.push { cls:=.type "range",data:=.fields #[.int lo t,.int a u,.int 1 v] }).objs.size,[(s.heap.push { cls:=.type "range",data:=.fields #[.int lo t,.int a u,.int 1 v] }).objs.size],_,_,H,S,
  g.kept (t':=h) λb o e=>Ho _ e,Gk _ lo (a-lo).toNat,?_,λb z=>?_,q⟩
 ·have l:lo+((0:Nat):Int)*1=lo:=by simp
  have p:(((a-lo).toNat:Nat):Int)-((0:Nat):Int)=Builtin.Range.rangeSize lo a 1:=by rw[K6];split<;>omega
  change IsRangeIter _ _ (lo+((0:Nat):Int)*1) ((((a-lo).toNat:Nat):Int)-((0:Nat):Int)) 1;rw[l,p];show HC _ S
 ·have e:b=(s.heap.push { cls:=.type "range",data:=.fields #[.int lo t,.int a u,.int 1 v] }).objs.size:=by simpa using z
  subst e;show g.fpOk (Hr _) (g.hok.fresh (Hr _))
noncomputable def Gu(e:TA):TI:=λf H R=>e f H λvs a=>∃j:Int,vs=[.int j]/\-(2^62)<=j/\j<2^62/\R (mZ 0 j.toNat) a
theorem uE{a:Ã}{o:TA}{p g:Õ}(x:Gl X "range")(y:X.mg "range"=Œ)(w:PA X [a] o)(z:starEach [a] X.env=[(ŕ,eval a X.env)]:=by rfl):PI X c (.Call (.Name "range" p) [a] [] g) (Gu o):=by
 intro f s C H R I h;refine Call_ (hZ I x y boot_range (IF (ax (w g f s C H _ I h) λus F v=>?_) z S));let⟨vs,E,u,B,l⟩:=v;let⟨j,e,l,A,q⟩:=l;subst e
 cases B with
 |cons r rr=>
  cases rr;let⟨t,rfl⟩:=r;show call_range_1 (Aj u () () l A (by simpa using q))
noncomputable def w4(p:TI)(g:TG)(tb:TS):TS:=λD a H=>p a H λJ l=>∃W:Nat->Nat->St->Hp->Prop,(∃m,W 0 m a l)/\∀i m a H,W i m a H->
 (J.stop i H/\D.nx a H)\/(J.go i H/\∃N:St->Hp->Prop,(∀f e,N f e->∃j,j<m/\W (i+1) j f e)/\∀x e,J.yld i H x e->g x a e λh o=>tb { D with nx:=N,ct:=N,bk:=D.nx } h o)
noncomputable def kU(a:Y Addr)(h:Heap):Y (Addr×Ô):=a.filterMap λb=>(h.get? b).map λo=>(b,o)
theorem nR{a:Y Addr}{h:Heap}{b:Addr}{o:Ô}(f:b∈a)(e:h.get? b=Z o):(b,o)∈kU a h:=JP.mpr ⟨b,f,by rw[e];rfl⟩
theorem DV{a:Y Addr}{h:Heap}{p:Addr×Ô}(j:p∈kU a h):p.1∈a/\h.get? p.1=Z p.2:=by
 let⟨b,g,e⟩:=JP.mp j
 cases q:h.get? b with
 |none=>rw[q]at e;cases e
 |some o=>
  rw[q]at e;have f:(b,o)=p:=HR e;subst f;show⟨g,q⟩
theorem Inv.pinned{a:Y (Addr×Ô)}{j:St}{H:Hp}{s:À}{f:Y Addr}(I:Inv X a j H s)(w:∀b∈f,dR X a H b)(ho:∀b∈f,∃o,s.heap.get? b=Z o/\∀v,o.data≠.cell v):Inv X (a++kU f s.heap) j H s:=
 I.pins_of λp x=>(HU.mp x).elim (λz=>I.pin p (Iy _ z)) λz=>by let⟨h,e⟩:=DV z;let⟨l,r,u,_⟩:=w p.1 h;let⟨o,g,d⟩:=ho p.1 h;rw[e]at g;cases g;show⟨e,l,r,u,d⟩
theorem Inv.unpinned{a pl:Y (Addr×Ô)}{e:St}{H:Hp}{s:À}(I:Inv X (a++pl) e H s):Inv X a e H s:=I.pins_of λp f=>I.pin p (Iy _ (List.mem_append_left _ f))
theorem vI{y:Ã}{C:Y Ç}{wi:TI}{g:TG}{tb:TS}{be:Õ}(K:ø (Ä X.prog X.w) X.A X.env X.xe)(hc:X.calm=Ŕ)(hi:PI X c y wi)(hg:PG X c g)(w:PSs X C tb)
  (hs:∀x,Ë y X.env x=pure x:=by intro _;rfl):PS X (.For c y C [] be) (w4 wi g tb):=by
 intro a s σ H D I h;refine wpAny_For (ax (hi a s σ H _ I h) λv s1 h1=>ax h1 λRy s2 h2=>?_) hs;let⟨it,F,tn,J,H2,e,I2,T,O5,f2,W,⟨m0,w0⟩,O⟩:=h2;subst e;have b_:∀{B:Hp},(∀b∈F,B b=Œ)->∀b∈F,dR X a B b:=λhn b w=>⟨hn b w,(f2 b w).2⟩;refine codeAny_forLoop_any (λn s'=>∃i z B,Inv X a z B s'/\tn i s'.heap/\(∀b∈F,B b=Œ)/\W i n z B) ?_ m0 ⟨0,σ,H2,I2,O5,λb w=>(f2 b w).1,w0⟩;rintro n s3 ⟨i,A,P,I3,M,G,w3⟩;rcases O i n A P w3 with⟨stop,qn⟩|⟨go,N,hN,step⟩
 ·refine JB K (ax (T.done X S S S hc i a s3 A P X.xe I3 (b_ G) M stop) λr s4 LR=>?_);let⟨U,I4⟩:=LR;subst U;show KC ⟨A,P,I4,qn⟩
 ·refine JB K (ax (T.item X S S S hc i a s3 A P X.xe I3 (b_ G) M go) λr s4 MF=>?_);let⟨u,U,h4⟩:=MF;subst U;refine JB K (ax h4 λ_ s5 Nv=>?_);let⟨x,H5,I5,r5,y5,R,Rz⟩:=Nv;have Q:=I5.pinned (b_ Rz) (T.obj _ _ R);refine JB K (ax (hg _ s5 A H5 x u _ Q r5 (step x H5 y5)) λ_ s6 Qs=>?_);let⟨σ6,H6,I6,q6⟩:=Qs;refine JB K (ax (w _ s6 σ6 H6 _ I6 q6) λf a_ E=>?_)
  have again:∀{j:St}{l:Hp},Inv X (a++kU F s5.heap) j l a_->N j l->∃m,m<n/\∃i z B,Inv X a z B a_/\tn i a_.heap/\(∀b∈F,B b=Œ)/\W i m z B:=λ{j l} p L=>by let⟨m',hm,w7⟩:=hN j l L;refine⟨m',hm,i+1,j,l,p.unpinned,T.keep _ _ _ R λb w o e=>(p.pin (b,o) (Iy _ (Iy _ (nR w e)))).1,λb w=>?_,w7⟩;let⟨o,e,d⟩:=T.obj _ _ R b w;show (p.pin (b,o) (Iy _ (Iy _ (nR w e)))).2.1
  cases f with
  |next=>let⟨j,l,p,L⟩:=E;show again p L
  |cont=>let⟨j,l,p,L⟩:=E;show again p L
  |brk=>let⟨j,l,p,E⟩:=E;show⟨j,l,p.unpinned,E⟩
  |ret v=>let⟨x7,j,l,p,r7,E⟩:=E;show⟨x7,j,l,p.unpinned,r7,E⟩
end
noncomputable abbrev R2:=V->V->Hp->VK->Prop
noncomputable def bL(X:Cx)(f:Value->Value->Sem Value)(r:R2):Prop:=
 ∀(a:Y (Addr×Ô))(s:À)(c:St)(H:Hp)(x y:V)(v u:Value)(Q:VK),Inv X a c H s->RelV x v->RelV y u->r x y H Q->
  wpAny (Ä X.prog X.w) X.A (f v u) (EP X a c Q) X.xe s
noncomputable def qa(X:Cx)(f:Value->Sem Value)(r:V->Hp->VK->Prop):Prop:=
 ∀(a:Y (Addr×Ô))(s:À)(c:St)(H:Hp)(x:V)(v:Value)(Q:VK),Inv X a c H s->RelV x v->r x H Q->
  wpAny (Ä X.prog X.w) X.A (f v) (EP X a c Q) X.xe s
noncomputable def dB(X:Cx)(f:Value)(r:Y V->Hp->VK->Prop):Prop:=
 ∀(a:Y (Addr×Ô))(s:À)(c:St)(H:Hp)(xs:Y V)(us:Y Value)(Q:VK),Inv X a c H s->Vals xs us->r xs H Q->
  wpAny (Ä X.prog X.w) X.A (call f us) (EP X a c Q) X.xe s
noncomputable def wQ(X:Cx)(r:V->Hp->(Bool->Hp->Prop)->Prop):Prop:=
 ∀(a:Y (Addr×Ô))(s:À)(c:St)(H:Hp)(x:V)(v:Value)(Q:Bool->Hp->Prop),Inv X a c H s->RelV x v->r x H Q->
  wpAny (Ä X.prog X.w) X.A (truthy v) (TP X a c Q) X.xe s
noncomputable def iB(r:R2)(f tb:TE):TE:=λa H Q=>f a H λx c=>tb a c λy e=>r x y e Q
noncomputable def AR(r:V->Hp->VK->Prop)(c:TE):TE:=λe H Q=>c e H λx a=>r x a Q
noncomputable def rI(C:Int->Int->Prop)(g:Int->Int->V):R2:=λx y H Q=>∃i j,x=.int i/\y=.int j/\C i j/\Q (g i j) H
noncomputable def gF(g:Int->Int->V):R2:=λx y H Q=>∃i j,x=.int i/\y=.int j/\Q (g i j) H
noncomputable def rU(g:Int->V):V->Hp->VK->Prop:=λx H Q=>∃i,x=.int i/\Q (g i) H
section
variable{X:Cx}{a b:Ã}{c tb:TE}{e:Õ}
theorem ph(E:PE X a c)(F:PE X b tb){g:Y (Addr×Ô)}{s:À}{l:St}{H:Hp}{R:V->V->Hp->Prop}(I:Inv X g l H s)
  (h:c l H λx w=>tb l w λy j=>R x y j) {Q:Value->À->Prop} {f:Value->Value->Sem Value}
  (G:∀v u r x y j,Inv X g l j r->RelV x v->RelV y u->R x y j->wpAny (Ä X.prog X.w) X.A (f v u) Q X.xe r) :
  wpAny (Ä X.prog X.w) X.A (eval a X.env) (λv o=>wpAny (Ä X.prog X.w) X.A (eval b X.env) (λu p=>wpAny (Ä X.prog X.w) X.A (f v u) Q X.xe p) X.xe o) X.xe s:=by
 refine ax (E g s l H _ I h) λv N B=>?_;let⟨x,w,z,L,J⟩:=B;refine ax (F g N l w _ z J) λu r C=>?_;let⟨y,j,A,M,K⟩:=C;show G v u r x y j A L M K
theorem sY{g:ë}{r:R2}(ho:bL X (Í g) r)(o:PE X a c)(p:PE X b tb):PE X (.BinOp a g b e) (iB r c tb):=by intro f s B H Q I h;show wpAny_BinOp (ph o p I h λv u A x y j l w z q=>ho f A B j x y v u Q l w z q)
theorem zG{g:UnaryOp}{r:V->Hp->VK->Prop}(ho:qa X (unaryOp g) r)(u:PE X a c):PE X (.UnaryOp g a e) (AR r c):=by intro f s j H Q I h;show UnaryOp_ (ax (u f s j H _ I h) λv z p=>by let⟨x,l,o,y,w⟩:=p;show ho f z j l x v Q o y w)
theorem nu{f:Value->Value->Sem Value}{C:Int->Int->Prop}{g:Int->Int->Int}
  (rule:∀(i j:Int)(t u:ĵ)(s:À)(Q:Value->À->Prop)(E:Value->À->Prop),C i j->Q (.int (g i j) s.toks) { s with toks:=s.toks+1 }->wpAny (Ä X.prog X.w) X.A (f (.int i t) (.int j u)) Q E s) :
  bL X f (rI C λi j=>.int (g i j)):=by
 intro l s w H x y v u Q I p r h;let⟨i,j,rfl,rfl,o,q⟩:=h;let⟨t,rfl⟩:=p;let⟨t',rfl⟩:=r;show rule i j t t' s _ _ o ⟨.int (g i j),H,I.tok _,⟨_,S⟩,q⟩
theorem sK{f:Value->Value->Sem Value}{g:Int->Int->Int}
  (rule:∀(i j:Int)(t u:ĵ)(s:À)(Q:Value->À->Prop)(E:Value->À->Prop),Q (.int (g i j) s.toks) { s with toks:=s.toks+1 }->wpAny (Ä X.prog X.w) X.A (f (.int i t) (.int j u)) Q E s) :
  bL X f (gF λi j=>.int (g i j)):=by
 intro l s r H x y v u Q I o p h;let⟨i,j,rfl,rfl,q⟩:=h;let⟨t,rfl⟩:=o;let⟨t',rfl⟩:=p;show rule i j t t' s _ _ ⟨.int (g i j),H,I.tok _,⟨_,S⟩,q⟩
theorem nE{f:Value->Value->Sem Value}{g:Int->Int->Bool}
  (rule:∀(i j:Int)(t u:ĵ)(s:À)(Q:Value->À->Prop)(E:Value->À->Prop),Q (.bool (g i j)) s->wpAny (Ä X.prog X.w) X.A (f (.int i t) (.int j u)) Q E s) :
  bL X f (gF λi j=>.bl (g i j)):=by
 intro l s r H x y v u Q I o p h;let⟨i,j,rfl,rfl,q⟩:=h;let⟨t,rfl⟩:=o;let⟨t',rfl⟩:=p;show rule i j t t' s _ _ ⟨.bl (g i j),H,I,S,q⟩
noncomputable def uh(i j:Int):Prop:=0<=j/\j<=1000000/\i.natAbs<2^64
theorem BZ:bL X (Í .Add) (gF λi j=>.int (i+j)):=sK λ_ _ _ _ _ _ _ q=>add_int q
theorem C9:bL X (Í .Sub) (gF λi j=>.int (i-j)):=sK λ_ _ _ _ _ _ _ q=>sub_int q
theorem Am:bL X (Í .Mod) (rI (λ_ j=>0<j) λi j=>.int (i % j)):=nu λi j _ _ _ _ _ f q=>by have g:(0:Int)<j:=f;show mod_int' () (by rw[Int.fmod_eq_emod_of_nonneg i ()];show q)
theorem Dx:bL X (Í .Pow) (rI uh λi j=>.int (i^j.toNat)):=nu λ_ _ _ _ _ _ _ f q=>pow_int_small f.1 f.2.1 f.2.2 q
theorem DF{f:Value->Sem Value}{g:Int->Int}
  (rule:∀(i:Int)(t:ĵ)(s:À)(Q:Value->À->Prop)(E:Value->À->Prop),Q (.int (g i) s.toks) { s with toks:=s.toks+1 }->wpAny (Ä X.prog X.w) X.A (f (.int i t)) Q E s) :
  qa X f (rU λi=>.int (g i)):=by
 intro j s o H x v Q I l h;let⟨i,rfl,q⟩:=h;let⟨t,rfl⟩:=l;show rule i t s _ _ ⟨.int (g i),H,I.tok _,⟨_,S⟩,q⟩
theorem Cq:qa X (unaryOp .USub) (rU λi=>.int (-i)):=DF λ_ _ _ _ _ q=>neg_int q
end
section
variable{X:Cx}{a b:Ã}{f tb:TE}{g:Õ}
theorem mJ{c:Y (Addr×Ô)}{j:St}{H:Hp}{s:À}{Q:VK}{k h:Bool}(I:Inv X c j H s)(q:Q (.bl k) H)(e:k=h):EP X c j Q (.bool h) s:=by subst e;show⟨.bl k,H,I,S,q⟩
theorem Du:bL X (É .Lt) (gF λi j=>.bl (decide (i<j))):=nE λ_ _ _ _ _ _ _ q=>lt_int q
theorem BN:bL X (É .LtE) (gF λi j=>.bl (decide (i<=j))):=nE λ_ _ _ _ _ _ _ q=>le_int q
theorem BT:bL X (É .Gt) (gF λi j=>.bl (decide (j<i))):=nE λ_ _ _ _ _ _ _ q=>gt_int q
theorem xy:bL X (É .GtE) (gF λi j=>.bl (decide (j<=i))):=nE λ_ _ _ _ _ _ _ q=>ge_int q
theorem FX:bL X (É .Is) (λx y H Q=>y=.non/\Q (.bl (decide (x=.non))) H):=by
 intro c s l H x y v u Q I e j h;let⟨rfl,q⟩:=h;cases j;refine is_none_gen (mJ I q ?_)
 cases x<;>first
  |(cases e;rfl)
  |(let⟨t,rfl⟩:=e;rfl)
theorem wO:bL X (É .IsNot) (λx y H Q=>y=.non/\Q (.bl (!decide (x=.non))) H):=by
 intro c s l H x y v u Q I e j h;let⟨rfl,q⟩:=h;cases j;refine isnot_none_gen (mJ I q ?_)
 cases x<;>first
  |(cases e;rfl)
  |(let⟨t,rfl⟩:=e;rfl)
theorem ap(b:Ã){c:ď}(h:c≠.In:=by decide)(l:c≠.NotIn:=by decide):behindInMarks c b=ŕ:=by
 have e:(c==ď.In)=ŕ:=by cases c<;>first|rfl|show absurd S h
 have j:(c==ď.NotIn)=ŕ:=by cases c<;>first|rfl|show absurd S l
 cases b<;>simp[behindInMarks,e,j]
theorem v4{e:ď}{r:R2}(ho:bL X (É e) r)(o:PE X a f)(p:PE X b tb)(w:behindInMarks e b=ŕ):PE X (.Compare a [e] [b] g) (iB r f tb):=by intro c s C H Q I h;show wpAny_Compare1 (ph o p I h λv u B x y j l z A q=>ho c B C j x y v u Q l z A q) w
noncomputable def ql(t:TE):TT:=λe H Q=>t e H λx c=>∃k,x=.bl k/\Q k c
theorem vY{l:ď}{r:R2}(ho:bL X (É l) r)(F:PE X a f)(G:PE X b tb)(J:behindInMarks l b=ŕ):PT X (.Compare a [l] [b] g) (ql (iB r f tb)):=by
 intro j s o H Q I h
 refine wpAny_isTrue_Compare1 (ax (F j s o H _ I h) λv R ⟨x,p,B,N,K⟩=>ax (G j R o p _ B K) λu U ⟨y,w,C,O,L⟩=>
  ax (ho j U o w x y v u _ C N O L) λc T ⟨z,A,E,P,k,e,M⟩=>?_) J
 subst e;cases P;show JG ⟨A,E,M⟩
noncomputable def on(K:Â)(x:V)(H:Hp)(k:Bool):Prop:=
 match x with
 |.non=>k=ŕ
 |.bl b=>k=b
 |.int i=>k=(i != 0)
 |.str y=>y.length<=sizeLine/\k=((y.length:Int) != 0)
 |.byt y=>y.size<=sizeLine/\k=((y.size:Int) != 0)
 |.ref p=>(∃xs,SqL K H p xs/\k=!xs.isEmpty)\/(∃xs,SqT K H p xs/\k=!xs.isEmpty)\/∃c,H p=Z (.dK c)/\k=!c.isEmpty
 |_=>False
theorem Gf{e:Type}{c:Y (e×V)}{vs:Y (e×Value)}(r:KV c vs):(!vs.isEmpty)=!c.isEmpty:=by cases r<;>rfl
theorem sV{xs:Y V}{c:Y Value}(r:Vals xs c):(!c.toArray.isEmpty)=!xs.isEmpty:=by cases r<;>simp
theorem iw:(sizeLine:Nat)<2^63:=by rw[JT];decide
theorem yn:wQ X (λx H Q=>∃k,on X.K x H k/\Q k H):=by
 intro z s G H x v Q I o h;let⟨k,e,q⟩:=h;have E:=iw;have F:sizeLine=16777216:=JT
 cases x with
 |non=>
  cases o;have c:k=ŕ:=e;subst c;show truthy_none ⟨H,I,q⟩
 |bl b=>
  cases o;have c:k=b:=e;subst c;show JG ⟨H,I,q⟩
 |int i=>
  let⟨t,rfl⟩:=o;have c:k=(i != 0):=e;subst c;show PySem.P.truthy_int ⟨H,I,q⟩
 |str y=>
  let⟨t,rfl⟩:=o;obtain⟨C,c⟩:y.length<=sizeLine/\k=((y.length:Int) != 0):=e;subst c;show PySem.P.truthy_str () ⟨H,I.tok _,q⟩
 |byt y=>
  let⟨t,rfl⟩:=o;obtain⟨C,c⟩:y.size<=sizeLine/\k=((y.size:Int) != 0):=e;subst c;show PySem.W.truthy_bytes () ⟨H,I.tok _,q⟩
 |ref p=>
  cases o;have c:(∃xs,SqL X.K H p xs/\k=!xs.isEmpty)\/(∃xs,SqT X.K H p xs/\k=!xs.isEmpty)\/∃l,H p=Z (.dK l)/\k=!l.isEmpty:=e;rcases c with⟨xs,u,c⟩|⟨xs,u,c⟩|⟨l,u,c⟩
  ·subst c;let⟨A,r,pl,w⟩:=I.list u;have j:=r.length;show wpAny_truthy_list pl.isList (by simp only[HB];omega) ⟨H,I.tok _,by rw[sV r];show q⟩
  ·subst c;let⟨A,r,pl,w⟩:=I.tuple u;have j:=r.length;show truthy_tuple pl (by simp only[HB];omega) ⟨H,I.tok _,by rw[sV r];show q⟩
  ·subst c;obtain⟨w,B,vs,r,m⟩:l.length<=sizeLine/\(p==Ú)=ŕ/\∃vs,KV l vs/\s.heap.DictOf (eZ X.prog X.w) p vs:=I.hok p _ u;have j:l.length=vs.length:=Ko r;show wpAny_truthy_dict B m () ⟨H,I.tok _,by rw[Gf r];show q⟩
 |_=>show (show False from e).elim
theorem tH(u:PE X a f)(w:∀c,isTrue a X.env c=(do let v ←c;standAt a.pos;holding [v] (truthy v))) :
  PT X a (λj H Q=>f j H λx l=>∃k,on X.K x l k/\Q k l):=by
 intro e s j H Q I h;show isTrue_plain (ax (u e s j H _ I h) λv A r=>by let⟨x,o,p,z,y⟩:=r;show yn e A j o x v Q p z y) (w _)
theorem xI:bL X (Í .Add) (λx y H Q=>∃i j,x=.str i/\y=.str j/\i.length+j.length<=sizeLine/\Q (.str (i++j)) H):=by intro c s r H x y v u Q I l o h;let⟨i,j,rfl,rfl,e,q⟩:=h;let⟨t,rfl⟩:=l;let⟨t',rfl⟩:=o;show add_str (λt' p=>⟨.str (i++j),H,I.tok _,⟨_,S⟩,q⟩) e
theorem gI{x:V}{us:Y Value}(r:Vals [x] us):∃u,us=[u]/\RelV x u:=by
 cases r with
 |cons c e=>cases e;show⟨_,S,c⟩
theorem Go{x y:V}{us:Y Value}(r:Vals [x,y] us):∃u c,us=[u,c]/\RelV x u/\RelV y c:=by
 cases r with
 |cons e h=>
  cases h with
  |cons j l=>cases l;show⟨_,_,S,e,j⟩
theorem Cc:dB X (.builtin "abs") (λxs H Q=>∃i,xs=[.int i]/\Q (.int (if i<0 then -i else i)) H):=by intro c s j H xs us Q I r h;let⟨i,rfl,q⟩:=h;let⟨u,rfl,t,rfl⟩:=gI r;show call_abs_int λu e=>⟨.int (if i<0 then -i else i),H,I.tok _,⟨_,S⟩,q⟩
theorem Bc(l:X.calm=Ŕ):dB X (.builtin "max") (λxs H Q=>∃i j,xs=[.int i,.int j]/\Q (.int (if j>i then j else i)) H):=by
 intro e s v H xs us Q I r h;let⟨i,j,rfl,q⟩:=h;let⟨u,p,rfl,⟨t,rfl⟩,⟨t',rfl⟩⟩:=Go r;refine max_two_ints (I.ok.hd l) λh' o k=>⟨_,H,I.kept k,?_,q⟩;by_cases c:j>i
 ·rw[Hx c,Hx c];show⟨_,S⟩
 ·rw[Hq c,Hq c];show⟨_,S⟩
theorem uU:dB X (.type "int") (λxs H Q=>(∃i,xs=[.int i]/\Q (.int i) H)\/∃k,xs=[.bl k]/\Q (.int (if k then 1 else 0)) H):=by
 intro c s j H xs us Q I r h;rcases h with⟨i,rfl,q⟩|⟨k,rfl,q⟩
 ·let⟨u,rfl,t,rfl⟩:=gI r;show call_int_int ⟨.int i,H,I,⟨_,S⟩,q⟩
 ·let⟨u,rfl,e⟩:=gI r;cases e;show call_int_bool ⟨.int (if k then 1 else 0),H,I.tok _,⟨_,S⟩,q⟩
end
structure ObjM(h:Heap)(x dx C:Addr)(mA:Str->Option Value):Prop where
 obj:h.get? x=Z (í C dx)
 ns:h.Ns1 dx mA
 ne:dx≠x
theorem C4{h:Heap}{c:Addr}{f:Str->œ Value}(n:h.Ns1 c f):∃g,h.get? c=Z g/\∀name,ĺ name g=Z (f name):=by
 let⟨o,es,u,ho,hd,l,_,p⟩:=n;refine⟨o,ho,λname=>?_⟩;have e:=p name;unfold nsFind findBy at e;rw[←Array.find?_toList]at e;unfold ĺ;rw[hd];dsimp only;split
 ·rename_i y q;rw[q]at e;show Il Z e
 ·rename_i q;rw[q]at e
  have a:es.toList.any (·.refKey)=ŕ:=by rw[List.any_eq_false];intro y r;let⟨z,t,j⟩:=l y (Array.mem_toList_iff.mp r);simp[DictEntry.refKey,j]
  have a':¬ es.toList.any (·.refKey)=Ŕ:=by rw[a];show Ig
  rw[Hq a'];show Il Z e
theorem ObjM.look{h:Heap}{x c C:Addr}{e:Str->œ Value}(I:ObjM h x c C e):∃a,InstAt h x (í C c) C (Z a)/\∀name,ĺ name a=Z (e name):=
 let ⟨a,ho,hl⟩:=C4 I.ns
 ⟨a,⟨I.obj,S,S,ho⟩,hl⟩
section
variable{prog:Å}{w:È}{A:Ê}{E:Value->À->Prop}{s:À}{K:Â}{x e C f:Addr}{c:Str->œ Value}{name:Str}{v:Value}
theorem FG{a:Bool}{Q:Value->À->Prop}(X:K.In s.heap)(I:ObjM s.heap x e C c)(l:ô K C name=Ŕ)(o:ö K C=Ŕ)
  (j:Ï K (.ref C) name=Z Œ) (r:c name=Z v) (g:handedIn v=Ŕ) (h:Q v { s with toks:=s.toks+1 }) :
  wpAny (Ä prog w) A (getAttr (.ref x) name a) Q E s:=by
 let⟨u,J,p⟩:=I.look;show PySem.W.get_value X J (Ą l).1 (PySem.W.findObj_own o j S (by rw[p,r])) g h
theorem CI{pl:Sem Bool}{Q:Value×Y Value->À->Prop}(X:K.In s.heap)(I:ObjM s.heap x e C c)(a:ô K C name=Ŕ)
  (g:Ï K (.ref C) name=Z (Z (.ref f))) (l:isFn K (.ref f)=Ŕ) (o:c name=Œ) (h:Q (.ref f,[.ref x]) s) :
  wpAny (Ä prog w) A (getMethod (.ref x) name pl) Q E s:=by
 let⟨p,J,j⟩:=I.look;show PySem.W.method_fn X J (Ą a).1 (Ą a).2 g (JY.mp l) (by change (ĺ name p).map (·.isSome)=Z ŕ;rw[j,o];rfl) h
theorem Dj{ns:Y Str}{Q:Unit->À->Prop}(X:K.In s.heap)(I:ObjM s.heap x e C c)
  (L:Ï K (.ref C) "__setattr__"=Z (Z (.builtin "object.__setattr__"))) (H:ā K C=Ŕ) (M:ń K C name=Z Œ) (G:ö K C=Ŕ)
  (N:PySem.Within c ns) (hsz:ns.length<=sizeLine)
  (h:∀h',ObjM h' x e C (λy=>if y=name then Z v else c y)->Heap.SameBut e s.heap h'->Q Unit.unit { s with heap:=h',toks:=s.toks+2 }) :
  wpAny (Ä prog w) A (setAttr (.ref x) name v) Q E s:=by
 let⟨T,J,R⟩:=I.look;refine PySem.W.set_plain X J L (PySem.W.osa_open (s:={ s with toks:=s.toks+1 }) (r:=Œ) X J H M λb=>?_);let⟨P,F,u⟩:=PySem.W.any_some G;have O:s.heap.get? x=Z ⟨.ref C,Z e,.plain,#[]⟩:=I.obj;refine Hn (HA (Hn (Hn (wpAny_loadPart O (Hn (PySem.W.Looks.here (s:={ s with toks:=s.toks+1 }) (PySem.W.looks_clsIn X F) ?_))))));rw[u];refine HA (a:=Z e) (Hn (HA (Hn ?_)));refine wpAny_nsSet1 (s:={ s with toks:=s.toks+1 }) I.ns λh' p o=>?_;let⟨U,B,z,l,j,g⟩:=p.count (PySem.Within.cons name v N);refine Hn (wpAny_lookBehind l (by rw[j];show pastItsLine_dict (HZ g (by rw[HD];omega))) ?_);show HA (h _ ⟨(o.2 _ (IE I.ne)).trans I.obj,p,I.ne⟩ o)
theorem Ey{R:Result->À->Prop}{vs:Y Value}{a:Y (Str×Value)}(X:K.In s.heap)(o:ĥ K C=Ŕ)
  (l:Ï K (.ref C) "__init__"=Z (Z (.ref f))) (j:typeIn K (.ref f)=Z (.type "function"))
  (h:é (Ä prog w) (A.under (.builtin "type.__call__" ⟨.ref C::vs,a⟩)) (.call (.ref f) ⟨.ref (s.heap.objs.size+1)::vs,a⟩) (PySem.W.InitBack (s.heap.objs.size+1) R)
   { s with heap:=(s.heap.push Þ).push (í C s.heap.objs.size) }) :
  é (Ä prog w) A (.call (.ref C) ⟨vs,a⟩) R s:=by
 let⟨p,g,d,t,os⟩:=s;show PySem.W.make_core (PySem.W.makes_of X o) (PySem.W.looks_findIn X l) (λself=>PySem.W.bind_fn X self j) (.inl S) h
end
noncomputable def cz(f:Str)(v:V):Y (Str×V)->Y (Str×V)
 | []=>[(f,v)]
 |(g,x)::r=>if g=f then (g,v)::r else (g,x)::cz f v r
theorem vm(f g:Str)(v:V):∀fs:Y (Str×V),(cz f v fs).lookup g=if g=f then Z v else fs.lookup g
 | []=>by
  change List.lookup g [(f,v)]=_;by_cases h:g=f
  ·have a:(g==f)=Ŕ:=JY.mpr h;simp only[List.lookup,a,Hx h]
  ·have a:(g==f)=ŕ:=Jq.mpr h;simp only[List.lookup,a,Hq h]
 |(k,x)::r=>by
  have j:=vm f g v r;rw[show cz f v ((k,x)::r)=(if k=f then (k,v)::r else (k,x)::cz f v r)from rfl];by_cases c:k=f
  ·rw[Hx c];by_cases h:g=k
   ·have a:(g==k)=Ŕ:=JY.mpr h;simp only[List.lookup,a,Hx (h.trans c)]
   ·have a:(g==k)=ŕ:=Jq.mpr h;simp only[List.lookup,a,Hq (λe:g=f=>h (e.trans c.symm))]
  ·rw[Hq c];by_cases h:g=k
   ·have a:(g==k)=Ŕ:=JY.mpr h;simp only[List.lookup,a,Hq (λe:g=f=>c (h.symm.trans e))]
   ·have a:(g==k)=ŕ:=Jq.mpr h;simp only[List.lookup,a];show j
theorem pA(f:Str)(v:V):∀fs:Y (Str×V),f∈(cz f v fs).map (·.1)/\∀g,g∈fs.map (·.1)->g∈(cz f v fs).map (·.1)
 | []=>⟨by simp[cz],λg h=>by simp at h⟩
 |(k,x)::r=>by
  let⟨c,j⟩:=pA f v r;rw[show cz f v ((k,x)::r)=(if k=f then (k,v)::r else (k,x)::cz f v r)from rfl];by_cases a:k=f
  ·rw[Hx a];subst a;show⟨by simp,λg h=>by simpa using h⟩
  ·rw[Hq a];refine⟨?_,λg h=>?_⟩
   ·rw[HK];show Hv _ c
   ·rw[HK]at h ⊢;rcases HH.mp h with e|e
    ·show HH.mpr (.inl e)
    ·show Hv _ (j g e)
theorem rg(f:Str)(v:V):∀fs:Y (Str×V),(cz f v fs).length<=fs.length+1
 | []=>by simp[cz]
 |(k,x)::r=>by
  have c:=rg f v r;rw[show cz f v ((k,x)::r)=(if k=f then (k,v)::r else (k,x)::cz f v r)from rfl];by_cases a:k=f
  ·rw[Hx a,HD,HD];omega
  ·rw[Hq a,HD,HD];omega
theorem RelO.some_of{v:V}{o:œ Value}(r:RelO (Z v) o):∃u,o=Z u/\RelV v u:=by
 cases o with
 |none=>show (show False from r).elim
 |some u=>show⟨u,S,r⟩
theorem RelO.none_of{o:œ Value}(r:RelO Œ o):o=Œ:=by
 cases o with
 |none=>rfl
 |some u=>show (show False from r).elim
theorem GF{v:V}{u:Value}(r:RelV v u):handedIn u=Ŕ:=by
 cases v with
 |non=>cases (show u=Value.none from r);rfl
 |bl b=>cases (show u=Value.bool b from r);rfl
 |int i=>let⟨t,e⟩:=(show ∃t,u=Value.int i t from r);cases e;rfl
 |str x=>let⟨t,e⟩:=(show ∃t,u=Value.str x t from r);cases e;rfl
 |byt b=>let⟨t,e⟩:=(show ∃t,u=Value.bytes b t from r);cases e;rfl
 |flt b=>let⟨t,e⟩:=(show ∃t,u=Value.float b t from r);cases e;rfl
 |ref a=>cases (show u=Value.ref a from r);rfl
 |ty n=>cases (show u=Value.type n from r);rfl
section
variable{P:Å}{w:È}{H:Hp}{h:Heap}{a C c:Addr}{fs:Y (Str×V)}
theorem qt(hok:HOk P w H h)(e:H a=Z (.ins C c fs)):∃g,ObjM h a c C g/\(∀f,RelO (fs.lookup f) (g f))/\PySem.Within g (fs.map (·.1))/\fs.length<=1000/\H c=Z (.own a):=by let⟨d,z,ne,j,g,n,r,q⟩:=(show ObjOk P w H h a (.ins C c fs)from hok a _ e);show⟨g,⟨j,n,ne⟩,r,q,z,d⟩
end
structure Cls(K:Â)(C:Addr):Prop where
 pg:ô K C Str.empty=Ŕ
 hd:ö K C=Ŕ
 po:ā K C=Ŕ
 sa:Ï K (.ref C) "__setattr__"=Z (Z (.builtin "object.__setattr__"))
theorem Cls.get{K:Â}{C:Addr}(c:Cls K C)(f:Str):ô K C f=Ŕ:=c.pg
noncomputable def NoAttr(K:Â)(C:Addr)(f:Str):Prop:=Ï K (.ref C) f=Z Œ
theorem NoAttr.taker{K:Â}{C:Addr}{f:Str}(n:NoAttr K C f):ń K C f=Z Œ:=by unfold ń;rw[show Ï K (.ref C) f=Z Œ from n];rfl
structure Meth(K:Â)(C:Addr)(m:Str)(f:Addr):Prop where
 at_:Ï K (.ref C) m=Z (Z (.ref f))
 fn:isFn K (.ref f)=Ŕ
 kp:ã K (.ref f)=Ŕ
section
variable{X:Cx}{j:Y (Addr×Ô)}{p:St}{H:Hp}{s:À}{a C B:Addr}{fs:Y (Str×V)}{f:Str}{v:V}{A:Ê}{E:Value->À->Prop}
theorem Gw{b:Bool}{Q:Value->À->Prop}(I:Inv X j p H s)(e:H a=Z (.ins C B fs))(c:Cls X.K C)(n:NoAttr X.K C f)(l:fs.lookup f=Z v)
  (h:∀u w,Inv X j p H w->RelV v u->Q u w):wpAny (Ä X.prog X.w) A (getAttr (.ref a) f b) Q E s:=by
 let⟨y,O,r,_,_,_⟩:=qt I.hok e;let⟨u,x,g⟩:=RelO.some_of (v:=v) (o:=y f) (by rw[←l];show r f);show FG I.kIn O (c.get f) c.hd n x (GF g) (h u _ (I.tok _) g)
theorem yS{m:Str}{g:Addr}{pl:Sem Bool}{Q:Value×Y Value->À->Prop}(I:Inv X j p H s)(e:H a=Z (.ins C B fs))(c:Cls X.K C)(k:Meth X.K C m g)(l:fs.lookup m=Œ)
  (h:Q (.ref g,[.ref a]) s):wpAny (Ä X.prog X.w) A (getMethod (.ref a) m pl) Q E s:=by
 let⟨o,O,r,_,_,_⟩:=qt I.hok e;have hn:o m=Œ:=RelO.none_of (by rw[←l];show r m);show CI I.kIn O (c.get m) k.at_ k.fn hn h
theorem Ds{y:V}{u:Value}{Q:Unit->À->Prop}(I:Inv X j p H s)(e:H a=Z (.ins C B fs))(c:Cls X.K C)(n:NoAttr X.K C f)(N:fs.length<1000)(M:RelV y u)
  (h:∀F,Inv X j p (am H a (.ins C B (cz f y fs))) F->Q Unit.unit F):wpAny (Ä X.prog X.w) A (setAttr (.ref a) f u) Q E s:=by
 let⟨w,O,r,G,_,ho⟩:=qt I.hok e
 have L:(fs.map (·.1)).length<=sizeLine:=by rw[Hj,JT];omega
 refine Dj I.kIn O c.sa c.po n.taker c.hd G L λh' l sb=>h _ ?_
 have hd:∃o,h'.get? B=Z o:=let ⟨o,_,_,e',_⟩:=l.ns;⟨o,e'⟩
 refine I.write (x:=a) (e:=B) (by rw[e];show Ý) (.inr ho) (λb q J z=>(sb.2 b J).trans z) hd ?_;refine⟨by rw[aS O.ne];show ho,?_,O.ne,l.obj,_,l.ns,λg=>?_,λg K=>?_⟩
 ·have:=rg f y fs;omega
 ·change RelO ((cz f y fs).lookup g) (if g=f then Z u else w g);rw[vm];by_cases q:g=f
  ·rw[Hx q,Hx q];show M
  ·rw[Hq q,Hq q];show r g
 ·by_cases q:g=f
  ·rw[q];show (pA f y fs).1
  ·refine (pA f y fs).2 g (G g λz=>K ?_);change (if g=f then Z u else w g)=Œ;rw[Hq q];show z
theorem Inv.made(I:Inv X j p H s):Inv X j p (am (am H s.heap.objs.size (.own (s.heap.objs.size+1))) (s.heap.objs.size+1) (.ins C s.heap.objs.size []))
  { s with heap:=(s.heap.push Þ).push (í C s.heap.objs.size) }:=by
 have c:(s.heap.push Þ).get? s.heap.objs.size=Z Þ:=HC s.heap S
 have h:((s.heap.push Þ).push (í C s.heap.objs.size)).get? (s.heap.objs.size+1)=Z (í C s.heap.objs.size):=by
  have:=HC (s.heap.push Þ) (o:=í C s.heap.objs.size) S
  rwa [Iq]at this
 have l:(s.heap.push Þ).Ns s.heap.objs.size (λ_=>Œ):=⟨Þ,#[],_,c,S,(λe r=>absurd r (by simp)),λ_=>rfl⟩;have g:=I.laid (a:=s.heap.objs.size) (o:=.own (s.heap.objs.size+1)) (h':=s.heap.push Þ) (t':=s.toks) (λb u q=>Ho _ q) (Hr _) ⟨_,c⟩;refine g.laid (a:=s.heap.objs.size+1) (o:=.ins C s.heap.objs.size []) (t':=s.toks) (λb u q=>Ho _ q) (Lg (Iq _ _)) ?_;have ne:s.heap.objs.size≠s.heap.objs.size+1:=HX (JZ _);refine⟨by rw[aS ne,bg],Jx _,ne,h,λ_=>Œ,(Heap.Ns1.of_empty l).at λo q=>Ho _ q,λ_=>Ý,λy w=>absurd rfl w⟩
theorem FW{prog:Å}{w:È}{env:ì}{e:Ã}{f:Str}{g:Õ}{s:À}{Q:Value->À->Prop}(l:Î e f env (eval e env)=eval e env)
  (h:wpAny (Ä prog w) A (eval e env) (λo c=>wpAny (Ä prog w) A (getAttr o f Ŕ) Q E c) E s):wpAny (Ä prog w) A (eval (.Attribute e f g) env) Q E s:=
 Attribute_any_ h (by rw[arm_eval_Attribute,l])
end
noncomputable def su(K:Â)(g:TE)(f:Str):TE:=λh H Q=>g h H λx c=>∃a C e fs v,x=.ref a/\c a=Z (.ins C e fs)/\Cls K C/\NoAttr K C f/\fs.lookup f=Z v/\Q v c
noncomputable def BV(K:Â)(j l:TE)(f:Str):TS:=λD c H=>l c H λy h=>j c h λx e=>∃a C g fs,x=.ref a/\e a=Z (.ins C g fs)/\Cls K C/\NoAttr K C f/\fs.length<1000 /\
 D.nx c (am e a (.ins C g (cz f y fs)))
section
variable{X:Cx}{o e g:Ã}{f:Str}{p j:Õ}{r w:TE}
theorem Bb(J:PE X e r)(G:Î e f X.env (eval e X.env)=eval e X.env):PE X (.Attribute e f p) (su X.K r f):=by intro y s M H Q I h;refine FW G (ax (J y s M H _ I h) λu O E=>?_);let⟨x,z,A,L,a,C,N,fs,v,ex,F,c,n,l,q⟩:=E;subst ex;obtain rfl:u=Value.ref a:=L;show Gw A F c n l λu' P B K=>⟨v,z,B,K,q⟩
theorem oP(J:PE X o r)(L:PE X g w)(K:Ð g (Z (.Attribute o f j)) p.line X.env=pure ŕ):PS X (.Assign [.Attribute o f j] g p) (BV X.K r w f):=by intro v s z H D I h;refine plainObj_wpAny_Assign_Attribute (ax (L v s z H _ I h) λu Q ⟨y,A,B,P,q⟩=>ax (J v Q z A _ B q) λM T ⟨x,R,E,O,a,C,a_,fs,ex,G,c,n,l,N⟩=>?_) K;subst ex;obtain rfl:M=Value.ref a:=O;show Ds E G c n l P λU F=>⟨z,_,F,N⟩
end
structure Room(k:Nat)(A:Ê):Prop where
 hd:A.handled=Œ
 dp:A.depth+3*k+5<recursionLimit
 un:A.units+16*k+200<å
theorem Room.mono{j k:Nat}{A:Ê}(r:Room k A)(h:j<=k):Room j A:=⟨r.hd,by have:=r.dp;omega,by have:=r.un;omega⟩
theorem Room.deeper{k:Nat}{A:Ê}(r:Room (k+1) A)(env:ì):Room k (A.deeper env):=
 ⟨r.hd,by have:=r.dp;change A.depth+1+3*k+5<_;omega,by have:=r.un;change A.units+3+16*k+200<_;omega⟩
theorem zL{A:Ê}{C:Addr}{us:Y Value}{a:Y (Str×Value)}:(A.under (.builtin "type.__call__" ⟨.ref C::us,a⟩)).depth=A.depth+1:=by
 first|rfl|simp[ą,Code.weight,Code.isCreation,Code.isGuard,Code.isCaller,ŋ,ĉ,guardIds]
theorem yr{A:Ê}{C:Addr}{us:Y Value}{a:Y (Str×Value)}:(A.under (.builtin "type.__call__" ⟨.ref C::us,a⟩)).units=A.units+1:=by
 first|rfl|simp[ą,Code.cUnits,ŋ,ĉ]
theorem Room.make{k:Nat}{A:Ê}(r:Room (k+1) A)(C:Addr)(us:Y Value)(a:Y (Str×Value)):Room k (A.under (.builtin "type.__call__" ⟨.ref C::us,a⟩)):=
 ⟨r.hd,by have:=r.dp;rw[zL];omega,by have:=r.un;rw[yr];omega⟩
theorem Room.depth{k:Nat}{A:Ê}(r:Room k A):A.depth<recursionLimit:=by have:=r.dp;omega
theorem Room.units{k:Nat}{A:Ê}(r:Room k A):A.units+64<å:=by have:=r.un;omega
noncomputable def FM:TA:=λ_ H Q=>Q [] H
noncomputable def CV(f:TE)(g:TA):TA:=λa H Q=>f a H λx c=>g a c λxs e=>Q (x::xs) e
section
variable{X:Cx}{e:Ã}{es:Y Ã}{c:TE}{t:TA}{a:Õ}
theorem pa_nil:PA X [] FM:=λ_ _ _ _ H Q I h=>Calls.spliced_nil ⟨[],H,I,.nil,h⟩
theorem eN(w:PE X e c)(y:PA X es t)(z:starEach (e::es) X.env=(ŕ,eval e X.env)::starEach es X.env:=by rfl):PA X (e::es) (CV c t):=by
 intro a f s g H Q I h;rw[z];change wpAny _ _ (spliced ((ŕ,eval e X.env)::backTo a (starEach es X.env))) _ _ s;refine Calls.spliced_cons (ax (w f s g H _ I h) λu F r=>?_);let⟨x,j,o,C,A⟩:=r
 show ax (y a f F g j _ o A) λus G v=>by let⟨xs,l,p,E,B⟩:=v;show⟨x::xs,l,p,.cons C E,B⟩
noncomputable def B8(t:TA):TE:=λg H Q=>t g H λxs f=>xs.length<=sizeLine/\∀p,f p=Œ->Q (.ref p) (am f p (.tup xs))
noncomputable def EL(t:TA):TE:=λg H Q=>t g H λxs f=>xs.length<=sizeLine/\∀p,f p=Œ->Q (.ref p) (am f p (.lst xs))
theorem p7{x1}(h:PA X es t):PE X (.Tuple es x1 a) (B8 t):=by
 intro f s v H Q I p;refine wpAny_Tuple_spliced (ax (h a f s v H _ I p) λus g ⟨xs,j,l,r,z,q⟩=>⟨by rw[←r.length];show z,?_⟩);have o:j g.heap.objs.size=Œ:=l.hok.fresh (Hr _);refine⟨.ref g.heap.objs.size,am j g.heap.objs.size (.tup xs),l.laid (t':=g.toks) (λb u e=>Ho _ e) (Hr _) ?_,S,q _ o⟩;show⟨z,us,r,⟨_,HC _ S,⟨S,S⟩,_,S⟩⟩
theorem rL(h:PA X es t):PE X (.List es a) (EL t):=by
 intro f s v H Q I p;refine wpAny_List_spliced (ax (h a f s v H _ I p) λus g ⟨xs,j,l,r,z,q⟩=>⟨by rw[←r.length];show z,?_⟩);have o:j g.heap.objs.size=Œ:=l.hok.fresh (Hr _);refine⟨.ref g.heap.objs.size,am j g.heap.objs.size (.lst xs),l.laid (t':=g.toks) (λb u e=>Ho _ e) (Hr _) ?_,S,q _ o⟩;show⟨z,us,0,r,HC _ S⟩
end
noncomputable abbrev Sp:=Y V->Hp->VK->XK->Prop
noncomputable abbrev dG:=Y ì->Hp->À->XK->Value->À->Prop
structure Env0(P:Å)(w:È)(K:Â)(mg:Str->Option Value)(base:Heap)(A:Ê)(outer:List ì)(s:À)(H:Hp):Prop where
 frames:A.frames=Z outer
 mod:Mod K mg base
 bs:∀b o,base.get? b=Z o->s.heap.get? b=Z o/\H b=Œ
 bsz:base.objs.size<=s.heap.objs.size
 funs:s.heap.FunFrames base outer
 frf:∀b∈fW outer,H b=Œ
 hok:HOk P w H s.heap
 bare:ï s.gens
noncomputable def CE(outer:Y ì)(P:Å)(w:È)(H:Hp)(s:À)(Q:VK)(u:Value)(a:À):Prop:=
 ∃v c,a.os=s.os/\ï a.gens/\Un (fW outer) [] H c s.heap a.heap/\HOk P w c a.heap/\RelV v u/\Q v c
noncomputable def CR(CX:dG)(outer:Y ì)(P:Å)(w:È)(H:Hp)(s:À)(Q:VK)(E:XK)(r:Result)(a:À):Prop:=
 match r with
 |.ok (.ret u)=>CE outer P w H s Q u a
 |.ok _=>False
 |.error e=>CX outer H s E e a
structure FnOk(P:Å)(w:È)(K:Â)(mg:Str->Option Value)(base:Heap)(CX:dG)(k:Nat)(f:Addr)(fd:Ì)(ps:List Str)(sp:Sp):Prop where
 len:∀vs H Q E,sp vs H Q E->vs.length=ps.length
 run:∀(A:Ê)(outer:List ì)(s:À)(H:Hp)(args:Args)(us:List Value)(vs:List V)(Q:VK)(E:XK),Room k A->Env0 P w K mg base A outer s H->Ċ s fd args (ps.zip us)->Vals vs us->sp vs H Q E->
  é (Ä P w) A (.call (.ref f) args) (CR CX outer P w H s Q E) s
theorem FnOk.mono{P:Å}{w:È}{K:Â}{mg:Str->œ Value}{base:Heap}{CX:dG}{j k:Nat}{f:Addr}{a:Ì}{ps:Y Str}{sp:Sp}(F:FnOk P w K mg base CX j f a ps sp)(h:j<=k) :
  FnOk P w K mg base CX k f a ps sp:=⟨F.len,λA outer s H args us vs Q E c=>F.run A outer s H args us vs Q E (c.mono h)⟩
theorem FnOk.imp{P:Å}{w:È}{K:Â}{mg:Str->œ Value}{base:Heap}{CX:dG}{k:Nat}{f:Addr}{c:Ì}{ps:Y Str}{sp a:Sp}(F:FnOk P w K mg base CX k f c ps sp)
  (h:∀vs H Q E,a vs H Q E->sp vs H Q E):FnOk P w K mg base CX k f c ps a:=
 ⟨λvs H Q E q=>F.len vs H Q E (h _ _ _ _ q),λA outer s H args us vs Q E j g e o l=>F.run A outer s H args us vs Q E j g e o (h _ _ _ _ l)⟩
theorem Env0.make{P:Å}{w:È}{K:Â}{mg:Str->œ Value}{base:Heap}{A:Ê}{outer:Y ì}{s:À}{H:Hp}(e:Env0 P w K mg base A outer s H)(C:Addr)(us:Y Value)(a:Y (Str×Value)) :
  Env0 P w K mg base (A.under (.builtin "type.__call__" ⟨.ref C::us,a⟩)) outer s H:=⟨by first|show e.frames|(simpa [ą,Code.envs,ĉ,pushEnvs] using e.frames),e.mod,e.bs,e.bsz,e.funs,e.frf,e.hok,e.bare⟩
section
variable{X:Cx}{a:Y (Addr×Ô)}{c:St}{H:Hp}{s e:À}
theorem Inv.env0(I:Inv X a c H s):Env0 X.prog X.w X.K X.mg X.base X.A X.stack s H:=
 ⟨I.ok.frames,I.ok.mod,I.bs,HZ I.ok.bsz I.sz,I.stack,I.stkFree,I.hok,I.bare⟩
theorem Inv.after{Q:VK}{u:Value}(I:Inv X a c H s)(h:CE X.stack X.prog X.w H s Q u e):EP X a c Q u e:=by let⟨v,f,os,bare,un,hok,r,q⟩:=h;let⟨l,g,d,t,j⟩:=e;obtain rfl:j=s.os:=os;show⟨v,f,I.call (h':=l) (g':=g) (d':=d) (t':=t) (ch:=[]) un hok bare (λb z=>absurd z (by simp)),r,q⟩
end
noncomputable def Ad(sp:Sp)(dvs:Y V)(E:XK)(t:TA):TE:=λc H Q=>t c H λvs a=>sp (vs++dvs) a Q E
noncomputable def A2(C:Addr)(m:Str)(sp:Sp)(dvs:Y V)(E:XK)(h:TE)(t:TA):TE:=λe H Q=>h e H λx c=>∃a g fs,x=.ref a/\c a=Z (.ins C g fs)/\fs.lookup m=Œ /\
 t e c λvs f=>sp (x::(vs++dvs)) f Q E
noncomputable def CK(C:Addr)(sp:Sp)(dvs:Y V)(E:XK)(t:TA):TE:=λf H Q=>t f H λvs c=>∀x a,c x=Œ->c a=Œ->a≠x->
 sp (.ref x::(vs++dvs)) (am (am c a (.own x)) x (.ins C a [])) (λv e=>v=.non/\Q (.ref x) e) E
noncomputable def Binds(K:Â)(a:Ì)(ps:Y Str)(ds:Y Value):Prop:=
 ∀(s:À)(us:Y Value),K.In s.heap->(us++ds).length=ps.length->Ċ s a ⟨us,[]⟩ (ps.zip (us++ds))
theorem Binds.all{K:Â}{a:Ì}{ps:Y Str}(h:∀us:Y Value,us.length=ps.length->bindArgs a ⟨us,[]⟩=pure (ps.zip us)):Binds K a ps []:=λs us _ c=>by rw[Ii]at c ⊢;show .of_eq (h us c)
noncomputable def iU(CX:dG)(X:Cx)(E:XK):Prop:=∀(a:Y (Addr×Ô))(f:St)(H:Hp)(s:À)(e:Value)(c:À),Inv X a f H s->CX X.stack H s E e c->X.xe e c
section
variable{X:Cx}{CX:dG}{k:Nat}{f C:Addr}{w:Ì}{ps:Y Str}{sp:Sp}{dvs:Y V}{ds:Y Value}{E:XK}{x m:Str}{p g j:Õ}{e o:Ã}{es:Y Ã}{y:TE}{t:TA}
theorem vX{a:Y (Addr×Ô)}{l:St}{H:Hp}{s:À}{Q:VK}{us:Y Value}{vs:Y V}(F:FnOk X.prog X.w X.K X.mg X.base CX k f w ps sp)(G:Room k X.A)(A:Binds X.K w ps ds)(hd:Vals dvs ds)(J:iU CX X E)
  (I:Inv X a l H s) (r:Vals vs us) (h:sp (vs++dvs) H Q E):wpAny (Ä X.prog X.w) X.A (call (.ref f) us) (EP X a l Q) X.xe s:=by
 have v:Vals (vs++dvs) (us++ds):=r.append hd
 have B:(us++ds).length=ps.length:=by rw[←v.length];show F.len _ _ _ _ h
 refine wpAny_call (KD (F.run X.A X.stack s H ⟨us,[]⟩ (us++ds) (vs++dvs) Q E G I.env0 (A s us I.kIn B) v h) λr K c=>?_)
 cases r with
 |error e=>show J a l H s e K I c
 |ok z=>
  cases z with
  |ret u=>show I.after c
  |next=>show Ñ c
  |brk=>show Ñ c
  |cont=>show Ñ c
theorem oA(F:FnOk X.prog X.w X.K X.mg X.base CX k f w ps sp)(K:Room k X.A)(B:Gl X x)(J:X.mg x=Z (.ref f))(G:ã X.K (.ref f)=Ŕ)(z:Binds X.K w ps ds)(hd:Vals dvs ds)(L:iU CX X E)
  (v:PA X (e::es) t) (l:ab x:=by decide) (A:starEach (e::es) X.env=(ŕ,eval e X.env)::starEach es X.env:=by rfl) (u:(backTo g (starEach es X.env)).any (·.1)=ŕ:=by rfl) :
  PE X (.Call (.Name x p) (e::es) [] g) (Ad sp dvs E t):=by
 intro a s M H Q I h;refine Ka (tL I B J ?_ l);refine callWith_K (h₀:=X.base) I.ok.mod.kin G (ax (v g a s M H _ I h) λus O ⟨vs,N,c,r,q⟩=>⟨c.kIn,?_⟩) A u;show vX F K z hd L c r q
theorem rA{pl:Sem Bool}(P:PE X o y)(c:Cls X.K C)(B:Meth X.K C m f)(F:FnOk X.prog X.w X.K X.mg X.base CX k f w ps sp)(R:Room k X.A)(O:Binds X.K w ps ds)(hd:Vals dvs ds)(T:iU CX X E)(N:PA X (e::es) t)
  (L:starEach (e::es) X.env=(ŕ,eval e X.env)::starEach es X.env:=by rfl) (K:(backTo g (starEach es X.env)).any (·.1)=ŕ:=by rfl)
  (b_:eval (.Call (.Attribute o m j) (e::es) [] g) X.env=(do
   let ov ←eval o X.env
   standAt j.atName
   let (f,first) ←holding [ov] (getMethod ov m pl)
   callWith g f first (backTo g (starEach (e::es) X.env)) (ç g (Û [] X.env))):=by rfl) :
  PE X (.Call (.Attribute o m j) (e::es) [] g) (A2 C m sp dvs E y t):=by
 intro v s G H Q I h;refine PySem.W.methodCall_KW (pl:=pl) (ax (P v s G H _ I h) λu a_ ⟨x,J,z,be,a,dx,fs,ex,M,l,q⟩=>?_) b_;subst ex;obtain rfl:u=Value.ref a:=be;refine yS z M c B l ?_;refine callWith_K (first:=[.ref a]) (h₀:=X.base) I.ok.mod.kin B.kp (ax (N g v a_ G J _ z q) λus s2 ⟨vs,H2,A,r,U⟩=>⟨A.kIn,?_⟩) L K;show vX (us:=.ref a::us) (vs:=.ref a::vs) F R O hd T A (.cons S r) U
structure Mk(K:Â)(C f:Addr):Prop where
 makes:ĥ K C=Ŕ
 init:Ï K (.ref C) "__init__"=Z (Z (.ref f))
 fn:isFn K (.ref f)=Ŕ
 kp:ã K (.ref C)=Ŕ
theorem wn{a:Y (Addr×Ô)}{A:St}{H:Hp}{s:À}{Q:VK}{us:Y Value}{vs:Y V}(M:Mk X.K C f)(F:FnOk X.prog X.w X.K X.mg X.base CX k f w ps sp)(R:Room (k+1) X.A)(O:Binds X.K w ps ds)(hd:Vals dvs ds)
  (be:iU CX X E) (I:Inv X a A H s) (r:Vals vs us)
  (h:∀x z,H x=Œ->H z=Œ->z≠x->sp (.ref x::(vs++dvs)) (am (am H z (.own x)) x (.ins C z [])) (λv K=>v=.non/\Q (.ref x) K) E) :
  wpAny (Ä X.prog X.w) X.A (call (.ref C) us) (EP X a A Q) X.xe s:=by
 have B:=h (s.heap.objs.size+1) s.heap.objs.size (I.hok.fresh (Nat.le_succ _)) (I.hok.fresh (Hr _)) (HX (JZ _));have l:=Inv.made (C:=C) I;have G:Vals (V.ref (s.heap.objs.size+1)::(vs++dvs)) (Value.ref (s.heap.objs.size+1)::(us++ds)):=.cons S (r.append hd)
 have P:(Value.ref (s.heap.objs.size+1)::us++ds).length=ps.length:=by have e:=G.length;rw[F.len _ _ _ _ B]at e;show e.symm
 refine wpAny_call (Ey (f:=f) I.kIn M.makes M.init (JY.mp M.fn) (KD (F.run _ X.stack _ _ ⟨Value.ref (s.heap.objs.size+1)::us,[]⟩ (Value.ref (s.heap.objs.size+1)::(us++ds)) _ _ E (R.make C us [])
  (l.env0.make C us []) (O _ (Value.ref (s.heap.objs.size+1)::us) l.kIn P) G B) λr a_ c=>?_))
 cases r with
 |error e=>show be a A _ _ e a_ l c
 |ok N=>
  cases N with
  |ret u=>
   let⟨v,J,L,U,ev,T⟩:=l.after c;subst ev;show⟨U,⟨V.ref (s.heap.objs.size+1),J,L,S,T⟩⟩
  |next=>show Ñ c
  |brk=>show Ñ c
  |cont=>show Ñ c
theorem BR(M:Mk X.K C f)(F:FnOk X.prog X.w X.K X.mg X.base CX k f w ps sp)(J:Room (k+1) X.A)(B:Gl X x)(G:X.mg x=Z (.ref C))(z:Binds X.K w ps ds)(hd:Vals dvs ds)(K:iU CX X E)
  (v:PA X (e::es) t) (l:ab x:=by decide) (A:starEach (e::es) X.env=(ŕ,eval e X.env)::starEach es X.env:=by rfl) (u:(backTo g (starEach es X.env)).any (·.1)=ŕ:=by rfl) :
  PE X (.Call (.Name x p) (e::es) [] g) (CK C sp dvs E t):=by
 intro a s L H Q I h;refine Ka (tL I B G ?_ l);refine callWith_K (h₀:=X.base) I.ok.mod.kin M.kp (ax (v g a s L H _ I h) λus O ⟨vs,N,c,r,q⟩=>⟨c.kIn,?_⟩) A u;show wn M F J z hd K c r q
end
structure FnScope(N P:List Str)(sc:â):Prop where
 kind:sc.kind=.function
 co:sc.isCoroutine=ŕ
 gen:sc.isGenerator=ŕ
 nd:N.Nodup
 pre:N.take P.length=P
 par:∀x∈P,sc.names.lookup x=Z .local\/sc.names.lookup x=Z .cell
 nofree:∀y∈sc.names,y.2≠.free
theorem tN{kindOf:Str->œ NameKind}{x:Str}:∀{binds:Y (Str×Value)}{m:Str->œ Value},(∀v,(x,v)∉binds)->ę kindOf binds m x=m x
 | [],_,_=>rfl
 |(n,v)::r,m,h=>by
  unfold ę;rw[tN λw a=>h w (Hv _ a)];split
  ·have:x≠n:=by rintro rfl;show h v Ht
   simp[this]
  ·rfl
theorem tV{kindOf:Str->œ NameKind}{x:Str}:∀{binds:Y (Str×Value)}{m:Str->œ Value},(∀v,(x,v)∉binds)->Ě kindOf binds m x=m x
 | [],_,_=>rfl
 |(n,v)::r,m,h=>by
  unfold Ě;rw[tV λw a=>h w (Hv _ a)];split
  ·rfl
  ·have:x≠n:=by rintro rfl;show h v Ht
   simp[this]
theorem qS{kindOf:Str->œ NameKind}{x:Str}{v:Value}:∀{P:Y Str}{vs:Y Value}{i:Nat}{m:Str->œ Value},P.Nodup->P[i]?=Z x->vs[i]?=Z v->kindOf x=Z .local->
  ę kindOf (P.zip vs) m x=Z v
 | [],_,_,_,_,h,_,_=>by simp at h
 |_::_,[],_,_,_,_,h,_=>by simp at h
 |p::P,w::vs,0,m,nd,a,c,e=>by
  simp at a c;subst a;subst c;change ę kindOf ((p,w)::P.zip vs) m p=_;unfold ę;rw[tN λv f=>(HS.mp nd).1 (J3 f).1,Hx e];simp
 |p::P,w::vs,i+1,m,nd,a,c,e=>by change ę kindOf ((p,w)::P.zip vs) m x=_;unfold ę;show qS (i:=i) (HS.mp nd).2 (by simpa using a) (by simpa using c) e
theorem tU{kindOf:Str->œ NameKind}{x:Str}{v:Value}:∀{P:Y Str}{vs:Y Value}{i:Nat}{m:Str->œ Value},P.Nodup->P[i]?=Z x->vs[i]?=Z v->kindOf x≠Z .local->
  Ě kindOf (P.zip vs) m x=Z v
 | [],_,_,_,_,h,_,_=>by simp at h
 |_::_,[],_,_,_,_,h,_=>by simp at h
 |p::P,w::vs,0,m,nd,a,c,e=>by
  simp at a c;subst a;subst c;change Ě kindOf ((p,w)::P.zip vs) m p=_;unfold Ě;rw[tV λv f=>(HS.mp nd).1 (J3 f).1,Hq e];simp
 |p::P,w::vs,i+1,m,nd,a,c,e=>by change Ě kindOf ((p,w)::P.zip vs) m x=_;unfold Ě;show tU (i:=i) (HS.mp nd).2 (by simpa using a) (by simpa using c) e
noncomputable def eo(N:Y Str)(vs:Y V):St:=vs.map Z++List.replicate (N.length-vs.length) Œ
noncomputable def gJ(CX:dG)(P:Å)(w:È)(K:Â)(mg:Str->œ Value)(base:Heap)(N:Y Str)(qual:Str)(scope:â)(f:Addr)(a:Value)(A:Ê)(outer:Y ì)(s:À)(H:Hp)(E:XK):Cx where
 prog:=P
 w:=w
 K:=K
 mg:=mg
 base:=base
 A:=A.deeper (ê qual scope s.heap.objs.size f a)
 N:=N
 s₀:=s
 H₀:=H
 env:=ê qual scope s.heap.objs.size f a
 outer:=outer
 stack:=ê qual scope s.heap.objs.size f a::outer
 ex:=[]
 calm:=Ŕ
 fn:=λ_=>Ŕ
 pn:=[]
 xe:=λe h=>wpAny (Ä P w) (A.deeper (ê qual scope s.heap.objs.size f a)) (leaving (ê qual scope s.heap.objs.size f a) e) (λ_ c=>CX outer H s E e c) (λg c=>CX outer H s E g c) h
theorem pT{a:â}{n:Nat}{x:Str}(h:a.names.lookup x=Z .cell):∃c,(Ù n a.names []).lookup x=Z c:=by have q:=cellsFrom_some a.names n [] (.inl h);show Option.isSome_iff_exists.mp q
theorem yP{CX:dG}{P:Å}{w:È}{K:Â}{mg:Str->œ Value}{base:Heap}{N ps:Y Str}{qual:Str}{scope:â}{f:Addr}{C:Value}{A:Ê}{outer:Y ì}{s M:À}{H:Hp}{E:XK}{us:Y Value}{vs:Y V}
  (a_:FnScope N ps scope) (hd:A.handled=Œ) (j:Env0 P w K mg base A outer s H) (U:vs.length=ps.length) (r:Vals vs us)
  (x:InCallC s s.heap.objs.size (ę (ê qual scope s.heap.objs.size f C).kindOf (ps.zip us) λ_=>Œ) (Ù (s.heap.objs.size+1) scope.names []) (Ě (ê qual scope s.heap.objs.size f C).kindOf (ps.zip us) λ_=>Œ) M) :
  Inv (gJ CX P w K mg base N qual scope f C A outer s H E) [] (eo N vs) H M:=by
 have R:ps.length<=N.length:=by have:=Il List.length a_.pre;rw[IB]at this;omega
 let⟨F,X,rfl,J⟩:=x.done;have I:∀b:Addr,b∉(gJ CX P w K mg base N qual scope f C A outer s H E).ex:=λb z=>absurd (show b∈([]:Y Addr)from z) (by simp)
 refine⟨⟨j.mod,a_.kind,S,S,Hr _,λy z c F g=>?_,λy l=>?_,λy c _ h=>?_,λ_=>hd,Ê.frames_deeper j.frames,.inr ⟨S,S⟩,λb z=>absurd z (I b),j.bs,j.bsz,λb _ _=>I b,λb z=>absurd z (I b),j.funs,j.frf⟩,
  rfl,j.bare,Un.kept J,⟨_,x.toInCall.ns,λi y v F g T=>?_⟩,λy c h=>⟨_,x.cell y c h⟩,j.hok.fresh (Hr _),λy c h=>?_,λp o=>absurd (show p∈([]:Y (Addr×Ô))from o) (by simp),j.hok.kept J,?_⟩
 ·show name_of_addr x.apart (Iz F) (Iz g)
 ·have l:scope.names.lookup y=Z .cell\/scope.names.lookup y=Z .free:=l;rcases l with l|l
  ·show pT l
  ·show absurd S (a_.nofree _ (Iz l))
 ·show Jl (x.above y c (Iz h))
 ·have G:i<vs.length:=by
   unfold eo at g;by_cases G:i<vs.length
   ·show G
   ·rw[Hl (by simpa using G)]at g;rw[Jp]at g;split at g<;>cases g
  have O:vs[i]?=Z v:=by
   unfold eo at g;rw[Hk (by simpa using G),Hy]at g
   cases e:vs[i]? with
   |none=>rw[e]at g;cases g
   |some a=>rw[e]at g;cases g;rfl
  let⟨u,L,Q⟩:=r.get O
  have o:ps[i]?=Z y:=by rw[←a_.pre,JJ ()];show F
  have B:ps.Nodup:=by rw[←a_.pre];show a_.nd.sublist (List.take_sublist _ _)
  refine⟨u,Q,?_⟩;rcases a_.par y (Hu o)with k|k
  ·show .inl ⟨k,qS B o L k⟩
  ·let⟨c,e⟩:=pT (n:=s.heap.objs.size+1) k;refine .inr ⟨.inl k,c,e,?_⟩;have q:=x.cell y c e;rw[tU B o L (by change scope.names.lookup y≠_;rw[k];decide)]at q;show q
 ·show j.hok.fresh (Jl (x.above y c (Iz h)))
 ·unfold eo;change _=N.length;rw[Hm,Hj,IS];omega
theorem vF{CX:dG}{P:Å}{w:È}{K:Â}{mg:Str->œ Value}{base:Heap}{k:Nat}{f:Addr}{name qual:Str}{a:Arguments}{c:Y Ç}{scope:â}{T kV p U j ct oc:Value}{R od:œ Addr}
  {Ot:Array (œ Value)} {N ps:Y Str} {sp:Sp} (lk:K.lookup f=Z ⟨oc,od,.func (Ĕ name qual a c scope T kV p U R j ct),Ot⟩) (be:Ă K j qual=Ŕ) (b_:FnScope N ps scope)
  (len:∀vs H Q E,sp vs H Q E->vs.length=ps.length)
  (MG:∀(A:Ê)(outer:Y ì)(s:À)(H:Hp)(vs:Y V)(Q:VK)(E:XK),Room k (A.deeper (ê qual scope s.heap.objs.size f j))->sp vs H Q E->
   ∃t,PSs (gJ CX P w K mg base N qual scope f j A outer s H E) c t/\t { nx:=λ_ h=>Q .non h,rt:=Q } (eo N vs) H) :
  FnOk P w K mg base CX (k+1) f (Ĕ name qual a c scope T kV p U R j ct) ps sp:=by
 refine⟨len,λA outer s H args us vs Q E C z hb r O=>?_⟩;have hl:=len _ _ _ _ O;have M:K.In s.heap:=z.mod.kin.keeps λb o e=>(z.bs b o e).1;have F:s.heap.NoLimit:=z.mod.nolimit.keeps λb o e=>(z.bs b o e).1
 have Qw:∀y∈ps.zip us,scope.names.lookup y.1=Z .local\/(scope.names.lookup y.1=Z .cell/\((Ù (s.heap.objs.size+1) scope.names []).lookup y.1).isSome=Ŕ):=λa_ hy=>by
  let⟨n,v⟩:=a_;rcases b_.par n (J3 hy).1 with q|q
  ·show .inl q
  ·show .inr ⟨q,cellsFrom_some _ _ _ (.inl q)⟩
 refine codeAny_call_function C.depth (M _ _ lk) S b_.co b_.gen S (PySem.W.codeRec_of M be) (hb _ _ _ _ ?_);refine wpAny_newFunctionEnv_cells b_.kind Qw λenv he X x=>?_;subst he;refine⟨F.keeps x.toInCall.keep,codeAny_func ?_⟩;let⟨t,ht,hq⟩:=MG A outer s H vs Q E (C.deeper _) O;have I:Inv (gJ CX P w K mg base N qual scope f j A outer s H E) [] (eo N vs) H X:=yP b_ C.hd z hl r x;refine Jd (ht [] X (eo N vs) H _ I hq) (λfl L l=>?_) λe L l=>l
 have B:∀{g:St}{h:Hp}{v:V}{u:Value},Inv (gJ CX P w K mg base N qual scope f j A outer s H E) [] g h L->RelV v u->Q v h->CE outer P w H s Q u L:=
  λ{g h v u} J G q=>⟨v,h,J.os,J.bare,J.base,J.hok,G,q⟩
 cases fl with
 |ret u=>
  let⟨v,g,h,J,G,q⟩:=l;show B J G q
 |next=>
  let⟨g,h,J,q⟩:=l;show B (v:=V.non) (u:=Value.none) J S q
 |brk=>
  let⟨_,_,_,q⟩:=l;show Ñ q
 |cont=>
  let⟨_,_,_,q⟩:=l;show Ñ q
section
variable{X:Cx}{x:Str}{p a:Õ}{e:Ã}{es:Y Ã}{t:TA}{id T:String}{r:Y V->Hp->VK->Prop}
noncomputable def vW(r:Y V->Hp->VK->Prop)(t:TA):TE:=λf H Q=>t f H λvs c=>r vs c Q
theorem ua(w:dB X (.builtin id) r)(z:Gl X x)(A:X.mg x=Œ)(B:Ü x=Z (.builtin id))(v:PA X (e::es) t)(hn:x≠"__name__":=by decide)(o:ab x:=by decide)
  (y:starEach (e::es) X.env=(ŕ,eval e X.env)::starEach es X.env:=by rfl) (u:(backTo a (starEach es X.env)).any (·.1)=ŕ:=by rfl):PE X (.Call (.Name x p) (e::es) [] a) (vW r t):=by
 intro c s f H Q I h;refine Ka (hZ I z A B ?_ hn o);show PyProof.Rows.callWith_builtin1 (ax (v a c s f H _ I h) λus F l=>by let⟨vs,g,j,E,C⟩:=l;show w c F f g vs us Q j E C) y u
theorem jc(w:dB X (.type T) r)(z:Gl X x)(A:X.mg x=Œ)(B:Ü x=Z (.type T))(v:PA X (e::es) t)(hn:x≠"__name__":=by decide)(o:ab x:=by decide)
  (y:starEach (e::es) X.env=(ŕ,eval e X.env)::starEach es X.env:=by rfl) (u:(backTo a (starEach es X.env)).any (·.1)=ŕ:=by rfl):PE X (.Call (.Name x p) (e::es) [] a) (vW r t):=by
 intro c s f H Q I h;refine Ka (hZ I z A B ?_ hn o);show IF (ax (v a c s f H _ I h) λus F l=>by let⟨vs,g,j,E,C⟩:=l;show w c F f g vs us Q j E C) y u
end
end L2
namespace HT
open PySem PyProof.Rows
section
variable{prog:Å}{w:È}{A:Ê}{E:Value->À->Prop}{s:À}
theorem cat_tup{t b:Addr}{vs a:Y Value}{Q:Value->À->Prop}(y:ĝ s.heap t vs.toArray)(x:ĝ s.heap b a.toArray)(r:vs≠[])
  (u:a=[]->Q (.ref t) s) (v:a≠[]->Q (.ref s.heap.objs.size) { s with heap:=s.heap.push { cls:=.type "tuple",data:=.seq (vs++a).toArray } })
  (hsz:vs.length+a.length<=sizeLine):wpAny (Ä prog w) A (Í .Add (.ref t) (.ref b)) Q E s:=by
 let⟨⟨cls,o,data,sl⟩,ho,p,n,hd⟩:=id y;let⟨⟨z,j,data2,l⟩,f,h,n2,c⟩:=id x;simp only at p hd h c;subst p hd h c
 have e:vs.toArray++a.toArray=(vs++a).toArray:=by simp
 by_cases g:a=[]
 ·show Ĥ ⟨_,ho,S⟩ ⟨_,f,S⟩ Lh ē Kn Kj (Kb _ _)
   (tuple_addW1 t b vs.toArray a.toArray n n2 o j sl l (by simpa using r) (by simp[g])) ⟨ho,f,u g⟩
 ·refine Ĥ ⟨_,ho,S⟩ ⟨_,f,S⟩ Lh ē Kn Kj (Kb _ _)
   (tuple_addW2 t b vs.toArray a.toArray n n2 o j sl l (by simpa using r) (by simpa using g) (by rw[HB,HB];show hsz)) ⟨ho,f,?_⟩
  rw[e];show v g
noncomputable def sIx(n d:Nat):œ Int->Nat
 |none=>d
 |some v=>if v<0 then (v+(n:Int)).toNat else min v.toNat n
theorem sIx_nat(n d k:Nat):sIx n d (Z (k:Int))=min k n:=by change (if (k:Int)<0 then ((k:Int)+(n:Int)).toNat else min (k:Int).toNat n)=min k n;rw[Hq (),IY]
theorem BC(n d:Nat)(hd:d<=n)(o:œ Int):sIx n d o<=n:=by
 cases o with
 |none=>show hd
 |some v=>
  change (if v<0 then (v+(n:Int)).toNat else min v.toNat n)<=n;by_cases a:v<0
  ·rw[Hx a];omega
  ·rw[Hq a];show Nat.min_le_right _ _
theorem sD(v:Int)(n d:Nat):(if v<0 then max (v+(n:Int)) 0 else min v (n:Int))=((sIx n d (Z v):Nat):Int):=by
 change (if v<0 then max (v+(n:Int)) 0 else min v (n:Int))=(((if v<0 then (v+(n:Int)).toNat else min v.toNat n):Nat):Int);by_cases a:v<0
 ·simp only[Hx a];omega
 ·simp only[Hq a];omega
theorem yT(lo a:œ Int)(n:Nat):Builtin.Slice.sliceAdjust lo a 1 (n:Int)=(((sIx n 0 lo:Nat):Int),((sIx n n a:Nat):Int)):=by
 have c:¬ ((1:Int)<0):=by omega
 unfold Builtin.Slice.sliceAdjust;simp only[c,LL];refine Prod.ext ?_ ?_
 ·cases lo with
  |none=>rfl
  |some v=>show sD v n 0
 ·cases a with
  |none=>rfl
  |some v=>show sD v n n
theorem Gq(i j:Nat):Builtin.Slice.slicePlaces (i:Int) (j:Int) 1=j-i:=by
 unfold Builtin.Slice.slicePlaces
 have a:(1:Int)>0:=by omega
 simp only[a,Ki,Int.ediv_one];split<;>omega
theorem uS{v:Value}{o:œ Int}{Q:œ Int->À->Prop}(p:î v o)(h:Q o s):wpAny (Ä prog w) A (Builtin.Slice.slicePartIndex v) Q E s:=by
 cases p with
 |none=>show slicePart_none h
 |int i t=>show slicePart_int h
theorem rJ{sl:Addr}{f g:Value}{lo a:œ Int}{n:Nat}{Q:Int×Int×Nat->À->Prop}(j:s.heap.IsSliceOf sl f g .none)(pl:î f lo)(l:î g a)
  (h:Q (((sIx n 0 lo:Nat):Int),1,sIx n n a-sIx n 0 lo) s):wpAny (Ä prog w) A (Builtin.Slice.sliceApplied (.ref sl) (pure (n:Int))) Q E s:=by
 let⟨os,c,o,e⟩:=id j;unfold Builtin.Slice.sliceApplied Builtin.Slice.sliceFields;refine Hn (Hn (II c e (x:=f) S (Hn (II c e (x:=g) S (Hn (II c e (x:=.none) S (HA ?_)))))));refine Hn (slicePart_none ?_);change wpAny _ _ (if ((1:Int)==0)=Ŕ then _ else _) _ _ s;rw[Hq 'b'];refine Hn (uS pl (Hn (uS l (Hn (HA ?_)))));change wpAny _ _ (match Builtin.Slice.sliceAdjust lo a 1 (n:Int)with|(lo,a)=>pure (lo,(1:Int),Builtin.Slice.slicePlaces lo a 1)) _ _ s;rw[yT lo a n];change wpAny _ _ (pure (((sIx n 0 lo:Nat):Int),(1:Int),Builtin.Slice.slicePlaces ((sIx n 0 lo:Nat):Int) ((sIx n n a:Nat):Int) 1)) _ _ s;rw[Gq];show HA h
theorem GP(xs:Array Value)(i k:Nat):((List.range k).filterMap λ(m:Nat)=>xs[((i:Int)+(m:Int)*1).toNat]?).toArray=((xs.toList.drop i).take k).toArray:=by
 have e:(λ(m:Nat)=>xs[((i:Int)+(m:Int)*1).toNat]?)=λm=>xs[i+m]?:=by
  funext m
  have:((i:Int)+(m:Int)*1).toNat=i+m:=by omega
  rw[this]
 rw[e];have:=pick_run xs i k;rw[K1]at this;have a:((λx=>xs[x]?) ∘ λx=>i+x)=λm=>xs[i+m]?:=rfl;rw[a]at this;rw[this]
theorem getItem_tuple_cut{t sl:Addr}{items:Array Value}{g j:Value}{lo a:œ Int}{Q:Value->À->Prop}(e:ĝ s.heap t items)(f:s.heap.IsSliceOf sl g j .none)(pl:î g lo)(v:î j a)
  (u:¬ (sIx items.size 0 lo=0/\sIx items.size items.size a=items.size))
  (h:Q (.ref s.heap.objs.size) { s with heap:=s.heap.push { cls:=.type "tuple",data:=.seq ((items.toList.drop (sIx items.size 0 lo)).take (sIx items.size items.size a-sIx items.size 0 lo)).toArray } })
  (hsz:items.size<=sizeLine):wpAny (Ä prog w) A (ä (.ref t) (.ref sl)) Q E s:=by
 have c:sizeOk (.seq ((items.toList.drop (sIx items.size 0 lo)).take (sIx items.size items.size a-sIx items.size 0 lo)).toArray):=by change ((items.toList.drop (sIx items.size 0 lo)).take (sIx items.size items.size a-sIx items.size 0 lo)).toArray.size<=sizeLine;rw[HB,IB,J0,IK];omega
 have y:sIx items.size items.size a<=items.size:=BC _ _ (Hr _) a;let⟨os,o,p,x⟩:=id f;have r:s.TypeIs (.ref sl) "slice":=⟨os,o,p⟩;unfold ä
 try with_reducible refine Jj ?_
 first|refine Hn (HA ?_)|skip
 refine Hn (Ł e.typeIs 'b' ?_)
 refine Hn (IT (name:=Str.ofString "__getitem__") e.typeIs IG
  (Jt IG e.typeIs ķ ?_ (Ļ _ _)))
 change wpAny _ _ (Builtin.Tuple.tupleItemsOf (.ref t) >>= _) _ _ s;refine Hn (tupleItemsOf_ e ?_);refine Hn (Li r ?_);rw[Hx 'b'];refine Hn (rJ f pl v ?_)
 have l:¬ ((((sIx items.size 0 lo:Nat):Int)==0&&(1:Int)==1&&(sIx items.size items.size a-sIx items.size 0 lo)==items.size)=Ŕ):=by
  intro q;rw[IW,IW]at q;have z:((sIx items.size 0 lo:Nat):Int)=0:=eq_of_beq q.1.1;have B:sIx items.size items.size a-sIx items.size 0 lo=items.size:=eq_of_beq q.2;show u ⟨(),()⟩
 change wpAny _ _ (if (((sIx items.size 0 lo:Nat):Int)==0&&(1:Int)==1&&(sIx items.size items.size a-sIx items.size 0 lo)==items.size)=Ŕ then _ else _) _ _ s;rw[Hq l,GP]
 first
  |show Hn (m:=Builtin.Tuple.tupleExact _) (IL (HA ⟨_,S,HA h⟩) c)
  |show Hn (m:=Builtin.Tuple.tupleExact _) (IL (Hn (HA (HA ⟨_,S,HA h⟩))) c)
  |show Hn (Hn (m:=Builtin.Tuple.tupleExact _) (IL (HA (HA ⟨_,S,HA h⟩)) c))
  |show Hn (Hn (m:=Builtin.Tuple.tupleExact _) (IL (HA ⟨_,S,HA h⟩) c))
end
end HT
namespace L2
open PySem PySem.Spec PyProof.Rows
noncomputable abbrev TO:=St->Hp->(œ Int->Hp->Prop)->Prop
noncomputable def PO(X:Cx)(e:œ Ã)(t:TO):Prop:=
 ∀(a:Y (Addr×Ô))(s:À)(c:St)(H:Hp)(Q:œ Int->Hp->Prop),Inv X a c H s->t c H Q->
  wpAny (Ä X.prog X.w) X.A (evalPart e X.env) (λu g=>∃o f,Inv X a c f g/\î u o/\Q o f) X.xe s
noncomputable def AZ:TO:=λ_ H Q=>Q Œ H
noncomputable def DS(t:TE):TO:=λc H Q=>t c H λx a=>∃i,x=.int i/\Q (Z i) a
section
variable{X:Cx}{e:Ã}{f:TE}{lo c:œ Ã}{g j:TO}{B A:Õ}
theorem po_none:PO X Œ AZ:=by intro a s l H Q I h;rw[evalPart_none];show HA ⟨Œ,H,I,.none,h⟩
theorem CO(h:PE X e f):PO X (Z e) (DS f):=by intro a s y H Q I r;rw[evalPart_some];refine ax (h a s y H _ I r) λu z p=>?_;let⟨x,l,o,w,v⟩:=p;let⟨i,rfl,q⟩:=v;let⟨t,rfl⟩:=w;show⟨Z i,l,o,.int i t,q⟩
noncomputable def SlR(X:Cx)(r:V->œ Int->œ Int->Hp->VK->Prop):Prop:=
 ∀(a:Y (Addr×Ô))(s:À)(o:St)(H:Hp)(x:V)(v h l:Value)(lo c:œ Int)(sl:Addr)(Q:VK),Inv X a o H s->RelV x v->s.heap.IsSliceOf sl h l .none->î h lo->î l c->r x lo c H Q->
  ∃T id,typeLookup (.type T) "__getitem__"=pure (Z (.builtin id))/\s.TypeIs v T/\wpAny (Ä X.prog X.w) X.A (ä v (.ref sl)) (EP X a o Q) X.xe s
theorem SlR.or{r p:V->œ Int->œ Int->Hp->VK->Prop}(h:SlR X r)(h':SlR X p):SlR X (λx lo c H Q=>r x lo c H Q\/p x lo c H Q):=by
 intro a s z H x v w y lo c sl Q I u l pl o q;rcases q with q|q
 ·show h a s z H x v w y lo c sl Q I u l pl o q
 ·show h' a s z H x v w y lo c sl Q I u l pl o q
noncomputable def BF(r:V->œ Int->œ Int->Hp->VK->Prop)(f:TE)(g j:TO):TE:=λa H Q=>f a H λx h=>g a h λl o=>j a o λu p=>r x l u p Q
theorem AW{r:V->œ Int->œ Int->Hp->VK->Prop}(P:SlR X r)(M:PE X e f)(O:PO X lo g)(b_:PO X c j):PE X (.Subscript e (.Slice lo c Œ A) B) (BF r f g j):=by
 intro a s p H Q I h;refine Subscript_ (ax (M a s p H _ I h) λv s1 ⟨x,C,F,r1,be⟩=>?_);refine wpAny_Slice (ax (O a s1 p C _ F be) λw s2 ⟨l,E,G,pl,a_⟩=>ax (b_ a s2 p E _ G a_) λy o ⟨u,z,J,U,q3⟩=>?_);rw[evalPart_none];refine HA ?_;have K:Inv X a p z { o with heap:=o.heap.push { cls:=.type "slice",data:=.fields #[w,y,.none] } }:=J.kept (t':=o.toks) λb ob q=>Ho _ q;let⟨T,id,L,R,N⟩:=P a { o with heap:=o.heap.push { cls:=.type "slice",data:=.fields #[w,y,.none] } } p z x v w y l u o.heap.objs.size Q K r1 (Heap.IsSliceOf.new ..) pl U q3;change wpAny (Ä X.prog X.w) X.A (ĕ e (.Slice lo c Œ A) v (.ref o.heap.objs.size)) (EP X a p Q) X.xe { o with heap:=o.heap.push { cls:=.type "slice",data:=.fields #[w,y,.none] } };show tail_any (ops:=[.ref o.heap.objs.size,v]) R L N (by with_unfolding_all rfl)
noncomputable def ip(xs:Y V)(lo c:œ Int):Y V:=(xs.drop (HT.sIx xs.length 0 lo)).take (HT.sIx xs.length xs.length c-HT.sIx xs.length 0 lo)
theorem vQ(xs:Y V)(lo c:œ Int):(ip xs lo c).length<=xs.length:=by unfold ip;rw[IB,J0];omega
noncomputable def tj(K:Â):V->œ Int->œ Int->Hp->VK->Prop:=λx lo c H Q=>∃a xs,x=.ref a/\SqT K H a xs /\
 ¬ (HT.sIx xs.length 0 lo=0/\HT.sIx xs.length xs.length c=xs.length)/\∀p,H p=Œ->Q (.ref p) (am H p (.tup (ip xs lo c)))
theorem sl_tup:SlR X (tj X.K):=by
 intro w s M H x v K L lo c sl Q I G z pl F h;let⟨a,xs,rfl,E,C,q⟩:=h;cases G;let⟨y,r,p,u⟩:=I.tuple E
 have l:y.toArray.size=xs.length:=by rw[HB];show r.length.symm
 refine⟨"tuple",_,IG.lookup,p.typeIs,?_⟩;refine HT.getItem_tuple_cut p z pl F (by rw[l];show C) ?_ (by rw[l];show u);rw[l];refine⟨.ref s.heap.objs.size,_,I.laid (t':=s.toks) (o:=.tup (ip xs lo c)) (λb J q=>Ho _ q) (Hr _) ?_,S,q _ (I.hok.fresh (Hr _))⟩;show⟨HZ (vQ xs lo c) u,_,(r.drop (HT.sIx xs.length 0 lo)).take (HT.sIx xs.length xs.length c-HT.sIx xs.length 0 lo),IsTupD.new _ _⟩
noncomputable def zh(K:Â):R2:=λx y H Q=>∃a b xs h,x=.ref a/\y=.ref b/\SqT K H a xs/\SqT K H b h/\xs≠[]/\xs.length+h.length<=sizeLine /\
 (h=[]->Q (.ref a) H)/\(h≠[]->∀p,H p=Œ->Q (.ref p) (am H p (.tup (xs++h))))
theorem Vals.nil_iff{xs:Y V}{us:Y Value}(r:Vals xs us):us=[]↔xs=[]:=by
 cases r with
 |nil=>simp
 |cons _ _=>simp
theorem yJ:bL X (Í .Add) (zh X.K):=by intro C s T H x y v u Q I M N h;let⟨a,b,xs,O,rfl,rfl,E,F,G,r,K,L⟩:=h;cases M;cases N;let⟨P,p,J,_⟩:=I.tuple E;let⟨R,l,A,_⟩:=I.tuple F;refine HT.cat_tup J A (λz=>G (p.nil_iff.mp z)) (λz=>⟨.ref a,H,I,S,K (l.nil_iff.mp z)⟩) (λz=>?_) (by rw[←p.length,←l.length];show r);refine⟨.ref s.heap.objs.size,_,I.laid (t':=s.toks) (o:=.tup (xs++O)) (λb U q=>Ho _ q) (Hr _) ?_,S,L (λw=>z (l.nil_iff.mpr w)) _ (I.hok.fresh (Hr _))⟩;show⟨by rw[Hm];show r,_,p.append l,IsTupD.new _ _⟩
end
noncomputable def fS(n:Nat)(i:Int):œ Nat:=if 0<=i then (if i<n then Z i.toNat else Œ) else if -(n:Int)<=i then Z (i+n).toNat else Œ
noncomputable def cn{a:Type}(xs:Y a)(i:Int):œ a:=(fS xs.length i).bind λj=>xs[j]?
theorem sU{n:Nat}{i:Int}{j:Nat}(h:fS n i=Z j):Ā i n=Z j/\j<n/\-(n:Int)<=i/\i<n:=by
 unfold fS at h;by_cases c:0<=i
 ·rw[Hx c]at h;by_cases a:i<n
  ·rw[Hx a]at h;have e:i.toNat=j:=HR h;show⟨by rw[į c a,e],(),(),a⟩
  ·rw[Hq a]at h;cases h
 ·rw[Hq c]at h;by_cases a:-(n:Int)<=i
  ·rw[Hx a]at h;have e:(i+n).toNat=j:=HR h;show⟨by rw[ģ () a,e],(),a,()⟩
  ·rw[Hq a]at h;cases h
theorem oG{a:Type}{xs:Y a}{i:Int}{v:a}(h:cn xs i=Z v):∃j,Ā i xs.length=Z j/\xs[j]?=Z v/\j<xs.length/\-(xs.length:Int)<=i/\i<xs.length:=by
 unfold cn at h
 cases e:fS xs.length i with
 |none=>rw[e]at h;cases h
 |some j=>
  rw[e]at h;let⟨c,f,g,l⟩:=sU e;show⟨j,c,h,f,g,l⟩
theorem zQ{a:Type}{xs:Y a}{j:Nat}{v:a}(h:xs[j]?=Z v):cn xs (j:Int)=Z v:=by
 have c:j<xs.length:=(Iu.mp h).1
 have e:fS xs.length (j:Int)=Z j:=by unfold fS;rw[Hx (),Hx ()];simp
 unfold cn;rw[e];show h
noncomputable def me(b:Ã):Prop:=∀o i,ă b ŕ o i=operate [o,i] (ä o i)
noncomputable def jt(X:Cx)(r:R2):Prop:=
 ∀(e a:Ã)(c:Y (Addr×Ô))(s:À)(f:St)(H:Hp)(x y:V)(v u:Value)(Q:VK),Inv X c f H s->RelV x v->RelV y u->r x y H Q->
  ă a ŕ v u=operate [v,u] (ä v u)->wpAny (Ä X.prog X.w) X.A (ĕ e a v u) (EP X c f Q) X.xe s
noncomputable def Cy(X:Cx)(id:String)(r:V->Y V->Hp->VK->Prop):Prop:=
 ∀(a:Y (Addr×Ô))(s:À)(c:St)(H:Hp)(x:V)(xs:Y V)(v:Value)(us:Y Value)(Q:VK),Inv X a c H s->RelV x v->Vals xs us->r x xs H Q->
  wpAny (Ä X.prog X.w) X.A (call (.builtin id) (v::us)) (EP X a c Q) X.xe s
section
variable{X:Cx}{a b:Ã}{E tb:TE}{C:Õ}
theorem pz{r:R2}(l:jt X r)(g:PE X a E)(j:PE X b tb)(o:me b):PE X (.Subscript a b C) (iB r E tb):=by intro c s A H Q I h;show Subscript_ (ph g j I h λv u z x y e f p w q=>l a b c z A e x y v u Q f p w q (o _ _))
noncomputable def sW(K:Â):R2:=λx y H Q=>∃p xs i v,x=.ref p/\y=.int i/\SqL K H p xs/\cn xs i=Z v/\Q v H
noncomputable def Af(K:Â):R2:=λx y H Q=>∃p xs i v,x=.ref p/\y=.int i/\SqT K H p xs/\cn xs i=Z v/\Q v H
noncomputable def Bq:R2:=λx y H Q=>∃z i c,x=.str z/\y=.int i/\z.length<=sizeLine/\cn z.cps.toList i=Z c/\Q (.str ⟨#[c]⟩) H
theorem pM:jt X (sW X.K):=by
 intro o l c s G H x y v u Q I b_ T h F;let⟨p,xs,i,z,rfl,rfl,R,O,q⟩:=h;cases b_;let⟨t,rfl⟩:=T;let⟨J,r,pl,a_⟩:=I.list R;let⟨j,f,L,be,M,N⟩:=oG O;let⟨w,A,K⟩:=r.get L;have P:=r.length;have hn:=iw;have e:EP X c G Q w s:=⟨z,H,I,K,q⟩;by_cases B:0<=i
 ·have g:i.toNat=j:=by rw[į B N]at f;show HR f
  show item_listR pl.isList B () (by rw[g];simpa using A) e F
 ·have g:(i+(J.toArray.size:Int)).toNat=j:=by rw[ģ () M]at f;rw[HB,←P];show HR f
  show ĩ (x:=w) pl.isList.typeIs Ń.lookup
   (wpAny_getItem_list_neg (Q:=λr U=>r=w/\EP X c G Q r U) pl.isList () (by rw[HB]<;>omega) () (by rw[g];simpa using A) ⟨S,e⟩) F
theorem DK:jt X (Af X.K):=by
 intro g f c s l H x y v u Q I M N h L;let⟨p,xs,i,z,rfl,rfl,K,G,q⟩:=h;cases M;let⟨t,rfl⟩:=N;let⟨P,r,pl,U⟩:=I.tuple K;let⟨j,B,F,R,a_,T⟩:=oG G;let⟨w,A,o⟩:=r.get F;have J:=r.length;have hn:=iw;have e:EP X c l Q w s:=⟨z,H,I,o,q⟩
 show ĩ (x:=w) pl.typeIs slot_tuple_getitem.lookup
  (getItem_tuple (j:=j) (Q:=λr O=>r=w/\EP X c l Q r O) pl () () (by rw[HB,←J];show B) (by simpa using A) ⟨S,e⟩) L
theorem DN:jt X Bq:=by
 intro f e l s N H x y v u Q I J K h G;let⟨z,i,c,rfl,rfl,M,B,q⟩:=h;let⟨t,rfl⟩:=J;let⟨t',rfl⟩:=K;let⟨j,g,r,L,w,A⟩:=oG B
 have F:z.cps.toList.length=z.length:=by simp[Str.length]
 rw[F]at g w A;have hn:=iw
 show tail_any (Ĺ s z t) slot_str_getitem.lookup (getItem_str (c:=c) (by
  have o:decide (i < -(2^63:Int))=ŕ:=HJ ();have p:decide (i≥2^63)=ŕ:=HJ ()
  rw[o,p,Bool.or_false]) (by rw[g];simpa using r) ⟨.str ⟨#[c]⟩,H,I.tok _,⟨_,S⟩,q⟩) G
theorem zF(c:Y Value)(n j:Nat)(u:Value):õ (·.setIfInBounds j u) { cls:=.type "list",data:=.seq c.toArray n }={ cls:=.type "list",data:=.seq (c.set j u).toArray n }:=by simp[õ]
theorem Inv.lst{c:Y (Addr×Ô)}{g:St}{H:Hp}{s:À}{p:Addr}{xs:Y V}(I:Inv X c g H s)(h:H p=Z (.lst xs)) :
  ∃(f:Y Value)(n:Nat),Vals xs f/\s.heap.get? p=Z { cls:=.type "list",data:=.seq f.toArray n }/\xs.length<=sizeLine:=by
 let⟨z,f,n,r,e⟩:=I.hok p _ h;show⟨f,n,r,e,z⟩
theorem Inv.lstUpd{c:Y (Addr×Ô)}{v:St}{H:Hp}{s:À}{p:Addr}{xs j:Y V}{l Mc:Y Value}{n g:Nat}{f:Ô->Ô}(I:Inv X c v H s)(h:H p=Z (.lst xs))
  (ho:s.heap.get? p=Z { cls:=.type "list",data:=.seq l.toArray n }) (o:f { cls:=.type "list",data:=.seq l.toArray n }={ cls:=.type "list",data:=.seq Mc.toArray g }) (r:Vals j Mc) (y:j.length<=sizeLine) (t:Nat) :
  Inv X c v (am H p (.lst j)) { s with heap:=s.heap.update p f,toks:=t }:=by
 have e:(s.heap.update p f).get? p=Z { cls:=.type "list",data:=.seq Mc.toArray g }:=by
  rw[Heap.get?_update_self f ho (by rw[o]<;>rfl),o]
 refine I.write (x:=p) (e:=p) (by rw[h];trivial) (.inl S) (λb u w q=>(Heap.get?_update_other _ _ (IE w)).trans q) ⟨_,e⟩ ?_;show⟨y,Mc,g,r,e⟩
noncomputable def FU:V->V->V->Hp->(Hp->Prop)->Prop:=λo i v H Q=>∃p xs k j,o=.ref p/\i=.int k/\H p=Z (.lst xs)/\fS xs.length k=Z j/\Q (am H p (.lst (xs.set j v)))
theorem qk:qu X FU:=by
 intro c s K H o i v N M u Q I G ri J h;let⟨p,xs,k,j,rfl,rfl,A,B,q⟩:=h;cases G;let⟨t,rfl⟩:=ri;let⟨w,n,r,ho,F⟩:=I.lst A;let⟨e,L,y,z⟩:=sU B;have g:=r.length;have hn:=iw
 have l:Inv X c K (am H p (.lst (xs.set j v))) { s with heap:=s.heap.update p (õ (·.setIfInBounds j u)) }:=
  I.lstUpd A ho (zF w n j u) (r.set J j) (by rw[Hs];show F) s.toks
 by_cases x:0<=k
 ·have f:k.toNat=j:=by rw[į x z]at e;show HR e
  show PySem.W.ki_setAt ho x () (by rw[HB,←g];show z) (by rw[f];show⟨_,l,q⟩)
 ·have f:(k+(w.toArray.size:Int)).toNat=j:=by rw[ģ () y]at e;rw[HB,←g];show HR e
  show PySem.W.ki_setBack ho () (by rw[HB,←g];show y) () (by rw[f];show⟨_,l,q⟩)
theorem Ci(lo c:œ Int)(n:Nat):(á lo c Œ n).1=((HT.sIx n 0 lo:Nat):Int)/\(á lo c Œ n).2.1=((HT.sIx n n c:Nat):Int)/\(á lo c Œ n).2.2=1:=by
 refine⟨?_,?_,S⟩
 ·cases lo with
  |none=>simp[á,HT.sIx]
  |some i=>
   simp only[á,HT.sIx,Ğ,show (1:Int)>0 by decide,Ki];by_cases h:i<0
   ·simp only[h,Ki]<;>omega
   ·simp only[h,LL]<;>omega
 ·cases c with
  |none=>simp[á,HT.sIx]
  |some i=>
   simp only[á,HT.sIx,Ğ,show (1:Int)>0 by decide,Ki];by_cases h:i<0
   ·simp only[h,Ki]<;>omega
   ·simp only[h,LL]<;>omega
theorem CU(c:Y Value)(lo e:œ Int):slicePick c.toArray lo e Œ=((c.drop (HT.sIx c.length 0 lo)).take (HT.sIx c.length c.length e-HT.sIx c.length 0 lo)).toArray:=by let⟨f,g,h⟩:=Ci lo e c.toArray.size;unfold slicePick;rw[f,g,h];simp only[sliceRange_one,pick_run,HB]<;>rfl
noncomputable def rK(K:Â):V->œ Int->œ Int->Hp->VK->Prop:=λx lo c H Q=>∃a xs,x=.ref a/\SqL K H a xs/\∀p,H p=Œ->Q (.ref p) (am H p (.lst (ip xs lo c)))
theorem sl_list:SlR X (rK X.K):=by
 intro g s F H x v A B lo e sl Q I w j pl u h;let⟨a,xs,rfl,l,q⟩:=h;cases w;let⟨y,r,f,p⟩:=I.list l;have c:=r.length;refine⟨"list",_,Ń.lookup,f.isList.typeIs,?_⟩;refine wpAny_getItem_list_slice f.isList j pl u .none (by simp) ?_ (by rw[HB]<;>omega);rw[CU,←c];refine⟨.ref s.heap.objs.size,_,I.laid (t':=s.toks) (o:=.lst (ip xs lo e)) (λb z q=>Ho _ q) (Hr _) ?_,S,q _ (I.hok.fresh (Hr _))⟩;show⟨HZ (vQ xs lo e) p,_,0,(r.drop (HT.sIx xs.length 0 lo)).take (HT.sIx xs.length xs.length e-HT.sIx xs.length 0 lo),HC _ S⟩
noncomputable def gO:V->Bool
 |.non=>Ŕ
 |.bl _=>Ŕ
 |.int _=>Ŕ
 |.str _=>Ŕ
 |_=>ŕ
noncomputable def hJ:V->V->Bool
 |.non,.non=>Ŕ
 |.bl a,.bl b=>a==b
 |.bl a,.int b=>(if a then 1 else 0)==b
 |.int a,.bl b=>a==(if b then 1 else 0)
 |.int a,.int b=>a==b
 |.str a,.str b=>a==b
 |_,_=>ŕ
theorem Bo{A:Ê}{s:À}{y x:V}{u v:Value}(e:RelV y u)(c:RelV x v)(f:gO y=Ŕ)(fx:gO x=Ŕ):SeqAt.EqAt A s u v (hJ y x):=by
 cases y with
 |non=>
  cases e
  cases x with
  |non=>cases c;show SeqAt.EqAt.same _
  |bl b=>cases c;show SeqAt.EqAt.none_bool b
  |int b=>let⟨t,rfl⟩:=c;show SeqAt.EqAt.none_int b t
  |str b=>let⟨t,rfl⟩:=c;show SeqAt.EqAt.none_str b t
  |_=>show absurd (show ŕ=Ŕ from fx) Ig
 |bl a=>
  cases e
  cases x with
  |non=>cases c;show SeqAt.EqAt.bool_none a
  |bl b=>cases c;show SeqAt.EqAt.bool_bool a b
  |int b=>let⟨t,rfl⟩:=c;show SeqAt.EqAt.bool_int a b t
  |str b=>let⟨t,rfl⟩:=c;show SeqAt.EqAt.bool_str a b t
  |_=>show absurd (show ŕ=Ŕ from fx) Ig
 |int a=>
  let⟨t',rfl⟩:=e
  cases x with
  |non=>cases c;show SeqAt.EqAt.int_none a t'
  |bl b=>cases c;show SeqAt.EqAt.int_bool a t' b
  |int b=>let⟨t,rfl⟩:=c;show SeqAt.EqAt.int_int a t' b t
  |str b=>let⟨t,rfl⟩:=c;show SeqAt.EqAt.int_str a t' b t
  |_=>show absurd (show ŕ=Ŕ from fx) Ig
 |str a=>
  let⟨t',rfl⟩:=e
  cases x with
  |non=>cases c;show SeqAt.EqAt.str_none a t'
  |bl b=>cases c;show SeqAt.EqAt.str_bool a t' b
  |int b=>let⟨t,rfl⟩:=c;show SeqAt.EqAt.str_int a t' b t
  |str b=>let⟨t,rfl⟩:=c;show SeqAt.EqAt.str_str a t' b t
  |_=>show absurd (show ŕ=Ŕ from fx) Ig
 |_=>show absurd (show ŕ=Ŕ from f) Ig
noncomputable def ia(x:V)(u:Value):Bool:=match u with
 |.none=>hJ .non x
 |.bool b=>hJ (.bl b) x
 |.int i _=>hJ (.int i) x
 |.str z _=>hJ (.str z) x
 |_=>ŕ
theorem rh{x y:V}{u:Value}(r:RelV y u)(f:gO y=Ŕ):ia x u=hJ y x:=by
 cases y with
 |non=>cases r;rfl
 |bl b=>cases r;rfl
 |int i=>let⟨t,rfl⟩:=r;rfl
 |str z=>let⟨t,rfl⟩:=r;rfl
 |_=>show absurd (show ŕ=Ŕ from f) Ig
theorem pd{x:V}:∀{xs:Y V}{us:Y Value},Vals xs us->xs.all gO=Ŕ->us.any (ia x)=xs.any λy=>hJ y x
 |_,_,.nil,_=>rfl
 |y::xs,u::us,.cons r t,f=>by rw[LM,IW]at f;rw[JE,JE,rh r f.1,pd t f.2]
theorem oZ{A:Ê}{s:À}{x:V}{v:Value}(e:RelV x v)(fx:gO x=Ŕ):∀{xs:Y V}{us:Y Value},Vals xs us->xs.all gO=Ŕ->∀u∈us,SeqAt.EqAt A s u v (ia x u)
 |_,_,.nil,_=>λu c=>by cases c
 |y::xs,u::us,.cons r t,f=>λu' c=>by
  rw[LM,IW]at f;rcases HH.mp c with rfl|c
  ·rw[rh r f.1];show Bo r e f.1 fx
  ·show oZ e fx t f.2 u' c
noncomputable def jF(x:V)(xs:Y V):Bool:=xs.any λy=>hJ y x
noncomputable def CM(K:Â)(neg:Bool):R2:=λx y H Q=>∃p xs,y=.ref p/\(SqL K H p xs\/SqT K H p xs)/\gO x=Ŕ/\xs.all gO=Ŕ/\Q (.bl (if neg then !jF x xs else jF x xs)) H
theorem B3:bL X (É .In) (CM X.K ŕ):=by
 intro g s z H x y v u Q I j o h;let⟨p,xs,rfl,e,fx,fs,q⟩:=h;cases o;rcases e with e|e
 ·let⟨c,r,pl,l⟩:=I.list e;refine SeqAt.in_listAt (ia x) pl.isList (λw f=>oZ j fx r fs w (by simpa using f)) ⟨.bl _,H,I,S,?_⟩;rw[show c.toArray.any (ia x)=c.any (ia x)by simp,pd r fs];show q
 ·let⟨c,r,pl,l⟩:=I.tuple e;refine SeqAt.in_tupleAt (ia x) pl (λw f=>oZ j fx r fs w (by simpa using f)) ⟨.bl _,H,I,S,?_⟩;rw[show c.toArray.any (ia x)=c.any (ia x)by simp,pd r fs];show q
theorem oM:dB X (.builtin "len") (λxs H Q=>∃p e,xs=[.ref p]/\(SqL X.K H p e\/SqT X.K H p e)/\Q (.int e.length) H):=by
 intro j s w H xs us Q I r h;let⟨p,e,rfl,f,q⟩:=h;let⟨u,rfl,v⟩:=gI r;cases v;have hn:=iw;rcases f with f|f
 ·let⟨l,g,pl,o⟩:=I.list f;have c:=g.length;show Calls.call_len_list pl.isList (by simp only[HB]<;>omega) ⟨.int e.length,H,I.tok _,⟨s.toks+1,by rw[HB,c]⟩,q⟩
 ·let⟨l,g,pl,o⟩:=I.tuple f;have c:=g.length;show len_tuple pl (by simp only[HB]<;>omega) ⟨.int e.length,H,I.tok _,⟨s.toks+1,by rw[HB,c]⟩,q⟩
theorem xM:dB X (.builtin "len") (λxs H Q=>∃z,xs=[.str z]/\z.length<=sizeLine/\Q (.int z.length) H):=by
 intro c s f H xs us Q I r h;let⟨z,rfl,e,q⟩:=h;let⟨u,rfl,t,rfl⟩:=gI r;have hn:=iw;show len_str () ⟨.int z.length,H,I.tok _,⟨_,S⟩,q⟩
theorem rX:dB X (.type "list") (λxs H Q=>∃p j,xs=[.ref p]/\(SqL X.K H p j\/SqT X.K H p j)/\∀l,H l=Œ->Q (.ref l) (am H l (.lst j))):=by
 intro z s F H xs us Q I r h;let⟨p,j,rfl,x,q⟩:=h;let⟨u,rfl,B⟩:=gI r;cases B
 have v:∀(c:Y Value),Vals j c->j.length<=sizeLine->∀(h':Heap)(f:Nat),(∀b o',s.heap.get? b=Z o'->h'.get? b=Z o')->
   h'.get? s.heap.objs.size=Z { cls:=.type "list",dict:=Œ,data:=.seq c.toArray f,slots:=#[] }->EP X z F Q (.ref s.heap.objs.size) { s with heap:=h' }:=λc g y h' f kp e=>
  ⟨.ref s.heap.objs.size,_,I.laid (t':=s.toks) kp (Hr _) (show ObjOk X.prog X.w _ h' _ (.lst j)from ⟨y,c,f,g,e⟩),S,q _ (I.hok.fresh (Hr _))⟩
 rcases x with x|x
 ·let⟨c,g,pl,y⟩:=I.list x;have w:=g.length;let⟨o,ho,A,n,hd⟩:=pl.isList;show call_list_seq p (.inl S) ho A hd (λh' f kp e=>v c g y h' f kp e) (by simp only[HB]<;>omega)
 ·let⟨c,g,pl,y⟩:=I.tuple x;have w:=g.length;let⟨o,ho,A,n,hd⟩:=pl;show call_list_seq p (.inr S) ho A hd (λh' f kp e=>v c g y h' f kp e) (by simp only[HB]<;>omega)
theorem pB:dB X (.type "tuple") (λxs H Q=>∃p f,xs=[.ref p]/\((SqL X.K H p f/\∀l,H l=Œ->Q (.ref l) (am H l (.tup f)))\/(SqT X.K H p f/\Q (.ref p) H))):=by
 intro c s z H xs us Q I r h;let⟨p,f,rfl,h⟩:=h;let⟨u,rfl,B⟩:=gI r;cases B;rcases h with⟨j,q⟩|⟨j,q⟩
 ·let⟨g,v,pl,y⟩:=I.list j;have x:=v.length;refine call_tuple_list pl.isList (λh' kp=>?_) (by simp only[HB]<;>omega);have w:Inv X c z H { s with heap:=h' }:=I.kept (t':=s.toks) kp
  have A:Inv X c z (am H h'.objs.size (.tup f)) { s with heap:=h'.push { cls:=.type "tuple",data:=.seq g.toArray } }:=
   w.laid (t':=s.toks) (λb o e=>Ho _ e) (Hr _) (show ObjOk X.prog X.w _ _ _ (.tup f)from ⟨y,g,v,IsTupD.new _ _⟩)
  show⟨.ref h'.objs.size,_,A,S,q _ (w.hok.fresh (Hr _))⟩
 ·let⟨g,v,pl,y⟩:=I.tuple j;show call_tuple_same pl ⟨.ref p,H,I,S,q⟩
noncomputable def vg(K:Â)(T:String)(x:V)(H:Hp):Prop:=match x with
 |.str _=>T="str"
 |.int _=>T="int"
 |.ref p=>(T="list"/\∃xs,SqL K H p xs)\/(T="tuple"/\((∃xs,H p=Z (.tup xs))\/∃o,K.lookup p=Z o/\o.cls=.type "tuple"/\o.dict=Œ)) \/
   (T="dict"/\((∃c,H p=Z (.dK c))\/∃c,H p=Z (.dT c)))\/(T="set"/\∃Q n,H p=Z (.set Q n))
 |_=>False
theorem Cp{h:Y (Addr×Ô)}{A:St}{H:Hp}{s:À}{T:String}{x:V}{v:Value}(I:Inv X h A H s)(r:RelV x v)(j:vg X.K T x H) :
  s.TypeIs v T/\∀a,v=.ref a->∃l,s.heap.get? a=Z l/\l.dict=Œ:=by
 cases x with
 |str z=>
  let⟨t,rfl⟩:=r;cases (show T="str" from j);show⟨Ĺ s z t,λ_ e=>nomatch e⟩
 |int i=>
  let⟨t,rfl⟩:=r;cases (show T="int" from j);show⟨Lc s i t,λ_ e=>nomatch e⟩
 |ref p=>
  cases r;rcases j with⟨rfl,xs,y⟩|⟨rfl,⟨xs,f⟩|⟨o,f,w,hd⟩⟩|⟨rfl,f⟩|⟨rfl,Q,n,f⟩
  ·let⟨B,_,pl,_⟩:=I.list y;refine⟨pl.isList.typeIs,λa e=>?_⟩;cases e;let⟨o,n,e,c,hd,_⟩:=pl;show⟨o,e,hd⟩
  ·let⟨_,_,_,o,e,⟨c,hd⟩,_⟩:=I.hok p _ f;refine⟨⟨o,e,c⟩,λa g=>?_⟩;cases g;show⟨o,e,hd⟩
  ·refine⟨⟨o,I.kIn p o f,w⟩,λa e=>?_⟩;cases e;show⟨o,I.kIn _ o f,hd⟩
  ·have z:∃o,s.heap.get? p=Z o/\o.ExactDict:=by
    rcases f with⟨u,f⟩|⟨u,f⟩
    ·let⟨_,_,_,_,o,_,_,e,ex,_⟩:=I.hok p _ f;show⟨o,e,ex⟩
    ·let⟨_,_,_,_,o,_,_,e,ex,_⟩:=I.hok p _ f;show⟨o,e,ex⟩
   let⟨o,e,ex⟩:=z;refine⟨⟨o,e,ex.1⟩,λa g=>?_⟩;cases g;show⟨o,e,ex.2.1⟩
  ·let⟨o,_,_,_,e,ex,_⟩:=I.hok p _ f;refine⟨⟨o,e,ex.1⟩,λa g=>?_⟩;cases g;show⟨o,e,ex.2.1⟩
 |_=>show Ñ j
noncomputable def Do(K:Â)(T:String)(r:V->Y V->Hp->VK->Prop)(to:TE)(t:TA):TE:=λe H Q=>to e H λx c=>vg K T x c/\t e c λxs f=>r x xs f Q
variable{o e:Ã}{es:Y Ã}{to:TE}{t:TA}{name:Str}{g B:Õ}{T id:String}{r:V->Y V->Hp->VK->Prop}
theorem nW(b_:PlainAttrs T)(slot:Slot T name id)(f:typeOf (.builtin id)=pure (.type "method_descriptor"))(P:Cy X id r)(ho:PE X o to)(O:PA X (e::es) t)
  (G:Î o name X.env (eval o X.env)=eval o X.env:=by rfl)
  (K:((backTo B (starEach (e::es) X.env)).all (λx=>!x.1)&&(ç B (Û [] X.env)).all (λx=>x.1.isSome)
   && decide ((e::es).length+([]:Y ß).length+(if ([]:Y ß).isEmpty then 0 else 1)<30))=Ŕ:=by rfl)
  (J:(g.endLine==B.line)=Ŕ:=by rfl) (R:starEach (e::es) X.env=(ŕ,eval e X.env)::starEach es X.env:=by rfl) (L:(backTo B (starEach es X.env)).any (·.1)=ŕ:=by rfl) :
  PE X (.Call (.Attribute o name g) (e::es) [] B) (Do X.K T r to t):=by
 intro c s j H Q I h;refine wpAny_Call_method_late G K J S (ax (ho c s j H _ I h) λv s1 A=>?_);let⟨x,w,l,u,ty,U⟩:=A;let⟨M,N⟩:=Cp l u ty;refine⟨T,id,b_,slot,f,M,N,?_⟩;have p:=O B c s1 j w _ l U;rw[R]at p ⊢;refine Calls.callWith_builtin (by change (ŕ ||(backTo B (starEach es X.env)).any (·.1))=ŕ;rw[L]<;>rfl) (Calls.evalArgs_plain ?_)
 show ax p λus s2 F=>by let⟨vs,y,z,a_,be⟩:=F;show P c s2 j y x vs v us Q z u a_ be
end
noncomputable def oU(X:Cx)(id:String)(r:V->Y V->Hp->VK->Prop):Prop:=
 ∀(a:Y (Addr×Ô))(s:À)(c:St)(H:Hp)(x:V)(xs:Y V)(v:Value)(us:Y Value)(Q:VK),Inv X a c H s->RelV x v->Vals xs us->r x xs H Q->
  wpAny (Ä X.prog X.w) X.A (call (.builtin id) (v::us)) (EP X a c Q) X.xe s
theorem Vals.one:∀{x:V}{us:Y Value},Vals [x] us->∃u,us=[u]/\RelV x u
 |_,_,.cons r .nil=>⟨_,S,r⟩
theorem Vals.eraseIdx:∀{xs:Y V}{us:Y Value}(i:Nat),Vals xs us->Vals (xs.eraseIdx i) (us.eraseIdx i)
 |_,_,_,.nil=>.nil
 |_,_,0,.cons _ t=>t
 |_,_,i+1,.cons r t=>.cons r (Vals.eraseIdx i t)
theorem Vals.rep{xs:Y V}{us:Y Value}(h:Vals xs us):∀k:Nat,Vals (List.replicate k xs).flatten (List.replicate k us).flatten
 |0=>.nil
 |k+1=>by rw[ID,ID,Ih,Ih];show Vals.append h (Vals.rep h k)
theorem oy{a:Type}:∀(l:Y a)(i:Nat),(l.eraseIdx i).length<=l.length
 | [],_=>Hr _
 |_::_,0=>Nat.le_succ _
 |_::r,i+1=>Nat.succ_le_succ (oy r i)
theorem pZ(c:Y Value):∀(k:Nat)(a:Y Value),
  List.foldl (λg h=>g++h) a.toArray (List.replicate k c.toArray)=(a++(List.replicate k c).flatten).toArray
 |0,a=>by simp
 |k+1,a=>by
  have e:a.toArray++c.toArray=(a++c).toArray:=by simp
  have f:(a++c)++(List.replicate k c).flatten=a++(List.replicate (k+1) c).flatten:=by rw[ID,Ih,HF]
  rw[←f,←pZ c k (a++c),←e,ID,List.foldl_cons]
section
variable{X:Cx}{a:Y (Addr×Ô)}{c:St}{H:Hp}{s:À}{l:Addr}{xs g:Y V}
theorem Inv.lset{h Mc:Y Value}{n:Nat}{f:Array Value->Array Value}{t':Nat}(I:Inv X a c H s)(j:H l=Z (.lst xs))
  (e:s.heap.get? l=Z { cls:=.type "list",data:=.seq h.toArray n }) (p:f h.toArray=Mc.toArray) (v:Vals g Mc) (w:g.length<=sizeLine) :
  Inv X a c (am H l (.lst g)) { s with heap:=s.heap.update l (õ f),toks:=t' }:=by
 have q:=PySem.IsL.update e f;rw[p]at q;refine I.write (x:=l) (e:=l) (by rw[j];show trivial) (.inl S) (λy u o r=>(Heap.get?_update_other s.heap (õ f) (IE o)).trans r) ⟨_,q⟩ ?_;show⟨w,Mc,_,v,q⟩
theorem Inv.lnew{e:Y Value}{t':Nat}(I:Inv X a c H s)(f:Vals g e)(h:g.length<=sizeLine) :
  Inv X a c (am H s.heap.objs.size (.lst g)) { s with heap:=s.heap.push { cls:=.type "list",data:=.seq e.toArray },toks:=t' }:=
 I.laid (λ_ _ q=>Ho _ q) (Hr _) ⟨h,e,0,f,HC _ S⟩
theorem Inv.fresh(I:Inv X a c H s):H s.heap.objs.size=Œ:=I.hok.fresh (Hr _)
theorem Inv.lstM(I:Inv X a c H s)(h:H l=Z (.lst xs)):xs.length<=sizeLine/\∃(f:Y Value)(n:Nat),Vals xs f/\xs.length=f.length/\s.heap.get? l=Z { cls:=.type "list",data:=.seq f.toArray n }:=by let⟨z,f,n,r,e⟩:=I.hok l _ h;show⟨z,f,n,r,r.length,e⟩
theorem xk{n:Nat}(h:n<=sizeLine):Builtin.List.listTooLong n=ŕ:=by unfold Builtin.List.listTooLong;show HJ ()
end
section
variable{X:Cx}
noncomputable def Ee:V->Y V->Hp->VK->Prop:=λx vs H Q=>∃l xs y,x=.ref l/\vs=[y]/\H l=Z (.lst xs)/\xs.length<sizeLine/\Q .non (am H l (.lst (xs++[y])))
theorem pJ:oU X "list.append" Ee:=by intro f s A H x vs v us Q I o j h;let⟨l,xs,y,rfl,rfl,c,w,q⟩:=h;cases o;let⟨u,rfl,g⟩:=j.one;let⟨z,a,n,r,p,e⟩:=I.lstM c;refine JQ F.slot_list_append ⟨_,e,S⟩ F.entry_list_append (F.args_list_append_2 _ _) (PySem.list_append l a.toArray n u (by rw[HB];omega)) ⟨e,?_⟩;refine⟨.non,_,I.lset (Mc:=a++[u]) c e (by simp) (r.append (.cons g .nil)) ?_,S,q⟩;rw[Hm,Im];omega
noncomputable def CA:V->Y V->Hp->VK->Prop:=λx vs H Q=>∃l xs i k y,x=.ref l/\vs=[.int i]/\H l=Z (.lst xs)/\-(2^63)<=i/\i<2^63/\Ā i xs.length=Z k/\xs[k]?=Z y/\Q y (am H l (.lst (xs.eraseIdx k)))
theorem FZ:oU X "list.pop" CA:=by
 intro f s K H x vs v us Q I J G h;let⟨l,xs,i,k,y,rfl,rfl,c,j,o,p,C,q⟩:=h;cases J;let⟨u,rfl,E⟩:=G.one;let⟨t,rfl⟩:=E;let⟨z,a,n,r,A,e⟩:=I.lstM c;let⟨w,B,g⟩:=r.get C
 refine JQ F.slot_list_pop ⟨_,e,S⟩ F.entry_list_pop (F.args_list_pop_2 _ _)
  (MeetsSeq.list_pop_at l a.toArray n i t k w (fitsIndex_both j o) (by rw[HB,←A];show p) (by rw[←Array.getElem?_toList];show B) (by rw[HB];omega)) ⟨e,?_⟩
 refine⟨y,_,I.lset (Mc:=a.eraseIdx k) c e ?_ (r.eraseIdx k) ?_,g,q⟩
 ·change a.toArray.eraseIdxIfInBounds k=(a.eraseIdx k).toArray;rw[Kz]
 ·have:=oy xs k;omega
noncomputable def DG:R2:=λx y H Q=>∃l b xs a,x=.ref l/\y=.ref b/\H l=Z (.lst xs)/\H b=Z (.lst a)/\xs.length+a.length<=sizeLine/\∀p,H p=Œ->Q (.ref p) (am H p (.lst (xs++a)))
theorem wA:bL X (Í .Add) DG:=by
 intro f s K H x y v u Q I A B h;let⟨l,b,xs,J,rfl,rfl,p,o,F,q⟩:=h;cases A;cases B;let⟨z,a,n,r,E,e⟩:=I.lstM p;let⟨G,c,n2,w,C,g⟩:=I.lstM o;refine PySem.P.add_list e g ?_ (by rw[HB,HB];omega)
 have j:a.toArray++c.toArray=(a++c).toArray:=by simp
 rw[j];show⟨.ref _,_,I.lnew (t':=s.toks) (r.append w) (by rw[Hm];omega),S,q _ I.fresh⟩
noncomputable def CY:R2:=λx y H Q=>∃l k xs,x=.ref l/\y=.int k/\H l=Z (.lst xs)/\-(2^63)<=k/\k<2^63/\xs.length*k.toNat<=sizeLine /\
 ∀p,H p=Œ->Q (.ref p) (am H p (.lst (List.replicate k.toNat xs).flatten))
theorem oR{c:Type}(xs:Y c)(k:Nat):(List.replicate k xs).flatten.length=k*xs.length:=by
 induction k with
 |zero=>simp
 |succ k a=>rw[ID,Ih,Hm,a,Nat.succ_mul,Nat.add_comm]
theorem Gz:bL X (Í .Mult) CY:=by
 intro p s R H x y v u Q I M N h;let⟨l,k,xs,rfl,rfl,K,G,J,o,q⟩:=h;cases M;let⟨t,rfl⟩:=N;let⟨z,c,n,r,L,e⟩:=I.lstM K
 have f:c.toArray.size*k.toNat<=sizeLine:=by rw[HB,←L];show o
 have A:¬ c.toArray.size*k.toNat>(2^63-1)/8:=by
  have:(sizeLine:Nat)<=(2^63-1)/8:=by decide
  omega
 have C:¬ (!Builtin.List.listFitsIndex k)=Ŕ:=by rw[fitsIndex_both G J];show Ig
 have B:¬ Builtin.List.listTooLong (c.toArray.size*k.toNat)=Ŕ:=by rw[xk f];show Ig
 have w:List.foldl (λg j=>g++j) #[] (List.replicate (if c.toArray.isEmpty=Ŕ then 0 else k.toNat) c.toArray)=(List.replicate k.toNat c).flatten.toArray:=by
  have E:∀m:Nat,List.foldl (λg j=>g++j) #[] (List.replicate m c.toArray)=(List.replicate m c).flatten.toArray:=λm=>by have:=pZ c m [];rw[J4]at this;show this
  rw[E]
  cases c with
  |nil=>simp
  |cons a P=>rw[Hq (by simp)]
 refine Đ (T:="list") (U:="int") 'b' ⟨_,e,S⟩ (λO=>Lc O k t) noFill_list_mul F.fills_int_mul KG repeat_list F.slot_int_index.lookup
  (JQ KG (Lc s k t) F.entry_int_rmul (F.args_int_rmul_2 _ _) (int___rmul___int_list k t l c.toArray n)
   ⟨e,S,⟨_,e,S⟩,JQ F.slot_list_mul ⟨_,e,S⟩ F.entry_list_mul (F.args_list_mul_2 _ _) (AutoListH.list___mul___list_int_3 l c.toArray n k t C A B) ⟨e,?_⟩⟩)
 rw[w];show⟨.ref _,_,I.lnew (t':=s.toks) (r.rep k.toNat) (by rw[oR,Lj];show o),S,q _ I.fresh⟩
end
end L2
namespace Att
open PySem PySem.W PySem.Calls PyProof.Rows
theorem zV{P:Ħ}{h:Heap}:∀(ns:Y Int)(vs:Y Value),WellAll P h vs (ns.map ő)->Ī vs ns:=by
 intro ns
 induction ns with
 |nil=>
  intro vs w;rw[List.map_nil]at w;cases w;show .nil
 |cons n ns c=>
  intro vs w;rw[HK]at w
  cases w with
  |cons a b=>
   cases a;show .cons _ _ (c _ b)
theorem xo{l:OpenLaw}{n:Nat}(hn:l.most=Z n){P:Ħ}{h:Heap}{args:Y WData}{vals:Y Value}
  (j:l.row.toRowW.claim.pre args=Ŕ) (u:WellAll P h vals args) :
  ∃a vs ns,vals=[Value.ref a]/\args=[WData.list (ns.map ő)]/\h.get? a=Z { cls:=.type "list",data:=.seq vs.toArray }/\Ī vs ns/\ns.length<=n:=by
 have g:WShape.hasAll [] args [.list .int]=Ŕ:=(pre_splitW j).1;have o:l.pre.holds [] { args:=args }=Ŕ:=(pre_splitW j).2;let⟨d,r,rfl,v,w⟩:=hasAllW_cons g;obtain rfl:=hasAllW_nil w;let⟨xs,rfl,x⟩:=hasW_list v;let⟨ns,rfl⟩:=items_int x
 have c:ns.length<=n:=by
  unfold OpenLaw.pre at o
  have e:(WTm.not (.lt (.lit (.int (n:Int))) (.len (.arg 0)))).holds [] { args:=[.list (ns.map .int)] }=Ŕ:=by have e:=(holds_andW o).1;rw[hn]at e;show e
  have f:=condW_of e (w_not (w_lt w_lit (w_len_list (w_arg S))));rw[Hj]at f;refine Nat.le_of_not_lt λq=>?_
  have y:(n:Int)<((ns.length:Nat):Int):=by omega
  first
   |(rw[Ij y]at f;show absurd f 'b')
   |(simp at f;omega)
 cases u with
 |cons z A=>
  cases A
  cases z with
  |list ho p=>show⟨_,_,ns,S,S,ho,zV ns _ p,c⟩
theorem FR(l:OpenLaw)(args:Y WData):l.row.toRowW.claim.post args (.bool Ŕ) args=Ŕ:=
 postW_of (r:=l.row.toRowW) (X:=(Ŕ==Ŕ))
  (show Ņ [] (.bool Ŕ) .bool=Ŕ by first|rfl|decide|simp[Ņ,WShape.arms,WShape.armsAll])
  (show (WTm.eq .res (.lit (.bool Ŕ))).value [] { args:=args,res:=Z (.bool Ŕ),after:=args }=Z (.bool (Ŕ==Ŕ))from w_eq_bool (w_res S) w_lit) S
theorem attach_call{l:OpenLaw}{n:Nat}{q:Å}{e:Y Str}{z:(Str->œ Value)->Heap->Prop}{A:È->Heap->Prop}{d:DefRec}
  (hn:l.most=Z n) (K:d.params.defaults=[])
  (call:∀(w:È)(s₀ c:À)(mg x:Str->œ Value)(j:Addr)(o:Ô)(y u g:Value)(a:Addr)(vs:Y Value)(ns:Y Int),
   Ground q e [] z w s₀ mg x c.heap->A w c.heap->
   c.heap.get? j=Z o->o.data=.func (docDef d.name d.params d.body d.scope y u g)->c.heap.CodeRec u d.name->mg d.name=Z (.ref j)->
   c.heap.get? a=Z { cls:=.type "list",data:=.seq vs.toArray }->Ī vs ns->ns.length<=n->c.gens=#[]->
   é (Ä l.prog w) ü (.call (.ref j) ⟨[.ref a],[]⟩) (λr v=>r=.ok (.ret (.bool Ŕ))/\OldK c.heap v.heap/\v.os=c.os/\ï v.gens) c) :
  WalkO q e z A l.row.toRowW d [] (λf vs=>PySem.call f vs):=by
 intro w s₀ c mg x G U j o y u g L kV ho hd E B H P args vals as F C T J Q;obtain rfl:L=.none:=Dflts.none B K;obtain rfl:kV=.none:=Dflts.noKw B;let⟨a,vs,ns,rfl,rfl,I,h,p⟩:=xo hn F J;refine enter_call (KD (call w s₀ c mg x j o y u g a vs ns G U ho (fd_plain hd) E H I h p P) λr v a_=>?_);let⟨rfl,M,N,O⟩:=a_;show⟨.inl ⟨.bool Ŕ,.bool Ŕ,[],S,λ_=>rfl,.bool Ŕ,FR l _,λ_=>⟨List.Pairwise.nil,λ_ R=>(nomatch R)⟩⟩,M,N,O⟩
end Att
namespace L2
open PySem PySem.Spec PyProof.Rows
theorem uZ:∀{vs:Y Value}{ns:Y Int},Ī vs ns->Vals (ns.map V.int) vs
 |_,_,.nil=>.nil
 |_,_,.cons n t h=>.cons ⟨t,S⟩ (uZ h)
noncomputable def qB(H:Hp):Prop:=∀b,H b=Œ\/∃o xs,H b=Z (.frz o (.lst xs))
theorem xS{P:Å}{w:È}{K:Â}{mg T:Str->œ Value}{CX:dG}{k:Nat}{O a:Addr}{be:Ì}{x:Str}{sp:Sp}{c:À}{vs:Y Value}{ns:Y Int}
  (U:K.In c.heap) (I:c.heap.Ns Á mg) (g:c.heap.Ns æ T) (PB:∀x:Str,x≠"__name__"->T x=Ü x) (Sf:c.heap.NoLimit)
  (Q:∃f p,mg "__builtins__"=Z (.ref f)/\f≠æ/\c.heap.get? f=Z p/\p.cls=.type "module"/\p.dict=Z æ/\p.data=.plain) (M:c.heap.NoSeer) (R:∃j,c.heap.Ns cStatics j/\j "sys.int_max_str_digits"=Œ) (hg:c.gens=#[])
  (C:c.heap.get? a=Z { cls:=.type "list",data:=.seq vs.toArray }) (hi:Ī vs ns) (hl:ns.length<=sizeLine) (hr:Room k ü)
  (F:∀base:Heap,K.In base->base.Ns Á mg->FnOk P w K mg base CX k O be [x] sp) (QA:∀(s:À)(u:Value),Ċ s be ⟨[u],[]⟩ [(x,u)])
  (Nx:∀H:Hp,qB H->SqL K H a (ns.map V.int)->sp [.ref a] H (λv _=>v=.bl Ŕ) λ_ _ _=>False)
  (Sg:∀H e l,CX [] H c (λ_ _ _=>False) e l->False) :
  é (Ä P w) ü (.call (.ref O) ⟨[.ref a],[]⟩) (λr l=>r=.ok (.ret (.bool Ŕ))/\OldK c.heap l.heap/\l.os=c.os/\ï l.gens) c:=by
 have rv:=uZ hi;have Sh:=hi.length
 have A:∀H:Hp,qB H->SqL K H a (ns.map V.int)->HOk P w H c.heap->(∀b,H b≠Œ->b=a)->(H a≠Œ->K.lookup a=Œ)->
   é (Ä P w) ü (.call (.ref O) ⟨[.ref a],[]⟩) (λr l=>r=.ok (.ret (.bool Ŕ))/\OldK c.heap l.heap/\l.os=c.os/\ï l.gens) c:=by
  intro H a_ hS hok N hK;have L:∀{b:Addr}{o:Ô},c.heap.get? b=Z o->H b=Œ->(gS c.heap H).get? b=Z o:=λe n=>xi e n
  have Qv:∀{b:Addr}{o:Ô}{es:Array DictEntry}{E:Nat},c.heap.get? b=Z o->o.data=.dict es E->H b=Œ:=λ{b o es E} e d=>by
   cases q:H b with
   |none=>rfl
   |some u=>
    have B:b=a:=N b (by rw[q];simp);subst B;rw[C]at e;cases e;have d':Data.seq vs.toArray _=Data.dict es E:=d;cases d'
  have y:∀{b:Addr}{m:Str->œ Value},c.heap.Ns b m->(gS c.heap H).Ns b m:=λ{b m} LR=>by let⟨o,es,E,e,d,r⟩:=LR;show⟨o,es,E,L e (Qv e d),d,r⟩
  have G:K.In (gS c.heap H):=λb o e=>L (U b o e) (by
   cases q:H b with
   |none=>rfl
   |some u=>
    have B:b=a:=N b (by rw[q];simp);subst B
    rw[hK (by rw[q];simp)]at e;cases e)
  have hM:Mod K mg (gS c.heap H):=⟨G,y I,⟨T,y g,PB⟩,let ⟨j,h1,h2⟩:=Sf;⟨j,y h1,h2⟩,let ⟨f,p,b1,b2,b3,b4,b5,b6⟩:=Q;⟨f,p,b1,b2,L b3 (by
   cases q:H f with
   |none=>rfl
   |some u=>
    have B:f=a:=N f (by rw[q];simp)
    rw[B,C]at b3;cases b3;injection b4 with z;show absurd z 'b'),b4,b5,b6⟩,
   ⟨let ⟨j,h1,h2⟩:=M.statics;⟨j,y h1,h2⟩,let ⟨j,h1,h2⟩:=M.mods;⟨j,y h1,h2⟩,let ⟨j,h1,h2⟩:=M.imp;⟨j,y h1,h2⟩,let ⟨m1,f,p,n1,b1,b3,b4,b5⟩:=M.main;⟨m1,f,p,y n1,b1,L b3 (by
   cases q:H f with
   |none=>rfl
   |some u=>
    have B:f=a:=N f (by rw[q];simp)
    rw[B,C]at b3;cases b3;injection b4 with z;show absurd z 'b'),b4,b5⟩⟩,let ⟨j,h1,h2⟩:=R;⟨j,y h1,h2⟩⟩
  have e0:Env0 P w K mg (gS c.heap H) ü [] c H:=⟨S,hM,λb o e=>yo e,Lg (Ez _ _),trivial,λb g=>absurd (show b∈([]:Y Addr)from g) (by simp),hok,.of_eq hg⟩;refine KD ((F _ G (y I)).run ü [] c H ⟨[.ref a],[]⟩ [.ref a] [.ref a] _ _ hr e0 (QA c (.ref a)) (.cons S .nil) (Nx H a_ hS)) λr l h=>?_
  cases r with
  |error e=>show (Sg H e l h).elim
  |ok fl=>
   cases fl with
   |next=>show Ñ h
   |brk=>show Ñ h
   |cont=>show Ñ h
   |ret u=>
    let⟨v,H',os,bare,un,Si,r',q⟩:=h;have q':v=.bl Ŕ:=q;subst q';obtain rfl:u=Value.bool Ŕ:=r';refine⟨S,OldK.of_keep λb o e=>?_,os,bare⟩
    cases q:H b with
    |none=>show un.keep b o e q (by intro z;show absurd (show b∈([]:Y Addr)from z) (by simp)) (by simp)
    |some u=>
     rcases a_ b with z|⟨p,xs,z⟩
     ·rw[q]at z;cases z
     ·have z2:=un.frzs b p _ z;let⟨X,_⟩:=hok b _ z;let⟨e2,_⟩:=Si b _ z2;rw[e]at X;cases X;show e2
 cases b_:K.lookup a with
 |some o=>
  have e:=U a o b_;rw[C]at e;cases e;refine A (λ_=>Œ) (λ_=>.inl S) (.inr ⟨_,vs.toArray,_,b_,S,S,S,by rw[HB,Sh];show hl,by simpa using rv⟩) (λb u z=>by have J:(Œ:œ HO)=Z u:=z;cases J) (λb z=>absurd S z) λz=>absurd S z
 |none=>
  refine A (λb=>if b=a then Z (.frz { cls:=.type "list",data:=.seq vs.toArray } (.lst (ns.map V.int))) else Œ) (λb=>?_) (.inl (.inr ⟨{ cls:=.type "list",data:=.seq vs.toArray },Hx S⟩)) (λb u z=>?_) (λb z=>?_) λ_=>b_
  ·by_cases g:b=a
   ·show .inr ⟨_,_,Hx g⟩
   ·show .inl (Hq g)
  ·by_cases g:b=a
   ·have J:=(Hx g).symm.trans z;cases J;subst g;show⟨C,by rw[Hj];show hl,vs,_,rv,C⟩
   ·have J:=(Hq g).symm.trans z;cases J
  ·by_cases g:b=a
   ·show g
   ·show absurd (Hq g) z
theorem walk_of{l:PySem.W.OpenLaw}{n k:Nat}{q:Å}{j:Y Str}{N:(Str->œ Value)->Heap->Prop}{B:È->Heap->Prop}{d:DefRec}{K:Ħ->Â}{CX:È->dG}{sp:È->Sp}{x:Str}
  (hn:l.most=Z n) (L:n<=sizeLine) (J:d.params.defaults=[]) (X:importsNone q=Ŕ) (a_:Room k ü)
  (b_:∀(w:È)(h:Heap),B w h->(K w.params).In h)
  (F:∀(w:È)(mg:Str->œ Value)(r:Addr)(h:Heap),(K w.params).In h->h.Ns Á mg->mg d.name=Z (.ref r)->
   ∃y:Ì,(∀(s:À)(u:Value),Ċ s y ⟨[u],[]⟩ [(x,u)]) /\
    ∀base:Heap,(K w.params).In base->base.Ns Á mg->FnOk l.prog w (K w.params) mg base (CX w) k r y [x] (sp w))
  (C:∀(w:È)(H:Hp)(a:Addr)(ns:Y Int),ns.length<=n->qB H->SqL (K w.params) H a (ns.map V.int)->sp w [.ref a] H (λv _=>v=.bl Ŕ) λ_ _ _=>False)
  (M:∀(w:È)(H:Hp)(s:À)(e:Value)(z:À),CX w [] H s (λ_ _ _=>False) e z->False) :
  PySem.W.WalkO q j N B l.row.toRowW d [] (λf vs=>PySem.call f vs):=by
 refine Att.attach_call hn J λw s₀ p mg mb r o pm cd O a vs ns G be ho hd L6 E I g c U=>?_;have A:=b_ w _ be;let⟨y,T,P⟩:=F w mg r _ A G.T.g E;show xS A G.T.g G.T.b G.T.builtins G.T.nolimit G.T.bmain (G.T.seer X) G.T.nodigits U I g (HZ c L) a_ P T (λH Q R=>C w H a ns c Q R) λH e z=>M w H p e z
end L2
/- THE LAST RE (shape; LID, My.* are yours):
   My.Adr: a structure of RF addresses that your layer names (classes, Qd); My.Txt K t: a structure (Prop) of RF equations over K;
   My.txt_mk : {K} {implicit addresses ..} (e1 : nsIn K mainGlobals "law" = some (some (.ref f))) (e2 : K.lookup f = some ⟨oc, od, .func (fnOf "law" "law" params body scope dV kV doc pm an L1 ct), sl⟩) (e3 : codeIn K L1 "law" = true) .. : ∃t, My.Txt K t
set_option maxRecDepth 100000 in
set_option maxHeartbeats 0 in
theorem PySem.Challenge.cw_LID_holds : PySem.Challenge.rw_LID.Holds := by
 w_on;o_law;k_head;(case hw=>w_witness2)
 k_fill
 refine L2.walk_of (l:=PySem.Challenge.rw_LID) (n:=63) (k:=40) (x:="script") (CX:=λw=>..) (sp:=λ_=>My.sp_law) S 'b' S ⟨S,'b','b'⟩ (λw h Q=>kIn_of Q) ?F ?U ?C
 case F=>
  intro w mg fa h KX G Py
  have T:∃t,My.Txt (L2.KOf KX) t:=by
   dsimp only[L2.KOf]                          -- K must stand as «<heap const> w.params» for k_is;refine' My.txt_mk ?e1 ?e2 ?e3 ..
   (case e1=>PySem.W.k_is)                    -- in RF order: a name-> LS address-> LS object-> LS parts
   (case e2=>PySem.W.k_is)
   ..
  let⟨t,T⟩:=T;have e0:=Py.symm.trans (mg_of KX G T.law);cases e0                                       -- fa is RF law's own address
  show⟨_,λs u=>.of_eq S,λbase kb nb=>My.law_fn T kb nb⟩     -- if «.of_eq S» comes too early: refine' ⟨_,?b,λbase kb nb=>My.law_fn T kb nb⟩;show λs u=>.of_eq S
 case U=>show λw H a ns hl hO hS=>..
 case C=>show ..
(RF tactic k_is has no namespace: write k_is) -/
namespace L2
open PySem PySem.Spec PyProof.Rows
noncomputable def fF(s:Ç)(j:Nat):Ç:=match s with
 |.ClassDef _ _ _ a _ _ _ _ _ _ _=>a.getD j (.Pass ⟨0,0,0,0⟩)
 |_=>.Pass ⟨0,0,0,0⟩
noncomputable def iE(s:Ç):Arguments:=match s with
 |.FunctionDef _ a _ _ _ _ _ _ _ _=>a
 |_=>{ posonlyargs:=[],args:=[],vararg:=Œ,kwonlyargs:=[],kw_defaults:=[],kwarg:=Œ,defaults:=[] }
noncomputable def fY(s:Ç):Y Ç:=match s with
 |.FunctionDef _ _ b _ _ _ _ _ _ _=>b
 |_=>[]
noncomputable def ar(s:Ç):â:=match s with
 |.FunctionDef _ _ _ _ _ _ a _ _ _=>a
 |_=>{ kind:=.function,names:=[],isGenerator:=ŕ,isCoroutine:=ŕ }
noncomputable abbrev aD:dG:=λ_ _ _ _ _ _=>False
noncomputable abbrev E0:XK:=λ_ _ _=>False
theorem je{X:Cx}:iU aD X E0:=λ_ _ _ _ _ _ _ h=>h.elim
structure Fun(K:Â)(x qual:Str)(st:Ç)(f:Addr)(fd:Ì):Prop where
 ex:∃(oc:Value)(od:Option Addr)(kV doc pm:Value)(an:Option Addr)(L1 ct:Value)(Ot:Array (Option Value)),
  fd=Ĕ x qual (iE st) (fY st) (ar st) .none kV doc pm an L1 ct/\K.lookup f=Z ⟨oc,od,.func fd,Ot⟩/\Ă K L1 qual=Ŕ
 kp:ã K (.ref f)=Ŕ
section
variable{P:Å}{w:È}{K:Â}{mg:Str->œ Value}{base:Heap}
theorem Fun.ok{x qual:Str}{st:Ç}{f:Addr}{c:Ì}{N ps:Y Str}{k:Nat}{sp:Sp}(F:Fun K x qual st f c)(U:FnScope N ps (ar st))(len:∀vs H Q E,sp vs H Q E->vs.length=ps.length)
  (j:∀(a:Value)(A:Ê)(outer:Y ì)(s:À)(H:Hp)(vs:Y V)(Q:VK)(E:XK),Room k (A.deeper (ê qual (ar st) s.heap.objs.size f a))->sp vs H Q E->
   ∃t,PSs (gJ aD P w K mg base N qual (ar st) f a A outer s H E).nox (fY st) t/\t { nx:=λ_ e=>Q .non e,rt:=Q } (eo N vs) H):FnOk P w K mg base aD (k+1) f c ps sp:=by
 let⟨v,y,kV,o,z,u,a,ct,r,rfl,lk,g⟩:=F.ex;refine vF lk g U len λA outer s H vs Q E p l=>?_;let⟨t,h,q⟩:=j a A outer s H vs Q E p l;show⟨t,h.nox,q⟩
theorem Fun.binds{x qual:Str}{st:Ç}{f:Addr}{j:Ì}{ps:Y Str}(F:Fun K x qual st f j)
  (h:∀(kV a g:Value)(e:œ Addr)(c ct:Value)(us:Y Value),us.length=ps.length->bindArgs (Ĕ x qual (iE st) (fY st) (ar st) .none kV a g e c ct) ⟨us,[]⟩=pure (ps.zip us)):Binds K j ps []:=by
 let⟨p,r,kV,a,g,e,c,ct,o,rfl,lk,l⟩:=F.ex;show .all (h kV a g e c ct)
theorem rS{x qual:Str}{st:Ç}{f:Addr}{o:Value}{p g:œ Addr}{j:Array (œ Value)}{kV a h e ct:Value}(l:K.lookup f=Z ⟨o,p,.func (Ĕ x qual (iE st) (fY st) (ar st) .none kV a h g e ct),j⟩)
  (c:Ă K e qual=Ŕ) (k:ã K (.ref f)=Ŕ):Fun K x qual st f (Ĕ x qual (iE st) (fY st) (ar st) .none kV a h g e ct):=⟨⟨o,p,kV,a,h,g,e,ct,j,S,l,c⟩,k⟩
end
theorem bu{n:Nat}(h:n<=1000):n<sizeLine:=JR h 'b'
section
variable{X:Cx}
theorem pv(i:Nat){x:Str}{a:Õ}(e:X.N[i]?=Z x:=by rfl)(f:cI X.env.scope x:=by nofun)(hd:ab x:=by decide)
  (c:fI x:=by decide):PE X (.Name x a) (jS i):=Dc e f hd c
end
theorem js{A B:Prop}(h:B):if ŕ=Ŕ then A else B:=by rw[Hq Ig];show h
theorem jx{A B:Prop}(h:A):if Ŕ=Ŕ then A else B:=by rw[Hx S];show h
noncomputable def Same(H a:Hp):Prop:=∀b o,H b=Z o->a b=Z o
theorem Same.refl(H:Hp):Same H H:=λ_ _ h=>h
theorem Same.trans{H e f:Hp}(a:Same H e)(b:Same e f):Same H f:=λc o h=>b c o (a c o h)
theorem Same.free{H a:Hp}(e:Same H a){l:Addr}(h:a l=ļ):H l=ļ:=by
 cases q:H l with
 |none=>rfl
 |some o=>
  rw[e l o q]at h;cases h
theorem Same.seq{K:Â}{H c:Hp}{a:Addr}{xs:Y V}(e:Same H c)(h:SqL K H a xs):SqL K c a xs:=by
 rcases h with (h|⟨o,h⟩)|h
 ·show .inl (.inl (e _ _ h))
 ·show .inl (.inr ⟨o,e _ _ h⟩)
 ·show .inr h
section
variable{a:Type}[DecidableEq a]
noncomputable def fb(c:Y (a×V))(k:a):œ V:=(c.find? λe=>decide (e.1=k)).map (·.2)
noncomputable def fE(e:Y (a×V))(k:a)(v:V):Y (a×V):=
 if (e.any λc=>decide (c.1=k))=Ŕ then e.map (λc=>if c.1=k then (c.1,v) else c) else e++[(k,v)]
theorem mO{p:a×V}{r:Y (a×V)}{k:a}(e:p.1=k):fb (p::r) k=Z p.2:=by simp[fb,Jm,e]
theorem nt{p:a×V}{r:Y (a×V)}{k:a}(e:¬ p.1=k):fb (p::r) k=fb r k:=by simp[fb,Jm,e]
theorem qM(k:a):∀c:Y (a×V),(c.any λf=>decide (f.1=k))=(fb c k).isSome
 | []=>rfl
 |p::r=>by
  rw[JE];by_cases e:p.1=k
  ·simp only[mO e,Ij e,Bool.true_or,đ]
  ·rw[nt e,HJ e,Bool.false_or];show qM k r
theorem uN(c:Y (a×V))(k:a)(v:V):(fE c k v).length<=c.length+1:=by
 unfold fE;split
 ·rw[Hj];omega
 ·rw[Hm,HD,IZ];omega
theorem RelO.isSome_eq{o:œ V}{u:œ Value}(r:RelO o u):o.isSome=u.isSome:=by
 cases o with
 |none=>cases u with
  |none=>rfl
  |some _=>show (show False from r).elim
 |some _=>cases u with
  |none=>show (show False from r).elim
  |some _=>rfl
theorem KV.val{g:Y (a×V)}{vs:Y (a×Value)}(r:KV g vs)(k:a):RelO (fb g k) (û vs k):=by
 unfold KV at r
 induction r with
 |nil=>show Ý
 | @cons p q ps f h t o=>
  let⟨j,l⟩:=h;by_cases e:p.1=k
  ·have c:q.1=k:=j.symm.trans e
   have b:û (q::f) k=Z q.2:=by simp[û,Jm,c]
   rw[mO e,b];show l
  ·have c:¬ q.1=k:=λz=>e (j.trans z)
   have b:û (q::f) k=û f k:=by simp[û,Jm,c]
   rw[nt e,b];show o
theorem KV.any{e:Y (a×V)}{vs:Y (a×Value)}(r:KV e vs)(k:a):(e.any λc=>decide (c.1=k))=vs.any λc=>decide (c.1=k):=by
 unfold KV at r
 induction r with
 |nil=>rfl
 |cons h t f=>rw[JE,JE,f,h.1]
theorem KV.repl{g:Y (a×V)}{vs:Y (a×Value)}(r:KV g vs)(k:a){y:V}{u:Value}(o:RelV y u) :
  KV (g.map λc=>if c.1=k then (c.1,y) else c) (vs.map λc=>if c.1=k then (c.1,u) else c):=by
 unfold KV at r ⊢
 induction r with
 |nil=>show .nil
 | @cons p q ps v h t l=>
  rw[HK,HK];refine .cons ?_ l;let⟨f,j⟩:=h;by_cases e:p.1=k
  ·rw[Hx e,Hx (f.symm.trans e)];show⟨f,o⟩
  ·rw[Hq e,Hq (λz=>e (f.trans z))];show⟨f,j⟩
theorem KV.put{c:Y (a×V)}{vs:Y (a×Value)}(r:KV c vs)(k:a){y:V}{u:Value}(f:RelV y u):KV (fE c k y) (stored vs k u):=by
 unfold fE stored;rw[r.any k];by_cases e:(vs.any λg=>decide (g.1=k))=Ŕ
 ·rw[Hx e,Hx e];show r.repl k f
 ·rw[Hq e,Hq e];show Ĉ r ⟨S,f⟩
theorem KV.length{c:Y (a×V)}{vs:Y (a×Value)}(r:KV c vs):c.length=vs.length:=Ko r
end
theorem l7{P:Å}{w:È}{k:av}{u:Value}(r:RelV (kV k) u):(eZ P w).is k u=Ŕ:=by
 cases k with
 |inl i=>let⟨t,e⟩:=(show ∃t,u=Value.int i t from r);subst e;show zN P w i t
 |inr x=>let⟨t,e⟩:=(show ∃t,u=Value.str x t from r);subst e;show CJ P w x t
theorem tm{P:Å}{w:È}:∀{a:Y av}{us:Y Value},Vals (a.map kV) us->ItemsAre (eZ P w) a us
 | [],_,r=>by rw[List.map_nil]at r;cases r;show .nil
 |k::a,_,r=>by
  rw[HK]at r
  cases r with
  |cons h t=>show .cons (l7 h) (tm t)
noncomputable abbrev KT(H:Hp):Y (Y av×V)->Y (Y av×Addr×Value)->Prop:=Paired λp q=>p.1=q.1/\H q.2.1=Z (.tup (p.1.map kV))/\RelV p.2 q.2.2
theorem KT.val{H:Hp}{f:Y (Y av×V)}{xs:Y (Y av×Addr×Value)}(r:KT H f xs)(k:Y av):RelO (fb f k) ((Ď xs k).map (·.2)):=by
 induction r with
 |nil=>show Ý
 | @cons p q ps c h t l=>
  let⟨g,_,j⟩:=h;by_cases e:p.1=k
  ·have a:q.1=k:=g.symm.trans e
   have b:Ď (q::c) k=Z q.2:=by simp[Ď,Jm,a]
   rw[mO e,b];show j
  ·have a:¬ q.1=k:=λz=>e (g.trans z)
   have b:Ď (q::c) k=Ď c k:=by simp[Ď,Jm,a]
   rw[nt e,b];show l
theorem KT.repl{H:Hp}{f:Y (Y av×V)}{xs:Y (Y av×Addr×Value)}(r:KT H f xs)(k:Y av){y:V}{u:Value}(o:RelV y u) :
  KT H (f.map λc=>if c.1=k then (c.1,y) else c) (xs.map (putAt k u)):=by
 induction r with
 |nil=>show .nil
 | @cons p q ps v h t l=>
  rw[HK,HK];refine .cons ?_ l;let⟨a,g,j⟩:=h;unfold putAt;by_cases e:p.1=k
  ·rw[Hx e,Hx (a.symm.trans e)];show⟨a,g,o⟩
  ·rw[Hq e,Hq (λz=>e (a.trans z))];show⟨a,g,j⟩
theorem KT.put{H:Hp}{a:Y (Y av×V)}{xs:Y (Y av×Addr×Value)}(r:KT H a xs)(k:Y av){b:Addr}{y:V}{u:Value}(f:H b=Z (.tup (k.map kV)))(c:RelV y u) :
  KT H (fE a k y) (storedH xs k b u):=by
 have e:(a.any λg=>decide (g.1=k))=(Ď xs k).isSome:=by rw[qM,(r.val k).isSome_eq,Ė]
 unfold fE storedH;rw[e];by_cases q:(Ď xs k).isSome=Ŕ
 ·rw[Hx q,Hx q];show r.repl k c
 ·rw[Hq q,Hq q];show Ĉ r ⟨S,f,c⟩
theorem KT.keeps{H a:Hp}{c:Y (Y av×V)}{xs:Y (Y av×Addr×Value)}(r:KT H c xs)(f:∀b e,H b=Z (.tup e)->a b=Z (.tup e)):KT a c xs:=
 Paired.mapP r λ_ _ z=>⟨z.1,f _ _ z.2.1,z.2.2⟩
section
variable{P:Å}{w:È}{H:Hp}{h:Heap}{a:Addr}
theorem tw{u:HO}(ok:HOk P w H h)(e:Rd H a u):ObjOk P w H h a u:=e.ok ok
theorem lU{c:Y (av×V)}(ok:HOk P w H h)(e:Rd H a (.dK c)):c.length<=sizeLine/\(a==Ú)=ŕ/\∃vs,KV c vs/\h.DictOf (eZ P w) a vs:=
 show ObjOk P w H h a (.dK c)from tw ok e
theorem wf{c:Y (av×V)}(ok:HOk P w H h)(e:H a=Z (.dK c)):c.length<=sizeLine/\(a==Ú)=ŕ/\∃vs,KV c vs/\h.DictOf (eZ P w) a vs:=lU ok (.inl e)
theorem lr{c:Y av}(ok:HOk P w H h)(e:H a=Z (.tup (c.map kV))):(ÿ (eZ P w)).is h c a:=by let⟨_,f,r,o,g,⟨j,_⟩,n,l⟩:=(show ObjOk P w H h a (.tup (c.map kV))from ok a _ e);show⟨o,f.toArray,n,g,j,l,by simpa using tm r⟩
theorem mV{f:Y (Y av×V)}(ok:HOk P w H h)(e:Rd H a (.dT f)):f.length<=sizeLine/\(a==Ú)=ŕ /\
  ∃xs,KT H f xs/\h.DictOfH (ÿ (eZ P w)) a xs:=by
 let⟨z,y,xs,r,o,es,j,u,v,A,B,C⟩:=(show ObjOk P w H h a (.dT f)from tw ok e);refine⟨z,y,xs,r,o,es,j,u,v,A,B,λx c=>?_,C⟩
 have all:∀{l:Y (Y av×V)}{m:Y (Y av×Addr×Value)},KT H l m->∀x∈m,(ÿ (eZ P w)).is h x.1 x.2.1:=by
  intro l m q
  induction q with
  |nil=>intro x c;show nomatch c
  | @cons p q ps F g t E=>
   intro x c;rcases HH.mp c with e|c
   ·subst e;show lr ok (by rw[←g.1];show g.2.1)
   ·show E x c
 show all r x c
theorem EN{c:Y (Y av×V)}(ok:HOk P w H h)(e:H a=Z (.dT c)):c.length<=sizeLine/\(a==Ú)=ŕ /\
  ∃xs,KT H c xs/\h.DictOfH (ÿ (eZ P w)) a xs:=mV ok (.inl e)
end
noncomputable def DGet(H:Hp)(a:Addr)(y:V)(r:œ V):Prop:=
 (∃c k,Rd H a (.dK c)/\y=kV k/\r=fb c k)\/∃c k b,Rd H a (.dT c)/\y=.ref b/\H b=Z (.tup (k.map kV))/\r=fb c k
noncomputable def DPut(H:Hp)(a:Addr)(y v:V)(e:Hp):Prop:=
 (∃c k,H a=Z (.dK c)/\y=kV k/\c.length<sizeLine/\e=am H a (.dK (fE c k v))) \/
 ∃c k b,H a=Z (.dT c)/\y=.ref b/\H b=Z (.tup (k.map kV))/\c.length<sizeLine/\e=am H a (.dT (fE c k v))
theorem DGet.t{H:Hp}{a b:Addr}{c:Y (Y av×V)}{k:Y av}(e:H a=Z (.dT c))(f:H b=Z (.tup (k.map kV))):DGet H a (.ref b) (fb c k):=.inr ⟨c,k,b,.inl e,S,f,S⟩
theorem DPut.t{H:Hp}{a b:Addr}{c:Y (Y av×V)}{k:Y av}{v:V}(e:H a=Z (.dT c))(f:H b=Z (.tup (k.map kV)))(g:c.length<sizeLine) :
  DPut H a (.ref b) v (am H a (.dT (fE c k v))):=.inr ⟨c,k,b,e,S,f,g,S⟩
section
variable{X:Cx}{f:Y (Addr×Ô)}{j:St}{H:Hp}{s:À}{a:Addr}{y v:V}{u r:Value}{o:œ V}{A:Ê}{E:Value->À->Prop}
theorem Inv.big(I:Inv X f j H s):Ú<s.heap.objs.size:=by have h:Á<s.heap.objs.size:=(I.mod.glob.keeps I.bk).lt;show KH 'b' h
theorem wF{Q:Value->À->Prop}(O:A.units+1<å)(I:Inv X f j H s)(g:DGet H a y (Z v))(G:RelV y u)(h:∀w J,Inv X f j H J->RelV v w->Q w J) :
  wpAny (Ä X.prog X.w) A (ä (.ref a) u) Q E s:=by
 rcases g with⟨K,k,e,C,l⟩|⟨K,k,b,e,C,M,l⟩
 ·subst C;let⟨z,hd,vs,c,B⟩:=lU I.hok e;let⟨w,F,x⟩:=RelO.some_of (v:=v) (o:=û vs k) (by rw[l];show c.val k);show wpAny_getItem_of (l7 G) B.mapOf F (h w _ (I.tok _) x)
 ·subst C;cases (show u=Value.ref b from G);let⟨z,hd,xs,c,B⟩:=mV I.hok e;let⟨w,F,x⟩:=RelO.some_of (v:=v) (o:=(Ď xs k).map (·.2)) (by rw[l];show c.val k);let⟨p,N,L⟩:=Jy.mp F;refine wpAny_getItem_heap (K2 O) (lr I.hok M) B N ?_;rw[L];show h w _ (I.tok _) x
theorem C6{Q:Value->À->Prop}(G:A.units+1<å)(I:Inv X f j H s)(g:DGet H a y o)(x:RelV y u)(h:∀B,Inv X f j H B->Q (.bool o.isSome) B) :
  wpAny (Ä X.prog X.w) A (É .In u (.ref a)) Q E s:=by
 rcases g with⟨C,k,e,w,l⟩|⟨C,k,b,e,w,F,l⟩
 ·subst w;let⟨z,hd,vs,c,p⟩:=lU I.hok e;refine wpAny_in_of (l7 x) hd p.mapOf ?_;rw[←(c.val k).isSome_eq,←l];show h _ (I.tok _)
 ·subst w;cases (show u=Value.ref b from x);let⟨z,hd,xs,c,p⟩:=mV I.hok e;refine wpAny_in_heap (K2 G) (lr I.hok F) hd p ?_;have q:=(c.val k).isSome_eq;rw[Ė]at q;rw[←q,←l];show h _ (I.tok _)
theorem rG{h':Heap}{t':Nat}{c:HO}(I:Inv X f j H s)(mu:kj (H a))(l:Heap.SameBut a s.heap h')(h:∃q,h'.get? a=Z q)(new:ObjOk X.prog X.w (am H a c) h' a c) :
  Inv X f j (am H a c) { s with heap:=h',toks:=t' }:=
 I.write (x:=a) (e:=a) mu (.inl S) (λb q g z=>(l.2 b g).trans z) h new
theorem Bp{P:Å}{w:È}{g:Hp}{h':Heap}{c:Y (av×V)}{vs:Y (av×Value)}(z:c.length<=sizeLine)(hd:(a==Ú)=ŕ)(e:KV c vs)(h:h'.DictOf (eZ P w) a vs) :
  ObjOk P w g h' a (.dK c):=⟨z,hd,vs,e,h⟩
theorem D6{M:Hp}{Q:Unit->À->Prop}(hu:A.units+1<å)(I:Inv X f j H s)(g:DPut H a y v M)(R:RelV y u)(P:RelV v r)(h:∀b_,Inv X f j M b_->Q Unit.unit b_) :
  wpAny (Ä X.prog X.w) A (setItem (.ref a) u r) Q E s:=by
 rcases g with⟨w,k,e,G,l,F⟩|⟨w,k,b,e,G,N,l,F⟩
 ·subst G F;let⟨z,hd,vs,p,C⟩:=wf I.hok e
  have L:vs.length<=sizeLine:=by rw[←p.length];show z
  have J:(fE w k v).length<=sizeLine:=by have:=uN w k v;omega
  refine wpAny_setItem_pairs (hsz:=L) (l7 R) C λh' x K=>h _ ?_
  have he:∃q,h'.get? a=Z q:=let ⟨q,_,_,B,_⟩:=x;⟨q,B⟩
  show rG I (by rw[e];show Ý) K he (Bp J hd (p.put k P) x)
 ·subst G F;cases (show u=Value.ref b from R);let⟨z,hd,xs,p,C⟩:=EN I.hok e
  have L:xs.length<=sizeLine:=by rw[←Ko p];show z
  have J:(fE w k v).length<=sizeLine:=by have:=uN w k v;omega
  refine wpAny_setItem_heap (hsz:=L) (K2 hu) (lr I.hok N) C λh' x K=>h _ ?_;let⟨q,es,T,B,U,be,a_,_,h5⟩:=x;refine rG I (by rw[e];show Ý) K ⟨q,B⟩ ⟨J,hd,_,(p.put k N P).keeps λc ys O=>?_,q,es,T,B,U,be,a_,h5⟩;rw[aS (EO O e (λz=>nomatch z))];show O
end
noncomputable def pS(i:Ã):Prop:=∀c a,ă i ŕ c a=operate [c,a] (ä c a)
theorem xW{prog:Å}{w:È}{A:Ê}{E:Value->À->Prop}{s:À}{env:ì}{c a:Ã}{v:Õ}{T id:String}{Q:Value->À->Prop}
  (z:typeLookup (.type T) "__getitem__"=pure (Z (.builtin id))) (B:pS a)
  (h:wpAny (Ä prog w) A (eval c env) (λo g=>wpAny (Ä prog w) A (eval a env) (λi e=>e.TypeIs o T/\wpAny (Ä prog w) A (ä o i) Q E e) E g) E s) :
  wpAny (Ä prog w) A (eval (.Subscript c a v) env) Q E s:=by
 refine Subscript_ (Jd h (λo g p=>Jd p (λi e f=>?_) λ_ _ x=>x) λ_ _ x=>x);let⟨y,f⟩:=f;unfold ĕ;refine Hn ?_;rw[getitemInPython_of_ne y.not_modules];refine Hn (ō y z ?_)
 have l:wpAny (Ä prog w) A (ă a ŕ o i) (λr j=>wpAny (Ä prog w) A (letTemporaryGo c o r >>= λ_=>pure r) Q E j) E e:=by rw[B o i];show wpAny_operating (Jd f (λr j u=>Hn (wpAny_letTemporaryGo (HA u))) λ_ _ x=>x)
 first
  |show HA (Hn l)
  |show Hn (HA (Hn l))
  |show Hn l
theorem FC{X:Cx}{c:Y (Addr×Ô)}{j:St}{H:Hp}{s:À}{a:Addr}{y:V}{o:œ V}(I:Inv X c j H s)(g:DGet H a y o):s.TypeIs (.ref a) "dict":=by
 rcases g with⟨h,k,e,_,_⟩|⟨h,k,b,e,_,_,_⟩
 ·let⟨_,_,vs,_,f⟩:=lU I.hok e;show f.typeIs
 ·let⟨_,_,xs,_,f⟩:=mV I.hok e;show f.typeIs
noncomputable def Dq(td g:TE):TE:=λe H Q=>td e H λx f=>g e f λy c=>∃a v,x=.ref a/\DGet c a y (Z v)/\Q v c
noncomputable def Dz(g td:TE):TE:=λe H Q=>g e H λy f=>td e f λx c=>∃a o,x=.ref a/\DGet c a y o/\Q (.bl o.isSome) c
noncomputable def xp(td l j:TE):TS:=λD c H=>j c H λv f=>td c f λx g=>l c g λy h=>∃a e,x=.ref a/\DPut h a y v e/\D.nx c e
section
variable{X:Cx}{o i c:Ã}{f e:Õ}{td j l:TE}
theorem wj(J:X.A.units+1<å)(ho:PE X o td)(F:PE X i j)(G:pS i):PE X (.Subscript o i f) (Dq td j):=by intro p s w H Q I h;refine xW PySem.F.slot_dict_getitem.lookup G (ax (ho p s w H _ I h) λu O ⟨x,z,B,M,K⟩=>ax (F p O w z _ B K) λP R ⟨y,A,r,N,a,v,ex,g,L⟩=>?_);subst ex;obtain rfl:u=Value.ref a:=M;show⟨FC r g,wF J r g N λT U C E=>⟨v,A,C,E,L⟩⟩
theorem Be(E:X.A.units+1<å)(C:PE X i j)(ho:PE X o td):PC X .In i o (Dz j td):=by intro p s r H Q I h;refine ax (C p s r H _ I h) λN M ⟨y,v,z,L,G⟩=>ax (ho p M r v _ z G) λu O ⟨x,w,A,K,a,F,ex,g,J⟩=>?_;subst ex;obtain rfl:u=Value.ref a:=K;show C6 E A g L λP B=>⟨.bl F.isSome,w,B,S,J⟩
theorem FA(L:X.A.units+1<å)(ho:PE X o td)(J:PE X i j)(M:PE X c l)(K:Ð c (Z (.Subscript o i e)) f.line X.env=pure ŕ) :
  PS X (.Assign [.Subscript o i e] c f) (xp td j l):=by
 intro p s w H D I h;refine wpAny_Assign_Subscript (ax (M p s w H _ I h) λr T ⟨v,z,C,Q,N⟩=>ax (ho p T w z _ C N) λu U ⟨x,A,E,R,O⟩=>ax (J p U w A _ E O) λa_ s3 ⟨y,be,F,b_,a,B,ex,g,P⟩=>?_) K;subst ex;obtain rfl:u=Value.ref a:=R;show D6 L F g b_ Q λs4 G=>⟨w,B,G,P⟩
end
theorem yW{P:Å}{w:È}{H:Hp}(h:Heap)(a:Ú<h.objs.size):ObjOk P w H (h.push { cls:=.type "dict",data:=.dict #[] }) h.objs.size (.dT []):=
 ⟨Jx _,Jq.mpr (IE (HX a)),[],.nil,_,#[],0,HC _ S,⟨S,S,S⟩,S,S,List.nodup_nil⟩
noncomputable def wG:TE:=λ_ H Q=>∀p,H p=Œ->Q (.ref p) (am H p (.dT []))
section
variable{X:Cx}{c:Õ}
theorem pe_dnewT:PE X (.Dict [] [] c) wG:=λe s f H Q I h=>
 wpAny_Dict_empty ⟨.ref s.heap.objs.size,_,I.laid (a:=s.heap.objs.size) (o:=.dT []) (t':=s.toks) (λ_ _ q=>Ho _ q) (Hr _) (yW s.heap I.big),S,h _ (I.hok.fresh (Hr _))⟩
end
end L2
set_option maxHeartbeats 4000000
namespace L2
open PySem PySem.Spec PyProof.Rows
theorem wK{env:ì}(names:Y (Str×NameKind))(y:∀x∈names,x.2=.free->∃c,env.cells.lookup x.1=Z c):∀f:Y (Str×Addr),
  ∃cl:Y (Str×Addr),(forIn names f (λ(x:Str×NameKind) v=>if (x.2==.free)=Ŕ then do let a ←cellOf env x.1;pure (ForInStep.yield ((x.1,a)::v)) else pure (ForInStep.yield v)):Sem (Y (Str×Addr)))=pure cl /\
   (∀p∈cl,p∈f\/env.cells.lookup p.1=Z p.2)/\(∀p∈f,p∈cl)/\∀x,(x,NameKind.free)∈names->∃c,(x,c)∈cl:=by
 induction names with
 |nil=>intro f;show⟨f,S,λp g=>.inl g,λ_ g=>g,λx h=>by simp at h⟩
 |cons n r B=>
  intro f;let⟨n,k⟩:=n;have A:∀x∈r,x.2=.free->∃c,env.cells.lookup x.1=Z c:=λx h=>y x (Hv _ h);by_cases u:k=.free
  ·subst u;let⟨c,w⟩:=y (n,.free) Ht S;let⟨cl,e,l,j,o⟩:=B A ((n,c)::f);refine⟨cl,?_,λp g=>?_,λp g=>j p (Hv _ g),λx h=>?_⟩
   ·rw[KI,←e]
    have q:cellOf env n=pure c:=by unfold cellOf;rw[w]
    simp[q]
   ·rcases l p g with z|z
    ·rcases HH.mp z with rfl|z
     ·show .inr w
     ·show .inl z
    ·show .inr z
   ·rcases HH.mp h with z|z
    ·cases z;show⟨c,j _ Ht⟩
    ·show o x z
  ·let⟨cl,e,l,j,o⟩:=B A f;refine⟨cl,?_,l,j,λx h=>?_⟩
   ·rw[KI,←e]
    have q:(k==NameKind.free)=ŕ:=by simpa using u
    simp[q]
   ·rcases HH.mp h with z|z
    ·cases z;show absurd S u
    ·show o x z
theorem BX{cl:Y (Str×Addr)}{cells:Y (Str×Addr)}(h:∀p∈cl,cells.lookup p.1=Z p.2):∀x c,cl.lookup x=Z c->cells.lookup x=Z c:=λx c e=>h (x,c) (Iz e)
theorem Ev{cl:Y (Str×Addr)}{x:Str}{c:Addr}:(x,c)∈cl->∃a,cl.lookup x=Z a:=by
 induction cl with
 |nil=>intro h;simp at h
 |cons p r f=>
  intro h;rw[HN]
  cases e:x==p.1 with
  |true=>show⟨_,S⟩
  |false=>
   rcases HH.mp h with z|z
   ·subst z;simp at e
   ·show f z
theorem vd{scope:â}{env:ì}(h:∀x∈scope.names,x.2=.free->∃c,env.cells.lookup x.1=Z c) :
  ∃cl,closureFor scope env=pure cl/\(∀x c,cl.lookup x=Z c->env.cells.lookup x=Z c)/\∀x,(x,NameKind.free)∈scope.names->∃c,cl.lookup x=Z c:=by
 let⟨cl,e,a,_,f⟩:=wK (env:=env) scope.names h [];refine⟨cl,?_,BX λp j=>(a p j).elim (λz=>by simp at z) id,λx l=>?_⟩
 ·unfold closureFor;simp only;rw[←e];simp
 ·let⟨c,g⟩:=f x l;show Ev g
theorem pG{env:ì}:∀{names:Y (Str×NameKind)}{x:Str}{k:NameKind},
  (names.map λ(n,k)=>if (k==NameKind.free&&env.scope.kind==.function&&env.kindOf n==Z .cell) then (n,NameKind.cell) else (n,k)).lookup x=Z k->(k=.cell\/k=.free)->(x,NameKind.free)∈names\/(x,NameKind.cell)∈names
 | [],_,_,h,_=>by simp at h
 |(n,k)::r,x,j,h,c=>by
  have g:=@pG env r x j;have h:List.lookup x ((if (k==NameKind.free&&env.scope.kind==.function&&env.kindOf n==Z .cell)=Ŕ then (n,NameKind.cell) else (n,k))::_)=_:=h;by_cases a:(k==NameKind.free&&env.scope.kind==.function&&env.kindOf n==Z .cell)=Ŕ
  ·rw[Hx a]at h
   have l:k=.free:=by simp only[IW,JY]at a;show a.1.1
   rw[HN]at h
   cases e:x==n with
   |true=>
    have:x=n:=by simpa using e
    subst this;subst l;show .inl Ht
   |false=>
    simp only[e]at h;show (g h c).imp (Hv _) (Hv _)
  ·rw[Hq a]at h;rw[HN]at h
   cases e:x==n with
   |true=>
    have f:k=j:=by simpa [e] using h
    have:x=n:=by simpa using e
    subst this;subst f;rcases c with rfl|rfl
    ·show .inr Ht
    ·show .inl Ht
   |false=>
    simp only[e]at h;show (g h c).imp (Hv _) (Hv _)
noncomputable def bH(X:Cx)(scope:â)(N':Y Str)(cl:Y (Str×Addr))(C:Addr)(e:À)(a:Hp)(c:Y Addr):Cx where
 prog:=X.prog
 w:=X.w
 K:=X.K
 mg:=X.mg
 base:=X.base
 A:=X.A
 N:=N'
 s₀:=e
 H₀:=a
 env:=č scope cl C X.env
 outer:=X.stack
 stack:=X.stack
 ex:=c
 fn:=λx=>scope.names.lookup x==Z .cell
 calm:=X.calm
 pn:=[]
 xe:=λ_ _=>False
noncomputable def dZ(cap:Y (œ Nat))(a:St):St:=cap.map λo=>o.bind λi=>(a[i]?).join
structure CompScope(N:List Str)(sc scope:â)(N':List Str)(cap:List (Option Nat)):Prop where
 kind:scope.kind=.function
 cel:∀x∈scope.names,x.2=.cell->scope.names.lookup x.1=Z .cell
 names:∀x∈scope.names,x.2=.local->scope.names.lookup x.1=Z .local
 free:∀x∈scope.names,x.2=.free->sc.names.lookup x.1=Z .cell
 fst:∀x∈scope.names,x.2=.free->scope.names.lookup x.1=Z .free
 nd:N'.Nodup
 len:cap.length=N'.length
 at_:∀p∈cap.zip N',∀i,p.1=Z i->N[i]?=Z p.2/\(p.2,NameKind.free)∈scope.names
noncomputable def iG(X:Cx)(e:Y Ã)(t:TT):Prop:=
 ∀(a:Y (Addr×Ô))(s:À)(f:St)(H:Hp)(Q:Bool->Hp->Prop),Inv X a f H s->t f H Q->
  wpAny (Ä X.prog X.w) X.A (forIn e Ŕ λc r=>if r=Ŕ then do let ok ←isTrue c X.env (eval c X.env);pure (ForInStep.yield ok) else pure (ForInStep.yield r)) (TP X a f Q) X.xe s
noncomputable def B6:TT:=λ_ H Q=>Q Ŕ H
theorem vb{X:Cx}:iG X [] B6:=λ_ _ _ H _ I h=>wpAny_tests_nil ⟨H,I,h⟩
theorem xc{X:Cx}{c:Ã}{t:TT}(h:PT X c t):iG X [c] t:=λa s f H Q I e=>wpAny_tests_one (h a s f H Q I e)
noncomputable def gz(A:TI)(cap:Y (œ Nat))(g:TG)(w:TT)(z:TE):TE:=λu H Q=>A u H λJ l=>∀D,l D=Œ->∃W:Nat->Nat->St->Hp->Prop,(∃m,W 0 m (dZ cap u) (am l D (.lst []))) /\
 ∀i m f c,W i m f c->(J.stop i c/\Q (.ref D) c)\/(J.go i c/\∃N:St->Hp->Prop,(∀h e,N h e->∃r,r<m/\W (i+1) r h e) /\
  ∀x e,J.yld i c x e->g x f e λa v=>w a v λb o=>if b=Ŕ then z a o λy p=>∃j,p D=Z (.lst j)/\j.length<sizeLine/\N a (am p D (.lst (j++[y]))) else N a o)
theorem Eh{prog:Å}{w:È}{A:Ê}{R:Result->À->Prop}{s:À}{B a o:Ã}{E:Y Ã}{scope:â}{J:Õ}{L z:Value}{env:ì}(I:Nat->À->Prop)
  (K:∀n s,I n s->wpAny (Ä prog w) A (ó L) (λr e=>match r with
   |none=>R (.ok .next) e
   |some v=>wpAny (Ä prog w) A (ð a L v) (λ_ f=>wpAny (Ä prog w) A (assign a env v) (λ_ p=>
     wpAny (Ä prog w) A (forIn E Ŕ λc r=>if r=Ŕ then do let ok ←isTrue c env (eval c env);pure (ForInStep.yield ok) else pure (ForInStep.yield r)) (λok g=>
      if ok=Ŕ then wpAny (Ä prog w) A (eval B env) (λx u=>
       wpAny (Ä prog w) A (call (.builtin "list.append") [z,x]) (λ_ y=>∃m,m<n/\I m y) (λ_ _=>False) u) (λ_ _=>False) g
      else ∃m,m<n/\I m g) (λ_ _=>False) p) (λ_ _=>False) f) (λ_ _=>False) e) (λ_ _=>False) s)
  (n:Nat) (h:I n s):é (Ä prog w) A (.compLoop (.ListComp B [⟨a,o,E,0⟩] scope J) 0 L z env) R s:=by
 refine codeAny_loop S I (λn s M=>?_) n h;change wpAny _ A ((compTurn (.ListComp B [⟨a,o,E,0⟩] scope J) 0 L z env).onRaise (λx=>do noteFrame x env;theTreesLotGoes x)) _ _ s;refine wpAny_noted ?_;rw[compTurn_list];refine Hn (Kp (Hn (Jd (K n s M) (λr e j=>?_) λ_ _ h'=>h'.elim)))
 cases r with
 |none=>show HA j
 |some v=>
  refine Hn (Jd j (λ_ f C=>?_) λ_ _ h'=>h'.elim);refine Hn (Jd C (λ_ p F=>Hn (Jd F (λok g l=>?_) λ_ _ h'=>h'.elim)) λ_ _ h'=>h'.elim)
  cases ok with
  |false=>show HA ⟨S,l⟩
  |true=>
   show Hn (Hn (Jd l (λx u G=>Hn (Jd G (λ_ y H=>HA (HA ⟨S,H⟩)) λ_ _ h'=>h'.elim)) λ_ _ h'=>h'.elim))
section
variable{X:Cx}{B G f:Ã}{l:Y Ã}{scope:â}{F:Õ}{N':Y Str}{cap:Y (œ Nat)}{O:TI}{g:TG}{L:TT}{K:TE}
theorem kP:∀(names:Y (Str×NameKind))(n:Nat)(a:Y (Str×Addr)),Ù n names a=Ù n names []++a
 | [],_,_=>rfl
 |(x,k)::r,n,a=>by
  unfold Ù;split
  ·rw[kP r (n+1) ((x,n)::a),kP r (n+1) [(x,n)],HF];rfl
  ·show kP r n a
theorem ot:∀(names:Y (Str×NameKind))(n:Nat){x:Str}{c:Addr},(x,c)∈Ù n names []->(x,NameKind.cell)∈names
 | [],_,_,_,h=>by simp[Ù]at h
 |(y,k)::r,n,x,c,h=>by
  unfold Ù at h;split at h
  ·rename_i a;rw[kP]at h;rcases HU.mp h with h|h
   ·show Hv _ (ot r _ h)
   ·have e:=Hw.mp h;cases e
    have:k=.cell:=by simpa using a
    subst this;show Ht
  ·show Hv _ (ot r _ h)
theorem GI{M:Model}{A:Ê}{E:Value->À->Prop}{s:À}{globals:Addr}{cl:Y (Str×Addr)}{qual:Str}{outer:ì}{Q:ì->À->Prop}
  (c:∀h',h'.Ns s.heap.objs.size (λ_=>Œ)->(∀b o,s.heap.get? b=Z o->h'.get? b=Z o)->CellsOk h' (s.heap.objs.size+1) (Ù (s.heap.objs.size+1) scope.names [])->
   Q { scope:=scope,locals:=s.heap.objs.size,globals:=globals,cells:=Ù (s.heap.objs.size+1) scope.names []++cl,qual:=qual,func:=Œ,code:=outer.code,frame:=outer.frame,builtins:=outer.builtins } { s with heap:=h' }) :
  wpAny M A (ċ scope globals cl [] qual Œ .none (Z outer)) Q E s:=by
 simp only[ċ,đ,Ki];refine Hn (wpAny_alloc ?_);refine Hn (wpAny_layCells _ (λname kind cells=>by cases a:kind==NameKind.cell<;>simp[a]) _ _ _ _ ?_);have ok:=cellsFrom_ok scope.names (s.heap.push { cls:=.type "dict",data:=.dict #[] }) (s.heap.objs.size+1) [] ⟨λ_ _ h=>(nomatch h),List.Pairwise.nil⟩ (by rw[Iq];show Hr _);rw[Iq]at ok;rw[show ({ s with heap:=s.heap.push { cls:=.type "dict",data:=.dict #[] } }:À).heap.objs.size=s.heap.objs.size+1 from Iq ..,kP];refine Hn ?_;rw[LH];show HA (HA (c _ ((Heap.Ns.new s.heap (.type "dict")).keeps (Ŏ _ _)) (λb o e=>Ŏ _ _ b o (Ho _ e)) ok))
theorem yk{N:Y (Addr×Ô)}{P:St}{H:Hp}{s T:À}{cl A:Y (Str×Addr)}{C:Addr}{fp:Y Addr}{m:Str->œ Value}(b_:CompScope X.N X.env.scope scope N' cap)(I:Inv X N P H s)
  (O6:∀x c,cl.lookup x=Z c->X.env.cells.lookup x=Z c) (PH:∀x,(x,NameKind.free)∈scope.names->∃c,cl.lookup x=Z c) (E:s.heap.objs.size<=C) (OM:T.os=s.os) (hg:T.gens=s.gens)
  (hk:∀b o,s.heap.get? b=Z o->T.heap.get? b=Z o) (hn:T.heap.Ns C m) (RH:∀b∈fp,dR X N H b) (a_:∀b∈fp,b<s.heap.objs.size) (hw:CellsOk T.heap (C+1) A) (hwm:∀x c,(x,c)∈A->(x,NameKind.cell)∈scope.names) (Qc:∀x,(x,NameKind.cell)∈scope.names->∃c,A.lookup x=Z c) :
  Inv (bH X scope N' (A++cl) C s H fp) [] (dZ cap P) H T:=by
 have R:∀x c,(A++cl).lookup x=Z c->((x,c)∈A/\C<c)\/(A.lookup x=Œ/\X.env.cells.lookup x=Z c):=λx c h=>by
  rw[K3]at h
  cases e:A.lookup x with
  |none=>rw[e]at h;show .inr ⟨S,O6 x c (by simpa using h)⟩
  |some U=>
   rw[e]at h
   have:U=c:=by simpa using h
   subst this;show .inl ⟨Iz e,(hw.empty _ _ (Iz e)).2⟩
 have M:∀x c,X.env.cells.lookup x=Z c->c<s.heap.objs.size:=λx c h=>by let⟨v,q⟩:=I.cell x c h;show q.lt
 have QB:∀x,(x,NameKind.free)∈scope.names->∃c,(A++cl).lookup x=Z c/\X.env.cells.lookup x=Z c:=λx w=>by
  let⟨c,hc⟩:=PH x w;refine⟨c,?_,O6 x c hc⟩;rw[K3]
  cases e:A.lookup x with
  |none=>simpa using hc
  |some U=>
   have a1:=b_.cel _ (hwm x U (Iz e)) S;have a2:=b_.fst _ w S;have a1:scope.names.lookup x=Z .cell:=a1;have a2:scope.names.lookup x=Z .free:=a2;rw[a1]at a2;cases a2
 refine⟨⟨I.ok.mod,b_.kind,I.ok.glob,I.ok.blt,E,λx y c h1 a=>?_,λx w=>?_,λx c w h=>?_,I.ok.hd,I.ok.frames,.inl S,
   λb J=>⟨HX (Ie (a_ b J) E),λx c e=>?_⟩,I.bs,HZ I.ok.bsz I.sz,λb o e J=>?_,λb J hf=>?_,I.stack,I.stkFree⟩,
  OM,by rw[hg];show I.bare,Un.kept hk,⟨m,hn,λi x v h1 a h3=>?_⟩,λx c e=>?_,I.hok.fresh E,λx c e=>?_,λp hp=>absurd (show p∈([]:Y (Addr×Ô))from hp) (by simp),I.hok.kept hk,?_⟩
 ·rcases R x c h1 with⟨a1,a2⟩|⟨_,a2⟩<;>rcases R y c a with⟨b1,b2⟩|⟨_,b2⟩
  ·show name_of_addr hw.apart a1 b1
  ·show absurd (M y c b2) (Nat.not_lt.mpr (HZ E (Jl a2)))
  ·show absurd (M x c a2) (Nat.not_lt.mpr (HZ E (Jl b2)))
  ·show I.ok.inj x y c a2 b2
 ·have q:(x,NameKind.free)∈scope.names\/(x,NameKind.cell)∈scope.names:=by
   rcases w with w|w
   ·show pG w (.inl S)
   ·show pG w (.inr S)
  rcases q with q|q
  ·let⟨c,h,_⟩:=QB x q;show⟨c,h⟩
  ·let⟨c,h⟩:=Qc x q;show⟨c,by change (A++cl).lookup x=_;rw[K3,h];rfl⟩
 ·have w:(scope.names.lookup x==Z .cell)=Ŕ:=w
  have w:scope.names.lookup x=Z .cell:=by simpa using w
  let⟨U,h'⟩:=Qc x (Iz w);rcases R x c h with⟨_,a2⟩|⟨a1,_⟩
  ·show HZ E (Jl a2)
  ·rw[h']at a1;cases a1
 ·rcases R x c e with⟨_,a2⟩|⟨_,a2⟩
  ·show λz=>absurd (a_ b J) (Nat.not_lt.mpr (HZ E (by rw[←z];show Jl a2)))
  ·show (RH b J).2.2.2.2.1 x c a2
 ·rcases (RH b J).2.2.2.1 with z|z
  ·show I.ok.noex b o e z
  ·show absurd (Ie (HI e) (HZ I.ok.bsz z)) (Jc _)
 ·rcases HH.mp (I.stkSub b hf)with z|z
  ·show (RH b J).2.1 z
  ·show (RH b J).2.2.1 z
 ·have a:(cap.map λo=>o.bind λi=>(P[i]?).join)[i]?=Z (Z v):=a;rw[Hy]at a
  cases ec:cap[i]? with
  |none=>rw[ec]at a;cases a
  |some o=>
   rw[ec]at a
   have a:(o.bind λi=>(P[i]?).join)=Z v:=by simpa using a
   cases o with
   |none=>cases a
   |some j=>
    have a:(P[j]?).join=Z v:=a
    have hj:P[j]?=Z (Z v):=by
     cases ej:P[j]? with
     |none=>rw[ej]at a;cases a
     |some y=>rw[ej]at a;show Il Z a
    have hz:(cap.zip N')[i]?=Z (Z j,x):=by rw[J5];show⟨ec,h1⟩
    let⟨q1,q2⟩:=b_.at_ _ (Hu hz) j S;let⟨mx,hnx,hl⟩:=I.loc;have kc:=b_.free _ q2 S;let⟨u,r,lk⟩:=hl j x v q1 hj (.inr (.inl kc));refine⟨u,r,?_⟩;rcases lk with⟨k1,_⟩|⟨_,c,e,z⟩
    ·have:X.env.scope.names.lookup x=Z .local:=k1;rw[kc]at this;cases this
    ·let⟨U,Qr,O1⟩:=QB x q2;rw[e]at O1;cases O1
     have Q:(č scope (A++cl) C X.env).kindOf x=Z .cell\/(č scope (A++cl) C X.env).kindOf x=Z .free\/(č scope (A++cl) C X.env).kindOf x=Z .local:=by
      rcases h3 with z|z|z
      ·show .inr (.inr z)
      ·show .inl z
      ·show .inr (.inl z)
     rcases Q with Q|Q|Q
     ·show .inr ⟨.inl Q,c,Qr,let ⟨o,ho,hd⟩:=z;⟨o,hk c o ho,hd⟩⟩
     ·show .inr ⟨.inr Q,c,Qr,let ⟨o,ho,hd⟩:=z;⟨o,hk c o ho,hd⟩⟩
     ·exfalso;have kl:(relabel scope X.env).names.lookup x=Z .local:=Q;have ml:=Iz kl;let⟨⟨n,k⟩,hm,be⟩:=HG.mp ml;have be:(if (k==NameKind.free&&X.env.scope.kind==.function&&X.env.kindOf n==Z .cell)=Ŕ then (n,NameKind.cell) else (n,k))=(x,NameKind.local):=be;split at be
      ·cases be
      ·cases be;have a1:=b_.names _ hm S;have a3:scope.names.lookup x=Z .free:=b_.fst _ q2 S;have a1:scope.names.lookup x=Z .local:=a1;rw[a3]at a1;cases a1
 ·rcases R x c e with⟨a1,_⟩|⟨_,a2⟩
  ·show⟨Œ,(hw.empty x c a1).1⟩
  ·let⟨v,o,ho,hd⟩:=I.cell x c a2;show⟨v,o,hk c o ho,hd⟩
 ·rcases R x c e with⟨_,a2⟩|⟨_,a2⟩
  ·show I.hok.fresh (HZ E (Jl a2))
  ·show I.freeC x c a2
 ·change (dZ cap P).length=N'.length;unfold dZ;rw[Hj,b_.len]
theorem uM{H:Y (Addr×Ô)}{σ:St}{j:Hp}{I:À}{it:Addr}{A:Y Addr}{tn:Nat->Heap->Prop}{J:It}{cl:Y (Str×Addr)}{RR:Value->Addr->Result->À->Prop}{E:Value->À->Prop}(L3:X.calm=Ŕ)(b_:CompScope X.N X.env.scope scope N' cap)
  (hg:∀(cl:Y (Str×Addr))(C:Addr)(s0:À)(H0:Hp),PG (bH X scope N' cl C s0 H0 A) G g) (ht:∀(cl:Y (Str×Addr))(C:Addr)(s0:À)(H0:Hp),iG (bH X scope N' cl C s0 H0 A) l L) (he:∀(cl:Y (Str×Addr))(C:Addr)(s0:À)(H0:Hp),PE (bH X scope N' cl C s0 H0 A) B K)
  (I2:Inv X H σ j I) (T:Turn X.prog X.w X.K G J A it tn) (O5:tn 0 I.heap) (f2:∀b∈A,dR X H j b)
  (O6:∀x c,cl.lookup x=Z c->X.env.cells.lookup x=Z c) (PH:∀x,(x,NameKind.free)∈scope.names->∃c,cl.lookup x=Z c)
  {P:V->Hp->Prop}
  (w:∀D,j D=Œ->∃W:Nat->Nat->St->Hp->Prop,(∃m,W 0 m (dZ cap σ) (am j D (.lst []))) /\
   ∀i m Q z,W i m Q z->(J.stop i z/\P (.ref D) z)\/(J.go i z/\∃N:St->Hp->Prop,(∀σ2 j,N σ2 j->∃m',m'<m/\W (i+1) m' σ2 j) /\
    ∀x j,J.yld i z x j->g x Q j λU H3=>L U H3 λb H4=>if b=Ŕ then K U H4 λy H5=>∃ys,H5 D=Z (.lst ys)/\ys.length<sizeLine/\N U (am H5 D (.lst (ys++[y]))) else N U H4))
  (hRR:∀D C z s' m',X.env.locals≠C->X.s₀.heap.objs.size<=C->(∀x c,X.env.cells.lookup x=Z c->c≠C)->(∀p∈X.pn++H,p.1≠C)->z C=Œ->s'.heap.Ns C m'->Inv X H σ z s'->P (.ref D) z->RR (.ref D) C (.ok .next) s') :
  wpAny (Ä X.prog X.w) X.A (newList []) (λacc M=>wpAny (Ä X.prog X.w) X.A (ċ scope X.env.globals cl [] X.env.qual Œ .none (Z X.env)) (λQC s₄=>
   é (Ä X.prog X.w) X.A (.compStart (.ListComp B [⟨G,f,l,0⟩] scope F) 0 (.ref it) acc { QC with scope:=relabel scope X.env }) (RR acc QC.locals) s₄) E M) E I:=by
 refine IL ?_ (by change 0<=sizeLine;decide);have I3:Inv X H σ (am j I.heap.objs.size (.lst [])) { I with heap:=I.heap.push { cls:=.type "list",data:=.seq ([]:Y Value).toArray } }:=I2.lnew (t':=I.toks) .nil (by change 0<=sizeLine;decide);have k3:∀b o,I.heap.get? b=Z o->(I.heap.push { cls:=.type "list",data:=.seq ([]:Y Value).toArray }).get? b=Z o:=λb o e=>Ho _ e;have z3:(I.heap.push { cls:=.type "list",data:=.seq ([]:Y Value).toArray }).objs.size=I.heap.objs.size+1:=Iq ..;have hD0:j I.heap.objs.size=Œ:=I2.fresh;generalize hs3:({ I with heap:=I.heap.push { cls:=.type "list",data:=.seq ([]:Y Value).toArray } }:À)=s3 at I3 ⊢
 have eh3:s3.heap=I.heap.push { cls:=.type "list",data:=.seq ([]:Y Value).toArray }:=by rw[←hs3]
 have eo3:s3.os=I.os:=by rw[←hs3]
 generalize hDD:I.heap.objs.size=D at I3 hD0 z3 ⊢;rw[←eh3]at k3 z3;have live:∀b∈A,∃o,I.heap.get? b=Z o/\∀v,o.data≠.cell v:=λb a=>T.obj 0 _ O5 b a
 have Sj:∀b∈A,b<D:=λb a=>by let⟨o,e,_⟩:=live b a;rw[←hDD];show HI e
 have f3:∀b∈A,dR X H (am j D (.lst [])) b:=λb a=>⟨by rw[aS (HX (Sj b a))];show (f2 b a).1,(f2 b a).2⟩;refine GI λh4 hn4 k4 ok4=>?_;generalize hnw:Ù (s3.heap.objs.size+1) scope.names []=nw at ok4 ⊢;have st4:tn 0 h4:=T.keep 0 _ _ O5 λb _ o e=>k4 b o (k3 b o e)
 have I4:Inv (bH X scope N' (nw++cl) s3.heap.objs.size s3 (am j D (.lst [])) A) [] (dZ cap σ) (am j D (.lst [])) { s3 with heap:=h4 }:=
  yk b_ I3 O6 PH (Hr _) S S k4 hn4 f3 (λb a=>by rw[z3];show JU (Sj b a)) ok4 (λx c h=>ot _ _ (hnw▸h)) λx h=>hnw▸pT (b_.cel _ h S)
 let⟨W,⟨m0,w0⟩,turn⟩:=w D hD0
 have Sk:∀{z:Hp},(∀b∈A,z b=Œ)->∀b∈A,dR (bH X scope N' (nw++cl) s3.heap.objs.size s3 (am j D (.lst [])) A) [] z b:=λhn b a=>
  ⟨hn b a,HX (by change b<s3.heap.objs.size;rw[z3];show JU (Sj b a)),λhf=>I4.ok.exfs b a hf,.inl a,λx c e=>(I4.ok.exf b a).2 x c e,λp hp=>absurd (show p∈([]:Y (Addr×Ô))from hp) (by simp)⟩
 have loop:∀M:À,M={ s3 with heap:=h4 }->
   é (Ä X.prog X.w) X.A (.compLoop (.ListComp B [⟨G,f,l,0⟩] scope F) 0 (.ref it) (.ref D) (č scope (nw++cl) s3.heap.objs.size X.env)) (RR (.ref D) s3.heap.objs.size) M:=by
  rintro M rfl
  refine Eh (λn s'=>∃i Q z,Inv (bH X scope N' (nw++cl) s3.heap.objs.size s3 (am j D (.lst [])) A) [] Q z s'/\tn i s'.heap/\(∀b∈A,z b=Œ)/\W i n Q z) ?_ m0
   ⟨0,dZ cap σ,am j D (.lst []),I4,st4,λb a=>(f3 b a).1,w0⟩
  rintro n s5 ⟨i,be,H5,I5,P9,Rz,w5⟩;rcases turn i n be H5 w5 with⟨stop,qn⟩|⟨go,N,hN,step⟩
  ·refine ax (T.done (bH X scope N' (nw++cl) s3.heap.objs.size s3 (am j D (.lst [])) A) S S S L3 i [] s5 be H5 _ I5 (Sk Rz) P9 stop) λr s6 LR=>?_;let⟨hr,I6⟩:=LR;subst hr;let⟨m6,hn6,_⟩:=I6.loc;have un:Un (fW X.stack) A (am j D (.lst [])) H5 s3.heap s6.heap:=I6.base;refine hRR D s3.heap.objs.size H5 s6 m6 (HX I3.lt) I3.sz (λx c e=>?_) (λp hp=>?_) I6.free hn6 ?_ qn
   ·let⟨v,q⟩:=I3.cell x c e;show HX q.lt
   ·show HX (HI (I3.pin p hp).1)
   ·show I3.call' I6.os un I6.hok I6.bare λb a=>⟨(f3 b a).2.2.2.1,(f3 b a).2.1,(f3 b a).2.2.2.2.1,(f3 b a).2.2.2.2.2⟩
  ·refine ax (T.item (bH X scope N' (nw++cl) s3.heap.objs.size s3 (am j D (.lst [])) A) S S S L3 i [] s5 be H5 (λ_ _=>False) I5 (Sk Rz) P9 go) λr s6 MF=>?_;let⟨u,hr,h6⟩:=MF;subst hr;refine ax h6 λ_ s7 Nv=>?_;let⟨x,H7,I7,r7,y7,Sn,fr7⟩:=Nv;have I7':=I7.pinned (Sk fr7) (T.obj _ _ Sn);refine ax (hg _ _ _ _ _ s7 be H7 x u _ I7' r7 (step x H7 y7)) λ_ s8 Qs=>?_;let⟨a_,H8,I8,q8⟩:=Qs;refine ax (ht _ _ _ _ _ s8 a_ H8 _ I8 q8) λb s9 R6=>?_;let⟨H9,I9,q9⟩:=R6
   have again:∀{R:St}{H9:Hp}{s9:À},Inv (bH X scope N' (nw++cl) s3.heap.objs.size s3 (am j D (.lst [])) A) ([]++kU A s7.heap) R H9 s9->N R H9->∃m,m<n/\∃i Q z,Inv (bH X scope N' (nw++cl) s3.heap.objs.size s3 (am j D (.lst [])) A) [] Q z s9/\tn i s9.heap/\(∀b∈A,z b=Œ)/\W i m Q z:=λ{R H9 s9} I9 n9=>by let⟨m',hm,w9⟩:=hN R H9 n9;refine⟨m',hm,i+1,R,H9,I9.unpinned,T.keep _ _ _ Sn λb a o e=>(I9.pin (b,o) (Iy _ (Iy _ (nR a e)))).1,λb a=>?_,w9⟩;let⟨o,e,d⟩:=T.obj _ _ Sn b a;show (I9.pin (b,o) (Iy _ (Iy _ (nR a e)))).2.1
   cases b with
   |false=>
    rw[Hq 'b']at q9 ⊢;show again I9 q9
   |true=>
    rw[Hx S]at q9 ⊢;refine ax (he _ _ _ _ _ s9 a_ H9 _ I9 q9) λyv s10 R7=>?_;let⟨y,So,I10,Sq,ys,Sr,Ss,q10⟩:=R7;refine ax (pJ _ s10 a_ So (.ref D) [y] (.ref D) [yv] (λ_ z=>N a_ z) I10 S (.cons Sq .nil) ⟨D,ys,y,S,S,Sr,Ss,q10⟩) λ_ s11 hq6=>?_;let⟨_,H11,I11,_,q11⟩:=hq6;show again I11 q11
 show codeAny_compStart_list (loop _ S) (T.self _ 0 _ _ _ st4 (loop _ S))
theorem sE(E:X.calm=Ŕ)(b_:CompScope X.N X.env.scope scope N' cap)(hi:PI X G f O)
  (hg:∀(cl:Y (Str×Addr))(a:Y Addr)(C:Addr)(p:À)(j:Hp),PG (bH X scope N' cl C p j a) G g) (ht:∀(cl:Y (Str×Addr))(a:Y Addr)(C:Addr)(p:À)(j:Hp),iG (bH X scope N' cl C p j a) l L)
  (he:∀(cl:Y (Str×Addr))(a:Y Addr)(C:Addr)(p:À)(j:Hp),PE (bH X scope N' cl C p j a) B K) (hs:∀x,Ë f X.env x=pure x:=by intro _;rfl) :
  PE X (.ListComp B [⟨G,f,l,0⟩] scope F) (gz O cap g L K):=by
 intro c s u H Q I h;let⟨cl,a_,N,R⟩:=vd (scope:=scope) (env:=X.env) λx hx hf=>I.ok.has x.1 (.inl (b_.free x hx hf));rw[eval_ListComp];refine wpAny_comprehension_free (use:=Œ) S hs a_ b_.kind b_.names (ax (hi c s u H _ I h) λv s1 h1=>ax h1 λRy s2 h2=>?_);let⟨it,a,tn,J,H2,e,A,T,M,f2,w⟩:=h2;subst e;refine uM (RR:=λr C=>compPost (Ä X.prog X.w) X.A X.xe Œ (EP X c u Q) r C) E b_ (λcl=>hg cl a) (λcl=>ht cl a) (λcl=>he cl a) A T M f2 N R (P:=Q) w ?_;intro D C y s' m' hL hz U Sv hC hn z q;refine⟨m',hn,λh' be=>⟨.ref D,y,z.turned (t':=s'.toks) (λb o hb e=>(be.2 b hb).trans e) hC (IE hL) (.inr hz) U Sv,S,q⟩⟩
theorem lv{i:Nat}{y:Str}{p L4:Õ}(L3:X.calm=Ŕ)(hN:X.N.Nodup)(hy:X.N[i]?=Z y)(be:dA X.env.scope y)(b_:CompScope X.N X.env.scope scope N' cap)(hi:PI X G f O)
  (hg:∀(cl:Y (Str×Addr))(j:Y Addr)(C:Addr)(A:À)(u:Hp),PG (bH X scope N' cl C A u j) G g) (ht:∀(cl:Y (Str×Addr))(j:Y Addr)(C:Addr)(A:À)(u:Hp),iG (bH X scope N' cl C A u j) l L)
  (he:∀(cl:Y (Str×Addr))(j:Y Addr)(C:Addr)(A:À)(u:Hp),PE (bH X scope N' cl C A u j) B K) (OP:Ð (.ListComp B [⟨G,f,l,0⟩] scope F) (Z (.Name y p)) L4.line X.env=pure Ŕ:=by rfl)
  (hs:∀x,Ë f X.env x=pure x:=by intro _;rfl) (U:X.fn y=Ŕ\/X.env.scope.names.lookup y=Z .local:=by nofun) :
  PS X (.Assign [.Name y p] (.ListComp B [⟨G,f,l,0⟩] scope F) L4) (iP (gz O cap g L K) (iQ i)):=by
 intro c s σ H D I h;let⟨cl,Su,O6,PH⟩:=vd (scope:=scope) (env:=X.env) λx be U=>I.ok.has x.1 (.inl (b_.free x be U));rw[exec_Assign_Name_used _ _ _ _ OP];refine Hn (Kp (Hn ?_));change wpAny _ X.A (do let _ ←comprehension (.ListComp B [⟨G,f,l,0⟩] scope F) scope X.env _ (newList []) ŕ (eval f X.env) (Z (assign (.Name y p) X.env))) _ _ s
 refine Hn (Jd (wpAny_comprehension_free (use:=Z (assign (.Name y p) X.env)) (Q:=λ_ r=>SP X c D .next r) S hs Su b_.kind b_.names
  (ax (hi c s σ H _ I h) λv s1 h1=>ax h1 λRy s2 h2=>?_)) (λ_ r hq=>HA (HA hq)) λ_ _ e=>e)
 let⟨it,j,tn,J,H2,e,I2,T,O5,f2,w⟩:=h2;subst e;refine uM (RR:=λN C=>compPost (Ä X.prog X.w) X.A X.xe (Z (assign (.Name y p) X.env)) (λ_ r=>SP X c D .next r) N C) L3 b_ (λcl=>hg cl j) (λcl=>ht cl j) (λcl=>he cl j) I2 T O5 f2 O6 PH (P:=λv E=>D.nx (σ.set i (Z v)) E) w ?_;intro a_ C E r m' hL hz Pp Sv hC hn I' q;change wpAny _ X.A (assign (.Name y p) X.env (.ref a_)) _ _ r;refine wpAny_assign_Name (vt (v:=.ref a_) I' hN hy be S (λQb M QD=>?_) U);let⟨a,sb,ha⟩:=QD
 have R:C≠a:=by
  rcases ha with z|z
  ·rw[z];show IE hL
  ·show IE (Pp y a z)
 refine⟨m',hn.sameBut sb R,λh' Qf=>?_⟩;show⟨_,E,M.turned (t':=Qb.toks) (λb o hb e=>(Qf.2 b hb).trans e) hC (IE hL) (.inr hz) Pp Sv,q⟩
end
open AutoSeq1 (wpAny_loadPart')
theorem Inv.turnedL{X:Cx}{a:Y (Addr×Ô)}{l:St}{H:Hp}{s:À}{h':Heap}{ch:Y Addr}{t':Nat}(I:Inv X a l H s)(k:∀b o,b∉ch->s.heap.get? b=Z o->h'.get? b=Z o)(g:∀b∈ch,dR X a H b) :
  Inv X a l H { s with heap:=h',toks:=t' }:=by
 have j:∀b u,H b=Z u->b∉ch:=λb u e z=>by rw[(g b z).1]at e;cases e
 refine I.step (g':=s.gens) (d':=s.drawn) (ch:=ch) (λb h=>⟨(g b h).2.2.2.1,(g b h).2.1,(g b h).2.2.2.2.1,(g b h).2.2.2.2.2⟩) (λb o _ _ f e _=>k b o f e) (λb o _ _ f e _=>⟨o.slots,k b o f e⟩) (λ_ _ _ _ n=>n)
  (λb o f e=>⟨o,k b o f e⟩) (λ_ _ e=>e) (λ_ _ _ e=>e) (λb ps e=>e) (λm w=>?_) (λb u e=>?_) I.bare
 ·let⟨o,es,p,ho,r⟩:=w;show⟨o,es,p,k _ o (λz=>(g _ z).2.1 S) ho,r⟩
 ·refine (I.hok b u e).stay (λc v f q=>k c v ?_ q) (λ_ q=>q) (λ_ _ q=>q) λ_ _ _ q=>q;rcases f with z|z
  ·rw[z];show j b u e
  ·show j c _ z
noncomputable def SqI(b:Bool)(h:Heap)(c a:Addr)(i:Nat):Prop:=match b with|true=>h.IsListIter c a i|false=>h.IsTupleIter c a i
noncomputable def SqO(b:Bool)(h:Heap)(a:Addr)(c:Array Value):Prop:=match b with|true=>h.IsList a c|false=>h.IsTuple a c
noncomputable def SqB(K:Â)(b:Bool)(H:Hp)(a:Addr)(xs:Y V):Prop:=match b with|true=>SqL K H a xs|false=>SqT K H a xs
noncomputable def cN(b:Bool)(a:Addr):Ô:=match b with
 |true=>{ cls:=.type "list_iterator",data:=.fields #[.ref a,.int 0 0] }
 |false=>{ cls:=.type "tuple_iterator",data:=.fields #[.ref a,.int 0 0] }
theorem SqI.at{b:Bool}{h h':Heap}{c a:Addr}{i:Nat}(x:SqI b h c a i)(k:∀o,h.get? c=Z o->h'.get? c=Z o):SqI b h' c a i:=by cases b<;>(let⟨o,e,r⟩:=x;show⟨o,k o e,r⟩)
theorem SqO.at{b:Bool}{h h':Heap}{a:Addr}{c:Array Value}(x:SqO b h a c)(k:∀o,h.get? a=Z o->h'.get? a=Z o):SqO b h' a c:=by cases b<;>(let⟨o,e,r⟩:=x;show⟨o,k o e,r⟩)
theorem SqI.obj{b:Bool}{h:Heap}{c a:Addr}{i:Nat}(x:SqI b h c a i):∃o,h.get? c=Z o/\∀v,o.data≠.cell v:=by cases b<;>(let⟨o,e,_,d⟩:=x;show⟨o,e,λv z=>by rw[d]at z;cases z⟩)
theorem SqI.lt{b:Bool}{h:Heap}{c a:Addr}{i:Nat}(x:SqI b h c a i):c<h.objs.size:=by let⟨o,e,_⟩:=x.obj;show HI e
theorem SqO.lt{b:Bool}{h:Heap}{a:Addr}{c:Array Value}(x:SqO b h a c):a<h.objs.size:=by cases b<;>(let⟨o,e,_⟩:=x;show HI e)
theorem Inv.sqb{X:Cx}{e:Y (Addr×Ô)}{j:St}{H:Hp}{s:À}{b:Bool}{a:Addr}{xs:Y V}(I:Inv X e j H s)(h:SqB X.K b H a xs):∃c:Y Value,Vals xs c/\SqO b s.heap a c.toArray/\xs.length<=sizeLine:=by
 cases b with
 |true=>let⟨c,g,p,f⟩:=I.list h;show⟨c,g,p.isList,f⟩
 |false=>let⟨c,g,p,f⟩:=I.tuple h;show⟨c,g,p,f⟩
theorem Inv.sqb_inj{X:Cx}{c:Y (Addr×Ô)}{f:St}{H:Hp}{s:À}{b:Bool}{a:Addr}{xs e:Y V}(I:Inv X c f H s)(h:SqB X.K b H a xs)(h':SqB X.K b H a e):xs=e:=by
 cases b with
 |true=>show I.list_inj h h'
 |false=>show I.tuple_inj h h'
theorem SqB.same{K:Â}{b:Bool}{H c:Hp}{a:Addr}{xs:Y V}(e:Same H c)(h:SqB K b H a xs):SqB K b c a xs:=by
 cases b with
 |true=>show e.seq h
 |false=>
  rcases h with (h|⟨o,h⟩)|h
  ·show .inl (.inl (e _ _ h))
  ·show .inl (.inr ⟨o,e _ _ h⟩)
  ·show .inr h
section
variable{prog:Å}{w:È}{A:Ê}{E:Value->À->Prop}{s:À}
theorem j5{b:Bool}{a:Addr}{c:Array Value}{Q:Value->À->Prop}(h:SqO b s.heap a c)(q:Q (.ref s.heap.objs.size) { s with heap:=s.heap.push (cN b a) }):wpAny (Ä prog w) A (pyIter (.ref a)) Q E s:=by
 cases b with
 |true=>show K8 h q
 |false=>show JS h q
theorem jz{b:Bool}{h:Heap}{c a:Addr}(e:h.get? c=Z (cN b a)):SqI b h c a 0:=by cases b<;>show⟨_,e,S,S⟩
theorem nP{b:Bool}{e a:Addr}{i:Nat}{f:Array Value}{x:Value}{Q:Value->À->Prop}(c:SqI b s.heap e a i)(h:SqO b s.heap a f)(j:f[i]?=Z x)
  (g:∀h',SqI b h' e a (i+1)->Heap.SameBut e s.heap h'->Q x { s with heap:=h' }):wpAny (Ä prog w) A (Builtin.SmallTypes.nextOf (.ref e)) Q E s:=by
 cases b with
 |true=>show wpAny_nextOf_list_item c h j g
 |false=>
  have c:s.heap.IsTupleIter e a i:=c;let⟨o,ho,r,hd⟩:=id c;let⟨u,l,_,nl,p⟩:=h;unfold Builtin.SmallTypes.nextOf;refine Hn (IT (name:=Str.ofString "__next__") c.typeIs JF (Jt JF c.typeIs K4 ?_ (KW _)));change wpAny _ _ (Č (.ref e) 0 >>= _) _ _ s;refine Hn (II ho hd (x:=.ref a) S ?_);change wpAny _ _ (if (Value.ref a==Value.none)=Ŕ then _ else _) _ _ s;rw[Hq (show ¬ ((Value.ref a==Value.none)=Ŕ)from Ig)];change wpAny _ _ (Č (.ref e) 1 >>= _) _ _ s;refine Hn (II ho hd (x:=.int i 0) S ?_);change wpAny _ _ (seqItems? (.ref a) >>= _) _ _ s;refine Hn (Ju l p ?_);simp only[IY,j];refine Hn (wpAny_setField ho hd (by simp) (HA ⟨x,S,HA (g _ ?_ (Heap.SameBut.update ..))⟩));show⟨_,Heap.get?_update_self _ ho (Ô.isFreed_of_fields (ħ hd _)),(Ô.cls_mapFields ..).trans r,by rw[ħ hd];simp[ò]⟩
theorem lV{b:Bool}{f a:Addr}{i:Nat}{h:Array Value}{Q:Value->À->Prop}(g:A.handled=Œ)(c:SqI b s.heap f a i)(l:SqO b s.heap a h)(p:h[i]?=Œ)
  (j:∀h' e,Heap.ExtBut f s.heap h'->(∃o,h'.get? e=Z o/\o.cls=.type "StopIteration")->E (.ref e) { s with heap:=h' }):wpAny (Ä prog w) A (Builtin.SmallTypes.nextOf (.ref f)) Q E s:=by
 cases b with
 |true=>show wpAny_nextOf_list_end g c l p j
 |false=>
  have c:s.heap.IsTupleIter f a i:=c;let⟨o,ho,v,hd⟩:=id c;let⟨y,r,_,nl,u⟩:=l;unfold Builtin.SmallTypes.nextOf;refine Hn (IT (name:=Str.ofString "__next__") c.typeIs JF (Jt JF c.typeIs K4 ?_ (KW _)));change wpAny _ _ (Č (.ref f) 0 >>= _) _ _ s;refine Hn (II ho hd (x:=.ref a) S ?_);change wpAny _ _ (if (Value.ref a==Value.none)=Ŕ then _ else _) _ _ s;rw[Hq (show ¬ ((Value.ref a==Value.none)=Ŕ)from Ig)];change wpAny _ _ (Č (.ref f) 1 >>= _) _ _ s;refine Hn (II ho hd (x:=.int i 0) S ?_);change wpAny _ _ (seqItems? (.ref a) >>= _) _ _ s;refine Hn (Ju r u ?_);simp only[IY,p];refine Hn (Lb (Hn (wpAny_setField ho hd (by simp) ?_)));change wpAny _ _ (newExc (.type "StopIteration") [] >>= _) _ _ _;refine Hn ?_;simp only[newExc,newTuple];refine Hn (IL ?_ (by size_fits));refine Hn (m:=firstArgMember _ _) (wpAny_of_eq (a:=Value.none) (by first|rfl|(simp only[firstArgMember];rfl)) ?_);refine IL ?_ (by size_fits);simp only[raiseNew];refine Hn (wpAny_handled ?_)
  first|rw[show A.in1.handled=Œ from g]|rw[g]
  refine Hn (HA (wpAny_throw ?_));show j _ _ (((Heap.SameBut.update ..).extBut.push _).push _) ⟨_,HC _ S,S⟩
theorem D2(r:A.handled=Œ)(b:Bool)(c a:Addr)(j:a≠c)(f:Array Value):Draws prog w A c [c,a] f.size (λi v=>f[i]?=Z v) (λi h=>SqI b h c a i/\SqO b h a f) where
 live:=λ_ _ st=>let ⟨o,e,_⟩:=st.1.obj;⟨o,e⟩
 frame:=λ_ _ _ st k=>⟨st.1.at λo e=>k c (by simp) o e,st.2.at λo e=>k a (by simp) o e⟩
 item:=λi s Q E g st p=>nP st.1 st.2 (x:=f[i]) (by simp[g]) λh' q sb=>p _ h' s.toks (by simp[g]) ⟨q,st.2.at λo e=>(sb.2 a j).trans e⟩ sb
 done:=λs Q E st l=>lV r st.1 st.2 (by simp) l
theorem CF(l:Addr)(items:Array Value)(n:Nat)(dct:œ Addr)(sl:Array (œ Value)) :
  ņ (Builtin.«enumerate.__new__» ⟨[.type "enumerate",.ref l],[]⟩) (λ_ R s=>s.heap.get? l=Z { cls:=.type "tuple",dict:=dct,data:=.seq items n,slots:=sl } /\
   R (.ok (.ret (.ref (s.heap.push (cN ŕ l)).objs.size)))
    { s with heap:=(s.heap.push (cN ŕ l)).push { cls:=.type "enumerate",data:=.fields #[.none,.bool ŕ,.ref s.heap.objs.size,ò 0,.none,.none] } }):=
 .of_wp λprog w A R s h=>by
  let⟨f,g,d,j,os⟩:=s;let⟨a,h⟩:=h;have o:=sub_enumerate;have e:Heap.IsTuple (ć ⟨f,g,d,j,os⟩) l items:=⟨_,a,S,n,S⟩
  wp_walk using Iv a
  refine wpAny_stack_any λst=>HA ?_;split
  ·rename_i c _ _ _ _ _;cases (c==Value.type "enumerate")
   ·(wp_walk using Iv a,JS e);show⟨_,S,h⟩
   ·(wp_walk using Iv a,JS e);show⟨_,S,h⟩
  ·(wp_walk using Iv a,JS e);show⟨_,S,h⟩
theorem Br{b:Bool}{l:Addr}{items:Array Value}{Q:Value->À->Prop}(g:SqO b s.heap l items)
  (h:∀h',IsEnum h' (s.heap.objs.size+1) s.heap.objs.size 0 .none->SqI b h' s.heap.objs.size l 0->h'.objs.size=s.heap.objs.size+2->(∀b o,s.heap.get? b=Z o->h'.get? b=Z o)->Q (.ref (s.heap.objs.size+1)) { s with heap:=h' }) :
  wpAny (Ä prog w) A (call (.type "enumerate") [.ref l]) Q E s:=by
 cases b with
 |true=>show call_enumerate_list g h
 |false=>
  let⟨⟨c,dct,j,sl⟩,r,a,n,hd⟩:=g;replace a:c=.type "tuple":=a;replace hd:j=.seq items n:=hd;subst a hd;refine callType_new F.called_enumerate 'b' (F.typeCall_enumerate_1 _) (F.newCall_enumerate_1 _) (λobj=>F.args_object_init_2 obj _) F.entry_enumerate_new (CF l items n dct sl) ⟨r,?_⟩;have f:(s.heap.push (cN ŕ l)).objs.size=s.heap.objs.size+1:=Iq ..;change _/\_;rw[f];have e:=HC (s.heap.push (cN ŕ l)) (o:={ cls:=.type "enumerate",data:=.fields #[.none,.bool ŕ,.ref s.heap.objs.size,ò 0,.none,.none] }) S;rw[f]at e;have p:(s.heap.push (cN ŕ l)).get? s.heap.objs.size=Z (cN ŕ l):=HC _ S;show⟨⟨_,e,S⟩,h _ e (jz (Ho _ p)) (by rw[Iq,f]) λb o x=>Ho _ (Ho _ x)⟩
theorem y9{b:Bool}{e c a:Addr}{i:Nat}{j:Int}{l:Array Value}{h:Value}{Q:œ Value->À->Prop}(z:A.handled=Œ)(r:IsEnum s.heap e c j h)(g:SqI b s.heap c a i)(B:SqO b s.heap a l)(C:l[i]?=Œ)
  (v:∀h',Heap.ExtBut c s.heap h'->Q Œ { s with heap:=h' }):wpAny (Ä prog w) A (ó (.ref e)) Q E s:=by
 have p:s.TypeIs (.ref e) "enumerate":=⟨_,r,S⟩;unfold ó;refine Hn (Ē (IT (name:=Str.ofString "__next__") p F.slot_enumerate_next (Jt F.slot_enumerate_next p F.entry_enumerate_next ?_ (F.args_enumerate_next_1 _))));change wpAny _ _ (Č (.ref e) 2 >>= _) _ _ _;refine Hn (II r S (x:=.ref c) S (Hn (lV z g B C λh' x f u=>?_)));let⟨o,ho,y⟩:=u;show Hn (ň (T:="StopIteration") (b:=Ŕ) ⟨o,ho,y⟩ isSubtype_stop (HA (v _ f)))
end
noncomputable def nD(K:Â)(b:Bool)(a:Addr):It:=
 ⟨λi H=>∃xs x,SqB K b H a xs/\xs[i]?=Z x,λi H x c=>∃t y,H t=Œ/\x=.ref t/\c=am H t (.tup [.int i,y])/\∀xs,SqB K b H a xs->xs[i]?=Z y,λi H=>∃xs,SqB K b H a xs/\xs.length<=i⟩
theorem Ed{P:Å}{w:È}{K:Â}{es:Y Ã}{k:Nat}{pos:Õ}(b:Bool)(a e j:Addr)(M:e≠j):Turn P w K (.Tuple es k pos) (nD K b a) [e,j] e (λi h=>(∃g,IsEnum h e j i g)/\SqI b h j a i) where
 mem:=by simp
 obj:=λi h st c f=>by
  let⟨⟨g,l⟩,A⟩:=st;rcases HH.mp f with rfl|f
  ·show⟨_,l,λv z=>by have z':Data.fields _=Data.cell v:=z;cases z'⟩
  ·rw[Hw.mp f];show A.obj
 keep:=λi h h' st k=>by let⟨⟨g,l⟩,A⟩:=st;show⟨⟨g,k e (by simp) _ l⟩,A.at λo q=>k j (by simp) o q⟩
 item:=by
  intro X b_ be R f i r s σ H E I J st U;subst b_ be R;let⟨xs,x,L,a_⟩:=U;let⟨⟨g,l⟩,A⟩:=st;let⟨B,rv,p,hz⟩:=I.sqb L;let⟨u,hu,ru⟩:=rv.get a_
  have MJ:a≠j:=λz=>by
   subst z
   have O:=p;have Q:=A
   cases b<;>(let⟨o1,G,N,_⟩:=O;let⟨o2,e2,c2,_⟩:=Q;rw[G]at e2;cases e2;rw[N]at c2;show absurd c2 (by simp))
  have Sz:a≠e:=λz=>by
   subst z;have O:=p;cases b<;>(let⟨o1,G,N,_⟩:=O;rw[l]at G;cases G;show absurd N (by simp))
  have Oe:i<B.toArray.size:=by have:i<B.length:=(Iu.mp hu).1;simpa using this
  have hh:X.A.in1.handled=Œ:=I.ok.hd f;refine wpAny_pyNext_enum_itemD (D2 hh b j a MJ B.toArray) l ⟨A,p⟩ Oe M (by simp[M,IE Sz]) λy h' F C ho Mn hT hsz hk=>?_
  have hy:y=u:=by
   have:B.toArray[i]?=Z u:=by simpa using hu
   rw[this]at C;show (HR C).symm
  subst hy;refine⟨.ref s.heap.objs.size,S,wpAny_letOwnedTupleGo_enum ho λQ RI MP=>?_⟩;have zn:H s.heap.objs.size=Œ:=I.fresh
  have I1:Inv X r σ (am H s.heap.objs.size (.tup [.int i,x])) { s with heap:=s.heap.push { cls:=.type "tuple",data:=.seq #[.int i F,y] },toks:=F }:=
   I.laid (λc o q=>Ho _ q) (Hr _) ⟨by change 2<=sizeLine;decide,[.int i F,y],.cons ⟨F,S⟩ (.cons ru .nil),_,HC _ S,⟨S,S⟩,0,S⟩
  have SA:∀c∈[e,j],c<s.heap.objs.size:=λc f=>by
   rcases HH.mp f with rfl|f
   ·show HI l
   ·rw[Hw.mp f];show A.lt
  have f1:∀c∈[e,j],dR X r (am H s.heap.objs.size (.tup [.int i,x])) c:=λc f=>⟨by rw[aS (HX (SA c f))];show (J c f).1,(J c f).2⟩;have I2:=I1.turnedL (h':=Q) (ch:=[e,j]) (t':=F+1) (λc o f q=>?_) f1
  ·refine⟨.ref s.heap.objs.size,_,I2,S,⟨s.heap.objs.size,x,zn,S,S,λys hy=>by rw[I.sqb_inj hy L];show a_⟩,⟨⟨_,by simpa using RI⟩,Mn.1.at λo q=>(MP.2 j (IE M)).trans q⟩,λc f=>(f1 c f).1⟩
  ·have O7:c≠e:=λz=>f (by simp[z]);have T:c≠j:=λz=>f (by simp[z]);refine (MP.2 c O7).trans ?_;rcases Heap.get?_push_cases q with⟨z,z'⟩|q'
   ·subst z;subst z';show hT
   ·show hk c o O7 T q'
 done:=by
  intro X b_ be R f i r s σ H E I J st U;subst b_ be R;let⟨xs,L,a_⟩:=U;let⟨⟨g,l⟩,A⟩:=st;let⟨B,rv,p,hz⟩:=I.sqb L;have hl:=rv.length;refine y9 (I.ok.hd f) l A p (by simp;omega) λh' eb=>⟨S,?_⟩;show I.turnedL (ch:=[e,j]) (t':=s.toks) (λc o f q=>eb c o (λz=>f (by simp[z])) q) J
 self:=λ_ _ _ _ _ st h=>by let⟨⟨g,l⟩,_⟩:=st;show ł l h
end L2
namespace L2
open PySem PySem.Spec PyProof.Rows
open AutoSeq1 (wpAny_loadPart')
structure ZAp(z TI TO i1 i2:Addr):Prop where
 a1:TI≠z
 a2:TO≠z
 a3:i1≠z
 a4:i2≠z
 a5:TI≠TO
 a6:TI≠i1
 a7:TI≠i2
 a8:TO≠i1
 a9:TO≠i2
 a0:i1≠i2
theorem SqI.but{b:Bool}{h h':Heap}{f a c:Addr}{i:Nat}(x:SqI b h f a i)(s:Heap.SameBut c h h')(n:f≠c):SqI b h' f a i:=x.at λo e=>(s.2 f n).trans e
theorem SqO.but{b:Bool}{h h':Heap}{a c:Addr}{f:Array Value}(x:SqO b h a f)(s:Heap.SameBut c h h')(n:a≠c):SqO b h' a f:=x.at λo e=>(s.2 a n).trans e
theorem SqO.ne{b:Bool}{h:Heap}{a c:Addr}{j:Array Value}{o:Ô}(x:SqO b h a j)(e:h.get? c=Z o)(n1:o.cls≠.type "list")(n2:o.cls≠.type "tuple"):a≠c:=λz=>by
 subst z;cases b<;>(let⟨o',g,f,_⟩:=x;rw[e]at g;cases g)
 ·show n2 f
 ·show n1 f
theorem SqO.ne_it{b f:Bool}{h:Heap}{a g l:Addr}{j:Array Value}{i:Nat}(x:SqO b h a j)(y:SqI f h g l i):a≠g:=by cases f<;>(let⟨o,e,c,_⟩:=y;show x.ne e (by rw[c];simp) (by rw[c];simp))
section
variable{prog:Å}{w:È}{A:Ê}{E:Value->À->Prop}{s:À}
theorem nU{c z t a b:Addr}(h:c∉[z,t,a,b]):c≠z/\c≠t/\c≠a/\c≠b:=by simpa using h
theorem kh(z t u a b:Addr):z∈[z,t,u,a,b]/\t∈[z,t,u,a,b]/\u∈[z,t,u,a,b]/\a∈[z,t,u,a,b]/\b∈[z,t,u,a,b]:=by simp
theorem sH{z t u a b x:Addr}(h:x∈[z,u,a,b]):x∈[z,t,u,a,b]:=(List.Sublist.cons₂ z (.cons t (.refl _))).subset h
theorem Gv{I J:Bool}{z TI TO g h r l:Addr}{M N:Nat}{xs ys:Array Value}{x y a b:Value}{Q:Value->À->Prop}(D:ZAp z TI TO g h)
  (j:è s.heap z TI TO .none) (OQ:Ó s.heap TI (.ref g) (.ref h)) (PJ:Ó s.heap TO a b) (n1:r≠TO) (n2:l≠TO)
  (h1:SqI I s.heap g r M) (h2:SqI J s.heap h l N) (M7:SqO I s.heap r xs) (R:SqO J s.heap l ys) (hx:xs[M]?=Z x) (hy:ys[N]?=Z y)
  (hQ:∀h',è h' z TI TO (ò s.heap.objs.size)->Ó h' TO x y->SqI I h' g r (M+1)->SqI J h' h l (N+1)->Ó h' s.heap.objs.size x y->h'.objs.size=s.heap.objs.size+1->
   (∀c o,c∉[z,TO,g,h]->s.heap.get? c=Z o->h'.get? c=Z o)->Q (.ref s.heap.objs.size) { s with heap:=h' }) :
  wpAny (Ä prog w) A (Builtin.«zip.__next__» ⟨[.ref z],[]⟩) (λb_ s'=>∃v,b_=.done (.ret v)/\Q v s') E s:=by
 have T:r≠z:=M7.ne j (by simp) (by simp);have U:l≠z:=R.ne j (by simp) (by simp);have F:l≠g:=R.ne_it h1;change wpAny _ _ (Č (.ref z) 2 >>= _) _ _ _;refine Hn (II j S (x:=.bool ŕ) S ?_);change wpAny _ _ (Č (.ref z) 3 >>= _) _ _ _;refine Hn (II j S (x:=.ref TI) S (Hn (Ju OQ S ?_)));change wpAny _ _ (Builtin.SmallTypes.ownedTupleIsFree (.ref z) >>= _) _ _ _;refine Hn ?_;unfold Builtin.SmallTypes.ownedTupleIsFree;refine Hn (II j S (x:=.none) S (HA ?_));simp only[Ki];refine Hn (Lb (Hn (II j S (x:=.ref TO) S (Hn (JA j (by simp) λg1 z1 p=>?_)))));replace z1:è g1 z TI TO .ellipsis:=z1;refine Hn ?_;simp only[List.zipIdx_cons,List.zipIdx_nil,KI,LH];refine Hn (Hn (K7 ?_));change wpAny _ _ (Builtin.SmallTypes.nextOf (.ref g) >>= _) _ _ _;refine Hn (nP (h1.but p D.a3) (M7.but p T) hx λg2 p2 u=>HA ?_);have t2:Ó g2 TO a b:=u.extBut _ _ D.a8 (p.extBut _ _ D.a2 PJ);refine Hn (Ju t2 S (Hn (KJ t2 λg3 a_ B=>Hn (Į (HA ?_)))));replace a_:Ó g3 TO x b:=a_;refine Hn (Hn (K7 ?_));change wpAny _ _ (Builtin.SmallTypes.nextOf (.ref h) >>= _) _ _ _;refine Hn (nP (((h2.but p D.a4).but u D.a0.symm).but B D.a9.symm) (((R.but p U).but u F).but B n2) hy λg4 p4 G=>HA ?_);have t4:Ó g4 TO x b:=G.extBut _ _ D.a9 a_;refine Hn (Ju t4 S (Hn (KJ t4 λf O H=>Hn (Į (HA (HA ?_))))));replace O:Ó f TO x y:=O;refine Hn (Ju O S (Hn (wpAny_newTuple ?_)))
 have sz:f.objs.size=s.heap.objs.size:=by rw[H.1,G.1,B.1,u.1,p.1]
 have z5:è f z TI TO .ellipsis:=H.extBut _ _ D.a2.symm (G.extBut _ _ D.a4.symm (B.extBut _ _ D.a2.symm (u.extBut _ _ D.a3.symm z1)))
 have k5:∀c o,c∉[z,TO,g,h]->s.heap.get? c=Z o->f.get? c=Z o:=λc o L e=>by let⟨K,c2,c3,c4⟩:=nU L;show H.extBut _ _ c2 (G.extBut _ _ c4 (B.extBut _ _ c2 (u.extBut _ _ c3 (p.extBut _ _ K e))))
 have q1:SqI I f g r (M+1):=((p2.but B D.a8.symm).but G D.a0).but H D.a8.symm;have q2:SqI J f h l (N+1):=p4.but H D.a9.symm;change wpAny _ _ (Builtin.SmallTypes.ownedTupleHandOut (.ref z) (.ref f.objs.size) >>= _) _ _ _;refine Hn ?_;unfold Builtin.SmallTypes.ownedTupleHandOut;have z6:è (f.push { cls:=.type "tuple",data:=.seq #[x,y] }) z TI TO .ellipsis:=Ho _ z5;refine Hn (JA z6 (by simp) λg7 z7 X=>?_);replace z7:è g7 z TI TO (ò f.objs.size):=z7;refine JA z7 (by simp) λC P be=>?_;replace P:è C z TI TO (ò f.objs.size):=P;have up:∀c o,c≠z->f.get? c=Z o->C.get? c=Z o:=λc o K e=>be.extBut _ _ K (X.extBut _ _ K (Ho _ e));have zl:f.objs.size≠z:=LN (HI z5);have t8:Ó C f.objs.size x y:=be.extBut _ _ zl (X.extBut _ _ zl (HC _ S))
 have e8:C.objs.size=f.objs.size+1:=by rw[be.1,X.1,Iq]
 rw[sz]at P t8 e8;refine HA ⟨_,S,?_⟩;change Q (.ref f.objs.size) _;rw[sz];show hQ C P (up _ _ D.a2 O) (q1.at λo e=>up _ o D.a3 e) (q2.at λo e=>up _ o D.a4 e) t8 e8 λc o L e=>up c o (nU L).1 (k5 c o L e)
theorem Bk{a_ b2:Bool}{z TI TO r y G C:Addr}{b_ T:Nat}{xs be:Array Value}{a b:Value}{Q:Fin->À->Prop}(hh:A.handled=Œ)(D:ZAp z TI TO r y)
  (l:è s.heap z TI TO .none) (OQ:Ó s.heap TI (.ref r) (.ref y)) (PJ:Ó s.heap TO a b) (n1:G≠TO) (n2:C≠TO)
  (N:SqI a_ s.heap r G b_) (h2:SqI b2 s.heap y C T) (I:SqO a_ s.heap G xs) (J:SqO b2 s.heap C be) (MW:xs[b_]?=Œ\/be[T]?=Œ)
  (hE:∀h' e,(∀c o,c∉[z,TO,r,y]->s.heap.get? c=Z o->h'.get? c=Z o)->(∃o,h'.get? e=Z o/\o.cls=.type "StopIteration")->E (.ref e) { s with heap:=h' }) :
  wpAny (Ä prog w) A (Builtin.«zip.__next__» ⟨[.ref z],[]⟩) Q E s:=by
 have B:G≠z:=I.ne l (by simp) (by simp);have U:C≠z:=J.ne l (by simp) (by simp);have F:C≠r:=J.ne_it N;change wpAny _ _ (Č (.ref z) 2 >>= _) _ _ _;refine Hn (II l S (x:=.bool ŕ) S ?_);change wpAny _ _ (Č (.ref z) 3 >>= _) _ _ _;refine Hn (II l S (x:=.ref TI) S (Hn (Ju OQ S ?_)));change wpAny _ _ (Builtin.SmallTypes.ownedTupleIsFree (.ref z) >>= _) _ _ _;refine Hn ?_;unfold Builtin.SmallTypes.ownedTupleIsFree;refine Hn (II l S (x:=.none) S (HA ?_));simp only[Ki];refine Hn (Lb (Hn (II l S (x:=.ref TO) S (Hn (JA l (by simp) λg1 H f=>?_)))));replace H:è g1 z TI TO .ellipsis:=H;refine Hn ?_;simp only[List.zipIdx_cons,List.zipIdx_nil,KI,LH];refine Hn (Hn (K7 ?_));change wpAny _ _ (Builtin.SmallTypes.nextOf (.ref r) >>= _) _ _ _
 cases R:xs[b_]? with
 |none=>
  refine Hn (lV hh (N.but f D.a3) (I.but f B) R λM e g P=>?_);let⟨X,j,u⟩:=P;have z2:è M z TI TO .ellipsis:=g _ _ D.a3.symm H
  have L:e≠z:=λq=>by subst q;rw[z2]at j;cases j;simp at u
  refine JA z2 (by simp) λg3 _ p=>hE g3 e (λc o O q=>?_) ⟨X,p.extBut _ _ L j,u⟩;let⟨v,c2,K,c4⟩:=nU O;show p.extBut _ _ v (g _ _ K (f.extBut _ _ v q))
 |some x=>
  have hy:be[T]?=Œ:=by
   rcases MW with h|h
   ·rw[R]at h;cases h
   ·show h
  refine Hn (nP (N.but f D.a3) (I.but f B) R λM p2 g=>HA ?_);have t2:Ó M TO a b:=g.extBut _ _ D.a8 (f.extBut _ _ D.a2 PJ);refine Hn (Ju t2 S (Hn (KJ t2 λg3 t3 p=>Hn (Į (HA ?_)))));refine Hn (Hn (K7 ?_));change wpAny _ _ (Builtin.SmallTypes.nextOf (.ref y) >>= _) _ _ _;refine Hn (lV hh (((h2.but f D.a4).but g D.a0.symm).but p D.a9.symm) (((J.but f U).but g F).but p n2) hy λg4 e s4 P=>?_);let⟨X,j,u⟩:=P;have z4:è g4 z TI TO .ellipsis:=s4 _ _ D.a4.symm (p.extBut _ _ D.a2.symm (g.extBut _ _ D.a3.symm H))
  have L:e≠z:=λq=>by subst q;rw[z4]at j;cases j;simp at u
  refine JA z4 (by simp) λg5 _ s5=>hE g5 e (λc o O q=>?_) ⟨X,s5.extBut _ _ L j,u⟩;let⟨v,c2,K,c4⟩:=nU O;show s5.extBut _ _ v (s4 _ _ c4 (p.extBut _ _ c2 (g.extBut _ _ K (f.extBut _ _ v q))))
theorem EB(c l:Bool)(a j:Addr)(xs v:Array Value) :
  ņ (Builtin.«zip.__new__» ⟨[.type "zip",.ref a,.ref j],[]⟩) (λ_ R s=>SqO c s.heap a xs/\SqO l s.heap j v /\
   R (.ok (.ret (.ref (s.heap.objs.size+4)))) { s with heap:=((((s.heap.push (cN c a)).push (cN l j)).push { cls:=.type "tuple",data:=.seq #[.ref s.heap.objs.size,.ref (s.heap.objs.size+1)] }).push { cls:=.type "tuple",data:=.seq #[.none,.none] }).push { cls:=.type "zip",data:=.fields #[.none,.bool ŕ,.bool ŕ,.ref (s.heap.objs.size+2),.ref (s.heap.objs.size+3)] } }):=
 .of_wp λprog w A R s h=>by
  let⟨f,g,d,u,os⟩:=s;let⟨x,y,h⟩:=h;have B:=sub_zip;have p:SqO c (ć ⟨f,g,d,u,os⟩) a xs:=x;have r:SqO l (ć ⟨f.push (cN c a),g,d,u,os⟩) j v:=SqO.at y λo e=>Ho _ e
  wp_walk using j5 p,j5 r
  have z:(f.push (cN c a)).objs.size=f.objs.size+1:=Iq ..
  have C:((f.push (cN c a)).push (cN l j)).objs.size=f.objs.size+2:=by rw[Iq,z]
  refine⟨_,S,?_⟩;simp only[Iq];show h
theorem F0{a f:Bool}{e g:Addr}{xs I:Array Value}{Q:Value->À->Prop}(L:SqO a s.heap e xs)(M:SqO f s.heap g I)
  (h:∀h',è h' (s.heap.objs.size+4) (s.heap.objs.size+2) (s.heap.objs.size+3) .none->Ó h' (s.heap.objs.size+2) (.ref s.heap.objs.size) (.ref (s.heap.objs.size+1))->Ó h' (s.heap.objs.size+3) .none .none->
   SqI a h' s.heap.objs.size e 0->SqI f h' (s.heap.objs.size+1) g 0->(∀c o,s.heap.get? c=Z o->h'.get? c=Z o)->Q (.ref (s.heap.objs.size+4)) { s with heap:=h' }) :
  wpAny (Ä prog w) A (call (.type "zip") [.ref e,.ref g]) Q E s:=by
 refine callType_new F.called_zip 'b' (F.typeCall_zip_2 _ _) (F.newCall_zip_2 _ _) (λobj=>F.args_object_init_3 obj _ _) F.entry_zip_new (EB a f e g xs I) ⟨L,M,?_⟩
 have a_:(cN a e).isFreed=ŕ:=by cases a<;>rfl
 have T:(cN f g).isFreed=ŕ:=by cases f<;>rfl
 have J:(s.heap.push (cN a e)).objs.size=s.heap.objs.size+1:=Iq ..
 have C:((s.heap.push (cN a e)).push (cN f g)).objs.size=s.heap.objs.size+2:=by rw[Iq,J]
 generalize x:(s.heap.push (cN a e)).push (cN f g)=j at C ⊢
 have N:j.get? s.heap.objs.size=Z (cN a e):=by rw[←x];show Ho _ (HC _ a_)
 have O:j.get? (s.heap.objs.size+1)=Z (cN f g):=by rw[←x,←J];show HC _ T
 have U:∀c o,s.heap.get? c=Z o->j.get? c=Z o:=λc o q=>by rw[←x];show Ho _ (Ho _ q)
 generalize y:j.push { cls:=.type "tuple",data:=.seq #[.ref s.heap.objs.size,.ref (s.heap.objs.size+1)] }=l
 have K:l.objs.size=s.heap.objs.size+3:=by rw[←y,Iq,C]
 have P:Ó l (s.heap.objs.size+2) (.ref s.heap.objs.size) (.ref (s.heap.objs.size+1)):=by rw[←y,←C];show HC _ S
 have B:∀c o,j.get? c=Z o->l.get? c=Z o:=λc o q=>by rw[←y];show Ho _ q
 generalize z:l.push { cls:=.type "tuple",data:=.seq #[.none,.none] }=p
 have X:p.objs.size=s.heap.objs.size+4:=by rw[←z,Iq,K]
 have R:Ó p (s.heap.objs.size+3) .none .none:=by rw[←z,←K];show HC _ S
 have v:∀c o,l.get? c=Z o->p.get? c=Z o:=λc o q=>by rw[←z];show Ho _ q
 generalize r:p.push { cls:=.type "zip",data:=.fields #[.none,.bool ŕ,.bool ŕ,.ref (s.heap.objs.size+2),.ref (s.heap.objs.size+3)] }=H
 have G:è H (s.heap.objs.size+4) (s.heap.objs.size+2) (s.heap.objs.size+3) .none:=by rw[←r,←X];show HC _ S
 have u:∀c o,p.get? c=Z o->H.get? c=Z o:=λc o q=>by rw[←r];show Ho _ q
 change _/\_;show⟨⟨_,G,S⟩,h _ G (u _ _ (v _ _ P)) (u _ _ R) (jz (u _ _ (v _ _ (B _ _ N)))) (jz (u _ _ (v _ _ (B _ _ O)))) λc o q=>u _ _ (v _ _ (B _ _ (U _ _ q)))⟩
theorem yU{j l:Bool}{z TI TO e f g h:Addr}{p r:Nat}{xs B:Array Value}{x y a b:Value}{Q:œ Value->À->Prop}(D:ZAp z TI TO e f)
  (v:è s.heap z TI TO .none) (H:Ó s.heap TI (.ref e) (.ref f)) (I:Ó s.heap TO a b) (n1:g≠TO) (n2:h≠TO)
  (R:SqI j s.heap e g p) (a_:SqI l s.heap f h r) (C:SqO j s.heap g xs) (G:SqO l s.heap h B) (U:xs[p]?=Z x) (X:B[r]?=Z y)
  (T:∀h',è h' z TI TO (ò s.heap.objs.size)->Ó h' TO x y->SqI j h' e g (p+1)->SqI l h' f h (r+1)->Ó h' s.heap.objs.size x y->h'.objs.size=s.heap.objs.size+1->
   (∀c o,c∉[z,TO,e,f]->s.heap.get? c=Z o->h'.get? c=Z o)->Q (Z (.ref s.heap.objs.size)) { s with heap:=h' }):wpAny (Ä prog w) A (ó (.ref z)) Q E s:=by
 have u:s.TypeIs (.ref z) "zip":=⟨_,v,S⟩;unfold ó
 show Hn (Ē (IT (name:=Str.ofString "__next__") u KL (Jt KL u F.entry_zip_next
  (Gv D v H I n1 n2 R a_ C G U X λh' J K L M N O P=>HA (T h' J K L M N O P)) (F.args_zip_next_1 _))))
theorem wV{l p:Bool}{z TI TO f g h j:Addr}{v x:Nat}{xs y:Array Value}{a b:Value}{Q:œ Value->À->Prop}(O:A.handled=Œ)(D:ZAp z TI TO f g)
  (u:è s.heap z TI TO .none) (H:Ó s.heap TI (.ref f) (.ref g)) (I:Ó s.heap TO a b) (n1:h≠TO) (n2:j≠TO)
  (J:SqI l s.heap f h v) (K:SqI p s.heap g j x) (B:SqO l s.heap h xs) (G:SqO p s.heap j y) (C:xs[v]?=Œ\/y[x]?=Œ)
  (L:∀h',(∀c o,c∉[z,TO,f,g]->s.heap.get? c=Z o->h'.get? c=Z o)->Q Œ { s with heap:=h' }):wpAny (Ä prog w) A (ó (.ref z)) Q E s:=by
 have r:s.TypeIs (.ref z) "zip":=⟨_,u,S⟩;unfold ó;refine Hn (Ē (IT (name:=Str.ofString "__next__") r KL (Jt KL r F.entry_zip_next (Bk O D u H I n1 n2 J K B G C λh' e P N=>?_) (F.args_zip_next_1 _))));let⟨o,ho,M⟩:=N;show Hn (ň (T:="StopIteration") (b:=Ŕ) ⟨o,ho,M⟩ isSubtype_stop (HA (L _ P)))
end
theorem Inv.sqb_ne{X:Cx}{g:Y (Addr×Ô)}{p:St}{H:Hp}{s:À}{b:Bool}{a c:Addr}{xs:Y V}(I:Inv X g p H s)(h:SqB X.K b H a xs)(f:dR X g H c):a≠c:=λz=>by
 subst z
 have l:∀o,X.K.lookup a=Z o->False:=λo e=>by
  have j:=I.mod.kin a o e;rcases f.2.2.2.1 with q|q
  ·show I.ok.noex a o j q
  ·show absurd (Ie (HI j) (HZ I.ok.bsz q)) (Jc _)
 cases b with
 |true=>
  rcases h with (h|⟨o,h⟩)|⟨o,_,_,h,_⟩
  ·rw[f.1]at h;cases h
  ·rw[f.1]at h;cases h
  ·show l o h
 |false=>
  rcases h with (h|⟨o,h⟩)|⟨o,_,_,h,_⟩
  ·rw[f.1]at h;cases h
  ·rw[f.1]at h;cases h
  ·show l o h
noncomputable def pf(K:Â)(c:Bool)(a1:Addr)(e:Bool)(a2:Addr):It:=
 ⟨λi H=> ∃xs a x y, SqB K c H a1 xs /\ SqB K e H a2 a /\ xs[i]? = Z x /\ a[i]? = Z y,
  λi H v f=> ∃t x y, H t = Œ /\ v = .ref t /\ f = am H t (.tup [x, y]) /\ (∀xs, SqB K c H a1 xs-> xs[i]? = Z x) /\ ∀a, SqB K e H a2 a-> a[i]? = Z y,
  λi H=> ∃xs a, SqB K c H a1 xs /\ SqB K e H a2 a /\ (xs.length <= i \/ a.length <= i)⟩
theorem Fz{P:Å}{w:È}{K:Â}{es:Y Ã}{k:Nat}{pos:Õ}(b1 b2:Bool)(a1 a2 z TI TO g j:Addr)(D:ZAp z TI TO g j) :
  Turn P w K (.Tuple es k pos) (pf K b1 a1 b2 a2) [z,TI,TO,g,j] z (λi h=>è h z TI TO .none/\Ó h TI (.ref g) (.ref j)/\(∃a b,Ó h TO a b)/\SqI b1 h g a1 i/\SqI b2 h j a2 i) where
 mem:=Ht
 obj:=λi h st c f=>by
  let⟨r,p,⟨a,b,A⟩,B,C⟩:=st;simp only[HH,Jv,or_false]at f;rcases f with rfl|rfl|rfl|rfl|rfl
  ·show⟨_,r,λv q=>by have G:Data.fields _=Data.cell v:=q;cases G⟩
  ·show⟨_,p,λv q=>by have G:Data.seq _ _=Data.cell v:=q;cases G⟩
  ·show⟨_,A,λv q=>by have G:Data.seq _ _=Data.cell v:=q;cases G⟩
  ·show B.obj
  ·show C.obj
 keep:=λi h h' st k=>by
  let⟨r,p,⟨a,b,A⟩,B,C⟩:=st;have M:=kh z TI TO g j;show⟨k z M.1 _ r,k TI M.2.1 _ p,⟨a,b,k TO M.2.2.1 _ A⟩,B.at λo q=>k g M.2.2.2.1 o q,C.at λo q=>k j M.2.2.2.2 o q⟩
 item:=by
  intro X U hw T f i l s σ H E I F st a_;subst U hw T;let⟨xs,ys,x,y,J,L,hx,hy⟩:=a_;let⟨r,p,⟨a,b,A⟩,B,C⟩:=st;let⟨PM,R,p1,_⟩:=I.sqb J;let⟨Ny,b_,p2,_⟩:=I.sqb L;let⟨u,hu,ru⟩:=R.get hx;let⟨v,hv,rv⟩:=b_.get hy;refine yU D r p A (I.sqb_ne J (F TO (kh z TI TO g j).2.2.1)) (I.sqb_ne L (F TO (kh z TI TO g j).2.2.1)) B C p1 p2 (x:=u) (y:=v) (by simpa using hu) (by simpa using hv) λh' z1 z2 z3 z4 z5 z6 O=>?_;refine⟨.ref s.heap.objs.size,S,wpAny_letOwnedTupleGo_zip z1 λg2 zz N=>?_⟩;have zn:H s.heap.objs.size=Œ:=I.fresh
  have I1:Inv X l σ (am H s.heap.objs.size (.tup [x,y])) { s with heap:=s.heap.push { cls:=.type "tuple",data:=.seq #[u,v] },toks:=s.toks }:=
   I.laid (λc o q=>Ho _ q) (Hr _) ⟨by change 2<=sizeLine;decide,[u,v],.cons ru (.cons rv .nil),_,HC _ S,⟨S,S⟩,0,S⟩
  have SA:∀c∈[z,TI,TO,g,j],c<s.heap.objs.size:=λc f=>by
   simp only[HH,Jv,or_false]at f;rcases f with rfl|rfl|rfl|rfl|rfl
   ·show HI r
   ·show HI p
   ·show HI A
   ·show B.lt
   ·show C.lt
  have f1:∀c∈[z,TI,TO,g,j],dR X l (am H s.heap.objs.size (.tup [x,y])) c:=λc f=>⟨by rw[aS (HX (SA c f))];show (F c f).1,(F c f).2⟩;have I2:=I1.turnedL (h':=g2) (ch:=[z,TI,TO,g,j]) (t':=s.toks) (λc o f q=>?_) f1
  ·refine⟨.ref s.heap.objs.size,_,I2,S,⟨s.heap.objs.size,x,y,zn,S,S,λxs' Q=>by rw[I.sqb_inj Q J];show hx,λys' Q=>by rw[I.sqb_inj Q L];show hy⟩,
    ⟨zz,N.extBut _ _ D.a1 (O TI _ (by simp[D.a1,D.a5,D.a6,D.a7]) p),⟨_,_,N.extBut _ _ D.a2 z2⟩,z3.but N D.a3,z4.but N D.a4⟩,λc f=>(f1 c f).1⟩
  ·have be:c≠z:=λe=>f (e▸Ht);refine (N.2 c be).trans ?_;rcases Heap.get?_push_cases q with⟨e,e'⟩|G
   ·subst e;subst e';show z5
   ·show O c o (λe=>f (sH e)) G
 done:=by
  intro X U hw T f i l s σ H E I F st a_;subst U hw T;let⟨xs,ys,J,L,MW⟩:=a_;let⟨r,p,⟨a,b,A⟩,B,C⟩:=st;let⟨PM,R,p1,_⟩:=I.sqb J;let⟨Ny,b_,p2,_⟩:=I.sqb L;have l1:=R.length;have l2:=b_.length
  have he:PM.toArray[i]?=Œ\/Ny.toArray[i]?=Œ:=by
   rcases MW with q|q
   ·show .inl (by simp;omega)
   ·show .inr (by simp;omega)
  refine wV (I.ok.hd f) D r p A (I.sqb_ne J (F TO (kh z TI TO g j).2.2.1)) (I.sqb_ne L (F TO (kh z TI TO g j).2.2.1)) B C p1 p2 he λh' O=>⟨S,?_⟩;refine I.turnedL (ch:=[z,TI,TO,g,j]) (t':=s.toks) (λc o f q=>O c o (λe=>f (sH e)) q) F
 self:=λ_ _ _ _ _ st h=>Ň st.1 h
theorem Fb(n:Nat):ZAp (n+4) (n+2) (n+3) n (n+1):=
 ⟨(by omega:n+2≠n+4),(by omega:n+3≠n+4),(by omega:n≠n+4),(by omega:n+1≠n+4),(by omega:n+2≠n+3),(by omega:n+2≠n),(by omega:n+2≠n+1),(by omega:n+3≠n),(by omega:n+3≠n+1),(by omega:n≠n+1)⟩
end L2
namespace L2
open PySem PySem.Spec PyProof.Rows
section
variable{X:Cx}
theorem yi:bL X (Í .Mult) (rI ý λi j=>.int (i*j)):=nu λ_ _ _ _ _ _ _ a q=>mul_int q a
noncomputable def CDivB(i j:Int):Prop:=0<j/\j.natAbs.log2<9000
theorem FT:bL X (Í .FloorDiv) (rI CDivB λi j=>.int (i/j)):=nu λi j _ _ _ _ _ a q=>by have c:(0:Int)<j:=a.1;show floordiv_int () (by rw[Int.fdiv_eq_ediv_of_nonneg i ()];show q) (.inl (PyProof.noPylong_of_log2 a.2))
end
theorem t7{n k:Nat}(a:0<k)(h:n<2^k):n.log2<k:=by
 rcases Nat.eq_zero_or_pos n with z|z
 ·subst z;simpa using a
 ·show (Nat.log2_lt (LN z)).mpr h
theorem CDivB.of{i j:Int}(a:0<j)(h:j<2^9000):CDivB i j:=⟨a,t7 'b' (by
 have e:(j.natAbs:Int)=j:=Int.natAbs_of_nonneg (Int.le_of_lt a)
 have:(j.natAbs:Int)<((2^9000:Nat):Int):=by rw[e];exact_mod_cast h
 exact_mod_cast this)⟩
theorem qV{a:Int}{k:Nat}(c:0<k)(h:a.natAbs<2^k):Builtin.Int.intBits a<=k:=by
 unfold Builtin.Int.intBits;split
 ·show Jx _
 ·show t7 c h
theorem Dk{a b:Int}{m n:Nat}(f:0<m)(hn:0<n)(c:a.natAbs<2^m)(e:b.natAbs<2^n)(h:m+n<=134217728):ý a b:=PyProof.Rows.mulOk_of_bits (qV f c) (qV hn e) h
theorem gX{a b:Int}(c:-(2^64)<a)(e:a<2^64):ý a b:=.of_left (intBits_le_64 c e)
theorem nV{a b:Int}(c:-(2^64)<b)(e:b<2^64):ý a b:=.of_right (intBits_le_64 c e)
section
variable{prog:Å}{w:È}{A:Ê}{E:Value->À->Prop}{s:À}
theorem va{c t:Addr}{items:Array Value}(f:t≠c):∀(n i:Nat)(s:À)(Q:Y Value->À->Prop),s.heap.IsListIter c t i->s.heap.IsList t items->i+n<=items.size->
  (∀h',h'.IsListIter c t (i+n)->Heap.SameBut c s.heap h'->Q ((items.toList.drop i).take n) { s with heap:=h' })->wpAny (Ä prog w) A (draw (.ref c) n) Q E s
 |0,i,s,Q,a,_,_,e=>by change wpAny _ _ (pure []) Q E s;show HA (by simpa using e s.heap a (Heap.SameBut.refl ..))
 |n+1,i,s,Q,a,h,r,e=>by
  have g:i<items.size:=by omega
  change wpAny _ _ (ó (.ref c) >>= _) Q E s;refine Hn (Km a h (x:=items[i]) (by simp[g]) λv l j=>?_);refine Hn (Jj (va f n (i+1) _ _ l (h.extBut j.extBut f) () λp o u=>HA ?_))
  have hd:items.toList.drop i=items[i]::items.toList.drop (i+1):=by simp[Ld,g]
  have:=e p (by rw[show i+(n+1)=i+1+n by omega];show o) (j.trans u);rw[hd,List.take_succ_cons]at this;show this
theorem Dh{t:Addr}{items:Array Value}{Q:Y Value->À->Prop}(x:A.handled=Œ)(a:s.heap.IsList t items)
  (v:∀h',Heap.ExtBut s.heap.objs.size s.heap h'->Q items.toList { s with heap:=h' }):wpAny (Ä prog w) A (unpackItems (.ref t) items.size Œ) Q E s:=by
 have f:t≠s.heap.objs.size:=by let⟨o,ho,_⟩:=a;show HX (HI ho)
 unfold unpackItems;refine Hn ?_;unfold notIterableAtAll;refine Hn (ō a.typeIs slot_list_iter.lookup (HA ?_));simp only[Ġ,LL];refine Hn (Jj (K8 a (Hn (Jj (va f items.size 0 _ _ ⟨_,HC _ S,S,S⟩ (a.push _) () λr j h=>?_)))))
 have l:List.take items.size (List.drop 0 items.toList)=items.toList:=by rw[KY];show Jh (by simp)
 rw[l,Hq (by simp)];have c:r.IsList t items:=(a.push _).extBut h.extBut f;refine Hn (Jj (Ku x j c (by simp) λu p=>?_));simp only[Option.isSome_none,Ġ,LL];show HA (v u λb o g e=>p b o g (h.extBut b o g (Ho _ e)))
end
section
variable{X:Cx}{c:Õ}
noncomputable def oX(K:Â)(n:Nat)(t:e6):TG:=λv e H Q=>∃a xs,v=.ref a/\SqL K H a xs/\xs.length=n/\t xs e H Q
theorem Gy{es:Y Ã}{k:Nat}{t:e6}{n:Nat}(A:X.calm=Ŕ)(h:PGs X es t)
  (hn:(Æ es X.env).length=n:=by rfl) (x:(Æ es X.env).findIdx? (·.1)=Œ:=by rfl):PG X (.Tuple es k c) (oX X.K n t):=by
 intro f s l H v u Q I r g;let⟨a,xs,z,C,B,g⟩:=g;subst z;cases r;let⟨w,j,E,G⟩:=I.list C;rw[assign_Tuple];refine Hn (Kp ?_);unfold unpack
 have y:(Æ es X.env).length=w.toArray.size:=by simp[hn,←B,j.length]
 rw[y,x];refine Hn (Jj (Dh (I.ok.hd A) E.isList λh' F=>?_));have p:Inv X f l H { s with heap:=h' }:=I.kept (t':=s.toks) λb o e=>F b o (HX (HI e)) e;show h f _ l H xs _ Q p (by simpa using j) g
end
inductive IsiV(K:Â)(H:Hp):V->String->Bool->Prop where
 |int_int (i):IsiV K H (.int i) "int" Ŕ
 |int_bool (i):IsiV K H (.int i) "bool" ŕ
 |int_tuple (i):IsiV K H (.int i) "tuple" ŕ
 |int_str (i):IsiV K H (.int i) "str" ŕ
 |bl_int (b):IsiV K H (.bl b) "int" Ŕ
 |bl_bool (b):IsiV K H (.bl b) "bool" Ŕ
 |bl_tuple (b):IsiV K H (.bl b) "tuple" ŕ
 |str_str (x):IsiV K H (.str x) "str" Ŕ
 |str_tuple (x):IsiV K H (.str x) "tuple" ŕ
 |tup_tuple {a xs}:SqT K H a xs->IsiV K H (.ref a) "tuple" Ŕ
 |tup_int {a xs}:SqT K H a xs->IsiV K H (.ref a) "int" ŕ
 |lst_tuple {a xs}:SqL K H a xs->IsiV K H (.ref a) "tuple" ŕ
 |lst_list {a xs}:SqL K H a xs->IsiV K H (.ref a) "list" Ŕ
noncomputable def sF(K:Â):Y V->Hp->VK->Prop:=λvs H Q=>∃x T b,vs=[x,.ty T]/\IsiV K H x T b/\Q (.bl b) H
theorem xC{x y:V}{us:Y Value}(r:Vals [x,y] us):∃u v,us=[u,v]/\RelV x u/\RelV y v:=by
 cases r with
 |cons r rr=>
  cases rr with
  |cons a rr=>cases rr;show⟨_,_,S,r,a⟩
theorem zq{X:Cx}:dB X (.builtin "isinstance") (sF X.K):=by
 intro g s y H xs us Q I r h;let⟨x,T,b,rfl,w,q⟩:=h;let⟨u,v,rfl,f,l⟩:=xC r;have l:v=.type T:=l;subst l;have a:∀(c:Bool)(t:Nat),Q (.bl c) H->EP X g y Q (.bool c) { s with toks:=t }:=λc t q=>⟨.bl c,H,I.tok t,S,q⟩
 cases w with
 |int_int i=>let⟨t,rfl⟩:=f;show IsiPair.int_int (a _ s.toks q)
 |int_bool i=>let⟨t,rfl⟩:=f;show IsiPair.int_bool (a _ _ q)
 |int_tuple i=>let⟨t,rfl⟩:=f;show IsiPair.int_tuple (a _ _ q)
 |int_str i=>let⟨t,rfl⟩:=f;show IsiPair.int_str (a _ _ q)
 |bl_int b=>cases f;show IsiPair.bool_int (a _ s.toks q)
 |bl_bool b=>cases f;show IsiPair.bool_bool (a _ s.toks q)
 |bl_tuple b=>cases f;show IsiPair.bool_tuple (a _ _ q)
 |str_str x=>let⟨t,rfl⟩:=f;show IsiPair.str_str (a _ s.toks q)
 |str_tuple x=>let⟨t,rfl⟩:=f;show IsiPair.str_tuple (a _ _ q)
 |tup_tuple h=>
  cases f;let⟨j,_,p,_⟩:=I.tuple h;show KN (ŏ (Tx:="tuple") F.isi_meta_tuple F.sub_tuple_tuple) ⟨p.typeIs,a _ s.toks q⟩
 |tup_int h=>
  cases f;let⟨j,_,⟨o,e,c,_⟩,_⟩:=I.tuple h;show KN (isinstance_false_tuple 'a' F.isi_meta_int F.sub_tuple_int) ⟨⟨o,e,c⟩,a _ _ q⟩
 |lst_tuple h=>
  cases f;let⟨j,_,p,_⟩:=I.list h;let⟨o,e,c,_⟩:=p.isList;show KN (isinstance_false_list 'a' F.isi_meta_tuple F.sub_list_tuple) ⟨⟨o,e,c⟩,a _ _ q⟩
 |lst_list h=>
  cases f;let⟨j,_,p,_⟩:=I.list h;show KN (ŏ (Tx:="list") F.isi_meta_list F.sub_list_list) ⟨p.isList.typeIs,a _ s.toks q⟩
theorem oq{prog:Å}{w:È}{A:Ê}(y:A.handled=Œ)(b:Bool)(j a:Addr)(u:a≠j)(l:Array Value):Walks prog w A j [j,a] [j] l.size (λi v=>l[i]?=Z v) (λi h=>SqI b h j a i/\SqO b h a l) where
 sub:=λc f=>by rw[Hw.mp f];simp
 frame:=λ_ _ _ st k=>⟨st.1.at λo e=>k j (by simp) o e,st.2.at λo e=>k a (by simp) o e⟩
 item:=λi s Q E p st g=>by
  cases b with
  |true=>show Km st.1 st.2 (x:=l[i]) (by simp[p]) λh' q sb=>g _ h' s.toks (by simp[p]) ⟨q,SqO.at (b:=Ŕ) st.2 λo e=>(sb.2 a u).trans e⟩ λc o f e=>(sb.2 c λz=>f (by simp[z])).trans e
  |false=>show ė st.1 st.2 (x:=l[i]) (by simp[p]) λh' q sb=>g _ h' s.toks (by simp[p]) ⟨q,SqO.at (b:=ŕ) st.2 λo e=>(sb.2 a u).trans e⟩ λc o f e=>(sb.2 c λz=>f (by simp[z])).trans e
 done:=λs Q E st g=>by
  cases b with
  |true=>show Ku y st.1 st.2 (by simp) λh' r=>g h' s.toks λc o f e=>r c o (λz=>f (by simp[z])) e
  |false=>show ġ y st.1 st.2 (by simp) λh' r=>g h' s.toks λc o f e=>r c o (λz=>f (by simp[z])) e
 self:=λi s Q E st g=>by
  cases b with
  |true=>show Ĭ st.1 g
  |false=>show Ģ st.1 g
theorem pQ{x:V}{us:Y Value}(r:Vals [x] us):∃u,us=[u]/\RelV x u:=by
 cases r with
 |cons r rr=>cases rr;show⟨_,S,r⟩
theorem tJ(val:Nat->Int)(ns:Y Int)(h:∀i n,ns[i]?=Z n->val i=n):∀k,k<=ns.length->preSum val k=(ns.take k).sum
 |0,_=>by simp[preSum]
 |k+1,c=>by
  have a:k<ns.length:=c;have e:=h k ns[k] (by simp[a]);rw[preSum,tJ val ns h k (Jl a),e,Ks a,LA];simp
noncomputable def EA(K:Â)(b:Bool):Y V->Hp->VK->Prop:=λvs H Q=>∃(a:Addr)(ns:Y Int),vs=[.ref a]/\SqB K b H a (ns.map V.int)/\Q (.int ns.sum) H
theorem FI(b:Bool){X:Cx}(M:X.calm=Ŕ):dB X (.builtin "sum") (EA X.K b):=by
 intro C s σ H xs us Q I r h;let⟨a,ns,rfl,b_,q⟩:=h;let⟨u,rfl,U⟩:=pQ r;cases U;let⟨f,j,p,a_⟩:=I.sqb b_;refine call_sum_walkAnyS (j5 p ?_);have E:a≠s.heap.objs.size:=HX p.lt;have W:=oq (prog:=X.prog) (w:=X.w) (A:=X.A.in1) (I.ok.hd M) b s.heap.objs.size a E f.toArray
 have T:∀(i:Nat)(v:Value),f.toArray[i]?=Z v->∃t,v=.int (ns.getD i 0) t:=λi v e=>by
  have y:f[i]?=Z v:=by simpa using e
  have P:i<ns.length:=by
   have:=(Iu.mp y).1;have:=j.length;rw[Hj]at this;omega
  let⟨v',B,L⟩:=j.get (i:=i) (x:=V.int (ns.getD i 0)) (by simp[P]);rw[y]at B;cases B;show L
 have ln:f.toArray.size=ns.length:=by have:=j.length;rw[Hj]at this;simp[this]
 refine⟨s.heap.objs.size,[s.heap.objs.size,a],[s.heap.objs.size],_,f.toArray.size,_,_,λi=>ns.getD i 0,S,W.toS,⟨jz (HC _ (by cases b<;>rfl)),p.at λo e=>Ho _ e⟩,λc g=>?_,T,λbe t' R=>?_⟩
 ·rw[Iq];rcases HH.mp g with rfl|g
  ·show JZ _
  ·rw[Hw.mp g];show JU p.lt
 ·let⟨O,N,hd,ho,_⟩:=R;let⟨h',g',d',l,F⟩:=be;have G:g'=s.gens:=N;have J:d'=s.drawn:=hd;have K:F=s.os:=ho;subst G J K;refine⟨.int ns.sum,H,I.kept (h':=h') (t':=l) λc o e=>O c o (λz=>?_) (Ho _ e),⟨t',?_⟩,q⟩
  ·rw[Hw.mp z]at e;show absurd (HI e) (Jc _)
  ·rw[ln,tJ (λi=>ns.getD i 0) ns (λi n e=>by
    change ns.getD i 0=n
    rw[HE,e];rfl) ns.length (Hr _),Ja]
noncomputable def se(K:Â)(b:Bool)(f:Y Bool->Bool):Y V->Hp->VK->Prop:=λvs H Q=>∃(a:Addr)(bs:Y Bool),vs=[.ref a]/\SqB K b H a (bs.map V.bl)/\Q (.bl (f bs)) H
theorem uu{prog:Å}{w:È}{A:Ê}{a:Array Value}{bs:Y Bool}(h:Vals (bs.map V.bl) a.toList):TruthOf prog w A (λi v=>a[i]?=Z v) (λi=>bs.getD i ŕ):=by
 intro i v s Q E e q
 have f:a.toList[i]?=Z v:=by simpa using e
 have j:i<bs.length:=by
  have:=(Iu.mp f).1;have:=h.length;rw[Hj]at this;omega
 let⟨l,g,c⟩:=h.get (i:=i) (x:=V.bl (bs.getD i ŕ)) (by simp[j]);rw[f]at g;cases g;have c:v=.bool (bs.getD i ŕ):=c;subst c;show JG q
theorem yR(bs:Y Bool):(List.range bs.length).all (λi=>bs.getD i ŕ)=bs.all id:=by
 rw[J6];simp only[Jb,HQ,id];constructor
 ·intro h x c;let⟨i,a,rfl⟩:=List.mem_iff_getElem.mp c;have:=h i a;simpa [a] using this
 ·intro h i a;have:=h bs[i] (Jw a);simpa [a] using this
theorem x6(bs:Y Bool):(List.range bs.length).any (λi=>bs.getD i ŕ)=bs.any id:=by
 rw[J6];simp only[Lk,HQ,id];constructor
 ·rintro⟨i,a,h⟩;show⟨bs[i],Jw a,by simpa [a] using h⟩
 ·rintro⟨x,c,h⟩;let⟨i,a,rfl⟩:=List.mem_iff_getElem.mp c;show⟨i,a,by simpa [a] using h⟩
theorem AQ(b:Bool){X:Cx}(v:X.calm=Ŕ):dB X (.builtin "all") (se X.K b λbs=>bs.all id):=by
 intro g s F H xs us Q I r h;let⟨a,bs,rfl,y,q⟩:=h;let⟨u,rfl,B⟩:=pQ r;cases B;let⟨f,j,p,E⟩:=I.sqb y;have l:a≠s.heap.objs.size:=HX p.lt
 have ln:f.toArray.size=bs.length:=by have:=j.length;rw[Hj]at this;simp[this]
 have W:=oq (prog:=X.prog) (w:=X.w) (A:=X.A.in1) (I.ok.hd v) b s.heap.objs.size a l f.toArray;refine call_all_walk (j5 p ⟨s.heap.objs.size,[s.heap.objs.size,a],[s.heap.objs.size],f.toArray.size,_,_,λi=>bs.getD i ŕ,S,W,⟨jz (HC _ (by cases b<;>rfl)),p.at λo e=>Ho _ e⟩,uu (by simpa using j),λh' C x=>?_⟩);rw[ln,yR];refine⟨.bl (bs.all id),H,I.kept (h':=h') (t':=C) λc o e=>x c o (λz=>?_) (Ho _ e),S,q⟩;rw[Hw.mp z]at e;show absurd (HI e) (Jc _)
theorem Ai(b:Bool){X:Cx}(v:X.calm=Ŕ):dB X (.builtin "any") (se X.K b λbs=>bs.any id):=by
 intro g s F H xs us Q I r h;let⟨a,bs,rfl,y,q⟩:=h;let⟨u,rfl,B⟩:=pQ r;cases B;let⟨f,j,p,E⟩:=I.sqb y;have l:a≠s.heap.objs.size:=HX p.lt
 have ln:f.toArray.size=bs.length:=by have:=j.length;rw[Hj]at this;simp[this]
 have W:=oq (prog:=X.prog) (w:=X.w) (A:=X.A.in1) (I.ok.hd v) b s.heap.objs.size a l f.toArray;refine call_any_walk (j5 p ⟨s.heap.objs.size,[s.heap.objs.size,a],[s.heap.objs.size],f.toArray.size,_,_,λi=>bs.getD i ŕ,S,W,⟨jz (HC _ (by cases b<;>rfl)),p.at λo e=>Ho _ e⟩,uu (by simpa using j),λh' C x=>?_⟩);rw[ln,x6];refine⟨.bl (bs.any id),H,I.kept (h':=h') (t':=C) λc o e=>x c o (λz=>?_) (Ho _ e),S,q⟩;rw[Hw.mp z]at e;show absurd (HI e) (Jc _)
noncomputable def bZ(N:Y Str)(a scope:â)(N':Y Str)(cap:Y (œ Nat)):Bool:=
 decide (scope.kind=.function)&&scope.names.all (λx=>decide (x.2=.cell->scope.names.lookup x.1=Z .cell))&&scope.names.all (λx=>decide (x.2=.local->scope.names.lookup x.1=Z .local)) &&
  scope.names.all (λx=>decide (x.2=.free->a.names.lookup x.1=Z .cell/\scope.names.lookup x.1=Z .free))&&decide N'.Nodup&&decide (cap.length=N'.length) &&
  (cap.zip N').all λp=>match p.1 with|none=>Ŕ|some i=>decide (N[i]?=Z p.2/\(p.2,NameKind.free)∈scope.names)
theorem CompScope.ok{N:Y Str}{f scope:â}{N':Y Str}{cap:Y (œ Nat)}(h:bZ N f scope N' cap=Ŕ):CompScope N f scope N' cap:=by
 unfold bZ at h;simp only[IW,Jf,Jb]at h;let⟨⟨⟨⟨⟨⟨g,j⟩,l⟩,e⟩,o⟩,r⟩,u⟩:=h;refine⟨g,j,l,λx c a=>(e x c a).1,λx c a=>(e x c a).2,o,r,λp w i v=>?_⟩;have:=u p w;rw[v]at this;simpa using this
theorem cY{H:Hp}{p:Addr}(h:H p=Œ)(o:HO):Same H (am H p o):=λb u q=>by rw[aS (da q h)];show q
theorem C2{H a:Hp}{p:Addr}(s:Same H a)(h:H p=Œ)(o:HO):Same H (am a p o):=λb u q=>by rw[aS (da q h)];show s b u q
theorem Same.sqt{K:Â}{H c:Hp}{a:Addr}{xs:Y V}(e:Same H c)(h:SqT K H a xs):SqT K c a xs:=SqB.same (b:=ŕ) e h
theorem small{n:Nat}(h:n<=1000):n<=sizeLine:=Jl (bu h)
theorem dP{p:Prop}[Decidable p](h:decide p=Ŕ):p:=IM h
theorem i6{a:Type}{xs:Y a}{i:Nat}{x:a}(h:xs[i]?=Z x):xs.take (i+1)=xs.take i++[x]:=by let⟨c,e⟩:=Iu.mp h;rw[Ks c,e]
theorem aB{a:Type}{xs:Y a}{i:Nat}{x:a}(h:xs[i]?=Z x):i<xs.length:=(Iu.mp h).1
theorem ge{a:Type}{xs:Y a}{i:Nat}{x:a}{k:Int}(h:xs[i]?=Z x)(e:k=(i:Int)):cn xs k=Z x:=by subst e;show zQ h
noncomputable def ba(ns:Y Int):Int:=ns.foldl (λd x=>(Int.gcd x d:Int)) 0
theorem qZ(xs:Y Int)(x:Int):ba (xs++[x])=(Int.gcd x (ba xs):Int):=by unfold ba;rw[K9];rfl
theorem rY{g l:Int}(a:0<=g)(c:0<l):Int.gcd l (g % l)=Int.gcd g l:=by
 rw[Int.gcd_comm g l]
 have e:g % l=g-l*(g/l):=by have:=Int.emod_add_mul_ediv g l;omega
 rw[e];simpa using Int.gcd_sub_mul_right_right
theorem i4(ns:Y Int):0<=ba ns:=by
 have h:∀(ns:Y Int)(d:Int),0<=d->0<=ns.foldl (λd x=>(Int.gcd x d:Int)) d:=by
  intro ns
  induction ns with
  |nil=>intro d hd;show hd
  |cons x r a=>intro d _;show a _ (Int.natCast_nonneg _)
 show h ns 0 'b'
theorem ku(ns:Y Int):∀x∈ns,ba ns∣x:=by
 have h:∀(ns:Y Int)(d:Int),ns.foldl (λd x=>(Int.gcd x d:Int)) d∣d/\∀x∈ns,ns.foldl (λd x=>(Int.gcd x d:Int)) d∣x:=by
  intro ns
  induction ns with
  |nil=>intro d;show⟨Int.dvd_refl _,λx a=>absurd a Jv⟩
  |cons y r f=>
   intro d;let⟨c,e⟩:=f (Int.gcd y d:Int);refine⟨Int.dvd_trans c (Int.gcd_dvd_right ..),λx a=>?_⟩;rcases HH.mp a with rfl|a
   ·show Int.dvd_trans c (Int.gcd_dvd_left ..)
   ·show e x a
 show (h ns 0).2
noncomputable def dM(es ns:Y Int):Int:=(List.zipWith (·*·) es ns).sum
noncomputable def dc{a:Type}(xs:Y a)(lo c:œ Int):Y a:=(xs.drop (HT.sIx xs.length 0 lo)).take (HT.sIx xs.length xs.length c-HT.sIx xs.length 0 lo)
theorem Vals.get'{xs:Y V}{us:Y Value}(r:Vals xs us){j:Nat}(h:j<us.length):∃x,xs[j]?=Z x/\RelV x us[j]:=by
 have f:=Vals.length r
 have a:j<xs.length:=by omega
 let⟨u,c,e⟩:=Vals.get (i:=j) (x:=xs[j]) r (by simp[a]);refine⟨xs[j],by simp[a],?_⟩;rw[IC h]at c;cases c;show e
section
variable{prog:Å}{w:È}{A:Ê}{E:Value->À->Prop}{s:À}
theorem wv{t b:Addr}{vs g:Y Value}{Q:Value->À->Prop}(r:ĝ s.heap t vs.toArray)(p:ĝ s.heap b g.toArray)(u:vs=[])(h:Q (.ref b) s):wpAny (Ä prog w) A (Í .Add (.ref t) (.ref b)) Q E s:=by let⟨⟨cls,o,data,sl⟩,ho,f,n,hd⟩:=id r;let⟨⟨v,j,data2,l⟩,c,e,n2,a⟩:=id p;simp only at f hd e a;subst f hd e a;show Ĥ ⟨_,ho,S⟩ ⟨_,c,S⟩ Lh ē Kn Kj (Kb _ _) (tuple_addW0 t b vs.toArray g.toArray n n2 o j sl l (by simp[u])) ⟨ho,c,h⟩
end
theorem mD{A B:Nat}:∀{es ns:Y Int},(∀x∈es,x.natAbs<=A)->(∀y∈ns,y.natAbs<=B)->(dM es ns).natAbs<=es.length*(A*B)
 | [],_,_,_=>by simp[dM]
 |_::_,[],_,_=>by simp[dM]
 |x::es,y::ns,c,f=>by
  have j:=mD (es:=es) (ns:=ns) (λz a=>c z (Hv _ a)) (λz a=>f z (Hv _ a))
  have e:dM (x::es) (y::ns)=x*y+dM es ns:=by simp[dM]
  have g:(x*y).natAbs<=A*B:=by rw[KZ];show K0 (c x Ht) (f y Ht)
  have h:=Int.natAbs_add_le (x*y) (dM es ns);rw[e,HD,Nat.add_mul];omega
theorem vh{ns:Y Int}{m:Nat}(h:∀x∈ns,x.natAbs<m)(w:0<m):ba ns<m:=by
 by_cases c:ba ns=0
 ·omega
 ·have a:∃x∈ns,x≠0:=by
   refine JH λn=>c ?_;have j:∀x∈ns,x=0:=λx a=>JH λz=>n ⟨x,a,z⟩
   have:∀(l:Y Int) ,(∀x∈l,x=0)->l.foldl (λd x=>(Int.gcd x d:Int)) 0=0:=by
    intro l
    induction l with
    |nil=>intro _;rfl
    |cons y r o=>
     intro e;have:=e y Ht;subst this;show o λx a=>e x (Hv _ a)
   show this ns j
  let⟨x,a,A⟩:=a;have f:=ku ns x a;have g:=Int.natAbs_dvd_natAbs.mpr f;have p:=Nat.le_of_dvd () g;have u:=h x a;have v:=i4 ns;omega
noncomputable abbrev aq:=Y Int×Int
theorem DT{e:Type}(xs:Y e)(n:Nat):dc xs Œ (Z (n:Int))=xs.take n:=by
 unfold dc;have a:HT.sIx xs.length 0 Œ=0:=rfl;have c:HT.sIx xs.length xs.length (Z (n:Int))=min n xs.length:=HT.sIx_nat _ _ _;rw[a,c,KY,Nat.sub_zero];rcases Nat.le_total n xs.length with h|h
 ·rw[Nat.min_eq_left h]
 ·rw[Nat.min_eq_right h,Ja,Jh h]
noncomputable def tq(K:Â):V->V->Hp->VK->Prop:=λx y H Q=>∃p xs i j v,x=.ref p/\y=.int i/\SqL K H p xs/\i=((j:Nat):Int)/\xs[j]?=Z v/\Q v H
theorem xR{X:Cx}:pD X (tq X.K):=by
 intro c s C H o i B A Q I l ri h;let⟨p,xs,i,j,v,rfl,rfl,g,rfl,a,q⟩:=h;cases l;let⟨t,rfl⟩:=ri;let⟨u,r,pl,z⟩:=I.list g;let⟨w,f,e⟩:=r.get a;have y:=r.length;have hn:=iw;have x:=aB a;show wpAny_getItem_list pl.isList () () (by rw[IY];simpa using f) ⟨v,H,I,e,q⟩
theorem zC(xs:Y V)(lo a:œ Int):ip xs lo a=dc xs lo a:=rfl
theorem fj{n j:Nat}(h:j<n):fS n (j:Int)=Z j:=by unfold fS;rw[Hx (),Hx (),IY]
theorem uI{a0 a1 a2}{a:Y Ã}{env:ì}:starEach (.BoolOp a0 a1 a2::a) env=(ŕ,eval (.BoolOp a0 a1 a2) env)::starEach a env:=rfl
theorem cL{a0 a1 a2 a3}{a:Y Ã}{env:ì}:starEach (.BinOp a0 a1 a2 a3::a) env=(ŕ,eval (.BinOp a0 a1 a2 a3) env)::starEach a env:=rfl
theorem il{a0 a1 a2}{a:Y Ã}{env:ì}:starEach (.UnaryOp a0 a1 a2::a) env=(ŕ,eval (.UnaryOp a0 a1 a2) env)::starEach a env:=rfl
theorem bA{a0 a1 a2 a3}{a:Y Ã}{env:ì}:starEach (.ListComp a0 a1 a2 a3::a) env=(ŕ,eval (.ListComp a0 a1 a2 a3) env)::starEach a env:=rfl
theorem lY{a0 a1 a2 a3}{a:Y Ã}{env:ì}:starEach (.Compare a0 a1 a2 a3::a) env=(ŕ,eval (.Compare a0 a1 a2 a3) env)::starEach a env:=rfl
theorem bj{a0 a1 a2 a3}{a:Y Ã}{env:ì}:starEach (.Call a0 a1 a2 a3::a) env=(ŕ,eval (.Call a0 a1 a2 a3) env)::starEach a env:=rfl
theorem aL{a0 a1 a2}{a:Y Ã}{env:ì}:starEach (.Constant a0 a1 a2::a) env=(ŕ,eval (.Constant a0 a1 a2) env)::starEach a env:=rfl
theorem aG{a0 a1 a2}{a:Y Ã}{env:ì}:starEach (.Attribute a0 a1 a2::a) env=(ŕ,eval (.Attribute a0 a1 a2) env)::starEach a env:=rfl
theorem aF{a0 a1 a2}{a:Y Ã}{env:ì}:starEach (.Subscript a0 a1 a2::a) env=(ŕ,eval (.Subscript a0 a1 a2) env)::starEach a env:=rfl
theorem ac{a0 a1}{a:Y Ã}{env:ì}:starEach (.Name a0 a1::a) env=(ŕ,eval (.Name a0 a1) env)::starEach a env:=rfl
theorem sy{a0 a1}{a:Y Ã}{env:ì}:starEach (.List a0 a1::a) env=(ŕ,eval (.List a0 a1) env)::starEach a env:=rfl
theorem bN{a0 a1 a2}{a:Y Ã}{env:ì}:starEach (.Tuple a0 a1 a2::a) env=(ŕ,eval (.Tuple a0 a1 a2) env)::starEach a env:=rfl
theorem ae{a:Õ}{env:ì}:(backTo a (starEach [] env)).any (·.1)=ŕ:=rfl
theorem au{a:Õ}{e:Ã}{es:Y Ã}{env:ì}(h:starEach (e::es) env=(ŕ,eval e env)::starEach es env)(c:(backTo a (starEach es env)).any (·.1)=ŕ):(backTo a (starEach (e::es) env)).any (·.1)=ŕ:=by rw[h];show c
theorem ee{a : Õ}{e : Ã}{env : ì}(h : starEach [e] env = (ŕ, eval e env) :: starEach [] env) : ((backTo a (starEach [e] env)).all (λx=> !x.1)&&(ç a (Û [] env)).all (λx=>x.1.isSome)
      && decide ([e].length + ([] : Y ß).length + (if ([] : Y ß).isEmpty then 0 else 1) < 30)) = Ŕ:= by
 rw[h];rfl
section
variable{X:Cx}{K:Â}
theorem C3(h:X.K=K):jt X (sW K):=h▸pM
theorem Ch(h:X.K=K):dB X (.builtin "isinstance") (sF K):=h▸zq
end
end L2
namespace L2
open PySem PySem.Spec PyProof.Rows
section
variable{X:Cx}
theorem Gc:bL X (É .Is) (λx y H Q=>∃a b:Bool,x=.bl a/\y=.bl b/\Q (.bl (a==b)) H):=by intro c s g H x y v u Q I e f h;let⟨a,b,rfl,rfl,q⟩:=h;cases e;cases f;show wpAny_is_plain S (mJ I q (by cases a<;>cases b<;>rfl))
theorem AS:bL X (É .IsNot) (λx y H Q=>∃a b:Bool,x=.bl a/\y=.bl b/\Q (.bl (!(a==b))) H):=by intro c s g H x y v u Q I e f h;let⟨a,b,rfl,rfl,q⟩:=h;cases e;cases f;show wpAny_isNot_plain S (mJ I q (by cases a<;>cases b<;>rfl))
end
end L2
namespace PySem
open Sem (wp)
open Builtin
open AutoSeq1 (wpAny_loadPart')
theorem zJ:fillsNumberSlot (.type "tuple") "mul"=pure ŕ:=
 fillsNumberSlot_seq (id:="tuple.__mul__") (r:=Z (.builtin "tuple.__rmul__")) J1.lookup 'a' F.slot_tuple_rmul.lookup 'a'
theorem Df:seqRepeat? (.type "tuple")=pure (Z (.builtin "tuple.__mul__")):=by unfold seqRepeat?;rw[seqSlot_of (T:="tuple") (name:="__mul__") (id:="tuple.__mul__") J1.lookup 'a',seqSlot_of (T:="tuple") (name:="__rmul__") (id:="tuple.__rmul__") F.slot_tuple_rmul.lookup 'a'];rfl
theorem DI(a:Int)(t:ĵ)(l:Addr)(items:Array Value)(n:Nat)(c:œ Addr)(sl:Array (œ Value)) :
  ņ (Builtin.«int.__rmul__» ⟨[.int a t,.ref l],[]⟩) (λ_ R s=>s.heap.get? l=Z { cls:=.type "tuple",dict:=c,data:=.seq items n,slots:=sl }/\R (.ok (.ret Value.notImplemented)) s):=
 .of_wp λprog w A R s h=>by let⟨f,g,d,j,os⟩:=s;let⟨e,h⟩:=h;wp_walk;show⟨_,S,h⟩
theorem FN(l:Addr)(items:Array Value)(n:Nat)(a:œ Addr)(sl:Array (œ Value))(u:ĵ) :
  ņ (Builtin.«tuple.__mul__» ⟨[.ref l,.int 1 u],[]⟩) (λ_ R s=>s.heap.get? l=Z { cls:=.type "tuple",dict:=a,data:=.seq items n,slots:=sl }/\R (.ok (.ret (Value.ref l))) s):=
 .of_wp λprog w A R s h=>by let⟨j,g,d,o,os⟩:=s;let⟨c,h⟩:=h;have e:=Ll;have f:=Kc;wp_walk using Iv c;show⟨_,S,h⟩
theorem BH(l:Addr)(items:Array Value)(n:Nat)(e:œ Addr)(sl:Array (œ Value))(k:Int)(u:ĵ)(c:¬ (decide (k < -(2^63)) ||decide (k≥2^63))=Ŕ)(j:¬ (items.isEmpty ||k==1)=Ŕ)(f:(decide (k<=0) ||items.isEmpty)=Ŕ) :
  ņ (Builtin.«tuple.__mul__» ⟨[.ref l,.int k u],[]⟩) (λ_ R s=>s.heap.get? l=Z { cls:=.type "tuple",dict:=e,data:=.seq items n,slots:=sl }/\R (.ok (.ret (Value.ref s.heap.objs.size))) { s with heap:=s.heap.push { cls:=Value.type "tuple",data:=Data.seq #[] },toks:=s.toks }):=
 .of_wp λprog w A R s h=>by let⟨r,g,d,v,os⟩:=s;let⟨a,h⟩:=h;have o:=Ll;have p:=Kc;wp_walk using Iv a;refine LB (HJ c) ?_;wp_walk using Iv a;show⟨_,S,h⟩
theorem BB(l:Addr)(items:Array Value)(n:Nat)(o:œ Addr)(sl:Array (œ Value))(k:Int)(u:ĵ)(j:¬ (decide (k < -(2^63)) ||decide (k≥2^63))=Ŕ)(v:¬ (items.isEmpty ||k==1)=Ŕ)(r:¬ (decide (k<=0) ||items.isEmpty)=Ŕ)(a:¬ (items.size*k>(2^63-1)/8))(p:¬ Builtin.Tuple.tupleTooMany (items.size*k)=Ŕ)(hsz:(List.foldl (λe f=>e++f) #[] (List.replicate k.toNat items)).size<=sizeLine) :
  ņ (Builtin.«tuple.__mul__» ⟨[.ref l,.int k u],[]⟩) (λ_ R s=>s.heap.get? l=Z { cls:=.type "tuple",dict:=o,data:=.seq items n,slots:=sl }/\R (.ok (.ret (Value.ref s.heap.objs.size))) { s with heap:=s.heap.push { cls:=Value.type "tuple",data:=Data.seq (List.foldl (λe f=>e++f) #[] (List.replicate k.toNat items)) },toks:=s.toks }):=
 .of_wp λprog w A R s h=>by let⟨z,g,d,B,os⟩:=s;let⟨c,h⟩:=h;have x:=Ll;have y:=Kc;wp_walk using Iv c;refine LB (HJ j) ?_;wp_walk using Iv c;refine LB (HJ a) ?_;wp_walk using Iv c;show⟨_,S,h⟩
end PySem
namespace L2
open PySem PySem.Spec PyProof.Rows
inductive D where
 |int (i:Int)|bl (b:Bool)|str (x:Str)|non|tup (xs:List D)|lst (xs:List D)|fzl (xs:List D)|obj (nm:Str) (fs:List (Str×D))|map (LV:List (av×D))|exc (nm:Str) (ats:List D)
noncomputable def sX(a C:Addr)(c:œ Addr):Heap->Prop:=λh=>∃o vs,h.get? a=Z o/\o.cls=.ref C/\o.dict=c/\o.data=.fields vs
inductive Rp(K:Â)(H:Hp):D->V->Prop where
 |int (i:Int):Rp K H (.int i) (.int i)
 |bl (b:Bool):Rp K H (.bl b) (.bl b)
 |str (x:Str):Rp K H (.str x) (.str x)
 |non:Rp K H .non .non
 |tup {a:Addr} {vs:List V} {ds:List D}:H a=Z (.tup vs)->vs.length=ds.length->(∀(i:Nat)(v:V)(d:D),vs[i]?=Z v->ds[i]?=Z d->Rp K H d v)->Rp K H (.tup ds) (.ref a)
 |lst {a:Addr} {vs:List V} {ds:List D}:H a=Z (.lst vs)->vs.length=ds.length->(∀(i:Nat)(v:V)(d:D),vs[i]?=Z v->ds[i]?=Z d->Rp K H d v)->Rp K H (.lst ds) (.ref a)
 |fzl {a:Addr} {vs:List V} {ds:List D}:SqL K H a vs->vs.length=ds.length->(∀(i:Nat)(v:V)(d:D),vs[i]?=Z v->ds[i]?=Z d->Rp K H d v)->Rp K H (.fzl ds) (.ref a)
 |obj {a C dx:Addr} {nm:Str} {vs:List (Str×V)} {fs:List (Str×D)}:Ò K Á nm=Z (Z (.ref C))->H a=Z (.ins C dx vs)->vs.map (·.1)=fs.map (·.1)->(∀(i:Nat)(v:Str×V)(d:Str×D),vs[i]?=Z v->fs[i]?=Z d->Rp K H d.2 v.2)->Rp K H (.obj nm fs) (.ref a)
 |map {a:Addr} {ws:List (av×V)} {LV:List (av×D)}:H a=Z (.dK ws)->ws.map (·.1)=LV.map (·.1)->(∀(i:Nat)(w:av×V)(d:av×D),ws[i]?=Z w->LV[i]?=Z d->Rp K H d.2 w.2)->Rp K H (.map LV) (.ref a)
 |exc0 {a C:Addr} {nm:Str}:Ò K Á nm=Z (Z (.ref C))->H a=Z (.ext (sX a C Œ))->Rp K H (.exc nm []) (.ref a)
 |exc1 {a C p:Addr} {nm:Str} {v:V} {d:D}:Ò K Á nm=Z (Z (.ref C))->H a=Z (.ext (sX a C (Z p)))->H p=Z (.xd [("at",v)])->Rp K H d v->Rp K H (.exc nm [d]) (.ref a)
noncomputable def RpL(K:Â)(H:Hp)(ds:Y D)(vs:Y V):Prop:=vs.length=ds.length/\∀(i:Nat)(v:V)(d:D),vs[i]?=Z v->ds[i]?=Z d->Rp K H d v
section
variable{K:Â}{H l Φ j y A w z:Hp}{d:D}{v:V}{ds es:Y D}{vs B:Y V}
theorem Rp.i{n:Int}(h:Rp K H (.int n) v):v=.int n:=by cases h;rfl
theorem Rp.b{b:Bool}(h:Rp K H (.bl b) v):v=.bl b:=by cases h;rfl
theorem Rp.s{x:Str}(h:Rp K H (.str x) v):v=.str x:=by cases h;rfl
theorem Rp.n(h:Rp K H .non v):v=.non:=by cases h;rfl
theorem ix{P:Int->Prop}(h:match d with|.int n=>P n|_=>False):∃n,d=.int n/\P n:=by
 cases d with
 |int n=>show⟨n,S,h⟩
 |_=>show h.elim
theorem iT{P:Bool->Prop}(h:match d with|.bl n=>P n|_=>False):∃n,d=.bl n/\P n:=by
 cases d with
 |bl n=>show⟨n,S,h⟩
 |_=>show h.elim
theorem Rp.same(s:Same H l)(h:Rp K H d v):Rp K l d v:=by
 induction h with
 |int i=>show .int i
 |bl b=>show .bl b
 |str x=>show .str x
 |non=>show .non
 |tup a c _ e=>show .tup (s _ _ a) c e
 |lst a c _ e=>show .lst (s _ _ a) c e
 |fzl a c _ e=>show .fzl (s.seq a) c e
 |obj f a c _ e=>show .obj f (s _ _ a) c e
 |map a c _ e=>show .map (s _ _ a) c e
 |exc0 f a=>show .exc0 f (s _ _ a)
 |exc1 f a c _ e=>show .exc1 f (s _ _ a) (s _ _ c) e
theorem RpL.same(s:Same H l)(h:RpL K H ds vs):RpL K l ds vs:=⟨h.1,λi v d a hd=>(h.2 i v d a hd).same s⟩
theorem RpL.nil:RpL K H [] []:=⟨S,λi v d a _=>by simp at a⟩
theorem RpL.cons(r:Rp K H d v)(h:RpL K H ds vs):RpL K H (d::ds) (v::vs):=⟨by simp[h.1],λi u e c a=>by
 cases i with
 |zero=>cases c;cases a;show r
 |succ i=>show h.2 i u e c a⟩
theorem RpL.append(h:RpL K H ds vs)(h':RpL K H es B):RpL K H (ds++es) (vs++B):=by
 refine⟨by rw[Hm,Hm,h.1,h'.1],λi u e f a=>?_⟩;rcases Ik i vs.length with c|c
 ·rw[Hk c]at f;rw[Hk (by rw[←h.1];show c)]at a;show h.2 i u e f a
 ·rw[Hl c]at f;rw[Hl (by rw[←h.1];show c),←h.1]at a;show h'.2 _ u e f a
theorem RpL.one(r:Rp K H d v):RpL K H [d] [v]:=.cons r .nil
theorem RpL.take(h:RpL K H ds vs)(k:Nat):RpL K H (ds.take k) (vs.take k):=⟨by rw[IB,IB,h.1],λi u e a f=>by
 rcases Ik i k with c|c
 ·rw[JJ c]at a f;show h.2 i u e a f
 ·rw[List.getElem?_take_eq_none c]at a
  cases a⟩
theorem RpL.drop(h:RpL K H ds vs)(k:Nat):RpL K H (ds.drop k) (vs.drop k):=⟨by rw[J0,J0,h.1],λi u e c a=>by
 rw[Kd]at c a
 show h.2 _ u e c a⟩
theorem RpL.set(h:RpL K H ds vs)(r:Rp K H d v)(k:Nat):RpL K H (ds.set k d) (vs.set k v):=⟨by rw[Hs,Hs,h.1],λi u e a f=>by
 by_cases c:k=i
 ·subst c
  have g:k<vs.length:=by have:=aB a;rwa [Hs]at this
  rw[HV g]at a;rw[HV (by rw[←h.1];show g)]at f;cases a;cases f;show r
 ·rw[HP c]at a f
  show h.2 i u e a f⟩
theorem RpL.rep(h:RpL K H ds vs):∀k:Nat,RpL K H (List.replicate k ds).flatten (List.replicate k vs).flatten
 |0=>.nil
 |k+1=>by rw[ID,ID,Ih,Ih];show h.append (RpL.rep h k)
theorem RpL.at(h:RpL K H ds vs){i:Nat}(e:ds[i]?=Z d):∃v,vs[i]?=Z v/\Rp K H d v:=by
 have a:i<vs.length:=by rw[h.1];show aB e
 show⟨vs[i],by simp[a],h.2 i _ d (by simp[a]) e⟩
theorem RpL.cut(h:RpL K H ds vs)(lo a:œ Int):RpL K H (dc ds lo a) (ip vs lo a):=by rw[zC];unfold dc;rw[h.1];show (h.drop _).take _
theorem RpL.tup{a:Addr}(h:RpL K H ds vs)(s:H a=Z (.tup vs)):Rp K H (.tup ds) (.ref a):=.tup s h.1 h.2
theorem RpL.lst{a:Addr}(h:RpL K H ds vs)(s:H a=Z (.lst vs)):Rp K H (.lst ds) (.ref a):=.lst s h.1 h.2
theorem RpL.fzl{a:Addr}(h:RpL K H ds vs)(s:SqL K H a vs):Rp K H (.fzl ds) (.ref a):=.fzl s h.1 h.2
theorem RpL.ints(ns:Y Int):RpL K H (ns.map D.int) (ns.map V.int):=⟨by simp,λi v d a hd=>by
 rw[Hy]at a hd
 cases e:ns[i]? with
 |none=>rw[e]at a;cases a
 |some k=>rw[e]at a hd;cases a;cases hd;show .int k⟩
noncomputable def mh:HO->Prop|.lst _=>True|.dK _=>True|.dT _=>True|.ins _ _ _=>True|_=>False
structure Gr(Φ H j l:Hp):Prop where
 f:Same Φ j
 h:Same H l
 s:Same j l
 o:∀p (u:HO),H p=Z u->Φ p=Œ->(k:mh u:=by trivial)->j p=Œ
theorem Gr.refl(s:Same Φ H):Gr Φ H Φ H:=⟨Same.refl _,Same.refl _,s,λ_ _ _ h _=>h⟩
theorem Gr.trans(a:Gr Φ H y A)(b:Gr y A w z):Gr Φ H w z:=⟨a.f.trans b.f,a.h.trans b.h,b.s,λp u c hn k=>b.o p u (a.h p _ c) (a.o p u c hn k) k⟩
theorem Gr.join(a:Gr Φ H y A)(b:Gr y H w z):Gr Φ H w z:=⟨a.f.trans b.f,b.h,b.s,λp u c hn k=>b.o p u c (a.o p u c hn k) k⟩
theorem Aq(s:Same Φ H){p:Addr}(o:HO):Same (am Φ p o) (am H p o):=λb u e=>by
 by_cases c:b=p
 ·subst c;rw[bg]at e ⊢;show e
 ·rw[aS c]at e ⊢;show s b u e
theorem Gr.new(s:Same Φ H){p:Addr}(a:H p=Œ)(o:HO):Gr Φ H (am Φ p o) (am H p o):=
 ⟨cY (s.free a) o,cY a o,Aq s o,λq u c hn _=>by rw[aS (da c a)];show hn⟩
theorem Gr.fresh(s:Same Φ H){p:Addr}(a:H p=Œ)(o:HO):Gr Φ H Φ (am H p o):=
 ⟨Same.refl _,cY a o,λb u e=>cY a o b u (s b u e),λ_ _ _ h _=>h⟩
theorem Gr.freeze(g:Gr Φ H j l){p:Addr}{o:HO}(h:H p=Œ)(hn:j p=Œ)(r:l p=Z o):Gr Φ H (am j p o) l:=
 ⟨g.f.trans (cY hn o),g.h,λb u e=>by
  by_cases c:b=p
  ·subst c;rw[bg]at e;cases e;show r
  ·rw[aS c]at e;show g.s b u e,λq u a f k=>by rw[aS (da a h)];show g.o q u a f k⟩
theorem Gr.adoptT{p:Addr}{xs:Y V}(s:Same Φ H)(h:Same H l)(ho:l p=Z (.tup xs)):∃j,Gr Φ H j l/\j p=Z (.tup xs):=by
 have a:∀u,Φ p=Z u->u=.tup xs:=λu e=>by have:=h _ _ (s _ _ e);rw[ho]at this;cases this;rfl
 refine⟨am Φ p (.tup xs),⟨λb u e=>?_,h,λb u e=>?_,λb u e n k=>?_⟩,bg⟩
 ·by_cases c:b=p
  ·subst c;rw[bg,a u e]
  ·rw[aS c];show e
 ·by_cases c:b=p
  ·subst c;rw[bg]at e;cases e;show ho
  ·rw[aS c]at e;show h _ _ (s _ _ e)
 ·by_cases c:b=p
  ·subst c;have:=h _ _ e;rw[ho]at this;cases this;show k.elim
  ·rw[aS c];show n
noncomputable def RpQ(K:Â)(Φ H:Hp)(d:D)(v:V):Prop:=Rp K Φ d v\/∃a vs ds,d=.lst ds/\v=.ref a/\H a=Z (.lst vs)/\RpL K Φ ds vs
theorem RpQ.gr(g:Gr Φ H j l)(h:RpQ K Φ H d v):RpQ K j l d v:=by
 rcases h with h|⟨a,vs,ds,e,c,f,o⟩
 ·show .inl (h.same g.f)
 ·show .inr ⟨a,vs,ds,e,c,g.h _ _ f,o.same g.f⟩
theorem RpQ.lst(s:Same Φ H)(h:RpQ K Φ H (.lst ds) v):∃a vs,v=.ref a/\H a=Z (.lst vs)/\RpL K Φ ds vs:=by
 rcases h with h|⟨a,vs,ds,e,g,c,f⟩
 ·cases h with|lst c f h3=>show⟨_,_,S,s _ _ c,f,h3⟩
 ·cases e;show⟨a,vs,g,c,f⟩
theorem RpQ.fzl(s:Same Φ H)(h:RpQ K Φ H (.fzl ds) v):∃a vs,v=.ref a/\SqL K H a vs/\RpL K Φ ds vs:=by
 rcases h with h|⟨a,vs,ds,e,g,c,f⟩
 ·cases h with|fzl c f h3=>show⟨_,_,S,s.seq c,f,h3⟩
 ·cases e
theorem RpQ.tup(s:Same Φ H)(h:RpQ K Φ H (.tup ds) v):∃a vs,v=.ref a/\SqT K H a vs/\Φ a=Z (.tup vs)/\RpL K Φ ds vs:=by
 rcases h with h|⟨a,vs,ds,e,g,c,f⟩
 ·cases h with|tup c f h3=>show⟨_,_,S,.of (s _ _ c),c,f,h3⟩
 ·cases e
theorem RpQ.int{i:Int}(h:RpQ K Φ H (.int i) v):v=.int i:=by
 rcases h with h|⟨a,vs,ds,e,_⟩
 ·obtain rfl:=h.i;rfl
 ·cases e
theorem RpQ.bl{i:Bool}(h:RpQ K Φ H (.bl i) v):v=.bl i:=by
 rcases h with h|⟨a,vs,ds,e,_⟩
 ·obtain rfl:=h.b;rfl
 ·cases e
theorem RpQ.str{i:Str}(h:RpQ K Φ H (.str i) v):v=.str i:=by
 rcases h with h|⟨a,vs,ds,e,_⟩
 ·obtain rfl:=h.s;rfl
 ·cases e
theorem RpQ.non(h:RpQ K Φ H .non v):v=.non:=by
 rcases h with h|⟨a,vs,ds,e,_⟩
 ·obtain rfl:=h.n;rfl
 ·cases e
noncomputable def eW:D->œ (Y D)
 |.lst ds=>Z ds
 |.tup ds=>Z ds
 |.fzl ds=>Z ds
 |_=>Œ
theorem RpQ.seq(s:Same Φ H)(h:RpQ K Φ H d v)(e:eW d=Z ds):∃a vs,v=.ref a/\(SqL K H a vs\/SqT K H a vs)/\RpL K Φ ds vs:=by
 cases d with
 |lst ds=>cases e;let⟨a,vs,e,c,f⟩:=h.lst s;show⟨a,vs,e,.inl (.of c),f⟩
 |tup ds=>cases e;let⟨a,vs,e,c,_,f⟩:=h.tup s;show⟨a,vs,e,.inr c,f⟩
 |fzl ds=>cases e;let⟨a,vs,e,c,f⟩:=h.fzl s;show⟨a,vs,e,.inl c,f⟩
 |_=>cases e
theorem Rp.seq(h:Rp K Φ d v)(e:eW d=Z ds):∃(b:Bool)(a:Addr)(vs:Y V),v=.ref a/\SqB K b Φ a vs/\RpL K Φ ds vs:=by
 cases d with
 |lst ds=>cases e;cases h with|lst h1 h2 h3=>show⟨Ŕ,_,_,S,SqL.of h1,h2,h3⟩
 |tup ds=>cases e;cases h with|tup h1 h2 h3=>show⟨ŕ,_,_,S,SqT.of h1,h2,h3⟩
 |fzl ds=>cases e;cases h with|fzl h1 h2 h3=>show⟨Ŕ,_,_,S,h1,h2,h3⟩
 |_=>cases e
end
inductive Ow where|lst (xs:List D)|dct (ks:List av)|dcT (ks:List (List av))
inductive Sl where|v (d:D)|ob (o:Ow)
noncomputable abbrev Sl.own(xs:Y D):Sl:=.ob (.lst xs)
noncomputable abbrev Sl.dct(a:Y av):Sl:=.ob (.dct a)
noncomputable abbrev Sl.dcT(a:Y (Y av)):Sl:=.ob (.dcT a)
noncomputable def OwR(K:Â)(Φ:Hp):Ow->HO->Prop
 |.lst ds,.lst vs=>RpL K Φ ds vs
 |.dct c,.dK a=>a.map (·.1)=c
 |.dcT c,.dT a=>a.map (·.1)=c
 |_,_=>False
theorem OwR.k{K:Â}{Φ:Hp}{o:Ow}{u:HO}(r:OwR K Φ o u):mh u:=by
 cases o with
 |lst ds=>
  cases u with
  |lst vs=>show Ý
  |_=>show r.elim
 |dct c=>
  cases u with
  |dK a=>show Ý
  |_=>show r.elim
 |dcT c=>
  cases u with
  |dT a=>show Ý
  |_=>show r.elim
theorem OwR.same{K:Â}{Φ a:Hp}{o:Ow}{u:HO}(r:OwR K Φ o u)(s:Same Φ a):OwR K a o u:=by
 cases o with
 |lst ds=>
  cases u with
  |lst vs=>show (show RpL K Φ ds vs from r).same s
  |_=>show r.elim
 |dct e=>
  cases u with
  |dK c=>show r
  |_=>show r.elim
 |dcT e=>
  cases u with
  |dT c=>show r
  |_=>show r.elim
noncomputable abbrev bq:=Y (œ Sl)
noncomputable def DB:FuncBody->œ Õ
 |.stmts b=>(match b.getLast? with
  |some (.Return (Z (.Call _ _ a _)) _)=>a.findSome? λk=>(match k.value with|.Lambda _ _ _ pos=>Z pos|_=>Œ)
  |_=>Œ)
 |_=>Œ
noncomputable def qw(K:Â)(x:Str):œ (Addr×Array Value):=match Ò K Á x with
 |some (Z (.ref f))=>(match K.lookup f with
  |some ⟨_,_,.func e,_⟩=>(match e.code with
   |.ref c=>(match K.lookup c with
    |some ⟨_,_,.fields vs,_⟩=>(match (vs[11]?:œ Value),DB e.body with
     |some (.ref P),Z a=>Z (P,#[ò a.line,ò a.col,.str (e.qualname++".<locals>."++"<lambda>") 0])
     |_,_=>Œ)
    |_=>Œ)
   |_=>Œ)
  |_=>Œ)
 |_=>Œ
noncomputable def pq(K:Â):Y (Addr×Array Value):=(["least_grown","greatest_first"]:Y Str).filterMap (qw K)
noncomputable def TabF(K:Â)(Φ:Hp):Prop:=∀t∈pq K,Φ t.1=Z (.tbl t.2)
theorem TabF.same{K:Â}{Φ a:Hp}(h:TabF K Φ)(s:Same Φ a):TabF K a:=λt c=>s _ _ (h t c)
structure EnvD(K:Â)(H0 Φ H:Hp)(σ:St)(ρ:bq):Prop where
 fz:Same Φ H
 len:σ.length=ρ.length
 sl:∀(i:Nat)(d:D),ρ[i]?=Z (Z (.v d))->∃v,σ[i]?=Z (Z v)/\Rp K Φ d v
 ow:∀(i:Nat)(o:Ow),ρ[i]?=Z (Z (.ob o))->∃p u,σ[i]?=Z (Z (.ref p))/\H0 p=Œ/\Φ p=Œ/\H p=Z u/\OwR K Φ o u
 ne:∀(i j:Nat)(o w:Ow)(p:Addr),ρ[i]?=Z (Z (.ob o))->ρ[j]?=Z (Z (.ob w))->σ[i]?=Z (Z (.ref p))->σ[j]?=Z (Z (.ref p))->i=j
 tb:TabF K Φ
section
variable{K:Â}{f H w Φ o:Hp}{a:St}{ρ:bq}{d:D}{v:V}{ds es:Y D}{vs:Y V}
theorem EnvD.owl(E:EnvD K f Φ H a ρ)(i:Nat)(ds:Y D)(h:ρ[i]?=Z (Z (.own ds))):∃p vs,a[i]?=Z (Z (.ref p))/\f p=Œ/\Φ p=Œ/\H p=Z (.lst vs)/\RpL K Φ ds vs:=by
 let⟨p,u,e,c,hn,g,r⟩:=E.ow i _ h
 cases u with
 |lst vs=>show⟨p,vs,e,c,hn,g,r⟩
 |_=>show (show False from r).elim
theorem EnvD.gr(E:EnvD K f Φ H a ρ)(g:Gr Φ H o w):EnvD K f o w a ρ:=
 ⟨g.s,E.len,λi d h=>let ⟨v,e,r⟩:=E.sl i d h;⟨v,e,r.same g.f⟩,
  λi ds h=>let ⟨p,vs,e,h0,hn,hp,r⟩:=E.ow i ds h;⟨p,vs,e,h0,g.o p _ hp hn r.k,g.h _ _ hp,r.same g.f⟩,E.ne,E.tb.same g.f⟩
theorem dX{p:Type}{l:Y p}{i j:Nat}{x y:p}(h:(l.set i x)[j]?=Z y):(j=i/\i<l.length/\y=x)\/(j≠i/\l[j]?=Z y):=by
 by_cases c:i=j
 ·subst c
  have g:i<l.length:=by have:=aB h;rwa [Hs]at this
  rw[HV g]at h;cases h;show .inl ⟨S,g,S⟩
 ·rw[HP c]at h;show .inr ⟨λe=>c e.symm,h⟩
theorem EnvD.set(E:EnvD K f Φ H a ρ)(r:Rp K Φ d v)(i:Nat):EnvD K f Φ H (a.set i (Z v)) (ρ.set i (Z (.v d))):=by
 have A:∀{j:Nat}{x:œ V},j≠i->a[j]?=Z x->(a.set i (Z v))[j]?=Z x:=λc h=>by rw[HP (IE c)];show h
 refine⟨E.fz,by rw[Hs,Hs,E.len],λj e h=>?_,λj ds h=>?_,λj k ds es p l y B sk=>?_,E.tb⟩
 ·rcases dX h with⟨rfl,z,g⟩|⟨c,h⟩
  ·cases g;show⟨v,by rw[HV (by rw[E.len];show z)],r⟩
  ·let⟨u,G,I⟩:=E.sl j e h;show⟨u,A c G,I⟩
 ·rcases dX h with⟨rfl,z,g⟩|⟨c,h⟩
  ·cases g
  ·let⟨p,vs,e,q⟩:=E.ow j ds h;show⟨p,vs,A c e,q⟩
 ·rcases dX l with⟨rfl,_,g⟩|⟨C,l⟩
  ·cases g
  rcases dX y with⟨rfl,_,g⟩|⟨F,y⟩
  ·cases g
  rw[HP (IE C)]at B;rw[HP (IE F)]at sk;show E.ne j k ds es p l y B sk
theorem EnvD.weak{c:bq}(E:EnvD K f Φ H a ρ)(r:c.length=ρ.length)(e:∀(i:Nat) x,c[i]?=Z (Z x)->ρ[i]?=Z (Z x)):EnvD K f Φ H a c:=
 ⟨E.fz,by rw[E.len,r],λi d h=>E.sl i d (e i _ h),λi ds h=>E.ow i ds (e i _ h),λi j ds es p g l=>E.ne i j ds es p (e i _ g) (e j _ l),E.tb⟩
end
inductive NF{α:Type}(x:α)(R:α->Prop):Prop|mk (y:α) (_:x=y) (_:R y)
theorem NF.get{a:Type}{x:a}{R:a->Prop}(h:NF x R):R x:=by let⟨_,rfl,h⟩:=h;show h
noncomputable abbrev TD:=bq->(D->Prop)->Prop
noncomputable abbrev aM:=bq->(Y D->Prop)->Prop
noncomputable abbrev b9:=bq->(Bool->Prop)->Prop
inductive lE(K:Â)(t:TD)(σ:St)(H:Hp)(Q:VK):Prop|mk (H0:Hp) (Φ:Hp) (ρ:bq) (R:D->Prop) (_:EnvD K H0 Φ H σ ρ) (_:t ρ R) (_:∀d Φ' H' v,R d->Gr Φ H Φ' H'->Rp K Φ' d v->Q v H')
inductive lQ(K:Â)(t:TD)(σ:St)(H:Hp)(Q:VK):Prop|mk (H0:Hp) (Φ:Hp) (ρ:bq) (R:D->Prop) (_:EnvD K H0 Φ H σ ρ) (_:t ρ R) (_:∀d Φ' H' v,R d->Gr Φ H Φ' H'->RpQ K Φ' H' d v->Q v H')
inductive lF(K:Â)(t:aM)(σ:St)(H:Hp)(Q:VK):Prop|mk (H0:Hp) (Φ:Hp) (ρ:bq) (R:List D->Prop) (_:EnvD K H0 Φ H σ ρ) (_:t ρ R) (_:∀ds Φ' H' p vs,R ds->Gr Φ H Φ' H'->H p=Œ->Φ' p=Œ->H' p=Z (.lst vs)->RpL K Φ' ds vs->Q (.ref p) H')
inductive lA(K:Â)(n:Nat)(t:aM)(σ:St)(H:Hp)(Q:List V->Hp->Prop):Prop|mk (H0:Hp) (Φ:Hp) (ρ:bq) (R:List D->Prop) (_:EnvD K H0 Φ H σ ρ) (_:t ρ R) (_:∀ds Φ' H' vs,R ds->Gr Φ H Φ' H'->RpL K Φ' ds vs->ds.length=n->Q vs H')
inductive lT(K:Â)(t:b9)(σ:St)(H:Hp)(Q:Bool->Hp->Prop):Prop|mk (H0:Hp) (Φ:Hp) (ρ:bq) (R:Bool->Prop) (_:EnvD K H0 Φ H σ ρ) (_:t ρ R) (_:∀b Φ' H',R b->Gr Φ H Φ' H'->Q b H')
structure PD(K:Â)(X:Cx)(e:Ã)(t:TD):Prop where pe:X.K=K->PE X e (lE K t)
structure PQ(K:Â)(X:Cx)(e:Ã)(t:TD):Prop where pe:X.K=K->PE X e (lQ K t)
structure PF(K:Â)(X:Cx)(e:Ã)(t:aM):Prop where pe:X.K=K->PE X e (lF K t)
structure PAD(K:Â)(X:Cx)(es:List Ã)(t:aM):Prop where pa:X.K=K->PA X es (lA K es.length t)
structure PTD(K:Â)(X:Cx)(e:Ã)(t:b9):Prop where pt:X.K=K->PT X e (lT K t)
structure PWD(K:Â)(X:Cx)(e:Ã)(t:b9):Prop where pw:X.K=K->PW X e (lT K t)
theorem PE.imp{X:Cx}{e:Ã}{t t':TE}(h:PE X e t)(k:∀c H Q,t' c H Q->t c H Q):PE X e t':=λa s c H Q I f=>h a s c H Q I (k c H Q f)
theorem PT.imp{X:Cx}{e:Ã}{t t':TT}(h:PT X e t)(k:∀c H Q,t' c H Q->t c H Q):PT X e t':=λa s c H Q I f=>h a s c H Q I (k c H Q f)
theorem PW.imp{X:Cx}{e:Ã}{t t':TT}(h:PW X e t)(k:∀c H Q,t' c H Q->t c H Q):PW X e t':=λg a s c H Q I f=>h g a s c H Q I (k c H Q f)
theorem PA.imp{X:Cx}{e:Y Ã}{t t':TA}(h:PA X e t)(k:∀c H Q,t' c H Q->t c H Q):PA X e t':=λf a s c H Q I g=>h f a s c H Q I (k c H Q g)
theorem PS.imp{X:Cx}{e:Ç}{t t':TS}(h:PS X e t)(k:∀D c H,t' D c H->t D c H):PS X e t':=λa s c H D I f=>h a s c H D I (k D c H f)
theorem PSs.imp{X:Cx}{e:Y Ç}{t t':TS}(h:PSs X e t)(k:∀D c H,t' D c H->t D c H):PSs X e t':=λa s c H D I f=>h a s c H D I (k D c H f)
section
variable{K:Â}{X:Cx}{e a b c:Ã}{es:Y Ã}{l:Õ}{t w tb:TD}{tf:aM}{A:aM}{z B:b9}
theorem PD.q(h:PD K X e t):PQ K X e t:=⟨λu=>(h.pe u).imp λx H Q p=>by let⟨o,Φ,ρ,R,E,t,k⟩:=p;show⟨o,Φ,ρ,R,E,t,λd f j v r g rr=>k d f j v r g (.inl rr)⟩⟩
noncomputable def nK(t:aM):TD:=λρ R=>t ρ λds=>R (.lst ds)
theorem PF.d(h:PF K X e tf):PD K X e (nK tf):=⟨λv=>(h.pe v).imp λC H Q o=>by let⟨j,Φ,ρ,R,E,t,k⟩:=o;show⟨j,Φ,ρ,_,E,t,λds y f p vs r g u hn x rr=>
 k (.lst ds) _ f _ r (g.freeze u hn x) ((rr.same (cY hn _)).lst bg)⟩⟩
noncomputable def r8(i:Nat):TD:=λρ R=>match ρ[i]? with|some (Z (.v d))=>R d|_=>False
noncomputable def l6(i:Nat):TD:=λρ R=>match ρ[i]? with|some (Z (.v d))=>R d|some (Z (.ob (.lst ds)))=>R (.lst ds)|_=>False
theorem dv(i:Nat){x:Str}(j:X.N[i]?=Z x:=by rfl)(o:cI X.env.scope x:=by nofun)(hd:ab x:=by decide)
  (f:fI x:=by decide):PD K X (.Name x l) (r8 i):=⟨λ_=>(pv i j o hd f).imp λu H Q g=>by
 let⟨p,Φ,ρ,R,E,t,k⟩:=g;unfold r8 at t;split at t
 ·next d h=>
  let⟨v,e,r⟩:=E.sl i d h;show⟨v,e,k d Φ H v t (.refl E.fz) r⟩
 ·show t.elim⟩
theorem aa(i:Nat){x:Str}(j:X.N[i]?=Z x:=by rfl)(u:cI X.env.scope x:=by nofun)(hd:ab x:=by decide)
  (f:fI x:=by decide):PQ K X (.Name x l) (l6 i):=⟨λ_=>(pv i j u hd f).imp λC H Q g=>by
 let⟨y,Φ,ρ,R,E,t,k⟩:=g;unfold l6 at t;split at t
 ·next d h=>
  let⟨v,e,r⟩:=E.sl i d h;show⟨v,e,k d Φ H v t (.refl E.fz) (.inl r)⟩
 ·next ds h=>
  let⟨p,vs,e,_,_,o,r⟩:=E.owl i ds h;show⟨_,e,k _ Φ H _ t (.refl E.fz) (.inr ⟨p,vs,ds,S,S,o,r⟩)⟩
 ·show t.elim⟩
noncomputable def dC(d:D):TD:=λ_ R=>R d
theorem md{v:V}{d:D}(h:PE X e (tC v))(r:∀Φ,Rp K Φ d v):PD K X e (dC d):=⟨λ_=>h.imp λj H Q f=>by let⟨g,Φ,ρ,R,E,t,k⟩:=f;show k d Φ H v t (.refl E.fz) (r Φ)⟩
theorem ah{i j}:PD K X (.Constant (.int i) j l) (dC (.int i)):=md wI λ_=>.int i
theorem ce{i j}:PD K X (.Constant (.bool i) j l) (dC (.bl i)):=md yu λ_=>.bl i
theorem iF{i j}:PD K X (.Constant (.str i) j l) (dC (.str i)):=md xu λ_=>.str i
theorem bo{j}:PD K X (.Constant .none j l) (dC .non):=md Cs λ_=>.non
noncomputable abbrev cK:=D->D->(D->Prop)->Prop
inductive lR2(K:Â)(r:cK)(x:V)(y:V)(H:Hp)(Q:VK):Prop|mk (Φ:Hp) (dx:D) (dy:D) (R:D->Prop) (_:Same Φ H) (_:RpQ K Φ H dx x) (_:RpQ K Φ H dy y) (_:r dx dy R) (_:∀d Φ' H' v,R d->Gr Φ H Φ' H'->Rp K Φ' d v->Q v H')
structure OpD(K:Â)(X:Cx)(f:Value->Value->Sem Value)(r:cK):Prop where o:X.K=K->bL X f (lR2 K r)
noncomputable def i5(r:cK)(w tb:TD):TD:=λρ R=>w ρ λx=>tb ρ λy=>r x y R
theorem ld{r:cK}{F:St}{H:Hp}{Q:VK}(h:lE K (i5 r w tb) F H Q):iB (lR2 K r) (lQ K w) (lQ K tb) F H Q:=by let⟨u,Φ,ρ,R,E,t,k⟩:=h;show⟨u,Φ,ρ,_,E,t,λI o P x N C L=>⟨u,o,ρ,_,E.gr C,N,λJ p U y O f M=>⟨p,I,J,R,f.s,L.gr f,M,O,λd j G v r g rr=>k d j G v r ((C.trans f).trans g) rr⟩⟩⟩
theorem aX{g:ë}{r:cK}(ho:OpD K X (Í g) r)(h:PQ K X a w)(j:PQ K X b tb):PD K X (.BinOp a g b l) (i5 r w tb):=
 ⟨λf=>(sY (ho.o f) (h.pe f) (j.pe f)).imp λ_ _ _=>ld⟩
theorem df{g:ď}{r:cK}(ho:OpD K X (É g) r)(h:PQ K X a w)(j:PQ K X b tb)(o:behindInMarks g b=ŕ):PD K X (.Compare a [g] [b] l) (i5 r w tb):=
 ⟨λf=>(v4 (ho.o f) (h.pe f) (j.pe f) o).imp λ_ _ _=>ld⟩
noncomputable def sO(t:TD):b9:=λρ R=>t ρ λd=>match d with|.bl b=>R b|_=>False
theorem zo{r:cK}{j:St}{H:Hp}{Q:Bool->Hp->Prop}(h:lT K (sO (i5 r w tb)) j H Q):ql (iB (lR2 K r) (lQ K w) (lQ K tb)) j H Q:=by let⟨p,Φ,ρ,R,E,t,k⟩:=h;refine ld ⟨p,Φ,ρ,_,E,t,λd f o v r g rr=>?_⟩;let⟨b,rfl,r⟩:=iT r;obtain rfl:=rr.b;show⟨b,S,k b f o r g⟩
theorem aA{g:ď}{r:cK}(ho:OpD K X (É g) r)(h:PQ K X a w)(j:PQ K X b tb)(o:behindInMarks g b=ŕ):PTD K X (.Compare a [g] [b] l) (sO (i5 r w tb)):=
 ⟨λf=>(vY (ho.o f) (h.pe f) (j.pe f) o).imp λ_ _ _=>zo⟩
noncomputable abbrev oQ:=D->(D->Prop)->Prop
noncomputable def vP(r:oQ)(w:TD):TD:=λρ R=>w ρ λx=>r x R
noncomputable def Cu:oQ:=λx R=>match x with|.int i=>R (.int (-i))|_=>False
theorem eM(u:PQ K X a w):PD K X (.UnaryOp .USub a l) (vP Cu w):=⟨λr=>(zG Cq (u.pe r)).imp λC H Q o=>by let⟨h,Φ,ρ,R,E,t,k⟩:=o;show⟨h,Φ,ρ,_,E,t,λy g j x f p v=>by
 let⟨i,rfl,f⟩:=ix f
 show⟨i,v.int,k _ g j _ f p (.int _)⟩⟩⟩
noncomputable def zp:oQ:=λx R=>match x with|.bl i=>R (.bl (!i))|_=>False
theorem rZ(u:PQ K X a w):PD K X (.UnaryOp .Not a l) (vP zp w):=⟨λr=>(Dp (u.pe r)).imp λC H Q o=>by let⟨h,Φ,ρ,R,E,t,k⟩:=o;show⟨h,Φ,ρ,_,E,t,λy g j x f p v=>by
 let⟨i,rfl,f⟩:=iT f
 show⟨i,v.bl,k _ g j _ f p (.bl _)⟩⟩⟩
noncomputable def qA:D->(Bool->Prop)->Prop:=λd R=>match d with
 |.int i=>R (i != 0)|.bl b=>R b|.non=>R ŕ|.str x=>x.length<=sizeLine/\R ((x.length:Int) != 0)|.lst ds=>R (!ds.isEmpty)|.tup ds=>R (!ds.isEmpty)|.fzl ds=>R (!ds.isEmpty)|.obj _ _=>False|.map _=>False|.exc _ _=>False
theorem pE{Φ:Hp}{ds:Y D}{vs:Y V}(h:RpL K Φ ds vs):(!ds.isEmpty)=!vs.isEmpty:=by have:=h.1;cases ds<;>cases vs<;>simp_all
theorem v7{Φ H:Hp}{d:D}{v:V}{R:Bool->Prop}(s:Same Φ H)(h:RpQ K Φ H d v)(t:qA d R):∃k,on K v H k/\R k:=by
 cases d with
 |int i=>rw[h.int];show⟨_,S,t⟩
 |bl i=>rw[h.bl];show⟨_,S,t⟩
 |non=>rw[h.non];show⟨_,S,t⟩
 |str i=>rw[h.str];show⟨_,⟨t.1,S⟩,t.2⟩
 |lst ds=>let⟨a,vs,rfl,f,g⟩:=h.lst s;show⟨_,.inl ⟨vs,.of f,S⟩,by rw[←pE g];show t⟩
 |tup ds=>let⟨a,vs,rfl,f,_,g⟩:=h.tup s;show⟨_,.inr (.inl ⟨vs,f,S⟩),by rw[←pE g];show t⟩
 |fzl ds=>let⟨a,vs,rfl,f,g⟩:=h.fzl s;show⟨_,.inl ⟨vs,f,S⟩,by rw[←pE g];show t⟩
 |obj C fs=>show t.elim
 |map j=>show t.elim
 |exc _ _=>show t.elim
noncomputable def DM(t:TD):b9:=λρ R=>t ρ λd=>qA d R
theorem b7(y:PQ K X a w)(C:∀f,isTrue a X.env f=(do let v ←f;standAt a.pos;holding [v] (truthy v))):PTD K X a (DM w):=
 ⟨λj=>(tH (y.pe j) C).imp λI H Q r=>by let⟨o,Φ,ρ,R,E,t,k⟩:=r;show⟨o,Φ,ρ,_,E,t,λd g p v G h F=>by
  let⟨b,u,x⟩:=v7 h.s F G;rw[j]
  show⟨b,u,k b g p x h⟩⟩⟩
noncomputable def DZ(t u:b9):b9:=λρ R=>t ρ λc=>(c=Ŕ->u ρ R)/\(c=ŕ->R ŕ)
noncomputable def Cb(t u:b9):b9:=λρ R=>t ρ λc=>(c=Ŕ->R Ŕ)/\(c=ŕ->u ρ R)
noncomputable def Et(t:b9):b9:=λρ R=>t ρ λc=>R (!c)
theorem PWD.td(h:PWD K X e z):PTD K X e z:=⟨λf=>(h.pw f).pt⟩
theorem eP(g:PTD K X a z):PWD K X (.BoolOp .And [a] l) z:=⟨λf=>vp (g.pt f)⟩
theorem gf(g:PTD K X a z):PWD K X (.BoolOp .Or [a] l) z:=⟨λf=>sM (g.pt f)⟩
theorem dh(x:PTD K X a z)(y:PWD K X (.BoolOp .And (b::es) l) B):PWD K X (.BoolOp .And (a::b::es) l) (DZ z B):=
 ⟨λo=>(uw (x.pt o) (y.pw o)).imp λF H Q v=>by let⟨j,Φ,ρ,R,E,t,k⟩:=v;show⟨j,Φ,ρ,_,E,t,λc f u r g=>by
  cases c with
  |true=>rw[Hx S];show⟨j,f,ρ,R,E.gr g,r.1 S,λb h p C g'=>k b h p C (g.trans g')⟩
  |false=>rw[Hq 'b'];show k _ f u (r.2 S) g⟩⟩
theorem du(x:PTD K X a z)(y:PWD K X (.BoolOp .Or (b::es) l) B):PWD K X (.BoolOp .Or (a::b::es) l) (Cb z B):=
 ⟨λo=>(vZ (x.pt o) (y.pw o)).imp λF H Q v=>by let⟨j,Φ,ρ,R,E,t,k⟩:=v;show⟨j,Φ,ρ,_,E,t,λc f u r g=>by
  cases c with
  |true=>rw[Hx S];show k _ f u (r.1 S) g
  |false=>rw[Hq 'b'];show⟨j,f,ρ,R,E.gr g,r.2 S,λb h p C g'=>k b h p C (g.trans g')⟩⟩⟩
theorem cF(u:PTD K X a z):PTD K X (.UnaryOp .Not a l) (Et z):=
 ⟨λp=>(yt (u.pt p)).imp λv H Q o=>by let⟨h,Φ,ρ,R,E,t,k⟩:=o;show⟨h,Φ,ρ,_,E,t,λc f j r g=>k _ f j r g⟩⟩
noncomputable def BP(t u:TD):TD:=λρ R=>t ρ λc=>match c with|.bl c=>(c=Ŕ->u ρ R)/\(c=ŕ->R (.bl ŕ))|_=>False
theorem jA{op}(h:PD K X a w):PD K X (.BoolOp op [a] l) w:=⟨λf=>u0 (h.pe f)⟩
theorem gC(y:PD K X a w)(C:PD K X (.BoolOp .And (b::es) l) tb):PD K X (.BoolOp .And (a::b::es) l) (BP w tb):=
 ⟨λo=>(tS (y.pe o) (C.pe o)).imp λI H Q x=>by let⟨j,Φ,ρ,R,E,t,k⟩:=x;show⟨j,Φ,ρ,_,E,t,λc f u v r g G=>by
  let⟨c,rfl,r⟩:=iT r;obtain rfl:=G.b;refine⟨c,S,?_⟩
  cases c with
  |true=>rw[Hx S];show⟨j,f,ρ,R,E.gr g,r.1 S,λb h p v F g' rr=>k b h p v F (g.trans g') rr⟩
  |false=>rw[Hq 'b'];show k _ f u _ (r.2 S) g (.bl _)⟩⟩
noncomputable def yc(t:b9)(u v:TD):TD:=λρ R=>t ρ λc=>(c=Ŕ->u ρ R)/\(c=ŕ->v ρ R)
theorem mX(F:PTD K X c z)(y:PD K X a w)(C:PD K X b tb):PD K X (.IfExp c a b l) (yc z w tb):=
 ⟨λp=>(Ae (F.pt p) (y.pe p) (C.pe p)).imp λI H Q x=>by let⟨o,Φ,ρ,R,E,t,k⟩:=x;show⟨o,Φ,ρ,_,E,t,λc h G r g=>by
  cases c with
  |true=>rw[Hx S];show⟨o,h,ρ,R,E.gr g,r.1 S,λb f j v u g' rr=>k b f j v u (g.trans g') rr⟩
  |false=>rw[Hq 'b'];show⟨o,h,ρ,R,E.gr g,r.2 S,λb f j v u g' rr=>k b f j v u (g.trans g') rr⟩⟩⟩
noncomputable def rz:aM:=λ_ R=>R []
noncomputable def sQ(t:TD)(u:aM):aM:=λρ R=>t ρ λd=>u ρ λds=>R (d::ds)
theorem ak:PAD K X [] rz:=⟨λ_=>pa_nil.imp λh H Q f=>by let⟨g,Φ,ρ,R,E,t,k⟩:=f;show k [] Φ H [] t (.refl E.fz) .nil S⟩
theorem ad(y:PD K X e t)(F:PAD K X es A)(G:starEach (e::es) X.env=(ŕ,eval e X.env)::starEach es X.env):PAD K X (e::es) (sQ t A):=
 ⟨λp=>(eN (y.pe p) (F.pa p) G).imp λM H Q x=>by let⟨j,Φ,ρ,R,E,t,k⟩:=x;show⟨j,Φ,ρ,_,E,t,λd f L v r g J=>⟨j,f,ρ,_,E.gr g,r,λds h u vs I o rl C=>
  k _ h u _ I (g.trans o) (.cons (J.same o.f) rl) (by rw[HD,HD,C])⟩⟩⟩
noncomputable def Dn(t:aM):TD:=λρ R=>t ρ λds=>R (.tup ds)
noncomputable def CZ(t:aM):aM:=t
theorem lc{n:Nat}(h:Nat.ble n 1000=Ŕ):n<=sizeLine:=HZ (Nat.le_of_ble_eq_true h) 'b'
theorem bC{x1}(h:PAD K X es A)(u:Nat.ble es.length 1000=Ŕ:=by rfl):PD K X (.Tuple es x1 l) (Dn A):=
 ⟨λv=>(p7 (h.pa v)).imp λF H Q o=>by let⟨j,Φ,ρ,R,E,t,k⟩:=o;show⟨j,Φ,ρ,_,E,t,λds y C vs r g rl x=>⟨by rw[rl.1,x];show lc u,λp f=>
  k _ _ _ _ r (g.trans (.new g.s f _)) ((rl.same (cY (g.s.free f) _)).tup bg)⟩⟩⟩
theorem eO(h:PAD K X es A)(u:Nat.ble es.length 1000=Ŕ:=by rfl):PF K X (.List es l) (CZ A):=
 ⟨λv=>(rL (h.pa v)).imp λF H Q o=>by let⟨j,Φ,ρ,R,E,t,k⟩:=o;show⟨j,Φ,ρ,_,E,t,λds y C vs r g rl x=>⟨by rw[rl.1,x];show lc u,λp f=>
  k _ _ _ p vs r (g.trans (.fresh g.s f _)) (g.h.free f) (g.s.free f) bg rl⟩⟩⟩
end
end L2
namespace L2
open PySem PySem.Spec PyProof.Rows PySem.Builtin PySem.Builtin.Str
section
variable{X:Cx}
noncomputable def kF(z:Str)(lo a:œ Int):Str:=⟨(dc z.cps.toList lo a).toArray⟩
theorem Dr(z:Str)(lo c:œ Int):Txt.slice z lo c=kF z lo c:=by
 have f:strSliceIndices lo c 1 z.length=(List.range (HT.sIx z.length z.length c-HT.sIx z.length 0 lo)).map λk=>HT.sIx z.length 0 lo+k:=by
  have l:∀(i:Int)(d:Nat),max 0 (min (if i<0 then i+(z.length:Int) else i) (z.length:Int))=(HT.sIx z.length d (Z i):Int):=λi d=>by change max 0 (min (if i<0 then i+(z.length:Int) else i) (z.length:Int))=((if i<0 then (i+(z.length:Int)).toNat else min i.toNat z.length:Nat):Int);split<;>omega
  have u:strSliceIndices lo c 1 z.length=sliceRange (HT.sIx z.length 0 lo:Int) (HT.sIx z.length z.length c:Int) 1:=by cases lo<;>cases c<;>simp only[strSliceIndices,show (1:Int)>0 by decide,Ki,l _ 0,l _ z.length]<;>rfl
  rw[u];unfold sliceRange;simp only[show (1:Int)>0 by decide,Ki]
  have v:(if (HT.sIx z.length 0 lo:Int)<(HT.sIx z.length z.length c:Int) then ((HT.sIx z.length z.length c:Int)-(HT.sIx z.length 0 lo:Int)+1-1)/1 else 0).toNat=HT.sIx z.length z.length c-HT.sIx z.length 0 lo:=by
   split
   ·rw[Int.ediv_one];omega
   ·omega
  rw[v];refine Jg λk _=>?_;omega
 have o:HT.sIx z.length z.length c<=z.length:=by
  cases c with
  |none=>show Hr _
  |some i=>
   change (if i<0 then (i+(z.length:Int)).toNat else min i.toNat z.length)<=z.length;split<;>omega
 have y:HT.sIx z.length 0 lo<=z.length:=by
  cases lo with
  |none=>show Jx _
  |some i=>
   change (if i<0 then (i+(z.length:Int)).toNat else min i.toNat z.length)<=z.length;split<;>omega
 have g:(strSliceIndices lo c 1 z.length).filterMap (z.cps[·]?)=dc z.cps.toList lo c:=by
  rw[f];unfold dc
  have e:z.cps.toList.length=z.length:=by rw[IK];rfl
  rw[e];generalize HT.sIx z.length 0 lo=a;generalize A:HT.sIx z.length z.length c=b at o;refine IP λj=>?_;rw[K1]
  have:∀m,m<=b-a->((List.range m).filterMap ((λx=>z.cps[x]?) ∘ λk=>a+k))=(z.cps.toList.drop a).take m:=by
   intro m
   induction m with
   |zero=>intro _;simp
   |succ m w=>
    intro C;rw[J7,List.filterMap_append,w ()]
    have r:a+m<z.cps.size:=by unfold Str.length at o;omega
    have B:z.cps.toList.drop a=z.cps.toList.drop a:=rfl
    have p:m<(z.cps.toList.drop a).length:=by rw[J0,e];unfold Str.length;omega
    rw[List.take_add_one,Kd];congr 1;simp[r]
  rw[this _ (Hr _)]
 unfold Txt.slice kF;split
 ·next h=>
  have p:(strSliceIndices lo c 1 z.length).length=z.length:=by simpa using h
  have e:z.cps.toList.length=z.length:=by rw[IK];rfl
  have:dc z.cps.toList lo c=z.cps.toList:=by
   rw[f,Hj,HM]at p;unfold dc;rw[e]
   have:HT.sIx z.length 0 lo=0:=by omega
   rw[this,KY,Jh (by rw[e];omega)]
  rw[this]
 ·rw[g]
noncomputable def vi:V->œ Int->œ Int->Hp->VK->Prop:=λx lo a H Q=>∃z,x=.str z/\z.length<=sizeLine/\Q (.str (kF z lo a)) H
theorem uB{v:Value}{o:œ Int}(h:î v o):∃p:œ (Int×ĵ),v=partValue p/\p.map (·.1)=o:=by
 cases h with
 |none=>show⟨Œ,S,S⟩
 |int i t=>show⟨Z (i,t),S,S⟩
theorem ED:SlR X vi:=by
 intro e s E H x v B C lo A sl Q I y p pl w h;let⟨z,rfl,r,q⟩:=h;let⟨t,rfl⟩:=y;let⟨a,rfl,rfl⟩:=uB pl;let⟨c,rfl,rfl⟩:=uB w;refine⟨"str",_,F.slot_str_getitem.lookup,Ĺ _ _ _,?_⟩
 have f:s.heap.IsSlice sl a c Œ:=by let⟨o,ho,g,j⟩:=p;show⟨o,ho,g,j⟩
 refine wpAny_getItem_str_slice (l:=a) (u:=c) (st:=Œ) f S (post_val_or_str ⟨?_,λt' k=>?_⟩)
 ·show HZ (Txt.slice_le z _ _) r
 ·refine⟨.str (kF z (a.map (·.1)) (c.map (·.1))),H,?_,⟨t',?_⟩,q⟩
  ·show I.tok _
  ·rw[←Dr];rfl
noncomputable def ga(z:Str)(n:Nat):Str:=⟨((List.replicate n z.cps.toList).flatten).toArray⟩
theorem Ao(z:Str):ga z 1=z:=by unfold ga;simp
theorem uQ:∀(n:Nat)(x a:Array Nat),(List.replicate n x).foldl (·++·) a=a++((List.replicate n x.toList).flatten).toArray
 |0,x,a=>by simp
 |n+1,x,a=>by rw[ID,List.foldl_cons,uQ n x (a++x),ID,Ih];apply Ō;simp
theorem xP(z:Str)(n:Nat):(ga z n).length=z.length*n:=by unfold ga Str.length;simp[Lj]
noncomputable def Fg:R2:=λx y H Q=>∃z k,x=.str z/\y=.int k/\-(2^62)<=k/\k<2^62/\z.length*k.toNat<=sizeLine/\z.length<=sizeLine/\Q (.str (ga z k.toNat)) H
theorem Fk:bL X (Í .Mult) Fg:=by
 intro l s J H x y v u Q I w A h;let⟨z,k,rfl,rfl,B,C,g,E,q⟩:=h;let⟨t,rfl⟩:=w;let⟨t',rfl⟩:=A;refine P.mul_str (by rw[HJ (),HJ ()];rfl) (λo a=>?_) (λo a=>?_) ?_
 ·intro G
  have r:0<k:=by omega
  have p:((z.length:Int))*k<=2^24:=by have:((z.length*k.toNat:Nat):Int)<=(sizeLine:Int):=Int.ofNat_le.mpr g;rw[Int.natCast_mul,Int.toNat_of_nonneg ()]at this;show this
  have F:(z.length:Int)<=(2^63-1)/k:=(Int.le_ediv_iff_mul_le r).mpr (Int.le_trans p 'b');omega
 ·unfold tooLong;show HJ ()
 ·by_cases c:k<1
  ·rw[Hx c]
   have e:k.toNat=0:=by omega
   rw[e]at q;show⟨'b',.str Str.empty,H,I.tok _,⟨_,S⟩,q⟩
  ·rw[Hq c];by_cases a:(k==1 ||z.length==0)=Ŕ
   ·rw[Hx a]
    have e:ga z k.toNat=z:=by
     rw[Bool.or_eq_true]at a;rcases a with a|a
     ·have:=eq_of_beq a;subst this;show Ao z
     ·have j:z.cps.toList=[]:=by have:=eq_of_beq a;unfold Str.length at this;show Je.mp (by rw[IK];show this)
      unfold ga;rw[j]
      have f:z.cps=#[]:=by apply Ō;rw[j]
      apply Str.ext';rw[f];simp
    rw[e]at q;show⟨.str z,H,I,⟨t,S⟩,q⟩
   ·rw[Hq a]
    have e:(⟨(List.replicate k.toNat z.cps).foldl (·++·) #[]⟩:Str)=ga z k.toNat:=by rw[uQ];unfold ga;simp
    rw[e];refine⟨by rw[xP];show g,.str (ga z k.toNat),H,I.tok _,⟨_,S⟩,q⟩
end
noncomputable def CD:R2:=λx y H Q=>∃a b xs e,x=.ref a/\y=.ref b/\H a=Z (.tup xs)/\H b=Z (.tup e)/\xs.length+e.length<=sizeLine/\∀p c,Same H c->c p=Z (.tup (xs++e))->Q (.ref p) c
theorem Bu{X:Cx}:bL X (Í .Add) CD:=by
 intro c s E H x y v u Q I l o h;let⟨a,b,xs,C,rfl,rfl,f,g,w,q⟩:=h;by_cases j:xs=[]
 ·subst j;cases l;cases o;let⟨F,B,z,_⟩:=I.tuple (SqT.of f);let⟨G,J,A,_⟩:=I.tuple (SqT.of g);show wv z A (B.nil_iff.mpr S) ⟨.ref b,H,I,S,q b H (Same.refl H) g⟩
 ·refine yJ c s E H _ _ v u Q I l o ⟨a,b,xs,C,S,S,SqT.of f,SqT.of g,j,w,λe=>?_,λ_ p r=>q p _ (cY r _) bg⟩;subst e;show q a H (Same.refl H) (by rw[Ii];show f)
noncomputable def Eg:R2:=λx y H Q=>∃(a:Addr)(k:Int)(xs:Y V),x=.ref a/\y=.int k/\H a=Z (.tup xs)/\xs≠[]/\0<=k/\k<=1000/\k.toNat*xs.length<=1000/\∀p c,Same H c->c p=Z (.tup (List.replicate k.toNat xs).flatten)->Q (.ref p) c
theorem CS{X:Cx}:bL X (Í .Mult) Eg:=by
 intro A s σ H x y v u Q I rx ry h;let⟨a,k,xs,rfl,rfl,M,hx,h0,h1,O,q⟩:=h;cases rx;let⟨t,rfl⟩:=ry;let⟨c,r,p1,_⟩:=I.tuple (SqT.of M);have R:c≠[]:=λz=>hx (r.nil_iff.mp z);have hl:=r.length
 have f:c.toArray.isEmpty=ŕ:=by cases c with|nil=>show absurd S R|cons _ _=>rfl
 let⟨⟨cls,B,data,sl⟩,ho,N,n,hd⟩:=id p1;simp only at N hd;subst N hd
 refine Đ (T:="tuple") (U:="int") 'b' ⟨_,ho,S⟩ (λs'=>Lc s' k t) zJ F.fills_int_mul KG Df F.slot_int_index.lookup
  (JQ KG (Lc s k t) F.entry_int_rmul (F.args_int_rmul_2 _ _) (DI k t a c.toArray n B sl)
   ⟨ho,S,⟨_,ho,S⟩,?_⟩)
 have G:List.foldl (λx1 x2=>x1++x2) #[] (List.replicate k.toNat c.toArray)=(List.replicate k.toNat c).flatten.toArray:=by have:=pZ c k.toNat [];rw[J4]at this;show this
 have J:¬ (decide (k < -(2^63)) ||decide (k≥2^63))=Ŕ:=by rw[HJ (),HJ ()];show Ig
 by_cases L:k=1
 ·subst L;refine JQ J1 ⟨_,ho,S⟩ La (K5 _ _) (FN a c.toArray n B sl t) ⟨ho,?_⟩;refine⟨.ref a,H,I,S,q a H (Same.refl H) ?_⟩;change H a=Z (.tup (List.replicate 1 xs).flatten);rw[List.replicate_one,Ih,List.flatten_nil,Ii];show M
 ·have K:¬ (c.toArray.isEmpty ||k==1)=Ŕ:=by rw[f,Jq.mpr L];show Ig
  have w:∀l:Y V,∀us:Y Value,l.length<=sizeLine->Vals l us->EP X A σ Q (.ref s.heap.objs.size) { s with heap:=s.heap.push { cls:=Value.type "tuple",data:=Data.seq us.toArray },toks:=s.toks }\/¬ (∀p j,Same H j->j p=Z (.tup l)->Q (.ref p) j):=λl us E rr=>by
   by_cases P:∀p j,Same H j->j p=Z (.tup l)->Q (.ref p) j
   ·refine .inl ⟨.ref s.heap.objs.size,_,I.laid (t':=s.toks) (o:=.tup l) (λb ob z=>Ho _ z) (Hr _) ?_,S,P _ _ (cY (I.hok.fresh (Hr _)) _) bg⟩;show⟨E,_,rr,IsTupD.new _ _⟩
   ·show .inr P
  by_cases a_:k=0
  ·subst a_;refine JQ J1 ⟨_,ho,S⟩ La (K5 _ _) (BH a c.toArray n B sl 0 t J K S) ⟨ho,?_⟩;rcases w [] [] (Jx _) .nil with z|z
   ·show z
   ·show absurd q z
  ·have b_:¬ (decide (k<=0) ||c.toArray.isEmpty)=Ŕ:=by rw[f,HJ ()];show Ig
   have g:c.length*k.toNat<=1000:=by rw[←hl,Lj];show O
   have C:(c.toArray.size:Int)*k<=1000:=by
    rw[HB]
    have e:k=((k.toNat:Nat):Int):=by omega
    rw[e]
    exact_mod_cast g
   have hs:(1000:Int)<=((sizeLine:Nat):Int):=by exact_mod_cast small (Hr 1000)
   have be:(List.replicate k.toNat c).flatten.length<=1000:=by rw[oR,Lj];show g
   refine JQ J1 ⟨_,ho,S⟩ La (K5 _ _) (BB a c.toArray n B sl k t J K b_ () (by unfold Builtin.Tuple.tupleTooMany;rw[HJ ()];show Ig) (by rw[G,HB];show small be)) ⟨ho,?_⟩;rw[G];rcases w (List.replicate k.toNat xs).flatten (List.replicate k.toNat c).flatten (by rw[oR];show small O) (r.rep k.toNat)with z|z
   ·show z
   ·show absurd q z
end L2
namespace L2
open PySem PySem.Spec PyProof.Rows
section
variable{K:Â}{X:Cx}{e a b:Ã}
noncomputable def Ge:cK:=λx y R=>match x,y with
 |.int i,.int j=>R (.int (i+j))
 |.str i,.str j=>i.length+j.length<=sizeLine/\R (.str (i++j))
 |.lst xs,.lst c=>xs.length+c.length<=sizeLine/\NF (xs++c) λf=>R (.lst f)
 |.tup xs,.tup c=>xs.length+c.length<=sizeLine/\NF (xs++c) λf=>R (.tup f)
 |_,_=>False
theorem cy:OpD K X (Í .Add) Ge:=⟨λa_ c s B H x y v u Q I z A M=>by
 let⟨Φ,P,o,R,sm,r,w,h,k⟩:=M
 cases P with
 |int i=>
  cases o with
  |int j=>cases r.int;cases w.int;show BZ c s B H _ _ v u Q I z A ⟨i,j,S,S,k _ Φ H _ h (.refl sm) (.int _)⟩
  |_=>show h.elim
 |str i=>
  cases o with
  |str j=>cases r.str;cases w.str;show xI c s B H _ _ v u Q I z A ⟨i,j,S,S,h.1,k _ Φ H _ h.2 (.refl sm) (.str _)⟩
  |_=>show h.elim
 |lst xs=>
  cases o with
  |lst U=>
   let⟨a,vs,rfl,F,f⟩:=r.lst sm;let⟨b,C,rfl,G,l⟩:=w.lst sm;show wA c s B H _ _ v u Q I z A ⟨a,b,vs,C,S,S,F,G,by rw[f.1,l.1];show h.1,λp J=>k _ _ _ _ h.2.get (.new sm J _) (((f.append l).same (cY (sm.free J) _)).lst bg)⟩
  |_=>show h.elim
 |tup xs=>
  cases o with
  |tup U=>
   let⟨a,vs,rfl,F,N,f⟩:=r.tup sm;let⟨b,C,rfl,G,O,l⟩:=w.tup sm
   show Bu c s B H _ _ v u Q I z A ⟨a,b,vs,C,S,S,sm _ _ N,sm _ _ O,by rw[f.1,l.1];show h.1,λp L T q=>by
    let⟨E,g,be⟩:=Gr.adoptT sm T q
    show k _ E L _ h.2.get g (((f.append l).same g.f).tup be)⟩
  |_=>show h.elim
 |_=>show h.elim⟩
noncomputable def zI(C:Int->Int->Prop)(g:Int->Int->D):cK:=λx y R=>match x,y with|.int i,.int j=>C i j/\R (g i j)|_,_=>False
noncomputable def iV(g:Int->Int->D):cK:=λx y R=>match x,y with|.int i,.int j=>R (g i j)|_,_=>False
theorem ou{f:Value->Value->Sem Value}{C:Int->Int->Prop}{g:Int->Int->Int}(h:bL X f (rI C λi j=>.int (g i j))):OpD K X f (zI C λi j=>.int (g i j)):=
 ⟨λE c s B H x y v u Q I z A l=>by
  let⟨Φ,o,p,R,sm,r,w,q,k⟩:=l
  cases o with
  |int i=>
   cases p with
   |int j=>cases r.int;cases w.int;show h c s B H _ _ v u Q I z A ⟨i,j,S,S,q.1,k _ Φ H _ q.2 (.refl sm) (.int _)⟩
   |_=>show q.elim
  |_=>show q.elim⟩
theorem zE{f:Value->Value->Sem Value}{g:Int->Int->Int}(h:bL X f (gF λi j=>.int (g i j))):OpD K X f (iV λi j=>.int (g i j)):=
 ⟨λC c s B H x y v u Q I z A l=>by
  let⟨Φ,o,p,R,sm,r,w,q,k⟩:=l
  cases o with
  |int i=>
   cases p with
   |int j=>cases r.int;cases w.int;show h c s B H _ _ v u Q I z A ⟨i,j,S,S,k _ Φ H _ q (.refl sm) (.int _)⟩
   |_=>show q.elim
  |_=>show q.elim⟩
theorem mE{f:Value->Value->Sem Value}{g:Int->Int->Bool}(h:bL X f (gF λi j=>.bl (g i j))):OpD K X f (iV λi j=>.bl (g i j)):=
 ⟨λC c s B H x y v u Q I z A l=>by
  let⟨Φ,o,p,R,sm,r,w,q,k⟩:=l
  cases o with
  |int i=>
   cases p with
   |int j=>cases r.int;cases w.int;show h c s B H _ _ v u Q I z A ⟨i,j,S,S,k _ Φ H _ q (.refl sm) (.bl _)⟩
   |_=>show q.elim
  |_=>show q.elim⟩
theorem di:OpD K X (Í .Sub) (iV λi j=>.int (i-j)):=zE C9
theorem qf:OpD K X (Í .FloorDiv) (zI CDivB λi j=>.int (i/j)):=ou FT
theorem gZ:OpD K X (Í .Mod) (zI (λ_ j=>0<j) λi j=>.int (i % j)):=ou Am
theorem p9:OpD K X (Í .Pow) (zI uh λi j=>.int (i^j.toNat)):=ou Dx
theorem gv:OpD K X (É .Lt) (iV λi j=>.bl (decide (i<j))):=mE Du
theorem tI:OpD K X (É .LtE) (iV λi j=>.bl (decide (i<=j))):=mE BN
theorem dS:OpD K X (É .Gt) (iV λi j=>.bl (decide (j<i))):=mE BT
theorem jI:OpD K X (É .GtE) (iV λi j=>.bl (decide (j<=i))):=mE xy
noncomputable def xX:cK:=λx y R=>match x,y with
 |.int i,.int j=>ý i j/\R (.int (i*j))
 |.lst xs,.int k=>(-(2^63)<=k/\k<2^63/\xs.length*k.toNat<=sizeLine)/\NF (List.replicate k.toNat xs).flatten λc=>R (.lst c)
 |.tup xs,.int k=>(xs≠[]/\0<=k/\k<=1000/\k.toNat*xs.length<=1000)/\NF (List.replicate k.toNat xs).flatten λc=>R (.tup c)
 |.str z,.int k=>(-(2^62)<=k/\k<2^62/\z.length*k.toNat<=sizeLine/\z.length<=sizeLine)/\NF (ga z k.toNat) λy=>R (.str y)
 |_,_=>False
theorem cV:OpD K X (Í .Mult) xX:=⟨λU c s B H x y v u Q I w A J=>by
 let⟨Φ,N,l,R,sm,o,r,h,k⟩:=J
 cases N with
 |int i=>
  cases l with
  |int j=>cases o.int;cases r.int;show yi c s B H _ _ v u Q I w A ⟨i,j,S,S,h.1,k _ Φ H _ h.2 (.refl sm) (.int _)⟩
  |_=>show h.elim
 |lst xs=>
  cases l with
  |int j=>
   let⟨a,vs,rfl,E,f⟩:=o.lst sm;cases r.int;show Gz c s B H _ _ v u Q I w A ⟨a,j,vs,S,S,E,h.1.1,h.1.2.1,by rw[f.1];show h.1.2.2,λp F=>k _ _ _ _ h.2.get (.new sm F _) (((f.rep _).same (cY (sm.free F) _)).lst bg)⟩
  |_=>show h.elim
 |tup xs=>
  cases l with
  |int j=>
   let⟨a,vs,rfl,E,M,f⟩:=o.tup sm;cases r.int;have L:vs≠[]:=λe=>h.1.1 (Je.mp (by rw[←f.1,e];rfl))
   show CS c s B H _ _ v u Q I w A ⟨a,j,vs,S,S,sm _ _ M,L,h.1.2.1,h.1.2.2.1,by rw[f.1];show h.1.2.2.2,λp G P q=>by
    let⟨C,g,O⟩:=Gr.adoptT sm P q
    show k _ C G _ h.2.get g (((f.rep _).same g.f).tup O)⟩
  |_=>show h.elim
 |str z=>
  cases l with
  |int j=>
   cases o.str;cases r.int;show Fk c s B H _ _ v u Q I w A ⟨z,j,S,S,h.1.1,h.1.2.1,h.1.2.2.1,h.1.2.2.2,k _ Φ H _ h.2.get (.refl sm) (.str _)⟩
  |_=>show h.elim
 |_=>show h.elim⟩
end
noncomputable def eD(f:D->D->œ Bool):Y D->Y D->œ Bool
 | [],[]=>Z Ŕ
 |x::xs,y::a=>(f x y).bind λb=>(eD f xs a).map (b&&·)
 |_,_=>Z ŕ
noncomputable def bT:Nat->D->D->œ Bool
 |_,.int i,.int j=>Z (i==j)
 |_,.bl i,.bl j=>Z (i==j)
 |_,.str i,.str j=>Z (i==j)
 |_,.non,.non=>Z Ŕ
 |n+1,.tup xs,.tup a=>eD (bT n) xs a
 |n+1,.lst xs,.lst a=>if xs.length=a.length then eD (bT n) xs a else Z ŕ
 |_,_,_=>Œ
theorem nr{f:D->D->œ Bool}:∀{xs a:Y D}{b:Bool},eD f xs a=Z b->∃g:Nat->Bool,(∀(j:Nat)(x y:D),xs[j]?=Z x->a[j]?=Z y->f x y=Z (g j))/\b=((List.range (min xs.length a.length)).all g&&xs.length==a.length)
 | [],[],b,h=>by cases h;show⟨λ_=>Ŕ,λj x y o=>by simp at o,by simp⟩
 | [],_::_,b,h=>by cases h;show⟨λ_=>Ŕ,λj x y o=>by simp at o,by simp⟩
 |_::_,[],b,h=>by cases h;show⟨λ_=>Ŕ,λj x y _ C=>by simp at C,by simp⟩
 |x::xs,y::a,b,h=>by
  unfold eD at h
  cases e:f x y with
  |none=>rw[e]at h;cases h
  |some c=>
   cases l:eD f xs a with
   |none=>rw[e,l]at h;cases h
   |some E=>
    rw[e,l]at h;cases h;let⟨g,A,B⟩:=nr l;refine⟨λj=>match j with|0=>c|j+1=>g j,λj u v p r=>?_,?_⟩
    ·cases j with
     |zero=>cases p;cases r;show e
     |succ j=>show A j u v p r
    ·have z:min (x::xs).length (y::a).length=min xs.length a.length+1:=by simp only[HD];omega
     have w:((x::xs).length==(y::a).length)=(xs.length==a.length):=by simp
     rw[z,w,List.range_succ_eq_map,LM,List.all_map,B,Bool.and_assoc];rfl
section
variable{K:Â}{X:Cx}{f:Y (Addr×Ô)}{l:St}{Φ H:Hp}{s:À}
theorem zr{n:Nat}{g:Nat->Bool}(h:∀j,j<n->g j=Ŕ):(List.range n).all g=Ŕ:=by rw[Jb];intro j a;show h j (HQ.mp a)
theorem bB{a:Type}{xs:Y a}{j:Nat}(h:j<xs.length):xs[j]?=Z xs[j]:=by simp[h]
inductive CmV:Nat->D->D->Bool->Prop
 |int {n:Nat} (i j:Int):CmV n (.int i) (.int j) (i==j)
 |bl {n:Nat} (i j:Bool):CmV n (.bl i) (.bl j) (i==j)
 |str {n:Nat} (i j:Str):CmV n (.str i) (.str j) (i==j)
 |non {n:Nat}:CmV n .non .non Ŕ
 |tup {n:Nat} {xs ys:List D} {b:Bool} (h:eD (bT n) xs ys=Z b):CmV (n+1) (.tup xs) (.tup ys) b
 |lst {n:Nat} {xs ys:List D} {b:Bool} (h:(if xs.length=ys.length then eD (bT n) xs ys else Z ŕ)=Z b):CmV (n+1) (.lst xs) (.lst ys) b
theorem vS{n:Nat}{d e:D}{b:Bool}(h:bT n d e=Z b):CmV n d e b:=by
 unfold bT at h;split at h
 ·cases h;show .int _ _
 ·cases h;show .bl _ _
 ·cases h;show .str _ _
 ·cases h;show .non
 ·show .tup h
 ·show .lst h
 ·cases h
theorem vD(F:X.K=K)(I:Inv X f l H s)(sm:Same Φ H):∀(n:Nat){d e:D}{b:Bool}{v:V},bT n d e=Z b->Rp K Φ d v->Rp K Φ e v->b=Ŕ:=by
 intro n
 induction n using Nat.strongRecOn with
 |ind n E=>
  intro d e b v h r u
  have all:∀{m:Nat}{xs p:Y D}{vs:Y V}{b:Bool},m<n->eD (bT m) xs p=Z b->RpL K Φ xs vs->RpL K Φ p vs->b=Ŕ:=λ{m xs p vs b} C h c o=>by
   let⟨g,B,A⟩:=nr h;have J:=c.1;have L:=o.1;rw[A,zr λj G=>?_]
   ·simp;omega
   ·have x:j<vs.length:=by omega
    have y:j<xs.length:=by omega
    have z:j<p.length:=by omega
    show E m C (B j _ _ (bB y) (bB z)) (c.2 j _ _ (bB x) (bB y)) (o.2 j _ _ (bB x) (bB z))
  cases vS h with
  |int i j=>obtain rfl:=r.i;cases u;show Ia i
  |bl i j=>obtain rfl:=r.b;cases u;show Ia i
  |str i j=>obtain rfl:=r.s;cases u;show Ia i
  |non=>rfl
  |tup h=>
   cases r with| @tup a vs xs h1 c h3=>cases u with| @tup _ ws p k1 o k3=>
   have w:vs=ws:=I.tuple_inj (.of (sm _ _ h1)) (.of (sm _ _ k1));subst w;show all (JZ _) h ⟨c,h3⟩ ⟨o,k3⟩
  |lst h=>
   cases r with| @lst a vs xs h1 c h3=>cases u with| @lst _ ws p k1 o k3=>
   have w:vs=ws:=by rw[h1]at k1;cases k1;rfl
   subst w;rw[Hx (c.symm.trans o)]at h;show all (JZ _) h ⟨c,h3⟩ ⟨o,k3⟩
open PySem.SeqAt in
theorem uz(hK:X.K=K)(I:Inv X f l H s)(sm:Same Φ H):∀(n:Nat){d e:D}{b:Bool}{x y:V},bT n d e=Z b->Rp K Φ d x->Rp K Φ e y->
  ∀(A:Ê)(u v:Value),A.units+n<å->RelV x u->RelV y v->EqAt A s u v b/\RcAt A s u v b/\RcNeAt A s u v (!b):=by
 intro n
 induction n using Nat.strongRecOn with
 |ind n ih=>
  intro d e b x y h p r A u v hu O P
  have z:∀{m:Nat}{xs w:Y D}{vs M:Y V}{o Mc:Y Value}{g:Nat->Bool},m+1=n->(∀(j:Nat)(x y:D),xs[j]?=Z x->w[j]?=Z y->bT m x y=Z (g j))->RpL K Φ xs vs->RpL K Φ w M->Vals vs o->Vals M Mc->∀j (j1:j<o.toArray.size) (j2:j<Mc.toArray.size),EqAt A.in1 s o.toArray[j] Mc.toArray[j] (g j):=λ{m xs w vs M o Mc g} hm U F G B C j j1 j2=>by
   have l1:=Vals.length B;have l2:=Vals.length C;have m1:=F.1;have m2:=G.1;simp only[HB]at j1 j2;let⟨x,hx,p⟩:=Vals.get' B j1;let⟨y,hy,r⟩:=Vals.get' C j2
   have i1:j<xs.length:=by omega
   have i2:j<w.length:=by omega
   show (ih m () (U j _ _ (bB i1) (bB i2)) (F.2 j x _ hx (bB i1)) (G.2 j y _ hy (bB i2)) A.in1 _ _ (by change A.units+1+m<å;omega) p r).1
  have N:A.units<å:=by omega
  cases vS h with
  |int i j=>obtain rfl:=p.i;obtain rfl:=r.i;let⟨t,rfl⟩:=O;let⟨t',rfl⟩:=P;show⟨EqAt.int_int i t j t',RcAt.int_int i t j t',RcNeAt.int_int i t j t'⟩
  |bl i j=>obtain rfl:=p.b;obtain rfl:=r.b;cases O;cases P;show⟨EqAt.bool_bool i j,RcAt.bool_bool i j,RcNeAt.bool_bool i j⟩
  |str i j=>obtain rfl:=p.s;obtain rfl:=r.s;let⟨t,rfl⟩:=O;let⟨t',rfl⟩:=P;show⟨EqAt.str_str i t j t',RcAt.str_str i t j t',RcNeAt.str_str i t j t'⟩
  |non=>obtain rfl:=p.n;obtain rfl:=r.n;cases O;cases P;show⟨EqAt.same _,RcAt.none_none,RcNeAt.none_none⟩
  | @tup n xs w b q=>
   have be:=p;have a_:=r
   cases p with| @tup a vs _ h1 F h3=>cases r with| @tup c M _ k1 G k3=>
   cases O;cases P;let⟨g,U,hb⟩:=nr q;let⟨o,B,J,_⟩:=I.sqb (b:=ŕ) (show SqT X.K H a vs from .of (sm _ _ h1));let⟨Mc,C,L,_⟩:=I.sqb (b:=ŕ) (show SqT X.K H c M from .of (sm _ _ k1));have l1:=Vals.length B;have l2:=Vals.length C;have T:=z S U ⟨F,h3⟩ ⟨G,k3⟩ B C;have R:=RcAt.tuples (e:=g) J L N T;have b_:=RcNeAt.tuples (e:=g) J L N T
   have et:((List.range (min o.toArray.size Mc.toArray.size)).all g&&o.toArray.size==Mc.toArray.size)=b:=by rw[hb];simp only[HB];rw[←l1,←l2,F,G]
   rw[et]at R b_;refine⟨?_,R,b_⟩;by_cases Q:a=c
   ·subst Q;rw[vD hK I sm (n+1) h be a_];show EqAt.same _
   ·show EqAt.of_refs Q R
  | @lst n xs w b q=>
   have be:=p;have a_:=r
   cases p with| @lst a vs _ h1 F h3=>cases r with| @lst c M _ k1 G k3=>
   cases O;cases P;let⟨o,B,J,_⟩:=I.sqb (b:=Ŕ) (show SqL X.K H a vs from SqL.of (sm _ _ h1));let⟨Mc,C,L,_⟩:=I.sqb (b:=Ŕ) (show SqL X.K H c M from SqL.of (sm _ _ k1));have l1:=Vals.length B;have l2:=Vals.length C
   have E:RcAt A s (.ref a) (.ref c) b/\RcNeAt A s (.ref a) (.ref c) (!b):=by
    by_cases hl:xs.length=w.length
    ·rw[Hx hl]at q;let⟨g,U,hb⟩:=nr q;have T:=z S U ⟨F,h3⟩ ⟨G,k3⟩ B C
     have hsz:o.toArray.size=Mc.toArray.size:=by simp;omega
     have R:=RcAt.lists (e:=g) J L hsz N T;have b_:=RcNeAt.lists (e:=g) J L hsz N T
     have et:(List.range o.toArray.size).all g=b:=by
      have e1:min xs.length w.length=o.length:=by omega
      have e2:(xs.length==w.length)=Ŕ:=by simp[hl]
      rw[hb,e1,e2,Bool.and_true,HB]
     rw[et]at R b_;show⟨R,b_⟩
    ·rw[Hq hl]at q;cases q
     have hsz:(o.toArray.size != Mc.toArray.size)=Ŕ:=by simp;omega
     show⟨RcAt.lists_lengths J L hsz N,RcNeAt.lists_lengths J L hsz N⟩
   refine⟨?_,E.1,E.2⟩;by_cases Q:a=c
   ·subst Q;rw[vD hK I sm (n+1) h be a_];show EqAt.same _
   ·show EqAt.of_refs Q E.1
end
noncomputable def iq:cK:=λx y R=>match bT 40 x y with|some b=>R (.bl b)|none=>False
noncomputable def sN:cK:=λx y R=>match bT 40 x y with|some b=>R (.bl (!b))|none=>False
section
variable{K:Â}{X:Cx}
theorem RpQ.any{Φ H:Hp}{d:D}{v:V}(h:RpQ K Φ H d v)(s:Same Φ H):Rp K H d v:=by
 rcases h with h|⟨a,vs,ds,e,c,f,g⟩
 ·show h.same s
 ·subst e c;show (g.same s).lst f
theorem cW(r:X.A.units+64<å):OpD K X (É .Eq) iq:=⟨λe a s w H x y u v Q I j l c=>by
 let⟨Φ,o,p,R,sm,f,g,h,k⟩:=c;unfold iq at h;split at h
 ·next b hb=>show (uz e I (Same.refl H) 40 hb (f.any sm) (g.any sm) X.A u v () j l).2.1 X.prog X.w _ _ ⟨.bl b,H,I,S,k _ Φ H _ h (.refl sm) (.bl b)⟩
 ·show h.elim⟩
theorem eC(r:X.A.units+64<å):OpD K X (É .NotEq) sN:=⟨λe a s w H x y u v Q I j l c=>by
 let⟨Φ,o,p,R,sm,f,g,h,k⟩:=c;unfold sN at h;split at h
 ·next b hb=>show (uz e I (Same.refl H) 40 hb (f.any sm) (g.any sm) X.A u v () j l).2.2 X.prog X.w _ _ ⟨.bl (!b),H,I,S,k _ Φ H _ h (.refl sm) (.bl _)⟩
 ·show h.elim⟩
noncomputable def eQ:D->Bool
 |.non=>Ŕ
 |_=>ŕ
noncomputable def vG(neg:Bool):cK:=λx y R=>match y with|.non=>R (.bl (eQ x != neg))|.bl b=>(match x with|.bl a=>R (.bl ((a==b) != neg))|_=>False)|_=>False
theorem vJ{Φ H:Hp}{d:D}{v:V}(h:RpQ K Φ H d v):decide (v=V.non)=eQ d:=by
 cases d with
 |int i=>rw[h.int];rfl
 |bl i=>rw[h.bl];rfl
 |str i=>rw[h.str];rfl
 |non=>rw[h.non];rfl
 |tup ds=>rcases h with h|⟨a, vs, ds, e, _⟩
          · cases h; rfl
          · cases e
 |lst ds=>rcases h with h|⟨a, vs, ds, e, c, _⟩
          · cases h; rfl
          · rw [c]; rfl
 |fzl ds=>rcases h with h|⟨a, vs, ds, e, _⟩
          · cases h; rfl
          · cases e
 |obj C fs=>rcases h with h|⟨a, vs, ds, e, _⟩
            · cases h; rfl
            · cases e
 |map f=>rcases h with h|⟨a, vs, ds, e, _⟩
         · cases h; rfl
         · cases e
 |exc _ _=>rcases h with h|⟨a, vs, ds, e, _⟩
           · cases h<;>rfl
           · cases e
theorem fM:OpD K X (É .Is) (vG ŕ):=⟨λw c s l H x y u v Q I g j o=>by
 let⟨Φ,p,r,R,sm,e,f,h,k⟩:=o
 cases r with
 |non=>
  cases f.non;refine FX c s l H _ _ u v Q I g j ⟨S,?_⟩;rw[vJ e];have h':R (.bl (eQ p != ŕ)):=h;rw[ĸ]at h';show k _ Φ H _ h' (.refl sm) (.bl _)
 |bl b=>
  cases f.bl;let⟨a,rfl,h⟩:=iT h;cases e.bl;have h':R (.bl ((a==b) != ŕ)):=h;rw[ĸ]at h';show Gc c s l H _ _ u v Q I g j ⟨a,b,S,S,k _ Φ H _ h' (.refl sm) (.bl _)⟩
 |_=>show h.elim⟩
theorem cZ:OpD K X (É .IsNot) (vG Ŕ):=⟨λw c s l H x y u v Q I g j o=>by
 let⟨Φ,p,r,R,sm,e,f,h,k⟩:=o
 cases r with
 |non=>
  cases f.non;refine wO c s l H _ _ u v Q I g j ⟨S,?_⟩;rw[vJ e];have h':R (.bl (eQ p != Ŕ)):=h;rw[Ľ]at h';show k _ Φ H _ h' (.refl sm) (.bl _)
 |bl b=>
  cases f.bl;let⟨a,rfl,h⟩:=iT h;cases e.bl;have h':R (.bl ((a==b) != Ŕ)):=h;rw[Ľ]at h';show AS c s l H _ _ u v Q I g j ⟨a,b,S,S,k _ Φ H _ h' (.refl sm) (.bl _)⟩
 |_=>show h.elim⟩
end
end L2
namespace HT
open PySem PySem.Spec PyProof.Rows
theorem getItem_tuple_all{prog:Å}{w:È}{A:Ê}{E:Value->À->Prop}{s:À}{t sl:Addr}{items:Array Value}{j l:Value}{lo e:œ Int}{Q:Value->À->Prop}(a:ĝ s.heap t items)(f:s.heap.IsSliceOf sl j l .none)(pl:î j lo)(v:î l e)
  (g:sIx items.size 0 lo=0/\sIx items.size items.size e=items.size) (h:Q (.ref t) s):wpAny (Ä prog w) A (ä (.ref t) (.ref sl)) Q E s:=by
 let⟨os,o,p,x⟩:=id f;have u:s.TypeIs (.ref sl) "slice":=⟨os,o,p⟩;unfold ä
 try with_reducible refine Jj ?_
 first|refine Hn (HA ?_)|skip
 refine Hn (Ł a.typeIs 'b' ?_)
 refine Hn (IT (name:=Str.ofString "__getitem__") a.typeIs IG
  (Jt IG a.typeIs ķ ?_ (Ļ _ _)))
 change wpAny _ _ (Builtin.Tuple.tupleItemsOf (.ref t) >>= _) _ _ s;refine Hn (tupleItemsOf_ a ?_);refine Hn (Li u ?_);rw[Hx 'b'];refine Hn (rJ f pl v ?_)
 have r:(((sIx items.size 0 lo:Nat):Int)==0&&(1:Int)==1&&(sIx items.size items.size e-sIx items.size 0 lo)==items.size)=Ŕ:=by rw[g.1,g.2];simp
 change wpAny _ _ (if (((sIx items.size 0 lo:Nat):Int)==0&&(1:Int)==1&&(sIx items.size items.size e-sIx items.size 0 lo)==items.size)=Ŕ then _ else _) _ _ s;rw[Hx r];refine Hn (show wpAny _ _ (typeOf (.ref t) >>= λc=>pure (c==.type "tuple")) _ _ s from Hn (Li a.typeIs (HA ?_)));rw[Hx 'b'];show Hn (Lb (HA ⟨_,S,HA h⟩))
end HT
namespace L2
open PySem PySem.Spec PyProof.Rows
section
variable{K:Â}{X:Cx}{e a b c:Ã}{es:Y Ã}{A M:Õ}{t G tb:TD}{C:aM}
noncomputable def mf:cK:=λx y R=>match y with
 |.int i=>(match x with
  |.lst ds=>∃d,cn ds i=Z d/\R d
  |.tup ds=>∃d,cn ds i=Z d/\R d
  |.fzl ds=>∃d,cn ds i=Z d/\R d
  |.str z=>z.length<=sizeLine/\∃c,cn z.cps.toList i=Z c/\R (.str ⟨#[c]⟩)
  |_=>False)
 |_=>False
theorem ny{Φ:Hp}{ds:Y D}{vs:Y V}{d:D}{i:Int}(h:RpL K Φ ds vs)(e:cn ds i=Z d):∃v,cn vs i=Z v/\Rp K Φ d v:=by
 unfold cn at e ⊢;rw[h.1]
 cases f:fS ds.length i with
 |none=>rw[f]at e;cases e
 |some j=>
  rw[f,ğ]at e;rw[ğ];show h.at e
theorem vy(P:X.K=K):jt X (lR2 K mf):=by
 intro g f j s O H x y v u Q I L N ⟨Φ,be,a_,R,sm,J,U,h,k⟩ F;let⟨i,rfl,h⟩:=ix h;cases U.int
 cases be with
 |lst ds=>
  let⟨d,l,o⟩:=h;let⟨a,vs,rfl,B,E⟩:=J.lst sm;let⟨w,r,p⟩:=ny E l;show pM g f j s O H _ _ v u Q I L N ⟨a,vs,i,w,S,S,.of B,r,k _ Φ H _ o (.refl sm) p⟩ F
 |tup ds=>
  let⟨d,l,o⟩:=h;let⟨a,vs,rfl,B,_,E⟩:=J.tup sm;let⟨w,r,p⟩:=ny E l;show DK g f j s O H _ _ v u Q I L N ⟨a,vs,i,w,S,S,P▸B,r,k _ Φ H _ o (.refl sm) p⟩ F
 |fzl ds=>
  let⟨d,l,o⟩:=h;let⟨a,vs,rfl,B,E⟩:=J.fzl sm;let⟨w,r,p⟩:=ny E l;show pM g f j s O H _ _ v u Q I L N ⟨a,vs,i,w,S,S,P▸B,r,k _ Φ H _ o (.refl sm) p⟩ F
 |str z=>
  let⟨T,c,l,o⟩:=h;cases J.str;show DN g f j s O H _ _ v u Q I L N ⟨z,i,c,S,S,T,l,k _ Φ H _ o (.refl sm) (.str _)⟩ F
 |_=>show h.elim
theorem br(g:PQ K X a G)(h:PQ K X b tb)(j:me b):PD K X (.Subscript a b A) (i5 mf G tb):=
 ⟨λf=>(pz (vy f) (g.pe f) (h.pe f) j).imp λ_ _ _=>ld⟩
noncomputable abbrev iO:=bq->(œ Int->Prop)->Prop
theorem aw{i:Int}{j:ĵ}{p:Õ}(f:PQ K X a G):PD K X (.Subscript a (.Constant (.int i) j p) A) (i5 mf G (dC (.int i))):=br f (PD.q ah) λ_ _=>rfl
inductive lO(K:Â)(t:iO)(σ:St)(H:Hp)(Q:Option Int->Hp->Prop):Prop|mk (H0:Hp) (Φ:Hp) (ρ:bq) (R:Option Int->Prop) (_:EnvD K H0 Φ H σ ρ) (_:t ρ R) (_:∀o Φ' H',R o->Gr Φ H Φ' H'->Q o H')
structure POD(K:Â)(X:Cx)(e:Option Ã)(t:iO):Prop where po:X.K=K->PO X e (lO K t)
noncomputable def GC:iO:=λ_ R=>R Œ
noncomputable def wS(t:TD):iO:=λρ R=>t ρ λd=>match d with|.int i=>R (Z i)|_=>False
theorem PO.imp{o:œ Ã}{t t':TO}(h:PO X o t)(k:∀g H Q,t' g H Q->t g H Q):PO X o t':=λf s g H Q I j=>h f s g H Q I (k g H Q j)
theorem uX:POD K X Œ GC:=⟨λ_=>po_none.imp λh H Q f=>by let⟨g,Φ,ρ,R,E,t,k⟩:=f;show k Œ Φ H t (.refl E.fz)⟩
theorem sP(h:PQ K X e t):POD K X (Z e) (wS t):=⟨λp=>(CO (h.pe p)).imp λw H Q o=>by let⟨j,Φ,ρ,R,E,t,k⟩:=o;show⟨j,Φ,ρ,_,E,t,λd f l v r g u=>by
 let⟨i,rfl,r⟩:=ix r
 show⟨i,u.int,k _ f l r g⟩⟩⟩
variable{lo B:œ Ã}{to J:iO}
noncomputable def tQ(K:Â):V->œ Int->œ Int->Hp->VK->Prop:=λx lo B H Q=>∃a xs,x=.ref a/\SqT K H a xs/\(HT.sIx xs.length 0 lo=0/\HT.sIx xs.length xs.length B=xs.length)/\Q (.ref a) H
theorem sl_all:SlR X (tQ X.K):=by
 intro j s L H x v E F lo B sl Q I y o pl w h;let⟨a,xs,rfl,u,p,q⟩:=h;cases y;let⟨l,r,g,z⟩:=I.tuple u
 have f:l.toArray.size=xs.length:=by rw[HB];show r.length.symm
 refine⟨"tuple",_,IG.lookup,g.typeIs,?_⟩;show HT.getItem_tuple_all g o pl w (by rw[f];show p) ⟨.ref a,H,I,S,q⟩
theorem AC{g:Type}{xs:Y g}{l h:œ Int}(f:HT.sIx xs.length 0 l=0/\HT.sIx xs.length xs.length h=xs.length):dc xs l h=xs:=by unfold dc;rw[f.1,f.2,KY,Nat.sub_zero,Ja]
noncomputable def Bg(x:D)(l h:œ Int)(R:D->Prop):Prop:=match x with
 |.lst ds=>NF (dc ds l h) λf=>R (.lst f)
 |.fzl ds=>NF (dc ds l h) λf=>R (.lst f)
 |.tup ds=>NF (dc ds l h) λf=>R (.tup f)
 |.str z=>z.length<=sizeLine/\NF (kF z l h) λy=>R (.str y)
 |_=>False
noncomputable def FB(t:TD)(to J:iO):TD:=λρ R=>t ρ λx=>to ρ λl=>J ρ λh=>Bg x l h R
theorem rT(U:PQ K X a G)(a_:POD K X lo to)(be:POD K X B J):PD K X (.Subscript a (.Slice lo B Œ M) A) (FB G to J):=
 ⟨λv=>(AW (v▸sl_list.or (sl_tup.or (sl_all.or ED)):SlR X (λx lo B H Q=>rK K x lo B H Q\/tj K x lo B H Q\/tQ K x lo B H Q\/vi x lo B H Q)) (U.pe v) (a_.po v) (be.po v)).imp λσ H Q b_=>by let⟨w,Φ,ρ,R,E,t,k⟩:=b_;exact
  ⟨w,Φ,ρ,_,E,t,λT L H1 x t1 y rx=>⟨w,L,ρ,_,E.gr y,t1,λl N H2 t2 F=>⟨w,N,ρ,_,(E.gr y).gr F,t2,λh Φ3 H3 o O=>by
   have g:=(y.trans F).trans O;have u:=rx.gr (F.trans O)
   cases T with
   |lst ds=>
    let⟨a,vs,rfl,r,j⟩:=u.lst g.s;show .inl ⟨a,vs,S,.of r,λp f=>k _ _ _ _ o.get (g.trans (.new g.s f _)) (((j.cut l h).same (cY (g.s.free f) _)).lst bg)⟩
   |fzl ds=>
    let⟨a,vs,rfl,r,j⟩:=u.fzl g.s;show .inl ⟨a,vs,S,r,λp f=>k _ _ _ _ o.get (g.trans (.new g.s f _)) (((j.cut l h).same (cY (g.s.free f) _)).lst bg)⟩
   |tup ds=>
    let⟨a,vs,rfl,r,q0,j⟩:=u.tup g.s;by_cases I:HT.sIx vs.length 0 l=0/\HT.sIx vs.length vs.length h=vs.length
    ·refine .inr (.inr (.inl ⟨a,vs,S,r,I,?_⟩));have e:dc ds l h=ds:=AC (by rw[←j.1];show I);have P:=o.get;rw[e]at P;show k _ _ _ _ P g (j.tup q0)
    ·show .inr (.inl ⟨a,vs,S,r,I,λp f=>k _ _ _ _ o.get (g.trans (.new g.s f _)) (((j.cut l h).same (cY (g.s.free f) _)).tup bg)⟩)
   |str z=>
    cases u.str;show .inr (.inr (.inr ⟨z,S,o.1,k _ _ _ _ o.2.get g (.str _)⟩))
   |_=>show o.elim⟩⟩⟩⟩
noncomputable abbrev cg:=Y D->(D->Prop)->Prop
inductive lSp(K:Â)(sp:cg)(vs:List V)(H:Hp)(Q:VK)(E_:XK):Prop|mk (Φ:Hp) (ds:List D) (R:D->Prop) (_:Same Φ H) (_:TabF K Φ) (_:RpL K Φ ds vs) (_:sp ds R) (_:∀d Φ' H' v,R d->Gr Φ H Φ' H'->Rp K Φ' d v->Q v H')
noncomputable def mG(sp:cg)(t:aM):TD:=λρ R=>t ρ λds=>sp ds R
variable{CX:dG}{k:Nat}{f:Addr}{L:Ì}{ps:Y Str}{sp:cg}{x:Str}{p:Õ}{E:XK}
theorem ye(F:FnOk X.prog X.w X.K X.mg X.base CX k f L ps (lSp K sp))(U:Room k X.A)(P:Gl X x)(T:X.mg x=Z (.ref f))(b_:ã X.K (.ref f)=Ŕ)(N:Binds X.K L ps [])(be:iU CX X E)
  (I:PAD K X (e::es) C) (O:starEach (e::es) X.env=(ŕ,eval e X.env)::starEach es X.env) (y:(backTo A (starEach es X.env)).any (·.1)=ŕ) (w:ab x:=by decide) :
  PD K X (.Call (.Name x p) (e::es) [] A) (mG sp C):=
 ⟨λz=>(oA F U P T b_ N .nil be (I.pa z) w O y).imp λσ H Q u=>by let⟨o,Φ,ρ,R,E,t,k⟩:=u;show⟨o,Φ,ρ,_,E,t,λds j H1 vs r g rl _=>⟨j,ds,R,g.s,E.tb.same g.f,by rw[Ii];show rl,r,λd h l v a_ g' rv=>k d h l v a_ (g.trans g') rv⟩⟩⟩
noncomputable def l0(K:Â)(Φ H:Hp)(ds:Y D)(vs:Y V):Prop:=vs.length=ds.length/\∀(i:Nat)(v:V)(d:D),vs[i]?=Z v->ds[i]?=Z d->RpQ K Φ H d v
inductive lAQ(K:Â)(t:aM)(σ:St)(H:Hp)(Q:List V->Hp->Prop):Prop|mk (H0:Hp) (Φ:Hp) (ρ:bq) (R:List D->Prop) (_:EnvD K H0 Φ H σ ρ) (_:t ρ R) (_:∀ds Φ' H' vs,R ds->Gr Φ H Φ' H'->l0 K Φ' H' ds vs->Q vs H')
structure PAQ(K:Â)(X:Cx)(es:List Ã)(t:aM):Prop where pa:X.K=K->PA X es (lAQ K t)
theorem aT:PAQ K X [] rz:=⟨λ_=>pa_nil.imp λl H Q g=>by let⟨j,Φ,ρ,R,E,t,k⟩:=g;show k [] Φ H [] t (.refl E.fz) ⟨S,λi v d h _=>by simp at h⟩⟩
theorem aP(I:PQ K X e t)(N:PAQ K X es C)(O:starEach (e::es) X.env=(ŕ,eval e X.env)::starEach es X.env):PAQ K X (e::es) (sQ t C):=
 ⟨λw=>(eN (I.pe w) (N.pa w) O).imp λU H Q F=>by let⟨l,Φ,ρ,R,E,t,k⟩:=F;show⟨l,Φ,ρ,_,E,t,λd h T v r g a_=>⟨l,h,ρ,_,E.gr g,r,λds j z vs P o rl=>
  k _ j z _ P (g.trans o) ⟨by simp[rl.1],λi u d y hd=>by
   cases i with
   |zero=>cases y;cases hd;show a_.gr o
   |succ i=>show rl.2 i u d y hd⟩⟩⟩⟩
inductive lC(K:Â)(r:cg)(vs:List V)(H:Hp)(Q:VK):Prop|mk (Φ:Hp) (ds:List D) (R:D->Prop) (_:Same Φ H) (_:l0 K Φ H ds vs) (_:r ds R) (_:∀d Φ' H' v,R d->Gr Φ H Φ' H'->Rp K Φ' d v->Q v H')
structure CallD(K:Â)(X:Cx)(f:Value)(r:cg):Prop where c:X.K=K->dB X f (lC K r)
theorem bx{id:String}{r:cg}(I:CallD K X (.builtin id) r)(O:Gl X x)(P:X.mg x=Œ)(b_:Ü x=Z (.builtin id))(F:PAQ K X (e::es) C)
  (N:starEach (e::es) X.env=(ŕ,eval e X.env)::starEach es X.env) (z:(backTo A (starEach es X.env)).any (·.1)=ŕ) (hn:x≠"__name__":=by decide) (y:ab x:=by decide):PD K X (.Call (.Name x p) (e::es) [] A) (mG r C):=
 ⟨λl=>(ua (I.c l) O P b_ (F.pa l) hn y N z).imp λa_ H Q w=>by let⟨u,Φ,ρ,R,E,t,k⟩:=w;show⟨u,Φ,ρ,_,E,t,λds j be vs r g rl=>⟨j,ds,R,g.s,rl,r,λd h o v T g' U=>k d h o v T (g.trans g') U⟩⟩⟩
theorem cH{T:String}{r:cg}(I:CallD K X (.type T) r)(O:Gl X x)(P:X.mg x=Œ)(b_:Ü x=Z (.type T))(F:PAQ K X (e::es) C)
  (N:starEach (e::es) X.env=(ŕ,eval e X.env)::starEach es X.env) (z:(backTo A (starEach es X.env)).any (·.1)=ŕ) (hn:x≠"__name__":=by decide) (y:ab x:=by decide):PD K X (.Call (.Name x p) (e::es) [] A) (mG r C):=
 ⟨λl=>(jc (I.c l) O P b_ (F.pa l) hn y N z).imp λσ H Q w=>by let⟨u,Φ,ρ,R,E,t,k⟩:=w;show⟨u,Φ,ρ,_,E,t,λds j a_ vs r g rl=>⟨j,ds,R,g.s,rl,r,λd h o v U g' be=>k d h o v U (g.trans g') be⟩⟩⟩
theorem fq{Φ H:Hp}{d:D}{vs:Y V}(h:l0 K Φ H [d] vs):∃v,vs=[v]/\RpQ K Φ H d v:=by
 let⟨j,g⟩:=h
 match vs,j,g with
 | [v],_,g=>show⟨v,S,g 0 v d S S⟩
theorem Ak{Φ H:Hp}{d e:D}{vs:Y V}(h:l0 K Φ H [d,e] vs):∃v w,vs=[v,w]/\RpQ K Φ H d v/\RpQ K Φ H e w:=by
 let⟨j,g⟩:=h
 match vs,j,g with
 | [v,w],_,g=>show⟨v,w,S,g 0 v d S S,g 1 w e S S⟩
noncomputable def EQ:cg:=λds R=>match ds with| [.lst xs]=>R (.int xs.length)| [.tup xs]=>R (.int xs.length)| [.fzl xs]=>R (.int xs.length)| [.str z]=>z.length<=sizeLine/\R (.int z.length)|_=>False
theorem cD:CallD K X (.builtin "len") EQ:=⟨λw g s u H xs us Q I rr y=>by
 let⟨Φ,ds,R,sm,o,h,k⟩:=y
 match ds,h with
 | [.lst xs],h=>
  let⟨v,rfl,r⟩:=fq o;let⟨a,vs,rfl,j,l⟩:=r.lst sm;show oM g s u H _ us Q I rr ⟨a,vs,S,.inl (.of j),by rw[l.1];show k _ Φ H _ h (.refl sm) (.int _)⟩
 | [.tup xs],h=>
  let⟨v,rfl,r⟩:=fq o;let⟨a,vs,rfl,j,_,l⟩:=r.tup sm;show oM g s u H _ us Q I rr ⟨a,vs,S,.inr (w▸j),by rw[l.1];show k _ Φ H _ h (.refl sm) (.int _)⟩
 | [.fzl xs],h=>
  let⟨v,rfl,r⟩:=fq o;let⟨a,vs,rfl,j,l⟩:=r.fzl sm;show oM g s u H _ us Q I rr ⟨a,vs,S,.inl (w▸j),by rw[l.1];show k _ Φ H _ h (.refl sm) (.int _)⟩
 | [.str z],h=>
  let⟨v,rfl,r⟩:=fq o;cases r.str
  show xM g s u H _ us Q I rr ⟨z,S,h.1,k _ Φ H _ h.2 (.refl sm) (.int _)⟩⟩
noncomputable def xz:cg:=λds R=>match ds with| [.int i]=>R (.int (if i<0 then -i else i))|_=>False
theorem kB:CallD K X (.builtin "abs") xz:=⟨λu g s o H xs us Q I rr j=>by
 let⟨Φ,ds,R,sm,l,h,k⟩:=j
 match ds,h with
 | [.int i],h=>
  let⟨v,rfl,r⟩:=fq l;cases r.int
  show Cc g s o H _ us Q I rr ⟨i,S,k _ Φ H _ h (.refl sm) (.int _)⟩⟩
noncomputable def ym:cg:=λds R=>match ds with| [.int i,.int j]=>R (.int (if j>i then j else i))|_=>False
theorem ve(o:X.calm=Ŕ):CallD K X (.builtin "max") ym:=⟨λF g s z H xs us Q I rr l=>by
 let⟨Φ,ds,R,sm,r,h,k⟩:=l
 match ds,h with
 | [.int i,.int j],h=>
  let⟨v,w,rfl,u,y⟩:=Ak r;cases u.int;cases y.int
  show Bc o g s z H _ us Q I rr ⟨i,j,S,k _ Φ H _ h (.refl sm) (.int _)⟩⟩
theorem GR{Φ:Hp}{ns:Y Int}{vs:Y V}(h:RpL K Φ (ns.map D.int) vs):vs=ns.map V.int:=by
 refine IP λi=>?_;rw[Hy]
 cases e:ns[i]? with
 |none=>
  have:=J8.mp e;rw[Ib (by rw[h.1,Hj];show this)];rfl
 |some n=>
  let⟨v,g,r⟩:=h.at (i:=i) (d:=.int n) (by rw[Hy,e];rfl);obtain rfl:=r.i;rw[g];rfl
theorem t6{Φ:Hp}{bs:Y Bool}{vs:Y V}(h:RpL K Φ (bs.map D.bl) vs):vs=bs.map V.bl:=by
 refine IP λi=>?_;rw[Hy]
 cases e:bs[i]? with
 |none=>
  have:=J8.mp e;rw[Ib (by rw[h.1,Hj];show this)];rfl
 |some n=>
  let⟨v,g,r⟩:=h.at (i:=i) (d:=.bl n) (by rw[Hy,e];rfl);obtain rfl:=r.b;rw[g];rfl
theorem RpQ.sqb{Φ H:Hp}{d:D}{v:V}{ds:Y D}(s:Same Φ H)(h:RpQ K Φ H d v)(e:eW d=Z ds):∃(q:Bool)(a:Addr)(vs:Y V),v=.ref a/\SqB K q H a vs/\RpL K Φ ds vs:=by
 let⟨a,vs,j,g,l⟩:=h.seq s e;rcases g with g|g
 ·show⟨Ŕ,a,vs,j,g,l⟩
 ·show⟨ŕ,a,vs,j,g,l⟩
noncomputable def BI:cg:=λds R=>match ds with| [d]=>∃ns:Y Int,eW d=Z (ns.map D.int)/\R (.int ns.sum)|_=>False
theorem BA(u:X.calm=Ŕ):CallD K X (.builtin "sum") BI:=⟨λo g s z H xs us Q I rr l=>by
 let⟨Φ,ds,R,sm,w,h,k⟩:=l
 match ds,h with
 | [d],⟨ns,e,h⟩=>
  let⟨v,rfl,r⟩:=fq w;let⟨q,a,vs,rfl,j,y⟩:=r.sqb sm e;rw[GR y]at j
  show FI q u g s z H _ us Q I rr ⟨a,ns,S,o▸j,k _ Φ H _ h (.refl sm) (.int _)⟩⟩
noncomputable def tO(f:Y Bool->Bool):cg:=λds R=>match ds with| [d]=>∃bs:Y Bool,eW d=Z (bs.map D.bl)/\R (.bl (f bs))|_=>False
theorem EG(u:X.calm=Ŕ):CallD K X (.builtin "all") (tO λbs=>bs.all id):=⟨λo g s z H xs us Q I rr l=>by
 let⟨Φ,ds,R,sm,w,h,k⟩:=l
 match ds,h with
 | [d],⟨ns,e,h⟩=>
  let⟨v,rfl,r⟩:=fq w;let⟨q,a,vs,rfl,j,y⟩:=r.sqb sm e;rw[t6 y]at j
  show AQ q u g s z H _ us Q I rr ⟨a,ns,S,o▸j,k _ Φ H _ h (.refl sm) (.bl _)⟩⟩
theorem iS(u:X.calm=Ŕ):CallD K X (.builtin "any") (tO λbs=>bs.any id):=⟨λo g s z H xs us Q I rr l=>by
 let⟨Φ,ds,R,sm,w,h,k⟩:=l
 match ds,h with
 | [d],⟨ns,e,h⟩=>
  let⟨v,rfl,r⟩:=fq w;let⟨q,a,vs,rfl,j,y⟩:=r.sqb sm e;rw[t6 y]at j
  show Ai q u g s z H _ us Q I rr ⟨a,ns,S,o▸j,k _ Φ H _ h (.refl sm) (.bl _)⟩⟩
noncomputable def xf:cg:=λds R=>match ds with| [.lst xs]=>R (.tup xs)| [.tup xs]=>R (.tup xs)| [.fzl xs]=>R (.tup xs)|_=>False
theorem cX:CallD K X (.type "tuple") xf:=⟨λy g s w H xs us Q I rr z=>by
 let⟨Φ,ds,R,sm,u,h,k⟩:=z
 match ds,h with
 | [.lst xs],h=>
  let⟨v,rfl,r⟩:=fq u;let⟨a,vs,rfl,l,o⟩:=r.lst sm;show pB g s w H _ us Q I rr ⟨a,vs,S,.inl ⟨.of l,λp j=>k _ _ _ _ h (.new sm j _) ((o.same (cY (sm.free j) _)).tup bg)⟩⟩
 | [.fzl xs],h=>
  let⟨v,rfl,r⟩:=fq u;let⟨a,vs,rfl,l,o⟩:=r.fzl sm;show pB g s w H _ us Q I rr ⟨a,vs,S,.inl ⟨y▸l,λp j=>k _ _ _ _ h (.new sm j _) ((o.same (cY (sm.free j) _)).tup bg)⟩⟩
 | [.tup xs],h=>
  let⟨v,rfl,r⟩:=fq u;let⟨a,vs,rfl,l,F,o⟩:=r.tup sm
  show pB g s w H _ us Q I rr ⟨a,vs,S,.inr ⟨y▸l,k _ Φ H _ h (.refl sm) (o.tup F)⟩⟩⟩
noncomputable def BO(t:TD):aM:=λρ R=>t ρ λd=>∃ds,eW d=Z ds/\R ds
theorem qe(F:Gl X "list")(I:X.mg "list"=Œ)(z:PQ K X e t)(o:starEach [e] X.env=(ŕ,eval e X.env)::starEach [] X.env):PF K X (.Call (.Name "list" p) [e] [] A) (BO t):=
 ⟨λj=>(jc rX F I Ĝ (eN (z.pe j) pa_nil o) 'b' 'b' o ae).imp λU H Q w=>by let⟨u,Φ,ρ,R,E,t,k⟩:=w;show⟨u,Φ,ρ,_,E,t,λd a_ T v r g P=>by
  let⟨ds,y,r⟩:=r;let⟨a,vs,rfl,N,O⟩:=P.seq g.s y
  show⟨a,vs,S,j▸N,λl h=>k _ _ _ l _ r (g.trans (.fresh g.s h _)) (g.h.free h) (g.s.free h) bg O⟩⟩⟩
noncomputable def Dy:cg:=λds R=>match ds with| [.int i]=>R (.int i)| [.bl b]=>R (.int (if b then 1 else 0))|_=>False
theorem vB:CallD K X (.type "int") Dy:=⟨λu g s l H xs us Q I rr o=>by
 let⟨Φ,ds,R,sm,j,h,k⟩:=o
 match ds,h with
 | [.int i],h=>
  let⟨v,rfl,r⟩:=fq j;cases r.int;show uU g s l H _ us Q I rr (.inl ⟨i,S,k _ Φ H _ h (.refl sm) (.int _)⟩)
 | [.bl b],h=>
  let⟨v,rfl,r⟩:=fq j;cases r.bl
  show uU g s l H _ us Q I rr (.inr ⟨b,S,k _ Φ H _ h (.refl sm) (.int _)⟩)⟩
noncomputable def j8(d:D)(T:String):œ Bool:=match d with
 |.int _=>if T="int" then Z Ŕ else if T="bool" then Z ŕ else if T="tuple" then Z ŕ else if T="str" then Z ŕ else Œ
 |.bl _=>if T="int" then Z Ŕ else if T="bool" then Z Ŕ else if T="tuple" then Z ŕ else Œ
 |.str _=>if T="str" then Z Ŕ else if T="tuple" then Z ŕ else Œ
 |.tup _=>if T="tuple" then Z Ŕ else if T="int" then Z ŕ else Œ
 |.lst _=>if T="tuple" then Z ŕ else if T="list" then Z Ŕ else Œ
 |_=>Œ
end
structure SteadyD(K:Â)(J:It)(Φ:Hp)(ds:List D):Prop where
 go:∀i H,Same Φ H->i<ds.length->J.go i H
 yl:∀i Φ2 H x H2 d,Same Φ Φ2->Same Φ2 H->ds[i]?=Z d->J.yld i H x H2->∃Φ3,Gr Φ2 H Φ3 H2/\Rp K Φ3 d x
 stop:∀H,Same Φ H->J.stop ds.length H
section
variable{K:Â}{Φ:Hp}{ds es:Y D}{vs c:Y V}{a:Addr}
theorem xr(h:SqL K Φ a vs)(r:RpL K Φ ds vs):SteadyD K (oC K a) Φ ds:=
 ⟨λi H s j=>⟨vs,vs[i]'(by rw[r.1];show j),s.seq h,bB _⟩,λi f H x l d g s hd y=>by
  let⟨e,y⟩:=y;subst e
  show⟨f,.refl s,(r.2 i x d (y vs ((g.trans s).seq h)) hd).same g⟩,λH s=>⟨vs,s.seq h,by rw[r.1];show Hr _⟩⟩
theorem A5(h:SqT K Φ a vs)(r:RpL K Φ ds vs):SteadyD K (qm K a) Φ ds:=
 ⟨λi H s j=>⟨vs,vs[i]'(by rw[r.1];show j),s.sqt h,bB _⟩,λi f H x l d g s hd y=>by
  let⟨e,y⟩:=y;subst e
  show⟨f,.refl s,(r.2 i x d (y vs ((g.trans s).sqt h)) hd).same g⟩,λH s=>⟨vs,s.sqt h,by rw[r.1];show Hr _⟩⟩
noncomputable def cp(lo:Int)(n:Nat):Y D:=(List.range n).map λi=>D.int (lo+(i:Nat))
theorem fm(lo:Int)(n:Nat):(cp lo n).length=n:=by unfold cp;simp
theorem gQ{lo:Int}{n i:Nat}{d:D}(h:(cp lo n)[i]?=Z d):i<n/\d=.int (lo+(i:Nat)):=by
 have e:i<n:=by have:=aB h;rwa [fm]at this
 unfold cp at h;rw[Hy,Jr e]at h;cases h;show⟨e,S⟩
theorem tF{lo:Int}{n:Nat}:SteadyD K (mZ lo n) Φ (cp lo n):=
 ⟨λi H s g=>by rw[fm]at g;show g,λi f H x h d j s hd y=>by
  let⟨e,y⟩:=y;subst e y;rw[(gQ hd).2]
  show⟨f,.refl s,.int _⟩,λH s=>by rw[fm];show Hr n⟩
noncomputable def gU(ds:Y D):Y D:=ds.zipIdx.map λp=>.tup [.int (p.2:Nat),p.1]
theorem eU(ds:Y D):(gU ds).length=ds.length:=by unfold gU;simp
theorem gu{i:Nat}{d:D}(h:(gU ds)[i]?=Z d):∃e,ds[i]?=Z e/\d=.tup [.int (i:Nat),e]:=by
 unfold gU at h;rw[Hy,List.getElem?_zipIdx]at h
 cases e:ds[i]? with
 |none=>rw[e]at h;cases h
 |some x=>rw[e]at h;cases h;show⟨x,S,by simp⟩
theorem Rp.pair{H:Hp}{t:Addr}{d e:D}{x y:V}(h:H t=Z (.tup [x,y]))(f:Rp K H d x)(g:Rp K H e y):Rp K H (.tup [d,e]) (.ref t):=(RpL.cons f (.one g)).tup h
theorem Em{b:Bool}(h:SqB K b Φ a vs)(r:RpL K Φ ds vs):SteadyD K (nD K b a) Φ (gU ds):=
 ⟨λi H s f=>by rw[eU]at f;show⟨vs,vs[i]'(by rw[r.1];show f),SqB.same s h,bB _⟩,λi p H x u d g s hd y=>by
  let⟨t,v,hn,e,j,y⟩:=y;subst e j;let⟨e,l,rfl⟩:=gu hd;have o:=(r.2 i v e (y vs (SqB.same (g.trans s) h)) l).same (g.trans (cY (s.free hn) (.tup [.int i,v])))
  show⟨_,.new s hn _,.pair bg (.int _) o⟩,λH s=>by rw[eU];show⟨vs,SqB.same s h,by rw[r.1];show Hr _⟩⟩
noncomputable def fk(ds es:Y D):Y D:=List.zipWith (λx y=>.tup [x,y]) ds es
theorem oS(ds es:Y D):(fk ds es).length=min ds.length es.length:=by unfold fk;simp
theorem uV{i:Nat}{d:D}(h:(fk ds es)[i]?=Z d):∃x y,ds[i]?=Z x/\es[i]?=Z y/\d=.tup [x,y]:=by
 unfold fk at h;rw[JC]at h
 cases e:ds[i]? with
 |none=>rw[e]at h;cases h
 |some x=>
  cases f:es[i]? with
  |none=>rw[e,f]at h;cases h
  |some y=>rw[e,f]at h;cases h;show⟨x,y,S,S,S⟩
theorem AH{o r:Bool}{a1 a2:Addr}(f:SqB K o Φ a1 vs)(g:SqB K r Φ a2 c)(h:RpL K Φ ds vs)(j:RpL K Φ es c):SteadyD K (pf K o a1 r a2) Φ (fk ds es):=
 ⟨λi H s z=>by
  rw[oS]at z
  have C:i<vs.length:=by rw[h.1];omega
  have E:i<c.length:=by rw[j.1];omega
  show⟨vs,c,vs[i],c[i],SqB.same s f,SqB.same s g,bB C,bB E⟩,λi I H x J d l s hd y=>by
  let⟨t,u,v,hn,e,w,F,G⟩:=y;subst e w;let⟨p,q,A,B,rfl⟩:=uV hd;have sn:=l.trans (cY (s.free hn) (.tup [u,v]))
  show⟨_,.new s hn _,.pair bg ((h.2 i u p (F vs (SqB.same (l.trans s) f)) A).same sn) ((j.2 i v q (G c (SqB.same (l.trans s) g)) B).same sn)⟩,λH s=>by
  rw[oS]
  show⟨vs,c,SqB.same s f,SqB.same s g,by rw[h.1,j.1];omega⟩⟩
end
inductive lI(K:Â)(t:aM)(σ:St)(H:Hp)(R':It->Hp->Prop):Prop|mk (H0:Hp) (Φ:Hp) (ρ:bq) (R:List D->Prop) (_:EnvD K H0 Φ H σ ρ) (_:t ρ R) (_:∀ds Φ' H' J,R ds->Gr Φ H Φ' H'->SteadyD K J Φ' ds->R' J H')
structure PID(K:Â)(X:Cx)(tg e:Ã)(t:aM):Prop where pi:X.K=K->PI X tg e (lI K t)
theorem PI.imp{X:Cx}{f e:Ã}{t t':TI}(h:PI X f e t)(k:∀c H R,t' c H R->t c H R):PI X f e t':=λa s c H R I g=>h a s c H R I (k c H R g)
section
variable{K:Â}{X:Cx}{l e a:Ã}{es:Y Ã}{c p:Õ}{t:TD}{f:aM}
theorem tW{es:Y Ã}{k:Nat}{t:e6}{n:Nat}(j:X.K=K)(o:X.calm=Ŕ)(h:PGs X es t)(hn:(Æ es X.env).length=n)(g:(Æ es X.env).findIdx? (·.1)=Œ):PG X (.Tuple es k c) (pN K n t):=j▸vf o h hn g
theorem tG{es:Y Ã}{k:Nat}{t:e6}{n:Nat}(j:X.K=K)(o:X.calm=Ŕ)(h:PGs X es t)(hn:(Æ es X.env).length=n)(g:(Æ es X.env).findIdx? (·.1)=Œ):PG X (.Tuple es k c) (oX K n t):=j▸Gy o h hn g
noncomputable def Dt(t:aM):aM:=λρ R=>t ρ λds=>match ds with| [.int j]=>(-(2^62)<=j/\j<2^62)/\R (cp 0 j.toNat)|_=>False
theorem RpL.one_inv{Φ:Hp}{d:D}{vs:Y V}(h:RpL K Φ [d] vs):∃v,vs=[v]/\Rp K Φ d v:=by
 let⟨j,g⟩:=h
 match vs,j,g with
 | [v],_,g=>show⟨v,S,g 0 v d S S⟩
theorem RpL.two_inv{Φ:Hp}{d e:D}{vs:Y V}(h:RpL K Φ [d,e] vs):∃v w,vs=[v,w]/\Rp K Φ d v/\Rp K Φ e w:=by
 let⟨j,g⟩:=h
 match vs,j,g with
 | [v,w],_,g=>show⟨v,w,S,g 0 v d S S,g 1 w e S S⟩
theorem iY(z:Gl X "range")(A:X.mg "range"=Œ)(y:PAD K X [a] f)(B:starEach [a] X.env=[(ŕ,eval a X.env)]:=by rfl):PID K X l (.Call (.Name "range" p) [a] [] c) (Dt f):=
 ⟨λx=>(uE z A (y.pa x) B).imp λI H G w=>by let⟨o,Φ,ρ,R,E,t,k⟩:=w;show⟨o,Φ,ρ,_,E,t,λds h u vs r g F _=>by
  match ds,r with
  | [.int j],r=>
   let⟨v,rfl,C⟩:=F.one_inv;obtain rfl:=C.i
   show⟨j,S,r.1.1,r.1.2,k _ h u _ r.2 g tF⟩⟩⟩
end
noncomputable abbrev cR:=D->bq->(bq->Prop)->Prop
noncomputable abbrev ft:=Y D->bq->(bq->Prop)->Prop
inductive lG(K:Â)(g:cR)(v:V)(σ:St)(H:Hp)(Q:St->Hp->Prop):Prop|mk (H0:Hp) (Φ:Hp) (ρ:bq) (d:D) (R:bq->Prop) (_:EnvD K H0 Φ H σ ρ) (_:Rp K Φ d v) (_:g d ρ R) (_:∀ρ' σ',R ρ'->EnvD K H0 Φ H σ' ρ'->Q σ' H)
inductive lGs(K:Â)(g:ft)(vs:List V)(σ:St)(H:Hp)(Q:St->Hp->Prop):Prop|mk (H0:Hp) (Φ:Hp) (ρ:bq) (ds:List D) (R:bq->Prop) (_:EnvD K H0 Φ H σ ρ) (_:RpL K Φ ds vs) (_:g ds ρ R) (_:∀ρ' σ',R ρ'->EnvD K H0 Φ H σ' ρ'->Q σ' H)
structure PGD(K:Â)(X:Cx)(e:Ã)(g:cR):Prop where pg:X.K=K->PG X e (lG K g)
structure PGDs(K:Â)(X:Cx)(es:List Ã)(g:ft):Prop where pg:X.K=K->PGs X es (lGs K g)
theorem PG.imp{X:Cx}{e:Ã}{t t':TG}(h:PG X e t)(k:∀v c H Q,t' v c H Q->t v c H Q):PG X e t':=λa s c H v u Q I r f=>h a s c H v u Q I r (k v c H Q f)
theorem PGs.imp{X:Cx}{e:Y Ã}{t t':e6}(h:PGs X e t)(k:∀v c H Q,t' v c H Q->t v c H Q):PGs X e t':=λa s c H v u Q I r f=>h a s c H v u Q I r (k v c H Q f)
section
variable{K:Â}{X:Cx}{e:Ã}{es:Y Ã}{a:Õ}{g:cR}{gs:ft}
noncomputable def pV(i:Nat):cR:=λd ρ R=>R (ρ.set i (Z (.v d)))
theorem bf{i:Nat}{x:Str}(f:X.N.Nodup)(j:X.N[i]?=Z x)(l:dA X.env.scope x)(h:X.fn x=Ŕ\/X.env.scope.names.lookup x=Z .local:=by nofun):PGD K X (.Name x a) (pV i):=
 ⟨λ_=>(j6 f j l h).imp λv p H Q c=>by let⟨o,Φ,ρ,d,R,E,r,g,k⟩:=c;show k _ _ g (E.set r i)⟩
noncomputable def oz:ft:=λds ρ R=>match ds with| []=>R ρ|_=>False
noncomputable def lh(t:cR)(u:ft):ft:=λds ρ R=>match ds with|d::r=>t d ρ λc=>u r c R| []=>False
theorem fg:PGDs K X [] oz:=⟨λ_=>pgs_nil.imp λv h H Q c=>by
 let⟨f,Φ,ρ,ds,R,E,r,g,k⟩:=c
 cases ds with
 |nil=>show⟨Je.mp r.1,k _ _ g E⟩
 |cons=>show g.elim⟩
theorem cb(p:PGD K X e g)(w:PGDs K X es gs)(y:(Æ (e::es) X.env).map (·.2)=assign e X.env::(Æ es X.env).map (·.2):=by rfl):PGDs K X (e::es) (lh g gs):=
 ⟨λj=>(ky (p.pg j) (w.pg j) y).imp λvs B H Q o=>by
  let⟨h,Φ,ρ,ds,R,E,r,g,k⟩:=o
  cases ds with
  |nil=>show g.elim
  |cons d ds=>
   cases vs with
   |nil=>show absurd r.1 (by simp)
   |cons v vs=>
    refine⟨v,vs,S,h,Φ,ρ,d,_,E,r.2 0 v d S S,g,λc A g' l=>⟨h,Φ,c,ds,R,l,⟨by have:=r.1;simpa using this,λi u f z x=>r.2 (i+1) u f z x⟩,g',k⟩⟩⟩
end
noncomputable def fi(cap:Y (œ Nat))(ρ:bq):bq:=cap.map λo=>o.bind λi=>(ρ[i]?).join
theorem oa{a:Type}{o:œ (œ a)}{x:a}(h:o.join=Z x):o=Z (Z x):=by
 cases o with
 |none=>cases h
 |some o=>cases o with
  |none=>cases h
  |some y=>cases h;rfl
theorem ju{a:Type}{cap:Y (œ Nat)}{l:Y (œ a)}{i:Nat}{x:a}(h:(cap.map λo=>o.bind λi=>(l[i]?).join)[i]?=Z (Z x)):∃j,cap[i]?=Z (Z j)/\l[j]?=Z (Z x):=by
 rw[Hy]at h
 cases e:cap[i]? with
 |none=>rw[e]at h;cases h
 |some o=>
  rw[e]at h
  cases o with
  |none=>cases h
  |some j=>show⟨j,S,oa (by simpa using h)⟩
theorem EnvD.cap{K:Â}{o Φ H:Hp}{f:St}{ρ:bq}{cap:Y (œ Nat)}(E:EnvD K o Φ H f ρ)(inj:∀i j k:Nat,cap[i]?=Z (Z k)->cap[j]?=Z (Z k)->i=j):EnvD K o Φ H (dZ cap f) (fi cap ρ):=by
 have st:∀{i j:Nat}{v:V},cap[i]?=Z (Z j)->f[j]?=Z (Z v)->(dZ cap f)[i]?=Z (Z v):=λg l=>by unfold dZ;rw[Hy,g];simp[l]
 have y:∀{i j:Nat}{v:V},cap[i]?=Z (Z j)->(dZ cap f)[i]?=Z (Z v)->f[j]?=Z (Z v):=λg l=>by let⟨x,a,c⟩:=ju l;rw[g]at a;cases a;show c
 refine⟨E.fz,by unfold dZ fi;simp,λi d h=>?_,λi ds h=>?_,λi j ds es p A B si C=>?_,E.tb⟩
 ·let⟨j,a,c⟩:=ju h;let⟨v,e,r⟩:=E.sl j d c;show⟨v,st a e,r⟩
 ·let⟨j,a,c⟩:=ju h;let⟨p,vs,e,q⟩:=E.ow j ds c;show⟨p,vs,st a e,q⟩
 ·let⟨w,a,c⟩:=ju A;let⟨x,u,z⟩:=ju B;have:=E.ne w x ds es p c z (y a si) (y u C);subst this;show inj i j w a u
structure GK(k:Nat)(g:cR):Prop where p:∀d ρ R,g d ρ R->g d ρ λρ1=>ρ1.length=ρ.length/\ρ1.drop k=ρ.drop k/\R ρ1
structure GKs(k:Nat)(g:ft):Prop where p:∀ds ρ R,g ds ρ R->g ds ρ λρ1=>ρ1.length=ρ.length/\ρ1.drop k=ρ.drop k/\R ρ1
theorem Gh{k i:Nat}(h:i<k):GK k (pV i):=⟨λd ρ R r=>⟨by simp,by rw[List.drop_set_of_lt h],r⟩⟩
theorem xE{k:Nat}:GKs k oz:=⟨λds ρ R r=>by
 cases ds with
 |nil=>show⟨S,S,r⟩
 |cons=>show r⟩
theorem BU{t:cR}{u:ft}(c:∀d ρ R a,(∀x,R x->a x)->t d ρ R->t d ρ a)(e:∀d ρ R a,(∀x,R x->a x)->u d ρ R->u d ρ a):∀d ρ R a,(∀x,R x->a x)->lh t u d ρ R->lh t u d ρ a:=by
 intro ds ρ R a h r
 cases ds with
 |nil=>show r
 |cons d ds=>show c d ρ _ _ (λx f=>e ds x _ _ h f) r
structure GM(k:Nat)(g:cR):Prop where
 k:GK k g
 m:∀d ρ R R',(∀x,R x->R' x)->g d ρ R->g d ρ R'
structure GMs(k:Nat)(g:ft):Prop where
 k:GKs k g
 m:∀d ρ R R',(∀x,R x->R' x)->g d ρ R->g d ρ R'
theorem bI{k i:Nat}(h:i<k):GM k (pV i):=⟨Gh h,λd ρ R a h r=>h _ r⟩
theorem jC{k:Nat}:GMs k oz:=⟨xE,λds ρ R a h r=>by
 cases ds with
 |nil=>show h _ r
 |cons=>show r⟩
theorem fL{k:Nat}{t:cR}{u:ft}(a:GM k t)(c:GMs k u):GMs k (lh t u):=⟨⟨λds ρ R r=>by
 cases ds with
 |nil=>show r
 |cons d ds=>
  have h:t d ρ λf=>u ds f R:=r;refine a.m _ _ _ _ (λg q=>?_) (a.k.p d ρ _ h)
  show c.m _ _ _ _ (λj e=>⟨e.1.trans q.1,e.2.1.trans q.2.1,e.2.2⟩) (c.k.p ds g R q.2.2)⟩,BU a.m c.m⟩
noncomputable def qd:b9:=λ_ R=>R Ŕ
structure PIfD(K:Â)(X:Cx)(ifs:List Ã)(t:b9):Prop where p:X.K=K->iG X ifs (lT K t)
theorem qP{K:Â}{X:Cx}:PIfD K X [] qd:=⟨λ_ a s e H Q I c=>by let⟨f,Φ,ρ,R,E,t,k⟩:=c;show vb a s e H Q I (k Ŕ Φ H t (.refl E.fz))⟩
theorem iK{K:Â}{X:Cx}{c:Ã}{t:b9}(h:PTD K X c t):PIfD K X [c] t:=⟨λa=>xc (h.pt a)⟩
theorem EnvD.side{K:Â}{a Φ H:Hp}{f:St}{ρ:bq}{p:Addr}{o u:HO}(E:EnvD K a Φ H f ρ)(g:a p=Z u)(hn:Φ p=Œ):EnvD K a Φ (am H p o) f ρ:=
 ⟨λb w e=>by rw[aS (da e hn)];show E.fz b w e,E.len,E.sl,λi ds h=>by
  let⟨q,vs,e,c,j,l,r⟩:=E.ow i ds h
  show⟨q,vs,e,c,j,by rw[aS λz=>by rw[z,g]at c;cases c];show l,r⟩,E.ne,E.tb⟩
theorem EnvD.base{K:Â}{a Φ H:Hp}{f:St}{ρ:bq}{p:Addr}{u:HO}(E:EnvD K a Φ H f ρ)(g:H p=Œ):EnvD K (am a p u) Φ H f ρ:=
 ⟨E.fz,E.len,E.sl,λi ds h=>by
  let⟨q,vs,e,j,l,c,o⟩:=E.ow i ds h
  show⟨q,vs,e,by rw[aS (da c g)];show j,l,c,o⟩,E.ne,E.tb⟩
noncomputable def mB(h:aM)(cap:Y (œ Nat))(g:cR)(e:b9)(f:TD):aM:=λρ R=>h ρ λds=>ds.length<sizeLine/\∃P:Nat->œ D->Prop,
 (∀i d,ds[i]?=Z d->g d (fi cap ρ) λa=>e a λb=>(b=Ŕ->f a λy=>P i (Z y))/\(b=ŕ->P i Œ))/\∀c:Y (œ D),c.length=ds.length->(∀i y,c[i]?=Z y->P i y)->R (c.filterMap id)
theorem zH(a:Y (œ D))(y:D):(a++[Z y]).filterMap id=a.filterMap id++[y]:=by simp
theorem xb(a:Y (œ D)):(a++[Œ]).filterMap id=a.filterMap id:=by simp
theorem GJ(a:Y (œ D)):(a.filterMap id).length<=a.length:=List.length_filterMap_le _ _
theorem fB{g:Type}{f:Y g}{y:g}{P:Nat->g->Prop}{n:Nat}(o:f.length=n)(h:∀i z,f[i]?=Z z->P i z)(l:P n y):∀i z,(f++[y])[i]?=Z z->P i z:=by
 intro i z a;rcases Ik i f.length with c|c
 ·rw[Hk c]at a;show h i z a
 ·rw[Hl c]at a
  have j:i-f.length=0:=by
   rcases Nat.eq_zero_or_pos (i-f.length)with e|e
   ·show e
   ·rw[Ib (by simp only[HD,IZ];omega)]at a;cases a
  rw[j]at a;cases a
  have:i=n:=by omega
  subst this;show l
noncomputable def fP(k:Nat)(cap:Y (œ Nat)):Bool:=(cap.take k).all (·.isNone)&&decide ((cap.filterMap id).Nodup)
theorem GL{k:Nat}{cap:Y (œ Nat)}(h:fP k cap=Ŕ){i:Nat}(a:i<k){o:œ Nat}(e:cap[i]?=Z o):o=Œ:=by
 unfold fP at h;rw[IW]at h;have:=Jb.mp h.1 o (Hu (i:=i) (by rw[JJ a];show e))
 cases o with
 |none=>rfl
 |some _=>cases this
theorem wE{k:Nat}{cap:Y (œ Nat)}(h:fP k cap=Ŕ):∀i j n:Nat,cap[i]?=Z (Z n)->cap[j]?=Z (Z n)->i=j:=by
 unfold fP at h;rw[IW]at h;have nd:=IM h.2;clear h
 induction cap with
 |nil=>intro i j n a;simp at a
 |cons o cap l=>
  intro i j n a c
  have g:(cap.filterMap id).Nodup:=by
   cases o with
   |none=>simpa using nd
   |some m=>have e : (Z m :: cap).filterMap id = m :: cap.filterMap id:= rfl
            rw [e]at nd; show (HS.mp nd).2
  have one:∀{i:Nat},o=Z n->cap[i]?=Z (Z n)->False:=λ{i} ho f=>by
   subst ho;have e:(Z n::cap).filterMap id=n::cap.filterMap id:=rfl;rw[e]at nd;show (HS.mp nd).1 (JP.mpr ⟨Z n,Hu f,S⟩)
  cases i with
  |zero=>cases j with
   |zero=>rfl
   |succ j=>show (one (by simpa using a) (by simpa using c)).elim
  |succ i=>cases j with
   |zero=>show (one (by simpa using c) (by simpa using a)).elim
   |succ j=>show Il Nat.succ (l g i j n (by simpa using a) (by simpa using c))
section
variable{K:Â}{X:Cx}{w a r:Ã}{F:Y Ã}{scope:â}{B:Õ}{N':Y Str}{cap:Y (œ Nat)}{l:aM}{g:cR}{A:b9}{f:TD}
theorem ud{k:Nat}(Md:fP k cap=Ŕ)(hk:GM k g){σ:St}{H:Hp}{Q:VK}{a_ Φ:Hp}{ρ:bq}{R W:Y D->Prop}(E:EnvD K a_ Φ H σ ρ)(t:l ρ W)
  (conv:∀ds,W ds->ds.length<sizeLine/\∃P:Nat->œ D->Prop,(∀i d,ds[i]?=Z d->g d (fi cap ρ) λz=>A z λb=>(b=Ŕ->f z λy=>P i (Z y))/\(b=ŕ->P i Œ))/\∀C:Y (œ D),C.length=ds.length->(∀i y,C[i]?=Z y->P i y)->R (C.filterMap id))
  (kk:∀ds h I p vs,R ds->Gr Φ H h I->H p=Œ->h p=Œ->I p=Z (.lst vs)->RpL K h ds vs->Q (.ref p) I):gz (lI K l) cap (lG K g) (lT K A) (lE K f) σ H Q:=by
 refine⟨a_,Φ,ρ,W,E,t,λds L H1 J hW g1 b_ G hD=>?_⟩
 let⟨hlen,P,hp,hr⟩:=conv ds hW
 have E1:=E.gr g1;have Qh:L G=Œ:=g1.s.free hD;have C0:EnvD K (am a_ G (.lst [])) L (am H1 G (.lst [])) (dZ cap σ) (fi cap ρ):=((E1.base (u:=.lst []) hD).side (o:=.lst []) bg Qh).cap (wE Md);refine⟨λi m σ' I=>m=ds.length-i/\i<=ds.length/\∃(h:Hp)(vs:Y V)(C:Y (œ D)),EnvD K (am a_ G (.lst [])) h I σ' (fi cap ρ)/\Gr L H1 h I/\h G=Œ/\I G=Z (.lst vs)/\RpL K h (C.filterMap id) vs/\C.length=i/\∀j y,C[j]?=Z y->P j y,⟨ds.length,by simp,Jx _,L,[],[],C0,.fresh g1.s hD _,Qh,bg,.nil,S,λj y hj=>by simp at hj⟩,?_⟩;rintro i m σ' I ⟨rfl,hi,h,vs,C,Ei,M,QH,Pa,Ml,Mz,hy⟩;by_cases Ma:i<ds.length
 ·refine .inr ⟨b_.go i I (M.f.trans M.s) Ma,λσ2 be=>∃(h:Hp)(vs:Y V)(C:Y (œ D)),EnvD K (am a_ G (.lst [])) h be σ2 (fi cap ρ)/\Gr L H1 h be/\h G=Œ/\be G=Z (.lst vs)/\RpL K h (C.filterMap id) vs/\C.length=i+1/\∀j y,C[j]?=Z y->P j y,λσ2 be h2=>⟨ds.length-(i+1),(),S,Ma,h2⟩,λx be y=>?_⟩;let⟨T,N,rx⟩:=b_.yl i h I x be _ M.f M.s (bB Ma) y;have E3:=Ei.gr N;refine⟨_,T,fi cap ρ,_,_,E3,rx,hk.k.p _ _ _ (hp i _ (bB Ma)),λz σ3 LR E4=>?_⟩;let⟨M7,hd1,t1⟩:=LR
  have wk:∀(j:Nat) x,(fi cap ρ)[j]?=Z (Z x)->z[j]?=Z (Z x):=λj x hj=>by
   rcases Ik j k with c|c
   ·let⟨n,h1,_⟩:=ju hj;cases GL Md c h1
   ·have e1:(fi cap ρ)[j]?=((fi cap ρ).drop k)[j-k]?:=by rw[Kd];congr 1;omega
    have e2:z[j]?=(z.drop k)[j-k]?:=by rw[Kd];congr 1;omega
    rw[e2,hd1,←e1];show hj
  have SN:T G=Œ:=N.o _ _ Pa QH;refine⟨_,T,z,_,E4,t1,λb U H4 rb O=>?_⟩;have E5:=(E4.gr O);have PU:=O.h _ _ (N.h _ _ Pa);have hD4:U G=Œ:=O.o _ _ (N.h _ _ Pa) SN
  cases b with
  |false=>
   refine js ?_;refine⟨U,vs,C++[Œ],E5.weak M7.symm wk,(M.trans N).trans O,hD4,PU,?_,by rw[Hm,Mz];rfl,fB Mz hy (rb.2 S)⟩;rw[xb];show (Ml.same N.f).same O.f
  |true=>
   refine jx ?_;refine⟨_,U,z,_,E5,rb.1 S,λd Φ5 H5 v rd g5 rv=>?_⟩;have E6:=E5.gr g5;have SO:=g5.h _ _ PU;have SQ:Φ5 G=Œ:=g5.o _ _ PU hD4;have gg:=((M.trans N).trans O).trans g5;refine⟨vs,SO,?_,Φ5,vs++[v],C++[Z d],(E6.weak M7.symm wk).side bg SQ,?_,SQ,bg,?_,by rw[Hm,Mz];rfl,fB Mz hy rd⟩
   ·have:=GJ C;rw[Ml.1];omega
   ·show⟨gg.f,C2 gg.h hD _,λb u e=>by rw[aS (da e SQ)];show gg.s b u e,λp u hp hn k=>gg.o p u hp hn k⟩
   ·rw[zH];show (((Ml.same N.f).same O.f).same g5.f).append (.one rv)
 ·have e:i=ds.length:=by omega
  subst e;show .inl ⟨b_.stop I (M.f.trans M.s),kk _ h I G vs (hr C Mz hy) (g1.trans M) (g1.h.free hD) QH Pa Ml⟩
theorem pc{k:Nat}(e:fP k cap=Ŕ)(j:GM k g){c:St}{H:Hp}{Q:VK}(h:lF K (mB l cap g A f) c H Q):gz (lI K l) cap (lG K g) (lT K A) (lE K f) c H Q:=by let⟨p,Φ,ρ,R,E,t,o⟩:=h;show ud e j E t (λds h=>h) o
theorem lX{k:Nat}(o:X.calm=Ŕ)(Q:CompScope X.N X.env.scope scope N' cap)(p:fP k cap=Ŕ)(z:GM k g)(y:PID K X w a l)
  (v:∀(cl:Y (Str×Addr))(e:Y Addr)(C:Addr)(h:À)(c:Hp),PGD K (bH X scope N' cl C h c e) w g) (G:∀(cl:Y (Str×Addr))(e:Y Addr)(C:Addr)(h:À)(c:Hp),PIfD K (bH X scope N' cl C h c e) F A)
  (u:∀(cl:Y (Str×Addr))(e:Y Addr)(C:Addr)(h:À)(c:Hp),PD K (bH X scope N' cl C h c e) r f) (E:∀x,Ë a X.env x=pure x:=by intro _;rfl):PF K X (.ListComp r [⟨w,a,F,0⟩] scope B) (mB l cap g A f):=
 ⟨λj=>(sE o Q (y.pi j) (λcl e C h c=>(v cl e C h c).pg j) (λcl e C h c=>(G cl e C h c).p j) (λcl e C h c=>(u cl e C h c).pe j) E).imp λ_ _ _=>pc p z⟩
noncomputable def nZ(l:aM)(cap:Y (œ Nat))(g:cR)(f:TD):aM:=λρ R=>l ρ λds=>ds.length<sizeLine/\∃P:Nat->D->Prop,
 (∀i d,ds[i]?=Z d->g d (fi cap ρ) λe=>f e (P i))/\∀c:Y D,c.length=ds.length->(∀i y,c[i]?=Z y->P i y)->R c
noncomputable def yZ(P:Nat->D->Prop):Nat->œ D->Prop:=λi o=>match o with|some y=>P i y|none=>False
theorem uL{P:Nat->D->Prop}:∀(c:Y (œ D)),(∀(i:Nat) y,c[i]?=Z y->∃z,y=Z z)->∃e:Y D,c=e.map Z
 | [],_=>⟨[],S⟩
 |y::c,h=>by let⟨z,rfl⟩:=h 0 y S;let⟨e,rfl⟩:=uL (P:=P) c λi y j=>h (i+1) y j;show⟨z::e,S⟩
theorem DE{ds:Y D}{ρ:bq}{R:Y D->Prop}(h:ds.length<sizeLine/\∃P:Nat->D->Prop,(∀i d,ds[i]?=Z d->g d (fi cap ρ) λc=>f c (P i))/\∀j:Y D,j.length=ds.length->(∀i y,j[i]?=Z y->P i y)->R j){k:Nat}(C:GM k g) :
  ds.length<sizeLine/\∃P:Nat->œ D->Prop,(∀i d,ds[i]?=Z d->g d (fi cap ρ) λc=>qd c λb=>(b=Ŕ->f c λy=>P i (Z y))/\(b=ŕ->P i Œ))/\∀j:Y (œ D),j.length=ds.length->(∀i y,j[i]?=Z y->P i y)->R (j.filterMap id):=by
 let⟨u,P,v,x⟩:=h;refine⟨u,yZ P,λi d hd=>C.m _ _ _ _ (λc q=>⟨λ_=>q,λe=>by cases e⟩) (v i d hd),λj E p=>?_⟩
 let⟨o,rfl⟩:=uL (P:=P) j λi y e=>by
  have:=p i y e
  cases y with
  |none=>show this.elim
  |some z=>show⟨z,S⟩
 rw[K1]
 have e:o.filterMap (id ∘ Z)=o:=by simp
 rw[e];refine x o (by simpa using E) λi y e=>?_;show p i (Z y) (by rw[Hy,e];rfl)
theorem vj{k:Nat}(j:fP k cap=Ŕ)(c:GM k g){e:St}{H:Hp}{Q:VK}(h:lF K (nZ l cap g f) e H Q):gz (lI K l) cap (lG K g) (lT K qd) (lE K f) e H Q:=by let⟨p,Φ,ρ,R,E,t,o⟩:=h;show ud j c E t (λds h=>DE h c) o
theorem dL{k:Nat}(o:X.calm=Ŕ)(Q:CompScope X.N X.env.scope scope N' cap)(p:fP k cap=Ŕ)(z:GM k g)(y:PID K X w a l)
  (v:∀(cl:Y (Str×Addr))(e:Y Addr)(C:Addr)(h:À)(c:Hp),PGD K (bH X scope N' cl C h c e) w g)
  (u:∀(cl:Y (Str×Addr))(e:Y Addr)(C:Addr)(h:À)(c:Hp),PD K (bH X scope N' cl C h c e) r f) (E:∀x,Ë a X.env x=pure x:=by intro _;rfl):PF K X (.ListComp r [⟨w,a,[],0⟩] scope B) (nZ l cap g f):=
 ⟨λj=>(sE o Q (y.pi j) (λcl e C h c=>(v cl e C h c).pg j) (λcl e C h c=>(qP (K:=K)).p j) (λcl e C h c=>(u cl e C h c).pe j) E).imp λ_ _ _=>vj p z⟩
end
structure EndsD where
 nx:bq->Prop
 rt:D->Prop
 bk:bq->Prop:=λ_=>False
 ct:bq->Prop:=λ_=>False
noncomputable abbrev cP:=EndsD->bq->Prop
noncomputable def pK(K:Â)(g h:Hp)(P:bq->Prop)(Q:St->Hp->Prop):Prop:=∀c a f e,P c->Gr g h a f->EnvD K h a f e c->Q e f
structure EndOk(K:Â)(Φ0 H0:Hp)(De:EndsD)(E:Ends):Prop where
 nx:pK K Φ0 H0 De.nx E.nx
 rt:∀d Φ' H' v,De.rt d->Gr Φ0 H0 Φ' H'->Rp K Φ' d v->E.rt v H'
 bk:pK K Φ0 H0 De.bk E.bk
 ct:pK K Φ0 H0 De.ct E.ct
inductive lS(K:Â)(t:cP)(E:Ends)(σ:St)(H:Hp):Prop|mk (Φ0:Hp) (H0:Hp) (Φ:Hp) (ρ:bq) (De:EndsD) (_:Gr Φ0 H0 Φ H) (_:EnvD K H0 Φ H σ ρ) (_:t De ρ) (_:EndOk K Φ0 H0 De E)
structure PSD(K:Â)(X:Cx)(st:Ç)(t:cP):Prop where ps:X.K=K->PS X st (lS K t)
structure PSsD(K:Â)(X:Cx)(st:List Ç)(t:cP):Prop where ps:X.K=K->PSs X st (lS K t)
section
variable{K:Â}{X:Cx}{st:Ç}{l:Y Ç}{t u:cP}{e a:Ã}{j:TD}{f:Õ}{o:b9}
noncomputable def wH:cP:=λc ρ=>c.nx ρ
noncomputable def wU(t u:cP):cP:=λc ρ=>t { c with nx:=u c } ρ
noncomputable def vO(t u:cP):cP:=λg ρ=>∃I:bq->Prop,t { g with nx:=I } ρ/\∀c,I c->u g c
theorem bV:PSsD K X [] wH:=⟨λ_=>pss_nil.imp λE p H c=>by let⟨h,v,Φ,ρ,r,g,V,t,k⟩:=c;show k.nx ρ Φ H p t g V⟩
theorem bp(z:PSD K X st t)(A:PSsD K X l u):PSsD K X (st::l) (wU t u):=⟨λv=>(mI (z.ps v) (A.ps v)).imp λE F H x=>by let⟨c,r,Φ,ρ,w,g,V,t,k⟩:=x;exact
 ⟨c,r,Φ,ρ,_,g,V,t,⟨λp h C B t' g' y=>⟨c,r,h,p,w,g',y,t',k⟩,k.rt,k.bk,k.ct⟩⟩⟩
theorem dD(A:PSD K X st t)(B:PSsD K X l u):PSsD K X (st::l) (vO t u):=⟨λw=>(mI (A.ps w) (B.ps w)).imp λE G H y=>by let⟨h,v,Φ,ρ,x,g,V,⟨I,t,c⟩,k⟩:=y;exact
 ⟨h,v,Φ,ρ,_,g,V,t,⟨λp r F C t' g' z=>⟨h,v,r,p,x,g',z,c p t',k⟩,k.rt,k.bk,k.ct⟩⟩⟩
theorem az(c:PSD K X st t):PSsD K X [st] t:=⟨λg=>uA (c.ps g)⟩
noncomputable def xG:cP:=λ_ _=>False
theorem w6:PSD K X st xG:=⟨λ_=>ps_never.imp λE v H c=>by let⟨h,r,Φ,ρ,p,g,V,t,k⟩:=c;show t⟩
noncomputable def kr(i:Nat)(j:TD):cP:=λc ρ=>j ρ λd=>c.nx (ρ.set i (Z (.v d)))
theorem AA{i:Nat}{E:Ends}{w:St}{H:Hp}(h:lS K (kr i j) E w H):iP (lE K j) (iQ i) E w H:=by let⟨A,x,Φ,ρ,B,g,V,t,k⟩:=h;show⟨x,Φ,ρ,_,V,t,λd c y v r p z=>k.nx _ c y _ r (g.trans p) ((V.gr p).set z i)⟩
theorem bX{i:Nat}{x:Str}{c:Õ}(h:X.N.Nodup)(v:X.N[i]?=Z x)(y:dA X.env.scope x)(p:PD K X e j)(w:Ð e (Z (.Name x c)) f.line X.env=pure ŕ:=by rfl)(r:X.fn x=Ŕ\/X.env.scope.names.lookup x=Z .local:=by nofun) :
  PSD K X (.Assign [.Name x c] e f) (kr i j):=⟨λg=>(tZ h v y (p.pe g) w r).imp λ_ _ _=>AA⟩
noncomputable def xT(j:TD):cP:=λc ρ=>j ρ c.rt
theorem aV(z:PD K X e j):PSD K X (.Return (Z e) f) (xT j):=
 ⟨λy=>(sZ (z.pe y)).imp λE F H w=>by let⟨B,h,Φ,ρ,C,g,V,t,k⟩:=w;show⟨h,Φ,ρ,_,V,t,λd c p v r x A=>k.rt d c p v r (g.trans x) A⟩⟩
noncomputable def Ah(c:b9)(t u:cP):cP:=λg ρ=>c ρ λb=>(b=Ŕ->t g ρ)/\(b=ŕ->u g ρ)
theorem bO{c:Ã}{a b:Y Ç}(C:PTD K X c o)(A:PSsD K X a t)(B:PSsD K X b u):PSD K X (.If c a b f) (Ah o t u):=
 ⟨λx=>(vc (C.pt x) (A.ps x) (B.ps x)).imp λE G H z=>by let⟨h,w,Φ,ρ,y,g,V,t,k⟩:=z;show⟨w,Φ,ρ,_,V,t,λc p F r v=>by
  cases c with
  |true=>refine jx ?_;show⟨h,w,p,ρ,y,g.trans v,V.gr v,r.1 S,k⟩
  |false=>refine js ?_;show⟨h,w,p,ρ,y,g.trans v,V.gr v,r.2 S,k⟩⟩⟩
noncomputable def Fn(j:TD)(g:cR):cP:=λc ρ=>j ρ λd=>g d ρ c.nx
theorem sw{c:Ã}{z:cR}(I:PD K X e j)(J:PGD K X c z)(L:Ö [c] e f.line X.env=pure ŕ:=by rfl)(M:Ø [c] e X.env=pure Œ:=by rfl)
  (G:(Æ [c] X.env).map (·.2)=[assign c X.env]:=by rfl):PSD K X (.Assign [c] e f) (Fn j z):=
 ⟨λA=>(jO (I.pe A) (J.pg A) L M G).imp λE R H C=>by let⟨P,x,Φ,ρ,Q,g,V,t,k⟩:=C;show⟨x,Φ,ρ,_,V,t,λd h B v r y O=>⟨x,h,ρ,d,_,V.gr y,O,r,λp w N F=>k.nx p h B w N (g.trans y) F⟩⟩⟩
noncomputable def Cv(c:b9)(tb:cP):cP:=λr ρ=>∃I:Nat->bq->Prop,(∃m,I m ρ)/\∀m g,I m g->c g λb=>(b=Ŕ->tb { r with nx:=λh=>∃p,p<m/\I p h,ct:=λh=>∃p,p<m/\I p h,bk:=r.nx } g)/\(b=ŕ->r.nx g)
theorem sR{c:Ã}{x:Y Ç}{tb:cP}(hp:ø (Ä X.prog X.w) X.A X.env X.xe)(hc:PTD K X c o)(a_:PSsD K X x tb):PSD K X (.While c x [] f) (Cv o tb):=
 ⟨λR=>(rQ hp (hc.pt R) (a_.ps R)).imp λE b_ H U=>by
  let⟨y,B,Φ,ρ,De,g,V,⟨I,⟨m,be⟩,hw⟩,k⟩:=U;refine⟨λm b_ H=>∃v p,Gr y B v H/\EnvD K B v H b_ p/\I m p,⟨m,Φ,ρ,g,V,be⟩,?_⟩;rintro m Q H' ⟨v,p,g',M,hi⟩;refine⟨B,v,p,_,M,hw m p hi,λb G T r J=>?_⟩
  cases b with
  |false=>refine js ?_;show k.nx p G T Q (r.2 S) (g'.trans J) (M.gr J)
  |true=>
   refine jx ?_;refine⟨λw F=>∃C,C<m/\∃v p,Gr y B v F/\EnvD K B v F w p/\I C p,λw F h=>h,y,B,G,p,_,g'.trans J,M.gr J,r.1 S,⟨?_,k.rt,k.nx,?_⟩⟩
   ·rintro A z F w ⟨C,P,L⟩ O N;show⟨C,P,z,A,O,N,L⟩
   ·rintro A z F w ⟨C,P,L⟩ O N
    show⟨C,P,z,A,O,N,L⟩⟩
noncomputable def CP(r:aM)(p:cR)(tb:cP):cP:=λg ρ=>r ρ λds=>∃I:Nat->bq->Prop,I 0 ρ/\(∀i d c,ds[i]?=Z d->I i c->p d c λh=>tb { g with nx:=I (i+1),ct:=I (i+1),bk:=g.nx } h)/\∀c,I ds.length c->g.nx c
theorem eT{tg z:Ã}{F:Y Ç}{ti:aM}{gd:cR}{tb:cP}(hp:ø (Ä X.prog X.w) X.A X.env X.xe)(hc:X.calm=Ŕ)(hi:PID K X tg z ti)(hg:PGD K X tg gd)(hb:PSsD K X F tb)
  (hs:∀x,Ë z X.env x=pure x:=by intro _;rfl):PSD K X (.For tg z F [] f) (CP ti gd tb):=
 ⟨λhK=>(vI hp hc (hi.pi hK) (hg.pg hK) (hb.ps hK) hs).imp λE σ H LR=>by
  let⟨a_,L,Φ,ρ,De,g,V,t,k⟩:=LR;refine⟨L,Φ,ρ,_,V,t,λds M H1 J MF g1 b_=>?_⟩;let⟨I,h0,Mn,MW⟩:=MF;refine⟨λi m σ G=>m=ds.length-i/\i<=ds.length/\∃c h,Gr a_ L c G/\Same M c/\EnvD K L c G σ h/\I i h,⟨ds.length,by simp,Jx _,M,ρ,g.trans g1,Same.refl _,V.gr g1,h0⟩,?_⟩;rintro i m σ' G ⟨rfl,hi,c,h,g',U,R,hI⟩;by_cases Ma:i<ds.length
  ·refine .inr ⟨b_.go i G (U.trans R.fz) Ma,λσ2 P=>∃c h,Gr a_ L c P/\Same M c/\EnvD K L c P σ2 h/\I (i+1) h,λσ2 P h2=>⟨ds.length-(i+1),(),S,Ma,h2⟩,λx P y=>?_⟩;let⟨N,B,rx⟩:=b_.yl i c G x P _ U R.fz (bB Ma) y;refine⟨L,N,h,_,_,R.gr B,rx,Mn i _ h (bB Ma) hI,λρ2 σ3 t2 V3=>?_⟩;refine⟨N,L,N,ρ2,_,?_,V3,t2,⟨?_,?_,?_,?_⟩⟩
   ·show⟨Same.refl _,(g'.trans B).h,B.s,λp u hp hn _=>hn⟩
   ·intro A w Q O be C T;show⟨w,A,(g'.trans B).join C,(U.trans B.f).trans C.f,T,be⟩
   ·intro d w Q v r C rv;show k.rt d w Q v r ((g'.trans B).join C) rv
   ·intro A w Q O be C T;show k.nx A w Q O be ((g'.trans B).join C) T
   ·intro A w Q O be C T;show⟨w,A,(g'.trans B).join C,(U.trans B.f).trans C.f,T,be⟩
  ·have e:i=ds.length:=by omega
   subst e
   show .inl ⟨b_.stop G (U.trans R.fz),k.nx h c G σ' (MW h hI) g' R⟩⟩
end
section
variable{K:Â}{X:Cx}{o a c e:Ã}{u:Y Ã}{scope:â}{j B F:Õ}{N':Y Str}{cap:Y (œ Nat)}{z:aM}{g:cR}{A:b9}{l:TD}{i:Nat}{y:Str}
theorem vV{tf:aM}{E:Ends}{v:St}{H:Hp}(f:∀{v:St}{H:Hp}{Q:VK},lF K tf v H Q->gz (lI K z) cap (lG K g) (lT K A) (lE K l) v H Q)(h:lS K (kr i (nK tf)) E v H):iP (gz (lI K z) cap (lG K g) (lT K A) (lE K l)) (iQ i) E v H:=by let⟨M,I,Φ,ρ,N,gg,V,t,J⟩:=h;show f ⟨I,Φ,ρ,_,V,t,λds L G p vs r w x hn C rr=>J.nx _ _ G _ r (gg.trans (w.freeze x hn C)) ((V.gr (w.freeze x hn C)).set ((rr.same (cY hn _)).lst bg) i)⟩
theorem sx{k:Nat}(w:X.calm=Ŕ)(H:X.N.Nodup)(Q:X.N[i]?=Z y)(P:dA X.env.scope y)(U:CompScope X.N X.env.scope scope N' cap)(E:fP k cap=Ŕ)(N:GM k g)(M:PID K X o a z)
  (L:∀(cl:Y (Str×Addr))(p:Y Addr)(C:Addr)(r:À)(f:Hp),PGD K (bH X scope N' cl C r f p) o g)
  (I:∀(cl:Y (Str×Addr))(p:Y Addr)(C:Addr)(r:À)(f:Hp),PD K (bH X scope N' cl C r f p) c l) (G:Ð (.ListComp c [⟨o,a,[],0⟩] scope j) (Z (.Name y B)) F.line X.env=pure Ŕ:=by rfl)
  (O:∀x,Ë a X.env x=pure x:=by intro _;rfl) (J:X.fn y=Ŕ\/X.env.scope.names.lookup y=Z .local:=by nofun) :
  PSD K X (.Assign [.Name y B] (.ListComp c [⟨o,a,[],0⟩] scope j) F) (kr i (nK (nZ z cap g l))):=
 ⟨λv=>(lv w H Q P U (M.pi v) (λcl p C r f=>(L cl p C r f).pg v) (λcl p C r f=>(qP (K:=K)).p v) (λcl p C r f=>(I cl p C r f).pe v) G O J).imp λ_ _ _ h=>vV (λq=>vj E N q) h⟩
theorem rc{k:Nat}(w:X.calm=Ŕ)(H:X.N.Nodup)(R:X.N[i]?=Z y)(Q:dA X.env.scope y)(U:CompScope X.N X.env.scope scope N' cap)(E:fP k cap=Ŕ)(N:GM k g)(M:PID K X o a z)
  (L:∀(cl:Y (Str×Addr))(p:Y Addr)(C:Addr)(r:À)(f:Hp),PGD K (bH X scope N' cl C r f p) o g) (P:∀(cl:Y (Str×Addr))(p:Y Addr)(C:Addr)(r:À)(f:Hp),PIfD K (bH X scope N' cl C r f p) u A)
  (I:∀(cl:Y (Str×Addr))(p:Y Addr)(C:Addr)(r:À)(f:Hp),PD K (bH X scope N' cl C r f p) c l) (G:Ð (.ListComp c [⟨o,a,u,0⟩] scope j) (Z (.Name y B)) F.line X.env=pure Ŕ:=by rfl)
  (O:∀x,Ë a X.env x=pure x:=by intro _;rfl) (J:X.fn y=Ŕ\/X.env.scope.names.lookup y=Z .local:=by nofun) :
  PSD K X (.Assign [.Name y B] (.ListComp c [⟨o,a,u,0⟩] scope j) F) (kr i (nK (mB z cap g A l))):=
 ⟨λv=>(lv w H R Q U (M.pi v) (λcl p C r f=>(L cl p C r f).pg v) (λcl p C r f=>(P cl p C r f).p v) (λcl p C r f=>(I cl p C r f).pe v) G O J).imp λ_ _ _ h=>vV (λq=>pc E N q) h⟩
noncomputable def qU(i:Nat)(f:Int->Int->Int)(l:TD):cP:=λh ρ=>match ρ[i]? with|some (Z (.v (.int n)))=>l ρ λd=>(match d with|.int m=>h.nx (ρ.set i (Z (.v (.int (f n m)))))|_=>False)|_=>False
theorem GT{x:Str}{J:ë}{f:Int->Int->Int}{h:Õ}(i:Nat)(O:jZ X J (qh f))(R:X.N.Nodup)(U:X.N[i]?=Z x)(be:dA X.env.scope x)(b_:PD K X e l)
  (T:X.fn x=Ŕ\/X.env.scope.names.lookup x=Z .local:=by nofun):PSD K X (.AugAssign (.Name x h) J e j) (qU i f l):=
 ⟨λQ=>(Db R U be (b_.pe Q) O T).imp λE σ H N=>by
  let⟨a_,L,Φ,ρ,De,g,V,t,k⟩:=N;unfold qU at t;split at t
  ·next n ho=>
   let⟨v,P,r⟩:=V.sl i _ ho;obtain rfl:=r.i;refine⟨_,P,L,Φ,ρ,_,V,t,λd G M w p I C=>?_⟩;let⟨m,rfl,p⟩:=ix p;obtain rfl:=C.i;show⟨n,m,S,S,k.nx _ G M _ p (g.trans I) ((V.gr I).set (.int _) i)⟩
  ·show t.elim⟩
end
noncomputable def jL(N:Y Str)(ds:Y D):bq:=ds.map (λd=>Z (.v d))++List.replicate (N.length-ds.length) Œ
theorem By{K:Â}{Φ H:Hp}{N:Y Str}{ds:Y D}{vs:Y V}(sm:Same Φ H)(tb:TabF K Φ)(r:RpL K Φ ds vs):EnvD K H Φ H (eo N vs) (jL N ds):=by
 have own:∀{i:Nat}{x:Sl},(jL N ds)[i]?=Z (Z x)->∃d,ds[i]?=Z d/\x=.v d:=λ{i x} h=>by
  unfold jL at h;rcases Ik i (ds.map λd=>Z (Sl.v d)).length with c|c
  ·rw[Hk c,Hy]at h
   cases e:ds[i]? with
   |none=>rw[e]at h;cases h
   |some d=>rw[e]at h;cases h;show⟨d,S,S⟩
  ·rw[Hl c,Jp]at h;split at h
   ·cases h
   ·cases h
 refine⟨sm,by unfold eo jL;simp[r.1],λi d h=>?_,λi es h=>?_,λi j es fs p h=>?_,tb⟩
 ·let⟨d',f,a⟩:=own h;cases a;let⟨v,g,l⟩:=r.at f;refine⟨v,?_,l⟩;unfold eo;rw[Hk (by rw[Hj];show aB g),Hy,g];rfl
 ·let⟨d',f,a⟩:=own h;cases a
 ·let⟨d',f,a⟩:=own h;cases a
section
variable{P:Å}{w:È}{K:Â}{mg:Str->œ Value}{base:Heap}
theorem Fun.okD{x qual:Str}{st:Ç}{f:Addr}{e:Ì}{N ps:Y Str}{k:Nat}{sp:cg}(F:Fun K x qual st f e)(U:FnScope N ps (ar st))(len:∀ds R,sp ds R->ds.length=ps.length)
  (o:∀(a:Value)(A:Ê)(outer:Y ì)(s:À)(H:Hp)(E:XK)(ds:Y D)(R:D->Prop),Room k (A.deeper (ê qual (ar st) s.heap.objs.size f a))->sp ds R->
   ∃t,PSsD K (gJ aD P w K mg base N qual (ar st) f a A outer s H E).nox (fY st) t/\t { nx:=λ_=>R .non,rt:=R } (jL N ds)):FnOk P w K mg base aD (k+1) f e ps (lSp K sp):=by
 refine F.ok U (λvs H Q E ⟨Φ,ds,R,sm,tb,rl,h,_⟩=>by rw[rl.1];show len ds R h) (λa A outer s H vs Q E u ⟨Φ,ds,R,sm,tb,rl,h,j⟩=>?_);let⟨t,v,p⟩:=o a A outer s H E ds R u h;show⟨lS K t,v.ps S,Φ,H,Φ,jL N ds,_,.refl sm,By sm tb rl,p,⟨λy c l z r g V=>j .non c l .non r g .non,j,λ_ _ _ _ h=>h.elim,λ_ _ _ _ h=>h.elim⟩⟩
end
noncomputable def uP(K:Â)(b:Bool)(a:Addr):It:=match b with|true=>oC K a|false=>qm K a
section
variable{K:Â}{X:Cx}{z e a b:Ã}{es:Y Ã}{f p B:Õ}{t A:TD}{j:aM}
theorem yh{l:Ã}{j:TE}(G:X.K=K)(L:PE X l j):PI X z l (λw H R=>j w H λx r=>∃q a,x=.ref a/\(∃xs,SqB K q r a xs)/\R (uP K q a) r):=by
 subst G;intro g s w H R I h;refine ax (L g s w H _ I h) λv c F=>?_;let⟨x,r,u,O,N⟩:=F;let⟨bb,a,e,⟨xs,E⟩,q⟩:=N;subst e;cases O
 have C:∀b∈[c.heap.objs.size],dR X g r b:=λb J=>by
  have e:b=c.heap.objs.size:=by simpa using J
  subst e;show u.fpOk (Hr _) (u.hok.fresh (Hr _))
 cases bb with
 |true=>
  let⟨y,P,p,M⟩:=u.list E;refine K8 p.isList ?_;show⟨c.heap.objs.size,[c.heap.objs.size],_,_,r,S,u.kept (t':=c.toks) λb o e=>Ho _ e,Ea a _,⟨_,HC _ S,S,S⟩,C,q⟩
 |false=>
  let⟨y,P,p,M⟩:=u.tuple E;refine JS (show c.heap.IsTuple a y.toArray from p) ?_;show⟨c.heap.objs.size,[c.heap.objs.size],_,_,r,S,u.kept (t':=c.toks) λb o e=>Ho _ e,z9 a _,⟨_,HC _ S,S,S⟩,C,q⟩
theorem zX{Φ:Hp}{ds:Y D}{vs:Y V}{a:Addr}{q:Bool}(h:SqB K q Φ a vs)(r:RpL K Φ ds vs):SteadyD K (uP K q a) Φ ds:=by
 cases q with
 |true=>show xr h r
 |false=>show A5 h r
noncomputable def EW(t:TD):aM:=λρ R=>t ρ λd=>match d with|.lst ds=>R ds|.tup ds=>R ds|.fzl ds=>R ds|_=>False
theorem xt{d:D}{R:Y D->Prop}(h:match d with|.lst ds=>R ds|.tup ds=>R ds|.fzl ds=>R ds|_=>False):∃ds,eW d=Z ds/\R ds:=by
 cases d with
 |lst ds=>show⟨ds,S,h⟩
 |tup ds=>show⟨ds,S,h⟩
 |fzl ds=>show⟨ds,S,h⟩
 |_=>show h.elim
theorem b8(h:PD K X e t):PID K X z e (EW t):=⟨λo=>(yh o (h.pe o)).imp λI H G x=>by let⟨u,Φ,ρ,R,E,t,k⟩:=x;show⟨u,Φ,ρ,_,E,t,λd c w v r g F=>by
 let⟨ds,y,r⟩:=xt r;let⟨q,a,vs,rfl,l,C⟩:=F.seq y
 show⟨q,a,S,⟨vs,SqB.same g.s l⟩,k _ c w _ r g (zX l C)⟩⟩⟩
theorem yF{a:Ã}{A:TA}{es:Y Ã}{k:Nat}(G:X.K=K)(L:Gl X "enumerate")(O:X.mg "enumerate"=Œ)(J:PA X [a] A)(Q:starEach [a] X.env=[(ŕ,eval a X.env)]) :
  PI X (.Tuple es k B) (.Call (.Name "enumerate" p) [a] [] f) (λx H R=>A x H λvs o=>∃b a xs,vs=[.ref a]/\SqB K b o a xs/\R (nD K b a) o):=by
 subst G;intro g s x H R I h;refine Call_ (hZ I L O boot_enumerate (IF (ax (J f g s x H _ I h) λus v F=>?_) Q S));let⟨vs,o,w,T,b_⟩:=F;let⟨b,l,xs,e,P,q⟩:=b_;subst e
 cases T with
 |cons r rr=>
  cases rr;cases r;let⟨U,a_,p,be⟩:=w.sqb P;refine Br p λh' C M hsz N=>ł C ?_;have E:Inv X g x o { v with heap:=h' }:=w.kept (t':=v.toks) N;have y:∀c,v.heap.objs.size<=c->dR X g o c:=λc u=>w.fpOk u (w.hok.fresh u)
  show⟨v.heap.objs.size+1,[v.heap.objs.size+1,v.heap.objs.size],_,_,o,S,E,Ed b l _ _ (Nat.succ_ne_self _),⟨⟨_,C⟩,M⟩,λc u=>by
   rcases HH.mp u with rfl|u
   ·show y _ (Nat.le_succ _)
   ·rw[Hw.mp u];show y _ (Hr _),q⟩
theorem AV{a b:Ã}{A:TA}{es:Y Ã}{k:Nat}(N:X.K=K)(P:Gl X "zip")(b_:X.mg "zip"=Œ)(O:PA X [a,b] A)(T:starEach [a,b] X.env=[(ŕ,eval a X.env),(ŕ,eval b X.env)])(C:starEach [b] X.env=[(ŕ,eval b X.env)]) :
  PI X (.Tuple es k B) (.Call (.Name "zip" p) [a,b] [] f) (λy H R=>A y H λvs l=>∃v w a1 a2 xs E,vs=[.ref a1,.ref a2]/\SqB K v l a1 xs/\SqB K w l a2 E/\R (pf K v a1 w a2) l):=by
 subst N;intro g s y H R I h;refine Call_ (hZ I P b_ boot_zip (IF (ax (O f g s y H _ I h) λus x ⟨vs,l,o,r1,q1⟩=>?_) (by rw[T,C]) (by rw[C];rfl)));let⟨v,w,U,be,xs,E,e,J,L,q⟩:=q1;subst e
 cases r1 with
 |cons r rr=>
  cases rr with
  |cons r' rr=>
   cases rr;cases r;cases r';let⟨PM,RJ,a_,_⟩:=o.sqb J;let⟨Ny,RK,p2,_⟩:=o.sqb L;refine F0 a_ p2 λh' F z2 z3 z4 z5 Q=>Ň F ?_;have G:Inv X g y l { x with heap:=h' }:=o.kept (t':=x.toks) Q;have M:∀c,x.heap.objs.size<=c->dR X g l c:=λc u=>o.fpOk u (o.hok.fresh u);generalize x.heap.objs.size=n at *;refine⟨n+4,[n+4,n+2,n+3,n,n+1],_,_,l,S,G,Fz v w U be (n+4) (n+2) (n+3) n (n+1) (Fb n),⟨F,z2,⟨_,_,z3⟩,z4,z5⟩,λc u=>M c ?_,q⟩;simp only[HH,Jv,or_false]at u;rcases u with rfl|rfl|rfl|rfl|rfl
   ·show Kt _ _
   ·show Kt _ _
   ·show Kt _ _
   ·show Hr _
   ·show Kt _ _
noncomputable def wJ(t:aM):aM:=λρ R=>t ρ λds=>match ds with| [.lst xs]=>R (gU xs)| [.tup xs]=>R (gU xs)| [.fzl xs]=>R (gU xs)|_=>False
theorem ic{F:Y Ã}{G:Nat}(L:Gl X "enumerate")(M:X.mg "enumerate"=Œ)(J:PAD K X [a] j)(N:starEach [a] X.env=[(ŕ,eval a X.env)]:=by rfl):PID K X (.Tuple F G B) (.Call (.Name "enumerate" p) [a] [] f) (wJ j):=
 ⟨λw=>(yF w L M (J.pa w) N).imp λU H C y=>by let⟨x,Φ,ρ,R,E,t,k⟩:=y;show⟨x,Φ,ρ,_,E,t,λds l o vs r g h _=>by
  have c:∀{d:D}{xs:Y D},RpL K l [d] vs->eW d=Z xs->R (gU xs)->∃b a xs,vs=[.ref a]/\SqB K b o a xs/\C (nD K b a) o:=λ{d xs} h O r=>by let⟨v,rfl,P⟩:=h.one_inv;let⟨q,a,Q,rfl,u,I⟩:=P.seq O;show⟨q,a,Q,S,SqB.same g.s u,k _ l o _ r g (Em u I)⟩
  match ds,r with
  | [.lst xs],r=>show c h S r
  | [.tup xs],r=>show c h S r
  | [.fzl xs],r=>show c h S r⟩⟩
noncomputable def wN(t:aM):aM:=λρ R=>t ρ λds=>match ds with| [d,e]=>∃xs c,eW d=Z xs/\eW e=Z c/\R (fk xs c)|_=>False
theorem kg{F:Y Ã}{G:Nat}(M:Gl X "zip")(N:X.mg "zip"=Œ)(L:PAD K X [a,b] j)(O:starEach [a,b] X.env=[(ŕ,eval a X.env),(ŕ,eval b X.env)]:=by rfl)(C:starEach [b] X.env=[(ŕ,eval b X.env)]:=by rfl):PID K X (.Tuple F G B) (.Call (.Name "zip" p) [a,b] [] f) (wN j):=
 ⟨λo=>(AV o M N (L.pa o) O C).imp λσ H R' y=>by let⟨u,Φ,ρ,R,E,t,k⟩:=y;show⟨u,Φ,ρ,_,E,t,λds c x vs r g a_ _=>by
  match ds,r with
  | [d,e],⟨xs,ys,P,Q,r⟩=>
   let⟨v,w,rfl,U,be⟩:=a_.two_inv;let⟨b_,a1,ws,rfl,h,I⟩:=U.seq P;let⟨T,a2,us,rfl,l,J⟩:=be.seq Q
   show⟨b_,T,a1,a2,ws,us,S,SqB.same g.s h,SqB.same g.s l,k _ c x _ r g (AH h l I J)⟩⟩⟩
variable{gs:ft}
noncomputable def vo(n:Nat)(t:ft):cR:=λd ρ R=>match d with|.tup ds=>ds.length=n/\t ds ρ R|.lst ds=>ds.length=n/\t ds ρ R|_=>False
theorem PG.or{z:Ã}{t t':TG}(h:PG X z t)(h':PG X z t'):PG X z (λv l H Q=>t v l H Q\/t' v l H Q):=by
 intro c s l H v u Q I r g;rcases g with g|g
 ·show h c s l H v u Q I r g
 ·show h' c s l H v u Q I r g
theorem fe{k n:Nat}(u:X.calm=Ŕ)(h:PGDs K X es gs)(hn:(Æ es X.env).length=n:=by rfl)(o:(Æ es X.env).findIdx? (·.1)=Œ:=by rfl):PGD K X (.Tuple es k f) (vo n gs):=
 ⟨λc=>((tW c u (h.pg c) hn o).or (tG c u (h.pg c) hn o)).imp λv x H Q w=>by
  let⟨l,Φ,ρ,d,R,E,r,g,k⟩:=w
  cases d with
  |tup ds=>cases r with|tup h1 h2 h3=>show .inl ⟨_,_,S,.of (E.fz _ _ h1),by rw[h2];show g.1,l,Φ,ρ,ds,R,E,⟨h2,h3⟩,g.2,k⟩
  |lst ds=>cases r with|lst h1 h2 h3=>show .inr ⟨_,_,S,.of (E.fz _ _ h1),by rw[h2];show g.1,l,Φ,ρ,ds,R,E,⟨h2,h3⟩,g.2,k⟩
  |_=>show g.elim⟩
theorem jK{k n:Nat}{t:ft}(h:GMs k t):GM k (vo n t):=⟨⟨λd ρ R r=>by
 cases d with
 |tup ds=>show⟨r.1,h.k.p ds ρ R r.2⟩
 |lst ds=>show⟨r.1,h.k.p ds ρ R r.2⟩
 |_=>show r⟩,λd ρ R c g r=>by
 cases d with
 |tup ds=>show⟨r.1,h.m ds ρ R c g r.2⟩
 |lst ds=>show⟨r.1,h.m ds ρ R c g r.2⟩
 |_=>show r⟩
theorem Eo{Φ H:Hp}{d:D}{v:V}{T:String}{r:Bool}(s:Same Φ H)(h:RpQ K Φ H d v)(e:j8 d T=Z r):IsiV K H v T r:=by
 have sp:∀{c:Prop}[Decidable c]{x:Bool}{y:œ Bool},(if c then Z x else y)=Z r->(c/\x=r)\/y=Z r:=λ{c _ x y} h=>by
  by_cases l:c
  ·rw[Hx l]at h;cases h;show .inl ⟨l,S⟩
  ·rw[Hq l]at h;show .inr h
 cases d with
 |int i=>
  cases h.int;rcases sp e with⟨rfl,rfl⟩|e
  ·show .int_int _
  rcases sp e with⟨rfl,rfl⟩|e
  ·show .int_bool _
  rcases sp e with⟨rfl,rfl⟩|e
  ·show .int_tuple _
  rcases sp e with⟨rfl,rfl⟩|e
  ·show .int_str _
  cases e
 |bl i=>
  cases h.bl;rcases sp e with⟨rfl,rfl⟩|e
  ·show .bl_int _
  rcases sp e with⟨rfl,rfl⟩|e
  ·show .bl_bool _
  rcases sp e with⟨rfl,rfl⟩|e
  ·show .bl_tuple _
  cases e
 |str i=>
  cases h.str;rcases sp e with⟨rfl,rfl⟩|e
  ·show .str_str _
  rcases sp e with⟨rfl,rfl⟩|e
  ·show .str_tuple _
  cases e
 |non=>cases e
 |tup ds=>
  let⟨a,vs,rfl,g,_,o⟩:=h.tup s;rcases sp e with⟨rfl,rfl⟩|e
  ·show .tup_tuple g
  rcases sp e with⟨rfl,rfl⟩|e
  ·show .tup_int g
  cases e
 |lst ds=>
  let⟨a,vs,rfl,g,o⟩:=h.lst s;rcases sp e with⟨rfl,rfl⟩|e
  ·show .lst_tuple (.of g)
  rcases sp e with⟨rfl,rfl⟩|e
  ·show .lst_list (.of g)
  cases e
 |fzl ds=>cases e
 |obj C fs=>cases e
 |map u=>cases e
 |exc _ _=>cases e
noncomputable def DU(T:String)(t:TD):TD:=λρ R=>t ρ λd=>∃r,j8 d T=Z r/\R (.bl r)
theorem gB{T:String}{h:Str}{c:Õ}(I:Gl X "isinstance")(J:X.mg "isinstance"=Œ)(G:PQ K X a t)(F:PE X (.Name h c) (tC (.ty T)))
  (w:starEach [a,.Name h c] X.env=(ŕ,eval a X.env)::starEach [.Name h c] X.env) (o:starEach [.Name h c] X.env=(ŕ,eval (.Name h c) X.env)::starEach [] X.env):PD K X (.Call (.Name "isinstance" p) [a,.Name h c] [] f) (DU T t):=
 ⟨λu=>(ua (Ch u) I J boot_isinstance (eN (G.pe u) (eN F pa_nil o) w) 'b' 'b' w (au o ae)).imp λN H Q C=>by let⟨x,Φ,ρ,R,E,t,k⟩:=C;show⟨x,Φ,ρ,_,E,t,λd l y v r g M=>by
  let⟨rr,L,r⟩:=r
  show⟨v,T,rr,S,Eo g.s M L,k _ l y _ r g (.bl _)⟩⟩⟩
theorem Au(i:Int):j8 (.int i) "int"=Z Ŕ:=rfl
theorem Eu(i:Int):j8 (.int i) "bool"=Z ŕ:=rfl
theorem gW(xs:Y D):j8 (.tup xs) "tuple"=Z Ŕ:=rfl
end
theorem bQ{a:Type}{f:a->D}{ns:Y a}{i:Nat}{x:D}(h:(ns.map f)[i]?=Z x):∃k,x=f k/\ns[i]?=Z k:=by
 rw[Hy]at h
 cases e:ns[i]? with
 |none=>rw[e]at h;cases h
 |some k=>rw[e]at h;cases h;show⟨k,S,S⟩
theorem cE{a:Type}{f:a->D}{ns:Y a}{i:Nat}{n:a}{k:Int}(h:ns[i]?=Z n)(e:k=(i:Int)):cn (ns.map f) k=Z (f n):=ge (by rw[Hy,h];rfl) e
theorem yV{ns:Y Int}{k:Int}(c:0<=k)(h:k<(ns.length:Int)):∃v:Int,cn (ns.map D.int) k=Z (.int v):=by
 have a:k.toNat<ns.length:=by omega
 show⟨_,cE (bB a) ()⟩
noncomputable def qT:cg:=λds R=>∃ns:Y Int,ds=[.fzl (ns.map D.int)]/\ns.length<=63/\R (.bl Ŕ)
noncomputable def rM(K:Â):Sp:=λvs H Q _=>∃(a:Addr)(ns:Y Int),vs=[.ref a]/\SqL K H a (ns.map V.int)/\ns.length<=63/\TabF K H/\∀c,Q (.bl Ŕ) c
theorem EC{K:Â}:∀vs H Q E,rM K vs H Q E->lSp K qT vs H Q E:=by rintro vs H Q E ⟨a,ns,rfl,c,e,tb,q⟩;refine⟨H,[.fzl (ns.map D.int)],λd=>d=.bl Ŕ,Same.refl _,tb,.one ((RpL.ints ns).fzl c),⟨ns,S,e,S⟩,λd h j v r g f=>?_⟩;subst r;obtain rfl:=f.b;show q _
noncomputable def ay(r:aq):D:=.tup [.tup (r.1.map D.int),.int r.2]
theorem rR{c e:Type}(f:c->e)(xs:Y c)(lo a:œ Int):dc (xs.map f) lo a=(dc xs lo a).map f:=by unfold dc;rw[Hj,List.map_take,List.map_drop]
theorem B5(k:Nat)(z:Int):(List.replicate k [D.int z]).flatten=(List.replicate k z).map D.int:=by
 induction k with
 |zero=>rfl
 |succ k a=>rw[ID,Ih,a];rfl
section
variable{g:cR}{a:TD}{ρ:bq}{R:Y D->Prop}
theorem ue{ds:Y D}(j:Y D)(u:j.length=ds.length)(h:ds.length<sizeLine)(Q:Nat->D->Prop)(l:∀i y,Q i y->j[i]?=Z y)(o:∀i d,ds[i]?=Z d->g d ρ λe=>a e (Q i))(k:R j) :
  ds.length<sizeLine/\∃P:Nat->D->Prop,(∀i d,ds[i]?=Z d->g d ρ λe=>a e (P i))/\∀f:Y D,f.length=ds.length->(∀i y,f[i]?=Z y->P i y)->R f:=by
 refine⟨h,Q,o,λf r p=>?_⟩
 have:f=j:=by
  refine IP λi=>?_;rcases Ik i f.length with c|c
  ·rw[bB c,l i _ (p i _ (bB c))]
  ·rw[Ib c,Ib ()]
 rw[this];show k
theorem fC{o:Type}{f:o->D}{xs:Y o}(h:o->D)(j:xs.length<sizeLine)(r:∀x∈xs,g (f x) ρ λc=>a c λy=>y=h x)(k:R (xs.map h)) :
  (xs.map f).length<sizeLine/\∃P:Nat->D->Prop,(∀i d,(xs.map f)[i]?=Z d->g d ρ λc=>a c (P i))/\∀l:Y D,l.length=(xs.map f).length->(∀i y,l[i]?=Z y->P i y)->R l:=by
 refine ue (xs.map h) (by simp) (by rw[Hj];show j) (λi=>match xs[i]? with|some x=>λy=>y=h x|none=>λ_=>False) (λi y q=>?_) (λi d hd=>?_) k
 ·rw[Hy]
  cases e:xs[i]? with
  |none=>rw[e]at q;show q.elim
  |some x=>rw[e]at q;rw[q];rfl
 ·let⟨x,rfl,p⟩:=bQ hd
  have e:(match xs[i]? with|some x=>λy=>y=h x|none=>λ_=>False:D->Prop)=λy=>y=h x:=by rw[p]
  rw[e];show r x (Hu p)
theorem nF{lo:Int}{n:Nat}(h:Nat->D)(e:n<sizeLine)(l:∀i,i<n->g (.int (lo+(i:Nat))) ρ λc=>a c λy=>y=h i)(k:R ((List.range n).map h)) :
  (cp lo n).length<sizeLine/\∃P:Nat->D->Prop,(∀i d,(cp lo n)[i]?=Z d->g d ρ λc=>a c (P i))/\∀j:Y D,j.length=(cp lo n).length->(∀i y,j[i]?=Z y->P i y)->R j:=
 fC (f:=λi:Nat=>D.int (lo+(i:Nat))) (xs:=List.range n) h (by rw[HM];show e) (λx o=>l x (HQ.mp o)) k
theorem ms{e j:Type}(f:e->D)(h:j->D)(xs:Y e)(c:Y j):fk (xs.map f) (c.map h)=(List.zip xs c).map λp=>.tup [f p.1,h p.2]:=by unfold fk;rw[List.zipWith_map,Lw];rfl
theorem vx{j l:Type}{f:j->D}{h:l->D}{xs:Y j}{e:Y l}(w:j->l->D)(r:xs.length<sizeLine)(v:∀x∈xs,∀y∈e,g (.tup [f x,h y]) ρ λc=>a c λz=>z=w x y)(k:R (List.zipWith w xs e)) :
  (fk (xs.map f) (e.map h)).length<sizeLine/\∃P:Nat->D->Prop,(∀i d,(fk (xs.map f) (e.map h))[i]?=Z d->g d ρ λc=>a c (P i))/\∀o:Y D,o.length=(fk (xs.map f) (e.map h)).length->(∀i y,o[i]?=Z y->P i y)->R o:=by
 rw[ms];refine fC (λp:j×l=>w p.1 p.2) ?_ (λp u=>v p.1 (J3 u).1 p.2 (J3 u).2) ?_
 ·rw[LC];omega
 ·rw[Lw];show k
end
end L2
namespace L2
theorem ff{p:Prop}(h:ŕ=Ŕ):p:=by cases h
theorem tf{p:Prop}(h:Ŕ=ŕ):p:=by cases h
end L2
namespace L2
end L2
namespace L2
theorem gc{a:Type}(f:a->D)(es:Y a)(d:a):es.map f++[f d]=(es++[d]).map f:=by simp
theorem vN{a:Type}(f:a->D)(es fs:Y a):es.map f++fs.map f=(es++fs).map f:=by simp
end L2
namespace L2
open PySem PySem.Spec PyProof.Rows
section
variable{g:cR}{a:TD}{ρ:bq}{R:Y D->Prop}
theorem mq{l:Type}{f:l->D}{xs:Y l}(h:l->Int)(e:xs.length<sizeLine)(o:∀x∈xs,g (f x) ρ λc=>a c λy=>y=.int (h x))(k:R ((xs.map h).map D.int)) :
  (xs.map f).length<sizeLine/\∃P:Nat->D->Prop,(∀i d,(xs.map f)[i]?=Z d->g d ρ λc=>a c (P i))/\∀j:Y D,j.length=(xs.map f).length->(∀i y,j[i]?=Z y->P i y)->R j:=
 fC (λx=>D.int (h x)) e o (by rw[Ip]at k;show k)
end
section
variable{K:Â}{X:Cx}
theorem zf(h:X.K=K):pD X (tq K):=h▸xR
end
section
variable{K:Â}{X:Cx}{Φ H:Hp}{a e:Ã}{o:TD}{C:Addr}{j:Str}{l:Õ}
theorem tR{g:Str}{d:D}:∀{vs:Y (Str×V)}{fs:Y (Str×D)},vs.map (·.1)=fs.map (·.1)->(∀(i:Nat)(v:Str×V)(e:Str×D),vs[i]?=Z v->fs[i]?=Z e->Rp K Φ e.2 v.2)->fs.lookup g=Z d->∃v,vs.lookup g=Z v/\Rp K Φ d v
 | [],[],_,_,h=>by cases h
 | [],_::_,h,_,_=>by cases h
 |_::_,[],h,_,_=>by cases h
 |(x,v)::vs,(y,f)::fs,h,w,p=>by
  rw[HK,HK]at h;let⟨r,z⟩:=Kq h;have r:x=y:=r;subst r;rw[HN]at p ⊢
  cases c:g==x with
  |true=>
   rw[c]at p;cases p;show⟨v,S,w 0 _ _ S S⟩
  |false=>
   rw[c]at p;show tR z (λi u e B A=>w (i+1) u e B A) p
noncomputable def AK(nm:Str)(f:Str)(t:TD):TD:=λρ R=>t ρ λx=>match x with|.obj QI fs=>QI=nm/\∃d,fs.lookup f=Z d/\R d|_=>False
theorem jU{c:TE}(f:X.K=K)(h:PE X a c)(g:Î a j X.env (eval a X.env)=eval a X.env):PE X (.Attribute a j l) (su K c j):=f▸Bb h g
theorem aJ{nm:Str}(c:Cls K C)(M:NoAttr K C j)(F:Ò K Á nm=Z (Z (.ref C)))(G:PQ K X a o)(I:Î a j X.env (eval a X.env)=eval a X.env:=by rfl):PD K X (.Attribute a j l) (AK nm j o):=
 ⟨λu=>(jU u (G.pe u) I).imp λP H Q y=>by let⟨w,Φ,ρ,R,E,t,k⟩:=y;show⟨w,Φ,ρ,_,E,t,λd h x v r g f=>by
  cases d with
  |obj O fs=>
   let⟨rfl,d,J,r⟩:=r;rcases f with f|⟨_,_,_,e,_⟩
   ·cases f with
    |obj p z A B=>
     rw[F]at p;cases p;let⟨v,L,N⟩:=tR A B J;show⟨_,_,_,_,v,S,g.s _ _ z,c,M,L,k d h x v r g N⟩
   ·cases e
  |_=>show r.elim⟩⟩
end
section
variable{prog:Å}{w:È}{A:Ê}{E:Value->À->Prop}{s:À}
theorem xU{Q:Y Value->À->Prop}{r:Addr}{a b c:Int}{t u v:ĵ}{n:Nat}(N:A.handled=Œ)(G:IsRange s.heap r a b c t u v)(K:Builtin.Range.small a b c=Ŕ)
  (hn:Builtin.Range.rangeSize a b c=n) (B:n<=2^24)
  (L:∀h' j g,(∀b o',s.heap.get? b=Z o'->h'.get? b=Z o')->Ĩ (λi v=>∃t,v=.int (a+i*c) t) g n->Q g.toList { s with heap:=h',toks:=j }) :
  wpAny (Ä prog w) A (collect (.ref r)) Q E s:=by
 unfold collect;refine Hn (wpAny_runValue (LD F.entry_proto_collect ?_));rw[KO F.plain_proto_collect _];change wpAny _ A.in1 (newList [] >>= λl=>again (.builtin "list.__iadd__" ⟨[l,.ref r],[]⟩)) _ _ s;refine Hn (IL ?_);refine HA ⟨plainId_quiet F.plain_list_iadd _,LD F.entry_list_iadd ?_⟩;rw[KO F.plain_list_iadd _];change wpAny _ A.in1 (Builtin.List.listExtendWith (.ref s.heap.objs.size) (.ref r) (.ref s.heap.objs.size)) _ _ _;have M:(s.heap.push { cls:=.type "list",data:=.seq ([]:Y Value).toArray }).get? s.heap.objs.size=Z { cls:=.type "list",data:=.seq #[] 0 }:=HC _ S
 have I:∀(h':Heap)(j:Nat)(g:Array Value)(p:Nat),(∀b o,b≠s.heap.objs.size->(s.heap.push { cls:=.type "list",data:=.seq ([]:Y Value).toArray }).get? b=Z o->h'.get? b=Z o)->
   h'.get? s.heap.objs.size=Z { cls:=.type "list",dict:=Œ,data:=.seq g p,slots:=#[] }->Ĩ (λi v=>∃t,v=.int (a+i*c) t) g n->wpAny (Ä prog w) A (match Value.ref s.heap.objs.size with
   |Value.ref a=>do
    match (←load a).data with
     |Data.seq xs _=>pure xs.toList
     |_=>unsupported "internal:collect"
   |_=>unsupported "internal:collect") Q E { s with heap:=h',toks:=j }:=λh' j g p z y x=>by
  change wpAny _ A (load s.heap.objs.size >>= _) _ _ _;refine Hn (wpAny_load y ?_);refine HA ?_;show L h' j g (λb o J=>z b o (HX (HI J)) (Ho _ J)) x
 refine Jd (wpAny_extend_range (A:=A) (R:=λr H=>r=.ok (.ret (.ref s.heap.objs.size))/\∃h' j g p,H={ s with heap:=h',toks:=j }/\(∀b o,b≠s.heap.objs.size->(s.heap.push { cls:=.type "list",data:=.seq ([]:Y Value).toArray }).get? b=Z o->h'.get? b=Z o)/\h'.get? s.heap.objs.size=Z { cls:=.type "list",dict:=Œ,data:=.seq g p,slots:=#[] }/\Ĩ (λi v=>∃t,v=.int (a+i*c) t) g n)
  (s:={ s with heap:=s.heap.push { cls:=.type "list",data:=.seq ([]:Y Value).toArray } }) N (Ho _ G) K hn B _ _ 0 M λh' j g p z y x=>⟨S,h',j,g,p,S,z,y,x⟩) (λC H h=>?_) (λe H h=>?_)
 ·cases C with
  |done f=>
   let⟨e,h',j,g,p,rfl,z,y,x⟩:=h;cases e;show I h' j g p z y x
  |again p=>show⟨h.1,KD h.2 λr O G=>by
    let⟨rfl,h',j,g,p,rfl,z,y,x⟩:=G
    show I h' j g p z y x⟩
 ·show absurd h.1 (by simp)
theorem DA{Q₁:Value->À->Prop}{r:Addr}{a b c:Int}{t u v:ĵ}{n:Nat}(z:A.handled=Œ)(p:IsRange s.heap r a b c t u v)(x:Builtin.Range.small a b c=Ŕ)
  (hn:Builtin.Range.rangeSize a b c=n) (g:n<=2^24)
  (h:∀(h':Heap)(l:Nat)(f:Array Value),(∀b o',s.heap.get? b=Z o'->h'.get? b=Z o')->Ĩ (λi v=>∃t,v=.int (a+i*c) t) f n->Q₁ (.ref h'.objs.size) { s with heap:=h'.push { cls:=.type "tuple",data:=.seq f },toks:=l }) :
  é (Ä prog w) A (.call (.builtin "tuple.__new__") ⟨[.type "tuple",.ref r],[]⟩) (wants Q₁ E) s:=by
 refine codeAny_of_tree ?_;change wpAny _ A.in1 (do checkBuiltinCall "tuple.__new__" ⟨[.type "tuple",.ref r],[]⟩;again (.builtin "tuple.__new__" ⟨[.type "tuple",.ref r],[]⟩)) _ _ s;refine Hn (wpAny_of_eq (F.newCall_tuple_1 _) (HA ⟨plainId_quiet F.plain_tuple_new _,LD F.entry_tuple_new ?_⟩));rw[KO F.plain_tuple_new _];have G:=sub_tuple_self;have j:=init_tuple_lookup;have C:=madeHere_tuple;have y:s.TypeIs (.ref r) "range":=⟨_,p,S⟩
 wp_walk using Li y,xU (A:=A.in1) z p x hn g
 intro h' l f B o;change wpAny _ _ (Builtin.Tuple.tupleExact f.toList.toArray >>= λv=>ret v) _ _ _;unfold Builtin.Tuple.tupleExact;refine Hn (IL ?_ (by change f.toList.toArray.size<=sizeLine;simp only[Array.toArray_toList];rw[o.1,JT];omega));refine HA ?_
 have e:f.toList.toArray=f:=by simp
 rw[e];show h h' l f B o
theorem Cj{Q:Value->À->Prop}{r:Addr}{a b c:Int}{t u v:ĵ}{n:Nat}(x:A.handled=Œ)(z:IsRange s.heap r a b c t u v)(l:Builtin.Range.small a b c=Ŕ)
  (hn:Builtin.Range.rangeSize a b c=n) (h:n<=2^24)
  (p:∀(h':Heap)(j:Nat)(g:Array Value),(∀b o',s.heap.get? b=Z o'->h'.get? b=Z o')->Ĩ (λi v=>∃t,v=.int (a+i*c) t) g n->Q (.ref h'.objs.size) { s with heap:=h'.push { cls:=.type "tuple",data:=.seq g },toks:=j }) :
  wpAny (Ä prog w) A (call (.type "tuple") [.ref r]) Q E s:=by
 refine callType_codes (Q₁:=λobj e=>e.TypeIs obj "tuple"/\Q obj e) F.called_tuple (F.typeCall_tuple_1 _) F.entry_object_init
  (DA x z l hn h λh' j g y o=>⟨⟨_,HC _ S,S⟩,p h' j g y o⟩) λobj e f=>?_
 show⟨f.1,F.args_object_init_2 obj _,object_init_meets F.called_tuple.init.lookup F.called_tuple.made 'b' prog w A.in1 _ e ⟨f.1,S,f.2⟩⟩
end
section
variable{K:Â}{X:Cx}{a:Ã}{c p w z:Õ}{f:aM}
noncomputable def wL(t:TA):TE:=λg H Q=>t g H λvs e=>∃j:Int,vs=[.int j]/\∀r,e r=Œ->Q (.ref r) (am e r (.rng 0 j))
theorem tz{v:TA}(A:Gl X "range")(B:X.mg "range"=Œ)(y:PA X [a] v)(C:starEach [a] X.env=[(ŕ,eval a X.env)]:=by rfl):PE X (.Call (.Name "range" p) [a] [] c) (wL v):=by
 intro g s G H R I h;refine Call_ (hZ I A B boot_range (IF (ax (y c g s G H _ I h) λus l x=>?_) C S));let⟨vs,J,u,F,E⟩:=x;let⟨j,e,q⟩:=E;subst e
 cases F with
 |cons r rr=>
  cases rr;let⟨t,rfl⟩:=r;refine call_range_1 ⟨.ref l.heap.objs.size,_,u.laid (a:=l.heap.objs.size) (o:=.rng 0 j) (t':=l.toks+1+1) (λb o e=>Ho _ e) (Hr _) ⟨_,_,_,HC _ S⟩,S,q _ (u.hok.fresh (Hr _))⟩
noncomputable def eS(n:Nat):Y V:=(List.range n).map λi=>V.int (i:Nat)
theorem jD(n:Nat):(eS n).length=n:=by unfold eS;simp
theorem mT{g j:Type}{F:g->j->Prop}:∀{xs:Y g}{e:Y j},xs.length=e.length->(∀(i:Nat) x y,xs[i]?=Z x->e[i]?=Z y->F x y)->Paired F xs e
 | [],[],_,_=>.nil
 |x::xs,y::e,l,h=>.cons (h 0 x y S S) (mT (by simpa using l) λi u v o r=>h (i+1) u v o r)
theorem pF{n i:Nat}{v:V}(h:(eS n)[i]?=Z v):v=.int (i:Nat):=by
 have e:i<n:=by have:=aB h;rwa [jD]at this
 unfold eS at h;rw[Hy,Jr e]at h;cases h;rfl
theorem AI(J:X.calm=Ŕ):dB X (.type "tuple") (λxs H Q=>∃p j,xs=[.ref p]/\H p=Z (.rng 0 j)/\-(2^62)<=j/\j<=1000/\∀l,H l=Œ->Q (.ref l) (am H l (.tup (eS j.toNat)))):=by
 intro g s F H xs us Q I r h;let⟨p,j,rfl,L,P,U,q⟩:=h;let⟨u,rfl,R⟩:=gI r;cases R;let⟨t,u,v,ho⟩:=(show ObjOk X.prog X.w H s.heap p (.rng 0 j)from I.hok p _ L)
 have hn:Builtin.Range.rangeSize 0 j 1=(j.toNat:Int):=by rw[K6];split<;>omega
 refine Cj (I.ok.hd J) ho (Ę 'b' 'b' P ()) hn () λh' B A kp E=>?_;have C:Inv X g F H { s with heap:=h',toks:=B }:=I.kept (t':=B) kp
 have M:Vals (eS j.toNat) A.toList:=mT (by rw[jD,IK,E.1]) λi x y N O=>by rw[pF N];let⟨t,rfl⟩:=E.2 i y (by simpa using O);show⟨t,by simp⟩
 have G:Inv X g F (am H h'.objs.size (.tup (eS j.toNat))) { s with heap:=h'.push { cls:=.type "tuple",data:=.seq A },toks:=B }:=
  C.laid (t':=B) (λb o e=>Ho _ e) (Hr _) (show ObjOk X.prog X.w _ _ _ (.tup (eS j.toNat))from ⟨by rw[jD,JT];omega,A.toList,M,by simpa using IsTupD.new _ _⟩)
 show⟨.ref h'.objs.size,_,G,S,q _ (C.hok.fresh (Hr _))⟩
noncomputable def w8(t:aM):TD:=λρ R=>t ρ λds=>match ds with| [.int j]=>(-(2^62)<=j/\j<=1000)/\R (.tup (cp 0 j.toNat))|_=>False
theorem uo{Φ:Hp}(n:Nat):RpL K Φ (cp 0 n) (eS n):=⟨by rw[jD,fm],λi v d e hd=>by
 rw[pF e,(gQ hd).2,Io]
 show .int _⟩
theorem At(o:X.calm=Ŕ)(B:Gl X "tuple")(y:X.mg "tuple"=Œ)(x:Gl X "range")(A:X.mg "range"=Œ)(I:PAD K X [a] f)(L:starEach [a] X.env=[(ŕ,eval a X.env)]:=by rfl) :
  PD K X (.Call (.Name "tuple" p) [.Call (.Name "range" w) [a] [] z] [] c) (w8 f):=
 ⟨λG=>(jc (AI o) B y boot_tuple (eN (tz x A (I.pa G) L) pa_nil bj) 'b' 'b' bj ae).imp λU H Q u=>by let⟨h,Φ,ρ,R,E,t,k⟩:=u;show⟨h,Φ,ρ,_,E,t,λds O P vs r g rl _=>by
  match ds,r with
  | [.int j],r=>
   let⟨v,rfl,N⟩:=rl.one_inv;obtain rfl:=N.i;refine⟨j,S,λM C=>⟨M,j,S,bg,r.1.1,r.1.2,λl J=>?_⟩⟩;have e:=Gr.fresh g.s C (.rng 0 j);have F:=Gr.new e.s J (.tup (eS j.toNat))
   show k _ _ _ _ r.2 ((g.trans e).trans F) ((uo _).tup bg)⟩⟩
end
section
variable{P:Å}{w:È}{K:Â}{mg:Str->œ Value}{base:Heap}
theorem Fun.okL{x qual:Str}{st:Ç}{f:Addr}{c:Ì}{N ps:Y Str}{k:Nat}{sp:Sp}(F:Fun K x qual st f c)(U:FnScope N ps (ar st))(len:∀vs H Q E,sp vs H Q E->vs.length=ps.length)
  (j:∀(a:Value)(A:Ê)(outer:Y ì)(s:À)(H:Hp)(vs:Y V)(Q:VK)(E:XK),c.code=a->Room k (A.deeper (ê qual (ar st) s.heap.objs.size f a))->sp vs H Q E->
   ∃t,PSs (gJ aD P w K mg base N qual (ar st) f a A outer s H E).nox (fY st) t/\t { nx:=λ_ e=>Q .non e,rt:=Q } (eo N vs) H):FnOk P w K mg base aD (k+1) f c ps sp:=by
 let⟨v,y,kV,o,z,u,a,ct,r,rfl,lk,g⟩:=F.ex;refine vF lk g U len λA outer s H vs Q E p l=>?_;let⟨t,h,q⟩:=j a A outer s H vs Q E S p l;show⟨t,h.nox,q⟩
end
theorem uq{K:Â}{x:Str}(a:Ò K Á x=Z Œ):qw K x=Œ:=by unfold qw;simp only[a]
end L2
namespace L2
open PySem PySem.W PyProof.Rows
section
variable{a:Nat->Int}{N:Nat}
variable(c:∀i j,i<N->j<N->a i=a j->i=j)
include c
end
end L2
namespace L2
open PySem PySem.Spec PySem.W PyProof.Rows PySem.Calls
end L2
namespace L2
open PySem PySem.Spec PySem.W PyProof.Rows PySem.Calls
end L2
namespace L2
open PySem PySem.Spec PyProof.Rows
noncomputable def gk:av->D
 |.inl i=>.int i
 |.inr s=>.str s
theorem CN{K:Â}{Φ:Hp}{k:av}{v:V}(r:Rp K Φ (gk k) v):v=kV k:=by
 cases k with
 |inl i=>obtain rfl:=r.i;rfl
 |inr s=>obtain rfl:=r.s;rfl
theorem FD{K:Â}{Φ H:Hp}{k:av}{v:V}(r:RpQ K Φ H (gk k) v):v=kV k:=by
 cases k with
 |inl i=>show RpQ.int r
 |inr s=>show RpQ.str r
theorem uF{K:Â}{Φ:Hp}{a:Y av}{vs:Y V}(r:RpL K Φ (a.map gk) vs):vs=a.map kV:=by
 refine IP λi=>?_;rw[Hy]
 cases h:a[i]? with
 |none=>
  have c:=J8.mp h;show Ib (by rw[r.1,Hj];show c)
 |some k=>
  let⟨v,e,f⟩:=r.at (i:=i) (d:=gk k) (by rw[Hy,h];rfl);rw[e,CN f];rfl
noncomputable def iZ(k:av)(a:Y av):Bool:=a.any λj=>decide (j=k)
theorem wl(k:av)(a:Y av):iZ k a=Ŕ↔k∈a:=by unfold iZ;rw[Lk];show⟨λ⟨j,c,e⟩=>IM e▸c,λh=>⟨k,h,Ij S⟩⟩
theorem uv(k:av):gO (kV k)=Ŕ:=by cases k<;>rfl
theorem yA(j k:av):hJ (kV j) (kV k)=decide (j=k):=by
 cases j with
 |inl a=>
  cases k with
  |inl b=>change (a==b)=_;by_cases h:a=b<;>simp[h]
  |inr b=>change ŕ=_;simp
 |inr a=>
  cases k with
  |inl b=>change ŕ=_;simp
  |inr b=>change (a==b)=_;by_cases h:a=b<;>simp[h]
theorem BL(k:av)(a:Y av):jF (kV k) (a.map kV)=iZ k a:=by unfold jF iZ;rw[JV];show List.any_congr S λj=>yA j k
noncomputable def A1(neg:Bool):cK:=λc e R=>∃(k:av)(a:Y av),c=gk k/\eW e=Z (a.map gk)/\R (.bl (neg != iZ k a))
section
variable{K:Â}{X:Cx}
theorem wC:OpD K X (É .In) (A1 ŕ):=⟨λo c s E H x y u v Q I B C g=>by
 let⟨Φ,F,G,R,sm,p,r,⟨k,f,rfl,e,h⟩,A⟩:=g;cases FD p;let⟨a,vs,rfl,q,rl⟩:=r.seq sm e;cases uF rl;refine B3 c s E H _ _ u v Q I B C ⟨a,_,S,by rw[o];show q,uv k,?_,?_⟩
 ·rw[Jb];intro z w;let⟨j,_,rfl⟩:=HG.mp w;show uv j
 ·have l:(if ŕ=Ŕ then !jF (kV k) (f.map kV) else jF (kV k) (f.map kV))=(ŕ != iZ k f):=by rw[BL];simp
  rw[l]
  show A _ Φ H _ h (.refl sm) (.bl _)⟩
end
end L2
namespace L2
open PySem PySem.Spec PySem.W PyProof.Rows PySem.Calls
end L2
namespace L2
open PySem PySem.Spec PyProof.Rows
section
variable{K:Â}{X:Cx}{a:Ã}{f p z A:Õ}{w:aM}
theorem Ek(G:X.calm=Ŕ):dB X (.type "list") (λxs H Q=>∃p j,xs=[.ref p]/\H p=Z (.rng 0 j)/\-(2^62)<=j/\j<=1000/\∀l,H l=Œ->Q (.ref l) (am H l (.lst (eS j.toNat)))):=by
 intro B s U H xs us Q I r h;let⟨p,j,rfl,L,P,T,q⟩:=h;let⟨u,rfl,R⟩:=gI r;cases R;let⟨t,u,v,ho⟩:=(show ObjOk X.prog X.w H s.heap p (.rng 0 j)from I.hok p _ L)
 have hn:Builtin.Range.rangeSize 0 j 1=(j.toNat:Int):=by rw[K6];split<;>omega
 refine Ő (I.ok.hd G) ho (Ę 'b' 'b' P ()) hn () λh' E g c kp J C=>?_
 have M:Vals (eS j.toNat) g.toList:=mT (by rw[jD,IK,C.1]) λi x y N O=>by rw[pF N];let⟨t,rfl⟩:=C.2 i y (by simpa using O);show⟨t,by simp⟩
 have F:Inv X B U (am H s.heap.objs.size (.lst (eS j.toNat))) { s with heap:=h',toks:=E }:=
  I.laid (t':=E) (λb o e=>kp b o e) (Hr _) (show ObjOk X.prog X.w _ _ _ (.lst (eS j.toNat))from ⟨by rw[jD,JT];omega,g.toList,c,M,by simpa using J⟩)
 show⟨.ref s.heap.objs.size,_,F,S,q _ (I.hok.fresh (Hr _))⟩
noncomputable def wc(t:aM):aM:=λρ R=>t ρ λds=>match ds with| [.int j]=>(-(2^62)<=j/\j<=1000)/\R (cp 0 j.toNat)|_=>False
theorem v5(u:X.calm=Ŕ)(G:Gl X "list")(C:X.mg "list"=Œ)(B:Gl X "range")(F:X.mg "range"=Œ)(M:PAD K X [a] w)(N:starEach [a] X.env=[(ŕ,eval a X.env)]:=by rfl) :
  PF K X (.Call (.Name "list" p) [.Call (.Name "range" z) [a] [] A] [] f) (wc w):=
 ⟨λL=>(jc (Ek u) G C Ĝ (eN (tz B F (M.pa L) N) pa_nil bj) 'b' 'b' bj ae).imp λT H Q x=>by
  let⟨h,Φ,ρ,R,E,t,k⟩:=x
  show⟨h,Φ,ρ,_,E,t,λds U o vs r g rl _=>by
   match ds,r with
   | [.int j],r=>
    let⟨v,rfl,P⟩:=rl.one_inv;obtain rfl:=P.i;refine⟨j,S,λO I=>⟨O,j,S,bg,r.1.1,r.1.2,λl e=>?_⟩⟩;have c:=Gr.fresh g.s I (.rng 0 j);have J:=Gr.fresh c.s e (.lst (eS j.toNat));have y:o l=Œ:=c.h.free e
    show k _ _ _ l _ r.2 ((g.trans c).trans J) (g.h.free y) (c.s.free e) bg (uo _)⟩⟩
end
section
variable{K:Â}{x:Str}
noncomputable def ux:D->Prop
 |.int _=>True
 |.bl _=>True
 |.str _=>True
 |.non=>True
 |_=>False
theorem Rp.flat{Φ a:Hp}{d:D}{v:V}(h:Rp K Φ d v)(c:ux d):Rp K a d v:=by
 cases h with
 |int i=>show .int i
 |bl b=>show .bl b
 |str x=>show .str x
 |non=>show .non
 |_=>show c.elim
end
theorem xH{K:Â}(h:Ò K Á "least_grown"=Z Œ/\Ò K Á "greatest_first"=Z Œ):pq K=[]:=by unfold pq;rw[JL,uq h.1,JL,uq h.2];rfl
structure Cl(P:Å)(w:È)(K:Â)(mg:Str->Option Value)(base:Heap)(n:Nat)(x:Str)(ps:List Str)(z:cg):Prop where
 ex:∃(f:Addr)(fd:Ì),FnOk P w K mg base aD n f fd ps (lSp K z)/\Binds K fd ps []/\ã K (.ref f)=Ŕ/\mg x=Z (.ref f)
section
variable{P:Å}{w:È}{K:Â}{mg:Str->œ Value}{base:Heap}{n m:Nat}{x:Str}{ps:Y Str}{z:cg}{X:Cx}{e:Ã}{es:Y Ã}{o p:Õ}{u:aM}{st:Ç}{f:Addr}{j:Ì}{h:Heap}
theorem Cl.mono(C:Cl P w K mg base n x ps z)(k:n<=m:=by decide):Cl P w K mg base m x ps z:=by let⟨f,j,F,r⟩:=C.ex;show⟨f,j,F.mono k,r⟩
theorem Cl.of(F:Fun K x x st f j)(b:Binds K j ps [])(m:mg x=Z (.ref f))(H:FnOk P w K mg base aD n f j ps (lSp K z)):Cl P w K mg base n x ps z:=⟨f,j,H,b,F.kp,m⟩
theorem bh(C:Cl X.prog X.w K X.mg X.base n x ps z)(y:Room n X.A)(v:Gl X x)
  (l:PAD K X (e::es) u) (r:starEach (e::es) X.env=(ŕ,eval e X.env)::starEach es X.env) (c:(backTo o (starEach es X.env)).any (·.1)=ŕ) (a:ab x:=by decide) :
  PD K X (.Call (.Name x p) (e::es) [] o) (mG z u):=⟨λg=>by
 subst g;let⟨f,j,F,b,k,m⟩:=C.ex
 show (ye F y v m k b je l r c a).pe S⟩
noncomputable def dE(P:Ħ)(x:Str)(n:Nat)(v:Value):DictEntry:=⟨PyData.keyHash P x,.str x n,v⟩
noncomputable def cO(n:Str)(a:Nat)(q:Str)(b c:Nat)(l m:Int)(k:Int)(r:Nat)(g:Int)(t:Nat)(x y:Value)(z:Nat)(i:Int)(d:Nat):Ô:=⟨.type "code",Œ,.fields #[.str n a,.str q b,.str "/claim/cut.py" c,.int l 0,.int m 0,.int 0 0,.int 0 0,.int k 0,.ref r,.bool Ŕ,.int g 0,.ref t,.none,x,y,.ref z,.int i 0,.int l 0,.str "/claim/cut.py" d],#[]⟩
noncomputable def fO(s:Ç)(n q m:Str)(i c:Nat):Ô:=⟨.type "function",Œ,.func (Ĕ n q (iE s) (fY s) (ar s) .none .none .none (.str m i) Œ (.ref c) .none),#[]⟩
noncomputable def Has(K:Â)(s:Ç)(x:Str):Prop:=∃f m i c,Ò K Á x=Z (Z (.ref f))/\K.lookup f=Z (fO s x x m i c)/\Ă K (.ref c) x=Ŕ
theorem Has.of{s:Ç}{m:Str}{i c:Nat}(a:Ò K Á x=Z (Z (.ref f)))(l:K.lookup f=Z (fO s x x m i c))(k:Ă K (.ref c) x=Ŕ):Has K s x:=⟨f,m,i,c,a,l,k⟩
theorem Has.fn(a:Has K st x)(X:K.In h)(G:h.Ns Á mg):∃f j,Fun K x x st f j/\mg x=Z (.ref f)/\∃m i c,j=Ĕ x x (iE st) (fY st) (ar st) .none .none .none (.str m i) Œ (.ref c) .none:=by let⟨f,m,i,c,a,l,k⟩:=a;show⟨f,_,rS l k (by unfold ã;simp only[l];rfl),mg_of X G a,m,i,c,S⟩
theorem pC{A:Type}{p:Y A->Prop}(h:∀a0,p [a0]):∀us:Y A,us.length=1->p us
 | [a0],_=>h a0
theorem pW{A:Type}{p:Y A->Prop}(h:∀a0 a1,p [a0,a1]):∀us:Y A,us.length=2->p us
 | [a0,a1],_=>h a0 a1
theorem pU{A:Type}{p:Y A->Prop}(h:∀a0 a1 a2,p [a0,a1,a2]):∀us:Y A,us.length=3->p us
 | [a0,a1,a2],_=>h a0 a1 a2
theorem qo{A:Type}{p:Y A->Prop}(h:∀a0 a1 a2 a3,p [a0,a1,a2,a3]):∀us:Y A,us.length=4->p us
 | [a0,a1,a2,a3],_=>h a0 a1 a2 a3
inductive HasM(K:Â)(st:Ç)(C:Addr)(m q:Str):Prop|mk (f:Addr) (j:Ì) (_:Ï K (.ref C) m=Z (Z (.ref f))) (_:isFn K (.ref f)=Ŕ) (_:ã K (.ref f)=Ŕ) (_:Fun K m q st f j)
theorem HasM.of{C:Addr}{m q:Str}{A:Value}{B y:œ Addr}{v:Array (œ Value)}{kV g E r ct:Value}(a:Ï K (.ref C) m=Z (Z (.ref f)))(i:isFn K (.ref f)=Ŕ)(l:K.lookup f=Z ⟨A,B,.func (Ĕ m q (iE st) (fY st) (ar st) .none kV g E y r ct),v⟩)(c:Ă K r q=Ŕ)(k:ã K (.ref f)=Ŕ):HasM K st C m q:=⟨f,_,a,i,k,rS l c k⟩
noncomputable abbrev oK(st:Ç)(x q:Str)(ps:Y Str):Prop:=∀(kV a l:Value)(g:œ Addr)(c ct:Value)(us:Y Value),us.length=ps.length->bindArgs (Ĕ x q (iE st) (fY st) (ar st) .none kV a l g c ct) ⟨us,[]⟩=pure (ps.zip us)
theorem Fun.bd{q:Str}(F:Fun K x q st f j)(b:oK st x q ps:=by intro _ _ _ _ _ _;first|show pC λ_=>rfl|show pW λ_ _=>rfl|show pU λ_ _ _=>rfl|show qo λ_ _ _ _=>rfl|show us_0 S|show us_5 λ_ _ _ _ _=>rfl|show us_6 λ_ _ _ _ _ _=>rfl|show us_7 λ_ _ _ _ _ _ _=>rfl|show us_8 λ_ _ _ _ _ _ _ _=>rfl):Binds K j ps []:=F.binds b
theorem Fun.cl(F:Fun K x x st f j)(m:mg x=Z (.ref f))(H:FnOk P w K mg base aD n f j ps (lSp K z))
  (b:oK st x x ps:=by intro _ _ _ _ _ _;first|show pC λ_=>rfl|show pW λ_ _=>rfl|show pU λ_ _ _=>rfl|show qo λ_ _ _ _=>rfl|show us_0 S|show us_5 λ_ _ _ _ _=>rfl|show us_6 λ_ _ _ _ _ _=>rfl|show us_7 λ_ _ _ _ _ _ _=>rfl|show us_8 λ_ _ _ _ _ _ _ _=>rfl):Cl P w K mg base n x ps z:=.of F (F.binds b) m H
end
section
variable{K:Â}{X:Cx}{n:Nat}{x:Str}{ps:Y Str}{z:cg}{e:Ã}{es:Y Ã}{c p:Õ}{j:aM}
theorem RpQ.up{Φ f:Hp}{d:D}{v:V}(h:RpQ K Φ f d v)(g:Same Φ f):Rp K f d v:=by
 rcases h with h|⟨a,vs,ds,rfl,rfl,l,rl⟩
 ·show h.same g
 ·show .lst l rl.1 (rl.same g).2
noncomputable def Gx(sp:cg)(t:aM):TD:=λρ R=>t ρ λds=>sp ds λd=>ux d/\R d
theorem ut(C:Cl X.prog X.w K X.mg X.base n x ps z)(O:Room n X.A)(M:Gl X x)
  (J:PAQ K X (e::es) j) (L:starEach (e::es) X.env=(ŕ,eval e X.env)::starEach es X.env) (G:(backTo c (starEach es X.env)).any (·.1)=ŕ) (B:ab x:=by decide) :
  PD K X (.Call (.Name x p) (e::es) [] c) (Gx z j):=⟨λI=>by
 subst I;let⟨f,be,F,b,k,m⟩:=C.ex;refine (oA F O M m k b .nil je (J.pa S) B L G).imp λa_ H Q A=>?_;let⟨w,Φ,ρ,R,E,t,k⟩:=A;refine⟨w,Φ,ρ,_,E,t,λds a y vs r g rl=>?_⟩;refine⟨y,ds,_,λ_ _ h=>h,(E.tb.same g.f).same g.s,?_,r,λd U o v l g' T=>?_⟩
 ·rw[Ii];show⟨rl.1,λi v d P hd=>RpQ.up (rl.2 i v d P hd) g.s⟩
 ·show k d a o v l.2 ⟨g.f,g.h.trans g'.h,λb u h=>g'.h b u (g.s b u h),λq u N hn b_=>g.o q u N hn b_⟩ (T.flat l.1)⟩
end
end L2
namespace L2
open PySem PySem.Spec PySem.W PyProof.Rows PySem.Calls
end L2
namespace L2
open PySem PySem.Spec PyProof.Rows
section
variable{K:Â}{X:Cx}{c:Õ}{e:aM}
noncomputable def Gj(i j:Nat)(e:aM):cP:=λf ρ=>e ρ λds=>∃a b,ds=[a,b]/\f.nx ((ρ.set i (Z (.v a))).set j (Z (.v b)))
theorem Ce{i j:Nat}{x y:Str}{a b:Ã}{f l pt:Õ}{kt k2 Pq}(G:X.calm=Ŕ)(F:X.N.Nodup)(I:X.N[i]?=Z x)(J:X.N[j]?=Z y)(B:i≠j)
  (N:X.env.scope.names.lookup x=Z .local) (O:X.env.scope.names.lookup y=Z .local) (h:PAD K X [a,b] e)
  (M:Ø [.Tuple [.Name x f,.Name y l] kt pt] (.Tuple [a,b] k2 Pq) X.env=pure (Z [x,y]))
  (L:Ö [.Tuple [.Name x f,.Name y l] kt pt] (.Tuple [a,b] k2 Pq) c.line X.env=pure ŕ:=by rfl) :
  PSD K X (.Assign [.Tuple [.Name x f,.Name y l] kt pt] (.Tuple [a,b] k2 Pq) c) (Gj i j e):=
 ⟨λC=>(FH G F I J B N O (h.pa C) M L).imp λE U H A=>by
  let⟨R,u,Φ,ρ,a_,g,V,t,k⟩:=A;refine⟨u,Φ,ρ,_,V,t,λds o z vs r p rl T=>?_⟩;let⟨a,b,rfl,r⟩:=r;let⟨v,w,rfl,P,Q⟩:=rl.two_inv
  show⟨v,w,S,k.nx _ o z _ r (g.trans p) (((V.gr p).set P i).set Q j)⟩⟩
end
inductive Fl where|v (d:D)|l (xs:List D)|al (p:Addr)
inductive Om where|lst (xs:List D)|map (LV:List (av×D))|mpT (LV:List (List av×D))|obj (nm:Str) (fs:List (Str×Fl))|ptr|tl (ps:List (Addr×Option (List D)))|pr (xs:List D) (d:D)
noncomputable def Om.solid:Om->Bool
 |.ptr=>ŕ
 |.tl _=>ŕ
 |.pr _ _=>ŕ
 |_=>Ŕ
inductive Sm where|v (d:D)|ob (a:Option Addr) (o:Om)
noncomputable abbrev Sm.own(xs:Y D):Sm:=.ob Œ (.lst xs)
noncomputable abbrev af:=Y (œ Sm)
noncomputable def fQ{c:Type}(K:Â)(Φ:Hp)(a:c×D)(b:c×V):Prop:=a.1=b.1/\Rp K Φ a.2 b.2
inductive FlsR(K:Â)(Φ H:Hp):List (Str×Fl)->List (Str×V)->List Addr->Prop where
 |nil:FlsR K Φ H [] [] []
 |v {f:Str} {d:D} {v:V} {fs:List (Str×Fl)} {vs:List (Str×V)} {qs:List Addr}:Rp K Φ d v->FlsR K Φ H fs vs qs->FlsR K Φ H ((f,.v d)::fs) ((f,v)::vs) qs
 |l {f:Str} {ds:List D} {ws:List V} {q:Addr} {fs:List (Str×Fl)} {vs:List (Str×V)} {qs:List Addr}:H q=Z (.lst ws)->RpL K Φ ds ws->FlsR K Φ H fs vs qs->FlsR K Φ H ((f,.l ds)::fs) ((f,.ref q)::vs) (q::qs)
 |al {f:Str} {p:Addr} {fs:List (Str×Fl)} {vs:List (Str×V)} {qs:List Addr}:FlsR K Φ H fs vs qs->FlsR K Φ H ((f,.al p)::fs) ((f,.ref p)::vs) qs
inductive TlS(K:Â)(Φ H:Hp):List (Addr×Option (List D))->List Addr->Prop where
 |nil:TlS K Φ H [] []
 |ptr {q:Addr} {ps:List (Addr×Option (List D))} {F:List Addr}:TlS K Φ H ps F->TlS K Φ H ((q,Œ)::ps) F
 |own {q:Addr} {ds:List D} {ws:List V} {ps:List (Addr×Option (List D))} {F:List Addr}:H q=Z (.lst ws)->RpL K Φ ds ws->TlS K Φ H ps F->TlS K Φ H ((q,Z ds)::ps) (q::F)
inductive OmS(K:Â)(Φ H:Hp):Om->Addr->List Addr->Prop where
 |lst {ds:List D} {vs:List V} {p:Addr}:H p=Z (.lst vs)->RpL K Φ ds vs->OmS K Φ H (.lst ds) p [p]
 |map {LV:List (av×D)} {ws:List (av×V)} {p:Addr}:H p=Z (.dK ws)->Paired (fQ K Φ) LV ws->OmS K Φ H (.map LV) p [p]
 |mpT {LV:List (List av×D)} {ws:List (List av×V)} {p:Addr}:H p=Z (.dT ws)->Paired (fQ K Φ) LV ws->OmS K Φ H (.mpT LV) p [p]
 |obj {nm:Str} {fs:List (Str×Fl)} {C dx:Addr} {vs:List (Str×V)} {p:Addr} {qs:List Addr}:Ò K Á nm=Z (Z (.ref C))->H p=Z (.ins C dx vs)->FlsR K Φ H fs vs qs->(p::qs).Nodup->OmS K Φ H (.obj nm fs) p (p::qs)
 |ptr {p:Addr}:OmS K Φ H .ptr p []
 |tl {ps:List (Addr×Option (List D))} {p:Addr} {F:List Addr}:Φ p=Z (.tup (ps.map λq=>V.ref q.1))->TlS K Φ H ps F->F.Nodup->OmS K Φ H (.tl ps) p F
 |pr {ds:List D} {d:D} {p q:Addr} {v:V} {ws:List V}:Φ p=Z (.tup [.ref q,v])->H q=Z (.lst ws)->RpL K Φ ds ws->Rp K Φ d v->OmS K Φ H (.pr ds d) p [q]
section
variable{K:Â}{H f Φ a:Hp}{fs:Y (Str×Fl)}{vs:Y (Str×V)}{c F F':Y Addr}{o:Om}{p:Addr}
theorem mS{e g:Type}{F G:e->g->Prop}(h:∀x y,F x y->G x y):∀{l:Y e}{m:Y g},Paired F l m->Paired G l m
 |_,_,.nil=>.nil
 |_,_,.cons r t=>.cons (h _ _ r) (mS h t)
theorem FlsR.keep(s:Same Φ a)(h:FlsR K Φ H fs vs c)(k:∀b∈c,∀u,H b=Z u->f b=Z u):FlsR K a f fs vs c:=by
 induction h with
 |nil=>show .nil
 |v r _ e=>show .v (r.same s) (e k)
 |l g j _ e=>show .l (k _ Ht _ g) (j.same s) (e λb w=>k b (Hv _ w))
 |al _ e=>show .al (e k)
theorem FlsR.at(h:FlsR K Φ H fs vs c):∀b∈c,∃u,H b=Z (.lst u):=by
 induction h with
 |nil=>intro b e;cases e
 |v r _ g=>show g
 |l j w _ g=>
  intro b e;rcases HH.mp e with rfl|e
  ·show⟨_,j⟩
  ·show g b e
 |al _ g=>show g
theorem FlsR.names(h:FlsR K Φ H fs vs c):vs.map (·.1)=fs.map (·.1):=by
 induction h with
 |nil=>rfl
 |v r _ e=>rw[HK,HK,e]
 |l g j _ e=>rw[HK,HK,e]
 |al _ e=>rw[HK,HK,e]
theorem TlS.keep{ps:Y (Addr×œ (Y D))}(s:Same Φ a)(h:TlS K Φ H ps F)(k:∀b∈F,∀u,H b=Z u->f b=Z u):TlS K a f ps F:=by
 induction h with
 |nil=>show .nil
 |ptr _ e=>show .ptr (e k)
 |own g j _ e=>show .own (k _ Ht _ g) (j.same s) (e λb l=>k b (Hv _ l))
theorem TlS.at{ps:Y (Addr×œ (Y D))}(h:TlS K Φ H ps F):∀b∈F,∃l,H b=Z (.lst l):=by
 induction h with
 |nil=>intro b e;cases e
 |ptr _ g=>show g
 |own j r _ g=>
  intro b e;rcases HH.mp e with rfl|e
  ·show⟨_,j⟩
  ·show g b e
theorem TlS.out{q:Addr}{ds:Y D}:∀{ps:Y (Addr×œ (Y D))}{F:Y Addr}{k:Nat},TlS K Φ H ps F->ps[k]?=Z (q,Z ds)->∃e F',H q=Z (.lst e)/\RpL K Φ ds e/\TlS K Φ H (ps.set k (q,Œ)) F'/\F.Perm (q::F')
 |_,_,k,.nil,h=>by simp at h
 |_,_,0,.ptr _,h=>by simp at h
 |_,_,k+1,.ptr t,h=>by let⟨e,F',g,j,r,u⟩:=TlS.out t h;show⟨e,F',g,j,.ptr r,u⟩
 |_,_,0,.own g j t,h=>by cases h;show⟨_,_,g,j,.ptr t,.refl _⟩
 |_,_,k+1,.own (q:=l) g j t,h=>by let⟨e,F',v,w,x,y⟩:=TlS.out t h;show⟨e,l::F',v,w,.own g j x,(y.cons l).trans (List.Perm.swap q l F')⟩
theorem OmS.keep(s:Same Φ a)(h:OmS K Φ H o p F)(k:∀b∈F,∀u,H b=Z u->f b=Z u):OmS K a f o p F:=by
 cases h with
 |lst e g=>show .lst (k _ Ht _ e) (g.same s)
 |map e g=>show .map (k _ Ht _ e) (mS (λ_ _ r=>⟨r.1,r.2.same s⟩) g)
 |mpT e g=>show .mpT (k _ Ht _ e) (mS (λ_ _ r=>⟨r.1,r.2.same s⟩) g)
 |obj l e g j=>show .obj l (k _ Ht _ e) (g.keep s λb w=>k b (Hv _ w)) j
 |ptr=>show .ptr
 |tl e g j=>show .tl (s _ _ e) (g.keep s k) j
 |pr e g j v=>show .pr (s _ _ e) (k _ Ht _ g) (j.same s) (v.same s)
theorem OmS.mem(h:OmS K Φ H o p F)(e:o.solid=Ŕ:=by rfl):p∈F:=by cases h<;>first|show Ht|cases e
theorem OmS.at(h:OmS K Φ H o p F):∀b∈F,∃u,H b=Z u/\mh u:=by
 intro b g
 cases h with
 |lst e j=>rw[Hw.mp g];show⟨_,e,trivial⟩
 |map e j=>rw[Hw.mp g];show⟨_,e,trivial⟩
 |mpT e j=>rw[Hw.mp g];show⟨_,e,trivial⟩
 |obj w e j r=>
  rcases HH.mp g with rfl|g
  ·show⟨_,e,trivial⟩
  ·let⟨v,l⟩:=j.at b g;show⟨_,l,trivial⟩
 |ptr=>cases g
 |tl e j r=>
  let⟨v,l⟩:=j.at b g;show⟨_,l,trivial⟩
 |pr e j r x=>rw[Hw.mp g];show⟨_,j,trivial⟩
theorem OmS.tl_inv{ps:Y (Addr×œ (Y D))}(h:OmS K Φ H (.tl ps) p F):Φ p=Z (.tup (ps.map λq=>V.ref q.1))/\TlS K Φ H ps F/\F.Nodup:=by
 cases h with
 |tl e g j=>show⟨e,g,j⟩
theorem OmS.lst_inv{ds:Y D}(h:OmS K Φ H (.lst ds) p F):F=[p]/\∃vs,H p=Z (.lst vs)/\RpL K Φ ds vs:=by
 cases h with
 |lst e g=>show⟨S,_,e,g⟩
theorem OmS.map_inv{e:Y (av×D)}(h:OmS K Φ H (.map e) p F):F=[p]/\∃g,H p=Z (.dK g)/\Paired (fQ K Φ) e g:=by
 cases h with
 |map j l=>show⟨S,_,j,l⟩
theorem OmS.mpT_inv{e:Y (Y av×D)}(h:OmS K Φ H (.mpT e) p F):F=[p]/\∃g,H p=Z (.dT g)/\Paired (fQ K Φ) e g:=by
 cases h with
 |mpT j l=>show⟨S,_,j,l⟩
theorem OmS.obj_inv{nm:Str}(h:OmS K Φ H (.obj nm fs) p F):∃C e vs c,F=p::c/\Ò K Á nm=Z (Z (.ref C))/\H p=Z (.ins C e vs)/\FlsR K Φ H fs vs c/\(p::c).Nodup:=by
 cases h with
 |obj g j l r=>show⟨_,_,_,_,S,g,j,l,r⟩
theorem OmS.gr(g:Gr Φ H a f)(h:OmS K Φ H o p F):OmS K a f o p F:=h.keep g.f λb _ u e=>g.h b u e
end
structure EnvM'(K:Â)(H0 Φ H:Hp)(σ:St)(ρ:af)(fp:Nat->List Addr):Prop where
 fz:Same Φ H
 len:σ.length=ρ.length
 sl:∀(i:Nat)(d:D),ρ[i]?=Z (Z (.v d))->∃v,σ[i]?=Z (Z v)/\Rp K Φ d v
 ow:∀(i:Nat)(a:Option Addr)(o:Om),ρ[i]?=Z (Z (.ob a o))->∃p,σ[i]?=Z (Z (.ref p))/\(∀q,a=Z q->q=p)/\OmS K Φ H o p (fp i)
 no:∀(i:Nat)(a:Option Addr)(o:Om),ρ[i]?=Z (Z (.ob a o))->∀b∈fp i,H0 b=Œ/\Φ b=Œ
 dj:∀(i j:Nat)(a a':Option Addr)(o o':Om),ρ[i]?=Z (Z (.ob a o))->ρ[j]?=Z (Z (.ob a' o'))->i≠j->∀b∈fp i,b∉fp j
 tb:TabF K Φ
noncomputable def EnvM(K:Â)(a Φ H:Hp)(e:St)(ρ:af):Prop:=∃c,EnvM' K a Φ H e ρ c
section
variable{K:Â}{l H B Φ A G:Hp}{f I:St}{ρ C:af}{w:Nat->Y Addr}{F F':Y Addr}{o o':Om}{p:Addr}{d:D}{v:V}{i:Nat}{a:œ Addr}
theorem EnvM.fz(E:EnvM K l Φ H f ρ):Same Φ H:=let ⟨_,E⟩:=E;E.fz
theorem EnvM.tb(E:EnvM K l Φ H f ρ):TabF K Φ:=let ⟨_,E⟩:=E;E.tb
theorem EnvM.len(E:EnvM K l Φ H f ρ):f.length=ρ.length:=let ⟨_,E⟩:=E;E.len
theorem EnvM.sl(E:EnvM K l Φ H f ρ)(h:ρ[i]?=Z (Z (.v d))):∃v,f[i]?=Z (Z v)/\Rp K Φ d v:=let ⟨_,E⟩:=E;E.sl i d h
theorem EnvM'.gr(E:EnvM' K l Φ H f ρ w)(g:Gr Φ H A B):EnvM' K l A B f ρ w:=
 ⟨g.s,E.len,λi d h=>let ⟨v,e,r⟩:=E.sl i d h;⟨v,e,r.same g.f⟩,λi a o h=>let ⟨p,e,ha,r⟩:=E.ow i a o h;⟨p,e,ha,r.gr g⟩,
  λi a o h b c=>by
   let⟨p,_,_,r⟩:=E.ow i a o h;let⟨u,j,k⟩:=r.at b c
   show⟨(E.no i a o h b c).1,g.o b u j (E.no i a o h b c).2 k⟩,E.dj,E.tb.same g.f⟩
theorem EnvM.gr(E:EnvM K l Φ H f ρ)(g:Gr Φ H A B):EnvM K l A B f ρ:=let ⟨w,E⟩:=E;⟨w,E.gr g⟩
theorem EnvM.re(m:Nat->Nat)(E:EnvM K l Φ H f ρ)(y:I.length=C.length)(h:∀(i:Nat)(x:Sm),C[i]?=Z (Z x)->ρ[m i]?=Z (Z x)/\I[i]?=f[m i]?)
  (inj:∀(i j:Nat)(a a':œ Addr)(o o':Om),C[i]?=Z (Z (.ob a o))->C[j]?=Z (Z (.ob a' o'))->m i=m j->i=j):EnvM K l Φ H I C:=by
 let⟨w,E⟩:=E;refine⟨λi=>w (m i),E.fz,y,λi d hd=>?_,λi a o ho=>?_,λi a o ho=>E.no _ a o (h i _ ho).1,λi j a a' o o' g u c=>E.dj _ _ a a' o o' (h i _ g).1 (h j _ u).1 λe=>c (inj i j a a' o o' g u e),E.tb⟩
 ·let⟨v,e,r⟩:=E.sl _ d (h i _ hd).1;show⟨v,by rw[(h i _ hd).2];show e,r⟩
 ·let⟨p,e,r⟩:=E.ow _ a o (h i _ ho).1;show⟨p,by rw[(h i _ ho).2];show e,r⟩
theorem EnvM.take{u:St}{r:af}(E:EnvM K l Φ H (f++u) (ρ++r))(h:ρ.length=f.length):EnvM K l Φ H f ρ:=
 E.re id h.symm (λi x c=>by
  have g:=aB c
  show⟨by rw[id,Hk g];show c,by rw[id,Hk ()]⟩) λi j _ _ _ _ _ _ e=>e
theorem EnvM'.take{z:St}{u:af}(E:EnvM' K l Φ H (f++z) (ρ++u) w)(g:ρ.length=f.length):EnvM' K l Φ H f ρ w:=by
 have up:∀{i:Nat}{x:Sm},ρ[i]?=Z (Z x)->(ρ++u)[i]?=Z (Z x):=λh=>by rw[Hk (aB h)];show h
 have c:∀{i:Nat}{x:Sm}{y:œ V},ρ[i]?=Z (Z x)->(f++z)[i]?=Z y->f[i]?=Z y:=λh e=>by rwa [Hk (by rw[←g];show aB h)]at e
 show⟨E.fz,g.symm,λi d h=>let ⟨v,e,r⟩:=E.sl i d (up h);⟨v,c h e,r⟩,λi a o h=>let ⟨p,e,r⟩:=E.ow i a o (up h);⟨p,c h e,r⟩,λi a o h=>E.no i a o (up h),λi j a a' o o' J L=>E.dj i j a a' o o' (up J) (up L),E.tb⟩
theorem EnvM.store{v:V}{x:Sm}(E:EnvM K l Φ H (f++[Z v]) (ρ++[Z x]))(i:Nat):EnvM K l Φ H (f.set i (Z v)) (ρ.set i (Z x)):=by
 have r:f.length=ρ.length:=by have:=E.len;simpa using this
 refine E.re (λj=>if j=i then ρ.length else j) (by rw[Hs,Hs,r]) (λj y g=>?_) λj k a a' o o' g u e=>?_
 ·by_cases c:j=i
  ·subst c
   have h:j<ρ.length:=by have:=aB g;rwa [Hs]at this
   rw[HV h]at g;cases g;rw[Hx S,HV (),Hl (Hr _),Hl (),Ic,r,Ic];show⟨S,S⟩
  ·rw[HP (IE c)]at g;have h:=aB g;rw[Hq c,HP (IE c),Hk h,Hk ()];show⟨g,S⟩
 ·have J:j<ρ.length:=by have:=aB g;rwa [Hs]at this
  have z:k<ρ.length:=by have:=aB u;rwa [Hs]at this
  have e:(if j=i then ρ.length else j)=(if k=i then ρ.length else k):=e;split at e<;>split at e<;>omega
theorem EnvM.snocV(E:EnvM K l Φ H f ρ)(r:Rp K Φ d v):EnvM K l Φ H (f++[Z v]) (ρ++[Z (.v d)]):=by
 let⟨w,E⟩:=E
 have g:∀{i:Nat}{a:œ Addr}{o:Om},(ρ++[Z (Sm.v d)])[i]?=Z (Z (.ob a o))->ρ[i]?=Z (Z (.ob a o)):=λ{i a o} h=>by
  rcases Ik i ρ.length with c|c
  ·rwa [Hk c]at h
  ·rw[Hl c]at h
   cases e:i-ρ.length with
   |zero=>rw[e]at h;cases h
   |succ n=>rw[e]at h;cases h
 refine⟨w,E.fz,by rw[Hm,Hm,E.len];rfl,λi d' h=>?_,λi a o h=>?_,λi a o h=>E.no i a o (g h),λi j a a' o o' x y=>E.dj i j a a' o o' (g x) (g y),E.tb⟩
 ·rcases Ik i ρ.length with c|c
  ·rw[Hk c]at h;let⟨u,e,r⟩:=E.sl i d' h;show⟨u,by rw[Hk (by rw[E.len];show c)];show e,r⟩
  ·rw[Hl c]at h
   cases e:i-ρ.length with
   |zero=>
    rw[e]at h;cases h;show⟨v,by rw[Hl (by rw[E.len];show c),E.len,e];rfl,r⟩
   |succ n=>rw[e]at h;cases h
 ·let⟨p,e,r⟩:=E.ow i a o (g h);have x:=aB (g h);show⟨p,by rw[Hk (by rw[E.len];show x)];show e,r⟩
theorem EnvM.snocO(E:EnvM K l Φ H f ρ)(a_:Same l H)(g:Gr Φ H A B)(ho:OmS K A B o p F)(R:∀b∈F,H b=Œ/\A b=Œ):EnvM K l A B (f++[Z (.ref p)]) (ρ++[Z (.ob Œ o)]):=by
 let⟨w,E⟩:=E
 have P:∀b∈F,∀(i:Nat)(a:œ Addr)(o:Om),ρ[i]?=Z (Z (.ob a o))->b∉w i:=λb y i a o h z=>by let⟨q,_,_,r⟩:=E.ow i a o h;let⟨u,T,_⟩:=r.at b z;rw[(R b y).1]at T;cases T
 have N:=E.gr g
 have M:∀{i:Nat}{x:Sm},(ρ++[Z (Sm.ob Œ o)])[i]?=Z (Z x)->(i<ρ.length/\ρ[i]?=Z (Z x))\/(i=ρ.length/\x=.ob Œ o):=λ{i x} h=>by
  rcases Ik i ρ.length with c|c
  ·rw[Hk c]at h;show .inl ⟨c,h⟩
  ·rw[Hl c]at h
   cases e:i-ρ.length with
   |zero=>rw[e]at h;cases h;show .inr ⟨(),S⟩
   |succ n=>rw[e]at h;cases h
 refine⟨λi=>if i=ρ.length then F else w i,N.fz,by rw[Hm,Hm,E.len];rfl,λi d h=>?_,λi a o' h=>?_,λi a o' h b y=>?_,λi j a a' U X O J c b y L=>?_,N.tb⟩
 ·rcases M h with⟨c,h⟩|⟨_,h⟩
  ·let⟨v,e,r⟩:=N.sl i d h;show⟨v,by rw[Hk (by rw[E.len];show c)];show e,r⟩
  ·cases h
 ·rcases M h with⟨c,h⟩|⟨c,h⟩
  ·let⟨q,e,r⟩:=N.ow i a o' h;show⟨q,by rw[Hk (by rw[E.len];show c)];show e,by rw[Hq ()];show r⟩
  ·cases h;subst c;refine⟨p,by rw[Hl (by rw[E.len];show Hr _),E.len,Ic];rfl,(λq e=>by cases e),by rw[Hx S];show ho⟩
 ·rcases M h with⟨c,h⟩|⟨c,h⟩
  ·rw[Hq ()]at y;show N.no i a o' h b y
  ·rw[Hx c]at y;show⟨a_.free (R b y).1,(R b y).2⟩
 ·rcases M O with⟨be,O⟩|⟨be,O⟩
  ·rw[Hq ()]at y;rcases M J with⟨Q,J⟩|⟨Q,J⟩
   ·rw[Hq ()]at L;show E.dj i j a a' U X O J c b y L
   ·rw[Hx Q]at L;show P b L i a U O y
  ·rw[Hx be]at y;rcases M J with⟨Q,J⟩|⟨Q,J⟩
   ·rw[Hq ()]at L;show P b y j a' X J L
   ·omega
theorem EnvM'.put(E:EnvM' K l Φ H f ρ w)(P:ρ[i]?=Z (Z (.ob a o)))(si:f[i]?=Z (Z (.ref p)))(U:∀b u,H b=Z u->b∉w i->B b=Z u)(hO:OmS K Φ B o' p F')(T:∀b∈F',b∈w i\/(H b=Œ/\l b=Œ/\Φ b=Œ)) :
  EnvM' K l Φ B f (ρ.set i (Z (.ob a o'))) (λj=>if j=i then F' else w j):=by
 have Ma:=aB P
 have O:∀{j:Nat}{x:Sm},(ρ.set i (Z (Sm.ob a o')))[j]?=Z (Z x)->(j=i/\x=.ob a o')\/(j≠i/\ρ[j]?=Z (Z x)):=λ{j x} h=>by
  rcases dX h with⟨e,_,a_⟩|⟨e,h⟩
  ·cases a_;show .inl ⟨e,S⟩
  ·show .inr ⟨e,h⟩
 have X:∀b∈F',∀(j:Nat)(a':œ Addr)(y:Om),ρ[j]?=Z (Z (.ob a' y))->j≠i->b∉w j:=λb g j a' y J c z=>by
  rcases T b g with h|⟨h,_⟩
  ·show E.dj j i a' a y o J P c b z h
  ·let⟨q,_,_,r⟩:=E.ow j a' y J;let⟨u,R,_⟩:=r.at b z;rw[h]at R;cases R
 refine⟨λb u e=>U b u (E.fz b u e) λz=>?_,by rw[Hs,E.len],λj d h=>?_,λj a' y h=>?_,λj a' y h b g=>?_,λj k a1 a2 be y J L c b g N=>?_,E.tb⟩
 ·rw[(E.no i a o P b z).2]at e;cases e
 ·rcases O h with⟨_,h⟩|⟨_,h⟩
  ·cases h
  ·show E.sl j d h
 ·rcases O h with⟨c,h⟩|⟨c,h⟩
  ·cases h;subst c;let⟨q,e,b_,_⟩:=E.ow j a o P;rw[si]at e;cases e;show⟨p,si,b_,by rw[Hx S];show hO⟩
  ·let⟨q,e,b_,r⟩:=E.ow j a' y h;refine⟨q,e,b_,?_⟩;rw[Hq c];show r.keep (Same.refl _) λb g u R=>U b u R λz=>E.dj j i a' a y o h P c b g z
 ·rcases O h with⟨c,h⟩|⟨c,h⟩
  ·rw[Hx c]at g;rcases T b g with z|⟨_,z⟩
   ·show E.no i a o P b z
   ·show z
  ·rw[Hq c]at g;show E.no j a' y h b g
 ·rcases O J with⟨Q,J⟩|⟨Q,J⟩
  ·rw[Hx Q]at g;rcases O L with⟨M,L⟩|⟨M,L⟩
   ·omega
   ·rw[Hq M]at N;show X b g k a2 y L M N
  ·rw[Hq Q]at g;rcases O L with⟨M,L⟩|⟨M,L⟩
   ·rw[Hx M]at N;show X b N j a1 be J Q g
   ·rw[Hq M]at N;show E.dj j k a1 a2 be y J L c b g N
theorem EnvM'.grput(E:EnvM' K l Φ H f ρ w)(g:Gr G l Φ H)(h:ρ[i]?=Z (Z (.ob a o)))(c:∀b u,H b=Z u->b∉w i->B b=Z u):Gr G l Φ B:=
 ⟨g.f,λb u e=>c b u (g.h b u e) (λz=>by rw[(E.no i a o h b z).1]at e;cases e),λb u e=>c b u (g.s b u e) (λz=>by rw[(E.no i a o h b z).2]at e;cases e),λp u j r k=>g.o p u j r k⟩
theorem EnvM.list{ds:Y D}(E:EnvM K l Φ H f ρ)(g:Gr G l Φ H)(h:ρ[i]?=Z (Z (.ob a (.lst ds)))):∃q vs,f[i]?=Z (Z (.ref q))/\H q=Z (.lst vs)/\l q=Œ/\Φ q=Œ/\RpL K Φ ds vs /\
  ∀(es:Y D)(c:Y V),RpL K Φ es c->EnvM K l Φ (am H q (.lst c)) f (ρ.set i (Z (.ob a (.lst es))))/\Gr G l Φ (am H q (.lst c)):=by
 let⟨w,E⟩:=E;let⟨q,e,_,r⟩:=E.ow i a _ h;have j:=r.mem;have x:=E.no i a _ h q j;let⟨_,vs,L,M⟩:=r.lst_inv;refine⟨q,vs,e,L,x.1,x.2,M,λes c J=>?_⟩
 have y:∀b u,H b=Z u->b∉w i->am H q (.lst c) b=Z u:=λb u e hn=>by
  rw[aS λz=>hn (by rw[z];show j)];show e
 show⟨⟨_,E.put h e y (F':=[q]) (.lst bg J) λb N=>.inl (by rw[Hw.mp N];show j)⟩,E.grput g h y⟩
end
noncomputable def oV:œ Sm->œ Sl
 |some (.v d)=>Z (.v d)
 |some (.ob _ (.lst xs))=>Z (.own xs)
 |some (.ob _ (.map a))=>Z (.dct (a.map (·.1)))
 |some (.ob _ (.mpT a))=>Z (.dcT (a.map (·.1)))
 |_=>Œ
noncomputable abbrev dw(ρ:af):bq:=ρ.map oV
theorem km{c:Type}{K:Â}{Φ:Hp}:∀{a:Y (c×D)}{b:Y (c×V)},Paired (fQ K Φ) a b->b.map (·.1)=a.map (·.1)
 |_,_,.nil=>rfl
 |_,_,.cons r t=>by rw[HK,HK,km t,r.1]
theorem EnvM.toD{K:Â}{F Φ H:Hp}{C:St}{ρ:af}(E:EnvM K F Φ H C ρ):EnvD K F Φ H C (dw ρ):=by
 let⟨L,E⟩:=E
 have at_:∀{i:Nat}{x:Sl},(dw ρ)[i]?=Z (Z x)->∃y,ρ[i]?=Z (Z y)/\oV (Z y)=Z x:=λ{i x} h=>by
  rw[Hy]at h
  cases e:ρ[i]? with
  |none=>rw[e]at h;cases h
  |some y=>
   rw[e]at h
   cases y with
   |none=>cases h
   |some y=>show⟨y,S,HR h⟩
 have ow:∀{i:Nat}{o:Ow},(dw ρ)[i]?=Z (Z (.ob o))->∃a f p u,ρ[i]?=Z (Z (.ob a f))/\C[i]?=Z (Z (.ref p))/\p∈L i/\H p=Z u/\OwR K Φ o u:=λ{i o} h=>by
  let⟨y,z,e⟩:=at_ h
  cases y with
  |v d=>cases e
  |ob a f=>
   let⟨p,B,_,r⟩:=E.ow i a f z;refine⟨a,f,p,?_⟩
   cases f with
   |lst ds=>let⟨_,vs,g,l⟩:=r.lst_inv;cases e;show⟨_,z,B,r.mem,g,l⟩
   |map I=>let⟨_,vs,g,l⟩:=r.map_inv;cases e;show⟨_,z,B,r.mem,g,km l⟩
   |mpT I=>let⟨_,vs,g,l⟩:=r.mpT_inv;cases e;show⟨_,z,B,r.mem,g,km l⟩
   |obj nm fs=>cases e
   |ptr=>cases e
   |tl ps=>cases e
   |pr ds d=>cases e
 refine⟨E.fz,by rw[Hj,E.len],λi d h=>?_,λi o h=>?_,λi j o w p O P si a_=>?_,E.tb⟩
 ·let⟨y,z,e⟩:=at_ h
  cases y with
  |v d'=>cases e;show E.sl i d z
  |ob a f=>cases f<;>cases e
 ·let⟨a,f,p,u,g,l,A,M,N⟩:=ow h;show⟨p,u,l,(E.no i a f g p A).1,(E.no i a f g p A).2,M,N⟩
 ·let⟨a,f,T,u,g,l,A,_,_⟩:=ow O;let⟨a',J,U,u',Q,G,R,_,_⟩:=ow P;rw[si]at l;cases l;rw[a_]at G;cases G;rcases JW (i=j)with c|c
  ·show c
  ·show absurd R (E.dj i j a a' f J g Q c p A)
noncomputable def DD(h:Heap)(e:Addr)(vs:Array Value)(T:œ Addr)(f:Value):Prop:=match T with
 |none=>vs[1]?=Z .none
 |some T=>vs[1]?=Z (.ref T)/\T≠e/\∃a c,h.get? T=Z a/\a.data=.fields c/\c[3]?=Z f
structure Fly(h:Heap)(e:Addr)(T:Option Addr)(fl cls:Value)(dx:Option Addr):Prop where
 ex:∃oe vs,h.get? e=Z oe/\oe.data=.fields vs/\oe.cls=cls/\oe.dict=dx/\DD h e vs T fl
structure XD where
 nm:Str
 at_:Option D
noncomputable def ya(K:Â)(H:Hp)(at_:œ D)(a:œ Addr):Prop:=match at_ with
 |none=>a=Œ
 |some d=>∃p v,a=Z p/\H p=Z (.xd [("at",v)])/\Rp K (λ_=>Œ) d v
structure XSt(X:Cx)(pins:List (Addr×Ô))(σ:St)(H:Hp)(xd:XD)(e:Value)(s:À):Prop where
 inv:Inv X pins σ H s
 ex:∃(ea C:Addr)(T dx:Option Addr),e=.ref ea/\Fly s.heap ea T .none (.ref C) dx/\X.mg xd.nm=Z (.ref C)/\ya X.K H xd.at_ dx/\(X.s₀.heap.get? ea=Œ/\H ea=Œ/\∀p∈X.pn++pins,p.1≠ea)/\∀T',T=Z T'->X.s₀.heap.get? T'=Œ/\H T'=Œ/\∀p∈X.pn++pins,p.1≠T'
noncomputable def XeOk(K:Â)(X:Cx)(j l:Hp)(r:XD->af->Prop):Prop:=∀p f c h g e o a,r p f->Gr j l c h->EnvM K l c h g f->XSt X a g h p e o->X.xe e o
structure StM(K:Â)(X:Cx)(Φ0 H0 Φ H:Hp)(σ τ:St)(ρ κ:af)(Rx:XD->af->Prop):Prop where
 g:Gr Φ0 H0 Φ H
 l:ρ.length=σ.length
 E:EnvM K H0 Φ H (σ++τ) (ρ++κ)
 x:XeOk K X Φ0 H0 Rx
inductive Ar where|t (s:Sm)|s (i:Nat)
noncomputable abbrev TX:=af->(Sm->af->Prop)->(XD->af->Prop)->Prop
noncomputable abbrev cU:=af->(Bool->af->Prop)->(XD->af->Prop)->Prop
noncomputable abbrev cT:=af->(Y Ar->af->Prop)->(XD->af->Prop)->Prop
noncomputable def dJ(as:Y Ar):af:=as.filterMap λa=>match a with|.t s=>Z (Z s)|.s _=>Œ
inductive ArV(σ:St):List Ar->List V->St->Prop where
 |nil:ArV σ [] [] []
 |t {s:Sm} {v:V} {as:List Ar} {vs:List V} {ts:St}:ArV σ as vs ts->ArV σ (.t s::as) (v::vs) (Z v::ts)
 |s {i:Nat} {v:V} {as:List Ar} {vs:List V} {ts:St}:σ[i]?=Z (Z v)->ArV σ as vs ts->ArV σ (.s i::as) (v::vs) ts
inductive lXm(K:Â)(X:Cx)(t:TX)(σ:St)(H:Hp)(Q:VK):Prop|mk (Φ0:Hp) (H0:Hp) (Φ:Hp) (τ:St) (ρ:af) (κ:af) (R:Sm->af->Prop) (Rx:XD->af->Prop) (_:StM K X Φ0 H0 Φ H σ τ ρ κ Rx) (_:t ρ R Rx) (_:∀sm ρ' Φ' H' v,R sm ρ'->StM K X Φ0 H0 Φ' H' σ (τ++[Z v]) ρ' (κ++[Z sm]) Rx->Same Φ Φ'->Q v H')
inductive lXb(K:Â)(X:Cx)(t:cU)(σ:St)(H:Hp)(Q:Bool->Hp->Prop):Prop|mk (Φ0:Hp) (H0:Hp) (Φ:Hp) (τ:St) (ρ:af) (κ:af) (R:Bool->af->Prop) (Rx:XD->af->Prop) (_:StM K X Φ0 H0 Φ H σ τ ρ κ Rx) (_:t ρ R Rx) (_:∀b ρ' Φ' H',R b ρ'->StM K X Φ0 H0 Φ' H' σ τ ρ' κ Rx->Same Φ Φ'->Q b H')
inductive lXa(K:Â)(X:Cx)(n:Nat)(t:cT)(σ:St)(H:Hp)(Q:List V->Hp->Prop):Prop|mk (Φ0:Hp) (H0:Hp) (Φ:Hp) (τ:St) (ρ:af) (κ:af) (R:List Ar->af->Prop) (Rx:XD->af->Prop) (_:StM K X Φ0 H0 Φ H σ τ ρ κ Rx) (_:t ρ R Rx) (_:∀as ρ' Φ' H' vs ts,R as ρ'->as.length=n->ArV σ as vs ts->StM K X Φ0 H0 Φ' H' σ (τ++ts) ρ' (κ++dJ as) Rx->Same Φ Φ'->Q vs H')
structure PX(K:Â)(X:Cx)(e:Ã)(t:TX):Prop where pe:X.K=K->PE X e (lXm K X t)
structure PXB(K:Â)(X:Cx)(e:Ã)(t:cU):Prop where pt:X.K=K->PT X e (lXb K X t)
structure PXW(K:Â)(X:Cx)(e:Ã)(t:cU):Prop where pw:X.K=K->PW X e (lXb K X t)
structure PXA(K:Â)(X:Cx)(es:List Ã)(t:cT):Prop where pa:X.K=K->PA X es (lXa K X es.length t)
section
variable{K:Â}{X:Cx}{a l Φ x H z:Hp}{j f A:St}{ρ c B:af}{y:XD->af->Prop}{d:D}{v:V}
theorem StM.gr(Q:StM K X a l Φ H j f ρ c y)(g:Gr Φ H x z):StM K X a l x z j f ρ c y:=⟨Q.g.trans g,Q.l,Q.E.gr g,Q.x⟩
theorem StM.env(Q:StM K X a l Φ H j f ρ c y):EnvM K l Φ H j ρ:=Q.E.take Q.l
theorem StM.lk(Q:StM K X a l Φ H j f ρ c y):c.length=f.length:=by have:=Q.E.len;rw[Hm,Hm]at this;have:=Q.l;omega
theorem StM.pop(Q:StM K X a l Φ H j (f++A) ρ (c++B) y)(e:c.length=f.length):StM K X a l Φ H j f ρ c y:=⟨Q.g,Q.l,by
 have E:=Q.E;rw[←HF,←HF]at E
 show E.take (by rw[Hm,Hm,Q.l,e]),Q.x⟩
theorem StM.pushV(Q:StM K X a l Φ H j f ρ c y)(r:Rp K Φ d v):StM K X a l Φ H j (f++[Z v]) ρ (c++[Z (.v d)]) y:=⟨Q.g,Q.l,by
 rw[←HF,←HF]
 show Q.E.snocV r,Q.x⟩
theorem StM.pushO{o:Om}{p:Addr}{F:Y Addr}(Q:StM K X a l Φ H j f ρ c y)(g:Gr Φ H x z)(ho:OmS K x z o p F)(e:∀b∈F,H b=Œ/\x b=Œ):StM K X a l x z j (f++[Z (.ref p)]) ρ (c++[Z (.ob Œ o)]) y:=⟨Q.g.trans g,Q.l,by
 rw[←HF,←HF]
 show Q.E.snocO Q.g.h g ho e,Q.x⟩
theorem StM.at(Q:StM K X a l Φ H j f ρ c y){i:Nat}(h:c[i]?=Z (Z (.v d))):∃v,f[i]?=Z (Z v)/\Rp K Φ d v:=by have g:=aB h;let⟨v,e,r⟩:=Q.E.sl (i:=ρ.length+i) (d:=d) (by rw[Hl (),IU];show h);rw[Q.l,Hl (),IU]at e;show⟨v,e,r⟩
theorem StM.last(Q:StM K X a l Φ H j (f++[Z v]) ρ (c++[Z (.v d)]) y):Rp K Φ d v:=by
 have g:=Q.lk;rw[Hm,Hm]at g
 have g:c.length=f.length:=by simpa using g
 let⟨u,e,r⟩:=Q.at (i:=c.length) (d:=d) (by rw[Hl (Hr _),Ic];rfl);rw[g,Hl (Hr _),Ic]at e;cases e;show r
theorem StM.last2{e:D}{w:V}(Q:StM K X a l Φ H j ((f++[Z v])++[Z w]) ρ ((c++[Z (.v d)])++[Z (.v e)]) y):Rp K Φ d v/\Rp K Φ e w:=by
 refine⟨?_,Q.last⟩;have g:=Q.lk;simp only[Hm,HD,IZ]at g
 have g:c.length=f.length:=by omega
 show (Q.pop (by simp only[Hm,HD,IZ];omega)).last
end
section
variable{K:Â}{X:Cx}{e a b c:Ã}{es:Y Ã}{f p:Õ}{t l tb:TX}{B:cT}{A C:cU}
noncomputable def xD(t:TD):TX:=λρ R _=>t (dw ρ) λd=>R (.v d) ρ
theorem ag{t:TD}(h:PD K X e t):PX K X e (xD t):=⟨λx=>(h.pe x).imp λG H Q w=>by
 let⟨z,u,Φ,I,ρ,F,R,E,U,t,k⟩:=w
 show⟨u,Φ,dw ρ,_,U.env.toD,t,λd j o v r g y=>k _ ρ j o v r ((U.gr g).pushV y) g.f⟩⟩
noncomputable def xF(t:aM):TX:=λρ R _=>t (dw ρ) λds=>R (.own ds) ρ
theorem dU{t:aM}(h:PF K X e t):PX K X e (xF t):=⟨λx=>(h.pe x).imp λI H Q v=>by
 let⟨E,u,Φ,J,ρ,G,R,F,U,t,k⟩:=v
 show⟨u,Φ,dw ρ,_,U.env.toD,t,λds j o p vs r g w hn z rr=>k _ ρ j o _ r (U.pushO g (.lst z rr) λb y=>by rw[Hw.mp y];show⟨w,hn⟩) g.f⟩⟩
noncomputable def xB(t:b9):cU:=λρ R _=>t (dw ρ) λb=>R b ρ
theorem bR{t:b9}(h:PTD K X e t):PXB K X e (xB t):=⟨λw=>(h.pt w).imp λE H Q v=>by
 let⟨x,u,Φ,F,ρ,z,R,y,U,t,k⟩:=v
 show⟨u,Φ,dw ρ,_,U.env.toD,t,λb j o r g=>k b ρ j o r (U.gr g) g.f⟩⟩
noncomputable def xV(k:D->af->Prop):Sm->af->Prop:=λs ρ=>match s with|.v d=>k d ρ|_=>False
theorem xV.get{k:D->af->Prop}{s:Sm}{ρ:af}(h:xV k s ρ):∃d,s=.v d/\k d ρ:=by
 cases s with
 |v d=>show⟨d,S,h⟩
 |ob _ _=>show h.elim
noncomputable def jv(r:cK)(l tb:TX):TX:=λρ R j=>l ρ (xV λx g=>tb g (xV λy h=>r x y λd=>R (.v d) h) j) j
theorem lz{r:cK}{O:St}{H:Hp}{Q:VK}(h:lXm K X (jv r l tb) O H Q):iB (lR2 K r) (lXm K X l) (lXm K X tb) O H Q:=by let⟨j,M,Φ,τ,ρ,κ,R,N,b_,t,k⟩:=h;refine⟨j,M,Φ,τ,ρ,κ,_,N,b_,t,λs1 J G H1 v z T U=>?_⟩;let⟨x,rfl,z⟩:=z.get;refine⟨j,M,G,_,J,_,_,N,T,z,λs2 L I H2 w E o be=>?_⟩;let⟨y,rfl,E⟩:=E.get;let⟨rx,ry⟩:=o.last2;refine⟨I,x,y,_,o.g.s,.inl rx,.inl ry,E,λd F P u a_ g ru=>?_⟩;rw[HF,HF]at o;show k _ L F P u a_ (((o.pop b_.lk).gr g).pushV ru) ((U.trans be).trans g.f)
theorem dm{h:ë}{r:cK}(ho:OpD K X (Í h) r)(j:PX K X a l)(o:PX K X b tb):PX K X (.BinOp a h b f) (jv r l tb):=
 ⟨λg=>(sY (ho.o g) (j.pe g) (o.pe g)).imp λ_ _ _=>lz⟩
theorem xh{h:ď}{r:cK}(ho:OpD K X (É h) r)(j:PX K X a l)(o:PX K X b tb)(u:behindInMarks h b=ŕ):PX K X (.Compare a [h] [b] f) (jv r l tb):=
 ⟨λg=>(v4 (ho.o g) (j.pe g) (o.pe g) u).imp λ_ _ _=>lz⟩
noncomputable def uY(t:TX):cU:=λρ R h=>t ρ (xV λd g=>match d with|.bl b=>R b g|_=>False) h
theorem Dw{r:cK}{y:St}{H:Hp}{Q:Bool->Hp->Prop}(h:lXb K X (uY (jv r l tb)) y H Q):ql (iB (lR2 K r) (lXm K X l) (lXm K X tb)) y H Q:=by
 let⟨j,z,Φ,L,ρ,J,R,F,U,t,k⟩:=h;refine lz ⟨j,z,Φ,L,ρ,J,_,F,U,t,λM u o E v g w G=>?_⟩;let⟨x,rfl,g⟩:=g.get;have I:=w.last;let⟨b,rfl,g⟩:=iT g;obtain rfl:=I.b;show⟨b,S,k b u o E g (w.pop U.lk) G⟩
theorem AE{h:ď}{r:cK}(ho:OpD K X (É h) r)(j:PX K X a l)(o:PX K X b tb)(u:behindInMarks h b=ŕ):PXB K X (.Compare a [h] [b] f) (uY (jv r l tb)):=
 ⟨λg=>(vY (ho.o g) (j.pe g) (o.pe g) u).imp λ_ _ _=>Dw⟩
noncomputable def EH(t u:cU):cU:=λρ R h=>t ρ (λc g=>(c=Ŕ->u g R h)/\(c=ŕ->R ŕ g)) h
noncomputable def AX(t u:cU):cU:=λρ R h=>t ρ (λc g=>(c=Ŕ->R Ŕ g)/\(c=ŕ->u g R h)) h
theorem PXW.toB(h:PXW K X e A):PXB K X e A:=⟨λg=>(h.pw g).pt⟩
theorem uC(h:PXB K X a A):PXW K X (.BoolOp .And [a] f) A:=⟨λg=>vp (h.pt g)⟩
theorem B1(h:PXB K X a A):PXW K X (.BoolOp .Or [a] f) A:=⟨λg=>sM (h.pt g)⟩
theorem mU(N:PXB K X a A)(O:PXW K X (.BoolOp .And (b::es) f) C):PXW K X (.BoolOp .And (a::b::es) f) (EH A C):=
 ⟨λy=>(uw (N.pt y) (O.pw y)).imp λT H Q J=>by
  let⟨g,u,Φ,F,ρ,E,R,v,U,t,k⟩:=J;refine⟨g,u,Φ,F,ρ,E,_,v,U,t,λc j h I z w x=>?_⟩
  cases c with
  |true=>rw[Hx S];show⟨g,u,h,F,j,E,R,v,w,z.1 S,λb r o G P L M=>k b r o G P L (x.trans M)⟩
  |false=>rw[Hq 'b'];show k _ j h I (z.2 S) w x⟩
theorem FV(N:PXB K X a A)(O:PXW K X (.BoolOp .Or (b::es) f) C):PXW K X (.BoolOp .Or (a::b::es) f) (AX A C):=
 ⟨λy=>(vZ (N.pt y) (O.pw y)).imp λT H Q J=>by
  let⟨g,u,Φ,F,ρ,E,R,v,U,t,k⟩:=J;refine⟨g,u,Φ,F,ρ,E,_,v,U,t,λc j h I z w x=>?_⟩
  cases c with
  |true=>rw[Hx S];show k _ j h I (z.1 S) w x
  |false=>rw[Hq 'b'];show⟨g,u,h,F,j,E,R,v,w,z.2 S,λb r o G P L M=>k b r o G P L (x.trans M)⟩⟩
noncomputable def AM(t:TX):cU:=λρ R h=>t ρ (xV λd g=>qA d λb=>R b g) h
theorem vK(L:PX K X a l)(M:∀g,isTrue a X.env g=(do let v ←g;standAt a.pos;holding [v] (truthy v))):PXB K X a (AM l):=
 ⟨λw=>(tH (L.pe w) M).imp λT H Q E=>by
  let⟨r,y,Φ,O,ρ,N,R,F,U,t,k⟩:=E;refine⟨r,y,Φ,O,ρ,N,_,F,U,t,λP h u z v o j G=>?_⟩;let⟨x,rfl,o⟩:=o.get;let⟨b,I,J⟩:=v7 (R:=λb=>R b h) j.g.s (.inl j.last) o;rw[w]
  show⟨b,I,k b h u z J (j.pop U.lk) G⟩⟩
noncomputable def Ax:cT:=λρ R _=>R [] ρ
noncomputable def Cw(t:TX)(u:cT):cT:=λρ R j=>t ρ (λs g=>u g (λas h=>R (.t s::as) h) j) j
noncomputable def xY(i:Nat)(u:cT):cT:=λρ R h=>u ρ (λas g=>R (.s i::as) g) h
theorem bc:PXA K X [] Ax:=⟨λ_=>pa_nil.imp λu H Q g=>by
 let⟨h,j,Φ,v,ρ,r,R,o,U,t,k⟩:=g
 show k [] ρ Φ H [] [] t S .nil (by rw[Ii,show dJ []=[]from rfl,Ii];show U) (Same.refl _)⟩
theorem aH(J:PX K X e t)(M:PXA K X es B)(N:starEach (e::es) X.env=(ŕ,eval e X.env)::starEach es X.env):PXA K X (e::es) (Cw t B):=
 ⟨λy=>(eN (J.pe y) (M.pa y) N).imp λσ H Q E=>by
  let⟨g,u,Φ,a_,ρ,be,R,w,b_,t,k⟩:=E;refine⟨g,u,Φ,a_,ρ,be,_,w,b_,t,λs1 o h H1 v P F G=>?_⟩;refine⟨g,u,h,_,o,_,_,w,F,P,λas r j z vs U T L O x I=>?_⟩;refine k _ r j z (v::vs) (Z v::U) T (by rw[HD,HD,L]) (.t O) ?_ (G.trans I);rw[HF,HF]at x
  show x⟩
theorem bG(i:Nat){x:Str}(M:PXA K X es B)(N:starEach (.Name x f::es) X.env=(ŕ,eval (.Name x f) X.env)::starEach es X.env)(J:X.N[i]?=Z x:=by rfl)(h:cI X.env.scope x:=by nofun)(hd:ab x:=by decide)
  (y:fI x:=by decide):PXA K X (.Name x f::es) (λρ R g=>(∃a o,ρ[i]?=Z (Z (.ob a o)))/\xY i B ρ R g):=
 ⟨λI=>(eN (pv i J h hd y) (M.pa I) N).imp λa_ H Q z=>by
  let⟨j,v,Φ,U,ρ,T,R,g,b_,⟨⟨a,o,ho⟩,t⟩,k⟩:=z;let⟨be,E⟩:=b_.env;let⟨q,e,_⟩:=E.ow i a o ho;refine⟨_,e,j,v,Φ,U,ρ,T,_,g,b_,t,λas u r w vs P O L h F G=>?_⟩
  show k _ u r w (.ref q::vs) P O (by rw[HD,HD,L]) (.s e h) F G⟩
noncomputable def gy:Y Ar->œ (Y D)
 | []=>Z []
 |.t (.v d)::as=>(gy as).map (d::·)
 |_=>Œ
noncomputable def xaD(k:Y D->af->Prop):Y Ar->af->Prop:=λas ρ=>match gy as with|some ds=>k ds ρ|none=>False
theorem xaD.get{k:Y D->af->Prop}{as:Y Ar}{ρ:af}(h:xaD k as ρ):∃ds,gy as=Z ds/\k ds ρ:=by
 unfold xaD at h;split at h
 ·next ds e=>show⟨ds,e,h⟩
 ·show h.elim
theorem nL:∀{as:Y Ar}{ds:Y D},gy as=Z ds->dJ as=ds.map (λd=>Z (.v d))/\as.length=ds.length
 | [],ds,h=>by cases h;show⟨S,S⟩
 |.t (.v d)::as,ds,h=>by
  have h':(gy as).map (d::·)=Z ds:=h
  cases e:gy as with
  |none=>rw[e]at h';cases h'
  |some es=>
   rw[e]at h';cases h';let⟨g,j⟩:=nL e;show⟨by change Z (Sm.v d)::dJ as=_;rw[g];rfl,by rw[HD,HD,j]⟩
 |.t (.ob _ _)::_,_,h=>by cases h
 |.s _::_,_,h=>by cases h
theorem EV{w:St}:∀{as:Y Ar}{ds:Y D}{vs:Y V}{g:St},gy as=Z ds->ArV w as vs g->g=vs.map Z:=by
 intro as ds vs g h j
 induction j generalizing ds with
 |nil=>rfl
 | @t u v as vs g j r=>
  cases u with
  |v d=>
   have h':(gy as).map (d::·)=Z ds:=h
   cases e:gy as with
   |none=>rw[e]at h';cases h'
   |some es=>rw[r e];rfl
  |ob a o=>cases h
 |s=>cases h
theorem StM.vals{h F Φ H:Hp}{z E y:St}{ρ j:af}{J:XD->af->Prop}{as:Y Ar}{ds:Y D}{vs:Y V}(Q:StM K X h F Φ H z (E++y) ρ (j++dJ as) J)(L:j.length=E.length)(hd:gy as=Z ds)(M:ArV z as vs y):RpL K Φ ds vs:=by
 have o:=EV hd M;let⟨u,N⟩:=nL hd
 have g:vs.length=ds.length:=by have:=Q.lk;rw[Hm,Hm,o,u,Hj,Hj]at this;omega
 refine⟨g,λi v d I G=>?_⟩;let⟨w,x,r⟩:=Q.at (i:=j.length+i) (d:=d) (by rw[Hl (),IU,u,Hy,G];rfl);rw[L,Hl (),IU,o,Hy,I]at x;cases x;show r
noncomputable def Fv(t:cT):TX:=λρ R h=>t ρ (xaD λds g=>R (.v (.tup ds)) g) h
theorem Fe{x1}(h:PXA K X es B)(y:Nat.ble es.length 1000=Ŕ:=by rfl):PX K X (.Tuple es x1 f) (Fv B):=
 ⟨λF=>(p7 (h.pa F)).imp λP H Q x=>by
  let⟨r,w,Φ,M,ρ,L,R,z,U,t,k⟩:=x;refine⟨r,w,Φ,M,ρ,L,_,z,U,t,λas u J N vs O o G I j E=>?_⟩;let⟨ds,hd,o⟩:=o.get;have rl:=j.vals U.lk hd I;refine⟨by rw[rl.1,←(nL hd).2,G];show lc y,λp v=>?_⟩;have g:=Gr.new j.g.s v (.tup vs)
  show k _ u _ _ _ o (((j.pop U.lk).gr g).pushV ((rl.same (cY (j.g.s.free v) _)).tup bg)) (E.trans g.f)⟩
noncomputable def zu(t:cT):TX:=λρ R h=>t ρ (xaD λds g=>R (.own ds) g) h
theorem Er(h:PXA K X es B)(y:Nat.ble es.length 1000=Ŕ:=by rfl):PX K X (.List es f) (zu B):=
 ⟨λF=>(rL (h.pa F)).imp λT H Q x=>by
  let⟨u,w,Φ,N,ρ,M,R,z,U,t,k⟩:=x;refine⟨u,w,Φ,N,ρ,M,_,z,U,t,λas v L O vs P r I J j E=>?_⟩;let⟨ds,hd,r⟩:=r.get;have rl:=j.vals U.lk hd J;refine⟨by rw[rl.1,←(nL hd).2,I];show lc y,λp o=>?_⟩;have g:=Gr.fresh j.g.s o (.lst vs)
  show k _ v _ _ _ r ((j.pop U.lk).pushO g (.lst bg rl) λb G=>by rw[Hw.mp G];show⟨o,j.g.s.free o⟩) E⟩
noncomputable def Cn(t:TX):TX:=λρ R h=>t ρ (λs g=>match s with|.ob Œ (.lst ds)=>R (.v (.lst ds)) g|_=>False) h
theorem StM.fzl{I M Φ H:Hp}{R L:St}{ρ x:af}{be:XD->af->Prop}{v:V}{ds:Y D}(b_:StM K X I M Φ H R (L++[Z v]) ρ (x++[Z (.ob Œ (.lst ds))]) be):∃G,StM K X I M G H R (L++[Z v]) ρ (x++[Z (.v (.lst ds))]) be/\Same Φ G:=by
 have hk:x.length=L.length:=by have:=b_.lk;rw[Hm,Hm]at this;simpa using this
 let⟨fp,E⟩:=b_.E
 have N:(ρ++(x++[Z (Sm.ob Œ (.lst ds))]))[ρ.length+x.length]?=Z (Z (.ob Œ (.lst ds))):=by rw[←HF,Hl (by rw[Hm];omega),Hm,Ic];rfl
 let⟨p,e,_,r⟩:=E.ow _ _ _ N;have Q:=r.mem;have no:=E.no _ _ _ N
 have ev:v=.ref p:=by
  rw[←HF,Hl (by rw[Hm,b_.l];omega),Hm,b_.l,hk,Ic]at e;cases e;rfl
 subst ev;let⟨_,vs,a_,h2⟩:=r.lst_inv
 next=>
  have hn:=(no p Q).2;have h0:=(no p Q).1;have F:=cY hn (.lst vs);refine⟨am Φ p (.lst vs),⟨b_.g.freeze h0 hn a_,b_.l,?_,b_.x⟩,F⟩
  have E0:EnvM K M (am Φ p (.lst vs)) H (R++L) (ρ++x):=by
   refine⟨fp,λb u J=>?_,by rw[Hm,Hm,b_.l,hk],λj d hd=>?_,λj a o ho=>?_,λj a o ho b hb=>?_,λj k a a' o o' g U c=>?_,E.tb.same F⟩
   ·by_cases c:b=p
    ·subst c;rw[bg]at J;cases J;show a_
    ·rw[aS c]at J;show E.fz b u J
   ·have g:=aB hd;let⟨w,y,O⟩:=E.sl j d (by rw[←HF,Hk g];show hd);rw[←HF,Hk (by rw[Hm]at g ⊢;have:=b_.l;omega)]at y;show⟨w,y,O.same F⟩
   ·have g:=aB ho;let⟨w,y,ha,O⟩:=E.ow j a o (by rw[←HF,Hk g];show ho);rw[←HF,Hk (by rw[Hm]at g ⊢;have:=b_.l;omega)]at y;show⟨w,y,ha,O.keep F λ_ _ _ h=>h⟩
   ·have g:=aB ho
    have T:(ρ++(x++[Z (Sm.ob Œ (.lst ds))]))[j]?=Z (Z (.ob a o)):=by rw[←HF,Hk g];show ho
    have c:b≠p:=λz=>E.dj j _ a _ o _ T N (by rw[Hm]at g;omega) b hb (by rw[z];show Q);rw[aS c];show E.no j a o T b hb
   ·have RN:=aB g;have P:=aB U;show E.dj j k a a' o o' (by rw[←HF,Hk RN];show g) (by rw[←HF,Hk P];show U) c
  rw[←HF,←HF];show E0.snocV ((h2.same F).lst bg)
theorem uc(h:PX K X e t):PX K X e (Cn t):=⟨λI=>(h.pe I).imp λO H Q x=>by
 let⟨j,u,Φ,M,ρ,L,R,y,U,t,k⟩:=x;refine⟨j,u,Φ,M,ρ,L,_,y,U,t,λN r J w v g z F=>?_⟩;split at g
 ·next ds=>
  let⟨o,E,G⟩:=z.fzl;show k _ r o w v g E (F.trans G)
 ·show g.elim⟩
end
noncomputable def bU(H:Hp)(B:Y Addr):Hp:=λb=>if b∈B then Œ else H b
theorem vH{H:Hp}{B:Y Addr}{b:Addr}(h:b∈B):bU H B b=Œ:=Hx h
theorem gE{H:Hp}{B:Y Addr}{b:Addr}(h:b∉B):bU H B b=H b:=Hq h
theorem qN{H:Hp}{B:Y Addr}{b:Addr}{u:HO}(h:bU H B b=Z u):b∉B/\H b=Z u:=by
 unfold bU at h;split at h
 ·cases h
 ·next c=>show⟨c,h⟩
theorem ES{H:Hp}{B:Y Addr}:Same (bU H B) H:=λb u e=>(qN e).2
noncomputable abbrev dI:=Y Sm->(Sm->Y Om->Prop)->(XD->Y Om->Prop)->Prop
inductive ArgM(K:Â)(Φ H:Hp):List Sm->List V->List (List Addr)->Prop where
 |nil:ArgM K Φ H [] [] []
 |v {d:D} {v:V} {as:List Sm} {vs:List V} {Fs:List (List Addr)}:Rp K Φ d v->ArgM K Φ H as vs Fs->ArgM K Φ H (.v d::as) (v::vs) ([]::Fs)
 |o {a:Option Addr} {o:Om} {p:Addr} {F:List Addr} {as:List Sm} {vs:List V} {Fs:List (List Addr)}:OmS K Φ H o p F->ArgM K Φ H as vs Fs->ArgM K Φ H (.ob a o::as) (.ref p::vs) (F::Fs)
inductive OutM(K:Â)(Φ H:Hp):List Sm->List V->List Om->List (List Addr)->Prop where
 |nil:OutM K Φ H [] [] [] []
 |v {d:D} {v:V} {as:List Sm} {vs:List V} {os:List Om} {Fs:List (List Addr)}:OutM K Φ H as vs os Fs->OutM K Φ H (.v d::as) (v::vs) os ([]::Fs)
 |o {a:Option Addr} {o o':Om} {p:Addr} {F:List Addr} {as:List Sm} {vs:List V} {os:List Om} {Fs:List (List Addr)}:OmS K Φ H o' p F->OutM K Φ H as vs os Fs->OutM K Φ H (.ob a o::as) (.ref p::vs) (o'::os) (F::Fs)
inductive ResM(K:Â)(Φ H:Hp):Sm->V->List Addr->Prop where
 |v {d:D} {v:V}:Rp K Φ d v->ResM K Φ H (.v d) v []
 |o {a:Option Addr} {o:Om} {p:Addr} {F:List Addr}:(∀q,a=Z q->q=p)->OmS K Φ H o p F->ResM K Φ H (.ob a o) (.ref p) F
inductive lSpM(K:Â)(sp:dI)(vs:List V)(H:Hp)(Q:VK)(E_:XK):Prop|mk (Φ:Hp) (as:List Sm) (Fs:List (List Addr)) (R:Sm->List Om->Prop) (Rx:XD->List Om->Prop) (_:Same Φ H) (_:TabF K Φ) (_:ArgM K Φ H as vs Fs) (_:Fs.flatten.Nodup) (_:(∀b∈Fs.flatten,Φ b=Œ)) (_:sp as R Rx) (_:∀sm os Φ' H' v F Mq,R sm os->Gr Φ (bU H Fs.flatten) Φ' H'->ResM K Φ' H' sm v F->OutM K Φ' H' as vs os Mq->(F++Mq.flatten).Nodup->(∀b∈F++Mq.flatten,bU H Fs.flatten b=Œ/\Φ' b=Œ)->Q v H')
theorem OmS.nodup{K:Â}{Φ H:Hp}{o:Om}{p:Addr}{F:Y Addr}(h:OmS K Φ H o p F):F.Nodup:=by
 cases h with
 |lst _ _=>simp
 |map _ _=>simp
 |mpT _ _=>simp
 |obj _ _ _ h=>show h
 |ptr=>show .nil
 |tl _ _ h=>show h
 |pr _ _ _ _=>simp
theorem ArgM.len{K:Â}{Φ H:Hp}{as:Y Sm}{vs:Y V}{c:Y (Y Addr)}(h:ArgM K Φ H as vs c):vs.length=as.length/\c.length=as.length:=by
 induction h with
 |nil=>show⟨S,S⟩
 |v _ _ a=>show⟨by simp[a.1],by simp[a.2]⟩
 |o _ _ a=>show⟨by simp[a.1],by simp[a.2]⟩
section
variable{K:Â}{w H G Φ l C:Hp}{A:St}{ρ y:af}{f:Nat->Y Addr}{F F' B:Y Addr}{o o':Om}{p:Addr}{d:D}{v:V}{i:Nat}{a:œ Addr}
noncomputable def gx(new:Nat->œ (Om×Y Addr))(f:Nat->Y Addr):Nat->Y Addr:=λi=>match new i with|some q=>q.2|none=>f i
theorem EnvM'.lend{new:Nat->œ (Om×Y Addr)}(E:EnvM' K w Φ H A ρ f)(s0:Same w H)(hB:∀b,b∈B->∃i a o q,new i=Z q/\ρ[i]?=Z (Z (.ob a o))/\b∈f i)(hB2:∀i q,new i=Z q->∀b∈f i,b∈B)(g:Gr Φ (bU H B) l G)
  (hl:y.length=ρ.length) (hv:∀(i:Nat)(d:D),y[i]?=Z (Z (.v d))->ρ[i]?=Z (Z (.v d)))
  (ho:∀(i:Nat)(a:œ Addr)(o:Om),y[i]?=Z (Z (.ob a o))->(new i=Œ/\ρ[i]?=Z (Z (.ob a o)))\/∃R F',new i=Z (o,F')/\ρ[i]?=Z (Z (.ob a R)))
  (hn:∀(i:Nat)(q:Om×Y Addr),new i=Z q->∃p,A[i]?=Z (Z (.ref p))/\OmS K l G q.1 p q.2) (hF:∀(i:Nat)(q:Om×Y Addr),new i=Z q->∀b∈q.2,bU H B b=Œ/\l b=Œ)
  (hd:∀(i j:Nat)(q r:Om×Y Addr),new i=Z q->new j=Z r->i≠j->∀b∈q.2,b∉r.2):EnvM' K w l G A y (gx new f):=by
 have B0:∀b∈B,w b=Œ:=λb I=>let ⟨i,a,o,_,_,h,X⟩:=hB b I;(E.no i a o h b X).1
 have out:∀{i:Nat}{a:œ Addr}{o:Om},new i=Œ->ρ[i]?=Z (Z (.ob a o))->∀b∈f i,b∉B:=λ{i a o} b_ h b I z=>by
  let⟨j,a',o2,q,T,J,X⟩:=hB b z
  have c:i≠j:=λe=>by rw[e,T]at b_;cases b_
  show E.dj i j a a' o o2 h J c b I X
 have N:∀{i:Nat},new i=Œ->gx new f i=f i:=λh=>by unfold gx;rw[h]
 have O:∀{i:Nat}{q:Om×Y Addr},new i=Z q->gx new f i=q.2:=λh=>by unfold gx;rw[h]
 refine⟨g.s,by rw[hl];show E.len,λi d h=>?_,λi a o h=>?_,λi a o h b I=>?_,λi j a a' o o' b_ T c b I M=>?_,E.tb.same g.f⟩
 ·let⟨v,e,r⟩:=E.sl i d (hv i d h);show⟨v,e,r.same g.f⟩
 ·rcases ho i a o h with⟨x,J⟩|⟨R,F',x,J⟩
  ·let⟨p,e,U,r⟩:=E.ow i a o J;refine⟨p,e,U,?_⟩;rw[N x];show r.keep g.f λb I u P=>g.h b u (by rw[gE (out x J b I)];show P)
  ·let⟨p,e,U,_⟩:=E.ow i a R J;let⟨p',a_,r⟩:=hn i _ x;rw[e]at a_;cases a_;show⟨p,e,U,by rw[O x];show r⟩
 ·rcases ho i a o h with⟨x,J⟩|⟨R,F',x,J⟩
  ·rw[N x]at I;let⟨p,_,_,r⟩:=E.ow i a o J;let⟨u,P,k⟩:=r.at b I;show⟨(E.no i a o J b I).1,g.o b u (by rw[gE (out x J b I)];show P) (E.no i a o J b I).2 k⟩
  ·rw[O x]at I;let⟨be,z2⟩:=hF i _ x b I;refine⟨?_,z2⟩;rcases JW (b∈B)with c|c
   ·show B0 b c
   ·rw[gE c]at be
    cases e:w b with
    |none=>rfl
    |some u=>rw[s0 b u e]at be;cases be
 ·have no:∀{i j:Nat}{q:Om×Y Addr}{a:œ Addr}{o:Om},new i=Z q->new j=Œ->ρ[j]?=Z (Z (.ob a o))->b∈q.2->b∈f j->False:=λ{i j q a o} x J h3 h4 h5=>by
   let⟨p,_,_,r⟩:=E.ow j a o h3;let⟨u,P,_⟩:=r.at b h5;have:=(hF i q x b h4).1;rw[gE (out J h3 b h5),P]at this;cases this
  rcases ho i a o b_ with⟨x,J⟩|⟨R,F',x,J⟩
  ·rw[N x]at I;rcases ho j a' o' T with⟨L,Q⟩|⟨o1,F1,L,Q⟩
   ·rw[N L]at M;show E.dj i j a a' o o' J Q c b I M
   ·rw[O L]at M;show no L x J M I
  ·rw[O x]at I;rcases ho j a' o' T with⟨L,Q⟩|⟨o1,F1,L,Q⟩
   ·rw[N L]at M;show no x L Q I M
   ·rw[O L]at M;show hd i j _ _ x L c b I M
theorem Gr.lend(c:Gr C w Φ H)(g:Gr Φ (bU H B) l G)(j:∀b∈B,w b=Œ):Gr C w l G:=by
 have up:∀{b:Addr}{u:HO},w b=Z u->bU H B b=Z u:=λ{b u} e=>by
  rw[gE λz=>by rw[j b z]at e;cases e];show c.h b u e
 show⟨c.f.trans g.f,λb u e=>g.h b u (up e),g.s,λb u h r k=>g.o b u (up h) (c.o b u h r k) k⟩
theorem EnvM'.snocG(E:EnvM' K w Φ H A ρ f){sm:Sm}(R:ResM K Φ H sm v F)(Q:∀b∈F,w b=Œ/\Φ b=Œ)(hd:∀b∈F,∀(i:Nat)(a:œ Addr)(o:Om),ρ[i]?=Z (Z (.ob a o))->b∉f i):EnvM K w Φ H (A++[Z v]) (ρ++[Z sm]):=by
 cases R with
 |v r=>show EnvM.snocV ⟨f,E⟩ r
 | @o a0 o p F M ho=>
  have I:∀{i:Nat}{x:Sm},(ρ++[Z (Sm.ob a0 o)])[i]?=Z (Z x)->(i<ρ.length/\ρ[i]?=Z (Z x))\/(i=ρ.length/\x=.ob a0 o):=λ{i x} h=>by
   rcases Ik i ρ.length with c|c
   ·rw[Hk c]at h;show .inl ⟨c,h⟩
   ·rw[Hl c]at h
    cases e:i-ρ.length with
    |zero=>rw[e]at h;cases h;show .inr ⟨(),S⟩
    |succ n=>rw[e]at h;cases h
  refine⟨λi=>if i=ρ.length then F else f i,E.fz,by rw[Hm,Hm,E.len];rfl,λi d h=>?_,λi a o' h=>?_,λi a o' h b g=>?_,λi j a a' O P J u c b g z=>?_,E.tb⟩
  ·rcases I h with⟨c,h⟩|⟨_,h⟩
   ·let⟨v,e,r⟩:=E.sl i d h;show⟨v,by rw[Hk (by rw[E.len];show c)];show e,r⟩
   ·cases h
  ·rcases I h with⟨c,h⟩|⟨c,h⟩
   ·let⟨q,e,r⟩:=E.ow i a o' h;show⟨q,by rw[Hk (by rw[E.len];show c)];show e,by rw[Hq ()];show r⟩
   ·cases h;subst c;refine⟨p,by rw[Hl (by rw[E.len];show Hr _),E.len,Ic];rfl,M,by rw[Hx S];show ho⟩
  ·rcases I h with⟨c,h⟩|⟨c,h⟩
   ·rw[Hq ()]at g;show E.no i a o' h b g
   ·rw[Hx c]at g;show Q b g
  ·rcases I J with⟨N,J⟩|⟨N,J⟩
   ·rw[Hq ()]at g;rcases I u with⟨L,u⟩|⟨L,u⟩
    ·rw[Hq ()]at z;show E.dj i j a a' O P J u c b g z
    ·rw[Hx L]at z;show hd b z i a O J g
   ·rw[Hx N]at g;rcases I u with⟨L,u⟩|⟨L,u⟩
    ·rw[Hq ()]at z;show hd b g j a' P u z
    ·omega
end
noncomputable def e9(ρ:af):Y Ar->œ (Y Sm)
 | []=>Z []
 |.t s::as=>(e9 ρ as).map (s::·)
 |.s i::as=>match ρ[i]? with
  |some (Z (.ob _ o))=>(e9 ρ as).map (.ob Œ o::·)
  |_=>Œ
noncomputable def aZ(o:Om):œ Sm->œ Sm
 |some (.ob a _)=>Z (.ob a o)
 |x=>x
noncomputable def setA:af->Nat->Om->af
 | [],_,_=>[]
 |x::ρ,0,o=>aZ o x::ρ
 |x::ρ,i+1,o=>x::setA ρ i o
theorem jk:∀(ρ:af)(i:Nat)(o:Om),setA ρ i o=(match ρ[i]? with
  |some (Z (.ob a _))=>ρ.set i (Z (.ob a o))
  |_=>ρ)
 | [],_,_=>rfl
 |some (.ob _ _)::_,0,_=>rfl
 |some (.v _)::_,0,_=>rfl
 |none::_,0,_=>rfl
 |x::ρ,i+1,o=>by
  change x::setA ρ i o=_;rw[jk ρ i o,Lx]
  match ρ[i]? with
  |some (Z (.ob _ _))=>rfl
  |some (Z (.v _))=>rfl
  |some Œ=>rfl
  |none=>rfl
noncomputable def aE(ρ:af):Y Ar->Y Om->af
 | [],_=>ρ
 |.t (.v _)::as,os=>aE ρ as os
 |.t (.ob _ _)::as,_::os=>aE ρ as os
 |.t (.ob _ _)::as,[]=>aE ρ as []
 |.s i::as,o::os=>aE (setA ρ i o) as os
 |.s _::as,[]=>aE ρ as []
noncomputable def ed:Y Ar->Y Nat
 | []=>[]
 |.t _::as=>ed as
 |.s i::as=>i::ed as
noncomputable def uk(as:Y Ar):Bool:=decide (ed as).Nodup
noncomputable def newA:Nat->Y Ar->Y Om->Y (Y Addr)->Nat->œ (Om×Y Addr)
 |n,.t (.v _)::as,os,_::a,i=>newA (n+1) as os a i
 |n,.t (.ob _ _)::as,o::os,F::a,i=>if i=n then Z (o,F) else newA (n+1) as os a i
 |n,.s j::as,o::os,F::a,i=>if i=j then Z (o,F) else newA n as os a i
 |_,_,_,_,_=>Œ
section
variable{K:Â}{A H Φ:Hp}{g:St}{ρ:af}{f:Nat->Y Addr}
noncomputable def dk(f:Nat->Y Addr):Nat->Y Ar->Y (Y Addr)
 |_,[]=>[]
 |n,.t (.v _)::as=>[]::dk f (n+1) as
 |n,.t (.ob _ _)::as=>f n::dk f (n+1) as
 |n,.s j::as=>f j::dk f n as
noncomputable def dr:Nat->Y Ar->Y Nat
 |_,[]=>[]
 |n,.t (.v _)::as=>dr (n+1) as
 |n,.t (.ob _ _)::as=>n::dr (n+1) as
 |n,.s j::as=>j::dr n as
theorem fpA_mem:∀{n:Nat}{as:Y Ar}{b:Addr},b∈(dk f n as).flatten↔∃i∈dr n as,b∈f i
 |n,[],b=>by simp[dk,dr]
 |n,.t (.v _)::as,b=>by simp only[dk,dr,Ih,J4];show fpA_mem
 |n,.t (.ob _ _)::as,b=>by simp only[dk,dr,Ih,HU,HH,fpA_mem (n:=n+1) (as:=as),exists_eq_or_imp]
 |n,.s j::as,b=>by simp only[dk,dr,Ih,HU,HH,fpA_mem (n:=n) (as:=as),exists_eq_or_imp]
theorem jl:∀{n:Nat}{as:Y Ar}{i:Nat},i∈dr n as->i∈ed as\/(n<=i/\i<n+(dJ as).length)
 |n,[],i,h=>by cases h
 |n,.t (.v d)::as,i,h=>by
  have h:i∈dr (n+1) as:=h;rcases jl h with z|z
  ·show .inl z
  ·refine .inr ⟨(),?_⟩;change i<n+((dJ as).length+1);omega
 |n,.t (.ob a o)::as,i,h=>by
  rcases HH.mp h with rfl|h
  ·refine .inr ⟨Hr _,?_⟩;change i<i+((dJ as).length+1);omega
  ·rcases jl h with z|z
   ·show .inl z
   ·refine .inr ⟨(),?_⟩;change i<n+((dJ as).length+1);omega
 |n,.s j::as,i,h=>by
  rcases HH.mp h with rfl|h
  ·show .inl Ht
  ·rcases jl h with z|z
   ·show .inl (Hv _ z)
   ·show .inr z
theorem ls:∀{n:Nat}{as:Y Ar},(ed as).Nodup->(∀i∈ed as,i<n)->(dr n as).Nodup
 |n,[],_,_=>by simp[dr]
 |n,.t (.v d)::as,h,c=>ls (n:=n+1) h λi e=>JU (c i e)
 |n,.t (.ob a o)::as,h,c=>by
  refine HS.mpr ⟨λz=>?_,ls (n:=n+1) h λi e=>JU (c i e)⟩;rcases jl z with z|z
  ·show Jc _ (c n z)
  ·omega
 |n,.s j::as,h,c=>by
  let⟨l,p⟩:=HS.mp h;refine HS.mpr ⟨λz=>?_,ls p λi e=>c i (Hv _ e)⟩;rcases jl z with z|z
  ·show l z
  ·have:=c j Ht;omega
theorem jG{s:Sm}{as:Y Ar}{a:Y Sm}(h:e9 ρ (.t s::as)=Z a):∃q,e9 ρ as=Z q/\a=s::q:=by let⟨q,e,h⟩:=Jy.mp h;show⟨q,e,h.symm⟩
theorem kA{i:Nat}{as:Y Ar}{c:Y Sm}(h:e9 ρ (.s i::as)=Z c):∃a o q,ρ[i]?=Z (Z (.ob a o))/\e9 ρ as=Z q/\c=.ob Œ o::q:=by
 unfold e9 at h;split at h
 ·next a o ho=>
  let⟨q,e,h⟩:=Jy.mp h;show⟨a,o,q,ho,e,h.symm⟩
 ·cases h
theorem OutM.cv{d:D}{as:Y Sm}{v:V}{vs:Y V}{os:Y Om}{a:Y (Y Addr)}(h:OutM K Φ H (.v d::as) (v::vs) os a):∃c,a=[]::c/\OutM K Φ H as vs os c:=by
 cases h with
 |v h=>show⟨_,S,h⟩
theorem OutM.co{a:œ Addr}{o:Om}{as:Y Sm}{v:V}{vs:Y V}{os:Y Om}{c:Y (Y Addr)}(h:OutM K Φ H (.ob a o::as) (v::vs) os c):∃p o' j F e,v=.ref p/\os=o'::j/\c=F::e/\OmS K Φ H o' p F/\OutM K Φ H as vs j e:=by
 cases h with
 |o l h=>show⟨_,_,_,_,_,S,S,S,l,h⟩
theorem ir{a:Type}{l m:Y a}{n:Nat}{y:a}(h:∀(j:Nat) x,(y::l)[j]?=Z x->m[n+j]?=Z x)(j:Nat)(x:a)(c:l[j]?=Z x):m[n+1+j]?=Z x:=by rw[show n+1+j=n+(j+1)by omega];show h (j+1) x c
theorem zW{σx:St}{c:af}(E:EnvM' K A Φ H σx c f)(I:∀(i:Nat)(x:Sm),ρ[i]?=Z (Z x)->c[i]?=Z (Z x))(F:∀(i:Nat)(v:V),g[i]?=Z (Z v)->σx[i]?=Z (Z v)) :
  ∀{n:Nat}{as:Y Ar}{y:Y Sm}{vs:Y V}{u:St},(∀(j:Nat) x,(dJ as)[j]?=Z x->c[n+j]?=Z x)->(∀(j:Nat) x,u[j]?=Z x->σx[n+j]?=Z x)->e9 ρ as=Z y->ArV g as vs u->ArgM K Φ H y vs (dk f n as):=by
 intro n as y vs u h l B C
 induction C generalizing n y with
 |nil=>cases B;show .nil
 | @t J v as vs u C z=>
  let⟨q,e,rfl⟩:=jG B
  cases J with
  |v d=>
   let⟨w,p,r⟩:=E.sl n d (h 0 _ S);obtain rfl:=HR (HR ((l 0 _ S).symm.trans p));show .v r (z (n:=n+1) (ir h) (ir l) e)
  |ob a o=>
   let⟨w,p,_,r⟩:=E.ow n a o (h 0 _ S);obtain rfl:=HR (HR ((l 0 _ S).symm.trans p));show .o r (z (n:=n+1) (ir h) (ir l) e)
 | @s i v as vs u G C z=>
  let⟨a,o,q,ho,e,rfl⟩:=kA B;let⟨w,p,_,r⟩:=E.ow i a o (I i _ ho);obtain rfl:=HR (HR ((F i _ G).symm.trans p));show .o r (z h l e)
theorem nI{σx:St}{c:af}(u:∀(i:Nat)(x:Sm),ρ[i]?=Z (Z x)->c[i]?=Z (Z x)) :
  ∀{n:Nat}{as:Y Ar}{r:Y Sm},(∀(j:Nat) x,(dJ as)[j]?=Z x->c[n+j]?=Z x)->e9 ρ as=Z r->∀i∈dr n as,∃a o,c[i]?=Z (Z (.ob a o))
 |n,[],r,_,p,i,h=>by cases h
 |n,.t (.v d)::as,r,l,p,i,h=>by let⟨q,e,rfl⟩:=jG p;show nI (σx:=σx) u (n:=n+1) (ir l) e i h
 |n,.t (.ob a o)::as,r,l,p,i,h=>by
  let⟨q,e,rfl⟩:=jG p;rcases HH.mp h with rfl|h
  ·show⟨a,o,l 0 _ S⟩
  ·show nI (σx:=σx) u (n:=n+1) (ir l) e i h
 |n,.s j::as,r,l,p,i,h=>by
  let⟨a,o,q,ho,e,rfl⟩:=kA p;rcases HH.mp h with rfl|h
  ·show⟨a,o,u _ _ ho⟩
  ·show nI (σx:=σx) u (n:=n) (as:=as) l e i h
theorem lZ{σx:St}{p:af}(E:EnvM' K A Φ H σx p f):∀{n:Nat}{as:Y Ar},(dr n as).Nodup->(∀i∈dr n as,∃a o,p[i]?=Z (Z (.ob a o)))->(dk f n as).flatten.Nodup
 |n,[],_,_=>by simp[dk]
 |n,.t (.v d)::as,h,ho=>by change ([]++(dk f (n+1) as).flatten).Nodup;rw[J4];show lZ E (n:=n+1) h ho
 |n,.t (.ob a o)::as,h,ho=>by change (f n++(dk f (n+1) as).flatten).Nodup;let⟨w,x⟩:=HS.mp h;let⟨a',o',hn⟩:=ho n Ht;let⟨_,_,_,r⟩:=E.ow n a' o' hn;refine IQ.mpr ⟨r.nodup,lZ E (n:=n+1) x λi l=>ho i (Hv _ l),λb y c z e=>?_⟩;subst e;let⟨i,l,u⟩:=fpA_mem.mp z;let⟨a2,B,v⟩:=ho i (Hv _ l);show E.dj n i a' a2 o' B hn v (λe=>w (e▸l)) b y u
 |n,.s j::as,h,ho=>by change (f j++(dk f n as).flatten).Nodup;let⟨w,x⟩:=HS.mp h;let⟨a',o',hn⟩:=ho j Ht;let⟨_,_,_,r⟩:=E.ow j a' o' hn;refine IQ.mpr ⟨r.nodup,lZ E x λi l=>ho i (Hv _ l),λb y c z e=>?_⟩;subst e;let⟨i,l,u⟩:=fpA_mem.mp z;let⟨a2,B,v⟩:=ho i (Hv _ l);show E.dj j i a' a2 o' B hn v (λe=>w (e▸l)) b y u
theorem kn:∀{n:Nat}{as:Y Ar}{os:Y Om}{e:Y (Y Addr)}{i:Nat}{q:Om×Y Addr},newA n as os e i=Z q->i∈dr n as
 |n,[],_,_,_,_,h=>by cases h
 |n,.t (.v d)::as,os,[],i,q,h=>by cases h
 |n,.t (.v d)::as,os,F::e,i,q,h=>kn (n:=n+1) h
 |n,.t (.ob a o)::as,[],e,i,q,h=>by cases e<;>cases h
 |n,.t (.ob a o)::as,_::_,[],i,q,h=>by cases h
 |n,.t (.ob a o)::as,o'::os,F::e,i,q,h=>by
  have h:(if i=n then Z (o',F) else newA (n+1) as os e i)=Z q:=h;split at h
  ·next c=>rw[c];show Ht
  ·show Hv _ (kn h)
 |n,.s j::as,[],e,i,q,h=>by cases e<;>cases h
 |n,.s j::as,_::_,[],i,q,h=>by cases h
 |n,.s j::as,o'::os,F::e,i,q,h=>by
  have h:(if i=j then Z (o',F) else newA n as os e i)=Z q:=h;split at h
  ·next c=>rw[c];show Ht
  ·show Hv _ (kn h)
noncomputable def OutS(K:Â)(Φ H:Hp)(σx:St)(ps:Y Nat)(a:Nat->œ (Om×Y Addr))(G:Y Addr):Prop:=
 (∀i∈ps,∃q,a i=Z q)/\∀(i:Nat)(q:Om×Y Addr),a i=Z q->(∃p,σx[i]?=Z (Z (.ref p))/\OmS K Φ H q.1 p q.2)/\(∀b∈q.2,b∈G)/\∀(j:Nat)(r:Om×Y Addr),a j=Z r->i≠j->∀b∈q.2,b∉r.2
theorem OutS.cons{σx:St}{ps:Y Nat}{y v:Nat->œ (Om×Y Addr)}{F G:Y Addr}{m:Nat}{o:Om}{p:Addr}(x:OutS K Φ H σx ps y G)(u:∀i,v i=if i=m then Z (o,F) else y i)(I:σx[m]?=Z (Z (.ref p)))(C:OmS K Φ H o p F)(J:(F++G).Nodup):OutS K Φ H σx (m::ps) v (F++G):=by
 have l:=(IQ.mp J).2.2;refine⟨λi E=>?_,λi q h=>?_⟩
 ·rw[u];split
  ·show⟨_,S⟩
  ·next c=>show x.1 i ((HH.mp E).resolve_left c)
 ·rw[u]at h;split at h
  ·next c=>
   subst c;cases h;refine⟨⟨p,I,C⟩,λb a=>HU.mpr (.inl a),λj r e c b a w=>?_⟩;rw[u,Hq (IE c)]at e;show l b a b ((x.2 j r e).2.1 b w) S
  ·next c=>
   let⟨L,z,M⟩:=x.2 i q h;refine⟨L,λb a=>HU.mpr (.inr (z b a)),λj r e B b a w=>?_⟩;rw[u]at e;split at e
   ·next c3=>
    cases e;show l b w b (z b a) S
   ·show M j r e B b a w
theorem Fy{σx:St}(J:∀(i:Nat)(v:V),g[i]?=Z (Z v)->σx[i]?=Z (Z v)) :
  ∀{n:Nat}{as:Y Ar}{w:Y Sm}{vs:Y V}{u:St}{os:Y Om}{c:Y (Y Addr)},(∀(j:Nat) x,u[j]?=Z x->σx[n+j]?=Z x)->e9 ρ as=Z w->ArV g as vs u->OutM K Φ H w vs os c->(dr n as).Nodup->c.flatten.Nodup->OutS K Φ H σx (dr n as) (newA n as os c) c.flatten:=by
 intro n as w vs u os c y I E
 induction E generalizing n w os c with
 |nil=>
  intro ho _ _;show⟨λi C=>(by cases C),λi q h=>(by cases h)⟩
 | @t M v as vs u E z=>
  intro ho B l;let⟨q,e,rfl⟩:=jG I
  cases M with
  |v d=>
   let⟨G,rfl,r⟩:=ho.cv;show z (n:=n+1) (ir y) e r B l
  |ob a o=>
   let⟨p,o',L,F,G,rfl,rfl,rfl,r,ho⟩:=ho.co;show (z (n:=n+1) (ir y) e ho (HS.mp B).2 (IQ.mp l).2.1).cons (λ_=>rfl) (y 0 _ S) r l
 | @s N v as vs u C E z=>
  intro ho B l;let⟨a,o,q,_,e,rfl⟩:=kA I;let⟨p,o',L,F,G,rfl,rfl,rfl,r,ho⟩:=ho.co;show (z y e ho (HS.mp B).2 (IQ.mp l).2.1).cons (λ_=>rfl) (J _ _ C) r l
theorem ww{ρ:af}{i j:Nat}{o:Om}{x:œ Sm}(h:(setA ρ i o)[j]?=Z x)(c:j≠i):ρ[j]?=Z x:=by
 rw[jk]at h;split at h
 ·rwa [HP (IE c)]at h
 ·show h
theorem uD{ρ:af}{i:Nat}{o:Om}:(setA ρ i o).length=ρ.length:=by
 rw[jk];split
 ·rw[Hs]
 ·rfl
theorem ca:∀{as:Y Ar}{ρ:af}{os:Y Om},(aE ρ as os).length=ρ.length
 | [],_,_=>rfl
 |.t (.v _)::as,ρ,os=>ca (as:=as)
 |.t (.ob _ _)::as,ρ,_::os=>ca (as:=as)
 |.t (.ob _ _)::as,ρ,[]=>ca (as:=as)
 |.s i::as,ρ,o::os=>by change (aE (setA ρ i o) as os).length=_;rw[ca,uD]
 |.s _::as,ρ,[]=>ca (as:=as)
theorem gY:∀{as:Y Ar}{ρ:af}{os:Y Om}{i:Nat}{x:œ Sm},i∉ed as->(aE ρ as os)[i]?=Z x->ρ[i]?=Z x
 | [],_,_,_,_,_,h=>h
 |.t (.v _)::as,ρ,os,i,x,hn,h=>gY (as:=as) (os:=os) hn h
 |.t (.ob _ _)::as,ρ,_::os,i,x,hn,h=>gY (as:=as) (os:=os) hn h
 |.t (.ob _ _)::as,ρ,[],i,x,hn,h=>gY (as:=as) (os:=[]) hn h
 |.s j::as,ρ,o::os,i,x,hn,h=>by have h':=gY (as:=as) (λz=>hn (Hv _ z)) (show (aE (setA ρ j o) as os)[i]?=Z x from h);show ww h' λe=>hn (by rw[e];show Ht)
 |.s j::as,ρ,[],i,x,hn,h=>gY (as:=as) (os:=[]) (λz=>hn (Hv _ z)) h
theorem kJ{ρ:af}{i j:Nat}{o:Om}(c:j≠i):(setA ρ i o)[j]?=ρ[j]?:=by
 rw[jk];split
 ·rw[HP (IE c)]
 ·rfl
theorem qi{P:af}:∀{as:Y Ar}{ρ:af}{y:Y Sm}{vs:Y V}{G:St}{os:Y Om}{w:Y (Y Addr)}{n i:Nat}{x:Sm},e9 P as=Z y->ArV g as vs G->OutM K Φ H y vs os w->i∈ed as->i<n->(ed as).Nodup->(aE ρ as os)[i]?=Z (Z x)->(∀j∈ed as,∃a o,ρ[j]?=Z (Z (.ob a o)))->
  ∃a l q,x=.ob a q.1/\newA n as os w i=Z q/\ρ[i]?=Z (Z (.ob a l)):=by
 intro as ρ y vs G os w n i x U O
 induction O generalizing ρ y os w n i x with
 |nil=>intro _ h;cases h
 | @t a_ v as vs G O E=>
  intro ho h M nd C u;let⟨q,e,rfl⟩:=jG U
  cases a_ with
  |v d=>
   let⟨Q,rfl,L⟩:=ho.cv;show E (n:=n+1) e L h () nd C u
  |ob a1 o1=>
   let⟨p,o',R,F,Q,rfl,rfl,rfl,L,ho⟩:=ho.co;let⟨a,l,q,I,J,B⟩:=E (n:=n+1) (ρ:=ρ) e ho h () nd C u;show⟨a,l,q,I,(Hq (HX M)).trans J,B⟩
 | @s j v as vs G _ O E=>
  intro ho h M nd C u;let⟨_,o,q,_,e,rfl⟩:=kA U;let⟨p,o',R,F,Q,rfl,rfl,rfl,L,ho⟩:=ho.co;let⟨b_,be⟩:=HS.mp nd;have r:(aE (setA ρ j o') as R)[i]?=Z (Z x):=C;by_cases c:i=j
  ·subst c;let⟨a,l,N⟩:=u i Ht;have:=gY b_ r;rw[jk]at this;rw[N]at this;simp only at this;rw[HV (aB N)]at this;cases this;show⟨a,l,(o',F),S,Hx S,N⟩
  ·have X:=(HH.mp h).resolve_left c
   let⟨a,l,q,I,J,B⟩:=E (ρ:=setA ρ j o') (n:=n) e ho X M be r λk T=>by
    rw[kJ λz=>b_ (by rw[←z];show T)];show u k (Hv _ T)
   show⟨a,l,q,I,(Hq c).trans J,by rw[kJ c]at B;show B⟩
theorem pY:∀{as:Y Ar}{c:Y Sm},e9 ρ as=Z c->∀j∈ed as,∃a o,ρ[j]?=Z (Z (.ob a o))
 | [],_,_,j,h=>by cases h
 |.t s::as,c,l,j,h=>by let⟨q,e,rfl⟩:=jG l;show pY e j h
 |.s i::as,c,l,j,h=>by
  let⟨a,o,q,ho,e,rfl⟩:=kA l;rcases HH.mp h with rfl|h
  ·show⟨a,o,ho⟩
  ·show pY e j h
end
section
variable{K:Â}{X:Cx}{e:Ã}{es:Y Ã}{l p:Õ}{y:cT}
inductive CallM(sp:dI)(R:Sm->af->Prop)(Rx:XD->af->Prop)(as:List Ar)(ρ:af):Prop|mk (Mh:List Sm) (_:e9 ρ as=Z Mh) (_:uk as=Ŕ) (_:sp Mh (λsm os=>R sm (aE ρ as os)) (λxd os=>Rx xd (aE ρ as os)))
noncomputable def ET(sp:dI)(y:cT):TX:=λρ R a=>y ρ (CallM sp R a) a
theorem StM.lend{Φ0 H0 Φ H:Hp}{M P G:St}{ρ f:af}{Rx:XD->af->Prop}{as:Y Ar}{Mh:Y Sm}{vs:Y V}(b_:StM K X Φ0 H0 Φ H M (P++G) ρ (f++dJ as) Rx)(hl:f.length=P.length)(Q:e9 ρ as=Z Mh)(a_:ArV M as vs G)(hs:uk as=Ŕ) :
  ∃be,ArgM K Φ H Mh vs be/\be.flatten.Nodup/\(∀b∈be.flatten,Φ b=Œ)/\∀sm os I T v F O,Gr Φ (bU H be.flatten) I T->ResM K I T sm v F->OutM K I T Mh vs os O->(F++O.flatten).Nodup->(∀b∈F++O.flatten,bU H be.flatten b=Œ/\I b=Œ)->
   StM K X Φ0 H0 I T M (P++[Z v]) (aE ρ as os) (f++[Z sm]) Rx:=by
 have nd:(ed as).Nodup:=IM hs;let⟨U,E⟩:=b_.E;have lS0:=b_.l
 have Ma:(dJ as).length=G.length:=by have:=b_.lk;rw[Hm,Hm]at this;omega
 have a1:∀(i:Nat)(x:Sm),ρ[i]?=Z (Z x)->(ρ++(f++dJ as))[i]?=Z (Z x):=λi x h=>by rw[Hk (aB h)];show h
 have a2:∀(i:Nat)(v:V),M[i]?=Z (Z v)->(M++(P++G))[i]?=Z (Z v):=λi x h=>by rw[Hk (aB h)];show h
 have a3:∀(j:Nat) x,(dJ as)[j]?=Z x->(ρ++(f++dJ as))[ρ.length+f.length+j]?=Z x:=λj x h=>by rw[Hl (),Hl (),show ρ.length+f.length+j-ρ.length-f.length=j by omega];show h
 have a4:∀(j:Nat) x,G[j]?=Z x->(M++(P++G))[ρ.length+f.length+j]?=Z x:=λj x h=>by rw[Hl (),Hl (),show ρ.length+f.length+j-M.length-P.length=j by omega];show h
 have sl:=pY Q
 have slt:∀i∈ed as,i<ρ.length:=λi w=>let ⟨_,_,h⟩:=sl i w;aB h
 have pn:(dr (ρ.length+f.length) as).Nodup:=ls nd λi w=>by have:=slt i w;omega
 have po:=nI (σx:=M) a1 a3 Q;refine⟨dk U (ρ.length+f.length) as,zW E a1 a2 a3 a4 Q a_,lZ E pn po,λb C=>?_,λsm os I T v F O g Ov OU hnd MQ=>?_⟩
 ·let⟨i,w,L⟩:=fpA_mem.mp C;let⟨a,o,ho⟩:=po i w;show (E.no i a o ho b L).2
 let⟨QP,OE,nd3⟩:=IQ.mp hnd;let⟨n1,n2⟩:=Fy (n:=ρ.length+f.length) a2 a4 Q a_ OU pn OE
 have B0:∀b∈(dk U (ρ.length+f.length) as).flatten,H0 b=Œ:=λb C=>by let⟨i,w,L⟩:=fpA_mem.mp C;let⟨a,o,ho⟩:=po i w;show (E.no i a o ho b L).1
 have pl:∀{i:Nat},i<ρ.length+f.length->i∉ed as->newA (ρ.length+f.length) as os O i=Œ:=λ{i} w hn=>by
  cases e:newA (ρ.length+f.length) as os O i with
  |none=>rfl
  |some q=>
   rcases jl (kn e)with z|z
   ·show absurd z hn
   ·omega
 have E2:EnvM' K H0 I T (M++(P++G)) (aE ρ as os++(f++List.replicate G.length Œ)) (gx (newA (ρ.length+f.length) as os O) U):=by
  have cs:∀{i:Nat}{x:Sm},(aE ρ as os++(f++List.replicate G.length Œ))[i]?=Z (Z x)->(i<ρ.length/\(aE ρ as os)[i]?=Z (Z x))\/(ρ.length<=i/\i<ρ.length+f.length/\f[i-ρ.length]?=Z (Z x)):=λ{i x} h=>by
   rcases Ik i ρ.length with c|c
   ·rw[Hk (by rw[ca];show c)]at h;show .inl ⟨c,h⟩
   ·rw[Hl (by rw[ca];show c),ca]at h;rcases Ik (i-ρ.length) f.length with J|J
    ·rw[Hk J]at h;show .inr ⟨c,(),h⟩
    ·rw[Hl J,Jp]at h;split at h
     ·cases h
     ·cases h
  have kx:∀{i:Nat}{x:Sm},ρ.length<=i->i<ρ.length+f.length->f[i-ρ.length]?=Z (Z x)->(ρ++(f++dJ as))[i]?=Z (Z x):=λ{i x} A J h=>by rw[Hl A,Hk ()];show h
  refine E.lend b_.g.h (B:=(dk U (ρ.length+f.length) as).flatten) (new:=newA (ρ.length+f.length) as os O) (λb C=>?_) (λi q N b C=>fpA_mem.mpr ⟨i,kn N,C⟩) g (by rw[Hm,Hm,Hm,Hm,IS,ca,Ma]) (λi d h=>?_) (λi a o h=>?_) (λi q N=>(n2 i q N).1) (λi q N b C=>MQ b (HU.mpr (.inr ((n2 i q N).2.1 b C)))) λi j q r N MA c b C=>(n2 i q N).2.2 j r MA c b C
  ·let⟨i,w,L⟩:=fpA_mem.mp C;let⟨a,o,ho⟩:=po i w;let⟨q,N⟩:=n1 i w;show⟨i,a,o,q,N,ho,L⟩
  ·rcases cs h with⟨c,h⟩|⟨A,J,h⟩
   ·rcases JW (i∈ed as)with z|z
    ·let⟨a,o0,q,e1,_⟩:=qi (n:=ρ.length+f.length) Q a_ OU z () nd h sl;cases e1
    ·show a1 _ _ (gY z h)
   ·show kx A J h
  ·rcases cs h with⟨c,h⟩|⟨A,J,h⟩
   ·rcases JW (i∈ed as)with z|z
    ·let⟨a',o0,q,e1,e2,e3⟩:=qi (n:=ρ.length+f.length) Q a_ OU z () nd h sl;cases e1;show .inr ⟨o0,q.2,e2,a1 _ _ e3⟩
    ·show .inl ⟨pl () z,a1 _ _ (gY z h)⟩
   ·show .inl ⟨pl J λz=>by have:=slt i z;omega,kx A J h⟩
 have g0:=b_.g.lend g B0
 have E3:=E2.snocG Ov (λb C=>by
   let⟨z1,z2⟩:=MQ b (HU.mpr (.inl C));refine⟨?_,z2⟩;rcases JW (b∈(dk U (ρ.length+f.length) as).flatten)with c|c
   ·show B0 b c
   ·rw[gE c]at z1
    show b_.g.h.free z1) λb C i a o w L=>by
  unfold gx at L
  cases e:newA (ρ.length+f.length) as os O i with
  |some q=>
   rw[e]at L;show nd3 b C b ((n2 i q e).2.1 b L) S
  |none=>
   rw[e]at L;let⟨p,_,_,r⟩:=E2.ow i a o w;unfold gx at r;rw[e]at r;let⟨z1,z2⟩:=MQ b (HU.mpr (.inl C))
   have own:∃o',(ρ++(f++dJ as))[i]?=Z (Z (.ob a o')):=by
    rcases Ik i ρ.length with c|c
    ·rw[Hk (by rw[ca];show c)]at w;rcases JW (i∈ed as)with z|z
     ·let⟨a',o0,q,_,e2,_⟩:=qi (n:=ρ.length+f.length) Q a_ OU z () nd w sl;rw[e]at e2;cases e2
     ·show⟨o,a1 _ _ (gY z w)⟩
    ·rw[Hl (by rw[ca];show c),ca]at w;rcases Ik (i-ρ.length) f.length with J|J
     ·rw[Hk J]at w;show⟨o,by rw[Hl c,Hk J];show w⟩
     ·rw[Hl J,Jp]at w;split at w
      ·cases w
      ·cases w
   let⟨o',NT⟩:=own;let⟨p',_,_,r'⟩:=E.ow i a o' NT;let⟨u,hu,_⟩:=r'.at b L
   have c:b∉(dk U (ρ.length+f.length) as).flatten:=λz=>by
    let⟨j,hj,hbj⟩:=fpA_mem.mp z;let⟨q,N⟩:=n1 j hj
    have cj:i≠j:=λz=>by rw[z,N]at e;cases e
    let⟨a2',o2,SW⟩:=po j hj;show E.dj i j a a2' o' o2 NT SW cj b L hbj
   rw[gE c,hu]at z1;cases z1
 refine⟨g0,by rw[ca];show lS0,?_,b_.x⟩;refine E3.re (λi=>if i<ρ.length+f.length then i else ρ.length+f.length+G.length) (by simp only[Hm,HD,IZ,ca];omega) (λi x R=>?_) λi j a a' o o' w hj e=>?_
 ·rcases Ik i (ρ.length+f.length)with c|c
  ·rw[Hx c];constructor
   ·rcases Ik i ρ.length with A|A
    ·rw[Hk (by rw[ca];show A)]at R;rw[Hk (by simp only[Hm,ca];omega),Hk (by rw[ca];show A)];show R
    ·rw[Hl (by rw[ca];show A),ca,Hk ()]at R;rw[Hk (by simp only[Hm,ca];omega),Hl (by rw[ca];show A),ca,Hk ()];show R
   ·rcases Ik i M.length with A|A
    ·rw[Hk A,Hk (by simp only[Hm];omega),Hk A]
    ·rw[Hl A,Hk (),Hk (by simp only[Hm];omega),Hl A,Hk ()]
  ·have w:i=ρ.length+f.length:=by have:=aB R;simp only[Hm,HD,IZ,ca]at this;omega
   subst w;rw[Hq ()];rw[Hl (by rw[ca];omega),Hl (by rw[ca];omega),ca,show ρ.length+f.length-ρ.length-f.length=0 by omega]at R;cases R;constructor
   ·rw[Hl (by simp only[Hm,IS,ca];omega)];simp only[Hm,IS,ca];rw[show ρ.length+f.length+G.length-(ρ.length+(f.length+G.length))=0 by omega];rfl
   ·rw[Hl (),Hl (),Hl (by simp only[Hm];omega)];simp only[Hm];rw[show ρ.length+f.length-M.length-P.length=0 by omega,show ρ.length+f.length+G.length-(M.length+(P.length+G.length))=0 by omega]
 ·have hi1:=aB w;have RN:=aB hj;simp only[Hm,HD,IZ,ca]at hi1 RN;have e:(if i<ρ.length+f.length then i else ρ.length+f.length+G.length)=(if j<ρ.length+f.length then j else ρ.length+f.length+G.length):=e;split at e<;>split at e<;>omega
structure ClM(P:Å)(w:È)(K:Â)(mg:Str->Option Value)(base:Heap)(n:Nat)(x:Str)(ps:List Str)(z:dI):Prop where
 ex:∃(f:Addr)(fd:Ì),FnOk P w K mg base aD n f fd ps (lSpM K z)/\Binds K fd ps []/\ã K (.ref f)=Ŕ/\mg x=Z (.ref f)
theorem bE{n:Nat}{x:Str}{ps:Y Str}{z:dI}(C:ClM X.prog X.w K X.mg X.base n x ps z)(hr:Room n X.A)(hg:Gl X x)
  (ha:PXA K X (e::es) y) (he:starEach (e::es) X.env=(ŕ,eval e X.env)::starEach es X.env) (L:(backTo l (starEach es X.env)).any (·.1)=ŕ) (G:ab x:=by decide) :
  PX K X (.Call (.Name x p) (e::es) [] l) (ET z y):=⟨λc=>by
 let⟨f,be,F,b,k,m⟩:=C.ex;refine (oA (dvs:=[]) (ds:=[]) (E:=E0) (c▸F:FnOk X.prog X.w X.K X.mg X.base aD n f be ps (lSpM K z)) hr hg m (c▸k) (c▸b) .nil je (ha.pa c) G he L).imp λσ H Q B=>?_;let⟨j,A,Φ,τ,ρ,κ,R,T,b_,t,k⟩:=B;refine⟨j,A,Φ,τ,ρ,κ,_,T,b_,t,λas ρ1 o H1 vs ts h hl hv g U=>?_⟩;let⟨M,P,O,h⟩:=h;let⟨w,a_,g2,g3,g4⟩:=g.lend b_.lk P hv O;rw[Ii]
 show⟨o,M,w,_,_,g.g.s,g.E.tb,a_,g2,g3,h,λsm os a u v F N r gr I ho hn J=>k sm _ a u v r (g4 sm os a u v F N gr I ho hn J) (U.trans gr.f)⟩⟩
end
structure EndsM where
 nx:af->Prop
 rt:Sm->af->Prop
 bk:af->Prop:=λ_=>False
 ct:af->Prop:=λ_=>False
 ex:XD->af->Prop:=λ_ _=>False
noncomputable abbrev bz:=EndsM->af->Prop
noncomputable def oO(K:Â)(g h:Hp)(P:af->Prop)(Q:St->Hp->Prop):Prop:=∀c a f e,P c->Gr g h a f->EnvM K h a f e c->Q e f
structure EndOkM(K:Â)(X:Cx)(Φ0 H0:Hp)(De:EndsM)(E:Ends):Prop where
 nx:oO K Φ0 H0 De.nx E.nx
 rt:∀sm ρ' Φ' H' v σ',De.rt sm ρ'->Gr Φ0 H0 Φ' H'->EnvM K H0 Φ' H' (σ'++[Z v]) (ρ'++[Z sm])->E.rt v H'
 bk:oO K Φ0 H0 De.bk E.bk
 ct:oO K Φ0 H0 De.ct E.ct
 ex:XeOk K X Φ0 H0 De.ex
inductive lM(K:Â)(X:Cx)(t:bz)(E:Ends)(σ:St)(H:Hp):Prop|mk (Φ0:Hp) (H0:Hp) (Φ:Hp) (ρ:af) (De:EndsM) (_:Gr Φ0 H0 Φ H) (_:EnvM K H0 Φ H σ ρ) (_:t De ρ) (_:EndOkM K X Φ0 H0 De E)
structure PSM(K:Â)(X:Cx)(st:Ç)(t:bz):Prop where ps:X.K=K->PS X st (lM K X t)
structure PSsM(K:Â)(X:Cx)(st:List Ç)(t:bz):Prop where ps:X.K=K->PSs X st (lM K X t)
section
variable{K:Â}{X:Cx}{a c Φ H:Hp}{e:St}{ρ:af}{f:XD->af->Prop}{v:V}{sm:Sm}
theorem de(g:Gr a c Φ H)(V:EnvM K c Φ H e ρ)(x:XeOk K X a c f):StM K X a c Φ H e [] ρ [] f:=⟨g,V.len.symm,by rw[Ii,Ii];show V,x⟩
theorem StM.env1(Q:StM K X a c Φ H e ([]++[Z v]) ρ ([]++[Z sm]) f):EnvM K c Φ H (e++[Z v]) (ρ++[Z sm]):=Q.E
end
section
variable{K:Â}{X:Cx}{st:Ç}{p:Y Ç}{t u:bz}{e a:Ã}{l:TX}{f:Õ}{w:cU}
noncomputable def xm:bz:=λc ρ=>c.nx ρ
noncomputable def yb(t u:bz):bz:=λc ρ=>t { c with nx:=u c } ρ
inductive mCut(t u:bz)(De:EndsM)(ρ:af):Prop|mk (I:af->Prop) (_:t { De with nx:=I } ρ) (_:∀ρ',I ρ'->u De ρ')
theorem cq:PSsM K X [] xm:=⟨λ_=>pss_nil.imp λE j H c=>by let⟨h,r,Φ,ρ,o,g,V,t,k⟩:=c;show k.nx ρ Φ H j t g V⟩
theorem ao(z:PSM K X st t)(A:PSsM K X p u):PSsM K X (st::p) (yb t u):=⟨λr=>(mI (z.ps r) (A.ps r)).imp λE F H x=>by let⟨c,o,Φ,ρ,v,g,V,t,k⟩:=x;exact
 ⟨c,o,Φ,ρ,_,g,V,t,⟨λj h C B t' g' y=>⟨c,o,h,j,v,g',y,t',k⟩,k.rt,k.bk,k.ct,k.ex⟩⟩⟩
theorem cu(A:PSM K X st t)(B:PSsM K X p u):PSsM K X (st::p) (mCut t u):=⟨λv=>(mI (A.ps v) (B.ps v)).imp λE G H y=>by let⟨h,r,Φ,ρ,x,g,V,⟨I,t,c⟩,k⟩:=y;exact
 ⟨h,r,Φ,ρ,_,g,V,t,⟨λj o F C t' g' z=>⟨h,r,o,j,x,g',z,c j t',k⟩,k.rt,k.bk,k.ct,k.ex⟩⟩⟩
theorem aU(c:PSM K X st t):PSsM K X [st] t:=⟨λg=>uA (c.ps g)⟩
noncomputable def kN(i:Nat)(l:TX):bz:=λg ρ=>l ρ (λs c=>g.nx (c.set i (Z s))) g.ex
theorem zd{i:Nat}{E:Ends}{x:St}{H:Hp}(h:lM K X (kN i l) E x H):iP (lXm K X l) (iQ i) E x H:=by let⟨c,z,Φ,ρ,y,g,V,t,k⟩:=h;show⟨c,z,Φ,[],ρ,[],_,y.ex,de g V k.ex,t,λs B j A v r o _=>k.nx _ j A _ r o.g (o.env1.store i)⟩
theorem aO{i:Nat}{x:Str}{c:Õ}(h:X.N.Nodup)(r:X.N[i]?=Z x)(y:dA X.env.scope x)(j:PX K X e l)(v:Ð e (Z (.Name x c)) f.line X.env=pure ŕ:=by rfl)(o:X.fn x=Ŕ\/X.env.scope.names.lookup x=Z .local:=by nofun) :
  PSM K X (.Assign [.Name x c] e f) (kN i l):=⟨λg=>(tZ h r y (j.pe g) v o).imp λ_ _ _=>zd⟩
noncomputable def Bv(l:TX):bz:=λg ρ=>l ρ (λ_ c=>g.nx c) g.ex
theorem fw(B:PX K X e l)(C:Ð e Œ f.line X.env=pure ŕ:=by rfl):PSM K X (.Expr e f) (Bv l):=
 ⟨λA=>(nO (B.pe A) C).imp λE G H z=>by
  let⟨c,x,Φ,ρ,o,g,V,t,k⟩:=z
  show⟨c,x,Φ,[],ρ,[],_,o.ex,de g V k.ex,t,λs F h y v r j _=>k.nx _ h y G r j.g j.env⟩⟩
noncomputable def zm(l:TX):bz:=λc ρ=>l ρ c.rt c.ex
theorem cC(C:PX K X e l):PSM K X (.Return (Z e) f) (zm l):=
 ⟨λB=>(sZ (C.pe B)).imp λE F H A=>by
  let⟨c,y,Φ,ρ,x,g,V,t,k⟩:=A
  show⟨c,y,Φ,[],ρ,[],_,x.ex,de g V k.ex,t,λs j h z v r o _=>k.rt s j h z v F r o.g o.env1⟩⟩
noncomputable def vC(i:Nat):TX:=λρ R _=>match ρ[i]? with|some (Z (.ob Œ o))=>R (.ob Œ o) (ρ.set i Œ)|_=>False
theorem ka(i:Nat){x:Str}(N:X.N[i]?=Z x:=by rfl)(T:cI X.env.scope x:=by nofun)(hd:ab x:=by decide)
  (G:fI x:=by decide):PX K X (.Name x f) (vC i):=⟨λ_=>(pv i N T hd G).imp λbe H Q I=>by
 let⟨U,H0,Φ,a_,ρ,r,R,Rx,b_,t,k⟩:=I;unfold vC at t;split at t
 ·next o h=>
  have A:=aB h;have P:=b_.l;let⟨fp,E⟩:=b_.env;let⟨q,e,_⟩:=E.ow i Œ o h;refine⟨_,e,k _ _ Φ H _ t ⟨b_.g,by rw[Hs];show P,?_,b_.x⟩ (Same.refl _)⟩;have hk:=b_.lk;refine b_.E.re (λj=>if j=ρ.length+r.length then i else j) (by simp only[Hm,Hs,HD,IZ];omega) (λj x g=>?_) λB C a a' o1 o2 L M v=>?_
  ·have O:=aB g;simp only[Hm,Hs,HD,IZ]at O;rcases Ik j ρ.length with c|c
   ·rw[Hk (by rw[Hs];show c)]at g;rw[Hq (),Hk c,Hk (),Hk ()];rcases dX g with⟨_,_,z⟩|⟨_,z⟩
    ·cases z
    ·show⟨z,S⟩
   ·rw[Hl (by rw[Hs];show c),Hs]at g;rcases Ik j (ρ.length+r.length)with J|J
    ·rw[Hk ()]at g;rw[Hq ()];constructor
     ·rw[Hl c];show g
     ·rw[Hl (),Hk (),Hl ()]
    ·have y:j=ρ.length+r.length:=by omega
     subst y;rw[Hl (),show ρ.length+r.length-ρ.length-r.length=0 by omega]at g;cases g;rw[Hx S,Hk A,Hl (),Hl (),show ρ.length+r.length-be.length-a_.length=0 by omega,Hk (),e];show⟨h,S⟩
  ·have no:∀{j:Nat}{a:œ Addr}{o:Om},(ρ.set i Œ++(r++[Z (Sm.ob Œ o)]))[j]?=Z (Z (.ob a o))->True:=λ_=>trivial
   have F:∀{j:Nat}{x:Sm},(ρ.set i Œ++(r++[Z (Sm.ob Œ o)]))[j]?=Z (Z x)->j≠i:=λ{j x} g y=>by subst y;rw[Hk (by rw[Hs];show A),HV A]at g;cases g
   have n1:=F L;have n2:=F M;have v:(if B=ρ.length+r.length then i else B)=(if C=ρ.length+r.length then i else C):=v;split at v<;>split at v<;>omega
 ·show t.elim⟩
noncomputable def As(c:cU)(t u:bz):bz:=λh ρ=>c ρ (λb g=>(b=Ŕ->t h g)/\(b=ŕ->u h g)) h.ex
theorem bY{c:Ã}{a b:Y Ç}(F:PXB K X c w)(B:PSsM K X a t)(C:PSsM K X b u):PSM K X (.If c a b f) (As w t u):=
 ⟨λz=>(vc (F.pt z) (B.ps z) (C.ps z)).imp λE I H A=>by
  let⟨h,y,Φ,ρ,x,g,V,t,k⟩:=A;refine⟨h,y,Φ,[],ρ,[],_,x.ex,de g V k.ex,t,λc o j G r v _=>?_⟩
  cases c with
  |true=>refine jx ?_;show⟨h,y,j,o,x,v.g,v.env,r.1 S,k⟩
  |false=>refine js ?_;show⟨h,y,j,o,x,v.g,v.env,r.2 S,k⟩⟩
noncomputable abbrev fo:=D->af->(af->Prop)->Prop
noncomputable abbrev i9:=Y D->af->(af->Prop)->Prop
inductive lGM(K:Â)(g:fo)(v:V)(σ:St)(H:Hp)(Q:St->Hp->Prop):Prop|mk (H0:Hp) (Φ:Hp) (ρ:af) (d:D) (R:af->Prop) (_:EnvM K H0 Φ H σ ρ) (_:Rp K Φ d v) (_:g d ρ R) (_:∀ρ' σ',R ρ'->EnvM K H0 Φ H σ' ρ'->Q σ' H)
inductive lGMs(K:Â)(g:i9)(vs:List V)(σ:St)(H:Hp)(Q:St->Hp->Prop):Prop|mk (H0:Hp) (Φ:Hp) (ρ:af) (ds:List D) (R:af->Prop) (_:EnvM K H0 Φ H σ ρ) (_:RpL K Φ ds vs) (_:g ds ρ R) (_:∀ρ' σ',R ρ'->EnvM K H0 Φ H σ' ρ'->Q σ' H)
structure PGM(K:Â)(X:Cx)(e:Ã)(g:fo):Prop where pg:X.K=K->PG X e (lGM K g)
structure PGMs(K:Â)(X:Cx)(es:List Ã)(g:i9):Prop where pg:X.K=K->PGs X es (lGMs K g)
end
section
variable{K:Â}{X:Cx}{e:Ã}{es:Y Ã}{a:Õ}{g:fo}{gs:i9}
noncomputable def GS(i:Nat):fo:=λd ρ R=>R (ρ.set i (Z (.v d)))
theorem db{i:Nat}{x:Str}(f:X.N.Nodup)(j:X.N[i]?=Z x)(l:dA X.env.scope x)(h:X.fn x=Ŕ\/X.env.scope.names.lookup x=Z .local:=by nofun):PGM K X (.Name x a) (GS i):=
 ⟨λ_=>(j6 f j l h).imp λv p H Q c=>by let⟨o,Φ,ρ,d,R,E,r,g,k⟩:=c;show k _ _ g ((E.snocV r).store i)⟩
noncomputable def zy:i9:=λds ρ R=>match ds with| []=>R ρ|_=>False
noncomputable def CH(t:fo)(u:i9):i9:=λds ρ R=>match ds with|d::r=>t d ρ λc=>u r c R| []=>False
theorem i8:PGMs K X [] zy:=⟨λ_=>pgs_nil.imp λv h H Q c=>by
 let⟨f,Φ,ρ,ds,R,E,r,g,k⟩:=c
 cases ds with
 |nil=>show⟨Je.mp r.1,k _ _ g E⟩
 |cons=>show g.elim⟩
theorem e5(p:PGM K X e g)(w:PGMs K X es gs)(y:(Æ (e::es) X.env).map (·.2)=assign e X.env::(Æ es X.env).map (·.2):=by rfl):PGMs K X (e::es) (CH g gs):=
 ⟨λj=>(ky (p.pg j) (w.pg j) y).imp λvs B H Q o=>by
  let⟨h,Φ,ρ,ds,R,E,r,g,k⟩:=o
  cases ds with
  |nil=>show g.elim
  |cons d ds=>
   cases vs with
   |nil=>show absurd r.1 (by simp)
   |cons v vs=>
    refine⟨v,vs,S,h,Φ,ρ,d,_,E,r.2 0 v d S S,g,λc A g' l=>⟨h,Φ,c,ds,R,l,⟨by have:=r.1;simpa using this,λi u f z x=>r.2 (i+1) u f z x⟩,g',k⟩⟩⟩
noncomputable def Bs(n:Nat)(t:i9):fo:=λd ρ R=>match d with|.tup ds=>ds.length=n/\t ds ρ R|.lst ds=>ds.length=n/\t ds ρ R|_=>False
noncomputable def ur(K:Â)(n:Nat)(t:e6):TG:=λv c H Q=>pN K n t v c H Q\/oX K n t v c H Q
theorem xa{k n:Nat}{t:e6}(l:X.K=K)(o:X.calm=Ŕ)(h:PGs X es t)(hn:(Æ es X.env).length=n)(j:(Æ es X.env).findIdx? (·.1)=Œ):PG X (.Tuple es k a) (ur K n t):=λc s p H v u Q I r f=>by
 rcases f with f|f
 ·show tW l o h hn j c s p H v u Q I r f
 ·show tG l o h hn j c s p H v u Q I r f
theorem iR{k n:Nat}(o:X.calm=Ŕ)(h:PGMs K X es gs)(hn:(Æ es X.env).length=n:=by rfl)(l:(Æ es X.env).findIdx? (·.1)=Œ:=by rfl):PGM K X (.Tuple es k a) (Bs n gs):=
 ⟨λf=>(xa f o (h.pg f) hn l:PG X (.Tuple es k a) (ur K n (lGMs K gs))).imp λv p H Q j=>by
  let⟨c,Φ,ρ,d,R,E,r,g,k⟩:=j
  cases d with
  |tup ds=>cases r with|tup h1 h2 h3=>show .inl ⟨_,_,S,.of (E.fz _ _ h1),by rw[h2];show g.1,c,Φ,ρ,ds,R,E,⟨h2,h3⟩,g.2,k⟩
  |lst ds=>cases r with|lst h1 h2 h3=>show .inr ⟨_,_,S,.of (E.fz _ _ h1),by rw[h2];show g.1,c,Φ,ρ,ds,R,E,⟨h2,h3⟩,g.2,k⟩
  |_=>show g.elim⟩
end
section
variable{K:Â}{X:Cx}{t u:bz}{e a:Ã}{l:TX}{f:Õ}{o:cU}
noncomputable def Ay(l:TX)(g:fo):bz:=λh ρ=>l ρ (xV λd c=>g d c h.nx) h.ex
theorem rF{c:Ã}{A:fo}(L:PX K X e l)(M:PGM K X c A)(N:Ö [c] e f.line X.env=pure ŕ:=by rfl)(O:Ø [c] e X.env=pure Œ:=by rfl)
  (J:(Æ [c] X.env).map (·.2)=[assign c X.env]:=by rfl):PSM K X (.Assign [c] e f) (Ay l A):=
 ⟨λB=>(jO (L.pe B) (M.pg B) N O J).imp λE Q H G=>by
  let⟨p,z,Φ,ρ,C,g,V,t,k⟩:=G;refine⟨p,z,Φ,[],ρ,[],_,C.ex,de g V k.ex,t,λs x h F v r j _=>?_⟩;let⟨d,rfl,r⟩:=r.get
  show⟨z,h,x,d,_,j.env,j.last,r,λw y P I=>k.nx w h F y P j.g I⟩⟩
noncomputable def AY(c:cU)(tb:bz):bz:=λr ρ=>∃I:Nat->af->Prop,(∃m,I m ρ)/\∀m j,I m j->c j (λb p=>(b=Ŕ->tb { r with nx:=λg=>∃h,h<m/\I h g,ct:=λg=>∃h,h<m/\I h g,bk:=r.nx } p)/\(b=ŕ->r.nx p)) r.ex
theorem yB{c:Ã}{x:Y Ç}{tb:bz}(hp:ø (Ä X.prog X.w) X.A X.env X.xe)(hc:PXB K X c o)(hb:PSsM K X x tb):PSM K X (.While c x [] f) (AY o tb):=
 ⟨λQ=>(rQ hp (hc.pt Q) (hb.ps Q)).imp λE R H U=>by
  let⟨v,A,Φ,ρ,b_,g,V,⟨I,⟨m,a_⟩,hw⟩,k⟩:=U;refine⟨λm R H=>∃p j,Gr v A p H/\EnvM K A p H R j/\I m j,⟨m,Φ,ρ,g,V,a_⟩,?_⟩;rintro m P H' ⟨p,j,g',be,hi⟩;refine⟨v,A,p,[],j,[],_,b_.ex,de g' be k.ex,hw m j hi,λb G F T r J _=>?_⟩
  cases b with
  |false=>refine js ?_;show k.nx G F T P (r.2 S) J.g J.env
  |true=>
   refine jx ?_;refine⟨λw C=>∃B,B<m/\∃p j,Gr v A p C/\EnvM K A p C w j/\I B j,λw C h=>h,v,A,F,G,_,J.g,J.env,r.1 S,⟨?_,k.rt,k.nx,?_,k.ex⟩⟩
   ·rintro z y C w ⟨B,O,L⟩ N M;show⟨B,O,y,z,N,M,L⟩
   ·rintro z y C w ⟨B,O,L⟩ N M
    show⟨B,O,y,z,N,M,L⟩⟩
noncomputable abbrev iz:=af->(Y D->af->Prop)->(XD->af->Prop)->Prop
inductive lIM(K:Â)(X:Cx)(t:iz)(σ:St)(H:Hp)(R':It->Hp->Prop):Prop|mk (Φ0:Hp) (H0:Hp) (Φ:Hp) (τ:St) (ρ:af) (κ:af) (R:List D->af->Prop) (Rx:XD->af->Prop) (_:StM K X Φ0 H0 Φ H σ τ ρ κ Rx) (_:t ρ R Rx) (_:∀ds ρ' Φ' H' J,R ds ρ'->StM K X Φ0 H0 Φ' H' σ τ ρ' κ Rx->Same Φ Φ'->SteadyD K J Φ' ds->R' J H')
structure PIM(K:Â)(X:Cx)(tg e:Ã)(t:iz):Prop where pi:X.K=K->PI X tg e (lIM K X t)
noncomputable def iD(t:aM):iz:=λρ R _=>t (dw ρ) λds=>R ds ρ
theorem gD{j:Ã}{t:aM}(h:PID K X j e t):PIM K X j e (iD t):=⟨λy=>(h.pi y).imp λE H A w=>by
 let⟨z,v,Φ,F,ρ,C,R,B,Q,t,k⟩:=w
 show⟨v,Φ,dw ρ,_,Q.env.toD,t,λds c p J r g x=>k ds ρ c p J r (Q.gr g) g.f x⟩⟩
noncomputable def E9(t:cT):iz:=λρ R g=>t ρ (xaD λds c=>match ds with| [.int j]=>(-(2^62)<=j/\j<2^62)/\R (cp 0 j.toNat) c|_=>False) g
theorem rW{N:Ã}{y:cT}{p:Õ}(I:Gl X "range")(J:X.mg "range"=Œ)(G:PXA K X [a] y)(L:starEach [a] X.env=[(ŕ,eval a X.env)]:=by rfl):PIM K X N (.Call (.Name "range" p) [a] [] f) (E9 y):=
 ⟨λF=>(uE I J (G.pa F) L).imp λa_ H Q B=>by
  let⟨g,z,Φ,P,ρ,O,R,C,be,t,k⟩:=B;refine⟨g,z,Φ,P,ρ,O,_,C,be,t,λas w h A vs U c T M x E=>?_⟩;let⟨ds,hd,c⟩:=c.get;have rl:=x.vals be.lk hd M
  match ds,c,rl with
  | [.int j],r,rl=>
   let⟨v,rfl,c⟩:=rl.one_inv;obtain rfl:=c.i
   show⟨j,S,r.1.1,r.1.2,k _ w h A _ r.2 (x.pop be.lk) E tF⟩⟩
theorem XeOk.join{j v H p:Hp}{A:XD->af->Prop}(x:XeOk K X j v A)(g:Gr j v p H):XeOk K X p v A:=λE y w B z e C c r g' V h=>x E y w B z e C c r (g.join g') V h
inductive ForM(gd:fo)(tb:bz)(De:EndsM)(ds:List D)(ρ0:af):Prop|mk (I:Nat->af->Prop) (_:I 0 ρ0) (_:∀(i:Nat)(d:D)(ρ':af),ds[i]?=Z d->I i ρ'->gd d ρ' λρ2=>tb { De with nx:=I (i+1),ct:=I (i+1),bk:=De.nx } ρ2) (_:∀ρ',I ds.length ρ'->De.nx ρ')
noncomputable def DP(j:iz)(h:fo)(tb:bz):bz:=λg ρ=>j ρ (λds c=>ForM h tb g ds c) g.ex
theorem gb{tg z:Ã}{F:Y Ç}{ti:iz}{gd:fo}{tb:bz}(hp:ø (Ä X.prog X.w) X.A X.env X.xe)(hc:X.calm=Ŕ)(hi:PIM K X tg z ti)(hg:PGM K X tg gd)(hb:PSsM K X F tb)
  (hs:∀x,Ë z X.env x=pure x:=by intro _;rfl):PSM K X (.For tg z F [] f) (DP ti gd tb):=
 ⟨λhK=>(vI hp hc (hi.pi hK) (hg.pg hK) (hb.ps hK) hs).imp λE σ H LR=>by
  let⟨N,L,Φ,ρ,De,g,V,t,k⟩:=LR;refine⟨N,L,Φ,[],ρ,[],_,De.ex,de g V k.ex,t,λds ρ0 O H1 J MF S1 _ Sd=>?_⟩;let⟨I,h0,Mn,MW⟩:=MF;refine⟨λi m σ G=>m=ds.length-i/\i<=ds.length/\∃c h,Gr N L c G/\Same O c/\EnvM K L c G σ h/\I i h,⟨ds.length,by simp,Jx _,O,ρ0,S1.g,Same.refl _,S1.env,h0⟩,?_⟩;rintro i m σ' G ⟨rfl,hi,c,h,g',T,b_,hI⟩;by_cases a_:i<ds.length
  ·refine .inr ⟨Sd.go i G (T.trans b_.fz) a_,λbe Q=>∃c h,Gr N L c Q/\Same O c/\EnvM K L c Q be h/\I (i+1) h,λbe Q h2=>⟨ds.length-(i+1),(),S,a_,h2⟩,λx Q y=>?_⟩;let⟨P,B,rx⟩:=Sd.yl i c G x Q _ T b_.fz (bB a_) y;refine⟨L,P,h,_,_,b_.gr B,rx,Mn i _ h (bB a_) hI,λρ2 σ3 t2 V3=>?_⟩;refine⟨P,L,P,ρ2,_,?_,V3,t2,⟨?_,?_,?_,?_,k.ex.join (g'.trans B)⟩⟩
   ·show⟨Same.refl _,(g'.trans B).h,B.s,λp u hp hn _=>hn⟩
   ·intro w j R A U C M;show⟨j,w,(g'.trans B).join C,(T.trans B.f).trans C.f,M,U⟩
   ·intro sm w j R v A r C M;show k.rt sm w j R v A r ((g'.trans B).join C) M
   ·intro w j R A U C M;show k.nx w j R A U ((g'.trans B).join C) M
   ·intro w j R A U C M;show⟨j,w,(g'.trans B).join C,(T.trans B.f).trans C.f,M,U⟩
  ·have e:i=ds.length:=by omega
   subst e
   show .inl ⟨Sd.stop G (T.trans b_.fz),k.nx h c G σ' (MW h hI) g' b_⟩⟩
end
noncomputable def aK:Y Sm->Y Addr->af
 | [],_=>[]
 |.v d::as,ps=>Z (.v d)::aK as ps
 |.ob _ o::as,p::ps=>Z (.ob (Z p) o)::aK as ps
 |.ob _ _::as,[]=>Œ::aK as []
noncomputable def gA(N:Y Str)(as:Y Sm)(ps:Y Addr):af:=aK as ps++List.replicate (N.length-as.length) Œ
noncomputable def aQ:Y Str->Y Sm->Y Addr->af
 | [],as,ps=>aK as ps
 |_::N,[],ps=>Œ::aQ N [] ps
 |_::N,.v d::as,ps=>Z (.v d)::aQ N as ps
 |_::N,.ob _ o::as,p::ps=>Z (.ob (Z p) o)::aQ N as ps
 |_::N,.ob _ _::as,[]=>Œ::aQ N as []
theorem kz:∀(N:Y Str)(as:Y Sm)(ps:Y Addr),gA N as ps=aQ N as ps
 | [],as,ps=>by unfold gA;rw[IZ,Nat.zero_sub,List.replicate_zero,Ii];rfl
 |n::N,[],ps=>by
  have:=kz N [] ps;unfold gA at this ⊢;change List.replicate (N.length+1-0) Œ=Œ::aQ N [] ps;rw[←this];rfl
 |n::N,.v d::as,ps=>by have:=kz N as ps;unfold gA at this ⊢;rw[HD,HD,Kv];show Il (Z (Sm.v d)::·) this
 |n::N,.ob a o::as,p::ps=>by have:=kz N as ps;unfold gA at this ⊢;rw[HD,HD,Kv];show Il (Z (Sm.ob (Z p) o)::·) this
 |n::N,.ob _ _::as,[]=>by have:=kz N as [];unfold gA at this ⊢;rw[HD,HD,Kv];show Il (Œ::·) this
noncomputable def iH(k:Y Om->Prop):Y Sm->Y Addr->Nat->af->Prop
 | [],_,_,_=>k []
 |.v _::as,ps,i,ρ=>iH k as ps (i+1) ρ
 |.ob _ _::as,p::ps,i,ρ=>∃o,ρ[i]?=Z (Z (.ob (Z p) o))/\iH (λos=>k (o::os)) as ps (i+1) ρ
 |.ob _ _::_,[],_,_=>False
noncomputable def ng:Y Sm->Nat
 | []=>0
 |.v _::as=>ng as
 |.ob _ _::as=>ng as+1
noncomputable def fV:Y Sm->Y V->Y Addr
 |.v _::as,_::vs=>fV as vs
 |.ob _ _::as,.ref p::vs=>p::fV as vs
 |_,_=>[]
section
variable{K:Â}{Φ H f l g:Hp}
theorem DQ:∀{as:Y Sm}{vs:Y V}{c:Y (Y Addr)},ArgM K Φ H as vs c->(fV as vs).length=ng as:=by
 intro as vs c h
 induction h with
 |nil=>rfl
 |v _ _ a=>show a
 |o _ _ a=>show Il (·+1) a
theorem l9:∀{as:Y Sm}{ps:Y Addr},(aK as ps).length=as.length
 | [],_=>rfl
 |.v d::as,ps=>by change (aK as ps).length+1=_;rw[l9];rfl
 |.ob _ o::as,p::ps=>by change (aK as ps).length+1=_;rw[l9];rfl
 |.ob _ _::as,[]=>by change (aK as []).length+1=_;rw[l9];rfl
theorem kq:∀{as:Y Sm}{vs:Y V}{a:Y (Y Addr)},ArgM K Φ H as vs a->∀{i:Nat}{x:Sm},(aK as (fV as vs))[i]?=Z (Z x)->
  (∃d v,x=.v d/\vs[i]?=Z v/\Rp K Φ d v)\/∃o p F,x=.ob (Z p) o/\vs[i]?=Z (.ref p)/\a[i]?=Z F/\OmS K Φ H o p F:=by
 intro as vs a h
 induction h with
 |nil=>intro i x h;simp[aK]at h
 | @v d _ _ _ _ r t c=>
  intro i x h
  cases i with
  |zero=>cases h;show .inl ⟨d,_,S,S,r⟩
  |succ i=>show c (i:=i) h
 | @o _ o p F _ _ _ r t c=>
  intro i x h
  cases i with
  |zero=>cases h;show .inr ⟨o,p,F,S,S,S,r⟩
  |succ i=>show c (i:=i) h
theorem vR:∀{a:Y (Y Addr)},a.flatten.Nodup->∀{i j:Nat}{F G:Y Addr},a[i]?=Z F->a[j]?=Z G->i≠j->∀b∈F,b∉G
 | [],_,i,j,F,G,h,_,_,_,_=>by simp at h
 |L::a,nd,i,j,F,G,r,u,c,b,p=>by
  let⟨n1,n2,n3⟩:=IQ.mp (show (L++a.flatten).Nodup from nd);intro o
  cases i with
  |zero=>
   cases r
   cases j with
   |zero=>show c S
   |succ j=>show n3 b p b (Lm.mpr ⟨G,Hu (i:=j) (by simpa using u),o⟩) S
  |succ i=>
   cases j with
   |zero=>
    cases u;show n3 b o b (Lm.mpr ⟨F,Hu (i:=i) (by simpa using r),p⟩) S
   |succ j=>show vR n2 (by simpa using r) (by simpa using u) (λe=>c (by rw[e])) b p o
theorem AB{N:Y Str}{as:Y Sm}{vs:Y V}{u:Y (Y Addr)}(sm:Same Φ H)(tb:TabF K Φ)(w:ArgM K Φ H as vs u)(nd:u.flatten.Nodup)(hn:∀b∈u.flatten,Φ b=Œ):EnvM K (bU H u.flatten) Φ H (eo N vs) (gA N as (fV as vs)):=by
 have y:∀{i:Nat}{x:Sm},(gA N as (fV as vs))[i]?=Z (Z x)->(aK as (fV as vs))[i]?=Z (Z x):=λ{i x} h=>by
  unfold gA at h;rcases Ik i (aK as (fV as vs)).length with c|c
  ·rwa [Hk c]at h
  ·rw[Hl c,Jp]at h;split at h<;>cases h
 have I:∀{i:Nat}{v:V},vs[i]?=Z v->(eo N vs)[i]?=Z (Z v):=λ{i v} h=>by unfold eo;rw[Hk (by rw[Hj];show aB h),Hy,h];rfl
 let⟨M,Q⟩:=w.len;refine⟨λi=>u.getD i [],sm,by unfold eo gA;rw[Hm,Hm,Hj,IS,IS,l9,M],λi d h=>?_,λi a o h=>?_,λi a o h b B=>?_,λi j a a' o o' J L c b B=>?_,tb⟩
 ·rcases kq w (y h)with⟨d',v,e,C,r⟩|⟨o,p,F,e,_⟩
  ·cases e;show⟨v,I C,r⟩
  ·cases e
 ·rcases kq w (y h)with⟨d',v,e,C,r⟩|⟨o',p,F,e,C,E,r⟩
  ·cases e
  ·cases e;refine⟨p,I C,(λq e=>by cases e;rfl),?_⟩;rw[HE,E];show r
 ·rcases kq w (y h)with⟨d',v,e,_⟩|⟨o',p,F,e,C,E,r⟩
  ·cases e
  ·rw[HE,E]at B;have G:b∈u.flatten:=Lm.mpr ⟨F,Hu E,B⟩;show⟨vH G,hn b G⟩
 ·rcases kq w (y J)with⟨d',v,e,_⟩|⟨R,T,O,e,_,z,_⟩
  ·cases e
  ·rcases kq w (y L)with⟨d',v,e,_⟩|⟨a_,U,P,e,_,A,_⟩
   ·cases e
   ·rw[HE,z]at B;rw[HE,A];show vR nd z A c b B
theorem D7{x:Nat->Y Addr}{R:St}{ρ:af}{k:Y Om->Prop}(E:EnvM' K g f l R ρ x):∀{as:Y Sm}{vs:Y V}{B:Y (Y Addr)}{i:Nat}{k:Y Om->Prop},ArgM K Φ H as vs B->iH k as (fV as vs) i ρ->
  ∃os w,OutM K f l as vs os w/\k os/\w.flatten.Nodup/\(∀b∈w.flatten,g b=Œ/\f b=Œ)/\∀b∈w.flatten,∃j a o,i<=j/\j<i+as.length/\ρ[j]?=Z (Z (.ob a o))/\b∈x j:=by
 intro as vs B i k h
 induction h generalizing i k with
 |nil=>show λh=>⟨[],[],.nil,h,by simp,λb u=>(by cases u),λb u=>(by cases u)⟩
 |v r t L=>
  intro h;let⟨os,w,C,G,I,J,A⟩:=L (k:=k) (i:=i+1) h;refine⟨os,[]::w,.v C,G,by simpa using I,λb u=>J b (by simpa using u),λb u=>?_⟩;let⟨j,a,o,M,N,y⟩:=A b (by simpa using u);show⟨j,a,o,(),by rw[HD];omega,y⟩
 | @o _ U p F as vs B r t L=>
  intro h;let⟨o',ho,h⟩:=(show ∃o,ρ[i]?=Z (Z (.ob (Z p) o))/\iH (λos=>k (o::os)) as (fV as vs) (i+1) ρ from h);let⟨os,w,C,G,I,J,A⟩:=L (k:=λos=>k (o'::os)) (i:=i+1) h;let⟨q,e,O,rr⟩:=E.ow i _ o' ho;cases O p S;refine⟨o'::os,x i::w,.o rr C,G,?_,λb u=>?_,λb u=>?_⟩
  ·refine IQ.mpr ⟨rr.nodup,I,λb u c P e=>?_⟩;subst e;let⟨j,a,o,M,N,y,Q⟩:=A b P;show E.dj i j _ a o' o ho y () b u Q
  ·rcases HU.mp (show b∈x i++w.flatten from u)with z|z
   ·show E.no i _ o' ho b z
   ·show J b z
  ·rcases HU.mp (show b∈x i++w.flatten from u)with z|z
   ·show⟨i,_,o',Hr _,by rw[HD];omega,ho,z⟩
   ·let⟨j,a,o,M,N,y⟩:=A b z;show⟨j,a,o,(),by rw[HD];omega,y⟩
end
section
variable{P:Å}{w:È}{K:Â}{mg:Str->œ Value}{base:Heap}
theorem Fun.okM{x qual:Str}{st:Ç}{f:Addr}{a_:Ì}{N ps:Y Str}{k:Nat}{sp:dI}(F:Fun K x qual st f a_)(b_:FnScope N ps (ar st))(len:∀as R C,sp as R C->as.length=ps.length)
  (MG:∀(L:Value)(A:Ê)(outer:Y ì)(s:À)(H:Hp)(E:XK)(as:Y Sm)(R:Sm->Y Om->Prop)(C:XD->Y Om->Prop)(be:Y Addr),a_.code=L->Room k (A.deeper (ê qual (ar st) s.heap.objs.size f L))->sp as R C->be.length=ng as->
   ∃t,PSsM K (gJ aD P w K mg base N qual (ar st) f L A outer s H E).nox (fY st) t/\let ke:EndsM:={ nx:=λρ=>iH (R (.v .non)) as be 0 ρ,rt:=λsm ρ=>iH (R sm) as be 0 ρ };t ke (aQ N as be)):FnOk P w K mg base aD (k+1) f a_ ps (lSpM K sp):=by
 refine F.okL b_ (λvs H Q E ⟨Φ,as,J,R,C,sm,tb,O,nd,hn,h,_⟩=>by rw[O.len.1];show len as R C h) (λL A outer s H vs Q E L6 hr ⟨Φ,as,J,R,C,sm,tb,O,nd,hn,h,kk⟩=>?_);let⟨t,ht,hq⟩:=MG L A outer s H E as R C (fV as vs) L6 hr h (DQ O);dsimp only at hq;rw[←kz]at hq;have al:=len as R C h
 have nl:ps.length<=N.length:=by have:=Il List.length b_.pre;rw[IB]at this;omega
 have M:∀sm l p B v y,iH (R sm) as (fV as vs) 0 l->Gr Φ (bU H J.flatten) p B->EnvM K (bU H J.flatten) p B (y++[Z v]) (l++[Z sm])->Q v B:=λI l p B v y hk g V=>by
  let⟨fp,G⟩:=V
  have hl:y.length=l.length:=by have:=G.len;simpa using this
  let⟨os,Mq,h1,h2,h3,h4,h5⟩:=D7 (k:=R I) (G.take hl.symm) O hk
  have X:(l++[Z I])[l.length]?=Z (Z I):=by rw[Hl (Hr _),Ic];rfl
  cases I with
  |v d=>
   let⟨u,U,r⟩:=G.sl _ d X;rw[←hl,Hl (Hr _),Ic]at U;cases U;show kk (.v d) os p B v [] Mq h2 g (.v r) h1 (by simpa using h3) (λb T=>h4 b (by simpa using T))
  |ob a o=>
   let⟨u,U,hau,r⟩:=G.ow _ a o X;rw[←hl,Hl (Hr _),Ic]at U;cases U;refine kk (.ob a o) os p B _ (fp l.length) Mq h2 g (.o hau r) h1 ?_ λb T=>?_
   ·refine IQ.mpr ⟨r.nodup,h3,λb T c hc e=>?_⟩;subst e;let⟨j,a2,o2,_,_,j3,j4⟩:=h5 b hc;have hj:=aB j3;show G.dj _ j a a2 o o2 X (by rw[Hk hj];show j3) () b T j4
   ·rcases HU.mp T with z|z
    ·show G.no _ a o X b z
    ·show h4 b z
 have g0:Gr Φ (bU H J.flatten) Φ H:=⟨Same.refl _,ES,sm,λ_ _ _ h _=>h⟩;refine⟨lM K _ t,ht.ps S,Φ,bU H J.flatten,Φ,_,_,g0,AB sm tb O nd hn,hq,⟨λl p B y r g V=>?_,λI l p B v y r g V=>M I l p B v y r g V,λ_ _ _ _ h=>h.elim,λ_ _ _ _ h=>h.elim,λ_ _ _ _ _ _ _ _ h=>h.elim⟩⟩;show M (.v .non) l p B .non y r g (V.snocV .non)
theorem Fun.clM{x:Str}{st:Ç}{f:Addr}{a:Ì}{ps:Y Str}{n:Nat}{z:dI}(F:Fun K x x st f a)(m:mg x=Z (.ref f))(H:FnOk P w K mg base aD n f a ps (lSpM K z))
  (b:oK st x x ps:=by intro _ _ _ _ _ _;first|show pC λ_=>rfl|show pW λ_ _=>rfl|show pU λ_ _ _=>rfl|show qo λ_ _ _ _=>rfl|show us_0 S|show us_5 λ_ _ _ _ _=>rfl|show us_6 λ_ _ _ _ _ _=>rfl|show us_7 λ_ _ _ _ _ _ _=>rfl|show us_8 λ_ _ _ _ _ _ _ _=>rfl):ClM P w K mg base n x ps z:=⟨f,a,H,F.binds b,F.kp,m⟩
theorem ClM.mono{n m:Nat}{x:Str}{ps:Y Str}{z:dI}(C:ClM P w K mg base n x ps z)(k:n<=m:=by decide):ClM P w K mg base m x ps z:=by let⟨f,a,F,r⟩:=C.ex;show⟨f,a,F.mono k,r⟩
end
section
variable{K:Â}{X:Cx}{e a b:Ã}{y C:TX}{A B I l G:Õ}{x:Str}{i:Nat}
noncomputable def ownL(ρ:af)(i:Nat)(k:œ Addr->Y D->Prop):Prop:=match ρ[i]? with|some (Z (.ob a (.lst ds)))=>k a ds|_=>False
theorem ownL.get{ρ:af}{i:Nat}{k:œ Addr->Y D->Prop}(h:ownL ρ i k):∃a ds,ρ[i]?=Z (Z (.ob a (.lst ds)))/\k a ds:=by
 unfold ownL at h;split at h
 ·next a ds e=>show⟨a,ds,e,h⟩
 ·show h.elim
theorem StM.list{c j Φ H:Hp}{h w:St}{ρ v:af}{o:XD->af->Prop}{a:œ Addr}{ds:Y D}(Q:StM K X c j Φ H h w ρ v o)(p:ρ[i]?=Z (Z (.ob a (.lst ds)))):∃q vs,h[i]?=Z (Z (.ref q))/\H q=Z (.lst vs)/\RpL K Φ ds vs /\
  ∀(es:Y D)(f:Y V),RpL K Φ es f->StM K X c j Φ (am H q (.lst f)) h w (ρ.set i (Z (.ob a (.lst es)))) v o:=by
 have g:=aB p;let⟨q,vs,e,z,L,M,E,F⟩:=Q.E.list (i:=i) (a:=a) (ds:=ds) Q.g (by rw[Hk g];show p);rw[Hk (by rw[←Q.l];show g)]at e;refine⟨q,vs,e,z,E,λes f r=>?_⟩;let⟨u,J⟩:=F es f r;refine⟨J,by rw[Hs];show Q.l,?_,Q.x⟩;rw[Jn _ _ g]at u;show u
noncomputable def zt(i:Nat)(y:TX):bz:=λf ρ=>ownL ρ i λ_ _=>y ρ (xV λd c=>ownL c i λa ds=>ds.length<sizeLine/\NF (ds++[d]) λes=>f.nx (c.set i (Z (.ob a (.lst es))))) f.ex
theorem fZ(i:Nat)(be:PX K X e y)(P:((backTo I (starEach [e] X.env)).all (λx=>!x.1)&&(ç I (Û [] X.env)).all (λx=>x.1.isSome)&&decide (([e]:Y Ã).length+([]:Y ß).length+(if ([]:Y ß).isEmpty then 0 else 1)<30))=Ŕ)
  (h:starEach [e] X.env=(ŕ,eval e X.env)::starEach [] X.env) (U:X.N[i]?=Z x:=by rfl) (hv:cI X.env.scope x:=by nofun) (hd:ab x:=by decide) (J:fI x:=by decide)
  (M:Î (.Name x l) "append" X.env (eval (.Name x l) X.env)=eval (.Name x l) X.env:=by rfl) (N:(B.endLine==I.line)=Ŕ:=by rfl) (hs:Ð (.Call (.Attribute (.Name x l) "append" B) [e] [] I) Œ A.line X.env=pure ŕ:=by rfl) :
  PSM K X (.Expr (.Call (.Attribute (.Name x l) "append" B) [e] [] I) A) (zt i y):=
 ⟨λT=>(nO (nW JM Ln Lo pJ (pv i U hv hd J) (eN (be.pe T) pa_nil h) M P N h ae) hs).imp λE σ H L=>by
  let⟨c,F,Φ,ρ,z,g,V,t,k⟩:=L;let⟨a,ds,ho,t⟩:=ownL.get t;have b_:=de g V k.ex;let⟨q,vs,u,hp,rl,_⟩:=b_.list ho;refine⟨_,u,.inl ⟨S,vs,SqL.of hp⟩,c,F,Φ,[],ρ,[],_,z.ex,b_,t,λs ρ1 f H1 v r o _=>?_⟩;let⟨d,rfl,r⟩:=r.get;let⟨a1,SX,Q,a_,r⟩:=ownL.get r;let⟨q1,R,w,O,j,k1⟩:=o.list Q;rw[u]at w;cases w;have p:=k1 _ _ (j.append (.one o.last))
  show⟨q,R,v,S,S,O,by rw[j.1];show a_,k.nx _ f _ σ r.get p.g p.env⟩⟩
theorem RpL.eraseIdx{Φ:Hp}{ds:Y D}{vs:Y V}(h:RpL K Φ ds vs)(j:Nat):RpL K Φ (ds.eraseIdx j) (vs.eraseIdx j):=by rw[KA,KA];show (h.take j).append (h.drop (j+1))
theorem wz{j n:Nat}(h:j<n):Ā (j:Int) n=Z j:=by unfold Ā;simp;omega
noncomputable def xA(i:Nat)(y C:TX):bz:=λg ρ=>y ρ (xV λd c=>ownL c i λ_ _=>C c (xV λh f=>match h with|.int n=>ownL f i λa ds=>∃j,fS ds.length n=Z j/\NF (ds.set j d) λes=>g.nx (f.set i (Z (.ob a (.lst es))))|_=>False) g.ex) g.ex
theorem lN(i:Nat)(he:PX K X e y)(hk:PX K X b C)(hN:X.N[i]?=Z x:=by rfl)(hv:cI X.env.scope x:=by nofun)(hd:ab x:=by decide)(Q:fI x:=by decide)
  (ha:∀v,assign (.Subscript (.Name x l) b G) X.env v=(do
   let ov ←holding [v] (eval (.Name x l) X.env)
   let iv ←holding [v,ov] (eval b X.env)
   standAt G
   holding [v,ov,iv] (setItem ov iv v)
   release [v,ov,iv] []):=by intro _;rfl)
  (hs:Ö [.Subscript (.Name x l) b G] e A.line X.env=pure ŕ:=by rfl) (hw:Ø [.Subscript (.Name x l) b G] e X.env=pure Œ:=by rfl)
  (a_:(Æ [.Subscript (.Name x l) b G] X.env).map (·.2)=[assign (.Subscript (.Name x l) b G) X.env]:=by rfl) :
  PSM K X (.Assign [.Subscript (.Name x l) b G] e A) (xA i y C):=
 ⟨λP=>(jO (he.pe P) (r6 (pv i hN hv hd Q) (hk.pe P) qk ha) hs hw a_).imp λE σ H R=>by
  let⟨f,z,Φ,ρ,u,g,V,t,k⟩:=R;refine⟨f,z,Φ,[],ρ,[],_,u.ex,de g V k.ex,t,λs p h H1 v r J _=>?_⟩;let⟨d,rfl,r⟩:=r.get;let⟨a1,SX,U,r⟩:=ownL.get r;let⟨q,vs,N,_⟩:=J.list U;refine⟨_,N,f,z,h,_,p,_,_,u.ex,J,r,λs2 ρ2 o H2 w c L _=>?_⟩;let⟨kk,rfl,c⟩:=c.get;let⟨rd,rk⟩:=L.last2;let⟨n,rfl,c⟩:=ix c;obtain rfl:=rk.i;let⟨a2,RQ,T,j,hj,c⟩:=ownL.get c;let⟨q2,be,O,b_,F,k2⟩:=L.list T;rw[N]at O;cases O;have M:=k2 _ _ (F.set rd j)
  show⟨q,be,n,j,S,S,b_,by rw[F.1];show hj,k.nx _ o _ σ c.get M.g M.env⟩⟩
noncomputable def zb(i:Nat)(f:Int->Int->Int)(C y:TX):bz:=λh ρ=>(ownL ρ i λ_ _=>True)/\C ρ (xV λp c=>match p with|.int n=>ownL c i λa ds=>∃(j:Nat)(v:Int),n=(j:Int)/\ds[j]?=Z (.int v)/\y c (xV λd g=>match d with|.int m=>ownL g i λa2 o=>j<o.length/\NF (o.set j (.int (f v m))) λes=>h.nx (g.set i (Z (.ob a2 (.lst es))))|_=>False) h.ex|_=>False) h.ex
theorem GA{op:ë}{f:Int->Int->Int}(i:Nat)(SR:jZ X op (qh f))(hk:PX K X b C)(he:PX K X e y)(hN:X.N[i]?=Z x:=by rfl)(hv:cI X.env.scope x:=by nofun)(hd:ab x:=by decide)(L6:fI x:=by decide)
  (ha:∀r p new,augStore b r p new=(do holding [new,r,p] (setItem r p new);release [new,r,p] [];pure .next):=by intros;rfl) :
  PSM K X (.AugAssign (.Subscript (.Name x l) b G) op e A) (zb i f C y):=
 ⟨λL=>(AF (pv i hN hv hd L6) (hk.pe L) (zf L) (he.pe L) SR qk ha).imp λE σ H LR=>by
  let⟨o,R,Φ,ρ,Q,g,V,⟨ho,t⟩,k⟩:=LR;let⟨a,ds,ho,_⟩:=ownL.get ho;have b_:=de g V k.ex;let⟨q,vs,J,hp,rl,_⟩:=b_.list ho;refine⟨_,J,o,R,Φ,[],ρ,[],_,Q.ex,b_,t,λs1 P N H1 w c F _=>?_⟩;let⟨kk,rfl,c⟩:=c.get;have rk:=F.last;let⟨n,rfl,c⟩:=ix c;obtain rfl:=rk.i;let⟨a1,SX,OV,j,v,rfl,hj,c⟩:=ownL.get c;let⟨q1,SY,a_,Na,RP,_⟩:=F.list OV;rw[J]at a_;cases a_;let⟨u,hu,ru⟩:=RP.at hj;obtain rfl:=ru.i;refine⟨q,SY,_,j,_,S,S,.of Na,S,hu,o,R,N,_,P,_,_,Q.ex,F,c,λs2 ρ2 O H2 z h U _=>?_⟩;let⟨d,rfl,h⟩:=h.get;have rd:=U.last;let⟨m,rfl,h⟩:=ix h;obtain rfl:=rd.i;let⟨a2,RQ,MT,M,h⟩:=ownL.get h;let⟨q2,S0,e3,M6,T,k2⟩:=U.list MT;rw[J]at e3;cases e3;have be:=k2 _ _ (T.set (.int (f v m)) j)
  show⟨v,m,S,S,q,S0,_,j,S,S,M6,fj (by rw[T.1];show M),k.nx _ O _ σ h.get be.g be.env⟩⟩
noncomputable def aY:œ Sm->œ Sm
 |some (.ob Œ (.lst ds))=>Z (.v (.lst ds))
 |some (.ob Œ (.map c))=>Z (.v (.map c))
 |x=>x
noncomputable def aR:Nat->af->af
 |_,[]=>[]
 |0,x::ρ=>aY x::ρ
 |i+1,x::ρ=>x::aR i ρ
theorem qW:∀(i:Nat)(ρ:af),aR i ρ=(match ρ[i]? with
  |some (Z (.ob Œ (.lst ds)))=>ρ.set i (Z (.v (.lst ds)))
  |some (Z (.ob Œ (.map c)))=>ρ.set i (Z (.v (.map c)))
  |_=>ρ)
 |0,[]=>rfl
 |_+1,[]=>rfl
 |0,Z (.ob Œ (.lst _))::_=>rfl
 |0,Z (.ob Œ (.map _))::_=>rfl
 |0,Z (.ob Œ (.mpT _))::_=>rfl
 |0,Z (.ob Œ (.obj _ _))::_=>rfl
 |0,Z (.ob Œ .ptr)::_=>rfl
 |0,Z (.ob Œ (.tl _))::_=>rfl
 |0,Z (.ob Œ (.pr _ _))::_=>rfl
 |0,Z (.ob (Z _) _)::_=>rfl
 |0,Z (.v _)::_=>rfl
 |0,Œ::_=>rfl
 |i+1,x::ρ=>by
  change x::aR i ρ=_;rw[qW i ρ,Lx]
  match ρ[i]? with
  |some (Z (.ob Œ (.lst _)))=>rfl
  |some (Z (.ob Œ (.map _)))=>rfl
  |some (Z (.ob Œ (.mpT _)))=>rfl
  |some (Z (.ob Œ (.obj _ _)))=>rfl
  |some (Z (.ob Œ .ptr))=>rfl
  |some (Z (.ob Œ (.tl _)))=>rfl
  |some (Z (.ob Œ (.pr _ _)))=>rfl
  |some (Z (.ob (Z _) _))=>rfl
  |some (Z (.v _))=>rfl
  |some Œ=>rfl
  |none=>rfl
theorem Rp.map_of{Φ:Hp}{g:Y (av×D)}{j:Y (av×V)}{p:Addr}(h:Φ p=Z (.dK j))(r:Paired (fQ K Φ) g j):Rp K Φ (.map g) (.ref p):=by
 refine .map h ?_ ?_
 ·clear h
  induction r with
  |nil=>rfl
  |cons q _ f=>rw[HK,HK,f,q.1]
 ·clear h
  induction r with
  |nil=>intro i w d c;simp at c
  |cons q _ f=>
   intro i w d c hd
   cases i with
   |zero=>cases c;cases hd;show q.2
   |succ i=>show f i w d c hd
theorem EnvM.frz1f{N O Φ H:Hp}{U:St}{ρ:af}{o:Om}{P:D}(E:EnvM K O Φ H U ρ)(g:Gr N O Φ H){i:Nat}(ho:ρ[i]?=Z (Z (.ob Œ o)))
  (hr:∀p F,OmS K Φ H o p F->∃u,H p=Z u/\∀f,Same Φ f->f p=Z u->Rp K f P (.ref p)) (hs:o.solid=Ŕ:=by rfl):∃f,Gr N O f H/\EnvM K O f H U (ρ.set i (Z (.v P)))/\Same Φ f:=by
 let⟨a_,E⟩:=E;let⟨p,e,_,r⟩:=E.ow i Œ _ ho;have T:=r.mem hs;have no:=E.no i Œ _ ho p T;let⟨u,R,h2⟩:=hr p _ r;have M:=cY no.2 u
 have w:∀{j:Nat}{x:Sm},(ρ.set i (Z (Sm.v P)))[j]?=Z (Z x)->(j=i/\x=.v P)\/(j≠i/\ρ[j]?=Z (Z x)):=λ{j x} h=>by
  rcases dX h with⟨e,_,be⟩|⟨e,h⟩
  ·cases be;show .inl ⟨e,S⟩
  ·show .inr ⟨e,h⟩
 refine⟨am Φ p u,g.freeze no.1 no.2 R,⟨a_,λb u' Q=>?_,by rw[Hs,E.len],λj d h=>?_,λj a o h=>?_,λj a o h b b_=>?_,λj k a a' o o' J L c=>?_,E.tb.same M⟩,M⟩
 ·by_cases c:b=p
  ·subst c;rw[bg]at Q;cases Q;show R
  ·rw[aS c]at Q;show E.fz b u' Q
 ·rcases w h with⟨c,h⟩|⟨_,h⟩
  ·cases h;subst c;show⟨_,e,h2 _ M bg⟩
  ·let⟨v,hv,rv⟩:=E.sl j d h;show⟨v,hv,rv.same M⟩
 ·rcases w h with⟨_,h⟩|⟨_,h⟩
  ·cases h
  ·let⟨q,hq,ha,rq⟩:=E.ow j a o h;show⟨q,hq,ha,rq.keep M λ_ _ _ h=>h⟩
 ·rcases w h with⟨_,h⟩|⟨c,h⟩
  ·cases h
  ·have:b≠p:=λz=>E.dj j i a Œ o _ h ho c b b_ (by rw[z];show T);rw[aS this];show E.no j a o h b b_
 ·rcases w J with⟨_,J⟩|⟨_,J⟩
  ·cases J
  rcases w L with⟨_,L⟩|⟨_,L⟩
  ·cases L
  show E.dj j k a a' o o' J L c
theorem EnvM.frz1{f h Φ H:Hp}{r:St}{ρ:af}{o:Om}{j:D}(E:EnvM K h Φ H r ρ)(g:Gr f h Φ H){i:Nat}(ho:ρ[i]?=Z (Z (.ob Œ o)))
  (v:∀p F,OmS K Φ H o p F->∃u,H p=Z u/\∀c,Same Φ c->c p=Z u->Rp K c j (.ref p)) (w:o.solid=Ŕ:=by rfl):∃c,Gr f h c H/\EnvM K h c H r (ρ.set i (Z (.v j))):=
 let ⟨c,g',E',_⟩:=E.frz1f g ho v w
 ⟨c,g',E'⟩
theorem EnvM.frz{f j Φ H:Hp}{v:St}{ρ:af}(E:EnvM K j Φ H v ρ)(g:Gr f j Φ H)(i:Nat):∃c,Gr f j c H/\EnvM K j c H v (aR i ρ):=by
 rw[qW];split
 ·next ds ho=>
  refine E.frz1 g ho λp F r=>?_;let⟨_,vs,o,u⟩:=r.lst_inv;show⟨_,o,λc s h=>(u.same s).lst h⟩
 ·next LV ho=>
  refine E.frz1 g ho λp F r=>?_;let⟨_,w,o,u⟩:=r.map_inv;show⟨_,o,λc s h=>Rp.map_of h (mS (λ_ _ r=>⟨r.1,r.2.same s⟩) u)⟩
 ·show⟨Φ,g,E⟩
noncomputable def FQ(i:Nat)(t:bz):bz:=λc ρ=>t c (aR i ρ)
theorem jR{c:Y Ç}{t:bz}(i:Nat)(h:PSsM K X c t):PSsM K X c (FQ i t):=⟨λv=>(h.ps v).imp λE w H r=>by
 let⟨j,p,Φ,ρ,o,g,V,t,k⟩:=r;let⟨f,g',u⟩:=V.frz g i
 show⟨j,p,f,aR i ρ,o,g',u,t,k⟩⟩
end
noncomputable def zM(z:cg):dI:=λas R _=>∃ds,as=ds.map Sm.v/\z ds λd=>R (.v d) []
theorem AT{H:Hp}:bU H []=H:=funext λb=>Hq (by simp)
theorem qR{K:Â}{Φ H:Hp}:∀{ds:Y D}{vs:Y V},RpL K Φ ds vs->ArgM K Φ H (ds.map Sm.v) vs (ds.map λ_=>[])
 | [],[],_=>.nil
 | [],_::_,h=>by cases h.1
 |_::_,[],h=>by cases h.1
 |d::ds,v::vs,h=>.v (h.2 0 v d S S) (qR ⟨by have:=h.1;simpa using this,λi u e c a=>h.2 (i+1) u e c a⟩)
theorem pR{a:Type}:∀(ds:Y a),(ds.map λ_=>([]:Y Addr)).flatten=[]
 | []=>rfl
 |_::ds=>by simp
theorem qY{K:Â}{z:cg}:∀vs H Q E,lSp K z vs H Q E->lSpM K (zM z) vs H Q E:=λvs H Q E h=>by
 let⟨Φ,ds,R,sm,tb,rl,l,k⟩:=h;refine⟨Φ,ds.map Sm.v,ds.map λ_=>[],λs os=>∃d,s=.v d/\R d,λ_ _=>False,sm,tb,qR rl,by rw[pR];show List.nodup_nil,λb c=>(by rw[pR]at c;cases c),⟨ds,S,?_⟩,λs os a f v F u r g j ho hn p=>?_⟩
 ·have e:R=λd=>∃d',(Sm.v d:Sm)=.v d'/\R d':=funext λd=>propext ⟨λh=>⟨d,S,h⟩,λ⟨d',e,h⟩=>by cases e;show h⟩;rw[←e];show l
 ·let⟨d,rfl,r⟩:=r
  cases j with
  |v o=>
   rw[pR,AT]at g;show k d a f v r g o
noncomputable def pinned:œ Sm->œ Sm
 |some (.v d)=>Z (.v d)
 |some (.ob (Z p) o)=>Z (.ob (Z p) o)
 |_=>Œ
noncomputable def jf(cap:Y (œ Nat))(ρ:af):af:=cap.map λo=>o.bind λi=>pinned (ρ[i]?).join
noncomputable def ik:Y (œ Nat)->af->af->(af->Prop)->Prop
 | [],_,ρ,k=>k ρ
 |none::cap,_::ρc,ρ,k=>ik cap ρc ρ k
 |some i::cap,x::ρc,ρ,k=>match ρ[i]? with
  |some (Z (.ob (Z p) _))=>∃o,x=Z (.ob (Z p) o)/\ik cap ρc (setA ρ i o) k
  |_=>ik cap ρc ρ k
 |_::_,[],_,_=>False
noncomputable def gq(cap:Y (œ Nat)):Y Nat:=cap.filterMap id
theorem qz{cap:Y (œ Nat)}{j i:Nat}(h:cap[j]?=Z (Z i)):i∈gq cap:=JP.mpr ⟨Z i,Hu h,S⟩
theorem lK:∀{cap:Y (œ Nat)}{ρc ρ:af}{k:af->Prop},(gq cap).Nodup->ik cap ρc ρ k->∃g,k g/\g.length=ρ.length/\(∀(i:Nat)(x:Sm),g[i]?=Z (Z x)->(∃(j:Nat)(p:Addr)(a o:Om),cap[j]?=Z (Z i)/\ρ[i]?=Z (Z (.ob (Z p) a))/\ρc[j]?=Z (Z (.ob (Z p) o))/\x=.ob (Z p) o)\/(ρ[i]?=Z (Z x)/\∀(j:Nat)(p:Addr)(a:Om),cap[j]?=Z (Z i)->ρ[i]?≠Z (Z (.ob (Z p) a)))) /\
  ∀(j i:Nat)(p:Addr)(a:Om),cap[j]?=Z (Z i)->ρ[i]?=Z (Z (.ob (Z p) a))->∃o:Om,ρc[j]?=Z (Z (.ob (Z p) o))
 | [],ρc,ρ,k,_,h=>⟨ρ,h,S,λi x M=>.inr ⟨M,λj p a f=>(by simp at f)⟩,λj i p a f=>(by simp at f)⟩
 |none::cap,x::ρc,ρ,k,nd,h=>by
  let⟨g,z,A,B,C⟩:=lK (cap:=cap) (ρc:=ρc) (ρ:=ρ) (k:=k) nd h;refine⟨g,z,A,λi y E=>?_,λj i p a f v=>?_⟩
  ·rcases B i y E with⟨j,p,a,o,l,r,H,I⟩|⟨l,r⟩
   ·show .inl ⟨j+1,p,a,o,l,r,H,I⟩
   ·refine .inr ⟨l,λj p a f=>?_⟩
    cases j with
    |zero=>cases f
    |succ j=>show r j p a f
  ·cases j with
   |zero=>cases f
   |succ j=>show C j i p a f v
 |some w::cap,x::ρc,ρ,k,nd,h=>by
  let⟨L,J⟩:=HS.mp (show (w::gq cap).Nodup from nd);have h':(match ρ[w]? with|some (Z (.ob (Z p) _))=>∃o,x=Z (.ob (Z p) o)/\ik cap ρc (setA ρ w o) k|_=>ik cap ρc ρ k):=h;by_cases u:∃p a,ρ[w]?=Z (Z (.ob (Z p) a))
  ·let⟨p,a,u⟩:=u;rw[u]at h';let⟨o,rfl,h'⟩:=h';let⟨g,z,A,B,C⟩:=lK J h';have ne:∀{j i:Nat},cap[j]?=Z (Z i)->i≠w:=λf e=>L (e▸qz f);refine⟨g,z,by rw[A,uD],λi y E=>?_,λj i G F f v=>?_⟩
   ·rcases B i y E with⟨j,G,F,o',l,r,H,I⟩|⟨l,r⟩
    ·rw[kJ (ne l)]at r;show .inl ⟨j+1,G,F,o',l,r,H,I⟩
    ·by_cases c:i=w
     ·subst c;rw[jk]at l;rw[u]at l;simp only at l;rw[HV (aB u)]at l;cases l;show .inl ⟨0,p,a,o,S,u,S,S⟩
     ·rw[kJ c]at l r;refine .inr ⟨l,λj G F f=>?_⟩
      cases j with
      |zero=>cases f;show absurd S c
      |succ j=>show r j G F f
   ·cases j with
    |zero=>cases f;rw[u]at v;cases v;show⟨o,S⟩
    |succ j=>show C j i G F f (by rw[kJ (ne f)];show v)
  ·have K:ik cap ρc ρ k:=by
    split at h'
    ·next p a e=>show absurd ⟨p,a,e⟩ u
    ·show h'
   let⟨g,z,A,B,C⟩:=lK J K;refine⟨g,z,A,λi y E=>?_,λj i p a f v=>?_⟩
   ·rcases B i y E with⟨j,p,a,o,l,r,H,I⟩|⟨l,r⟩
    ·show .inl ⟨j+1,p,a,o,l,r,H,I⟩
    ·refine .inr ⟨l,λj p a f=>?_⟩
     cases j with
     |zero=>cases f;show λe=>u ⟨p,a,e⟩
     |succ j=>show r j p a f
   ·cases j with
    |zero=>cases f;show absurd ⟨p,a,v⟩ u
    |succ j=>show C j i p a f v
 |none::_,[],_,_,_,h=>h.elim
 |some _::_,[],_,_,_,h=>h.elim
section
variable{K:Â}{X:Cx}{z H B Φ A:Hp}{c:St}{ρ:af}{cap:Y (œ Nat)}
theorem rN{i:Nat}{x:Sm}(h:(jf cap ρ)[i]?=Z (Z x)):∃j,cap[i]?=Z (Z j)/\ρ[j]?=Z (Z x)/\pinned (Z x)=Z x:=by
 unfold jf at h;rw[Hy]at h
 cases e:cap[i]? with
 |none=>rw[e]at h;cases h
 |some o=>
  rw[e]at h
  cases o with
  |none=>cases h
  |some j=>
   have h':pinned (ρ[j]?).join=Z x:=HR h
   cases f:(ρ[j]?).join with
   |none=>rw[f]at h';cases h'
   |some y=>
    rw[f]at h'
    cases y with
    |v d=>cases h';show⟨j,S,oa f,S⟩
    |ob a o=>
     cases a with
     |none=>cases h'
     |some p=>cases h';show⟨j,S,oa f,S⟩
theorem vE{i j:Nat}{v:V}(a:cap[i]?=Z (Z j))(e:c[j]?=Z (Z v)):(dZ cap c)[i]?=Z (Z v):=by unfold dZ;rw[Hy,a];simp[e]
theorem EnvM.side{p:Addr}{u u':HO}(E:EnvM K z Φ H c ρ)(j:z p=Z u)(hn:Φ p=Œ):EnvM K (am z p u') Φ (am H p u') c ρ:=by
 let⟨g,E⟩:=E
 have ne:∀{i:Nat}{a:œ Addr}{o:Om},ρ[i]?=Z (Z (.ob a o))->∀b∈g i,b≠p:=λh b f e=>by have:=(E.no _ _ _ h b f).1;rw[e,j]at this;cases this
 show⟨g,λb w e=>by rw[aS (da e hn)];show E.fz b w e,E.len,E.sl,λi a o h=>let ⟨q,e,ha,r⟩:=E.ow i a o h;⟨q,e,ha,r.keep (Same.refl _) λb f w l=>by rw[aS (ne h b f)];show l⟩,
  λi a o h b f=>by rw[aS (ne h b f)];show E.no i a o h b f,E.dj,E.tb⟩
structure StN(K:Â)(Φ0 z Φ H:Hp)(c τ:St)(ρ κ:af):Prop where
 g:Gr Φ0 z Φ H
 l:ρ.length=c.length
 E:EnvM K z Φ H (c++τ) (ρ++κ)
noncomputable def nox:XD->af->Prop:=λ_ _=>False
theorem StM.n{a z:Hp}{f:St}{e:af}{g:XD->af->Prop}(Q:StM K X a z Φ H c f ρ e g):StN K a z Φ H c f ρ e:=⟨Q.g,Q.l,Q.E⟩
theorem StN.m{a z:Hp}{f:St}{e:af}(Q:StN K a z Φ H c f ρ e):StM K X a z Φ H c f ρ e nox:=⟨Q.g,Q.l,Q.E,λ_ _ _ _ _ _ _ _ h=>h.elim⟩
inductive lNm(K:Â)(t:TX)(c:St)(H:Hp)(Q:VK):Prop|mk (Φ0:Hp) (z:Hp) (Φ:Hp) (τ:St) (ρ:af) (κ:af) (R:Sm->af->Prop) (_:StN K Φ0 z Φ H c τ ρ κ) (_:t ρ R nox) (_:∀sm ρ' A B v,R sm ρ'->StN K Φ0 z A B c (τ++[Z v]) ρ' (κ++[Z sm])->Same Φ A->Q v B)
inductive lNb(K:Â)(t:cU)(c:St)(H:Hp)(Q:Bool->Hp->Prop):Prop|mk (Φ0:Hp) (z:Hp) (Φ:Hp) (τ:St) (ρ:af) (κ:af) (R:Bool->af->Prop) (_:StN K Φ0 z Φ H c τ ρ κ) (_:t ρ R nox) (_:∀b ρ' A B,R b ρ'->StN K Φ0 z A B c τ ρ' κ->Same Φ A->Q b B)
theorem lNm.m{t:TX}{Q:VK}(h:lNm K t c H Q):lXm K X t c H Q:=by let⟨a,z,Φ,l,ρ,j,R,U,t,k⟩:=h;show⟨a,z,Φ,l,ρ,j,R,nox,U.m,t,λsm e A B v r g f=>k sm e A B v r g.n f⟩
theorem lNb.m{t:cU}{Q:Bool->Hp->Prop}(h:lNb K t c H Q):lXb K X t c H Q:=by let⟨a,z,Φ,l,ρ,j,R,U,t,k⟩:=h;show⟨a,z,Φ,l,ρ,j,R,nox,U.m,t,λb e A B r g f=>k b e A B r g.n f⟩
noncomputable def sq(r:iz)(cap:Y (œ Nat))(l:fo)(o:cU)(p:TX):TX:=λρ R j=>r ρ (λds f=>ds.length<sizeLine/\∃I:Nat->Y D->af->Prop,I 0 [] (jf cap f) /\
 (∀i d e ρc,ds[i]?=Z d->I i e ρc->l d ρc λg=>o g (λb a=>(b=Ŕ->p a (xV λy h=>I (i+1) (e++[y]) h) nox)/\(b=ŕ->I (i+1) e a)) nox) /\
 ∀e ρc,I ds.length e ρc->ik cap ρc f λa=>R (.own e) a) j
noncomputable def Cd:cU:=λρ R _=>R Ŕ ρ
structure PIfM(K:Â)(X:Cx)(ifs:List Ã)(t:cU):Prop where p:X.K=K->iG X ifs (lXb K X t)
theorem Bm:PIfM K X [] Cd:=⟨λ_ a s c H Q I e=>by let⟨f,z,Φ,j,ρ,h,R,g,U,t,k⟩:=e;show vb a s c H Q I (k Ŕ ρ Φ H t U (Same.refl _))⟩
end
section
variable{K:Â}{X:Cx}{L f w:Ã}{l:Y Ã}{scope:â}{A:Õ}{N':Y Str}{cap:Y (œ Nat)}{G:iz}{O:fo}{N:cU}{M:TX}
theorem sC{n:Nat}:∀{cap:Y (œ Nat)},(gq cap).Nodup->∀{i j:Nat},cap[i]?=Z (Z n)->cap[j]?=Z (Z n)->i=j:=by
 intro cap
 induction cap with
 |nil=>intro _ i j h;simp at h
 |cons o cap p=>
  intro nd i j a c
  have e:(gq cap).Nodup:=by
   cases o with
   |none=>show nd
   |some m=>show (HS.mp (show (m::gq cap).Nodup from nd)).2
  have one:∀{i:Nat},o=Z n->cap[i]?=Z (Z n)->False:=λ{i} ho g=>by subst ho;show (HS.mp (show (n::gq cap).Nodup from nd)).1 (qz g)
  cases i with
  |zero=>cases j with
   |zero=>rfl
   |succ j=>show (one (by simpa using a) (by simpa using c)).elim
  |succ i=>cases j with
   |zero=>show (one (by simpa using c) (by simpa using a)).elim
   |succ j=>show Il Nat.succ (p e (by simpa using a) (by simpa using c))
theorem zB(Md:(gq cap).Nodup){σ:St}{H:Hp}{Q:VK}{Φ0 H0 Φ:Hp}{ρ:af}{R:Sm->af->Prop}{Rx:XD->af->Prop}{τ:St}{κ:af}(b_:StM K X Φ0 H0 Φ H σ τ ρ κ Rx)(t:sq G cap O N M ρ R Rx)
  (k:∀sm ρ' g H' v,R sm ρ'->StM K X Φ0 H0 g H' σ (τ++[Z v]) ρ' (κ++[Z sm]) Rx->Same Φ g->Q v H'):gz (lIM K X G) cap (lGM K O) (lNb K N) (lNm K M) σ H Q:=by
 refine⟨Φ0,H0,Φ,τ,ρ,κ,_,Rx,b_,t,λds P Φ1 H1 J MF S1 f1 Sd T hD=>?_⟩;let⟨hlen,I,h0,Mn,MW⟩:=MF;let⟨fp,Ex⟩:=S1.E;have E:=Ex.take S1.l
 have up:∀{i:Nat}{x:Sm},P[i]?=Z (Z x)->(P++κ)[i]?=Z (Z x):=λh=>by rw[Hk (aB h)];show h
 have ups:∀{i:Nat}{x:V},σ[i]?=Z (Z x)->(σ++τ)[i]?=Z (Z x):=λh=>by rw[Hk (aB h)];show h
 let NV:Nat->Prop:=λi=>(∃j:Nat,cap[j]?=Z (Z i))/\∃p o,P[i]?=Z (Z (.ob (Z p) o))
 obtain⟨B,hB⟩:∃B:Y Addr,∀b,b∈B↔∃i,NV i/\b∈fp i:=by
  refine⟨((gq cap).filter λi=>match P[i]? with|some (Z (.ob (Z _) _))=>Ŕ|_=>ŕ).flatMap fp,λb=>?_⟩;rw[Lq];constructor
  ·rintro⟨i,hi,C⟩;let⟨hi,hp⟩:=Ir.mp hi;refine⟨i,⟨?_,?_⟩,C⟩
   ·let⟨o,ho,e⟩:=JP.mp hi
    cases o with
    |none=>cases e
    |some i'=>cases e;show IA ho
   ·split at hp
    ·next p o e=>show⟨p,o,e⟩
    ·cases hp
  ·rintro⟨i,⟨⟨j,hj⟩,p,o,hp⟩,C⟩;show⟨i,Ir.mpr ⟨qz hj,by rw[hp]⟩,C⟩
 have hDB:T∉B:=λh=>by let⟨i,⟨_,p,o,ho⟩,C⟩:=(hB T).mp h;let⟨_,_,_,r⟩:=E.ow i _ o ho;let⟨u,hu,_⟩:=r.at T C;rw[hD]at hu;cases hu
 have Qh:Φ1 T=Œ:=S1.g.s.free hD
 have hDm:bU H1 B T=Œ:=by rw[gE hDB];show hD
 have m2:∀{b:Addr}{u:HO},bU H1 B b=Z u->b≠T:=λh=>da h hDm
 have C0:EnvM K (am (bU H1 B) T (.lst [])) Φ1 (am H1 T (.lst [])) (dZ cap σ) (jf cap P):=by
  have no:∀{i:Nat}{a:œ Addr}{o:Om},(jf cap P)[i]?=Z (Z (.ob a o))->∃j:Nat,cap[i]?=Z (Z j)/\P[j]?=Z (Z (.ob a o))/\NV j:=λ{i a o} h=>by
   let⟨j,U,a_,h3⟩:=rN h
   cases a with
   |none=>cases h3
   |some p=>show⟨j,U,a_,⟨i,U⟩,p,o,a_⟩
  have inB:∀{i j:Nat}{a:œ Addr}{o:Om},P[j]?=Z (Z (.ob a o))->NV j->∀b∈fp j,b∈B/\b≠T:=λ{i j a o} h hl b C=>⟨(hB b).mpr ⟨j,hl,C⟩,λe=>hDB (e▸(hB b).mpr ⟨j,hl,C⟩)⟩;have cj:∀{i j n:Nat},cap[i]?=Z (Z n)->cap[j]?=Z (Z n)->i=j:=λU a_=>sC Md U a_;refine⟨λi=>match cap[i]? with|some (Z j)=>fp j|_=>[],λb u e=>?_,by unfold dZ jf;rw[Hj,Hj],λi d h=>?_,λi a o h=>?_,λi a o h b C=>?_,λi j a a' o o' hi hj c b C L8=>?_,S1.E.tb⟩
  ·rw[aS (da e Qh)];show S1.g.s b u e
  ·let⟨j,U,a_,_⟩:=rN h;let⟨v,hv,r⟩:=E.sl j d a_;show⟨v,vE U hv,r⟩
  ·let⟨j,U,a_,hl⟩:=no h;let⟨p,hp,ha,r⟩:=E.ow j a o a_;refine⟨p,vE U hp,ha,?_⟩;rw[U]
   show r.keep (Same.refl _) λb C u hu=>by rw[aS (inB (i:=i) a_ hl b C).2];show hu
  ·let⟨j,U,a_,hl⟩:=no h;rw[U]at C;let⟨be,z2⟩:=inB (i:=i) a_ hl b C;show⟨by rw[aS z2];show vH be,(E.no j a o a_ b C).2⟩
  ·let⟨i',U,a_,_⟩:=no hi;let⟨j',h3,h4,_⟩:=no hj;rw[U]at C;rw[h3]at L8;show E.dj i' j' a a' o o' a_ h4 (λe=>c (by subst e;show cj U h3)) b C L8
 refine⟨λi m σ' H'=>m=ds.length-i/\i<=ds.length/\∃(g:Hp)(ρc:af)(vs:Y V)(ys:Y D),EnvM K (am (bU H1 B) T (.lst vs)) g H' σ' ρc/\Gr Φ1 (bU H1 B) g H'/\g T=Œ/\H' T=Z (.lst vs)/\RpL K g ys vs/\ys.length<=i/\I i ys ρc,⟨ds.length,by simp,Jx _,Φ1,_,[],[],C0,⟨Same.refl _,λb u e=>by rw[aS (m2 e)];show (qN e).2,λb u e=>by rw[aS (da e Qh)];show S1.g.s b u e,λ_ _ _ h _=>h⟩,Qh,bg,.nil,Jx _,h0⟩,?_⟩;rintro i m σ' H' ⟨rfl,hi,g,ρc,vs,ys,Ei,gi,QH,Pa,Ml,Mz,hI⟩;by_cases Ma:i<ds.length
 ·refine .inr ⟨Sd.go i H' (gi.f.trans gi.s) Ma,λσ2 H2=>∃(g:Hp)(ρc:af)(vs:Y V)(ys:Y D),EnvM K (am (bU H1 B) T (.lst vs)) g H2 σ2 ρc/\Gr Φ1 (bU H1 B) g H2/\g T=Œ/\H2 T=Z (.lst vs)/\RpL K g ys vs/\ys.length<=i+1/\I (i+1) ys ρc,λσ2 H2 a_=>⟨ds.length-(i+1),(),S,Ma,a_⟩,λx H2 y=>?_⟩;let⟨Φ3,g3,rx⟩:=Sd.yl i g H' x H2 _ gi.f gi.s (bB Ma) y;have E3:=Ei.gr g3;refine⟨_,Φ3,ρc,_,_,E3,rx,Mn i _ ys ρc (bB Ma) hI,λρ1 σ3 t1 E4=>?_⟩;have SN:Φ3 T=Œ:=g3.o _ _ Pa QH;have S6:=g3.h _ _ Pa
  have gt:Gr Φ3 (am (bU H1 B) T (.lst vs)) Φ3 H2:=⟨Same.refl _,λb u e=>by
   by_cases c:b=T
   ·subst c;rw[bg]at e;cases e;show S6
   ·rw[aS c]at e;show g3.h b u (gi.h b u e),g3.s,λ_ _ _ h _=>h⟩
  have join:∀{Φ5 H5:Hp},Gr Φ3 (am (bU H1 B) T (.lst vs)) Φ5 H5->Gr Φ1 (bU H1 B) Φ5 H5/\Φ5 T=Œ/\H5 T=Z (.lst vs):=λ{Φ5 H5} g5=>by
   refine⟨⟨(gi.f.trans g3.f).trans g5.f,λb u e=>g5.h b u (by rw[aS (m2 e)];show e),g5.s,λb u U a_ kk=>?_⟩,g5.o _ _ bg SN trivial,g5.h _ _ bg⟩;have be:=gi.o b u U a_ kk;have z2:=g3.o b u (gi.h b u U) be kk;show g5.o b u (by rw[aS (m2 U)];show U) z2 kk
  refine⟨Φ3,_,Φ3,[],ρ1,[],_,⟨gt,E4.len.symm,by rw[Ii,Ii];show E4⟩,t1,λb ρ2 Φ4 H4 rb S4 f4=>?_⟩
  cases b with
  |false=>
   refine js ?_;let⟨j1,j2,j3⟩:=join S4.g;show⟨Φ4,ρ2,vs,ys,(S4.m (X:=X)).env,j1,j2,j3,(Ml.same g3.f).same f4,(),rb.2 S⟩
  |true=>
   refine jx ?_;refine⟨Φ3,_,Φ4,[],ρ2,[],_,S4,rb.1 S,λs ρ3 Φ5 H5 v rs S5' f5=>?_⟩;have S5:=S5'.m (X:=X);let⟨d,rfl,rs⟩:=rs.get;let⟨j1,j2,j3⟩:=join S5.g;have rl5:=(Ml.same g3.f).same (f4.trans f5);refine⟨vs,j3,by rw[Ml.1];omega,Φ5,ρ3,vs++[v],ys++[d],?_,?_,j2,bg,rl5.append (.one S5.last),by rw[Hm];show Nat.succ_le_succ Mz,rs⟩
   ·have:=S5.env.side (p:=T) (u:=.lst vs) (u':=.lst (vs++[v])) bg j2;rw[FL]at this;show this
   ·show⟨j1.f,λb u e=>by rw[aS (m2 e)];show j1.h b u e,λb u e=>by rw[aS (da e j2)];show j1.s b u e,λb u U a_ kk=>j1.o b u U a_ kk⟩
 ·have e:i=ds.length:=by omega
  subst e;refine .inl ⟨Sd.stop H' (gi.f.trans gi.s),?_⟩;let⟨ρ2,hR,Nl,h3,h4⟩:=lK Md (MW ys ρc hI);let⟨fc,Ec⟩:=Ei;have inj:∀{i j n:Nat},cap[i]?=Z (Z n)->cap[j]?=Z (Z n)->i=j:=λU a_=>sC Md U a_
  have ex:∀i,NV i->∃(j:Nat)(p:Addr)(o0 o:Om),cap[j]?=Z (Z i)/\P[i]?=Z (Z (.ob (Z p) o0))/\ρc[j]?=Z (Z (.ob (Z p) o)):=λi hl=>by let⟨⟨j,hj⟩,p,o0,ho⟩:=hl;let⟨o,h⟩:=h4 j i p o0 hj ho;show⟨j,p,o0,o,hj,ho,h⟩
  have cho:∀i,∃y:œ (Om×Y Addr),(∀q,y=Z q->∃(j:Nat)(p:Addr)(o0:Om),cap[j]?=Z (Z i)/\P[i]?=Z (Z (.ob (Z p) o0))/\ρc[j]?=Z (Z (.ob (Z p) q.1))/\q.2=fc j)/\(y=Œ↔¬ NV i):=λi=>by
   by_cases h:NV i
   ·let⟨j,p,o0,o,be,z2,z3⟩:=ex i h;show⟨Z (o,fc j),λq hq=>by cases hq;show⟨j,p,o0,be,z2,z3,S⟩,λe=>(by cases e),λn=>absurd h n⟩
   ·show⟨Œ,λq hq=>(by cases hq),λ_=>h,λ_=>rfl⟩
  let⟨new,QR⟩:=Classical.axiomOfChoice cho;have MV:=λi=>(QR i).1;have Nn:=λi=>(QR i).2
  have Dfc:∀{j:Nat}{a:œ Addr}{o:Om},ρc[j]?=Z (Z (.ob a o))->∀b∈fc j,b≠T/\bU H1 B b=Œ/\g b=Œ:=λ{j a o} h b C=>by
   let⟨be,z2⟩:=Ec.no j a o h b C
   have c:b≠T:=λe=>by rw[e,bg]at be;cases be
   rw[aS c]at be;show⟨c,be,z2⟩
  have adr:∀{j i:Nat}{p:Addr}{o0 o:Om},P[i]?=Z (Z (.ob (Z p) o0))->ρc[j]?=Z (Z (.ob (Z p) o))->σ[i]?=Z (Z (.ref p))/\OmS K g H' o p (fc j):=λ{j i p o0 o} U a_=>by let⟨q1,e1,a1,_⟩:=E.ow i _ o0 U;let⟨q2,e2,a2,r⟩:=Ec.ow j _ o a_;cases a1 p S;cases a2 p S;show⟨e1,r⟩
  have lnt:∀{i:Nat},P.length<=i->new i=Œ:=λ{i} c=>(Nn i).mpr λhl=>by
   let⟨_,p,o,ho⟩:=hl;have:=aB ho;omega
  have cs:∀{i:Nat}{x:Sm},(ρ2++κ)[i]?=Z (Z x)->(i<P.length/\ρ2[i]?=Z (Z x))\/(P.length<=i/\(P++κ)[i]?=Z (Z x)):=λ{i x} h=>by
   rcases Ik i P.length with c|c
   ·rw[Hk ()]at h;show .inl ⟨c,h⟩
   ·rw[Hl (),Nl]at h;show .inr ⟨c,by rw[Hl c];show h⟩
  have E2:EnvM' K H0 g H' (σ++τ) (ρ2++κ) (gx new fp):=by
   refine Ex.lend S1.g.h (B:=B) (λb C=>?_) (λi q hq b C=>(hB b).mpr ⟨i,(JH λz=>by rw[(Nn i).mpr z]at hq;cases hq),C⟩) gi (by rw[Hm,Hm,Nl]) (λi d h=>?_) (λi a o h=>?_) (λi q hq=>?_) (λi q hq b C=>?_) λi j q r hq hr c b C L8=>?_
   ·let⟨i,hl,Mu⟩:=(hB b).mp C;let⟨_,p,o,ho⟩:=id hl
    cases e:new i with
    |none=>show absurd hl ((Nn i).mp e)
    |some q=>show⟨i,_,o,q,e,up ho,Mu⟩
   ·rcases cs h with⟨_,h⟩|⟨_,h⟩
    ·rcases h3 i _ h with⟨_,_,_,_,_,_,_,z⟩|⟨z,_⟩
     ·cases z
     ·show up z
    ·show h
   ·rcases cs h with⟨_,h⟩|⟨c,h⟩
    ·rcases h3 i _ h with⟨j,p,o0,o',be,z2,z3,z4⟩|⟨be,z2⟩
     ·cases z4
      cases e:new i with
      |none=>show absurd ⟨⟨j,be⟩,p,o0,z2⟩ ((Nn i).mp e)
      |some q=>
       let⟨j',p',o1,y1,y2,y3,y4⟩:=MV i q e;cases inj be y1;rw[z3]at y3;cases y3;show .inr ⟨o0,q.2,S,up z2⟩
     ·refine .inl ⟨(Nn i).mpr λhl=>?_,up be⟩;let⟨⟨j,hj⟩,p,o0,ho⟩:=hl;show z2 j p o0 hj ho
    ·show .inl ⟨lnt c,h⟩
   ·let⟨j,p,o0,be,z2,z3,z4⟩:=MV i q hq;let⟨y1,y2⟩:=adr z2 z3;show⟨p,ups y1,by rw[z4];show y2⟩
   ·let⟨j,p,o0,be,z2,z3,z4⟩:=MV i q hq;rw[z4]at C;show (Dfc z3 b C).2
   ·let⟨j1,p1,o1,be,z2,z3,z4⟩:=MV i q hq;let⟨j2,p2,o2,y1,y2,y3,y4⟩:=MV j r hr;rw[z4]at C;rw[y4]at L8;show Ec.dj j1 j2 _ _ _ _ z3 y3 (λe=>c (by rw[e,y1]at be;cases be;rfl)) b C L8
  have B0:∀b∈B,H0 b=Œ:=λb C=>by let⟨i,⟨_,p,o,ho⟩,Mu⟩:=(hB b).mp C;show (E.no i _ o ho b Mu).1
  have g0:=S1.g.lend gi B0
  have E3:=E2.snocG (sm:=.own ys) (F:=[T]) (.o (λq e=>by cases e) (.lst Pa Ml)) (λb C=>by rw[Hw.mp C];show⟨S1.g.h.free hD,QH⟩) λb C i a o ho Mu=>by
   rw[Hw.mp C]at Mu;unfold gx at Mu
   cases e:new i with
   |some q=>
    rw[e]at Mu;let⟨j,p,o0,be,z2,z3,z4⟩:=MV i q e;have Mu:T∈q.2:=Mu;rw[z4]at Mu;show (Dfc z3 T Mu).1 S
   |none=>
    rw[e]at Mu
    have old:(P++κ)[i]?=Z (Z (.ob a o)):=by
     rcases cs ho with⟨_,ho⟩|⟨_,ho⟩
     ·rcases h3 i _ ho with⟨j,p,o0,o',be,z2,_⟩|⟨be,_⟩
      ·show absurd ⟨⟨j,be⟩,p,o0,z2⟩ ((Nn i).mp e)
      ·show up be
     ·show ho
    let⟨_,_,_,r⟩:=Ex.ow i a o old;let⟨u,hu,_⟩:=r.at T Mu;rw[hD]at hu;cases hu
  rw[HF,HF]at E3;show k _ ρ2 g H' _ hR ⟨g0,by rw[Nl];show S1.l,E3,S1.x⟩ (f1.trans gi.f)
theorem B2{i:Nat}{y:Str}{B u:Õ}(P:X.calm=Ŕ)(be:X.N.Nodup)(hy:X.N[i]?=Z y)(hx:dA X.env.scope y)(U:CompScope X.N X.env.scope scope N' cap)(b_:(gq cap).Nodup)(hi:PIM K X L f G)
  (hg:∀(cl:Y (Str×Addr))(c:Y Addr)(C:Addr)(e:À)(a:Hp),PGM K (bH X scope N' cl C e a c) L O) (ht:∀(cl:Y (Str×Addr))(c:Y Addr)(C:Addr)(e:À)(a:Hp),PIfM K (bH X scope N' cl C e a c) l N)
  (a_:∀(cl:Y (Str×Addr))(c:Y Addr)(C:Addr)(e:À)(a:Hp),PX K (bH X scope N' cl C e a c) w M) (T:Ð (.ListComp w [⟨L,f,l,0⟩] scope A) (Z (.Name y B)) u.line X.env=pure Ŕ:=by rfl)
  (hs:∀x,Ë f X.env x=pure x:=by intro _;rfl) (hf:X.fn y=Ŕ\/X.env.scope.names.lookup y=Z .local:=by nofun) :
  PSM K X (.Assign [.Name y B] (.ListComp w [⟨L,f,l,0⟩] scope A) u) (kN i (sq G cap O N M)):=
 ⟨λo=>(lv P be hy hx U (hi.pi o) (λcl c C e a=>(hg cl c C e a).pg o) (λcl c C e a j s F H Q I h=>(ht cl c C e a).p o j s F H Q I (lNb.m h)) (λcl c C e a=>((a_ cl c C e a).pe o).imp λ_ _ _ h=>lNm.m h) T hs hf).imp λE F H R=>by
  let⟨Φ0,a,Φ,ρ,De,g,V,t,k⟩:=R
  show zB b_ (de g V k.ex) t λsm ρ1 p J v r z _=>k.nx _ p J _ r z.g (z.env1.store i)⟩
end
theorem nj{a:Y Addr}(h:a.length=0):a=[]:=Je.mp h
theorem dY{c:Y Addr}(h:c.length=1):∃a,c=[a]:=by
 match c,h with
 | [a],_=>show⟨a,S⟩
section
variable{K:Â}{X:Cx}{a b:Ã}{c:Õ}{e tb:TX}
theorem rD(g:PX K X a e)(h:PX K X b tb)(j:me b):PX K X (.Subscript a b c) (jv mf e tb):=
 ⟨λf=>(pz (vy f) (g.pe f) (h.pe f) j).imp λ_ _ _=>lz⟩
end
section
variable{o:Type}[DecidableEq o]{K:Â}{Φ:Hp}
noncomputable def bw(a:Y (o×D))(k:o):œ D:=(a.find? λc=>decide (c.1=k)).map (·.2)
noncomputable def io(c:Y (o×D))(k:o)(d:D):Y (o×D):=if c.any (λa=>decide (a.1=k)) then c.map (λa=>if a.1=k then (a.1,d) else a) else c++[(k,d)]
theorem oE:∀{e:Y (o×D)}{f:Y (o×V)},Paired (fQ K Φ) e f->∀k,(bw e k=Œ/\fb f k=Œ)\/∃d v,bw e k=Z d/\fb f k=Z v/\Rp K Φ d v
 |_,_,.nil,k=>.inl ⟨S,S⟩
 |_,_,.cons (a:=x) (b:=y) (l₁:=l) r t,k=>by
  by_cases c:x.1=k
  ·refine .inr ⟨x.2,y.2,?_,?_,r.2⟩
   ·unfold bw;rw[Ji (by simpa using c)];rfl
   ·show mO (by rw[←r.1];show c)
  ·have g:bw (x::l) k=bw l k:=by unfold bw;rw[IJ (by simpa using c)]
   rw[g,nt (by rw[←r.1];show c)];show oE t k
theorem uK:∀{c:Y (o×D)}{e:Y (o×V)},Paired (fQ K Φ) c e->∀k,(e.any λa=>decide (a.1=k))=c.any λa=>decide (a.1=k)
 |_,_,.nil,k=>rfl
 |_,_,.cons r t,k=>by rw[JE,JE,uK t k,r.1]
theorem vw{a c:Type}{F:a->c->Prop}{f:a->a}{g:c->c}(h:∀x y,F x y->F (f x) (g y)):∀{l:Y a}{m:Y c},Paired F l m->Paired F (l.map f) (m.map g)
 |_,_,.nil=>.nil
 |_,_,.cons r t=>.cons (h _ _ r) (vw h t)
theorem Ej{a:Y (o×D)}{c:Y (o×V)}(h:Paired (fQ K Φ) a c)(k:o){d:D}{v:V}(r:Rp K Φ d v):Paired (fQ K Φ) (io a k d) (fE c k v):=by
 unfold io fE;rw[uK h k];split
 ·refine vw (λx y q=>?_) h;rw[←q.1];split
  ·show⟨S,r⟩
  ·show q
 ·show Ĉ h ⟨S,r⟩
theorem qy(a:Y (o×D))(k:o):(bw a k).isSome=a.any λf=>decide (f.1=k):=by
 unfold bw
 induction a with
 |nil=>rfl
 |cons x r e=>
  rw[JE];by_cases c:x.1=k
  ·rw[Ji (by simpa using c),Ij c];rfl
  ·rw[IJ (by simpa using c),HJ c,e];rfl
theorem wo{a:Y (o×D)}{k:o}{d:D}(h:bw a k=Œ):io a k d=a++[(k,d)]:=by have:=qy a k;rw[h]at this;unfold io;rw[←this];rfl
theorem AL(f:Y (o×D))(k j:o)(d:D):bw (io f k d) j=if j=k then Z d else bw f j:=by
 unfold io;split
 ·next h=>
  have:∀l:Y (o×D),bw (l.map λa=>if a.1=k then (a.1,d) else a) j=if j=k then (bw l k).map (λ_=>d) else bw l j:=by
   intro l
   induction l with
   |nil=>unfold bw;simp
   |cons x r u=>
    rw[HK];by_cases c:x.1=k
    ·rw[Hx c];by_cases p:j=k
     ·rw[Hx p];subst p;unfold bw;rw[Ji (by simpa using c),Ji (by simpa using c)];rfl
     ·rw[Hq p]at u ⊢;have g:¬ x.1=j:=λe=>p (e▸c▸rfl);unfold bw at u ⊢;rw[IJ (by simpa using g),IJ (by simpa using g)];show u
    ·rw[Hq c];by_cases g:x.1=j
     ·have p:¬ j=k:=λe=>c (g.trans e);rw[Hq p];unfold bw;rw[Ji (by simpa using g),Ji (by simpa using g)]
     ·have v:bw (x::List.map (λa=>if a.1=k then (a.1,d) else a) r) j=bw (List.map (λa=>if a.1=k then (a.1,d) else a) r) j:=by unfold bw;rw[IJ (by simpa using g)]
      have w:bw (x::r) j=bw r j:=by unfold bw;rw[IJ (by simpa using g)]
      have z:bw (x::r) k=bw r k:=by unfold bw;rw[IJ (by simpa using c)]
      rw[v,u,w,z]
  rw[this];split
  ·have:=qy f k;rw[h]at this
   cases e:bw f k with
   |none=>rw[e]at this;cases this
   |some y=>rfl
  ·rfl
 ·next h=>
  have hn:bw f k=Œ:=by
   cases e:bw f k with
   |none=>rfl
   |some y=>have:=qy f k;rw[e]at this;show absurd this.symm h
  unfold bw at hn ⊢;rw[List.find?_append];by_cases c:j=k
  ·subst c;rw[Hx S]
   cases e:f.find? λa=>decide (a.1=j)with
   |none=>simp
   |some y=>rw[e]at hn;cases hn
  ·rw[Hq c]
   cases e:f.find? λa=>decide (a.1=j)with
   |none=>rw[IJ (by simpa using λe=>c e.symm)];rfl
   |some y=>rfl
theorem zA{a c:Type}{F:a->c->Prop}:∀{l:Y a}{m:Y c},Paired F l m->l.length=m.length:=Ko
end
section
variable{K:Â}{X:Cx}{e a b ev:Ã}{c l:TD}{f A B:Õ}{x:Str}{i:Nat}
noncomputable def Cr(o:Om):TX:=λρ R _=>R (.ob Œ o) ρ
theorem GU:PX K X (.Dict [] [] f) (Cr (.mpT [])):=⟨λv=>pe_dnewT.imp λy H Q h=>by
 let⟨o,r,Φ,z,ρ,w,R,u,U,t,k⟩:=h;intro p g
 show k _ ρ Φ _ _ t (U.pushO (Gr.fresh U.g.s g _) (.mpT bg .nil) λb j=>by rw[Hw.mp j];show⟨g,U.g.s.free g⟩) (Same.refl _)⟩
theorem EnvM.dictT{j o Φ H:Hp}{y:St}{ρ:af}{a:œ Addr}{C:Y (Y av×D)}(E:EnvM K o Φ H y ρ)(g:Gr j o Φ H)(w:ρ[i]?=Z (Z (.ob a (.mpT C)))):∃q p,y[i]?=Z (Z (.ref q))/\H q=Z (.dT p)/\Paired (fQ K Φ) C p /\
  ∀(v:Y (Y av×D))(h:Y (Y av×V)),Paired (fQ K Φ) v h->EnvM K o Φ (am H q (.dT h)) y (ρ.set i (Z (.ob a (.mpT v))))/\Gr j o Φ (am H q (.dT h)):=by
 let⟨I,E⟩:=E;let⟨q,e,_,r⟩:=E.ow i a _ w;have G:=r.mem;let⟨_,p,J,L⟩:=r.mpT_inv;refine⟨q,p,e,J,L,λv h N=>?_⟩
 have F:∀b u,H b=Z u->b∉I i->am H q (.dT h) b=Z u:=λb u e hn=>by
  rw[aS λz=>hn (by rw[z];show G)];show e
 show⟨⟨_,E.put w e F (F':=[q]) (.mpT bg N) λb M=>.inl (by rw[Hw.mp M];show G)⟩,E.grput g w F⟩
noncomputable def ownT(ρ:af)(i:Nat)(k:œ Addr->Y (Y av×D)->Prop):Prop:=match ρ[i]? with|some (Z (.ob a (.mpT LV)))=>k a LV|_=>False
theorem ownT.get{ρ:af}{i:Nat}{k:œ Addr->Y (Y av×D)->Prop}(h:ownT ρ i k):∃a g,ρ[i]?=Z (Z (.ob a (.mpT g)))/\k a g:=by
 unfold ownT at h;split at h
 ·next a ds e=>show⟨a,ds,e,h⟩
 ·show h.elim
theorem pX{Φ:Hp}{g:Y av}{v:V}(r:Rp K Φ (.tup (g.map gk)) v):∃q,v=.ref q/\Φ q=Z (.tup (g.map kV)):=by
 cases r with
 |tup h j o=>
  cases uF ⟨j,o⟩;show⟨_,S,h⟩
noncomputable def vM(neg:Bool)(i:Nat)(c:TD):cU:=λρ R _=>c (dw ρ) λd=>∃g:Y av,d=.tup (g.map gk)/\ownT ρ i λ_ h=>R (neg != (bw h g).isSome) ρ
theorem DR{neg:Bool}{E:St}{H:Hp}{Q:Bool->Hp->Prop}(h:lXb K X (vM neg i c) E H Q):lE K c E H λy j=>jS i E j λx F=>∃a o,x=.ref a/\DGet F a y o/\Q (neg != o.isSome) F:=by
 let⟨U,J,Φ,τ,ρ,a_,R,be,b_,t,k⟩:=h;refine⟨J,Φ,dw ρ,_,b_.env.toD,t,λd C j v r g P=>?_⟩;let⟨w,rfl,r⟩:=r;let⟨a,L,ho,r⟩:=ownT.get r;let⟨p,rfl,N⟩:=pX P;have u:=b_.gr g;let⟨q,T,M,O,z,_⟩:=u.env.dictT u.g ho;refine⟨_,M,q,_,S,DGet.t O (g.s _ _ N),?_⟩
 have e:(fb T w).isSome=(bw L w).isSome:=by rcases oE z w with⟨G,I⟩|⟨d,v,G,I,_⟩<;>rw[G,I]<;>rfl
 rw[e];show k _ ρ C j r u g.f
theorem zZ(b:Bool):(ŕ != b)=b:=by cases b<;>rfl
theorem ER{t:TD}{u:St}{H:Hp}{Q p:VK}(h:lE K t u H Q)(y:∀v j,Q v j->p v j):lE K t u H p:=by let⟨w,Φ,ρ,R,E,t,k⟩:=h;show⟨w,Φ,ρ,R,E,t,λd o j v r g z=>y _ _ (k d o j v r g z)⟩
theorem DC{j:Nat}{p:St}{H:Hp}{Q o:VK}(h:jS j p H Q)(r:∀v g,Q v g->o v g):jS j p H o:=let ⟨v,e,q⟩:=h;⟨v,e,r _ _ q⟩
theorem yx(i:Nat)(J:X.A.units+64<å)(C:PD K X e c)(y:X.N[i]?=Z x:=by rfl)(F:cI X.env.scope x:=by nofun)(hd:ab x:=by decide)(h:fI x:=by decide)
  (E:behindInMarks .In (.Name x A)=ŕ:=by rfl):PXB K X (.Compare e [.In] [.Name x A] f) (vM ŕ i c):=
 ⟨λu=>(wx (Be () (C.pe u) (pv i y F hd h)) E).imp λL H Q j=>ER (DR j) λv G q=>DC q λw I z=>by
  let⟨a,o,p,r,g⟩:=z;rw[zZ]at g
  show⟨a,o,p,r,_,S,g⟩⟩
noncomputable def xL(i:Nat)(c:TD)(l:TD):bz:=λj ρ=>l (dw ρ) λd=>c (dw ρ) λp=>∃h:Y av,p=.tup (h.map gk)/\ownT ρ i λa g=>g.length<sizeLine/\NF (io g h d) λo=>j.nx (ρ.set i (Z (.ob a (.mpT o))))
theorem Eb(i:Nat)(hu:X.A.units+64<å)(R:PD K X e c)(Q:PD K X ev l)(P:X.N[i]?=Z x:=by rfl)(U:cI X.env.scope x:=by nofun)(hd:ab x:=by decide)(M:fI x:=by decide)
  (T:Ð ev (Z (.Subscript (.Name x A) e B)) f.line X.env=pure ŕ:=by rfl):PSM K X (.Assign [.Subscript (.Name x A) e B] ev f) (λz ρ=>(ownT ρ i λ_ _=>True)/\xL i c l z ρ):=
 ⟨λL=>(FA () (pv i P U hd M) (R.pe L) (Q.pe L) T).imp λE σ H N=>by
  let⟨Φ0,C,Φ,ρ,z,g,V,⟨ho,t⟩,k⟩:=N;let⟨a,LV,ho,_⟩:=ownT.get ho;refine⟨C,Φ,dw ρ,_,V.toD,t,λd u H1 v r1 p rv=>?_⟩;have o:=V.gr p;let⟨q,ws,I,hq,rel,_⟩:=o.dictT (g.trans p) ho;refine⟨_,I,C,u,dw ρ,_,o.toD,r1,λkd y H2 w h j rw=>?_⟩;let⟨a_,rfl,h⟩:=h;let⟨a2,S7,F,b_,h⟩:=ownT.get h;rw[ho]at F;cases F;let⟨pk,rfl,r⟩:=pX rw;let⟨q2,ws2,J,O,G,be⟩:=(o.gr j).dictT ((g.trans p).trans j) ho;rw[I]at J;cases J;let⟨z1,z2⟩:=be _ _ (Ej G a_ (rv.same j.f))
  show⟨q,_,S,DPut.t O (j.s _ _ r) (by rw[←zA G];show b_),k.nx _ y _ σ h.get z2 z1⟩⟩
end
end L2
namespace PySem.SeqAt
open AutoSeq1 (wpAny_loadPart')
open MeetsSeq MeetsSeq2 MeetsSeq3 SeqRoads2
end PySem.SeqAt
namespace L2
open PySem PySem.Spec PyProof.Rows
open Builtin Builtin.ObjectAttr
end L2
namespace L2
open PySem PySem.Spec PyProof.Rows
end L2
namespace L2
open PySem PySem.Spec PyProof.Rows
section
variable{K:Â}{l H Φ:Hp}{g:St}{ρ:af}{f:Nat->Y Addr}{o o' w u:Om}{p q:Addr}{i j:Nat}{a a' b A:œ Addr}
theorem EnvM'.two(E:EnvM' K l Φ H g ρ f)(O4:i≠j)(hi:ρ[i]?=Z (Z (.ob a o)))(hj:ρ[j]?=Z (Z (.ob a' o'))){U X:Addr}{N O:Y Addr}(si:g[i]?=Z (Z (.ref U)))(sj:g[j]?=Z (Z (.ref X)))
  (ai:∀q,b=Z q->q=U) (aj:∀q,A=Z q->q=X) (Oi:OmS K Φ H w U N) (Oj:OmS K Φ H u X O) (sub:∀x,x∈N\/x∈O->x∈f i\/x∈f j) (R:∀x∈N,x∉O) :
  EnvM K l Φ H g ((ρ.set i (Z (.ob b w))).set j (Z (.ob A u))):=by
 have P:∀{m:Nat}{x:Sm},((ρ.set i (Z (Sm.ob b w))).set j (Z (Sm.ob A u)))[m]?=Z (Z x)->(m=j/\x=.ob A u)\/(m≠j/\m=i/\x=.ob b w)\/(m≠j/\m≠i/\ρ[m]?=Z (Z x)):=λ{m x} h=>by
  rcases dX h with⟨e,_,e1⟩|⟨e,h⟩
  ·cases e1;show .inl ⟨e,S⟩
  ·rcases dX h with⟨e',_,e1⟩|⟨e',h⟩
   ·cases e1;show .inr (.inl ⟨e,e',S⟩)
   ·show .inr (.inr ⟨e,e',h⟩)
 have T:∀x,x∈N\/x∈O->∀(m:Nat)(c:œ Addr)(J:Om),ρ[m]?=Z (Z (.ob c J))->m≠i->m≠j->x∉f m:=λx I m c J b_ v B z=>by
  rcases sub x I with h|h
  ·show E.dj m i c a J o b_ hi v x z h
  ·show E.dj m j c a' J o' b_ hj B x z h
 have no:∀x,x∈N\/x∈O->l x=Œ/\Φ x=Œ:=λx I=>by
  rcases sub x I with h|h
  ·show E.no i a o hi x h
  ·show E.no j a' o' hj x h
 refine⟨λm=>if m=j then O else if m=i then N else f m,E.fz,by rw[Hs,Hs,E.len],λm d h=>?_,λm c J h=>?_,λm c J h x I=>?_,λm k c a_ J be b_ hk cc x I QU=>?_,E.tb⟩
 ·rcases P h with⟨_,C⟩|⟨_,_,C⟩|⟨_,_,C⟩
  ·cases C
  ·cases C
  ·show E.sl m d C
 ·rcases P h with⟨v,C⟩|⟨v,B,C⟩|⟨v,B,C⟩
  ·cases C;show⟨X,by rw[v];show sj,aj,by rw[Hx v];show Oj⟩
  ·cases C;show⟨U,by rw[B];show si,ai,by rw[Hq v,Hx B];show Oi⟩
  ·let⟨p,e,ha,r⟩:=E.ow m c J C;show⟨p,e,ha,by rw[Hq v,Hq B];show r⟩
 ·rcases P h with⟨v,C⟩|⟨v,B,C⟩|⟨v,B,C⟩
  ·rw[Hx v]at I;show no x (.inr I)
  ·rw[Hq v,Hx B]at I;show no x (.inl I)
  ·rw[Hq v,Hq B]at I;show E.no m c J C x I
 ·have M:x∈(if m=j then O else if m=i then N else f m):=I;have F:x∈(if k=j then O else if k=i then N else f k):=QU;rcases P b_ with⟨v,Q⟩|⟨v,B,Q⟩|⟨v,B,Q⟩
  ·rw[Hx v]at M;rcases P hk with⟨y,L⟩|⟨y,G,L⟩|⟨y,G,L⟩
   ·show cc (v.trans y.symm)
   ·rw[Hq y,Hx G]at F;show R x F M
   ·rw[Hq y,Hq G]at F;show T x (.inr M) k a_ be L G y F
  ·rw[Hq v,Hx B]at M;rcases P hk with⟨y,L⟩|⟨y,G,L⟩|⟨y,G,L⟩
   ·rw[Hx y]at F;show R x M F
   ·show cc (B.trans G.symm)
   ·rw[Hq y,Hq G]at F;show T x (.inl M) k a_ be L G y F
  ·rw[Hq v,Hq B]at M;rcases P hk with⟨y,L⟩|⟨y,G,L⟩|⟨y,G,L⟩
   ·rw[Hx y]at F;show T x (.inr F) m c J Q B v M
   ·rw[Hq y,Hx G]at F;show T x (.inl F) m c J Q B v M
   ·rw[Hq y,Hq G]at F;show E.dj m k c a_ J be Q L cc x M F
theorem AD{ps:Y (Addr×œ (Y D))}{k:Nat}{x y:œ (Y D)}(h:ps[k]?=Z (q,x)):((ps.set k (q,y)).map λq=>V.ref q.1)=ps.map λq=>V.ref q.1:=by
 refine IP λm=>?_;rw[Hy,Hy];by_cases c:k=m
 ·subst c;rw[HV (aB h),h];rfl
 ·rw[HP c]
theorem EnvM.opn{ps:Y (Addr×œ (Y D))}{k:Nat}{ds:Y D}(E:EnvM K l Φ H g ρ)(B:i≠j)(r:ρ[i]?=Z (Z (.ob (Z q) .ptr)))(v:ρ[j]?=Z (Z (.ob a' (.tl ps))))(y:ps[k]?=Z (q,Z ds)) :
  EnvM K l Φ H g ((ρ.set i (Z (.ob (Z q) (.lst ds)))).set j (Z (.ob a' (.tl (ps.set k (q,Œ)))))):=by
 let⟨f,E⟩:=E;let⟨p,si,e,ri⟩:=E.ow i _ _ r;have F:=e q S;subst F;let⟨t,P,C,O⟩:=E.ow j _ _ v;let⟨G,I,J⟩:=O.tl_inv;let⟨Q,F',L,M,N,z⟩:=I.out y;have nd:=z.nodup_iff.mp J;rw[HS]at nd;refine E.two B r v si P e C (.lst L M) (.tl (by rw[AD y];show G) N nd.2) (λx c=>.inr (z.mem_iff.mpr ?_)) λx c=>?_
 ·rcases c with h|h
  ·rw[Hw.mp h];show Ht
  ·show Hv _ h
 ·rw[Hw.mp c];show nd.1
theorem EnvM.pnt(E:EnvM K l Φ H g ρ)(i:Nat)(p:Addr):EnvM K l Φ H (g.set i (Z (.ref p))) (ρ.set i (Z (.ob (Z p) .ptr))):=by
 let⟨f,E⟩:=E
 have F:∀{m:Nat}{x:Sm},(ρ.set i (Z (Sm.ob (Z p) .ptr)))[m]?=Z (Z x)->(m=i/\i<ρ.length/\x=.ob (Z p) .ptr)\/(m≠i/\ρ[m]?=Z (Z x)):=λ{m x} h=>by
  rcases dX h with⟨e,M,a_⟩|⟨e,h⟩
  ·cases a_;show .inl ⟨e,M,S⟩
  ·show .inr ⟨e,h⟩
 refine⟨λm=>if m=i then [] else f m,E.fz,by rw[Hs,Hs,E.len],λm d h=>?_,λm c G h=>?_,λm c G h x C=>?_,λm k c z G P U T R x C Q=>?_,E.tb⟩
 ·rcases F h with⟨_,_,h⟩|⟨c,h⟩
  ·cases h
  ·let⟨v,e,r⟩:=E.sl m d h;show⟨v,by rw[HP (IE c)];show e,r⟩
 ·rcases F h with⟨y,M,B⟩|⟨z,B⟩
  ·cases B;show⟨p,by rw[y];show HV (by rw[E.len];show M),λq e=>by cases e;rfl,by rw[Hx y];show .ptr⟩
  ·let⟨q,e,r⟩:=E.ow m c G B;show⟨q,by rw[HP (IE z)];show e,by rw[Hq z];show r⟩
 ·rcases F h with⟨y,_,B⟩|⟨z,B⟩
  ·rw[Hx y]at C;cases C
  ·rw[Hq z]at C;show E.no m c G B x C
 ·have I:x∈(if m=i then [] else f m):=C;have J:x∈(if k=i then [] else f k):=Q;rcases F U with⟨y,_,O⟩|⟨y,O⟩
  ·rw[Hx y]at I;cases I
  rcases F T with⟨L,_,N⟩|⟨L,N⟩
  ·rw[Hx L]at J;cases J
  rw[Hq y]at I;rw[Hq L]at J;show E.dj m k c z G P O N R x I J
end
section
variable{K:Â}{X:Cx}{t:bz}{c e:Õ}
noncomputable def Ep(i:Nat)(tb:TX):TX:=λρ R g=>(∃a ds,ρ[i]?=Z (Z (.ob a (.lst ds))))/\tb ρ (xV λk f=>∃a ds n d,f[i]?=Z (Z (.ob a (.lst ds)))/\k=.int n/\cn ds n=Z d/\R (.v d) f) g
theorem wZ{y:Str}{b:Ã}{tb:TX}(i:Nat)(P:X.N[i]?=Z y)(L:PX K X b tb)(M:me b)
  (O:cI X.env.scope y:=by nofun) (hd:ab y:=by decide) (z:fI y:=by decide) :
  PX K X (.Subscript (.Name y e) b c) (Ep i tb):=
 ⟨λl=>(pz (C3 l) (pv i P O hd z) (L.pe l) M).imp λσ H Q A=>by
  let⟨g,w,Φ,τ,ρ,κ,R,B,b_,⟨⟨a,ds,J⟩,t⟩,k⟩:=A;let⟨fp,E⟩:=b_.env;let⟨q,s,_,_⟩:=E.ow i _ _ J;refine⟨.ref q,s,g,w,Φ,τ,ρ,κ,_,B,b_,t,λsm j h x v r f G=>?_⟩;let⟨kd,rfl,a1,SX,n,d,C,rfl,F,r⟩:=r.get;have hn:=f.last;obtain rfl:=hn.i;let⟨I,p⟩:=f.env;let⟨q1,o,_,T⟩:=p.ow i _ _ C;rw[s]at o;cases o;let⟨_,ws,be,a_⟩:=T.lst_inv;let⟨u,N,U⟩:=ny a_ F
  show⟨q,ws,n,u,S,S,SqL.of be,N,k _ j h x u r ((f.pop b_.lk).pushV U) G⟩⟩
end
noncomputable def Ba:Fl->œ D
 |.v d=>Z d
 |.l xs=>Z (.lst xs)
 |.al _=>Œ
noncomputable def eh:Y (Str×Fl)->œ (Y (Str×D))
 | []=>Z []
 |(f,x)::r=>match Ba x,eh r with
  |some d,Z ds=>Z ((f,d)::ds)
  |_,_=>Œ
noncomputable def rP:œ Sm->œ Sl
 |some (.ob _ (.obj nm fs))=>(eh fs).map λds=>.v (.obj nm ds)
 |x=>oV x
noncomputable abbrev ei(ρ:af):bq:=ρ.map rP
noncomputable def ra:HO->Bool
 |.lst _=>Ŕ
 |.dK _=>Ŕ
 |.dT _=>Ŕ
 |.ins _ _ _=>Ŕ
 |_=>ŕ
theorem Gg{u:HO}(h:mh u):ra u=Ŕ:=by cases u<;>first|rfl|show h.elim
inductive NoL:D->Prop where
 |int (i:Int):NoL (.int i)
 |bl (b:Bool):NoL (.bl b)
 |str (x:Str):NoL (.str x)
 |non:NoL .non
 |tup {ds:List D}:(∀d∈ds,NoL d)->NoL (.tup ds)
noncomputable def dN(Φ H:Hp)(A:Y Addr):Hp:=λb=>match Φ b with
 |some u=>Z u
 |none=>if b∈A then H b else Œ
noncomputable def fv(Φ a:Hp):Hp:=λb=>match Φ b with
 |some u=>Z u
 |none=>match a b with
  |some u=>if ra u then Œ else Z u
  |none=>Œ
section
variable{K:Â}{J H I Φ B:Hp}{G:St}{ρ:af}{F:Nat->Y Addr}{A:Y Addr}{d:D}{v:V}{b:Addr}{u:HO}
theorem DW(h:Φ b=Z u):dN Φ H A b=Z u:=by unfold dN;rw[h]
theorem sA(a:b∈A)(h:H b=Z u)(s:Same Φ H):dN Φ H A b=Z u:=by
 unfold dN
 cases e:Φ b with
 |some w=>have:=s _ _ e;rw[h]at this;cases this;rfl
 |none=>simp only;rw[Hx a];show h
theorem oF(h:dN Φ H A b=Z u):Φ b=Z u\/(b∈A/\H b=Z u):=by
 unfold dN at h
 cases e:Φ b with
 |some w=>rw[e]at h;show .inl h
 |none=>
  rw[e]at h;simp only at h;split at h
  ·next c=>show .inr ⟨c,h⟩
  ·cases h
theorem view_same:Same Φ (dN Φ H A):=λ_ _ h=>DW h
theorem qg(s:Same Φ H):Same (dN Φ H A) H:=λb u h=>(oF h).elim (s b u) (·.2)
theorem D8(h:Φ b=Z u):fv Φ B b=Z u:=by unfold fv;rw[h]
theorem yK{vs:Y V}(s:Same Φ B)(h:B b=Z (.tup vs)):fv Φ B b=Z (.tup vs):=by
 unfold fv
 cases e:Φ b with
 |some w=>have:=s _ _ e;rw[h]at this;cases this;rfl
 |none=>simp only;rw[h];rfl
theorem iW(s:Same Φ H)(g:Gr (dN Φ H A) H B I):Gr Φ H (fv Φ B) I:=by
 refine⟨λb u e=>D8 e,g.h,λb u e=>?_,λp u h hn k=>?_⟩
 ·unfold fv at e
  cases c:Φ b with
  |some w=>rw[c]at e;cases e;show g.h _ _ (s _ _ c)
  |none=>
   rw[c]at e;simp only at e
   cases a:B b with
   |none=>rw[a]at e;cases e
   |some w=>
    rw[a]at e;simp only at e;split at e
    ·cases e
    ·cases e;show g.s _ _ a
 ·unfold fv;rw[hn];simp only
  cases a:B p with
  |none=>rfl
  |some w=>
   have f:=g.s _ _ a;rw[g.h _ _ h]at f;cases f;simp only;rw[Hx (Gg k)]
theorem Rp.thawN(s:Same Φ B)(hn:NoL d)(r:Rp K B d v):Rp K (fv Φ B) d v:=by
 induction hn generalizing v with
 |int i=>obtain rfl:=r.i;show .int i
 |bl b=>obtain rfl:=r.b;show .bl b
 |str x=>obtain rfl:=r.s;show .str x
 |non=>obtain rfl:=r.n;show .non
 |tup _ g=>
  cases r with
  |tup a c e=>show .tup (yK s a) c λi v d f hd=>g d (Hu hd) (e i v d f hd)
noncomputable def mw:œ (œ Sm)->Bool
 |some (Z (.ob _ (.obj _ _)))=>Ŕ
 |_=>ŕ
noncomputable def im(F:Nat->Y Addr)(ρ:af):Y Addr:=(List.range ρ.length).flatMap λi=>if mw (ρ[i]?) then F i else []
theorem Fx{i:Nat}{a:œ Addr}{nm:Str}{fs:Y (Str×Fl)}(h:ρ[i]?=Z (Z (.ob a (.obj nm fs))))(c:b∈F i):b∈im F ρ:=by unfold im;refine Lq.mpr ⟨i,HQ.mpr (aB h),?_⟩;rw[h,Hx (show mw (Z (Z (Sm.ob a (Om.obj nm fs))))=Ŕ from rfl)];show c
theorem yq(h:b∈im F ρ):∃i a nm fs,ρ[i]?=Z (Z (.ob a (.obj nm fs)))/\b∈F i:=by
 unfold im at h;let⟨i,_,h⟩:=Lq.mp h;by_cases c:mw (ρ[i]?)=Ŕ
 ·rw[Hx c]at h;unfold mw at c;split at c
  ·next a nm fs e=>show⟨i,a,nm,fs,e,h⟩
  ·cases c
 ·rw[Hq c]at h;cases h
theorem tX{fs:Y (Str×Fl)}{ds:Y (Str×D)}{vs:Y (Str×V)}{E:Y Addr}(a:eh fs=Z ds)(h:FlsR K Φ H fs vs E)(C:Same Φ B)(x:∀b∈E,∀u,H b=Z u->B b=Z u) :
  vs.map (·.1)=ds.map (·.1)/\∀(i:Nat)(v:Str×V)(d:Str×D),vs[i]?=Z v->ds[i]?=Z d->Rp K B d.2 v.2:=by
 induction h generalizing ds with
 |nil=>cases a;show⟨S,λi v d g=>by simp at g⟩
 |v r _ j=>
  rename_i f o Q c z y _;have a:(match Z o,eh c with|some d,Z ds=>Z ((f,d)::ds)|_,_=>Œ)=Z ds:=a
  cases e:eh c with
  |none=>rw[e]at a;cases a
  |some es=>
   rw[e]at a;cases a;let⟨p,w⟩:=j e x;refine⟨by rw[HK,HK,p],λi v d g hd=>?_⟩
   cases i with
   |zero=>cases g;cases hd;show r.same C
   |succ i=>show w i v d g hd
 |l p w _ j=>
  rename_i f o R P c z y _;have a:(match Z (D.lst o),eh c with|some d,Z ds=>Z ((f,d)::ds)|_,_=>Œ)=Z ds:=a
  cases e:eh c with
  |none=>rw[e]at a;cases a
  |some es=>
   rw[e]at a;cases a;let⟨M,N⟩:=j e λb L=>x b (Hv _ L);refine⟨by rw[HK,HK,M],λi v d g hd=>?_⟩
   cases i with
   |zero=>
    cases g;cases hd;have r:=w.same C;show .lst (x _ Ht _ p) r.1 r.2
   |succ i=>show N i v d g hd
 |al _ j=>
  rename_i f O c z y _;have a:(match (Œ:œ D),eh c with|some d,Z ds=>Z ((f,d)::ds)|_,_=>Œ)=Z ds:=a;cases a
theorem EnvM'.view(E:EnvM' K J Φ H G ρ F):EnvD K J (dN Φ H (im F ρ)) H G (ei ρ):=by
 have R:Same Φ (dN Φ H (im F ρ)):=view_same
 have at_:∀{i:Nat}{x:Sl},(ei ρ)[i]?=Z (Z x)->∃y,ρ[i]?=Z (Z y)/\rP (Z y)=Z x:=λ{i x} h=>by
  rw[Hy]at h
  cases e:ρ[i]? with
  |none=>rw[e]at h;cases h
  |some y=>
   rw[e]at h
   cases y with
   |none=>cases h
   |some y=>show⟨y,S,HR h⟩
 have ow:∀{i:Nat}{o:Ow},(ei ρ)[i]?=Z (Z (.ob o))->∃a f p u,ρ[i]?=Z (Z (.ob a f))/\(∀nm fs,f≠.obj nm fs)/\G[i]?=Z (Z (.ref p))/\p∈F i/\H p=Z u/\OwR K Φ o u:=λ{i o} h=>by
  let⟨y,L,e⟩:=at_ h
  cases y with
  |v d=>cases e
  |ob a f=>
   let⟨p,M,_,r⟩:=E.ow i a f L;refine⟨a,f,p,?_⟩
   cases f with
   |lst ds=>let⟨_,vs,g,l⟩:=r.lst_inv;cases e;show⟨_,L,(λ_ _ z=>by cases z),M,r.mem,g,l⟩
   |map be=>let⟨_,vs,g,l⟩:=r.map_inv;cases e;show⟨_,L,(λ_ _ z=>by cases z),M,r.mem,g,km l⟩
   |mpT be=>let⟨_,vs,g,l⟩:=r.mpT_inv;cases e;show⟨_,L,(λ_ _ z=>by cases z),M,r.mem,g,km l⟩
   |obj nm fs=>
    have e:(eh fs).map (λds=>Sl.v (.obj nm ds))=Z (.ob o):=e
    cases O:eh fs with
    |none=>rw[O]at e;cases e
    |some ds=>rw[O]at e;cases e
   |ptr=>cases e
   |tl ps=>cases e
   |pr _ _=>cases e
 refine⟨qg E.fz,by rw[Hj,E.len],λi d h=>?_,λi o h=>?_,λi j o w p hi hj si sj=>?_,E.tb.same R⟩
 ·let⟨y,L,e⟩:=at_ h
  cases y with
  |v d'=>cases e;let⟨v,M,r⟩:=E.sl i d L;show⟨v,M,r.same R⟩
  |ob a f=>
   cases f with
   |obj nm fs=>
    have e:(eh fs).map (λds=>Sl.v (.obj nm ds))=Z (.v d):=e
    cases O:eh fs with
    |none=>rw[O]at e;cases e
    |some ds=>
     rw[O]at e;cases e;let⟨p,M,_,r⟩:=E.ow i a _ L;let⟨C,dx,vs,qs,X,c1,c2,c3,_⟩:=r.obj_inv;have U:∀b∈F i,∀u,H b=Z u->dN Φ H (im F ρ) b=Z u:=λb T u hu=>sA (Fx L T) hu E.fz;let⟨N,P⟩:=tX O c3 R λb T=>U b (by rw[X];show Hv _ T);show⟨.ref p,M,.obj c1 (U p (by rw[X];show Ht) _ c2) N P⟩
   |_=>cases e
 ·let⟨a,f,p,u,g,a_,l,Q,h4,b_⟩:=ow h;have n1:=E.no i a f g p Q;refine⟨p,u,l,n1.1,?_,h4,?_⟩
  ·cases e:dN Φ H (im F ρ) p with
   |none=>rfl
   |some w=>
    rcases oF e with z|⟨z,_⟩
    ·rw[n1.2]at z;cases z
    ·let⟨j,a',nm,fs,N,P⟩:=yq z
     have O4:i≠j:=λc=>by subst c;rw[g]at N;cases N;show a_ _ _ S
     show absurd P (E.dj i j a a' f _ g N O4 p Q)
  ·cases o with
   |lst ds=>cases u with
    |lst vs=>show RpL.same R b_
    |_=>show b_.elim
   |_=>cases u<;>show b_
 ·let⟨a,f,p1,u,g,_,l,Q,_,_⟩:=ow hi;let⟨a',NQ,p2,u',N,_,P,k3,_,_⟩:=ow hj;rw[si]at l;cases l;rw[sj]at P;cases P;rcases JW (i=j)with c|c
  ·show c
  ·show absurd k3 (E.dj i j a a' f NQ g N c p Q)
end
section
variable{K:Â}{X:Cx}{e:Ã}
noncomputable def B7(t:TD):TX:=λρ R _=>t (ei ρ) λd=>NoL d/\R (.v d) ρ
theorem cm{t:TD}(h:PD K X e t):PX K X e (B7 t):=⟨λj=>(h.pe j).imp λy H Q f=>by
 let⟨o,a,Φ,z,ρ,x,R,u,U,t,k⟩:=f;let⟨w,E⟩:=U.env;refine⟨a,_,ei ρ,_,E.view,t,λd p c v r g l=>?_⟩;have g':=iW E.fz g
 show k _ ρ _ c v r.2 ((U.gr g').pushV (l.thawN (view_same.trans g.f) r.1)) g'.f⟩
noncomputable def n5(t:aM):TX:=λρ R _=>t (ei ρ) λds=>(∀d∈ds,NoL d)/\R (.own ds) ρ
theorem vL{t:aM}(h:PF K X e t):PX K X e (n5 t):=⟨λx=>(h.pe x).imp λJ H Q l=>by
 let⟨C,f,Φ,L,ρ,I,R,F,U,t,k⟩:=l;let⟨G,E⟩:=U.env;refine⟨f,_,ei ρ,_,E.view,t,λds a j p vs r g A hn z rl=>?_⟩;have g':=iW E.fz g;have c:=view_same.trans g.f
 have o:fv Φ a p=Œ:=by
  unfold fv
  cases u:Φ p with
  |some w=>rw[c _ _ u]at hn;cases hn
  |none=>simp only;rw[hn]
 refine k _ ρ _ j _ r.2 (U.pushO g' (.lst z ⟨rl.1,λi v d B hd=>(rl.2 i v d B hd).thawN c (r.1 d (Hu hd))⟩) λb y=>by rw[Hw.mp y];show⟨A,o⟩) g'.f⟩
end
noncomputable def cM(f:Str)(x:Fl):Y (Str×Fl)->Y (Str×Fl)
 | []=>[(f,x)]
 |(g,y)::r=>if g=f then (g,x)::r else (g,y)::cM f x r
section
variable{K:Â}{Φ H a:Hp}{fs:Y (Str×Fl)}{vs:Y (Str×V)}{o:Y Addr}{f:Str}{ds es:Y D}{j:Y V}{d:D}{v:V}
theorem FlsR.look(h:FlsR K Φ H fs vs o)(nd:o.Nodup)(p:fs.lookup f=Z (.l ds)):∃q j,vs.lookup f=Z (.ref q)/\q∈o/\H q=Z (.lst j)/\RpL K Φ ds j /\
  ∀(a:Hp)(es:Y D)(w:Y V),(∀b∈o,b≠q->∀u,H b=Z u->a b=Z u)->a q=Z (.lst w)->RpL K Φ es w->FlsR K Φ a (cM f (.l es) fs) vs o:=by
 induction h with
 |nil=>cases p
 |v r t I=>
  rename_i g P T L N M;rw[HN]at p
  cases c:f==g with
  |true=>rw[c]at p;cases p
  |false=>
   rw[c]at p;let⟨q,j,C,B,E,F,G⟩:=I nd p;refine⟨q,j,by rw[HN,c];show C,B,E,F,λa es w x y A=>?_⟩;change FlsR K Φ a (if g=f then _ else _) _ _;rw[Hq λe=>by rw[e,Ia]at c;cases c];show .v r (G a es w x y A)
 |l a1 a2 t I=>
  rename_i g P R O L N M;rw[HS]at nd;rw[HN]at p
  cases c:f==g with
  |true=>
   rw[c]at p;cases p;refine⟨O,R,by rw[HN,c],Ht,a1,a2,λa es w x y A=>?_⟩;change FlsR K Φ a (if g=f then _ else _) _ _;rw[Hx (eq_of_beq c).symm];show .l y A (t.keep (Same.refl _) λb J u Q=>x b (Hv _ J) (λz=>nd.1 (z▸J)) u Q)
  |false=>
   rw[c]at p;let⟨q,j,C,B,E,F,G⟩:=I nd.2 p;refine⟨q,j,by rw[HN,c];show C,Hv _ B,E,F,λa es w x y A=>?_⟩;change FlsR K Φ a (if g=f then _ else _) _ _;rw[Hq λe=>by rw[e,Ia]at c;cases c];show .l (x O Ht (λz=>nd.1 (z▸B)) _ a1) a2 (G a es w (λb J=>x b (Hv _ J)) y A)
 |al t I=>
  rename_i g U L N M;rw[HN]at p
  cases c:f==g with
  |true=>rw[c]at p;cases p
  |false=>
   rw[c]at p;let⟨q,j,C,B,E,F,G⟩:=I nd p;refine⟨q,j,by rw[HN,c];show C,B,E,F,λa es w x y A=>?_⟩;change FlsR K Φ a (if g=f then _ else _) _ _;rw[Hq λe=>by rw[e,Ia]at c;cases c];show .al (G a es w x y A)
noncomputable def iC(f:Str)(fs:Y (Str×Fl)):Bool:=match fs.lookup f with
 |none=>Ŕ
 |some (.v _)=>Ŕ
 |_=>ŕ
theorem FlsR.setV(h:FlsR K Φ H fs vs o)(e:iC f fs=Ŕ)(r:Rp K Φ d v):FlsR K Φ H (cM f (.v d) fs) (cz f v vs) o:=by
 induction h with
 |nil=>show .v r .nil
 |v A t p=>
  rename_i g y E u x w;change FlsR K Φ H (if g=f then _ else _) (if g=f then _ else _) _;by_cases c:g=f
  ·rw[Hx c,Hx c];show .v r t
  ·rw[Hq c,Hq c];refine .v A (p ?_);unfold iC at e ⊢;rw[HN,show (f==g)=ŕ from KP λz=>c z.symm]at e;show e
 |l a1 a2 t p=>
  rename_i g y F C u x w;change FlsR K Φ H (if g=f then _ else _) (if g=f then _ else _) _;by_cases c:g=f
  ·subst c;unfold iC at e;rw[HN,Ia]at e;cases e
  ·rw[Hq c,Hq c];refine .l a1 a2 (p ?_);unfold iC at e ⊢;rw[HN,show (f==g)=ŕ from KP λz=>c z.symm]at e;show e
 |al t p=>
  rename_i g B u x w;change FlsR K Φ H (if g=f then _ else _) (if g=f then _ else _) _;by_cases c:g=f
  ·subst c;unfold iC at e;rw[HN,Ia]at e;cases e
  ·rw[Hq c,Hq c];refine .al (p ?_);unfold iC at e ⊢;rw[HN,show (f==g)=ŕ from KP λz=>c z.symm]at e;show e
theorem FlsR.setL{q:Addr}(h:FlsR K Φ H fs vs o)(u:fs.lookup f=Œ)(E:H q=Z (.lst j))(r:RpL K Φ ds j):FlsR K Φ H (cM f (.l ds) fs) (cz f (.ref q) vs) (o++[q]):=by
 have p:∀{g:Str}{y:Fl}{r:Y (Str×Fl)},List.lookup f ((g,y)::r)=Œ->g≠f/\r.lookup f=Œ:=λ{g y r} e=>by
  rw[HN]at e
  cases c:f==g with
  |true=>rw[c]at e;cases e
  |false=>rw[c]at e;show⟨(λz=>by rw[z,Ia]at c;cases c),e⟩
 induction h with
 |nil=>show .l E r .nil
 |v F t w=>
  rename_i g C J x B A;let⟨c,u⟩:=p u;change FlsR K Φ H (if g=f then _ else _) (if g=f then _ else _) _;rw[Hq c,Hq c];show .v F (w u)
 |l a1 a2 t w=>
  rename_i g C L I x B A;let⟨c,u⟩:=p u;change FlsR K Φ H (if g=f then _ else _) (if g=f then _ else _) _;rw[Hq c,Hq c];show .l a1 a2 (w u)
 |al t w=>
  rename_i g G x B A;let⟨c,u⟩:=p u;change FlsR K Φ H (if g=f then _ else _) (if g=f then _ else _) _;rw[Hq c,Hq c];show .al (w u)
theorem FlsR.len(h:FlsR K Φ H fs vs o):vs.length=fs.length:=by have:=Il List.length h.names;rwa [Hj,Hj]at this
end
section
variable{K:Â}{X:Cx}{c h Φ H:Hp}{j l:St}{ρ o:af}{w:XD->af->Prop}{a:œ Addr}{nm f:Str}{fs:Y (Str×Fl)}{ds:Y D}{i:Nat}{C:Addr}
theorem EnvM.flist(E:EnvM K h Φ H j ρ)(g:Gr c h Φ H)(M:Ò K Á nm=Z (Z (.ref C)))(A:ρ[i]?=Z (Z (.ob a (.obj nm fs))))(T:fs.lookup f=Z (.l ds)):∃p y vs q x,j[i]?=Z (Z (.ref p))/\H p=Z (.ins C y vs)/\vs.lookup f=Z (.ref q)/\H q=Z (.lst x)/\RpL K Φ ds x /\
  ∀(es:Y D)(v:Y V),RpL K Φ es v->EnvM K h Φ (am H q (.lst v)) j (ρ.set i (Z (.ob a (.obj nm (cM f (.l es) fs)))))/\Gr c h Φ (am H q (.lst v)):=by
 let⟨L,E⟩:=E;let⟨p,e,_,r⟩:=E.ow i a _ A;let⟨C',y,vs,qs,J,G,I,b_,nd⟩:=r.obj_inv;rw[M]at G;cases G;rw[HS]at nd;let⟨q,x,be,P,a_,l4,l5⟩:=b_.look nd.2 T
 have F:q∈L i:=by rw[J];show Hv _ P
 have B:p≠q:=λz=>nd.1 (z▸P);refine⟨p,y,vs,q,x,e,I,be,a_,l4,λes v R=>?_⟩
 have N:∀b u,H b=Z u->b∉L i->am H q (.lst v) b=Z u:=λb u e hn=>by
  rw[aS λz=>hn (by rw[z];show F)];show e
 refine⟨⟨_,E.put A e N (F':=p::qs) (.obj M ((aS B).trans I) (l5 _ es v (λb O Q u U=>by rw[aS Q];show U) bg R) (HS.mpr nd)) λb O=>.inl (by rw[J];show O)⟩,E.grput g A N⟩
theorem StM.flist(Q:StM K X c h Φ H j l ρ o w)(I:Ò K Á nm=Z (Z (.ref C)))(y:ρ[i]?=Z (Z (.ob a (.obj nm fs))))(J:fs.lookup f=Z (.l ds)):∃p x vs q u,j[i]?=Z (Z (.ref p))/\H p=Z (.ins C x vs)/\vs.lookup f=Z (.ref q)/\H q=Z (.lst u)/\RpL K Φ ds u /\
  ∀(es:Y D)(g:Y V),RpL K Φ es g->StM K X c h Φ (am H q (.lst g)) j l (ρ.set i (Z (.ob a (.obj nm (cM f (.l es) fs))))) o w:=by
 have v:=aB y;let⟨p,x,vs,q,u,e,A,B,E,F,G⟩:=Q.E.flist (i:=i) Q.g I (by rw[Hk v];show y) J;rw[Hk (by rw[←Q.l];show v)]at e;refine⟨p,x,vs,q,u,e,A,B,E,F,λes g r=>?_⟩;let⟨z,L⟩:=G es g r;refine⟨L,by rw[Hs];show Q.l,?_,Q.x⟩;rw[Jn _ _ v]at z;show z
theorem EnvM.fsetV{d:D}{v:V}(E:EnvM K h Φ H j ρ)(g:Gr c h Φ H)(L:Ò K Á nm=Z (Z (.ref C)))(A:ρ[i]?=Z (Z (.ob a (.obj nm fs))))(P:iC f fs=Ŕ)(r:Rp K Φ d v):∃p x vs,j[i]?=Z (Z (.ref p))/\H p=Z (.ins C x vs)/\vs.length=fs.length /\
  EnvM K h Φ (am H p (.ins C x (cz f v vs))) j (ρ.set i (Z (.ob a (.obj nm (cM f (.v d) fs)))))/\Gr c h Φ (am H p (.ins C x (cz f v vs))):=by
 let⟨J,E⟩:=E;let⟨p,e,_,U⟩:=E.ow i a _ A;let⟨T,x,vs,R,I,F,O,G,nd⟩:=U.obj_inv;rw[L]at F;cases F
 have N:p∈J i:=by rw[I];show Ht
 have M:∀b u,H b=Z u->b∉J i->am H p (.ins C x (cz f v vs)) b=Z u:=λb u e hn=>by
  rw[aS λz=>hn (by rw[z];show N)];show e
 have B:=nd;rw[HS]at B;refine⟨p,x,vs,e,O,G.len,⟨_,E.put A e M (F':=p::R) (.obj L bg ((G.setV P r).keep (Same.refl _) λb y u Q=>by rw[aS (show b≠p from λz=>B.1 (by rw[←z];show y))];show Q) nd) λb y=>.inl (by rw[I];show y)⟩,E.grput g A M⟩
end
noncomputable def mj(ρ:af)(i:Nat)(nm f:Str)(k:œ Addr->Y (Str×Fl)->Y D->Prop):Prop:=∃a fs ds,ρ[i]?=Z (Z (.ob a (.obj nm fs)))/\fs.lookup f=Z (.l ds)/\k a fs ds
section
variable{K:Â}{X:Cx}{e a b:Ã}{z:TX}{t tb:TD}{u h o y l A:Õ}{x nm f:Str}{C:Addr}
noncomputable def wW(i:Nat)(nm f:Str)(t:TD):bz:=λc ρ=>mj ρ i nm f λa fs ds=>t (ei ρ) λd=>NoL d/\ds.length<sizeLine/\NF (cM f (.l (ds++[d])) fs) λg=>c.nx (ρ.set i (Z (.ob a (.obj nm g))))
theorem n6(i:Nat)(c:Cls K C)(nA:NoAttr K C f)(O:Ò K Á nm=Z (Z (.ref C)))(he:PD K X e t)(Np:((backTo y (starEach [e] X.env)).all (λx=>!x.1)&&(ç y (Û [] X.env)).all (λx=>x.1.isSome)&&decide (([e]:Y Ã).length+([]:Y ß).length+(if ([]:Y ß).isEmpty then 0 else 1)<30))=Ŕ)
  (w:starEach [e] X.env=(ŕ,eval e X.env)::starEach [] X.env) (hN:X.N[i]?=Z x:=by rfl) (hv:cI X.env.scope x:=by nofun) (hd:ab x:=by decide) (T:fI x:=by decide)
  (O9:Î (.Name x h) f X.env (eval (.Name x h) X.env)=eval (.Name x h) X.env:=by rfl)
  (be:Î (.Attribute (.Name x h) f l) "append" X.env (eval (.Attribute (.Name x h) f l) X.env)=eval (.Attribute (.Name x h) f l) X.env:=by rfl) (a_:(o.endLine==y.line)=Ŕ:=by rfl) (hs:Ð (.Call (.Attribute (.Attribute (.Name x h) f l) "append" o) [e] [] y) Œ u.line X.env=pure ŕ:=by rfl) :
  PSM K X (.Expr (.Call (.Attribute (.Attribute (.Name x h) f l) "append" o) [e] [] y) u) (wW i nm f t):=
 ⟨λP=>(nO (nW JM Ln Lo pJ (jU P (pv i hN hv hd T) O9) (eN (he.pe P) pa_nil w) be Np a_ w ae) hs).imp λE σ H U=>by
  let⟨Φ0,R,Φ,ρ,De,g,V,⟨a0,MK,S8,ho,Q,t⟩,k⟩:=U;have b_:=de g V k.ex;let⟨p,dx,vs,q,ws,L,M,N,h3,rl,_⟩:=b_.flist O ho Q;let⟨fp,E0⟩:=id V;refine⟨_,L,p,C,dx,vs,.ref q,S,M,c,nA,N,.inl ⟨S,ws,SqL.of h3⟩,R,_,ei ρ,_,E0.view,t,λd Φ1 H1 v r j rv=>?_⟩;have S1:=b_.gr (iW E0.fz j);let⟨p',S9,Ta,q',Mm,I,B,F,OS,G,k1⟩:=S1.flist O ho Q;rw[L]at I;cases I;rw[j.h _ _ M]at B;cases B;rw[N]at F;cases F;have J:=k1 _ _ (G.append (.one (rv.thawN (view_same.trans j.f) r.1)))
  show⟨q,Mm,v,S,S,OS,by rw[G.1];show r.2.1,k.nx _ _ _ σ r.2.2.get J.g J.env⟩⟩
noncomputable def FK(i:Nat)(nm f:Str)(t:TD):TX:=λρ R _=>mj ρ i nm f λa fs ds=>t (ei ρ) λn=>∃(j:Nat)(d:D),n=.int (j:Int)/\j<2^62/\ds[j]?=Z d/\NF (cM f (.l (ds.eraseIdx j)) fs) λc=>R (.v d) (ρ.set i (Z (.ob a (.obj nm c))))
theorem tP(i:Nat)(c:Cls K C)(nA:NoAttr K C f)(O:Ò K Á nm=Z (Z (.ref C)))(he:PD K X e t)(Np:((backTo y (starEach [e] X.env)).all (λx=>!x.1)&&(ç y (Û [] X.env)).all (λx=>x.1.isSome)&&decide (([e]:Y Ã).length+([]:Y ß).length+(if ([]:Y ß).isEmpty then 0 else 1)<30))=Ŕ)
  (B:starEach [e] X.env=(ŕ,eval e X.env)::starEach [] X.env) (hN:X.N[i]?=Z x:=by rfl) (g:cI X.env.scope x:=by nofun) (hd:ab x:=by decide) (be:fI x:=by decide)
  (O9:Î (.Name x h) f X.env (eval (.Name x h) X.env)=eval (.Name x h) X.env:=by rfl)
  (MH:Î (.Attribute (.Name x h) f l) "pop" X.env (eval (.Attribute (.Name x h) f l) X.env)=eval (.Attribute (.Name x h) f l) X.env:=by rfl) (MI:(o.endLine==y.line)=Ŕ:=by rfl):PX K X (.Call (.Attribute (.Attribute (.Name x h) f l) "pop" o) [e] [] y) (FK i nm f t):=
 ⟨λP=>(nW JM PySem.F.slot_list_pop PySem.F.type_list_pop FZ (jU P (pv i hN g hd be) O9) (eN (he.pe P) pa_nil B) MH Np MI B ae).imp λσ H Q a_=>by
  let⟨Φ0,U,Φ,τ,ρ,κ,R,Rx,b_,⟨a0,MK,S8,ho,T,t⟩,k⟩:=a_;let⟨p,dx,vs,q,ws,J,M,N,h3,rl,_⟩:=b_.flist O ho T;let⟨fp,E0⟩:=b_.env;refine⟨_,J,p,C,dx,vs,.ref q,S,M,c,nA,N,.inl ⟨S,ws,SqL.of h3⟩,U,_,ei ρ,_,E0.view,t,λn Φ1 H1 v r L w=>?_⟩;let⟨j,d,rfl,h62,hj,r⟩:=r;obtain rfl:=w.i;have g':=iW E0.fz L;have S1:=b_.gr g';let⟨p',S9,Ta,q',Mm,I,E,F,OS,G,k1⟩:=S1.flist O ho T;rw[J]at I;cases I;rw[L.h _ _ M]at E;cases E;rw[N]at F;cases F;let⟨v,g,w⟩:=G.at hj;have S2:=k1 _ _ (G.eraseIdx j)
  show⟨q,Mm,_,j,v,S,S,OS,(),(),wz (aB g),g,k _ _ _ _ v r.get (S2.pushV w) g'.f⟩⟩
noncomputable def zw(i:Nat)(nm f:Str)(z:TX)(tb:TD):bz:=λg ρ=>z ρ (xV λd c=>mj c i nm f λa fs ds=>tb (ei c) λr=>∃n j,r=.int n/\fS ds.length n=Z j/\NF (cM f (.l (ds.set j d)) fs) λp=>g.nx (c.set i (Z (.ob a (.obj nm p))))) g.ex
theorem iy(i:Nat)(c:Cls K C)(nA:NoAttr K C f)(a_:Ò K Á nm=Z (Z (.ref C)))(he:PX K X e z)(hk:PD K X b tb)(hN:X.N[i]?=Z x:=by rfl)(hv:cI X.env.scope x:=by nofun)(hd:ab x:=by decide)(L6:fI x:=by decide)
  (O9:Î (.Name x h) f X.env (eval (.Name x h) X.env)=eval (.Name x h) X.env:=by rfl)
  (ha:∀v,assign (.Subscript (.Attribute (.Name x h) f l) b A) X.env v=(do
   let ov ←holding [v] (eval (.Attribute (.Name x h) f l) X.env)
   let iv ←holding [v,ov] (eval b X.env)
   standAt A
   holding [v,ov,iv] (setItem ov iv v)
   release [v,ov,iv] []):=by intro _;rfl)
  (hs:Ö [.Subscript (.Attribute (.Name x h) f l) b A] e u.line X.env=pure ŕ:=by rfl) (hw:Ø [.Subscript (.Attribute (.Name x h) f l) b A] e X.env=pure Œ:=by rfl)
  (F:(Æ [.Subscript (.Attribute (.Name x h) f l) b A] X.env).map (·.2)=[assign (.Subscript (.Attribute (.Name x h) f l) b A) X.env]:=by rfl) :
  PSM K X (.Assign [.Subscript (.Attribute (.Name x h) f l) b A] e u) (zw i nm f z tb):=
 ⟨λG=>(jO (he.pe G) (r6 (jU G (pv i hN hv hd L6) O9) (hk.pe G) qk ha) hs hw F).imp λE σ H LR=>by
  let⟨L,N,Φ,ρ,De,g,V,t,k⟩:=LR;refine⟨L,N,Φ,[],ρ,[],_,De.ex,de g V k.ex,t,λs M Φ1 H1 v r B _=>?_⟩;let⟨d,rfl,a0,MK,S8,ho,hf,r⟩:=r.get;have rv:=B.last;let⟨p,dx,vs,q,ws,T,F,be,h3,rl,_⟩:=B.flist a_ ho hf;let⟨fp,E0⟩:=B.env;refine⟨_,T,p,C,dx,vs,.ref q,S,F,c,nA,be,N,_,ei M,_,E0.view,r,λn Φ2 H2 w I U J=>?_⟩;let⟨n,j,rfl,hj,I⟩:=I;obtain rfl:=J.i;have g':=iW E0.fz U;have S2:=B.gr g';let⟨p',S9,Ta,q',Mm,R,O,P,OS,Q,k1⟩:=S2.flist a_ ho hf;rw[T]at R;cases R;rw[U.h _ _ F]at O;cases O;rw[be]at P;cases P;have b_:=k1 _ _ (Q.set (rv.same g'.f) j)
  show⟨q,Mm,n,j,S,S,OS,by rw[Q.1];show hj,k.nx _ _ _ σ I.get b_.g b_.env⟩⟩
noncomputable def yI(i:Nat)(nm f:Str)(z:TX):bz:=λg ρ=>z ρ (xV λd c=>∃a fs,c[i]?=Z (Z (.ob a (.obj nm fs)))/\iC f fs=Ŕ/\fs.length<1000/\NF (cM f (.v d) fs) λj=>g.nx (c.set i (Z (.ob a (.obj nm j))))) g.ex
theorem eX(i:Nat)(c:Cls K C)(nA:NoAttr K C f)(R:Ò K Á nm=Z (Z (.ref C)))(U:PX K X e z)(b_:X.N[i]?=Z x:=by rfl)(hv:cI X.env.scope x:=by nofun)(hd:ab x:=by decide)(L:fI x:=by decide)
  (a_:Ð e (Z (.Attribute (.Name x h) f l)) u.line X.env=pure ŕ:=by rfl):PSM K X (.Assign [.Attribute (.Name x h) f l] e u) (yI i nm f z):=
 ⟨λw=>(oP (f:=f) (pv i b_ hv hd L) (U.pe w) a_).imp λE σ H M=>by
  let⟨B,J,Φ,ρ,G,g,V,t,k⟩:=M;refine⟨B,J,Φ,[],ρ,[],_,G.ex,de g V k.ex,t,λs ρ1 F H1 v r j _=>?_⟩;let⟨d,rfl,a0,MK,ho,T,be,r⟩:=r.get;let⟨p,N,vs,O,P,Q,I,g'⟩:=j.env.fsetV (f:=f) j.g R ho T j.last
  show⟨_,O,p,C,N,vs,S,P,w▸c,w▸nA,by rw[Q];show be,k.nx _ F _ σ r.get g' I⟩⟩
end
theorem FlsR.lookN{K:Â}{Φ H:Hp}{fs:Y (Str×Fl)}{vs:Y (Str×V)}{u:Y Addr}{f:Str}(h:FlsR K Φ H fs vs u)(j:fs.lookup f=Œ):vs.lookup f=Œ:=by
 have a:∀{p:Type}{g:Str}{y:p}{r:Y (Str×p)},List.lookup f ((g,y)::r)=Œ->(f==g)=ŕ/\r.lookup f=Œ:=λ{p g y r} e=>by
  rw[HN]at e
  cases c:f==g with
  |true=>rw[c]at e;cases e
  |false=>rw[c]at e;show⟨S,e⟩
 induction h with
 |nil=>rfl
 |v r t o=>let⟨c,j⟩:=a j;rw[HN,c];show o j
 |l a1 a2 t o=>let⟨c,j⟩:=a j;rw[HN,c];show o j
 |al t o=>let⟨c,j⟩:=a j;rw[HN,c];show o j
structure MthM(P:Å)(w:È)(K:Â)(mg:Str->Option Value)(base:Heap)(n:Nat)(C:Addr)(m:Str)(ps:List Str)(z:dI):Prop where
 ex:∃(f:Addr)(fd:Ì),FnOk P w K mg base aD n f fd ps (lSpM K z)/\Binds K fd ps []/\Meth K C m f
structure MkM(P:Å)(w:È)(K:Â)(mg:Str->Option Value)(base:Heap)(n:Nat)(C:Addr)(ps:List Str)(z:dI):Prop where
 ex:∃(f:Addr)(fd:Ì),FnOk P w K mg base aD n f fd ps (lSpM K z)/\Binds K fd ps []/\Mk K C f
section
variable{K:Â}{X:Cx}{e:Ã}{es:Y Ã}{g p j w:Õ}{l:cT}{C:Addr}{nm m x:Str}
noncomputable def yD(i:Nat)(nm m:Str)(z:dI)(l:cT):TX:=λρ R f=>(∃a fs,ρ[i]?=Z (Z (.ob a (.obj nm fs)))/\fs.lookup m=Œ)/\l ρ (λas c=>CallM z R f (.s i::as) c) f
theorem eG(i:Nat){n:Nat}{ps:Y Str}{z:dI}{pl:Sem Bool}(M:MthM X.prog X.w K X.mg X.base n C m ps z)(hr:Room n X.A)(c:Cls K C)(hC:Ò K Á nm=Z (Z (.ref C)))
  (ha:PXA K X (e::es) l) (he:starEach (e::es) X.env=(ŕ,eval e X.env)::starEach es X.env) (Me:(backTo g (starEach es X.env)).any (·.1)=ŕ)
  (ht:eval (.Call (.Attribute (.Name x w) m j) (e::es) [] g) X.env=(do
   let ov ←eval (.Name x w) X.env
   standAt j.atName
   let (f,first) ←holding [ov] (getMethod ov m pl)
   callWith g f first (backTo g (starEach (e::es) X.env)) (ç g (Û [] X.env))):=by rfl)
  (hN:X.N[i]?=Z x:=by rfl) (y:cI X.env.scope x:=by nofun) (hd:ab x:=by decide) (T:fI x:=by decide) :
  PX K X (.Call (.Attribute (.Name x w) m j) (e::es) [] g) (yD i nm m z l):=⟨λh=>by
 let⟨f,fd,F,b,hm⟩:=M.ex;refine (rA (dvs:=[]) (ds:=[]) (E:=E0) (pl:=pl) (pv i hN y hd T) (h▸c) (h▸hm) (h▸F:FnOk X.prog X.w X.K X.mg X.base aD n f fd ps (lSpM K z)) hr (h▸b) .nil je (ha.pa h) he Me ht).imp λσ H Q U=>?_;let⟨B,P,Φ,τ,ρ,κ,R,Rx,b_,⟨⟨a,fs,ho,N⟩,t⟩,k⟩:=U;let⟨fp,E⟩:=b_.env;let⟨q,L,_,ro⟩:=E.ow i a _ ho;let⟨C',dx,vs,qs,eF,J,c2,c3,nd⟩:=ro.obj_inv;rw[hC]at J;cases J;refine⟨_,L,q,dx,vs,S,c2,c3.lookN N,B,P,Φ,τ,ρ,κ,_,Rx,b_,t,λas ρ1 G H1 us ts A N y u f1=>?_⟩;let⟨Mh,Ov,NL,A⟩:=A;let⟨O,g1,g2,g3,g4⟩:=u.lend (as:=.s i::as) b_.lk Ov (.s L y) NL;rw[Ii]
 show⟨G,Mh,O,_,_,u.g.s,u.E.tb,g1,g2,g3,A,λsm os o I v F Mq r gr be ho hn a_=>k sm _ o I v r (g4 sm os o I v F Mq gr be ho hn a_) (f1.trans gr.f)⟩⟩
noncomputable def BK(nm:Str)(z:dI)(l:cT):TX:=λρ R c=>l ρ (xaD λds a=>z (.ob Œ (.obj nm [])::ds.map Sm.v) (λsm os=>match sm,os with|.v .non,[o]=>R (.ob Œ o) a|_,_=>False) (λ_ _=>False)) c
theorem sI{Φ H:Hp}:∀{ds:Y D}{vs:Y V},RpL K Φ ds vs->ArgM K Φ H (ds.map Sm.v) vs (ds.map λ_=>[])
 | [],[],_=>.nil
 | [],_::_,h=>by cases h.1
 |_::_,[],h=>by cases h.1
 |d::ds,v::vs,h=>.v (h.2 0 v d S S) (sI ⟨by have:=h.1;simpa using this,λi c d' a hd=>h.2 (i+1) c d' a hd⟩)
theorem v6{Φ H:Hp}:∀{ds:Y D}{vs:Y V}{os:Y Om}{a:Y (Y Addr)},OutM K Φ H (ds.map Sm.v) vs os a->os=[]/\a.flatten=[]
 | [],_,_,_,.nil=>⟨S,S⟩
 |_::ds,_,_,_,.v h=>by let⟨c,f⟩:=v6 (ds:=ds) h;show⟨c,by rw[Ih,f];rfl⟩
theorem mY{a c:Type}:∀(ds:Y a),(ds.map λ_=>([]:Y c)).flatten=[]
 | []=>rfl
 |_::ds=>by rw[HK,Ih,mY ds];rfl
theorem pI{n:Nat}{ps:Y Str}{z:dI}(M:MkM X.prog X.w K X.mg X.base n C ps z)(hr:Room (n+1) X.A)(hg:Gl X x)(hm:X.mg x=Z (.ref C))(hC:Ò K Á x=Z (Z (.ref C)))
  (ha:PXA K X (e::es) l) (he:starEach (e::es) X.env=(ŕ,eval e X.env)::starEach es X.env) (Me:(backTo g (starEach es X.env)).any (·.1)=ŕ) (M9:ab x:=by decide) :
  PX K X (.Call (.Name x p) (e::es) [] g) (BK x z l):=⟨λL=>by
 let⟨f,fd,F,b,mk⟩:=M.ex;refine (BR (dvs:=[]) (ds:=[]) (E:=E0) (L▸mk) (L▸F:FnOk X.prog X.w X.K X.mg X.base aD n f fd ps (lSpM K z)) hr hg hm (L▸b) .nil je (ha.pa L) M9 he Me).imp λσ H Q LR=>?_;let⟨U,H0,Φ,τ,ρ,κ,R,Rx,b_,t,k⟩:=LR;refine⟨U,H0,Φ,τ,ρ,κ,_,Rx,b_,t,λas be J a vs ts T hl hv h f1=>?_⟩;let⟨ds,hd,T⟩:=T.get;have rl:=h.vals b_.lk hd hv;intro y A O B MJ;rw[Ii]
 have G:∀b u,a b=Z u->am (am a A (.own y)) y (.ins C A []) b=Z u:=λb u e=>by rw[aS (da e O),aS (da e B)];show e
 refine⟨J,_,_,_,_,λb u e=>G b u (h.g.s b u e),h.E.tb,.o (.obj hC bg .nil (by simp)) (sI rl),?_,λb N=>?_,T,λsm os I a_ v F Mq r gr MA ho hn MQ=>?_⟩
 ·rw[Ih,mY];simp
 ·rw[Ih,mY,Ii,Hw]at N;rw[N];show h.g.s.free O
 ·split at r
  ·next o=>
   cases MA with
   |v rv=>
    obtain rfl:=rv.n
    cases ho with
    |o OV MT=>
     rename_i F' Mq;let⟨_,eF⟩:=v6 MT
     have P:(([y]:Y Addr)::ds.map λ_=>([]:Y Addr)).flatten=[y]:=by rw[Ih,mY];rfl
     rw[P]at gr MQ
     have up:∀b u,a b=Z u->bU (am (am a A (.own y)) y (.ins C A [])) [y] b=Z u:=λb u e=>by rw[gE λz=>da e O (Hw.mp z)];show G b u e
     have g':Gr J a I a_:=⟨gr.f,λb u e=>gr.h b u (up b u e),gr.s,λb u h1 h2 k=>gr.o b u (up b u h1) h2 k⟩;refine⟨S,k _ be I a_ _ r ((h.pop b_.lk).pushO g' OV λb N=>?_) (f1.trans gr.f)⟩;let⟨z1,z2⟩:=MQ b (by rw[J4,Ih];show HU.mpr (.inl N));refine⟨?_,z2⟩;by_cases c:b=y
     ·rw[c];show O
     ·rw[gE (by simpa using c),aS c]at z1;by_cases c2:b=A
      ·rw[c2];show B
      ·rwa [aS c2]at z1
  ·show r.elim⟩
end
section
variable{K:Â}{y H B Φ A:Hp}{w:St}{ρ:af}{l:Nat->Y Addr}{F':Y Addr}{o o':Om}{p:Addr}{d:D}{v:V}{i:Nat}{a:œ Addr}
theorem EnvM'.put2(E:EnvM' K y Φ H w ρ l)(L:ρ[i]?=Z (Z (.ob a o)))(si:w[i]?=Z (Z (.ref p)))(P:∀b u,H b=Z u->b∉l i->B b=Z u)(T:OmS K Φ B o' p F')(O:∀b∈F',b∈l i\/(y b=Œ/\Φ b=Œ/\∀(j:Nat)(a':œ Addr)(g:Om),ρ[j]?=Z (Z (.ob a' g))->b∉l j)) :
  EnvM' K y Φ B w (ρ.set i (Z (.ob a o'))) (λj=>if j=i then F' else l j):=by
 have a_:=aB L
 have J:∀{j:Nat}{x:Sm},(ρ.set i (Z (Sm.ob a o')))[j]?=Z (Z x)->(j=i/\x=.ob a o')\/(j≠i/\ρ[j]?=Z (Z x)):=λ{j x} h=>by
  rcases dX h with⟨e,_,b_⟩|⟨e,h⟩
  ·cases b_;show .inl ⟨e,S⟩
  ·show .inr ⟨e,h⟩
 have Q:∀b∈F',∀(j:Nat)(a':œ Addr)(g:Om),ρ[j]?=Z (Z (.ob a' g))->j≠i->b∉l j:=λb f j a' g C c z=>by
  rcases O b f with h|⟨_,_,h⟩
  ·show E.dj j i a' a g o C L c b z h
  ·show h j a' g C z
 refine⟨λb u e=>P b u (E.fz b u e) λz=>?_,by rw[Hs,E.len],λj d h=>?_,λj a' g h=>?_,λj a' g h b f=>?_,λj k a1 a2 R g C F c b f I=>?_,E.tb⟩
 ·rw[(E.no i a o L b z).2]at e;cases e
 ·rcases J h with⟨_,h⟩|⟨_,h⟩
  ·cases h
  ·show E.sl j d h
 ·rcases J h with⟨c,h⟩|⟨c,h⟩
  ·cases h;subst c;let⟨q,e,N,_⟩:=E.ow j a o L;rw[si]at e;cases e;show⟨p,si,N,by rw[Hx S];show T⟩
  ·let⟨q,e,N,r⟩:=E.ow j a' g h;refine⟨q,e,N,?_⟩;rw[Hq c];show r.keep (Same.refl _) λb f u U=>P b u U λz=>E.dj j i a' a g o h L c b f z
 ·rcases J h with⟨c,h⟩|⟨c,h⟩
  ·rw[Hx c]at f;rcases O b f with z|⟨X,be,_⟩
   ·show E.no i a o L b z
   ·show⟨X,be⟩
  ·rw[Hq c]at f;show E.no j a' g h b f
 ·rcases J C with⟨M,C⟩|⟨M,C⟩
  ·rw[Hx M]at f;rcases J F with⟨G,F⟩|⟨G,F⟩
   ·omega
   ·rw[Hq G]at I;show Q b f k a2 g F G I
  ·rw[Hq M]at f;rcases J F with⟨G,F⟩|⟨G,F⟩
   ·rw[Hx G]at I;show Q b I j a1 R C M f
   ·rw[Hq G]at I;show E.dj j k a1 a2 R g C F c b f I
theorem EnvM.fsetL{nm f:Str}{fs:Y (Str×Fl)}{ds:Y D}{C:Addr}{a':œ Addr}(E:EnvM K y Φ H (w++[Z v]) (ρ++[Z (.ob a' (.lst ds))]))(hl:ρ.length=w.length)(g:Gr A y Φ H)(X:Ò K Á nm=Z (Z (.ref C)))(J:ρ[i]?=Z (Z (.ob a (.obj nm fs))))(Q:fs.lookup f=Œ):∃p F vs,w[i]?=Z (Z (.ref p))/\H p=Z (.ins C F vs)/\vs.length=fs.length /\
  EnvM K y Φ (am H p (.ins C F (cz f v vs))) w (ρ.set i (Z (.ob a (.obj nm (cM f (.l ds) fs)))))/\Gr A y Φ (am H p (.ins C F (cz f v vs))):=by
 let⟨l,E⟩:=E
 have M:(ρ++[Z (Sm.ob a' (.lst ds))])[ρ.length]?=Z (Z (.ob a' (.lst ds))):=by rw[Hl (Hr _),Ic];rfl
 let⟨q,eq,_,rq⟩:=E.ow _ _ _ M
 have ev:v=.ref q:=by rw[hl,Hl (Hr _),Ic]at eq;cases eq;rfl
 subst ev;let⟨P,ws,q1,q2⟩:=rq.lst_inv
 have hq:q∈l ρ.length:=by rw[P];show Hw.mpr S
 have I:=E.no _ _ _ M q hq
 have up:∀{j:Nat}{x:Sm},ρ[j]?=Z (Z x)->(ρ++[Z (Sm.ob a' (.lst ds))])[j]?=Z (Z x):=λh=>by rw[Hk (aB h)];show h
 have G:∀(j:Nat)(a2:œ Addr)(R:Om),ρ[j]?=Z (Z (.ob a2 R))->q∉l j:=λj a2 R a_ z=>E.dj j ρ.length a2 a' R _ (up a_) M (by have:=aB a_;omega) q z hq;have L:EnvM' K y Φ H w ρ l:=E.take hl;let⟨p,e,_,ro⟩:=L.ow i a _ J;let⟨C',F,vs,b_,O,T,c2,U,nd⟩:=ro.obj_inv;rw[X]at T;cases T
 have QX:p∈l i:=by rw[O];show Ht
 have be:∀b u,H b=Z u->b∉l i->am H p (.ins C F (cz f (.ref q) vs)) b=Z u:=λb u e hn=>by
  rw[aS λz=>hn (by rw[z];show QX)];show e
 have Ou:=nd;rw[HS]at Ou
 have SH:q∉p::b_:=by rw[←O];show G i a _ J
 have N:(p::(b_++[q])).Nodup:=by rw[←List.cons_append,IQ];show⟨nd,by simp,λb r c Q z=>by rw[Hw.mp Q]at z;show SH (z▸r)⟩
 refine⟨p,F,vs,e,c2,U.len,⟨_,L.put2 J e be (F':=p::(b_++[q])) (.obj X bg ((U.setL Q q1 q2).keep (Same.refl _) λb r u hu=>?_) N) λb r=>?_⟩,L.grput g J be⟩
 ·rw[aS (show b≠p from λz=>?_)]
  ·show hu
  ·rw[HS]at N;show N.1 (by rw[←z];show r)
 ·rw[←List.cons_append]at r;rcases HU.mp r with r|r
  ·show .inl (by rw[O];show r)
  ·rw[Hw.mp r];show .inr ⟨I.1,I.2,G⟩
end
section
variable{K:Â}{X:Cx}{e a:Ã}{L:TX}{t:TD}{B A o J G:Õ}{x nm f:Str}{C:Addr}
noncomputable def Ef(i:Nat)(nm f:Str)(L:TX):bz:=λg ρ=>L ρ (λs c=>match s with|.ob _ (.lst ds)=>(∃a fs,c[i]?=Z (Z (.ob a (.obj nm fs)))/\fs.lookup f=Œ/\fs.length<1000/\NF (cM f (.l ds) fs) λh=>g.nx (c.set i (Z (.ob a (.obj nm h)))))|_=>False) g.ex
theorem gM(i:Nat)(c:Cls K C)(nA:NoAttr K C f)(Q:Ò K Á nm=Z (Z (.ref C)))(T:PX K X e L)(R:X.N[i]?=Z x:=by rfl)(a_:cI X.env.scope x:=by nofun)(hd:ab x:=by decide)(F:fI x:=by decide)
  (be:Ð e (Z (.Attribute (.Name x A) f G)) B.line X.env=pure ŕ:=by rfl):PSM K X (.Assign [.Attribute (.Name x A) f G] e B) (Ef i nm f L):=
 ⟨λj=>(oP (f:=f) (pv i R a_ hd F) (T.pe j) be).imp λE σ H I=>by
  let⟨l,z,Φ,ρ,w,g,V,t,k⟩:=I;refine⟨l,z,Φ,[],ρ,[],_,w.ex,de g V k.ex,t,λs ρ1 u H1 v r h _=>?_⟩;split at r
  ·next a1 ds=>
   let⟨a0,MK,ho,b_,U,r⟩:=r;let⟨p,M,vs,N,O,P,y,g'⟩:=EnvM.fsetL (f:=f) h.E h.l h.g Q ho b_;show⟨_,N,p,C,M,vs,S,O,j▸c,j▸nA,by rw[P];show U,k.nx _ u _ σ r.get g' y⟩
  ·show r.elim⟩
noncomputable def wY:V->Y V->Hp->VK->Prop:=λx vs H Q=>∃(l:Addr)(xs:Y V)(ns:Y Int)(i:Int)(k:Nat),x=.ref l/\vs=[.int i]/\H l=Z (.lst xs)/\xs=ns.map V.int/\ns[k]?=Z i/\(∀m<k,ns[m]?≠Z i)/\Q .non (am H l (.lst (xs.eraseIdx k)))
theorem yj:oU X "list.remove" wY:=by
 intro be s σ H x vs v us Q I rx rv h;let⟨l,xs,ns,i,k,rfl,rfl,R,ex,b_,a_,q⟩:=h;cases rx;let⟨u,rfl,ru⟩:=rv.one;let⟨t,rfl⟩:=ru;let⟨z,c,n,r,T,e⟩:=I.lstM R;have Pc:k<ns.length:=aB b_
 have p:∀(m:Nat)(y:Value),c[m]?=Z y->∃j t',ns[m]?=Z j/\y=.int j t':=λm y E=>by
  have g:m<xs.length:=by rw[T];show aB E
  let⟨w,U,P⟩:=r.get (IC g);rw[E]at U;cases U
  have Of:m<ns.length:=by rw[ex,Hj]at g;show g
  have:xs[m]=V.int ns[m]:=by subst ex;simp
  rw[this]at P;let⟨t',rfl⟩:=P;show⟨_,t',IC Of,S⟩
 have hsz:c.toArray.size=xs.length:=by rw[HB,T]
 have N:k<c.toArray.size:=by rw[hsz,ex,Hj];show Pc
 refine JQ F.slot_list_remove ⟨_,e,S⟩ F.entry_list_remove (F.args_list_remove_2 _ _)
  (MeetsSeq.list_remove l c.toArray n (.int i t) (λy=>match y with|.int j _=>j==i|_=>ŕ) (λy E=>?_) k N ?_ (λm g Ma=>?_) (by rw[hsz];show z)) ⟨e,?_⟩
 ·rw[List.mem_toArray]at E;let⟨m,g⟩:=IA E;let⟨j,t',_,rfl⟩:=p m y g;show Ķ j i t' t
 ·let⟨j,t',M,O⟩:=p k _ (IC (by rw[HB]at N;show N));rw[b_]at M;cases M;change (match c.toArray[k]with|.int j _=>j==i|_=>ŕ)=Ŕ;rw[List.getElem_toArray,O];show Ia i
 ·let⟨j,t',M,O⟩:=p m _ (IC (by rw[HB]at g;show g));change (match c.toArray[m]with|.int j _=>j==i|_=>ŕ)=ŕ;rw[List.getElem_toArray,O];show KP λz=>a_ m Ma (by rw[M,z])
 ·refine⟨.non,_,I.lset (Mc:=c.eraseIdx k) R e ?_ (r.eraseIdx k) ?_,S,q⟩
  ·change c.toArray.eraseIdxIfInBounds k=(c.eraseIdx k).toArray;rw[Kz]
  ·have:=oy xs k;omega
theorem mi{c g:Type}(f:c->g):∀(ns:Y c)(m:Nat),(ns.map f).eraseIdx m=(ns.eraseIdx m).map f
 | [],_=>rfl
 |_::_,0=>rfl
 |n::ns,m+1=>by change f n::(ns.map f).eraseIdx m=f n::(ns.eraseIdx m).map f;rw[mi f ns m]
theorem uR{Φ:Hp}:∀{ns:Y Int}{vs:Y V},RpL K Φ (ns.map D.int) vs->vs=ns.map V.int
 | [],[],_=>rfl
 | [],_::_,h=>by cases h.1
 |_::_,[],h=>by cases h.1
 |n::ns,v::vs,h=>by have c:=h.2 0 v (.int n) S S;obtain rfl:=c.i;rw[uR (ns:=ns) (vs:=vs) ⟨by have:=h.1;simpa using this,λi j d' g hd=>h.2 (i+1) j d' g hd⟩];rfl
noncomputable def Bl(i:Nat)(nm f:Str)(t:TD):bz:=λc ρ=>mj ρ i nm f λa fs ds=>t (ei ρ) λd=>∃(ns:Y Int)(j:Int)(k:Nat),d=.int j/\ds=ns.map D.int/\ns[k]?=Z j/\(∀m<k,ns[m]?≠Z j)/\NF (cM f (.l ((ns.eraseIdx k).map D.int)) fs) λg=>c.nx (ρ.set i (Z (.ob a (.obj nm g))))
theorem Ga(i:Nat)(c:Cls K C)(nA:NoAttr K C f)(T:Ò K Á nm=Z (Z (.ref C)))(he:PD K X e t)(Np:((backTo J (starEach [e] X.env)).all (λx=>!x.1)&&(ç J (Û [] X.env)).all (λx=>x.1.isSome)&&decide (([e]:Y Ã).length+([]:Y ß).length+(if ([]:Y ß).isEmpty then 0 else 1)<30))=Ŕ)
  (w:starEach [e] X.env=(ŕ,eval e X.env)::starEach [] X.env) (hN:X.N[i]?=Z x:=by rfl) (h:cI X.env.scope x:=by nofun) (hd:ab x:=by decide) (L6:fI x:=by decide)
  (O9:Î (.Name x A) f X.env (eval (.Name x A) X.env)=eval (.Name x A) X.env:=by rfl)
  (MH:Î (.Attribute (.Name x A) f G) "remove" X.env (eval (.Attribute (.Name x A) f G) X.env)=eval (.Attribute (.Name x A) f G) X.env:=by rfl) (MI:(o.endLine==J.line)=Ŕ:=by rfl) (hs:Ð (.Call (.Attribute (.Attribute (.Name x A) f G) "remove" o) [e] [] J) Œ B.line X.env=pure ŕ:=by rfl) :
  PSM K X (.Expr (.Call (.Attribute (.Attribute (.Name x A) f G) "remove" o) [e] [] J) B) (Bl i nm f t):=
 ⟨λU=>(nO (nW JM PySem.F.slot_list_remove PySem.F.type_list_remove yj (jU U (pv i hN h hd L6) O9) (eN (he.pe U) pa_nil w) MH Np MI w ae) hs).imp λE σ H LR=>by
  let⟨Φ0,a_,Φ,ρ,De,g,V,⟨a0,MK,S8,ho,be,t⟩,k⟩:=LR;have b_:=de g V k.ex;let⟨p,dx,vs,q,ws,N,Q,R,h3,rl,_⟩:=b_.flist T ho be;let⟨fp,E0⟩:=id V;refine⟨_,N,p,C,dx,vs,.ref q,S,Q,c,nA,R,.inl ⟨S,ws,SqL.of h3⟩,a_,_,ei ρ,_,E0.view,t,λd l H1 v r P rv=>?_⟩;let⟨ns,j,m,rfl,rfl,hm,MQ,r⟩:=r;obtain rfl:=rv.i;have S1:=b_.gr (iW E0.fz P);let⟨p',S9,Ta,q',u,F,y,z,OS,OF,k1⟩:=S1.flist T ho be;rw[N]at F;cases F;rw[P.h _ _ Q]at y;cases y;rw[R]at z;cases z;have O:=uR OF
  have rE:RpL K (fv Φ l) ((ns.eraseIdx m).map D.int) (u.eraseIdx m):=by
   rw[O];have:(ns.map L2.V.int).eraseIdx m=(ns.eraseIdx m).map L2.V.int:=mi _ ns m;rw[this];refine⟨by simp,λi v d h hd=>?_⟩;rw[Hy]at h hd
   cases M:(ns.eraseIdx m)[i]? with
   |none=>rw[M]at h;cases h
   |some n=>rw[M]at h hd;cases h;cases hd;show .int n
  have I:=k1 _ _ rE
  show⟨q,u,ns,j,m,S,S,OS,O,hm,MQ,k.nx _ _ _ σ r.get I.g I.env⟩⟩
end
section
variable{K:Â}{B H Φ A:Hp}{F:St}{ρ:af}{w:Nat->Y Addr}{a:œ Addr}{nm:Str}{fs:Y (Str×Fl)}{ds:Y (Str×D)}{k:Nat}
theorem EnvM'.fzO(E:EnvM' K B Φ H F ρ w)(g:Gr A B Φ H)(M:ρ[k]?=Z (Z (.ob a (.obj nm fs))))(a_:eh fs=Z ds):∃p f,F[k]?=Z (Z (.ref p))/\(∀q,a=Z q->q=p)/\Rp K f (.obj nm ds) (.ref p)/\Gr A B f H/\Same Φ f/\EnvM' K B f H F (ρ.set k (Z (.v (.obj nm ds)))) w:=by
 let⟨p,J,be,r⟩:=E.ow k a _ M;let⟨C,dx,vs,qs,P,T,U,X,_⟩:=r.obj_inv;have G:Same Φ (dN Φ H (w k)):=view_same;have N:∀b∈w k,∀u,H b=Z u->dN Φ H (w k) b=Z u:=λb y u hu=>sA y hu E.fz;let⟨k1,k2⟩:=tX a_ X G λb y=>N b (by rw[P];show Hv _ y);have Q:Rp K (dN Φ H (w k)) (.obj nm ds) (.ref p):=.obj T (N p (by rw[P];show Ht) _ U) k1 k2
 have R:∀{b:Addr},Φ b=Œ->b∉w k->dN Φ H (w k) b=Œ:=λ{b} l I=>by
  cases e:dN Φ H (w k) b with
  |none=>rfl
  |some u=>
   rcases oF e with z|⟨z,_⟩
   ·rw[l]at z;cases z
   ·show absurd z I
 have O:∀{j:Nat}{x:Sm},(ρ.set k (Z (Sm.v (.obj nm ds))))[j]?=Z (Z x)->(j=k/\x=.v (.obj nm ds))\/(j≠k/\ρ[j]?=Z (Z x)):=λ{j x} h=>by
  rcases dX h with⟨e,_,J⟩|⟨e,h⟩
  ·cases J;show .inl ⟨e,S⟩
  ·show .inr ⟨e,h⟩
 have L:∀{j:Nat}{a':œ Addr}{o:Om},(ρ.set k (Z (Sm.v (.obj nm ds))))[j]?=Z (Z (.ob a' o))->j≠k/\ρ[j]?=Z (Z (.ob a' o)):=λ{j a' o} h=>by
  rcases O h with⟨_,z⟩|z
  ·cases z
  ·show z
 refine⟨p,_,J,be,Q,⟨g.f.trans G,g.h,qg E.fz,λb u l I kk=>R (g.o b u l I kk) λz=>by rw[(E.no k a _ M b z).1]at l;cases l⟩,G,?_⟩;refine⟨qg E.fz,by rw[Hs,E.len],λj d h=>?_,λj a' o h=>?_,λj a' o h b y=>?_,λj j2 a1 a2 o1 o2 l I c=>E.dj j j2 a1 a2 o1 o2 (L l).2 (L I).2 c,E.tb.same G⟩
 ·rcases O h with⟨c,z⟩|⟨c,z⟩
  ·cases z;subst c;show⟨_,J,Q⟩
  ·let⟨v,e,r⟩:=E.sl j d z;show⟨v,e,r.same G⟩
 ·let⟨c,z⟩:=L h;let⟨q,e,b_,r'⟩:=E.ow j a' o z;show⟨q,e,b_,r'.keep G λ_ _ _ h=>h⟩
 ·let⟨c,z⟩:=L h;show⟨(E.no j a' o z b y).1,R (E.no j a' o z b y).2 (E.dj j k a' a o _ z M c b y)⟩
theorem FlsR.setA{vs:Y (Str×V)}{z:Y Addr}{f:Str}{p:Addr}{d:D}(h:FlsR K Φ H fs vs z)(j:fs.lookup f=Z (.al p))(r:Rp K Φ d (.ref p)):FlsR K Φ H (cM f (.v d) fs) vs z:=by
 induction h with
 |nil=>cases j
 |v E t o=>
  rename_i g C J u y x;rw[HN]at j
  cases c:f==g with
  |true=>rw[c]at j;cases j
  |false=>
   rw[c]at j;change FlsR K Φ H (if g=f then _ else _) _ _;rw[Hq λe=>by rw[e,Ia]at c;cases c];show .v E (o j)
 |l a1 a2 t o=>
  rename_i g C L I u y x;rw[HN]at j
  cases c:f==g with
  |true=>rw[c]at j;cases j
  |false=>
   rw[c]at j;change FlsR K Φ H (if g=f then _ else _) _ _;rw[Hq λe=>by rw[e,Ia]at c;cases c];show .l a1 a2 (o j)
 |al t o=>
  rename_i g G u y x;rw[HN]at j
  cases c:f==g with
  |true=>
   rw[c]at j;cases j;change FlsR K Φ H (if g=f then _ else _) _ _;rw[Hx (eq_of_beq c).symm];show .v r t
  |false=>
   rw[c]at j;change FlsR K Φ H (if g=f then _ else _) _ _;rw[Hq λe=>by rw[e,Ia]at c;cases c];show .al (o j)
theorem FlsR.newA{vs:Y (Str×V)}{G:Y Addr}{f:Str}{p:Addr}(h:FlsR K Φ H fs vs G)(o:fs.lookup f=Œ):FlsR K Φ H (cM f (.al p) fs) (cz f (.ref p) vs) G:=by
 have j:∀{g:Str}{y:Fl}{r:Y (Str×Fl)},List.lookup f ((g,y)::r)=Œ->g≠f/\r.lookup f=Œ:=λ{g y r} e=>by
  rw[HN]at e
  cases c:f==g with
  |true=>rw[c]at e;cases e
  |false=>rw[c]at e;show⟨(λz=>by rw[z,Ia]at c;cases c),e⟩
 induction h with
 |nil=>show .al .nil
 |v J t u=>
  rename_i g I N x E C;let⟨c,o⟩:=j o;change FlsR K Φ H (if g=f then _ else _) (if g=f then _ else _) _;rw[Hq c,Hq c];show .v J (u o)
 |l a1 a2 t u=>
  rename_i g I O M x E C;let⟨c,o⟩:=j o;change FlsR K Φ H (if g=f then _ else _) (if g=f then _ else _) _;rw[Hq c,Hq c];show .l a1 a2 (u o)
 |al t u=>
  rename_i g L x E C;let⟨c,o⟩:=j o;change FlsR K Φ H (if g=f then _ else _) (if g=f then _ else _) _;rw[Hq c,Hq c];show .al (u o)
theorem EnvM.seal{j:Nat}{p:Addr}{o f:Str}{l:Y (Str×Fl)}(E:EnvM K B Φ H F ρ)(g:Gr A B Φ H)(v:j≠k)(O:ρ[k]?=Z (Z (.ob (Z p) (.obj nm fs))))(M:eh fs=Z ds)(N:ρ[j]?=Z (Z (.ob a (.obj o l))))(P:l.lookup f=Z (.al p)) :
  ∃c,Gr A B c H/\EnvM K B c H F ((ρ.set k (Z (.v (.obj nm ds)))).set j (Z (.ob a (.obj o (cM f (.v (.obj nm ds)) l))))):=by
 let⟨w,E⟩:=E;let⟨X,c,U,J,be,g',a_,r⟩:=E.fzO g O M;cases J p S
 have h:(ρ.set k (Z (Sm.v (.obj nm ds))))[j]?=Z (Z (.ob a (.obj o l))):=by rw[HP (IE v)];show N
 let⟨q,G,_,R⟩:=r.ow j a _ h;let⟨C,T,vs,Q,I,x,y,z,nd⟩:=R.obj_inv;show⟨c,g',_,r.put h G (λb u e _=>e) (F':=q::Q) (.obj x y (z.setA P be) nd) λb L=>.inl (by rw[I];show L)⟩
end
section
variable{K:Â}{X:Cx}{e a:Ã}{es:Y Ã}{J:TX}{I:TD}{G:aM}{l L A N O p:Õ}{x y nm f m:Str}{C:Addr}{B:Y Ç}{t:bz}
noncomputable def BY(j k:Nat)(f:Str)(t:bz):bz:=λh ρ=>∃a p nm fs ds g c,ρ[k]?=Z (Z (.ob (Z p) (.obj nm fs)))/\eh fs=Z ds/\ρ[j]?=Z (Z (.ob a (.obj g c)))/\c.lookup f=Z (.al p)/\t h ((ρ.set k (Z (.v (.obj nm ds)))).set j (Z (.ob a (.obj g (cM f (.v (.obj nm ds)) c)))))
theorem wB(j k:Nat)(f:Str)(h:PSsM K X B t)(w:j≠k:=by decide):PSsM K X B (BY j k f t):=⟨λR=>(h.ps R).imp λE U H v=>by
 let⟨o,u,Φ,ρ,r,g,V,⟨a,p,nm,fs,ds,T,a_,F,M,P,Q,t⟩,k⟩:=v;let⟨c,g',z⟩:=V.seal g w F M P Q
 show⟨o,u,c,_,r,g',z,t,k⟩⟩
noncomputable def BM(i k:Nat)(nm f:Str):bz:=λc ρ=>∃a fs a' o,ρ[i]?=Z (Z (.ob a (.obj nm fs)))/\ρ[k]?=Z (Z (.ob a' o))/\fs.lookup f=Œ/\fs.length<1000/\∀p,(∀q,a'=Z q->q=p)->NF (cM f (.al p) fs) λg=>c.nx ((ρ.set k (Z (.ob (Z p) o))).set i (Z (.ob a (.obj nm g))))
theorem wm(i v:Nat)(c:Cls K C)(nA:NoAttr K C f)(hC:Ò K Á nm=Z (Z (.ref C)))(hN:X.N[i]?=Z x:=by rfl)(hv:cI X.env.scope x:=by nofun)(hd:ab x:=by decide)(L6:fI x:=by decide)
  (R:X.N[v]?=Z y:=by rfl) (U:cI X.env.scope y:=by nofun) (T:ab y:=by decide) (Tc:fI y:=by decide) (F:i≠v:=by decide)
  (hs:Ð (.Name y O) (Z (.Attribute (.Name x L) f N)) l.line X.env=pure ŕ:=by rfl):PSM K X (.Assign [.Attribute (.Name x L) f N] (.Name y O) l) (BM i v nm f):=
 ⟨λhK=>(oP (f:=f) (pv i hN hv hd L6) (pv v R U T Tc) hs).imp λE σ H LR=>by
  let⟨Φ0,H0,Φ,ρ,De,g,⟨P,V⟩,⟨a,fs,a',o,ho,be,hc,hl,t⟩,k⟩:=LR;let⟨p,e,_,ro⟩:=V.ow i a _ ho;let⟨q,M,QV,ro2⟩:=V.ow _ a' _ be;let⟨C',dx,vs,qs,eF,c1,c2,c3,nd⟩:=ro.obj_inv;rw[hC]at c1;cases c1
  have QX:p∈P i:=by rw[eF];show Ht
  have hH:∀b u,H b=Z u->b∉P i->am H p (.ins C dx (cz f (.ref q) vs)) b=Z u:=λb u e hn=>by
   rw[aS λz=>hn (by rw[z];show QX)];show e
  have a_:=nd;rw[HS]at a_;refine⟨_,M,_,e,p,C,dx,vs,S,c2,hK▸c,hK▸nA,by rw[c3.len];show hl,?_⟩;refine k.nx _ Φ _ σ (t q QV).get (V.grput g ho hH) ?_;have V2:=V.put ho e hH (F':=p::qs) (o':=.obj nm (cM f (.al q) fs)) (.obj hC bg ((c3.newA hc).keep (Same.refl _) λb b_ u hu=>by rw[aS (show b≠p from λz=>a_.1 (by rw[←z];show b_))];show hu) nd) λb b_=>.inl (by rw[eF];show b_)
  have Q:(ρ.set i (Z (Sm.ob a (.obj nm (cM f (.al q) fs)))))[v]?=Z (Z (Sm.ob a' o)):=by rw[HP F];show be
  rw[List.set_comm _ _ (IE F)];let⟨fz,len,sl,ow,no,dj,tb⟩:=V2;refine⟨λj=>if j=i then p::qs else P j,fz,by rw[Hs,len],λj d h=>?_,λj a1 r h=>?_,λj a1 r h=>?_,λj j2 a1 a2 r o2 hj SW=>?_,tb⟩
  ·rcases dX h with⟨_,_,z⟩|⟨_,z⟩
   ·cases z
   ·show sl j d z
  ·rcases dX h with⟨w,_,z⟩|⟨_,z⟩
   ·cases z;subst w;let⟨q',e',_,r'⟩:=ow _ a' _ Q;rw[M]at e';cases e';show⟨q,M,(λ_ z=>by cases z;rfl),r'⟩
   ·show ow j a1 r z
  ·rcases dX h with⟨w,_,z⟩|⟨_,z⟩
   ·cases z;subst w;show no _ a' _ Q
   ·show no j a1 r z
  ·have up:∀{j:Nat}{a1:œ Addr}{r:Om},((ρ.set i (Z (Sm.ob a (.obj nm (cM f (.al q) fs))))).set v (Z (Sm.ob (Z q) o)))[j]?=Z (Z (.ob a1 r))->∃a3,(ρ.set i (Z (Sm.ob a (.obj nm (cM f (.al q) fs)))))[j]?=Z (Z (.ob a3 r)):=λ{j a1 r} h=>by
    rcases dX h with⟨w,_,z⟩|⟨_,z⟩
    ·cases z;subst w;show⟨a',Q⟩
    ·show⟨a1,z⟩
   let⟨_,z1⟩:=up hj;let⟨_,z2⟩:=up SW
   show dj j j2 _ _ r o2 z1 z2⟩
noncomputable def Gp(t:TX):TX:=λρ R g=>t ρ (λs c=>match s with|.ob _ (.obj nm fs)=>(∃ds,eh fs=Z ds/\R (.v (.obj nm ds)) c)|_=>False) g
theorem rH(h:PX K X e J):PX K X e (Gp J):=⟨λa_=>(h.pe a_).imp λσ H Q M=>by
 let⟨u,z,Φ,τ,ρ,g,R,T,b_,t,k⟩:=M;refine⟨u,z,Φ,τ,ρ,g,_,T,b_,t,λs1 c Φ1 F v j o be=>?_⟩;split at j
 ·next a nm fs=>
  let⟨ds,hf,j⟩:=j;let⟨fp,E⟩:=o.E
  have P:(c++(g++[Z (Sm.ob a (.obj nm fs))]))[c.length+g.length]?=Z (Z (.ob a (.obj nm fs))):=by rw[←HF,Hl (by rw[Hm];omega),Hm,Ic];rfl
  let⟨p,r,_,_,_,g',sf,w⟩:=E.fzO o.g P hf
  have U:(c++(g++[Z (Sm.ob a (.obj nm fs))])).set (c.length+g.length) (Z (.v (.obj nm ds)))=c++(g++[Z (.v (.obj nm ds))]):=by rw[JX _ _ (),JX _ _ (),show c.length+g.length-c.length-g.length=0 by omega];rfl
  rw[U]at w;show k _ c r F v j ⟨g',o.l,⟨_,w⟩,o.x⟩ (be.trans sf)
 ·show j.elim⟩
structure MthD(P:Å)(w:È)(K:Â)(mg:Str->Option Value)(base:Heap)(n:Nat)(C:Addr)(m:Str)(ps:List Str)(z:cg):Prop where
 ex:∃(f:Addr)(fd:Ì),FnOk P w K mg base aD n f fd ps (lSp K z)/\Binds K fd ps []/\Meth K C m f
theorem sS{Φ:Hp}{g:Str}:∀{vs:Y (Str×V)}{fs:Y (Str×D)},vs.map (·.1)=fs.map (·.1)->fs.lookup g=Œ->vs.lookup g=Œ
 | [],_,_,_=>rfl
 |_::_,[],h,_=>by cases h
 |(x,v)::vs,(y,f)::fs,h,j=>by
  rw[HK,HK]at h;let⟨o,r⟩:=Kq h;have o:x=y:=o;subst o;rw[HN]at j ⊢
  cases c:g==x with
  |true=>rw[c]at j;cases j
  |false=>rw[c]at j;show sS (Φ:=Φ) r j
noncomputable def A9(nm m:Str)(z:cg)(I:TD)(G:aM):TD:=λρ R=>I ρ λx=>match x with|.obj QI fs=>QI=nm/\fs.lookup m=Œ/\G ρ λds=>z (.obj QI fs::ds) R|_=>False
theorem pL{n:Nat}{ps:Y Str}{z:cg}{pl:Sem Bool}(M:MthD X.prog X.w K X.mg X.base n C m ps z)(hr:Room n X.A)(c:Cls K C)(hC:Ò K Á nm=Z (Z (.ref C)))
  (hx:PD K X a I) (ha:PAD K X (e::es) G) (he:starEach (e::es) X.env=(ŕ,eval e X.env)::starEach es X.env) (Me:(backTo l (starEach es X.env)).any (·.1)=ŕ)
  (ht:eval (.Call (.Attribute a m A) (e::es) [] l) X.env=(do
   let ov ←eval a X.env
   standAt A.atName
   let (f,first) ←holding [ov] (getMethod ov m pl)
   callWith l f first (backTo l (starEach (e::es) X.env)) (ç l (Û [] X.env))):=by rfl) :
  PD K X (.Call (.Attribute a m A) (e::es) [] l) (A9 nm m z I G):=⟨λh=>by
 let⟨f,fd,F,b,hm⟩:=M.ex;refine (rA (dvs:=[]) (ds:=[]) (E:=E0) (pl:=pl) (hx.pe h) (h▸c) (h▸hm) (h▸F:FnOk X.prog X.w X.K X.mg X.base aD n f fd ps (lSp K z)) hr (h▸b) .nil je (ha.pa h) he Me ht).imp λσ H Q LR=>?_;let⟨U,Φ,ρ,R,E,t,k⟩:=LR;refine⟨U,Φ,ρ,_,E,t,λd j H1 v r g w=>?_⟩
 cases d with
 |obj QI fs=>
  let⟨rfl,hl,r⟩:=r;have P:=w
  cases w with
  |obj be h1 h2 h3=>
   rw[hC]at be;cases be;refine⟨_,_,_,S,g.s _ _ h1,sS (Φ:=j) h2 hl,U,j,ρ,_,E.gr g,r,λds T H2 vs r2 o rl _=>?_⟩;refine⟨T,_::ds,R,o.s,(E.tb.same g.f).same o.f,?_,r2,λd b_ H' v rd g' w=>k d b_ H' v rd ((g.trans o).trans g') w⟩;rw[Ii];refine⟨by rw[HD,HD,rl.1],λi u d a_ hd=>?_⟩
   cases i with
   |zero=>cases a_;cases hd;show P.same o.f
   |succ i=>show rl.2 i u d a_ hd
 |_=>show r.elim⟩
end
noncomputable def p8(K:Â)(a:Addr)(n:Nat):It:=
 ⟨λi H=>i<n/\∃xs,SqL K H a xs/\xs.length=n,λi H x c=>c=H/\∀xs,SqL K H a xs->xs[n-1-i]?=Z x,λi H=>i=n⟩
theorem A4{P:Å}{w:È}{K:Â}{tg:Ã}(a j:Addr)(n:Nat):Turn P w K tg (p8 K a n) [j] j (λi h=>h.IsRevIter j a ((n:Int)-1-(i:Int))) where
 mem:=by simp
 obj:=λi h st b g=>by
  have e:b=j:=by simpa using g
  subst e;let⟨o,e,c,d⟩:=st;show⟨o,e,λv z=>by rw[d]at z;cases z⟩
 keep:=λi h h' st k=>st.at λo e=>k j (by simp) o e
 item:=by
  intro X M N L O i f s b_ H E I r st l;subst M N L;let⟨hi,xs,Q,hn⟩:=l;let⟨LS,rv,p,hz⟩:=I.list Q;have R:xs[n-1-i]?=Z (xs[n-1-i]'()):=IC ();let⟨u,hu,ru⟩:=rv.get R;let⟨B,C,a_,F,G,J⟩:=r j (by simp)
  have A:(n:Int)-1-(i:Int)=((n-1-i:Nat):Int):=by omega
  have U:((n-1-i:Nat):Int)-1=(n:Int)-1-((i+1:Nat):Int):=by omega
  have de:=st;rw[A]at de;refine wpAny_pyNext_rev_item de p.isList (x:=u) (by simpa using hu) λh' y sb=>?_;rw[U]at y;have T:Inv X f b_ H { s with heap:=h' }:=I.turned (t':=s.toks) (λb o g e=>(sb.2 b g).trans e) B C F G J;let⟨o,e,c,d⟩:=id y;show⟨u,S,mL (s:={ s with heap:=h' }) e c d 'b' ⟨_,H,T,ru,⟨S,λys hy=>by rw[I.list_inj hy Q];show R⟩,y,λb g=>(r b g).1⟩⟩
 done:=by
  intro X M N L O i f s b_ H E I r st l;subst M N L;have l:i=n:=l;subst l;let⟨B,C,a_,F,G,J⟩:=r j (by simp)
  have A:(i:Int)-1-(i:Int) = -1:=by omega
  rw[A]at st;show wpAny_pyNext_rev_end (I.ok.hd O) st λh' be=>⟨S,I.turned (t':=s.toks) (λb o g e=>be b o g e) B C F G J⟩
 self:=λ_ _ _ _ _ st h=>ĭ st h
section
variable{K:Â}{X:Cx}{f a:Ã}{c p:Õ}
noncomputable def tK(K:Â)(g:TA):TI:=λh H R=>g h H λvs e=>∃l xs,vs=[.ref l]/\SqL K e l xs/\R (p8 K l xs.length) e
theorem yd{x:TA}(C:Gl X "reversed")(E:X.mg "reversed"=Œ)(A:PA X [a] x)(G:starEach [a] X.env=[(ŕ,eval a X.env)]):PI X f (.Call (.Name "reversed" p) [a] [] c) (tK X.K x):=by
 intro j s N H R I h;refine Call_ (hZ I C E boot_reversed (IF (ax (A c j s N H _ I h) λus g z=>?_) G S));let⟨vs,y,u,L,J⟩:=z;let⟨l,xs,e,F,q⟩:=J;subst e
 cases L with
 |cons r rr=>
  cases rr;cases r;let⟨v,M,p,O⟩:=u.list F;refine call_reversed_list p.isList ?_;have w:(g.heap.push (revObj l ((v.toArray.size:Int)-1))).IsRevIter g.heap.objs.size l ((v.toArray.size:Int)-1):=⟨_,HC _ S,S,S⟩;refine ĭ (s:={ g with heap:=g.heap.push (revObj l ((v.toArray.size:Int)-1)) }) w ?_;refine⟨g.heap.objs.size,[g.heap.objs.size],_,_,y,S,u.kept (t':=g.toks) λb o e=>Ho _ e,A4 l _ xs.length,?_,λb B=>?_,q⟩
  ·have e:((v.toArray.size:Nat):Int)-1=(xs.length:Int)-1-((0:Nat):Int):=by rw[HB,←M.length];omega
   rw[e]at w;rw[e];show w
  ·have e:b=g.heap.objs.size:=by simpa using B
   subst e;show u.fpOk (Hr _) (u.hok.fresh (Hr _))
theorem Cz{e:TA}(h:X.K=K)(j:Gl X "reversed")(l:X.mg "reversed"=Œ)(g:PA X [a] e)(o:starEach [a] X.env=[(ŕ,eval a X.env)]):PI X f (.Call (.Name "reversed" p) [a] [] c) (tK K e):=h▸yd j l g o
theorem xl{Φ:Hp}{ds:Y D}{vs:Y V}{l:Addr}(h:SqL K Φ l vs)(r:RpL K Φ ds vs):SteadyD K (p8 K l vs.length) Φ ds.reverse:=
 ⟨λi H s g=>⟨by rw[r.1];simpa using g,vs,s.seq h,S⟩,λi j H x u d o s hd y=>by
  let⟨e,y⟩:=y;subst e
  have g:i<ds.length:=by have:=aB hd;simpa using this
  rw[List.getElem?_reverse g]at hd;have:=y vs ((o.trans s).seq h);rw[r.1]at this
  show⟨j,.refl s,(r.2 _ x d this hd).same o⟩,λH s=>by
  change ds.reverse.length=vs.length
  rw[KU,r.1]⟩
noncomputable def Cm(t:aM):aM:=λρ R=>t ρ λds=>match ds with| [d]=>(match d with|.lst xs=>R xs.reverse|_=>False)|_=>False
theorem Ag{t:aM}(z:Gl X "reversed")(A:X.mg "reversed"=Œ)(h:PAD K X [a] t)(B:starEach [a] X.env=[(ŕ,eval a X.env)]:=by rfl):PID K X f (.Call (.Name "reversed" p) [a] [] c) (Cm t):=⟨λl=>(Cz l z A (h.pa l) B).imp λG H F w=>by
 let⟨o,Φ,ρ,R,E,t,k⟩:=w
 show⟨o,Φ,ρ,_,E,t,λds e u vs r g rl hn=>by
  match ds,r with
  | [],r=>show r.elim
  |_::_::_,r=>show r.elim
  | [d],r=>
   let⟨v,rfl,C⟩:=rl.one_inv
   cases d with
   |lst xs=>
    cases C with
    |lst j x y=>show⟨_,_,S,.of (g.s _ _ j),k _ e u _ r g (xl (.of j) ⟨x,y⟩)⟩
   |_=>show r.elim⟩⟩
end
section
variable{P:Å}{w:È}{K:Â}{mg:Str->œ Value}{base:Heap}{n m:Nat}{C:Addr}{x:Str}{ps:Y Str}
theorem MthM.mono{z:dI}(M:MthM P w K mg base n C x ps z)(k:n<=m:=by decide):MthM P w K mg base m C x ps z:=by let⟨f,a,F,r⟩:=M.ex;show⟨f,a,F.mono k,r⟩
theorem MkM.mono{z:dI}(M:MkM P w K mg base n C ps z)(k:n<=m:=by decide):MkM P w K mg base m C ps z:=by let⟨f,a,F,r⟩:=M.ex;show⟨f,a,F.mono k,r⟩
theorem MthD.mono{z:cg}(M:MthD P w K mg base n C x ps z)(k:n<=m:=by decide):MthD P w K mg base m C x ps z:=by let⟨f,a,F,r⟩:=M.ex;show⟨f,a,F.mono k,r⟩
end
section
variable{K:Â}{X:Cx}{l a e:Ã}{c:Y Ã}{scope:â}{f z A:Õ}{N':Y Str}{cap:Y (œ Nat)}{j:aM}{g:cR}{u:b9}{o:TD}{i:Nat}{y:Str}{C:Addr}
theorem Co{tf:aM}{E:Ends}{B:St}{H:Hp}(x:∀{B:St}{H:Hp}{Q:VK},lF K tf B H Q->gz (lI K j) cap (lG K g) (lT K u) (lE K o) B H Q)(h:lM K X (kN i (n5 tf)) E B H):iP (gz (lI K j) cap (lG K g) (lT K u) (lE K o)) (iQ i) E B H:=by
 let⟨be,L,Φ,ρ,a_,gg,V,t,U⟩:=h;let⟨fp,G⟩:=id V;refine x ⟨L,_,ei ρ,_,G.view,t,λds F M p vs r I b_ hn R rl=>?_⟩;have g':=iW G.fz I;have J:=view_same.trans I.f
 have N:fv Φ F p=Œ:=by
  unfold fv
  cases O:Φ p with
  |some w=>rw[J _ _ O]at hn;cases hn
  |none=>simp only;rw[hn]
 show U.nx _ _ M _ r.2 (gg.trans g') ((V.snocO gg.h g' (.lst R ⟨rl.1,λi v d T hd=>(rl.2 i v d T hd).thawN J (r.1 d (Hu hd))⟩) λb P=>by rw[Hw.mp P];show⟨b_,N⟩).store i)
theorem Fu{k:Nat}(B:X.calm=Ŕ)(G:X.N.Nodup)(Q:X.N[i]?=Z y)(P:dA X.env.scope y)(U:CompScope X.N X.env.scope scope N' cap)(E:fP k cap=Ŕ)(M:GM k g)(L:PID K X l a j)
  (J:∀(cl:Y (Str×Addr))(r:Y Addr)(C:Addr)(v:À)(p:Hp),PGD K (bH X scope N' cl C v p r) l g) (O:∀(cl:Y (Str×Addr))(r:Y Addr)(C:Addr)(v:À)(p:Hp),PIfD K (bH X scope N' cl C v p r) c u)
  (H:∀(cl:Y (Str×Addr))(r:Y Addr)(C:Addr)(v:À)(p:Hp),PD K (bH X scope N' cl C v p r) e o) (F:Ð (.ListComp e [⟨l,a,c,0⟩] scope f) (Z (.Name y z)) A.line X.env=pure Ŕ:=by rfl)
  (N:∀x,Ë a X.env x=pure x:=by intro _;rfl) (I:X.fn y=Ŕ\/X.env.scope.names.lookup y=Z .local:=by nofun) :
  PSM K X (.Assign [.Name y z] (.ListComp e [⟨l,a,c,0⟩] scope f) A) (kN i (n5 (mB j cap g u o))):=
 ⟨λw=>(lv B G Q P U (L.pi w) (λcl r C v p=>(J cl r C v p).pg w) (λcl r C v p=>(O cl r C v p).p w) (λcl r C v p=>(H cl r C v p).pe w) F N I).imp λ_ _ _ h=>Co (λq=>pc E M q) h⟩
end
section
variable{K:Â}{X:Cx}{a b:Ã}{f p A B:Õ}{z:aM}
noncomputable def zS(e:TA):TE:=λg H Q=>e g H λvs c=>∃i j:Int,vs=[.int i,.int j]/\∀r,c r=Œ->Q (.ref r) (am c r (.rng i j))
theorem D9{v:TA}(y:Gl X "range")(C:X.mg "range"=Œ)(x:PA X [a,b] v)(E:starEach [a,b] X.env=[(ŕ,eval a X.env),(ŕ,eval b X.env)]:=by rfl)(u:starEach [b] X.env=[(ŕ,eval b X.env)]:=by rfl):PE X (.Call (.Name "range" p) [a,b] [] f) (zS v):=by
 intro c s L H R I h;refine Call_ (hZ I y C boot_range (IF (ax (x f c s L H _ I h) λus g w=>?_) (by rw[E,u]) (by rw[u];rfl)));let⟨vs,M,l,G,F⟩:=w;let⟨i,j,e,q⟩:=F;subst e
 cases G with
 |cons r rr=>
  cases rr with
  |cons J rr=>
   cases rr;let⟨t,rfl⟩:=r;let⟨N,rfl⟩:=J;refine call_range_2 ⟨.ref g.heap.objs.size,_,l.laid (a:=g.heap.objs.size) (o:=.rng i j) (t':=g.toks+1) (λb o e=>Ho _ e) (Hr _) ⟨_,_,_,HC _ S⟩,S,q _ (l.hok.fresh (Hr _))⟩
noncomputable def gp(lo:Int)(n:Nat):Y V:=(List.range n).map λi=>V.int (lo+(i:Nat))
theorem lb(lo:Int)(n:Nat):(gp lo n).length=n:=by unfold gp;simp
theorem qX{lo:Int}{n i:Nat}{v:V}(h:(gp lo n)[i]?=Z v):v=.int (lo+(i:Nat)):=by
 have c:i<n:=by have:=aB h;rwa [lb]at this
 unfold gp at h;rw[Hy,Jr c]at h;cases h;rfl
theorem B4{Φ:Hp}(lo:Int)(n:Nat):RpL K Φ (cp lo n) (gp lo n):=⟨by rw[lb,fm],λi v d c hd=>by
 rw[qX c,(gQ hd).2]
 show .int _⟩
theorem Bh(G:X.calm=Ŕ):dB X (.type "list") (λxs H Q=>∃p i j,xs=[.ref p]/\H p=Z (.rng i j)/\(-(2^62)<=i/\i<2^62/\-(2^62)<=j/\j<2^62)/\j-i<=1000/\∀l,H l=Œ->Q (.ref l) (am H l (.lst (gp i (j-i).toNat)))):=by
 intro w s be H xs us Q I r h;let⟨p,i,j,rfl,L,⟨P,R,b_,T⟩,a_,q⟩:=h;let⟨u,rfl,U⟩:=gI r;cases U;let⟨t,u,v,ho⟩:=(show ObjOk X.prog X.w H s.heap p (.rng i j)from I.hok p _ L)
 have hn:Builtin.Range.rangeSize i j 1=((j-i).toNat:Int):=by rw[K6];split<;>omega
 refine Ő (I.ok.hd G) ho (Ę P R b_ T) hn () λh' E g c kp J C=>?_
 have M:Vals (gp i (j-i).toNat) g.toList:=mT (by rw[lb,IK,C.1]) λk x y N O=>by rw[qX N];let⟨t,rfl⟩:=C.2 k y (by simpa using O);show⟨t,by simp⟩
 have F:Inv X w be (am H s.heap.objs.size (.lst (gp i (j-i).toNat))) { s with heap:=h',toks:=E }:=
  I.laid (t':=E) (λb o e=>kp b o e) (Hr _) (show ObjOk X.prog X.w _ _ _ (.lst (gp i (j-i).toNat))from ⟨by rw[lb,JT];omega,g.toList,c,M,by simpa using J⟩)
 show⟨.ref s.heap.objs.size,_,F,S,q _ (I.hok.fresh (Hr _))⟩
noncomputable def yf(t:aM):aM:=λρ R=>t ρ λds=>match ds with| [.int i,.int j]=>((-(2^62)<=i/\i<2^62/\-(2^62)<=j/\j<2^62)/\j-i<=1000)/\R (cp i (j-i).toNat)|_=>False
theorem BD(u:X.calm=Ŕ)(J:Gl X "list")(G:X.mg "list"=Œ)(F:Gl X "range")(I:X.mg "range"=Œ)(O:PAD K X [a,b] z)(P:starEach [a,b] X.env=[(ŕ,eval a X.env),(ŕ,eval b X.env)]:=by rfl)(C:starEach [b] X.env=[(ŕ,eval b X.env)]:=by rfl) :
  PF K X (.Call (.Name "list" p) [.Call (.Name "range" A) [a,b] [] B] [] f) (yf z):=
 ⟨λN=>(jc (Bh u) J G Ĝ (eN (D9 F I (O.pa N) P C) pa_nil bj) 'b' 'b' bj ae).imp λa_ H Q x=>by
  let⟨h,Φ,ρ,R,E,t,k⟩:=x
  show⟨h,Φ,ρ,_,E,t,λds be o vs r g rl _=>by
   match ds,r with
   | [.int i,.int j],r=>
    let⟨v,w,rfl,T,U⟩:=rl.two_inv;obtain rfl:=T.i;obtain rfl:=U.i;refine⟨i,j,S,λb_ L=>⟨b_,i,j,S,bg,r.1.1,r.1.2,λl e=>?_⟩⟩;have c:=Gr.fresh g.s L (.rng i j);have M:=Gr.fresh c.s e (.lst (gp i (j-i).toNat));have y:o l=Œ:=c.h.free e
    show k _ _ _ l _ r.2 ((g.trans c).trans M) (g.h.free y) (c.s.free e) bg (B4 _ _)⟩⟩
end
section
variable{K:Â}{X:Cx}
noncomputable def CL:cK:=λx y R=>match x with
 |.int i=>(match y with|.int j=>R (.bl (i==j))|.non=>R (.bl ŕ)|_=>False)
 |_=>False
theorem A3(z:X.A.units+64<å):OpD K X (É .Eq) CL:=⟨λw c s A H x y u v Q I o e f=>by
 let⟨Φ,r,g,R,sm,l,a,h,k⟩:=f;let⟨i,rfl,h⟩:=ix h;cases l.int;let⟨t,rfl⟩:=o
 cases g with
 |int j=>
  cases a.int;let⟨p,rfl⟩:=e;show (PySem.SeqAt.RcAt.int_int i t j p) X.prog X.w _ _ ⟨.bl (i==j),H,I,S,k _ Φ H _ h (.refl sm) (.bl _)⟩
 |non=>
  cases a.non;cases e;show (PySem.SeqAt.RcAt.int_none i t) X.prog X.w _ _ ⟨.bl ŕ,H,I,S,k _ Φ H _ h (.refl sm) (.bl _)⟩
 |_=>show h.elim⟩
end
section
variable{K:Â}{X:Cx}{e:Ã}{c:TD}{f h:Õ}{x:Str}
noncomputable def GB(i:Nat)(c:TD):TX:=λρ R _=>ownT ρ i λ_ _=>c (dw ρ) λd=>∃a:Y av,d=.tup (a.map gk)/\ownT ρ i λ_ g=>∃y,bw g a=Z y/\R (.v y) ρ
theorem yw(i:Nat)(hu:X.A.units+64<å)(L:PD K X e c)(O:pS e)(J:X.N[i]?=Z x:=by rfl)(P:cI X.env.scope x:=by nofun)(hd:ab x:=by decide)(C:fI x:=by decide) :
  PX K X (.Subscript (.Name x h) e f) (GB i c):=
 ⟨λI=>(wj () (pv i J P hd C) (L.pe I) O).imp λσ H Q E=>by
  let⟨a_,A,Φ,τ,ρ,κ,R,Rx,b_,t,k⟩:=E;let⟨a,LV,ho,t⟩:=ownT.get t;let⟨q,ws,F,N,l,_⟩:=b_.env.dictT b_.g ho;refine⟨_,F,A,Φ,dw ρ,_,b_.env.toD,t,λd o B v r g be=>?_⟩;let⟨T,rfl,r⟩:=r;let⟨a2,S7,u,y,z,r⟩:=ownT.get r;rw[ho]at u;cases u;let⟨p,rfl,M⟩:=pX be;rcases oE l T with⟨j,_⟩|⟨d,w,j,G,U⟩
  ·rw[z]at j;cases j
  ·rw[z]at j;cases j
   refine⟨q,w,S,by rw[←G];show DGet.t (g.h _ _ N) (g.s _ _ M),k _ ρ o B w r ((b_.gr g).pushV (U.same g.f)) g.f⟩⟩
end
section
variable{K:Â}{w H A Φ u:Hp}{f:St}{ρ:af}{l:Nat->Y Addr}{p q:Addr}{i k:Nat}
theorem EnvM.noadr{a:œ Addr}{o:Om}(E:EnvM K w Φ H f ρ)(F:ρ[i]?=Z (Z (.ob a o))):EnvM K w Φ H f (ρ.set i (Z (.ob Œ o))):=by
 let⟨l,E⟩:=E
 have B:∀{m:Nat}{x:Sm},(ρ.set i (Z (Sm.ob Œ o)))[m]?=Z (Z x)->(m=i/\x=.ob Œ o)\/(m≠i/\ρ[m]?=Z (Z x)):=λ{m x} h=>by
  rcases dX h with⟨e,_,C⟩|⟨e,h⟩
  ·cases C;show .inl ⟨e,S⟩
  ·show .inr ⟨e,h⟩
 have g:∀{m:Nat}{c:œ Addr}{j:Om},(ρ.set i (Z (Sm.ob Œ o)))[m]?=Z (Z (.ob c j))->∃y,ρ[m]?=Z (Z (.ob y j)):=λ{m c j} h=>by
  rcases B h with⟨z,v⟩|⟨_,v⟩
  ·cases v;show⟨_,by rw[z];show F⟩
  ·show⟨_,v⟩
 refine⟨l,E.fz,by rw[Hs,E.len],λm d h=>?_,λm c j h=>?_,λm c j h=>?_,λm k c y j G N M=>?_,E.tb⟩
 ·rcases B h with⟨_,h⟩|⟨_,h⟩
  ·cases h
  ·show E.sl m d h
 ·rcases B h with⟨z,v⟩|⟨_,v⟩
  ·cases v;let⟨p,e,_,r⟩:=E.ow i a o F;show⟨p,by rw[z];show e,(λq e=>by cases e),by rw[z];show r⟩
  ·show E.ow m c j v
 ·let⟨y,h'⟩:=g h;show E.no m y j h'
 ·let⟨C,J⟩:=g N;let⟨I,L⟩:=g M;show E.dj m k C I j G J L
theorem EnvM.outT{ps:Y (Addr×œ (Y D))}{ds:Y D}{v:V}(E:EnvM K w Φ H (f++[Z v]) (ρ++[Z (.ob Œ (.tl ps))]))(i:Nat)(c:i<ρ.length)(h:ps[k]?=Z (q,Z ds)) :
  EnvM K w Φ H (f.set i (Z (.ref q))++[Z v]) (ρ.set i (Z (.own ds))++[Z (.ob Œ (.tl (ps.set k (q,Œ))))]):=by
 have r:f.length=ρ.length:=by have:=E.len;simpa using this
 have e:=(E.pnt i q).opn (i:=i) (j:=ρ.length) (k:=k) (a':=Œ) (ps:=ps) (q:=q) (ds:=ds) ()
  (by rw[HV (by rw[Hm];omega)]) (by rw[HP (),Hl (Hr _),Ic];rfl) h
 rw[Jn _ _ (),Jn _ _ c,Jn _ _ (by rw[Hs];show c),JX _ _ (by rw[Hs,Hs];show Hr _),List.set_set,Hs,Ic]at e;have g:=e.noadr (i:=i) (a:=Z q) (o:=.lst ds) (by rw[Hk (by rw[Hs];show c),HV c]);rw[Jn _ _ (by rw[Hs];show c),List.set_set]at g;show g
theorem EnvM.gath{v1 v2 v3:V}{G I J:Y D}(E:EnvM K w Φ H (f++[Z v1,Z v2,Z v3]) (ρ++[Z (.own G),Z (.own I),Z (.own J)]))(X:ρ.length=f.length)(g:Gr Φ H u A)(hp:u p=Z (.tup [v1,v2,v3])) :
  ∃a o B,EnvM K w u A (f++[Z (.ref p)]) (ρ++[Z (.ob Œ (.tl [(a,Z G),(o,Z I),(B,Z J)]))]):=by
 let⟨l,E⟩:=E.gr g
 have P:(ρ++[Z (Sm.own G),Z (.own I),Z (.own J)])[ρ.length]?=Z (Z (.ob Œ (.lst G))):=by rw[Hl (Hr _),Ic];rfl
 have Q:(ρ++[Z (Sm.own G),Z (.own I),Z (.own J)])[ρ.length+1]?=Z (Z (.ob Œ (.lst I))):=by rw[Hl (),IU];rfl
 have R:(ρ++[Z (Sm.own G),Z (.own I),Z (.own J)])[ρ.length+2]?=Z (Z (.ob Œ (.lst J))):=by rw[Hl (),IU];rfl
 let⟨a,e1,_,r1⟩:=E.ow _ _ _ P;let⟨o,e2,_,r2⟩:=E.ow _ _ _ Q;let⟨B,e3,_,r3⟩:=E.ow _ _ _ R;rw[X,Hl (Hr _),Ic]at e1;rw[X,Hl (),IU]at e2 e3;cases e1;cases e2;cases e3;let⟨f1,w1,a1,b1⟩:=r1.lst_inv;let⟨f2,w2,a2,b2⟩:=r2.lst_inv;let⟨f3,w3,a3,b3⟩:=r3.lst_inv;have n12:a≠o:=λe=>E.dj _ _ _ _ _ _ P Q () a (by rw[f1];show Hw.mpr S) (by rw[f2,e];show Hw.mpr S);have n13:a≠B:=λe=>E.dj _ _ _ _ _ _ P R () a (by rw[f1];show Hw.mpr S) (by rw[f3,e];show Hw.mpr S);have n23:o≠B:=λe=>E.dj _ _ _ _ _ _ Q R () o (by rw[f2];show Hw.mpr S) (by rw[f3,e];show Hw.mpr S)
 have QY:∀b∈[a,o,B],b∈l ρ.length\/b∈l (ρ.length+1)\/b∈l (ρ.length+2):=λb L=>by rw[f1,f2,f3];simpa using L
 have M:∀{m:Nat}{x:Sm},(ρ++[Z (Sm.ob Œ (.tl [(a,Z G),(o,Z I),(B,Z J)]))])[m]?=Z (Z x)->(m<ρ.length/\ρ[m]?=Z (Z x))\/(m=ρ.length/\x=.ob Œ (.tl [(a,Z G),(o,Z I),(B,Z J)])):=λ{m x} h=>by
  rcases Ik m ρ.length with c|c
  ·rw[Hk c]at h;show .inl ⟨c,h⟩
  ·rw[Hl c]at h
   cases e:m-ρ.length with
   |zero=>rw[e]at h;cases h;show .inr ⟨(),S⟩
   |succ n=>rw[e]at h;cases h
 have up:∀{m:Nat}{x:Sm},ρ[m]?=Z (Z x)->(ρ++[Z (Sm.own G),Z (.own I),Z (.own J)])[m]?=Z (Z x):=λ{m x} h=>by rw[Hk (aB h)];show h
 have dn:∀{m:Nat}{y:œ V},m<ρ.length->(f++[Z (V.ref a),Z (.ref o),Z (.ref B)])[m]?=Z y->(f++[Z (V.ref p)])[m]?=Z y:=λ{m y} c e=>by rw[Hk ()]at e ⊢;show e
 refine⟨a,o,B,λm=>if m=ρ.length then [a,o,B] else l m,E.fz,by rw[Hm,Hm,X];rfl,λm d h=>?_,λm c F h=>?_,λm c F h b L=>?_,λm n c c' F NQ hm hn hc b L L8=>?_,E.tb⟩
 ·rcases M h with⟨c,j⟩|⟨_,j⟩
  ·let⟨v,e,r⟩:=E.sl m d (up j);show⟨v,dn c e,r⟩
  ·cases j
 ·rcases M h with⟨C,j⟩|⟨C,j⟩
  ·let⟨v,e,ha,r⟩:=E.ow m c F (up j);show⟨v,dn C e,ha,by rw[Hq ()];show r⟩
  ·cases j;refine⟨p,by rw[C,X,Hl (Hr _),Ic];rfl,(λ_ z=>by cases z),?_⟩;rw[Hx C];show .tl hp (.own a1 b1 (.own a2 b2 (.own a3 b3 .nil))) (by simp[n12,n13,n23])
 ·rcases M h with⟨C,j⟩|⟨C,j⟩
  ·rw[Hq ()]at L;show E.no m c F (up j) b L
  ·rw[Hx C]at L;rcases QY b L with h|h|h
   ·show E.no _ _ _ P b h
   ·show E.no _ _ _ Q b h
   ·show E.no _ _ _ R b h
 ·have U:b∈(if m=ρ.length then [a,o,B] else l m):=L;have N:b∈(if n=ρ.length then [a,o,B] else l n):=L8
  have T:∀(be:Nat)(c:œ Addr)(F:Om),be<ρ.length->ρ[be]?=Z (Z (.ob c F))->b∈l be->b∈[a,o,B]->False:=λbe c F Pd a_ hx hy=>by
   rcases QY b hy with h|h|h
   ·show E.dj _ _ _ _ _ _ (up a_) P () b hx h
   ·show E.dj _ _ _ _ _ _ (up a_) Q () b hx h
   ·show E.dj _ _ _ _ _ _ (up a_) R () b hx h
  rcases M hm with⟨C,j⟩|⟨C,j⟩
  ·rw[Hq ()]at U;rcases M hn with⟨O,b_⟩|⟨O,b_⟩
   ·rw[Hq ()]at N;show E.dj m n c c' F NQ (up j) (up b_) hc b U N
   ·rw[Hx O]at N;show T m c F C j U N
  ·rw[Hx C]at U;rcases M hn with⟨O,b_⟩|⟨O,b_⟩
   ·rw[Hq ()]at N;show T n c' NQ O b_ N U
   ·omega
end
section
variable{K:Â}{X:Cx}{e a b:Ã}{es:Y Ã}{w y tb:TX}{A:cT}{f u o j z:Õ}
noncomputable def xO(A:cT):TX:=λρ R p=>A ρ (λas c=>∃g h l,as=[.t (.own g),.t (.own h),.t (.own l)]/\∀r v x,R (.ob Œ (.tl [(r,Z g),(v,Z h),(x,Z l)])) c) p
theorem C5{k:Nat}(h:PXA K X es A)(Nq:Nat.ble es.length 1000=Ŕ:=by rfl):PX K X (.Tuple es k f) (xO A):=
 ⟨λbe=>(p7 (h.pa be)).imp λσ H Q P=>by
  let⟨x,I,Φ,F,ρ,C,R,T,b_,t,k⟩:=P;refine⟨x,I,Φ,F,ρ,C,_,T,b_,t,λas v B O vs ts r1 hl c l U=>?_⟩;let⟨z1,z2,z3,rfl,r⟩:=r1
  cases c with|t c=>cases c with|t c=>cases c with|t c=>
  cases c;rename_i J L M;refine⟨by rw[JT];change 3<=16777216;decide,λp a_=>?_⟩;have g:=Gr.new l.g.s a_ (.tup [J,L,M]);have lk:C.length=F.length:=b_.lk;have l2:=l.l;have E:=l.E
  have N:EnvM K I B O ((σ++F)++[Z J,Z L,Z M]) ((v++C)++[Z (.own z1),Z (.own z2),Z (.own z3)]):=by rw[HF,HF];show E
  let⟨q1,q2,q3,G⟩:=N.gath (p:=p) (by rw[Hm,Hm];omega) g bg;rw[HF,HF]at G
  show k _ v _ _ _ (r q1 q2 q3) ⟨l.g.trans g,l2,G,l.x⟩ (U.trans g.f)⟩
noncomputable def AG(h l p:Nat)(w:TX):bz:=λg ρ=>w ρ (λs c=>∃B C E r v x,s=.ob Œ (.tl [(B,Z r),(C,Z v),(E,Z x)])/\(h<c.length/\l<c.length/\p<c.length)/\g.nx (((c.set h (Z (.own r))).set l (Z (.own v))).set p (Z (.own x)))) g.ex
theorem zc{k:Nat}{n1 n2 n3:Str}(B C F:Nat)(hc:X.calm=Ŕ)(x:X.N.Nodup)(h1:X.N[B]?=Z n1)(h2:X.N[C]?=Z n2)(h3:X.N[F]?=Z n3)(l1:dA X.env.scope n1)(l2:dA X.env.scope n2)(l3:dA X.env.scope n3)(he:PX K X e w)
  (f1:X.fn n1=Ŕ\/X.env.scope.names.lookup n1=Z .local:=by nofun) (f2:X.fn n2=Ŕ\/X.env.scope.names.lookup n2=Z .local:=by nofun) (f3:X.fn n3=Ŕ\/X.env.scope.names.lookup n3=Z .local:=by nofun)
  (hs:Ö [.Tuple [.Name n1 u,.Name n2 o,.Name n3 j] k z] e f.line X.env=pure ŕ:=by rfl) (hw:Ø [.Tuple [.Name n1 u,.Name n2 o,.Name n3 j] k z] e X.env=pure Œ:=by rfl)
  (ha:(Æ [.Tuple [.Name n1 u,.Name n2 o,.Name n3 j] k z] X.env).map (·.2)=[assign (.Tuple [.Name n1 u,.Name n2 o,.Name n3 j] k z) X.env]:=by rfl)
  (c1:(Æ [.Name n1 u,.Name n2 o,.Name n3 j] X.env).map (·.2)=assign (.Name n1 u) X.env::(Æ [.Name n2 o,.Name n3 j] X.env).map (·.2):=by rfl) (c2:(Æ [.Name n2 o,.Name n3 j] X.env).map (·.2)=assign (.Name n2 o) X.env::(Æ [.Name n3 j] X.env).map (·.2):=by rfl) (c3:(Æ [.Name n3 j] X.env).map (·.2)=assign (.Name n3 j) X.env::(Æ [] X.env).map (·.2):=by rfl)
  (hn:(Æ [.Name n1 u,.Name n2 o,.Name n3 j] X.env).length=3:=by rfl) (Mn:(Æ [.Name n1 u,.Name n2 o,.Name n3 j] X.env).findIdx? (·.1)=Œ:=by rfl) :
  PSM K X (.Assign [.Tuple [.Name n1 u,.Name n2 o,.Name n3 j] k z] e f) (AG B C F w):=
 ⟨λhK=>(jO (he.pe hK) (vf hc (ky (j6 x h1 l1 f1) (ky (j6 x h2 l2 f2) (ky (j6 x h3 l3 f3) pgs_nil c3) c2) c1) hn Mn) hs hw ha).imp λE σ H LR=>by
  let⟨G,J,Φ,ρ,T,g,V,t,k⟩:=LR;refine⟨G,J,Φ,[],ρ,[],_,T.ex,de g V k.ex,t,λs l h L v r p _=>?_⟩;let⟨N,O,P,Q,R,b_,rfl,⟨y1,y2,y3⟩,r⟩:=r;have I:EnvM K J h L (σ++[Z v]) (l++[Z (.ob Œ (.tl [(N,Z Q),(O,Z R),(P,Z b_)]))]):=p.E;have M:=p.l;let⟨fp,c⟩:=id I;let⟨tp,s,_,rr⟩:=c.ow l.length Œ _ (by rw[Hl (Hr _),Ic];rfl);rw[M,Hl (Hr _),Ic]at s;cases s;let⟨hp,_,_⟩:=rr.tl_inv;have U:=I.outT B y1 (k:=0) (q:=N) (ds:=Q) S;have be:=U.outT C (by rw[Hs];show y2) (k:=1) (q:=O) (ds:=R) S;have a_:=be.outT F (by rw[Hs,Hs];show y3) (k:=2) (q:=P) (ds:=b_) S;refine⟨tp,_,S,SqT.of (c.fz _ _ hp),S,_,_,S,_,_,S,_,_,S,S,?_⟩
  show k.nx _ h L _ r p.g (a_.take (by rw[Hs,Hs,Hs,Hs,Hs,Hs];show M))⟩
noncomputable def Fw(t:TX):TX:=λρ R g=>t ρ (xV λd c=>∃ds,eW d=Z ds/\R (.own ds) c) g
theorem BE{p:Õ}(T:Gl X "list")(U:X.mg "list"=Œ)(O:PX K X e w)(F:starEach [e] X.env=(ŕ,eval e X.env)::starEach [] X.env):PX K X (.Call (.Name "list" p) [e] [] f) (Fw w):=
 ⟨λE=>(jc rX T U Ĝ (eN (O.pe E) pa_nil F) 'b' 'b' F ae).imp λσ H Q J=>by
  let⟨h,G,Φ,τ,ρ,κ,R,L,b_,t,k⟩:=J;refine⟨h,G,Φ,τ,ρ,κ,_,L,b_,t,λs1 B x I v r1 c N=>?_⟩;let⟨d,rfl,ds,M,r⟩:=r1.get;have rv:RpQ K x I d v:=.inl c.last;let⟨a,vs,rfl,be,a_⟩:=rv.seq c.g.s M;refine⟨a,vs,S,E▸be,λl g=>?_⟩;have C:=Gr.fresh c.g.s g (.lst vs)
  show k _ B _ _ _ r ((c.pop b_.lk).pushO C (.lst bg a_) λb P=>by rw[Hw.mp P];show⟨g,c.g.s.free g⟩) (N.trans C.f)⟩
noncomputable def zP(y tb:TX):TX:=λρ R h=>y ρ (xV λd g=>match d with|.bl c=>(c=Ŕ->tb g R h)/\(c=ŕ->R (.v (.bl ŕ)) g)|_=>False) h
theorem An{op}(h:PX K X a y):PX K X (.BoolOp op [a] f) y:=⟨λc=>u0 (h.pe c)⟩
theorem Gi(U:PX K X a y)(be:PX K X (.BoolOp .And (b::es) f) tb):PX K X (.BoolOp .And (a::b::es) f) (zP y tb):=
 ⟨λI=>(tS (U.pe I) (be.pe I)).imp λσ H Q O=>by
  let⟨h,E,Φ,L,ρ,J,R,F,b_,t,k⟩:=O;refine⟨h,E,Φ,L,ρ,J,_,F,b_,t,λs1 p l N v g r G=>?_⟩;let⟨x,rfl,g⟩:=g.get;have rx:=r.last;let⟨c,rfl,g⟩:=iT g;obtain rfl:=rx.b;refine⟨c,S,?_⟩
  cases c with
  |true=>rw[Hx S];show⟨h,E,l,L,p,J,R,F,r.pop b_.lk,g.1 S,λsm C B M v' a_ P T=>k sm C B M v' a_ P (G.trans T)⟩
  |false=>rw[Hq 'b'];show k _ p l N _ (g.2 S) ((r.pop b_.lk).pushV (.bl _)) G⟩
end
end L2
namespace Kx
open PySem L2
section
local macro_rules|`(tactic|rfl')=>`(tactic|dsimp only[aQ,aK,aE,setA,aZ,aR,aY,List.set])
variable{P:Å}{w:È}{K:Â}{mg:Str->œ Value}{base:Heap}{n:Nat}{f:Addr}{J:Ì}
noncomputable def top(i:Nat):Ç:=PySem.Challenge.pw_cutyard_k29_struck_state.main.body.getD i (.Pass ⟨0,0,0,0⟩)
noncomputable abbrev CW:Ç:=top 0
noncomputable abbrev ma:Ç:=top 5
theorem qas:FnScope ["one","other","greater","lesser","rest"] ["one","other"] (ar ma):=by ac_rfl
noncomputable abbrev nM:Ç:=top 6
theorem qar:FnScope ["numbers","divisor","number"] ["numbers"] (ar nM):=by ac_rfl
noncomputable abbrev mv:Ç:=top 7
theorem BQ:FnScope ["top","bottom"] ["top","bottom"] (ar mv):=by ac_rfl
noncomputable abbrev kG:Ç:=top 9
theorem Fm:FnScope ["n","place"] ["n","place"] (ar kG):=by ac_rfl
noncomputable abbrev kC:Ç:=top 10
theorem DX:FnScope ["row"] ["row"] (ar kC):=by ac_rfl
noncomputable abbrev jX:Ç:=top 11
theorem qav:FnScope ["row","divisor"] ["row"] (ar jX):=by ac_rfl
noncomputable abbrev jg:Ç:=top 13
theorem qay:FnScope ["plan","bounds","n","least_rows","most_rows"] ["plan"] (ar jg):=by ac_rfl
noncomputable abbrev ki:Ç:=top 15
theorem yg:FnScope ["entries","unknown"] ["entries","unknown"] (ar ki):=by ac_rfl
noncomputable abbrev kO:Ç:=top 16
theorem xQ:FnScope ["entries"] ["entries"] (ar kO):=by ac_rfl
noncomputable abbrev nv:Ç:=top 17
theorem qaw:FnScope ["bounds","marks","number","pair"] ["bounds"] (ar nv):=by ac_rfl
noncomputable abbrev mW:Ç:=top 20
theorem BG:FnScope ["pair"] ["pair"] (ar mW):=by ac_rfl
noncomputable abbrev mM:Ç:=top 21
theorem qaz:FnScope ["bounds","entries","total","pair","entry"] ["bounds","entries"] (ar mM):=by ac_rfl
noncomputable abbrev kR:Ç:=top 22
theorem qaF:FnScope ["bounds","entries","total"] ["bounds","entries"] (ar kR):=by ac_rfl
noncomputable abbrev lx:Ç:=top 23
theorem qat:FnScope ["bounds","staying","unknown"] ["bounds","staying"] (ar lx):=by ac_rfl
noncomputable abbrev mz:Ç:=top 24
theorem qaB:FnScope ["bounds","rows","place","row","total"] ["bounds","rows"] (ar mz):=by ac_rfl
noncomputable abbrev mR:Ç:=top 25
theorem qaD:FnScope ["bounds","rows","place","row","total"] ["bounds","rows"] (ar mR):=by ac_rfl
noncomputable abbrev jT:Ç:=top 26
theorem qaI:FnScope ["rows","place","row"] ["rows"] (ar jT):=by ac_rfl
noncomputable abbrev na:Ç:=top 27
theorem qaM:FnScope ["rows","place","row"] ["rows"] (ar na):=by ac_rfl
noncomputable abbrev nQ:Ç:=top 28
theorem qau:FnScope ["rows","came","place","row","earlier"] ["rows"] (ar nQ):=by ac_rfl
noncomputable abbrev lq:Ç:=top 29
theorem qax:FnScope ["bounds","staying","unknown"] ["bounds","staying"] (ar lq):=by ac_rfl
noncomputable abbrev jY:Ç:=top 30
theorem Gd:FnScope ["rows","unknown"] ["rows","unknown"] (ar jY):=by ac_rfl
noncomputable abbrev j7:Ç:=top 31
theorem DJ:FnScope ["rows","unknown"] ["rows","unknown"] (ar j7):=by ac_rfl
noncomputable abbrev mQ:Ç:=top 32
theorem qaJ:FnScope ["bounds","rows","goal","staying","unknown"] ["bounds","rows","goal","staying"] (ar mQ):=by ac_rfl
noncomputable abbrev mt:Ç:=top 33
theorem qaG:FnScope ["bounds","rows","goal","staying","unknown","pair"] ["bounds","rows","goal","staying"] (ar mt):=by ac_rfl
noncomputable abbrev k8:Ç:=top 34
theorem qaA:FnScope ["bounds","rows","goal","staying","unknown"] ["bounds","rows","goal","staying"] (ar k8):=by ac_rfl
noncomputable abbrev lR:Ç:=top 36
theorem qaH:FnScope ["ledger","place"] ["ledger"] (ar lR):=by ac_rfl
noncomputable abbrev nq:Ç:=top 37
theorem qaN:FnScope ["ledger","unknown"] ["ledger"] (ar nq):=by ac_rfl
noncomputable abbrev kD:Ç:=top 38
theorem qaC:FnScope ["ledger","unknown","place","entries","shares"] ["ledger"] (ar kD):=by ac_rfl
noncomputable abbrev lf:Ç:=top 39
theorem qaL:FnScope ["ledger","shares"] ["ledger"] (ar lf):=by ac_rfl
noncomputable abbrev jP:Ç:=top 40
theorem za:FnScope ["numbers","places"] ["numbers","places"] (ar jP):=by ac_rfl
noncomputable abbrev kM:Ç:=top 41
theorem qaK:FnScope ["ledger","rows"] ["ledger"] (ar kM):=by ac_rfl
noncomputable abbrev ly:Ç:=top 44
theorem wq:FnScope ["_law_told"] ["_law_told"] (ar ly):=by ac_rfl
noncomputable abbrev kT:Ç:=top 45
theorem Dg:FnScope ["_law_told","_law_size"] ["_law_told","_law_size"] (ar kT):=by ac_rfl
noncomputable abbrev mP:Ç:=top 46
theorem qak:FnScope ["_law_script","_law_seed","_law_cell","_law_rest"] ["_law_script"] (ar mP):=by ac_rfl
noncomputable abbrev lW:Ç:=top 47
theorem qag:FnScope ["_law_pool_here","_law_many","_law_digit","_law_step","_law_mixed"] ["_law_pool_here","_law_many"] (ar lW):=by ac_rfl
noncomputable abbrev kE:Ç:=top 48
theorem DY:FnScope ["_law_entries","_law_spot"] ["_law_entries","_law_spot"] (ar kE):=by ac_rfl
noncomputable abbrev lg:Ç:=top 49
theorem qaf:FnScope ["_law_pool_here","_law_count","_law_opens","_law_rate","_law_bounds_here","_law_goal","_law_hung","_law_k","_law_least","_law_pick","_law_most"] ["_law_pool_here","_law_count","_law_opens"] (ar lg):=by ac_rfl
noncomputable abbrev nH:Ç:=top 50
theorem qan:FnScope ["_law_pool_here","_law_many","_law_spot","_law_hung","_law_rows_here","_law_i","_law_entries","_law_one","_law_number","_law_manner","_law_bound"] ["_law_pool_here","_law_many","_law_spot","_law_hung"] (ar nH):=by ac_rfl
noncomputable abbrev lu:Ç:=top 51
theorem qap:FnScope ["_law_pool_here","_law_count","_law_many","_law_opens","_law_bounds_here","_law_goal","_law_hung","_law_spot","_law_least","_law_most","_law_wide","_law_rows_here","_law_entries"] ["_law_pool_here","_law_count","_law_many","_law_opens"] (ar lu):=by ac_rfl
noncomputable abbrev iM:Ç:=top 52
theorem qah:FnScope ["_law_pool_here","_law_plan","_law_spot","_law_far_here","_law_many","_law_shifts","_law_bounds_here","_law_shift","_law_least","_law_most","_law_rows_here","_law_entries","_law_bound","_law_factor","_law_moved"] ["_law_pool_here","_law_plan","_law_spot"] (ar iM):=by ac_rfl
noncomputable abbrev lH:Ç:=top 53
theorem qaj:FnScope ["_law_plan","_law_count","_law_pair","_law_row"] ["_law_plan","_law_count"] (ar lH):=by ac_rfl
noncomputable abbrev kK:Ç:=top 54
theorem qai:FnScope ["_law_struck","_law_count","_law_kept"] ["_law_struck","_law_count"] (ar kK):=by ac_rfl
noncomputable abbrev mH:Ç:=top 55
theorem qal:FnScope ["_law_bounds_here","_law_entries","_law_most","_law_total","_law_pair","_law_number","_law_side"] ["_law_bounds_here","_law_entries","_law_most"] (ar mH):=by ac_rfl
noncomputable abbrev nh:Ç:=top 56
theorem qao:FnScope ["_law_numbers","_law_shared_here","_law_number","_law_other"] ["_law_numbers"] (ar nh):=by ac_rfl
noncomputable abbrev jp:Ç:=top 57
theorem qam:FnScope ["_law_bounds_here","_law_rows_here","_law_k","_law_entries","_law_bound","_law_most","_law_least"] ["_law_bounds_here","_law_rows_here","_law_k"] (ar jp):=by ac_rfl
noncomputable abbrev jJ:Ç:=top 58
theorem qaq:FnScope ["_law_plan","_law_k","_law_least","_law_most","_law_helps","_law_harms","_law_aim"] ["_law_plan","_law_k"] (ar jJ):=by ac_rfl
noncomputable abbrev jy:Ç:=top 59
theorem zR:FnScope ["_law_plan"] ["_law_plan"] (ar jy):=by ac_rfl
noncomputable abbrev nG:Ç:=top 60
theorem qaE:FnScope ["_law_script","_law_pool_here","_law_count","_law_plan","_law_spot","_law_struck","_law_again"] ["_law_script"] (ar nG):=by ac_rfl
noncomputable abbrev nS:Ç:=fF (top 18) 0
theorem GN:FnScope ["self","plan"] ["self","plan"] (ar nS):=by ac_rfl
noncomputable abbrev nc:Ç:=fF (top 18) 1
theorem B9:FnScope ["self","shares","divisor"] ["self","shares","divisor"] (ar nc):=by ac_rfl
noncomputable abbrev lj:Ç:=fF (top 18) 2
theorem GH:FnScope ["self","place"] ["self","place"] (ar lj):=by ac_rfl
noncomputable abbrev mC:Ç:=fF (top 18) 3
theorem qad:FnScope ["self","place","row","mark","unknown","entry","pair","bound"] ["self","place"] (ar mC):=by ac_rfl
noncomputable abbrev l8:Ç:=fF (top 18) 4
theorem qaa:FnScope ["self","place","row"] ["self","place"] (ar l8):=by ac_rfl
noncomputable abbrev nN:Ç:=fF (top 18) 5
theorem FP:FnScope ["self","unknown","entry"] ["self","unknown","entry"] (ar nN):=by ac_rfl
noncomputable abbrev nT:Ç:=fF (top 18) 6
theorem qab:FnScope ["self","unknown","number","place","row","entry","shares","worth"] ["self","unknown","number"] (ar nT):=by ac_rfl
noncomputable abbrev jq:Ç:=fF (top 18) 7
theorem qac:FnScope ["self","unknown","places","place"] ["self","unknown"] (ar jq):=by ac_rfl
noncomputable abbrev le:Ç:=fF (top 18) 8
theorem wu:FnScope ["self","unknown","least","rows"] ["self","unknown","least","rows"] (ar le):=by ac_rfl
noncomputable abbrev li:Ç:=fF (top 42) 0
theorem qae:FnScope ["self","plan","ledger","shares","mark"] ["self","plan"] (ar li):=by ac_rfl
noncomputable abbrev wP:Ç:=fF (top 42) 1
noncomputable abbrev CB:Ç:=fF (top 42) 2
noncomputable abbrev wD:Ç:=fF (top 42) 3
structure TxtLedger(K:Â)(mg:Str->Option Value)(C:Addr):Prop where
 cl:Cls K C
 n_bounds:NoAttr K C "bounds"
 n_rows:NoAttr K C "rows"
 n_goal:NoAttr K C "goal"
 n_staying:NoAttr K C "staying"
 n_told:NoAttr K C "told"
 n_lines:NoAttr K C "lines"
 n_least_marks:NoAttr K C "least_marks"
 n_most_marks:NoAttr K C "most_marks"
 n_row_marks:NoAttr K C "row_marks"
 n_goal_shares:NoAttr K C "goal_shares"
 n_extra:NoAttr K C "extra"
 n_gone:NoAttr K C "gone"
 mgC:mg "Ledger"=Z (.ref C)
 ns:Ò K Á "Ledger"=Z (Z (.ref C))
structure TxtStruck(K:Â)(mg:Str->Option Value)(C:Addr):Prop where
 cl:Cls K C
 n_ledger:NoAttr K C "ledger"
 n_breadth:NoAttr K C "breadth"
 n_kind:NoAttr K C "kind"
 n_paper:NoAttr K C "paper"
 n_slim:NoAttr K C "slim"
 n_kept:NoAttr K C "kept"
 n_extra:NoAttr K C "extra"
 mgC:mg "Struck"=Z (.ref C)
 ns:Ò K Á "Struck"=Z (Z (.ref C))
noncomputable abbrev cf(x:Int):Prop:=x.natAbs<2^60000
theorem gK{a b:Int}(c:cf a)(e:cf b):ý a b:=Dk (m:=60000) (n:=60000) 'b' 'b' c e 'b'
theorem toB{R:D->Prop}{a b:Bool}(q:R (.bl a))(e:b=a):R (.bl b):=e▸q
theorem hV{x:Int}{m:Nat}(h:x.natAbs<=2^m)(a:m<60000):cf x:=JR h (Jo 'b' a)
theorem cS{a:Type}{xs:Y a}{i:Nat}{d:a}(h:i<xs.length):xs.getD i d∈xs:=by rw[HE,bB h];show Jw h
theorem bP{a:Type}{xs:Y a}{i:Nat}{d:a}(h:i<xs.length):xs[i]?=Z (xs.getD i d):=by rw[HE,bB h];rfl
theorem eI{a:Type}{xs:Y a}{i:Nat}{x d:a}(h:xs[i]?=Z x):xs.getD i d=x:=by rw[HE,h];rfl
noncomputable def gL(n k:Nat):Y Int:=(List.range n).map λo=>if o=k then 1 else 0
inductive z_unit(ds:List D)(R:D->Prop):Prop|mk (n k:Nat) (_:ds=[.int (n:Int),.int (k:Int)]) (_:n<=1000) (_:R (.tup ((gL n k).map D.int)))
theorem En(F:Fun K "unit" "unit" kG f J)(a:mg "tuple"=Œ)(g:mg "range"=Œ):FnOk P w K mg base aD (n+1) f J ["n","place"] (lSp K z_unit):=by
 refine F.okD Fm (λds R h=>?_) (λl A outer s H E ds R j h=>?_)
 ·let⟨m,k,rfl,_⟩:=h;rfl
 let⟨m,k,rfl,r,q⟩:=h;refine⟨_,(az (aV (cH cX S a Hz (aP (PD.q (PF.d (dL (k:=1) (N':=["other","place"]) (cap:=[Œ,Z 1]) S (.ok (show bZ ["n","place"] (ar kG) _ ["other","place"] [Œ,Z 1]=Ŕ by lia)) 'a' (bI 'b') (iY S g (ad (dv 0) ak ac)) (λ_ _ _ _ _=>(bf (i:=0) (show List.Nodup (["other","place"]:Y Str)by lia) S T3)) (λ_ _ _ _ _=>(mX (aA (cW j.units) (aa 0) (aa 1) (ap _)) ah ah))))) aT bA) bA ae))),?_⟩;refine⟨⟨(),()⟩,?_⟩;refine nF (λo=>D.int (if o=k then 1 else 0)) (bu ()) (λi p=>?_) ?_
 ·by_cases c:i=k
  ·subst c;refine⟨λ_=>by rw[Hx S];rfl,λh=>?_⟩;have:((0+(i:Int))==(i:Int))=ŕ:=h;rw[Io]at this;simp at this
  ·refine⟨λh=>?_,λ_=>by rw[Hq c];rfl⟩;have:((0+(i:Int))==(k:Int))=Ŕ:=h;have:=eq_of_beq this;omega
 have e:(List.range ((m:Int)).toNat).map (λo=>D.int (if o=k then 1 else 0))=(gL m k).map D.int:=by unfold gL;rw[Ip,IY];rfl
 rw[e];show q
noncomputable def oB(r:aq):aq:=(r.1.map (- ·),-r.2)
inductive z_turned(ds:List D)(R:D->Prop):Prop|mk (r:aq) (_:ds=[ay r]) (_:r.1.length<=1000) (_:R (ay (oB r)))
theorem Aa(F:Fun K "turned" "turned" kC f J)(a:mg "tuple"=Œ):FnOk P w K mg base aD (n+1) f J ["row"] (lSp K z_turned):=by
 refine F.okD DX (λds R h=>?_) (λe A outer s H E ds R g h=>?_)
 ·let⟨r,rfl,_⟩:=h;rfl
 let⟨r,rfl,c,q⟩:=h;refine⟨_,(az (aV (bC (ad (cH cX S a Hz (aP (PD.q (PF.d (dL (k:=1) (N':=["entry"]) (cap:=[Œ]) S (.ok (show bZ ["row"] (ar kC) _ ["entry"] [Œ]=Ŕ by lia)) 'a' (bI 'b') (b8 (aw (aa 0))) (λ_ _ _ _ _=>(bf (i:=0) (show List.Nodup (["entry"]:Y Str)by lia) S T3)) (λ_ _ _ _ _=>(eM (aa 0)))))) aT bA) bA ae) (ad (eM (PD.q (aw (aa 0)))) ak il) bj)))),?_⟩;refine⟨_,S,?_⟩;refine mq (f:=D.int) (λx=>-x) (bu c) (λx _=>rfl) ?_;show⟨_,S,q⟩
noncomputable abbrev Bd:=Int×œ Int
noncomputable def oI:œ Int->D
 |none=>.non
 |some m=>.int m
noncomputable def aI(b:Bd):D:=.tup [.int b.1,oI b.2]
noncomputable def aC(bs:Y Bd)(k:Nat):Bd:=bs.getD k (0,Œ)
noncomputable def lD(bs:Y Bd)(k:Nat):aq:=(gL bs.length k,(aC bs k).1)
noncomputable def jd(bs:Y Bd)(k:Nat):aq:=oB (gL bs.length k,((aC bs k).2.getD 0))
noncomputable def gH(bs:Y Bd)(k:Nat):Bool:=(aC bs k).2.isSome
noncomputable def fT(bs:Y Bd)(rs:Y aq):Y aq:=(List.range bs.length).map (lD bs)++((List.range bs.length).filter (gH bs)).map (jd bs)++rs
noncomputable def bF(bs:Y Bd)(rs:Y aq)(gs:Y Int):D:=.tup [.tup (bs.map aI),.tup (rs.map ay),.tup (gs.map D.int)]
noncomputable def gN(c:Nat->Bool)(h:Nat->D)(i:Nat):œ D->Prop
 |some y=>y=h i/\c i=Ŕ
 |none=>c i=ŕ
theorem i7{c:Nat->Bool}{h:Nat->D}{n:Nat}{g:Y (œ D)}(v:g.length=n)(u:∀i y,g[i]?=Z y->gN c h i y):g.filterMap id=((List.range n).filter c).map h:=by
 have e:g=(List.range n).map λi=>if c i then Z (h i) else Œ:=by
  refine IP λi=>?_;rw[Hy];by_cases r:i<n
  ·rw[Jr r,bB (show i<g.length by omega)];have q:=u i _ (bB (show i<g.length by omega))
   cases e:g[i]'()with
   |none=>
    rw[e]at q;have j:c i=ŕ:=q;change Z Œ=Z (if c i=Ŕ then _ else _);rw[j];rfl
   |some y=>
    rw[e]at q;have j:y=h i/\c i=Ŕ:=q;change Z (Z y)=Z (if c i=Ŕ then _ else _);rw[j.2,j.1];rfl
  ·rw[Ib (),Ib (by rw[HM];omega)];rfl
 have o:∀l:Y Nat,(l.map λi=>if c i then Z (h i) else Œ).filterMap id=(l.filter c).map h:=by
  intro l
  induction l with
  |nil=>rfl
  |cons x l p=>
   rw[HK]
   cases e:c x with
   |true=>rw[Hx S,List.filterMap_cons_some (f:=id) (a:=Z (h x)) (b:=h x) S,JN e,HK,p]
   |false=>rw[Hq 'b',List.filterMap_cons_none (f:=id) (a:=Œ) S,JO (by rw[e];decide),p]
 rw[e,o]
theorem e7{bs:Y Bd}{k:Nat}{i:Int}(h:k<bs.length)(e:i=(k:Int)):cn (bs.map aI) i=Z (aI (aC bs k)):=cE (i:=k) (bP h) e
theorem Ab(n k:Nat):(gL n k).length=n:=by unfold gL;rw[Hj,HM]
inductive z_givens(ds:List D)(R:D->Prop):Prop|mk (bs:List Bd) (rs:List aq) (g:D) (_:ds=[.tup [.tup (bs.map aI),.tup (rs.map ay),g]]) (_:bs.length<=8) (_:rs.length<=30) (_:R (.tup ((fT bs rs).map ay)))
theorem E7(F:Fun K "givens" "givens" jg f J)(v:Cl P w K mg base n "turned" ["row"] z_turned)(u:Cl P w K mg base n "unit" ["n","place"] z_unit)(x:mg "len"=Œ)(p:mg "range"=Œ)(o:mg "tuple"=Œ):FnOk P w K mg base aD (n+1) f J ["plan"] (lSp K z_givens):=by
 refine F.okD qay (λds R h=>?_) (λL A outer s H E ds R c h=>?_)
 ·let⟨bs,rs,g,rfl,_⟩:=h;rfl
 let⟨bs,rs,g,rfl,O,M,q⟩:=h
 refine⟨_,(bp (bX (i:=1) qay.nd S (ñ S) (aw (aa 0)))
   (bp (bX (i:=2) qay.nd S (ñ S) (bx cD S x HW (aP (aa 1) aT ac) ac ae))
   (bp (sx (i:=3) (k:=1) (N':=["place","n","bounds"]) (cap:=[Œ,Z 2,Z 1]) S qay.nd S T3 (.ok (show bZ ["plan","bounds","n","least_rows","most_rows"] (ar jg) _ ["place","n","bounds"] [Œ,Z 2,Z 1]=Ŕ by lia)) 'a' (bI 'b') (iY S p (ad (dv 2) ak ac)) (λ_ _ _ _ _=>(bf (i:=0) (show List.Nodup (["place","n","bounds"]:Y Str)by lia) S T3)) (λ_ _ _ _ _=>(bC (ad (bh u c S (ad (dv 1) (ad (dv 0) ak ac) ac) ac (au ac ae)) (ad (aw (PD.q (br (aa 2) (aa 0) (λ_ _=>rfl)))) ak aF) bj))))
   (bp (rc (i:=4) (k:=1) (N':=["place","n","bounds"]) (cap:=[Œ,Z 2,Z 1]) S qay.nd S T3 (.ok (show bZ ["plan","bounds","n","least_rows","most_rows"] (ar jg) _ ["place","n","bounds"] [Œ,Z 2,Z 1]=Ŕ by lia)) 'a' (bI 'b') (iY S p (ad (dv 2) ak ac)) (λ_ _ _ _ _=>(bf (i:=0) (show List.Nodup (["place","n","bounds"]:Y Str)by lia) S T3)) (λ_ _ _ _ _=>(iK (aA cZ (PD.q (aw (PD.q (br (aa 2) (aa 0) (λ_ _=>rfl))))) (PD.q bo) (ap _)))) (λ_ _ _ _ _=>(bh v c S (ad (bC (ad (bh u c S (ad (dv 1) (ad (dv 0) ak ac) ac) ac (au ac ae)) (ad (aw (PD.q (br (aa 2) (aa 0) (λ_ _=>rfl)))) ak aF) bj)) ak bN) bN ae)))
   (az (aV (aX cy (PD.q (aX cy (PD.q (cH cX S o Hz (aP (aa 3) aT ac) ac ae)) (PD.q (cH cX S o Hz (aP (aa 4) aT ac) ac ae)))) (PD.q (aw (aa 0)))))))))),?_⟩
 have r:((bs.map aI).length:Int)=(bs.length:Int):=by rw[Hj]
 have C:(((bs.map aI).length:Nat):Int).toNat=bs.length:=by omega
 refine⟨_,S,⟨(),()⟩,?_⟩;refine nF (λk=>ay (lD bs k)) (bu ()) (λk G=>⟨bs.length,k,by rw[r,Io],(),_,e7 () (Io _),_,S,S⟩) ?_;refine⟨⟨(),()⟩,by rw[fm];show bu (),gN (gH bs) (λk=>ay (jd bs k)),λk d hd=>?_,λQ j I=>?_⟩
 ·let⟨G,rfl⟩:=gQ hd
  have l:k<bs.length:=by omega
  refine⟨_,e7 l (Io _),_,S,?_⟩
  cases a:(aC bs k).2 with
  |none=>
   refine⟨λh=>(by cases h),λ_=>?_⟩;change gH bs k=ŕ;unfold gH;rw[a];rfl
  |some m=>
   have e:jd bs k=oB (gL bs.length k,m):=by unfold jd;rw[a];rfl
   refine⟨λ_=>?_,λh=>(by cases h)⟩;refine⟨bs.length,k,by rw[r,Io],(),_,e7 l (Io _),_,(Il (λz=>cn [D.int (aC bs k).1,oI z] 1) a).trans S,(gL bs.length k,m),S,by rw[Ab];omega,?_⟩;refine⟨Il ay e.symm,?_⟩;unfold gH;rw[a];rfl
 rw[fm]at j;rw[i7 j I,C]
 have y:(List.range bs.length).map (λk=>ay (lD bs k))=((List.range bs.length).map (lD bs)).map ay:=by rw[Ip];rfl
 have B:((List.range bs.length).filter (gH bs)).map (λk=>ay (jd bs k))=(((List.range bs.length).filter (gH bs)).map (jd bs)).map ay:=by rw[Ip];rfl
 have N:((List.range bs.length).filter (gH bs)).length<=bs.length:=by
  have:=Jk (gH bs) (List.range bs.length)
  rwa [HM]at this
 rw[y,B];refine⟨?_,_,vN ay _ _,_,S,?_,_,vN ay _ _,q⟩
 ·rw[Hj,Hj,Hj,Hj,HM];show small ()
 ·rw[Hj,Hj,Hm,Hj,Hj,HM];show small ()
noncomputable abbrev Gn:=Nat×Int×Y aq
noncomputable def jN(g:Gn):D:=.tup [.int (g.1:Nat),.int g.2.1,.tup (g.2.2.map ay)]
structure Led where
 bs:List Bd
 rs:List aq
 gl:List Int
 st:List Nat
 td:Int
 ln:List D
 lm:List D
 mm:List D
 rm:List D
 gs:List D
 ex:Int
 gn:List Gn
noncomputable def aN(n:Nat):D:=.int (n:Nat)
noncomputable def dl(s:Led):Y (Str×Fl):=[("bounds",.l (s.bs.map aI)),("rows",.l (s.rs.map ay)),("goal",.v (.tup (s.gl.map D.int))),("staying",.l (s.st.map aN)),("told",.v (.int s.td)),("lines",.l s.ln),("least_marks",.l s.lm),("most_marks",.l s.mm),("row_marks",.l s.rm),("goal_shares",.l s.gs),("extra",.v (.int s.ex)),("gone",.l (s.gn.map jN))]
noncomputable abbrev bD(s:Led):Om:=.obj "Ledger" (dl s)
noncomputable def gP(s:Led):D:=.obj "Ledger" [("bounds",.lst (s.bs.map aI)),("rows",.lst (s.rs.map ay)),("goal",.tup (s.gl.map D.int)),("staying",.lst (s.st.map aN)),("told",.int s.td),("lines",.lst s.ln),("least_marks",.lst s.lm),("most_marks",.lst s.mm),("row_marks",.lst s.rm),("goal_shares",.lst s.gs),("extra",.int s.ex),("gone",.lst (s.gn.map jN))]
noncomputable def eE(a:D)(d:Int):D:=.tup [.str "cut",a,.int d]
noncomputable def fU(s:Led)(a:D)(d:Int):Led:={ s with ln:=s.ln++[eE a d] }
theorem cQ:∀d∈([]:Y D),NoL d:=λd h=>by cases h
theorem bv{d:D}{ds:Y D}(h:NoL d)(t:∀e∈ds,NoL e):∀e∈d::ds,NoL e:=λe a=>by
 rcases HH.mp a with rfl|a
 ·show h
 ·show t e a
theorem mF{a:D}{d:Int}(h:NoL a):NoL (eE a d):=.tup (bv (.str _) (bv h (bv (.int _) cQ)))
inductive y_Ledger__put_line(as:List Sm)(R:Sm->List Om->Prop)(Rx:XD->List Om->Prop):Prop|mk (a:Option Addr) (s:Led) (sh:D) (d:Int) (_:as=[.ob a (bD s),.v sh,.v (.int d)]) (_:NoL sh) (_:s.ln.length<1000) (_:R (.v (.int (s.td+(s.ln.length:Nat)))) [bD (fU s sh d)])
theorem AO(F:Fun K "put_line" "Ledger.put_line" nc f J){j:Addr}(c:TxtLedger K mg j)(p:mg "len"=Œ):FnOk P w K mg base aD (n+1) f J ["self","shares","divisor"] (lSpM K y_Ledger__put_line):=by
 refine F.okM B9 (λas R o h=>?_) (λr A outer s H E as R o C u x h l=>?_)
 ·let⟨a,s,g,d,rfl,_⟩:=h;rfl
 let⟨a,s,g,d,rfl,hn,v,q⟩:=h;let⟨B,rfl⟩:=dY l
 refine⟨_,(ao (n6 0 c.cl c.n_lines c.ns (bC (ad iF (ad (dv 1) (ad (dv 2) ak ac) ac) aL)) (ee bN) bN)
   (aU (cC (cm (aX di (PD.q (aX cy (PD.q (aJ c.cl c.n_told c.ns (aa 0))) (PD.q (bx cD S p HW (aP (PD.q (aJ c.cl c.n_lines c.ns (aa 0))) aT aG) aG ae)))) (PD.q ah)))))),?_⟩
 intro y;refine⟨_,_,s.ln,S,S,mF hn,bu (),dl (fU s g d),S,?_⟩;refine⟨S,_,S,S,_,S,?_⟩;refine⟨.int _,_,S,?_⟩
 have e:s.td+(((fU s g d).ln.length:Nat):Int)-1=s.td+(s.ln.length:Nat):=by change s.td+(((s.ln++[eE g d]).length:Nat):Int)-1=_;rw[Hm,Im];omega
 show (Il (λz=>R (Sm.v (D.int z)) [bD (fU s g d)]) e).mpr q
inductive y_Ledger__drop_row(as:List Sm)(R:Sm->List Om->Prop)(Rx:XD->List Om->Prop):Prop|mk (a:Option Addr) (s:Led) (p:Nat) (_:as=[.ob a (bD s),.v (.int (p:Nat))]) (_:p<s.rs.length) (_:p<s.rm.length) (_:p<1000) (_:R (.v .non) [bD { s with rs:=s.rs.eraseIdx p,rm:=s.rm.eraseIdx p }])
theorem Fp(F:Fun K "drop_row" "Ledger.drop_row" lj f J){e:Addr}(c:TxtLedger K mg e):FnOk P w K mg base aD (n+1) f J ["self","place"] (lSpM K y_Ledger__drop_row):=by
 refine F.okM GH (λas R j h=>?_) (λr A outer s H E as R j B u x h g=>?_)
 ·let⟨a,s,p,rfl,_⟩:=h;rfl
 let⟨a,s,p,rfl,l,o,v,q⟩:=h;let⟨z,rfl⟩:=dY g
 refine⟨_,(ao (fw (tP 0 c.cl c.n_rows c.ns (dv 1) (ee ac) ac))
   (aU (fw (tP 0 c.cl c.n_row_marks c.ns (dv 1) (ee ac) ac)))),?_⟩
 intro y;refine⟨_,_,s.rs.map ay,S,S,p,_,S,(),bB (by rw[Hj];show l),dl { s with rs:=s.rs.eraseIdx p },by rw[mi];rfl,?_⟩;refine⟨_,_,s.rm,S,S,p,_,S,(),bB o,dl { s with rs:=s.rs.eraseIdx p,rm:=s.rm.eraseIdx p },S,?_⟩;show⟨_,S,q⟩
inductive z_common_of_two(ds:List D)(R:D->Prop):Prop|mk (a b:Int) (_:ds=[.int a,.int b]) (_:R (.int (Int.gcd a b)))
theorem yp(F:Fun K "common_of_two" "common_of_two" ma f J)(o:mg "abs"=Œ):FnOk P w K mg base aD (n+1) f J ["one","other"] (lSp K z_common_of_two):=by
 refine F.okD qas (λds R h=>?_) (λG A outer s H E ds R C h=>?_)
 ·let⟨a,b,rfl,_⟩:=h;rfl
 let⟨a,b,rfl,q⟩:=h
 refine⟨_,(bp (bX (i:=2) qas.nd S T3 (bx kB S o JD (aP (aa 0) aT ac) ac ae))
   (bp (bX (i:=3) qas.nd S T3 (bx kB S o JD (aP (aa 1) aT ac) ac ae))
   (bp (sR HL (aA (eC C.units) (aa 3) (PD.q ah) (ap _)) (bp (bX (i:=4) qas.nd S T3 (aX gZ (aa 2) (aa 3)))
   (bp (bX (i:=2) qas.nd S T3 (dv 3))
   (az (bX (i:=3) qas.nd S T3 (dv 4))))))
   (az (aV (dv 2)))))),?_⟩
 refine⟨λm ρ=>∃(g l:Int)(p:œ Sl),ρ=[Z (.v (.int a)),Z (.v (.int b)),Z (.v (.int g)),Z (.v (.int l)),p]/\m=l.toNat/\0<=g/\0<=l/\Int.gcd g l=Int.gcd a b,⟨_,_,_,_,S,S,by split<;>omega,by split<;>omega,?_⟩,?_⟩
 ·have j:∀x:Int,(if x<0 then -x else x)=(x.natAbs:Int):=λx=>by split<;>omega
  rw[j,j];unfold Int.gcd;simp
 rintro m ρ ⟨g,l,p,rfl,rfl,z,B,e⟩;refine⟨λh=>?_,λh=>?_⟩
 ·have I:l≠0:=λr=>by rw[r]at h;cases h
  have c:0<l:=by omega
  have j:=Ke g c;have y:=KQ g (b:=l) ();show⟨c,(g % l).toNat,(),l,g % l,_,S,S,B,y,(rY z c).trans e⟩
 ·have v:l=0:=by have:(!(l==0))=ŕ:=h;simp at this;show this
  subst v
  have u:g=(Int.gcd a b:Int):=by rw[←e];simp;omega
  rw[u];show q
inductive z_common(ds:List D)(R:D->Prop):Prop|mk (ns:List Int) (_:ds=[.tup (ns.map D.int)]) (_:R (.int (ba ns)))
theorem GG(F:Fun K "common" "common" nM f J)(c:Cl P w K mg base n "common_of_two" ["one","other"] z_common_of_two):FnOk P w K mg base aD (n+1) f J ["numbers"] (lSp K z_common):=by
 refine F.okD qar (λds R h=>?_) (λj A outer s H E ds R g h=>?_)
 ·let⟨ns,rfl,_⟩:=h;rfl
 let⟨ns,rfl,q⟩:=h
 refine⟨_,(bp (bX (i:=1) qar.nd S T3 ah)
   (bp (eT HL S (b8 (dv 0)) (bf (i:=2) qar.nd S T3) (az (bX (i:=1) qar.nd S T3 (bh c g S (ad (dv 2) (ad (dv 1) ak ac) ac) ac (au ac ae)))))
   (az (aV (dv 1))))),?_⟩
 refine⟨λi ρ=>∃a:œ Sl,ρ=[Z (.v (.tup (ns.map D.int))),Z (.v (.int (ba (ns.take i)))),a],⟨_,S⟩,?_,?_⟩
 ·rintro i d ρ hd ⟨a,rfl⟩;let⟨k,rfl,e⟩:=bQ hd;refine⟨_,_,S,Z (.v (.int k)),?_⟩;rw[i6 e,qZ];rfl
 ·rintro ρ ⟨a,rfl⟩;rw[Hj,Ja];show q
inductive z_up(ds:List D)(R:D->Prop):Prop|mk (a d:Int) (_:ds=[.int a,.int d]) (_:1<=d) (_:d<2^9000) (_:R (.int (-(-a/d))))
theorem xw(F:Fun K "up" "up" mv f J) :FnOk P w K mg base aD (n+1) f J ["top","bottom"] (lSp K z_up):=by
 refine F.okD BQ (λds R h=>?_) (λe A outer s H E ds R j h=>?_)
 ·let⟨a,d,rfl,_⟩:=h;rfl
 let⟨a,d,rfl,g,c,q⟩:=h
 refine⟨_,(dD (bO (aA gv (aa 1) (PD.q ah) (ap _)) (az w6) bV)
   (az (aV (eM (PD.q (aX qf (PD.q (eM (aa 0))) (aa 1))))))),?_⟩
 refine⟨λρ=>ρ=[Z (.v (.int a)),Z (.v (.int d))],⟨λh=>absurd (dP h) (),λ_=>rfl⟩,?_⟩;rintro ρ rfl;show⟨CDivB.of () c,q⟩
noncomputable def gj(r:aq):aq:=if ba r.1=0 then r else (r.1.map (·/ba r.1),-(-r.2/ba r.1))
inductive z_evened(ds:List D)(R:D->Prop):Prop|mk (r:aq) (_:ds=[ay r]) (_:r.1.length<=1000) (_:0<=ba r.1) (_:ba r.1<2^9000) (_:R (ay (gj r)))
theorem Fo(F:Fun K "evened" "evened" jX f J)(p:Cl P w K mg base n "common" ["numbers"] z_common)(u:Cl P w K mg base n "up" ["top","bottom"] z_up)(j:mg "tuple"=Œ):FnOk P w K mg base aD (n+1) f J ["row"] (lSp K z_evened):=by
 refine F.okD qav (λds R h=>?_) (λv A outer s H E ds R a h=>?_)
 ·let⟨r,rfl,_⟩:=h;rfl
 let⟨r,rfl,l,y,c,q⟩:=h
 refine⟨_,(bp (bX (i:=1) qav.nd S (ñ S) (bh p a S (ad (aw (aa 0)) ak aF) aF ae))
   (dD (bO (aA (cW a.units) (aa 1) (PD.q ah) (ap _)) (az (aV (dv 0))) bV)
   (az (aV (bC (ad (cH cX S j Hz (aP (PD.q (PF.d (dL (k:=1) (N':=["entry","divisor"]) (cap:=[Œ,Z 1]) S (.ok (show bZ ["row","divisor"] (ar jX) _ ["entry","divisor"] [Œ,Z 1]=Ŕ by lia)) 'a' (bI 'b') (b8 (aw (aa 0))) (λ_ _ _ _ _=>(bf (i:=0) (show List.Nodup (["entry","divisor"]:Y Str)by lia) S T3)) (λ_ _ _ _ _=>(aX qf (aa 0) (aa 1)))))) aT bA) bA ae) (ad (bh u a S (ad (aw (aa 0)) (ad (dv 1) ak ac) aF) aF (au ac ae)) ak bj) bj)))))),?_⟩
 refine⟨_,S,r.1,S,?_⟩;refine⟨λρ=>ba r.1≠0/\ρ=[Z (.v (ay r)),Z (.v (.int (ba r.1)))],⟨λh=>?_,λh=>⟨?_,S⟩⟩,?_⟩
 ·have e:ba r.1=0:=eq_of_beq h
  have:gj r=r:=by unfold gj;rw[Hx e]
  rw[this]at q;show q
 ·intro e;have h':(ba r.1==0)=ŕ:=h;rw[e]at h';cases h'
 rintro ρ ⟨g,rfl⟩
 have o:0<ba r.1:=by omega
 refine⟨_,S,?_⟩;refine mq (f:=D.int) (λx=>x/ba r.1) (bu l) (λx _=>⟨CDivB.of o c,S⟩) ?_;refine⟨_,S,r.2,ba r.1,S,(),c,?_⟩
 have:gj r=(r.1.map (·/ba r.1),-(-r.2/ba r.1)):=by unfold gj;rw[Hq g]
 rw[this]at q;show q
inductive z_without(ds:List D)(R:D->Prop):Prop|mk (es:List Int) (u:Nat) (_:ds=[.tup (es.map D.int),.int (u:Nat)]) (_:es.length<=1000) (_:R (.tup ((es.set u 0).map D.int)))
theorem zK(F:Fun K "without" "without" ki f J)(g:mg "tuple"=Œ)(j:mg "enumerate"=Œ):FnOk P w K mg base aD (n+1) f J ["entries","unknown"] (lSp K z_without):=by
 refine F.okD yg (λds R h=>?_) (λr A outer s H E ds R p h=>?_)
 ·let⟨es,u,rfl,_⟩:=h;rfl
 let⟨es,u,rfl,o,q⟩:=h;refine⟨_,(az (aV (cH cX S g Hz (aP (PD.q (PF.d (dL (k:=2) (N':=["place","entry","unknown"]) (cap:=[Œ,Œ,Z 1]) S (.ok (show bZ ["entries","unknown"] (ar ki) _ ["place","entry","unknown"] [Œ,Œ,Z 1]=Ŕ by lia)) 'a' (jK (n:=2) (fL (bI 'b') (fL (bI 'b') jC))) (ic S j (ad (dv 0) ak ac)) (λ_ _ _ _ _=>(fe (n:=2) S (cb (bf (i:=0) (show List.Nodup (["place","entry","unknown"]:Y Str)by lia) S T3) (cb (bf (i:=1) (show List.Nodup (["place","entry","unknown"]:Y Str)by lia) S T3) fg)))) (λ_ _ _ _ _=>(mX (aA (cW p.units) (aa 0) (aa 2) (ap _)) ah (dv 1)))))) aT bA) bA ae))),?_⟩;refine ue ((es.set u 0).map D.int) (by rw[eU,Hj,Hj,Hs]) (by rw[eU,Hj];show bu o) (λi y=>((es.set u 0).map D.int)[i]?=Z y) (λi y h=>h) (λi d hd=>?_) q;let⟨e,l,rfl⟩:=gu hd;let⟨x,rfl,a⟩:=bQ l;by_cases c:i=u
 ·subst c;refine⟨S,λ_=>?_,λh=>?_⟩
  ·change ((es.set i 0).map D.int)[i]?=Z (D.int 0);rw[Hy,HV (aB a)];rfl
  ·have h':((i:Int)==(i:Int))=ŕ:=h;rw[Ia]at h';cases h'
 ·refine⟨S,λh=>?_,λ_=>?_⟩
  ·have h':((i:Int)==(u:Int))=Ŕ:=h;have:=eq_of_beq h';omega
  ·change ((es.set u 0).map D.int)[i]?=Z (D.int x);rw[Hy,HP (λe=>c e.symm),a];rfl
noncomputable def cA(es:Y Int):Y Nat:=(List.range es.length).filter λi=>decide (es.getD i 0≠0)
theorem Dv{es:Y Int}{a:Y (œ D)}(c:a.length=es.length)(e:∀i y,a[i]?=Z y->gN (λi=>decide (es.getD i 0≠0)) (λi=>aN i) i y):a.filterMap id=(cA es).map aN:=i7 c e
inductive z_only_unknown(ds:List D)(R:D->Prop):Prop|mk (es:List Int) (u:Nat) (_:ds=[.tup (es.map D.int)]) (_:es.length<=1000) (_:(cA es)[0]?=Z u) (_:R (aN u))
theorem C8(F:Fun K "only_unknown" "only_unknown" kO f J)(c:mg "enumerate"=Œ):FnOk P w K mg base aD (n+1) f J ["entries"] (lSp K z_only_unknown):=by
 refine F.okD xQ (λds R h=>?_) (λr A outer s H E ds R j h=>?_)
 ·let⟨es,u,rfl,_⟩:=h;rfl
 let⟨es,u,rfl,v,l,q⟩:=h;refine⟨_,(az (aV (aw (PD.q (PF.d (lX (k:=2) (N':=["place","entry"]) (cap:=[Œ,Œ]) S (.ok (show bZ ["entries"] (ar kO) _ ["place","entry"] [Œ,Œ]=Ŕ by lia)) 'a' (jK (n:=2) (fL (bI 'b') (fL (bI 'b') jC))) (ic S c (ad (dv 0) ak ac)) (λ_ _ _ _ _=>(fe (n:=2) S (cb (bf (i:=0) (show List.Nodup (["place","entry"]:Y Str)by lia) S T3) (cb (bf (i:=1) (show List.Nodup (["place","entry"]:Y Str)by lia) S T3) fg)))) (λ_ _ _ _ _=>(iK (aA (eC j.units) (aa 1) (PD.q ah) (ap _)))) (λ_ _ _ _ _=>(dv 0)))))))),?_⟩;refine⟨by rw[eU,Hj];show bu (),gN (λi=>decide (es.getD i 0≠0)) (λi=>aN i),λi d hd=>?_,λy a p=>?_⟩
 ·let⟨e,g,rfl⟩:=gu hd;let⟨x,rfl,o⟩:=bQ g;have ex:es.getD i 0=x:=eI o;refine⟨S,λh=>⟨S,?_⟩,λh=>?_⟩
  ·change decide (es.getD i 0≠0)=Ŕ;rw[ex]
   show Ij λe=>by rw[e]at h;cases h
  ·change decide (es.getD i 0≠0)=ŕ;rw[ex];refine HJ λe=>?_;have h':(!(x==0))=ŕ:=h
   have:(x==0)=Ŕ:=by simpa using h'
   show e (eq_of_beq this)
 rw[eU,Hj]at a;rw[Dv a p];show⟨_,cE (i:=0) l S,q⟩
noncomputable def iJ(bs:Y Bd):Nat:=(bs.filter λb=>b.2.isSome).length
noncomputable def fh(bs:Y Bd)(i:Nat):D:=if (aC bs i).2.isSome then .int (bs.length+iJ (bs.take i):Nat) else .non
noncomputable def jH(bs:Y Bd):Y D:=(List.range bs.length).map (fh bs)
theorem rf{bs:Y Bd}{i:Nat}{b:Bd}(h:bs[i]?=Z b):iJ (bs.take (i+1))=iJ (bs.take i)+if b.2.isSome then 1 else 0:=by unfold iJ;rw[i6 h,Kf,Hm];congr 1;cases e:b.2.isSome<;>simp[e]
inductive y_first_most_marks(as:List Sm)(R:Sm->List Om->Prop)(Rx:XD->List Om->Prop):Prop|mk (bs:List Bd) (_:as=[.v (.tup (bs.map aI))]) (_:bs.length<=1000) (_:R (.ob Œ (.lst (jH bs))) [])
theorem yE(F:Fun K "first_most_marks" "first_most_marks" nv f J)(p:mg "len"=Œ):FnOk P w K mg base aD (n+1) f J ["bounds"] (lSpM K y_first_most_marks):=by
 refine F.okM qaw (λas R o h=>?_) (λr A outer s H E as R o z u x h l=>?_)
 ·let⟨bs,rfl,_⟩:=h;rfl
 let⟨bs,rfl,v,q⟩:=h;obtain rfl:=nj l
 refine⟨_,(ao (aO (i:=1) qaw.nd S T3 (dU (eO ak)))
   (ao (aO (i:=2) qaw.nd S T3 (ag (bx cD S p HW (aP (aa 0) aT ac) ac ae)))
   (ao (gb HL S (gD (b8 (dv 0))) (db (i:=3) qaw.nd S T3) (aU (bY (bR (aA fM (PD.q (aw (aa 3))) (PD.q bo) (ap _))) (aU (fZ 1 (ag bo) (ee aL) aL)) (ao (fZ 1 (ag (dv 2)) (ee ac) ac)
   (aU (aO (i:=2) qaw.nd S T3 (ag (aX cy (aa 2) (PD.q ah)))))))))
   (aU (cC (ka 1)))))),?_⟩
 intro y;refine⟨λi ρ=>∃e:œ Sm,ρ=[Z (.v (.tup (bs.map aI))),Z (.own ((List.range i).map (fh bs))),Z (.v (.int (bs.length+iJ (bs.take i):Nat))),e],⟨Œ,?_⟩,?_,?_⟩
 ·change [_,_,_,_]=_
  have:(((bs.map aI).length:Nat):Int)=((bs.length+iJ (bs.take 0):Nat):Int):=by rw[Hj];rfl
  rw[←this];rfl
 ·rintro i d ρ hd ⟨e,rfl⟩;let⟨b,rfl,a⟩:=bQ hd;have g:aC bs i=b:=eI a
  have j:(List.range (i+1)).map (fh bs)=(List.range i).map (fh bs)++[fh bs i]:=by rw[J7,KR];rfl
  have hsz:((List.range i).map (fh bs)).length<sizeLine:=by have:=aB a;rw[Hj,HM];show bu ()
  refine⟨oI b.2,S,?_⟩
  cases c:b.2 with
  |none=>
   refine⟨λ_=>?_,λh=>(by cases h)⟩;refine⟨hsz,_,S,Z (.v (aI b)),?_⟩;rw[j,rf a,c]
   have:fh bs i=.non:=by unfold fh;rw[g,c];rfl
   rw[this];rfl
  |some m=>
   refine⟨λh=>(by cases h),λ_=>?_⟩;refine⟨hsz,_,S,Z (.v (aI b)),?_⟩;rw[j,rf a,c]
   have:fh bs i=.int (bs.length+iJ (bs.take i):Nat):=by unfold fh;rw[g,c];rfl
   rw[this];rfl
 ·rintro ρ ⟨e,rfl⟩;rw[Hj];show q
noncomputable def ef(s:Led)(u:Nat)(e:Int):D:=if 0<e then .tup [s.mm.getD u .non,.int e] else .tup [s.lm.getD u .non,.int (-e)]
inductive z_Ledger__bound_share(ds:List D)(R:D->Prop):Prop|mk (s:Led) (u:Nat) (e:Int) (_:ds=[gP s,aN u,.int e]) (_:u<s.mm.length) (_:u<s.lm.length) (_:R (ef s u e))
theorem xJ(F:Fun K "bound_share" "Ledger.bound_share" nN f J){c:Addr}(a:TxtLedger K mg c):FnOk P w K mg base aD (n+1) f J ["self","unknown","entry"] (lSp K z_Ledger__bound_share):=by
 refine F.okD FP (λds R h=>?_) (λl A outer s H E ds R o h=>?_)
 ·let⟨s,u,e,rfl,_⟩:=h;rfl
 let⟨s,u,e,rfl,g,j,q⟩:=h
 refine⟨_,(dD (bO (aA dS (aa 2) (PD.q ah) (ap _)) (az (aV (bC (ad (br (PD.q (aJ a.cl a.n_most_marks a.ns (aa 0))) (aa 1) (λ_ _=>rfl)) (ad (dv 2) ak ac) aF)))) bV)
   (az (aV (bC (ad (br (PD.q (aJ a.cl a.n_least_marks a.ns (aa 0))) (aa 1) (λ_ _=>rfl)) (ad (eM (aa 2)) ak il) aF))))),?_⟩
 refine⟨λρ=>¬ 0<e/\ρ=[Z (.v (gP s)),Z (.v (aN u)),Z (.v (.int e))],⟨λh=>?_,λh=>⟨?_,S⟩⟩,?_⟩
 ·have h:=dP h;unfold ef at q;rw[Hx h]at q;show⟨S,_,S,s.mm.getD u .non,ge (bP g) S,q⟩
 ·show Iw h
 rintro ρ ⟨hn,rfl⟩;unfold ef at q;rw[Hq hn]at q;show⟨S,_,S,s.lm.getD u .non,ge (bP j) S,q⟩
noncomputable def fR(s:Led)(u:Nat)(l:Int)(rs:Y aq):Led:={ s with st:=s.st.erase u,gn:=s.gn++[(u,l,rs)] }
theorem CT{st:Y Nat}{u:Nat}(h:u∈st):∃k,st[k]?=Z u/\(∀m<k,st[m]?≠Z u)/\st.eraseIdx k=st.erase u:=by
 induction st with
 |nil=>cases h
 |cons x st o=>
  by_cases c:x=u
  ·subst c;show⟨0,S,λm a=>absurd a (IH _),by rw[List.erase_cons_head];rfl⟩
  ·let⟨k,g,j,l⟩:=o ((HH.mp h).resolve_left λe=>c e.symm);refine⟨k+1,g,λm a=>?_,?_⟩
   ·cases m with
    |zero=>intro e;show c (HR e)
    |succ m=>show j m ()
   ·rw[List.erase_cons_tail (by simpa using c),←l];rfl
theorem oo(rs:Y aq):∀d∈rs.map ay,NoL d:=λd hd=>by let⟨r,_,rfl⟩:=HG.mp hd;show .tup (bv (.tup λe a=>by let⟨x,_,rfl⟩:=HG.mp a;show .int x) (bv (.int _) cQ))
theorem lw(r:aq):NoL (ay r):=oo [r] _ (by simp)
theorem j9(st:Y Nat):st.map aN=(st.map λn:Nat=>(n:Int)).map D.int:=by rw[Ip];rfl
inductive y_Ledger__let_go(as:List Sm)(R:Sm->List Om->Prop)(Rx:XD->List Om->Prop):Prop|mk (a:Option Addr) (s:Led) (u:Nat) (l:Int) (rs:List aq) (_:as=[.ob a (bD s),.v (aN u),.v (.int l),.v (.lst (rs.map ay))]) (_:u∈s.st) (_:s.gn.length<1000) (_:R (.v .non) [bD (fR s u l rs)])
theorem EU(F:Fun K "let_go" "Ledger.let_go" le f J){j:Addr}(c:TxtLedger K mg j)(r:mg "tuple"=Œ):FnOk P w K mg base aD (n+1) f J ["self","unknown","least","rows"] (lSpM K y_Ledger__let_go):=by
 refine F.okM wu (λas R p h=>?_) (λG A outer s H E as R p Q I M h o=>?_)
 ·let⟨a,s,u,l,rs,rfl,_⟩:=h;rfl
 let⟨a,s,u,l,rs,rfl,C,L,q⟩:=h;let⟨O,rfl⟩:=dY o
 refine⟨_,(ao (n6 0 c.cl c.n_gone c.ns (bC (ad (dv 1) (ad (dv 2) (ad (cH cX S r Hz (aP (aa 3) aT ac) ac ae) ak bj) ac) ac)) (ee bN) bN)
   (aU (Ga 0 c.cl c.n_staying c.ns (dv 1) (ee ac) ac))),?_⟩
 intro N;refine⟨_,_,s.gn.map jN,S,S,.tup (bv (.int _) (bv (.int _) (bv (.tup (oo rs)) cQ))),by rw[Hj];show bu (),dl { s with gn:=s.gn++[(u,l,rs)] },by rw[show s.gn.map jN++[D.tup [aN u,D.int l,D.tup (rs.map ay)]]=(s.gn++[(u,l,rs)]).map jN from by rw[KR];rfl];rfl,?_⟩;let⟨k,v,y,z⟩:=CT C;refine⟨_,_,s.st.map aN,S,S,s.st.map (λn:Nat=>(n:Int)),u,k,S,j9 s.st,by rw[Hy,v];rfl,λm B e=>?_,dl (fR s u l rs),?_,?_⟩
 ·rw[Hy]at e
  cases g:s.st[m]? with
  |none=>rw[g]at e;cases e
  |some x=>
   rw[g]at e;have:(x:Int)=(u:Int):=HR e;show y m B (by rw[g];congr 1;omega)
 ·rw[mi,z,←j9];rfl
 ·show⟨_,S,q⟩
noncomputable def gm(d:D):D:=.tup [.tup [d,.int 1]]
theorem jm{d:D}(h:NoL d):NoL (gm d):=.tup (bv (.tup (bv h (bv (.int _) cQ))) cQ)
noncomputable def fA(s:Led):D:=.int (s.td+(s.ln.length:Nat))
noncomputable def iL(s:Led)(p:Nat)(r:aq):Led:={ s with ln:=s.ln++[eE (gm (s.rm.getD p .non)) (ba r.1)],rm:=s.rm.set p (fA s),rs:=s.rs.set p (gj r) }
inductive y_Ledger__even_row(as:List Sm)(R:Sm->List Om->Prop)(Rx:XD->List Om->Prop):Prop|mk (a:Option Addr) (s:Led) (p:Nat) (r:aq) (_:as=[.ob a (bD s),.v (aN p)]) (_:s.rs[p]?=Z r) (_:p<s.rm.length) (_:(∀d∈s.rm,NoL d)) (_:s.ln.length<1000) (_:r.1.length<=1000) (_:0<=ba r.1) (_:ba r.1<2^9000) (_:R (.v .non) [bD (iL s p r)])
theorem y8(F:Fun K "even_row" "Ledger.even_row" l8 f J){l:Addr}(c:TxtLedger K mg l)(v:Cl P w K mg base n "evened" ["row"] z_evened)(L:Cl P w K mg base n "common" ["numbers"] z_common)(x:MthM P w K mg base n l "put_line" ["self","shares","divisor"] y_Ledger__put_line):FnOk P w K mg base aD (n+1) f J ["self","place"] (lSpM K y_Ledger__even_row):=by
 refine F.okM qaa (λas R B h=>?_) (λM A outer s H E as R B U N g h y=>?_)
 ·let⟨a,s,p,r,rfl,_⟩:=h;rfl
 let⟨a,s,p,r,rfl,j,e,u,I,z,C,G,q⟩:=h;let⟨Q,rfl⟩:=dY y
 refine⟨_,(ao (aO (i:=2) qaa.nd S T3 (cm (br (PD.q (aJ c.cl c.n_rows c.ns (aa 0))) (aa 1) (λ_ _=>rfl))))
   (ao (iy 0 c.cl c.n_row_marks c.ns (eG 0 x g c.cl c.ns (aH (cm (bC (ad (bC (ad (br (PD.q (aJ c.cl c.n_row_marks c.ns (aa 0))) (aa 1) (λ_ _=>rfl)) (ad ah ak aL) aF)) ak bN))) (aH (ag (bh L g S (ad (aw (aa 2)) ak aF) aF ae)) bc bj) bN) bN (au bj ae)) (dv 1))
   (aU (iy 0 c.cl c.n_rows c.ns (ag (bh v g S (ad (dv 2) ak ac) ac ae)) (dv 1))))),?_⟩
 intro O;have o:s.rm.getD p .non∈s.rm:=cS e;refine⟨S,_,S,ay r,cE j S,lw r,?_⟩;refine⟨⟨_,_,S,S⟩,S,_,S,s.rm.getD p .non,ge (bP e) S,jm (u _ o),_,S,r.1,S,_,S,S,_,s,_,_,S,jm (u _ o),I,?_⟩;rfl';refine⟨_,_,s.rm,S,S,_,p,S,fj e,dl { s with ln:=s.ln++[eE (gm (s.rm.getD p .non)) (ba r.1)],rm:=s.rm.set p (fA s) },S,?_⟩;refine⟨r,S,z,C,G,_,_,s.rs.map ay,S,S,_,p,S,fj (by rw[Hj];show aB j),dl (iL s p r),by rw[←JK];rfl,?_⟩;show⟨_,S,q⟩
noncomputable def fN(a d:Int):Int:=-(-a/d)
noncomputable def dg(s:Led)(p u:Nat)(r:aq):Led:=
 if 0<r.1.getD u 0/\(aC s.bs u).1<fN r.2 ((r.1.getD u 0).natAbs:Int) then { s with bs:=s.bs.set u (fN r.2 ((r.1.getD u 0).natAbs:Int),(aC s.bs u).2),ln:=s.ln++[eE (gm (s.rm.getD p .non)) (r.1.getD u 0)],lm:=s.lm.set u (fA s) }
 else if r.1.getD u 0<0/\(∀m,(aC s.bs u).2=Z m->-fN r.2 ((r.1.getD u 0).natAbs:Int)<m) then { s with bs:=s.bs.set u ((aC s.bs u).1,Z (-fN r.2 ((r.1.getD u 0).natAbs:Int))),ln:=s.ln++[eE (gm (s.rm.getD p .non)) (-r.1.getD u 0)],mm:=s.mm.set u (fA s) }
 else s
noncomputable def bS(s:Led)(p:Nat):Led:={ s with rs:=s.rs.eraseIdx p,rm:=s.rm.eraseIdx p }
noncomputable def kY(s:Led)(p u:Nat)(r:aq):Led:=bS (dg s p u r) p
theorem C1(s:Led)(p u:Nat)(r:aq):(dg s p u r).rs=s.rs/\(dg s p u r).rm=s.rm:=by
 unfold dg;split
 ·show⟨S,S⟩
 ·split<;>show⟨S,S⟩
inductive y_Ledger__turn_to_bound(as:List Sm)(R:Sm->List Om->Prop)(Rx:XD->List Om->Prop):Prop|mk (a:Option Addr) (s:Led) (p u:Nat) (r:aq) (_:as=[.ob a (bD s),.v (aN p)]) (_:s.rs[p]?=Z r) (_:p<s.rm.length) (_:p<1000) (_:(∀d∈s.rm,NoL d)) (_:s.ln.length<1000) (_:r.1.length<=1000) (_:(cA r.1)[0]?=Z u) (_:u<s.bs.length) (_:u<s.lm.length) (_:u<s.mm.length) (_:(∀x∈r.1,x.natAbs<2^9000)) (_:R (.v .non) [bD (kY s p u r)])
theorem DL(F:Fun K "turn_to_bound" "Ledger.turn_to_bound" mC f J){M:Addr}(c:TxtLedger K mg M)(GW:Cl P w K mg base n "only_unknown" ["entries"] z_only_unknown)(qH:Cl P w K mg base n "up" ["top","bottom"] z_up)(L0:MthM P w K mg base n M "drop_row" ["self","place"] y_Ledger__drop_row)(be:MthM P w K mg base n M "put_line" ["self","shares","divisor"] y_Ledger__put_line)(fJ:mg "abs"=Œ):FnOk P w K mg base aD (n+1) f J ["self","place"] (lSpM K y_Ledger__turn_to_bound):=by
 refine F.okM qad (λas R Rx h=>?_) (λL1 A outer s H E as R Rx qs L6 v h Mi=>?_)
 ·let⟨a,s,p,u,r,rfl,_⟩:=h;rfl
 let⟨a,s,p,u,r,rfl,X,Q,Na,hm,L,Ml,hu,B,OG,a_,h9,q⟩:=h;let⟨pa,rfl⟩:=dY Mi
 refine⟨_,(ao (aO (i:=2) qad.nd S T3 (cm (br (PD.q (aJ c.cl c.n_rows c.ns (aa 0))) (aa 1) (λ_ _=>rfl))))
   (ao (aO (i:=3) qad.nd S T3 (cm (br (PD.q (aJ c.cl c.n_row_marks c.ns (aa 0))) (aa 1) (λ_ _=>rfl))))
   (ao (aO (i:=4) qad.nd S T3 (ag (bh GW v S (ad (aw (aa 2)) ak aF) aF ae)))
   (ao (aO (i:=5) qad.nd S T3 (ag (br (PD.q (aw (aa 2))) (aa 4) (λ_ _=>rfl))))
   (ao (aO (i:=6) qad.nd S T3 (cm (br (PD.q (aJ c.cl c.n_bounds c.ns (aa 0))) (aa 4) (λ_ _=>rfl))))
   (ao (aO (i:=7) qad.nd S T3 (ag (bh qH v S (ad (aw (aa 2)) (ad (bx kB S fJ JD (aP (aa 5) aT ac) ac ae) ak bj) aF) aF (au bj ae))))
   (cu (bY (bR (PWD.td (dh (aA dS (aa 5) (PD.q ah) (ap _)) (eP (aA dS (aa 7) (PD.q (aw (aa 6))) (ap _)))))) (ao (iy 0 c.cl c.n_bounds c.ns (ag (bC (ad (dv 7) (ad (aw (aa 6)) ak aF) ac))) (dv 4))
   (aU (iy 0 c.cl c.n_least_marks c.ns (eG 0 be v c.cl c.ns (aH (ag (bC (ad (bC (ad (dv 3) (ad ah ak aL) ac)) ak bN))) (aH (ag (dv 5)) bc ac) bN) bN (au ac ae)) (dv 4)))) (aU (bY (bR (PWD.td (dh (aA gv (aa 5) (PD.q ah) (ap _)) (eP (PWD.td (du (aA fM (PD.q (aw (aa 6))) (PD.q bo) (ap _)) (gf (aA gv (PD.q (eM (aa 7))) (PD.q (aw (aa 6))) (ap _))))))))) (ao (iy 0 c.cl c.n_bounds c.ns (ag (bC (ad (aw (aa 6)) (ad (eM (aa 7)) ak il) aF))) (dv 4))
   (aU (iy 0 c.cl c.n_most_marks c.ns (eG 0 be v c.cl c.ns (aH (ag (bC (ad (bC (ad (dv 3) (ad ah ak aL) ac)) ak bN))) (aH (ag (eM (aa 5))) bc il) bN) bN (au il ae)) (dv 4)))) cq)))
   (aU (fw (eG 0 L0 v c.cl c.ns (aH (ag (dv 1)) bc ac) ac ae)))))))))),?_⟩
 intro ke;have y:NoL (s.rm.getD p .non):=hm _ (cS Q);have T:u∈cA r.1:=Hu hu;let⟨C,b_⟩:=Ir.mp T;have C:u<r.1.length:=HQ.mp C;have MJ:r.1.getD u 0≠0:=IM b_;refine⟨S,_,S,ay r,cE X S,lw r,?_⟩;refine⟨S,_,S,s.rm.getD p .non,ge (bP Q) S,y,?_⟩;refine⟨_,S,r.1,u,S,Ml,hu,?_⟩;refine⟨_,S,_,cE (i:=u) (bP (d:=0) C) S,?_⟩;refine⟨S,_,S,aI (aC s.bs u),e7 B S,.tup (bv (.int _) (bv (by cases (aC s.bs u).2<;>constructor) cQ)),?_⟩
 have Tf:(if r.1.getD u 0<0 then -r.1.getD u 0 else r.1.getD u 0)=((r.1.getD u 0).natAbs:Int):=by split<;>omega
 have O:(((r.1.getD u 0).natAbs:Nat):Int)<2^9000:=by exact_mod_cast h9 _ (cS C)
 refine⟨_,S,r.2,((r.1.getD u 0).natAbs:Int),Il (λz=>[D.int r.2,D.int z]) Tf,(),O,?_⟩;generalize o:r.1.getD u 0=e at *;generalize hb:(-(-r.2/((e.natAbs:Nat):Int)))=b at *;have l:fN r.2 ((e.natAbs:Nat):Int)=b:=hb;refine⟨λρ=>ρ=[Z (.ob (Z pa) (bD (dg s p u r))),Z (.v (aN p)),Z (.v (ay r)),Z (.v (s.rm.getD p .non)),Z (.v (aN u)),Z (.v (.int e)),Z (.v (aI (aC s.bs u))),Z (.v (.int b))],?_,?_⟩
 ·have hs1:s.ln.length<1000:=L;by_cases j:0<e
  ·refine⟨λ_=>⟨_,S,?_⟩,λh=>absurd j (Iw h)⟩;by_cases G:(aC s.bs u).1<b
   ·refine⟨λ_=>?_,λh=>absurd G (Iw h)⟩
    have g:dg s p u r={ s with bs:=s.bs.set u (b,(aC s.bs u).2),ln:=s.ln++[eE (gm (s.rm.getD p .non)) e],lm:=s.lm.set u (fA s) }:=by unfold dg;rw[o,l,Hx ⟨j,G⟩]
    refine⟨_,S,_,_,s.bs.map aI,S,S,_,u,S,fj (by rw[Hj];show B),dl { s with bs:=s.bs.set u (b,(aC s.bs u).2) },by rw[show D.tup [D.int b,oI (aC s.bs u).2]=aI (b,(aC s.bs u).2)from rfl,←JK];rfl,?_⟩;refine⟨⟨_,_,S,S⟩,_,S,S,_,{ s with bs:=s.bs.set u (b,(aC s.bs u).2) },_,_,S,jm y,L,?_⟩;rfl';refine⟨_,_,s.lm,S,S,_,u,S,fj OG,dl (dg s p u r),by rw[g];rfl,S⟩
   ·refine⟨λh=>absurd (dP h) G,λ_=>?_⟩;refine⟨λh=>absurd (dP h) (),λ_=>⟨ff,λ_=>?_⟩⟩
    have g:dg s p u r=s:=by unfold dg;rw[o,l,Hq (λh=>G h.2),Hq (λh=>by omega)]
    rw[g];rfl
  ·refine⟨λh=>absurd (dP h) j,λ_=>⟨ff,λ_=>?_⟩⟩;refine⟨λ_=>⟨oI (aC s.bs u).2,S,?_⟩,λh=>absurd (Iw h) ()⟩
   cases x:(aC s.bs u).2 with
   |none=>
    refine⟨λ_=>⟨λ_=>?_,tf⟩,tf⟩
    have N:∀m,(aC s.bs u).2=Z m->-b<m:=λm h=>by rw[x]at h;cases h
    have g:dg s p u r={ s with bs:=s.bs.set u ((aC s.bs u).1,Z (-b)),ln:=s.ln++[eE (gm (s.rm.getD p .non)) (-e)],mm:=s.mm.set u (fA s) }:=by unfold dg;rw[o,l,Hq (λh=>j h.1),Hx ⟨(),N⟩]
    refine⟨_,S,_,_,s.bs.map aI,S,S,_,u,S,fj (by rw[Hj];show B),dl { s with bs:=s.bs.set u ((aC s.bs u).1,Z (-b)) },by rw[show D.tup [D.int (aC s.bs u).1,D.int (-b)]=aI ((aC s.bs u).1,Z (-b))from rfl,←JK];rfl,?_⟩;refine⟨⟨_,_,S,S⟩,_,S,S,_,{ s with bs:=s.bs.set u ((aC s.bs u).1,Z (-b)) },_,_,S,jm y,L,?_⟩;rfl';refine⟨_,_,s.mm,S,S,_,u,S,fj a_,dl (dg s p u r),by rw[g];rfl,S⟩
   |some m=>
    refine⟨ff,λ_=>⟨D.int m,(Il (λz=>cn [D.int (aC s.bs u).1,oI z] 1) x).trans S,?_⟩⟩;by_cases I:-b<m
    ·refine⟨λ_=>?_,λh=>absurd I (Iw h)⟩
     have N:∀U,(aC s.bs u).2=Z U->-b<U:=λU h=>by rw[x]at h;cases h;show I
     have g:dg s p u r={ s with bs:=s.bs.set u ((aC s.bs u).1,Z (-b)),ln:=s.ln++[eE (gm (s.rm.getD p .non)) (-e)],mm:=s.mm.set u (fA s) }:=by unfold dg;rw[o,l,Hq (λh=>j h.1),Hx ⟨(),N⟩]
     refine⟨_,S,_,_,s.bs.map aI,S,S,_,u,S,fj (by rw[Hj];show B),dl { s with bs:=s.bs.set u ((aC s.bs u).1,Z (-b)) },by rw[show D.tup [D.int (aC s.bs u).1,D.int (-b)]=aI ((aC s.bs u).1,Z (-b))from rfl,←JK];rfl,?_⟩;refine⟨⟨_,_,S,S⟩,_,S,S,_,{ s with bs:=s.bs.set u ((aC s.bs u).1,Z (-b)) },_,_,S,jm y,L,?_⟩;rfl';refine⟨_,_,s.mm,S,S,_,u,S,fj a_,dl (dg s p u r),by rw[g];rfl,S⟩
    ·refine⟨λh=>absurd (dP h) I,λ_=>?_⟩
     have g:dg s p u r=s:=by unfold dg;rw[o,l,Hq (λh=>j h.1),Hq (λh=>I (h.2 m x))]
     rw[g];rfl
 rintro ρ rfl;let⟨t1,t2⟩:=C1 s p u r;show⟨⟨_,_,S,S⟩,_,S,S,_,dg s p u r,p,S,by rw[t1];show aB X,by rw[t2];show Q,Na,_,S,q⟩
noncomputable abbrev bK(rs:Y aq)(p:Nat):aq:=rs.getD p ([],0)
noncomputable def iA(u:Nat)(n:Int)(s:Led)(p:Nat):Led:=
 if (bK s.rs p).1.getD u 0=0 then s else { s with ln:=s.ln++[eE (.tup [.tup [s.rm.getD p .non,.int 1],ef s u ((bK s.rs p).1.getD u 0)]) 1],rm:=s.rm.set p (fA s),rs:=s.rs.set p ((bK s.rs p).1.set u 0,(bK s.rs p).2-(bK s.rs p).1.getD u 0*n) }
noncomputable def dq(s:Led)(u:Nat)(n:Int)(i:Nat):Led:=(List.range i).foldl (iA u n) s
theorem lL(s:Led)(u:Nat)(n:Int)(i:Nat):dq s u n (i+1)=iA u n (dq s u n i) i:=by unfold dq;rw[J7,K9];rfl
noncomputable def bJ(u:Nat)(n:Int)(s:Led):Led:=if s.gl.getD u 0=0 then s else { s with gs:=s.gs++[ef s u (s.gl.getD u 0)],ex:=s.ex+s.gl.getD u 0*n }
noncomputable def fG(s:Led)(u:Nat)(n:Int):Led:=fR (bJ u n (dq s u n s.rs.length)) u n []
structure FixI(s:Led)(i:Nat)(t:Led):Prop where
 rl:t.rs.length=s.rs.length
 ml:t.rm.length=s.rm.length
 ll:t.ln.length<=s.ln.length+i
 at_:∀j,i<=j->t.rs[j]?=s.rs[j]?
 nl:(∀d∈s.rm,NoL d)->∀d∈t.rm,NoL d
 eq:t.bs=s.bs/\t.gl=s.gl/\t.st=s.st/\t.td=s.td/\t.lm=s.lm/\t.mm=s.mm/\t.gs=s.gs/\t.ex=s.ex/\t.gn=s.gn
theorem jw(s:Led)(u:Nat)(n:Int):∀i,FixI s i (dq s u n i)
 |0=>⟨S,S,Hr _,λ_ _=>rfl,λh=>h,S,S,S,S,S,S,S,S,S⟩
 |i+1=>by
  have h:=jw s u n i;rw[lL];generalize dq s u n i=t at h;unfold iA;split
  ·show⟨h.rl,h.ml,by have:=h.ll;omega,λj a=>h.at_ j (),h.nl,h.eq⟩
  ·refine⟨by rw[Hs];show h.rl,by rw[Hs];show h.ml,by rw[Hm,Im];have:=h.ll;omega,λj a=>?_,λhn d hd=>?_,h.eq⟩
   ·change (t.rs.set i _)[j]?=_;rw[HP ()];show h.at_ j ()
   ·rcases J9 hd with hd|rfl
    ·show h.nl hn d hd
    ·show .int _
theorem la{s:Led}{u:Nat}{e:Int}(a:∀d∈s.mm,NoL d)(c:∀d∈s.lm,NoL d)(g:u<s.mm.length)(h:u<s.lm.length):NoL (ef s u e):=by
 unfold ef;split
 ·show .tup (bv (a _ (cS g)) (bv (.int _) cQ))
 ·show .tup (bv (c _ (cS h)) (bv (.int _) cQ))
structure FixP(s:Led)(u:Nat)(n:Int):Prop where
 us:u∈s.st
 um:u<s.mm.length
 ul:u<s.lm.length
 ug:u<s.gl.length
 ml:s.rm.length=s.rs.length
 rl:s.rs.length<=100
 ll:s.ln.length<800
 gl:s.gs.length<1000
 nl:s.gn.length<1000
 bn:cf n
 rr:∀r∈s.rs,u<r.1.length/\r.1.length<=1000/\∀x∈r.1,cf x
 gg:∀x∈s.gl,cf x
 n1:∀d∈s.rm,NoL d
 n2:∀d∈s.mm,NoL d
 n3:∀d∈s.lm,NoL d
inductive y_Ledger__fix(as:List Sm)(R:Sm->List Om->Prop)(Rx:XD->List Om->Prop):Prop|mk (a:Option Addr) (s:Led) (u:Nat) (n:Int) (_:as=[.ob a (bD s),.v (aN u),.v (.int n)]) (_:FixP s u n) (_:R (.v .non) [bD (fG s u n)])
theorem EJ(F:Fun K "fix" "Ledger.fix" nT f J){C:Addr}(g:TxtLedger K mg C)(He:Cl P w K mg base n "without" ["entries","unknown"] z_without)(Mb:MthM P w K mg base n C "let_go" ["self","unknown","least","rows"] y_Ledger__let_go)(LW:MthM P w K mg base n C "put_line" ["self","shares","divisor"] y_Ledger__put_line)(nX:MthD P w K mg base n C "bound_share" ["self","unknown","entry"] z_Ledger__bound_share)(bW:mg "range"=Œ)(bi:mg "len"=Œ):FnOk P w K mg base aD (n+1) f J ["self","unknown","number"] (lSpM K y_Ledger__fix):=by
 refine F.okM qab (λas R Rx h=>?_) (λL1 A outer s H E as R Rx qs L6 l h Mi=>?_)
 ·let⟨a,s,u,m,rfl,_⟩:=h;rfl
 let⟨a,s,u,m,rfl,j,q⟩:=h;let⟨pa,rfl⟩:=dY Mi
 refine⟨_,(ao (gb HL S (rW S bW (aH (cm (bx cD S bi HW (aP (PD.q (aJ g.cl g.n_rows g.ns (aa 0))) aT aG) aG ae)) bc bj)) (db (i:=3) qab.nd S T3) (ao (aO (i:=4) qab.nd S T3 (cm (br (PD.q (aJ g.cl g.n_rows g.ns (aa 0))) (aa 3) (λ_ _=>rfl))))
   (ao (aO (i:=5) qab.nd S T3 (ag (br (PD.q (aw (aa 4))) (aa 1) (λ_ _=>rfl))))
   (aU (bY (bR (aA (eC l.units) (aa 5) (PD.q ah) (ap _))) (ao (aO (i:=6) qab.nd S T3 (cm (bC (ad (bC (ad (br (PD.q (aJ g.cl g.n_row_marks g.ns (aa 0))) (aa 3) (λ_ _=>rfl)) (ad ah ak aL) aF)) (ad (pL nX l g.cl g.ns (dv 0) (ad (dv 1) (ad (dv 5) ak ac) ac) ac (au ac ae)) ak bj) bN))))
   (ao (iy 0 g.cl g.n_row_marks g.ns (eG 0 LW l g.cl g.ns (aH (ag (dv 6)) (aH (ag ah) bc aL) ac) ac (au aL ae)) (dv 3))
   (aU (iy 0 g.cl g.n_rows g.ns (ag (bC (ad (bh He l S (ad (aw (aa 4)) (ad (dv 1) ak ac) aF) aF (au ac ae)) (ad (aX di (PD.q (aw (aa 4))) (PD.q (aX cV (aa 5) (aa 2)))) ak cL) bj))) (dv 3))))) cq)))))
   (ao (aO (i:=7) qab.nd S T3 (cm (br (PD.q (aJ g.cl g.n_goal g.ns (aa 0))) (aa 1) (λ_ _=>rfl))))
   (cu (bY (bR (aA (eC l.units) (aa 7) (PD.q ah) (ap _))) (ao (n6 0 g.cl g.n_goal_shares g.ns (pL nX l g.cl g.ns (dv 0) (ad (dv 1) (ad (dv 7) ak ac) ac) ac (au ac ae)) (ee bj) bj)
   (aU (eX 0 g.cl g.n_extra g.ns (cm (aX cy (PD.q (aJ g.cl g.n_extra g.ns (aa 0))) (PD.q (aX cV (aa 7) (aa 2)))))))) cq)
   (aU (fw (eG 0 Mb l g.cl g.ns (aH (ag (dv 1)) (aH (ag (dv 2)) (aH (ag (PF.d (eO ak))) bc sy) ac) ac) ac (au ac (au sy ae)))))))),?_⟩
 intro ke;have Ml:=j.rl;refine⟨S,_,S,.int _,⟨by rw[Hj];omega,by rw[Hj];omega⟩,λi ρ=>∃L M N B:œ Sm,ρ=[Z (.ob (Z pa) (bD (dq s u m i))),Z (.v (aN u)),Z (.v (.int m)),L,M,N,B,Œ],⟨_,_,_,_,S⟩,?_,?_⟩
 ·rintro i d ρ hd ⟨L,M,N,B,rfl⟩;let⟨hi,rfl⟩:=gQ hd
  have O:i<s.rs.length:=by rw[Hj]at hi;omega
  have I:=jw s u m i;have e1:=lL s u m i;generalize dq s u m i=t at *
  have Q:t.rs[i]?=Z s.rs[i]:=by rw[I.at_ i (Hr _)];show bB O
  have be:bK t.rs i=s.rs[i]:=eI Q;let⟨a_,Tg,OB⟩:=j.rr s.rs[i] (Jw O)
  have b_:i<t.rm.length:=by rw[I.ml,j.ml];show O
  let⟨q1,X,q3,q4,y,z,q7,q8,q9⟩:=I.eq
  have p:u<t.mm.length:=by rw[z];show j.um
  have o:u<t.lm.length:=by rw[y];show j.ul
  have x:NoL (t.rm.getD i .non):=I.nl j.n1 _ (cS b_);have G:∀e,NoL (ef t u e):=λe=>la (by rw[z];show j.n2) (by rw[y];show j.n3) p o;have hll:=I.ll;have hlr:=j.ll;refine⟨S,_,S,ay s.rs[i],cE Q (Io _),lw _,?_⟩;refine⟨_,S,_,cE (i:=u) (bP (d:=0) a_) S,?_⟩;have OH:cf (s.rs[i].1.getD u 0):=OB _ (cS a_);generalize l:s.rs[i]=r at *;generalize v:r.1.getD u 0=e at *;by_cases c:e=0
  ·have e2:dq s u m (i+1)=t:=by rw[e1];unfold iA;rw[be,v,Hx c]
   refine⟨λh=>?_,λ_=>⟨Z (.v (.int (0+(i:Nat)))),Z (.v (ay r)),Z (.v (.int e)),B,by rw[e2];rfl⟩⟩;rw[c]at h;cases h
  ·refine⟨λ_=>?_,λh=>?_⟩
   ·refine⟨S,_,S,t.rm.getD i .non,ge (bP b_) (Io _),S,S,t,u,e,S,p,o,.tup (bv (.tup (bv x (bv (.int _) cQ))) (bv (G e) cQ)),?_⟩;refine⟨⟨_,_,S,S⟩,_,S,S,_,t,_,_,S,.tup (bv (.tup (bv x (bv (.int _) cQ))) (bv (G e) cQ)),(),?_⟩;rfl';refine⟨_,_,t.rm,S,S,_,i,S,by rw[Io];show fj b_,dl { t with ln:=t.ln++[eE (.tup [.tup [t.rm.getD i .non,.int 1],ef t u e]) 1],rm:=t.rm.set i (fA t) },S,?_⟩;refine⟨_,S,r.1,u,S,Tg,_,S,gK OH j.bn,_,_,t.rs.map ay,S,S,_,i,S,by rw[Io,Hj];show fj (aB Q),dl (iA u m t i),?_,?_⟩
    ·unfold iA;rw[be,v,Hq c];rw[show D.tup [D.tup ((r.1.set u 0).map D.int),D.int (r.2-e*m)]=ay (r.1.set u 0,r.2-e*m)from rfl,←JK];rfl
    ·show⟨Z (.v (.int (0+(i:Nat)))),Z (.v (ay r)),Z (.v (.int e)),Z (.v (.tup [.tup [t.rm.getD i .non,.int 1],ef t u e])),by rw[e1];rfl⟩
   ·have h':(!(e==0))=ŕ:=h
    have:(e==0)=Ŕ:=by simpa using h'
    show absurd (eq_of_beq this) c
 ·rintro ρ ⟨L,M,N,B,rfl⟩
  have eL:(cp 0 (((s.rs.map ay).length:Nat):Int).toNat).length=s.rs.length:=by rw[fm,Hj];omega
  rw[eL];have I:=jw s u m s.rs.length;have e0:fG s u m=fR (bJ u m (dq s u m s.rs.length)) u m []:=rfl;generalize dq s u m s.rs.length=t at *;let⟨q1,X,q3,q4,y,z,q7,q8,q9⟩:=I.eq
  have p:u<t.mm.length:=by rw[z];show j.um
  have o:u<t.lm.length:=by rw[y];show j.ul
  have hg:u<t.gl.length:=by rw[X];show j.ug
  have G:∀e,NoL (ef t u e):=λe=>la (by rw[z];show j.n2) (by rw[y];show j.n3) p o;have T:cf (t.gl.getD u 0):=j.gg _ (by rw[←X];show cS hg);refine⟨S,_,S,_,cE (i:=u) (bP (d:=0) hg) S,.int _,?_⟩;refine⟨λρ=>ρ=[Z (.ob (Z pa) (bD (bJ u m t))),Z (.v (aN u)),Z (.v (.int m)),L,M,N,B,Z (.v (.int (t.gl.getD u 0)))],?_,?_⟩
  ·generalize v:t.gl.getD u 0=e at *;by_cases c:e=0
   ·refine⟨λh=>?_,λ_=>?_⟩
    ·rw[c]at h;cases h
    ·have:bJ u m t=t:=by unfold bJ;rw[v,Hx c]
     rw[this];rfl
   ·refine⟨λ_=>?_,λh=>?_⟩
    ·refine⟨_,_,t.gs,S,S,S,S,t,u,e,S,p,o,G e,by rw[q7];show bu (by have:=j.gl;omega),dl { t with gs:=t.gs++[ef t u e] },S,?_⟩;refine⟨S,_,S,gK T j.bn,.int _,_,_,S,S,(by change 12<1000;decide),dl (bJ u m t),?_,S⟩;unfold bJ;rw[v,Hq c];rfl
    ·have h':(!(e==0))=ŕ:=h
     have:(e==0)=Ŕ:=by simpa using h'
     show absurd (eq_of_beq this) c
  rintro ρ rfl
  have Mn:(bJ u m t).st=t.st:=by unfold bJ;split<;>rfl
  have U:(bJ u m t).gn=t.gn:=by unfold bJ;split<;>rfl
  rw[e0]at q;show⟨⟨_,_,S,S⟩,_,S,S,_,bJ u m t,u,m,[],S,by rw[Mn,q3];show j.us,by rw[U,q9];show j.nl,_,S,q⟩
noncomputable def bM(s:Led)(u:Nat):Y Nat:=(List.range s.rs.length).filter λi=>decide ((bK s.rs i).1.getD u 0≠0)
noncomputable def ig(s:Led)(u:Nat):Led:=(bM s u).reverse.foldl bS (fR s u (aC s.bs u).1 ((bM s u).map (bK s.rs)))
theorem rV:∀{c:Y Nat}{n i p:Nat},c.Pairwise (λx y=>y<x)->(∀x∈c,x<n)->c[i]?=Z p->p+i<n
 | [],n,i,p,_,_,h=>by cases h
 |q::t,n,0,p,_,hn,h=>by cases h;show hn _ Ht
 |q::t,n,i+1,p,a,hn,h=>by
  rw[Kg]at a;have:=rV (n:=q) a.2 (λx e=>a.1 x e) (show t[i]?=Z p from h);have:=hn q Ht;omega
theorem uj(s:Led)(u:Nat):(bM s u).reverse.Pairwise (λx y=>y<x):=by rw[LI];show Jz.filter _
theorem oW{s:Led}{u x:Nat}(h:x∈bM s u):x<s.rs.length:=HQ.mp (Ir.mp h).1
theorem ox(s:Led):∀(ps:Y Nat),ps.Pairwise (λx y=>y<x)->(∀x∈ps,x<s.rs.length)->s.rm.length=s.rs.length->(ps.foldl bS s).rs.length=s.rs.length-ps.length/\(ps.foldl bS s).rm.length=s.rs.length-ps.length
 | [],_,_,a=>⟨S,a⟩
 |p::ps,c,h,a=>by
  rw[Kg]at c;have g:=h p Ht;have e:(bS s p).rs.length=s.rs.length-1:=IX g
  have l:(bS s p).rm.length=s.rs.length-1:=by rw[←a];show IX (by rw[a];show g)
  have:=ox (bS s p) ps c.2 (λx j=>by rw[e];have:=c.1 x j;omega) (by rw[e,l]);rw[e]at this;change (ps.foldl bS (bS s p)).rs.length=_/\(ps.foldl bS (bS s p)).rm.length=_;rw[this.1,this.2,HD];omega
structure HangP(s:Led)(u:Nat):Prop where
 us:u∈s.st
 ub:u<s.bs.length
 ml:s.rm.length=s.rs.length
 rl:s.rs.length<=100
 nl:s.gn.length<1000
 rr:∀r∈s.rs,u<r.1.length
inductive y_Ledger__hang(as:List Sm)(R:Sm->List Om->Prop)(Rx:XD->List Om->Prop):Prop|mk (a:Option Addr) (s:Led) (u:Nat) (_:as=[.ob a (bD s),.v (aN u)]) (_:HangP s u) (_:R (.v .non) [bD (ig s u)])
theorem wX(F:Fun K "hang" "Ledger.hang" jq f J){o:Addr}(c:TxtLedger K mg o)(M:MthM P w K mg base n o "let_go" ["self","unknown","least","rows"] y_Ledger__let_go)(I:MthM P w K mg base n o "drop_row" ["self","place"] y_Ledger__drop_row)(qC:mg "reversed"=Œ)(U:mg "enumerate"=Œ):FnOk P w K mg base aD (n+1) f J ["self","unknown"] (lSpM K y_Ledger__hang):=by
 refine F.okM qac (λas R T h=>?_) (λL1 A outer s H E as R T qs L6 y h N=>?_)
 ·let⟨a,s,u,rfl,_⟩:=h;rfl
 let⟨a,s,u,rfl,g,q⟩:=h;let⟨pa,rfl⟩:=dY N
 refine⟨_,(ao (Fu (i:=2) (k:=2) (N':=["place","row","unknown"]) (cap:=[Œ,Œ,Z 1]) S qac.nd S T3 (.ok (show bZ ["self","unknown","places","place"] (ar jq) _ ["place","row","unknown"] [Œ,Œ,Z 1]=Ŕ by lia)) 'a' (jK (n:=2) (fL (bI 'b') (fL (bI 'b') jC))) (ic S U (ad (aJ c.cl c.n_rows c.ns (aa 0)) ak aG)) (λ_ _ _ _ _=>(fe (n:=2) S (cb (bf (i:=0) (show List.Nodup (["place","row","unknown"]:Y Str)by lia) S T3) (cb (bf (i:=1) (show List.Nodup (["place","row","unknown"]:Y Str)by lia) S T3) fg)))) (λ_ _ _ _ _=>(iK (aA (eC y.units) (PD.q (br (PD.q (aw (aa 1))) (aa 2) (λ_ _=>rfl))) (PD.q ah) (ap _)))) (λ_ _ _ _ _=>(dv 0)))
   (jR 2 (ao (fw (eG 0 M y c.cl c.ns (aH (ag (dv 1)) (aH (cm (aw (PD.q (br (PD.q (aJ c.cl c.n_bounds c.ns (aa 0))) (aa 1) (λ_ _=>rfl))))) (aH (uc (vL (dL (k:=1) (N':=["place","self"]) (cap:=[Œ,Z 0]) S (.ok (show bZ ["self","unknown","places","place"] (ar jq) _ ["place","self"] [Œ,Z 0]=Ŕ by lia)) 'a' (bI 'b') (b8 (dv 2)) (λ_ _ _ _ _=>(bf (i:=0) (show List.Nodup (["place","self"]:Y Str)by lia) S T3)) (λ_ _ _ _ _=>(br (PD.q (aJ c.cl c.n_rows c.ns (aa 1))) (aa 0) (λ_ _=>rfl)))))) bc bA) aF) ac) ac (au aF (au bA ae))))
   (aU (gb HL S (gD (Ag S qC (ad (dv 2) ak ac))) (db (i:=3) qac.nd S T3) (aU (fw (eG 0 I y c.cl c.ns (aH (ag (dv 3)) bc ac) ac ae)))))))),?_⟩
 intro ke;have Ml:=g.rl
 have hps:(bM s u).length<=s.rs.length:=by
  have:=Jk (λi=>decide ((bK s.rs i).1.getD u 0≠0)) (List.range s.rs.length)
  rwa [HM]at this
 refine⟨S,_,S,by rw[eU,Hj];show bu (),gN (λi=>decide ((bK s.rs i).1.getD u 0≠0)) (λi=>aN i),λi d hd=>?_,λys C hy=>?_⟩
 ·let⟨e,a_,rfl⟩:=gu hd;let⟨r,rfl,j⟩:=bQ a_;have ex:bK s.rs i=r:=eI j;have b_:=g.rr r (Hu j);refine⟨S,_,S,_,cE (i:=u) (bP (d:=0) b_) S,λh=>⟨S,?_⟩,λh=>?_⟩
  ·change decide ((bK s.rs i).1.getD u 0≠0)=Ŕ;rw[ex]
   show Ij λe=>by rw[e]at h;cases h
  ·change decide ((bK s.rs i).1.getD u 0≠0)=ŕ;rw[ex];refine HJ λe=>?_;have h':(!(r.1.getD u 0==0))=ŕ:=h
   have:(r.1.getD u 0==0)=Ŕ:=by simpa using h'
   show e (eq_of_beq this)
 rw[eU,Hj]at C;rw[show ys.filterMap id=(bM s u).map aN from i7 C hy];refine⟨λd hd=>by let⟨x,_,rfl⟩:=HG.mp hd;show .int _,?_⟩;rfl';refine⟨⟨_,_,S,S⟩,S,_,S,_,e7 g.ub S,_,S,.int _,fC (f:=aN) (λp=>ay (bK s.rs p)) (bu ()) (λp l=>⟨S,_,S,_,cE (bP (oW l)) S,S⟩) ?_⟩;refine⟨λd hd=>?_,_,S,S,_,s,u,(aC s.bs u).1,(bM s u).map (bK s.rs),by rw[Ip];rfl,g.us,g.nl,?_⟩
 ·let⟨x,_,rfl⟩:=HG.mp hd;show lw _
 rfl';have X:ig s u=(bM s u).reverse.foldl bS (fR s u (aC s.bs u).1 ((bM s u).map (bK s.rs))):=rfl;have v:(fR s u (aC s.bs u).1 ((bM s u).map (bK s.rs))).rs=s.rs:=rfl;have O:(fR s u (aC s.bs u).1 ((bM s u).map (bK s.rs))).rm=s.rm:=rfl;generalize fR s u (aC s.bs u).1 ((bM s u).map (bK s.rs))=t at *;have G:=uj s u;have B:∀x∈(bM s u).reverse,x<s.rs.length:=λx j=>oW (Lr.mp j);refine⟨λi ρ=>∃z:œ Sm,ρ=[Z (.ob (Z pa) (bD (((bM s u).reverse.take i).foldl bS t))),Z (.v (aN u)),Z (.v (.lst ((bM s u).map aN))),z],⟨_,S⟩,?_,?_⟩
 ·rintro i d ρ hd ⟨z,rfl⟩;rw[←List.map_reverse]at hd;let⟨p,rfl,l⟩:=bQ hd;have hpi:=rV G B l;have L:=ox t ((bM s u).reverse.take i) (G.sublist (List.take_sublist _ _)) (λx j=>by rw[v];show B x (List.mem_of_mem_take j)) (by rw[v,O];show g.ml)
  have Q:((bM s u).reverse.take i).length=i:=by rw[IB];have:=aB l;omega
  rw[v,Q]at L
  have be:((bM s u).reverse.take (i+1)).foldl bS t=bS (((bM s u).reverse.take i).foldl bS t) p:=by rw[i6 l,K9];rfl
  generalize ((bM s u).reverse.take i).foldl bS t=t2 at *;refine⟨⟨_,_,S,S⟩,_,S,S,_,t2,p,S,(),(),(),?_⟩;rfl';show⟨Z (.v (aN p)),by rw[be];rfl⟩
 ·rintro ρ ⟨z,rfl⟩;rw[KU,Hj,←KU,Ja,←X];show⟨_,S,q⟩
noncomputable def cB(bs:Y Bd)(rs:Y aq)(gs:Y Int):Led:=⟨bs,rs,gs,List.range bs.length,((fT bs rs).length:Nat),[],(List.range bs.length).map aN,jH bs,cp ((fT bs rs).length-(rs.length:Nat)) rs.length,[],0,[]⟩
theorem qK(bs:Y Bd)(rs:Y aq):rs.length<=(fT bs rs).length/\(fT bs rs).length<=2*bs.length+rs.length:=by
 unfold fT;have:=Jk (gH bs) (List.range bs.length);rw[HM]at this;simp only[Hm,Hj,HM];omega
theorem FO(n:Nat):cp 0 n=(List.range n).map aN:=by unfold cp;refine Jg λi _=>?_;rw[Io];rfl
inductive y_Ledger____init__(as:List Sm)(R:Sm->List Om->Prop)(Rx:XD->List Om->Prop):Prop|mk (a:Option Addr) (bs:List Bd) (rs:List aq) (gs:List Int) (_:as=[.ob a (.obj "Ledger" []),.v (bF bs rs gs)]) (_:bs.length<=8) (_:rs.length<=30) (_:R (.v .non) [bD (cB bs rs gs)])
theorem zO(F:Fun K "__init__" "Ledger.__init__" nS f J){v:Addr}(c:TxtLedger K mg v)(x:ClM P w K mg base n "first_most_marks" ["bounds"] y_first_most_marks)(u:Cl P w K mg base n "givens" ["plan"] z_givens)(e:mg "list"=Œ)(j:mg "len"=Œ)(l:mg "range"=Œ):FnOk P w K mg base aD (n+1) f J ["self","plan"] (lSpM K y_Ledger____init__):=by
 refine F.okM GN (λas R B h=>?_) (λM A outer s H E as R B U N r h y=>?_)
 ·let⟨a,bs,rs,gs,rfl,_⟩:=h;rfl
 let⟨a,bs,rs,gs,rfl,I,z,q⟩:=h;let⟨T,rfl⟩:=dY y
 refine⟨_,(ao (gM 0 c.cl c.n_bounds c.ns (dU (qe S e (PD.q (aw (aa 1))) aF)))
   (ao (gM 0 c.cl c.n_rows c.ns (dU (qe S e (PD.q (aw (aa 1))) aF)))
   (ao (eX 0 c.cl c.n_goal c.ns (ag (aw (aa 1))))
   (ao (gM 0 c.cl c.n_staying c.ns (dU (v5 S S e S l (ad (bx cD S j HW (aP (PD.q (aw (aa 1))) aT aF) aF ae) ak bj))))
   (ao (eX 0 c.cl c.n_told c.ns (ag (bx cD S j HW (aP (PD.q (bh u r S (ad (dv 1) ak ac) ac ae)) aT bj) bj ae)))
   (ao (gM 0 c.cl c.n_lines c.ns (dU (eO ak)))
   (ao (gM 0 c.cl c.n_least_marks c.ns (dU (v5 S S e S l (ad (bx cD S j HW (aP (PD.q (aw (aa 1))) aT aF) aF ae) ak bj))))
   (ao (gM 0 c.cl c.n_most_marks c.ns (bE x r S (aH (ag (aw (aa 1))) bc aF) aF ae))
   (ao (gM 0 c.cl c.n_row_marks c.ns (vL (BD S S e S l (ad (aX di (PD.q (aJ c.cl c.n_told c.ns (aa 0))) (PD.q (bx cD S j HW (aP (PD.q (aw (aa 1))) aT aF) aF ae))) (ad (aJ c.cl c.n_told c.ns (aa 0)) ak aG) cL))))
   (ao (gM 0 c.cl c.n_goal_shares c.ns (dU (eO ak)))
   (ao (eX 0 c.cl c.n_extra c.ns (ag ah))
   (aU (gM 0 c.cl c.n_gone c.ns (dU (eO ak))))))))))))))),?_⟩
 intro a_;have Q:=qK bs rs
 have O:((bs.map aI).length:Int)=(bs.length:Int):=by rw[Hj]
 have p:(((bs.map aI).length:Nat):Int).toNat=bs.length:=by rw[Hj];omega
 refine⟨_,S,_,S,_,_,S,S,'b',_,S,?_⟩;refine⟨_,S,_,S,_,_,S,S,(by change 1<1000;decide),_,S,?_⟩;refine⟨_,S,_,_,S,S,(by change 2<1000;decide),_,S,?_⟩;refine⟨_,S,⟨(),()⟩,_,_,S,S,(by change 3<1000;decide),_,S,?_⟩;refine⟨bs,rs,_,S,I,z,_,_,S,S,(by change 4<1000;decide),_,S,?_⟩;refine⟨_,_,S,S,(by change 5<1000;decide),_,S,?_⟩;refine⟨_,S,⟨(),()⟩,_,_,S,S,(by change 6<1000;decide),_,S,?_⟩;refine⟨_,S,_,S,S,bs,S,(),_,_,S,S,(by change 7<1000;decide),_,S,?_⟩;rfl'
 have g:((((fT bs rs).map ay).length:Nat):Int)=((fT bs rs).length:Nat):=by rw[Hj]
 have o:(((rs.map ay).length:Nat):Int)=(rs.length:Nat):=by rw[Hj]
 refine⟨S,_,S,_,S,S,_,S,⟨⟨(),(),(),()⟩,()⟩,λd hd=>?_,_,_,S,S,(by change 8<1000;decide),_,S,?_⟩
 ·let⟨i,L⟩:=IA hd;rw[(gQ L).2];show .int _
 refine⟨_,_,S,S,(by change 9<1000;decide),_,S,?_⟩;refine⟨_,_,S,S,(by change 10<1000;decide),_,S,?_⟩;refine⟨_,_,S,S,(by change 11<1000;decide),dl (cB bs rs gs),?_,?_⟩
 ·have C:cp 0 (((bs.map aI).length:Nat):Int).toNat=(List.range bs.length).map aN:=by rw[p,FO]
  have G:cp (((((fT bs rs).map ay).length:Nat):Int)-(((rs.map ay).length:Nat):Int)) ((((((fT bs rs).map ay).length:Nat):Int)-(((((fT bs rs).map ay).length:Nat):Int)-(((rs.map ay).length:Nat):Int))).toNat)=cp ((fT bs rs).length-(rs.length:Nat)) rs.length:=by rw[g,o];congr 1;omega
  rw[C,G,g];rfl
 ·show⟨_,S,q⟩
noncomputable def iX(b:Bd):Bool:=match b.2 with|some m=>decide (m<b.1)|none=>ŕ
inductive z_is_crossed(ds:List D)(R:D->Prop):Prop|mk (b:Bd) (_:ds=[aI b]) (_:R (.bl (iX b)))
theorem yX(F:Fun K "is_crossed" "is_crossed" mW f J) :FnOk P w K mg base aD (n+1) f J ["pair"] (lSp K z_is_crossed):=by
 refine F.okD BG (λds R h=>?_) (λa A outer s H E ds R c h=>?_)
 ·let⟨b,rfl,_⟩:=h;rfl
 let⟨b,rfl,q⟩:=h;refine⟨_,(az (aV (gC (df cZ (PD.q (aw (aa 0))) (PD.q bo) (ap _)) (jA (df dS (PD.q (aw (aa 0))) (PD.q (aw (aa 0))) (ap _)))))),?_⟩;let⟨l,m⟩:=b
 cases m with
 |none=>show⟨_,S,ff,λ_=>q⟩
 |some m=>show⟨_,S,λ_=>⟨_,S,_,S,q⟩,tf⟩
noncomputable def c8(b:Bd)(e:Int):Int:=if 0<e then e*b.2.getD 0 else if e<0 then e*b.1 else 0
noncomputable def dF(b:Bd)(e:Int):Bool:=!(decide (0<e)&&b.2.isNone)
noncomputable def fD(bs:Y Bd)(es:Y Int):Bool:=(List.zipWith dF bs es).all id
noncomputable def dH(bs:Y Bd)(es:Y Int):œ Int:=if fD bs es then Z (List.zipWith c8 bs es).sum else Œ
noncomputable abbrev iu(b:Bd):Prop:=cf b.1/\∀m,b.2=Z m->cf m
theorem nJ{c e j:Type}{f:c->e->j}{as:Y c}{bs:Y e}{i:Nat}{a:c}{b:e}(g:as[i]?=Z a)(h:bs[i]?=Z b):List.zipWith f (as.take (i+1)) (bs.take (i+1))=List.zipWith f (as.take i) (bs.take i)++[f a b]:=by
 rw[i6 g,i6 h,List.zipWith_append (by rw[IB,IB];have:=aB g;have:=aB h;omega)];rfl
theorem rB{a c e:Type}{f:a->c->e}{as:Y a}{bs:Y c}{n:Nat}(h:n=min as.length bs.length):List.zipWith f (as.take n) (bs.take n)=List.zipWith f as bs:=by
 rw[←List.take_zipWith,Jh (by rw[List.length_zipWith];omega)]
theorem pP{bs:Y Bd}{es:Y Int}{i:Nat}{b:Bd}{e:Int}(a:bs[i]?=Z b)(c:es[i]?=Z e)(h:fD (bs.take i) (es.take i)=Ŕ)(g:dF b e=Ŕ):fD (bs.take (i+1)) (es.take (i+1))=Ŕ:=by unfold fD at h ⊢;rw[nJ a c,List.all_append,h];simp[g]
theorem Bw{bs:Y Bd}{es:Y Int}{i:Nat}{b:Bd}{e:Int}(a:bs[i]?=Z b)(c:es[i]?=Z e)(g:dF b e=ŕ):fD bs es=ŕ:=by unfold fD;rw[List.all_eq_false];refine⟨dF b e,Hu (i:=i) (by rw[JC,a,c]),?_⟩;rw[g];decide
theorem qv{bs:Y Bd}{es:Y Int}{i:Nat}{b:Bd}{e x:Int}(a:bs[i]?=Z b)(c:es[i]?=Z e)(g:c8 b e=x):(List.zipWith c8 (bs.take i) (es.take i)).sum+x=(List.zipWith c8 (bs.take (i+1)) (es.take (i+1))).sum:=by rw[nJ a c,LA,g];simp
inductive z_greatest_sum(ds:List D)(R:D->Prop):Prop|mk (d1 d2:D) (bs:List Bd) (es:List Int) (_:ds=[d1,d2]) (_:eW d1=Z (bs.map aI)) (_:eW d2=Z (es.map D.int)) (_:(∀b∈bs,iu b)) (_:(∀x∈es,cf x)) (_:R (oI (dH bs es)))
theorem Bi(F:Fun K "greatest_sum" "greatest_sum" mM f J)(G:mg "zip"=Œ):FnOk P w K mg base aD (n+1) f J ["bounds","entries"] (lSp K z_greatest_sum):=by
 refine F.okD qaz (λds R h=>?_) (λU A outer s H E ds R T h=>?_)
 ·let⟨p,r,bs,es,rfl,_⟩:=h;rfl
 let⟨p,r,bs,es,rfl,I,L,M,N,q⟩:=h
 refine⟨_,(bp (bX (i:=2) qaz.nd S T3 ah)
   (bp (eT HL S (kg S G (ad (dv 0) (ad (dv 1) ak ac) ac)) (fe (n:=2) S (cb (bf (i:=3) qaz.nd S T3) (cb (bf (i:=4) qaz.nd S T3) fg))) (az (bO (aA dS (aa 4) (PD.q ah) (ap _)) (dD (bO (aA fM (PD.q (aw (aa 3))) (PD.q bo) (ap _)) (az (aV bo)) bV)
   (az (bX (i:=2) qaz.nd S T3 (aX cy (aa 2) (PD.q (aX cV (aa 4) (PD.q (aw (aa 3))))))))) (az (bO (aA gv (aa 4) (PD.q ah) (ap _)) (az (bX (i:=2) qaz.nd S T3 (aX cy (aa 2) (PD.q (aX cV (aa 4) (PD.q (aw (aa 3)))))))) bV)))))
   (az (aV (dv 2))))),?_⟩
 refine⟨_,_,I,L,λi ρ=>∃u v:œ Sl,ρ=[Z (.v p),Z (.v r),Z (.v (.int (List.zipWith c8 (bs.take i) (es.take i)).sum)),u,v]/\fD (bs.take i) (es.take i)=Ŕ,⟨_,_,S,S⟩,?_,?_⟩
 ·rintro i d ρ hd ⟨u,v,rfl,j⟩;rw[ms]at hd;let⟨⟨b,e⟩,rfl,Q⟩:=bQ hd;let⟨a,c⟩:=J5.mp Q;have bb:=M b (Hu a);have y:=N e (Hu c);refine⟨S,?_⟩;by_cases g:0<e
  ·refine⟨λ_=>?_,λh=>absurd g (Iw h)⟩;let⟨l,m⟩:=b
   cases m with
   |none=>
    have z:dH bs es=Œ:=by unfold dH;rw[Bw a c (by unfold dF;simp[g])];rfl
    rw[z]at q;show⟨λ_=>False,⟨_,S,λ_=>q,tf⟩,λρ h=>h.elim⟩
   |some m=>
    refine⟨λρ=>ρ=[Z (.v p),Z (.v r),Z (.v (.int (List.zipWith c8 (bs.take i) (es.take i)).sum)),Z (.v (aI (l,Z m))),Z (.v (.int e))],⟨_,S,ff,λ_=>rfl⟩,?_⟩;rintro ρ rfl;refine⟨_,S,gK y (bb.2 m S),Z (.v (aI (l,Z m))),Z (.v (.int e)),?_,pP a c j (by unfold dF;simp)⟩;rw[←qv a c (x:=e*m) (by unfold c8;rw[Hx g];rfl)];rfl
  ·refine⟨λh=>absurd (dP h) g,λ_=>?_⟩;by_cases o:e<0
   ·refine⟨λ_=>?_,λh=>absurd o (Iw h)⟩;refine⟨_,S,gK y bb.1,Z (.v (aI b)),Z (.v (.int e)),?_,pP a c j (by unfold dF;simp[g])⟩;rw[←qv a c (x:=e*b.1) (by unfold c8;rw[Hq g,Hx o])];rfl
   ·refine⟨λh=>absurd (dP h) o,λ_=>⟨Z (.v (aI b)),Z (.v (.int e)),?_,pP a c j (by unfold dF;simp[g])⟩⟩;rw[←qv a c (x:=0) (by unfold c8;rw[Hq g,Hq o]),Int.add_zero];rfl
 ·rintro ρ ⟨u,v,rfl,j⟩
  have O:(fk (bs.map aI) (es.map D.int)).length=min bs.length es.length:=by rw[ms,Hj,LC]
  rw[O]at j ⊢
  have B:fD bs es=Ŕ:=by unfold fD at j ⊢;rw[rB S]at j;show j
  have C:dH bs es=Z (List.zipWith c8 bs es).sum:=by unfold dH;rw[Hx B]
  rw[C]at q;rw[rB S];show q
noncomputable def gh(bs:Y Bd)(es:Y Int):œ Int:=(dH bs (es.map (- ·))).map (- ·)
inductive z_least_sum(ds:List D)(R:D->Prop):Prop|mk (d1:D) (bs:List Bd) (es:List Int) (_:ds=[d1,.tup (es.map D.int)]) (_:eW d1=Z (bs.map aI)) (_:es.length<=1000) (_:(∀b∈bs,iu b)) (_:(∀x∈es,cf x)) (_:R (oI (gh bs es)))
theorem zg(F:Fun K "least_sum" "least_sum" kR f J)(u:Cl P w K mg base n "greatest_sum" ["bounds","entries"] z_greatest_sum):FnOk P w K mg base aD (n+1) f J ["bounds","entries"] (lSp K z_least_sum):=by
 refine F.okD qaF (λds R h=>?_) (λv A outer s H E ds R o h=>?_)
 ·let⟨a,bs,es,rfl,_⟩:=h;rfl
 let⟨a,bs,es,rfl,c,l,g,j,q⟩:=h
 refine⟨_,(bp (bX (i:=2) qaF.nd S T3 (bh u o S (ad (dv 0) (ad (PF.d (dL (k:=1) (N':=["entry"]) (cap:=[Œ]) S (.ok (show bZ ["bounds","entries","total"] (ar kR) _ ["entry"] [Œ]=Ŕ by lia)) 'a' (bI 'b') (b8 (dv 1)) (λ_ _ _ _ _=>(bf (i:=0) (show List.Nodup (["entry"]:Y Str)by lia) S T3)) (λ_ _ _ _ _=>(eM (aa 0))))) ak bA) ac) ac (au bA ae)))
   (az (aV (mX (aA fM (aa 2) (PD.q bo) (ap _)) bo (eM (aa 2)))))),?_⟩
 refine mq (f:=D.int) (λx=>-x) (bu l) (λx _=>rfl) ?_;refine⟨_,_,bs,es.map (- ·),S,c,S,g,λx p=>?_,?_⟩
 ·let⟨y,r,rfl⟩:=HG.mp p;change (-y).natAbs<_;rw[Int.natAbs_neg];show j y r
 unfold gh at q
 cases e:dH bs (es.map (- ·))with
 |none=>rw[e]at q;show⟨λ_=>q,tf⟩
 |some t=>rw[e]at q;show⟨ff,λ_=>q⟩
noncomputable def oN:œ Nat->D
 |none=>.non
 |some p=>aN p
theorem kL{g:Type}{c:g->Bool}:∀{rs:Y g}{i:Nat}{r:g},rs[i]?=Z r->c r=Ŕ->(∀j a,j<i->rs[j]?=Z a->c a=ŕ)->rs.findIdx? c=Z i
 | [],i,r,h,_,_=>by cases h
 |x::rs,0,r,h,e,_=>by cases h;rw[List.findIdx?_cons,e];rfl
 |x::rs,i+1,r,h,e,hn=>by rw[List.findIdx?_cons,hn 0 x () S,kL (rs:=rs) (i:=i) h e (λj a o l=>hn (j+1) a () l)];rfl
theorem nB{g:Type}{c:g->Bool}{rs:Y g}(hn:∀j e,j<rs.length->rs[j]?=Z e->c e=ŕ):rs.findIdx? c=Œ:=by rw[Le];intro x h;let⟨j,a⟩:=IA h;show hn j x (aB a) a
noncomputable def eK(bs:Y Bd)(r:aq):Bool:=match dH bs r.1 with|some t=>decide (t<r.2)|none=>ŕ
noncomputable def dW(bs:Y Bd)(r:aq):Bool:=match gh bs r.1 with|some t=>decide (r.2<=t)|none=>ŕ
theorem dz{h:Type}{c:h->Bool}{rs:Y h}{i:Nat}{r:h}(hn:∀j a,j<i->rs[j]?=Z a->c a=ŕ)(o:rs[i]?=Z r)(l:c r=ŕ):∀j a,j<i+1->rs[j]?=Z a->c a=ŕ:=λj a p g=>by
 by_cases e:j=i
 ·rw[e,o]at g;cases g;show l
 ·show hn j a () g
structure RowsP(bs:List Bd)(rs:List aq):Prop where
 bb:∀b∈bs,iu b
 rr:∀r∈rs,r.1.length<=1000/\∀x∈r.1,cf x
inductive z_hopeless_row(ds:List D)(R:D->Prop):Prop|mk (bs:List Bd) (rs:List aq) (_:ds=[.lst (bs.map aI),.lst (rs.map ay)]) (_:RowsP bs rs) (_:R (oN (rs.findIdx? (eK bs))))
theorem GE(F:Fun K "hopeless_row" "hopeless_row" mz f J)(G:Cl P w K mg base n "greatest_sum" ["bounds","entries"] z_greatest_sum)(y:mg "enumerate"=Œ):FnOk P w K mg base aD (n+1) f J ["bounds","rows"] (lSp K z_hopeless_row):=by
 refine F.okD qaB (λds R h=>?_) (λI A outer s H E ds R B h=>?_)
 ·let⟨bs,rs,rfl,_⟩:=h;rfl
 let⟨bs,rs,rfl,p,q⟩:=h
 refine⟨_,(bp (eT HL S (ic S y (ad (dv 1) ak ac)) (fe (n:=2) S (cb (bf (i:=2) qaB.nd S T3) (cb (bf (i:=3) qaB.nd S T3) fg))) (bp (bX (i:=4) qaB.nd S T3 (bh G B S (ad (dv 0) (ad (aw (aa 3)) ak aF) ac) ac (au aF ae)))
   (az (bO (PWD.td (dh (aA cZ (aa 4) (PD.q bo) (ap _)) (eP (aA gv (aa 4) (PD.q (aw (aa 3))) (ap _))))) (az (aV (dv 2))) bV))))
   (az (aV bo))),?_⟩
 refine⟨λi ρ=>∃g l o:œ Sl,ρ=[Z (.v (.lst (bs.map aI))),Z (.v (.lst (rs.map ay))),g,l,o]/\∀j u,j<i->rs[j]?=Z u->eK bs u=ŕ,⟨_,_,_,S,λj _ z=>absurd z (IH _)⟩,?_,?_⟩
 ·rintro i d ρ hd ⟨g,l,o,rfl,hn⟩;let⟨x,C,rfl⟩:=gu hd;let⟨r,rfl,c⟩:=bQ C;let⟨L,v⟩:=p.rr r (Hu c);refine⟨S,_,S,_,_,bs,r.1,S,S,S,p.bb,v,?_⟩
  cases e:dH bs r.1 with
  |none=>
   have a:eK bs r=ŕ:=by unfold eK;rw[e]
   show⟨ff,λ_=>⟨ff,λ_=>⟨_,_,_,S,dz hn c a⟩⟩⟩
  |some t=>
   refine⟨λ_=>⟨_,S,λh=>?_,λh=>?_⟩,tf⟩
   ·have a:eK bs r=Ŕ:=by unfold eK;rw[e];show h
    rw[kL c a hn]at q;show q
   ·have a:eK bs r=ŕ:=by unfold eK;rw[e];show h
    show⟨_,_,_,S,dz hn c a⟩
 ·rintro ρ ⟨g,l,o,rfl,hn⟩;rw[eU,Hj]at hn;rw[nB hn]at q;show q
inductive z_idle_row(ds:List D)(R:D->Prop):Prop|mk (bs:List Bd) (rs:List aq) (_:ds=[.lst (bs.map aI),.lst (rs.map ay)]) (_:RowsP bs rs) (_:R (oN (rs.findIdx? (dW bs))))
theorem x8(F:Fun K "idle_row" "idle_row" mR f J)(v:Cl P w K mg base n "least_sum" ["bounds","entries"] z_least_sum)(B:mg "enumerate"=Œ):FnOk P w K mg base aD (n+1) f J ["bounds","rows"] (lSp K z_idle_row):=by
 refine F.okD qaD (λds R h=>?_) (λL A outer s H E ds R G h=>?_)
 ·let⟨bs,rs,rfl,_⟩:=h;rfl
 let⟨bs,rs,rfl,p,q⟩:=h
 refine⟨_,(bp (eT HL S (ic S B (ad (dv 1) ak ac)) (fe (n:=2) S (cb (bf (i:=2) qaD.nd S T3) (cb (bf (i:=3) qaD.nd S T3) fg))) (bp (bX (i:=4) qaD.nd S T3 (bh v G S (ad (dv 0) (ad (aw (aa 3)) ak aF) ac) ac (au aF ae)))
   (az (bO (PWD.td (dh (aA cZ (aa 4) (PD.q bo) (ap _)) (eP (aA jI (aa 4) (PD.q (aw (aa 3))) (ap _))))) (az (aV (dv 2))) bV))))
   (az (aV bo))),?_⟩
 refine⟨λi ρ=>∃g l o:œ Sl,ρ=[Z (.v (.lst (bs.map aI))),Z (.v (.lst (rs.map ay))),g,l,o]/\∀j u,j<i->rs[j]?=Z u->dW bs u=ŕ,⟨_,_,_,S,λj _ C=>absurd C (IH _)⟩,?_,?_⟩
 ·rintro i d ρ hd ⟨g,l,o,rfl,hn⟩;let⟨x,I,rfl⟩:=gu hd;let⟨r,rfl,c⟩:=bQ I;let⟨y,z⟩:=p.rr r (Hu c);refine⟨S,_,S,_,bs,r.1,S,S,y,p.bb,z,?_⟩
  cases e:gh bs r.1 with
  |none=>
   have a:dW bs r=ŕ:=by unfold dW;rw[e]
   show⟨ff,λ_=>⟨ff,λ_=>⟨_,_,_,S,dz hn c a⟩⟩⟩
  |some t=>
   refine⟨λ_=>⟨_,S,λh=>?_,λh=>?_⟩,tf⟩
   ·have a:dW bs r=Ŕ:=by unfold dW;rw[e];show h
    rw[kL c a hn]at q;show q
   ·have a:dW bs r=ŕ:=by unfold dW;rw[e];show h
    show⟨_,_,_,S,dz hn c a⟩
 ·rintro ρ ⟨g,l,o,rfl,hn⟩;rw[eU,Hj]at hn;rw[nB hn]at q;show q
theorem jr{c:Nat->Bool}:∀{st:Y Nat}{i u:Nat},st[i]?=Z u->c u=Ŕ->(∀j u',j<i->st[j]?=Z u'->c u'=ŕ)->st.find? c=Z u
 | [],i,u,h,_,_=>by cases h
 |x::st,0,u,h,a,_=>by cases h;rw[Jm,a]
 |x::st,i+1,u,h,a,hn=>by rw[Jm,hn 0 x () S];show jr (st:=st) (i:=i) h a (λj u' g e=>hn (j+1) u' () e)
theorem jQ{c:Nat->Bool}{st:Y Nat}(hn:∀j u',j<st.length->st[j]?=Z u'->c u'=ŕ):st.find? c=Œ:=by rw[List.find?_eq_none];intro x e h;let⟨j,a⟩:=IA e;rw[hn j x (aB a) a]at h;cases h
noncomputable def gw(bs:Y Bd)(u:Nat):Bool:=iX (aC bs u)
inductive z_crossed_unknown(ds:List D)(R:D->Prop):Prop|mk (bs:List Bd) (st:List Nat) (_:ds=[.lst (bs.map aI),.lst (st.map aN)]) (_:(∀u∈st,u<bs.length)) (_:R (oN (st.find? (gw bs))))
theorem A6(F:Fun K "crossed_unknown" "crossed_unknown" lx f J)(o:Cl P w K mg base n "is_crossed" ["pair"] z_is_crossed):FnOk P w K mg base aD (n+1) f J ["bounds","staying"] (lSp K z_crossed_unknown):=by
 refine F.okD qat (λds R h=>?_) (λp A outer s H E ds R g h=>?_)
 ·let⟨bs,st,rfl,_⟩:=h;rfl
 let⟨bs,st,rfl,l,q⟩:=h
 refine⟨_,(bp (eT HL S (b8 (dv 1)) (bf (i:=2) qat.nd S T3) (az (bO (b7 (PD.q (bh o g S (ad (br (aa 0) (aa 2) (λ_ _=>rfl)) ak aF) aF ae)) (λ_=>rfl)) (az (aV (dv 2))) bV)))
   (az (aV bo))),?_⟩
 refine⟨λi ρ=>∃c:œ Sl,ρ=[Z (.v (.lst (bs.map aI))),Z (.v (.lst (st.map aN))),c]/\∀j u',j<i->st[j]?=Z u'->gw bs u'=ŕ,⟨_,S,λj _ e=>absurd e (IH _)⟩,?_,?_⟩
 ·rintro i d ρ hd ⟨c,rfl,hn⟩;let⟨u,rfl,a⟩:=bQ hd;refine⟨_,e7 (l u (Hu a)) S,aC bs u,S,λh=>?_,λh=>?_⟩
  ·rw[jr a h hn]at q;show q
  ·show⟨_,S,dz hn a h⟩
 ·rintro ρ ⟨c,rfl,hn⟩;rw[Hj]at hn;rw[jQ hn]at q;show q
noncomputable def dO(bs:Y Bd)(u:Nat):Bool:=match (aC bs u).2 with|some m=>decide ((aC bs u).1=m)|none=>ŕ
inductive z_fixed_unknown(ds:List D)(R:D->Prop):Prop|mk (bs:List Bd) (st:List Nat) (_:ds=[.lst (bs.map aI),.lst (st.map aN)]) (_:(∀u∈st,u<bs.length)) (_:R (oN (st.find? (dO bs))))
theorem x9(F:Fun K "fixed_unknown" "fixed_unknown" lq f J) :FnOk P w K mg base aD (n+1) f J ["bounds","staying"] (lSp K z_fixed_unknown):=by
 refine F.okD qax (λds R h=>?_) (λx A outer s H E ds R r h=>?_)
 ·let⟨bs,st,rfl,_⟩:=h;rfl
 let⟨bs,st,rfl,v,q⟩:=h
 refine⟨_,(bp (eT HL S (b8 (dv 1)) (bf (i:=2) qax.nd S T3) (az (bO (aA (A3 r.units) (PD.q (aw (PD.q (br (aa 0) (aa 2) (λ_ _=>rfl))))) (PD.q (aw (PD.q (br (aa 0) (aa 2) (λ_ _=>rfl))))) (ap _)) (az (aV (dv 2))) bV)))
   (az (aV bo))),?_⟩
 refine⟨λi ρ=>∃l:œ Sl,ρ=[Z (.v (.lst (bs.map aI))),Z (.v (.lst (st.map aN))),l]/\∀j u',j<i->st[j]?=Z u'->dO bs u'=ŕ,⟨_,S,λj _ p=>absurd p (IH _)⟩,?_,?_⟩
 ·rintro i d ρ hd ⟨l,rfl,hn⟩;let⟨u,rfl,c⟩:=bQ hd;have o:=v u (Hu c);refine⟨_,e7 o S,_,S,_,e7 o S,oI (aC bs u).2,S,?_⟩
  cases g:(aC bs u).2 with
  |none=>
   have a:dO bs u=ŕ:=by unfold dO;rw[g]
   show⟨ff,λ_=>⟨_,S,dz hn c a⟩⟩
  |some m=>
   refine⟨λh=>?_,λh=>?_⟩
   ·have a:dO bs u=Ŕ:=by unfold dO;rw[g];show Ij (eq_of_beq h)
    rw[jr c a hn]at q;show q
   ·have a:dO bs u=ŕ:=by
     unfold dO;rw[g];refine HJ λe=>?_;have h':((aC bs u).1==m)=ŕ:=h;rw[e,Ia]at h';cases h'
    show⟨_,S,dz hn c a⟩
 ·rintro ρ ⟨l,rfl,hn⟩;rw[Hj]at hn;rw[jQ hn]at q;show q
noncomputable def gT(rs:Y aq)(u:Nat):Bool:=rs.any λr=>decide (0<r.1.getD u 0)
noncomputable def fu(rs:Y aq)(u:Nat):Bool:=rs.any λr=>decide (r.1.getD u 0<0)
inductive z_has_above(ds:List D)(R:D->Prop):Prop|mk (rs:List aq) (u:Nat) (_:ds=[.lst (rs.map ay),aN u]) (_:rs.length<=1000) (_:(∀r∈rs,u<r.1.length)) (_:R (.bl (gT rs u)))
theorem Fc(F:Fun K "has_above" "has_above" jY f J)(e:mg "any"=Œ):FnOk P w K mg base aD (n+1) f J ["rows","unknown"] (lSp K z_has_above):=by
 refine F.okD Gd (λds R h=>?_) (λl A outer s H E ds R o h=>?_)
 ·let⟨rs,u,rfl,_⟩:=h;rfl
 let⟨rs,u,rfl,g,j,q⟩:=h;refine⟨_,(az (aV (bx (iS S) S e I0 (aP (PD.q (PF.d (dL (k:=1) (N':=["row","unknown"]) (cap:=[Œ,Z 1]) S (.ok (show bZ ["rows","unknown"] (ar jY) _ ["row","unknown"] [Œ,Z 1]=Ŕ by lia)) 'a' (bI 'b') (b8 (dv 0)) (λ_ _ _ _ _=>(bf (i:=0) (show List.Nodup (["row","unknown"]:Y Str)by lia) S T3)) (λ_ _ _ _ _=>(df dS (PD.q (br (PD.q (aw (aa 0))) (aa 1) (λ_ _=>rfl))) (PD.q ah) (ap _)))))) aT bA) bA ae))),?_⟩;refine fC (f:=ay) (λr=>D.bl (decide (0<r.1.getD u 0))) (bu g) (λr a=>⟨_,S,_,cE (i:=u) (bP (d:=0) (j r a)) S,S⟩) ?_
 have c:((rs.map λr=>decide (0<r.1.getD u 0)).any id)=gT rs u:=by unfold gT;rw[JV];rfl
 refine⟨rs.map λr=>decide (0<r.1.getD u 0),by rw[Ip];rfl,?_⟩;show (Il (λz=>R (.bl z)) c).mpr q
inductive z_has_below(ds:List D)(R:D->Prop):Prop|mk (rs:List aq) (u:Nat) (_:ds=[.lst (rs.map ay),aN u]) (_:rs.length<=1000) (_:(∀r∈rs,u<r.1.length)) (_:R (.bl (fu rs u)))
theorem Bx(F:Fun K "has_below" "has_below" j7 f J)(e:mg "any"=Œ):FnOk P w K mg base aD (n+1) f J ["rows","unknown"] (lSp K z_has_below):=by
 refine F.okD DJ (λds R h=>?_) (λl A outer s H E ds R o h=>?_)
 ·let⟨rs,u,rfl,_⟩:=h;rfl
 let⟨rs,u,rfl,g,j,q⟩:=h;refine⟨_,(az (aV (bx (iS S) S e I0 (aP (PD.q (PF.d (dL (k:=1) (N':=["row","unknown"]) (cap:=[Œ,Z 1]) S (.ok (show bZ ["rows","unknown"] (ar j7) _ ["row","unknown"] [Œ,Z 1]=Ŕ by lia)) 'a' (bI 'b') (b8 (dv 0)) (λ_ _ _ _ _=>(bf (i:=0) (show List.Nodup (["row","unknown"]:Y Str)by lia) S T3)) (λ_ _ _ _ _=>(df gv (PD.q (br (PD.q (aw (aa 0))) (aa 1) (λ_ _=>rfl))) (PD.q ah) (ap _)))))) aT bA) bA ae))),?_⟩;refine fC (f:=ay) (λr=>D.bl (decide (r.1.getD u 0<0))) (bu g) (λr a=>⟨_,S,_,cE (i:=u) (bP (d:=0) (j r a)) S,S⟩) ?_
 have c:((rs.map λr=>decide (r.1.getD u 0<0)).any id)=fu rs u:=by unfold fu;rw[JV];rfl
 refine⟨rs.map λr=>decide (r.1.getD u 0<0),by rw[Ip];rfl,?_⟩;show (Il (λz=>R (.bl z)) c).mpr q
noncomputable def eu(bs:Y Bd)(rs:Y aq)(gl:Y Int)(u:Nat):Bool:=!iX (aC bs u)&&decide (gl.getD u 0<=0)&&!gT rs u
structure StayP(bs:List Bd)(rs:List aq)(gl:List Int)(st:List Nat):Prop where
 sb:∀u∈st,u<bs.length
 sg:∀u∈st,u<gl.length
 rl:rs.length<=1000
 sr:∀u∈st,∀r∈rs,u<r.1.length
inductive z_sinking_unknown(ds:List D)(R:D->Prop):Prop|mk (bs:List Bd) (rs:List aq) (gl:List Int) (st:List Nat) (_:ds=[.lst (bs.map aI),.lst (rs.map ay),.tup (gl.map D.int),.lst (st.map aN)]) (_:StayP bs rs gl st) (_:R (oN (st.find? (eu bs rs gl))))
theorem Ac(F:Fun K "sinking_unknown" "sinking_unknown" mQ f J)(y:Cl P w K mg base n "is_crossed" ["pair"] z_is_crossed)(r:Cl P w K mg base n "has_above" ["rows","unknown"] z_has_above):FnOk P w K mg base aD (n+1) f J ["bounds","rows","goal","staying"] (lSp K z_sinking_unknown):=by
 refine F.okD qaJ (λds R h=>?_) (λz A outer s H E ds R p h=>?_)
 ·let⟨bs,rs,gl,st,rfl,_⟩:=h;rfl
 let⟨bs,rs,gl,st,rfl,c,q⟩:=h
 refine⟨_,(bp (eT HL S (b8 (dv 3)) (bf (i:=4) qaJ.nd S T3) (az (bO (PWD.td (dh (cF (b7 (PD.q (bh y p S (ad (br (aa 0) (aa 4) (λ_ _=>rfl)) ak aF) aF ae)) (λ_=>rfl))) (dh (aA tI (PD.q (br (aa 2) (aa 4) (λ_ _=>rfl))) (PD.q ah) (ap _)) (eP (cF (b7 (PD.q (bh r p S (ad (dv 1) (ad (dv 4) ak ac) ac) ac (au ac ae))) (λ_=>rfl))))))) (az (aV (dv 4))) bV)))
   (az (aV bo))),?_⟩
 refine⟨λi ρ=>∃o:œ Sl,ρ=[Z (.v (.lst (bs.map aI))),Z (.v (.lst (rs.map ay))),Z (.v (.tup (gl.map D.int))),Z (.v (.lst (st.map aN))),o]/\∀j u',j<i->st[j]?=Z u'->eu bs rs gl u'=ŕ,⟨_,S,λj _ x=>absurd x (IH _)⟩,?_,?_⟩
 ·rintro i d ρ hd ⟨o,rfl,hn⟩;let⟨u,rfl,a⟩:=bQ hd;have l:=Hu a;refine⟨_,e7 (c.sb u l) S,aC bs u,S,λh=>⟨_,cE (i:=u) (bP (d:=0) (c.sg u l)) S,λe=>⟨rs,u,S,c.rl,c.sr u l,λg=>?_,λg=>?_⟩,λe=>⟨ff,λ_=>?_⟩⟩,λh=>⟨ff,λ_=>?_⟩⟩
  ·have v:eu bs rs gl u=Ŕ:=by unfold eu;rw[h,e,g];rfl
   rw[jr a v hn]at q;show q
  ·show⟨_,S,dz hn a (by unfold eu;rw[g,JI])⟩
  ·show⟨_,S,dz hn a (by unfold eu;rw[e,JI,Js])⟩
  ·show⟨_,S,dz hn a (by unfold eu;rw[h,Js,Js])⟩
 ·rintro ρ ⟨o,rfl,hn⟩;rw[Hj]at hn;rw[jQ hn]at q;show q
noncomputable def eJ(bs:Y Bd)(rs:Y aq)(gl:Y Int)(u:Nat):Bool:=(aC bs u).2.isSome&&!iX (aC bs u)&&decide (0<=gl.getD u 0)&&!fu rs u
inductive z_rising_unknown(ds:List D)(R:D->Prop):Prop|mk (bs:List Bd) (rs:List aq) (gl:List Int) (st:List Nat) (_:ds=[.lst (bs.map aI),.lst (rs.map ay),.tup (gl.map D.int),.lst (st.map aN)]) (_:StayP bs rs gl st) (_:R (oN (st.find? (eJ bs rs gl))))
theorem xg(F:Fun K "rising_unknown" "rising_unknown" mt f J)(z:Cl P w K mg base n "is_crossed" ["pair"] z_is_crossed)(B:Cl P w K mg base n "has_below" ["rows","unknown"] z_has_below):FnOk P w K mg base aD (n+1) f J ["bounds","rows","goal","staying"] (lSp K z_rising_unknown):=by
 refine F.okD qaG (λds R h=>?_) (λC A outer s H E ds R v h=>?_)
 ·let⟨bs,rs,gl,st,rfl,_⟩:=h;rfl
 let⟨bs,rs,gl,st,rfl,c,q⟩:=h
 refine⟨_,(bp (eT HL S (b8 (dv 3)) (bf (i:=4) qaG.nd S T3) (bp (bX (i:=5) qaG.nd S T3 (br (aa 0) (aa 4) (λ_ _=>rfl)))
   (az (bO (PWD.td (dh (aA cZ (PD.q (aw (aa 5))) (PD.q bo) (ap _)) (dh (cF (b7 (PD.q (bh z v S (ad (dv 5) ak ac) ac ae)) (λ_=>rfl))) (dh (aA jI (PD.q (br (aa 2) (aa 4) (λ_ _=>rfl))) (PD.q ah) (ap _)) (eP (cF (b7 (PD.q (bh B v S (ad (dv 1) (ad (dv 4) ak ac) ac) ac (au ac ae))) (λ_=>rfl)))))))) (az (aV (dv 4))) bV))))
   (az (aV bo))),?_⟩
 refine⟨λi ρ=>∃o p:œ Sl,ρ=[Z (.v (.lst (bs.map aI))),Z (.v (.lst (rs.map ay))),Z (.v (.tup (gl.map D.int))),Z (.v (.lst (st.map aN))),o,p]/\∀j u',j<i->st[j]?=Z u'->eJ bs rs gl u'=ŕ,⟨_,_,S,λj _ y=>absurd y (IH _)⟩,?_,?_⟩
 ·rintro i d ρ hd ⟨o,p,rfl,hn⟩;let⟨u,rfl,a⟩:=bQ hd;have l:=Hu a;refine⟨_,e7 (c.sb u l) S,oI (aC bs u).2,S,?_⟩
  cases r:(aC bs u).2 with
  |none=>show⟨ff,λ_=>⟨ff,λ_=>⟨_,_,S,dz hn a (by unfold eJ;rw[r];rfl)⟩⟩⟩
  |some mm=>
   refine⟨λ_=>⟨aC bs u,S,λh=>⟨_,cE (i:=u) (bP (d:=0) (c.sg u l)) S,λe=>⟨rs,u,S,c.rl,c.sr u l,λg=>?_,λg=>?_⟩,λe=>⟨ff,λ_=>?_⟩⟩,λh=>⟨ff,λ_=>?_⟩⟩,tf⟩
   ·have x:eJ bs rs gl u=Ŕ:=by unfold eJ;rw[r,h,e,g];rfl
    rw[jr a x hn]at q;show q
   ·show⟨_,_,S,dz hn a (by unfold eJ;rw[g,JI])⟩
   ·show⟨_,_,S,dz hn a (by unfold eJ;rw[e,JI,Js])⟩
   ·show⟨_,_,S,dz hn a (by unfold eJ;rw[h,JI,Js,Js])⟩
 ·rintro ρ ⟨o,p,rfl,hn⟩;rw[Hj]at hn;rw[jQ hn]at q;show q
noncomputable def eR(bs:Y Bd)(rs:Y aq)(gl:Y Int)(u:Nat):Bool:=(aC bs u).2.isNone&&(gl.getD u 0==0)&&!fu rs u
inductive z_hanging_unknown(ds:List D)(R:D->Prop):Prop|mk (bs:List Bd) (rs:List aq) (gl:List Int) (st:List Nat) (_:ds=[.lst (bs.map aI),.lst (rs.map ay),.tup (gl.map D.int),.lst (st.map aN)]) (_:StayP bs rs gl st) (_:R (oN (st.find? (eR bs rs gl))))
theorem BW(F:Fun K "hanging_unknown" "hanging_unknown" k8 f J)(y:Cl P w K mg base n "has_below" ["rows","unknown"] z_has_below):FnOk P w K mg base aD (n+1) f J ["bounds","rows","goal","staying"] (lSp K z_hanging_unknown):=by
 refine F.okD qaA (λds R h=>?_) (λz A outer s H E ds R r h=>?_)
 ·let⟨bs,rs,gl,st,rfl,_⟩:=h;rfl
 let⟨bs,rs,gl,st,rfl,c,q⟩:=h
 refine⟨_,(bp (eT HL S (b8 (dv 3)) (bf (i:=4) qaA.nd S T3) (az (bO (PWD.td (dh (aA fM (PD.q (aw (PD.q (br (aa 0) (aa 4) (λ_ _=>rfl))))) (PD.q bo) (ap _)) (dh (aA (cW r.units) (PD.q (br (aa 2) (aa 4) (λ_ _=>rfl))) (PD.q ah) (ap _)) (eP (cF (b7 (PD.q (bh y r S (ad (dv 1) (ad (dv 4) ak ac) ac) ac (au ac ae))) (λ_=>rfl))))))) (az (aV (dv 4))) bV)))
   (az (aV bo))),?_⟩
 refine⟨λi ρ=>∃o:œ Sl,ρ=[Z (.v (.lst (bs.map aI))),Z (.v (.lst (rs.map ay))),Z (.v (.tup (gl.map D.int))),Z (.v (.lst (st.map aN))),o]/\∀j u',j<i->st[j]?=Z u'->eR bs rs gl u'=ŕ,⟨_,S,λj _ x=>absurd x (IH _)⟩,?_,?_⟩
 ·rintro i d ρ hd ⟨o,rfl,hn⟩;let⟨u,rfl,a⟩:=bQ hd;have l:=Hu a;refine⟨_,e7 (c.sb u l) S,oI (aC bs u).2,S,?_⟩
  cases p:(aC bs u).2 with
  |some mm=>show⟨ff,λ_=>⟨ff,λ_=>⟨_,S,dz hn a (by unfold eR;rw[p];rfl)⟩⟩⟩
  |none=>
   refine⟨λ_=>⟨_,cE (i:=u) (bP (d:=0) (c.sg u l)) S,λe=>⟨rs,u,S,c.rl,c.sr u l,λg=>?_,λg=>?_⟩,λe=>⟨ff,λ_=>?_⟩⟩,tf⟩
   ·have v:eR bs rs gl u=Ŕ:=by unfold eR;rw[p,e,g];rfl
    rw[jr a v hn]at q;show q
   ·show⟨_,S,dz hn a (by unfold eR;rw[g,JI])⟩
   ·show⟨_,S,dz hn a (by unfold eR;rw[e,JI,Js])⟩
 ·rintro ρ ⟨o,rfl,hn⟩;rw[Hj]at hn;rw[jQ hn]at q;show q
noncomputable def c9(r:aq):Bool:=decide (1<ba r.1)
inductive z_uneven_row(ds:List D)(R:D->Prop):Prop|mk (rs:List aq) (_:ds=[.lst (rs.map ay)]) (_:R (oN (rs.findIdx? c9)))
theorem Dm(F:Fun K "uneven_row" "uneven_row" na f J)(v:Cl P w K mg base n "common" ["numbers"] z_common)(l:mg "enumerate"=Œ):FnOk P w K mg base aD (n+1) f J ["rows"] (lSp K z_uneven_row):=by
 refine F.okD qaM (λds R h=>?_) (λy A outer s H E ds R p h=>?_)
 ·let⟨rs,rfl,_⟩:=h;rfl
 let⟨rs,rfl,q⟩:=h
 refine⟨_,(bp (eT HL S (ic S l (ad (dv 0) ak ac)) (fe (n:=2) S (cb (bf (i:=1) qaM.nd S T3) (cb (bf (i:=2) qaM.nd S T3) fg))) (az (bO (aA dS (PD.q (bh v p S (ad (aw (aa 2)) ak aF) aF ae)) (PD.q ah) (ap _)) (az (aV (dv 1))) bV)))
   (az (aV bo))),?_⟩
 refine⟨λi ρ=>∃a c:œ Sl,ρ=[Z (.v (.lst (rs.map ay))),a,c]/\∀j g,j<i->rs[j]?=Z g->c9 g=ŕ,⟨_,_,S,λj _ o=>absurd o (IH _)⟩,?_,?_⟩
 ·rintro i d ρ hd ⟨a,c,rfl,hn⟩;let⟨x,u,rfl⟩:=gu hd;let⟨r,rfl,e⟩:=bQ u;refine⟨S,_,S,r.1,S,λh=>?_,λh=>?_⟩
  ·rw[kL e h hn]at q;show q
  ·show⟨_,_,S,dz hn e h⟩
 ·rintro ρ ⟨a,c,rfl,hn⟩;rw[eU,Hj]at hn;rw[nB hn]at q;show q
noncomputable def fX(r:aq):Bool:=decide ((cA r.1).length=1)
inductive z_single_row(ds:List D)(R:D->Prop):Prop|mk (rs:List aq) (_:ds=[.lst (rs.map ay)]) (_:(∀r∈rs,r.1.length<=1000)) (_:R (oN (rs.findIdx? fX)))
theorem Fd(F:Fun K "single_row" "single_row" jT f J)(C:mg "enumerate"=Œ)(B:mg "len"=Œ):FnOk P w K mg base aD (n+1) f J ["rows"] (lSp K z_single_row):=by
 refine F.okD qaI (λds R h=>?_) (λO A outer s H E ds R v h=>?_)
 ·let⟨rs,rfl,_⟩:=h;rfl
 let⟨rs,rfl,M,q⟩:=h
 refine⟨_,(bp (eT HL S (ic S C (ad (dv 0) ak ac)) (fe (n:=2) S (cb (bf (i:=1) qaI.nd S T3) (cb (bf (i:=2) qaI.nd S T3) fg))) (az (bO (aA (cW v.units) (PD.q (bx cD S B HW (aP (PD.q (PF.d (lX (k:=1) (N':=["entry"]) (cap:=[Œ]) S (.ok (show bZ ["rows","place","row"] (ar jT) _ ["entry"] [Œ]=Ŕ by lia)) 'a' (bI 'b') (b8 (aw (aa 2))) (λ_ _ _ _ _=>(bf (i:=0) (show List.Nodup (["entry"]:Y Str)by lia) S T3)) (λ_ _ _ _ _=>(iK (aA (eC v.units) (aa 0) (PD.q ah) (ap _)))) (λ_ _ _ _ _=>(dv 0))))) aT bA) bA ae)) (PD.q ah) (ap _)) (az (aV (dv 1))) bV)))
   (az (aV bo))),?_⟩
 refine⟨λi ρ=>∃o p:œ Sl,ρ=[Z (.v (.lst (rs.map ay))),o,p]/\∀j y,j<i->rs[j]?=Z y->fX y=ŕ,⟨_,_,S,λj _ L=>absurd L (IH _)⟩,?_,?_⟩
 ·rintro i d ρ hd ⟨o,p,rfl,hn⟩;let⟨x,l,rfl⟩:=gu hd;let⟨r,rfl,c⟩:=bQ l;have z:=M r (Hu c);refine⟨S,_,S,by rw[Hj];show bu z,gN (λi=>decide (r.1.getD i 0≠0)) (λi=>D.int (r.1.getD i 0)),λk d hd=>?_,λa u N=>?_⟩
  ·let⟨x,rfl,l⟩:=bQ hd;have ex:r.1.getD k 0=x:=eI l;refine⟨λh=>⟨?_,?_⟩,λh=>?_⟩
   ·change D.int x=D.int (r.1.getD k 0);rw[ex]
   ·change decide (r.1.getD k 0≠0)=Ŕ;rw[ex]
    show Ij λe=>by rw[e]at h;cases h
   ·change decide (r.1.getD k 0≠0)=ŕ;rw[ex];refine HJ λe=>?_;have h':(!(x==0))=ŕ:=h
    have:(x==0)=Ŕ:=by simpa using h'
    show e (eq_of_beq this)
  rw[Hj]at u;have I:a.filterMap id=(cA r.1).map (λi=>D.int (r.1.getD i 0)):=i7 u N
  have G:(a.filterMap id).length=(cA r.1).length:=by rw[I,Hj]
  refine⟨λh=>?_,λh=>?_⟩
  ·have h':((((a.filterMap id).length:Nat):Int)==1)=Ŕ:=h
   have g:fX r=Ŕ:=by
    unfold fX;have:=eq_of_beq h';show Ij ()
   rw[kL c g hn]at q;show q
  ·have h':((((a.filterMap id).length:Nat):Int)==1)=ŕ:=h
   have g:fX r=ŕ:=by unfold fX;refine HJ λe=>?_;rw[G,e]at h';cases h'
   show⟨_,_,S,dz hn c g⟩
 ·rintro ρ ⟨o,p,rfl,hn⟩;rw[eU,Hj]at hn;rw[nB hn]at q;show q
structure Dbl(rs:List aq)(j i:Nat)(a b:aq):Prop where
 ji:j<i
 ja:rs[j]?=Z a
 ib:rs[i]?=Z b
 eq:a.1=b.1
 no:∀k l x y,k<l->l<i->rs[k]?=Z x->rs[l]?=Z y->x.1≠y.1
noncomputable def kI(es:Y Int):Y av:=es.map à
theorem D4{a b:Y Int}(h:kI a=kI b):a=b:=List.map_inj_right (f:=(à:Int->av)) (λ_ _ e=>Ć e)|>.mp h
theorem lB(es:Y Int):es.map D.int=(kI es).map gk:=by unfold kI;rw[Ip];rfl
structure Came(rs:List aq)(i:Nat)(LV:List (List av×D)):Prop where
 ln:LV.length<=i
 at_:∀es,(bw LV (kI es)=Œ/\∀j r,j<i->rs[j]?=Z r->r.1≠es)\/∃j r,j<i/\rs[j]?=Z r/\r.1=es/\bw LV (kI es)=Z (aN j)
 no:∀k l x y,k<l->l<i->rs[k]?=Z x->rs[l]?=Z y->x.1≠y.1
theorem Came.next{rs:Y aq}{i:Nat}{g:Y (Y av×D)}{r:aq}(h:Came rs i g)(p:rs[i]?=Z r)(hn:bw g (kI r.1)=Œ)(v:∀j x,j<i->rs[j]?=Z x->x.1≠r.1):Came rs (i+1) (io g (kI r.1) (aN i)):=by
 refine⟨?_,λes=>?_,λk l x y z C a u=>?_⟩
 ·rw[wo hn,Hm,Im];have:=h.ln;omega
 ·rw[AL];by_cases c:r.1=es
  ·subst c;show .inr ⟨i,r,(),p,S,by rw[Hx S]⟩
  ·rw[Hq λe=>c (D4 e).symm];rcases h.at_ es with⟨o,A⟩|⟨j,x,B,a,e,o⟩
   ·refine .inl ⟨o,λj x B a=>?_⟩;by_cases e:j=i
    ·rw[e,p]at a;cases a;show c
    ·show A j x () a
   ·show .inr ⟨j,x,(),a,e,o⟩
 ·by_cases e:l=i
  ·rw[e,p]at u;cases u;show v k x () a
  ·show h.no k l x y z () a u
inductive z_doubled_row(ds:List D)(R:D->Prop):Prop|mk (rs:List aq) (_:ds=[.lst (rs.map ay)]) (_:rs.length<=1000) (_:(∀r∈rs,r.1.length<=30)) (_:((∀(k l:Nat)(x y:aq),k<l->rs[k]?=Z x->rs[l]?=Z y->x.1≠y.1)->R .non)) (_:∀j i a b,Dbl rs j i a b->R (aN (if a.2<b.2 then j else i)))
theorem Bz(F:Fun K "doubled_row" "doubled_row" nQ f J)(b_:mg "enumerate"=Œ):FnOk P w K mg base aD (n+1) f J ["rows"] (lSpM K (zM z_doubled_row)):=by
 refine F.okM qau (λas R Q h=>?_) (λa_ A outer s H E as R Q qs L6 z h N=>?_)
 ·let⟨_,rfl,rs,rfl,_⟩:=h;rfl
 let⟨_,rfl,rs,rfl,L,Ml,X,be⟩:=h;obtain rfl:=nj N
 refine⟨_,(ao (aO (i:=1) qau.nd S T3 GU)
   (ao (gb HL S (gD (ic S b_ (ad (dv 0) ak ac))) (iR (n:=2) S (e5 (db (i:=2) qau.nd S T3) (e5 (db (i:=3) qau.nd S T3) i8))) (cu (bY (yx 1 z.units (aw (aa 3))) (ao (aO (i:=4) qau.nd S T3 (yw 1 z.units (aw (aa 3)) (λ_ _=>rfl)))
   (aU (cC (ag (mX (aA gv (PD.q (aw (PD.q (br (aa 0) (aa 4) (λ_ _=>rfl))))) (PD.q (aw (aa 3))) (ap _)) (dv 4) (dv 2)))))) cq)
   (aU (Eb 1 z.units (aw (aa 3)) (dv 2)))))
   (aU (cC (ag bo))))),?_⟩
 intro ke;refine⟨λi ρ=>∃(a:Y (Y av×D))(C G o:œ Sm),ρ=[Z (.v (.lst (rs.map ay))),Z (.ob Œ (.mpT a)),C,G,o]/\Came rs i a,⟨[],_,_,_,S,Hr _,λes=>.inl ⟨S,λj _ v=>absurd v (IH _)⟩,λ_ _ _ _ _ L=>absurd L (IH _)⟩,?_,?_⟩
 ·rintro i d ρ hd ⟨a,C,G,o,rfl,c⟩;let⟨x,B,rfl⟩:=gu hd;let⟨r,rfl,u⟩:=bQ B;have Oe:=aB u;refine⟨S,?_⟩;rcases c.at_ r.1 with⟨g,T⟩|⟨j,x,v,I,e,g⟩
  ·refine⟨λρ=>ρ=[Z (.v (.lst (rs.map ay))),Z (.ob Œ (.mpT a)),Z (.v (aN i)),Z (.v (ay r)),o],⟨_,S,kI r.1,Il D.tup (lB r.1),?_⟩,?_⟩
   ·change ((ŕ != (bw a (kI r.1)).isSome)=Ŕ->_)/\((ŕ != (bw a (kI r.1)).isSome)=ŕ->_);rw[g];show⟨ff,λ_=>rfl⟩
   rintro ρ rfl;refine⟨trivial,_,S,kI r.1,Il D.tup (lB r.1),?_⟩;refine⟨bu (by have:=c.ln;omega),_,S,_,Z (.v (aN i)),Z (.v (ay r)),o,S,c.next u g T⟩
  ·refine⟨λ_=>False,⟨_,S,kI r.1,Il D.tup (lB r.1),?_⟩,λρ h=>h.elim⟩;change ((ŕ != (bw a (kI r.1)).isSome)=Ŕ->_)/\((ŕ != (bw a (kI r.1)).isSome)=ŕ->_);rw[g];refine⟨λ_=>⟨_,S,kI r.1,Il D.tup (lB r.1),aN j,g,?_⟩,tf⟩;have U:Dbl rs j i x r:=⟨v,I,u,e,c.no⟩;have p:=be j i x r U;refine⟨_,cE (i:=j) I S,_,S,_,S,λh=>?_,λh=>?_⟩
   ·rw[Hx (dP h)]at p;show p
   ·rw[Hq (Iw h)]at p;show p
 ·rintro ρ ⟨a,C,G,o,rfl,c⟩;rw[eU,Hj]at c;show X λk l x y O B M=>c.no k l x y O (aB M) B M
structure LedP(n:Nat)(s:Led):Prop where
 n8:n<=8
 bl:s.bs.length=n
 gl:s.gl.length=n
 ll:s.lm.length=n
 ml:s.mm.length=n
 sl:∀u∈s.st,u<n
 nd:s.st.Nodup
 rl:s.rs.length<=30
 rm:s.rm.length=s.rs.length
 rr:∀r∈s.rs,r.1.length=n/\(∀x∈r.1,x.natAbs<2^9000)/\0<=ba r.1/\ba r.1<2^9000
 bb:∀b∈s.bs,iu b
 gg:∀x∈s.gl,cf x
 ln:s.ln.length<700
 gs:s.gs.length<=8
 gn:s.gn.length<=8
 n1:∀d∈s.rm,NoL d
 n2:∀d∈s.mm,NoL d
 n3:∀d∈s.lm,NoL d
 n4:∀d∈s.ln,NoL d
theorem pb{x:Int}(h:x.natAbs<2^9000):cf x:=KH h (Jo 'b' 'b')
theorem LedP.rows{n:Nat}{s:Led}(h:LedP n s):RowsP s.bs s.rs:=⟨h.bb,λr a=>⟨by rw[(h.rr r a).1];have:=h.n8;omega,λx c=>pb ((h.rr r a).2.1 x c)⟩⟩
noncomputable def qL(rs:Y aq):Prop:=∀(k l:Nat)(x y:aq),k<l->rs[k]?=Z x->rs[l]?=Z y->x.1≠y.1
inductive RowSt(s:Led):Bool->Led->Prop where
 |idle {p:Nat}:s.rs.findIdx? (dW s.bs)=Z p->RowSt s Ŕ (bS s p)
 |single {p u:Nat} {r:aq}:s.rs.findIdx? (dW s.bs)=Œ->s.rs.findIdx? fX=Z p->s.rs[p]?=Z r->(cA r.1)[0]?=Z u->RowSt s Ŕ (kY s p u r)
 |uneven {p:Nat} {r:aq}:s.rs.findIdx? (dW s.bs)=Œ->s.rs.findIdx? fX=Œ->s.rs.findIdx? c9=Z p->s.rs[p]?=Z r->RowSt s Ŕ (iL s p r)
 |doubled {j i:Nat} {a b:aq}:s.rs.findIdx? (dW s.bs)=Œ->s.rs.findIdx? fX=Œ->s.rs.findIdx? c9=Œ->Dbl s.rs j i a b->RowSt s Ŕ (bS s (if a.2<b.2 then j else i))
 |no:s.rs.findIdx? (dW s.bs)=Œ->s.rs.findIdx? fX=Œ->s.rs.findIdx? c9=Œ->qL s.rs->RowSt s ŕ s
theorem iN{a:Type}{c:a->Bool}{rs:Y a}{p:Nat}(h:rs.findIdx? c=Z p):∃r,rs[p]?=Z r/\c r=Ŕ:=by let⟨g,e,_⟩:=List.findIdx?_eq_some_iff_getElem.mp h;show⟨rs[p],IC g,e⟩
theorem iI(o:œ Nat):NoL (oN o):=by cases o<;>constructor
inductive y_row_struck(as:List Sm)(R:Sm->List Om->Prop)(Rx:XD->List Om->Prop):Prop|mk (a:Option Addr) (n:Nat) (s:Led) (_:as=[.ob a (bD s)]) (_:LedP n s) (_:∀b s',RowSt s b s'->R (.v (.bl b)) [bD s'])
theorem yN(F:Fun K "row_struck" "row_struck" lR f J){C:Addr}(c:TxtLedger K mg C)(U:Cl P w K mg base n "idle_row" ["bounds","rows"] z_idle_row)(T:Cl P w K mg base n "single_row" ["rows"] z_single_row)(X:Cl P w K mg base n "uneven_row" ["rows"] z_uneven_row)(be:Cl P w K mg base n "doubled_row" ["rows"] z_doubled_row)(O:MthM P w K mg base n C "drop_row" ["self","place"] y_Ledger__drop_row)(Mj:MthM P w K mg base n C "turn_to_bound" ["self","place"] y_Ledger__turn_to_bound)(a_:MthM P w K mg base n C "even_row" ["self","place"] y_Ledger__even_row):FnOk P w K mg base aD (n+1) f J ["ledger"] (lSpM K y_row_struck):=by
 refine F.okM qaH (λas R Rx h=>?_) (λL1 A outer s H E as R Rx qs L6 l h Mi=>?_)
 ·let⟨a,k,s,rfl,_⟩:=h;rfl
 let⟨a,k,s,rfl,e,q⟩:=h;let⟨I,rfl⟩:=dY Mi
 refine⟨_,(ao (aO (i:=1) qaH.nd S T3 (cm (bh U l S (ad (aJ c.cl c.n_bounds c.ns (aa 0)) (ad (aJ c.cl c.n_rows c.ns (aa 0)) ak aG) aG) aG (au aG ae))))
   (cu (bY (bR (aA cZ (aa 1) (PD.q bo) (ap _))) (ao (fw (eG 0 O l c.cl c.ns (aH (ag (dv 1)) bc ac) ac ae))
   (aU (cC (ag ce)))) cq)
   (ao (aO (i:=1) qaH.nd S T3 (cm (bh T l S (ad (aJ c.cl c.n_rows c.ns (aa 0)) ak aG) aG ae)))
   (cu (bY (bR (aA cZ (aa 1) (PD.q bo) (ap _))) (ao (fw (eG 0 Mj l c.cl c.ns (aH (ag (dv 1)) bc ac) ac ae))
   (aU (cC (ag ce)))) cq)
   (ao (aO (i:=1) qaH.nd S T3 (cm (bh X l S (ad (aJ c.cl c.n_rows c.ns (aa 0)) ak aG) aG ae)))
   (cu (bY (bR (aA cZ (aa 1) (PD.q bo) (ap _))) (ao (fw (eG 0 a_ l c.cl c.ns (aH (ag (dv 1)) bc ac) ac ae))
   (aU (cC (ag ce)))) cq)
   (ao (aO (i:=1) qaH.nd S T3 (cm (bh be l S (ad (aJ c.cl c.n_rows c.ns (aa 0)) ak aG) aG ae)))
   (cu (bY (bR (aA cZ (aa 1) (PD.q bo) (ap _))) (ao (fw (eG 0 O l c.cl c.ns (aH (ag (dv 1)) bc ac) ac ae))
   (aU (cC (ag ce)))) cq)
   (aU (cC (ag ce))))))))))),?_⟩
 intro ke;have h8:=e.n8;have Ml:=e.rl
 have Sq:∀r∈s.rs,r.1.length<=1000:=λr l=>by rw[(e.rr r l).1];omega
 refine⟨S,_,S,S,_,S,s.bs,s.rs,S,e.rows,iI _,?_⟩
 cases u:s.rs.findIdx? (dW s.bs)with
 |some p=>
  let⟨r,g,_⟩:=iN u;refine⟨λ_=>False,⟨λ_=>?_,tf⟩,λρ h=>h.elim⟩;refine⟨⟨_,_,S,S⟩,_,S,S,_,s,p,S,aB g,by rw[e.rm];show aB g,by have:=aB g;omega,?_⟩;rfl';show⟨_,S,q _ _ (.idle u)⟩
 |none=>
  refine⟨λρ=>ρ=[Z (.ob (Z I) (bD s)),Z (.v .non)],⟨ff,λ_=>rfl⟩,?_⟩;rintro ρ rfl;refine⟨S,_,S,s.rs,S,Sq,iI _,?_⟩
  cases v:s.rs.findIdx? fX with
  |some p=>
   let⟨r,g,Q⟩:=iN v;have o:=aB g;have M7:(cA r.1).length=1:=IM Q;have N:(cA r.1)[0]?=Z ((cA r.1)[0]'()):=IC ();let⟨rn,b_,z,B⟩:=e.rr r (Hu g)
   have L:(cA r.1)[0]'()<k:=by have:=HQ.mp (Ir.mp (Hu N)).1;omega
   refine⟨λ_=>False,⟨λ_=>?_,tf⟩,λρ h=>h.elim⟩;refine⟨⟨_,_,S,S⟩,_,S,S,_,s,p,_,r,S,g,by rw[e.rm];show o,(),e.n1,by have:=e.ln;omega,(),N,by rw[e.bl];show L,by rw[e.ll];show L,by rw[e.ml];show L,b_,?_⟩;rfl';show⟨_,S,q _ _ (.single u v g N)⟩
  |none=>
   refine⟨λρ=>ρ=[Z (.ob (Z I) (bD s)),Z (.v .non)],⟨ff,λ_=>rfl⟩,?_⟩;rintro ρ rfl;refine⟨S,_,S,s.rs,S,iI _,?_⟩
   cases G:s.rs.findIdx? c9 with
   |some p=>
    let⟨r,g,Q⟩:=iN G;have o:=aB g;let⟨rn,b_,z,B⟩:=e.rr r (Hu g);refine⟨λ_=>False,⟨λ_=>?_,tf⟩,λρ h=>h.elim⟩;refine⟨⟨_,_,S,S⟩,_,S,S,_,s,p,r,S,g,by rw[e.rm];show o,e.n1,by have:=e.ln;omega,(),z,B,?_⟩;rfl';show⟨_,S,q _ _ (.uneven u v G g)⟩
   |none=>
    refine⟨λρ=>ρ=[Z (.ob (Z I) (bD s)),Z (.v .non)],⟨ff,λ_=>rfl⟩,?_⟩;rintro ρ rfl;refine⟨S,_,S,s.rs,S,(),λr l=>by rw[(e.rr r l).1];omega,λMQ=>⟨.non,?_⟩,λj i x y M=>⟨.int _,?_⟩⟩
    ·refine⟨λρ=>ρ=[Z (.ob (Z I) (bD s)),Z (.v .non)],⟨ff,λ_=>rfl⟩,?_⟩;rintro ρ rfl;show⟨_,S,q _ _ (.no u v G MQ)⟩
    ·have o:(if x.2<y.2 then j else i)<s.rs.length:=by
      have:=aB M.ib;have:=M.ji;split<;>omega
     have hR:=RowSt.doubled (s:=s) u v G M;generalize (if x.2<y.2 then j else i)=p at *;refine⟨λ_=>False,⟨λ_=>?_,tf⟩,λρ h=>h.elim⟩;refine⟨⟨_,_,S,S⟩,_,S,S,_,s,p,S,o,by rw[e.rm];show o,(),?_⟩;rfl';show⟨_,S,q _ _ hR⟩
inductive UnkSt(s:Led):Bool->Led->Prop where
 |fixed {u:Nat}:s.st.find? (dO s.bs)=Z u->UnkSt s Ŕ (fG s u (aC s.bs u).1)
 |sink {u:Nat}:s.st.find? (dO s.bs)=Œ->s.st.find? (eu s.bs s.rs s.gl)=Z u->UnkSt s Ŕ (fG s u (aC s.bs u).1)
 |rise {u:Nat} {m:Int}:s.st.find? (dO s.bs)=Œ->s.st.find? (eu s.bs s.rs s.gl)=Œ->s.st.find? (eJ s.bs s.rs s.gl)=Z u->(aC s.bs u).2=Z m->UnkSt s Ŕ (fG s u m)
 |hang {u:Nat}:s.st.find? (dO s.bs)=Œ->s.st.find? (eu s.bs s.rs s.gl)=Œ->s.st.find? (eJ s.bs s.rs s.gl)=Œ->s.st.find? (eR s.bs s.rs s.gl)=Z u->UnkSt s Ŕ (ig s u)
 |no:s.st.find? (dO s.bs)=Œ->s.st.find? (eu s.bs s.rs s.gl)=Œ->s.st.find? (eJ s.bs s.rs s.gl)=Œ->s.st.find? (eR s.bs s.rs s.gl)=Œ->UnkSt s ŕ s
theorem LedP.stay{n:Nat}{s:Led}(h:LedP n s):StayP s.bs s.rs s.gl s.st:=⟨λu a=>by rw[h.bl];show h.sl u a,λu a=>by rw[h.gl];show h.sl u a,by have:=h.rl;omega,λu a r c=>by rw[(h.rr r c).1];show h.sl u a⟩
theorem LedP.fix{n:Nat}{s:Led}(h:LedP n s){u:Nat}{m:Int}(c:u∈s.st)(e:cf m):FixP s u m:=by
 have hn:=h.sl u c;have:=h.n8;have:=h.rl;have:=h.ln;have:=h.gs;have:=h.gn;show⟨c,by rw[h.ml];show hn,by rw[h.ll];show hn,by rw[h.gl];show hn,h.rm,(),(),(),(),e,λr a=>⟨by rw[(h.rr r a).1];show hn,by rw[(h.rr r a).1];omega,λx g=>pb ((h.rr r a).2.1 x g)⟩,h.gg,h.n1,h.n2,h.n3⟩
theorem LedP.hang{n:Nat}{s:Led}(h:LedP n s){u:Nat}(a:u∈s.st):HangP s u:=
 ⟨a,by rw[h.bl];show h.sl u a,h.rm,by have:=h.rl;omega,by have:=h.gn;omega,λr c=>by rw[(h.rr r c).1];show h.sl u a⟩
theorem LedP.low{n:Nat}{s:Led}(h:LedP n s){u:Nat}(a:u∈s.st):iu (aC s.bs u):=h.bb _ (cS (by rw[h.bl];show h.sl u a))
inductive y_unknown_struck(as:List Sm)(R:Sm->List Om->Prop)(Rx:XD->List Om->Prop):Prop|mk (a:Option Addr) (n:Nat) (s:Led) (_:as=[.ob a (bD s)]) (_:LedP n s) (_:∀b s',UnkSt s b s'->R (.v (.bl b)) [bD s'])
theorem A7(F:Fun K "unknown_struck" "unknown_struck" nq f J){B:Addr}(c:TxtLedger K mg B)(Q:Cl P w K mg base n "fixed_unknown" ["bounds","staying"] z_fixed_unknown)(T:Cl P w K mg base n "rising_unknown" ["bounds","rows","goal","staying"] z_rising_unknown)(O:Cl P w K mg base n "hanging_unknown" ["bounds","rows","goal","staying"] z_hanging_unknown)(b_:Cl P w K mg base n "sinking_unknown" ["bounds","rows","goal","staying"] z_sinking_unknown)(N:MthM P w K mg base n B "fix" ["self","unknown","number"] y_Ledger__fix)(X:MthM P w K mg base n B "hang" ["self","unknown"] y_Ledger__hang):FnOk P w K mg base aD (n+1) f J ["ledger"] (lSpM K y_unknown_struck):=by
 refine F.okM qaN (λas R Rx h=>?_) (λL1 A outer s H E as R Rx qs L6 p h be=>?_)
 ·let⟨a,k,s,rfl,_⟩:=h;rfl
 let⟨a,k,s,rfl,g,q⟩:=h;let⟨y,rfl⟩:=dY be
 refine⟨_,(ao (aO (i:=1) qaN.nd S T3 (cm (bh Q p S (ad (aJ c.cl c.n_bounds c.ns (aa 0)) (ad (aJ c.cl c.n_staying c.ns (aa 0)) ak aG) aG) aG (au aG ae))))
   (cu (bY (bR (aA fM (aa 1) (PD.q bo) (ap _))) (aU (aO (i:=1) qaN.nd S T3 (cm (bh b_ p S (ad (aJ c.cl c.n_bounds c.ns (aa 0)) (ad (aJ c.cl c.n_rows c.ns (aa 0)) (ad (aJ c.cl c.n_goal c.ns (aa 0)) (ad (aJ c.cl c.n_staying c.ns (aa 0)) ak aG) aG) aG) aG) aG (au aG (au aG (au aG ae))))))) cq)
   (cu (bY (bR (aA cZ (aa 1) (PD.q bo) (ap _))) (ao (fw (eG 0 N p c.cl c.ns (aH (ag (dv 1)) (aH (cm (aw (PD.q (br (PD.q (aJ c.cl c.n_bounds c.ns (aa 0))) (aa 1) (λ_ _=>rfl))))) bc aF) ac) ac (au aF ae)))
   (aU (cC (ag ce)))) cq)
   (ao (aO (i:=1) qaN.nd S T3 (cm (bh T p S (ad (aJ c.cl c.n_bounds c.ns (aa 0)) (ad (aJ c.cl c.n_rows c.ns (aa 0)) (ad (aJ c.cl c.n_goal c.ns (aa 0)) (ad (aJ c.cl c.n_staying c.ns (aa 0)) ak aG) aG) aG) aG) aG (au aG (au aG (au aG ae))))))
   (cu (bY (bR (aA cZ (aa 1) (PD.q bo) (ap _))) (ao (fw (eG 0 N p c.cl c.ns (aH (ag (dv 1)) (aH (cm (aw (PD.q (br (PD.q (aJ c.cl c.n_bounds c.ns (aa 0))) (aa 1) (λ_ _=>rfl))))) bc aF) ac) ac (au aF ae)))
   (aU (cC (ag ce)))) cq)
   (ao (aO (i:=1) qaN.nd S T3 (cm (bh O p S (ad (aJ c.cl c.n_bounds c.ns (aa 0)) (ad (aJ c.cl c.n_rows c.ns (aa 0)) (ad (aJ c.cl c.n_goal c.ns (aa 0)) (ad (aJ c.cl c.n_staying c.ns (aa 0)) ak aG) aG) aG) aG) aG (au aG (au aG (au aG ae))))))
   (cu (bY (bR (aA cZ (aa 1) (PD.q bo) (ap _))) (ao (fw (eG 0 X p c.cl c.ns (aH (ag (dv 1)) bc ac) ac ae))
   (aU (cC (ag ce)))) cq)
   (aU (cC (ag ce)))))))))),?_⟩
 intro ke;have C:∀u∈s.st,u<s.bs.length:=g.stay.sb;refine⟨S,_,S,S,_,S,s.bs,s.st,S,C,iI _,?_⟩;refine⟨λρ=>∃o:œ Nat,ρ=[Z (.ob (Z y) (bD s)),Z (.v (oN o))]/\(∀u,o=Z u->u∈s.st/\UnkSt s Ŕ (fG s u (aC s.bs u).1))/\(o=Œ->s.st.find? (dO s.bs)=Œ/\s.st.find? (eu s.bs s.rs s.gl)=Œ),?_,?_⟩
 ·cases l:s.st.find? (dO s.bs)with
  |some u=>show⟨ff,λ_=>⟨Z u,S,λv x=>by cases x;show⟨HY l,.fixed l⟩,λh=>by cases h⟩⟩
  |none=>
   refine⟨λ_=>⟨S,_,S,S,_,S,S,_,S,S,_,S,s.bs,s.rs,s.gl,s.st,S,g.stay,iI _,s.st.find? (eu s.bs s.rs s.gl),S,λv x=>⟨HY x,.sink l x⟩,λh=>⟨S,h⟩⟩,tf⟩
 rintro ρ ⟨o,rfl,a_,U⟩
 cases o with
 |some u=>
  let⟨j,hU⟩:=a_ u S;refine⟨λ_=>False,⟨λ_=>?_,tf⟩,λρ h=>h.elim⟩;refine⟨⟨_,_,S,S⟩,S,_,S,_,e7 (C u j) S,_,S,.int _,_,S,S,_,s,u,_,S,g.fix j (g.low j).1,?_⟩;rfl';show⟨_,S,q _ _ hU⟩
 |none=>
  let⟨l,G⟩:=U S;refine⟨λρ=>ρ=[Z (.ob (Z y) (bD s)),Z (.v .non)],⟨ff,λ_=>rfl⟩,?_⟩;rintro ρ rfl;refine⟨S,_,S,S,_,S,S,_,S,S,_,S,s.bs,s.rs,s.gl,s.st,S,g.stay,iI _,?_⟩
  cases r:s.st.find? (eJ s.bs s.rs s.gl)with
  |some u=>
   have j:=HY r;have L:=List.find?_some r
   obtain⟨m,M⟩:∃m,(aC s.bs u).2=Z m:=by
    cases e:(aC s.bs u).2 with
    |some m=>show⟨m,S⟩
    |none=>unfold eJ at L;rw[e]at L;cases L
   refine⟨λ_=>False,⟨λ_=>?_,tf⟩,λρ h=>h.elim⟩;refine⟨⟨_,_,S,S⟩,S,_,S,_,e7 (C u j) S,D.int m,(Il (λz=>cn [D.int (aC s.bs u).1,oI z] 1) M).trans S,.int _,_,S,S,_,s,u,m,S,g.fix j ((g.low j).2 m M),?_⟩;rfl';show⟨_,S,q _ _ (.rise l G r M)⟩
  |none=>
   refine⟨λρ=>ρ=[Z (.ob (Z y) (bD s)),Z (.v .non)],⟨ff,λ_=>rfl⟩,?_⟩;rintro ρ rfl;refine⟨S,_,S,S,_,S,S,_,S,S,_,S,s.bs,s.rs,s.gl,s.st,S,g.stay,iI _,?_⟩
   cases I:s.st.find? (eR s.bs s.rs s.gl)with
   |some u=>
    have j:=HY I;refine⟨λ_=>False,⟨λ_=>?_,tf⟩,λρ h=>h.elim⟩;refine⟨⟨_,_,S,S⟩,_,S,S,_,s,u,S,g.hang j,?_⟩;rfl';show⟨_,S,q _ _ (.hang l G r I)⟩
   |none=>
    refine⟨λρ=>ρ=[Z (.ob (Z y) (bD s)),Z (.v .non)],⟨ff,λ_=>rfl⟩,?_⟩;rintro ρ rfl;show⟨_,S,q _ _ (.no l G r I)⟩
noncomputable def nC(s:Led)(p:Nat):D:=.tup (.tup [s.rm.getD p .non,.int 1]::(cA (bK s.rs p).1).map λu=>ef s u ((bK s.rs p).1.getD u 0))
noncomputable def bt(s:Led):D:=match s.st.find? (gw s.bs)with
 |some u=>.tup [.tup [s.lm.getD u .non,.int 1],.tup [s.mm.getD u .non,.int 1]]
 |none=>match s.rs.findIdx? (eK s.bs)with
  |none=>.non
  |some p=>nC s p
inductive z_hopeless_shares(ds:List D)(R:D->Prop):Prop|mk (n:Nat) (s:Led) (_:ds=[gP s]) (_:LedP n s) (_:R (bt s))
theorem xj(F:Fun K "hopeless_shares" "hopeless_shares" kD f J){v:Addr}(a:TxtLedger K mg v)(C:Cl P w K mg base n "crossed_unknown" ["bounds","staying"] z_crossed_unknown)(G:Cl P w K mg base n "hopeless_row" ["bounds","rows"] z_hopeless_row)(X:MthD P w K mg base n v "bound_share" ["self","unknown","entry"] z_Ledger__bound_share)(M:mg "tuple"=Œ)(N:mg "enumerate"=Œ):FnOk P w K mg base aD (n+1) f J ["ledger"] (lSp K z_hopeless_shares):=by
 refine F.okD qaC (λds R h=>?_) (λa_ A outer s H E ds R l h=>?_)
 ·let⟨k,s,rfl,_⟩:=h;rfl
 let⟨k,s,rfl,c,q⟩:=h
 refine⟨_,(bp (bX (i:=1) qaC.nd S T3 (bh C l S (ad (aJ a.cl a.n_bounds a.ns (aa 0)) (ad (aJ a.cl a.n_staying a.ns (aa 0)) ak aG) aG) aG (au aG ae)))
   (dD (bO (aA cZ (aa 1) (PD.q bo) (ap _)) (az (aV (bC (ad (bC (ad (br (PD.q (aJ a.cl a.n_least_marks a.ns (aa 0))) (aa 1) (λ_ _=>rfl)) (ad ah ak aL) aF)) (ad (bC (ad (br (PD.q (aJ a.cl a.n_most_marks a.ns (aa 0))) (aa 1) (λ_ _=>rfl)) (ad ah ak aL) aF)) ak bN) bN)))) bV)
   (bp (bX (i:=2) qaC.nd S T3 (bh G l S (ad (aJ a.cl a.n_bounds a.ns (aa 0)) (ad (aJ a.cl a.n_rows a.ns (aa 0)) ak aG) aG) aG (au aG ae)))
   (dD (bO (aA fM (aa 2) (PD.q bo) (ap _)) (az (aV bo)) bV)
   (bp (bX (i:=3) qaC.nd S T3 (aw (PD.q (br (PD.q (aJ a.cl a.n_rows a.ns (aa 0))) (aa 2) (λ_ _=>rfl)))))
   (bp (rc (i:=4) (k:=2) (N':=["other","entry","ledger"]) (cap:=[Œ,Œ,Z 0]) S qaC.nd S T3 (.ok (show bZ ["ledger","unknown","place","entries","shares"] (ar kD) _ ["other","entry","ledger"] [Œ,Œ,Z 0]=Ŕ by lia)) 'a' (jK (n:=2) (fL (bI 'b') (fL (bI 'b') jC))) (ic S N (ad (dv 3) ak ac)) (λ_ _ _ _ _=>(fe (n:=2) S (cb (bf (i:=0) (show List.Nodup (["other","entry","ledger"]:Y Str)by lia) S T3) (cb (bf (i:=1) (show List.Nodup (["other","entry","ledger"]:Y Str)by lia) S T3) fg)))) (λ_ _ _ _ _=>(iK (aA (eC l.units) (aa 1) (PD.q ah) (ap _)))) (λ_ _ _ _ _=>(pL X l a.cl a.ns (dv 2) (ad (dv 0) (ad (dv 1) ak ac) ac) ac (au ac ae))))
   (az (aV (aX cy (PD.q (bC (ad (bC (ad (br (PD.q (aJ a.cl a.n_row_marks a.ns (aa 0))) (aa 2) (λ_ _=>rfl)) (ad ah ak aL) aF)) ak bN))) (PD.q (cH cX S M Hz (aP (aa 4) aT ac) ac ae))))))))))),?_⟩
 have h8:=c.n8;refine⟨S,_,S,S,_,S,s.bs,s.st,S,c.stay.sb,?_⟩
 cases j:s.st.find? (gw s.bs)with
 |some u=>
  have T:=HY j;have hn:=c.sl u T
  have:bt s=.tup [.tup [s.lm.getD u .non,.int 1],.tup [s.mm.getD u .non,.int 1]]:=by unfold bt;rw[j]
  rw[this]at q;show⟨λ_=>False,⟨λ_=>⟨S,_,S,s.lm.getD u .non,ge (bP (by rw[c.ll];show hn)) S,S,_,S,s.mm.getD u .non,ge (bP (by rw[c.ml];show hn)) S,q⟩,tf⟩,λρ h=>h.elim⟩
 |none=>
  refine⟨λρ=>ρ=[Z (.v (gP s)),Z (.v .non),Œ,Œ,Œ],⟨ff,λ_=>rfl⟩,?_⟩;rintro ρ rfl;refine⟨S,_,S,S,_,S,s.bs,s.rs,S,c.rows,?_⟩
  cases o:s.rs.findIdx? (eK s.bs)with
  |none=>
   have:bt s=.non:=by unfold bt;rw[j,o]
   rw[this]at q;show⟨λ_=>False,⟨λ_=>q,tf⟩,λρ h=>h.elim⟩
  |some p=>
   let⟨r,g,_⟩:=iN o;have I:bK s.rs p=r:=eI g;have L:=aB g;let⟨rn,r9,_,_⟩:=c.rr r (Hu g)
   have:bt s=nC s p:=by unfold bt;rw[j,o]
   rw[this]at q;unfold nC at q;rw[I]at q;refine⟨λρ=>ρ=[Z (.v (gP s)),Z (.v .non),Z (.v (aN p)),Œ,Œ],⟨ff,λ_=>rfl⟩,?_⟩;rintro ρ rfl;refine⟨S,_,S,_,cE g S,_,S,?_⟩;refine⟨by rw[eU,Hj];show bu (),gN (λi=>decide (r.1.getD i 0≠0)) (λu=>ef s u (r.1.getD u 0)),λi d hd=>?_,λbe y U=>?_⟩
   ·let⟨e,Q,rfl⟩:=gu hd;let⟨x,rfl,B⟩:=bQ Q;have ex:r.1.getD i 0=x:=eI B
    have z:i<k:=by have:=aB B;omega
    refine⟨S,λh=>?_,λh=>?_⟩
    ·refine⟨S,S,s,i,x,S,by rw[c.ml];show z,by rw[c.ll];show z,?_,?_⟩
     ·change ef s i x=ef s i (r.1.getD i 0);rw[ex]
     ·change decide (r.1.getD i 0≠0)=Ŕ;rw[ex]
      show Ij λe=>by rw[e]at h;cases h
    ·change decide (r.1.getD i 0≠0)=ŕ;rw[ex];refine HJ λe=>?_;have h':(!(x==0))=ŕ:=h
     have:(x==0)=Ŕ:=by simpa using h'
     show e (eq_of_beq this)
   rw[eU,Hj]at y;have O:be.filterMap id=(cA r.1).map (λu=>ef s u (r.1.getD u 0)):=i7 y U;rw[O]
   have b_:(cA r.1).length<=8:=by
    have:=Jk (λi=>decide (r.1.getD i 0≠0)) (List.range r.1.length);rw[HM]at this;have:(cA r.1).length<=r.1.length:=this;omega
   refine⟨S,_,S,s.rm.getD p .non,ge (bP (by rw[c.rm];show L)) S,by rw[Hj];change 1+_<=_;have:=bu (n:=9) 'b';omega,_,S,q⟩
noncomputable def jn(xs:Y D)(st:Y Nat):Y D:=st.map λu=>xs.getD u .non
inductive z_picked(ds:List D)(R:D->Prop):Prop|mk (d1:D) (xs:List D) (st:List Nat) (_:ds=[d1,.lst (st.map aN)]) (_:(d1=.tup xs\/d1=.lst xs)) (_:st.length<=1000) (_:(∀u∈st,u<xs.length)) (_:R (.tup (jn xs st)))
theorem D1(F:Fun K "picked" "picked" jP f J)(g:mg "tuple"=Œ):FnOk P w K mg base aD (n+1) f J ["numbers","places"] (lSp K z_picked):=by
 refine F.okD za (λds R h=>?_) (λo A outer s H E ds R p h=>?_)
 ·let⟨j,xs,st,rfl,_⟩:=h;rfl
 let⟨j,xs,st,rfl,l,c,e,q⟩:=h;refine⟨_,(az (aV (cH cX S g Hz (aP (PD.q (PF.d (dL (k:=1) (N':=["place","numbers"]) (cap:=[Œ,Z 0]) S (.ok (show bZ ["numbers","places"] (ar jP) _ ["place","numbers"] [Œ,Z 0]=Ŕ by lia)) 'a' (bI 'b') (b8 (dv 1)) (λ_ _ _ _ _=>(bf (i:=0) (show List.Nodup (["place","numbers"]:Y Str)by lia) S T3)) (λ_ _ _ _ _=>(br (aa 1) (aa 0) (λ_ _=>rfl)))))) aT bA) bA ae))),?_⟩;rcases l with rfl|rfl
 ·show fC (f:=aN) (λu=>xs.getD u .non) (bu c) (λu a=>⟨_,ge (bP (d:=D.non) (e u a)) S,S⟩) q
 ·show fC (f:=aN) (λu=>xs.getD u .non) (bu c) (λu a=>⟨_,ge (bP (d:=D.non) (e u a)) S,S⟩) q
noncomputable def pk{a:Type}(d:a)(xs:Y a)(st:Y Nat):Y a:=st.map λu=>xs.getD u d
theorem p6{a:Type}{f:a->D}{d:a}{xs:Y a}{st:Y Nat}(h:∀u∈st,u<xs.length):jn (xs.map f) st=(pk d xs st).map f:=by
 unfold jn pk;rw[Ip];refine Jg λu c=>?_;change (xs.map f).getD u .non=f (xs.getD u d);have:=h u c;rw[HE,HE,Hy,bB this];rfl
noncomputable def cJ(st:Y Nat)(r:aq):aq:=(pk 0 r.1 st,r.2)
noncomputable def gR(s:Led):D:=bF (pk (0,Œ) s.bs s.st) (s.rs.map (cJ s.st)) (pk 0 s.gl s.st)
theorem uT{n:Nat}{s:Led}(h:LedP n s):s.st.length<=n:=by
 have a:s.st ⊆ List.range n:=λu c=>HQ.mpr (h.sl u c);have:=h.nd.length_le_of_subset a
 rwa [HM]at this
inductive z_slim_plan(ds:List D)(R:D->Prop):Prop|mk (n:Nat) (s:Led) (_:ds=[gP s]) (_:LedP n s) (_:R (gR s))
theorem A8(F:Fun K "slim_plan" "slim_plan" kM f J){v:Addr}(a:TxtLedger K mg v)(o:Cl P w K mg base n "picked" ["numbers","places"] z_picked)(x:mg "tuple"=Œ):FnOk P w K mg base aD (n+1) f J ["ledger"] (lSp K z_slim_plan):=by
 refine F.okD qaK (λds R h=>?_) (λB A outer s H E ds R l h=>?_)
 ·let⟨k,s,rfl,_⟩:=h;rfl
 let⟨k,s,rfl,c,q⟩:=h
 refine⟨_,(bp (sx (i:=1) (k:=1) (N':=["row","ledger"]) (cap:=[Œ,Z 0]) S qaK.nd S T3 (.ok (show bZ ["ledger","rows"] (ar kM) _ ["row","ledger"] [Œ,Z 0]=Ŕ by lia)) 'a' (bI 'b') (b8 (aJ a.cl a.n_rows a.ns (aa 0))) (λ_ _ _ _ _=>(bf (i:=0) (show List.Nodup (["row","ledger"]:Y Str)by lia) S T3)) (λ_ _ _ _ _=>(bC (ad (bh o l S (ad (aw (aa 0)) (ad (aJ a.cl a.n_staying a.ns (aa 1)) ak aG) aF) aF (au aG ae)) (ad (aw (aa 0)) ak aF) bj))))
   (az (aV (bC (ad (bh o l S (ad (aJ a.cl a.n_bounds a.ns (aa 0)) (ad (aJ a.cl a.n_staying a.ns (aa 0)) ak aG) aG) aG (au aG ae)) (ad (cH cX S x Hz (aP (aa 1) aT ac) ac ae) (ad (bh o l S (ad (aJ a.cl a.n_goal a.ns (aa 0)) (ad (aJ a.cl a.n_staying a.ns (aa 0)) ak aG) aG) aG (au aG ae)) ak bj) bj) bj))))),?_⟩
 have G:=c.n8;have C:=uT c
 have y:∀u∈s.st,u<(s.bs.map aI).length:=λu g=>by rw[Hj];show c.stay.sb u g
 have z:∀u∈s.st,u<(s.gl.map D.int).length:=λu g=>by rw[Hj];show c.stay.sg u g
 refine⟨S,_,S,?_⟩;refine fC (f:=ay) (λr=>ay (cJ s.st r)) (bu (by have:=c.rl;omega)) (λr p=>?_) ?_
 ·have j:∀u∈s.st,u<r.1.length:=λu g=>c.stay.sr u g r p;refine⟨_,S,S,_,S,_,r.1.map D.int,s.st,S,.inl S,(),λu g=>by rw[Hj];show j u g,_,S,?_⟩;change D.tup [D.tup (jn (r.1.map D.int) s.st),D.int r.2]=ay (cJ s.st r);rw[p6 (d:=0) j];rfl
 refine⟨S,_,S,S,_,S,_,s.bs.map aI,s.st,S,.inr S,(),y,?_⟩;refine⟨S,_,S,S,_,S,_,s.gl.map D.int,s.st,S,.inl S,(),z,?_⟩
 have e:D.tup [D.tup (jn (s.bs.map aI) s.st),D.tup (s.rs.map λr=>ay (cJ s.st r)),D.tup (jn (s.gl.map D.int) s.st)]=gR s:=by unfold gR bF;rw[p6 (d:=(0,Œ)) c.stay.sb,p6 (d:=0) c.stay.sg,Ip];rfl
 show (Il R e).mpr q
noncomputable def ie(n:Nat)(s:Led):D:=.obj "Struck" [("ledger",gP s),("breadth",.int (n:Nat)),("kind",.str "slim"),("paper",.non),("slim",gR s),("kept",.tup (s.st.map aN)),("extra",.int s.ex)]
structure Way(P:Led->Prop)(μ:Led->Nat):Prop where
 ok:∀t,P t->∃n,LedP n t
 row:∀t t',P t->bt t=.non->RowSt t Ŕ t'->P t'/\μ t'<μ t
 unk:∀t t',P t->bt t=.non->RowSt t ŕ t->UnkSt t Ŕ t'->P t'/\μ t'<μ t
theorem jV{n:Nat}{s:Led}(a:LedP n s):NoL (bt s):=by
 unfold bt
 cases j:s.st.find? (gw s.bs)with
 |some u=>
  have c:=a.sl u (HY j);show .tup (bv (.tup (bv (a.n3 _ (cS (by rw[a.ll];show c))) (bv (.int _) cQ))) (bv (.tup (bv (a.n2 _ (cS (by rw[a.ml];show c))) (bv (.int _) cQ))) cQ))
 |none=>
  cases l:s.rs.findIdx? (eK s.bs)with
  |none=>show .non
  |some p=>
   let⟨r,e,_⟩:=iN l;have h:bK s.rs p=r:=eI e;let⟨o,_⟩:=a.rr r (Hu e);refine .tup (bv (.tup (bv (a.n1 _ (cS (by rw[a.rm];show aB e))) (bv (.int _) cQ))) λd hd=>?_);let⟨u,c,rfl⟩:=HG.mp hd
   have g:u<n:=by have:=HQ.mp (Ir.mp c).1;rw[h]at this;omega
   show la a.n2 a.n3 (by rw[a.ml];show g) (by rw[a.ll];show g)
theorem Ft{s t:Led}(h:RowSt s ŕ t):t=s:=by cases h;rfl
theorem wg{s t:Led}(h:UnkSt s ŕ t):t=s:=by cases h;rfl
inductive y_strike(as:List Sm)(R:Sm->List Om->Prop)(Rx:XD->List Om->Prop):Prop|mk (a:Option Addr) (s:Led) (P:Led->Prop) (μ:Led->Nat) (_:as=[.ob a (bD s)]) (_:P s) (_:Way P μ) (_:∀t,P t->(eQ (bt t)=ŕ\/(RowSt t ŕ t/\UnkSt t ŕ t))->R (.v (bt t)) [bD t])
theorem EF(F:Fun K "strike" "strike" lf f J)(L:Cl P w K mg base n "hopeless_shares" ["ledger"] z_hopeless_shares)(O:ClM P w K mg base n "row_struck" ["ledger"] y_row_struck)(M:ClM P w K mg base n "unknown_struck" ["ledger"] y_unknown_struck):FnOk P w K mg base aD (n+1) f J ["ledger"] (lSpM K y_strike):=by
 refine F.okM qaL (λas R Q h=>?_) (λU A outer s H E as R Q a_ X u h N=>?_)
 ·let⟨a,s,B,y,rfl,_⟩:=h;rfl
 let⟨a,s,B,y,rfl,G,g,q⟩:=h;let⟨T,rfl⟩:=dY N
 refine⟨_,(ao (aO (i:=1) qaL.nd S T3 (cm (bh L u S (ad (dv 0) ak ac) ac ae)))
   (ao (yB HL (PXW.toB (mU (bR (aA fM (aa 1) (PD.q bo) (ap _))) (uC (PXW.toB (FV (vK (bE O u S (bG 0 bc ac) ac ae) (λ_=>rfl)) (B1 (vK (bE M u S (bG 0 bc ac) ac ae) (λ_=>rfl)))))))) (aU (aO (i:=1) qaL.nd S T3 (cm (bh L u S (ad (dv 0) ak ac) ac ae)))))
   (aU (cC (ag (dv 1)))))),?_⟩
 intro be;let⟨b_,C⟩:=g.ok s G;refine⟨b_,s,S,C,jV C,?_⟩;rfl';refine⟨λm ρ=>∃t,ρ=[Z (.ob (Z T) (bD t)),Z (.v (bt t))]/\B t/\m=y t,⟨y s,s,S,G,S⟩,?_⟩;rintro m ρ ⟨t,rfl,p,rfl⟩;let⟨n,I⟩:=g.ok t p
 cases l:eQ (bt t)with
 |false=>
  refine⟨λh=>?_,λ_=>⟨ff,λ_=>⟨_,S,q t p (.inl l)⟩⟩⟩;have h':(eQ (bt t) != ŕ)=Ŕ:=h;rw[l]at h';cases h'
 |true=>
  have z:bt t=.non:=by
   cases e:bt t with
   |non=>rfl
   |_=>rw[e]at l;cases l
  refine⟨λ_=>?_,λh=>?_⟩
  ·refine⟨⟨_,_,S⟩,_,S,S,_,n,t,S,I,λb c r=>?_⟩;rfl'
   cases b with
   |true=>
    let⟨o,v⟩:=g.row t c p z r;let⟨n1,j⟩:=g.ok c o;show⟨λ_=>⟨λ_=>⟨n1,c,S,j,jV j,_,v,c,S,o,S⟩,tf⟩,tf⟩
   |false=>
    cases Ft r;refine⟨ff,λ_=>⟨⟨_,_,S⟩,_,S,S,_,n,t,S,I,λb c x=>?_⟩⟩;rfl'
    cases b with
    |true=>
     let⟨o,v⟩:=g.unk t c p z r x;let⟨n1,j⟩:=g.ok c o;show⟨λ_=>⟨n1,c,S,j,jV j,_,v,c,S,o,S⟩,tf⟩
    |false=>
     cases wg x;show⟨ff,λ_=>⟨_,S,q t p (.inr ⟨r,x⟩)⟩⟩
  ·have h':(eQ (bt t) != ŕ)=ŕ:=h;rw[l]at h';cases h'
noncomputable def oJ(s:Led)(n:Nat)(k a sl kp:D)(ex:Int):Y (Str×Fl):=[("ledger",.v (gP s)),("breadth",.v (.int (n:Nat))),("kind",.v k),("paper",.v a),("slim",.v sl),("kept",.v kp),("extra",.v (.int ex))]
noncomputable def uf:dI:=λas R _=>∃(a:œ Addr)(bs:Y Bd)(rs:Y aq)(gs:Y Int)(P:Led->Prop)(c:Led->Nat),as=[.ob a (.obj "Struck" []),.v (bF bs rs gs)]/\bs.length<=8/\rs.length<=30/\P (cB bs rs gs)/\Way P c /\
 (∀t,P t->RowSt t ŕ t->UnkSt t ŕ t->bt t=.non->R (.v .non) [.obj "Struck" (oJ t bs.length (.str "slim") .non (gR t) (.tup (t.st.map aN)) t.ex)]) /\
 (∀t,P t->eQ (bt t)=ŕ->R (.v .non) [.obj "Struck" (oJ (fU t (bt t) 1) bs.length (.str "none") (.tup ((fU t (bt t) 1).ln++[.tup [.str "shut",fA t]])) .non (.tup []) 0)])
theorem CG(xs:Y Int):NoL (.tup (xs.map D.int)):=.tup λd hd=>by let⟨x,_,rfl⟩:=HG.mp hd;show .int x
theorem Ap(b:Bd):NoL (aI b):=.tup (bv (.int _) (bv (by cases b.2<;>constructor) cQ))
theorem FE(bs:Y Bd)(rs:Y aq)(gs:Y Int):NoL (bF bs rs gs):=.tup (bv (.tup λd hd=>by
 let⟨b,_,rfl⟩:=HG.mp hd
 show Ap b) (bv (.tup (oo rs)) (bv (CG gs) cQ)))
theorem EX(st:Y Nat):NoL (.tup (st.map aN)):=.tup λd hd=>by let⟨x,_,rfl⟩:=HG.mp hd;show .int _
theorem EY(F:Fun K "__init__" "Struck.__init__" li f J){M:Addr}(c:TxtStruck K mg M){r:Addr}(g:TxtLedger K mg r)(b_:ClM P w K mg base (n+1) "strike" ["ledger"] y_strike)(I:Cl P w K mg base (n+1) "slim_plan" ["ledger"] z_slim_plan)(N:MkM P w K mg base n r ["self","plan"] y_Ledger____init__)(L:MthM P w K mg base (n+1) r "put_line" ["self","shares","divisor"] y_Ledger__put_line)(X:mg "len"=Œ)(z:mg "tuple"=Œ):FnOk P w K mg base aD (n+2) f J ["self","plan"] (lSpM K uf):=by
 refine F.okM qae (λas R T h=>?_) (λL1 A outer s H E as R T qs L6 o h O=>?_)
 ·let⟨a,bs,rs,gs,y,G,rfl,_⟩:=h;rfl
 let⟨a,bs,rs,gs,y,G,rfl,hb,hl,be,B,q1,q2⟩:=h;let⟨pa,rfl⟩:=dY O
 refine⟨_,(ao (aO (i:=2) qae.nd S T3 (pI N o S g.mgC g.ns (aH (ag (dv 1)) bc ac) ac ae))
   (ao (aO (i:=3) qae.nd S T3 (bE b_ o S (bG 2 bc ac) ac ae))
   (ao (wm 0 2 c.cl c.n_ledger c.ns)
   (ao (eX 0 c.cl c.n_breadth c.ns (ag (bx cD S X HW (aP (PD.q (aw (aa 1))) aT aF) aF ae)))
   (cu (bY (bR (aA fM (aa 3) (PD.q bo) (ap _))) (ao (eX 0 c.cl c.n_kind c.ns (ag iF))
   (ao (eX 0 c.cl c.n_paper c.ns (ag bo))
   (ao (eX 0 c.cl c.n_slim c.ns (cm (bh I o S (ad (dv 2) ak ac) ac ae)))
   (ao (eX 0 c.cl c.n_kept c.ns (cm (cH cX S z Hz (aP (PD.q (aJ g.cl g.n_staying g.ns (aa 2))) aT aG) aG ae)))
   (aU (eX 0 c.cl c.n_extra c.ns (cm (aJ g.cl g.n_extra g.ns (aa 2))))))))) (ao (aO (i:=4) qae.nd S T3 (eG 2 L o g.cl g.ns (aH (ag (dv 3)) (aH (ag ah) bc aL) ac) ac (au aL ae)))
   (ao (eX 0 c.cl c.n_kind c.ns (ag iF))
   (ao (eX 0 c.cl c.n_paper c.ns (cm (aX cy (PD.q (cH cX S z Hz (aP (PD.q (aJ g.cl g.n_lines g.ns (aa 2))) aT aG) aG ae)) (PD.q (bC (ad (bC (ad iF (ad (dv 4) ak ac) aL)) ak bN))))))
   (ao (eX 0 c.cl c.n_slim c.ns (ag bo))
   (ao (eX 0 c.cl c.n_kept c.ns (ag (bC ak)))
   (aU (eX 0 c.cl c.n_extra c.ns (ag ah)))))))))
   (wB 0 2 "ledger" cq)))))),?_⟩
 intro ke;refine⟨_,bs,rs,gs,S,hb,hl,?_⟩;refine⟨⟨_,_,S⟩,_,S,S,_,cB bs rs gs,y,G,S,be,B,λt v hc=>?_⟩;rfl';let⟨n0,j⟩:=B.ok t v;have h8:=j.n8;have Mn:=uT j;refine⟨_,_,_,_,S,S,S,'b',λp _=>⟨_,S,?_⟩⟩;rfl';refine⟨_,S,_,_,S,S,(by change 1<1000;decide),[("ledger",.al p),("breadth",.v (.int (bs.length:Nat)))],by rw[Hj];rfl,?_⟩;rfl';refine⟨λρ=>∃(t':Led)(k x sl kp:D)(ex:Int)(C:œ Sm),ρ=[Z (.ob (Z pa) (.obj "Struck" [("ledger",.al p),("breadth",.v (.int (bs.length:Nat))),("kind",.v k),("paper",.v x),("slim",.v sl),("kept",.v kp),("extra",.v (.int ex))])),Z (.v (bF bs rs gs)),Z (.ob (Z p) (bD t')),Z (.v (bt t)),C]/\R (.v .non) [.obj "Struck" (oJ t' bs.length k x sl kp ex)],⟨λh=>?_,λh=>?_⟩,?_⟩
 ·have l:eQ (bt t)=Ŕ:=by
   have h':(eQ (bt t) != ŕ)=Ŕ:=h
   cases e:eQ (bt t)with
   |true=>rfl
   |false=>rw[e]at h';cases h'
  have Q:bt t=.non:=by
   cases e:bt t with
   |non=>rfl
   |_=>rw[e]at l;cases l
  let⟨u,a_⟩:=hc.resolve_left (by rw[l];decide);refine⟨_,_,S,S,(by change 2<1000;decide),_,S,?_⟩;refine⟨_,_,S,S,(by change 3<1000;decide),_,S,?_⟩;refine⟨n0,t,S,j,FE _ _ _,_,_,S,S,(by change 4<1000;decide),_,S,?_⟩;refine⟨S,_,S,EX _,_,_,S,S,(by change 5<1000;decide),_,S,?_⟩;refine⟨S,_,S,.int _,_,_,S,S,(by change 6<1000;decide),_,S,?_⟩;show⟨t,_,_,_,_,_,_,S,q1 t v u a_ Q⟩
 ·have l:eQ (bt t)=ŕ:=by
   have h':(eQ (bt t) != ŕ)=ŕ:=h
   cases e:eQ (bt t)with
   |false=>rfl
   |true=>rw[e]at h';cases h'
  refine⟨⟨_,_,S,S⟩,_,S,S,_,t,bt t,1,S,jV j,by have:=j.ln;omega,?_⟩;rfl';refine⟨_,_,S,S,(by change 2<1000;decide),_,S,?_⟩
  have hll:(fU t (bt t) 1).ln.length<800:=by
   change (t.ln++[_]).length<800;rw[Hm,Im];have:=j.ln;omega
  have U:∀d∈(fU t (bt t) 1).ln,NoL d:=λd hd=>by
   rcases HU.mp (show d∈t.ln++[eE (bt t) 1]from hd)with hd|hd
   ·show j.n4 d hd
   ·rw[Hw.mp hd];show mF (jV j)
  refine⟨S,_,S,small (by change (fU t (bt t) 1).ln.length+1<=1000;omega),_,S,.tup (λd hd=>?_),_,_,S,S,(by change 3<1000;decide),_,S,?_⟩
  ·rcases HU.mp hd with hd|hd
   ·show U d hd
   ·rw[Hw.mp hd];show .tup (bv (.str _) (bv (.int _) cQ))
  refine⟨_,_,S,S,(by change 4<1000;decide),_,S,?_⟩;refine⟨_,_,S,S,(by change 5<1000;decide),_,S,?_⟩;refine⟨_,_,S,S,(by change 6<1000;decide),_,S,?_⟩;show⟨fU t (bt t) 1,_,_,_,_,_,_,S,q2 t v l⟩
 rintro ρ ⟨t',k,x,sl,kp,ex,C,rfl,u⟩;show⟨_,p,_,_,_,_,_,S,S,S,S,_,S,u⟩
noncomputable def Pl(n:Nat)(o:Om):Prop:=∃(r a c:Int),o=.lst [.int r,.int a,.int c]/\0<=c/\c<=n
theorem Pl.mono{n m:Nat}{o:Om}(h:Pl n o)(j:n<=m):Pl m o:=by let⟨r,st,c,e,a,g⟩:=h;show⟨r,st,c,e,a,()⟩
theorem cG{z:Int}(h:z<2^64):z<2^9000:=by
 have a:(2:Nat)^64<=2^9000:=J2 'b' ()
 have c:(2:Int)^64<=2^9000:=by exact_mod_cast a
 omega
inductive y__law_pool(as:List Sm)(R:Sm->List Om->Prop)(Rx:XD->List Om->Prop):Prop|mk (ns:List Int) (_:as=[.v (.fzl (ns.map D.int))]) (_:ns.length<=63) (_:∀o,Pl 0 o->R (.ob Œ o) [])
theorem C7(F:Fun K "_law_pool" "_law_pool" mP f J)(p:mg "len"=Œ):FnOk P w K mg base aD (n+1) f J ["_law_script"] (lSpM K y__law_pool):=by
 refine F.okM qak (λas R o h=>?_) (λu A outer s H E as R o L z C h l=>?_)
 ·let⟨ns,rfl,_⟩:=h;rfl
 let⟨ns,rfl,B,q⟩:=h;obtain rfl:=nj l
 refine⟨_,(ao (aO (i:=1) qak.nd S T3 (ag ah))
   (ao (gb HL S (gD (b8 (rT (aa 0) uX (sP (PD.q ah))))) (db (i:=2) qak.nd S T3) (aU (aO (i:=1) qak.nd S T3 (ag (aX gZ (PD.q (aX cy (PD.q (aX cy (PD.q (aX cV (aa 1) (PD.q ah))) (PD.q (aX gZ (aa 2) (PD.q ah))))) (PD.q ah))) (PD.q ah))))))
   (ao (aO (i:=3) qak.nd S T3 (ag ah))
   (cu (bY (bR (PWD.td (dh (aA dS (PD.q (bx cD S p HW (aP (aa 0) aT ac) ac ae)) (PD.q ah) (ap _)) (eP (aA jI (PD.q (aw (aa 0))) (PD.q (aX p9 (PD.q ah) (PD.q ah))) (ap _)))))) (aU (aO (i:=3) qak.nd S T3 (ag (aw (aa 0))))) cq)
   (aU (cC (dU (eO (ad (dv 3) (ad (dv 1) (ad ah ak aL) ac) ac))))))))),?_⟩
 intro I;have e:∀r g:Int,Pl 0 (.lst [.int r,.int g,.int 0]):=λr g=>⟨r,g,0,S,(),()⟩;refine⟨(dc ns Œ (Z 63)).map D.int,rR D.int ns Œ (Z 63),?_⟩;refine⟨λi ρ=>∃(v:Int)(a:œ Sm),ρ=[Z (.v (.fzl (ns.map D.int))),Z (.v (.int v)),a,Œ],⟨_,_,S⟩,?_,?_⟩
 ·rintro i d ρ hd ⟨v,a,rfl⟩;let⟨x,rfl,G⟩:=bQ hd;show⟨nV 'b' 'b',(by decide:(0:Int)<1000000007),(by decide:(0:Int)<2147483647),_,Z (.v (.int x)),S⟩
 rintro ρ ⟨v,a,rfl⟩;refine⟨λρ=>∃r:Int,ρ=[Z (.v (.fzl (ns.map D.int))),Z (.v (.int v)),a,Z (.v (.int r))],⟨λh=>?_,λh=>?_⟩,?_⟩
 ·have h:=dP h;let⟨y,j⟩:=yV (ns:=ns) (k:=0) 'b' (by rw[Hj]at h;show h);show⟨_,j,⟨'b','b','b'⟩,λ_=>⟨_,j,_,S⟩,λ_=>⟨_,S⟩⟩
 ·show⟨λc=>(by cases c),λ_=>⟨_,S⟩⟩
 rintro ρ ⟨r,rfl⟩;show q _ (e r v)
inductive y__law_draw(as:List Sm)(R:Sm->List Om->Prop)(Rx:XD->List Om->Prop):Prop|mk (a:Option Addr) (o:Om) (z:Int) (n:Nat) (_:as=[.ob a o,.v (.int z)]) (_:Pl n o) (_:n<2^20) (_:0<z) (_:z<2^9000) (_:∀(x:Int)(o':Om),0<=x->x<z->Pl (n+1) o'->R (.v (.int x)) [o'])
theorem Gm(F:Fun K "_law_draw" "_law_draw" lW f J) :FnOk P w K mg base aD (n+1) f J ["_law_pool_here","_law_many"] (lSpM K y__law_draw):=by
 refine F.okM qag (λas R l h=>?_) (λC A outer s H E as R l M G I h g=>?_)
 ·let⟨a,o,z,n,rfl,_⟩:=h;rfl
 let⟨a,o,z,n,rfl,x,hn,e,y,q⟩:=h;let⟨B,rfl⟩:=dY g
 refine⟨_,(cu (bY (bR (aA dS (PD.q (aw (aa 0))) (PD.q ah) (ap _))) (ao (aO (i:=2) qag.nd S T3 (ag (aX gZ (PD.q (aw (aa 0))) (aa 1))))
   (ao (lN 0 (ag (aX qf (PD.q (aw (aa 0))) (aa 1))) (ag ah))
   (aU (cC (ag (dv 2)))))) cq)
   (ao (GA 0 rO (ag ah) (ag ah))
   (ao (aO (i:=3) qag.nd S T3 (ag (aw (aa 0))))
   (ao (aO (i:=4) qag.nd S T3 (ag (aX cV (PD.q (aX cy (PD.q (aX cy (PD.q (aX cy (PD.q (aw (aa 0))) (PD.q (aX cV (PD.q (aX cV (PD.q ah) (aa 3))) (aa 3))))) (PD.q (aX cV (PD.q ah) (aa 3))))) (PD.q ah))) (PD.q ah))))
   (aU (cC (ag (aX gZ (PD.q (aX gZ (PD.q (aX cV (PD.q (aX gZ (aa 4) (PD.q ah))) (PD.q ah))) (PD.q ah))) (aa 1))))))))),?_⟩
 intro L;let⟨r,st,c,rfl,j,v⟩:=x;refine⟨λρ=>ρ=[Z (.ob (Z B) (.lst [.int r,.int st,.int c])),Z (.v (.int z)),Œ,Œ,Œ],⟨_,S,λh=>?_,λ_=>rfl⟩,?_⟩
 ·show⟨_,S,e,_,S,CDivB.of e y,_,S,_,S,_,S,q _ _ (KQ _ ()) (Ke _ e) ⟨_,st,c,S,j,()⟩⟩
 rintro ρ rfl;refine⟨trivial,2,c,S,S,(by change 2<3;decide),_,S,_,S,?_⟩
 have p:-(2^64)<c+1:=by omega
 have u:c+1<2^64:=by omega
 refine⟨_,S,gX 'b' 'b',nV p u,gX 'b' 'b',nV 'b' 'b',(by decide:(0:Int)<2147483647),nV 'b' 'b',(by decide:(0:Int)<1000000007),e,?_⟩;show⟨_,S,q _ _ (KQ _ ()) (Ke _ e) ⟨r,st,c+1,S,(),()⟩⟩
noncomputable def BdS(n:Nat)(bs:Y Bd):Prop:=bs.length=n/\∀b∈bs,b.1.natAbs<=5/\∀m,b.2=Z m->m.natAbs<=8
inductive y__law_bounds(as:List Sm)(R:Sm->List Om->Prop)(Rx:XD->List Om->Prop):Prop|mk (a:Option Addr) (o:Om) (n m:Nat) (op:Int) (_:as=[.ob a o,.v (.int (n:Nat)),.v (.int op)]) (_:Pl m o) (_:m+100<2^20) (_:n<=8) (_:0<=op) (_:op<=4) (_:∀(bs:List Bd)(gs:List Int)(hs:List Bool)(o':Om)(q1 q2 q3:Addr),BdS n bs->gs.length=n->(∀g∈gs,g.natAbs<=2)->hs.length=n->Pl (m+100) o'->R (.ob Œ (.tl [(q1,Z (bs.map aI)),(q2,Z (gs.map D.int)),(q3,Z (hs.map D.bl))])) [o'])
theorem fB{c:Type}{P:c->Prop}{xs:Y c}{x:c}(h:∀y∈xs,P y)(e:P x):∀y∈xs++[x],P y:=λy a=>by
 rcases HU.mp a with a|a
 ·show h y a
 ·rw[Hw.mp a];show e
theorem BdS.snoc{n:Nat}{bs:Y Bd}{b:Bd}(h:BdS n bs)(a:b.1.natAbs<=5)(c:∀m,b.2=Z m->m.natAbs<=8):BdS (n+1) (bs++[b]):=⟨by rw[Hm,h.1];rfl,fB h.2 ⟨a,c⟩⟩
theorem qx{xs:Y Int}{i:Nat}{v:Int}{P:Int->Prop}(h:∀x∈xs,P x)(c:P v):∀x∈xs.set i v,P x:=λx a=>by
 rcases J9 a with a|rfl
 ·show h x a
 ·show c
noncomputable abbrev BS(g:Addr)(k:Nat)(e rt:Int)(o:Om)(bs:Y Bd)(gs:Y Int)(c:Y Bool)(h j l a:œ Sm):af:=[Z (.ob (Z g) o),Z (.v (.int (k:Nat))),Z (.v (.int e)),Z (.v (.int rt)),Z (.own (bs.map aI)),Z (.own (gs.map D.int)),Z (.own (c.map D.bl)),h,j,l,a]
theorem CC(F:Fun K "_law_bounds" "_law_bounds" lg f J)(v:ClM P w K mg base n "_law_draw" ["_law_pool_here","_law_many"] y__law_draw)(bW:mg "range"=Œ)(ij:mg "int"=Œ)(jM:mg "max"=Œ):FnOk P w K mg base aD (n+1) f J ["_law_pool_here","_law_count","_law_opens"] (lSpM K y__law_bounds):=by
 refine F.okM qaf (λas R Rx h=>?_) (λL1 A outer s H E as R Rx qs L6 p h Mi=>?_)
 ·let⟨a,o,k,m,u,rfl,_⟩:=h;rfl
 let⟨a,o,k,m,u,rfl,hp,hm,hk,h0,h4,q⟩:=h;let⟨N,rfl⟩:=dY Mi
 refine⟨_,(ao (aO (i:=3) qaf.nd S T3 (dm cV (bE v p S (bG 0 (aH (ag ah) bc aL) ac) ac (au aL ae)) (ag (cH vB S ij Kw (aP (PD.q (df dS (aa 2) (PD.q ah) (ap _))) aT lY) lY ae))))
   (ao (aO (i:=4) qaf.nd S T3 (dU (eO ak)))
   (ao (aO (i:=5) qaf.nd S T3 (dU (eO ak)))
   (ao (aO (i:=6) qaf.nd S T3 (dU (eO ak)))
   (ao (gb HL S (gD (iY S bW (ad (dv 1) ak ac))) (db (i:=7) qaf.nd S T3) (ao (aO (i:=8) qaf.nd S T3 (dm di (bE v p S (bG 0 (aH (ag ah) bc aL) ac) ac (au aL ae)) (ag ah)))
   (ao (aO (i:=9) qaf.nd S T3 (bE v p S (bG 0 (aH (ag ah) bc aL) ac) ac (au aL ae)))
   (cu (fZ 6 (Gi (ag (df dS (aa 3) (PD.q ah) (ap _))) (An (xh (cW p.units) (bE v p S (bG 0 (aH (ag (aX cV (PD.q ah) (PD.q (bx (ve S) S jM LJ (aP (PD.q ah) (aP (aa 3) aT ac) aL) aL (au ac ae))))) bc cL) ac) ac (au cL ae)) (ag ah) (ap _)))) (ee uI) uI)
   (ao (aO (i:=10) qaf.nd S T3 (ag (aX cy (aa 8) (PD.q (aX gZ (aa 9) (PD.q ah))))))
   (ao (fZ 5 (dm di (bE v p S (bG 0 (aH (ag ah) bc aL) ac) ac (au aL ae)) (ag ah)) (ee cL) cL)
   (cu (bY (bR (b7 (PD.q (br (aa 6) (aa 7) (λ_ _=>rfl))) (λ_=>rfl))) (ao (lN 5 (ag ah) (ag (dv 7)))
   (aU (aO (i:=9) qaf.nd S T3 (ag ah)))) cq)
   (cu (bY (bR (aA gv (aa 9) (PD.q (aX cV (PD.q ah) (aa 2))) (ap _))) (aU (aO (i:=10) qaf.nd S T3 (ag bo))) (aU (bY (bR (aA (cW p.units) (aa 9) (PD.q ah) (ap _))) (aU (aO (i:=10) qaf.nd S T3 (ag (aX di (aa 8) (PD.q ah))))) cq)))
   (aU (fZ 4 (ag (bC (ad (dv 8) (ad (dv 10) ak ac) ac))) (ee bN) bN))))))))))
   (aU (cC (C5 (aH (ka 4) (aH (ka 5) (aH (ka 6) bc ac) ac) ac))))))))),?_⟩
 intro ke;refine⟨⟨_,_,S⟩,_,S,S,_,_,3,m,S,hp,(),'b',cG 'b',λx o1 hx0 Rb Na=>?_⟩;rfl';obtain⟨rt,be,r0,r2⟩:∃rt:Int,x*(if decide (0<u) then 1 else 0)=rt/\0<=rt/\rt<=2:=⟨_,S,by split<;>omega,by split<;>omega⟩;refine⟨gX () (),?_⟩;simp only[be];refine⟨⟨(),()⟩,λi ρ=>∃bs gs e o' u7 u8 u9 L,ρ=BS N k u rt o' bs gs e u7 u8 u9 L/\BdS i bs/\gs.length=i/\(∀g∈gs,g.natAbs<=2)/\e.length=i/\Pl (m+1+5*i) o',⟨[],[],[],o1,_,_,_,_,S,⟨S,λb j=>by cases j⟩,S,λg r=>(by cases r),S,Na⟩,?_,?_⟩
 ·rintro i d ρ hd ⟨bs,gs,e,o2,u7,u8,u9,L,rfl,C,z,r,B,I⟩;let⟨hi,rfl⟩:=gQ hd
  have Nm:i<k:=by omega
  refine⟨⟨_,_,S⟩,_,S,S,_,_,5,_,S,I,(),'b',cG 'b',λl o3 a0 a1 NB=>?_⟩;rfl';refine⟨⟨_,_,S⟩,_,S,S,_,_,32,_,S,NB,(),'b',cG 'b',λO o4 b0 b1 MZ=>?_⟩;rfl'
  have hz:(e.map D.bl).length<sizeLine:=by rw[Hj];show bu ()
  refine⟨λρ=>∃(j:Bool)(G:Om),ρ=BS N k u rt G bs gs (e++[j]) (Z (.v (.int (0+(i:Nat))))) (Z (.v (.int (l-2)))) (Z (.v (.int O))) L/\Pl (m+1+5*i+3) G,⟨λc=>?_,λc=>⟨hz,_,gc D.bl e ŕ,ŕ,o4,S,MZ.mono ()⟩⟩,?_⟩
  ·refine⟨⟨_,_,S⟩,gX 'b' 'b',_,S,S,_,_,_,_,S,MZ,(),?_,cG ?_,λx3 G c0 c1 Q=>?_⟩
   ·change (0:Int)<2*(if rt>1 then rt else 1);split<;>omega
   ·change 2*(if rt>1 then rt else 1)<2^64;split<;>omega
   rfl';show⟨hz,_,gc D.bl e _,_,G,S,Q.mono ()⟩
  rintro ρ ⟨j,G,rfl,Q⟩
  have X:(gs.map D.int).length<sizeLine:=by rw[Hj];show bu ()
  refine⟨(by decide:(0:Int)<4),?_⟩;refine⟨⟨_,_,S⟩,_,S,S,_,_,5,_,S,Q,(),'b',cG 'b',λx4 a_ d0 d1 Pk=>?_⟩;rfl';refine⟨X,_,gc D.int gs _,?_⟩;rfl';have M8:cn ((e++[j]).map D.bl) (0+(i:Int))=Z (.bl j):=cE (i:=i) (by rw[Hl (),B,Ic];rfl) (Io _)
  have T:(bs.map aI).length<sizeLine:=by rw[Hj,C.1];show bu ()
  refine⟨λρ=>∃(y:Y Int)(b_:Int),ρ=BS N k u rt a_ bs y (e++[j]) (Z (.v (.int (0+(i:Nat))))) (Z (.v (.int (l-2)))) (Z (.v (.int b_))) (Z (.v (.int (l-2+O % 4))))/\y.length=i+1/\(∀g∈y,g.natAbs<=2),⟨_,M8,λc=>?_,λc=>⟨gs++[x4-2],O,S,by rw[Hm,z];rfl,fB r ()⟩⟩,?_⟩
  ·refine⟨i,by rw[Io];show fj (by rw[Hj,Hm];change i<gs.length+1;omega),_,(JK ..).symm,?_⟩;show⟨_,0,S,by rw[Hs,Hm,z];rfl,qx (fB r ()) 'b'⟩
  rintro ρ ⟨y,b_,rfl,Tj,U⟩;refine⟨λρ=>∃M:œ Int,ρ=BS N k u rt a_ bs y (e++[j]) (Z (.v (.int (0+(i:Nat))))) (Z (.v (.int (l-2)))) (Z (.v (.int b_))) (Z (.v (oI M)))/\∀mm,M=Z mm->mm.natAbs<=8,⟨gX 'b' 'b',λc=>⟨Œ,S,λmm h=>by cases h⟩,λc=>⟨λc2=>⟨Z (l-2-1),S,λmm h=>by cases h;omega⟩,λc2=>⟨Z (l-2+O % 4),S,λmm h=>by cases h;omega⟩⟩⟩,?_⟩;rintro ρ ⟨M,rfl,Tn⟩;show⟨T,_,gc aI bs (l-2,M),_,_,_,a_,_,_,_,_,S,C.snoc (by change (l-2).natAbs<=5;omega) Tn,Tj,U,by rw[Hm,B];rfl,Pk.mono ()⟩
 ·rintro ρ ⟨bs,gs,e,o2,u7,u8,u9,L,rfl,C,z,r,B,I⟩;rw[fm,IY]at C z B I;show⟨_,_,_,S,λq1 q2 q3=>⟨_,S,q bs gs e o2 q1 q2 q3 C z r B (I.mono ())⟩⟩
noncomputable def lP:D->D
 |.lst l=>.tup l
 |d=>d
theorem t9{d:D}{l:Y D}(h:lP d=.tup l):d=.tup l\/d=.lst l:=by
 cases d with
 |tup m=>show .inl h
 |lst m=>refine .inr ?_;cases h;rfl
 |_=>cases h
inductive z__law_times(ds:List D)(R:D->Prop):Prop|mk (xs ys:List Int) (_:ds.map lP=[.tup (xs.map D.int),.tup (ys.map D.int)]) (_:xs.length<=1000) (_:(∀x∈xs,cf x)) (_:(∀y∈ys,cf y)) (_:R (.int (dM xs ys)))
theorem D3(F:Fun K "_law_times" "_law_times" kE f J)(B:mg "sum"=Œ)(r:mg "zip"=Œ):FnOk P w K mg base aD (n+1) f J ["_law_entries","_law_spot"] (lSp K z__law_times):=by
 refine F.okD DY (λds R h=>?_) (λC A outer s H E ds R G h=>?_)
 ·let⟨xs,g,e,_⟩:=h;have:=Il List.length e;rw[Hj]at this;show this
 let⟨xs,g,e,u,v,z,q⟩:=h
 obtain⟨a,c,rfl⟩:∃a c,ds=[a,c]:=by
  have:=Il List.length e;rw[Hj]at this
  match ds,this with
  | [a,c],_=>show⟨a,c,S⟩
 have o:lP a=.tup (xs.map D.int):=(Kq e).1;have p:lP c=.tup (g.map D.int):=(Kq (Kq e).2).1;refine⟨_,(az (aV (bx (BA S) S B PyProof.Rows.boot_sum (aP (PD.q (PF.d (dL (k:=2) (N':=["_law_number","_law_one"]) (cap:=[Œ,Œ]) S (.ok (show bZ ["_law_entries","_law_spot"] (ar kE) _ ["_law_number","_law_one"] [Œ,Œ]=Ŕ by lia)) 'a' (jK (n:=2) (fL (bI 'b') (fL (bI 'b') jC))) (kg S r (ad (dv 0) (ad (dv 1) ak ac) ac)) (λ_ _ _ _ _=>(fe (n:=2) S (cb (bf (i:=0) (show List.Nodup (["_law_number","_law_one"]:Y Str)by lia) S T3) (cb (bf (i:=1) (show List.Nodup (["_law_number","_law_one"]:Y Str)by lia) S T3) fg)))) (λ_ _ _ _ _=>(aX cV (aa 0) (aa 1)))))) aT bA) bA ae))),?_⟩;rcases t9 o with rfl|rfl<;>rcases t9 p with rfl|rfl
 all_goals
  refine⟨_,_,S,S,?_⟩;refine vx (λx y=>D.int (x*y)) (bu u) (λx j y l=>⟨S,gK (v x j) (z y l),S⟩) ?_;show⟨List.zipWith (λx y=>x*y) xs g,by rw[Ls];rfl,q⟩
noncomputable def jo(n:Nat)(rs:Y aq):Prop:=∀r∈rs,r.1.length=n/\(∀x∈r.1,x.natAbs<=3)/\r.2.natAbs<=400
inductive y__law_rows(as:List Sm)(R:Sm->List Om->Prop)(Rx:XD->List Om->Prop):Prop|mk (a:Option Addr) (o:Om) (n m:Nat) (mn:Int) (sp:List Int) (hs:List Bool) (_:as=[.ob a o,.v (.int mn),.v (.lst (sp.map D.int)),.v (.lst (hs.map D.bl))]) (_:Pl m o) (_:m+200<2^20) (_:n<=8) (_:0<=mn) (_:mn<=12) (_:sp.length=n) (_:hs.length=n) (_:(∀x∈sp,x.natAbs<=10)) (_:∀(rs:List aq)(o':Om),jo n rs->(rs.length:Int)<=mn->Pl (m+200) o'->R (.own (rs.map ay)) [o'])
noncomputable abbrev RS(g:Addr)(e:Int)(sp:Y Int)(c:Y Bool)(o:Om)(rs:Y aq)(h j l p r a:œ Sm):af:=[Z (.ob (Z g) o),Z (.v (.int e)),Z (.v (.lst (sp.map D.int))),Z (.v (.lst (c.map D.bl))),Z (.own (rs.map ay)),h,j,l,p,r,a]
noncomputable def nums12:Y Int:=[0,0,0,0,0,0,-3,-2,-1,1,2,3]
theorem DO{x:Int}(c:0<=x)(e:x<12):∃v:Int,cn (nums12.map D.int) x=Z (.int v)/\v.natAbs<=3:=by
 let⟨k,rfl⟩:=Kk c
 have a:k<12:=by omega
 refine⟨nums12.getD k 0,cE (i:=k) (bP (show k<nums12.length from a)) S,?_⟩
 have:∀j<12,(nums12.getD j 0).natAbs<=3:=by decide
 show this k a
theorem Fh(F:Fun K "_law_rows" "_law_rows" nH f J)(u:ClM P w K mg base n "_law_draw" ["_law_pool_here","_law_many"] y__law_draw)(kZ:Cl P w K mg base n "_law_times" ["_law_entries","_law_spot"] z__law_times)(bW:mg "range"=Œ)(fK:mg "list"=Œ)(fJ:mg "abs"=Œ)(bi:mg "len"=Œ)(aW:mg "tuple"=Œ):FnOk P w K mg base aD (n+1) f J ["_law_pool_here","_law_many","_law_spot","_law_hung"] (lSpM K y__law_rows):=by
 refine F.okM qan (λas R Rx h=>?_) (λL1 A outer s H E as R Rx qs L6 e h Mi=>?_)
 ·let⟨a,o,k,m,I,sp,G,rfl,_⟩:=h;rfl
 let⟨a,o,k,m,I,sp,G,rfl,hp,hm,hk,h0,h12,NL,Pj,hsz,q⟩:=h;let⟨Q,rfl⟩:=dY Mi
 refine⟨_,(ao (aO (i:=4) qan.nd S T3 (dU (eO ak)))
   (ao (gb HL S (rW S bW (aH (bE u e S (bG 0 (aH (ag (aX cy (aa 1) (PD.q ah))) bc cL) ac) ac (au cL ae)) bc bj)) (db (i:=5) qan.nd S T3) (ao (aO (i:=6) qan.nd S T3 (dU (eO ak)))
   (ao (gb HL S (gD (b8 (dv 3))) (db (i:=7) qan.nd S T3) (ao (aO (i:=8) qan.nd S T3 (rD (ag (bC (ad ah (ad ah (ad ah (ad ah (ad ah (ad ah (ad (eM (PD.q ah)) (ad (eM (PD.q ah)) (ad (eM (PD.q ah)) (ad ah (ad ah (ad ah ak aL) aL) aL) il) il) il) aL) aL) aL) aL) aL) aL))) (bE u e S (bG 0 (aH (ag ah) bc aL) ac) ac (au aL ae)) (λ_ _=>rfl)))
   (cu (bY (bR (b7 (aa 7) (λ_=>rfl))) (aU (aO (i:=8) qan.nd S T3 (ag (bx kB S fJ JD (aP (aa 8) aT ac) ac ae)))) cq)
   (aU (fZ 6 (ag (dv 8)) (ee ac) ac)))))
   (ao (aO (i:=9) qan.nd S T3 (bE u e S (bG 0 (aH (ag ah) bc aL) ac) ac (au aL ae)))
   (cu (bY (bR (PWD.td (dh (aA (cW e.units) (aa 9) (PD.q ah) (ap _)) (eP (aA dS (PD.q (bx cD S bi HW (aP (aa 4) aT ac) ac ae)) (PD.q ah) (ap _)))))) (aU (aO (i:=6) qan.nd S T3 (BE S fK (rD (wZ 4 S (bE u e S (bG 0 (aH (ag (bx cD S bi HW (aP (aa 4) aT ac) ac ae)) bc bj) ac) ac (au bj ae)) (λ_ _=>rfl)) (ag ah) (λ_ _=>rfl)) aF))) cq)
   (ao (aO (i:=10) qan.nd S T3 (dm di (ag (ut kZ e S (aP (aa 6) (aP (aa 2) aT ac) ac) ac (au ac ae))) (bE u e S (bG 0 (aH (ag ah) bc aL) ac) ac (au aL ae))))
   (cu (bY (bR (aA (cW e.units) (aa 9) (PD.q ah) (ap _))) (aU (aO (i:=10) qan.nd S T3 (dm di (bE u e S (bG 0 (aH (ag ah) bc aL) ac) ac (au aL ae)) (ag ah)))) cq)
   (aU (fZ 4 (ag (bC (ad (cH cX S aW Hz (aP (aa 6) aT ac) ac ae) (ad (dv 10) ak ac) bj))) (ee bN) bN)))))))))
   (aU (cC (ka 4))))),?_⟩
 intro ke;refine⟨⟨_,_,S⟩,_,S,S,_,_,_,_,S,hp,(),(),cG (),λc o1 c0 c1 Na=>?_⟩;rfl';refine⟨⟨(),()⟩,λi ρ=>∃rs o' u5 u6 g l b_ B,ρ=RS Q I sp G o' rs u5 u6 g l b_ B/\jo k rs/\rs.length=i/\Pl (m+1+14*i) o',⟨[],o1,_,_,_,_,_,_,S,λr e=>(by cases e),S,Na⟩,?_,?_⟩
 ·rintro i d ρ hd ⟨rs,o2,u5,u6,g,l,b_,B,rfl,X,be,T⟩;let⟨hi,rfl⟩:=gQ hd
  have Nm:i<12:=by omega
  refine⟨λj ρ=>∃es o' g l,ρ=RS Q I sp G o' rs (Z (.v (.int (0+(i:Nat))))) (Z (.own (es.map D.int))) g l b_ B/\es.length=j/\(∀x∈es,x.natAbs<=3)/\Pl (m+1+14*i+j) o',⟨[],o2,_,_,S,S,λx N=>(by cases N),T⟩,?_,?_⟩
  ·rintro j d ρ hd ⟨es,o3,g,l,rfl,M,p,U⟩;let⟨hb,rfl,hhb⟩:=bQ hd;have hj:=aB hhb;refine⟨⟨_,_,S⟩,_,S,S,_,_,12,_,S,U,(),'b',cG 'b',λx O x0 x1 L=>?_⟩;rfl';let⟨v,hv,hv3⟩:=DO x0 x1;refine⟨_,hv,?_⟩;refine⟨λρ=>∃y:Int,ρ=RS Q I sp G O rs (Z (.v (.int (0+(i:Nat))))) (Z (.own (es.map D.int))) (Z (.v (.bl hb))) (Z (.v (.int y))) b_ B/\y.natAbs<=3,⟨λc=>⟨_,S,?_⟩,λc=>⟨v,S,hv3⟩⟩,?_⟩
   ·split<;>omega
   rintro ρ ⟨y,rfl,hy⟩;show⟨by rw[Hj];show bu (),_,gc D.int es y,_,O,_,_,S,by rw[Hm,M];rfl,fB p hy,L.mono ()⟩
  ·rintro ρ ⟨es,o3,g,l,rfl,M,p,U⟩;rw[Hj]at M U;refine⟨⟨_,_,S⟩,_,S,S,_,_,5,_,S,U,(),'b',cG 'b',λmr O x0 x1 L=>?_⟩;rfl';refine⟨λρ=>∃(es:Y Int)(o':Om),ρ=RS Q I sp G o' rs (Z (.v (.int (0+(i:Nat))))) (Z (.own (es.map D.int))) g l (Z (.v (.int mr))) B/\es.length=k/\(∀x∈es,x.natAbs<=3)/\Pl (m+1+14*i+10) o',⟨λc=>⟨λC=>?_,λC=>⟨es,O,S,(),p,L.mono ()⟩⟩,λc=>⟨λC=>ff C,λC=>⟨es,O,S,(),p,L.mono ()⟩⟩⟩,?_⟩
   ·have C:0<rs.length:=by have:=dP C;rw[Hj]at this;omega
    refine⟨⟨_,_,S⟩,⟨_,_,S⟩,_,S,S,_,_,_,_,S,L,(),by rw[Hj];omega,cG (by rw[Hj];omega),λy o5 y0 y1 a_=>?_⟩;rfl';rw[Hj]at y1;let⟨z,rfl⟩:=Kk y0
    have hz:z<rs.length:=by omega
    let⟨r1,r2,r3⟩:=X rs[z] (Jw hz);show⟨_,_,_,_,S,S,cE (i:=z) (bB hz) S,_,S,_,S,rs[z].1,o5,S,r1,r2,a_.mono ()⟩
   rintro ρ ⟨es,o5,rfl,M,p,a_⟩;have OB:∀x∈es,cf x:=λx N=>hV (m:=10) (by have:=p x N;omega) 'b';have To:∀x∈sp,cf x:=λx N=>hV (m:=10) (by have:=hsz x N;omega) 'b';have P4:=mD p hsz
   have hd9:(dM es sp).natAbs<=300:=by have:es.length*(3*10)<=8*(3*10):=KS _ ();omega
   refine⟨es,sp,S,(),OB,To,trivial,?_⟩;refine⟨⟨_,_,S⟩,_,S,S,_,_,4,_,S,a_,(),'b',cG 'b',λy o6 y0 y1 Pk=>?_⟩;rfl';refine⟨λρ=>∃(b:Int)(o':Om),ρ=RS Q I sp G o' rs (Z (.v (.int (0+(i:Nat))))) (Z (.own (es.map D.int))) g l (Z (.v (.int mr))) (Z (.v (.int b)))/\b.natAbs<=400/\Pl (m+1+14*i+12) o',⟨λc=>?_,λc=>⟨_,o6,S,(),Pk.mono ()⟩⟩,?_⟩
   ·refine⟨⟨_,_,S⟩,_,S,S,_,_,13,_,S,Pk,(),'b',cG 'b',λz o7 z0 z1 Rf=>?_⟩;rfl';show⟨_,o7,S,(),Rf.mono ()⟩
   rintro ρ ⟨b,o7,rfl,hb,Rf⟩;show⟨by rw[Hj];show bu (),_,gc ay rs (es,b),_,o7,_,_,_,_,_,_,S,fB X ⟨M,p,hb⟩,by rw[Hm,be];rfl,Rf.mono ()⟩
 ·rintro ρ ⟨rs,o2,u5,u6,g,l,b_,B,rfl,X,be,T⟩;rw[fm]at be T;show⟨_,S,q rs o2 X () (T.mono ())⟩
structure PlS(n:Nat)(mn:Int)(bs:List Bd)(rs:List aq)(gs sp:List Int):Prop where
 b:BdS n bs
 r:jo n rs
 rl:(rs.length:Int)<=mn
 gl:gs.length=n
 g:∀g∈gs,g.natAbs<=2
 sl:sp.length=n
 s:∀x∈sp,x.natAbs<=10
inductive y__law_small(as:List Sm)(R:Sm->List Om->Prop)(Rx:XD->List Om->Prop):Prop|mk (a:Option Addr) (o:Om) (n m:Nat) (mn op:Int) (_:as=[.ob a o,.v (.int (n:Nat)),.v (.int mn),.v (.int op)]) (_:Pl m o) (_:m+500<2^20) (_:n<=8) (_:1<=mn) (_:mn<=12) (_:0<=op) (_:op<=4) (_:∀(bs:List Bd)(rs:List aq)(gs sp:List Int)(o':Om),PlS n mn bs rs gs sp->Pl (m+500) o'->R (.v (.tup [bF bs rs gs,.tup (sp.map D.int)])) [o'])
noncomputable abbrev SS(j:Addr)(k:Nat)(g h:Int)(o:Om)(bs:Y Bd)(gs:Y Int)(l p r u a e c:œ Sm):af:=[Z (.ob (Z j) o),Z (.v (.int (k:Nat))),Z (.v (.int g)),Z (.v (.int h)),Z (.v (.lst (bs.map aI))),Z (.own (gs.map D.int)),l,p,r,u,a,e,c]
theorem xn(F:Fun K "_law_small" "_law_small" lu f J)(Nc:ClM P w K mg base n "_law_bounds" ["_law_pool_here","_law_count","_law_opens"] y__law_bounds)(NC:ClM P w K mg base n "_law_rows" ["_law_pool_here","_law_many","_law_spot","_law_hung"] y__law_rows)(I:ClM P w K mg base n "_law_draw" ["_law_pool_here","_law_many"] y__law_draw)(kZ:Cl P w K mg base n "_law_times" ["_law_entries","_law_spot"] z__law_times)(X:mg "tuple"=Œ)(jM:mg "max"=Œ):FnOk P w K mg base aD (n+1) f J ["_law_pool_here","_law_count","_law_many","_law_opens"] (lSpM K y__law_small):=by
 refine F.okM qap (λas R Rx h=>?_) (λL1 A outer s H E as R Rx qs L6 B h Mi=>?_)
 ·let⟨a,o,k,m,C,L,rfl,_⟩:=h;rfl
 let⟨a,o,k,m,C,L,rfl,hp,hm,hk,h1,h12,h0,h4,q⟩:=h;let⟨a_,rfl⟩:=dY Mi
 refine⟨_,(ao (zc 4 5 6 S qap.nd S S S T3 T3 T3 (bE Nc B S (bG 0 (aH (ag (dv 1)) (aH (ag (dv 3)) bc ac) ac) ac) ac (au ac (au ac ae))))
   (ao (aO (i:=7) qap.nd S T3 (dU (eO ak)))
   (jR 4 (ao (gb HL S (gD (b8 (dv 4))) (iR (n:=2) S (e5 (db (i:=8) qap.nd S T3) (e5 (db (i:=9) qap.nd S T3) i8))) (ao (aO (i:=10) qap.nd S T3 (ag ah))
   (cu (bY (bR (aA cZ (aa 9) (PD.q bo) (ap _))) (aU (aO (i:=10) qap.nd S T3 (ag (bx (ve S) S jM LJ (aP (PD.q ah) (aP (PD.q (aX cy (PD.q (aX di (aa 9) (aa 8))) (PD.q ah))) aT cL) aL) aL (au cL ae))))) cq)
   (aU (fZ 7 (dm cy (ag (dv 8)) (bE I B S (bG 0 (aH (ag (dv 10)) bc ac) ac) ac (au ac ae))) (ee cL) cL)))))
   (jR 7 (jR 6 (ao (aO (i:=11) qap.nd S T3 (bE NC B S (bG 0 (aH (ag (aX di (aa 2) (PD.q ah))) (aH (ag (dv 7)) (aH (ag (dv 6)) bc ac) ac) cL) ac) ac (au cL (au ac (au ac ae)))))
   (cu (bY (PXW.toB (mU (AE (cW B.units) (bE I B S (bG 0 (aH (ag ah) bc aL) ac) ac (au aL ae)) (ag ah) (ap _)) (mU (bR (aA dS (aa 1) (PD.q ah) (ap _))) (mU (bR (cF (b7 (PD.q (br (aa 6) (PD.q (aX di (aa 1) (PD.q ah))) (λ_ _=>rfl))) (λ_=>rfl)))) (uC (bR (cF (b7 (PD.q (br (aa 6) (PD.q (aX di (aa 1) (PD.q ah))) (λ_ _=>rfl))) (λ_=>rfl))))))))) (ao (aO (i:=12) qap.nd S T3 (dm cy (ag (aX cV (PD.q (PF.d (eO (ad ah ak aL)))) (PD.q (aX di (aa 1) (PD.q ah))))) (uc (Er (aH (dm di (ag (eM (PD.q ah))) (bE I B S (bG 0 (aH (ag ah) bc aL) ac) ac (au aL ae))) (aH (dm di (ag (eM (PD.q ah))) (bE I B S (bG 0 (aH (ag ah) bc aL) ac) ac (au aL ae))) bc cL) cL)))))
   (ao (fZ 11 (Fe (aH (ag (cH cX S X Hz (aP (aa 12) aT ac) ac ae)) (aH (dm di (ag (ut kZ B S (aP (aa 12) (aP (aa 7) aT ac) ac) ac (au ac ae))) (bE I B S (bG 0 (aH (ag ah) bc aL) ac) ac (au aL ae))) bc cL) bj)) (ee bN) bN)
   (ao (lN 5 (dm cy (ag ah) (bE I B S (bG 0 (aH (ag ah) bc aL) ac) ac (au aL ae))) (ag (aX di (aa 1) (PD.q ah))))
   (aU (lN 5 (dm cy (ag ah) (bE I B S (bG 0 (aH (ag ah) bc aL) ac) ac (au aL ae))) (ag (aX di (aa 1) (PD.q ah)))))))) cq)
   (aU (cC (ag (bC (ad (bC (ad (cH cX S X Hz (aP (aa 4) aT ac) ac ae) (ad (cH cX S X Hz (aP (aa 11) aT ac) ac ae) (ad (cH cX S X Hz (aP (aa 5) aT ac) ac ae) ak bj) bj) bj)) (ad (cH cX S X Hz (aP (aa 7) aT ac) ac ae) ak bj) bN))))))))))))),?_⟩
 intro ke;refine⟨⟨_,_,S⟩,_,S,S,_,_,k,m,L,S,hp,(),hk,h0,h4,λbs gs G o1 q1 q2 q3 hB Oh hg Pj Na=>?_⟩;refine⟨_,_,_,_,_,_,S,⟨(by change 4<13;decide),(by change 5<13;decide),(by change 6<13;decide)⟩,?_⟩;rfl';refine⟨λi ρ=>∃sp o' Q b_ N,ρ=SS a_ k C L o' bs gs (Z (.own (G.map D.bl))) (Z (.own (sp.map D.int))) Q b_ N Œ Œ/\sp.length=i/\(∀x∈sp,x.natAbs<=10)/\Pl (m+100+i) o',⟨[],o1,_,_,_,S,S,λx u=>(by cases u),Na⟩,?_,?_⟩
 ·rintro i d ρ hd ⟨sp,be,Q,b_,N,rfl,U,O,M6⟩;let⟨b,rfl,hb⟩:=bQ hd;let⟨b1,b2⟩:=hB.2 b (Hu hb);have hi:=aB hb;have hBl:=hB.1;refine⟨S,?_⟩;refine⟨λρ=>∃M:Int,ρ=SS a_ k C L be bs gs (Z (.own (G.map D.bl))) (Z (.own (sp.map D.int))) (Z (.v (.int b.1))) (Z (.v (oI b.2))) (Z (.v (.int M))) Œ Œ/\0<M/\M<=14/\(M<=5\/b.1+M<=10),?_,?_⟩
  ·let⟨l,mo⟩:=b
   cases mo with
   |none=>show⟨ff,λ_=>⟨4,S,'b','b',.inl 'b'⟩⟩
   |some mm=>
    have b2:=b2 mm S;have b1:l.natAbs<=5:=b1;refine⟨λ_=>⟨if mm-l+1>1 then mm-l+1 else 1,S,?_,?_,?_⟩,tf⟩
    ·split<;>omega
    ·split<;>omega
    ·change _\/l+_<=10;split
     ·show .inr ()
     ·show .inl ()
  rintro ρ ⟨M,rfl,w0,w14,w5⟩;refine⟨⟨_,_,S⟩,_,S,S,_,_,M,_,S,M6,(),w0,cG (),λx o3 x0 x1 NB=>?_⟩;rfl';show⟨by rw[Hj];show bu (),_,gc D.int sp _,_,o3,_,_,_,S,by rw[Hm,U];rfl,fB O (),NB.mono ()⟩
 rintro ρ ⟨sp,be,Q,b_,N,rfl,U,O,M6⟩;rw[Hj,hB.1]at U M6;refine⟨⟨_,_,S⟩,_,S,S,_,_,k,_,_,sp,G,S,M6,(),hk,(),(),U,Pj,O,λrs o3 hR Ml NB=>?_⟩;rfl';have fin:∀(r:Y aq)(p:Y Int)(o':Om),jo k r->(r.length:Int)<=C->p.length=k->(∀g∈p,g.natAbs<=2)->Pl (m+400) o'->R (.v (.tup [bF bs r p,.tup (sp.map D.int)])) [o']:=λr p o' r1 r2 r3 r4 r5=>q bs r p sp o' ⟨hB,r1,r2,r3,r4,U,O⟩ (r5.mono ());refine⟨λρ=>∃(r:Y aq)(p:Y Int)(o':Om)(Ol:œ Sm),ρ=[Z (.ob (Z a_) o'),Z (.v (.int (k:Nat))),Z (.v (.int C)),Z (.v (.int L)),Z (.v (.lst (bs.map aI))),Z (.own (p.map D.int)),Z (.v (.lst (G.map D.bl))),Z (.v (.lst (sp.map D.int))),Q,b_,N,Z (.own (r.map ay)),Ol]/\jo k r/\(r.length:Int)<=C/\p.length=k/\(∀g∈p,g.natAbs<=2)/\Pl (m+400) o',?_,?_⟩
 ·have stay:∀o',Pl (m+400) o'->∃(r:Y aq)(p:Y Int)(be:Om)(Ol:œ Sm),[Z (Sm.ob (Z a_) o'),Z (.v (.int (k:Nat))),Z (.v (.int C)),Z (.v (.int L)),Z (.v (.lst (bs.map aI))),Z (.own (gs.map D.int)),Z (.v (.lst (G.map D.bl))),Z (.v (.lst (sp.map D.int))),Q,b_,N,Z (.own (rs.map ay)),Œ]=[Z (.ob (Z a_) be),Z (.v (.int (k:Nat))),Z (.v (.int C)),Z (.v (.int L)),Z (.v (.lst (bs.map aI))),Z (.own (p.map D.int)),Z (.v (.lst (G.map D.bl))),Z (.v (.lst (sp.map D.int))),Q,b_,N,Z (.own (r.map ay)),Ol]/\jo k r/\(r.length:Int)<=C/\p.length=k/\(∀g∈p,g.natAbs<=2)/\Pl (m+400) be:=λo' h=>⟨rs,gs,o',Œ,S,hR,(),Oh,hg,h⟩;refine⟨⟨_,_,S⟩,_,S,S,_,_,2,_,S,NB,(),'b',cG 'b',λx o4 x0 x1 T=>?_⟩;rfl';refine⟨λc=>⟨λc2=>?_,λc2=>⟨ff,λ_=>stay o4 (T.mono ())⟩⟩,λc=>⟨ff,λ_=>stay o4 (T.mono ())⟩⟩
  have c2:1<k:=by have:=dP c2;omega
  have M8:∀j:Nat,j<k->∀z:Int,z=(j:Int)->cn (G.map D.bl) z=Z (.bl (G.getD j ŕ)):=λj hj z e=>cE (i:=j) (bP ()) e;refine⟨_,M8 (k-1) () _ (),λc3=>⟨_,M8 (k-2) () _ (),λc4=>?_,λc4=>stay o4 (T.mono ())⟩,λc3=>⟨ff,λ_=>stay o4 (T.mono ())⟩⟩;refine⟨⟨(),(),small (by change 1*((k:Int)-2).toNat<=1000;omega)⟩,(List.replicate (k-2) 0).map D.int,by rw[show ((k:Int)-2).toNat=k-2 by omega];show B5 (k-2) 0,?_⟩;refine⟨⟨_,_,S⟩,_,S,S,_,_,3,_,S,T,(),'b',cG 'b',λy o5 y0 y1 NS=>?_⟩;rfl';refine⟨⟨_,_,S⟩,_,S,S,_,_,3,_,S,NS,(),'b',cG 'b',λz o6 z0 z1 Pk=>?_⟩;rfl'
  have Nq:((List.replicate (k-2) 0++[-1-y,-1-z]):Y Int).length=k:=by rw[Hm,IS];change k-2+2=k;omega
  have Tp:∀x∈(List.replicate (k-2) 0++[-1-y,-1-z]:Y Int),x.natAbs<=3:=λx u=>by
   rcases HU.mp u with u|u
   ·rw[List.eq_of_mem_replicate u];decide
   ·simp only[HH,Jv,or_false]at u;rcases u with rfl|rfl<;>omega
  refine⟨small (by rw[Hj,IS];change _+2<=1000;omega),((List.replicate (k-2) 0++[-1-y,-1-z]):Y Int).map D.int,by rw[KR];rfl,?_⟩;generalize (List.replicate (k-2) 0++[-1-y,-1-z]:Y Int)=es at *;have OB:∀x∈es,cf x:=λx u=>hV (m:=10) (by have:=Tp x u;omega) 'b';have To:∀x∈sp,cf x:=λx u=>hV (m:=10) (by have:=O x u;omega) 'b';have P4:=mD Tp O
  have hd9:(dM es sp).natAbs<=300:=by have:es.length*(3*10)<=8*(3*10):=KS _ ();omega
  refine⟨es,sp,S,(),OB,To,trivial,?_⟩;refine⟨⟨_,_,S⟩,_,S,S,_,_,2,_,S,Pk,(),'b',cG 'b',λv o7 v0 v1 Rf=>?_⟩;rfl';refine⟨by rw[Hj];show bu (),_,gc ay rs (es,dM es sp-v),?_⟩;rfl';refine⟨⟨_,_,S⟩,_,S,S,_,_,2,_,S,Rf,(),'b',cG 'b',λg1 o8 g0 g2 hp8=>?_⟩;rfl';refine⟨k-1,by rw[show (k:Int)-1=((k-1:Nat):Int)by omega];show fj (by rw[Hj,Oh];omega),_,(JK ..).symm,?_⟩;rfl';refine⟨⟨_,_,S⟩,_,S,S,_,_,2,_,S,hp8,(),'b',cG 'b',λg3 o9 g4 g5 hp9=>?_⟩;rfl';refine⟨k-2,by rw[show (k:Int)-2=((k-2:Nat):Int)by omega];show fj (by rw[Hj,Hs,Oh];omega),_,(JK ..).symm,?_⟩;rfl';show⟨rs++[(es,dM es sp-v)],_,o9,_,S,fB hR ⟨Nq,Tp,by change (dM es sp-v).natAbs<=400;omega⟩,by rw[Hm,Im];omega,by rw[Hs,Hs,Oh],qx (qx hg ()) (),hp9.mono ()⟩
 rintro ρ ⟨r,p,o',Ol,rfl,r1,r2,r3,r4,r5⟩;show⟨_,S,fin r p o' r1 r2 r3 r4 r5⟩
theorem pH{m:Int}:∀{ns:Y Int},(∀x∈ns,m∣x)->m∣ba ns:=by
 have a:∀(ns:Y Int)(d:Int),m∣d->(∀x∈ns,m∣x)->m∣ns.foldl (λd x=>(Int.gcd x d:Int)) d:=by
  intro ns
  induction ns with
  |nil=>intro d hd _;show hd
  |cons x r g=>
   intro d hd c;show g _ (Int.dvd_coe_gcd (c x Ht) hd) λy e=>c y (Hv _ e)
 intro ns h;show a ns 0 (Int.dvd_zero m) h
theorem wT{l:Y Int}(h:0<ba l):ba (l.map (·/ba l))=1:=by
 generalize hd:ba l=d at h
 have j:d*ba (l.map (·/d))∣d:=by
  conv=>rhs;rw[←hd]
  refine pH λx a=>?_
  have g:d∣x:=by rw[←hd];show ku l x a
  have c:=ku (l.map (·/d)) (x/d) (HG.mpr ⟨x,a,S⟩);have:=Int.mul_dvd_mul_left d c;rw[Int.mul_ediv_cancel' g]at this;show this
 have u:=i4 (l.map (·/d));generalize ba (l.map (·/d))=e at *;let⟨k,r⟩:=j
 have o:d*(e*k)=d*1:=by rw[←Int.mul_assoc,←r,Int.mul_one]
 have p:e*k=1:=Int.eq_of_mul_eq_mul_left () o;show Int.eq_one_of_dvd_one u ⟨k,p.symm⟩
noncomputable def mu(s:Led):Nat:=64*s.st.length+2*s.rs.length+s.rs.countP c9
structure Wy(n:Nat)(s:Led):Prop where
 n8:n<=8
 bl:s.bs.length=n
 gl:s.gl.length=n
 ll:s.lm.length=n
 ml:s.mm.length=n
 sl:∀u∈s.st,u<n
 so:s.st.Pairwise (·<·)
 rl:s.rs.length<=30
 rm:s.rm.length=s.rs.length
 rr:∀r∈s.rs,r.1.length=n/\(∀x∈r.1,x.natAbs<2^64)/\r.2.natAbs<=2^(200+65*(n-s.st.length))
 bb:∀b∈s.bs,b.1.natAbs<=2^(200+65*(n-s.st.length))/\∀m,b.2=Z m->m.natAbs<=2^(200+65*(n-s.st.length))
 gg:∀x∈s.gl,x.natAbs<2^64
 ln:s.ln.length+mu s<=602
 gs:s.gs.length+s.st.length<=n
 gn:s.gn.length+s.st.length=n
 n1:∀d∈s.rm,NoL d
 n2:∀d∈s.mm,NoL d
 n3:∀d∈s.lm,NoL d
 n4:∀d∈s.ln,NoL d
 z:∀r∈s.rs,∀u,u<n->u∉s.st->r.1.getD u 0=0
 gr:∀g∈s.gn,g.1<n/\g.1∉s.st/\g.2.1.natAbs<=2^720/\g.2.2.length<=30/\∀r∈g.2.2,r.1.length=n/\0<r.1.getD g.1 0/\(∀x∈r.1,x.natAbs<2^64)/\r.2.natAbs<=2^720
theorem Wy.nd{n:Nat}{s:Led}(h:Wy n s):s.st.Nodup:=h.so.imp λh e=>by omega
theorem Wy.sn{n:Nat}{s:Led}(h:Wy n s):s.st.length<=n:=by have:=h.gn;omega
theorem kW{n k x:Nat}(a:n<=8)(h:x<=2^(200+65*(n-k))):x<=2^720:=HZ h (J2 'b' ())
theorem qO{x:Int}(h:x.natAbs<=2^720):cf x:=JR h (Jo 'b' 'b')
theorem Wy.led{n:Nat}{s:Led}(h:Wy n s):LedP n s:=by
 have j:=h.n8;have v:=h.ln;have y:=h.sn;refine⟨h.n8,h.bl,h.gl,h.ll,h.ml,h.sl,h.nd,h.rl,h.rm,λr p=>?_,λb l=>?_,λx g=>?_,(),by have:=h.gs;omega,by have:=h.gn;omega,h.n1,h.n2,h.n3,h.n4⟩
 ·let⟨c,a,u⟩:=h.rr r p;refine⟨c,λx g=>KH (a x g) (Jo 'b' 'b'),i4 _,?_⟩;have:=vh a 'b'
  have e:((2^64:Nat):Int)<2^9000:=by lia
  omega
 ·let⟨c,a⟩:=h.bb b l;show⟨qO (kW j c),λm o=>qO (kW j (a m o))⟩
 ·show KH (h.gg x g) (Jo 'b' 'b')
theorem kS{a:Type}{xs:Y a}{i:Nat}{y x:a}(h:x∈xs.set i y):x∈xs\/x=y:=J9 h
theorem tT{a:Type}(c:a->Bool)(xs:Y a)(p:Nat):(xs.eraseIdx p).countP c<=xs.countP c:=(List.eraseIdx_sublist xs p).countP_le
theorem Wy.drop{n:Nat}{s:Led}(h:Wy n s){p:Nat}(e:p<s.rs.length):Wy n (bS s p)/\mu (bS s p)<mu s:=by
 have c:∀x∈s.rs.eraseIdx p,x∈s.rs:=λx j=>Kh j;have l:(s.rs.eraseIdx p).length=s.rs.length-1:=IX e;have o:(s.rm.eraseIdx p).length=s.rm.length-1:=IX (by rw[h.rm];show e)
 have g:mu (bS s p)<mu s:=by have:=tT c9 s.rs p;unfold mu bS;simp only;omega
 have:=h.ln;have:=h.rm;have:=h.rl;show⟨⟨h.n8,h.bl,h.gl,h.ll,h.ml,h.sl,h.so,by change (s.rs.eraseIdx p).length<=_;omega,by change (s.rm.eraseIdx p).length=(s.rs.eraseIdx p).length;omega,λr a=>h.rr r (c r a),h.bb,h.gg,by change s.ln.length+_<=_;omega,h.gs,h.gn,λd hd=>h.n1 d (Kh hd),h.n2,h.n3,h.n4,λr a=>h.z r (c r a),h.gr⟩,g⟩
theorem tD{a d:Int}(hd:0<d):(fN a d).natAbs<=a.natAbs:=by
 unfold fN;have c:=Lf (-a) d;omega
theorem Wy.bnd{n:Nat}{s:Led}(h:Wy n s)(g:s.ln.length+mu s<=601){u:Nat}{b:Bd}{d:D}{lm mm:Y D}(e:b.1.natAbs<=2^(200+65*(n-s.st.length))/\∀m,b.2=Z m->m.natAbs<=2^(200+65*(n-s.st.length)))(hd:NoL d)(j:lm.length=n)(l:mm.length=n)(o:∀d∈lm,NoL d)(p:∀d∈mm,NoL d):Wy n { s with bs:=s.bs.set u b,ln:=s.ln++[d],lm:=lm,mm:=mm }/\mu { s with bs:=s.bs.set u b,ln:=s.ln++[d],lm:=lm,mm:=mm }=mu s:=by
 have c:mu { s with bs:=s.bs.set u b,ln:=s.ln++[d],lm:=lm,mm:=mm }=mu s:=rfl;refine⟨⟨h.n8,by change (s.bs.set u b).length=n;rw[Hs];show h.bl,h.gl,j,l,h.sl,h.so,h.rl,h.rm,h.rr,λx a=>?_,h.gg,?_,h.gs,h.gn,h.n1,p,o,λx a=>?_,h.z,h.gr⟩,c⟩
 ·rcases kS a with a|rfl
  ·show h.bb x a
  ·show e
 ·rw[c];change (s.ln++[d]).length+_<=_;rw[Hm,Im];omega
 ·rcases HU.mp a with a|a
  ·show h.n4 x a
  ·rw[Hw.mp a];show hd
theorem Wy.lowU{n:Nat}{s:Led}(h:Wy n s){u:Nat}(a:u<n):(aC s.bs u).1.natAbs<=2^(200+65*(n-s.st.length))/\∀m,(aC s.bs u).2=Z m->m.natAbs<=2^(200+65*(n-s.st.length)):=h.bb _ (cS (by rw[h.bl];show a))
theorem pO{a:D}{d:Int}(h:NoL a):NoL (eE (gm a) d):=mF (jm h)
theorem oh{ds:Y D}{i:Nat}{d:D}(h:∀d∈ds,NoL d)(hd:NoL d):∀x∈ds.set i d,NoL x:=λx a=>by
 rcases kS a with a|rfl
 ·show h x a
 ·show hd
theorem Wy.tb{n:Nat}{s:Led}(h:Wy n s){p u:Nat}{r:aq}(A:s.rs[p]?=Z r)(E:u<n)(F:r.1.getD u 0≠0):Wy n (kY s p u r)/\mu (kY s p u r)<mu s:=by
 have o:=aB A;let⟨l,j⟩:=h.drop o
 have z:mu (bS s p)+2<=mu s:=by
  have:=tT c9 s.rs p;have G:(s.rs.eraseIdx p).length=s.rs.length-1:=IX o;unfold mu bS;simp only;omega
 have y:(bS s p).ln.length+mu (bS s p)<=601:=by have:=h.ln;change s.ln.length+_<=_;omega
 have B:(0:Int)<((r.1.getD u 0).natAbs:Int):=by omega
 have g:=tD (a:=r.2) B;have x:=(h.rr r (Hu A)).2.2;have c:=h.lowU E;have v:NoL (s.rm.getD p .non):=h.n1 _ (cS (by rw[h.rm];show o));unfold kY dg;split
 ·let⟨w,e⟩:=l.bnd (u:=u) (b:=(fN r.2 ((r.1.getD u 0).natAbs:Int),(aC s.bs u).2)) (d:=eE (gm (s.rm.getD p .non)) (r.1.getD u 0)) (lm:=s.lm.set u (fA s)) (mm:=s.mm) y ⟨HZ g x,c.2⟩ (pO v) (by rw[Hs];show h.ll) h.ml (oh h.n3 (.int _)) h.n2;show⟨w,JR (Lg e) j⟩
 ·split
  ·let⟨w,e⟩:=l.bnd (u:=u) (b:=((aC s.bs u).1,Z (-fN r.2 ((r.1.getD u 0).natAbs:Int)))) (d:=eE (gm (s.rm.getD p .non)) (-r.1.getD u 0)) (lm:=s.lm) (mm:=s.mm.set u (fA s)) y ⟨c.1,λm C=>by cases C;rw[Int.natAbs_neg];show HZ g x⟩ (pO v) h.ll (by rw[Hs];show h.ml) h.n3 (oh h.n2 (.int _));show⟨w,JR (Lg e) j⟩
  ·show⟨l,j⟩
theorem we{r:aq}(h:c9 r=Ŕ):gj r=(r.1.map (·/ba r.1),fN r.2 (ba r.1))/\c9 (gj r)=ŕ/\1<ba r.1:=by
 have a:1<ba r.1:=IM h
 have e:gj r=(r.1.map (·/ba r.1),fN r.2 (ba r.1)):=by unfold gj;rw[Hq ()];rfl
 refine⟨e,?_,a⟩;rw[e];unfold c9;rw[show (r.1.map (·/ba r.1),fN r.2 (ba r.1)).1=r.1.map (·/ba r.1)from rfl,wT ()];rfl
theorem Bj{e:Type}{c:e->Bool}{xs:Y e}{i:Nat}{x y:e}(h:xs[i]?=Z x)(g:c x=Ŕ)(j:c y=ŕ):(xs.set i y).countP c+1=xs.countP c:=by
 induction xs generalizing i with
 |nil=>cases h
 |cons a xs l=>
  cases i with
  |zero=>
   cases h;rw[List.set_cons_zero,Ly (by rw[j];decide),Lz g]
  |succ i=>
   have:=l (i:=i) h;rw[List.set_cons_succ,List.countP_cons,List.countP_cons];omega
theorem oY(f:Int->Int)(a:f 0=0)(xs:Y Int)(u:Nat):(xs.map f).getD u 0=f (xs.getD u 0):=by
 rw[HE,HE,Hy]
 cases xs[u]? with
 |none=>show a.symm
 |some x=>rfl
theorem Wy.ev{n:Nat}{s:Led}(h:Wy n s){p:Nat}{r:aq}(j:s.rs[p]?=Z r)(o:c9 r=Ŕ):Wy n (iL s p r)/\mu (iL s p r)<mu s:=by
 have C:=aB j;let⟨l,B,M⟩:=we o;have e:=Hu j;let⟨G,H,I⟩:=h.rr r e;have A:NoL (s.rm.getD p .non):=h.n1 _ (cS (by rw[h.rm];show C))
 have L:mu (iL s p r)+1=mu s:=by have:=Bj (c:=c9) (y:=gj r) j o B;unfold mu iL;simp only[Hs];omega
 have:=h.ln;refine⟨⟨h.n8,h.bl,h.gl,h.ll,h.ml,h.sl,h.so,by change (s.rs.set p _).length<=_;rw[Hs];show h.rl,by change (s.rm.set p _).length=(s.rs.set p _).length;rw[Hs,Hs];show h.rm,λx a=>?_,h.bb,h.gg,by change (s.ln++[_]).length+_<=_;rw[Hm,Im];omega,h.gs,h.gn,oh h.n1 (.int _),h.n2,h.n3,λx a=>?_,λx a v u g=>?_,h.gr⟩,()⟩
 ·rcases kS a with a|rfl
  ·show h.rr x a
  ·rw[l];refine⟨by change (r.1.map _).length=n;rw[Hj];show G,λy E=>?_,HZ (tD ()) I⟩;let⟨z,F,rfl⟩:=HG.mp E;have:=Lf z (ba r.1);have:=H z F;omega
 ·rcases HU.mp a with a|a
  ·show h.n4 x a
  ·rw[Hw.mp a];show pO A
 ·rcases kS a with a|rfl
  ·show h.z x a v u g
  ·rw[l];change (r.1.map (·/ba r.1)).getD v 0=0;rw[oY (·/ba r.1) (Int.zero_ediv _),h.z r e v u g,Int.zero_ediv]
theorem Bf{xs:Y Int}{k j:Nat}{v:Int}:(xs.set k v).getD j 0=if j=k/\k<xs.length then v else xs.getD j 0:=by
 rw[HE,HE,List.getElem?_set];by_cases c:k=j
 ·subst c;by_cases a:k<xs.length
  ·simp[a]
  ·simp[a]
 ·rw[Hq c,Hq (λh=>c h.1.symm)]
noncomputable def eY(u:Nat)(v:Int)(r:aq):aq:=if r.1.getD u 0=0 then r else (r.1.set u 0,r.2-r.1.getD u 0*v)
theorem rC(s:Led)(u:Nat)(v:Int):∀i,i<=s.rs.length->(dq s u v i).rs=(s.rs.take i).map (eY u v)++s.rs.drop i
 |0,_=>rfl
 |i+1,j=>by
  have a:=rC s u v i ();have I:=jw s u v i
  have g:(dq s u v i).rs[i]?=Z s.rs[i]:=by rw[I.at_ i (Hr _)];show bB ()
  have e:bK (dq s u v i).rs i=s.rs[i]:=eI g;rw[lL];generalize dq s u v i=t at *
  have h:((s.rs.take i).map (eY u v)).length=i:=by rw[Hj,IB];omega
  have hd:s.rs.drop i=s.rs[i]::s.rs.drop (i+1):=Ld ();rw[i6 (bB (show i<s.rs.length by omega)),KR];unfold iA;rw[e];split
  ·rename_i c;rw[a,hd,HF];congr 1;change _=[eY u v s.rs[i]]++_;unfold eY;rw[Hx c];rfl
  ·rename_i c;change t.rs.set i _=_;rw[a,hd,JX _ _ (),h,Ic,List.set_cons_zero,HF];congr 1;change _=[eY u v s.rs[i]]++_;unfold eY;rw[Hq c];rfl
theorem sL(u:Nat)(v:Int)(t:Led):(bJ u v t).bs=t.bs/\(bJ u v t).rs=t.rs/\(bJ u v t).gl=t.gl/\(bJ u v t).st=t.st/\(bJ u v t).td=t.td/\(bJ u v t).ln=t.ln/\(bJ u v t).lm=t.lm/\(bJ u v t).mm=t.mm/\(bJ u v t).rm=t.rm/\(bJ u v t).gs.length<=t.gs.length+1/\(bJ u v t).ex=t.ex+t.gl.getD u 0*v/\(bJ u v t).gn=t.gn:=by
 unfold bJ;split
 ·rename_i c;rw[c];show⟨S,S,S,S,S,S,S,S,S,(),(),S⟩
 ·show⟨S,S,S,S,S,S,S,S,S,by simp,S,S⟩
structure FixE(s:Led)(u:Nat)(v:Int)(t:Led):Prop where
 bs:t.bs=s.bs
 rs:t.rs=s.rs.map (eY u v)
 gl:t.gl=s.gl
 st:t.st=s.st.erase u
 td:t.td=s.td
 lm:t.lm=s.lm
 mm:t.mm=s.mm
 ml:t.rm.length=s.rm.length
 ll:t.ln.length<=s.ln.length+s.rs.length
 gs:t.gs.length<=s.gs.length+1
 ex:t.ex=s.ex+s.gl.getD u 0*v
 gn:t.gn=s.gn++[(u,v,[])]
 n1:(∀d∈s.rm,NoL d)->∀d∈t.rm,NoL d
theorem zk(s:Led)(u:Nat)(v:Int):FixE s u v (fG s u v):=by
 have I:=jw s u v s.rs.length;have j:=rC s u v s.rs.length (Hr _);rw[Ja,List.drop_length,Ii]at j;unfold fG;generalize dq s u v s.rs.length=t at *;let⟨C,l,E,F,G,H,L,M,N⟩:=I.eq;let⟨o,p,r,x,y,z,A,B,g,a,c,e⟩:=sL u v t;show⟨o.trans C,p.trans j,r.trans l,Il (List.erase · u) (x.trans E),y.trans F,A.trans G,B.trans H,by change (bJ u v t).rm.length=_;rw[g];show I.ml,by change (bJ u v t).ln.length<=_;rw[z];show I.ll,by change (bJ u v t).gs.length<=_;rw[←L];show a,by change (bJ u v t).ex=_;rw[c,M,l],by change (bJ u v t).gn++_=_;rw[e,N],λh=>by change ∀d∈(bJ u v t).rm,NoL d;rw[g];show I.nl h⟩
theorem Cg{u:Nat}{v:Int}{r:aq}(w:Nat)(a:u<r.1.length):(eY u v r).1.getD w 0=if w=u then 0 else r.1.getD w 0:=by
 unfold eY;split
 ·rename_i c;split
  ·rename_i e;rw[e];show c
  ·rfl
 ·change (r.1.set u 0).getD w 0=_;rw[Bf];by_cases e:w=u
  ·rw[Hx ⟨e,a⟩,Hx e]
  ·rw[Hq (λh=>e h.1),Hq e]
theorem Fa(u:Nat)(v:Int)(r:aq):(eY u v r).1.length=r.1.length:=by
 unfold eY;split
 ·rfl
 ·show Hs
theorem EE{u:Nat}{v:Int}{r:aq}{x:Int}(h:x∈(eY u v r).1):x∈r.1\/x=0:=by
 unfold eY at h;split at h
 ·show .inl h
 ·show kS h
theorem lJ{st:Y Nat}{u v:Nat}(h:v∈st.erase u):v∈st:=List.mem_of_mem_erase h
theorem Wy.er{n:Nat}{s:Led}(h:Wy n s){u v:Nat}:v∈s.st.erase u↔v≠u/\v∈s.st:=by rw[List.Nodup.mem_erase_iff h.nd]
theorem sG{s:Led}{u:Nat}{v:Int}(n1:∀d∈s.rm,NoL d)(n2:∀d∈s.mm,NoL d)(n3:∀d∈s.lm,NoL d)(n4:∀d∈s.ln,NoL d)(a:s.rm.length=s.rs.length)(h:u<s.mm.length)(j:u<s.lm.length):∀i,i<=s.rs.length->∀d∈(dq s u v i).ln,NoL d
 |0,_=>n4
 |i+1,l=>by
  have c:=sG (v:=v) n1 n2 n3 n4 a h j i ();have I:=jw s u v i;rw[lL];generalize dq s u v i=t at *;let⟨o,p,r,x,e,g,y,z,A⟩:=I.eq;unfold iA;split
  ·show c
  ·intro d hd;rcases HU.mp hd with hd|hd
   ·show c d hd
   ·rw[Hw.mp hd];show mF (.tup (bv (.tup (bv (I.nl n1 _ (cS (by rw[I.ml,a];omega))) (bv (.int _) cQ))) (bv (la (by rw[g];show n2) (by rw[e];show n3) (by rw[g];show h) (by rw[e];show j)) cQ)))
theorem xx{n:Nat}{s:Led}(h:Wy n s){u:Nat}(a:u<n)(v:Int):∀d∈(fG s u v).ln,NoL d:=by
 have:=sG (v:=v) h.n1 h.n2 h.n3 h.n4 h.rm (by rw[h.ml];show a) (by rw[h.ll];show a) s.rs.length (Hr _);unfold fG;change ∀d∈(bJ u v (dq s u v s.rs.length)).ln,NoL d;rw[(sL u v _).2.2.2.2.2.1];show this
theorem Wy.fix{n:Nat}{s:Led}(h:Wy n s){u:Nat}{v:Int}(o:u∈s.st)(H:v.natAbs<=2^(200+65*(n-s.st.length))):Wy n (fG s u v)/\mu (fG s u v)<mu s:=by
 have E:=zk s u v;have X:=xx h (h.sl u o) v;generalize fG s u v=t at *;have B:=h.sl u o
 have Mn:t.st.length=s.st.length-1:=by rw[E.st];show Lu o
 have Tq:0<s.st.length:=LF o
 have L:t.rs.length=s.rs.length:=by rw[E.rs,Hj]
 have PZ:=h.sn;have C:=h.n8;have Ml:=h.rl;have G:t.rs.countP c9<=t.rs.length:=LK
 have M:200+65*(n-t.st.length)=65+(200+65*(n-s.st.length)):=by omega
 have z:∀{x:Nat},x<=2^(200+65*(n-s.st.length))->x<=2^(200+65*(n-t.st.length)):=λl=>HZ l (J2 'b' ());have be:=h.ln
 have Pn:mu t+s.rs.length<mu s:=by unfold mu;omega
 have he:t.ln.length<=s.ln.length+s.rs.length:=E.ll;refine⟨⟨C,by rw[E.bs];show h.bl,by rw[E.gl];show h.gl,by rw[E.lm];show h.ll,by rw[E.mm];show h.ml,λw p=>h.sl w (by rw[E.st]at p;show lJ p),by rw[E.st];show h.so.sublist List.erase_sublist,(),by rw[E.ml,L];show h.rm,λr c=>?_,λb F=>?_,by rw[E.gl];show h.gg,(),by have:=h.gs;have:=E.gs;omega,?_,E.n1 h.n1,by rw[E.mm];show h.n2,by rw[E.lm];show h.n3,X,λr c w p N=>?_,λg j=>?_⟩,()⟩
 ·rw[E.rs]at c;let⟨x,l,rfl⟩:=HG.mp c;let⟨x1,I,x3⟩:=h.rr x l;refine⟨by rw[Fa];show x1,λy A=>?_,?_⟩
  ·rcases EE A with A|rfl
   ·show I y A
   ·decide
  ·have a_:(x.1.getD u 0).natAbs<2^64:=I _ (cS ());unfold eY;split
   ·show z x3
   ·change (x.2-x.1.getD u 0*v).natAbs<=_;rw[M,Nat.pow_add]
    have h1:(x.1.getD u 0*v).natAbs<=2^64*2^(200+65*(n-s.st.length)):=by rw[KZ];show K0 () H
    have h2:(x.2-x.1.getD u 0*v).natAbs<=x.2.natAbs+(x.1.getD u 0*v).natAbs:=by omega
    have U:2^65=2^64+2^64:=by decide
    rw[U,Nat.add_mul];have h5:2^(200+65*(n-s.st.length))<=2^64*2^(200+65*(n-s.st.length)):=Nat.le_mul_of_pos_left _ 'b';omega
 ·rw[E.bs]at F;let⟨O,Q⟩:=h.bb b F;show⟨z O,λm a=>z (Q m a)⟩
 ·rw[E.gn,Hm,Im];have:=h.gn;omega
 ·rw[E.rs]at c;let⟨x,l,rfl⟩:=HG.mp c;rw[Cg w (by rw[(h.rr x l).1];show B)];by_cases e:w=u
  ·rw[Hx e]
  ·rw[Hq e];show h.z x l w p λa=>N (by rw[E.st];show h.er.mpr ⟨e,a⟩)
 ·rw[E.gn]at j;rcases HU.mp j with j|j
  ·let⟨R,b_,T⟩:=h.gr g j;show⟨R,λa=>b_ (by rw[E.st]at a;show lJ a),T⟩
  ·rw[Hw.mp j];refine⟨B,λa=>?_,kW C H,by change 0<=30;decide,λr c=>by cases c⟩;rw[E.st]at a;show (h.er.mp a).1 S
theorem uO{g:Type}{a:Y g}:∀{ps:Y Nat}{xs:Y g},ps.Pairwise (λx y=>y<x)->(∀x∈ps,x<xs.length)->ps.foldl List.eraseIdx (xs++a)=ps.foldl List.eraseIdx xs++a
 | [],xs,_,_=>rfl
 |p::ps,xs,c,h=>by
  rw[Kg]at c;have e:=h p Ht;change ps.foldl List.eraseIdx ((xs++a).eraseIdx p)=ps.foldl List.eraseIdx (xs.eraseIdx p)++a;rw[List.eraseIdx_append_of_lt_length e];refine uO c.2 λx j=>?_;rw[IX e];have:=c.1 x j;omega
theorem sB{g:Type}{P:Y g->Prop}(j:P [])(l:∀xs x,P xs->P (xs++[x])):∀xs,P xs:=λxs=>by
 have c:∀n (xs:Y g),xs.length=n->P xs:=by
  intro n
  induction n with
  |zero=>intro xs a;rw[Je.mp a];show j
  |succ n o=>
   intro xs a
   have h:xs≠[]:=λe=>by rw[e]at a;cases a
   rw[←List.dropLast_concat_getLast h];show l _ _ (o _ (by rw[List.length_dropLast];omega))
 show c _ xs S
theorem BJ{a:Type}(c:a->Bool)(d:a):∀xs:Y a,((List.range xs.length).filter λi=>c (xs.getD i d)).reverse.foldl List.eraseIdx xs=xs.filter λx=>!c x:=by
 refine sB S λxs x h=>?_
 have j:(List.range (xs++[x]).length).filter (λi=>c ((xs++[x]).getD i d))=(List.range xs.length).filter (λi=>c (xs.getD i d))++if c x then [xs.length] else []:=by
  rw[Hm,Im,J7,Kf];congr 1
  ·refine Kl λi l=>?_;rw[HE,HE,Hk (HQ.mp l)]
  ·have:(xs++[x]).getD xs.length d=x:=by rw[HE,Hl (Hr _),Ic];rfl
   cases g:c x with
   |true=>rw[JN (by rw[this];show g)];rfl
   |false=>rw[JO (by rw[this,g];decide)];rfl
 rw[j,Kf]
 have hd:((List.range xs.length).filter λi=>c (xs.getD i d)).reverse.Pairwise (λx y=>y<x):=by rw[LI];show Jz.filter _
 have o:∀y∈((List.range xs.length).filter λi=>c (xs.getD i d)).reverse,y<xs.length:=λy p=>HQ.mp (Ir.mp (Lr.mp p)).1
 cases e:c x with
 |true=>
  rw[Hx S,List.reverse_append];change List.foldl List.eraseIdx ((xs++[x]).eraseIdx xs.length) ((List.range xs.length).filter λi=>c (xs.getD i d)).reverse=_;rw[List.eraseIdx_append_of_length_le (Hr _),Ic,show [x].eraseIdx 0=[]from rfl,Ii,h];simp[e]
 |false=>
  rw[Hq 'b',Ii,uO hd o,h];simp[e]
theorem sJ:∀(ps:Y Nat)(t:Led),ps.foldl bS t={ t with rs:=ps.foldl List.eraseIdx t.rs,rm:=ps.foldl List.eraseIdx t.rm }
 | [],t=>rfl
 |p::ps,t=>by change ps.foldl bS (bS t p)=_;rw[sJ ps];rfl
theorem tY{a:Type}:∀(ps:Y Nat){xs:Y a}{x:a},x∈ps.foldl List.eraseIdx xs->x∈xs
 | [],_,_,h=>h
 |p::ps,xs,x,h=>Kh (tY ps (xs:=xs.eraseIdx p) h)
noncomputable def z0(u:Nat)(r:aq):Bool:=r.1.getD u 0==0
theorem zT(s:Led)(u:Nat):ig s u={ s with st:=s.st.erase u,gn:=s.gn++[(u,(aC s.bs u).1,(bM s u).map (bK s.rs))],rs:=s.rs.filter (z0 u),rm:=(bM s u).reverse.foldl List.eraseIdx s.rm }:=by
 unfold ig;rw[sJ];have e:=BJ (λr:aq=>decide (r.1.getD u 0≠0)) ([],0) s.rs
 have a:s.rs.filter (λr=>!decide (r.1.getD u 0≠0))=s.rs.filter (z0 u):=by
  refine Kl λr _=>?_;unfold z0;generalize r.1.getD u 0=e;by_cases c:e=0
  ·simp[c]
  ·simp[c]
 rw[a]at e;have g:(bM s u).reverse.foldl List.eraseIdx (fR s u (aC s.bs u).1 ((bM s u).map (bK s.rs))).rs=s.rs.filter (z0 u):=e;rw[g];rfl
theorem hgP_rows{s:Led}{u:Nat}{r:aq}:r∈(bM s u).map (bK s.rs)↔r∈s.rs/\r.1.getD u 0≠0:=by
 constructor
 ·intro h;let⟨i,a,rfl⟩:=HG.mp h;let⟨c,e⟩:=Ir.mp a;show⟨cS (HQ.mp c),IM e⟩
 ·rintro⟨c,e⟩;let⟨i,a⟩:=IA c;have g:bK s.rs i=r:=eI a;show HG.mpr ⟨i,Ir.mpr ⟨HQ.mpr (aB a),Ij (by rw[g];show e)⟩,g⟩
theorem Wy.hang{n:Nat}{s:Led}(h:Wy n s){u:Nat}(A:u∈s.st)(o:fu s.rs u=ŕ):Wy n (ig s u)/\mu (ig s u)<mu s:=by
 have F:=h.sl u A;have a:=ox (fR s u (aC s.bs u).1 ((bM s u).map (bK s.rs))) _ (uj s u) (λx C=>oW (Lr.mp C)) h.rm;rw[←show ig s u=(bM s u).reverse.foldl bS (fR s u (aC s.bs u).1 ((bM s u).map (bK s.rs)))from rfl]at a;have E:=zT s u;generalize ig s u=t at *
 have z:t.rm.length=t.rs.length:=by rw[a.1,a.2]
 subst E;have Mn:(s.st.erase u).length=s.st.length-1:=Lu A;have Tq:0<s.st.length:=LF A;have PZ:=h.sn;have y:=h.n8;have L:=h.rl;have a_:=h.ln;have X:=h.gn;have be:=h.gs;have l1:(s.rs.filter (z0 u)).length<=s.rs.length:=Jk _ _;have l2:(s.rs.filter (z0 u)).countP c9<=s.rs.countP c9:=List.filter_sublist.countP_le;have v:∀{x:Nat},x<=2^(200+65*(n-s.st.length))->x<=2^(200+65*(n-(s.st.erase u).length)):=λC=>HZ C (J2 'b' ())
 have M:mu { s with st:=s.st.erase u,gn:=s.gn++[(u,(aC s.bs u).1,(bM s u).map (bK s.rs))],rs:=s.rs.filter (z0 u),rm:=(bM s u).reverse.foldl List.eraseIdx s.rm }<mu s:=by unfold mu;simp only;omega
 have hps:(bM s u).length<=s.rs.length:=by
  have:=Jk (λi=>decide ((bK s.rs i).1.getD u 0≠0)) (List.range s.rs.length)
  rwa [HM]at this
 refine⟨⟨y,h.bl,h.gl,h.ll,h.ml,λw B=>h.sl w (lJ B),h.so.sublist List.erase_sublist,HZ l1 L,z,λr l=>?_,λb o=>?_,h.gg,by change s.ln.length+_<=_;omega,by change s.gs.length+(s.st.erase u).length<=n;omega,?_,λd hd=>h.n1 d (tY _ hd),h.n2,h.n3,h.n4,λr l w B O=>?_,λg j=>?_⟩,M⟩
 ·let⟨p,G,r3⟩:=h.rr r (Ir.mp l).1;show⟨p,G,v r3⟩
 ·let⟨Q,R⟩:=h.bb b o;show⟨v Q,λm c=>v (R m c)⟩
 ·change (s.gn++[_]).length+(s.st.erase u).length=n;rw[Hm,Im];omega
 ·let⟨H,N⟩:=Ir.mp l;by_cases e:w=u
  ·rw[e];show eq_of_beq N
  ·show h.z r H w B λc=>O (h.er.mpr ⟨e,c⟩)
 ·rcases HU.mp j with j|j
  ·let⟨b_,T,U⟩:=h.gr g j;show⟨b_,λc=>T (lJ c),U⟩
  ·rw[Hw.mp j];refine⟨F,λc=>(h.er.mp c).1 S,kW y (h.lowU F).1,by change ((bM s u).map _).length<=30;rw[Hj];omega,λr l=>?_⟩;let⟨p,G⟩:=hgP_rows.mp l;let⟨q1,q2,q3⟩:=h.rr r p;refine⟨q1,?_,q2,kW y q3⟩
   have hnb:¬ r.1.getD u 0<0:=λI=>by have:fu s.rs u=Ŕ:=Lk.mpr ⟨r,p,Ij I⟩;rw[this]at o;cases o
   change 0<r.1.getD u 0;omega
theorem FJ{bs:Y Bd}{rs:Y aq}{gl:Y Int}{u:Nat}(h:eR bs rs gl u=Ŕ):(aC bs u).2=Œ/\gl.getD u 0=0/\fu rs u=ŕ:=by unfold eR at h;simp only[IW,Option.isNone_iff_eq_none,JY,Bool.not_eq_true']at h;show⟨h.1.1,h.1.2,h.2⟩
theorem Cf{r:aq}{u:Nat}(h:(cA r.1)[0]?=Z u):u<r.1.length/\r.1.getD u 0≠0:=by let⟨a,c⟩:=Ir.mp (Hu h);show⟨HQ.mp a,IM c⟩
theorem Wy.row{n:Nat}{s t:Led}(h:Wy n s)(o:RowSt s Ŕ t):Wy n t/\mu t<mu s:=by
 cases o with
 |idle j=>
  let⟨r,a,_⟩:=iN j;show h.drop (aB a)
 |single _ v a u=>
  let⟨c,l⟩:=Cf u;show h.tb a (by rw[(h.rr _ (Hu a)).1]at c;show c) l
 |uneven _ _ c a=>
  let⟨x,e,p⟩:=iN c;rw[a]at e;cases e;show h.ev a p
 |doubled _ _ _ g=>
  have:=aB g.ib;have:=g.ji;show h.drop (by split<;>omega)
theorem Wy.unk{n:Nat}{s t:Led}(h:Wy n s)(c:UnkSt s Ŕ t):Wy n t/\mu t<mu s:=by
 cases c with
 |fixed a=>show h.fix (HY a) (h.lowU (h.sl _ (HY a))).1
 |sink _ a=>show h.fix (HY a) (h.lowU (h.sl _ (HY a))).1
 |rise _ _ a e=>show h.fix (HY a) ((h.lowU (h.sl _ (HY a))).2 _ e)
 |hang _ _ _ a=>show h.hang (HY a) (FJ (List.find?_some a)).2.2
structure PlOk(n:Nat)(bs:List Bd)(rs:List aq)(gs:List Int):Prop where
 n8:n<=8
 bl:bs.length=n
 gl:gs.length=n
 rl:rs.length<=15
 rr:∀r∈rs,r.1.length=n/\(∀x∈r.1,x.natAbs<2^64)/\r.2.natAbs<=2^200
 bb:∀b∈bs,b.1.natAbs<=2^200/\∀m,b.2=Z m->m.natAbs<=2^200
 gg:∀x∈gs,x.natAbs<2^64
theorem vA(n:Nat):∀d∈(List.range n).map aN,NoL d:=λd hd=>by let⟨i,_,rfl⟩:=HG.mp hd;show .int _
theorem PlOk.wy{n:Nat}{bs:Y Bd}{rs:Y aq}{gs:Y Int}(h:PlOk n bs rs gs):Wy n (cB bs rs gs):=by
 have x:=h.n8;have a:=h.bl
 have j:(cB bs rs gs).st.length=n:=by change (List.range bs.length).length=n;rw[HM];show a
 have v:=h.rl
 have c:200+65*(n-(cB bs rs gs).st.length)=200:=by rw[j];omega
 refine⟨h.n8,h.bl,h.gl,by change ((List.range bs.length).map aN).length=n;rw[Hj,HM];show a,by change (jH bs).length=n;unfold jH;rw[Hj,HM];show a,λu e=>by rw[←a];show HQ.mp e,Jz,by change rs.length<=30;omega,by change (cp _ rs.length).length=rs.length;unfold cp;rw[Hj,HM],λr l=>by rw[c];show h.rr r l,λb a=>by rw[c];show h.bb b a,h.gg,?_,by change 0+(List.range bs.length).length<=n;rw[HM];omega,by change 0+(List.range bs.length).length=n;rw[HM];omega,λd hd=>?_,λd hd=>?_,vA _,cQ,λr l u e o=>absurd (HQ.mpr (by rw[a];show e)) o,λg p=>by cases p⟩
 ·have:rs.countP c9<=rs.length:=LK;unfold mu;rw[j];change 0+(64*n+2*rs.length+rs.countP c9)<=602;omega
 ·let⟨i,_,rfl⟩:=HG.mp (show d∈(List.range rs.length).map _ from hd);show .int _
 ·let⟨i,_,rfl⟩:=HG.mp (show d∈(List.range bs.length).map (fh bs)from hd);unfold fh;split
  ·show .int _
  ·show .non
theorem vU:∀{a b:Y Nat},a.Pairwise (·<·)->b.Pairwise (·<·)->(∀x,x∈a↔x∈b)->a=b
 | [],[],_,_,_=>rfl
 | [],y::b,_,_,h=>absurd ((h y).mpr Ht) Jv
 |x::a,[],_,_,h=>absurd ((h x).mp Ht) Jv
 |x::a,y::b,g,j,h=>by
  rw[Kg]at g j
  have o:x=y:=by
   rcases HH.mp ((h x).mp Ht)with e|p
   ·show e
   ·rcases HH.mp ((h y).mpr Ht)with e|r
    ·show e.symm
    ·have:=g.1 y r;have:=j.1 x p;omega
  subst o;congr 1;refine vU g.2 j.2 λz=>⟨λc=>?_,λc=>?_⟩
  ·rcases HH.mp ((h z).mp (Hv _ c))with e|l
   ·have:=g.1 z c;omega
   ·show l
  ·rcases HH.mp ((h z).mpr (Hv _ c))with e|l
   ·have:=j.1 z c;omega
   ·show l
theorem qc{n:Nat}{st:Y Nat}(so:st.Pairwise (·<·))(sl:∀u∈st,u<n):(List.range n).filter (λu=>decide (u∈st))=st:=by refine vU (Jz.filter _) so λx=>?_;rw[Ir,HQ,Jf];show⟨λh=>h.2,λh=>⟨sl x h,h⟩⟩
theorem uy(f:Nat->Int)(c:Nat->Bool):∀l:Y Nat,((l.filter c).map f).sum=(l.map λi=>if c i then f i else 0).sum
 | []=>rfl
 |x::l=>by
  have a:=uy f c l
  cases h:c x with
  |true=>rw[JN h,HK,HK,Kr,Kr,a,Hx h]
  |false=>rw[JO (by rw[h];decide),HK,Kr,a,Hq (by rw[h];decide),Io]
theorem zD{f g:Nat->Int}{l:Y Nat}(h:∀i∈l,f i=g i):(l.map f).sum=(l.map g).sum:=by rw[Jg h]
theorem xZ{xs a:Y Int}(e:xs.length=a.length)(h:∀i,i<xs.length->xs.getD i 0=a.getD i 0):xs=a:=by
 refine IP λi=>?_;by_cases c:i<xs.length
 ·rw[bP (d:=0) c,bP (d:=0) (show i<a.length by omega),h i c]
 ·rw[Ib (),Ib ()]
theorem ii{a:Type}(d:a)(xs:Y a)(st:Y Nat):(pk d xs st).length=st.length:=by unfold pk;rw[Hj]
theorem jE{a:Type}{d:a}{xs:Y a}{st:Y Nat}{k:Nat}(c:k<st.length):(pk d xs st).getD k d=xs.getD (st.getD k 0) d:=eI (by unfold pk;rw[Hy,bP (d:=0) c];rfl)
theorem qQ{c:Type}(f:Bd->Int->c)(bs:Y Bd)(es:Y Int)(st:Y Nat):List.zipWith f (pk (0,Œ) bs st) (pk 0 es st)=st.map λu=>f (aC bs u) (es.getD u 0):=by
 unfold pk;rw[List.zipWith_map]
 induction st with
 |nil=>rfl
 |cons u st a=>rw[List.zipWith_cons_cons,a];rfl
theorem tM{a:Type}(f:Bd->Int->a){n:Nat}{bs:Y Bd}{es:Y Int}(e:bs.length=n)(g:es.length=n):List.zipWith f bs es=(List.range n).map λi=>f (aC bs i) (es.getD i 0):=by
 refine IP λi=>?_;rw[JC,Hy];by_cases c:i<n
 ·rw[Jr c,bP (d:=((0:Int),(Œ:œ Int))) (show i<bs.length by omega),bP (d:=(0:Int)) (show i<es.length by omega)];rfl
 ·rw[Ib (show bs.length<=i by omega),Ib (show (List.range n).length<=i by rw[HM];omega)];rfl
structure Off(n:Nat)(st:List Nat)(es:List Int):Prop where
 so:st.Pairwise (·<·)
 sl:∀u∈st,u<n
 l:es.length=n
 z:∀u,u<n->u∉st->es.getD u 0=0
theorem vk{n:Nat}{st:Y Nat}{bs:Y Bd}{es:Y Int}(h:Off n st es)(a:bs.length=n):dH (pk (0,Œ) bs st) (pk 0 es st)=dH bs es:=by
 have l:fD (pk (0,Œ) bs st) (pk 0 es st)=fD bs es:=by
  unfold fD;rw[qQ,tM dF a h.l];rw[J6,Jb,Jb];constructor
  ·intro j b a;let⟨i,g,rfl⟩:=HG.mp a;by_cases c:i∈st
   ·show j _ (HG.mpr ⟨i,c,S⟩)
   ·change dF _ _=Ŕ;rw[h.z i (HQ.mp g) c];unfold dF;simp
  ·intro j b a;let⟨i,g,rfl⟩:=HG.mp a;show j _ (HG.mpr ⟨i,HQ.mpr (h.sl i g),S⟩)
 unfold dH;rw[l,qQ,tM c8 a h.l]
 have e:(st.map λu=>c8 (aC bs u) (es.getD u 0)).sum=((List.range n).map λu=>c8 (aC bs u) (es.getD u 0)).sum:=by
  conv=>lhs;rw[←qc h.so h.sl]
  rw[uy];refine zD λi g=>?_;by_cases c:i∈st
  ·rw[Hx (Ij c)]
  ·rw[Hq (by rw[Jf];show c),h.z i (HQ.mp g) c];unfold c8;simp
 rw[e]
theorem Off.neg{n:Nat}{st:Y Nat}{es:Y Int}(h:Off n st es):Off n st (es.map (- ·)):=⟨h.so,h.sl,by rw[Hj];show h.l,λu c a=>by rw[oY (- ·) S,h.z u c a];rfl⟩
theorem A0(es:Y Int)(st:Y Nat):(pk 0 es st).map (- ·)=pk 0 (es.map (- ·)) st:=by
 unfold pk;rw[Ip];refine Jg λu _=>?_;change -es.getD u 0=(es.map (- ·)).getD u 0;rw[oY (- ·) S]
theorem ze{n:Nat}{st:Y Nat}{bs:Y Bd}{es:Y Int}(h:Off n st es)(a:bs.length=n):gh (pk (0,Œ) bs st) (pk 0 es st)=gh bs es:=by unfold gh;rw[A0,vk h.neg a]
theorem Bn{n:Nat}{st:Y Nat}{es:Y Int}(h:Off n st es):ba (pk 0 es st)=ba es:=by
 refine Int.dvd_antisymm (i4 _) (i4 _) (pH λx e=>?_) (pH λx e=>?_)
 ·let⟨i,a⟩:=IA e
  have g:i<n:=by have:=aB a;rw[h.l]at this;show this
  by_cases c:i∈st
  ·refine ku (pk 0 es st) x (HG.mpr ⟨i,c,eI a⟩)
  ·have:=h.z i g c;rw[eI a]at this;rw[this];show Int.dvd_zero _
 ·let⟨u,j,rfl⟩:=HG.mp e;show ku es _ (cS (by rw[h.l];show h.sl u j))
theorem yH{n:Nat}{st:Y Nat}{es:Y Int}(h:Off n st es):(cA (pk 0 es st)).length=(cA es).length:=by
 have j:∀a:Y Int,(cA a).length=a.countP (λx=>decide (x≠0)):=by
  refine sB S λa y l=>?_;rw[List.countP_append,←l];unfold cA;rw[Hm,Im,J7,Kf,Hm];congr 1
  ·congr 1;refine Kl λi g=>?_;rw[HE,HE,Hk (HQ.mp g)]
  ·have:(a++[y]).getD a.length 0=y:=by rw[HE,Hl (Hr _),Ic];rfl
   by_cases c:y=0
   ·rw[JO (by rw[this,Jf];show λe=>e c),Ly (by rw[Jf];show λe=>e c)];rfl
   ·rw[JN (by rw[this];show Ij c),Lz (p:=λx:Int=>decide (x≠0)) (Ij c)];rfl
 rw[j];unfold pk;rw[List.countP_map,List.countP_eq_length_filter];unfold cA
 conv=>lhs;rw[←qc h.so h.sl]
 rw[List.filter_filter,h.l];congr 1;refine Kl λi g=>?_;by_cases c:i∈st
 ·simp[c]
 ·have:=h.z i (HQ.mp g) c;rw[HE]at this;simp[c,this]
theorem Fr{n:Nat}{st:Y Nat}{as bs:Y Int}(a:Off n st as)(h:Off n st bs)(e:pk 0 as st=pk 0 bs st):as=bs:=by
 refine xZ (by rw[a.l,h.l]) λi g=>?_;rw[a.l]at g;by_cases c:i∈st
 ·let⟨k,j⟩:=IA c;have l:(pk (0:Int) as st).getD k 0=as.getD i 0:=eI (by unfold pk;rw[Hy,j];rfl);have o:(pk (0:Int) bs st).getD k 0=bs.getD i 0:=eI (by unfold pk;rw[Hy,j];rfl);rw[←l,←o,e]
 ·rw[a.z i g c,h.z i g c]
theorem Dbl.det{rs:Y aq}{j i e g:Nat}{a b a' l:aq}(h:Dbl rs j i a b)(h':Dbl rs e g a' l):j=e/\i=g/\a=a'/\b=l:=by
 have p:i=g:=by
  rcases Nat.lt_trichotomy i g with c|c|c
  ·show absurd h.eq (h'.no j i a b h.ji c h.ja h.ib)
  ·show c
  ·show absurd h'.eq (h.no e g a' l h'.ji c h'.ja h'.ib)
 subst p
 have o:b=l:=by have:=h.ib.symm.trans h'.ib;show HR this
 subst o
 have r:j=e:=by
  rcases Nat.lt_trichotomy j e with c|c|c
  ·show absurd (h.eq.trans h'.eq.symm) (h.no j e a a' c h'.ji h.ja h'.ja)
  ·show c
  ·show absurd (h'.eq.trans h.eq.symm) (h.no e j a' a c h.ji h'.ja h.ja)
 subst r;show⟨S,S,HR (h.ja.symm.trans h'.ja),S⟩
theorem RowSt.det{s t t':Led}{b r:Bool}(h:RowSt s b t)(h':RowSt s r t'):b=r/\t=t':=by
 cases h with
 |idle j=>
  cases h' with
  |idle a=>rw[j]at a;cases a;show⟨S,S⟩
  |single a _ _ _=>rw[j]at a;cases a
  |uneven a _ _ _=>rw[j]at a;cases a
  |doubled a _ _ _=>rw[j]at a;cases a
  |no a _ _ _=>rw[j]at a;cases a
 |single j o p l=>
  cases h' with
  |idle a=>rw[j]at a;cases a
  |single a c e g=>
   rw[o]at c;cases c;rw[p]at e;cases e;rw[l]at g;cases g;show⟨S,S⟩
  |uneven _ c _ _=>rw[o]at c;cases c
  |doubled _ c _ _=>rw[o]at c;cases c
  |no _ c _ _=>rw[o]at c;cases c
 |uneven j o p l=>
  cases h' with
  |idle a=>rw[j]at a;cases a
  |single _ c _ _=>rw[o]at c;cases c
  |uneven _ _ e g=>
   rw[p]at e;cases e;rw[l]at g;cases g;show⟨S,S⟩
  |doubled _ _ e _=>rw[p]at e;cases e
  |no _ _ e _=>rw[p]at e;cases e
 |doubled j o p l=>
  cases h' with
  |idle a=>rw[j]at a;cases a
  |single _ c _ _=>rw[o]at c;cases c
  |uneven _ _ e _=>rw[p]at e;cases e
  |doubled _ _ _ g=>
   let⟨rfl,rfl,rfl,rfl⟩:=l.det g;show⟨S,S⟩
  |no _ _ _ g=>show absurd l.eq (g _ _ _ _ l.ji l.ja l.ib)
 |no j o p l=>
  cases h' with
  |idle a=>rw[j]at a;cases a
  |single _ c _ _=>rw[o]at c;cases c
  |uneven _ _ e _=>rw[p]at e;cases e
  |doubled _ _ _ g=>show absurd g.eq (l _ _ _ _ g.ji g.ja g.ib)
  |no _ _ _ _=>show⟨S,S⟩
theorem UnkSt.det{s t t':Led}{b r:Bool}(h:UnkSt s b t)(h':UnkSt s r t'):b=r/\t=t':=by
 cases h with
 |fixed g=>
  cases h' with
  |fixed a=>rw[g]at a;cases a;show⟨S,S⟩
  |sink a _=>rw[g]at a;cases a
  |rise a _ _ _=>rw[g]at a;cases a
  |hang a _ _ _=>rw[g]at a;cases a
  |no a _ _ _=>rw[g]at a;cases a
 |sink g l=>
  cases h' with
  |fixed a=>rw[g]at a;cases a
  |sink _ c=>rw[l]at c;cases c;show⟨S,S⟩
  |rise _ c _ _=>rw[l]at c;cases c
  |hang _ c _ _=>rw[l]at c;cases c
  |no _ c _ _=>rw[l]at c;cases c
 |rise g l o p=>
  cases h' with
  |fixed a=>rw[g]at a;cases a
  |sink _ c=>rw[l]at c;cases c
  |rise _ _ e j=>
   rw[o]at e;cases e;rw[p]at j;cases j;show⟨S,S⟩
  |hang _ _ e _=>rw[o]at e;cases e
  |no _ _ e _=>rw[o]at e;cases e
 |hang g l o p=>
  cases h' with
  |fixed a=>rw[g]at a;cases a
  |sink _ c=>rw[l]at c;cases c
  |rise _ _ e _=>rw[o]at e;cases e
  |hang _ _ _ j=>rw[p]at j;cases j;show⟨S,S⟩
  |no _ _ _ j=>rw[p]at j;cases j
 |no g l o p=>
  cases h' with
  |fixed a=>rw[g]at a;cases a
  |sink _ c=>rw[l]at c;cases c
  |rise _ _ e _=>rw[o]at e;cases e
  |hang _ _ _ j=>rw[p]at j;cases j
  |no _ _ _ _=>show⟨S,S⟩
noncomputable def zi(s t:Led):Prop:=bt s=.non/\(RowSt s Ŕ t\/(RowSt s ŕ s/\UnkSt s Ŕ t))
inductive Rch(s0:Led):Led->Prop where
 |nil:Rch s0 s0
 |snoc {s t:Led}:Rch s0 s->zi s t->Rch s0 t
inductive y__law_far(as:List Sm)(R:Sm->List Om->Prop)(Rx:XD->List Om->Prop):Prop|mk (a:Option Addr) (o:Om) (n m:Nat) (mn:Int) (bs:List Bd) (rs:List aq) (gs sp:List Int) (_:as=[.ob a o,.v (bF bs rs gs),.v (.tup (sp.map D.int))]) (_:Pl m o) (_:m+100<2^20) (_:n<=8) (_:mn<=14) (_:PlS n mn bs rs gs sp) (_:∀(bs':List Bd)(Nw:List aq)(Qa:List Int)(o':Om),PlOk n bs' Nw gs->Qa.length=n->(∀x∈Qa,x.natAbs<=2^70)->Pl (m+100) o'->R (.v (.tup [bF bs' Nw gs,.tup (Qa.map D.int)])) [o'])
theorem yz{z:Int}(h:z<2^200):z<2^9000:=by
 have a:(2:Int)^200<=2^9000:=by lia
 omega
noncomputable abbrev FS(p:Addr)(o:Om)(pl:D)(sp:Y Int)(j l:Int)(r:Y Int)(u v x y c g e h a:œ Sm):af:=[Z (.ob (Z p) o),Z (.v pl),Z (.v (.tup (sp.map D.int))),Z (.v (.int j)),Z (.v (.int l)),Z (.v (.lst (r.map D.int))),u,v,x,y,c,g,e,h,a]
theorem DH(F:Fun K "_law_far" "_law_far" iM f J)(N:ClM P w K mg base n "_law_draw" ["_law_pool_here","_law_many"] y__law_draw)(kZ:Cl P w K mg base n "_law_times" ["_law_entries","_law_spot"] z__law_times)(fH:mg "zip"=Œ)(aW:mg "tuple"=Œ):FnOk P w K mg base aD (n+1) f J ["_law_pool_here","_law_plan","_law_spot"] (lSpM K y__law_far):=by
 refine F.okM qah (λas R Rx h=>?_) (λL1 A outer s H E as R Rx qs L6 I h Mi=>?_)
 ·let⟨a,o,k,m,mn,bs,rs,gs,sp,rfl,_⟩:=h;rfl
 let⟨a,o,k,m,mn,bs,rs,gs,sp,rfl,hp,hm,hk,hmn,L,q⟩:=h;let⟨pa,rfl⟩:=dY Mi
 refine⟨_,(ao (aO (i:=3) qah.nd S (ñ S) (bE N I S (bG 0 (aH (ag ah) bc aL) ac) ac (au aL ae)))
   (ao (aO (i:=4) qah.nd S T3 (bE N I S (bG 0 (aH (ag ah) bc aL) ac) ac (au aL ae)))
   (ao (B2 (i:=5) (N':=["_law_one","_law_far_here","_law_pool_here"]) (cap:=[Œ,Z 3,Z 0]) S qah.nd S T3 (.ok (show bZ ["_law_pool_here","_law_plan","_law_spot","_law_far_here","_law_many","_law_shifts","_law_bounds_here","_law_shift","_law_least","_law_most","_law_rows_here","_law_entries","_law_bound","_law_factor","_law_moved"] (ar iM) _ ["_law_one","_law_far_here","_law_pool_here"] [Œ,Z 3,Z 0]=Ŕ by lia)) 'a' (gD (b8 (dv 2))) (λ_ _ _ _ _=>(db (i:=0) (show List.Nodup (["_law_one","_law_far_here","_law_pool_here"]:Y Str)by lia) S T3)) (λ_ _ _ _ _=>Bm) (λ_ _ _ _ _=>(dm cV (dm cV (ag (dv 1)) (dm di (ag ah) (dm cV (ag ah) (bE N I S (bG 2 (aH (ag ah) bc aL) ac) ac (au aL ae))))) (bE N I S (bG 2 (aH (ag (aX p9 (PD.q ah) (PD.q ah))) bc cL) ac) ac (au cL ae)))))
   (jR 5 (ao (aO (i:=6) qah.nd S T3 (dU (eO ak)))
   (ao (gb HL S (gD (kg S fH (ad (aw (aa 1)) (ad (dv 5) ak ac) aF))) (iR (n:=2) S (e5 (iR (n:=2) S (e5 (db (i:=8) qah.nd S T3) (e5 (db (i:=9) qah.nd S T3) i8))) (e5 (db (i:=7) qah.nd S T3) i8))) (cu (bY (bR (aA cZ (aa 9) (PD.q bo) (ap _))) (aU (aO (i:=9) qah.nd S T3 (ag (aX cy (aa 9) (aa 7))))) cq)
   (aU (fZ 6 (ag (bC (ad (aX cy (aa 8) (aa 7)) (ad (dv 9) ak ac) cL))) (ee bN) bN))))
   (ao (aO (i:=10) qah.nd S T3 (dU (eO ak)))
   (ao (gb HL S (gD (b8 (aw (aa 1)))) (iR (n:=2) S (e5 (db (i:=11) qah.nd S T3) (e5 (db (i:=12) qah.nd S T3) i8))) (ao (aO (i:=13) qah.nd S (ñ S) (dm cy (ag ah) (dm cV (ag (dv 4)) (bE N I S (bG 0 (aH (ag (aX p9 (PD.q ah) (PD.q ah))) bc cL) ac) ac (au cL ae)))))
   (ao (aO (i:=12) qah.nd S T3 (dm di (ag (aX cV (PD.q (aX cy (aa 12) (PD.q (bh kZ I S (ad (dv 11) (ad (dv 5) ak ac) ac) ac (au ac ae))))) (aa 13))) (bE N I S (bG 0 (aH (ag (dv 13)) bc ac) ac) ac (au ac ae))))
   (aU (fZ 10 (ag (bC (ad (cH cX S aW Hz (aP (PD.q (PF.d (dL (k:=1) (N':=["_law_number","_law_factor"]) (cap:=[Œ,Z 13]) S (.ok (show bZ ["_law_pool_here","_law_plan","_law_spot","_law_far_here","_law_many","_law_shifts","_law_bounds_here","_law_shift","_law_least","_law_most","_law_rows_here","_law_entries","_law_bound","_law_factor","_law_moved"] (ar iM) _ ["_law_number","_law_factor"] [Œ,Z 13]=Ŕ by lia)) 'a' (bI 'b') (b8 (dv 11)) (λ_ _ _ _ _=>(bf (i:=0) (show List.Nodup (["_law_number","_law_factor"]:Y Str)by lia) S T3)) (λ_ _ _ _ _=>(aX cV (aa 0) (aa 1)))))) aT bA) bA ae) (ad (dv 12) ak ac) bj))) (ee bN) bN)))))
   (ao (aO (i:=14) qah.nd S T3 (ag (cH cX S aW Hz (aP (PD.q (PF.d (dL (k:=2) (N':=["_law_one","_law_shift"]) (cap:=[Œ,Œ]) S (.ok (show bZ ["_law_pool_here","_law_plan","_law_spot","_law_far_here","_law_many","_law_shifts","_law_bounds_here","_law_shift","_law_least","_law_most","_law_rows_here","_law_entries","_law_bound","_law_factor","_law_moved"] (ar iM) _ ["_law_one","_law_shift"] [Œ,Œ]=Ŕ by lia)) 'a' (jK (n:=2) (fL (bI 'b') (fL (bI 'b') jC))) (kg S fH (ad (dv 2) (ad (dv 5) ak ac) ac)) (λ_ _ _ _ _=>(fe (n:=2) S (cb (bf (i:=0) (show List.Nodup (["_law_one","_law_shift"]:Y Str)by lia) S T3) (cb (bf (i:=1) (show List.Nodup (["_law_one","_law_shift"]:Y Str)by lia) S T3) fg)))) (λ_ _ _ _ _=>(aX cy (aa 0) (aa 1)))))) aT bA) bA ae)))
   (aU (cC (ag (bC (ad (bC (ad (cH cX S aW Hz (aP (aa 6) aT ac) ac ae) (ad (cH cX S aW Hz (aP (aa 10) aT ac) ac ae) (ad (aw (aa 1)) ak aF) bj) bj)) (ad (dv 14) ak ac) bN)))))))))))))),?_⟩
 intro ke;have NL:=L.sl;have Ml:=L.rl;let⟨Qm,PB⟩:=L.b;refine⟨⟨_,_,S⟩,_,S,S,_,_,2,_,S,hp,(),'b',cG 'b',λG o1 x0 x1 Na=>?_⟩;rfl';refine⟨⟨_,_,S⟩,_,S,S,_,_,2,_,S,Na,(),'b',cG 'b',λp o2 y0 y1 M6=>?_⟩;rfl';refine⟨by rw[Hj];show bu (),λi ys ρc=>∃(xs:Y Int)(o':Om)(u:œ Sm),ys=xs.map D.int/\xs.length=i/\(∀x∈xs,x.natAbs<=10^20)/\ρc=[u,Z (.v (.int G)),Z (.ob (Z pa) o')]/\Pl (m+2+2*i) o',⟨[],o2,_,S,S,λx g=>(by cases g),S,M6⟩,?_,?_⟩
 ·rintro i d ys ρc hd ⟨xs,be,u,rfl,Tv,g,rfl,a_⟩;let⟨y,rfl,hy⟩:=bQ hd;have b_:=aB hy;refine⟨λ_=>?_,tf⟩;refine⟨⟨_,_,S⟩,_,S,S,_,_,2,_,S,a_,(),'b',cG 'b',λz o4 z0 z1 O=>?_⟩;rfl';refine⟨gX 'b' 'b',gX () (),⟨_,_,S⟩,⟨'b','b','b'⟩,_,S,S,_,_,_,_,S,O,(),(by change (0:Int)<10^20;decide),yz (by change (10:Int)^20<2^200;decide),λv o5 v0 v1 NS=>?_⟩;rfl';have hv:v<10^20:=v1
  have hf:G=0\/G=1:=by omega
  have X:z=0\/z=1:=by omega
  refine⟨gX ?_ ?_,xs++[G*(1-2*z)*v],o5,_,gc D.int xs _,by rw[Hm,Tv];rfl,fB g ?_,S,NS.mono ()⟩
  ·rcases hf with rfl|rfl<;>rcases X with rfl|rfl<;>decide
  ·rcases hf with rfl|rfl<;>rcases X with rfl|rfl<;>decide
  ·rcases hf with rfl|rfl<;>rcases X with rfl|rfl<;>omega
 rintro ys ρc ⟨j,be,u,rfl,Tv,g,rfl,a_⟩;have OI:=g;rw[Hj]at Tv a_;refine⟨be,S,?_⟩;rfl'
 have Tw:j.length=k:=by omega
 refine⟨_,S,_,_,S,S,?_⟩;rw[ms];refine⟨λi ρ=>∃(C:Y Bd)(u7 u8 u9:œ Sm),ρ=FS pa be (bF bs rs gs) sp G p j (Z (.own (C.map aI))) u7 u8 u9 Œ Œ Œ Œ Œ/\C.length=i/\(∀b∈C,b.1.natAbs<=2^200/\∀m,b.2=Z m->m.natAbs<=2^200),⟨[],_,_,_,S,S,λb hb=>(by cases hb)⟩,?_,?_⟩
 ·rintro i d ρ hd ⟨C,u7,u8,u9,rfl,OX,L8⟩;let⟨⟨b,x⟩,rfl,X⟩:=bQ hd;let⟨OC,hzx⟩:=J5.mp X;have Oe:=aB OC;let⟨c1,Q⟩:=PB b (Hu OC);have cx:=g x (Hu hzx)
  have e20:(10:Nat)^20+8<=2^200:=by decide
  refine⟨S,S,?_⟩;refine⟨λρ=>∃T:œ Int,ρ=FS pa be (bF bs rs gs) sp G p j (Z (.own (C.map aI))) (Z (.v (.int x))) (Z (.v (.int b.1))) (Z (.v (oI T))) Œ Œ Œ Œ Œ/\∀m,T=Z m->m.natAbs<=2^200,?_,?_⟩
  ·let⟨l,T⟩:=b
   cases T with
   |none=>show⟨ff,λ_=>⟨Œ,S,λm h=>by cases h⟩⟩
   |some mm=>
    have Q:=Q mm S;show⟨λ_=>⟨Z (mm+x),S,λm h=>by cases h;omega⟩,tf⟩
  rintro ρ ⟨T,rfl,Tn⟩;show⟨by rw[Hj];show bu (),_,gc aI C (b.1+x,T),_,_,_,_,S,by rw[Hm,OX];rfl,fB L8 ⟨by change (b.1+x).natAbs<=_;omega,Tn⟩⟩
 rintro ρ ⟨C,u7,u8,u9,rfl,OX,L8⟩;rw[Hj,LC,Qm,Tw,Nat.min_self]at OX;refine⟨_,S,?_⟩;refine⟨λi ρ=>∃(M:Y aq)(o':Om)(P5 Ol Rg:œ Sm),ρ=FS pa o' (bF bs rs gs) sp G p j (Z (.own (C.map aI))) u7 u8 u9 (Z (.own (M.map ay))) P5 Ol Rg Œ/\M.length=i/\(∀r∈M,r.1.length=k/\(∀x∈r.1,x.natAbs<2^64)/\r.2.natAbs<=2^200)/\Pl (m+2+2*k+2*i) o',⟨[],be,_,_,_,S,S,λb hb=>(by cases hb),a_.mono ()⟩,?_,?_⟩
 ·rintro i d ρ hd ⟨M,o4,P5,Ol,Rg,rfl,P6,Po,O⟩;let⟨r,rfl,MA⟩:=bQ hd;have Oe:=aB MA;let⟨c1,Q,c3⟩:=L.r r (Hu MA);refine⟨S,?_⟩;refine⟨⟨_,_,S⟩,⟨'b','b','b'⟩,_,S,S,_,_,_,_,S,O,(),(by change (0:Int)<10^12;decide),cG (by change (10:Int)^12<2^64;decide),λB o5 v0 v1 NS=>?_⟩;rfl';have v1:B<10^12:=v1
  have U:p=0\/p=1:=by omega
  refine⟨gX () (),?_⟩
  have f0:0<1+p*B:=by rcases U with rfl|rfl<;>omega
  have f2:1+p*B<=10^12:=by rcases U with rfl|rfl<;>omega
  have NW:∀x∈r.1,cf x:=λx g=>hV (m:=10) (by have:=Q x g;omega) 'b';have Tz:∀x∈j,cf x:=λx OI=>hV (m:=70) (by have:=g x OI;have e:(10:Nat)^20<=2^70:='b';omega) 'b';refine⟨r.1,j,S,(),NW,Tz,?_⟩;have P4:=mD Q g;have hd9:(dM r.1 j).natAbs<=8*(3*10^20):=HZ P4 (KS _ ())
  have Rh:(r.2+dM r.1 j).natAbs<=2^80:=by
   have:8*(3*10^20)+400<=2^80:=by decide
   omega
  have O3:(1+p*B).natAbs<=2^40:=by
   have:(10:Nat)^12<=2^40:=by decide
   omega
  have hprod:((r.2+dM r.1 j)*(1+p*B)).natAbs<=2^80*2^40:=by rw[KZ];show K0 Rh O3
  refine⟨gK (hV Rh 'b') (hV O3 'b'),?_⟩;refine⟨⟨_,_,S⟩,_,S,S,_,_,_,_,S,NS,(),f0,cG (by have:(10:Int)^12<2^64:='b';omega),λw o6 w0 w1 Pk=>?_⟩;rfl'
  have Ri:∀x∈r.1,(x*(1+p*B)).natAbs<2^64:=λx g=>by
   rw[KZ];have h1:=K0 (Q x g) O3
   have:3*2^40<2^64:=by decide
   omega
  refine mq (f:=D.int) (λx=>x*(1+p*B)) (bu ()) (λx g=>⟨gK (NW x g) (hV O3 'b'),S⟩) ?_;refine⟨by rw[Hj];show bu (),_,gc ay M (r.1.map λx=>x*(1+p*B),(r.2+dM r.1 j)*(1+p*B)-w),_,o6,_,_,_,S,by rw[Hm,P6];rfl,fB Po ⟨by change (r.1.map _).length=k;rw[Hj];show c1,λx g=>?_,?_⟩,Pk.mono ()⟩
  ·let⟨y,hy,rfl⟩:=HG.mp g;show Ri y hy
  ·change ((r.2+dM r.1 j)*(1+p*B)-w).natAbs<=2^200
   have:2^80*2^40+10^12<=2^200:=by decide
   omega
 rintro ρ ⟨M,o4,P5,Ol,Rg,rfl,P6,Po,O⟩;rw[Hj]at P6 O;refine⟨_,_,S,S,?_⟩;refine vx (f:=D.int) (h:=D.int) (λx y=>D.int (x+y)) (bu ()) (λx _ y _=>⟨S,S⟩) ?_
 have e1:List.zipWith (λx y=>D.int (x+y)) sp j=(List.zipWith (λx y=>x+y) sp j).map D.int:=by rw[Ls]
 rw[e1];refine⟨_,S,_,S,q C M (List.zipWith (λx y=>x+y) sp j) o4 ⟨hk,OX,L.gl,(),Po,L8,λx g=>by have:=L.g x g;have e:(2:Nat)<2^64:='b';omega⟩ (by rw[List.length_zipWith];omega) (λx g=>?_) (O.mono ())⟩;let⟨i,b_⟩:=IA g;rw[JC]at b_
 have Oe:i<sp.length:=JH λc=>by rw[Ib (show sp.length<=i by omega)]at b_;cases b_
 rw[bB Oe,bB (show i<j.length by omega)]at b_;have e:sp[i]+j[i]=x:=HR b_;have h1:=L.s sp[i] (Jw Oe);have h2:=OI j[i] (Jw _)
 have e20:(10:Nat)^20+10<=2^70:=by decide
 omega
inductive z__law_whole(ds:List D)(R:D->Prop):Prop|mk (i:Int) (_:ds=[.int i]) (_:R (.bl Ŕ))
theorem wM(F:Fun K "_law_whole" "_law_whole" ly f J)(a:mg "isinstance"=Œ)(c:mg "int"=Œ)(e:mg "bool"=Œ):FnOk P w K mg base aD (n+1) f J ["_law_told"] (lSp K z__law_whole):=by
 refine F.okD wq (λds R h=>?_) (λg A outer s H E ds R j h=>?_)
 ·let⟨i,rfl,_⟩:=h;rfl
 let⟨i,rfl,q⟩:=h;refine⟨_,(az (aV (gC (gB S a (aa 0) (gG (v:=.ty "int") S c Kw S) ac ac) (jA (rZ (PD.q (gB S a (aa 0) (gG (v:=.ty "bool") S e PyProof.Rows.boot_bool S) ac ac))))))),?_⟩;show⟨Ŕ,Au i,λ_=>⟨ŕ,Eu i,q⟩,λh=>tf h⟩
inductive z__law_wholes(ds:List D)(R:D->Prop):Prop|mk (xs:List Int) (n:Int) (_:ds=[.tup (xs.map D.int),.int n]) (_:n=(xs.length:Int)) (_:xs.length<=500) (_:R (.bl Ŕ))
theorem yO(F:Fun K "_law_wholes" "_law_wholes" kT f J)(o:Cl P w K mg base n "_law_whole" ["_law_told"] z__law_whole)(j:mg "isinstance"=Œ)(e:mg "tuple"=Œ)(p:mg "all"=Œ)(g:mg "len"=Œ):FnOk P w K mg base aD (n+1) f J ["_law_told","_law_size"] (lSp K z__law_wholes):=by
 refine F.okD Dg (λds R h=>?_) (λr A outer s H E ds R c h=>?_)
 ·let⟨xs,n,rfl,_⟩:=h;rfl
 let⟨xs,n,rfl,hn,u,q⟩:=h;refine⟨_,(az (aV (gC (gB S j (aa 0) (gG (v:=.ty "tuple") S e Hz S) ac ac) (gC (df (cW c.units) (PD.q (bx cD S g HW (aP (aa 0) aT ac) ac ae)) (aa 1) (ap _)) (jA (bx (EG S) S p PyProof.Rows.boot_all (aP (PD.q (PF.d (dL (k:=1) (N':=["_law_one"]) (cap:=[Œ]) S (.ok (show bZ ["_law_told","_law_size"] (ar kT) _ ["_law_one"] [Œ]=Ŕ by lia)) 'a' (bI 'b') (b8 (dv 0)) (λ_ _ _ _ _=>(bf (i:=0) (show List.Nodup (["_law_one"]:Y Str)by lia) S T3)) (λ_ _ _ _ _=>(bh o c S (ad (dv 0) ak ac) ac ae))))) aT bA) bA ae)))))),?_⟩
 have l:((xs.map D.int).length:Int)=n:=by rw[Hj,hn]
 have a:(((xs.map D.int).length:Int)==n)=Ŕ:=by rw[l];show Ia _
 refine⟨Ŕ,gW _,λ_=>⟨λ_=>?_,λh=>?_⟩,λh=>tf h⟩
 ·refine fC (f:=D.int) (λ_=>D.bl Ŕ) (bu ()) (λx _=>⟨x,S,S⟩) ?_;refine⟨xs.map λ_=>Ŕ,by rw[Ip];rfl,?_⟩;refine toB q ?_;change (xs.map λ_=>Ŕ).all id=Ŕ;rw[Jb];intro b a;let⟨_,_,rfl⟩:=HG.mp a;rfl
 ·have h':(((xs.map D.int).length:Int)==n)=ŕ:=h;rw[a]at h';cases h'
inductive z__law_plan_is(ds:List D)(R:D->Prop):Prop|mk (n:Nat) (bs:List Bd) (rs:List aq) (gs:List Int) (_:ds=[bF bs rs gs,.int (n:Nat)]) (_:n<=8) (_:bs.length=n) (_:gs.length=n) (_:rs.length<=100) (_:(∀r∈rs,r.1.length=n)) (_:R (.bl Ŕ))
theorem wR(F:Fun K "_law_plan_is" "_law_plan_is" lH f J)(x:Cl P w K mg base n "_law_wholes" ["_law_told","_law_size"] z__law_wholes)(p:Cl P w K mg base n "_law_whole" ["_law_told"] z__law_whole)(e:mg "isinstance"=Œ)(c:mg "tuple"=Œ)(g:mg "len"=Œ):FnOk P w K mg base aD (n+1) f J ["_law_plan","_law_count"] (lSp K z__law_plan_is):=by
 refine F.okD qaj (λds R h=>?_) (λL A outer s H E ds R a h=>?_)
 ·let⟨k,bs,rs,gs,rfl,_⟩:=h;rfl
 let⟨k,bs,rs,gs,rfl,O,C,G,M,o,q⟩:=h
 refine⟨_,(dD (bO (PWD.td (du (cF (b7 (PD.q (gB S e (aa 0) (gG (v:=.ty "tuple") S c Hz S) ac ac)) (λ_=>rfl))) (du (aA (eC a.units) (PD.q (bx cD S g HW (aP (aa 0) aT ac) ac ae)) (PD.q ah) (ap _)) (gf (cF (b7 (PD.q (bh x a S (ad (aw (aa 0)) (ad (dv 1) ak ac) aF) aF (au ac ae))) (λ_=>rfl))))))) (az (aV ce)) bV)
   (dD (bO (PWD.td (du (cF (b7 (PD.q (gB S e (PD.q (aw (aa 0))) (gG (v:=.ty "tuple") S c Hz S) aF ac)) (λ_=>rfl))) (du (cF (b7 (PD.q (gB S e (PD.q (aw (aa 0))) (gG (v:=.ty "tuple") S c Hz S) aF ac)) (λ_=>rfl))) (gf (aA (eC a.units) (PD.q (bx cD S g HW (aP (PD.q (aw (aa 0))) aT aF) aF ae)) (aa 1) (ap _)))))) (az (aV ce)) bV)
   (bp (eT HL S (b8 (aw (aa 0))) (bf (i:=2) qaj.nd S T3) (dD (bO (PWD.td (du (cF (b7 (PD.q (gB S e (aa 2) (gG (v:=.ty "tuple") S c Hz S) ac ac)) (λ_=>rfl))) (du (aA (eC a.units) (PD.q (bx cD S g HW (aP (aa 2) aT ac) ac ae)) (PD.q ah) (ap _)) (gf (cF (b7 (PD.q (bh p a S (ad (aw (aa 2)) ak aF) aF ae)) (λ_=>rfl))))))) (az (aV ce)) bV)
   (az (bO (PWD.td (dh (aA cZ (PD.q (aw (aa 2))) (PD.q bo) (ap _)) (eP (cF (b7 (PD.q (bh p a S (ad (aw (aa 2)) ak aF) aF ae)) (λ_=>rfl)))))) (az (aV ce)) bV))))
   (bp (eT HL S (b8 (aw (aa 0))) (bf (i:=3) qaj.nd S T3) (az (bO (PWD.td (du (cF (b7 (PD.q (gB S e (aa 3) (gG (v:=.ty "tuple") S c Hz S) ac ac)) (λ_=>rfl))) (du (aA (eC a.units) (PD.q (bx cD S g HW (aP (aa 3) aT ac) ac ae)) (PD.q ah) (ap _)) (du (cF (b7 (PD.q (bh x a S (ad (aw (aa 3)) (ad (dv 1) ak ac) aF) aF (au ac ae))) (λ_=>rfl))) (gf (cF (b7 (PD.q (bh p a S (ad (aw (aa 3)) ak aF) aF ae)) (λ_=>rfl)))))))) (az (aV ce)) bV)))
   (az (aV ce)))))),?_⟩
 refine⟨λρ=>ρ=[Z (.v (bF bs rs gs)),Z (.v (.int (k:Nat))),Œ,Œ],⟨Ŕ,gW _,ff,λ_=>⟨ff,λ_=>⟨_,S,gs,k,S,by rw[G],(),ff,λ_=>rfl⟩⟩⟩,?_⟩;rintro ρ rfl
 have B:((bs.map aI).length:Int)=(k:Nat):=by rw[Hj,C]
 refine⟨λρ=>ρ=[Z (.v (bF bs rs gs)),Z (.v (.int (k:Nat))),Œ,Œ],⟨_,S,Ŕ,gW _,ff,λ_=>⟨_,S,Ŕ,gW _,ff,λ_=>⟨_,S,λh=>?_,λ_=>rfl⟩⟩⟩,?_⟩
 ·have h':(!((((bs.map aI).length:Nat):Int)==((k:Nat):Int)))=Ŕ:=h;rw[B,Ia]at h';cases h'
 rintro ρ rfl;refine⟨_,S,λi ρ=>∃j:œ Sl,ρ=[Z (.v (bF bs rs gs)),Z (.v (.int (k:Nat))),j,Œ],⟨_,S⟩,?_,?_⟩
 ·rintro i d ρ hd ⟨j,rfl⟩;let⟨b,rfl,N⟩:=bQ hd;refine⟨λρ=>ρ=[Z (.v (bF bs rs gs)),Z (.v (.int (k:Nat))),Z (.v (aI b)),Œ],⟨Ŕ,gW _,ff,λ_=>⟨ff,λ_=>⟨_,S,b.1,S,ff,λ_=>rfl⟩⟩⟩,?_⟩;rintro ρ rfl;refine⟨oI b.2,S,?_⟩;let⟨l,I⟩:=b
  cases I with
  |none=>show⟨ff,λ_=>⟨ff,λ_=>⟨_,S⟩⟩⟩
  |some mm=>show⟨λ_=>⟨_,S,mm,S,ff,λ_=>⟨_,S⟩⟩,tf⟩
 rintro ρ ⟨j,rfl⟩;refine⟨_,S,λi ρ=>∃u:œ Sl,ρ=[Z (.v (bF bs rs gs)),Z (.v (.int (k:Nat))),j,u],⟨_,S⟩,?_,?_⟩
 ·rintro i d ρ hd ⟨u,rfl⟩;let⟨r,rfl,y⟩:=bQ hd;have z:=o r (Hu y);show⟨Ŕ,gW _,ff,λ_=>⟨ff,λ_=>⟨_,S,r.1,k,S,by rw[z],(),ff,λ_=>⟨_,S,r.2,S,ff,λ_=>⟨_,S⟩⟩⟩⟩⟩
 rintro ρ ⟨u,rfl⟩;show q
noncomputable def qj(n:Nat)(s:Led)(a:Y D):D:=.obj "Struck" [("ledger",gP s),("breadth",.int (n:Nat)),("kind",.str "none"),("paper",.tup a),("slim",.non),("kept",.tup []),("extra",.int 0)]
theorem kH:∀(n:Nat)(xs:Y Int),eD (bT n) (xs.map D.int) (xs.map D.int)=Z Ŕ
 |_,[]=>rfl
 |n,x::xs=>by
  have e:bT n (D.int x) (D.int x)=Z Ŕ:=by
   have:bT n (D.int x) (D.int x)=Z (x==x):=by cases n<;>rfl
   rw[this,Ia]
  change ((bT n (D.int x) (D.int x)).bind λb=>(eD (bT n) (xs.map D.int) (xs.map D.int)).map (b&&·))=_;rw[e,kH n xs];rfl
theorem Fq{R:D->Prop}(xs:Y Int)(q:R (.bl Ŕ)):iq (.lst (xs.map D.int)) (.lst (xs.map D.int)) R:=by
 have e:bT 40 (.lst (xs.map D.int)) (.lst (xs.map D.int))=Z Ŕ:=by change (if (xs.map D.int).length=(xs.map D.int).length then eD (bT 39) (xs.map D.int) (xs.map D.int) else Z ŕ)=_;rw[Hx S,kH]
 unfold iq;rw[e];show q
theorem ui{x:Nat}{st:Y Nat}:iZ (.inl (x:Int)) (st.map λn:Nat=>(à (n:Int):av))=decide (x∈st):=by
 rw[J6,wl,Jf,HG];constructor
 ·rintro⟨y,a,e⟩;have:(y:Int)=(x:Int):=Ć e
  have:y=x:=by omega
  show this▸a
 ·intro h;show⟨x,h,S⟩
theorem uG(b:Bool):(ŕ != b)=b:=by cases b<;>rfl
structure StrP(n:Nat)(s:Led):Prop where
 n8:n<=8
 sn:s.st.length<=n
 rl:s.rs.length<=30
 so:s.st.Pairwise (·<·)
 sl:∀u∈s.st,u<n
inductive z__law_fields(ds:List D)(R:D->Prop):Prop|mk (d:D) (n:Nat) (s:Led) (_:ds=[d,.int (n:Nat)]) (_:((d=ie n s/\StrP n s)\/∃pp,d=qj n s pp)) (_:R (.bl Ŕ))
theorem Al(F:Fun K "_law_fields" "_law_fields" kK f J){z:Addr}(a:TxtStruck K mg z)(M:Cl P w K mg base n "_law_wholes" ["_law_told","_law_size"] z__law_wholes)(L:Cl P w K mg base n "_law_whole" ["_law_told"] z__law_whole)(y:Cl P w K mg base n "_law_plan_is" ["_law_plan","_law_count"] z__law_plan_is)(G:mg "list"=Œ)(p:mg "isinstance"=Œ)(l:mg "tuple"=Œ)(o:mg "len"=Œ)(C:mg "range"=Œ):FnOk P w K mg base aD (n+1) f J ["_law_struck","_law_count"] (lSp K z__law_fields):=by
 refine F.okD qai (λds R h=>?_) (λO A outer s H E ds R e h=>?_)
 ·let⟨d,k,s,rfl,_⟩:=h;rfl
 let⟨d,k,s,rfl,hd,q⟩:=h
 refine⟨_,(bp (bX (i:=2) qai.nd S (ñ S) (aJ a.cl a.n_kept a.ns (aa 0)))
   (dD (bO (PWD.td (du (cF (b7 (PD.q (gB S p (aa 2) (gG (v:=.ty "tuple") S l Hz S) ac ac)) (λ_=>rfl))) (du (cF (b7 (PD.q (bh M e S (ad (dv 2) (ad (bx cD S o HW (aP (aa 2) aT ac) ac ae) ak bj) ac) ac (au bj ae))) (λ_=>rfl))) (gf (cF (b7 (PD.q (bh L e S (ad (aJ a.cl a.n_extra a.ns (aa 0)) ak aG) aG ae)) (λ_=>rfl))))))) (az (aV ce)) bV)
   (dD (bO (aA (cW e.units) (PD.q (aJ a.cl a.n_kind a.ns (aa 0))) (PD.q iF) (ap _)) (az (aV (gC (df (cW e.units) (aa 2) (PD.q (bC ak)) (ap _)) (gC (df (cW e.units) (PD.q (aJ a.cl a.n_extra a.ns (aa 0))) (PD.q ah) (ap _)) (gC (df fM (PD.q (aJ a.cl a.n_slim a.ns (aa 0))) (PD.q bo) (ap _)) (jA (gB S p (PD.q (aJ a.cl a.n_paper a.ns (aa 0))) (gG (v:=.ty "tuple") S l Hz S) aG ac))))))) bV)
   (dD (bO (PWD.td (du (aA (eC e.units) (PD.q (aJ a.cl a.n_kind a.ns (aa 0))) (PD.q iF) (ap _)) (du (aA cZ (PD.q (aJ a.cl a.n_paper a.ns (aa 0))) (PD.q bo) (ap _)) (gf (cF (b7 (PD.q (bh y e S (ad (aJ a.cl a.n_slim a.ns (aa 0)) (ad (bx cD S o HW (aP (aa 2) aT ac) ac ae) ak bj) aG) aG (au bj ae))) (λ_=>rfl))))))) (az (aV ce)) bV)
   (az (aV (df (cW e.units) (PD.q (PF.d (qe S G (aa 2) ac))) (PD.q (PF.d (lX (k:=1) (N':=["_law_k","_law_kept"]) (cap:=[Œ,Z 2]) S (.ok (show bZ ["_law_struck","_law_count","_law_kept"] (ar kK) _ ["_law_k","_law_kept"] [Œ,Z 2]=Ŕ by lia)) 'a' (bI 'b') (iY S C (ad (dv 1) ak ac)) (λ_ _ _ _ _=>(bf (i:=0) (show List.Nodup (["_law_k","_law_kept"]:Y Str)by lia) S T3)) (λ_ _ _ _ _=>(iK (aA wC (aa 0) (aa 1) (by with_unfolding_all rfl)))) (λ_ _ _ _ _=>(dv 0))))) (ap _)))))))),?_⟩
 rcases hd with⟨rfl,g⟩|⟨N,rfl⟩
 ·have a_:=g.n8;have Q:=g.sn;refine⟨S,_,S,?_⟩;refine⟨λρ=>ρ=[Z (.v (ie k s)),Z (.v (.int (k:Nat))),Z (.v (.tup (s.st.map aN)))],⟨Ŕ,gW _,ff,λ_=>⟨s.st.map λn:Nat=>(n:Int),_,by rw[j9],by rw[Hj,Hj],by rw[Hj];omega,ff,λ_=>⟨S,_,S,s.ex,S,ff,λ_=>rfl⟩⟩⟩,?_⟩;rintro ρ rfl;refine⟨λρ=>ρ=[Z (.v (ie k s)),Z (.v (.int (k:Nat))),Z (.v (.tup (s.st.map aN)))],⟨S,_,S,λh=>absurd h 'a',λ_=>rfl⟩,?_⟩;rintro ρ rfl;refine⟨λρ=>ρ=[Z (.v (ie k s)),Z (.v (.int (k:Nat))),Z (.v (.tup (s.st.map aN)))],⟨S,_,S,λh=>absurd h 'a',λ_=>⟨S,_,S,ff,λ_=>⟨S,_,S,s.st.length,pk (0,Œ) s.bs s.st,s.rs.map (cJ s.st),pk 0 s.gl s.st,?_,(),by unfold pk;rw[Hj],by unfold pk;rw[Hj],by rw[Hj];have:=g.rl;omega,λr B=>?_,ff,λ_=>rfl⟩⟩⟩,?_⟩
  ·rw[Hj];rfl
  ·let⟨x,U,rfl⟩:=HG.mp B;change (pk 0 x.1 s.st).length=_;unfold pk;rw[Hj]
  rintro ρ rfl;refine⟨_,S,⟨(),()⟩,by rw[fm];show bu (),gN (λu=>decide (u∈s.st)) (λu=>aN u),λi d hd=>?_,λX j I=>?_⟩
  ·let⟨T,rfl⟩:=gQ hd;refine⟨.inl (0+(i:Int)),s.st.map λn:Nat=>(à (n:Int):av),S,?_,λc=>?_,λc=>?_⟩
   ·change Z (s.st.map aN)=_;rw[Ip];rfl
   ·rw[uG,Io,ui]at c;show⟨by change D.int _=D.int _;rw[Io],c⟩
   ·rw[uG,Io,ui]at c;show c
  rw[fm]at j;rw[i7 j I,IY,qc g.so g.sl,j9];show Fq _ q
 ·refine⟨S,_,S,?_⟩;refine⟨λρ=>ρ=[Z (.v (qj k s N)),Z (.v (.int (k:Nat))),Z (.v (.tup []))],⟨Ŕ,gW _,ff,λ_=>⟨[],_,S,S,'b',ff,λ_=>⟨S,_,S,0,S,ff,λ_=>rfl⟩⟩⟩,?_⟩;rintro ρ rfl;refine⟨λ_=>False,⟨S,_,S,λ_=>⟨λ_=>⟨S,_,S,λ_=>⟨S,_,S,λ_=>⟨S,_,S,Ŕ,gW _,q⟩,tf⟩,tf⟩,tf⟩,λh=>absurd h 'a'⟩,λρ h=>h.elim⟩
structure Qt(bs:List Bd)(rs:List aq)(gs:List Int):Prop where
 cr:∀u,u<bs.length->gw bs u=ŕ
 fx:∀u,u<bs.length->dO bs u=ŕ
 sk:∀u,u<bs.length->eu bs rs gs u=ŕ
 ri:∀u,u<bs.length->eJ bs rs gs u=ŕ
 hn:∀u,u<bs.length->eR bs rs gs u=ŕ
 ho:∀r∈rs,eK bs r=ŕ
 id:∀r∈rs,dW bs r=ŕ
 si:∀r∈rs,fX r=ŕ
 un:∀r∈rs,c9 r=ŕ
 nd:qL rs
theorem fi_none{a:Type}{c:a->Bool}{rs:Y a}:rs.findIdx? c=Œ↔∀r∈rs,c r=ŕ:=Le
theorem fu_none{e:Type}{c:e->Bool}{rs:Y e}:rs.find? c=Œ↔∀r∈rs,c r=ŕ:=by rw[List.find?_eq_none];show⟨λh x a=>ī.mpr (h x a),λh x a=>ī.mp (h x a)⟩
theorem D5{s:Led}(h:bt s=.non):s.st.find? (gw s.bs)=Œ/\s.rs.findIdx? (eK s.bs)=Œ:=by
 unfold bt at h;split at h
 ·cases h
 ·split at h
  ·show⟨‹_›,‹_›⟩
  ·unfold nC at h;cases h
theorem Ck{rs:Y aq}{st:Y Nat}{k:Nat}(a:k<st.length):gT (rs.map (cJ st)) k=gT rs (st.getD k 0):=by
 unfold gT;rw[JV];refine Il (λf=>rs.any f) (funext λr=>?_);change decide (0<(pk 0 r.1 st).getD k 0)=_;rw[jE a]
theorem tE{rs:Y aq}{st:Y Nat}{k:Nat}(a:k<st.length):fu (rs.map (cJ st)) k=fu rs (st.getD k 0):=by
 unfold fu;rw[JV];refine Il (λf=>rs.any f) (funext λr=>?_);change decide ((pk 0 r.1 st).getD k 0<0)=_;rw[jE a]
theorem FY{n:Nat}{t:Led}(o:Wy n t)(M:RowSt t ŕ t)(N:UnkSt t ŕ t)(hn:bt t=.non):Qt (pk (0,Œ) t.bs t.st) (t.rs.map (cJ t.st)) (pk 0 t.gl t.st):=by
 let⟨I,L⟩:=D5 hn
 cases M with
 |no O Q R be=>
  cases N with
  |no T U X a_=>
   have v:=ii ((0:Int),(Œ:œ Int)) t.bs t.st;have g:∀r∈t.rs,Off n t.st r.1:=λr j=>⟨o.so,o.sl,(o.rr r j).1,o.z r j⟩;have p:∀k,k<t.st.length->aC (pk (0,Œ) t.bs t.st) k=aC t.bs (t.st.getD k 0):=λk B=>jE B;have A:∀k,k<t.st.length->t.st.getD k 0∈t.st:=λk B=>cS B;refine⟨λu c=>?_,λu c=>?_,λu c=>?_,λu c=>?_,λu c=>?_,λr j=>?_,λr j=>?_,λr j=>?_,λr j=>?_,λk l x y H F G e=>?_⟩
   ·rw[v]at c;unfold gw;rw[p u c];show fu_none.mp I _ (A u c)
   ·rw[v]at c;unfold dO;rw[p u c];show fu_none.mp T _ (A u c)
   ·rw[v]at c;unfold eu;rw[p u c,jE c,Ck c];show fu_none.mp U _ (A u c)
   ·rw[v]at c;unfold eJ;rw[p u c,jE c,tE c];show fu_none.mp X _ (A u c)
   ·rw[v]at c;unfold eR;rw[p u c,jE c,tE c];show fu_none.mp a_ _ (A u c)
   ·let⟨r,h,rfl⟩:=HG.mp j;unfold eK;change (match dH (pk (0,Œ) t.bs t.st) (pk 0 r.1 t.st)with|some z=>decide (z<r.2)|none=>ŕ)=ŕ;rw[vk (g r h) o.bl];show fi_none.mp L r h
   ·let⟨r,h,rfl⟩:=HG.mp j;unfold dW;change (match gh (pk (0,Œ) t.bs t.st) (pk 0 r.1 t.st)with|some z=>decide (r.2<=z)|none=>ŕ)=ŕ;rw[ze (g r h) o.bl];show fi_none.mp O r h
   ·let⟨r,h,rfl⟩:=HG.mp j;change decide ((cA (pk 0 r.1 t.st)).length=1)=ŕ;rw[yH (g r h)];show fi_none.mp Q r h
   ·let⟨r,h,rfl⟩:=HG.mp j;change decide (1<ba (pk 0 r.1 t.st))=ŕ;rw[Bn (g r h)];show fi_none.mp R r h
   ·rw[Hy]at F G;let⟨a,E,rfl⟩:=Jy.mp F;let⟨b,C,rfl⟩:=Jy.mp G;show be k l a b H E C (Fr (g a (Hu E)) (g b (Hu C)) e)
theorem Qt.don{bs:Y Bd}{rs:Y aq}{gs:Y Int}(h:Qt bs rs gs):RowSt (cB bs rs gs) ŕ (cB bs rs gs)/\UnkSt (cB bs rs gs) ŕ (cB bs rs gs)/\bt (cB bs rs gs)=.non:=by
 have a:∀{c:Nat->Bool},(∀u,u<bs.length->c u=ŕ)->(List.range bs.length).find? c=Œ:=λj=>fu_none.mpr λu l=>j u (HQ.mp l);refine⟨.no (fi_none.mpr h.id) (fi_none.mpr h.si) (fi_none.mpr h.un) h.nd,.no (a h.fx) (a h.sk) (a h.ri) (a h.hn),?_⟩;unfold bt;have e:(cB bs rs gs).st.find? (gw (cB bs rs gs).bs)=Œ:=a h.cr;have g:(cB bs rs gs).rs.findIdx? (eK (cB bs rs gs).bs)=Œ:=fi_none.mpr h.ho;rw[e,g]
theorem uH:∀xs:Y Int,(xs.map (- ·)).sum = -xs.sum
 | []=>rfl
 |x::xs=>by rw[HK,Kr,Kr,uH xs];omega
noncomputable def eV(m:Bool)(b:Bd)(e:Int):Bool:=if m then dF b e else dF b (-e)
noncomputable def en(m:Bool)(b:Bd)(e:Int):Int:=if m then c8 b e else -c8 b (-e)
noncomputable def mK(m:Bool)(bs:Y Bd)(es:Y Int):œ Int:=if m then dH bs es else gh bs es
theorem uW(m:Bool)(bs:Y Bd)(es:Y Int):mK m bs es=if (List.zipWith (eV m) bs es).all id then Z (List.zipWith (en m) bs es).sum else Œ:=by
 cases m with
 |true=>rfl
 |false=>
  change (dH bs (es.map (- ·))).map (- ·)=_;unfold dH fD;rw[LG,LG];have c:List.zipWith (λa b=>dF a (-b)) bs es=List.zipWith (eV ŕ) bs es:=rfl
  have e:List.zipWith (en ŕ) bs es=(List.zipWith (λa b=>c8 a (-b)) bs es).map (- ·):=by rw[Ls];rfl
  rw[c,e,uH];split<;>rfl
inductive z__law_reach(ds:List D)(R:D->Prop):Prop|mk (bs:List Bd) (es:List Int) (m:Bool) (_:ds=[.tup (bs.map aI),.tup (es.map D.int),.bl m]) (_:es.length=bs.length) (_:bs.length<=8) (_:(∀b∈bs,iu b)) (_:(∀x∈es,cf x)) (_:R (oI (mK m bs es)))
theorem Bt{m:Bool}{b:Bd}{e:Int}(g:e≠0)(h:(decide (0<e)==m)=Ŕ):eV m b e=b.2.isSome/\en m b e=b.2.getD 0*e:=by
 have h:=eq_of_beq h;subst h;by_cases c:0<e
 ·have a:decide (0<e)=Ŕ:=Ij c;unfold eV en dF c8;rw[a,Hx S,Hx S,Hx c,Lv];show⟨by cases b.2<;>rfl,S⟩
 ·have a:decide (0<e)=ŕ:=HJ c;unfold eV en dF c8;rw[a,Hq 'b',Hq 'b',Hx (show 0 < -e by omega),Ij (show 0 < -e by omega),Int.neg_mul,Int.neg_neg,Lv];show⟨by cases b.2<;>rfl,S⟩
theorem yy{m:Bool}{b:Bd}{e:Int}(j:e≠0)(h:(decide (0<e)==m)=ŕ):eV m b e=Ŕ/\en m b e=b.1*e:=by
 by_cases c:0<e
 ·have a:decide (0<e)=Ŕ:=Ij c;rw[a]at h
  have g:m=ŕ:=by cases m<;>first|rfl|cases h
  subst g;unfold eV en dF c8;rw[Hq 'b',Hq 'b',Hq (show ¬ 0 < -e by omega),Hx (show -e<0 by omega),HJ (show ¬ 0 < -e by omega),Int.neg_mul,Int.neg_neg,Lv];show⟨S,S⟩
 ·have a:decide (0<e)=ŕ:=HJ c;rw[a]at h
  have g:m=Ŕ:=by cases m<;>first|rfl|cases h
  subst g;unfold eV en dF c8;rw[Hx S,Hx S,a,Hq c,Hx (show e<0 by omega),Lv];show⟨S,S⟩
theorem sT(m:Bool)(b:Bd):eV m b 0=Ŕ/\en m b 0=0:=by cases m<;>show⟨S,S⟩
theorem xv(F:Fun K "_law_reach" "_law_reach" mH f J)(M:mg "zip"=Œ)(X:mg "int"=Œ):FnOk P w K mg base aD (n+1) f J ["_law_bounds_here","_law_entries","_law_most"] (lSp K z__law_reach):=by
 refine F.okD qal (λds R h=>?_) (λL1 A outer s H E ds R I h=>?_)
 ·let⟨bs,es,m,rfl,_⟩:=h;rfl
 let⟨bs,es,m,rfl,hl,h8,Q,b_,q⟩:=h
 refine⟨_,(bp (bX (i:=3) qal.nd S T3 ah)
   (bp (eT HL S (kg S M (ad (dv 0) (ad (dv 1) ak ac) ac)) (fe (n:=2) S (cb (bf (i:=4) qal.nd S T3) (cb (bf (i:=5) qal.nd S T3) fg))) (az (bO (aA (eC I.units) (aa 5) (PD.q ah) (ap _)) (bp (bX (i:=6) qal.nd S T3 (br (aa 4) (PD.q (cH vB S X Kw (aP (PD.q (df (cW I.units) (PD.q (df dS (aa 5) (PD.q ah) (ap _))) (aa 2) (ap _))) aT lY) lY ae)) (λ_ _=>rfl)))
   (dD (bO (aA fM (aa 6) (PD.q bo) (ap _)) (az (aV bo)) bV)
   (az (GT 3 rO qal.nd S T3 (aX cV (aa 6) (aa 5)))))) bV)))
   (az (aV (dv 3))))),?_⟩
 refine⟨_,_,S,S,λi ρ=>∃z B C:œ Sl,ρ=[Z (.v (.tup (bs.map aI))),Z (.v (.tup (es.map D.int))),Z (.v (.bl m)),Z (.v (.int (List.zipWith (en m) (bs.take i) (es.take i)).sum)),z,B,C]/\(List.zipWith (eV m) (bs.take i) (es.take i)).all id=Ŕ,⟨_,_,_,S,S⟩,?_,?_⟩
 ·rintro i d ρ hd ⟨z,B,C,rfl,l⟩;let⟨x,y,T,U,rfl⟩:=uV hd;let⟨b,rfl,j⟩:=bQ T;let⟨e,rfl,o⟩:=bQ U;have be:=nJ (f:=en m) j o;have a_:=nJ (f:=eV m) j o;have G:=Q b (Hu j);have g:=b_ e (Hu o)
  have nx:eV m b e=Ŕ->∀v,en m b e=v->(List.zipWith (en m) (bs.take (i+1)) (es.take (i+1))).sum=(List.zipWith (en m) (bs.take i) (es.take i)).sum+v/\(List.zipWith (eV m) (bs.take (i+1)) (es.take (i+1))).all id=Ŕ:=λN v O=>by rw[be,a_,LA,List.sum_singleton,List.all_append,l,O];show⟨S,by change (Ŕ&&(eV m b e&&Ŕ))=Ŕ;rw[N];rfl⟩
  refine⟨S,λh=>?_,λh=>?_⟩
  ·have p:e≠0:=λc=>by subst c;cases h
   by_cases c:(decide (0<e)==m)=Ŕ
   ·let⟨a,r⟩:=Bt (b:=b) p c;refine⟨oI b.2,?_,?_⟩
    ·change cn [D.int b.1,oI b.2] (if (decide (0<e)==m) then 1 else 0)=_;rw[Hx c];rfl
    cases u:b.2 with
    |none=>
     rw[u]at a;refine⟨λ_=>False,⟨λ_=>?_,tf⟩,λρ h=>h.elim⟩;rw[uW,Hq]at q
     ·show q
     ·intro h';have:=Jb.mp h' (eV m b e) (Hu (i:=i) (by rw[JC,j,o]));rw[a]at this;cases this
    |some mm=>
     rw[u]at a r;let⟨n1,n2⟩:=nx a _ r;refine⟨λρ=>ρ=[Z (.v (.tup (bs.map aI))),Z (.v (.tup (es.map D.int))),Z (.v (.bl m)),Z (.v (.int (List.zipWith (en m) (bs.take i) (es.take i)).sum)),Z (.v (aI b)),Z (.v (.int e)),Z (.v (.int mm))],⟨ff,λ_=>rfl⟩,?_⟩;rintro ρ rfl;show⟨gK (G.2 mm u) g,_,_,_,by rw[n1];rfl,n2⟩
   ·have c:(decide (0<e)==m)=ŕ:=by cases h':(decide (0<e)==m)with|false=>rfl|true=>show absurd h' c
    let⟨a,r⟩:=yy (b:=b) p c;let⟨n1,n2⟩:=nx a _ r;refine⟨.int b.1,?_,?_⟩
    ·change cn [D.int b.1,oI b.2] (if (decide (0<e)==m) then 1 else 0)=_;rw[c];rfl
    refine⟨λρ=>ρ=[Z (.v (.tup (bs.map aI))),Z (.v (.tup (es.map D.int))),Z (.v (.bl m)),Z (.v (.int (List.zipWith (en m) (bs.take i) (es.take i)).sum)),Z (.v (aI b)),Z (.v (.int e)),Z (.v (.int b.1))],⟨ff,λ_=>rfl⟩,?_⟩;rintro ρ rfl;show⟨gK G.1 g,_,_,_,by rw[n1];rfl,n2⟩
  ·have p:e=0:=by
    have h':(!(e==0))=ŕ:=h
    have:(e==0)=Ŕ:=by cases c:(e==0)with|true=>rfl|false=>rw[c]at h';cases h'
    show eq_of_beq this
   subst p;let⟨n1,n2⟩:=nx (sT m b).1 0 (sT m b).2;show⟨_,_,_,by rw[n1,Int.add_zero];rfl,n2⟩
 rintro ρ ⟨z,B,C,rfl,l⟩
 have L:(fk (bs.map aI) (es.map D.int)).length=bs.length:=by rw[oS,Hj,Hj];omega
 rw[L,Ja,Jh ()]at l;rw[L,Ja,Jh ()];rw[uW,Hx l]at q;show q
inductive z__law_shared(ds:List D)(R:D->Prop):Prop|mk (ns:List Int) (_:ds=[.tup (ns.map D.int)]) (_:R (.int (ba ns)))
theorem GO(F:Fun K "_law_shared" "_law_shared" nh f J)(y:mg "abs"=Œ):FnOk P w K mg base aD (n+1) f J ["_law_numbers"] (lSp K z__law_shared):=by
 refine F.okD qao (λds R h=>?_) (λI A outer s H E ds R L h=>?_)
 ·let⟨ns,rfl,_⟩:=h;rfl
 let⟨ns,rfl,q⟩:=h
 refine⟨_,(bp (bX (i:=1) qao.nd S T3 ah)
   (bp (eT HL S (b8 (dv 0)) (bf (i:=2) qao.nd S T3) (bp (bX (i:=3) qao.nd S T3 (bx kB S y JD (aP (aa 2) aT ac) ac ae))
   (az (sR HL (aA dS (aa 3) (PD.q ah) (ap _)) (az (Ce (i:=1) (j:=3) S qao.nd S S 'b' S S (ad (dv 3) (ad (aX gZ (aa 1) (aa 3)) ak cL) ac) S))))))
   (az (aV (dv 1))))),?_⟩
 refine⟨λi ρ=>∃c o:œ Sl,ρ=[Z (.v (.tup (ns.map D.int))),Z (.v (.int (ba (ns.take i)))),c,o],⟨_,_,S⟩,?_,?_⟩
 ·rintro i d ρ hd ⟨c,o,rfl⟩;let⟨k,rfl,C⟩:=bQ hd;have r:=i4 (ns.take i);refine⟨λm ρ=>∃(g l:Int),ρ=[Z (.v (.tup (ns.map D.int))),Z (.v (.int g)),Z (.v (.int k)),Z (.v (.int l))]/\m=l.toNat/\0<=g/\0<=l/\Int.gcd g l=Int.gcd k (ba (ns.take i)),⟨_,_,_,S,S,r,by split<;>omega,?_⟩,?_⟩
  ·have p:(if k<0 then -k else k)=(k.natAbs:Int):=by split<;>omega
   rw[p,Int.gcd_comm];unfold Int.gcd;simp
  rintro m ρ ⟨g,l,rfl,rfl,B,G,e⟩;refine⟨λh=>?_,λh=>?_⟩
  ·have a:0<l:=dP h;have p:=Ke g a;have z:=KQ g (b:=l) ();show⟨a,_,_,S,(g % l).toNat,(),l,g % l,S,S,G,z,(rY B a).trans e⟩
  ·have u:l=0:=by have:=Iw h;omega
   subst u
   have v:g=(Int.gcd k (ba (ns.take i)):Int):=by rw[←e];simp;omega
   have x:ba (ns.take (i+1))=g:=by rw[i6 C,qZ,←v]
   show⟨Z (.v (.int k)),Z (.v (.int 0)),by rw[x]⟩
 ·rintro ρ ⟨c,o,rfl⟩;rw[Hj,Ja];show q
structure QtP(n:Nat)(bs:List Bd)(rs:List aq)(gs:List Int):Prop where
 q:Qt bs rs gs
 n8:n<=8
 bl:bs.length=n
 gl:gs.length=n
 rl:rs.length<=30
 bb:∀b∈bs,iu b
 rr:∀r∈rs,r.1.length=n/\∀x∈r.1,cf x
inductive z__law_row_speaks(ds:List D)(R:D->Prop):Prop|mk (n:Nat) (bs:List Bd) (rs:List aq) (gs:List Int) (k:Nat) (r:aq) (_:ds=[.tup (bs.map aI),.tup (rs.map ay),aN k]) (_:QtP n bs rs gs) (_:rs[k]?=Z r) (_:R (.bl ŕ))
theorem xq{i:Nat}{ρ:bq}{d:D}{R:D->Prop}(h:ρ[i]?=Z (Z (.v d)))(k:R d):l6 i ρ R:=by unfold l6;rw[h];show k
theorem vv(n:Nat):∀xs a:Y Int,eD (bT n) (xs.map D.int) (a.map D.int)=Z (decide (xs=a))
 | [],[]=>rfl
 | [],_::_=>by rw[HJ (by nofun)];rfl
 |_::_,[]=>by rw[HJ (by nofun)];rfl
 |x::xs,y::a=>by
  have e:bT n (D.int x) (D.int y)=Z (x==y):=by cases n<;>rfl
  change ((bT n (D.int x) (D.int y)).bind λb=>(eD (bT n) (xs.map D.int) (a.map D.int)).map (b&&·))=_;rw[e,vv n xs a];change Z ((x==y)&&decide (xs=a))=_;congr 1;rw[J6,IW,JY,Jf,Jf,List.cons.injEq]
theorem yQ{R:D->Prop}(xs a:Y Int)(q:R (.bl (decide (xs=a)))):iq (.tup (xs.map D.int)) (.tup (a.map D.int)) R:=by have e:bT 40 (.tup (xs.map D.int)) (.tup (a.map D.int))=Z (decide (xs=a)):=vv 39 xs a;unfold iq;rw[e];show q
theorem qb{xs:Y Bool}(h:∀x∈xs,x=ŕ):xs.any id=ŕ:=by
 induction xs with
 |nil=>rfl
 |cons x xs c=>
  change (x ||xs.any id)=ŕ;rw[h x Ht,c λy a=>h y (Hv _ a)];rfl
theorem Az(F:Fun K "_law_row_speaks" "_law_row_speaks" jp f J)(M:Cl P w K mg base n "_law_reach" ["_law_bounds_here","_law_entries","_law_most"] z__law_reach)(N:Cl P w K mg base n "_law_shared" ["_law_numbers"] z__law_shared)(U:mg "any"=Œ)(Q:mg "len"=Œ):FnOk P w K mg base aD (n+1) f J ["_law_bounds_here","_law_rows_here","_law_k"] (lSp K z__law_row_speaks):=by
 refine F.okD qam (λds R h=>?_) (λL1 A outer s H E ds R c h=>?_)
 ·let⟨m,bs,rs,gs,k,r,rfl,_⟩:=h;rfl
 let⟨m,bs,rs,gs,k,r,rfl,a,l,q⟩:=h
 refine⟨_,(bp (sw (br (aa 1) (aa 2) (λ_ _=>rfl)) (fe (n:=2) S (cb (bf (i:=3) qam.nd S (ñ S)) (cb (bf (i:=4) qam.nd S T3) fg))))
   (bp (bX (i:=5) qam.nd S T3 (bh M c S (ad (dv 0) (ad (dv 3) (ad ce ak aL) ac) ac) ac (au ac (au aL ae))))
   (bp (bX (i:=6) qam.nd S T3 (bh M c S (ad (dv 0) (ad (dv 3) (ad ce ak aL) ac) ac) ac (au ac (au aL ae))))
   (dD (bO (PWD.td (du (PWD.td (dh (aA cZ (aa 5) (PD.q bo) (ap _)) (eP (aA gv (aa 5) (aa 4) (ap _))))) (gf (PWD.td (dh (aA cZ (aa 6) (PD.q bo) (ap _)) (eP (aA jI (aa 6) (aa 4) (ap _)))))))) (az (aV ce)) bV)
   (dD (bO (PWD.td (du (aA (cW c.units) (PD.q (bx cD S Q HW (aP (PD.q (PF.d (lX (k:=1) (N':=["_law_number"]) (cap:=[Œ]) S (.ok (show bZ ["_law_bounds_here","_law_rows_here","_law_k","_law_entries","_law_bound","_law_most","_law_least"] (ar jp) _ ["_law_number"] [Œ]=Ŕ by lia)) 'a' (bI 'b') (b8 (dv 3)) (λ_ _ _ _ _=>(bf (i:=0) (show List.Nodup (["_law_number"]:Y Str)by lia) S T3)) (λ_ _ _ _ _=>(iK (aA (eC c.units) (aa 0) (PD.q ah) (ap _)))) (λ_ _ _ _ _=>(dv 0))))) aT bA) bA ae)) (PD.q ah) (ap _)) (gf (aA dS (PD.q (bh N c S (ad (dv 3) ak ac) ac ae)) (PD.q ah) (ap _))))) (az (aV ce)) bV)
   (az (aV (bx (iS S) S U I0 (aP (PD.q (PF.d (dL (k:=1) (N':=["_law_row","_law_entries"]) (cap:=[Œ,Z 3]) S (.ok (show bZ ["_law_bounds_here","_law_rows_here","_law_k","_law_entries","_law_bound","_law_most","_law_least"] (ar jp) _ ["_law_row","_law_entries"] [Œ,Z 3]=Ŕ by lia)) 'a' (bI 'b') (b8 (rT (aa 1) uX (sP (aa 2)))) (λ_ _ _ _ _=>(bf (i:=0) (show List.Nodup (["_law_row","_law_entries"]:Y Str)by lia) S T3)) (λ_ _ _ _ _=>(df (cW c.units) (PD.q (aw (aa 0))) (aa 1) (ap _)))))) aT bA) bA ae)))))))),?_⟩
 have g:=Hu l;let⟨Ml,G⟩:=a.rr r g;have h8:=a.n8;have Qm:=a.bl;have Pe:=a.rl;have Pc:=aB l;refine⟨_,cE l S,S,?_⟩;refine⟨bs,r.1,Ŕ,S,(),(),a.bb,G,?_⟩;refine⟨bs,r.1,ŕ,S,(),(),a.bb,G,?_⟩;have I:=a.q.ho r g;have p:=a.q.id r g;have be:=a.q.si r g;have L:=a.q.un r g;unfold eK at I;unfold dW at p;unfold c9 at L;change (vO _ _ _ _:Prop);have b_:mK Ŕ bs r.1=dH bs r.1:=rfl;have T:mK ŕ bs r.1=gh bs r.1:=rfl;rw[b_,T];generalize dH bs r.1=A at *;generalize gh bs r.1=B at *;refine⟨λρ=>ρ=[Z (.v (.tup (bs.map aI))),Z (.v (.tup (rs.map ay))),Z (.v (aN k)),Z (.v (.tup (r.1.map D.int))),Z (.v (.int r.2)),Z (.v (oI A)),Z (.v (oI B))],?_,?_⟩
 ·cases A with
  |none=>
   refine⟨ff,λ_=>⟨ff,λ_=>?_⟩⟩
   cases B with
   |none=>show⟨ff,λ_=>⟨ff,λ_=>rfl⟩⟩
   |some t=>show⟨λ_=>⟨λh=>(by rw[show decide (r.2<=t)=ŕ from p]at h;cases h),λ_=>rfl⟩,tf⟩
  |some z=>
   refine⟨λ_=>⟨λh=>(by rw[show decide (z<r.2)=ŕ from I]at h;cases h),λ_=>?_⟩,tf⟩
   cases B with
   |none=>show⟨ff,λ_=>⟨ff,λ_=>rfl⟩⟩
   |some t=>show⟨λ_=>⟨λh=>(by rw[show decide (r.2<=t)=ŕ from p]at h;cases h),λ_=>rfl⟩,tf⟩
 rintro ρ rfl;refine⟨λρ=>ρ=[Z (.v (.tup (bs.map aI))),Z (.v (.tup (rs.map ay))),Z (.v (aN k)),Z (.v (.tup (r.1.map D.int))),Z (.v (.int r.2)),Z (.v (oI A)),Z (.v (oI B))],?_,?_⟩
 ·refine⟨by rw[Hj];show bu (),gN (λi=>decide (r.1.getD i 0≠0)) (λi=>D.int (r.1.getD i 0)),λk d hd=>?_,λv y a_=>?_⟩
  ·let⟨x,rfl,o⟩:=bQ hd;have ex:r.1.getD k 0=x:=eI o;refine⟨λh=>⟨?_,?_⟩,λh=>?_⟩
   ·change D.int x=D.int (r.1.getD k 0);rw[ex]
   ·change decide (r.1.getD k 0≠0)=Ŕ;rw[ex]
    show Ij λe=>by rw[e]at h;cases h
   ·change decide (r.1.getD k 0≠0)=ŕ;rw[ex];refine HJ λe=>?_;have h':(!(x==0))=ŕ:=h
    have:(x==0)=Ŕ:=by simpa using h'
    show e (eq_of_beq this)
  rw[Hj]at y;have X:v.filterMap id=(cA r.1).map (λi=>D.int (r.1.getD i 0)):=i7 y a_
  have el:(v.filterMap id).length=(cA r.1).length:=by rw[X,Hj]
  have Qf:(cA r.1).length≠1:=Iw be;refine⟨λh=>?_,λh=>?_⟩
  ·have h':((((v.filterMap id).length:Nat):Int)==1)=Ŕ:=h;have:=eq_of_beq h';omega
  ·refine⟨r.1,S,?_⟩;show (⟨λh=>(by rw[show decide (1<ba r.1)=ŕ from L]at h;cases h),λ_=>rfl⟩:(decide (1<ba r.1)=Ŕ->_)/\(decide (1<ba r.1)=ŕ->_))
 rintro ρ rfl;refine⟨_,show dc (rs.map ay) Œ (Z ((k:Nat):Int))=(rs.take k).map ay by rw[rR,DT],?_⟩;refine fC (f:=ay) (λx=>D.bl (decide (x.1=r.1))) (bu (by rw[IB];omega)) (λx o=>⟨_,S,xq (d:=.tup (r.1.map D.int)) S (yQ _ _ S)⟩) ?_;refine⟨(rs.take k).map λx=>decide (x.1=r.1),by rw[Ip];rfl,?_⟩;refine toB q (qb λb O=>?_);let⟨x,o,rfl⟩:=HG.mp O;let⟨j,u⟩:=IA o
 have C:j<k:=by have:=aB u;rw[IB]at this;omega
 rw[JJ C]at u;show HJ (a.q.nd j k x r C u l)
inductive z__law_unknown_speaks(ds:List D)(R:D->Prop):Prop|mk (n:Nat) (bs:List Bd) (rs:List aq) (gs:List Int) (k:Nat) (_:ds=[bF bs rs gs,aN k]) (_:QtP n bs rs gs) (_:k<n) (_:R (.bl ŕ))
theorem GQ(F:Fun K "_law_unknown_speaks" "_law_unknown_speaks" jJ f J)(N:mg "any"=Œ):FnOk P w K mg base aD (n+1) f J ["_law_plan","_law_k"] (lSp K z__law_unknown_speaks):=by
 refine F.okD qaq (λds R h=>?_) (λbe A outer s H E ds R U h=>?_)
 ·let⟨m,bs,rs,gs,k,rfl,_⟩:=h;rfl
 let⟨m,bs,rs,gs,k,rfl,c,T,q⟩:=h
 refine⟨_,(bp (sw (br (PD.q (aw (aa 0))) (aa 1) (λ_ _=>rfl)) (fe (n:=2) S (cb (bf (i:=2) qaq.nd S T3) (cb (bf (i:=3) qaq.nd S T3) fg))))
   (bp (bX (i:=4) qaq.nd S T3 (bx (iS S) S N I0 (aP (PD.q (PF.d (dL (k:=1) (N':=["_law_row","_law_k"]) (cap:=[Œ,Z 1]) S (.ok (show bZ ["_law_plan","_law_k","_law_least","_law_most","_law_helps","_law_harms","_law_aim"] (ar jJ) _ ["_law_row","_law_k"] [Œ,Z 1]=Ŕ by lia)) 'a' (bI 'b') (b8 (aw (aa 0))) (λ_ _ _ _ _=>(bf (i:=0) (show List.Nodup (["_law_row","_law_k"]:Y Str)by lia) S T3)) (λ_ _ _ _ _=>(df dS (PD.q (br (PD.q (aw (aa 0))) (aa 1) (λ_ _=>rfl))) (PD.q ah) (ap _)))))) aT bA) bA ae))
   (bp (bX (i:=5) qaq.nd S T3 (bx (iS S) S N I0 (aP (PD.q (PF.d (dL (k:=1) (N':=["_law_row","_law_k"]) (cap:=[Œ,Z 1]) S (.ok (show bZ ["_law_plan","_law_k","_law_least","_law_most","_law_helps","_law_harms","_law_aim"] (ar jJ) _ ["_law_row","_law_k"] [Œ,Z 1]=Ŕ by lia)) 'a' (bI 'b') (b8 (aw (aa 0))) (λ_ _ _ _ _=>(bf (i:=0) (show List.Nodup (["_law_row","_law_k"]:Y Str)by lia) S T3)) (λ_ _ _ _ _=>(df gv (PD.q (br (PD.q (aw (aa 0))) (aa 1) (λ_ _=>rfl))) (PD.q ah) (ap _)))))) aT bA) bA ae))
   (bp (bX (i:=6) qaq.nd S T3 (br (PD.q (aw (aa 0))) (aa 1) (λ_ _=>rfl)))
   (dD (bO (PWD.td (dh (aA cZ (aa 3) (PD.q bo) (ap _)) (eP (aA jI (aa 2) (aa 3) (ap _))))) (az (aV ce)) bV)
   (dD (bO (PWD.td (du (PWD.td (dh (cF (b7 (aa 4) (λ_=>rfl))) (eP (aA tI (aa 6) (PD.q ah) (ap _))))) (gf (PWD.td (dh (cF (b7 (aa 5) (λ_=>rfl))) (dh (aA jI (aa 6) (PD.q ah) (ap _)) (eP (aA cZ (aa 3) (PD.q bo) (ap _))))))))) (az (aV ce)) bV)
   (az (aV (gC (rZ (aa 5)) (gC (df (cW U.units) (aa 6) (PD.q ah) (ap _)) (jA (df fM (aa 3) (PD.q bo) (ap _))))))))))))),?_⟩
 have h8:=c.n8;have Qm:=c.bl;have a_:=c.gl;have Pe:=c.rl;refine⟨_,S,_,e7 (k:=k) () S,S,_,S,?_⟩;have M:∀r∈rs,cn (r.1.map D.int) ((k:Nat):Int)=Z (.int (r.1.getD k 0)):=λr u=>cE (i:=k) (bP (by rw[(c.rr r u).1];show T)) S;refine fC (f:=ay) (λr=>D.bl (decide (0<r.1.getD k 0))) (bu ()) (λr u=>⟨_,S,_,M r u,S⟩) ?_;refine⟨rs.map λr=>decide (0<r.1.getD k 0),by rw[Ip];rfl,?_⟩
 have O:(rs.map λr=>decide (0<r.1.getD k 0)).any id=gT rs k:=by rw[JV];rfl
 refine toB ?_ O;refine⟨_,S,?_⟩;refine fC (f:=ay) (λr=>D.bl (decide (r.1.getD k 0<0))) (bu ()) (λr u=>⟨_,S,_,M r u,S⟩) ?_;refine⟨rs.map λr=>decide (r.1.getD k 0<0),by rw[Ip];rfl,?_⟩
 have Q:(rs.map λr=>decide (r.1.getD k 0<0)).any id=fu rs k:=by rw[JV];rfl
 refine toB ?_ Q;refine⟨_,S,_,cE (i:=k) (bP (d:=0) ()) S,?_⟩;have y:=c.q.cr k ();have I:=c.q.fx k ();have p:=c.q.sk k ();have v:=c.q.ri k ();have z:=c.q.hn k ();unfold gw iX at y;unfold dO at I;unfold eu iX at p;unfold eJ iX at v;unfold eR at z;generalize gT rs k=A at *;generalize fu rs k=B at *;generalize gs.getD k 0=g at *;generalize aC bs k=b at *;let⟨l,X⟩:=b;have b_:∀st:bq,st=st:=λ_=>rfl
 cases X with
 |none=>
  dsimp only at p z
  have C:(!A)=Ŕ->decide (g<=0)=Ŕ->False:=λe j=>by rw[e,j]at p;cases p
  have L:(!B)=Ŕ->(g==0)=Ŕ->False:=λe j=>by rw[e,j]at z;cases z
  refine⟨λρ=>ρ=[Z (.v (bF bs rs gs)),Z (.v (aN k)),Z (.v (.int l)),Z (.v .non),Z (.v (.bl A)),Z (.v (.bl B)),Z (.v (.int g))],⟨ff,λ_=>⟨ff,λ_=>rfl⟩⟩,?_⟩;rintro ρ rfl;refine⟨λρ=>ρ=[Z (.v (bF bs rs gs)),Z (.v (aN k)),Z (.v (.int l)),Z (.v .non),Z (.v (.bl A)),Z (.v (.bl B)),Z (.v (.int g))],?_,?_⟩
  ·show⟨λG=>⟨λa=>(C G a).elim,λ_=>⟨λ_=>⟨λ_=>⟨ff,λ_=>rfl⟩,λ_=>⟨ff,λ_=>rfl⟩⟩,λ_=>⟨ff,λ_=>rfl⟩⟩⟩,λ_=>⟨ff,λ_=>⟨λ_=>⟨λ_=>⟨ff,λ_=>rfl⟩,λ_=>⟨ff,λ_=>rfl⟩⟩,λ_=>⟨ff,λ_=>rfl⟩⟩⟩⟩
  rintro ρ rfl;refine⟨λo=>⟨λa=>(L o a).elim,λa=>?_⟩,λo=>?_⟩
  ·show q
  ·show q
 |some mm=>
  dsimp only at y I p v;have e:¬ mm<l:=Iw y;have j:¬ l=mm:=Iw I;rw[y]at p v
  have C:(!A)=Ŕ->decide (g<=0)=Ŕ->False:=λe j=>by rw[e,j]at p;cases p
  have x:(!B)=Ŕ->decide (0<=g)=Ŕ->False:=λe j=>by rw[e,j]at v;cases v
  refine⟨λρ=>ρ=[Z (.v (bF bs rs gs)),Z (.v (aN k)),Z (.v (.int l)),Z (.v (.int mm)),Z (.v (.bl A)),Z (.v (.bl B)),Z (.v (.int g))],⟨λ_=>⟨λh=>absurd (IM h) (),λ_=>rfl⟩,tf⟩,?_⟩;rintro ρ rfl;refine⟨λρ=>ρ=[Z (.v (bF bs rs gs)),Z (.v (aN k)),Z (.v (.int l)),Z (.v (.int mm)),Z (.v (.bl A)),Z (.v (.bl B)),Z (.v (.int g))],?_,?_⟩
  ·show⟨λG=>⟨λa=>(C G a).elim,λ_=>⟨λo=>⟨λa=>(x o a).elim,λ_=>⟨ff,λ_=>rfl⟩⟩,λ_=>⟨ff,λ_=>rfl⟩⟩⟩,λ_=>⟨ff,λ_=>⟨λo=>⟨λa=>(x o a).elim,λ_=>⟨ff,λ_=>rfl⟩⟩,λ_=>⟨ff,λ_=>rfl⟩⟩⟩⟩
  rintro ρ rfl;refine⟨λo=>⟨λa=>?_,λa=>?_⟩,λo=>?_⟩
  ·show q
  ·show q
  ·show q
inductive z__law_rules_speak(ds:List D)(R:D->Prop):Prop|mk (n:Nat) (bs:List Bd) (rs:List aq) (gs:List Int) (_:ds=[bF bs rs gs]) (_:QtP n bs rs gs) (_:R (.bl ŕ))
theorem yC(F:Fun K "_law_rules_speak" "_law_rules_speak" jy f J)(u:Cl P w K mg base n "_law_row_speaks" ["_law_bounds_here","_law_rows_here","_law_k"] z__law_row_speaks)(v:Cl P w K mg base n "_law_unknown_speaks" ["_law_plan","_law_k"] z__law_unknown_speaks)(p:mg "any"=Œ)(l:mg "range"=Œ)(o:mg "len"=Œ):FnOk P w K mg base aD (n+1) f J ["_law_plan"] (lSp K z__law_rules_speak):=by
 refine F.okD zR (λds R h=>?_) (λx A outer s H E ds R r h=>?_)
 ·let⟨m,bs,rs,gs,rfl,_⟩:=h;rfl
 let⟨m,bs,rs,gs,rfl,a,q⟩:=h
 refine⟨_,(dD (bO (b7 (PD.q (bx (iS S) S p I0 (aP (PD.q (PF.d (dL (k:=1) (N':=["_law_k","_law_plan"]) (cap:=[Œ,Z 0]) S (.ok (show bZ ["_law_plan"] (ar jy) _ ["_law_k","_law_plan"] [Œ,Z 0]=Ŕ by lia)) 'a' (bI 'b') (iY S l (ad (bx cD S o HW (aP (PD.q (aw (aa 0))) aT aF) aF ae) ak bj)) (λ_ _ _ _ _=>(bf (i:=0) (show List.Nodup (["_law_k","_law_plan"]:Y Str)by lia) S T3)) (λ_ _ _ _ _=>(bh u r S (ad (aw (aa 1)) (ad (aw (aa 1)) (ad (dv 0) ak ac) aF) aF) aF (au aF (au ac ae))))))) aT bA) bA ae)) (λ_=>rfl)) (az (aV ce)) bV)
   (az (aV (bx (iS S) S p I0 (aP (PD.q (PF.d (dL (k:=1) (N':=["_law_k","_law_plan"]) (cap:=[Œ,Z 0]) S (.ok (show bZ ["_law_plan"] (ar jy) _ ["_law_k","_law_plan"] [Œ,Z 0]=Ŕ by lia)) 'a' (bI 'b') (iY S l (ad (bx cD S o HW (aP (PD.q (aw (aa 0))) aT aF) aF ae) ak bj)) (λ_ _ _ _ _=>(bf (i:=0) (show List.Nodup (["_law_k","_law_plan"]:Y Str)by lia) S T3)) (λ_ _ _ _ _=>(bh v r S (ad (dv 1) (ad (dv 0) ak ac) ac) ac (au ac ae)))))) aT bA) bA ae)))),?_⟩
 have B:=a.n8;have z:=a.bl;have y:=a.rl;refine⟨λρ=>ρ=[Z (.v (bF bs rs gs))],⟨_,S,⟨(),by rw[Hj];omega⟩,?_⟩,?_⟩
 ·refine nF (λ_=>D.bl ŕ) (bu (by rw[Hj];omega)) (λi g=>?_) ?_
  ·have j:i<rs.length:=by rw[Hj]at g;omega
   show⟨_,S,_,S,m,bs,rs,gs,i,_,by rw[Io];rfl,a,bP (d:=([],0)) j,S⟩
  refine⟨(List.range (((rs.map ay).length:Nat):Int).toNat).map λ_=>ŕ,by rw[Ip];rfl,?_⟩
  have e:((List.range (((rs.map ay).length:Nat):Int).toNat).map λ_=>ŕ).any id=ŕ:=qb λb c=>by let⟨_,_,rfl⟩:=HG.mp c;rfl
  refine toB ?_ e;show⟨ff,λ_=>rfl⟩
 rintro ρ rfl;refine⟨_,S,⟨(),by rw[Hj];omega⟩,?_⟩;refine nF (λ_=>D.bl ŕ) (bu (by rw[Hj];omega)) (λi g=>?_) ?_
 ·have j:i<bs.length:=by rw[Hj]at g;omega
  show⟨m,bs,rs,gs,i,by rw[Io];rfl,a,(),S⟩
 refine⟨(List.range (((bs.map aI).length:Nat):Int).toNat).map λ_=>ŕ,by rw[Ip];rfl,?_⟩
 have e:((List.range (((bs.map aI).length:Nat):Int).toNat).map λ_=>ŕ).any id=ŕ:=qb λb c=>by let⟨_,_,rfl⟩:=HG.mp c;rfl
 show toB q e
theorem jW{f:D->D->œ Bool}:∀{xs:Y D},(∀x∈xs,f x x=Z Ŕ)->eD f xs xs=Z Ŕ
 | [],_=>rfl
 |x::xs,h=>by change ((f x x).bind λb=>(eD f xs xs).map (b&&·))=_;rw[h x Ht,jW λy a=>h y (Hv _ a)];rfl
theorem oH(n:Nat)(x:Int):bT n (.int x) (.int x)=Z Ŕ:=by
 have:bT n (D.int x) (D.int x)=Z (x==x):=by cases n<;>rfl
 rw[this,Ia]
theorem vz{n:Nat}{a b:D}(e:bT n a a=Z Ŕ)(g:bT n b b=Z Ŕ):bT (n+1) (.tup [a,b]) (.tup [a,b])=Z Ŕ:=jW λx c=>by
 rcases HH.mp c with rfl|c
 ·show e
 ·rw[Hw.mp c];show g
theorem Ct(bs:Y Bd)(rs:Y aq)(gs:Y Int):bT 40 (bF bs rs gs) (bF bs rs gs)=Z Ŕ:=jW λx a=>by
 rcases HH.mp a with rfl|a
 ·refine jW λy c=>?_;let⟨b,_,rfl⟩:=HG.mp c;refine vz (oH _ _) ?_
  cases b.2 with
  |none=>rfl
  |some m=>show oH _ _
 ·rcases HH.mp a with rfl|a
  ·refine jW λy c=>?_;let⟨r,_,rfl⟩:=HG.mp c;show vz (kH _ _) (oH _ _)
  ·rw[Hw.mp a];show kH _ _
noncomputable abbrev sp_law:=rM
noncomputable abbrev EM:=qT
noncomputable abbrev Aw(x:Y Int):D:=.tup (x.map D.int)
theorem Wy.strP{n:Nat}{s:Led}(h:Wy n s):StrP n s:=⟨h.n8,h.sn,h.rl,h.so,h.sl⟩
theorem xN(e:Led)(n:Nat):Way (λs=>Wy n s/\Rch e s) mu:=
 ⟨λt h=>⟨n,h.1.led⟩,λt t' h hn a=>⟨⟨(h.1.row a).1,h.2.snoc ⟨hn,.inl a⟩⟩,(h.1.row a).2⟩,λt t' h hn a c=>⟨⟨(h.1.unk c).1,h.2.snoc ⟨hn,.inr ⟨a,c⟩⟩⟩,(h.1.unk c).2⟩⟩
theorem Qt.way{n:Nat}{bs:Y Bd}{rs:Y aq}{gs:Y Int}(h:Qt bs rs gs)(l:LedP n (cB bs rs gs)):Way (λs=>s=cB bs rs gs) λ_=>0:=by
 let⟨a,c,o⟩:=h.don;refine⟨λt e=>⟨n,e▸l⟩,λt t' e _ g=>?_,λt t' e _ _ j=>?_⟩
 ·subst e;cases (g.det a).1
 ·subst e;cases (j.det c).1
theorem og{a:Type}{d:a}(xs:Y a):pk d xs (List.range xs.length)=xs:=by
 refine IP λi=>?_;unfold pk;rw[Hy];by_cases c:i<xs.length
 ·rw[Jr c,bP (d:=d) c];rfl
 ·rw[Ib (by rw[HM];omega),Ib ()];rfl
theorem AN{n:Nat}{t:Led}(a:Wy n t):LedP t.st.length (cB (pk (0,Œ) t.bs t.st) (t.rs.map (cJ t.st)) (pk 0 t.gl t.st)):=by
 have L:=a.n8;have I:=a.sn;have o:=a.led;have H:=qK (pk ((0:Int),(Œ:œ Int)) t.bs t.st) (t.rs.map (cJ t.st));have g:=ii ((0:Int),(Œ:œ Int)) t.bs t.st
 have h:∀b∈pk ((0:Int),(Œ:œ Int)) t.bs t.st,iu b:=λb h=>by let⟨u,c,rfl⟩:=HG.mp (show b∈t.st.map _ from h);show o.bb _ (cS (by rw[a.bl];show a.sl u c))
 have j:∀r∈t.rs.map (cJ t.st),r.1.length=t.st.length/\∀x∈r.1,x.natAbs<2^64:=λr j=>by let⟨y,p,rfl⟩:=HG.mp j;refine⟨ii _ _ _,λz l=>?_⟩;let⟨u,c,rfl⟩:=HG.mp (show z∈t.st.map _ from l);show (a.rr y p).2.1 _ (cS (by rw[(a.rr y p).1];show a.sl u c))
 have E:∀x∈pk 0 t.gl t.st,cf x:=λz l=>by let⟨u,c,rfl⟩:=HG.mp (show z∈t.st.map _ from l);show o.gg _ (cS (by rw[a.gl];show a.sl u c))
 have A:(pk 0 t.gl t.st).length=t.st.length:=ii _ _ _
 have C:(t.rs.map (cJ t.st)).length<=30:=by rw[Hj];show a.rl
 generalize pk ((0:Int),(Œ:œ Int)) t.bs t.st=B at *;generalize t.rs.map (cJ t.st)=RS at *;generalize pk 0 t.gl t.st=G at *;refine⟨(),g,A,by change ((List.range B.length).map aN).length=_;rw[Hj,HM];show g,by change (jH B).length=_;unfold jH;rw[Hj,HM];show g,λu c=>by rw[←g];show HQ.mp c,List.nodup_range,C,by change (cp _ RS.length).length=RS.length;rw[fm],λr v=>?_,h,E,by change 0<700;decide,by change 0<=8;decide,by change 0<=8;decide,λd hd=>?_,λd hd=>?_,vA _,cQ⟩
 ·let⟨a1,a2⟩:=j r v;refine⟨a1,λx F=>KH (a2 x F) (Jo 'b' 'b'),i4 _,?_⟩;have:=vh a2 'b'
  have e:((2^64:Nat):Int)<2^9000:=by lia
  omega
 ·let⟨i,_,rfl⟩:=HG.mp (show d∈(List.range RS.length).map _ from hd);show .int _
 ·let⟨i,_,rfl⟩:=HG.mp (show d∈(List.range B.length).map (fh B)from hd);unfold fh;split
  ·show .int _
  ·show .non
theorem Ca{n:Nat}{t:Led}(g:Wy n t):gR (cB (pk (0,Œ) t.bs t.st) (t.rs.map (cJ t.st)) (pk 0 t.gl t.st))=gR t:=by
 have a:=ii ((0:Int),(Œ:œ Int)) t.bs t.st;unfold gR;change bF (pk (0,Œ) (pk (0,Œ) t.bs t.st) (List.range (pk ((0:Int),(Œ:œ Int)) t.bs t.st).length)) ((t.rs.map (cJ t.st)).map (cJ (List.range (pk ((0:Int),(Œ:œ Int)) t.bs t.st).length))) (pk 0 (pk 0 t.gl t.st) (List.range (pk ((0:Int),(Œ:œ Int)) t.bs t.st).length))=_;rw[og]
 have c:pk 0 (pk 0 t.gl t.st) (List.range (pk ((0:Int),(Œ:œ Int)) t.bs t.st).length)=pk 0 t.gl t.st:=by rw[a,←ii (0:Int) t.gl t.st,og]
 have e:(t.rs.map (cJ t.st)).map (cJ (List.range (pk ((0:Int),(Œ:œ Int)) t.bs t.st).length))=t.rs.map (cJ t.st):=by
  rw[Ip];refine Jg λr _=>?_;change (pk 0 (pk 0 r.1 t.st) (List.range (pk ((0:Int),(Œ:œ Int)) t.bs t.st).length),r.2)=(pk 0 r.1 t.st,r.2);rw[a,←ii (0:Int) r.1 t.st,og]
 rw[c,e]
theorem vT{d:D}{R:D->Prop}(h:bT 40 d d=Z Ŕ)(q:R (.bl Ŕ)):iq d d R:=by unfold iq;rw[h];show q
noncomputable abbrev LY(ns:Y Int)(o:Om)(n:Nat)(pl:D)(sp:Y Int)(st:D)(a:œ Sm):af:=[Z (.v (.fzl (ns.map D.int))),Z (.ob Œ o),Z (.v (.int (n:Nat))),Z (.v pl),Z (.v (Aw sp)),Z (.v st),a]
theorem EI(F:Fun K "law" "law" nG f J){U:Addr}(a:TxtStruck K mg U)(ND:ClM P w K mg base (n+1) "_law_pool" ["_law_script"] y__law_pool)(b_:ClM P w K mg base (n+1) "_law_draw" ["_law_pool_here","_law_many"] y__law_draw)(Nt:ClM P w K mg base (n+1) "_law_small" ["_law_pool_here","_law_count","_law_many","_law_opens"] y__law_small)(NM:ClM P w K mg base (n+1) "_law_far" ["_law_pool_here","_law_plan","_law_spot"] y__law_far)(G7:Cl P w K mg base (n+1) "_law_rules_speak" ["_law_plan"] z__law_rules_speak)(v9:Cl P w K mg base (n+1) "_law_fields" ["_law_struck","_law_count"] z__law_fields)(be:MkM P w K mg base n U ["self","plan"] uf)(aW:mg "tuple"=Œ)(a_:mg "len"=Œ)(bW:mg "range"=Œ):FnOk P w K mg base aD (n+2) f J ["_law_script"] (lSpM K (zM EM)):=by
 refine F.okM qaE (λas R Rx h=>?_) (λL1 A outer s H E as R Rx qs L6 g h Mi=>?_)
 ·let⟨_,rfl,ns,rfl,_⟩:=h;rfl
 let⟨_,rfl,ns,rfl,hz,q⟩:=h;obtain rfl:=nj Mi
 refine⟨_,(ao (aO (i:=1) qaE.nd S T3 (bE ND g S (aH (ag (dv 0)) bc ac) ac ae))
   (ao (aO (i:=2) qaE.nd S T3 (bE b_ g S (bG 1 (aH (ag ah) bc aL) ac) ac (au aL ae)))
   (ao (rF (bE Nt g S (bG 1 (aH (ag (dv 2)) (aH (ag ah) (aH (bE b_ g S (bG 1 (aH (ag ah) bc aL) ac) ac (au aL ae)) bc bj) aL) ac) ac) ac (au ac (au aL (au bj ae)))) (iR (n:=2) S (e5 (db (i:=3) qaE.nd S T3) (e5 (db (i:=4) qaE.nd S T3) i8))))
   (ao (rF (bE NM g S (bG 1 (aH (ag (dv 3)) (aH (ag (dv 4)) bc ac) ac) ac) ac (au ac (au ac ae))) (iR (n:=2) S (e5 (db (i:=3) qaE.nd S T3) (e5 (db (i:=4) qaE.nd S T3) i8))))
   (ao (aO (i:=5) qaE.nd S T3 (rH (pI be g S a.mgC a.ns (aH (ag (dv 3)) bc ac) ac ae)))
   (cu (bY (bR (cF (b7 (PD.q (bh v9 g S (ad (dv 5) (ad (dv 2) ak ac) ac) ac (au ac ae))) (λ_=>rfl)))) (aU (cC (ag ce))) cq)
   (cu (bY (bR (aA (cW g.units) (PD.q (aJ a.cl a.n_kind a.ns (aa 5))) (PD.q iF) (ap _))) (aU (cC (ag ce))) cq)
   (cu (bY (bR (b7 (PD.q (bh G7 g S (ad (aJ a.cl a.n_slim a.ns (aa 5)) ak aG) aG ae)) (λ_=>rfl))) (aU (cC (ag ce))) cq)
   (ao (aO (i:=6) qaE.nd S T3 (rH (pI be g S a.mgC a.ns (aH (ag (aJ a.cl a.n_slim a.ns (aa 5))) bc aG) aG ae)))
   (cu (bY (bR (PWD.td (du (cF (b7 (PD.q (bh v9 g S (ad (dv 6) (ad (bx cD S a_ HW (aP (PD.q (aJ a.cl a.n_kept a.ns (aa 5))) aT aG) aG ae) ak bj) ac) ac (au bj ae))) (λ_=>rfl))) (du (aA (eC g.units) (PD.q (aJ a.cl a.n_kind a.ns (aa 6))) (PD.q iF) (ap _)) (gf (aA (eC g.units) (PD.q (aJ a.cl a.n_extra a.ns (aa 6))) (PD.q ah) (ap _))))))) (aU (cC (ag ce))) cq)
   (aU (cC (ag (gC (df (cW g.units) (PD.q (aJ a.cl a.n_slim a.ns (aa 6))) (PD.q (aJ a.cl a.n_slim a.ns (aa 5))) (ap _)) (jA (df (cW g.units) (PD.q (aJ a.cl a.n_kept a.ns (aa 6))) (PD.q (At S S aW S bW (ad (bx cD S a_ HW (aP (PD.q (aJ a.cl a.n_kept a.ns (aa 5))) aT aG) aG ae) ak bj))) (ap _))))))))))))))))),?_⟩
 intro ke;refine⟨_,S,S,ns,S,hz,λo0 RV=>?_⟩;rfl';refine⟨⟨_,_,S⟩,_,S,S,_,_,9,0,S,RV,'b','b',cG 'b',λx o1 x0 x1 Na=>?_⟩;rfl';let⟨n,rfl⟩:=Kk x0
 have B:n<=8:=by omega
 refine⟨⟨_,_,S⟩,⟨_,_,S⟩,_,S,S,_,_,4,_,S,Na,'b','b',cG 'b',λop o3 p0 p1 NB=>?_⟩;rfl';refine⟨_,S,S,_,_,n,_,12,op,S,NB,'b',B,'b','b',(),(),λbs rs gs sp o4 L MZ=>?_⟩;rfl';refine⟨S,?_⟩;refine⟨⟨_,_,S⟩,_,S,S,_,_,n,_,12,bs,rs,gs,sp,S,MZ,'b',B,'b',L,λc l y v G NL hsz NS=>?_⟩;rfl';refine⟨S,?_⟩;have Qm:=G.bl;subst Qm;refine⟨_,c,l,gs,λs=>Wy c.length s/\Rch (cB c l gs) s,mu,S,B,by have:=G.rl;omega,⟨G.wy,.nil⟩,xN _ _,λt Q hR hU NX=>⟨_,S,?_⟩,λt Q hN=>⟨_,S,?_⟩⟩
 ·let⟨j,Oc⟩:=Q;rfl';have PZ:=j.sn;have h8:=j.n8;have I:=FY j hR hU NX;have z:=AN j;have o:=ii ((0:Int),(Œ:œ Int)) t.bs t.st;refine⟨λρ=>ρ=LY ns v c.length (bF c l gs) y (ie c.length t) Œ,⟨_,c.length,t,S,.inl ⟨S,j.strP⟩,ff,λ_=>rfl⟩,?_⟩;rintro ρ rfl;refine⟨λρ=>ρ=LY ns v c.length (bF c l gs) y (ie c.length t) Œ,⟨S,_,S,λh=>absurd h 'a',λ_=>rfl⟩,?_⟩;rintro ρ rfl;refine⟨λρ=>ρ=LY ns v c.length (bF c l gs) y (ie c.length t) Œ,⟨S,_,S,t.st.length,_,_,_,S,⟨I,(),o,ii _ _ _,by rw[Hj];show j.rl,z.bb,λr X=>⟨(z.rr r X).1,λx hx=>pb ((z.rr r X).2.1 x hx)⟩⟩,ff,λ_=>rfl⟩,?_⟩;rintro ρ rfl;refine⟨S,_,S,_,_,_,_,λs=>s=cB (pk (0,Œ) t.bs t.st) (t.rs.map (cJ t.st)) (pk 0 t.gl t.st),λ_=>0,S,(),by rw[Hj];show j.rl,S,I.way z,λt' C hR' hU' O=>⟨_,S,?_⟩,λt' C p=>⟨_,S,?_⟩⟩
  ·subst C;rfl';have L:StrP t.st.length (cB (pk (0,Œ) t.bs t.st) (t.rs.map (cJ t.st)) (pk 0 t.gl t.st)):=⟨(),by change (List.range (pk ((0:Int),(Œ:œ Int)) t.bs t.st).length).length<=_;rw[HM,o];show Hr _,by change (t.rs.map _).length<=30;rw[Hj];show j.rl,Jz,λu hu=>by rw[←o];show HQ.mp hu⟩
   have Mn:(cB (pk (0,Œ) t.bs t.st) (t.rs.map (cJ t.st)) (pk 0 t.gl t.st)).st=List.range t.st.length:=by rw[←o];rfl
   have N:(cB (pk (0,Œ) t.bs t.st) (t.rs.map (cJ t.st)) (pk 0 t.gl t.st)).ex=0:=rfl;have M:=Ca j;generalize cB (pk (0,Œ) t.bs t.st) (t.rs.map (cJ t.st)) (pk 0 t.gl t.st)=T at *;rw[o];refine⟨λρ=>ρ=LY ns v c.length (bF c l gs) y (ie c.length t) (Z (.v (ie t.st.length T))),⟨S,_,S,_,t.st.length,T,by rw[Hj];rfl,.inl ⟨S,L⟩,ff,λ_=>⟨S,_,S,λh=>absurd h 'a',λ_=>⟨S,_,S,?_⟩⟩⟩,?_⟩
   ·have hn:(!(T.ex==0))=ŕ:=by rw[N];rfl
    show⟨λh=>(by have h':(!(T.ex==0))=Ŕ:=h;rw[hn]at h';cases h'),λ_=>rfl⟩
   rintro ρ rfl;refine⟨S,_,S,S,_,S,?_⟩;rw[M];refine vT (d:=gR t) (Ct _ _ _) ⟨λ_=>?_,tf⟩;refine⟨S,_,S,S,_,S,⟨(),by rw[Hj];omega⟩,?_⟩
   have e:cp 0 (((t.st.map aN).length:Nat):Int).toNat=T.st.map aN:=by rw[Mn,Hj,IY];unfold cp;refine Jg λi _=>?_;rw[Io];rfl
   rw[e,j9];show vT (kH 39 _) q
  ·subst C;rw[I.don.2.2]at p;cases p
 ·let⟨j,Oc⟩:=Q;rfl';refine⟨λρ=>ρ=LY ns v c.length (bF c l gs) y (qj c.length (fU t (bt t) 1) ((fU t (bt t) 1).ln++[D.tup [D.str "shut",fA t]])) Œ,⟨_,c.length,_,S,.inr ⟨_,S⟩,ff,λ_=>rfl⟩,?_⟩;rintro ρ rfl;show⟨λ_=>False,⟨S,_,S,λ_=>q,λh=>absurd h 'a'⟩,λρ h=>h.elim⟩
end
theorem all_mk{l:PySem.W.OpenLaw}{w:È}{K:Â}{h:Heap}{mg:Str->œ Value}{fa:Addr}{a:Addr}{f:Addr}(X:K.In h)(G:h.Ns Á mg)(hfa:mg "law"=Z (.ref fa))

  (Mr:Ò K Á "Ledger"=Z (Z (.ref a)))
  (Ms:Ò K Á "Struck"=Z (Z (.ref f)))
  (a1:Has K ma "common_of_two")
  (a2:Has K nM "common")
  (a3:Has K mv "up")
  (a4:Has K kG "unit")
  (a5:Has K kC "turned")
  (a6:Has K jX "evened")
  (a7:Has K jg "givens")
  (a8:Has K ki "without")
  (a9:Has K kO "only_unknown")
  (a10:Has K nv "first_most_marks")
  (a11:Has K mW "is_crossed")
  (a12:Has K mM "greatest_sum")
  (a13:Has K kR "least_sum")
  (a14:Has K lx "crossed_unknown")
  (a15:Has K mz "hopeless_row")
  (a16:Has K mR "idle_row")
  (a17:Has K jT "single_row")
  (a18:Has K na "uneven_row")
  (a19:Has K nQ "doubled_row")
  (a20:Has K lq "fixed_unknown")
  (a21:Has K jY "has_above")
  (a22:Has K j7 "has_below")
  (a23:Has K mQ "sinking_unknown")
  (a24:Has K mt "rising_unknown")
  (a25:Has K k8 "hanging_unknown")
  (a26:Has K lR "row_struck")
  (a27:Has K nq "unknown_struck")
  (a28:Has K kD "hopeless_shares")
  (a29:Has K lf "strike")
  (a30:Has K jP "picked")
  (a31:Has K kM "slim_plan")
  (a32:Has K ly "_law_whole")
  (a33:Has K kT "_law_wholes")
  (a34:Has K mP "_law_pool")
  (a35:Has K lW "_law_draw")
  (a36:Has K kE "_law_times")
  (a37:Has K lg "_law_bounds")
  (a38:Has K nH "_law_rows")
  (a39:Has K lu "_law_small")
  (a40:Has K iM "_law_far")
  (a41:Has K lH "_law_plan_is")
  (a42:Has K kK "_law_fields")
  (a43:Has K mH "_law_reach")
  (a44:Has K nh "_law_shared")
  (a45:Has K jp "_law_row_speaks")
  (a46:Has K jJ "_law_unknown_speaks")
  (a47:Has K jy "_law_rules_speak")
  (a48:Has K nG "law")
  (TH:HasM K nS a "__init__" "Ledger.__init__")
  (TJ:HasM K nc a "put_line" "Ledger.put_line")
  (TK:HasM K lj a "drop_row" "Ledger.drop_row")
  (TL:HasM K mC a "turn_to_bound" "Ledger.turn_to_bound")
  (TM:HasM K l8 a "even_row" "Ledger.even_row")
  (TN:HasM K nN a "bound_share" "Ledger.bound_share")
  (TQ:HasM K nT a "fix" "Ledger.fix")
  (TR:HasM K jq a "hang" "Ledger.hang")
  (TU:HasM K le a "let_go" "Ledger.let_go")
  (TV:HasM K li f "__init__" "Struck.__init__")
  (NY:ô K a Str.empty=Ŕ) (NZ:ö K a=Ŕ) (N0:ā K a=Ŕ) (N3:Ï K (.ref a) "__setattr__"=Z (Z (.builtin "object.__setattr__"))) (N4:ĥ K a=Ŕ) (N5:ã K (.ref a)=Ŕ)
  (MR:Ï K (.ref a) "bounds"=Z Œ)
  (Nd:Ï K (.ref a) "rows"=Z Œ)
  (Nf:Ï K (.ref a) "goal"=Z Œ)
  (MM:Ï K (.ref a) "staying"=Z Œ)
  (Ng:Ï K (.ref a) "told"=Z Œ)
  (M1:Ï K (.ref a) "lines"=Z Œ)
  (Mo:Ï K (.ref a) "least_marks"=Z Œ)
  (Mv:Ï K (.ref a) "most_marks"=Z Œ)
  (ME:Ï K (.ref a) "row_marks"=Z Œ)
  (Mp:Ï K (.ref a) "goal_shares"=Z Œ)
  (M3:Ï K (.ref a) "extra"=Z Œ)
  (Nh:Ï K (.ref a) "gone"=Z Œ)
  (N6:ô K f Str.empty=Ŕ) (N7:ö K f=Ŕ) (N8:ā K f=Ŕ) (N9:Ï K (.ref f) "__setattr__"=Z (Z (.builtin "object.__setattr__"))) (Oa:ĥ K f=Ŕ) (Ob:ã K (.ref f)=Ŕ)
  (MS:Ï K (.ref f) "ledger"=Z Œ)
  (MN:Ï K (.ref f) "breadth"=Z Œ)
  (Ni:Ï K (.ref f) "kind"=Z Œ)
  (M4:Ï K (.ref f) "paper"=Z Œ)
  (Nj:Ï K (.ref f) "slim"=Z Œ)
  (Nk:Ï K (.ref f) "kept"=Z Œ)
  (M5:Ï K (.ref f) "extra"=Z Œ)
  (Rj:Ò K Á "abs"=Z Œ)
  (OZ:Ò K Á "tuple"=Z Œ)
  (O0:Ò K Á "range"=Z Œ)
  (Rk:Ò K Á "len"=Z Œ)
  (NG:Ò K Á "enumerate"=Z Œ)
  (Rl:Ò K Á "zip"=Z Œ)
  (Rm:Ò K Á "any"=Z Œ)
  (Nu:Ò K Á "isinstance"=Z Œ)
  (Rn:Ò K Á "int"=Z Œ)
  (y_bool:Ò K Á "bool"=Z Œ)
  (Ro:Ò K Á "all"=Z Œ)
  (Rq:Ò K Á "sum"=Z Œ)
  (Rr:Ò K Á "max"=Z Œ)
  (P7:Ò K Á "list"=Z Œ)
  (NN:Ò K Á "reversed"=Z Œ) :
  ∃fd:Ì,(∀(s:À)(v:Value),Ċ s fd ⟨[v],[]⟩ [("_law_script",v)])/\∀base:Heap,K.In base->base.Ns Á mg->FnOk l.prog w K mg base aD 9 fa fd ["_law_script"] (sp_law K):=by
 let⟨f1,d1,F1,m1,_⟩:=a1.fn X G;let⟨f2,d2,F2,m2,_⟩:=a2.fn X G;let⟨f3,d3,F3,m3,_⟩:=a3.fn X G;let⟨f4,d4,F4,m4,_⟩:=a4.fn X G;let⟨f5,d5,F5,m5,_⟩:=a5.fn X G;let⟨f6,d6,F6,m6,_⟩:=a6.fn X G;let⟨f7,d7,F7,m7,_⟩:=a7.fn X G;let⟨f8,d8,F8,m8,_⟩:=a8.fn X G;let⟨f9,d9,F9,m9,_⟩:=a9.fn X G;let⟨f10,d10,r,m10,_⟩:=a10.fn X G;let⟨f11,d11,u,m11,_⟩:=a11.fn X G;let⟨f12,d12,x,m12,_⟩:=a12.fn X G;let⟨f13,d13,y,m13,_⟩:=a13.fn X G;let⟨f14,d14,z,m14,_⟩:=a14.fn X G;let⟨f15,d15,A,m15,_⟩:=a15.fn X G;let⟨f16,d16,B,m16,_⟩:=a16.fn X G;let⟨f17,d17,C,m17,_⟩:=a17.fn X G;let⟨f18,d18,E,m18,_⟩:=a18.fn X G;let⟨f19,d19,F,m19,_⟩:=a19.fn X G;let⟨f20,d20,H,m20,_⟩:=a20.fn X G;let⟨f21,d21,I,m21,_⟩:=a21.fn X G;let⟨f22,d22,J,m22,_⟩:=a22.fn X G;let⟨f23,d23,L,m23,_⟩:=a23.fn X G;let⟨f24,d24,M,m24,_⟩:=a24.fn X G;let⟨f25,d25,N,m25,_⟩:=a25.fn X G;let⟨f26,d26,O,m26,_⟩:=a26.fn X G;let⟨f27,d27,Q,m27,_⟩:=a27.fn X G;let⟨f28,d28,R,m28,_⟩:=a28.fn X G;let⟨f29,d29,b_,m29,_⟩:=a29.fn X G;let⟨f30,d30,T,m30,_⟩:=a30.fn X G;let⟨f31,d31,U,m31,_⟩:=a31.fn X G;let⟨f32,d32,be,m32,_⟩:=a32.fn X G;let⟨f33,d33,a_,m33,_⟩:=a33.fn X G;let⟨f34,d34,F34,m34,_⟩:=a34.fn X G;let⟨f35,d35,F35,m35,_⟩:=a35.fn X G;let⟨f36,d36,F36,m36,_⟩:=a36.fn X G;let⟨f37,d37,F37,m37,_⟩:=a37.fn X G;let⟨f38,d38,F38,m38,_⟩:=a38.fn X G;let⟨f39,d39,F39,m39,_⟩:=a39.fn X G;let⟨f40,d40,F40,m40,_⟩:=a40.fn X G;let⟨f41,d41,F41,m41,_⟩:=a41.fn X G;let⟨f42,d42,F42,m42,_⟩:=a42.fn X G;let⟨f43,d43,F43,m43,_⟩:=a43.fn X G;let⟨f44,d44,F44,m44,_⟩:=a44.fn X G;let⟨f45,d45,F45,m45,_⟩:=a45.fn X G;let⟨f46,d46,F46,m46,_⟩:=a46.fn X G;let⟨f47,d47,F47,m47,_⟩:=a47.fn X G;let⟨f48,d48,F48,m48,_,_,_,e⟩:=a48.fn X G;let⟨f49,d49,TH,i49,k49,F49⟩:=TH;have b49:=F49.bd (ps:=["self","plan"]);let⟨f50,d50,TJ,i50,k50,F50⟩:=TJ;have b50:=F50.bd (ps:=["self","shares","divisor"]);let⟨f51,d51,TK,i51,k51,F51⟩:=TK;have b51:=F51.bd (ps:=["self","place"]);let⟨f52,d52,TL,i52,k52,F52⟩:=TL;have b52:=F52.bd (ps:=["self","place"]);let⟨f53,d53,TM,i53,k53,F53⟩:=TM;have b53:=F53.bd (ps:=["self","place"]);let⟨f54,d54,TN,i54,k54,F54⟩:=TN;have b54:=F54.bd (ps:=["self","unknown","entry"]);let⟨f55,d55,TQ,i55,k55,F55⟩:=TQ;have b55:=F55.bd (ps:=["self","unknown","number"]);let⟨f56,d56,TR,i56,k56,F56⟩:=TR;have b56:=F56.bd (ps:=["self","unknown"]);let⟨f57,d57,TU,i57,k57,F57⟩:=TU;have b57:=F57.bd (ps:=["self","unknown","least","rows"]);let⟨f58,d58,TV,i58,k58,F58⟩:=TV;have b58:=F58.bd (ps:=["self","plan"]);cases hfa.symm.trans m48;refine⟨d48,λs v=>by rw[e];show .of_eq S,λbase _ _=>?_⟩;have fJ:=IV X G Rj;have c:=IV X G OZ;have o:=IV X G O0;have g:=IV X G Rk;have p:=IV X G NG;have fH:=IV X G Rl;have eg:=IV X G Rm;have dQ:=IV X G Nu;have ij:=IV X G Rn;have qI:=IV X G y_bool;have qJ:=IV X G Ro;have qG:=IV X G Rq;have jM:=IV X G Rr;have fK:=IV X G P7;have qC:=IV X G NN;have j:TxtLedger K mg a:=⟨⟨NY,NZ,N0,N3⟩,MR,Nd,Nf,MM,Ng,M1,Mo,Mv,ME,Mp,M3,Nh,mg_of X G Mr,Mr⟩;have LP:TxtStruck K mg f:=⟨⟨N6,N7,N8,N9⟩,MS,MN,Ni,M4,Nj,Nk,M5,mg_of X G Ms,Ms⟩;have H1:=yp (P:=l.prog) (w:=w) (mg:=mg) (base:=base) (n:=0) F1 fJ;have Q1:=F1.cl m1 H1;have H2:=GG (n:=1) F2 Q1.mono;have Q2:=F2.cl m2 H2;have H3:=xw (P:=l.prog) (w:=w) (mg:=mg) (base:=base) (n:=0) F3;have Q3:=F3.cl m3 H3;have H4:=En (P:=l.prog) (w:=w) (mg:=mg) (base:=base) (n:=0) F4 c o;have Q4:=F4.cl m4 H4;have H5:=Aa (P:=l.prog) (w:=w) (mg:=mg) (base:=base) (n:=0) F5 c;have Q5:=F5.cl m5 H5;have H6:=Fo (n:=2) F6 Q2.mono Q3.mono c;have Q6:=F6.cl m6 H6;have H7:=E7 (n:=1) F7 Q5.mono Q4.mono g o c;have Q7:=F7.cl m7 H7;have H8:=zK (P:=l.prog) (w:=w) (mg:=mg) (base:=base) (n:=0) F8 c p;have Q8:=F8.cl m8 H8;have H9:=C8 (P:=l.prog) (w:=w) (mg:=mg) (base:=base) (n:=0) F9 p;have Q9:=F9.cl m9 H9;have So:=yE (P:=l.prog) (w:=w) (mg:=mg) (base:=base) (n:=0) r g;have R10:=r.clM m10 So;have H11:=yX (P:=l.prog) (w:=w) (mg:=mg) (base:=base) (n:=0) u;have TY:=u.cl m11 H11;have H12:=Bi (P:=l.prog) (w:=w) (mg:=mg) (base:=base) (n:=0) x fH;have Q12:=x.cl m12 H12;have H13:=zg (n:=1) y Q12.mono;have Q13:=y.cl m13 H13;have H14:=A6 (n:=1) z TY.mono;have Q14:=z.cl m14 H14;have H15:=GE (n:=1) A Q12.mono p;have Q15:=A.cl m15 H15;have H16:=x8 (n:=2) B Q13.mono p;have Q16:=B.cl m16 H16;have H17:=Fd (P:=l.prog) (w:=w) (mg:=mg) (base:=base) (n:=0) C p g;have Q17:=C.cl m17 H17;have H18:=Dm (n:=2) E Q2.mono p;have Q18:=E.cl m18 H18;have H19:=Bz (P:=l.prog) (w:=w) (mg:=mg) (base:=base) (n:=0) F p;have Q19:=F.cl m19 (H19.imp qY);have H20:=x9 (P:=l.prog) (w:=w) (mg:=mg) (base:=base) (n:=0) H;have Q20:=H.cl m20 H20;have H21:=Fc (P:=l.prog) (w:=w) (mg:=mg) (base:=base) (n:=0) I eg;have Q21:=I.cl m21 H21;have H22:=Bx (P:=l.prog) (w:=w) (mg:=mg) (base:=base) (n:=0) J eg;have Q22:=J.cl m22 H22;have H23:=Ac (n:=1) L TY.mono Q21.mono;have Q23:=L.cl m23 H23;have H24:=xg (n:=1) M TY.mono Q22.mono;have Q24:=M.cl m24 H24;have H25:=BW (n:=1) N Q22.mono;have Q25:=N.cl m25 H25;have H30:=D1 (P:=l.prog) (w:=w) (mg:=mg) (base:=base) (n:=0) T c;have Q30:=T.cl m30 H30;have H31:=A8 (n:=1) U j Q30.mono c;have Q31:=U.cl m31 H31;have H32:=wM (P:=l.prog) (w:=w) (mg:=mg) (base:=base) (n:=0) be dQ ij qI;have TZ:=be.cl m32 H32;have H33:=yO (n:=1) a_ TZ.mono dQ c qJ g;have Q33:=a_.cl m33 H33;have H34:=C7 (P:=l.prog) (w:=w) (mg:=mg) (base:=base) (n:=0) F34 g;have R34:=F34.clM m34 H34;have H35:=Gm (P:=l.prog) (w:=w) (mg:=mg) (base:=base) (n:=0) F35;have Rt:=F35.clM m35 H35;have H36:=D3 (P:=l.prog) (w:=w) (mg:=mg) (base:=base) (n:=0) F36 qG fH;have T1:=F36.cl m36 H36;have H37:=CC (n:=1) F37 Rt.mono o ij jM;have R37:=F37.clM m37 H37;have H38:=Fh (n:=1) F38 Rt.mono T1.mono o fK fJ g c;have R38:=F38.clM m38 H38;have H39:=xn (n:=2) F39 R37.mono R38.mono Rt.mono T1.mono c jM;have R39:=F39.clM m39 H39;have H40:=DH (n:=1) F40 Rt.mono T1.mono fH c;have R40:=F40.clM m40 H40;have H41:=wR (n:=2) F41 Q33.mono TZ.mono dQ c g;have Q41:=F41.cl m41 H41;have H42:=Al (n:=3) F42 LP Q33.mono TZ.mono Q41.mono fK dQ c g o;have Q42:=F42.cl m42 H42;have H43:=xv (P:=l.prog) (w:=w) (mg:=mg) (base:=base) (n:=0) F43 fH ij;have Q43:=F43.cl m43 H43;have H44:=GO (P:=l.prog) (w:=w) (mg:=mg) (base:=base) (n:=0) F44 fJ;have Q44:=F44.cl m44 H44;have H45:=Az (n:=1) F45 Q43.mono Q44.mono eg g;have Q45:=F45.cl m45 H45;have H46:=GQ (P:=l.prog) (w:=w) (mg:=mg) (base:=base) (n:=0) F46 eg;have Q46:=F46.cl m46 H46;have H47:=yC (n:=2) F47 Q45.mono Q46.mono eg o g;have Q47:=F47.cl m47 H47;have H49:=zO (n:=2) F49 j R10.mono Q7.mono fK g o;have R49:=MkM.mk ⟨_,_,H49,b49,⟨N4,TH,i49,N5⟩⟩;have H50:=AO (P:=l.prog) (w:=w) (mg:=mg) (base:=base) (n:=0) F50 j g;have RY:=MthM.mk ⟨_,_,H50,b50,⟨TJ,i50,k50⟩⟩;have H51:=Fp (P:=l.prog) (w:=w) (mg:=mg) (base:=base) (n:=0) F51 j;have T2:=MthM.mk ⟨_,_,H51,b51,⟨TK,i51,k51⟩⟩;have H52:=DL (n:=1) F52 j Q9.mono Q3.mono T2.mono RY.mono fJ;have R52:=MthM.mk ⟨_,_,H52,b52,⟨TL,i52,k52⟩⟩;have H53:=y8 (n:=3) F53 j Q6.mono Q2.mono RY.mono;have R53:=MthM.mk ⟨_,_,H53,b53,⟨TM,i53,k53⟩⟩;have H26:=yN (n:=4) O j Q16.mono Q17.mono Q18.mono Q19.mono T2.mono R52.mono R53.mono;have R26:=O.clM m26 H26;have H54:=xJ (P:=l.prog) (w:=w) (mg:=mg) (base:=base) (n:=0) F54 j;have Q54:=MthD.mk ⟨_,_,H54,b54,⟨TN,i54,k54⟩⟩;have H28:=xj (n:=2) R j Q14.mono Q15.mono Q54.mono c p;have Q28:=R.cl m28 H28;have H57:=EU (P:=l.prog) (w:=w) (mg:=mg) (base:=base) (n:=0) F57 j c;have R57:=MthM.mk ⟨_,_,H57,b57,⟨TU,i57,k57⟩⟩;have H55:=EJ (n:=1) F55 j Q8.mono R57.mono RY.mono Q54.mono o g;have R55:=MthM.mk ⟨_,_,H55,b55,⟨TQ,i55,k55⟩⟩;have H56:=wX (n:=1) F56 j R57.mono T2.mono qC p;have R56:=MthM.mk ⟨_,_,H56,b56,⟨TR,i56,k56⟩⟩;have H27:=A7 (n:=2) Q j Q20.mono Q24.mono Q25.mono Q23.mono R55.mono R56.mono;have R27:=Q.clM m27 H27;have H29:=EF (n:=5) b_ Q28.mono R26.mono R27.mono;have R29:=b_.clM m29 H29;have H58:=EY (n:=5) F58 LP j R29.mono Q31.mono R49.mono RY.mono g c;have R58:=MkM.mk ⟨_,_,H58,b58,⟨Oa,TV,i58,Ob⟩⟩;have H48:=EI (n:=7) F48 LP R34.mono Rt.mono R39.mono R40.mono Q47.mono Q42.mono R58.mono c g o;show (H48.imp qY).imp EC
theorem walk{l:PySem.W.OpenLaw}{q:Å}{c:Y Str}{v:(Str->œ Value)->Heap->Prop}{e:È->Heap->Prop}{d:DefRec}{K:Ħ->Â}(hn:l.most=Z 63)(r:d.params.defaults=[])(p:PyProof.Rows.importsNone q=Ŕ)
  (B:∀(w:È)(h:Heap),e w h->(K w.params).In h) (y:∀w:È,Ò (K w.params) Á "least_grown"=Z Œ/\Ò (K w.params) Á "greatest_first"=Z Œ)
  (F:∀(w:È)(mg:Str->œ Value)(g:Addr)(h:Heap),(K w.params).In h->h.Ns Á mg->mg d.name=Z (.ref g)->
   ∃j:Ì,(∀(s:À)(u:Value),Ċ s j ⟨[u],[]⟩ [("_law_script",u)])/\∀base:Heap,(K w.params).In base->base.Ns Á mg->FnOk l.prog w (K w.params) mg base aD 9 g j ["_law_script"] (sp_law (K w.params))) :
  PySem.W.WalkO q c v e l.row.toRowW d [] (λf vs=>PySem.call f vs):=
 L2.walk_of (n:=63) (k:=9) (x:="_law_script") (CX:=λ_=>aD) (sp:=λw=>sp_law (K w.params)) hn 'b' r p ⟨S,'b','b'⟩ B F (λw H a ns C _ A=>⟨a,ns,S,A,C,(λt o=>by rw[xH (y w)]at o;cases o),λ_=>rfl⟩) λ_ _ _ _ _ z=>z
end Kx
namespace Kx
open PySem PySem.W L2
noncomputable def KK:Params->Frag:=λP=>
 (nat_lit 2,⟨.none,Œ,(.dict #[] 0),#[]⟩) ::
 (nat_lit 3,⟨(.type "dict"),Œ,(.dict #[dE P "__name__" 165 ((.str "law_cutyard_k29_struck_state" 676)),dE P "__doc__" 166 (.none),dE P "__package__" 167 (.none),dE P "__loader__" 168 ((.builtin "__main__.__loader__#opaque")),dE P "__spec__" 169 (.none),dE P "__annotations__" 170 ((.ref 6)),dE P "__builtins__" 171 ((.ref 4)),dE P "__file__" 173 ((.str "/claim/cut.py" 172)),dE P "__cached__" 174 (.none),dE P "_wall" 193 ((.ref 21)),dE P "YardError" 213 ((.ref 31)),dE P "NoNumber" 229 ((.ref 44)),dE P "common_of_two" 242 ((.ref 53)),dE P "common" 251 ((.ref 60)),dE P "up" 259 ((.ref 67)),dE P "unit" 267 ((.ref 72)),dE P "turned" 273 ((.ref 77)),dE P "evened" 279 ((.ref 82)),dE P "givens" 287 ((.ref 87)),dE P "without" 295 ((.ref 92)),dE P "only_unknown" 301 ((.ref 97)),dE P "first_most_marks" 311 ((.ref 104)),dE P "Ledger" 430 ((.ref 175)),dE P "is_crossed" 439 ((.ref 186)),dE P "greatest_sum" 450 ((.ref 193)),dE P "least_sum" 456 ((.ref 198)),dE P "crossed_unknown" 465 ((.ref 205)),dE P "hopeless_row" 476 ((.ref 212)),dE P "idle_row" 487 ((.ref 219)),dE P "single_row" 493 ((.ref 224)),dE P "uneven_row" 502 ((.ref 231)),dE P "doubled_row" 513 ((.ref 238)),dE P "fixed_unknown" 522 ((.ref 245)),dE P "has_above" 528 ((.ref 250)),dE P "has_below" 534 ((.ref 255)),dE P "sinking_unknown" 545 ((.ref 262)),dE P "rising_unknown" 557 ((.ref 269)),dE P "hanging_unknown" 568 ((.ref 276)),dE P "row_struck" 578 ((.ref 283)),dE P "unknown_struck" 586 ((.ref 290)),dE P "hopeless_shares" 592 ((.ref 295)),dE P "strike" 600 ((.ref 302)),dE P "picked" 606 ((.ref 307)),dE P "slim_plan" 612 ((.ref 312)),dE P "Struck" 675 ((.ref 350)),dE P "_law_whole" 684 ((.ref 361)),dE P "_law_wholes" 690 ((.ref 366)),dE P "_law_pool" 700 ((.ref 373)),dE P "_law_draw" 711 ((.ref 380)),dE P "_law_times" 717 ((.ref 385)),dE P "_law_bounds" 734 ((.ref 392)),dE P "_law_rows" 751 ((.ref 399)),dE P "_law_small" 770 ((.ref 406)),dE P "_law_far" 776 ((.ref 411)),dE P "_law_plan_is" 786 ((.ref 418)),dE P "_law_fields" 792 ((.ref 423)),dE P "_law_reach" 805 ((.ref 430)),dE P "_law_shared" 815 ((.ref 437)),dE P "_law_row_speaks" 821 ((.ref 442)),dE P "_law_unknown_speaks" 827 ((.ref 447)),dE P "_law_rules_speak" 833 ((.ref 452)),dE P "law" 846 ((.ref 459))] 62),#[]⟩) ::
(nat_lit 20,cO "_wall" 187 "_wall" 188 189 1 1 3 15 181 16 (.ref 17) (.ref 18) 19 191 192) ::
 (nat_lit 21,fO CW "_wall" "_wall" "__main__" 164 20) ::
(nat_lit 52,cO "common_of_two" 232 "common_of_two" 233 234 10 2 3 47 181 48 (.ref 49) (.ref 50) 51 240 241) ::
 (nat_lit 53,fO ma "common_of_two" "common_of_two" "cutyard.wholes" 230 52) ::
(nat_lit 59,cO "common" 243 "common" 244 245 18 1 3 54 181 55 (.ref 56) (.ref 57) 58 249 250) ::
 (nat_lit 60,fO nM "common" "common" "cutyard.wholes" 230 59) ::
(nat_lit 66,cO "up" 252 "up" 253 254 23 2 3 61 181 62 (.ref 63) (.ref 64) 65 257 258) ::
 (nat_lit 67,fO mv "up" "up" "cutyard.wholes" 230 66) ::
(nat_lit 71,cO "unit" 262 "unit" 263 264 28 2 3 68 181 69 .none .none 70 265 266) ::
 (nat_lit 72,fO kG "unit" "unit" "cutyard.rows" 260 71) ::
(nat_lit 76,cO "turned" 268 "turned" 269 270 30 1 3 73 181 74 .none .none 75 271 272) ::
 (nat_lit 77,fO kC "turned" "turned" "cutyard.rows" 260 76) ::
(nat_lit 81,cO "evened" 274 "evened" 275 276 32 1 3 78 181 79 .none .none 80 277 278) ::
 (nat_lit 82,fO jX "evened" "evened" "cutyard.rows" 260 81) ::
(nat_lit 86,cO "givens" 282 "givens" 283 284 38 1 3 83 181 84 .none .none 85 285 286) ::
 (nat_lit 87,fO jg "givens" "givens" "cutyard.plans" 280 86) ::
(nat_lit 91,cO "without" 290 "without" 291 292 45 2 3 88 181 89 .none .none 90 293 294) ::
 (nat_lit 92,fO ki "without" "without" "cutyard.ledger" 288 91) ::
(nat_lit 96,cO "only_unknown" 296 "only_unknown" 297 298 47 1 3 93 181 94 .none .none 95 299 300) ::
 (nat_lit 97,fO kO "only_unknown" "only_unknown" "cutyard.ledger" 288 96) ::
(nat_lit 103,cO "first_most_marks" 302 "first_most_marks" 303 304 49 1 3 98 181 99 (.ref 100) (.ref 101) 102 309 310) ::
 (nat_lit 104,fO nv "first_most_marks" "first_most_marks" "cutyard.ledger" 288 103) ::
(nat_lit 117,cO "__init__" 324 "Ledger.__init__" 325 326 61 2 3 112 181 113 (.ref 114) (.ref 115) 116 329 330) ::
 (nat_lit 118,fO nS "__init__" "Ledger.__init__" "cutyard.ledger" 288 117) ::
(nat_lit 124,cO "put_line" 332 "Ledger.put_line" 333 334 75 3 3 119 181 120 (.ref 121) (.ref 122) 123 338 339) ::
 (nat_lit 125,fO nc "put_line" "Ledger.put_line" "cutyard.ledger" 288 124) ::
(nat_lit 131,cO "drop_row" 341 "Ledger.drop_row" 342 343 79 2 3 126 181 127 (.ref 128) (.ref 129) 130 346 347) ::
 (nat_lit 132,fO lj "drop_row" "Ledger.drop_row" "cutyard.ledger" 288 131) ::
(nat_lit 138,cO "turn_to_bound" 349 "Ledger.turn_to_bound" 350 351 83 2 3 133 181 134 (.ref 135) (.ref 136) 137 360 361) ::
 (nat_lit 139,fO mC "turn_to_bound" "Ledger.turn_to_bound" "cutyard.ledger" 288 138) ::
(nat_lit 145,cO "even_row" 363 "Ledger.even_row" 364 365 98 2 3 140 181 141 (.ref 142) (.ref 143) 144 369 370) ::
 (nat_lit 146,fO l8 "even_row" "Ledger.even_row" "cutyard.ledger" 288 145) ::
(nat_lit 152,cO "bound_share" 372 "Ledger.bound_share" 373 374 103 3 3 147 181 148 (.ref 149) (.ref 150) 151 378 379) ::
 (nat_lit 153,fO nN "bound_share" "Ledger.bound_share" "cutyard.ledger" 288 152) ::
(nat_lit 159,cO "fix" 381 "Ledger.fix" 382 383 108 3 3 154 181 155 (.ref 156) (.ref 157) 158 392 393) ::
 (nat_lit 160,fO nT "fix" "Ledger.fix" "cutyard.ledger" 288 159) ::
(nat_lit 164,cO "hang" 395 "Ledger.hang" 396 397 122 2 3 161 181 162 .none .none 163 398 399) ::
 (nat_lit 165,fO jq "hang" "Ledger.hang" "cutyard.ledger" 288 164) ::
(nat_lit 171,cO "let_go" 401 "Ledger.let_go" 402 403 128 4 3 166 181 167 (.ref 168) (.ref 169) 170 408 409) ::
 (nat_lit 172,fO le "let_go" "Ledger.let_go" "cutyard.ledger" 288 171) ::
 (nat_lit 173,⟨(.type "tuple"),Œ,(.seq #[(.str "bounds" 411),(.str "extra" 412),(.str "goal" 413),(.str "goal_shares" 414),(.str "gone" 415),(.str "least_marks" 416),(.str "lines" 417),(.str "most_marks" 418),(.str "row_marks" 419),(.str "rows" 420),(.str "staying" 421),(.str "told" 422)] 0),#[]⟩) ::
 (nat_lit 174,⟨(.type "dict"),Œ,(.dict #[dE P "__module__" 319 ((.str "cutyard.ledger" 288)),dE P "__firstlineno__" 323 ((.int 59 322)),dE P "__init__" 331 ((.ref 118)),dE P "put_line" 340 ((.ref 125)),dE P "drop_row" 348 ((.ref 132)),dE P "turn_to_bound" 362 ((.ref 139)),dE P "even_row" 371 ((.ref 146)),dE P "bound_share" 380 ((.ref 153)),dE P "fix" 394 ((.ref 160)),dE P "hang" 400 ((.ref 165)),dE P "let_go" 410 ((.ref 172)),dE P "__static_attributes__" 423 ((.ref 173)),dE P "__dict__" 425 ((.ref 176)),dE P "__weakref__" 427 ((.ref 177)),dE P "__doc__" 428 (.none)] 4),#[]⟩) ::
 (nat_lit 175,⟨(.type "type"),Œ,(.cls ⟨"Ledger",[(.type "object")],[(.ref 175),(.type "object")],174,"Ledger",Ŕ,[],[],ŕ,Œ,ŕ⟩),#[Œ,Œ,(Z (.str "Ledger" 312)),(Z (.str "Ledger" 320)),(Z (.builtin "object.__new__")),(Z (.bool Ŕ))]⟩) ::
 (nat_lit 176,⟨(.type "getset_descriptor"),Œ,(.fields #[(.str "__dict__" 424),(.ref 175),(.builtin "function.__dict__"),(.builtin "function.__dict__#set")]),#[]⟩) ::
 (nat_lit 177,⟨(.type "getset_descriptor"),Œ,(.fields #[(.str "__weakref__" 426),(.ref 175),(.builtin "ExceptionGroup.__weakref__"),.none]),#[]⟩) ::
(nat_lit 185,cO "is_crossed" 433 "is_crossed" 434 435 132 1 3 180 181 181 (.ref 182) (.ref 183) 184 437 438) ::
 (nat_lit 186,fO mW "is_crossed" "is_crossed" "cutyard.rules" 431 185) ::
(nat_lit 192,cO "greatest_sum" 440 "greatest_sum" 441 442 134 2 3 187 181 188 (.ref 189) (.ref 190) 191 448 449) ::
 (nat_lit 193,fO mM "greatest_sum" "greatest_sum" "cutyard.rules" 431 192) ::
(nat_lit 197,cO "least_sum" 451 "least_sum" 452 453 144 2 3 194 181 195 .none .none 196 454 455) ::
 (nat_lit 198,fO kR "least_sum" "least_sum" "cutyard.rules" 431 197) ::
(nat_lit 204,cO "crossed_unknown" 457 "crossed_unknown" 458 459 147 2 3 199 181 200 (.ref 201) (.ref 202) 203 463 464) ::
 (nat_lit 205,fO lx "crossed_unknown" "crossed_unknown" "cutyard.rules" 431 204) ::
(nat_lit 211,cO "hopeless_row" 466 "hopeless_row" 467 468 152 2 3 206 181 207 (.ref 208) (.ref 209) 210 474 475) ::
 (nat_lit 212,fO mz "hopeless_row" "hopeless_row" "cutyard.rules" 431 211) ::
(nat_lit 218,cO "idle_row" 477 "idle_row" 478 479 158 2 3 213 181 214 (.ref 215) (.ref 216) 217 485 486) ::
 (nat_lit 219,fO mR "idle_row" "idle_row" "cutyard.rules" 431 218) ::
(nat_lit 223,cO "single_row" 488 "single_row" 489 490 164 1 3 220 181 221 .none .none 222 491 492) ::
 (nat_lit 224,fO jT "single_row" "single_row" "cutyard.rules" 431 223) ::
(nat_lit 230,cO "uneven_row" 494 "uneven_row" 495 496 169 1 3 225 181 226 (.ref 227) (.ref 228) 229 500 501) ::
 (nat_lit 231,fO na "uneven_row" "uneven_row" "cutyard.rules" 431 230) ::
(nat_lit 237,cO "doubled_row" 503 "doubled_row" 504 505 174 1 3 232 181 233 (.ref 234) (.ref 235) 236 511 512) ::
 (nat_lit 238,fO nQ "doubled_row" "doubled_row" "cutyard.rules" 431 237) ::
(nat_lit 244,cO "fixed_unknown" 514 "fixed_unknown" 515 516 182 2 3 239 181 240 (.ref 241) (.ref 242) 243 520 521) ::
 (nat_lit 245,fO lq "fixed_unknown" "fixed_unknown" "cutyard.rules" 431 244) ::
(nat_lit 249,cO "has_above" 523 "has_above" 524 525 187 2 3 246 181 247 .none .none 248 526 527) ::
 (nat_lit 250,fO jY "has_above" "has_above" "cutyard.rules" 431 249) ::
(nat_lit 254,cO "has_below" 529 "has_below" 530 531 189 2 3 251 181 252 .none .none 253 532 533) ::
 (nat_lit 255,fO j7 "has_below" "has_below" "cutyard.rules" 431 254) ::
(nat_lit 261,cO "sinking_unknown" 535 "sinking_unknown" 536 537 191 4 3 256 181 257 (.ref 258) (.ref 259) 260 543 544) ::
 (nat_lit 262,fO mQ "sinking_unknown" "sinking_unknown" "cutyard.rules" 431 261) ::
(nat_lit 268,cO "rising_unknown" 546 "rising_unknown" 547 548 196 4 3 263 181 264 (.ref 265) (.ref 266) 267 555 556) ::
 (nat_lit 269,fO mt "rising_unknown" "rising_unknown" "cutyard.rules" 431 268) ::
(nat_lit 275,cO "hanging_unknown" 558 "hanging_unknown" 559 560 202 4 3 270 181 271 (.ref 272) (.ref 273) 274 566 567) ::
 (nat_lit 276,fO k8 "hanging_unknown" "hanging_unknown" "cutyard.rules" 431 275) ::
(nat_lit 282,cO "row_struck" 571 "row_struck" 572 573 208 1 3 277 181 278 (.ref 279) (.ref 280) 281 576 577) ::
 (nat_lit 283,fO lR "row_struck" "row_struck" "cutyard.strikes" 569 282) ::
(nat_lit 289,cO "unknown_struck" 579 "unknown_struck" 580 581 226 1 3 284 181 285 (.ref 286) (.ref 287) 288 584 585) ::
 (nat_lit 290,fO nq "unknown_struck" "unknown_struck" "cutyard.strikes" 569 289) ::
(nat_lit 294,cO "hopeless_shares" 587 "hopeless_shares" 588 589 242 1 3 291 181 292 .none .none 293 590 591) ::
 (nat_lit 295,fO kD "hopeless_shares" "hopeless_shares" "cutyard.strikes" 569 294) ::
(nat_lit 301,cO "strike" 593 "strike" 594 595 252 1 3 296 181 297 (.ref 298) (.ref 299) 300 598 599) ::
 (nat_lit 302,fO lf "strike" "strike" "cutyard.strikes" 569 301) ::
(nat_lit 306,cO "picked" 601 "picked" 602 603 257 2 3 303 181 304 .none .none 305 604 605) ::
 (nat_lit 307,fO jP "picked" "picked" "cutyard.strikes" 569 306) ::
(nat_lit 311,cO "slim_plan" 607 "slim_plan" 608 609 259 1 3 308 181 309 .none .none 310 610 611) ::
 (nat_lit 312,fO kM "slim_plan" "slim_plan" "cutyard.strikes" 569 311) ::
(nat_lit 325,cO "__init__" 625 "Struck.__init__" 626 627 264 2 3 320 181 321 (.ref 322) (.ref 323) 324 633 634) ::
 (nat_lit 326,fO li "__init__" "Struck.__init__" "cutyard.strikes" 569 325) ::
(nat_lit 332,cO "point_back" 636 "Struck.point_back" 637 638 283 2 3 327 181 328 (.ref 329) (.ref 330) 331 641 642) ::
 (nat_lit 333,fO wP "point_back" "Struck.point_back" "cutyard.strikes" 569 332) ::
(nat_lit 339,cO "ray_back" 644 "Struck.ray_back" 645 646 286 2 3 334 181 335 (.ref 336) (.ref 337) 338 649 650) ::
 (nat_lit 340,fO CB "ray_back" "Struck.ray_back" "cutyard.strikes" 569 339) ::
(nat_lit 346,cO "paper_back" 652 "Struck.paper_back" 653 654 289 3 3 341 181 342 (.ref 343) (.ref 344) 345 658 659) ::
 (nat_lit 347,fO wD "paper_back" "Struck.paper_back" "cutyard.strikes" 569 346) ::
 (nat_lit 348,⟨(.type "tuple"),Œ,(.seq #[(.str "breadth" 661),(.str "extra" 662),(.str "kept" 663),(.str "kind" 664),(.str "ledger" 665),(.str "paper" 666),(.str "slim" 667)] 0),#[]⟩) ::
 (nat_lit 349,⟨(.type "dict"),Œ,(.dict #[dE P "__module__" 620 ((.str "cutyard.strikes" 569)),dE P "__firstlineno__" 624 ((.int 262 623)),dE P "__init__" 635 ((.ref 326)),dE P "point_back" 643 ((.ref 333)),dE P "ray_back" 651 ((.ref 340)),dE P "paper_back" 660 ((.ref 347)),dE P "__static_attributes__" 668 ((.ref 348)),dE P "__dict__" 670 ((.ref 351)),dE P "__weakref__" 672 ((.ref 352)),dE P "__doc__" 673 (.none)] 4),#[]⟩) ::
 (nat_lit 350,⟨(.type "type"),Œ,(.cls ⟨"Struck",[(.type "object")],[(.ref 350),(.type "object")],349,"Struck",Ŕ,[],[],ŕ,Œ,ŕ⟩),#[Œ,Œ,(Z (.str "Struck" 613)),(Z (.str "Struck" 621)),(Z (.builtin "object.__new__")),(Z (.bool Ŕ))]⟩) ::
 (nat_lit 351,⟨(.type "getset_descriptor"),Œ,(.fields #[(.str "__dict__" 669),(.ref 350),(.builtin "function.__dict__"),(.builtin "function.__dict__#set")]),#[]⟩) ::
 (nat_lit 352,⟨(.type "getset_descriptor"),Œ,(.fields #[(.str "__weakref__" 671),(.ref 350),(.builtin "ExceptionGroup.__weakref__"),.none]),#[]⟩) ::
(nat_lit 360,cO "_law_whole" 678 "_law_whole" 679 680 292 1 3 355 181 356 (.ref 357) (.ref 358) 359 682 683) ::
 (nat_lit 361,fO ly "_law_whole" "_law_whole" "law_cutyard_k29_struck_state" 676 360) ::
(nat_lit 365,cO "_law_wholes" 685 "_law_wholes" 686 687 294 2 3 362 181 363 .none .none 364 688 689) ::
 (nat_lit 366,fO kT "_law_wholes" "_law_wholes" "law_cutyard_k29_struck_state" 676 365) ::
(nat_lit 372,cO "_law_pool" 691 "_law_pool" 692 693 296 1 3 367 181 368 (.ref 369) (.ref 370) 371 698 699) ::
 (nat_lit 373,fO mP "_law_pool" "_law_pool" "law_cutyard_k29_struck_state" 676 372) ::
(nat_lit 379,cO "_law_draw" 701 "_law_draw" 702 703 304 2 3 374 181 375 (.ref 376) (.ref 377) 378 709 710) ::
 (nat_lit 380,fO lW "_law_draw" "_law_draw" "law_cutyard_k29_struck_state" 676 379) ::
(nat_lit 384,cO "_law_times" 712 "_law_times" 713 714 313 2 3 381 181 382 .none .none 383 715 716) ::
 (nat_lit 385,fO kE "_law_times" "_law_times" "law_cutyard_k29_struck_state" 676 384) ::
(nat_lit 391,cO "_law_bounds" 718 "_law_bounds" 719 720 315 3 3 386 181 387 (.ref 388) (.ref 389) 390 732 733) ::
 (nat_lit 392,fO lg "_law_bounds" "_law_bounds" "law_cutyard_k29_struck_state" 676 391) ::
(nat_lit 398,cO "_law_rows" 735 "_law_rows" 736 737 335 4 3 393 181 394 (.ref 395) (.ref 396) 397 749 750) ::
 (nat_lit 399,fO nH "_law_rows" "_law_rows" "law_cutyard_k29_struck_state" 676 398) ::
(nat_lit 405,cO "_law_small" 752 "_law_small" 753 754 352 4 3 400 181 401 (.ref 402) (.ref 403) 404 768 769) ::
 (nat_lit 406,fO lu "_law_small" "_law_small" "law_cutyard_k29_struck_state" 676 405) ::
(nat_lit 410,cO "_law_far" 771 "_law_far" 772 773 367 3 3 407 181 408 .none .none 409 774 775) ::
 (nat_lit 411,fO iM "_law_far" "_law_far" "law_cutyard_k29_struck_state" 676 410) ::
(nat_lit 417,cO "_law_plan_is" 777 "_law_plan_is" 778 779 383 2 3 412 181 413 (.ref 414) (.ref 415) 416 784 785) ::
 (nat_lit 418,fO lH "_law_plan_is" "_law_plan_is" "law_cutyard_k29_struck_state" 676 417) ::
(nat_lit 422,cO "_law_fields" 787 "_law_fields" 788 789 397 2 3 419 181 420 .none .none 421 790 791) ::
 (nat_lit 423,fO kK "_law_fields" "_law_fields" "law_cutyard_k29_struck_state" 676 422) ::
(nat_lit 429,cO "_law_reach" 793 "_law_reach" 794 795 406 3 3 424 181 425 (.ref 426) (.ref 427) 428 803 804) ::
 (nat_lit 430,fO mH "_law_reach" "_law_reach" "law_cutyard_k29_struck_state" 676 429) ::
(nat_lit 436,cO "_law_shared" 806 "_law_shared" 807 808 415 1 3 431 181 432 (.ref 433) (.ref 434) 435 813 814) ::
 (nat_lit 437,fO nh "_law_shared" "_law_shared" "law_cutyard_k29_struck_state" 676 436) ::
(nat_lit 441,cO "_law_row_speaks" 816 "_law_row_speaks" 817 818 422 3 3 438 181 439 .none .none 440 819 820) ::
 (nat_lit 442,fO jp "_law_row_speaks" "_law_row_speaks" "law_cutyard_k29_struck_state" 676 441) ::
(nat_lit 446,cO "_law_unknown_speaks" 822 "_law_unknown_speaks" 823 824 431 2 3 443 181 444 .none .none 445 825 826) ::
 (nat_lit 447,fO jJ "_law_unknown_speaks" "_law_unknown_speaks" "law_cutyard_k29_struck_state" 676 446) ::
(nat_lit 451,cO "_law_rules_speak" 828 "_law_rules_speak" 829 830 441 1 3 448 181 449 .none .none 450 831 832) ::
 (nat_lit 452,fO jy "_law_rules_speak" "_law_rules_speak" "law_cutyard_k29_struck_state" 676 451) ::
(nat_lit 458,cO "law" 834 "law" 835 836 445 1 3 453 181 454 (.ref 455) (.ref 456) 457 844 845) ::
 (nat_lit 459,fO nG "law" "law" "law_cutyard_k29_struck_state" 676 458)::[]
end Kx
noncomputable def PySem.W.Fast.tw8617892214601609111:=PySem.Challenge.pw_cutyard_k29_struck_state
theorem PySem.W.Fast.te8617892214601609111:PySem.Challenge.pw_cutyard_k29_struck_state=PySem.W.Fast.tw8617892214601609111:=rfl
noncomputable def PySem.W.Fast.tw5385739360559341639:=Kx.KK
theorem PySem.W.Fast.te5385739360559341639:Kx.KK=PySem.W.Fast.tw5385739360559341639:=rfl
structure PySem.W.Fast:Prop where(tw10023186084571781649 tw10081491154728929077 tw10382499448967977793 tw10630828061539245356 tw10675858496341272339 tw10707372564480097692 tw10821932412877573805 tw1086648234250130437 tw11028248895957884380 tw11217802050559478593 tw11249711868586587551 tw1135946677588477152 tw11375421377092169931 tw11453702105505006005 tw1179211966309271344 tw11910011650513224106 tw12154652702727138888 tw12190047560325832412 tw12213337641724410761 tw1235754890425693476 tw12568692850694521610 tw12766886201333268654 tw1277547409183419946 tw12779764108631834396 tw12835854781812723272 tw13131132684155582017 tw13146564344782418974 tw13167251971273947805 tw13257716222803126874 tw13415224159458236476 tw13466585073803449641 tw13567423342761748107 tw1360849116625430747 tw13619415631416835692 tw13676685677594827085 tw13683549523415449349 tw13968938059538625454 tw14080072214052917543 tw14287195814515716700 tw14332270802016183934 tw14521686929774432995 tw14664474198838382158 tw14823457534726678855 tw14834826145166228552 tw14977554145884374727 tw15085687492584628564 tw15127185652171877470 tw15315003824882787965 tw15322547851046828154 tw15480099531385787501 tw15492504333007313949 tw15631387981761351368 tw15722440340808024334 tw15879353322110602964 tw15968503621429955306 tw16082378929023110417 tw16125187302449303449 tw16260576504008909380 tw16427447330067465716 tw16513246408708136142 tw16788545393532180075 tw16829067185914762987 tw17039015887873664639 tw17473590272744276173 tw17547524931853679244 tw17595985688768478929 tw17755693681330769497 tw17832324430338367650 tw17954842556261388526 tw17996229273454303068 tw18104157457427214826 tw18378096485570802346 tw18392346921068874131 tw1954371075016831121 tw1995290533154629230 tw2495097777759760281 tw2681445886200814332 tw2795110382723795172 tw2795202082611652417 tw2855326104191128813 tw2867175322053677350 tw307433878602006517 tw3115441218691840809 tw3148663880543455463 tw3235071368656969608 tw3255913588343580050 tw330443935820724749 tw3335346522770725827 tw3370504961367067774 tw3373116821781079129 tw3377245404829177363 tw3380187037234366955 tw3493525663742346967 tw3689852369002027299 tw368986238415013866 tw3771975311616595791 tw3795492027705173157 tw4090134803947575955 tw4189304903145029842 tw4327126008403359503 tw4446333350429339055 tw4556292243252455872 tw4569306771104845188 tw4574872575393576680 tw468401737384034665 tw482838879195532453 tw5217665760176848097 tw5246307005472796044 tw5710625277305368127 tw5783038978606295567 tw5791335176137824398 tw5864023464869546564 tw5955840575024679589 tw5957556468487475731 tw6167144683550292702 tw6491228464745231795 tw6649553239926776258 tw6840838936744565750 tw6997453434674414511 tw7212547664147049891 tw735773304170006401 tw7367297687010752252 tw7485550315770261778 tw751490583242462113 tw7547864113267926251 tw7623036091840994096 tw7691733671522410534 tw7712798785511637763 tw7733931362772940428 tw7792316822432858847 tw7957088311742393180 tw7988654763308650075 tw8024095322155876348 tw8128836892749370743 tw8274441347361976398 tw8356198592862871661 tw8541214754094249836 tw8550081546106781574 tw8785351797574615472 tw8789481582277345214 tw881452914715247183 tw8977808921638339959 tw9032255402547516930 tw9209743620158996286 tw9261342654439878571 tw9262505434930693590 tw9457021177603857781 tw9735064014380136508 tw9738078479976336784 tw988879935227435212 tw9921395704291516292:True)
end
open PySem PySem.W PyProof.Rows
set_option maxRecDepth 100000 in
set_option maxHeartbeats 0 in
theorem PySem.Challenge.cw_cutyard_k29_struck_state_holds : PySem.Challenge.rw_cutyard_k29_struck_state.Holds := by
 w_on;o_law;o_head (kHook Kx.KK (2::3::20::21::52::53::59::60::66::67::71::72::76::77::81::82::86::87::91::92::96::97::103::104::117::118::124::125::131::132::138::139::145::146::152::153::159::160::164::165::171::172::173::174::175::176::177::185::186::192::193::197::198::204::205::211::212::218::219::223::224::230::231::237::238::244::245::249::250::254::255::261::262::268::269::275::276::282::283::289::290::294::295::301::302::306::307::311::312::325::326::332::333::339::340::346::347::348::349::350::351::352::360::361::365::366::372::373::379::380::384::385::391::392::398::399::405::406::410::411::417::418::422::423::429::430::436::437::441::442::446::447::451::452::458::459::[]) (λ_=>by kernel_rfl));(case hw=>w_witness2)
 k_fill
 refine Kx.walk (l:=PySem.Challenge.rw_cutyard_k29_struck_state) rfl rfl (by decide +kernel) (λw h Y=>kIn_of Y) (λw=>⟨?N1,?N2⟩) ?F
 (case N1=>k_is);(case N2=>k_is)
 case F=>
  intro w mg fa h KX G Py;refine' Kx.all_mk KX G Py ?Mr ?Ms ?_ ?_ ?_ ?_ ?_ ?_ ?_ ?_ ?_ ?_ ?_ ?_ ?_ ?_ ?_ ?_ ?_ ?_ ?_ ?_ ?_ ?_ ?_ ?_ ?_ ?_ ?_ ?_ ?_ ?_ ?_ ?_ ?_ ?_ ?_ ?_ ?_ ?_ ?_ ?_ ?_ ?_ ?_ ?_ ?_ ?_ ?_ ?_ ?_ ?_ ?_ ?_ ?_ ?_ ?_ ?_ ?_ ?_ ?_ ?_ ?_ ?_ ?_ ?_ ?_ ?_ ?_ ?_ ?_ ?_ ?_ ?_ ?_ ?_ ?_ ?_ ?_ ?_ ?_ ?_ ?_ ?_ ?_ ?_ ?_ ?_ ?_ ?_ ?_ ?_ ?_ ?_ ?_ ?_ ?_ ?_ ?_ ?_ ?_ ?_ ?_ ?_ ?_ ?_
  (case Mr=>k_is)
  (case Ms=>k_is)
  all_goals first|(refine' L2.Has.of ?a ?l ?c;(case a=>k_is);(case l=>k_is);(case c=>k_is))|(refine' L2.HasM.of ?a ?i ?l ?c ?k;(case a=>k_is);(case i=>k_is);(case l=>k_is);(case c=>k_is);(case k=>k_is))|k_is|skip

