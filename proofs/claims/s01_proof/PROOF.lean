import PyProof.Rows.All
import Wide.All
import OpenK.AllK
import Wide.FinOn
import PyProof.EqAt
import PyProof.EqKinds
import PyProof.TupleCall
import KE.BitLaws
import Open.SpecLaws
import KE.OsHead
import KE.OsGo
import KE.KSortTupG
import PyWideLaws
import PySem.Challenge.RW_namesread_s01_answers
set_option Elab.async false
set_option linter.all false
set_option maxRecDepth 100000
set_option maxHeartbeats 4000000
open PySem renaming Str->ao,Value->aw,World->bR,Program->cf,Addr->af,Obj->bz,Heap->bC,sizeLine->br,sysModules->jX,tupleKind->wx,Within->SM,mainGlobals->iw,builtinsNs->SR,bootBuiltins->jY,Around->cG,Shared->aF,Env->dj,Scope->gk,GenState->SS,Model->um,storeName->SV,Expr->bF,model->bo,Sem->gQ,Pos->cK,backTo->eP,starEach->bS,Stmt->eT,wpAny_mono->jZ,wpAny_Name->SW,wpAny_loadName_local->aeQ,wpAny_loadName_cell->aeR,CmpOp->rH,compareOp->hW,behindInMarks->CC,wpAny_isTrue_Compare1->aeT,wpAny_truthy_bool->uq,standAt->uv,holding->uw,wpAny_execs_nil->y8,wpAny_execs_cons->SY,swapsWith->nA,assign->CD,assignEach->wz,Operator->CF,inplaceOp->S0,wpAny_assign_Name->aeU,wpAny_Assign_Name->aeV,PassesOwn->G3,wpAny_passesOwn->wA,pyNext->wC,letOwnedTupleGo->G4,pyIter->CG,wpAny_pure->cu,wpAny_bind->bt,rawInt->wD,wpAny_pyIter_list->aeW,foldedSetIterable->G5,binaryOp->wF,intBits_le_64->aeX,sizeLine_eq->b9,getAttr->CI,getMethod->rK,setAttr->G9,wpAny_lookBehind->ae1,pastItsLine_dict->ae2,Result->CJ,attributeBase->rN,plainObj_wpAny_Assign_Attribute->ae6,callWith->uz,backToKw->qg,keywordEach->qi,recursionLimit->ae7,cLine->i7,FuncData->iT,BindsTo->wI,bindArgs->y9,wpAny_call->CK,codeAny_mono->uA,wpAny_Call_Name_kw->uB,Keyword->CL,NameKind->j1,bindL->uC,bindC->uD,leaving->ze,cellsFrom->iy,mem_of_lookup->kn,evalPart_none->afd,typeLookup->wJ,getItem->wK,subscripted->Hg,slot_list_getitem->aff,sliceBounds->wM,call_list_seq->afk,call_meets->Hi,PyData->rR,pushCells->uF,pushCells_keeps->Hl,newFunctionEnv->afo,compEnvC->mw,notedBy->wQ,noteFrame->Tr,wpAny_standAt->Hr,compPost->Ts,comprehension->afp,wpAny_newObj_type->CP,valueAt->wR,atKey->mx,storedH->Ht,tupleKind_room_in1->CQ,call_meetsIn->CS,wpAny_Call_method->Tx,DictEntry->my,wpAny_call_entry->CU,Builtin->rT,wpAny_notOrdered_dict->afv,wpAny_dictEntries->CV,wpAny_dictEpoch->TB,wpAny_attempt->afx,wpAny_callSpecial?_slot->Hw,wpAny_typeNameOfWhole_keyiter->Hx,wpAny_typeNameOf_keyiter->Hy,wpAny_fieldsOf->afA,wpAny_isOneOf_keyiter->afE,setField->TC,wpAny_setField->TF,wpAny_holding->CZ,firstArgMember->afG,wpAny_pyIter_enum->afH,wpAny_pyIter_zip->afI,stack->afM,wp_setField_iff->afN,behindIsImport->afP,underTheClaimsCaller->afQ,keptBack->TM,frameOf->TN,entryPlaceOf->TQ,excClassObj->uH,wpAny_loadPart_at->uI,ExcBaseFacts->HA,StoreFacts->TU,wpAny_typeLookup_exc->C1,codeAny_call_builtin->TV,ExcAttrBase->HB,dictSetDefault->Ug,size_of_entries->Uh,atKey_none_of_get->HQ,storedH_new->Ui,ItemsOf->Dg,codeAny_builtin->agx,callerA->zF,call->agQ,Walks->zH,Reads->xb,ReadsAll->UA
open PySem.Value renaming isInt->aeG,isStrOf->aeH,int->y6,str->GZ,none->uj,bool->wu,bytes->aeL,float->aeM,ref->dC,type->rD,builtin->C2
open Bool renaming true->Y,false->ax,false_ne_true->fe,false_and->ux,eq_iff_iff->j0,or_false->wL,and_eq_true->bL,and_false->Hj,false_eq_true->Tt,or_eq_true->jH,false_or->afq,not_eq_true'->dZ,noConfusion->lA,true_and->uJ,and_comm->af0,and_true->rW,beq_eq_decide_eq->fS,decide_and->zo,and_assoc->T5,not_eq_false'->eG,or_comm->agf,not_and->Uk,or_eq_false_iff->HS,not_or->ago,true_eq_false->sh,not_eq_false->Ux,and_eq_true_iff->agL
open Sum renaming inl->mj,inr->qb
open Sum.inr renaming inj->aeI
open PySem.SeqAt.EqAt renaming int_str->aeJ,str_int->aeK,same->ahB,none_bool->ahC,none_int->ahD,none_str->ahE,bool_none->ahF,bool_bool->ahG,bool_int->ahH,bool_str->ahI,int_none->ahJ,int_bool->ahK,int_int->ahL,str_none->ahM,str_bool->ahN,str_str->ahO
open PySem.Paired renaming length->fj,snoc->uG
open Option renaming some->O,none->ai,isSome_iff_exists->zf,getD_none->afh,map_eq_some_iff->rQ,isSome_some->Tn,map_some->Hs,isSome_map->Hu,none->afK,map->TR,some_ne_none->j5,ne_none_iff_exists'->lD
open Option.some renaming inj->eh,injEq->ahQ
open PySem.W renaming instObj->uk,methodObj->SO,hideAll->G0,hideAll_get->aeN,of_hideAll->aeO,hideAll_none->SQ,Frag->bj,lookIn->G6,plainGet->G7,hasDictIn->S3,findIn->rJ,handedIn->S4,plainGet_of->S5,isFn->G8,plainOver->ae0,takerIn->S6,makesIn->ae3,typeIn->ae4,emptyDict->rL,keepIn->nB,methodCall_KW->Hc,callWith_K->zc,callWith_K0->ae9,cellsFrom_some->afa,fnOf->zg,codeIn->Te,nsOkIn->afS,nsIn->nH,findCls->afV,KdlSrc->Uu,WData->iD,WRecords->agJ,WellAll->uT,length_le_weightAllW->agK,WalkOS->agP,fnOf->uU,codeIn->Ih,keepIn->zG,nsIn->w9,mg_of->Ds,ReadsW->sr,ReadsAllW->UC,OpenSpec->UD
open PySem.Heap renaming lt_size->di,SameBut->uo,get?_push_of_some->fk,get?_push_size->iS,size_push->nE,get?_update_other->Th,get?_update_self->CY,get?_some_iff->afO,FlyingW->zj,get?_update_ne->afU,Ns->UB
open Nat renaming lt_of_lt_of_le->i6,lt_irrefl->qc,ne_of_lt->gj,le_trans->eO,le_of_lt->G1,ne_of_gt->wB,le_refl->bG,zero_le->dD,le_of_eq->Hb,lt_succ_self->wG,le_succ->S9,le_of_succ_le->Hm,lt_succ_of_lt->Hn,lt_trans->afr,le_add_right->zi,lt_of_le_of_lt->afW,zero_add->afX,not_lt_zero->C4,le_of_not_lt->HD,add_zero->af4,succ_le_succ->T6,min_eq_left->zp,min_eq_right->HK,add_sub_cancel->agb,succ_pos->agq,sub_self->Up
open List renaming range->rE,mem_filter->rF,mem_range->Cy,filterMap_cons->G2,mem_cons_self->dY,mem_cons_of_mem->dS,mem_cons->dN,mem_append->lu,mem_append_left->SU,getElem?_eq_some_iff->fC,getElem?_set_self->Cz,getElem?_set_ne->CA,mem_filterMap->S1,mem_append_right->mr,any_eq_false->aeZ,length_cons->bV,lookup->oN,map_cons->cM,length_map->bH,append_nil->gp,nodup_cons->CM,of_mem_zip->Ta,replicate->zd,length->fZ,length_take->gA,getElem?_append_right->Tc,getElem?_replicate->afb,getElem?_append_left->Td,getElem?_map->eU,take_sublist->Hf,mem_of_getElem?->ei,length_append->aV,length_drop->rO,size_toArray->gB,all_cons->rP,any_cons->oO,length_singleton->gR,length_dropLast->CO,map_nil->wN,range_succ_eq_map->afm,all_map->qj,forIn_nil->afn,lookup_cons->wO,length_set->Tp,getElem?_eq_none->Ho,mem_map->iz,all_eq_true->qk,find?_cons->ko,cons_append->rS,length_nil->ly,nodup_nil->Tu,getElem?_cons_succ->TK,contains_cons->afT,set_set->C3,filter_append->wV,map_append->fR,filter_cons->oP,length_filter_le->oQ,take_length->kx,foldl_cons->TX,drop_succ_cons->rV,append_assoc->hX,singleton_append->afY,eq_nil_of_length_eq_zero->afZ,length_pos_iff->wY,isPrefixOf_iff_prefix->TY,nil_append->TZ,pairwise_cons->uL,map_map->iB,map_congr_left->uM,map_id->HH,range_succ->T2,any_eq_true->T3,mem_iff_getElem?->uN,getElem?_eq_getElem->gq,length_eq_zero_iff->mC,mem_singleton->ja,take_of_length_le->rY,drop_eq_nil_of_le->uO,map_drop->af6,map_take->af7,any_nil->T9,getLast?_eq_some_getLast->af9,dropLast_concat_getLast->zq,drop_eq_getElem_cons->zr,ext_getElem?->Ua,getElem?_eq_none_iff->aga,sum_cons->mD,flatMap_cons->qm,getElem?_dropLast->agc,flatMap_append->qo,singleton_sublist->agd,sum_nil->age,map_inj_right->Ub,not_mem_nil->nL,reverse->C7,length_reverse->HM,dropLast_concat->agg,foldl_append->HN,find?_nil->agh,all_nil->agi,mem_map_of_mem->zx,ne_nil_of_mem->agj,nodup_append->Uj,length_range->Dd,getElem_take->agm,take_zero->agn,prefix_iff_eq_take->agp,drop_drop->oT,contains_iff_mem->si,getElem?_drop->Uo,mem_of_find?_eq_some->HX,find?_eq_some_iff_getElem->agr,find?_eq_none->ags,map->zB,getElem_map->Us,getElem_range->agt,getElem_mem->Uv,drop_left->Uw,take_succ_cons->Dn
open PyProof.Rows renaming AllBare->rG,callWith_type1->CH,iadd_int->ahz,envOfC->j2,callWith_builtin1->afc,Subscript_->Tf,subscriptTail->Tg,subscriptTail_builtinR->afe,signs_ofString->ahR,toString_length_le->ahT,arrOf->jL,seqObj->Dj
open Array renaming append_assoc->aeP,length_toList->wy,toList->SX,find?_toList->aeY,getElem?_toList->Hk,getElem?_eq_none->aft,getElem?_eq_some_iff->afC,getElem?_eq_getElem->afD
open Ne renaming symm->qf
open Vbnlab renaming whole->CB,glue->gC,Text->S,great->b7,small->bD,joint->iA,letter->eF,digit->cx,lit->aH,markText->mz,taken->oR,read->mB,when_->dz,CAP->d9,hyphens->HC,dotMark->wW,ended->wX,keepWord->nI,Mode->lB,AUTHORS->zm,shortText->HF,epithetText->jI,authorRest->HG,authorText->uK,before->i8,insert->i9,entryOf->f6,numbersOf->f7,endsIn->ql,firstMark->HI,secondMark->HJ,soundAuthors->T4,listed->uP,Name->bJ,sound->nJ,decimal->C6,entryOf->mE,write->hZ,authorsText->HL,fold->dq,ending->kz,stemOf->C9,GENDERS->Ue,formOf->bY,Epithet->w8,goodEpithet->jb,at?->cJ,genderOk->gT,alike->rZ,State->eI,putEpithet->ia,within->mF,MANY->zy,numbersOf->Dc,leastAlike->uR,Genus->iU,putGenus->gU,STEM->De,suffix->Ul,familyOf->oS,citedAuthors->HU,maybe?->r9,cited->Df,put->Ur,same->HV,near->HW,mended->oU,genusOf->zA,near->oV,mended->nN,known->lC,begins->gr,beginnings->sj,heads->ej,shortened->Ut,meant->agu,once->HY,Paper->gW,namesOf->eQ,whole->lE,lineEnds->ib,feed->dM,before->Dl,index->zC,Call->Dq,step->bZ,formOf->agA,small->agB
open PySem.Calls renaming Name_function_global->aeS,spliced_nil->He,spliced_cons->wH,callWith_builtin->CN,evalArgs_plain->Hh,call_function_entry->agv
open False renaming elim->fY
open PySem.Builtin.Range renaming rangeSize->aha
open PySem.EqNone renaming eq_none_none->ahb,eq_none_bool->ahc,eq_none_int->ahd,eq_none_str->ahe,eq_bool_none->ahf,eq_int_none->ahh,eq_str_none->ahj,ne_none_none->ahm,ne_none_bool->ahn,ne_none_int->aho,ne_none_str->ahp,ne_bool_none->ahq,ne_int_none->ahs,ne_str_none->ahu
open PySem.EqMixed renaming eq_bool_str->ahg,eq_int_str->ahi,eq_str_bool->ahk,eq_str_int->ahl,ne_bool_str->ahr,ne_int_str->aht,ne_str_bool->ahv,ne_str_int->ahw
open ToString renaming toString->S2
open PySem.W.Looks renaming here->ahx
open PySem.Within renaming cons->ahy
open True renaming intro->rM
open PySem.Heap.Ns1 renaming of_empty->ae5
open PySem.Around renaming under->S7,under_plainId->agy
open PySem.Code renaming frames->ae8,isFrame->S8
open PySem.Heap.IsSliceOf renaming new->ahA
open PySem.Str renaming length->afg,ofString->nF
open PySem.SeqAt renaming EqAt->afi,in_listAt->afj,shaped->uE,canLay_of_shaped->Uq
open PySem.Obj renaming mapSeq->afl,mapFields->TH,isFreed_of_fields->TJ,data_mapFields->Hz,cls_mapFields->afF,data_mapDictKeys->agk
open PySem.Builtin.List renaming listTooLong->Ti
open PySem.PyData renaming eqv->Tj,int->uQ,eqvAll->C8,canLayAll0->HP,depthAll->w6,canLay0->Uc,depth->Ud
open PySem.NameKind renaming free->zh,cell->To
open ForInStep renaming yield->Hq
open PySem.F renaming slot_dict_getitem->Hv,slot_dict_get->CT,entry_dict_get->Tv,args_dict_get_3->Tw,plainAttrs_dict->Tz,type_dict_get->afs,slot_dict_iter->afu,slot_dict_keyiterator_next->CW,entry_dict_keyiterator_next->afy,args_dict_keyiterator_next_1->afz,slot_list_count->af8,plainAttrs_list->eL,slot_list_extend->j3,type_list_extend->j4,slot_list_append->jJ,type_list_append->jK,slot_dict_setdefault->agl,excBase_ValueError->Um,slot_dict_len->agw,plain_list_iadd->agz
open PySem.Builtin.Dict renaming dictSlotNone->ahP,showsAll->afw,keyAndDefault->ah1,pendingCount->ah2
open PySem.Builtin.Dict_items renaming ownsTuple->afB
open Int renaming toNat_natCast->ku,mul_nonneg->af1,mul_comm->af2,mul_assoc->af3,add_mul->C5,eq_ofNat_of_zero_le->zu
open PySem.Heap.SameBut renaming update->C0
open Char renaming toNat->afJ
open PySem.W.KIN renaming signs_num->ahS
open Or renaming inl->nG,inr->wU
open PySem.Sem renaming wp_mono->afL
open PySem.EntryCells renaming newEntry->afR
open PySem.Data renaming seq->zk,dict->agN
open Vbnlab.Mode renaming last->HE
open Classical renaming byContradiction->rX,not_not->af5,propDecidable->zD
open List.cons renaming injEq->wZ,inj->agH
open PyProof.Rows.KTD renaming TextTab->ahU,datumAt->T7,Here->ahV,in_text->ahW,isSome_datumAt->ahX,dictGet_text->ahY,meets_get2->ahZ,Rows->Ii
open PyProof.Rows.KTD.Dat renaming flat->T8,At->Ij,flat->Uz
open PySem.Challenge renaming pw_namesread_s01_answers->ah0
open PySem.PassesOwn renaming never->iC
open VbnlabNeutral renaming nameShown->qr,counted->gS,«ints»->fm,shown->r8,lineShown->sk,natural->so,asked1->Ia,callOf->ah3,text->kD,whole32->Uy,nameOf->agC,step->lF,start->agE,asked->agG
open PyProof.Rows.G renaming tupKeyC->Dh,tupKindC->Di
open PyFlat renaming putRows->kC,putRow->HZ,told->agD,played->Ib
open PyWide renaming put->fq,put1->uS
open PyVbnlab renaming calls->agF,answers->Ic,answers_asked->agR
open PySem.W.WData renaming int->agI,weightAll->Ig
open PySem.W.Codec renaming denoteAll->Ie,encAll->zE,withinAll->agO,app->Dr
open PySem.Value.type renaming inj->agM
open PyProof.V.Flat renaming str->ah4
theorem L{a:α}:a=a:=rfl
def hU:=@decide_eq_false_iff_not
def rC:=@beq_eq_false_iff_ne
def d8:=@of_decide_eq_false
def bO:=@decide_eq_true_eq
def df:=@of_decide_eq_true
def cY:=@decide_eq_decide
def gP:=@decide_eq_false
def eN:=@decide_eq_true
def fB:=@beq_iff_eq
def Cw:=@decide_not
def fG:=@congrArg
def jG:=@if_false
def y4:=@or_false
def gz:=@if_true
def ak:=@if_neg
def aA:=@if_pos
def bf{p:Prop}(h:p:=by decide+kernel):p:=h
def aB{p:Prop}(h:p:=by decide):p:=h
def aG{p:Prop}(h:p:=by omega):p:=h
def aT{p:Prop}(h:p:=by simp):p:=h
def aZ{p:Prop}(h:p:=by rfl):p:=h
namespace L2
open PySem PySem.Spec PyProof.Rows
abbrev Key:=Sum Int ao
def uV:Key->aw->Bool
 |.inl k,v=>aeG k v
 |.inr x,v=>aeH x v
def UE(w:bR):Key->Int
 |.inl k=>hashInt k
 |.inr x=>hashStr w x
def oW:∀{k:Key}{v:aw},uV k v=Y->(∃i t,k=mj i/\v=y6 i t)∨(∃x t,k=qb x/\v=GZ x t)
 |.inl i,v,h=>by
  obtain⟨t,e⟩:=aw.isInt_shape (k:=i) (v:=v) h;exact .inl ⟨i,t,L,e⟩
 |.inr x,v,h=>by
  obtain⟨t,e⟩:=aw.isStrOf_shape (x:=x) (v:=v) h;exact .inr ⟨x,t,L,e⟩
def UG(i:Int)(t:Tok):uV (.inl i) (.int i t)=Y:=by simp[uV,aeG]
def UH(x:ao)(t:Tok):uV (.inr x) (.str x t)=Y:=by simp[uV,aeH]
def UI(a b:Int):decide ((mj a:Key)=mj b)=(a==b):=by
 by_cases e:a=b
 ·subst e;simp
 ·have h:¬(mj a:Key)=mj b:=λq=>e<|mj.inj q;rw[gP h];exact(rC.mpr e).symm
def UJ(a b:ao):decide ((qb a:Key)=qb b)=decide (a=b):=by
 by_cases e:a=b
 ·subst e;simp
 ·have h:¬(qb a:Key)=qb b:=λq=>e<|aeI q;rw[gP h,gP e]
def UK(a:Int)(b:ao):decide ((mj a:Key)=qb b)=ax:=gP (λq=>nomatch q)
def UL(a:ao)(b:Int):decide ((qb a:Key)=mj b)=ax:=gP (λq=>nomatch q)
def jr(prog:cf)(w:bR):PySem.KeyKind prog w Key where
 is:=uV
 hash:=UE w
 inj:=λv a b g f=>by
  rcases oW g with⟨i,t,rfl,rfl⟩|⟨x,t,rfl,rfl⟩
  ·rcases oW f with⟨j,u,rfl,e⟩|⟨y,u,rfl,e⟩
   ·injection e with c _;rw[c]
   ·exact nomatch e
  ·rcases oW f with⟨j,u,rfl,e⟩|⟨y,u,rfl,e⟩
   ·exact nomatch e
   ·injection e with c _;rw[c]
 byValue:=λk v h=>by
  rcases oW h with⟨i,t,rfl,rfl⟩|⟨x,t,rfl,rfl⟩<;>rfl
 pyHash:=λd h=>by
  rcases oW d with⟨i,t,rfl,rfl⟩|⟨x,t,rfl,rfl⟩
  ·exact wpAny_pyHash_int h
  ·exact wpAny_pyHash_str h
 eqBool:=λl d h=>by
  rcases oW l with⟨i,t,rfl,rfl⟩|⟨x,t,rfl,rfl⟩
  ·rcases oW d with⟨j,u,rfl,rfl⟩|⟨y,u,rfl,rfl⟩
   ·rw[UI] at h;exact wpAny_eqBool_int h
   ·rw[UK] at h;exact aeJ i t y u _ _ _ _ h
  ·rcases oW d with⟨j,u,rfl,rfl⟩|⟨y,u,rfl,rfl⟩
   ·rw[UL] at h;exact aeK x t j u _ _ _ _ h
   ·rw[UJ] at h;exact wpAny_eqBool_str h
 «strs»:=λk x t v h=>by
  rcases oW h with⟨i,u,rfl,e⟩|⟨y,u,rfl,e⟩
  ·exact nomatch e
  ·injection e with c _
   subst c;cases v<;>rfl
def UM(prog:cf)(w:bR)(i:Int)(t:Tok):(jr prog w).is (.inl i) (.int i t)=Y:=UG i t
def UN(prog:cf)(w:bR)(x:ao)(t:Tok):(jr prog w).is (.inr x) (.str x t)=Y:=UH x t
inductive V where
 |bp|bl(b:Bool)|int(i:Int)|str(x:ao)|js(b:Array UInt8)|flt(b:UInt64)|ref(a:af)|ty(n:String)
 deriving DecidableEq
def RelV:V->aw->Prop
 |.bp,u=>u=uj
 |.bl b,u=>u=wu b
 |.int i,u=>∃t,u=y6 i t
 |.str x,u=>∃t,u=GZ x t
 |.js b,u=>∃t,u=aeL b t
 |.flt b,u=>∃t,u=aeM b t
 |.ref a,u=>u=dC a
 |.ty n,u=>u=rD n
abbrev Vals:List V->List aw->Prop:=Paired RelV
def Vals.length{xs:List V}{us:List aw}(r:Vals xs us):xs.length=us.length:=fj r
def Vals.get:∀{xs:List V}{us:List aw}{i:Nat}{x:V},Vals xs us->xs[i]?=O x->∃u,us[i]?=O u/\RelV x u
 |_,_,_,_,.nil,e=>by simp at e
 |_,_,0,_,.cons r _,e=>by simp at e;subst e;exact⟨_,L,r⟩
 |_,_,i+1,x,.cons _ t,e=>by
  obtain⟨u,a,b⟩:=Vals.get (i:=i) (x:=x) t (by simpa using e);exact⟨u,by simpa using a,b⟩
def Vals.append:∀{xs ys:List V}{us a:List aw},Vals xs us->Vals ys a->Vals (xs++ys) (us++a)
 |_,_,_,_,.nil,s=>s
 |_,_,_,_,.cons r t,s=>.cons r<|Vals.append t s
def Vals.take:∀{xs:List V}{us:List aw}(n:Nat),Vals xs us->Vals (xs.take n) (us.take n)
 |_,_,0,_=>.nil
 |_,_,_+1,.nil=>.nil
 |_,_,n+1,.cons r t=>.cons r<|Vals.take n t
def Vals.drop:∀{xs:List V}{us:List aw}(n:Nat),Vals xs us->Vals (xs.drop n) (us.drop n)
 |_,_,0,r=>r
 |_,_,_+1,.nil=>.nil
 |_,_,n+1,.cons _ t=>Vals.drop n t
def gD:Option V->Option aw->Prop
 |some v,O u=>RelV v u
 |none,ai=>True
 |_,_=>False
def KV{κ:Type}:List (κ×V)->List (κ×aw)->Prop:=Paired λ(p:κ×V)(q:κ×aw)=>p.1=q.1/\RelV p.2 q.2
def kV:Key->V
 |.inl i=>.int i
 |.inr x=>.str x
inductive HO where
 |lst(xs:List V)
 |tup(xs:List V)
 |dK(kvs:List (Key×V))|dT(kvs:List (List Key×V))
 |set(S:Int->Bool)(n:Nat)
 |ins(C dx:af)(fs:List (ao×V))
 |own(x:af)
 |xd(fs:List (ao×V))
 |met(f x:af)
 |zI(lo hi:Int)
 |gE(o:bz)(u:HO)
 |nO(ps:Array aw)
 |ext(φ:bC->Prop)
abbrev Hp:=af->Option HO
def upd(H:Hp)(a:af)(o:HO):Hp:=λb=>if b=a then O o else H b
def ba{H:Hp}{a:af}{o:HO}:upd H a o a=O o:=by unfold upd;rw[aA L]
def aX{H:Hp}{a b:af}{o:HO}(h:b≠a):upd H a o b=H b:=by unfold upd;rw[ak h]
def dO{H:Hp}{a b:af}{o u:HO}(h:H a=O o)(h':H b=O u)(d:o≠u):a≠b:=by
 intro e;subst e;rw[h] at h';exact d<|eh h'
def bA{H:Hp}{a b:af}{o:HO}(h:H a=O o)(h':H b=ai):a≠b:=by
 intro e;subst e;rw[h] at h';cases h'
section
variable(P:cf)(w:bR)
def dP(H:Hp)(h:bC)(a:af):HO->Prop
 |.lst b=>b.length<=br/\∃(d:List aw)(n:Nat),Vals b d/\h.get? a=O {cls:=.type "list",data:=.seq d.toArray n}
 |.tup b=>b.length<=br/\∃d:List aw,Vals b d/\IsTup h a d.toArray
 |.dK e=>e.length<=br/\(a==jX)=ax/\∃j,KV e j/\h.DictOf (jr P w) a j
 |.dT e=>e.length<=br/\(a==jX)=ax/\∃b:List (List Key×af×aw),
   Paired (λ(p:List Key×V)(q:List Key×af×aw)=>p.1=q.1/\H q.2.1=O (.tup<|p.1.map kV)/\RelV p.2 q.2.2) e b/\
   ∃o k r,h.get? a=O o/\o.ExactDict/\o.data= .dict k r/\k.toList=b.map (entryOfKey<|wx<|jr P w)/\(b.map (·.1)).Nodup
 |.set S n=>h.SetOf (intKind P w) a S n
 |.ins C i g=>H i=O (.own a)/\g.length<=1000/\i≠a/\h.get? a=O (uk C i)/\
   ∃c,h.Ns1 i c/\(∀f,gD (g.lookup f)<|c f)/\SM c (g.map (·.1))
 |.own _=>∃o,h.get? a=O o
 |.xd g=>∃c,h.Ns1 a c/\∀f,gD (g.lookup f)<|c f
 |.zI lo s=>∃t u v,h.get? a=O {cls:=.type "range",data:=.fields #[.int lo t,.int s u,.int 1 v]}
 |.gE o u=>h.get? a=O o/\dP H h a u
 |.nO y=>h.get? a=O {cls:=.none,data:=.fields y}
 |.met f x=>h.get? a=O (SO (.ref f)<|.ref x)
 |.ext φ=>φ h/\(∃o,h.get? a=O o)/\∀l m:bC,φ l->(∀o,l.get? a=O o->m.get? a=O o)->φ m
def cQ(H:Hp)(h:bC):Prop:=∀a o,H a=O o->dP P w H h a o
end
section
variable{P:cf}{w:bR}{H H':Hp}{h h':bC}{a:af}{o:HO}
def dP.lt(x:dP P w H h a o):a<h.objs.size:=by
 cases o with
 |lst c=>obtain⟨_,_,_,_,e⟩:=x;exact di e
 |tup c=>obtain⟨_,_,_,p⟩:=x;exact p.lt
 |dK b=>obtain⟨_,_,_,_,o,_,_,e,_⟩:=x;exact di e
 |dT b=>obtain⟨_,_,_,_,o,_,_,e,_⟩:=x;exact di e
 |set S n=>obtain⟨o,_,_,_,e,_⟩:=x;exact di e
 |ins C g d=>obtain⟨_,_,_,e,_⟩:=x;exact di e
 |own y=>obtain⟨_,e⟩:=x;exact di e
 |xd d=>obtain⟨_,⟨_,_,_,e,_⟩,_⟩:=x;exact di e
 |zI lo i=>obtain⟨_,_,_,e⟩:=x;exact di e
 |gE j u=>obtain⟨e,_⟩:=x;exact di e
 |nO k=>exact di (show h.get? a=O _ from x)
 |met f y=>exact di (show h.get? a=O _ from x)
 |ext φ=>obtain⟨_,⟨_,e⟩,_⟩:=x;exact di e
def Paired.fT{α β:Type}{F G:α->β->Prop}:∀{l₁:List α}{l₂:List β},Paired F l₁ l₂->(∀a b,F a b->G a b)->Paired G l₁ l₂
 |_,_,.nil,_=>.nil
 |_,_,.cons r t,f=>.cons (f _ _ r)<|Paired.fT t f
def dP.jc(x:dP P w H h a o)(k:∀b u,(b=a∨H b=O (.own a))->h.get? b=O u->h'.get? b=O u)
  (C:∀b,H b=O (.own a)->H' b=O (.own a))(D:∀b xs,H b=O (.tup xs)->H' b=O (.tup xs)):dP P w H' h' a o:=by
 induction o with
 |lst xs=>obtain⟨z,l,n,r,e⟩:=x;exact⟨z,l,n,r,k _ _ (.inl L) e⟩
 |tup xs=>obtain⟨z,l,r,g,e,c⟩:=x;exact⟨z,l,r,g,k _ _ (.inl L) e,c⟩
 |dK B=>obtain⟨z,y,E,r,g,i,j,e,c⟩:=x;exact⟨z,y,E,r,g,i,j,k _ _ (.inl L) e,c⟩
 |dT B=>
  obtain⟨z,y,xs,r,g,i,j,e,c⟩:=x;exact⟨z,y,xs,Paired.fT r λp q z=>⟨z.1,D _ _ z.2.1,z.2.2⟩,g,i,j,k _ _ (.inl L) e,c⟩
 |set S n=>obtain⟨g,i,j,t,e,c⟩:=x;exact⟨g,i,j,t,k _ _ (.inl L) e,c⟩
 |ins aa T I=>
  obtain⟨d,z,M,e,m,⟨s,i,j,N,c⟩,r⟩:=x;exact⟨C _ d,z,M,k _ _ (.inl L) e,m,⟨s,i,j,k _ _ (.inr d) N,c⟩,r⟩
 |own y=>obtain⟨g,e⟩:=x;exact⟨g,k _ _ (.inl L) e⟩
 |xd I=>obtain⟨m,⟨s,i,j,e,c⟩,r⟩:=x;exact⟨m,⟨s,i,j,k _ _ (.inl L) e,c⟩,r⟩
 |zI lo hi=>obtain⟨t,u,v,e⟩:=x;exact⟨t,u,v,k _ _ (.inl L) e⟩
 |gE g u Q=>obtain⟨e,q⟩:=x;exact⟨k _ _ (.inl L) e,Q q⟩
 |nO A=>
  have e:h.get? a=O {cls:=.none,data:=.fields A}:=x;show h'.get? a=O {cls:=.none,data:=.fields A};exact k a _ (.inl L) e
 |met f y=>
  have e:h.get? a=O (SO (.ref f)<|.ref y):=x;show h'.get? a=O (SO (.ref f)<|.ref y);exact k a _ (.inl L) e
 |ext φ=>obtain⟨p,⟨o,e⟩,st⟩:=x;exact⟨st _ _ p λo q=>k _ _ (.inl L) q,⟨o,k _ _ (.inl L) e⟩,st⟩
def cQ.lt(x:cQ P w H h)(e:H a=O o):a<h.objs.size:=(x a o e).lt
def cQ.fresh(x:cQ P w H h)(e:h.objs.size<=a):H a=ai:=by
 cases q:H a with
 |none=>rfl
 |some u=>exact absurd (i6 (x.lt q) e) (qc _)
def cQ.kept(x:cQ P w H h)(k:∀b u,h.get? b=O u->h'.get? b=O u):cQ P w H h':=λc d e=>
 (x c d e).jc (λb u _ q=>k b u q) (λ_ q=>q) λ_ _ q=>q
def cQ.laid(x:cQ P w H h)(k:∀b u,h.get? b=O u->h'.get? b=O u)(i:h.objs.size<=a)(g:dP P w (upd H a o) h' a o):cQ P w (upd H a o) h':=λb u e=>by
 have d:=x.fresh i;by_cases f:b=a
 ·subst f;rw[ba] at e;cases e;exact g
 ·rw[aX f] at e;exact(x b u e).jc (λc v _ q=>k c v q) (λc q=>by rw[aX (bA q d)];exact q) λc j q=>by rw[aX (bA q d)];exact q
end
def Rd(H:Hp)(a:af)(u:HO):Prop:=H a=O u∨∃o,H a=O (.gE o u)
def Rd.ok{P:cf}{w:bR}{H:Hp}{h:bC}{a:af}{u:HO}(r:Rd H a u)(x:cQ P w H h):dP P w H h a u:=by
 rcases r with r|⟨o,r⟩
 ·exact x a u r
 ·obtain⟨_,q⟩:=x a _ r;exact q
def xf:Option HO->Prop
 |some (.lst _)=>True
 |some (.dK _)=>True
 |some (.dT _)=>True
 |some (.set _ _)=>True
 |some (.ins _ _ _)=>True
 |some (.ext _)=>True
 |_=>False
section
variable{P:cf}{w:bR}{H:Hp}{h h':bC}{x e:af}{o':HO}
def cQ.write(ok:cQ P w H h)(d:xf (H x))(l:e=x∨H e=O (.own x))(k:∀b u,b≠e->h.get? b=O u->h'.get? b=O u)(o:∃u,h'.get? e=O u)
  (p:dP P w (upd H x o') h' x o'):cQ P w (upd H x o') h':=λb u q=>by
 have j:∀c y,H c=O (.own y)->c≠x:=λc y r z=>by subst z;rw[r] at d;exact d
 have n:∀c f,H c=O (.tup f)->c≠x:=λc f r z=>by subst z;rw[r] at d;exact d
 by_cases g:b=x
 ·subst g;rw[ba] at q;cases q;exact p
 ·rw[aX g] at q;by_cases a:b=e
  ·have m:H b=O (.own x):=by
    rcases l with z|z
    ·exact absurd (a.trans z) g
    ·rw[a];exact z
   rw[q] at m;cases m;obtain⟨v,s⟩:=o;exact⟨v,by rw[a];exact s⟩
  ·refine(ok b u q).jc (λc v i r=>k c v ?_ r) (λc r=>by rw[aX (j c b r)];exact r) λc f r=>by rw[aX (n c f r)];exact r
   rcases i with rfl|i
   ·exact a
   ·rintro rfl;rcases l with z|z
    ·exact j c b i z
    ·rw[i] at z;cases z;exact g L
end
structure Un(fs ex:List af)(H H':Hp)(h h':bC):Prop where
 keep:∀b o,h.get? b=O o->H b=ai->b∉fs->b∉ex->h'.get? b=O o
 slot:∀b o,h.get? b=O o->H b=ai->b∈fs->b∉ex->∃sl,h'.get? b=O {o with slots:=sl}
 free:∀b o,h.get? b=O o->H b=ai->b∉ex->H' b=ai
 there:∀b o,h.get? b=O o->b∉ex->∃o',h'.get? b=O o'
 iV:∀b xs,H b=O (.tup xs)->H' b=O (.tup xs)
 iW:∀b o u,H b=O (.gE o u)->H' b=O (.gE o u)
 jd:∀b ps,H b=O (.nO ps)->∃more,H' b=O (.nO<|ps++more)
section
variable{fs fs' ex ex':List af}{H H1 H2:Hp}{h h1 h2 h':bC}{a x e:af}{o:HO}
def Un.any(u:Un fs ex H H1 h h1){b:af}{c:bz}(q:h.get? b=O c)(n:H b=ai)(d:b∉ex):∃g,h1.get? b=O {c with slots:=g}:=by
 by_cases f:b∈fs
 ·exact u.slot b c q n f d
 ·exact⟨c.slots,u.keep b c q n f d⟩
def Un.kept(k:∀b u,h.get? b=O u->h'.get? b=O u):Un fs ex H H h h':=
 ⟨λb c q _ _ _=>k b c q,λb c q _ _ _=>⟨c.slots,k b c q⟩,λ_ _ _ n _=>n,λb c q _=>⟨c,k b c q⟩,λ_ _ q=>q,λ_ _ _ q=>q,λ_ d q=>⟨#[],by rw[q];simp⟩⟩
def Un.refl:Un fs ex H H h h:=Un.kept λ_ _ q=>q
def Un.laid(k:∀b u,h.get? b=O u->h'.get? b=O u)(d:h.objs.size<=a)(c:H a=ai):Un fs ex H (upd H a o) h h' where
 keep:=λb u q _ _ _=>k b u q
 slot:=λb u q _ _ _=>⟨u.slots,k b u q⟩
 free:=λb u q n _=>by rw[aX (gj<|i6 (di q) d)];exact n
 there:=λb u q _=>⟨u,k b u q⟩
 iV:=λb f q=>by rw[aX (bA q c)];exact q
 iW:=λb u f q=>by rw[aX (bA q c)];exact q
 jd:=λb g q=>⟨#[],by rw[aX (bA q c),q];simp⟩
def Un.write(c:xf (H x))(l:e=x∨H e=O (.own x))(k:∀b u,b≠e->h.get? b=O u->h'.get? b=O u)(j:∃u,h'.get? e=O u):Un fs ex H (upd H x o) h h':=by
 have g:∀b,H b=ai->b≠x:=λb n z=>by subst z;rw[n] at c;exact c
 have i:∀b,H b=ai->b≠e:=λb n z=>by
  subst z;rcases l with r|r
  ·exact g b n r
  ·rw[n] at r;cases r
 have d:∀b u,H b=O u->¬xf (O u)->b≠x:=λb u q m z=>by subst z;rw[q] at c;exact m c
 refine⟨λb u q n _ _=>k b u (i b n) q,λb u q n _ _=>⟨u.slots,k b u (i b n) q⟩,λb u q n _=>by rw[aX (g b n)];exact n,λb u q _=>?_,
  λb p q=>by rw[aX (d b _ q λz=>z)];exact q,λb u p q=>by rw[aX (d b _ q λz=>z)];exact q,λb s q=>⟨#[],by rw[aX (d b _ q λz=>z),q];simp⟩⟩
 by_cases f:b=e
 ·subst f;exact j
 ·exact⟨u,k b u f q⟩
end
def j6(h:bC)(H:Hp):List af:=(rE h.objs.size).filter λa=>(H a).isSome
def oX(h:bC)(H:Hp):bC:=G0 h<|j6 h H
def UO(h:bC)(H:Hp):(oX h H).objs.size=h.objs.size:=PySem.W.hideAll_size _ _
def UP{h:bC}{H:Hp}{b:af}{o:bz}(e:h.get? b=O o)(n:H b=ai):(oX h H).get? b=O o:=
 aeN _ e λa=>by
  have q:(H b).isSome=Y:=(rF.mp a).2;rw[n] at q;simp at q
def UQ{h:bC}{H:Hp}{b:af}{o:bz}(e:(oX h H).get? b=O o):h.get? b=O o/\H b=ai:=by
 have a:h.get? b=O o:=aeO (j6 h H) e;refine⟨a,?_⟩;cases q:H b with
 |none=>rfl
 |some x=>
  have c:b∈j6 h H:=rF.mpr ⟨Cy.mpr<|di a,by simp[q]⟩;have z:(oX h H).get? b=ai:=SQ (j6 h H) c;rw[z] at e;cases e
structure Mod(K:bj)(mg:ao->Option aw)(base:bC):Prop where
 oY:K.In base
 glob:base.Ns iw mg
 blt:∃mb,base.Ns SR mb/\∀x:ao,x≠"__name__"->mb x=jY x
 nolimit:base.NoLimit
structure Cx where
 prog:cf
 w:bR
 K:bj
 mg:ao->Option aw
 base:bC
 A:cG
 N:List ao
 eA:aF
 iX:Hp
 env:dj
 outer:List dj
 stack:List dj
 ex:List af
 fn:ao->Bool
 calm:Bool
 pn:List (af×bz)
 xe:aw->aF->Prop
def fH(l:List dj):List af:=l.filterMap (·.frame)
abbrev Cx.fs(X:Cx):List af:=fH X.outer
def su(a:gk)(x:ao):Prop:=a.names.lookup x=O .local ∨a.names.lookup x=O .cell∨a.names.lookup x=O .free
def Loc(a:gk)(x:ao):Prop:=a.names.lookup x=O .local ∨a.names.lookup x=O .cell
def Look(a:dj)(h:bC)(m:ao->Option aw)(x:ao)(u:aw):Prop:=
 (a.kindOf x=O .local /\m x=O u)∨((a.kindOf x=O .cell∨a.kindOf x=O .free)/\∃c,a.cells.lookup x=O c/\h.IsCell c (O u))
structure Cx.Ok(X:Cx):Prop where
 mod:Mod X.K X.mg X.base
 kind:X.env.scope.kind= .function
 glob:X.env.globals=iw
 blt:X.env.builtins=SR
 above:X.eA.heap.objs.size<=X.env.locals
 inj:∀x y c,X.env.cells.lookup x=O c->X.env.cells.lookup y=O c->x=y
 has:∀x,(X.env.kindOf x=O .cell∨X.env.kindOf x=O .free)->∃c,X.env.cells.lookup x=O c
 uW:∀x c,X.fn x=Y->X.env.cells.lookup x=O c->X.eA.heap.objs.size<=c
 hd:X.calm=Y->X.A.handled=ai
 frames:X.A.frames=O X.stack
 fU:X.stack=X.outer∨(X.stack=X.env::X.outer/\X.env.frame=O X.env.locals)
 xg:∀b∈X.ex,b≠X.env.locals/\∀x c,X.env.cells.lookup x=O c->c≠b
 bs:∀b o,X.base.get? b=O o->X.eA.heap.get? b=O o/\X.iX b=ai
 lG:X.base.objs.size<=X.eA.heap.objs.size
 uX:∀b o,X.base.get? b=O o->b∉X.ex
 uY:∀b∈X.ex,b∉X.fs
 jM:X.eA.heap.FunFrames X.base X.outer
 nQ:∀b∈X.fs,X.iX b=ai
structure Inv(X:Cx)(pins:List (af×bz))(U:List (Option V))(H:Hp)(s:aF):Prop where
 ok:X.Ok
 os:s.os=X.eA.os
 bare:rG s.gens
 base:Un X.fs X.ex X.iX H X.eA.heap s.heap
 loc:∃m,s.heap.Ns X.env.locals m/\∀(i:Nat)(x:ao)(v:V),X.N[i]?=O x->U[i]?=O (O v)->su X.env.scope x->∃u,RelV v u/\Look X.env s.heap m x u
 cell:∀x c,X.env.cells.lookup x=O c->∃v,s.heap.IsCell c v
 free:H X.env.locals=ai
 j7:∀x c,X.env.cells.lookup x=O c->H c=ai
 pin:∀p∈X.pn++pins,s.heap.get? p.1=O p.2/\H p.1=ai/\p.1≠X.env.locals/\p.1∉X.fs/\∀v,p.2.data≠ .cell v
 aS:cQ X.prog X.w H s.heap
 len:U.length=X.N.length
section
variable{X:Cx}{pins:List (af×bz)}{U:List (Option V)}{H H':Hp}{s:aF}{h':bC}
def Cx.Ok.Dt(ok:X.Ok){b:af}{o:bz}(e:X.base.get? b=O o):b∉X.fs:=λa=>by
 have:=(ok.jM.mem a).1;rw[e] at this;cases this
def Inv.bs(I:Inv X pins U H s):∀b o,X.base.get? b=O o->s.heap.get? b=O o/\H b=ai:=λb o e=>
 ⟨I.base.keep b o (I.ok.bs b o e).1 (I.ok.bs b o e).2 (I.ok.Dt e)<|I.ok.uX b o e,I.base.free b o (I.ok.bs b o e).1 (I.ok.bs b o e).2<|I.ok.uX b o e⟩
def Inv.bk(I:Inv X pins U H s):∀b o,X.base.get? b=O o->s.heap.get? b=O o:=λb o e=>(I.bs b o e).1
def Inv.mod(I:Inv X pins U H s):Mod X.K X.mg X.base:=I.ok.mod
def Inv.eV(I:Inv X pins U H s):X.K.In s.heap:=I.ok.mod.oY.keeps I.bk
def Inv.fr(I:Inv X pins U H s):∃m,Fr X.base X.env.locals s.heap m:=
 let⟨m,a,_⟩:=I.loc
 ⟨m,a,I.bk,eO I.ok.lG I.ok.above⟩
def Inv.lt(I:Inv X pins U H s):X.env.locals<s.heap.objs.size:=let⟨_,a,_⟩:=I.loc;a.lt
def Inv.sz(I:Inv X pins U H s):X.eA.heap.objs.size<=s.heap.objs.size:=eO I.ok.above<|G1 I.lt
def Inv.UR(I:Inv X pins U H s){a:af}(h:s.heap.objs.size<=a):a∉X.fs:=λb=>by
 obtain⟨_,o,c,_⟩:=I.ok.jM.mem b;exact absurd (i6 (di c)<|eO I.sz h) (qc _)
def Inv.qt(I:Inv X pins U H s):∀x c,X.env.cells.lookup x=O c->c≠X.env.locals:=λx c e z=>by
 obtain⟨v,o,a,b⟩:=I.cell x c e;obtain⟨m,⟨g,h,i,d,f,_⟩,_⟩:=I.loc;rw[z,d] at a;cases a;rw[f] at b;cases b
def Inv.jM(I:Inv X pins U H s):s.heap.FunFrames X.base X.outer:=by
 have all:∀(l:List dj),(∀b∈fH l,b∈X.fs)->X.eA.heap.FunFrames X.base l->s.heap.FunFrames X.base l:=by
  intro l;induction l with
  |nil=>intro _ _;trivial
  |cons q r h=>
   intro g i;obtain⟨j,⟨a,o,c,k,m,n⟩,p⟩:=i;have d:a∈X.fs:=g a (by unfold fH;rw[G2,c];exact dY);obtain⟨t,e⟩:=I.base.slot a o m (I.ok.nQ a d) d λz=>I.ok.uY a z d;exact⟨j,⟨a,_,c,k,e,n⟩,h (λb f=>g b (by unfold fH;rw[G2,c];exact dS _ f)) p⟩
 exact all X.outer (λ_ f=>f) I.ok.jM
def Inv.stack(I:Inv X pins U H s):s.heap.FunFrames X.base X.stack:=by
 rcases I.ok.fU with e|⟨e,a⟩
 ·rw[e];exact I.jM
 ·rw[e];obtain⟨m,b,_⟩:=I.loc;refine .cons (by rw[I.ok.kind];decide) a b ?_ I.jM;exact bC.get?_none_of_le<|eO I.ok.lG I.ok.above
def Inv.Du(I:Inv X pins U H s):∀b∈fH X.stack,b∈X.env.locals::X.fs:=λb a=>by
 rcases I.ok.fU with e|⟨e,c⟩
 ·rw[e] at a;exact dS _ a
 ·rw[e] at a;unfold fH at a;rw[G2,c] at a;exact a
def Inv.Dv(I:Inv X pins U H s):∀b∈fH X.stack,H b=ai:=λb a=>by
 rcases dN.mp (I.Du b a) with e|a
 ·rw[e];exact I.free
 ·obtain⟨_,o,c,_⟩:=I.ok.jM.mem a;exact I.base.free b o c (I.ok.nQ b a) λz=>I.ok.uY b z a
def Inv.step{g':Array SS}{t':Nat}{d':Drawn}{ch:List af}(I:Inv X pins U H s)
  (h:∀b∈ch,(b∈X.ex∨X.eA.heap.objs.size<=b)/\b≠X.env.locals/\(∀x c,X.env.cells.lookup x=O c->c≠b)/\∀p∈X.pn++pins,p.1≠b)
  (keep:∀b o,b≠X.env.locals->b∉X.fs->b∉ch->s.heap.get? b=O o->H b=ai->h'.get? b=O o)
  (slot:∀b o,b≠X.env.locals->b∈X.fs->b∉ch->s.heap.get? b=O o->H b=ai->∃t,h'.get? b=O {o with slots:=t})(q:∀b o,b∉ch->s.heap.get? b=O o->H b=ai->H' b=ai)
  (E:∀b o,b∉ch->s.heap.get? b=O o->∃j,h'.get? b=O j)
  (iV:∀b xs,H b=O (.tup xs)->H' b=O (.tup xs))(iW:∀b o u,H b=O (.gE o u)->H' b=O (.gE o u))(jd:∀b ps,H b=O (.nO ps)->∃M,H' b=O (.nO<|ps++M))
  (Q:∀m,s.heap.Ns X.env.locals m->h'.Ns X.env.locals m)(aS:cQ X.prog X.w H' h')(T:rG g'):
  Inv X pins U H' {s with heap:=h',gens:=g',drawn:=d',toks:=t'}:=by
 have sv:∀b o,X.eA.heap.get? b=O o->b≠X.env.locals:=λb o e=>gj<|i6 (di e) I.ok.above;have r:∀b o,X.eA.heap.get? b=O o->b∉X.ex->b∉ch:=λb o e a f=>by
  rcases(h b f).1 with z|z
  ·exact a z
  ·exact absurd (i6 (di e) z) (qc _)
 have y:∀x c,X.env.cells.lookup x=O c->∀v,s.heap.IsCell c v->h'.IsCell c v:=λx c e v ⟨o,g,w⟩=>by
  have i:c∉ch:=λz=>(h c z).2.2.1 x c e L;by_cases A:c∈X.fs
  ·obtain⟨t,aa⟩:=slot c o (I.qt x c e) A i g<|I.j7 x c e;exact⟨_,aa,w⟩
  ·exact⟨o,keep c o (I.qt x c e) A i g<|I.j7 x c e,w⟩
 refine⟨I.ok,I.os,T,⟨λb o e n f a=>?_,λb o e n f a=>?_,λb o e n a=>?_,λb o e a=>?_,λb xs e=>iV b xs<|I.base.iV b xs e,λb o xs e=>iW b o xs<|I.base.iW b o xs e,λb ps e=>?_⟩,?_,λx c e=>?_,?_,λx c e=>?_,λp B=>?_,aS,I.len⟩
 ·exact keep b o (sv b o e) f (r b o e a) (I.base.keep b o e n f a)<|I.base.free b o e n a
 ·obtain⟨t,d⟩:=I.base.slot b o e n f a;obtain⟨N,k⟩:=slot b _ (sv b o e) f (r b o e a) d (I.base.free b o e n a);exact⟨N,k⟩
 ·obtain⟨j,d⟩:=I.base.there b o e a;exact q b j (r b o e a) d<|I.base.free b o e n a
 ·obtain⟨j,d⟩:=I.base.there b o e a;exact E b j (r b o e a) d
 ·obtain⟨m1,d⟩:=I.base.jd b ps e;obtain⟨m2,k⟩:=jd b _ d;exact⟨m1++m2,by rw[k,aeP]⟩
 ·obtain⟨m,hn,hl⟩:=I.loc;refine⟨m,Q m hn,λab x v d k e3=>?_⟩;obtain⟨u,ae,l⟩:=hl ab x v d k e3;refine⟨u,ae,?_⟩;rcases l with l|⟨ag,c,e,z⟩
  ·exact .inl l
  ·exact .inr ⟨ag,c,e,y x c e _ z⟩
 ·obtain⟨v,z⟩:=I.cell x c e;exact⟨v,y x c e v z⟩
 ·obtain⟨m,⟨o,_,_,g,_⟩,_⟩:=I.loc;exact q _ o (λz=>(h _ z).2.1 L) g I.free
 ·obtain⟨v,o,g,w⟩:=I.cell x c e;exact q c o (λz=>(h c z).2.2.1 x c e L) g<|I.j7 x c e
 ·obtain⟨e,n,C,D,ah⟩:=I.pin p B;have i:p.1∉ch:=λz=>(h p.1 z).2.2.2 p B L;exact⟨keep p.1 p.2 C D i e n,q p.1 p.2 i e n,C,D,ah⟩
def Inv.un{t':Nat}(I:Inv X pins U H s)(u:Un X.fs [] H H' s.heap h')(aS:cQ X.prog X.w H' h'):Inv X pins U H' {s with heap:=h',toks:=t'}:=by
 obtain⟨m,⟨o,j,k,d,r⟩,_⟩:=id I.loc;obtain⟨l,g⟩:=u.any d I.free aT;exact I.step (g':=s.gens) (d':=s.drawn) (ch:=[]) (λ_ z=>nomatch z) (λb o _ a _ e n=>u.keep b o e n a aT) (λb o _ a _ e n=>u.slot b o e n a aT) (λb o _ e n=>u.free b o e n aT) (λb o _ e=>u.there b o e aT) u.iV u.iW u.jd (λp h=>by
  obtain⟨q,f,mG,c,i⟩:=h;rw[d] at c;cases c;exact⟨_,f,mG,g,i⟩) aS I.bare
def Inv.call{g':Array SS}{t':Nat}{d':Drawn}{ch:List af}(I:Inv X pins U H s)(u:Un (fH X.stack) ch H H' s.heap h')(aS:cQ X.prog X.w H' h')(j:rG g')
  (f:∀b∈ch,(b∈X.ex∨X.eA.heap.objs.size<=b)/\b≠X.env.locals/\(∀x c,X.env.cells.lookup x=O c->c≠b)/\∀p∈X.pn++pins,p.1≠b):
  Inv X pins U H' {s with heap:=h',gens:=g',drawn:=d',toks:=t'}:=by
 obtain⟨m,⟨o,t,v,h,r⟩,_⟩:=id I.loc;obtain⟨w,d⟩:=u.any h I.free λz=>(f _ z).2.1 L;exact I.step (ch:=ch) f (λb o d k a e n=>u.keep b o e n (λz=>(dN.mp<|I.Du b z).elim d k) a) (λb o _ _ a e n=>u.any e n a) (λb o a e n=>u.free b o e n a) (λb o a e=>u.there b o e a) u.iV u.iW u.jd (λy l=>by
  obtain⟨A,i,mG,g,q⟩:=l;rw[h] at g;cases g;exact⟨_,i,mG,d,q⟩) aS j
def Inv.turned{t':Nat}{a:af}(I:Inv X pins U H s)(k:∀b o,b≠a->s.heap.get? b=O o->h'.get? b=O o)(h:H a=ai)(g:a≠X.env.locals)
  (i:a∈X.ex∨X.eA.heap.objs.size<=a)(j:∀x c,X.env.cells.lookup x=O c->c≠a)(l:∀p∈X.pn++pins,p.1≠a):Inv X pins U H {s with heap:=h',toks:=t'}:=by
 have f:∀b u,H b=O u->b≠a:=λb u e z=>by rw[z,h] at e;cases e
 refine I.step (g':=s.gens) (d':=s.drawn) (ch:=[a]) (λb t=>?_) (λb o _ _ d e _=>k b o (λz=>d<|by simp[z]) e) (λb o _ _ d e _=>⟨o.slots,k b o (λz=>d<|by simp[z]) e⟩) (λ_ _ _ _ n=>n)
  (λb o d e=>⟨o,k b o (λz=>d<|by simp[z]) e⟩) (λ_ _ e=>e) (λ_ _ _ e=>e) (λb C e=>⟨#[],by rw[e];simp⟩) (λm w=>?_) (λb u e=>?_) I.bare
 ·have e:b=a:=by simpa using t
  subst e;exact⟨i,g,j,l⟩
 ·obtain⟨o,y,A,B,r⟩:=w;exact⟨o,y,A,k _ o (qf g) B,r⟩
 ·refine(I.aS b u e).jc (λc v d q=>k c v ?_ q) (λ_ q=>q) λ_ _ q=>q;rcases d with z|z
  ·rw[z];exact f b u e
  ·exact f c _ z
def Inv.tok(I:Inv X pins U H s)(t:Nat):Inv X pins U H {s with toks:=t}:=I.un (h':=s.heap) (t':=t) Un.refl I.aS
def Inv.kept{t':Nat}(I:Inv X pins U H s)(k:∀b u,s.heap.get? b=O u->h'.get? b=O u):Inv X pins U H {s with heap:=h',toks:=t'}:=I.un (Un.kept k)<|I.aS.kept k
def Inv.laid{a:af}{o:HO}{t':Nat}(I:Inv X pins U H s)(k:∀b u,s.heap.get? b=O u->h'.get? b=O u)(c:s.heap.objs.size<=a)(d:dP X.prog X.w (upd H a o) h' a o):
  Inv X pins U (upd H a o) {s with heap:=h',toks:=t'}:=I.un (Un.laid k c<|I.aS.fresh c)<|I.aS.laid k c d
def Inv.write{x e:af}{o:HO}{t':Nat}(I:Inv X pins U H s)(c:xf (H x))(d:e=x∨H e=O (.own x))(k:∀b u,b≠e->s.heap.get? b=O u->h'.get? b=O u)(a:∃u,h'.get? e=O u)
  (f:dP X.prog X.w (upd H x o) h' x o):Inv X pins U (upd H x o) {s with heap:=h',toks:=t'}:=I.un (Un.write c d k a)<|I.aS.write c d k a f
def Inv.weak{σ':List (Option V)}(I:Inv X pins U H s)(b:σ'.length=U.length)(w:∀(i:Nat) v,σ'[i]?=O (O v)->U[i]?=O (O v)):Inv X pins σ' H s:=
 ⟨I.ok,I.os,I.bare,I.base,let⟨m,c,a⟩:=I.loc;⟨m,c,λi x v d e f=>a i x v d (w i v e) f⟩,I.cell,I.free,I.j7,I.pin,I.aS,b.trans I.len⟩
def Inv.Ik{a:List (af×bz)}(I:Inv X pins U H s)(h:∀p∈a,s.heap.get? p.1=O p.2/\H p.1=ai/\p.1≠X.env.locals/\p.1∉X.fs/\∀v,p.2.data≠ .cell v):Inv X a U H s:=
 ⟨I.ok,I.os,I.bare,I.base,I.loc,I.cell,I.free,I.j7,λp b=>(lu.mp b).elim (λz=>I.pin p<|SU _ z)<|h p,I.aS,I.len⟩
def Dx{N:List ao}(c:N.Nodup){i j:Nat}{x:ao}(a:N[i]?=O x)(b:N[j]?=O x):i=j:=by
 obtain⟨f,d⟩:=fC.mp a;obtain⟨g,e⟩:=fC.mp b;exact(List.getElem_inj c).mp<|d.trans e.symm
def Il{M:um}{A:cG}{E:aw->aF->Prop}{i:Nat}{x:ao}{v:V}{u:aw}{Q:Unit->aF->Prop}(I:Inv X pins U H s)(hN:X.N.Nodup)(D:X.N[i]?=O x)(l:Loc X.env.scope x)(r:RelV v u)
  (h:∀s',Inv X pins (U.set i<|O v) H s'->(∃a,uo a s.heap s'.heap/\(a=X.env.locals∨X.env.cells.lookup x=O a))->Q () s')(hf:X.fn x=Y∨X.env.scope.names.lookup x=O .local :=by first|exact .inl rfl|exact .inr rfl|assumption):wpAny M A (SV X.env x u) Q E s:=by
 obtain⟨aE,hn,hl⟩:=id I.loc;have au:(X.env.scope.kind== .class ||(X.env.scope.kind== .module&&X.env.locals !=X.env.globals))=ax:=by rw[I.ok.kind];rfl
 have hiσ:i<U.length:=by rw[I.len];exact(fC.mp D).1
 have qt:=I.qt;have ae:∀{a:af}{C:bC},(∃o,s.heap.get? a=O o/\H a=ai)->uo a s.heap C->cQ X.prog X.w H C:=λ{a C} ha d b ob e=>by
  obtain⟨_,_,ag⟩:=ha;refine(I.aS b ob e).jc (λc N g q=>(d.2 c ?_).trans q) (λ_ q=>q) λ_ _ q=>q;rintro rfl;rcases g with rfl|g
  ·rw[ag] at e;cases e
  ·rw[ag] at g;cases g
 rcases l with t|t
 ·refine wpAny_storeName_local t hn (λC ay d=>?_) au;obtain⟨oL,_,_,az,_⟩:=id hn;refine h _ ⟨I.ok,I.os,I.bare,⟨λb o e n w l=>?_,λb o e n w l=>?_,I.base.free,λb o e l=>?_,I.base.iV,I.base.iW,I.base.jd⟩,⟨_,ay,λj y v' f m e3=>?_⟩,λy c e=>?_,I.free,I.j7,λp hp=>?_,ae ⟨oL,az,I.free⟩ d,by simpa using I.len⟩ ⟨_,d,.inl L⟩
  ·exact(d.2 b<|gj<|i6 (di e) I.ok.above).trans<|I.base.keep b o e n w l
  ·obtain⟨sl,f⟩:=I.base.slot b o e n w l;exact⟨sl,(d.2 b<|gj<|i6 (di e) I.ok.above).trans f⟩
  ·obtain⟨o',f⟩:=I.base.there b o e l;exact⟨o',(d.2 b<|gj<|i6 (di e) I.ok.above).trans f⟩
  ·by_cases B:j=i
   ·subst B;rw[D] at f;cases f;rw[Cz hiσ] at m;cases m;exact⟨u,r,.inl ⟨t,aT⟩⟩
   ·rw[CA (qf B)] at m;obtain⟨u',r',q⟩:=hl j y v' f m e3;refine⟨u',r',?_⟩;rcases q with⟨k,e⟩|⟨k,c,e,z⟩
    ·refine .inl ⟨k,?_⟩;have:y≠x:=λe=>B<|Dx hN f (e▸D);simp[this,e]
    ·exact .inr ⟨k,c,e,z.sameBut d<|qt y c e⟩
  ·obtain⟨N,z⟩:=I.cell y c e;exact⟨N,z.sameBut d<|qt y c e⟩
  ·obtain⟨e,n,T,nf,aa⟩:=I.pin p hp;exact⟨(d.2 p.1 T).trans e,n,T,nf,aa⟩
 ·have ab:X.fn x=Y:=by
   rcases hf with z|z
   ·exact z
   ·rw[z] at t;cases t
  obtain⟨c,g⟩:=I.ok.has x<|.inl t;obtain⟨N,z⟩:=I.cell x c g;refine wpAny_storeName_cell I.ok.kind t g z<|λC ah d=>?_;obtain⟨oc,aq,av⟩:=id z;refine h {s with heap:=C} ⟨I.ok,I.os,I.bare,⟨λb o e n w l=>?_,λb o e n w l=>?_,I.base.free,λb o e l=>?_,I.base.iV,I.base.iW,I.base.jd⟩,⟨aE,hn.sameBut d<|qf<|qt x c g,λj y v' f m e3=>?_⟩,λy c' e=>?_,I.free,I.j7,λp hp=>?_,ae ⟨oc,aq,I.j7 x c g⟩ d,by simpa using I.len⟩ ⟨c,d,.inr g⟩
  ·exact(d.2 b<|gj<|i6 (di e)<|I.ok.uW x c ab g).trans<|I.base.keep b o e n w l
  ·obtain⟨sl,f⟩:=I.base.slot b o e n w l;exact⟨sl,(d.2 b<|gj<|i6 (di e)<|I.ok.uW x c ab g).trans f⟩
  ·obtain⟨o',f⟩:=I.base.there b o e l;exact⟨o',(d.2 b<|gj<|i6 (di e)<|I.ok.uW x c ab g).trans f⟩
  ·by_cases B:j=i
   ·subst B;rw[D] at f;cases f;rw[Cz hiσ] at m;cases m;exact⟨u,r,.inr ⟨.inl t,c,g,ah⟩⟩
   ·rw[CA (qf B)] at m;obtain⟨u',r',q⟩:=hl j y v' f m e3;refine⟨u',r',?_⟩;rcases q with q|⟨k,c',e,z'⟩
    ·exact .inl q
    ·refine .inr ⟨k,c',e,z'.sameBut d ?_⟩;rintro rfl;exact B<|Dx hN f (I.ok.inj _ _ _ e g▸D)
  ·by_cases ar:c'=c
   ·subst ar;exact⟨_,ah⟩
   ·obtain⟨w2,z2⟩:=I.cell y c' e;exact⟨w2,z2.sameBut d ar⟩
  ·obtain⟨e,n,T,nf,aa⟩:=I.pin p hp;refine⟨(d.2 p.1 ?_).trans e,n,T,nf,aa⟩;intro q;rw[q,aq] at e;have q':oc=p.2:=eh e;exact aa N (by rw[<-q'];exact av)
def xh{M:um}{A:cG}{E:aw->aF->Prop}{i:Nat}{x:ao}{v:V}{u:aw}{Q:Unit->aF->Prop}(I:Inv X pins U H s)(a:X.N.Nodup)(b:X.N[i]?=O x)(c:Loc X.env.scope x)(r:RelV v u)
  (h:∀s',Inv X pins (U.set i<|O v) H s'->Q () s')(d:X.fn x=Y∨X.env.scope.names.lookup x=O .local :=by first|exact .inl rfl|exact .inr rfl|assumption):wpAny M A (SV X.env x u) Q E s:=
 Il I a b c r (λs' e _=>h s' e) d
def Inv.Im{s':aF}{ch:List af}(I:Inv X pins U H s)(d:s'.os=s.os)(u:Un (fH X.stack) ch H H' s.heap s'.heap)(aS:cQ X.prog X.w H' s'.heap)(f:rG s'.gens)
  (a:∀b∈ch,(b∈X.ex∨X.eA.heap.objs.size<=b)/\b≠X.env.locals/\(∀x c,X.env.cells.lookup x=O c->c≠b)/\∀p∈X.pn++pins,p.1≠b):Inv X pins U H' s':=by
 obtain⟨k,g,h,i,j⟩:=s';have e:j=s.os:=d;subst e;exact I.call (g':=g) (t':=i) (d':=h) u aS f a
end
abbrev XK:=aw->Option af->Hp->Prop
abbrev St:=List<|Option V
abbrev VK:=V->Hp->Prop
abbrev TE:=St->Hp->VK->Prop
abbrev TT:=St->Hp->(Bool->Hp->Prop)->Prop
abbrev TA:=St->Hp->(List V->Hp->Prop)->Prop
structure Ends where
 nx:St->Hp->Prop
 rt:VK
 bk:St->Hp->Prop:=λ_ _=>False
 ct:St->Hp->Prop:=λ_ _=>False
abbrev TS:=Ends->St->Hp->Prop
def EP(X:Cx)(pins:List (af×bz))(U:St)(Q:VK)(u:aw)(s':aF):Prop:=∃v a,Inv X pins U a s'/\RelV v u/\Q v a
def TP(X:Cx)(pins:List (af×bz))(U:St)(Q:Bool->Hp->Prop)(b:Bool)(s':aF):Prop:=∃a,Inv X pins U a s'/\Q b a
def AP(X:Cx)(pins:List (af×bz))(U:St)(Q:List V->Hp->Prop)(us:List aw)(s':aF):Prop:=∃a b,Inv X pins U b s'/\Vals a us/\Q a b
def SP(X:Cx)(pins:List (af×bz))(D:Ends)(f:Flow)(s':aF):Prop:=
 match f with
 |.next=>∃σ' a,Inv X pins σ' a s'/\D.nx σ' a
 |.brk=>∃σ' a,Inv X pins σ' a s'/\D.bk σ' a
 |.cont=>∃σ' a,Inv X pins σ' a s'/\D.ct σ' a
 |.ret u=>∃v σ' a,Inv X pins σ' a s'/\RelV v u/\D.rt v a
def PE(X:Cx)(e:bF)(t:TE):Prop:=
 ∀(a:List (af×bz))(s:aF)(U:St)(H:Hp)(Q:VK),Inv X a U H s->t U H Q->wpAny (bo X.prog X.w) X.A (eval e X.env) (EP X a U Q) X.xe s
def PT(X:Cx)(e:bF)(t:TT):Prop:=
 ∀(a:List (af×bz))(s:aF)(U:St)(H:Hp)(Q:Bool->Hp->Prop),Inv X a U H s->t U H Q->wpAny (bo X.prog X.w) X.A (isTrue e X.env (eval e X.env)) (TP X a U Q) X.xe s
def PW(X:Cx)(e:bF)(t:TT):Prop:=
 ∀(CB:gQ aw)(a:List (af×bz))(s:aF)(U:St)(H:Hp)(Q:Bool->Hp->Prop),Inv X a U H s->t U H Q->wpAny (bo X.prog X.w) X.A (isTrue e X.env CB) (TP X a U Q) X.xe s
def PW.pt{X:Cx}{e:bF}{t:TT}(h:PW X e t):PT X e t:=h _
def PA(X:Cx)(es:List bF)(t:TA):Prop:=
 ∀(b:cK)(a:List (af×bz))(s:aF)(U:St)(H:Hp)(Q:List V->Hp->Prop),Inv X a U H s->t U H Q->wpAny (bo X.prog X.w) X.A (spliced<|eP b<|bS es X.env) (AP X a U Q) X.xe s
def PS(X:Cx)(st:eT)(t:TS):Prop:=
 ∀(a:List (af×bz))(s:aF)(U:St)(H:Hp)(D:Ends),Inv X a U H s->t D U H->wpAny (bo X.prog X.w) X.A (exec st X.env) (SP X a D) X.xe s
def gF(X:Cx)(st:List eT)(t:TS):Prop:=
 ∀(a:List (af×bz))(s:aF)(U:St)(H:Hp)(D:Ends),Inv X a U H s->t D U H->wpAny (bo X.prog X.w) X.A (execs st X.env) (SP X a D) X.xe s
def bu{α:Type}{t:gQ α}{Q b:α->aF->Prop}{M:um}{A:cG}{E:aw->aF->Prop}{s:aF}(h:wpAny M A t Q E s)(c:∀a s,Q a s->b a s):wpAny M A t b E s:=jZ h c λ_ _ x=>x
section
variable{X:Cx}
def bin{a b:bF}{g i:TE}(j:PE X a g)(k:PE X b i){pins:List (af×bz)}{s:aF}{U:St}{H:Hp}{R:V->V->Hp->Prop}(I:Inv X pins U H s)(h:g U H λx e=>i U e λy c=>R x y c)
  {α:Type}{Q:α->aF->Prop}{f:aw->aw->gQ α}
  (l:∀v u d x y c,Inv X pins U c d->RelV x v->RelV y u->R x y c->wpAny (bo X.prog X.w) X.A (f v u) Q X.xe d):
  wpAny (bo X.prog X.w) X.A (eval a X.env) (λv s₁=>wpAny (bo X.prog X.w) X.A (eval b X.env) (λu s₂=>wpAny (bo X.prog X.w) X.A (f v u) Q X.xe s₂) X.xe s₁) X.xe s:=by
 refine bu (j pins s U H _ I h) λv m ⟨x,e,n,o,p⟩=>?_;refine bu (k pins m U e _ n p) λu d ⟨y,c,q,r,t⟩=>?_;exact l v u d x y c q o r t
def dQ(i:Nat):TE:=λU H Q=>∃v,U[i]?=O (O v)/\Q v H
def tC(v:V):TE:=λ_ H Q=>Q v H
def Io{i:Nat}{x:ao}{j:cK}(n:X.N[i]?=O x)(o:su X.env.scope x)(b:(x==("__debug__":ao))=ax:=by decide)(k:(x==("__classdict__":ao))=ax:=by decide):PE X (.Name x j) (dQ i):=by
 intro g s U H Q I h;obtain⟨v,e,h⟩:=h;obtain⟨m,p,q⟩:=I.loc;obtain⟨u,r,l⟩:=q i x v n e o;have fin:EP X g U Q u s:=⟨v,H,I,r,h⟩;rcases l with⟨a,t⟩|⟨a,c,f,d⟩
 ·exact SW (aeQ I.ok.kind a p t fin) b
 ·rcases a with a|a
  ·exact SW (aeR I.ok.kind a f d fin) b
  ·exact SW (wpAny_loadName_free I.ok.kind a f d fin k) b
def aI{i j a}:PE X (.Constant (.int i) j a) (tC<|.int i):=λ_ _ _ H _ I h=>wpAny_Constant_int ⟨.int i,H,I.tok _,⟨_,L⟩,h⟩
def jN{b j a}:PE X (.Constant (.bool b) j a) (tC<|.bl b):=λ_ _ _ H _ I h=>Constant_bool ⟨.bl b,H,I,L,h⟩
def qu{j a}:PE X (.Constant .none j a) (tC .bp):=λ_ _ _ H _ I h=>Constant_none ⟨.bp,H,I,L,h⟩
def fD{x j a}:PE X (.Constant (.str x) j a) (tC<|.str x):=λ_ _ _ H _ I h=>Calls.Constant_str ⟨.str x,H,I.tok _,⟨_,L⟩,h⟩
def Gl(X:Cx)(x:ao):Prop:=X.env.kindOf x=O .globalImplicit
def sx{E:aw->aF->Prop}{pins:List (af×bz)}{s:aF}{U:St}{H:Hp}{x:ao}{u:aw}{a:cK}{Q:aw->aF->Prop}(I:Inv X pins U H s)(b:Gl X x)(c:X.mg x=O u)(h:Q u s)
  (d:(x==("__debug__":ao))=ax:=by decide):wpAny (bo X.prog X.w) X.A (eval (.Name x a) X.env) Q E s:=
 aeS I.ok.kind b (Calls.loadGlobal_global (by rw[I.ok.glob];exact I.mod.glob.keeps I.bk) c h) d
def sy{E:aw->aF->Prop}{pins:List (af×bz)}{s:aF}{U:St}{H:Hp}{x:ao}{u:aw}{a:cK}{Q:aw->aF->Prop}(I:Inv X pins U H s)(b:Gl X x)(c:X.mg x=ai)(d:jY x=O u)(h:Q u s)
  (e:x≠"__name__":=by decide)(f:(x==("__debug__":ao))=ax:=by decide):wpAny (bo X.prog X.w) X.A (eval (.Name x a) X.env) Q E s:=by
 obtain⟨j,g,i⟩:=I.mod.blt;exact aeS I.ok.kind b (Calls.loadGlobal_builtin (by rw[I.ok.glob];exact I.mod.glob.keeps I.bk) c (by rw[I.ok.blt];exact g.keeps I.bk) ((i x e).trans d) h) f
def uZ{x:ao}{v:V}{u:aw}{a:cK}(b:Gl X x)(c:X.mg x=O u)(r:RelV v u)(d:(x==("__debug__":ao))=ax:=by decide):PE X (.Name x a) (tC v):=
 λ_ _ _ H _ I h=>sx I b c ⟨v,H,I,r,h⟩ d
variable{a b:bF}{ta tb:TE}{pos:cK}
def PC(X:Cx)(d:rH)(a b:bF)(t:TE):Prop:=
 ∀(c:List (af×bz))(s:aF)(U:St)(H:Hp)(Q:VK),Inv X c U H s->t U H Q->
  wpAny (bo X.prog X.w) X.A (eval a X.env) (λv s₁=>wpAny (bo X.prog X.w) X.A (eval b X.env) (λu s₂=>wpAny (bo X.prog X.w) X.A (hW d v u) (EP X c U Q) X.xe s₂) X.xe s₁) X.xe s
def tB(t:TE):TT:=λU H Q=>t U H λx d=>∃c,x= .bl c/\Q c d
def Ip{e:rH}{t:TE}(h:PC X e a b t)(f:CC e b=ax:=by first|exact nobehind _ aB aB|rfl):PT X (.Compare a [e] [b] pos) (tB t):=by
 intro g s U H Q I i;refine aeT (bu (h g s U H _ I i) λv o f=>bu f λu p j=>bu j λc r ⟨x,k,l,m,n⟩=>?_) f;obtain⟨d,rfl,q⟩:=n;cases m;exact uq ⟨k,l,q⟩
def cN{e:bF}{t:TE}(h:PE X e t)(f:∀CB,isTrue e X.env CB=(do let v<-CB;uv e.pos;uw [v] (truthy v)):=by intro _;rfl):PT X e (tB t):=by
 intro c s U H Q I g;refine isTrue_plain (bu (h c s U H _ I g) λv m ⟨x,i,j,k,l⟩=>?_)<|f _;obtain⟨d,rfl,q⟩:=l;cases k;exact uq ⟨i,j,q⟩
variable{tA tB':TT}{rest:List bF}
def Iq(t u:TT):TT:=λU H Q=>t U H λc d=>if c=Y then u U d Q else Q ax d
def Ir(t u:TT):TT:=λU H Q=>t U H λc d=>if c=Y then Q Y d else u U d Q
def Iu(t:TT):TT:=λU H Q=>t U H λc d=>Q (!c) d
def iE(f:PT X a tA):PW X (.BoolOp .And [a] pos) tA:=by
 intro g d s U H Q I h;refine isTrue_and<|bu (f d s U H Q I h) λc i e=>?_;cases c with
 |true=>exact isTrue_and_nil e
 |false=>exact e
def oZ(f:PT X a tA):PW X (.BoolOp .Or [a] pos) tA:=by
 intro g d s U H Q I h;refine isTrue_or<|bu (f d s U H Q I h) λc i e=>?_;cases c with
 |false=>exact isTrue_or_nil e
 |true=>exact e
def iF(i:PT X a tA)(j:PW X (.BoolOp .And (b::rest) pos) tB'):PW X (.BoolOp .And (a::b::rest) pos) (Iq tA tB'):=by
 intro k d s U H Q I h;refine isTrue_and<|bu (i d s U H _ I h) λc l ⟨e,f,g⟩=>?_;cases c with
 |true=>exact j k d l U e Q f g
 |false=>exact⟨e,f,g⟩
def nR(i:PT X a tA)(j:PW X (.BoolOp .Or (b::rest) pos) tB'):PW X (.BoolOp .Or (a::b::rest) pos) (Ir tA tB'):=by
 intro k d s U H Q I h;refine isTrue_or<|bu (i d s U H _ I h) λc l ⟨e,f,g⟩=>?_;cases c with
 |true=>exact⟨e,f,g⟩
 |false=>exact j k d l U e Q f g
def eJ(e:PT X a tA):PT X (.UnaryOp .Not a pos) (Iu tA):=by
 intro d s U H Q I h;exact isTrue_not<|e d s U H (λc f=>Q (!c) f) I h
def Iv(e f:TE):TE:=λU H Q=>e U H λx d=>∃c,x= .bl c/\if c=Y then f U d Q else Q (.bl ax) d
def Iw(e f:TE):TE:=λU H Q=>e U H λx d=>∃c,x= .bl c/\if c=Y then Q (.bl Y) d else f U d Q
def Iy(d:TE):TE:=λU H Q=>d U H λx e=>∃c,x= .bl c/\Q (.bl<|!c) e
def ic{d}{t:TE}(h:PE X a t):PE X (.BoolOp d [a] pos) t:=λc s U H Q I e=>BoolOp_one<|h c s U H Q I e
def ie(i:PE X a ta)(j:PE X (.BoolOp .And (b::rest) pos) tb):PE X (.BoolOp .And (a::b::rest) pos) (Iv ta tb):=by
 intro e s U H Q I h;refine BoolOp_and<|bu (i e s U H _ I h) λv k ⟨x,f,g,l,d⟩=>?_;obtain⟨c,rfl,d⟩:=d;cases l;refine uq ?_;cases c with
 |true=>exact j e k U f Q g d
 |false=>exact⟨.bl ax,f,g,L,d⟩
def xi(i:PE X a ta)(j:PE X (.BoolOp .Or (b::rest) pos) tb):PE X (.BoolOp .Or (a::b::rest) pos) (Iw ta tb):=by
 intro e s U H Q I h;refine BoolOp_or<|bu (i e s U H _ I h) λv k ⟨x,f,g,l,d⟩=>?_;obtain⟨c,rfl,d⟩:=d;cases l;refine uq ?_;cases c with
 |false=>exact j e k U f Q g d
 |true=>exact⟨.bl Y,f,g,L,d⟩
def US(f:PE X a ta):PE X (.UnaryOp .Not a pos) (Iy ta):=by
 intro e s U H Q I h;refine UnaryOp_<|bu (f e s U H _ I h) λv k ⟨x,g,i,j,d⟩=>?_;obtain⟨c,rfl,d⟩:=d;cases j;exact not_of<|uq ⟨.bl<|!c,g,i,L,d⟩
end
def aM(K:bj)(H:Hp)(a:af)(xs:List V):Prop:=
 Rd H a (.lst xs)∨
  ∃(o:bz)(b:Array aw)(n:Nat),K.lookup a=O o/\o.cls= .type "list"/\o.dict=ai/\o.data= .seq b n/\b.size<=br/\Vals xs b.toList
def cO(K:bj)(H:Hp)(a:af)(xs:List V):Prop:=
 Rd H a (.tup xs)∨
  ∃(o:bz)(b:Array aw)(n:Nat),K.lookup a=O o/\o.cls= .type "tuple"/\o.data= .seq b n/\b.size<=br/\Vals xs b.toList
def UT:aw->Option V
 |.none=>O .bp
 |.bool b=>O<|.bl b
 |.int i _=>O<|.int i
 |.str x _=>O<|.str x
 |.bytes b _=>O<|.js b
 |.float b _=>O<|.flt b
 |.ref a=>O<|.ref a
 |.type n=>O<|.ty n
 |_=>ai
def RelV.abs{x:V}{u:aw}(r:RelV x u):UT u=O x:=by
 cases x with
 |bp=>cases r;rfl
 |bl _=>cases r;rfl
 |int _=>obtain⟨t,rfl⟩:=r;rfl
 |str _=>obtain⟨t,rfl⟩:=r;rfl
 |js _=>obtain⟨t,rfl⟩:=r;rfl
 |flt _=>obtain⟨t,rfl⟩:=r;rfl
 |ref _=>cases r;rfl
 |ty _=>cases r;rfl
def RelV.inj{x y:V}{u:aw}(r:RelV x u)(q:RelV y u):x=y:=eh<|r.abs.symm.trans q.abs
def Vals.inj:∀{xs ys:List V}{us:List aw},Vals xs us->Vals ys us->xs=ys
 |_,_,_,.nil,.nil=>rfl
 |_,_,_,.cons r t,.cons a b=>by rw[r.inj a,Vals.inj t b]
section
variable{X:Cx}{pins:List (af×bz)}{U:St}{H:Hp}{s:aF}{a:af}{xs ys:List V}
def aM.of{K:bj}(h:H a=O (.lst xs)):aM K H a xs:=.inl<|.inl h
def cO.of{K:bj}(h:H a=O (.tup xs)):cO K H a xs:=.inl<|.inl h
def Inv.list(I:Inv X pins U H s)(h:aM X.K H a xs):∃b:List aw,Vals xs b/\PlainL s.heap a b.toArray/\xs.length<=br:=by
 rcases h with h|⟨o,b,n,c,d,f,g,i,r⟩
 ·obtain⟨z,b,n,r,e⟩:=h.ok I.aS;exact⟨b,r,⟨_,n,e,L,L,L⟩,z⟩
 ·refine⟨b.toList,r,⟨o,n,I.eV a o c,d,f,by simpa using g⟩,?_⟩;have e:=r.length;simp only[wy] at e;omega
def Inv.tuple(I:Inv X pins U H s)(h:cO X.K H a xs):∃b:List aw,Vals xs b/\IsTup s.heap a b.toArray/\xs.length<=br:=by
 rcases h with h|⟨o,b,n,c,d,f,g,r⟩
 ·obtain⟨z,b,r,p⟩:=h.ok I.aS;exact⟨b,r,p,z⟩
 ·refine⟨b.toList,r,⟨o,I.eV a o c,d,n,by simpa using f⟩,?_⟩;have e:=r.length;simp only[wy] at e;omega
def Inv.zJ(I:Inv X pins U H s)(h:aM X.K H a xs)(h':aM X.K H a ys):xs=ys:=by
 obtain⟨g,r,⟨o,n,e,_,_,d⟩,_⟩:=I.list h;obtain⟨f,i,⟨k,l,b,_,_,c⟩,_⟩:=I.list h';rw[e] at b;cases b;rw[d] at c;injection c with j _
 have:g=f:=by simpa using fG SX j
 subst this;exact r.inj i
def Inv.UU(I:Inv X pins U H s)(h:cO X.K H a xs)(h':cO X.K H a ys):xs=ys:=by
 obtain⟨g,r,⟨o,e,_,n,d⟩,_⟩:=I.tuple h;obtain⟨f,i,⟨k,b,_,l,c⟩,_⟩:=I.tuple h';rw[e] at b;cases b;rw[d] at c;injection c with j _
 have:g=f:=by simpa using fG SX j
 subst this;exact r.inj i
end
abbrev Cx.mH(X:Cx)(E:aw->aF->Prop):Cx:={X with xe:=E}
abbrev Cx.o7(X:Cx):Cx:=X.mH λ_ _=>False
def Cx.Ok.mH{X:Cx}(ok:X.Ok)(E:aw->aF->Prop):(X.mH E).Ok:=
 ⟨ok.mod,ok.kind,ok.glob,ok.blt,ok.above,ok.inj,ok.has,ok.uW,ok.hd,ok.frames,ok.fU,ok.xg,ok.bs,ok.lG,ok.uX,ok.uY,ok.jM,ok.nQ⟩
def Cx.Ok.nS{X:Cx}{E:aw->aF->Prop}(ok:(X.mH E).Ok):X.Ok:=
 ⟨ok.mod,ok.kind,ok.glob,ok.blt,ok.above,ok.inj,ok.has,ok.uW,ok.hd,ok.frames,ok.fU,ok.xg,ok.bs,ok.lG,ok.uX,ok.uY,ok.jM,ok.nQ⟩
section
variable{X:Cx}{pins:List (af×bz)}{U:St}{H:Hp}{s:aF}{E:aw->aF->Prop}
def Inv.mH(I:Inv X pins U H s)(E:aw->aF->Prop):Inv (X.mH E) pins U H s:=⟨I.ok.mH E,I.os,I.bare,I.base,I.loc,I.cell,I.free,I.j7,I.pin,I.aS,I.len⟩
def Inv.nS(I:Inv (X.mH E) pins U H s):Inv X pins U H s:=⟨I.ok.nS,I.os,I.bare,I.base,I.loc,I.cell,I.free,I.j7,I.pin,I.aS,I.len⟩
def SP.nS{D:Ends}{f:Flow}{s':aF}(h:SP (X.mH E) pins D f s'):SP X pins D f s':=by
 cases f with
 |next=>obtain⟨σ',a,I,q⟩:=h;exact⟨σ',a,I.nS,q⟩
 |brk=>obtain⟨σ',a,I,q⟩:=h;exact⟨σ',a,I.nS,q⟩
 |cont=>obtain⟨σ',a,I,q⟩:=h;exact⟨σ',a,I.nS,q⟩
 |ret u=>obtain⟨v,σ',a,I,r,q⟩:=h;exact⟨v,σ',a,I.nS,r,q⟩
def gF.o7{st:List eT}{t:TS}(h:gF X.o7 st t):gF X st t:=λa c U d D I b=>
 jZ (h a c U d D (I.mH _) b) (λ_ _ q=>q.nS) λ_ _ z=>fY z
end
section
variable{X:Cx}{st:eT}{rest:List eT}{t u:TS}{e:bF}{te:TE}{pos:cK}
def u0:TS:=λD U H=>D.nx U H
def cF(t u:TS):TS:=λD U H=>t {D with nx:=u D} U H
def bB:gF X [] u0:=λ_ _ U H _ I h=>y8 ⟨U,H,I,h⟩
def aD(b:PS X st t)(c:gF X rest u):gF X (st::rest) (cF t u):=by
 intro a s U H D I h;refine SY<|bu (b a s U H {D with nx:=u D} I h) λf d q=>?_;cases f with
 |next=>
  obtain⟨σ',g,i,q⟩:=q;exact c a d σ' g D i q
 |ret v=>exact q
 |brk=>exact q
 |cont=>exact q
def aC(b:PS X st t):gF X [st] t:=by
 intro a s U H D I h;refine SY<|bu (b a s U H D I h) λf c q=>?_;cases f with
 |next=>exact y8 q
 |ret v=>exact q
 |brk=>exact q
 |cont=>exact q
def Inv.quiet{pins:List (af×bz)}{U:St}{H:Hp}{s:aF}(I:Inv X pins U H s):interactive X.env=ax:=by simp[interactive,I.ok.kind]
def gu(a:TE):TS:=λD U H=>a U H λ_ b=>D.nx U b
def bW(b:PE X e te)(hs:nA e ai pos.line X.env=pure ax:=by rfl):PS X (.Expr e pos) (gu te):=by
 intro a s U H D I h;exact wpAny_Expr_any (bu (b a s U H _ I h) λv g ⟨x,c,d,i,f⟩=>⟨U,c,d,f⟩) I.quiet hs
def o8(a:TE):TS:=λD U H=>a U H D.rt
def aK(b:PE X e te):PS X (.Return (O e) pos) (o8 te):=by
 intro a s U H D I h;exact wpAny_Return_some<|bu (b a s U H _ I h) λv i ⟨x,c,d,f,g⟩=>⟨x,U,c,d,f,g⟩
def UW:TS:=λD _ H=>D.rt .bp H
def Dy:PS X (.Return ai pos) UW:=λ_ _ U H _ I h=>wpAny_Return_none ⟨.bp,U,H,I,L,h⟩
def sA(c:TT)(t u:TS):TS:=λD U H=>c U H λb a=>if b=Y then t D U a else u D U a
def bw{c:bF}{a b:List eT}{g:TT}(m:PT X c g)(n:gF X a t)(o:gF X b u):PS X (.If c a b pos) (sA g t u):=by
 intro f s U H D I h;refine wpAny_If<|bu (m f s U H _ I h) λd i ⟨j,k,l⟩=>?_;cases d with
 |true=>exact n f i U j D k l
 |false=>exact o f i U j D k l
end
abbrev TG:=V->St->Hp->(St->Hp->Prop)->Prop
abbrev sC:=List V->St->Hp->(St->Hp->Prop)->Prop
def PG(X:Cx)(c:bF)(t:TG):Prop:=
 ∀(a:List (af×bz))(s:aF)(U:St)(H:Hp)(v:V)(u:aw)(Q:St->Hp->Prop),Inv X a U H s->RelV v u->t v U H Q->
  wpAny (bo X.prog X.w) X.A (CD c X.env u) (λ_ d=>∃σ' b,Inv X a σ' b d/\Q σ' b) X.xe s
def xj(X:Cx)(e:List bF)(t:sC):Prop:=
 ∀(a:List (af×bz))(s:aF)(U:St)(H:Hp)(b:List V)(c:List aw)(Q:St->Hp->Prop),Inv X a U H s->Vals b c->t b U H Q->
  wpAny (bo X.prog X.w) X.A (assignInOrder ((wz e X.env).map (·.2)) c) (λ_ f=>∃σ' d,Inv X a σ' d f/\Q σ' d) X.xe s
abbrev zK:=V->V->Hp->VK->Prop
def Iz(X:Cx)(b:CF)(t:zK):Prop:=
 ∀(a:List (af×bz))(s:aF)(U:St)(H:Hp)(x y:V)(v u:aw)(Q:VK),Inv X a U H s->RelV x v->RelV y u->t x y H Q->
  wpAny (bo X.prog X.w) X.A (S0 b v u) (EP X a U Q) X.xe s
section
variable{X:Cx}{pos:cK}
def fV(i:Nat):TG:=λv U H Q=>Q (U.set i<|O v) H
def UX{i:Nat}{x:ao}(a:X.N.Nodup)(b:X.N[i]?=O x)(c:Loc X.env.scope x)(d:X.fn x=Y∨X.env.scope.names.lookup x=O .local :=by first|exact .inl rfl|exact .inr rfl|assumption):PG X (.Name x pos) (fV i):=by
 intro f s U H v u Q I r h;exact aeU<|xh I a b c r (λg e=>⟨_,H,e,h⟩) d
def IA:sC:=λa U H Q=>a=[]/\Q U H
def Dz(t:TG)(u:sC):sC:=λa U H Q=>∃v r,a=v::r/\t v U H λσ' b=>u r σ' b Q
def u1:xj X [] IA:=by
 intro a s U H b c Q I r h;obtain⟨e,h⟩:=h;subst e;cases r;exact assignInOrder_nil ⟨U,H,I,h⟩
def lH{e:bF}{es:List bF}{t:TG}{u:sC}(b:PG X e t)(c:xj X es u)
  (hs:(wz (e::es) X.env).map (·.2)=CD e X.env::(wz es X.env).map (·.2):=by rfl):xj X (e::es) (Dz t u):=by
 intro a s U H l m Q I r h;obtain⟨v,n,d,h⟩:=h;subst d;cases r with
 |cons r f=>
  rw[hs];refine assignInOrder_cons<|bu (b a s U H _ _ _ I r h) λ_ g ⟨σ1,i,j,k⟩=>?_;exact c a g σ1 i _ _ Q j f k
def DA(K:bj)(n:Nat)(t:sC):TG:=λv U H Q=>∃a b,v= .ref a/\cO K H a b/\b.length=n/\t b U H Q
def xk{es:List bF}{k:Nat}{t:sC}{n:Nat}(i:X.calm=Y)(h:xj X es t)
  (j:(wz es X.env).length=n:=by rfl)(g:(wz es X.env).findIdx? (·.1)=ai:=by rfl):PG X (.Tuple es k pos) (DA X.K n t):=by
 intro d s U H v u Q I r c;obtain⟨a,l,m,p,q,c⟩:=c;subst m;cases r;obtain⟨A,f,w,B⟩:=I.tuple p;refine assign_Tuple_tuple (I.ok.hd i) w (by simp[j,<-q,f.length]) g λx y=>?_;have z:Inv X d U H {s with heap:=x}:=I.kept (t':=s.toks) λb o e=>y b o (gj<|di e) e;exact h d _ U H l _ Q z (by simpa using f) c
def nT(a:TE)(g:TG):TS:=λD U H=>a U H λx b=>g x U b D.nx
def UY{i:Nat}{x:ao}{e:bF}{b:TE}{a:cK}(d:X.N.Nodup)(f:X.N[i]?=O x)(g:Loc X.env.scope x)(j:PE X e b)(hs:nA e (O<|.Name x a) pos.line X.env=pure ax:=by rfl)(k:X.fn x=Y∨X.env.scope.names.lookup x=O .local :=by first|exact .inl rfl|exact .inr rfl|assumption):
  PS X (.Assign [.Name x a] e pos) (nT b<|fV i):=by
 intro c s U H D I h;refine aeV (bu (j c s U H _ I h) λv q ⟨y,l,m,n,o⟩=>?_) hs;exact xh m d f g n (λr p=>⟨_,l,p,o⟩) k
def IB(i:Nat)(a:TE)(b:zK):TS:=λD U H=>∃x,U[i]?=O (O x)/\a U H λy c=>b x y c λz d=>D.nx (U.set i<|O z) d
def UZ{i:Nat}{x:ao}{e:bF}{f:TE}{c:CF}{g:zK}{m:cK}(o:X.N.Nodup)(j:X.N[i]?=O x)(d:Loc X.env.scope x)(p:PE X e f)(q:Iz X c g)(t:X.fn x=Y∨X.env.scope.names.lookup x=O .local :=by first|exact .inl rfl|exact .inr rfl|assumption):
  PS X (.AugAssign (.Name x m) c e pos) (IB i f g):=by
 intro b s U aa ab I h;obtain⟨v,y,h⟩:=h;obtain⟨ah,z,A⟩:=I.loc;have n:su X.env.scope x:=by rcases d with k|k;exact .inl k;exact .inr<|.inl k
 obtain⟨u,r,ae⟩:=A i x v j y n;refine wpAny_AugAssign_Name ?_;have go:wpAny (bo X.prog X.w) X.A (eval e X.env) (λw s₂=>wpAny (bo X.prog X.w) X.A (S0 c u w) (λr s₃=>wpAny (bo X.prog X.w) X.A (SV X.env x r) (λ_=>SP X b ab .next) X.xe s₃) X.xe s₂) X.xe s:=by
  refine bu (p b s U aa _ I h) λw B ⟨ag,C,D,E,H⟩=>?_;refine bu (q b B U C v ag u w _ D r E H) λaq s2 ⟨zv,M,N,Q,T⟩=>?_;exact xh N o j d Q (λs3 I3=>⟨_,M,I3,T⟩) t
 rcases ae with⟨a,hm⟩|⟨a,ar,hc,l⟩
 ·exact aeQ I.ok.kind a z hm go
 ·rcases a with a|a
  ·exact aeR I.ok.kind a hc l go
  ·rcases d with k|k
   ·have:X.env.scope.names.lookup x=O .free:=a;rw[k] at this;cases this
   ·have:X.env.scope.names.lookup x=O .free:=a;rw[k] at this;cases this
def IC(f:Int->Int->Int):zK:=λx y H Q=>∃i j,x= .int i/\y= .int j/\Q (.int<|f i j) H
def U0:Iz X .Add (IC λi j=>i+j):=by
 intro e s U H x y v u Q I a b h;obtain⟨i,j,c,d,q⟩:=h;subst c;subst d;obtain⟨t,rfl⟩:=a;obtain⟨f,rfl⟩:=b;exact iadd_int ⟨.int _,H,I.tok _,⟨_,L⟩,q⟩
end
section
variable{X:Cx}{pos:cK}
def u4(c:TT)(f:TS):TS:=λD U H=>∃W:Nat->St->Hp->Prop,(∃m,W m U H)/\∀m U H,W m U H->
 c U H λb a=>if b=Y then∃N:St->Hp->Prop,(∀σ' d,N σ' d->∃e,e<m/\W e σ' d)/\f {D with nx:=N,ct:=N,bk:=D.nx} U a else D.nx U a
def o9{c:bF}{o:List eT}{p:TT}{q:TS}(r:G3 (bo X.prog X.w) X.A X.env X.xe)(z:PT X c p)(A:gF X o q):PS X (.While c o [] pos) (u4 p q):=by
 intro g s U H aa I h;obtain⟨W,⟨B,C⟩,y⟩:=h;refine wpAny_While<|codeAny_whileLoop (λn D=>∃σ' t,Inv X g σ' t D/\W n σ' t) ?_ B ⟨U,H,I,C⟩;rintro n E ⟨σ1,u,M,N⟩;refine wA r<|bu (z g E σ1 u _ M (y n σ1 u N)) λb Q ⟨v,w,d⟩=>?_;cases b with
 |true=>
  obtain⟨ab,x,d⟩:=d;rw[aA L];refine wA r<|bu (A g Q σ1 v _ w d) λf T e=>?_;cases f with
  |next=>
   obtain⟨σ3,a,i,j⟩:=e;obtain⟨k,l,m⟩:=x σ3 a j;exact⟨k,l,σ3,a,i,m⟩
  |cont=>
   obtain⟨σ3,a,i,j⟩:=e;obtain⟨k,l,m⟩:=x σ3 a j;exact⟨k,l,σ3,a,i,m⟩
  |brk=>exact e
  |ret ae=>exact e
 |false=>
  rw[ak fe];exact y8 ⟨σ1,v,w,d⟩
end
structure It where
 go:Nat->Hp->Prop
 kE:Nat->Hp->V->Hp->Prop
 stop:Nat->Hp->Prop
def lI(X:Cx)(pins:List (af×bz))(H:Hp)(b:af):Prop:=
 H b=ai/\b≠X.env.locals/\b∉X.fs/\(b∈X.ex∨X.eA.heap.objs.size<=b)/\(∀x c,X.env.cells.lookup x=O c->c≠b)/\∀p∈X.pn++pins,p.1≠b
def Inv.sD{X:Cx}{pins:List (af×bz)}{U:St}{H H':Hp}{s:aF}{b:af}(I:Inv X pins U H s)(a:s.heap.objs.size<=b)(d:H' b=ai):lI X pins H' b:=by
 refine⟨d,wB<|i6 I.lt a,I.UR a,.inr<|eO I.sz a,λx c e z=>?_,λp f z=>?_⟩
 ·obtain⟨v,q⟩:=I.cell x c e;exact absurd (i6 q.lt (by rw[z];exact a)) (qc _)
 ·exact absurd (i6 (di (I.pin p f).1) (by rw[z];exact a)) (qc _)
structure Turn(P:cf)(w:bR)(K:bj)(tg:bF)(J:It)(fp:List af)(it:af)(tn:Nat->bC->Prop):Prop where
 mem:it∈fp
 obj:∀i h,tn i h->∀b∈fp,∃o,h.get? b=O o/\∀v,o.data≠ .cell v
 keep:∀i h h',tn i h->(∀b∈fp,∀o,h.get? b=O o->h'.get? b=O o)->tn i h'
 item:∀(X:Cx),X.prog=P->X.w=w->X.K=K->X.calm=Y->∀(i:Nat)(pins:List (af×bz))(s:aF)(U:St)(H:Hp)(E:aw->aF->Prop),Inv X pins U H s->(∀b∈fp,lI X pins H b)->tn i s.heap->J.go i H->
  wpAny (bo P w) X.A (wC<|.ref it) (λr s1=>∃u,r=O u/\
   wpAny (bo P w) X.A (G4 tg (.ref it) u) (λ_ s2=>∃x H',Inv X pins U H' s2/\RelV x u/\J.kE i H x H'/\tn (i+1) s2.heap/\∀b∈fp,H' b=ai) E s1) E s
 done:∀(X:Cx),X.prog=P->X.w=w->X.K=K->X.calm=Y->∀(i:Nat)(pins:List (af×bz))(s:aF)(U:St)(H:Hp)(E:aw->aF->Prop),Inv X pins U H s->(∀b∈fp,lI X pins H b)->tn i s.heap->J.stop i H->
  wpAny (bo P w) X.A (wC<|.ref it) (λr s1=>r=ai/\Inv X pins U H s1) E s
 self:∀(A:cG)(i:Nat)(s:aF)(Q:aw->aF->Prop)(E:aw->aF->Prop),tn i s.heap->Q (.ref it) s->wpAny (bo P w) A (CG<|.ref it) Q E s
abbrev TI:=St->Hp->(It->Hp->Prop)->Prop
def DB(X:Cx)(pins:List (af×bz))(U:St)(i:bF)(R:It->Hp->Prop)(h:aw)(c:aF):Prop:=
 ∃(d:af)(e:List af)(f:Nat->bC->Prop)(g:It)(a:Hp),h= .ref d/\Inv X pins U a c/\Turn X.prog X.w X.K i g e d f/\f 0 c.heap/\(∀b∈e,lI X pins a b)/\R g a
def PI(X:Cx)(b iter:bF)(c:TI):Prop:=
 ∀(a:List (af×bz))(s:aF)(U:St)(H:Hp)(R:It->Hp->Prop),Inv X a U H s->c U H R->
  wpAny (bo X.prog X.w) X.A (eval iter X.env) (λv d=>wpAny (bo X.prog X.w) X.A (CG v) (DB X a U b R) X.xe d) X.xe s
def zL{M:um}{A:cG}{E:aw->aF->Prop}{s:aF}{b:bF}{c:af}{u:aw}{o:bz}{n:String}{vs:Array aw}{Q:Unit->aF->Prop}(d:s.heap.get? c=O o)(e:o.cls= .type n)(f:o.data= .fields vs)
  (g:["enumerate","zip","dict_itemiterator","dict_reverseitemiterator","odict_iterator","itertools.zip_longest","itertools.pairwise"].contains n=ax)(a:Q () s):wpAny M A (G4 b (.ref c) u) Q E s:=by
 unfold G4;cases b<;>first
  |exact cu a
  |(cases u<;>first
    |exact cu a
    |(refine bt<|wpAny_load d ?_
      rw[e,f];show wpAny M A (if(["enumerate","zip","dict_itemiterator","dict_reverseitemiterator","odict_iterator","itertools.zip_longest","itertools.pairwise"].contains n&&vs[0]?==O (wD _))=Y then _ else _) Q E s;rw[ak (by intro h;rw[g,ux] at h;cases h)];exact cu a))
def je(K:bj)(a:af):It:=
 ⟨λi H=>∃b x,aM K H a b/\b[i]?=O x,λi H x c=>c=H/\∀b,aM K H a b->b[i]?=O x,λi H=>∃b,aM K H a b/\b.length<=i⟩
def mI(K:bj)(a:af):It:=
 ⟨λi H=>∃b x,cO K H a b/\b[i]?=O x,λi H x c=>c=H/\∀b,cO K H a b->b[i]?=O x,λi H=>∃b,cO K H a b/\b.length<=i⟩
def sE(lo:Int)(n:Nat):It:=⟨λi _=>i<n,λi H x a=>a=H/\x= .int (lo+i),λi _=>n<=i⟩
def U1{P:cf}{w:bR}{K:bj}{Q:bF}(a f:af):Turn P w K Q (je K a) [f] f (λi h=>h.IsListIter f a i) where
 mem:=by simp
 obj:=λi h st b g=>by
  have e:b=f:=by simpa using g
  subst e;obtain⟨o,e,c,d⟩:=st;exact⟨o,e,λag z=>by rw[d] at z;cases z⟩
 keep:=λi h j st aa=>st.at λo e=>aa f aT o e
 item:=by
  intro X m n q M i D s U H ab I k st r;subst m n q;obtain⟨T,ae,l,t⟩:=r;obtain⟨N,v,p,hz⟩:=I.list l;obtain⟨u,hu,ru⟩:=v.get t;obtain⟨x,y,f2,A,B,C⟩:=k f aT;refine wpAny_pyNext_list_item st p.isList (x:=u) (by simpa using hu) λj E sb=>?_;have I1:Inv X D U H {s with heap:=j}:=I.turned (t':=s.toks) (λb o g e=>(sb.2 b g).trans e) x y A B C;obtain⟨o,e,c,d⟩:=id E;exact⟨u,L,zL (s:={s with heap:=j}) e c d aB ⟨ae,H,I1,ru,⟨L,λys hy=>by rw[I.zJ hy l];exact t⟩,E,λb g=>(k b g).1⟩⟩
 done:=by
  intro X m n q M i D s U H ab I k st r;subst m n q;obtain⟨T,l,t⟩:=r;obtain⟨N,v,p,hz⟩:=I.list l;obtain⟨x,y,f2,A,B,C⟩:=k f aT;have hl:=v.length;exact wpAny_pyNext_list_end (I.ok.hd M) st p.isList (by simp;omega) λj eb=>⟨L,I.turned (t':=s.toks) (λb o g e=>eb b o g e) x y A B C⟩
 self:=λ_ _ _ _ _ st h=>wpAny_pyIter_listiter st h
def U2{P:cf}{w:bR}{K:bj}{Q:bF}(a f:af):Turn P w K Q (mI K a) [f] f (λi h=>h.IsTupleIter f a i) where
 mem:=by simp
 obj:=λi h st b g=>by
  have e:b=f:=by simpa using g
  subst e;obtain⟨o,e,c,d⟩:=st;exact⟨o,e,λag z=>by rw[d] at z;cases z⟩
 keep:=λi h j st aa=>st.at λo e=>aa f aT o e
 item:=by
  intro X n q r N i E s U H ab I k st t;subst n q r;obtain⟨T,ae,l,v⟩:=t;obtain⟨m,x,p,hz⟩:=I.tuple l;obtain⟨u,hu,ru⟩:=x.get v;obtain⟨y,A,f2,B,C,D⟩:=k f aT;refine wpAny_pyNext_tuple_item st (show s.heap.IsTuple a m.toArray from p) (x:=u) (by simpa using hu) λj M sb=>?_;have I1:Inv X E U H {s with heap:=j}:=I.turned (t':=s.toks) (λb o g e=>(sb.2 b g).trans e) y A B C D;obtain⟨o,e,c,d⟩:=id M;exact⟨u,L,zL (s:={s with heap:=j}) e c d aB ⟨ae,H,I1,ru,⟨L,λys hy=>by rw[I.UU hy l];exact v⟩,M,λb g=>(k b g).1⟩⟩
 done:=by
  intro X n q r N i E s U H ab I k st t;subst n q r;obtain⟨T,l,v⟩:=t;obtain⟨m,x,p,hz⟩:=I.tuple l;obtain⟨y,A,f2,B,C,D⟩:=k f aT;have hl:=x.length;exact wpAny_pyNext_tuple_end (I.ok.hd N) st (show s.heap.IsTuple a m.toArray from p) (by simp;omega) λj eb=>⟨L,I.turned (t':=s.toks) (λb o g e=>eb b o g e) y A B C D⟩
 self:=λ_ _ _ _ _ st h=>wpAny_pyIter_tupleiter st h
def U3{P:cf}{w:bR}{K:bj}{C:bF}(a:af)(lo:Int)(n:Nat):Turn P w K C (sE lo n) [a] a (λi h=>IsRangeIter h a (lo+(i:Nat)*1) ((n:Int)-(i:Nat)) 1) where
 mem:=by simp
 obj:=λi h st b c=>by
  have e:b=a:=by simpa using c
  subst e;exact⟨_,st,λv z=>by
   have D:Data.fields _=Data.cell v:=z;cases D⟩
 keep:=λi h d st k=>k a aT _ st
 item:=by
  intro X g j l m i y s U H E I f st p;subst g j l;obtain⟨q,r,M,t,u,x⟩:=f a aT;have W:=zH.range (prog:=X.prog) (w:=X.w) (I.ok.hd m) a lo 1 n;refine W.item i s _ _ p st λv d B N A kk=>?_;obtain⟨aa,rfl⟩:=N;have Q:Inv X y U H {s with heap:=d,toks:=B}:=I.turned (λb o c e=>kk b o (by simpa using c) e) q r t u x;refine⟨_,L,zL (s:={s with heap:=d,toks:=B}) (n:="range_iterator") A L L aB ⟨.int<|lo+i,H,Q,⟨aa,?_⟩,⟨L,L⟩,A,λb c=>(f b c).1⟩⟩;rw[Int.mul_one]
 done:=by
  intro X g j l m i y s U H E I f st p;subst g j l;obtain⟨q,r,M,t,u,x⟩:=f a aT;exact wpAny_pyNext_range_end (I.ok.hd m) st (by have:n<=i:=p;omega) λd T=>⟨L,I.turned (t':=s.toks) (λb o c e=>T b o c e) q r t u x⟩
 self:=λ_ _ _ _ _ st h=>wpAny_pyIter_rangeiter st h
section
variable{X:Cx}{tg:bF}
def xl(K:bj)(tl:TE):TI:=λU H R=>tl U H λx b=>∃a,x= .ref a/\(∃c,aM K b a c)/\R (je K a) b
def U4(K:bj)(tl:TE):TI:=λU H R=>tl U H λx b=>∃a,x= .ref a/\(∃c,cO K b a c)/\R (mI K a) b
def iG{l:bF}{tl:TE}(g:PE X l tl):PI X tg l (xl X.K tl):=by
 intro f s U H R I h;refine bu (g f s U H _ I h) λv c ⟨x,i,d,j,k⟩=>?_;obtain⟨a,e,⟨t,m⟩,q⟩:=k;subst e;cases j;obtain⟨r,u,p,w⟩:=d.list m;refine aeW p.isList ?_;refine⟨c.heap.objs.size,[c.heap.objs.size],_,_,i,L,d.kept (t':=c.toks) λb o e=>fk _ e,U1 a _,⟨_,iS _ rfl,L,L⟩,λb n=>?_,q⟩;have e:b=c.heap.objs.size:=by simpa using n
 subst e;exact d.sD (bG _)<|d.aS.fresh<|bG _
def DC{l:bF}{tl:TE}(i:PE X l tl):PI X tg l (U4 X.K tl):=by
 intro f s U H R I h;refine bu (i f s U H _ I h) λv c ⟨x,j,d,k,m⟩=>?_;obtain⟨a,e,⟨t,n⟩,q⟩:=m;subst e;cases k;obtain⟨g,u,p,w⟩:=d.tuple n;refine wpAny_pyIter_tuple (show c.heap.IsTuple a g.toArray from p) ?_;refine⟨c.heap.objs.size,[c.heap.objs.size],_,_,j,L,d.kept (t':=c.toks) λb o e=>fk _ e,U2 a _,⟨_,iS _ rfl,L,L⟩,λb r=>?_,q⟩;have e:b=c.heap.objs.size:=by simpa using r
 subst e;exact d.sD (bG _)<|d.aS.fresh<|bG _
def ID{pins:List (af×bz)}{U:St}{H:Hp}{s:aF}{R:It->Hp->Prop}{E:aw->aF->Prop}{lo a:Int}{t u v:Tok}{tk:Nat}(I:Inv X pins U H s)(d:-(2^62)<=lo)(f:lo<2^62)(g:-(2^62)<=a)(h:a<2^62)
  (q:R (sE lo (a-lo).toNat) H):wpAny (bo X.prog X.w) X.A (CG<|.ref s.heap.objs.size) (DB X pins U tg R) E {s with heap:=s.heap.push {cls:=.type "range",data:=.fields #[.int lo t,.int a u,.int 1 v]},toks:=tk}:=by
 refine wpAny_pyIter_range (IsRange.new ..) (small_one d f g h) ?_;have c:Inv X pins U H {s with heap:=s.heap.push {cls:=.type "range",data:=.fields #[.int lo t,.int a u,.int 1 v]},toks:=tk}:=I.kept λb o e=>fk _ e;refine⟨(s.heap.push {cls:=.type "range",data:=.fields #[.int lo t,.int a u,.int 1 v]}).objs.size,[(s.heap.push {cls:=.type "range",data:=.fields #[.int lo t,.int a u,.int 1 v]}).objs.size],_,_,H,L,
  c.kept (t':=tk) λb o e=>fk _ e,U3 _ lo (a-lo).toNat,?_,λb i=>?_,q⟩
 ·have j:lo+((0:Nat):Int)*1=lo:=by simp
  have k:(((a-lo).toNat:Nat):Int)-((0:Nat):Int)=aha lo a 1:=by rw[rangeSize_one];split<;>omega
  show IsRangeIter _ _ (lo+((0:Nat):Int)*1) ((((a-lo).toNat:Nat):Int)-((0:Nat):Int)) 1;rw[j,k];exact iS _ rfl
 ·have e:b=(s.heap.push {cls:=.type "range",data:=.fields #[.int lo t,.int a u,.int 1 v]}).objs.size:=by simpa using i
  subst e;exact c.sD (bG _)<|c.aS.fresh<|bG _
def IE(a:TA):TI:=λU H R=>a U H λb c=>∃j:Int,b=[.int j]/\-(2^62)<=j/\j<2^62/\R (sE 0 j.toNat) c
def DD(a:TA):TI:=λU H R=>a U H λb c=>∃i j:Int,b=[.int i,.int j]/\(-(2^62)<=i/\i<2^62/\-(2^62)<=j/\j<2^62)/\R (sE i (j-i).toNat) c
def U5{a:bF}{d:TA}{p c:cK}(g:Gl X "range")(i:X.mg "range"=ai)(k:PA X [a] d)(hs:bS [a] X.env=[(ax,eval a X.env)]:=by rfl):PI X tg (.Call (.Name "range" p) [a] [] c) (IE d):=by
 intro f s U H R I h;refine Call_<|sy I g i boot_range<|CH (bu (k c f s U H _ I h) λu v ⟨w,x,l,m,b⟩=>?_) hs L;obtain⟨j,e,b,n,q⟩:=b;subst e;cases m with
 |cons r o=>
  cases o;obtain⟨t,rfl⟩:=r;exact call_range_1 (ID l aG aG b n<|by simpa using q)
def IF{a b:bF}{k:TA}{p f:cK}(m:Gl X "range")(n:X.mg "range"=ai)(o:PA X [a,b] k)(hs:bS [a,b] X.env=[(ax,eval a X.env),(ax,eval b X.env)]:=by rfl)(g:bS [b] X.env=[(ax,eval b X.env)]:=by rfl):
  PI X tg (.Call (.Name "range" p) [a,b] [] f) (DD k):=by
 intro l s U H R I h;refine Call_<|sy I m n boot_range<|CH (bu (o f l s U H _ I h) λA B ⟨C,D,u,v,c⟩=>?_) (by rw[hs,g]) (by rw[g];rfl);obtain⟨i,j,e,⟨c,w,x,y⟩,q⟩:=c;subst e;cases v with
 |cons r d=>
  cases d with
  |cons z d=>
   cases d;obtain⟨t,rfl⟩:=r;obtain⟨E,rfl⟩:=z;exact call_range_2<|ID u c w x y q
def nU(d:TI)(g:TG)(e:TS):TS:=λD U H=>d U H λb f=>∃W:Nat->Nat->St->Hp->Prop,(∃m,W 0 m U f)/\∀i m U H,W i m U H->
 (b.stop i H/\D.nx U H)∨(b.go i H/\∃N:St->Hp->Prop,(∀σ' a,N σ' a->∃c,c<m/\W (i+1) c σ' a)/\∀x a,b.kE i H x a->g x U a λσ2 h=>e {D with nx:=N,ct:=N,bk:=D.nx} σ2 h)
def xm(a:List af)(h:bC):List (af×bz):=a.filterMap λb=>(h.get? b).map λo=>(b,o)
def DE{a:List af}{h:bC}{b:af}{o:bz}(c:b∈a)(e:h.get? b=O o):(b,o)∈xm a h:=S1.mpr ⟨b,c,by rw[e];rfl⟩
def U6{a:List af}{h:bC}{p:af×bz}(c:p∈xm a h):p.1∈a/\h.get? p.1=O p.2:=by
 obtain⟨b,d,e⟩:=S1.mp c;cases q:h.get? b with
 |none=>rw[q] at e;cases e
 |some o=>
  rw[q] at e;have f:(b,o)=p:=eh e;subst f;exact⟨d,q⟩
def Inv.pinned{pins:List (af×bz)}{U:St}{H:Hp}{s:aF}{a:List af}(I:Inv X pins U H s)(g:∀b∈a,lI X pins H b)(h:∀b∈a,∃o,s.heap.get? b=O o/\∀v,o.data≠ .cell v):Inv X (pins++xm a s.heap) U H s:=
 I.Ik λp i=>(lu.mp i).elim (λz=>I.pin p<|mr _ z) λz=>by
  obtain⟨c,e⟩:=U6 z;obtain⟨j,k,l,_⟩:=g p.1 c;obtain⟨o,f,d⟩:=h p.1 c;rw[e] at f;cases f;exact⟨e,j,k,l,d⟩
def Inv.zM{pins pl:List (af×bz)}{U:St}{H:Hp}{s:aF}(I:Inv X (pins++pl) U H s):Inv X pins U H s:=I.Ik λp a=>I.pin p<|mr _ (SU _ a)
def iH{iter:bF}{v:List eT}{z:TI}{g:TG}{A:TS}{aa:cK}(k:G3 (bo X.prog X.w) X.A X.env X.xe)(B:X.calm=Y)(hi:PI X tg iter z)(hg:PG X tg g)(a:gF X v A)
  (hs:∀x,G5 iter X.env x=pure x:=by intro _;rfl):PS X (.For tg iter v [] aa) (nU z g A):=by
 intro j ah U aq a4 ar au;refine wpAny_For (bu (hi j ah U aq _ ar au) λav s1 h1=>bu h1 λa3 s2 h2=>?_) hs;obtain⟨it,l,C,J,H2,e,I2,T,ab,D,W,⟨m0,w0⟩,Q⟩:=h2;subst e;have r:∀{f:Hp},(∀b∈l,f b=ai)->∀b∈l,lI X j f b:=λhn b a=>⟨hn b a,(D b a).2⟩;refine codeAny_forLoop_any (λn E=>∃i σ' f,Inv X j σ' f E/\C i E.heap/\(∀b∈l,f b=ai)/\W i n σ' f) ?_ m0 ⟨0,U,H2,I2,ab,λb a=>(D b a).1,w0⟩;rintro n H ⟨i,σ3,q,I,w,y,w3⟩;rcases Q i n σ3 q w3 with⟨stop,qn⟩|⟨go,ay,hN,step⟩
 ·refine wA k<|bu (T.done X L L L B i j H σ3 q X.xe I (r y) w stop) λaz s4 ⟨t,I4⟩=>?_;subst t;exact y8 ⟨σ3,q,I4,qn⟩
 ·refine wA k<|bu (T.item X L L L B i j H σ3 q X.xe I (r y) w go) λaz s4 ⟨aE,t,h4⟩=>?_;subst t;refine wA k<|bu h4 λ_ M ⟨x,N,I5,r5,y5,s,ae⟩=>?_;have ag:=I5.pinned (r ae)<|T.obj _ _ s;refine wA k<|bu (hg _ M σ3 N x aE _ ag r5 (step x N y5)) λ_ s6 ⟨σ6,H6,I6,q6⟩=>?_;refine wA k<|bu (a _ s6 σ6 H6 _ I6 q6) λa0 u h=>?_;have again:∀{σ7:St}{c:Hp},Inv X (j++xm l M.heap) σ7 c u->ay σ7 c->∃m,m<n/\∃i σ' f,Inv X j σ' f u/\C i u.heap/\(∀b∈l,f b=ai)/\W i m σ' f:=λ{σ7 c} d p=>by
   obtain⟨m',hm,w7⟩:=hN σ7 c p;refine⟨m',hm,i+1,σ7,c,d.zM,T.keep _ _ _ s λb a o e=>(d.pin (b,o)<|mr _ (mr _ (DE a e))).1,λb a=>?_,w7⟩;obtain⟨o,e,a5⟩:=T.obj _ _ s b a;exact(d.pin (b,o)<|mr _ (mr _ (DE a e))).2.1
  cases a0 with
  |next=>obtain⟨σ7,c,d,p⟩:=h;exact again d p
  |cont=>obtain⟨σ7,c,d,p⟩:=h;exact again d p
  |brk=>obtain⟨σ7,c,d,h⟩:=h;exact⟨σ7,c,d.zM,h⟩
  |ret av=>obtain⟨x7,σ7,c,d,r7,h⟩:=h;exact⟨x7,σ7,c,d.zM,r7,h⟩
end
def zN{K:bj}{a:af}{xs:List V}{g:TG}{d:TS}{D:Ends}{U:St}{H:Hp}(Pv:Nat->St->Hp->Prop)(h:Pv 0 U H)(j:∀i U H,i<=xs.length->Pv i U H->aM K H a xs)
  (hs:∀i x U H,xs[i]?=O x->Pv i U H->g x U H λσ2 b=>d {D with nx:=Pv<|i+1,ct:=Pv<|i+1,bk:=D.nx} σ2 b)(k:∀U H,Pv xs.length U H->D.nx U H):
  ∃W:Nat->Nat->St->Hp->Prop,(∃m,W 0 m U H)/\∀i m U H,W i m U H->
   ((je K a).stop i H/\D.nx U H)∨((je K a).go i H/\∃N:St->Hp->Prop,(∀σ' H',N σ' H'->∃f,f<m/\W (i+1) f σ' H')/\∀x H',(je K a).kE i H x H'->g x U H' λσ2 b=>d {D with nx:=N,ct:=N,bk:=D.nx} σ2 b):=by
 refine⟨λi m U H=>m=xs.length-i/\i<=xs.length/\Pv i U H,⟨xs.length,aT,dD _,h⟩,?_⟩;rintro i m U H ⟨rfl,l,p⟩;have q:=j i U H l p;by_cases c:i<xs.length
 ·refine .inr ⟨⟨xs,xs[i],q,by simp[c]⟩,Pv<|i+1,λσ' H' n=>⟨xs.length-(i+1),aG,L,c,n⟩,λx H' y=>?_⟩;obtain⟨e,y⟩:=y;subst e;exact hs i x U _ (y xs q) p
 ·have e:i=xs.length:=by omega
  subst e;exact .inl ⟨⟨xs,q,bG _⟩,k U H p⟩
def IG{K:bj}{a:af}{xs:List V}{g:TG}{d:TS}{D:Ends}{U:St}{H:Hp}(Pv:Nat->St->Hp->Prop)(h:Pv 0 U H)(j:∀i U H,i<=xs.length->Pv i U H->cO K H a xs)
  (hs:∀i x U H,xs[i]?=O x->Pv i U H->g x U H λσ2 b=>d {D with nx:=Pv<|i+1,ct:=Pv<|i+1,bk:=D.nx} σ2 b)(k:∀U H,Pv xs.length U H->D.nx U H):
  ∃W:Nat->Nat->St->Hp->Prop,(∃m,W 0 m U H)/\∀i m U H,W i m U H->
   ((mI K a).stop i H/\D.nx U H)∨((mI K a).go i H/\∃N:St->Hp->Prop,(∀σ' H',N σ' H'->∃f,f<m/\W (i+1) f σ' H')/\∀x H',(mI K a).kE i H x H'->g x U H' λσ2 b=>d {D with nx:=N,ct:=N,bk:=D.nx} σ2 b):=by
 refine⟨λi m U H=>m=xs.length-i/\i<=xs.length/\Pv i U H,⟨xs.length,aT,dD _,h⟩,?_⟩;rintro i m U H ⟨rfl,l,p⟩;have q:=j i U H l p;by_cases c:i<xs.length
 ·refine .inr ⟨⟨xs,xs[i],q,by simp[c]⟩,Pv<|i+1,λσ' H' n=>⟨xs.length-(i+1),aG,L,c,n⟩,λx H' y=>?_⟩;obtain⟨e,y⟩:=y;subst e;exact hs i x U _ (y xs q) p
 ·have e:i=xs.length:=by omega
  subst e;exact .inl ⟨⟨xs,q,bG _⟩,k U H p⟩
def IH{lo:Int}{n:Nat}{g:TG}{c:TS}{D:Ends}{U:St}{H:Hp}(Pv:Nat->St->Hp->Prop)(f:Pv 0 U H)
  (hs:∀i U H,i<n->Pv i U H->g (.int<|lo+i) U H λσ2 b=>c {D with nx:=Pv<|i+1,ct:=Pv<|i+1,bk:=D.nx} σ2 b)(h:∀U H,Pv n U H->D.nx U H):
  ∃W:Nat->Nat->St->Hp->Prop,(∃m,W 0 m U H)/\∀i m U H,W i m U H->
   ((sE lo n).stop i H/\D.nx U H)∨((sE lo n).go i H/\∃N:St->Hp->Prop,(∀σ' H',N σ' H'->∃d,d<m/\W (i+1) d σ' H')/\∀x H',(sE lo n).kE i H x H'->g x U H' λσ2 b=>c {D with nx:=N,ct:=N,bk:=D.nx} σ2 b):=by
 refine⟨λi m U H=>m=n-i/\i<=n/\Pv i U H,⟨n,aT,dD _,f⟩,?_⟩;rintro i m U H ⟨rfl,k,p⟩;by_cases a:i<n
 ·refine .inr ⟨a,Pv<|i+1,λσ' H' j=>⟨n-(i+1),aG,L,a,j⟩,λx H' y=>?_⟩;obtain⟨e,y⟩:=y;subst e y;exact hs i U _ a p
 ·have e:i=n:=by omega
  subst e;exact .inl ⟨bG _,h U H p⟩
abbrev R2:=V->V->Hp->VK->Prop
def eZ(X:Cx)(f:aw->aw->gQ aw)(r:R2):Prop:=
 ∀(a:List (af×bz))(s:aF)(U:St)(H:Hp)(x y:V)(v u:aw)(Q:VK),Inv X a U H s->RelV x v->RelV y u->r x y H Q->
  wpAny (bo X.prog X.w) X.A (f v u) (EP X a U Q) X.xe s
def DF(X:Cx)(f:aw->gQ aw)(r:V->Hp->VK->Prop):Prop:=
 ∀(a:List (af×bz))(s:aF)(U:St)(H:Hp)(x:V)(v:aw)(Q:VK),Inv X a U H s->RelV x v->r x H Q->
  wpAny (bo X.prog X.w) X.A (f v) (EP X a U Q) X.xe s
def lJ(X:Cx)(f:aw)(r:List V->Hp->VK->Prop):Prop:=
 ∀(a:List (af×bz))(s:aF)(U:St)(H:Hp)(b:List V)(c:List aw)(Q:VK),Inv X a U H s->Vals b c->r b H Q->
  wpAny (bo X.prog X.w) X.A (call f c) (EP X a U Q) X.xe s
def dG(r:R2)(a b:TE):TE:=λU H Q=>a U H λx c=>b U c λy d=>r x y d Q
def DG(r:V->Hp->VK->Prop)(a:TE):TE:=λU H Q=>a U H λx b=>r x b Q
def rI(C:Int->Int->Prop)(g:Int->Int->V):R2:=λx y H Q=>∃i j,x= .int i/\y= .int j/\C i j/\Q (g i j) H
def mJ(g:Int->Int->V):R2:=λx y H Q=>∃i j,x= .int i/\y= .int j/\Q (g i j) H
def rU(g:Int->V):V->Hp->VK->Prop:=λx H Q=>∃i,x= .int i/\Q (g i) H
section
variable{X:Cx}{a b c:bF}{ta tb tc:TE}{pos:cK}
def DH(i:PE X a ta)(j:PE X b tb){pins:List (af×bz)}{s:aF}{U:St}{H:Hp}{R:V->V->Hp->Prop}(I:Inv X pins U H s)
  (h:ta U H λx g=>tb U g λy d=>R x y d){Q:aw->aF->Prop}{f:aw->aw->gQ aw}
  (k:∀v u e x y d,Inv X pins U d e->RelV x v->RelV y u->R x y d->wpAny (bo X.prog X.w) X.A (f v u) Q X.xe e):
  wpAny (bo X.prog X.w) X.A (eval a X.env) (λv s₁=>wpAny (bo X.prog X.w) X.A (eval b X.env) (λu s₂=>wpAny (bo X.prog X.w) X.A (f v u) Q X.xe s₂) X.xe s₁) X.xe s:=by
 refine bu (i pins s U H _ I h) λv l ⟨x,g,m,n,o⟩=>?_;refine bu (j pins l U g _ m o) λu e ⟨y,d,p,q,r⟩=>?_;exact k v u e x y d p n q r
def cP{d:CF}{r:R2}(f:eZ X (wF d) r)(g:PE X a ta)(i:PE X b tb):PE X (.BinOp a d b pos) (dG r ta tb):=by
 intro e s U H Q I h;exact wpAny_BinOp<|DH g i I h λv u j x y k l m n q=>f e j U k x y v u Q l m n q
def du{e:UnaryOp}{r:V->Hp->VK->Prop}(f:DF X (unaryOp e) r)(g:PE X a ta):PE X (.UnaryOp e a pos) (DG r ta):=by
 intro d s U H Q I h;exact UnaryOp_<|bu (g d s U H _ I h) λv i ⟨x,j,k,l,m⟩=>f d i U j x v Q k l m
def II{f:aw->aw->gQ aw}{C:Int->Int->Prop}{g:Int->Int->Int}
  (rule:∀(i j:Int)(t u:Tok)(s:aF)(Q:aw->aF->Prop)(E:aw->aF->Prop),C i j->Q (.int (g i j) s.toks) {s with toks:=s.toks+1}->wpAny (bo X.prog X.w) X.A (f (.int i t)<|.int j u) Q E s):
  eZ X f (rI C λi j=>.int<|g i j):=by
 intro m s U H x y v u Q I d e h;obtain⟨i,j,rfl,rfl,k,q⟩:=h;obtain⟨t,rfl⟩:=d;obtain⟨l,rfl⟩:=e;exact rule i j t l s _ _ k ⟨.int<|g i j,H,I.tok _,⟨_,L⟩,q⟩
def IJ{f:aw->aw->gQ aw}{g:Int->Int->Int}
  (rule:∀(i j:Int)(t u:Tok)(s:aF)(Q:aw->aF->Prop)(E:aw->aF->Prop),Q (.int (g i j) s.toks) {s with toks:=s.toks+1}->wpAny (bo X.prog X.w) X.A (f (.int i t)<|.int j u) Q E s):
  eZ X f (mJ λi j=>.int<|g i j):=by
 intro l s U H x y v u Q I d e h;obtain⟨i,j,rfl,rfl,q⟩:=h;obtain⟨t,rfl⟩:=d;obtain⟨k,rfl⟩:=e;exact rule i j t k s _ _ ⟨.int<|g i j,H,I.tok _,⟨_,L⟩,q⟩
def zO{f:aw->aw->gQ aw}{g:Int->Int->Bool}
  (rule:∀(i j:Int)(t u:Tok)(s:aF)(Q:aw->aF->Prop)(E:aw->aF->Prop),Q (.bool<|g i j) s->wpAny (bo X.prog X.w) X.A (f (.int i t)<|.int j u) Q E s):
  eZ X f (mJ λi j=>.bl<|g i j):=by
 intro l s U H x y v u Q I d e h;obtain⟨i,j,rfl,rfl,q⟩:=h;obtain⟨t,rfl⟩:=d;obtain⟨k,rfl⟩:=e;exact rule i j t k s _ _ ⟨.bl<|g i j,H,I,L,q⟩
def IK(i j:Int):Prop:=0<j/\j<1073741824
def zP(i j:Int):Prop:=(-(2^64)<i/\i<2^64)∨(-(2^64)<j/\j<2^64)
def zP.ok{i j:Int}(h:zP i j):IntMulOk i j:=by
 rcases h with⟨d,e⟩|⟨d,e⟩
 ·exact .of_left<|aeX d e
 ·exact .of_right<|aeX d e
def zQ:eZ X (wF .Add) (mJ λi j=>.int<|i+j):=IJ λ_ _ _ _ _ _ _ q=>add_int q
def iY:eZ X (wF .Sub) (mJ λi j=>.int<|i-j):=IJ λ_ _ _ _ _ _ _ q=>sub_int q
def U7:eZ X (wF .Mult) (rI zP λi j=>.int<|i*j):=II λ_ _ _ _ _ _ _ d q=>mul_int q d.ok
def U8:eZ X (wF .FloorDiv) (rI IK λi j=>.int<|i/j):=II λi j _ _ _ _ _ d q=>by
 have e:(0:Int)<j:=d.1;have f:j<1073741824:=d.2;exact floordiv_int aG (by rw[Int.fdiv_eq_ediv_of_nonneg i aG];exact q)<|.inl<|PyProof.noPylong_small aG
def U9{f:aw->gQ aw}{g:Int->Int}
  (rule:∀(i:Int)(t:Tok)(s:aF)(Q:aw->aF->Prop)(E:aw->aF->Prop),Q (.int (g i) s.toks) {s with toks:=s.toks+1}->wpAny (bo X.prog X.w) X.A (f<|.int i t) Q E s):
  DF X f (rU λi=>.int<|g i):=by
 intro e s U H x v Q I d h;obtain⟨i,rfl,q⟩:=h;obtain⟨t,rfl⟩:=d;exact rule i t s _ _ ⟨.int<|g i,H,I.tok _,⟨_,L⟩,q⟩
def dv:DF X (unaryOp .USub) (rU λi=>.int<|-i):=U9 λ_ _ _ _ _ q=>neg_int q
end
def zS:V->V->Bool
 |.bp,.bp=>Y|.bp,.int _=>Y|.int _,.bp=>Y|.bp,.bl _=>Y|.bl _,.bp=>Y|.bp,.str _=>Y|.str _,.bp=>Y
 |.int _,.int _=>Y|.bl _,.bl _=>Y|.str _,.str _=>Y|.js _,.js _=>Y
 |.int _,.str _=>Y|.str _,.int _=>Y|.bl _,.str _=>Y|.str _,.bl _=>Y
 |_,_=>ax
def zT:R2:=λx y H Q=>zS x y=Y/\Q (.bl<|decide (x=y)) H
def DI:R2:=λx y H Q=>zS x y=Y/\Q (.bl<|!decide (x=y)) H
def IL{i j:Int}:decide (V.int i=V.int j)=(i==j):=by
 rw[j0];simp
def IM{i j:Bool}:decide (V.bl i=V.bl j)=(i==j):=by
 rw[j0];simp
def IP{i j:ao}:decide (V.str i=V.str j)=(i==j):=by
 rw[j0];simp
def IQ{i j:Array UInt8}:decide (V.js i=V.js j)=(i.toList==j.toList):=by
 rw[j0];cases i;cases j;simp
section
variable{X:Cx}{a b c:bF}{ta tb tc:TE}{pos:cK}
def eR{pins:List (af×bz)}{U:St}{H:Hp}{s:aF}{Q:VK}{k d:Bool}(I:Inv X pins U H s)(q:Q (.bl k) H)(e:k=d):EP X pins U Q (.bool d) s:=by
 subst e;exact⟨.bl k,H,I,L,q⟩
def de:eZ X (hW .Eq) zT:=by
 intro k s U H x y v u Q I g d h;obtain⟨f,q⟩:=h;cases x with
 |bp=>
  cases g;cases y with
  |bp=>cases d;exact ahb<|eR I q aT
  |bl j=>cases d;exact ahc<|eR I q aT
  |int j=>obtain⟨e,rfl⟩:=d;exact ahd<|eR I q aT
  |str j=>obtain⟨e,rfl⟩:=d;exact ahe<|eR I q aT
  |_=>exact absurd (show ax=Y from f) fe
 |bl i=>
  cases g;cases y with
  |bp=>cases d;exact ahf<|eR I q aT
  |bl j=>cases d;exact eq_bool<|eR I q IM
  |str j=>obtain⟨e,rfl⟩:=d;exact ahg<|eR I q aT
  |_=>exact absurd (show ax=Y from f) fe
 |int i=>
  obtain⟨t,rfl⟩:=g;cases y with
  |bp=>cases d;exact ahh<|eR I q aT
  |int j=>obtain⟨e,rfl⟩:=d;exact eq_int<|eR I q IL
  |str j=>obtain⟨e,rfl⟩:=d;exact ahi<|eR I q aT
  |_=>exact absurd (show ax=Y from f) fe
 |str i=>
  obtain⟨t,rfl⟩:=g;cases y with
  |bp=>cases d;exact ahj<|eR I q aT
  |bl j=>cases d;exact ahk<|eR I q aT
  |int j=>obtain⟨e,rfl⟩:=d;exact ahl<|eR I q aT
  |str j=>obtain⟨e,rfl⟩:=d;exact eq_str<|eR I q IP
  |_=>exact absurd (show ax=Y from f) fe
 |js i=>
  obtain⟨t,rfl⟩:=g;cases y with
  |js j=>obtain⟨e,rfl⟩:=d;exact PySem.W.eq_bytes<|eR I q IQ
  |_=>exact absurd (show ax=Y from f) fe
 |_=>cases y<;>exact absurd (show ax=Y from f) fe
def pb:eZ X (hW .NotEq) DI:=by
 intro k s U H x y v u Q I g d h;obtain⟨f,q⟩:=h;cases x with
 |bp=>
  cases g;cases y with
  |bp=>cases d;exact ahm<|eR I q aT
  |bl j=>cases d;exact ahn<|eR I q aT
  |int j=>obtain⟨e,rfl⟩:=d;exact aho<|eR I q aT
  |str j=>obtain⟨e,rfl⟩:=d;exact ahp<|eR I q aT
  |_=>exact absurd (show ax=Y from f) fe
 |bl i=>
  cases g;cases y with
  |bp=>cases d;exact ahq<|eR I q aT
  |bl j=>cases d;exact ne_bool<|eR I q<|fG not IM
  |str j=>obtain⟨e,rfl⟩:=d;exact ahr<|eR I q aT
  |_=>exact absurd (show ax=Y from f) fe
 |int i=>
  obtain⟨t,rfl⟩:=g;cases y with
  |bp=>cases d;exact ahs<|eR I q aT
  |int j=>obtain⟨e,rfl⟩:=d;exact ne_int<|eR I q<|fG not IL
  |str j=>obtain⟨e,rfl⟩:=d;exact aht<|eR I q aT
  |_=>exact absurd (show ax=Y from f) fe
 |str i=>
  obtain⟨t,rfl⟩:=g;cases y with
  |bp=>cases d;exact ahu<|eR I q aT
  |bl j=>cases d;exact ahv<|eR I q aT
  |int j=>obtain⟨e,rfl⟩:=d;exact ahw<|eR I q aT
  |str j=>obtain⟨e,rfl⟩:=d;exact ne_str<|eR I q<|fG not IP
  |_=>exact absurd (show ax=Y from f) fe
 |js i=>
  obtain⟨t,rfl⟩:=g;cases y with
  |js j=>obtain⟨e,rfl⟩:=d;exact PySem.W.ne_bytes<|eR I q<|fG not IQ
  |_=>exact absurd (show ax=Y from f) fe
 |_=>cases y<;>exact absurd (show ax=Y from f) fe
def f9:eZ X (hW .Lt) (mJ λi j=>.bl<|decide (i<j)):=zO λ_ _ _ _ _ _ _ q=>lt_int q
def ig:eZ X (hW .LtE) (mJ λi j=>.bl<|decide (i<=j)):=zO λ_ _ _ _ _ _ _ q=>le_int q
def kF:eZ X (hW .Gt) (mJ λi j=>.bl<|decide (j<i)):=zO λ_ _ _ _ _ _ _ q=>gt_int q
def mK:eZ X (hW .GtE) (mJ λi j=>.bl<|decide (j<=i)):=zO λ_ _ _ _ _ _ _ q=>ge_int q
def zU:eZ X (hW .Is) (λx y H Q=>y= .bp/\Q (.bl<|decide (x= .bp)) H):=by
 intro f s U H x y v u Q I d e h;obtain⟨rfl,q⟩:=h;cases e;refine is_none_gen<|eR I q ?_;cases x<;>first
  |(cases d;rfl)
  |(obtain⟨t,rfl⟩:=d;rfl)
def Va:eZ X (hW .IsNot) (λx y H Q=>y= .bp/\Q (.bl<|!decide (x= .bp)) H):=by
 intro f s U H x y v u Q I d e h;obtain⟨rfl,q⟩:=h;cases e;refine isnot_none_gen<|eR I q ?_;cases x<;>first
  |(cases d;rfl)
  |(obtain⟨t,rfl⟩:=d;rfl)
def IS(b:bF){d:rH}(h:d≠ .In:=by decide)(e:d≠ .NotIn:=by decide):CC d b=ax:=by
 have f:(d==rH.In)=ax:=by cases d<;>first|rfl|exact absurd rfl h
 have g:(d==rH.NotIn)=ax:=by cases d<;>first|rfl|exact absurd rfl e
 cases b<;>simp[CC,f,g]
def zV{d:rH}{r:R2}(f:eZ X (hW d) r)(g:PE X a ta)(i:PE X b tb)(j:CC d b=ax):PE X (.Compare a [d] [b] pos) (dG r ta tb):=by
 intro e s U H Q I h;exact wpAny_Compare1 (DH g i I h λv u k x y l m n o q=>f e k U l x y v u Q m n o q) j
def zW(t:TE):TT:=λU H Q=>t U H λx d=>∃k,x= .bl k/\Q k d
def xn{f:rH}{r:R2}(g:eZ X (hW f) r)(i:PE X a ta)(j:PE X b tb)(k:CC f b=ax):PT X (.Compare a [f] [b] pos) (zW<|dG r ta tb):=by
 intro d s U H Q I h;refine aeT (bu (i d s U H _ I h) λv l ⟨x,m,n,o,p⟩=>bu (j d l U m _ n p) λu q ⟨y,t,w,A,B⟩=>
  bu (g d q U t x y v u _ w o A B) λT N ⟨z,C,D,E,aa,e,M⟩=>?_) k
 subst e;cases E;exact uq ⟨C,D,M⟩
def IT(r e:R2)(f g h:TE):TE:=λU H Q=>f U H λx i=>g U i λy j=>r x y j λz d=>∃k,z= .bl k/\
 (if k=Y then h U d λl m=>e y l m Q else Q (.bl ax) d)
def kG{f e:rH}{r g:R2}(m:eZ X (hW f) r)(l:eZ X (hW e) g)(n:PE X a ta)(o:PE X b tb)(p:PE X c tc)
  (q:lastMarks [f,e] [b,c]=ax:=by with_unfolding_all rfl):PE X (.Compare a [f,e] [b,c] pos) (IT r g ta tb tc):=by
 intro d aa U ab ae ag ah;refine Compare_chain (bu (n d aa U ab _ ag ah) λaq s ⟨ar,t,v,w,x⟩=>chain_link (bu (o d s U t _ v x) λu z ⟨y,A,B,h,C⟩=>
  bu (m d z U A ar y aq u _ B w h C) λay D ⟨az,i,j,E,au,av,k⟩=>?_)) q
 subst av;cases E;refine uq ?_;cases au with
 |false=>exact ite_ff ⟨.bl ax,i,j,L,k⟩
 |true=>exact ite_tt<|chain_last<|bu (p d D U i _ j k) λH I ⟨M,N,Q,T,q4⟩=>l d I U N y M u H ae Q h T q4
def xo:(br:Nat)<2^63:=by rw[b9];decide
def xp:eZ X (wF .Add) (λx y H Q=>∃i j,x= .str i/\y= .str j/\i.length+j.length<=br/\Q (.str<|i++j) H):=by
 intro k s U H x y v u Q I d e h;obtain⟨i,j,rfl,rfl,f,q⟩:=h;obtain⟨t,rfl⟩:=d;obtain⟨g,rfl⟩:=e;exact add_str (λg l=>⟨.str<|i++j,H,I.tok _,⟨_,L⟩,q⟩) f
def vals1{x:V}{us:List aw}(r:Vals [x] us):∃u,us=[u]/\RelV x u:=by
 cases r with
 |cons d e=>cases e;exact⟨_,L,d⟩
def vals2{x y:V}{us:List aw}(r:Vals [x,y] us):∃u d,us=[u,d]/\RelV x u/\RelV y d:=by
 cases r with
 |cons e f=>
  cases f with
  |cons g h=>cases h;exact⟨_,_,L,e,g⟩
def Vb(e:X.calm=Y):lJ X (.builtin "min") (λxs H Q=>∃i j,xs=[.int i,.int j]/\Q (.int (if j<i then j else i)) H):=by
 intro f s U H xs g Q I r h;obtain⟨i,j,rfl,q⟩:=h;obtain⟨u,l,rfl,⟨t,rfl⟩,⟨m,rfl⟩⟩:=vals2 r;refine min_two_ints (I.ok.hd e) λn o k=>⟨_,H,I.kept k,?_,q⟩;by_cases d:j<i
 ·rw[aA d,aA d];exact⟨_,L⟩
 ·rw[ak d,ak d];exact⟨_,L⟩
def IU:lJ X (.type "str") (λxs H Q=>∃i,xs=[.int i]/\i.natAbs.log2<1920/\Q (.str<|S2 i) H):=by
 intro e s U H xs f Q I r h;obtain⟨i,rfl,d,q⟩:=h;obtain⟨u,rfl,t,rfl⟩:=vals1 r;exact PySem.P.str_of_int d ⟨.str _,H,I.tok _,⟨_,L⟩,q⟩
def IV:lJ X (.builtin "ord") (λxs H Q=>∃x,xs=[.str x]/\x.length=1/\Q (.int (x.cps.getD 0 0:Nat)) H):=by
 intro e s U H xs f Q I r h;obtain⟨x,rfl,d,q⟩:=h;obtain⟨u,rfl,t,rfl⟩:=vals1 r;exact ord_of_one d ⟨.int _,H,I.tok _,⟨_,L⟩,q⟩
end
structure sG(h:bC)(x dx C:af)(mA:ao->Option aw):Prop where
 obj:h.get? x=O (uk C dx)
 ns:h.Ns1 dx mA
 ne:dx≠x
def Vc{h:bC}{dx:af}{b:ao->Option aw}(n:h.Ns1 dx b):∃c,h.get? dx=O c/\∀name,G6 name c=O (b name):=by
 obtain⟨o,d,p,g,i,j,_,k⟩:=n;refine⟨o,g,λname=>?_⟩;have e:=k name;unfold nsFind findBy at e;rw[<-aeY] at e;unfold G6;rw[i];dsimp only;split
 ·rename_i y q;rw[q] at e;exact fG O e
 ·rename_i q;rw[q] at e;have a:d.toList.any (·.refKey)=ax:=by
   rw[aeZ];intro y l;obtain⟨z,t,f⟩:=j y<|Array.mem_toList_iff.mp l;simp[my.refKey,f]
  have m:¬d.toList.any (·.refKey)=Y:=by rw[a];exact fe
  rw[ak m];exact fG O e
def sG.look{h:bC}{x dx C:af}{b:ao->Option aw}(I:sG h x dx C b):∃a,PySem.W.InstAt h x (uk C dx) C (O a)/\∀name,G6 name a=O (b name):=
 let⟨a,c,d⟩:=Vc I.ns
 ⟨a,⟨I.obj,L,L,c⟩,d⟩
section
variable{prog:cf}{w:bR}{A:cG}{E:aw->aF->Prop}{s:aF}{K:bj}{x dx C f:af}{mA:ao->Option aw}{name:ao}{v:aw}
def get_map{a:Bool}{Q:aw->aF->Prop}(X:K.In s.heap)(I:sG s.heap x dx C mA)(c:G7 K C name=Y)(d:S3 K C=Y)
  (e:rJ K (.ref C) name=O ai)(g:mA name=O v)(b:S4 v=Y)(h:Q v {s with toks:=s.toks+1}):
  wpAny (bo prog w) A (CI (.ref x) name a) Q E s:=by
 obtain⟨k,j,i⟩:=I.look;exact PySem.W.get_value X j (S5 c).1 (PySem.W.findObj_own d e L<|by rw[i,g]) b h
def Vd{pl:gQ Bool}{Q:aw×List aw->aF->Prop}(X:K.In s.heap)(I:sG s.heap x dx C mA)(a:G7 K C name=Y)
  (b:rJ K (.ref C) name=O (O<|.ref f))(c:G8 K (.ref f)=Y)(d:mA name=ai)(h:Q (.ref f,[.ref x]) s):
  wpAny (bo prog w) A (rK (.ref x) name pl) Q E s:=by
 obtain⟨e,i,g⟩:=I.look;exact PySem.W.method_fn X i (S5 a).1 (S5 a).2 b (fB.mp c) (by show(G6 name e).map (·.isSome)=O ax;rw[g,d];rfl) h
def Ve{d:List ao}{Q:Unit->aF->Prop}(X:K.In s.heap)(I:sG s.heap x dx C mA)
  (hs:rJ K (.ref C) "__setattr__"=O (O<|.builtin "object.__setattr__"))(l:ae0 K C=Y)(m:S6 K C name=O ai)(n:S3 K C=Y)
  (o:SM mA d)(hsz:d.length<=br)
  (h:∀h',sG h' x dx C (λy=>if y=name then O v else mA y)->uo dx s.heap h'->Q () {s with heap:=h',toks:=s.toks+2}):
  wpAny (bo prog w) A (G9 (.ref x) name v) Q E s:=by
 obtain⟨u,e,z⟩:=I.look;refine PySem.W.set_plain X e hs<|PySem.W.osa_open (s:={s with toks:=s.toks+1}) (r:=ai) X e l m λb=>?_;obtain⟨B,p,g⟩:=PySem.W.any_some n;have q:s.heap.get? x=O ⟨.ref C,O dx,.plain,#[]⟩:=I.obj;refine bt<|cu<|bt<|bt<|wpAny_loadPart q<|bt<|ahx (s:={s with toks:=s.toks+1}) (PySem.W.looks_clsIn X p) ?_;rw[g];refine cu (a:=O dx)<|bt<|cu<|bt ?_;refine wpAny_nsSet1 (s:={s with toks:=s.toks+1}) I.ns λh' a c=>?_;obtain⟨D,r,t,i,j,k⟩:=a.count<|ahy name v o;refine bt<|ae1 i (by rw[j];exact ae2<|eO k (by rw[bV];omega)) ?_;exact cu<|h _ ⟨(c.2 _ (qf I.ne)).trans I.obj,a,I.ne⟩ c
def Vf{R:CJ->aF->Prop}{vs:List aw}{a:List (ao×aw)}(X:K.In s.heap)(c:ae3 K C=Y)
  (e:rJ K (.ref C) "__init__"=O (O<|.ref f))(i:ae4 K (.ref f)=O (.type "function"))
  (h:codeAny (bo prog w) (A.under<|.builtin "type.__call__" ⟨.ref C::vs,a⟩) (.call (.ref f) ⟨.ref (s.heap.objs.size+1)::vs,a⟩) (PySem.W.InitBack (s.heap.objs.size+1) R)
   {s with heap:=(s.heap.push rL).push<|uk C s.heap.objs.size}):
  codeAny (bo prog w) A (.call (.ref C) ⟨vs,a⟩) R s:=by
 obtain⟨j,g,d,t,os⟩:=s;exact PySem.W.make_core (PySem.W.makes_of X c) (PySem.W.looks_findIn X e) (λb=>PySem.W.bind_fn X b i) (.inl L) h
end
def d4(f:ao)(v:V):List (ao×V)->List (ao×V)
 |[]=>[(f,v)]
 |(g,x)::r=>if g=f then(g,v)::r else(g,x)::d4 f v r
def IW(f g:ao)(v:V):∀fs:List (ao×V),(d4 f v fs).lookup g=if g=f then O v else fs.lookup g
 |[]=>by
  show oN g [(f,v)]=_;by_cases h:g=f
  ·have a:(g==f)=Y:=fB.mpr h;simp only[oN,a,aA h]
  ·have a:(g==f)=ax:=rC.mpr h;simp only[oN,a,ak h]
 |(k,x)::r=>by
  have c:=IW f g v r;rw[show d4 f v ((k,x)::r)=(if k=f then(k,v)::r else(k,x)::d4 f v r) from L];by_cases b:k=f
  ·rw[aA b];by_cases h:g=k
   ·have a:(g==k)=Y:=fB.mpr h;simp only[oN,a,aA<|h.trans b]
   ·have a:(g==k)=ax:=rC.mpr h;simp only[oN,a,ak (λe:g=f=>h<|e.trans b.symm)]
  ·rw[ak b];by_cases h:g=k
   ·have a:(g==k)=Y:=fB.mpr h;simp only[oN,a,ak (λe:g=f=>b<|h.symm.trans e)]
   ·have a:(g==k)=ax:=rC.mpr h;simp only[oN,a];exact c
def DJ(f:ao)(v:V):∀fs:List (ao×V),f∈(d4 f v fs).map (·.1)/\∀g,g∈fs.map (·.1)->g∈(d4 f v fs).map (·.1)
 |[]=>⟨by simp[d4],λg h=>by simp at h⟩
 |(k,x)::r=>by
  obtain⟨b,c⟩:=DJ f v r;rw[show d4 f v ((k,x)::r)=(if k=f then(k,v)::r else(k,x)::d4 f v r) from L];by_cases a:k=f
  ·rw[aA a];subst a;exact⟨aT,λg h=>by simpa using h⟩
  ·rw[ak a];refine⟨?_,λg h=>?_⟩
   ·rw[cM];exact dS _ b
   ·rw[cM] at h⊢;rcases dN.mp h with e|e
    ·exact dN.mpr<|.inl e
    ·exact dS _ (c g e)
def IX(f:ao)(v:V):∀fs:List (ao×V),(d4 f v fs).length<=fs.length+1
 |[]=>by simp[d4]
 |(k,x)::r=>by
  have b:=IX f v r;rw[show d4 f v ((k,x)::r)=(if k=f then(k,v)::r else(k,x)::d4 f v r) from L];by_cases a:k=f
  ·rw[aA a,bV,bV];omega
  ·rw[ak a,bV,bV];omega
def gD.some_of{v:V}{o:Option aw}(r:gD (O v) o):∃u,o=O u/\RelV v u:=by
 cases o with
 |none=>exact(show False from r).elim
 |some u=>exact⟨u,L,r⟩
def gD.none_of{o:Option aw}(r:gD ai o):o=ai:=by
 cases o with
 |none=>rfl
 |some u=>exact(show False from r).elim
def IY{v:V}{u:aw}(r:RelV v u):S4 u=Y:=by
 cases v with
 |bp=>cases(show u=uj from r);rfl
 |bl b=>cases(show u=wu b from r);rfl
 |int i=>obtain⟨t,e⟩:=(show∃t,u=y6 i t from r);cases e;rfl
 |str x=>obtain⟨t,e⟩:=(show∃t,u=GZ x t from r);cases e;rfl
 |js b=>obtain⟨t,e⟩:=(show∃t,u=aeL b t from r);cases e;rfl
 |flt b=>obtain⟨t,e⟩:=(show∃t,u=aeM b t from r);cases e;rfl
 |ref a=>cases(show u=dC a from r);rfl
 |ty n=>cases(show u=rD n from r);rfl
section
variable{P:cf}{w:bR}{H H':Hp}{h h':bC}{a C dx:af}{fs fs':List (ao×V)}
def DK(aS:cQ P w H h)(e:H a=O (.ins C dx fs)):∃b,sG h a dx C b/\(∀f,gD (fs.lookup f)<|b f)/\SM b (fs.map (·.1))/\fs.length<=1000/\H dx=O (.own a):=by
 obtain⟨d,z,c,g,b,n,r,q⟩:=(show dP P w H h a (.ins C dx fs) from aS a _ e);exact⟨b,⟨g,n,c⟩,r,q,z,d⟩
end
structure fg(K:bj)(C:af):Prop where
 pg:G7 K C ao.empty=Y
 hd:S3 K C=Y
 po:ae0 K C=Y
 sa:rJ K (.ref C) "__setattr__"=O (O<|.builtin "object.__setattr__")
def fg.get{K:bj}{C:af}(c:fg K C)(f:ao):G7 K C f=Y:=c.pg
def gb(K:bj)(C:af)(f:ao):Prop:=rJ K (.ref C) f=O ai
def gb.Vg{K:bj}{C:af}{f:ao}(n:gb K C f):S6 K C f=O ai:=by
 unfold S6;rw[show rJ K (.ref C) f=O ai from n];rfl
structure Meth(K:bj)(C:af)(m:ao)(f:af):Prop where
 at_:rJ K (.ref C) m=O (O<|.ref f)
 fn:G8 K (.ref f)=Y
 kp:nB K (.ref f)=Y
section
variable{X:Cx}{pins:List (af×bz)}{U:St}{H:Hp}{s:aF}{a C dx:af}{fs:List (ao×V)}{f:ao}{v:V}{A:cG}{E:aw->aF->Prop}
def IZ{b:Bool}{Q:aw->aF->Prop}(I:Inv X pins U H s)(e:H a=O (.ins C dx fs))(c:fg X.K C)(n:gb X.K C f)(l:fs.lookup f=O v)
  (h:∀u s',Inv X pins U H s'->RelV v u->Q u s'):wpAny (bo X.prog X.w) A (CI (.ref a) f b) Q E s:=by
 obtain⟨g,j,r,_,_,_⟩:=DK I.aS e;obtain⟨u,i,d⟩:=gD.some_of (v:=v) (o:=g f) (by rw[<-l];exact r f);exact get_map I.eV j (c.get f) c.hd n i (IY d)<|h u _ (I.tok _) d
def DL{m:ao}{g:af}{pl:gQ Bool}{Q:aw×List aw->aF->Prop}(I:Inv X pins U H s)(e:H a=O (.ins C dx fs))(c:fg X.K C)(k:Meth X.K C m g)(l:fs.lookup m=ai)
  (h:Q (.ref g,[.ref a]) s):wpAny (bo X.prog X.w) A (rK (.ref a) m pl) Q E s:=by
 obtain⟨b,i,r,_,_,_⟩:=DK I.aS e;have d:b m=ai:=gD.none_of (by rw[<-l];exact r m);exact Vd I.eV i (c.get m) k.at_ k.fn d h
def Ja{y:V}{u:aw}{Q:Unit->aF->Prop}(I:Inv X pins U H s)(e:H a=O (.ins C dx fs))(c:fg X.K C)(n:gb X.K C f)(N:fs.length<1000)(m:RelV y u)
  (h:∀s',Inv X pins U (upd H a<|.ins C dx<|d4 f y fs) s'->Q () s'):wpAny (bo X.prog X.w) A (G9 (.ref a) f u) Q E s:=by
 obtain⟨j,i,r,k,_,l⟩:=DK I.aS e;have p:(fs.map (·.1)).length<=br:=by rw[bH,b9];omega
 refine Ve I.eV i c.sa c.po n.Vg c.hd k p λt d w=>h _ ?_;have x:∃o,t.get? dx=O o:=let⟨o,_,_,B,_⟩:=d.ns;⟨o,B⟩;refine I.write (x:=a) (e:=dx) (by rw[e];exact rM) (.inr l) (λb q D z=>(w.2 b D).trans z) x ?_;refine⟨by rw[aX i.ne];exact l,?_,i.ne,d.obj,_,d.ns,λg=>?_,λg M=>?_⟩
 ·have:=IX f y fs;omega
 ·show gD ((d4 f y fs).lookup g) (if g=f then O u else j g);rw[IW];by_cases q:g=f
  ·rw[aA q,aA q];exact m
  ·rw[ak q,ak q];exact r g
 ·by_cases q:g=f
  ·rw[q];exact(DJ f y fs).1
  ·refine(DJ f y fs).2 g<|k g λz=>M ?_;show(if g=f then O u else j g)=ai;rw[ak q];exact z
def Inv.made(I:Inv X pins U H s):Inv X pins U (upd (upd H s.heap.objs.size<|.own<|s.heap.objs.size+1) (s.heap.objs.size+1)<|.ins C s.heap.objs.size [])
  {s with heap:=(s.heap.push rL).push<|uk C s.heap.objs.size}:=by
 have c:(s.heap.push rL).get? s.heap.objs.size=O rL:=iS s.heap L;have g:((s.heap.push rL).push<|uk C s.heap.objs.size).get? (s.heap.objs.size+1)=O (uk C s.heap.objs.size):=by
  have:=iS (s.heap.push rL) (o:=uk C s.heap.objs.size) L;rwa [nE] at this
 have h:(s.heap.push rL).Ns s.heap.objs.size (λ_=>ai):=⟨rL,#[],_,c,L,(λe i=>absurd i aT),λ_=>rfl⟩;have j:=I.laid (a:=s.heap.objs.size) (o:=.own<|s.heap.objs.size+1) (h':=s.heap.push rL) (t':=s.toks) (λb u q=>fk _ q) (bG _) ⟨_,c⟩;refine j.laid (a:=s.heap.objs.size+1) (o:=.ins C s.heap.objs.size []) (t':=s.toks) (λb u q=>fk _ q) (Hb<|nE _ _) ?_;have d:s.heap.objs.size≠s.heap.objs.size+1:=gj<|wG _;refine⟨by rw[aX d,ba],dD _,d,g,λ_=>ai,(ae5 h).at λo q=>fk _ q,λ_=>rM,λy k=>absurd L k⟩
def Jb{prog:cf}{w:bR}{b:dj}{e:bF}{f:ao}{c:cK}{s:aF}{Q:aw->aF->Prop}(d:rN e f b (eval e b)=eval e b)
  (h:wpAny (bo prog w) A (eval e b) (λo s₁=>wpAny (bo prog w) A (CI o f Y) Q E s₁) E s):wpAny (bo prog w) A (eval (.Attribute e f c) b) Q E s:=
 Attribute_any_ h (by rw[arm_eval_Attribute,d])
end
def cz(K:bj)(d:TE)(f:ao):TE:=λU H Q=>d U H λx b=>∃a C e c v,x= .ref a/\b a=O (.ins C e c)/\fg K C/\gb K C f/\c.lookup f=O v/\Q v b
def cH(K:bj)(e g:TE)(f:ao):TS:=λD U H=>g U H λy h=>e U h λx c=>∃a C d b,x= .ref a/\c a=O (.ins C d b)/\fg K C/\gb K C f/\b.length<1000/\
 D.nx U (upd c a<|.ins C d<|d4 f y b)
def Jc(X:Cx)(b:CF)(c:V->V->Hp->VK->Prop):Prop:=
 ∀(a:List (af×bz))(s:aF)(U:St)(H:Hp)(x y:V)(u v:aw)(Q:VK),Inv X a U H s->RelV x u->RelV y v->c x y H Q->wpAny (bo X.prog X.w) X.A (S0 b u v) (EP X a U Q) X.xe s
def Jd(K:bj)(h i:TE)(j:V->V->Hp->VK->Prop)(f:ao):TS:=λD U H=>h U H λx d=>∃a C k e v,x= .ref a/\d a=O (.ins C k e)/\fg K C/\gb K C f/\e.lookup f=O v/\
 i U d λy l=>j v y l λz g=>∃c b,g a=O (.ins C c b)/\b.length<1000/\D.nx U (upd g a<|.ins C c<|d4 f z b)
section
variable{X:Cx}{o e value:bF}{f:ao}{pos pos' tpos:cK}{ta tv:TE}
def Je(d:PE X e ta)(g:rN e f X.env (eval e X.env)=eval e X.env):PE X (.Attribute e f pos) (cz X.K ta f):=by
 intro b s U H Q I h;refine Jb g<|bu (d b s U H _ I h) λu w ⟨x,i,j,k,a,C,y,z,v,m,p,c,n,l,q⟩=>?_;subst m;obtain rfl:u=dC a:=k;exact IZ j p c n l λA B r t=>⟨v,i,r,t,q⟩
def bP(d:PE X o ta)(g:PE X value tv)(hs:nA value (O<|.Attribute o f pos') pos.line X.env=pure ax):PS X (.Assign [.Attribute o f pos'] value pos) (cH X.K ta tv f):=by
 intro b s U H D I h;refine ae6 (bu (g b s U H _ I h) λu i ⟨y,j,k,m,q⟩=>bu (d b i U j _ k q) λp B ⟨x,E,r,t,a,C,M,N,v,w,c,n,l,z⟩=>?_) hs;subst v;obtain rfl:p=dC a:=t;exact Ja r w c n l m λQ A=>⟨U,_,A,z⟩
def xq{d:CF}{g:V->V->Hp->VK->Prop}(k:PE X o ta)(l:PE X value tv)(i:Jc X d g):PS X (.AugAssign (.Attribute o f tpos) d value pos) (Jd X.K ta tv g f):=by
 intro b s U H au I h;refine wpAny_AugAssign_AttributeAny<|bu (k b s U H _ I h) λm s1 ⟨av,p,q,r,a,ay,dx,fs,aa,t,u,c,n,ab,ae⟩=>?_;subst t;obtain rfl:m=dC a:=r;refine IZ q u c n ab λag v w x=>bu (l b v U p _ w ae) λy z ⟨ah,A,B,C,D⟩=>bu (i b z U A aa ah ag y _ B x C D) λw4 s4 ⟨az,H3,E,M,aq,ar,j,N,Q⟩=>?_;exact Ja E j c n N M λs5 T=>⟨U,_,T,Q⟩
def Jf:V->V->Hp->VK->Prop:=λx y H Q=>∃i j,x= .int i/\y= .int j/\Q (.int<|i+j) H
def xr:Jc X .Add Jf:=by
 rintro d s U H x y u v Q I b c ⟨i,j,rfl,rfl,q⟩;obtain⟨t,rfl⟩:=(show∃t,u=y6 i t from b);obtain⟨a,rfl⟩:=(show∃a,v=y6 j a from c);exact ahz ⟨.int<|i+j,H,I.tok _,⟨_,L⟩,q⟩
def agS{pl:gQ Bool}{m:ao}{d:cK}{args:List bF}{pins:List (af×bz)}{s:aF}{U:St}{H:Hp}{Q:aw->aF->Prop}{j:TE}(r:PE X e j)(I:Inv X pins U H s)
  (h:j U H λx i=>∃a C dx fs g,x= .ref a/\i a=O (.ins C dx fs)/\fg X.K C/\Meth X.K C m g/\fs.lookup m=ai/\
   ∀b,Inv X pins U i b->wpAny (bo X.prog X.w) X.A (uz pos (.ref g) [.ref a] (eP pos<|bS args X.env)<|qg pos<|qi [] X.env) Q X.xe b)
  (t:eval (.Call (.Attribute e m d) args [] pos) X.env=(do
   let n<-eval e X.env
   uv d.atName
   let(f,first)<-uw [n] (rK n m pl)
   uz pos f first (eP pos<|bS args X.env) (qg pos<|qi [] X.env))):
  wpAny (bo X.prog X.w) X.A (eval (.Call (.Attribute e m d) args [] pos) X.env) Q X.xe s:=by
 refine Hc (pl:=pl) (bu (r pins s U H _ I h) λu b ⟨x,i,p,v,a,C,dx,fs,g,w,y,c,k,l,q⟩=>?_) t;subst w;obtain rfl:u=dC a:=v;exact DL p y c k l<|q b p
end
section
variable{X:Cx}{pins:List (af×bz)}{U:St}{H:Hp}{s:aF}{A:cG}{E:aw->aF->Prop}{Q:aw->aF->Prop}{c:aw}{b:Bool}
end
structure cZ(k:Nat)(A:cG):Prop where
 hd:A.handled=ai
 dp:A.depth+3*k+5<ae7
 un:A.units+16*k+200<i7
def cZ.mono{j k:Nat}{A:cG}(r:cZ k A)(h:j<=k):cZ j A:=⟨r.hd,by have:=r.dp;omega,by have:=r.un;omega⟩
def cZ.deeper{k:Nat}{A:cG}(r:cZ (k+1) A)(a:dj):cZ k (A.deeper a):=
 ⟨r.hd,by have:=r.dp;show A.depth+1+3*k+5<_;omega,by have:=r.un;show A.units+3+16*k+200<_;omega⟩
def Vh{A:cG}{C:af}{us:List aw}{a:List (ao×aw)}:(A.under<|.builtin "type.__call__" ⟨.ref C::us,a⟩).depth=A.depth+1:=by
 first|rfl|simp[S7,Code.weight,Code.isCreation,Code.isGuard,Code.isCaller,ae8,S8,guardIds]
def Vi{A:cG}{C:af}{us:List aw}{a:List (ao×aw)}:(A.under<|.builtin "type.__call__" ⟨.ref C::us,a⟩).units=A.units+1:=by
 first|rfl|simp[S7,Code.cUnits,ae8,S8]
def cZ.make{k:Nat}{A:cG}(r:cZ (k+1) A)(C:af)(us:List aw)(a:List (ao×aw)):cZ k (A.under<|.builtin "type.__call__" ⟨.ref C::us,a⟩):=
 ⟨r.hd,by have:=r.dp;rw[Vh];omega,by have:=r.un;rw[Vi];omega⟩
def cZ.depth{k:Nat}{A:cG}(r:cZ k A):A.depth<ae7:=by have:=r.dp;omega
def cZ.units{k:Nat}{A:cG}(r:cZ k A):A.units+64<i7:=by have:=r.un;omega
def aW:TA:=λ_ H Q=>Q [] H
def aN(a:TE)(b:TA):TA:=λU H Q=>a U H λx c=>b U c λd e=>Q (x::d) e
section
variable{X:Cx}{e:bF}{es:List bF}{te:TE}{t:TA}{pos:cK}
def gv:PA X [] aW:=λ_ _ _ _ H Q I h=>He ⟨[],H,I,.nil,h⟩
def aP(c:PE X e te)(d:PA X es t)(hs:bS (e::es) X.env=(ax,eval e X.env)::bS es X.env:=by rfl):PA X (e::es) (aN te t):=by
 intro b a s U H Q I h;rw[hs];show wpAny _ _ (spliced<|(ax,eval e X.env)::eP b (bS es X.env)) _ _ s;refine wH<|bu (c a s U H _ I h) λu f ⟨x,g,i,j,k⟩=>?_;exact bu (d b a f U g _ i k) λq r ⟨l,m,n,o,p⟩=>⟨x::l,m,n,.cons j o,p⟩
def DM(t:TA):TE:=λU H Q=>t U H λa b=>a.length<=br/\∀p,b p=ai->Q (.ref p) (upd b p<|.tup a)
def pj(t:TA):TE:=λU H Q=>t U H λa b=>a.length<=br/\∀p,b p=ai->Q (.ref p) (upd b p<|.lst a)
def zX{g}(h:PA X es t):PE X (.Tuple es g pos) (DM t):=by
 intro f s U H Q I i;refine wpAny_Tuple_spliced<|bu (h pos f s U H _ I i) λj a ⟨k,c,d,r,z,q⟩=>⟨by rw[<-r.length];exact z,?_⟩;have l:c a.heap.objs.size=ai:=d.aS.fresh<|bG _;refine⟨.ref a.heap.objs.size,upd c a.heap.objs.size<|.tup k,d.laid (t':=a.toks) (λb u m=>fk _ m) (bG _) ?_,L,q _ l⟩;exact⟨z,j,r,⟨_,iS _ rfl,L,_,L⟩⟩
def bQ(h:PA X es t):PE X (.List es pos) (pj t):=by
 intro f s U H Q I g;refine wpAny_List_spliced<|bu (h pos f s U H _ I g) λi a ⟨j,c,d,r,z,q⟩=>⟨by rw[<-r.length];exact z,?_⟩;have k:c a.heap.objs.size=ai:=d.aS.fresh<|bG _;refine⟨.ref a.heap.objs.size,upd c a.heap.objs.size<|.lst j,d.laid (t':=a.toks) (λb u l=>fk _ l) (bG _) ?_,L,q _ k⟩;exact⟨z,i,0,r,iS _ rfl⟩
end
abbrev Sp:=List V->Hp->VK->XK->Prop
abbrev kH:=List dj->Hp->aF->XK->aw->aF->Prop
structure qv(P:cf)(w:bR)(K:bj)(mg:ao->Option aw)(base:bC)(A:cG)(outer:List dj)(s:aF)(H:Hp):Prop where
 frames:A.frames=O outer
 mod:Mod K mg base
 bs:∀b o,base.get? b=O o->s.heap.get? b=O o/\H b=ai
 lG:base.objs.size<=s.heap.objs.size
 jM:s.heap.FunFrames base outer
 nQ:∀b∈fH outer,H b=ai
 aS:cQ P w H s.heap
 bare:rG s.gens
def CE(b:List dj)(P:cf)(w:bR)(H:Hp)(s:aF)(Q:VK)(u:aw)(s':aF):Prop:=
 ∃v a,s'.os=s.os/\rG s'.gens/\Un (fH b) [] H a s.heap s'.heap/\cQ P w a s'.heap/\RelV v u/\Q v a
def CR(CX:kH)(a:List dj)(P:cf)(w:bR)(H:Hp)(s:aF)(Q:VK)(E:XK)(r:CJ)(s':aF):Prop:=
 match r with
 |.ok (.ret u)=>CE a P w H s Q u s'
 |.ok _=>False
 |.error e=>CX a H s E e s'
structure dH(P:cf)(w:bR)(K:bj)(mg:ao->Option aw)(base:bC)(CX:kH)(k:Nat)(f:af)(fd:iT)(ps:List ao)(sp:Sp):Prop where
 len:∀vs H Q E,sp vs H Q E->vs.length=ps.length
 run:∀(A:cG)(outer:List dj)(s:aF)(H:Hp)(args:Args)(us:List aw)(vs:List V)(Q:VK)(E:XK),cZ k A->qv P w K mg base A outer s H->wI s fd args (ps.zip us)->Vals vs us->sp vs H Q E->
  codeAny (bo P w) A (.call (.ref f) args) (CR CX outer P w H s Q E) s
def dH.mono{P:cf}{w:bR}{K:bj}{a:ao->Option aw}{base:bC}{CX:kH}{j k:Nat}{f:af}{b:iT}{ps:List ao}{sp:Sp}(F:dH P w K a base CX j f b ps sp)(h:j<=k):
  dH P w K a base CX k f b ps sp:=⟨F.len,λA c s H args d e Q E g=>F.run A c s H args d e Q E (g.mono h)⟩
def qv.make{P:cf}{w:bR}{K:bj}{b:ao->Option aw}{base:bC}{A:cG}{a:List dj}{s:aF}{H:Hp}(e:qv P w K b base A a s H)(C:af)(us:List aw)(c:List (ao×aw)):
  qv P w K b base (A.under<|.builtin "type.__call__" ⟨.ref C::us,c⟩) a s H:=⟨by first|exact e.frames|(simpa[S7,Code.envs,S8,pushEnvs] using e.frames),e.mod,e.bs,e.lG,e.jM,e.nQ,e.aS,e.bare⟩
section
variable{X:Cx}{pins:List (af×bz)}{U:St}{H:Hp}{s s':aF}
def Inv.zY(I:Inv X pins U H s):qv X.prog X.w X.K X.mg X.base X.A X.stack s H:=
 ⟨I.ok.frames,I.ok.mod,I.bs,eO I.ok.lG I.sz,I.stack,I.Dv,I.aS,I.bare⟩
def Inv.after{Q:VK}{u:aw}(I:Inv X pins U H s)(h:CE X.stack X.prog X.w H s Q u s'):EP X pins U Q u s':=by
 obtain⟨v,e,os,a,f,aS,r,q⟩:=h;obtain⟨i,g,d,t,c⟩:=s';obtain rfl:c=s.os:=os;exact⟨v,e,I.call (h':=i) (g':=g) (d':=d) (t':=t) (ch:=[]) f aS a<|λb z=>absurd z aT,r,q⟩
end
def cA(sp:Sp)(a:List V)(E:XK)(t:TA):TE:=λU H Q=>t U H λb c=>sp (b++a) c Q E
def gX(C:af)(m:ao)(sp:Sp)(d:List V)(E:XK)(e:TE)(t:TA):TE:=λU H Q=>e U H λx b=>∃a f c,x= .ref a/\b a=O (.ins C f c)/\c.lookup m=ai/\
 t U b λg h=>sp (x::(g++d)) h Q E
def iZ(C:af)(sp:Sp)(c:List V)(E:XK)(t:TA):TE:=λU H Q=>t U H λd b=>∀x a,b x=ai->b a=ai->a≠x->
 sp (.ref x::(d++c)) (upd (upd b a<|.own x) x<|.ins C a []) (λv e=>v= .bp/\Q (.ref x) e) E
def Binds(K:bj)(c:iT)(ps:List ao)(b:List aw):Prop:=
 ∀(s:aF)(a:List aw),K.In s.heap->(a++b).length=ps.length->wI s c ⟨a,[]⟩ (ps.zip<|a++b)
def Binds.all{K:bj}{a:iT}{ps:List ao}(h:∀us:List aw,us.length=ps.length->y9 a ⟨us,[]⟩=pure (ps.zip us)):Binds K a ps []:=λs us _ b=>by
 rw[gp] at b⊢;exact .of_eq<|h us b
def Passes(CX:kH)(X:Cx)(E:XK):Prop:=∀(b:List (af×bz))(U:St)(H:Hp)(s:aF)(e:aw)(a:aF),Inv X b U H s->CX X.stack H s E e a->X.xe e a
section
variable{X:Cx}{CX:kH}{k:Nat}{f C:af}{fd:iT}{ps:List ao}{sp:Sp}{dvs:List V}{ds:List aw}{E:XK}{x m:ao}{p pos apos:cK}{e o:bF}{es:List bF}{ta:TE}{t:TA}
def zZ{pins:List (af×bz)}{U:St}{H:Hp}{s:aF}{Q:VK}{us:List aw}{vs:List V}(F:dH X.prog X.w X.K X.mg X.base CX k f fd ps sp)(c:cZ k X.A)(d:Binds X.K fd ps ds)(g:Vals dvs ds)(i:Passes CX X E)
  (I:Inv X pins U H s)(r:Vals vs us)(h:sp (vs++dvs) H Q E):wpAny (bo X.prog X.w) X.A (call (.ref f) us) (EP X pins U Q) X.xe s:=by
 have b:Vals (vs++dvs) (us++ds):=r.append g;have j:(us++ds).length=ps.length:=by rw[<-b.length];exact F.len _ _ _ _ h
 refine CK<|uA (F.run X.A X.stack s H ⟨us,[]⟩ (us++ds) (vs++dvs) Q E c I.zY (d s us I.eV j) b h) λr l a=>?_;cases r with
 |error q=>exact i pins U H s q l I a
 |ok n=>
  cases n with
  |ret u=>exact I.after a
  |next=>exact fY a
  |brk=>exact fY a
  |cont=>exact fY a
def Vj(F:dH X.prog X.w X.K X.mg X.base CX k f fd ps sp)(g:cZ k X.A)(i:Gl X x)(j:X.mg x=O (.ref f))(l:nB X.K (.ref f)=Y)(n:Binds X.K fd ps ds)(u:Vals dvs ds)(v:Passes CX X E)
  (w:PA X (e::es) t)(c:(x==("__debug__":ao))=ax:=by decide)(y:bS (e::es) X.env=(ax,eval e X.env)::bS es X.env:=by rfl)(d:(eP pos<|bS es X.env).any (·.1)=ax:=by rfl):
  PE X (.Call (.Name x p) (e::es) [] pos) (cA sp dvs E t):=by
 intro b s U H Q I h;refine uB<|sx I i j ?_ c;refine zc (h₀:=X.base) I.ok.mod.oY l (bu (w pos b s U H _ I h) λz A ⟨B,D,a,r,q⟩=>⟨a.eV,?_⟩) y d;exact zZ F g n u v a r q
def Vk{pl:gQ Bool}(n:PE X o ta)(c:fg X.K C)(d:Meth X.K C m f)(F:dH X.prog X.w X.K X.mg X.base CX k f fd ps sp)(q:cZ k X.A)(r:Binds X.K fd ps ds)(u:Vals dvs ds)(v:Passes CX X E)(w:PA X (e::es) t)
  (j:bS (e::es) X.env=(ax,eval e X.env)::bS es X.env:=by rfl)(l:(eP pos<|bS es X.env).any (·.1)=ax:=by rfl)
  (y:eval (.Call (.Attribute o m apos) (e::es) [] pos) X.env=(do
   let g<-eval o X.env
   uv apos.atName
   let(f,first)<-uw [g] (rK g m pl)
   uz pos f first (eP pos<|bS (e::es) X.env) (qg pos<|qi [] X.env)):=by rfl):
  PE X (.Call (.Attribute o m apos) (e::es) [] pos) (gX C m sp dvs E ta t):=by
 intro b s U H aq I aa;refine Hc (pl:=pl) (bu (n b s U H _ I aa) λab z ⟨x,A,h,B,a,dx,fs,D,M,ae,ag⟩=>?_) y;subst D;obtain rfl:ab=dC a:=B;refine DL h M c d ae ?_;refine zc (first:=[.ref a]) (h₀:=X.base) I.ok.mod.oY d.kp (bu (w pos b z U A _ h ag) λN s2 ⟨Q,H2,i,ah,T⟩=>⟨i.eV,?_⟩) j l;exact zZ (us:=.ref a::N) (vs:=.ref a::Q) F q r u v i (.cons L ah) T
def Vl{pl:gQ Bool}(j:PE X o ta)(c:fg X.K C)(d:Meth X.K C m f)(F:dH X.prog X.w X.K X.mg X.base CX k f fd ps sp)(n:cZ k X.A)(r:Binds X.K fd ps ds)(v:Vals dvs ds)(w:Passes CX X E)
  (y:eval (.Call (.Attribute o m apos) [] [] pos) X.env=(do
   let g<-eval o X.env
   uv apos.atName
   let(f,first)<-uw [g] (rK g m pl)
   uz pos f first (eP pos<|bS [] X.env) (qg pos<|qi [] X.env)):=by rfl):
  PE X (.Call (.Attribute o m apos) [] [] pos) (gX C m sp dvs E ta aW):=by
 intro i s U H Q I h;refine Hc (pl:=pl) (bu (j i s U H _ I h) λu D ⟨x,M,b,z,a,N,T,A,B,l,q⟩=>?_) y;subst A;obtain rfl:u=dC a:=z;refine DL b B c d l ?_;exact ae9 (first:=[.ref a]) b.eV d.kp<|zZ (us:=[.ref a]) (vs:=[.ref a]) F n r v w b (.cons rfl .nil) q
structure Mk(K:bj)(C f:af):Prop where
 makes:ae3 K C=Y
 init:rJ K (.ref C) "__init__"=O (O<|.ref f)
 fn:G8 K (.ref f)=Y
 kp:nB K (.ref C)=Y
def Jg{pins:List (af×bz)}{U:St}{H:Hp}{s:aF}{Q:VK}{us:List aw}{vs:List V}(M:Mk X.K C f)(F:dH X.prog X.w X.K X.mg X.base CX k f fd ps sp)(i:cZ (k+1) X.A)(j:Binds X.K fd ps ds)(l:Vals dvs ds)
  (n:Passes CX X E)(I:Inv X pins U H s)(r:Vals vs us)
  (h:∀x dx,H x=ai->H dx=ai->dx≠x->sp (.ref x::(vs++dvs)) (upd (upd H dx<|.own x) x<|.ins C dx []) (λv q=>v= .bp/\Q (.ref x) q) E):
  wpAny (bo X.prog X.w) X.A (call (.ref C) us) (EP X pins U Q) X.xe s:=by
 have d:=h (s.heap.objs.size+1) s.heap.objs.size (I.aS.fresh<|S9 _) (I.aS.fresh<|bG _)<|gj<|wG _;have b:=Inv.made (C:=C) I;have g:Vals (V.ref (s.heap.objs.size+1)::(vs++dvs)) (dC (s.heap.objs.size+1)::(us++ds)):=.cons L<|r.append l;have w:(dC (s.heap.objs.size+1)::us++ds).length=ps.length:=by
  have c:=g.length;rw[F.len _ _ _ _ d] at c;exact c.symm
 refine CK (Vf (f:=f) I.eV M.makes M.init (fB.mp M.fn) (uA (F.run _ X.stack _ _ ⟨dC (s.heap.objs.size+1)::us,[]⟩ (dC (s.heap.objs.size+1)::(us++ds)) _ _ E (i.make C us [])
  (b.zY.make C us []) (j _ (dC (s.heap.objs.size+1)::us) b.eV w) g d) λr y a=>?_))
 cases r with
 |error c=>exact n pins U _ _ c y b a
 |ok z=>
  cases z with
  |ret u=>
   obtain⟨v,A,B,D,N,T⟩:=b.after a;subst N;exact⟨D,⟨V.ref<|s.heap.objs.size+1,A,B,L,T⟩⟩
  |next=>exact fY a
  |brk=>exact fY a
  |cont=>exact fY a
def Vm(M:Mk X.K C f)(F:dH X.prog X.w X.K X.mg X.base CX k f fd ps sp)(g:cZ (k+1) X.A)(i:Gl X x)(j:X.mg x=O (.ref C))(l:Binds X.K fd ps ds)(n:Vals dvs ds)(u:Passes CX X E)
  (v:PA X (e::es) t)(c:(x==("__debug__":ao))=ax:=by decide)(w:bS (e::es) X.env=(ax,eval e X.env)::bS es X.env:=by rfl)(d:(eP pos<|bS es X.env).any (·.1)=ax:=by rfl):
  PE X (.Call (.Name x p) (e::es) [] pos) (iZ C sp dvs E t):=by
 intro b s U H Q I h;refine uB<|sx I i j ?_ c;refine zc (h₀:=X.base) I.ok.mod.oY M.kp (bu (v pos b s U H _ I h) λy z ⟨A,B,a,r,q⟩=>⟨a.eV,?_⟩) w d;exact Jg M F g l n u a r q
def Vn(M:Mk X.K C f)(F:dH X.prog X.w X.K X.mg X.base CX k f fd ps sp)(b:cZ (k+1) X.A)(c:Gl X x)(d:X.mg x=O (.ref C))(g:Binds X.K fd ps ds)(i:Vals dvs ds)(j:Passes CX X E)
  (a:(x==("__debug__":ao))=ax:=by decide):PE X (.Call (.Name x p) [] [] pos) (iZ C sp dvs E aW):=by
 intro l s U H Q I h;refine uB<|sx I c d ?_ a;exact ae9 I.eV M.kp<|Jg (us:=[]) M F b g i j I .nil h
end
section
variable{X:Cx}{CX:kH}{k:Nat}{f C:af}{fd:iT}{ps ks:List ao}{sp:Sp}{E:XK}{x m:ao}{p pos apos kpos:cK}{e o:bF}{es:List bF}{kws:List CL}{te ta:TE}{t tk:TA}{nm:Option ao}
variable{g:List aw->List aw->List aw}{gV:List V->List V->List V}
end
structure mL(N P:List ao)(sc:gk):Prop where
 kind:sc.kind= .function
 co:sc.isCoroutine=ax
 gen:sc.isGenerator=ax
 nd:N.Nodup
 pre:N.take P.length=P
 par:∀x∈P,sc.names.lookup x=O .local ∨sc.names.lookup x=O .cell
 Vo:∀y∈sc.names,y.2≠ .free
def Jh{kindOf:ao->Option j1}{x:ao}:∀{a:List (ao×aw)}{m:ao->Option aw},(∀v,(x,v)∉a)->uC kindOf a m x=m x
 |[],_,_=>rfl
 |(n,v)::r,m,h=>by
  unfold uC;rw[Jh λw b=>h w<|dS _ b];split
  ·have:x≠n:=by rintro rfl;exact h v dY
   simp[this]
  ·rfl
def Ji{kindOf:ao->Option j1}{x:ao}:∀{a:List (ao×aw)}{m:ao->Option aw},(∀v,(x,v)∉a)->uD kindOf a m x=m x
 |[],_,_=>rfl
 |(n,v)::r,m,h=>by
  unfold uD;rw[Ji λw b=>h w<|dS _ b];split
  ·rfl
  ·have:x≠n:=by rintro rfl;exact h v dY
   simp[this]
def Jj{kindOf:ao->Option j1}{x:ao}{v:aw}:∀{P:List ao}{vs:List aw}{i:Nat}{m:ao->Option aw},P.Nodup->P[i]?=O x->vs[i]?=O v->kindOf x=O .local ->
  uC kindOf (P.zip vs) m x=O v
 |[],_,_,_,_,h,_,_=>by simp at h
 |_::_,[],_,_,_,_,h,_=>by simp at h
 |p::P,w::vs,0,m,c,a,b,d=>by
  simp at a b;subst a;subst b;show uC kindOf ((p,w)::P.zip vs) m p=_;unfold uC;rw[Jh λv e=>(CM.mp c).1 (Ta e).1,aA d];simp
 |p::P,w::vs,i+1,m,c,a,b,d=>by
  show uC kindOf ((p,w)::P.zip vs) m x=_;unfold uC;exact Jj (i:=i) (CM.mp c).2 (by simpa using a) (by simpa using b) d
def Jk{kindOf:ao->Option j1}{x:ao}{v:aw}:∀{P:List ao}{vs:List aw}{i:Nat}{m:ao->Option aw},P.Nodup->P[i]?=O x->vs[i]?=O v->kindOf x≠O .local ->
  uD kindOf (P.zip vs) m x=O v
 |[],_,_,_,_,h,_,_=>by simp at h
 |_::_,[],_,_,_,_,h,_=>by simp at h
 |p::P,w::vs,0,m,c,a,b,d=>by
  simp at a b;subst a;subst b;show uD kindOf ((p,w)::P.zip vs) m p=_;unfold uD;rw[Ji λv e=>(CM.mp c).1 (Ta e).1,ak d];simp
 |p::P,w::vs,i+1,m,c,a,b,d=>by
  show uD kindOf ((p,w)::P.zip vs) m x=_;unfold uD;exact Jk (i:=i) (CM.mp c).2 (by simpa using a) (by simpa using b) d
def start(N:List ao)(vs:List V):St:=vs.map O++zd (N.length-vs.length) ai
def jf(CX:kH)(P:cf)(w:bR)(K:bj)(h:ao->Option aw)(base:bC)(N:List ao)(b:ao)(a:gk)(f:af)(c:aw)(A:cG)(d:List dj)(s:aF)(H:Hp)(E:XK):Cx where
 prog:=P
 w:=w
 K:=K
 mg:=h
 base:=base
 A:=A.deeper (j2 b a s.heap.objs.size f c)
 N:=N
 eA:=s
 iX:=H
 env:=j2 b a s.heap.objs.size f c
 outer:=d
 stack:=j2 b a s.heap.objs.size f c::d
 ex:=[]
 calm:=Y
 fn:=λ_=>Y
 pn:=[]
 xe:=λe i=>wpAny (bo P w) (A.deeper<|j2 b a s.heap.objs.size f c) (ze (j2 b a s.heap.objs.size f c) e) (λ_ g=>CX d H s E e g) (λj g=>CX d H s E j g) i
def Jl{a:gk}{n:Nat}{x:ao}(h:a.names.lookup x=O .cell):∃c,(iy n a.names []).lookup x=O c:=by
 have q:=afa a.names n []<|.inl h;exact zf.mp q
def Vp{CX:kH}{P:cf}{w:bR}{K:bj}{v:ao->Option aw}{base:bC}{N ps:List ao}{m:ao}{g:gk}{f:af}{n:aw}{A:cG}{t:List dj}{s C:aF}{H:Hp}{E:XK}{us:List aw}{vs:List V}
  (S:mL N ps g)(M:A.handled=ai)(d:qv P w K v base A t s H)(hl:vs.length=ps.length)(r:Vals vs us)
  (x:InCallC s s.heap.objs.size (uC (j2 m g s.heap.objs.size f n).kindOf (ps.zip us) λ_=>ai) (iy (s.heap.objs.size+1) g.names []) (uD (j2 m g s.heap.objs.size f n).kindOf (ps.zip us) λ_=>ai) C):
  Inv (jf CX P w K v base N m g f n A t s H E) [] (start N vs) H C:=by
 have ag:ps.length<=N.length:=by have:=fG fZ S.pre;rw[gA] at this;omega
 obtain⟨o,tk,rfl,D⟩:=x.done;have u:∀b:af,b∉(jf CX P w K v base N m g f n A t s H E).ex:=λb z=>absurd (show b∈([]:List af) from z) aT;refine⟨⟨d.mod,S.kind,L,L,bG _,λy z c o a=>?_,λy j=>?_,λy c _ h=>?_,λ_=>M,cG.frames_deeper d.frames,.inr ⟨L,L⟩,λb z=>absurd z (u b),d.bs,d.lG,λb _ _=>u b,λb z=>absurd z (u b),d.jM,d.nQ⟩,
  rfl,d.bare,Un.kept D,⟨_,x.toInCall.ns,λi y aa o a h3=>?_⟩,λy c h=>⟨_,x.cell y c h⟩,d.aS.fresh<|bG _,λy c h=>?_,λab l=>absurd (show ab∈([]:List (af×bz)) from l) aT,d.aS.kept D,?_⟩
 ·exact name_of_addr x.apart (kn o)<|kn a
 ·have j:g.names.lookup y=O .cell∨g.names.lookup y=O .free:=j;rcases j with j|j
  ·exact Jl j
  ·exact absurd L (S.Vo _ (kn j))
 ·exact G1<|x.above y c<|kn h
 ·have p:i<vs.length:=by
   unfold start at a;by_cases p:i<vs.length
   ·exact p
   ·rw[Tc (by simpa using p)] at a;rw[afb] at a;split at a<;>cases a
  have Q:vs[i]?=O aa:=by
   unfold start at a;rw[Td (by simpa using p),eU] at a;cases e:vs[i]?with
   |none=>rw[e] at a;cases a
   |some ah=>rw[e] at a;cases a;rfl
  obtain⟨ae,I,T⟩:=r.get Q;have l:ps[i]?=O y:=by
   rw[<-S.pre,List.getElem?_take_of_lt aG];exact o
  have B:ps.Nodup:=by rw[<-S.pre];exact S.nd.sublist<|Hf _ _
  refine⟨ae,T,?_⟩;rcases S.par y (ei l) with k|k
  ·exact .inl ⟨k,Jj B l I k⟩
  ·obtain⟨c,e⟩:=Jl (n:=s.heap.objs.size+1) k;refine .inr ⟨.inl k,c,e,?_⟩;have q:=x.cell y c e;rw[Jk B l I (by show g.names.lookup y≠_;rw[k];decide)] at q;exact q
 ·exact d.aS.fresh<|G1<|x.above y c<|kn h
 ·unfold start;show _=N.length;rw[aV,bH,List.length_replicate];omega
def Jm{CX:kH}{P:cf}{w:bR}{K:bj}{l:ao->Option aw}{base:bC}{k:Nat}{f:af}{name d:ao}{x:Arguments}{m:List eT}{a:gk}{C kV z D g I oc:aw}{M od:Option af}
  {ag:Array (Option aw)}{N ps:List ao}{sp:Sp}(lk:K.lookup f=O ⟨oc,od,.func<|zg name d x m a C kV z D M g I,ag⟩)(ah:Te K g d=Y)(S:mL N ps a)
  (len:∀vs H Q E,sp vs H Q E->vs.length=ps.length)
  (ab:∀(A:cG)(h:List dj)(s:aF)(H:Hp)(vs:List V)(Q:VK)(E:XK),cZ k (A.deeper<|j2 d a s.heap.objs.size f g)->sp vs H Q E->
   ∃t,gF (jf CX P w K l base N d a f g A h s H E) m t/\t {nx:=λ_ H'=>Q .bp H',rt:=Q} (start N vs) H):
  dH P w K l base CX (k+1) f (zg name d x m a C kV z D M g I) ps sp:=by
 refine⟨len,λA h s H args us vs Q E n j hb ar B=>?_⟩;have hl:=len _ _ _ _ B;have T:K.In s.heap:=j.mod.oY.keeps λb o e=>(j.bs b o e).1;have aq:s.heap.NoLimit:=j.mod.nolimit.keeps λb o e=>(j.bs b o e).1;have ae:∀y∈ps.zip us,a.names.lookup y.1=O .local ∨(a.names.lookup y.1=O .cell/\((iy (s.heap.objs.size+1) a.names []).lookup y.1).isSome=Y):=λ⟨au,v⟩ hy=>by
  rcases S.par au (Ta hy).1 with q|q
  ·exact .inl q
  ·exact .inr ⟨q,afa _ _ _ (.inl q)⟩
 refine codeAny_call_function n.depth (T _ _ lk) L S.co S.gen L (PySem.W.codeRec_of T ah)<|hb _ _ _ _ ?_;refine wpAny_newFunctionEnv_cells S.kind ae λay he s1 aa=>?_;subst he;refine⟨aq.keeps aa.toInCall.keep,codeAny_func ?_⟩;obtain⟨t,ht,hq⟩:=ab A h s H vs Q E (n.deeper _) B;have av:Inv (jf CX P w K l base N d a f g A h s H E) [] (start N vs) H s1:=Vp S n.hd j hl ar aa;refine jZ (ht [] s1 (start N vs) H _ av hq) (λfl p i=>?_) λe p i=>i;have fin:∀{σ':St}{H':Hp}{v:V}{u:aw},Inv (jf CX P w K l base N d a f g A h s H E) [] σ' H' p->RelV v u->Q v H'->CE h P w H s Q u p:=
  λ{σ' H' v u} c r q=>⟨v,H',c.os,c.bare,c.base,c.aS,r,q⟩
 cases fl with
 |ret u=>
  obtain⟨v,σ',H',c,r,q⟩:=i;exact fin c r q
 |next=>
  obtain⟨σ',H',c,q⟩:=i;exact fin (v:=V.bp) (u:=uj) c L q
 |brk=>
  obtain⟨_,_,_,q⟩:=i;exact fY q
 |cont=>
  obtain⟨_,_,_,q⟩:=i;exact fY q
section
variable{X:Cx}{x:ao}{p pos:cK}{e:bF}{es:List bF}{t:TA}{id T:String}{r:List V->Hp->VK->Prop}
def gG(r:List V->Hp->VK->Prop)(t:TA):TE:=λU H Q=>t U H λa b=>r a b Q
def b6(d:lJ X (.builtin id) r)(f:Gl X x)(g:X.mg x=ai)(i:jY x=O (.builtin id))(j:PA X (e::es) t)(k:x≠"__name__":=by decide)(b:(x==("__debug__":ao))=ax:=by decide)
  (l:bS (e::es) X.env=(ax,eval e X.env)::bS es X.env:=by rfl)(c:(eP pos<|bS es X.env).any (·.1)=ax:=by rfl):PE X (.Call (.Name x p) (e::es) [] pos) (gG r t):=by
 intro a s U H Q I h;refine uB<|sy I f g i ?_ k b;exact afc (bu (j pos a s U H _ I h) λm n ⟨o,q,u,v,w⟩=>d a n U q o m Q u v w) l c
def lK(d:lJ X (.type T) r)(f:Gl X x)(g:X.mg x=ai)(i:jY x=O (.type T))(j:PA X (e::es) t)(k:x≠"__name__":=by decide)(b:(x==("__debug__":ao))=ax:=by decide)
  (l:bS (e::es) X.env=(ax,eval e X.env)::bS es X.env:=by rfl)(c:(eP pos<|bS es X.env).any (·.1)=ax:=by rfl):PE X (.Call (.Name x p) (e::es) [] pos) (gG r t):=by
 intro a s U H Q I h;refine uB<|sy I f g i ?_ k b;exact CH (bu (j pos a s U H _ I h) λm n ⟨o,q,u,v,w⟩=>d a n U q o m Q u v w) l c
end
end L2
namespace HT
open PySem PyProof.Rows
section
open PySem.SeqAt
open PySem.MeetsSeq PySem.MeetsSeq2 PySem.MeetsSeq3
end
section
variable{prog:cf}{w:bR}{A:cG}{E:aw->aF->Prop}{s:aF}
def iI(n d:Nat):Option Int->Nat
 |none=>d
 |some v=>if v<0 then(v+(n:Int)).toNat else min v.toNat n
end
end HT
namespace L2
open PySem PySem.Spec PyProof.Rows
abbrev TO:=St->Hp->(Option Int->Hp->Prop)->Prop
def PO(X:Cx)(e:Option bF)(t:TO):Prop:=
 ∀(a:List (af×bz))(s:aF)(U:St)(H:Hp)(Q:Option Int->Hp->Prop),Inv X a U H s->t U H Q->
  wpAny (bo X.prog X.w) X.A (evalPart e X.env) (λu c=>∃o b,Inv X a U b c/\IsPart u o/\Q o b) X.xe s
def xt:TO:=λ_ H Q=>Q ai H
def pw(t:TE):TO:=λU H Q=>t U H λx a=>∃i,x= .int i/\Q (O i) a
section
variable{X:Cx}{e:bF}{te:TE}{lo hi:Option bF}{tl th:TO}{pos p2:cK}
def px:PO X ai xt:=by
 intro a s U H Q I h;rw[afd];exact cu ⟨ai,H,I,.none,h⟩
def jg(h:PE X e te):PO X (O e) (pw te):=by
 intro a s U H Q I b;rw[evalPart_some];refine bu (h a s U H _ I b) λu j ⟨x,c,d,f,g⟩=>?_;obtain⟨i,rfl,q⟩:=g;obtain⟨t,rfl⟩:=f;exact⟨O i,c,d,.int i t,q⟩
def Jn(X:Cx)(r:V->Option Int->Option Int->Hp->VK->Prop):Prop:=
 ∀(a:List (af×bz))(s:aF)(U:St)(H:Hp)(x:V)(v b c:aw)(lo hi:Option Int)(d:af)(Q:VK),Inv X a U H s->RelV x v->s.heap.IsSliceOf d b c .none->IsPart b lo->IsPart c hi->r x lo hi H Q->
  ∃T id,wJ (.type T) "__getitem__"=pure (O<|.builtin id)/\s.TypeIs v T/\wpAny (bo X.prog X.w) X.A (wK v<|.ref d) (EP X a U Q) X.xe s
def sH(r:V->Option Int->Option Int->Hp->VK->Prop)(a:TE)(tl b:TO):TE:=λU H Q=>a U H λx c=>tl U c λl d=>b U d λu f=>r x l u f Q
def kI{r:V->Option Int->Option Int->Hp->VK->Prop}(g:Jn X r)(i:PE X e te)(j:PO X lo tl)(k:PO X hi th):PE X (.Subscript e (.Slice lo hi ai p2) pos) (sH r te tl th):=by
 intro b s U H Q I h;refine Tf<|bu (i b s U H _ I h) λv m ⟨x,n,o,p,q⟩=>?_;refine wpAny_Slice<|bu (j b m U n _ o q) λc t ⟨l,w,y,z,A⟩=>bu (k b t U w _ y A) λd a ⟨u,f,B,C,D⟩=>?_;rw[afd];refine cu ?_;have E:Inv X b U f {a with heap:=a.heap.push {cls:=.type "slice",data:=.fields #[c,d,.none]}}:=B.kept (t':=a.toks) λab ob aa=>fk _ aa;obtain⟨ae,id,M,N,T⟩:=g b {a with heap:=a.heap.push {cls:=.type "slice",data:=.fields #[c,d,.none]}} U f x v c d l u a.heap.objs.size Q E p (ahA ..) z C D;show wpAny (bo X.prog X.w) X.A (Tg e (.Slice lo hi ai p2) v<|.ref a.heap.objs.size) (EP X b U Q) X.xe {a with heap:=a.heap.push {cls:=.type "slice",data:=.fields #[c,d,.none]}};exact tail_any (ops:=[.ref a.heap.objs.size,v]) N M T (by with_unfolding_all rfl)
def jh(xs:List V)(lo a:Option Int):List V:=(xs.drop<|HT.iI xs.length 0 lo).take<|HT.iI xs.length xs.length a-HT.iI xs.length 0 lo
def Vq(xs:List V)(lo a:Option Int):(jh xs lo a).length<=xs.length:=by
 unfold jh;rw[gA,rO];omega
end
def qw(n:Nat)(i:Int):Option Nat:=if 0<=i then(if i<n then O i.toNat else ai) else if-(n:Int)<=i then O (i+n).toNat else ai
def ij{α:Type}(xs:List α)(i:Int):Option α:=(qw xs.length i).bind λj=>xs[j]?
def Vr{n:Nat}{i:Int}{j:Nat}(h:qw n i=O j):seqIndex? i n=O j/\j<n/\-(n:Int)<=i/\i<n:=by
 unfold qw at h;by_cases b:0<=i
 ·rw[aA b] at h;by_cases a:i<n
  ·rw[aA a] at h;have e:i.toNat=j:=eh h;exact⟨by rw[seqIndex_of b a,e],aG,aG,a⟩
  ·rw[ak a] at h;cases h
 ·rw[ak b] at h;by_cases a:-(n:Int)<=i
  ·rw[aA a] at h;have e:(i+n).toNat=j:=eh h;exact⟨by rw[seqIndex_neg aG a,e],aG,a,aG⟩
  ·rw[ak a] at h;cases h
def DN{α:Type}{xs:List α}{i:Int}{v:α}(h:ij xs i=O v):∃j,seqIndex? i xs.length=O j/\xs[j]?=O v/\j<xs.length/\-(xs.length:Int)<=i/\i<xs.length:=by
 unfold ij at h;cases e:qw xs.length i with
 |none=>rw[e] at h;cases h
 |some j=>
  rw[e] at h;obtain⟨a,b,c,d⟩:=Vr e;exact⟨j,a,h,b,c,d⟩
def fJ{α:Type}{xs:List α}{j:Nat}{v:α}(h:xs[j]?=O v):ij xs (j:Int)=O v:=by
 have a:j<xs.length:=(fC.mp h).1;have e:qw xs.length (j:Int)=O j:=by
  unfold qw;rw[aA aG,aA aG];simp
 unfold ij;rw[e];exact h
def DO{α:Type}(xs:List α)(v:α):ij (xs++[v]) (-1)=O v:=by
 have a:(xs++[v]).length=xs.length+1:=by simp
 have e:qw (xs++[v]).length (-1)=O xs.length:=by
  unfold qw;rw[a,ak aB,aA aG];congr 1;omega
 unfold ij;rw[e];show(xs++[v])[xs.length]?=O v;simp
def Jo(b:bF):Prop:=∀o i,Hg b ax o i=operate [o,i] (wK o i)
def u7(X:Cx)(r:R2):Prop:=
 ∀(c a:bF)(b:List (af×bz))(s:aF)(U:St)(H:Hp)(x y:V)(v u:aw)(Q:VK),Inv X b U H s->RelV x v->RelV y u->r x y H Q->
  Hg a ax v u=operate [v,u] (wK v u)->wpAny (bo X.prog X.w) X.A (Tg c a v u) (EP X b U Q) X.xe s
def DP(X:Cx)(id:String)(r:V->List V->Hp->VK->Prop):Prop:=
 ∀(a:List (af×bz))(s:aF)(U:St)(H:Hp)(x:V)(b:List V)(v:aw)(c:List aw)(Q:VK),Inv X a U H s->RelV x v->Vals b c->r x b H Q->
  wpAny (bo X.prog X.w) X.A (call (.builtin id)<|v::c) (EP X a U Q) X.xe s
section
variable{X:Cx}{a b:bF}{ta tb:TE}{pos:cK}
def Vs{r:R2}(d:u7 X r)(e:PE X a ta)(f:PE X b tb)(hs:Jo b):PE X (.Subscript a b pos) (dG r ta tb):=by
 intro c s U H Q I h;exact Tf<|DH e f I h λv u g x y i j k l q=>d a b c g U i x y v u Q j k l q<|hs _ _
def j8(K:bj):R2:=λx y H Q=>∃p c i v,x= .ref p/\y= .int i/\aM K H p c/\ij c i=O v/\Q v H
def Jp(K:bj):R2:=λx y H Q=>∃p c i v,x= .ref p/\y= .int i/\cO K H p c/\ij c i=O v/\Q v H
def Vt:R2:=λx y H Q=>∃z i c,x= .str z/\y= .int i/\z.length<=br/\ij z.cps.toList i=O c/\Q (.str ⟨#[c]⟩) H
def b8:u7 X (j8 X.K):=by
 intro C D f s U H aa ab ae ag Q I o p h g;obtain⟨ah,E,i,z,rfl,rfl,t,u,q⟩:=h;cases o;obtain⟨aq,rfl⟩:=p;obtain⟨m,r,d,M⟩:=I.list t;obtain⟨j,c,v,N,x,y⟩:=DN u;obtain⟨w,k,n⟩:=r.get v;have A:=r.length;have T:=xo;have fin:EP X f U Q w s:=⟨z,H,I,n,q⟩;by_cases l:0<=i
 ·have e:i.toNat=j:=by
   rw[seqIndex_of l y] at c;exact eh c
  exact item_listR d.isList l aG (by rw[e];simpa using k) fin g
 ·have e:(i+(m.toArray.size:Int)).toNat=j:=by
   rw[seqIndex_neg aG x] at c;rw[gB,<-A];exact eh c
  exact afe (x:=w) d.isList.typeIs aff.lookup
   (wpAny_getItem_list_neg (Q:=λr B=>r=w/\EP X f U Q r B) d.isList aG (by rw[gB]<;>omega) aG (by rw[e];simpa using k) ⟨L,fin⟩) g
def sI:u7 X (Jp X.K):=by
 intro u A c s U H x y v aa Q I f g h i;obtain⟨ab,C,ae,z,rfl,rfl,k,l,q⟩:=h;cases f;obtain⟨ag,rfl⟩:=g;obtain⟨B,r,d,D⟩:=I.tuple k;obtain⟨j,m,n,E,M,N⟩:=DN l;obtain⟨w,o,e⟩:=r.get n;have p:=r.length;have T:=xo;have fin:EP X c U Q w s:=⟨z,H,I,e,q⟩;exact afe (x:=w) d.typeIs slot_tuple_getitem.lookup
  (getItem_tuple (j:=j) (Q:=λr t=>r=w/\EP X c U Q r t) d aG aG (by rw[gB,<-p];exact m) (by simpa using o) ⟨L,fin⟩) i
def Vu:u7 X Vt:=by
 intro w A B s U H x y v u Q I e f h g;obtain⟨z,i,c,rfl,rfl,C,k,q⟩:=h;obtain⟨t,rfl⟩:=e;obtain⟨D,rfl⟩:=f;obtain⟨j,d,l,E,m,n⟩:=DN k;have o:z.cps.toList.length=z.length:=by simp[afg]
 rw[o] at d m n;have M:=xo;exact tail_any (typeIs_str s z t) slot_str_getitem.lookup (getItem_str (c:=c) (by
  have p:decide (i< -(2^63:Int))=ax:=gP aG;have r:decide (i≥2^63)=ax:=gP aG;rw[p,r,wL]) (by rw[d];simpa using l) ⟨.str ⟨#[c]⟩,H,I.tok _,⟨_,L⟩,q⟩) g
def Vv(lo c:Option Int)(n:Nat):(wM lo c ai n).1=((HT.iI n 0 lo:Nat):Int)/\(wM lo c ai n).2.1=((HT.iI n n c:Nat):Int)/\(wM lo c ai n).2.2=1:=by
 refine⟨?_,?_,L⟩
 ·cases lo with
  |none=>simp[wM,HT.iI]
  |some i=>
   simp only[wM,HT.iI,afh,show(1:Int)>0 by decide,gz];by_cases h:i<0
   ·simp only[h,gz]<;>omega
   ·simp only[h,jG]<;>omega
 ·cases c with
  |none=>simp[wM,HT.iI]
  |some i=>
   simp only[wM,HT.iI,afh,show(1:Int)>0 by decide,gz];by_cases h:i<0
   ·simp only[h,gz]<;>omega
   ·simp only[h,jG]<;>omega
def Vw(c:List aw)(lo d:Option Int):slicePick c.toArray lo d ai=((c.drop<|HT.iI c.length 0 lo).take<|HT.iI c.length c.length d-HT.iI c.length 0 lo).toArray:=by
 obtain⟨e,f,g⟩:=Vv lo d c.toArray.size;unfold slicePick;rw[e,f,g];simp only[sliceRange_one,pick_run,gB]<;>rfl
def sJ(K:bj):V->Option Int->Option Int->Hp->VK->Prop:=λx lo d H Q=>∃a c,x= .ref a/\aM K H a c/\∀p,H p=ai->Q (.ref p) (upd H p<|.lst<|jh c lo d)
def kJ:Jn X (sJ X.K):=by
 intro n s U H x v p t lo d u Q I g i j k h;obtain⟨y,c,rfl,l,q⟩:=h;cases g;obtain⟨o,r,e,m⟩:=I.list l;have f:=r.length;refine⟨"list",_,aff.lookup,e.isList.typeIs,?_⟩;refine wpAny_getItem_list_slice e.isList i j k .none aT ?_ (by rw[gB]<;>omega);rw[Vw,<-f];refine⟨.ref s.heap.objs.size,_,I.laid (t':=s.toks) (o:=.lst<|jh c lo d) (λz w q=>fk _ q) (bG _) ?_,L,q _ (I.aS.fresh<|bG _)⟩;exact⟨eO (Vq c lo d) m,_,0,(r.drop<|HT.iI c.length 0 lo).take<|HT.iI c.length c.length d-HT.iI c.length 0 lo,iS _ rfl⟩
def nV:V->Bool
 |.bp=>Y
 |.bl _=>Y
 |.int _=>Y
 |.str _=>Y
 |_=>ax
def lL:V->V->Bool
 |.bp,.bp=>Y
 |.bl a,.bl b=>a==b
 |.bl a,.int b=>(if a then 1 else 0)==b
 |.int a,.bl b=>a==(if b then 1 else 0)
 |.int a,.int b=>a==b
 |.str a,.str b=>a==b
 |_,_=>ax
def Vx{A:cG}{s:aF}{y x:V}{u v:aw}(g:RelV y u)(d:RelV x v)(i:nV y=Y)(h:nV x=Y):afi A s u v (lL y x):=by
 cases y with
 |bp=>
  cases g;cases x with
  |bp=>cases d;exact ahB _
  |bl c=>cases d;exact ahC c
  |int c=>obtain⟨t,rfl⟩:=d;exact ahD c t
  |str c=>obtain⟨t,rfl⟩:=d;exact ahE c t
  |_=>exact absurd (show ax=Y from h) fe
 |bl e=>
  cases g;cases x with
  |bp=>cases d;exact ahF e
  |bl c=>cases d;exact ahG e c
  |int c=>obtain⟨t,rfl⟩:=d;exact ahH e c t
  |str c=>obtain⟨t,rfl⟩:=d;exact ahI e c t
  |_=>exact absurd (show ax=Y from h) fe
 |int e=>
  obtain⟨f,rfl⟩:=g;cases x with
  |bp=>cases d;exact ahJ e f
  |bl c=>cases d;exact ahK e f c
  |int c=>obtain⟨t,rfl⟩:=d;exact ahL e f c t
  |str c=>obtain⟨t,rfl⟩:=d;exact aeJ e f c t
  |_=>exact absurd (show ax=Y from h) fe
 |str e=>
  obtain⟨f,rfl⟩:=g;cases x with
  |bp=>cases d;exact ahM e f
  |bl c=>cases d;exact ahN e f c
  |int c=>obtain⟨t,rfl⟩:=d;exact aeK e f c t
  |str c=>obtain⟨t,rfl⟩:=d;exact ahO e f c t
  |_=>exact absurd (show ax=Y from h) fe
 |_=>exact absurd (show ax=Y from i) fe
def ji(x:V)(u:aw):Bool:=match u with
 |.none=>lL .bp x
 |.bool b=>lL (.bl b) x
 |.int i _=>lL (.int i) x
 |.str z _=>lL (.str z) x
 |_=>ax
def DQ{x y:V}{u:aw}(r:RelV y u)(f:nV y=Y):ji x u=lL y x:=by
 cases y with
 |bp=>cases r;rfl
 |bl c=>cases r;rfl
 |int i=>obtain⟨t,rfl⟩:=r;rfl
 |str z=>obtain⟨t,rfl⟩:=r;rfl
 |_=>exact absurd (show ax=Y from f) fe
def xu{x:V}:∀{xs:List V}{us:List aw},Vals xs us->xs.all nV=Y->us.any (ji x)=xs.any λy=>lL y x
 |_,_,.nil,_=>rfl
 |y::xs,u::us,.cons r t,f=>by
  rw[rP,bL] at f;rw[oO,oO,DQ r f.1,xu t f.2]
def u9{A:cG}{s:aF}{x:V}{v:aw}(d:RelV x v)(e:nV x=Y):∀{xs:List V}{us:List aw},Vals xs us->xs.all nV=Y->∀u∈us,afi A s u v<|ji x u
 |_,_,.nil,_=>λu c=>by cases c
 |y::xs,u::us,.cons r t,f=>λg c=>by
  rw[rP,bL] at f;rcases dN.mp c with rfl|c
  ·rw[DQ r f.1];exact Vx r d f.1 e
  ·exact u9 d e t f.2 g c
def lM(x:V)(xs:List V):Bool:=xs.any λy=>lL y x
def va(K:bj)(neg:Bool):R2:=λx y H Q=>∃p c,y= .ref p/\(aM K H p c∨cO K H p c)/\nV x=Y/\c.all nV=Y/\Q (.bl (if neg then !lM x c else lM x c)) H
def Jq:eZ X (hW .In) (va X.K ax):=by
 intro m s U H x y v u Q I i k h;obtain⟨p,n,rfl,d,j,e,q⟩:=h;cases k;rcases d with d|d
 ·obtain⟨c,r,f,l⟩:=I.list d;refine afj (ji x) f.isList (λw g=>u9 i j r e w<|by simpa using g) ⟨.bl _,H,I,L,?_⟩;rw[show c.toArray.any (ji x)=c.any (ji x) by simp,xu r e];exact q
 ·obtain⟨c,r,f,l⟩:=I.tuple d;refine SeqAt.in_tupleAt (ji x) f (λw g=>u9 i j r e w<|by simpa using g) ⟨.bl _,H,I,L,?_⟩;rw[show c.toArray.any (ji x)=c.any (ji x) by simp,xu r e];exact q
def z5:eZ X (hW .NotIn) (va X.K Y):=by
 intro m s U H x y v u Q I i k h;obtain⟨p,n,rfl,d,j,e,q⟩:=h;cases k;rcases d with d|d
 ·obtain⟨c,r,f,l⟩:=I.list d;refine SeqAt.notIn_listAt (ji x) f.isList (λw g=>u9 i j r e w<|by simpa using g) ⟨.bl _,H,I,L,?_⟩;rw[show c.toArray.any (ji x)=c.any (ji x) by simp,xu r e];exact q
 ·obtain⟨c,r,f,l⟩:=I.tuple d;refine SeqAt.notIn_tupleAt (ji x) f (λw g=>u9 i j r e w<|by simpa using g) ⟨.bl _,H,I,L,?_⟩;rw[show c.toArray.any (ji x)=c.any (ji x) by simp,xu r e];exact q
def cB:lJ X (.builtin "len") (λxs H Q=>∃p ys,xs=[.ref p]/\(aM X.K H p ys∨cO X.K H p ys)/\Q (.int ys.length) H):=by
 intro k s U H xs l Q I r h;obtain⟨p,ys,rfl,c,q⟩:=h;obtain⟨u,rfl,i⟩:=vals1 r;cases i;have m:=xo;rcases c with c|c
 ·obtain⟨g,e,f,j⟩:=I.list c;have d:=e.length;exact Calls.call_len_list f.isList (by simp only[gB]<;>omega) ⟨.int ys.length,H,I.tok _,⟨s.toks+1,by rw[gB,d]⟩,q⟩
 ·obtain⟨g,e,f,j⟩:=I.tuple c;have d:=e.length;exact len_tuple f (by simp only[gB]<;>omega) ⟨.int ys.length,H,I.tok _,⟨s.toks+1,by rw[gB,d]⟩,q⟩
def DR:lJ X (.builtin "len") (λxs H Q=>∃z,xs=[.str z]/\z.length<=br/\Q (.int z.length) H):=by
 intro c s U H xs d Q I r h;obtain⟨z,rfl,e,q⟩:=h;obtain⟨u,rfl,t,rfl⟩:=vals1 r;have f:=xo;exact len_str aG ⟨.int z.length,H,I.tok _,⟨_,L⟩,q⟩
def z6:lJ X (.type "list") (λxs H Q=>∃p ys,xs=[.ref p]/\(aM X.K H p ys∨cO X.K H p ys)/\∀l,H l=ai->Q (.ref l) (upd H l<|.lst ys)):=by
 intro z s U H xs C Q I r h;obtain⟨p,ys,rfl,i,q⟩:=h;obtain⟨u,rfl,B⟩:=vals1 r;cases B;have fin:∀(d:List aw),Vals ys d->ys.length<=br->∀(c:bC)(f:Nat),(∀y x,s.heap.get? y=O x->c.get? y=O x)->
   c.get? s.heap.objs.size=O {cls:=.type "list",dict:=ai,data:=.seq d.toArray f,slots:=#[]}->EP X z U Q (.ref s.heap.objs.size) {s with heap:=c}:=λd g j c f k e=>
  ⟨.ref s.heap.objs.size,_,I.laid (t':=s.toks) k (bG _) (show dP X.prog X.w _ c _ (.lst ys) from⟨j,d,f,g,e⟩),L,q _ (I.aS.fresh<|bG _)⟩
 rcases i with i|i
 ·obtain⟨d,g,m,j⟩:=I.list i;have A:=g.length;obtain⟨o,t,v,n,w⟩:=m.isList;exact afk p (.inl L) t v w (λc f k e=>fin d g j c f k e) (by simp only[gB]<;>omega)
 ·obtain⟨d,g,m,j⟩:=I.tuple i;have A:=g.length;obtain⟨o,t,v,n,w⟩:=m;exact afk p (.inr L) t v w (λc f k e=>fin d g j c f k e) (by simp only[gB]<;>omega)
def vb:lJ X (.type "tuple") (λxs H Q=>∃p ys,xs=[.ref p]/\((aM X.K H p ys/\∀l,H l=ai->Q (.ref l) (upd H l<|.tup ys))∨(cO X.K H p ys/\Q (.ref p) H))):=by
 intro j s U H xs x Q I r h;obtain⟨p,ys,rfl,h⟩:=h;obtain⟨u,rfl,n⟩:=vals1 r;cases n;rcases h with⟨f,q⟩|⟨f,q⟩
 ·obtain⟨d,g,i,k⟩:=I.list f;have w:=g.length;refine call_tuple_list i.isList (λc t=>?_) (by simp only[gB]<;>omega);have m:Inv X j U H {s with heap:=c}:=I.kept (t':=s.toks) t;have v:Inv X j U (upd H c.objs.size<|.tup ys) {s with heap:=c.push {cls:=.type "tuple",data:=.seq d.toArray}}:=
   m.laid (t':=s.toks) (λy o e=>fk _ e) (bG _) (show dP X.prog X.w _ _ _ (.tup ys) from⟨k,d,g,IsTup.new _ _⟩)
  exact⟨.ref c.objs.size,_,v,L,q _ (m.aS.fresh<|bG _)⟩
 ·obtain⟨d,g,i,k⟩:=I.tuple f;exact call_tuple_same i ⟨.ref p,H,I,L,q⟩
def DS(K:bj)(T:String)(x:V)(H:Hp):Prop:=match x with
 |.str _=>T="str"
 |.int _=>T="int"
 |.ref p=>(T="list"/\∃d,aM K H p d)∨(T="tuple"/\∃o,K.lookup p=O o/\o.cls= .type "tuple"/\o.dict=ai)∨
   (T="dict"/\((∃c,H p=O (.dK c))∨∃c,H p=O (.dT c)))∨(T="set"/\∃S n,H p=O (.set S n))
 |_=>False
def Jr{pins:List (af×bz)}{U:St}{H:Hp}{s:aF}{T:String}{x:V}{v:aw}(I:Inv X pins U H s)(r:RelV x v)(ty:DS X.K T x H):
  s.TypeIs v T/\∀a,v= .ref a->∃j,s.heap.get? a=O j/\j.dict=ai:=by
 cases x with
 |str z=>
  obtain⟨t,rfl⟩:=r;cases(show T="str" from ty);exact⟨typeIs_str s z t,λ_ e=>nomatch e⟩
 |int i=>
  obtain⟨t,rfl⟩:=r;cases(show T="int" from ty);exact⟨typeIs_int s i t,λ_ e=>nomatch e⟩
 |ref p=>
  cases r;rcases ty with⟨rfl,w,m⟩|⟨rfl,o,d,q,g⟩|⟨rfl,d⟩|⟨rfl,S,n,d⟩
  ·obtain⟨u,_,k,_⟩:=I.list m;refine⟨k.isList.typeIs,λa e=>?_⟩;cases e;obtain⟨o,n,e,c,g,_⟩:=k;exact⟨o,e,g⟩
  ·refine⟨⟨o,I.eV p o d,q⟩,λa e=>?_⟩;cases e;exact⟨o,I.eV _ o d,g⟩
  ·have z:∃o,s.heap.get? p=O o/\o.ExactDict:=by
    rcases d with⟨l,d⟩|⟨l,d⟩
    ·obtain⟨_,_,_,_,o,_,_,e,f,_⟩:=I.aS p _ d;exact⟨o,e,f⟩
    ·obtain⟨_,_,_,_,o,_,_,e,f,_⟩:=I.aS p _ d;exact⟨o,e,f⟩
   obtain⟨o,e,f⟩:=z;refine⟨⟨o,e,f.1⟩,λa h=>?_⟩;cases h;exact⟨o,e,f.2.1⟩
  ·obtain⟨o,_,_,_,e,f,_⟩:=I.aS p _ d;refine⟨⟨o,e,f.1⟩,λa h=>?_⟩;cases h;exact⟨o,e,f.2.1⟩
 |_=>exact fY ty
def Vy(K:bj)(T:String)(r:V->List V->Hp->VK->Prop)(d:TE):TE:=λU H Q=>d U H λx c=>DS K T x c/\r x [] c Q
def kK(K:bj)(T:String)(r:V->List V->Hp->VK->Prop)(d:TE)(t:TA):TE:=λU H Q=>d U H λx c=>DS K T x c/\t U c λe f=>r x e f Q
variable{o e:bF}{es:List bF}{to:TE}{t:TA}{name:ao}{apos cpos:cK}{T id:String}{r:V->List V->Hp->VK->Prop}
def Vz(k:PlainAttrs T)(slot:Slot T name id)(j:typeOf (.builtin id)=pure (.type "method_descriptor"))(l:DP X id r)(m:PE X o to)
  (g:rN o name X.env (eval o X.env)=eval o X.env:=by rfl)(i:(apos.endLine==cpos.line)=Y:=by rfl):PE X (.Call (.Attribute o name apos) [] [] cpos) (Vy X.K T r to):=by
 intro c s U H Q I h;refine wpAny_Call_method0_late g i<|bu (m c s U H _ I h) λv n ⟨x,p,d,f,ty,q⟩=>?_;obtain⟨u,w⟩:=Jr d f ty;exact⟨T,id,k,slot,j,u,w,CN L<|PySem.evalArgs_none<|l c n U p x [] v [] Q d f .nil q⟩
def eK(m:PlainAttrs T)(slot:Slot T name id)(l:typeOf (.builtin id)=pure (.type "method_descriptor"))(n:DP X id r)(p:PE X o to)(q:PA X (e::es) t)
  (i:rN o name X.env (eval o X.env)=eval o X.env:=by rfl)
  (k:((eP cpos<|bS (e::es) X.env).all (λx=>!x.1)&&(qg cpos<|qi [] X.env).all (λx=>x.1.isSome)
   &&decide ((e::es).length+([]:List CL).length+(if([]:List CL).isEmpty then 0 else 1)<30))=Y:=by rfl)
  (j:(apos.endLine==cpos.line)=Y:=by rfl)(hs:bS (e::es) X.env=(ax,eval e X.env)::bS es X.env:=by rfl)(h:(eP cpos<|bS es X.env).any (·.1)=ax:=by rfl):
  PE X (.Call (.Attribute o name apos) (e::es) [] cpos) (kK X.K T r to t):=by
 intro c s U H Q I aa;refine wpAny_Call_method_late i k j L<|bu (p c s U H _ I aa) λab u ⟨x,v,d,f,ty,w⟩=>?_;obtain⟨y,z⟩:=Jr d f ty;refine⟨T,id,m,slot,l,y,z,?_⟩;have g:=q cpos c u U v _ d w;rw[hs] at g⊢;refine CN (by show(ax||(eP cpos<|bS es X.env).any (·.1))=ax;rw[h]<;>rfl)<|Hh ?_
 exact bu g λA B ⟨C,D,E,M,N⟩=>n c B U D x C ab A Q E f M N
end
def DT(X:Cx)(id:String)(r:V->List V->Hp->VK->Prop):Prop:=
 ∀(a:List (af×bz))(s:aF)(U:St)(H:Hp)(x:V)(b:List V)(v:aw)(c:List aw)(Q:VK),Inv X a U H s->RelV x v->Vals b c->r x b H Q->
  wpAny (bo X.prog X.w) X.A (call (.builtin id)<|v::c) (EP X a U Q) X.xe s
def Vals.one:∀{x:V}{us:List aw},Vals [x] us->∃u,us=[u]/\RelV x u
 |_,_,.cons r .nil=>⟨_,L,r⟩
def Vals.zero:∀{us:List aw},Vals [] us->us=[]
 |_,.nil=>rfl
def Vals.dropLast{xs:List V}{us:List aw}(h:Vals xs us):Vals xs.dropLast us.dropLast:=by
 induction h with
 |nil=>exact .nil
 |cons r t a=>
  cases t with
  |nil=>exact .nil
  |cons q b=>exact .cons r a
def VA{α:Type}(l:List α):l.eraseIdx (l.length-1)=l.dropLast:=by
 induction l with
 |nil=>rfl
 |cons a r c=>
  cases r with
  |nil=>rfl
  |cons b r=>
   have e:(a::b::r).length-1=((b::r).length-1)+1:=by
    have d:(a::b::r).length=r.length+2:=rfl;have f:(b::r).length=r.length+1:=rfl;omega
   rw[e,List.eraseIdx_cons_succ,c]
   all_goals rfl
section
variable{X:Cx}{pins:List (af×bz)}{U:St}{H:Hp}{s:aF}{l b:af}{xs ys zs:List V}
def Inv.DU{a its':List aw}{n:Nat}{f:Array aw->Array aw}{t':Nat}(I:Inv X pins U H s)(c:H l=O (.lst xs))
  (e:s.heap.get? l=O {cls:=.type "list",data:=.seq a.toArray n})(d:f a.toArray=its'.toArray)(g:Vals ys its')(hz:ys.length<=br):
  Inv X pins U (upd H l<|.lst ys) {s with heap:=s.heap.update l<|afl f,toks:=t'}:=by
 have q:=PySem.IsL.update e f;rw[d] at q;refine I.write (x:=l) (e:=l) (by rw[c];exact trivial) (.inl L) (λj u h i=>(Th s.heap (afl f)<|qf h).trans i) ⟨_,q⟩ ?_;exact⟨hz,its',_,g,q⟩
def Inv.VB{a:List aw}{t':Nat}(I:Inv X pins U H s)(c:Vals ys a)(hz:ys.length<=br):
  Inv X pins U (upd H s.heap.objs.size<|.lst ys) {s with heap:=s.heap.push {cls:=.type "list",data:=.seq a.toArray},toks:=t'}:=
 I.laid (λ_ _ q=>fk _ q) (bG _) ⟨hz,a,0,c,iS _ rfl⟩
def Inv.fresh(I:Inv X pins U H s):H s.heap.objs.size=ai:=I.aS.fresh<|bG _
def Inv.vc(I:Inv X pins U H s)(c:H l=O (.lst xs)):xs.length<=br/\∃(a:List aw)(n:Nat),Vals xs a/\xs.length=a.length/\s.heap.get? l=O {cls:=.type "list",data:=.seq a.toArray n}:=by
 obtain⟨z,a,n,r,e⟩:=I.aS l _ c;exact⟨z,a,n,r,r.length,e⟩
def VC{n:Nat}(h:n<=br):Ti n=ax:=by
 unfold Ti;exact gP aG
end
section
variable{X:Cx}
def pz:V->List V->Hp->VK->Prop:=λx b H Q=>∃l a y,x= .ref l/\b=[y]/\H l=O (.lst a)/\a.length<br/\Q .bp (upd H l<|.lst<|a++[y])
def jj:DT X "list.append" pz:=by
 intro g s U H x i v j Q I c d h;obtain⟨l,k,y,rfl,rfl,b,m,q⟩:=h;cases c;obtain⟨u,rfl,f⟩:=d.one;obtain⟨z,a,n,r,o,e⟩:=I.vc b;refine Hi F.slot_list_append ⟨_,e,L⟩ F.entry_list_append (F.args_list_append_2 _ _) (PySem.list_append l a.toArray n u (by rw[gB];omega)) ⟨e,?_⟩;refine⟨.bp,_,I.DU (its':=a++[u]) b e aT (r.append<|.cons f .nil) ?_,L,q⟩;rw[aV,gR];omega
def sL:V->List V->Hp->VK->Prop:=λx c H Q=>∃l b a zs,x= .ref l/\c=[.ref b]/\H l=O (.lst a)/\H b=O (.lst zs)/\a.length+zs.length<=br/\Q .bp (upd H l<|.lst<|a++zs)
def jt:DT X "list.extend" sL:=by
 intro w s U H x A v B Q I i j h;obtain⟨l,b,C,zs,rfl,rfl,d,k,D,q⟩:=h;cases i;obtain⟨u,rfl,m⟩:=j.one;cases m;obtain⟨z,a,n,r,E,e⟩:=I.vc d;obtain⟨M,c,o,p,y,t⟩:=I.vc k;have g:a.toArray.size+c.toArray.size<=br:=by rw[gB,gB];omega
 have f:¬(!a.toArray.isEmpty&&Ti (a.toArray.size+c.toArray.size))=Y:=by
  rw[VC g,Hj];exact fe
 refine Hi F.slot_list_extend ⟨_,e,L⟩ F.entry_list_extend (F.args_list_extend_2 _ _)
  (AutoSeq1.list_extend_list_list_0 l a.toArray n b c.toArray o f (by rw[gB];omega) aG) ⟨e,t,?_⟩
 refine⟨.bp,_,I.DU (its':=a++c) d e aT (r.append p) ?_,L,q⟩;rw[aV];omega
def VD:V->List V->Hp->VK->Prop:=λx b H Q=>∃l a y,x= .ref l/\b=[]/\H l=O (.lst a)/\a[a.length-1]?=O y/\Q y (upd H l<|.lst a.dropLast)
def VE:DT X "list.pop" VD:=by
 intro o s U H x p v t Q I f g h;obtain⟨l,w,y,rfl,rfl,b,i,q⟩:=h;cases f;have c:=g.zero;subst c;obtain⟨z,a,n,r,j,e⟩:=I.vc b;obtain⟨u,k,m⟩:=r.get i;have d:a.toArray[a.toArray.size-1]?=O u:=by
  show a.toArray[a.length-1]?=O u;rw[<-Hk,<-j];exact k
 refine Hi F.slot_list_pop ⟨_,e,L⟩ F.entry_list_pop (F.args_list_pop_1 _) (MeetsSeq.list_pop_last l a.toArray n u d (by rw[gB];omega)) ⟨e,?_⟩;refine⟨y,_,I.DU (its':=a.dropLast) b e ?_ r.dropLast ?_,m,q⟩
 ·show a.toArray.eraseIdxIfInBounds (a.toArray.size-1)=a.dropLast.toArray;rw[gB,List.eraseIdxIfInBounds_toArray,VA]
 ·rw[CO];omega
def z8:R2:=λx y H Q=>∃l b a zs,x= .ref l/\y= .ref b/\H l=O (.lst a)/\H b=O (.lst zs)/\a.length+zs.length<=br/\∀p,H p=ai->Q (.ref p) (upd H p<|.lst<|a++zs)
def fW:eZ X (wF .Add) z8:=by
 intro o s U H x y v u Q I d f h;obtain⟨l,b,t,zs,rfl,rfl,g,i,w,q⟩:=h;cases d;cases f;obtain⟨z,c,n,r,A,e⟩:=I.vc g;obtain⟨B,a,C,j,p,k⟩:=I.vc i;refine PySem.P.add_list e k ?_ (by rw[gB,gB];omega);have m:c.toArray++a.toArray=(c++a).toArray:=by simp
 rw[m];exact⟨.ref _,_,I.VB (t':=s.toks) (r.append j) (by rw[aV];omega),L,q _ I.fresh⟩
end
section
variable{prog:cf}{w:bR}{A:cG}{E:aw->aF->Prop}{s:aF}
end
section
variable{X:Cx}
end
def Vals.Js:∀{bs:List Bool}{us:List aw},Vals (bs.map V.bl) us->us=bs.map wu
 |[],us,h=>by
  rw[wN] at h;cases h;rfl
 |b::bs,us,h=>by
  rw[cM] at h;cases h with
  |cons r t=>
   cases r;rw[Vals.Js t,cM]
def Vals.VF{a:af}{us:List aw}(r:Vals [V.ref a] us):us=[dC a]:=by
 cases r with
 |cons r t=>
  cases t;cases r;rfl
section
variable{prog:cf}{w:bR}{A:cG}{E:aw->aF->Prop}{s:aF}{l:af}{its:List aw}{ns:List Int}{Q:aw->aF->Prop}
end
section
variable{X:Cx}
end
section
variable{X:Cx}
end
section
variable{X:Cx}
end
def VG{prog:cf}{w:bR}{A:cG}{E:aw->aF->Prop}{s:aF}{l:af}{b:Array aw}{Q:aw->aF->Prop}(a:s.heap.IsList l b)
  (h:∀s₂:aF,s₂={s with heap:=s.heap.push {cls:=.type "list_iterator",data:=.fields #[.ref l,.int 0 0]}}->
   (s₂.heap.IsListIter s.heap.objs.size l 0/\s₂.heap.IsList l b)->l≠s.heap.objs.size->Q (.ref s.heap.objs.size) s₂):wpAny (bo prog w) A (CG<|.ref l) Q E s:=by
 have c:l<s.heap.objs.size:=by obtain⟨_,e,_⟩:=a;exact di e
 exact aeW a<|h _ rfl ⟨⟨_,iS _ rfl,L,L⟩,a.push _⟩ (gj c)
def VH{prog:cf}{w:bR}{A:cG}{bs:List Bool}{a:List aw}(e:a=bs.map wu):
  TruthOf prog w A (λi v=>a.toArray[i]?=O v) (λi=>bs.getD i ax):=λi v s Q E f g=>by
 have c:a[i]?=O v:=by simpa using f
 rw[e,eU] at c;obtain⟨b,h,rfl⟩:=rQ.mp c;have j:bs.getD i ax=b:=by rw[List.getD_eq_getElem?_getD,h]<;>rfl
 have d:Q (bs.getD i ax) s:=g;rw[j] at d;exact uq d
def any_range:∀bs:List Bool,(rE bs.length).any (λi=>bs.getD i ax)=bs.any id
 |[]=>rfl
 |b::bs=>by
  rw[bV,afm,oO,List.any_map,oO,<-any_range bs]
  all_goals rfl
def all_range:∀bs:List Bool,(rE bs.length).all (λi=>bs.getD i ax)=bs.all id
 |[]=>rfl
 |b::bs=>by
  rw[bV,afm,rP,qj,rP,<-all_range bs]
  all_goals rfl
section
variable{X:Cx}
def DV(K:bj):List V->Hp->VK->Prop:=λc H Q=>∃(a:af)(b:List Bool),c=[V.ref a]/\aM K H a (b.map V.bl)/\Q (.bl<|b.all id) H
def xw(i:X.calm=Y):lJ X (.builtin "all") (DV X.K):=by
 intro t s U H u v Q I r h;obtain⟨a,w,rfl,j,q⟩:=h;obtain⟨f,k,l,_⟩:=I.list j;rw[Vals.VF r];have d:=k.Js;refine call_all_walk<|VG l.isList λs₂ m st g=>?_;subst m;refine⟨_,_,_,_,_,_,_,L,zH.list (A:=X.A.in1) (I.ok.hd i) _ a g f.toArray,st,VH d,λx y n=>?_⟩;refine⟨.bl _,H,I.kept λb o e=>n b o (λc=>?_)<|fk _ e,?_,q⟩
 ·rcases dN.mp c with p|c
  ·exact absurd (p▸di e) (qc _)
  ·cases c
 ·show wu _=wu _;rw[<-all_range,d,gB,bH]
end
mutual
inductive Dp(K:bj)(H:Hp):V->rR->Prop
 |bp:Dp K H .bp .none
 |bl (b:Bool):Dp K H (.bl b) (.bool b)
 |int (i:Int):Dp K H (.int i) (.int i)
 |str (x:ao):Dp K H (.str x) (.str x)
 |lst {a:af} {xs:List V} {ds:List rR}:aM K H a xs->qx K H xs ds->Dp K H (.ref a) (.list ds)
 |tup {a:af} {xs:List V} {ds:List rR}:cO K H a xs->qx K H xs ds->Dp K H (.ref a) (.tuple ds)
inductive qx(K:bj)(H:Hp):List V->List rR->Prop
 |nil:qx K H [] []
 |cons {v:V} {vs:List V} {d:rR} {ds:List rR}:Dp K H v d->qx K H vs ds->qx K H (v::vs) (d::ds)
end
section
variable{X:Cx}{pins:List (af×bz)}{U:St}{H:Hp}{s:aF}
mutual
def Dp.reads(I:Inv X pins U H s):∀(d:rR)(v:V)(u:aw),Dp X.K H v d->RelV v u->∃as,xb s.heap u d as
 |.none,_,_,h,r=>by
  cases h;cases r;exact⟨_,xb.none⟩
 |.bool b,_,_,h,r=>by
  cases h;cases r;exact⟨_,xb.bool b⟩
 |.int i,_,_,h,r=>by
  cases h;obtain⟨t,rfl⟩:=r;exact⟨_,xb.int i t⟩
 |.str x,_,_,h,r=>by
  cases h;obtain⟨t,rfl⟩:=r;exact⟨_,xb.str x t⟩
 |.list a,_,_,h,r=>by
  cases h with
  |lst e f=>
   cases r;obtain⟨c,g,⟨o,n,j,k,_,l⟩,_⟩:=I.list e;obtain⟨as,m⟩:=Dp.readsAll I a _ c f g;exact⟨_,xb.list j k l m⟩
 |.tuple a,_,_,h,r=>by
  cases h with
  |tup e f=>
   cases r;obtain⟨c,g,⟨o,j,k,n,l⟩,_⟩:=I.tuple e;obtain⟨as,m⟩:=Dp.readsAll I a _ c f g;exact⟨_,xb.tuple j k l m⟩
 |.dict _,_,_,h,_=>by cases h
def Dp.readsAll(I:Inv X pins U H s):∀(a:List rR)(p:List V)(q:List aw),qx X.K H p a->Vals p q->∃as,UA s.heap q a as
 |[],_,_,h,r=>by
  cases h;cases r;exact⟨_,UA.nil⟩
 |d::a,_,_,h,r=>by
  cases h with
  |cons w y=>
   cases r with
   |cons z A=>
    obtain⟨as,B⟩:=Dp.reads I d _ _ w z;obtain⟨D,C⟩:=Dp.readsAll I a _ _ y A;exact⟨_,UA.cons B C⟩
end
end
section
variable{X:Cx}
def z9(K:bj):R2:=λx y H Q=>∃d e,Dp K H x d/\Dp K H y e/\uE d=Y/\uE e=Y/\Q (.bl<|Tj d e) H
def Jt(K:bj):R2:=λx y H Q=>∃d e,Dp K H x d/\Dp K H y e/\uE d=Y/\uE e=Y/\Q (.bl<|!PyData.eqv d e) H
def qy(a:X.A.units+64<i7):eZ X (hW .Eq) (z9 X.K):=by
 intro m s U H x y v u Q I b c h;obtain⟨d,e,f,g,i,j,q⟩:=h;obtain⟨n,k⟩:=Dp.reads I d x v f b;obtain⟨o,l⟩:=Dp.reads I e y u g c;exact SeqAt.compareEq_shaped k l i j a ⟨.bl _,H,I,L,q⟩
def VI(a:X.A.units+64<i7):eZ X (hW .NotEq) (Jt X.K):=by
 intro m s U H x y v u Q I b c h;obtain⟨d,e,f,g,i,j,q⟩:=h;obtain⟨n,k⟩:=Dp.reads I d x v f b;obtain⟨o,l⟩:=Dp.reads I e y u g c;exact SeqAt.compareNe_shaped k l i j a ⟨.bl _,H,I,L,q⟩
end
abbrev Ju(h:bC)(c:af)(v:Option aw):Prop:=h.IsCell c v
def VJ(a b:gk):gk:=
 {a with names:=a.names.map λ(n,k)=>if(k== .free&&b.kind== .function&&b.names.lookup n==O .cell) then(n,.cell) else(n,k)}
def gY(cells:List (ao×af)):List (ao×j1)->List (ao×af)->List (ao×af)
 |[],a=>a
 |(n,k)::r,a=>if k== .free then gY cells r ((n,(cells.lookup n).getD 0)::a) else gY cells r a
def Jv(b:dj)(f:ao×j1->List (ao×af)->gQ (ForInStep<|List<|ao×af))
  (g:∀n k c,f (n,k) c=if k== .free then(do let a<-cellOf b n;pure (.yield<|(n,a)::c)) else pure (.yield c)):
  ∀(names:List (ao×j1))(acc:List (ao×af)),(∀y∈names,y.2= .free->∃c,b.cells.lookup y.1=O c)->forIn names acc f=pure (gY b.cells names acc)
 |[],acc,_=>by rw[afn];rfl
 |(n,k)::r,acc,h=>by
  rw[List.forIn_cons,g];have i:=λacc=>Jv b f g r acc λy l=>h y<|dS _ l;unfold gY;by_cases d:(k==zh)=Y
  ·rw[aA d,aA d];obtain⟨c,j⟩:=h (n,k) dY (by simpa using d);have e:cellOf b n=pure c:=by unfold cellOf;rw[j]
   rw[e];have m:(b.cells.lookup n).getD 0=c:=by rw[j];rfl
   rw[m];exact i _
  ·rw[ak d,ak d];exact i _
def VL{a:gk}{b:dj}(h:∀y∈a.names,y.2= .free->∃c,b.cells.lookup y.1=O c):closureFor a b=pure (gY b.cells a.names []):=by
 simp only[closureFor];rw[Jv b _ (λn k c=>rfl) a.names [] h];rfl
def mem_lookup{α:Type}:∀{l:List (ao×α)}{n:ao}{c:α},(n,c)∈l->∃a,l.lookup n=O a
 |(k,v)::r,n,c,h=>by
  rw[wO];cases b:n==k with
  |true=>exact⟨_,L⟩
  |false=>
   rcases dN.mp h with e|h
   ·cases e;simp at b
   ·exact mem_lookup h
def Aa{cells:List (ao×af)}:∀{names:List (ao×j1)}{acc:List (ao×af)}{n:ao}{c:af},(n,c)∈gY cells names acc->(n,c)∈acc∨((n,.free)∈names/\c=(cells.lookup n).getD 0)
 |[],_,_,_,h=>.inl h
 |(m,k)::r,acc,n,c,h=>by
  unfold gY at h;split at h
  ·rename_i a;have a:k= .free:=by simpa using a
   rcases Aa h with h|⟨b,d⟩
   ·rcases dN.mp h with e|h
    ·cases e;exact .inr ⟨a▸dY,L⟩
    ·exact .inl h
   ·exact .inr ⟨dS _ b,d⟩
  ·rcases Aa h with h|⟨b,d⟩
   ·exact .inl h
   ·exact .inr ⟨dS _ b,d⟩
def DW{cells:List (ao×af)}:∀{names:List (ao×j1)}{acc:List (ao×af)}{p:ao×af},p∈acc->p∈gY cells names acc
 |[],_,_,h=>h
 |(m,k)::r,acc,p,h=>by
  unfold gY;split
  ·exact DW<|dS _ h
  ·exact DW h
def DX{cells:List (ao×af)}:∀{names:List (ao×j1)}{acc:List (ao×af)}{n:ao},(n,.free)∈names->(n,(cells.lookup n).getD 0)∈gY cells names acc
 |(m,k)::r,acc,n,h=>by
  unfold gY;rcases dN.mp h with e|h
  ·cases e;exact DW dY
  ·split
   ·exact DX h
   ·exact DX h
def xx:∀{names:List (ao×j1)}{h:bC}{acc:List (ao×af)}{x:ao}{c:af},(x,c)∈iy h.objs.size names acc->
  (x,c)∈acc∨((x,.cell)∈names/\h.objs.size<=c/\Ju (uF h names) c ai)
 |[],_,_,_,_,h=>.inl h
 |(n,k)::r,h,acc,x,c,a=>by
  unfold iy at a;unfold uF;split at a
  ·rename_i b;rw[aA b];have b:k= .cell:=by simpa using b
   rw[<-nE h {cls:=.type "cell",data:=.cell ai}] at a;rcases xx a with a|⟨f,d,g⟩
   ·rcases dN.mp a with e|a
    ·cases e;exact .inr ⟨b▸dY,bG _,_,Hl r _ _ _ (iS _ rfl),L⟩
    ·exact .inl a
   ·rw[nE] at d;exact .inr ⟨dS _ f,Hm d,g⟩
  ·rename_i b;rw[ak b];rcases xx a with a|⟨f,d,g⟩
   ·exact .inl a
   ·exact .inr ⟨dS _ f,d,g⟩
def Ab:∀{names:List (ao×j1)}{n:Nat}{acc:List (ao×af)}{p:ao×af},p∈acc->p∈iy n names acc
 |[],_,_,_,h=>h
 |(m,k)::r,n,acc,p,h=>by
  unfold iy;split
  ·exact Ab<|dS _ h
  ·exact Ab h
def DY:∀{names:List (ao×j1)}{n:Nat}{acc:List (ao×af)}{x:ao},(x,.cell)∈names->∃c,(x,c)∈iy n names acc
 |(m,k)::r,n,acc,x,h=>by
  unfold iy;rcases dN.mp h with e|h
  ·cases e;exact⟨n,Ab dY⟩
  ·split
   ·exact DY h
   ·exact DY h
def DZ:∀{names:List (ao×j1)}{h:bC}{acc:List (ao×af)}{x y:ao}{c:af},(∀p∈acc,p.2<h.objs.size)->(∀x y c,(x,c)∈acc->(y,c)∈acc->x=y)->
  (x,c)∈iy h.objs.size names acc->(y,c)∈iy h.objs.size names acc->x=y
 |[],_,_,_,_,_,_,g,f,d=>g _ _ _ f d
 |(n,k)::r,h,acc,x,y,c,i,g,f,d=>by
  unfold iy at f d;split at f
  ·rename_i j;rw[aA j] at d;rw[<-nE h {cls:=.type "cell",data:=.cell ai}] at f d;refine DZ (h:=h.push _) (λp l=>?_) (λx y c a b=>?_) f d
   ·rw[nE];rcases dN.mp l with rfl|l
    ·exact wG _
    ·exact Hn<|i p l
   ·rcases dN.mp a with e|a<;>rcases dN.mp b with m|b
    ·cases e;cases m;rfl
    ·cases e;exact absurd (i _ b) (qc _)
    ·cases m;exact absurd (i _ a) (qc _)
    ·exact g _ _ _ a b
  ·rename_i j;rw[ak j] at d;exact DZ i g f d
def VM{M:um}{A:cG}{E:aw->aF->Prop}{s:aF}{a:gk}{globals:af}{b:List (ao×af)}{f:ao}{g:Option af}{code:aw}{e:dj}{d:af}{Q:dj->aF->Prop}
  (h:Q (newEnv a s.heap.objs.size globals (iy (s.heap.objs.size+1) a.names b) f g code (O e) d)
   {s with heap:=uF (s.heap.push {cls:=.type "dict",data:=.dict #[]}) a.names}):
  wpAny M A (afo a globals b [] f g code (O e) d) Q E s:=by
 simp only[afo,Tn,gz];refine bt<|wpAny_alloc ?_;refine bt<|wpAny_layCells _ (λn k c=>rfl) a.names b _ _ ?_;rw[show({s with heap:=s.heap.push {cls:=.type "dict",data:=.dict #[]}}:aF).heap.objs.size=s.heap.objs.size+1 from nE ..];rw[afn];exact bt<|cu<|cu h
def D0{b:gk}:∀{names:List (ao×j1)}{x:ao}{k:j1},
  (names.map λ(n,k)=>if(k==zh&&b.kind== .function&&b.names.lookup n==O .cell) then(n,To) else(n,k)).lookup x=O k->
  ∃e,names.lookup x=O e/\(k=e∨(e= .free/\k= .cell))
 |[],_,_,h=>by simp at h
 |(n,k₀)::r,x,k,h=>by
  have f:=@D0 b r x k;have a:oN x ((if(k₀==zh&&b.kind== .function&&b.names.lookup n==O .cell)=Y then(n,To) else(n,k₀))::(r.map _))=O k:=h;cases d:x==n with
  |true=>
   simp only[wO,d];by_cases c:(k₀==zh&&b.kind== .function&&b.names.lookup n==O .cell)=Y
   ·rw[aA c] at a;simp only[wO,d] at a;cases a;simp only[bL,fB] at c;exact⟨k₀,L,.inr ⟨c.1.1,L⟩⟩
   ·rw[ak c] at a;simp only[wO,d] at a;cases a;exact⟨_,L,.inl L⟩
  |false=>
   simp only[wO,d];by_cases c:(k₀==zh&&b.kind== .function&&b.names.lookup n==O .cell)=Y
   ·rw[aA c] at a;simp only[wO,d] at a;exact f a
   ·rw[ak c] at a;simp only[wO,d] at a;exact f a
structure xy(N:List ao)(sc scope:gk)(own:List (ao×Nat)):Prop where
 kind:scope.kind= .function
 uniq:∀y∈scope.names,scope.names.lookup y.1=O y.2
 ix:∀p∈own,N[p.2]?=O p.1
 free:∀y∈scope.names,y.2= .free->sc.names.lookup y.1=O .cell∨sc.names.lookup y.1=O .free
 own:∀y∈scope.names,y.2= .local ∨y.2= .cell->y.1∈own.map (·.1)∨y.1∉N
def wipe(U:St):List Nat->St
 |[]=>U
 |v::a=>(wipe U a).set v ai
def Ac(U:St):∀vs:List Nat,(wipe U vs).length=U.length
 |[]=>rfl
 |v::vs=>by unfold wipe;rw[Tp,Ac U vs]
def D1{U:St}{i:Nat}{x:V}:∀{vs:List Nat},(wipe U vs)[i]?=O (O x)->U[i]?=O (O x)/\i∉vs
 |[],h=>⟨h,aT⟩
 |v::vs,h=>by
  unfold wipe at h;by_cases a:v=i
  ·subst a;by_cases b:v<(wipe U vs).length
   ·rw[Cz b] at h;cases h
   ·rw[Ho (by simpa using b)] at h;cases h
  ·rw[CA a] at h;obtain⟨c,d⟩:=D1 h;exact⟨c,by simp only[dN,not_or];exact⟨λe=>a e.symm,d⟩⟩
abbrev Cx.iJ(X:Cx)(s:aF)(H:Hp)(a:gk)(b:dj)(c:List af):Cx:={X with eA:=s,iX:=H,env:=b,outer:=X.stack,ex:=c,fn:=λx=>a.names.lookup x==O .cell,pn:=[],xe:=λ_ _=>False}
section
variable{X:Cx}{pins:List (af×bz)}{U:St}{H:Hp}{s:aF}
def VN{d:gk}{own:List (ao×Nat)}{fp:List af}(I:Inv X pins U H s)(ok:xy X.N X.env.scope d own)(hN:X.N.Nodup)(x:∀b∈fp,lI X pins H b/\b<s.heap.objs.size):
  Inv (X.iJ s H d (mw d (iy (s.heap.objs.size+1) d.names<|gY X.env.cells d.names []) s.heap.objs.size X.env) fp) [] (wipe U<|own.map (·.2)) H {s with heap:=uF (s.heap.push {cls:=.type "dict",data:=.dict #[]}) d.names}:=by
 have aq:∀y∈d.names,y.2= .free->∃c,X.env.cells.lookup y.1=O c:=λy j e=>by
  rcases ok.free y j e with k|k
  ·exact I.ok.has _ (.inl k)
  ·exact I.ok.has _ (.inr k)
 generalize C:mw d (iy (s.heap.objs.size+1) d.names<|gY X.env.cells d.names []) s.heap.objs.size X.env=a;have M:∀b o,s.heap.get? b=O o->(uF (s.heap.push {cls:=.type "dict",data:=.dict #[]}) d.names).get? b=O o:=λb o e=>Hl _ _ _ _ (fk _ e);have N:a.locals=s.heap.objs.size:=by rw[<-C];rfl
 have u:a.cells=iy (s.heap.objs.size+1) d.names (gY X.env.cells d.names []):=by rw[<-C];rfl
 have ab:a.scope=VJ d X.env.scope:=by rw[<-C];rfl
 rw[<-nE s.heap {cls:=.type "dict",data:=.dict #[]}] at u;have D:∀{y c},(y,c)∈gY X.env.cells d.names []->X.env.cells.lookup y=O c/\c<s.heap.objs.size:=λ{y c} g=>by
  rcases Aa g with g|⟨f,rfl⟩
  ·cases g
  ·obtain⟨c,hc⟩:=aq _ f L;rw[hc];obtain⟨w,z⟩:=I.cell _ _ hc;exact⟨L,z.lt⟩
 have ae:∀{y c},a.cells.lookup y=O c->(X.env.cells.lookup y=O c/\c<s.heap.objs.size)∨(s.heap.objs.size+1<=c/\Ju (uF (s.heap.push {cls:=.type "dict",data:=.dict #[]}) d.names) c ai):=λ{y c} e=>by
  rw[u] at e;rcases xx (kn e) with g|⟨_,l,h3⟩
  ·exact .inl<|D g
  ·rw[nE] at l;exact .inr ⟨l,h3⟩
 have look:∀{y},d.names.lookup y=O .free->∃c,a.cells.lookup y=O c/\X.env.cells.lookup y=O c:=λ{y} Q=>by
  have j:(y,zh)∈d.names:=kn Q;obtain⟨T,h⟩:=mem_lookup<|Ab (names:=d.names) (n:=(s.heap.push {cls:=.type "dict",data:=.dict #[]}).objs.size)<|DX (cells:=X.env.cells) (acc:=[]) j;rw[<-u] at h;refine⟨T,h,?_⟩;rw[u] at h;rcases xx (kn h) with g|⟨f,_,_⟩
  ·exact(D g).1
  ·have:=ok.uniq _ f;rw[Q] at this;cases this
 have au:(X.iJ s H d a fp).Ok:=by
  refine⟨I.ok.mod,by show a.scope.kind=_;rw[ab];exact ok.kind,by show a.globals=_;rw[<-C];exact I.ok.glob,by show a.builtins=_;rw[<-C];exact I.ok.blt,by show s.heap.objs.size<=a.locals;rw[N];exact bG _,
   λy z c m n=>?_,λy j=>?_,λy c z e=>?_,I.ok.hd,I.ok.frames,.inl L,λb q=>⟨?_,λy c e z=>?_⟩,I.bs,eO I.ok.lG I.sz,λb o e q=>?_,λb q z=>?_,I.stack,I.Dv⟩
  ·have m:a.cells.lookup y=O c:=m;have n:a.cells.lookup z=O c:=n;rw[u] at m n;refine DZ (λp B=>?_) (λy z c aE b=>I.ok.inj y z c (D aE).1 (D b).1) (kn m)<|kn n;rw[nE];exact Hn (D (y:=p.1) (c:=p.2) B).2
  ·show∃c,a.cells.lookup y=O c;have A:∀k,a.kindOf y=O k->(k= .cell∨k= .free)->∃c,a.cells.lookup y=O c:=λk v ag=>by
    unfold dj.kindOf at v;rw[ab] at v;obtain⟨t,e,r⟩:=D0 v;have:t= .cell∨t= .free:=by
     rcases r with rfl|⟨rfl,_⟩
     ·exact ag
     ·exact .inr L
    rcases this with rfl|rfl
    ·obtain⟨c,g⟩:=DY (n:=(s.heap.push {cls:=.type "dict",data:=.dict #[]}).objs.size) (acc:=gY X.env.cells d.names [])<|kn e;obtain⟨T,h⟩:=mem_lookup g;exact⟨T,by rw[u];exact h⟩
    ·obtain⟨c,f,_⟩:=look e;exact⟨c,f⟩
   rcases j with j|j
   ·exact A _ j (.inl L)
   ·exact A _ j (.inr L)
  ·have z:(d.names.lookup y==O To)=Y:=z;have z:d.names.lookup y=O .cell:=by simpa using z
   have e:a.cells.lookup y=O c:=e;rw[u] at e;rcases xx (kn e) with g|⟨_,l,_⟩
   ·rcases Aa g with g|⟨f,_⟩
    ·cases g
    ·have aa:=ok.uniq _ f;rw[z] at aa;cases aa
   ·rw[nE] at l;exact Hm l
  ·show b≠a.locals;rw[N];exact gj (x b q).2
  ·have e:a.cells.lookup y=O c:=e;rcases ae e with⟨f,_⟩|⟨f,_⟩
   ·exact(x b q).1.2.2.2.2.1 y c f z
   ·have l:s.heap.objs.size+1<=b:=by rw[<-z];exact f
    exact absurd (i6 (x b q).2<|Hm l) (qc _)
  ·rcases(x b q).1.2.2.2.1 with z|z
   ·exact I.ok.uX b o e z
   ·exact absurd (i6 (di e)<|eO I.ok.lG z) (qc _)
  ·rcases dN.mp (I.Du b z) with z|z
   ·exact(x b q).1.2.1 z
   ·exact(x b q).1.2.2.1 z
 refine⟨au,L,I.bare,Un.kept M,⟨λ_=>ai,?_,λa0 y av m n i=>?_⟩,λy c e=>?_,?_,λy c e=>?_,λp B=>?_,I.aS.kept M,by rw[Ac];exact I.len⟩
 ·show UB _ a.locals _;rw[N];exact UB.keeps (UB.new ..) λb o e=>Hl _ _ _ _ e
 ·obtain⟨n,ay⟩:=D1 n;have E:d.names.lookup y=O .free/\(a.kindOf y=O .cell∨a.kindOf y=O .free):=by
   have A:∀k,a.scope.names.lookup y=O k->k= .local ∨k= .cell∨k= .free->d.names.lookup y=O .free/\(a.kindOf y=O .cell∨a.kindOf y=O .free):=λk v ag=>by
    have ah:=v;rw[ab] at v;obtain⟨t,e,r⟩:=D0 v;have no:¬(t= .local ∨t= .cell):=λhh=>by
     rcases ok.own _ (kn e) hh with h|h
     ·obtain⟨p,B,az⟩:=iz.mp h;have i:=ok.ix p B;have:p.1=y:=az;rw[this] at i;exact ay<|iz.mpr ⟨p,B,Dx hN i m⟩
     ·exact h<|ei m
    rcases r with rfl|⟨rfl,rfl⟩
    ·rcases ag with rfl|rfl|rfl
     ·exact absurd (.inl L) no
     ·exact absurd (.inr L) no
     ·exact⟨e,.inr ah⟩
    ·exact⟨e,.inl ah⟩
   have i:su a.scope y:=i;rcases i with i|i|i
   ·exact A _ i (.inl L)
   ·exact A _ i (.inr<|.inl L)
   ·exact A _ i (.inr<|.inr L)
  obtain⟨a3,hn,Q⟩:=I.loc;have ar:su X.env.scope y:=(ok.free _ (kn E.1) L).elim (λk=>.inr<|.inl k)<|λk=>.inr<|.inr k;obtain⟨w,r,aa⟩:=Q a0 y av m n ar;refine⟨w,r,.inr ⟨E.2,?_⟩⟩;obtain⟨c,f,l⟩:=look E.1;rcases aa with⟨k,_⟩|⟨_,T,h,z⟩
  ·have k:X.env.scope.names.lookup y=O .local :=k;rcases ok.free _ (kn E.1) L with t|t<;>rw[show X.env.scope.names.lookup y=_ from t] at k<;>cases k
  ·rw[l] at h;cases h;exact⟨c,f,z.keeps M⟩
 ·have e:a.cells.lookup y=O c:=e;rcases ae e with⟨f,_⟩|⟨_,z⟩
  ·obtain⟨w,z⟩:=I.cell y c f;exact⟨w,z.keeps M⟩
  ·exact⟨_,z⟩
 ·show H a.locals=ai;rw[N];exact I.aS.fresh<|bG _
 ·have e:a.cells.lookup y=O c:=e;rcases ae e with⟨f,_⟩|⟨f,_⟩
  ·exact I.j7 y c f
  ·exact I.aS.fresh<|Hm f
 ·exact absurd (show p∈([]:List (af×bz))++[] from B) aT
def VO{E:aw->aF->Prop}{D:af}{xs:List V}{y:V}{v:aw}{Q:aw->aF->Prop}(I:Inv X pins U H s)(c:H D=O (.lst xs))(hz:xs.length<br)(r:RelV y v)
  (h:∀s',Inv X pins U (upd H D<|.lst<|xs++[y]) s'->Q .none s'):wpAny (bo X.prog X.w) X.A (call (.builtin "list.append") [.ref D,v]) Q E s:=by
 obtain⟨k,f,n,d,e⟩:=I.aS D _ c;have l:=d.length;refine append_at (hsz:=by rw[gB];omega) e λg i a=>?_;refine h {s with heap:=g} (I.write (t':=s.toks) (by rw[c];trivial) (.inl L) (λb u j q=>(i.2 b j).trans q) ⟨_,a⟩ ⟨by rw[aV];exact hz,f++[v],n+1,d.append<|.cons r .nil,?_⟩);rw[a];simp
def xA(X:Cx)(a:List bF)(t:TT):Prop:=
 ∀(pins:List (af×bz))(s:aF)(U:St)(H:Hp)(Q:Bool->Hp->Prop),Inv X pins U H s->t U H Q->
  wpAny (bo X.prog X.w) X.A (forIn a Y λc r=>if r=Y then do let b<-isTrue c X.env (eval c X.env);pure (Hq b) else pure (Hq r)) (TP X pins U Q) X.xe s
def sM:TT:=λ_ H Q=>Q Y H
def pA:xA X [] sM:=λ_ _ _ a _ I h=>wpAny_tests_nil ⟨a,I,h⟩
def Ad{c:bF}{t:TT}(h:PT X c t):xA X [c] t:=λa d U e Q I b=>wpAny_tests_one<|h a d U e Q I b
end
def vd{α:Type}{t:gQ α}{Q b:α->aF->Prop}{M:um}{A:cG}{E:aw->aF->Prop}{s:aF}(h:wpAny M A t Q (λ_ _=>False) s)(c:∀a s,Q a s->b a s):wpAny M A t b E s:=jZ h c λ_ _ z=>fY z
def VP{prog:cf}{w:bR}{A:cG}{R:CJ->aF->Prop}{s:aF}{g d iter:bF}{i:List bF}{j:gk}{k:cK}{f acc:aw}{a:dj}(I:Nat->aF->Prop)
  (l:∀n s,I n s->wpAny (bo prog w) A (wC f) (λr s₁=>match r with
   |none=>R (.ok .next) s₁
   |some v=>wpAny (bo prog w) A (G4 d f v) (λ_ s₁'=>wpAny (bo prog w) A (CD d a v) (λ_ s₂=>
     wpAny (bo prog w) A (forIn i Y λc r=>if r=Y then do let ok<-isTrue c a (eval c a);pure (Hq ok) else pure (Hq r)) (λok s₃=>
      if ok=Y then wpAny (bo prog w) A (eval g a) (λx s₄=>
       wpAny (bo prog w) A (call (.builtin "list.append") [acc,x]) (λ_ s₅=>∃m,m<n/\I m s₅) (wQ (bo prog w) A a λe s'=>R (.error e) s') s₄) (wQ (bo prog w) A a λe s'=>R (.error e) s') s₃
      else∃m,m<n/\I m s₃) (wQ (bo prog w) A a λe s'=>R (.error e) s') s₂) (wQ (bo prog w) A a λe s'=>R (.error e) s') s₁') (wQ (bo prog w) A a λe s'=>R (.error e) s') s₁) (wQ (bo prog w) A a λe s'=>R (.error e) s') s)
  (n:Nat)(h:I n s):
  codeAny (bo prog w) A (.compLoop (.ListComp g [⟨d,iter,i,0⟩] j k) 0 f acc a) R s:=by
 refine codeAny_loop L I (λn s o=>?_) n h;show wpAny _ A ((compTurn (.ListComp g [⟨d,iter,i,0⟩] j k) 0 f acc a).onRaise (λx=>do Tr x a;theTreesLotGoes x)) _ _ s;refine wpAny_noted ?_;rw[compTurn_list];refine bt<|Hr<|bt<|jZ (l n s o) (λr s₁ h₁=>?_) λ_ _ b=>b;cases r with
 |none=>exact cu h₁
 |some v=>
  refine bt<|jZ h₁ (λ_ s₁' h₁'=>?_) λ_ _ b=>b;refine bt<|jZ h₁' (λ_ s₂ h₂=>bt<|jZ h₂ (λok s₃ h₃=>?_) λ_ _ b=>b) λ_ _ b=>b;cases ok with
  |false=>exact cu ⟨L,h₃⟩
  |true=>
   exact bt<|bt<|jZ h₃ (λx s₄ h₄=>bt<|jZ h₄ (λ_ s₅ h₅=>cu<|cu ⟨L,h₅⟩) λ_ _ b=>b) λ_ _ b=>b
section
variable{X:Cx}
def ve(l:TI)(g:TG)(tt:TT)(n:TE)(vs:List Nat):TE:=λU H Q=>l U H λe f=>∀D,f D=ai->∃W:Nat->Nat->Hp->Prop,(∃m,W 0 m<|upd f D<|.lst [])/\∀i m H,W i m H->
 (e.stop i H/\Q (.ref D) H)∨(e.go i H/\∃d:Hp->Prop,(∀a,d a->∃h,h<m/\W (i+1) h a)/\∀x a,e.kE i H x a->g x (wipe U vs) a λσ2 o=>wipe σ2 vs=wipe U vs/\tt σ2 o λb j=>
  if b=Y then n σ2 j λy k=>∃c,k D=O (.lst c)/\c.length<br/\d (upd k D<|.lst<|c++[y]) else d j)
def Jw{pins:List (af×bz)}{s:aF}{U:St}{H:Hp}{Q:VK}{w v iter:bF}{A:List bF}{a:gk}{own:List (ao×Nat)}{ae a7:cK}{wi:TI}{g:TG}{tt:TT}{te:TE}{use:Option (aw->gQ Unit)}{Qf:aw->aF->Prop}
  (hc:X.calm=Y)(hN:X.N.Nodup)(ah:Inv X pins U H s)(hi:PI X v iter wi)(ok:xy X.N X.env.scope a own)
  (hg:∀(s:aF)(H:Hp)(C:af)(cl:List (ao×af))(d:List af),PG (X.iJ s H a (mw a cl C X.env) d) v g)(ht:∀(s:aF)(H:Hp)(C:af)(cl:List (ao×af))(d:List af),xA (X.iJ s H a (mw a cl C X.env) d) A tt)
  (he:∀(s:aF)(H:Hp)(C:af)(cl:List (ao×af))(d:List af),PE (X.iJ s H a (mw a cl C X.env) d) w te)(hs:∀x,G5 iter X.env x=pure x)
  (h:ve wi g tt te (own.map (·.2)) U H Q)
  (bl:∀D C s' m H',Inv X pins U H' s'->Q (.ref D) H'->s'.heap.Ns C m->lI X pins H' C->Ts (bo X.prog X.w) X.A X.xe use Qf (.ref D) C (.ok .next) s'):
  wpAny (bo X.prog X.w) X.A (afp (.ListComp w [⟨v,iter,A,0⟩] a ae) a X.env a7 (newList []) ax (eval iter X.env) use) Qf X.xe s:=by
 have a6:∀y∈a.names,y.2= .free->∃aq,X.env.cells.lookup y.1=O aq:=λy hy e=>by
  rcases ok.free y hy e with ar|ar
  ·exact ah.ok.has _ (.inl ar)
  ·exact ah.ok.has _ (.inr ar)
 refine wpAny_comprehension_free (use:=use) L hs (VL a6) ok.kind (λy hy e=>by rw[ok.uniq y hy,e])
  (bu (hi pins s U H _ ah h) λxv s1 hx=>bu hx λcE q h2=>?_)
 obtain⟨it,d,B,J,l,e,I2,T,ay,f2,cp⟩:=h2;subst e;refine CP (VM ?_) (by show 0<=br;decide);generalize E:q.heap.objs.size=D;have bx:l D=ai:=I2.aS.fresh<|Hb E;obtain⟨W,⟨m0,w0⟩,a8⟩:=cp D bx;generalize az:({q with heap:=q.heap.push {cls:=.type "list",data:=.seq ([]:List aw).toArray}}:aF)=c;have I:Inv X pins U (upd l D<|.lst []) c:=by
  rw[<-az];refine I2.laid (t':=q.toks) (λb o e=>fk _ e) (Hb E) ⟨dD _,[],0,.nil,?_⟩;rw[<-E];exact iS _ rfl
 have h3:c.heap=q.heap.push {cls:=.type "list",data:=.seq ([]:List aw).toArray}:=by rw[<-az]
 have sz:∀b∈d,b<q.heap.objs.size:=λb f=>by
  obtain⟨o,e,_⟩:=T.obj _ _ ay b f;exact di e
 have n:∀b∈d,lI X pins (upd l D<|.lst []) b/\b<c.heap.objs.size:=λb f=>by
  have aE:=sz b f;refine⟨⟨?_,(f2 b f).2⟩,by rw[h3,nE];exact Hn aE⟩;rw[aX (by rw[<-E];exact gj aE)];exact(f2 b f).1
 have b0:B 0 c.heap:=T.keep _ _ _ ay λb _ o e=>by rw[h3];exact fk _ e
 have M:=VN I ok hN n;have pg:=hg c (upd l D<|.lst []) c.heap.objs.size (iy (c.heap.objs.size+1) a.names<|gY X.env.cells a.names []) d;have pt:=ht c (upd l D<|.lst []) c.heap.objs.size (iy (c.heap.objs.size+1) a.names<|gY X.env.cells a.names []) d;have pe:=he c (upd l D<|.lst []) c.heap.objs.size (iy (c.heap.objs.size+1) a.names<|gY X.env.cells a.names []) d;show codeAny _ _ (.compStart (.ListComp w [⟨v,iter,A,0⟩] a ae) 0 (.ref it) (.ref D)<|mw a (iy (c.heap.objs.size+1) a.names<|gY X.env.cells a.names []) c.heap.objs.size X.env) (Ts (bo X.prog X.w) X.A X.xe use Qf (.ref D) c.heap.objs.size) {c with heap:=uF (c.heap.push {cls:=.type "dict",data:=.dict #[]}) a.names};have a0:∀b∈d,(upd l D<|.lst []) b=ai:=λb f=>(n b f).1.1;generalize b1:mw a (iy (c.heap.objs.size+1) a.names<|gY X.env.cells a.names []) c.heap.objs.size X.env=j at M pg pt pe⊢;have cL:j.locals=c.heap.objs.size:=by subst b1;rfl
 generalize c0:upd l D (.lst [])=k at I M pg pt pe w0 a0 n;generalize b2:({c with heap:=uF (c.heap.push {cls:=.type "dict",data:=.dict #[]}) a.names}:aF)=s4 at M⊢;have a3:B 0 s4.heap:=T.keep _ _ _ b0 λb _ o e=>by rw[<-b2];exact Hl _ _ _ _ (fk _ e)
 have ab:∀{σ':St}{H':Hp}{s':aF},Inv (X.iJ c k a j d) [] σ' H' s'->(∀b∈d,H' b=ai)->∀b∈d,lI (X.iJ c k a j d) [] H' b:=λ{σ' H' s'} r t b f=>
  ⟨t b f,(r.ok.xg b f).1,r.ok.uY b f,.inl f,λx aq e=>(r.ok.xg b f).2 x aq e,λct hp=>absurd (show ct∈([]:List (af×bz))++[] from hp) aT⟩
 have au:codeAny (bo X.prog X.w) X.A (.compLoop (.ListComp w [⟨v,iter,A,0⟩] a ae) 0 (.ref it) (.ref D) j) (Ts (bo X.prog X.w) X.A X.xe use Qf (.ref D) c.heap.objs.size) s4:=by
  refine VP (λaa s'=>∃i H',Inv (X.iJ c k a j d) [] (wipe U<|own.map (·.2)) H' s'/\B i s'.heap/\(∀b∈d,H' b=ai)/\W i aa H') ?_ m0 ⟨0,k,M,a3,a0,w0⟩
  rintro aa s5 ⟨i,p,N,a4,n5,w5⟩;rcases a8 i aa p w5 with⟨stop,qq⟩|⟨go,Nx,b3,step⟩
  ·have td:=T.done (X.iJ c k a j d) L L L hc i [] s5 _ p (λ_ _=>False) N (ab N n5) a4 stop;refine vd td λcv s6 ⟨hr,u⟩=>?_;subst hr;have I7:Inv X pins U p s6:=I.Im (ch:=d) u.os u.base u.aS u.bare λb f=>⟨(n b f).1.2.2.2.1,(n b f).1.2.1,(n b f).1.2.2.2.2.1,(n b f).1.2.2.2.2.2⟩;have nC:p c.heap.objs.size=ai:=by
    have z:p j.locals=ai:=u.free;rw[cL] at z;exact z
   obtain⟨m,t,_⟩:=u.loc;have t:s6.heap.Ns j.locals m:=t;rw[cL] at t;exact bl D c.heap.objs.size s6 m p I7 qq t<|I.sD (bG _) nC
  ·have ti:=T.item (X.iJ c k a j d) L L L hc i [] s5 _ p (λ_ _=>False) N (ab N n5) a4 go;refine vd ti λcv s6 ⟨cC,hr,h6⟩=>?_;subst hr;refine vd h6 λ_ s7 ⟨x,H7,I7,r7,y7,ag,n7⟩=>?_;have b4:=I7.pinned (ab I7 n7)<|T.obj _ _ ag;refine vd (pg _ s7 _ H7 x cC _ b4 r7 (step x H7 y7)) λ_ s8 ⟨σ8,H8,I8,a5,q8⟩=>?_;refine vd (pt _ s8 σ8 H8 _ I8 q8) λb s9 ⟨H9,I9,q9⟩=>?_;have fin:∀{s':aF}{H':Hp},Inv (X.iJ c k a j d) ([]++xm d s7.heap) σ8 H' s'->Nx H'->∃m,m<aa/\∃i H',Inv (X.iJ c k a j d) [] (wipe U<|own.map (·.2)) H' s'/\B i s'.heap/\(∀b∈d,H' b=ai)/\W i m H':=λ{s' H'} r nx=>by
    obtain⟨m',hm,w'⟩:=b3 H' nx;have av:∀b∈d,∀o,s7.heap.get? b=O o->s'.heap.get? b=O o/\H' b=ai:=λb f o e=>
     let z:=r.pin (b,o) (mr _ (mr _ (DE f e)))
     ⟨z.1,z.2.1⟩
    have hl:(wipe U<|own.map (·.2)).length=σ8.length:=by rw[<-a5,Ac]
    refine⟨m',hm,i+1,H',(r.zM (pins:=[])).weak hl<|λc5 c6 e=>?_,T.keep _ _ _ ag λb f o e=>(av b f o e).1,λb f=>?_,w'⟩
    ·rw[<-a5] at e;exact(D1 e).1
    ·obtain⟨o,e,_⟩:=T.obj _ _ ag b f;exact(av b f o e).2
   cases b with
   |false=>
    simp only[Tt,jG] at q9⊢;exact fin I9 q9
   |true=>
    simp only[gz] at q9⊢;refine vd (pe _ s9 σ8 H9 _ I9 q9) λz c1 ⟨yv,c2,b5,cc,c3,a9,bk,nx⟩=>?_;exact VO (X:=X.iJ c k a j d) b5 a9 bk cc λc4 cm=>fin cm nx
 exact codeAny_compStart_list au<|T.self X.A 0 _ _ _ a3 au
def lN{e d iter:bF}{i:List bF}{a:gk}{own:List (ao×Nat)}{l:cK}{j:TI}{g:TG}{tt:TT}{k:TE}(n:X.calm=Y)(o:X.N.Nodup)(p:PI X d iter j)(ok:xy X.N X.env.scope a own)
  (r:∀(s:aF)(H:Hp)(C:af)(cl:List (ao×af))(c:List af),PG (X.iJ s H a (mw a cl C X.env) c) d g)(t:∀(s:aF)(H:Hp)(C:af)(cl:List (ao×af))(c:List af),xA (X.iJ s H a (mw a cl C X.env) c) i tt)
  (u:∀(s:aF)(H:Hp)(C:af)(cl:List (ao×af))(c:List af),PE (X.iJ s H a (mw a cl C X.env) c) e k)(hs:∀x,G5 iter X.env x=pure x:=by intro _;rfl):
  PE X (.ListComp e [⟨d,iter,i,0⟩] a l) (ve j g tt k<|own.map (·.2)):=by
 intro ab s U H ag I h;rw[eval_ListComp];refine Jw n o I p ok r t u hs h λD C v m w y q z f=>⟨m,z,λae A=>?_⟩;obtain⟨B,E,f2,M,N,Q⟩:=f;exact⟨.ref D,w,y.turned (t':=v.toks) (λb ah T aa=>(A.2 b T).trans aa) B E M N Q,L,q⟩
def VQ{i:Nat}{y:ao}{l:cK}{j c iter:bF}{d:List bF}{b:gk}{own:List (ao×Nat)}{k p:cK}{m:TI}{g:TG}{tt:TT}{n:TE}(I:X.calm=Y)(r:X.N.Nodup)(M:X.N[i]?=O y)(q:X.env.scope.names.lookup y=O .local)
  (A:nA (.ListComp j [⟨c,iter,d,0⟩] b k) (O<|.Name y l) p.line X.env=pure Y)(N:PI X c iter m)(ok:xy X.N X.env.scope b own)
  (Q:∀(s:aF)(H:Hp)(C:af)(cl:List (ao×af))(f:List af),PG (X.iJ s H b (mw b cl C X.env) f) c g)(T:∀(s:aF)(H:Hp)(C:af)(cl:List (ao×af))(f:List af),xA (X.iJ s H b (mw b cl C X.env) f) d tt)
  (he:∀(s:aF)(H:Hp)(C:af)(cl:List (ao×af))(f:List af),PE (X.iJ s H b (mw b cl C X.env) f) j n)(hs:∀x,G5 iter X.env x=pure x:=by intro _;rfl):
  PS X (.Assign [.Name y l] (.ListComp j [⟨c,iter,d,0⟩] b k) p) (nT (ve m g tt n<|own.map (·.2))<|fV i):=by
 intro w s U H D aa h;rw[exec_Assign_Name_used _ _ _ _ A];refine bt<|Hr<|bt ?_;show wpAny _ X.A (do let _<-afp (.ListComp j [⟨c,iter,d,0⟩] b k) b X.env (firstIterPos [⟨c,iter,d,0⟩] k) (newList []) ax (eval iter X.env) (O<|CD (.Name y l) X.env)) _ _ s;have h:ve m g tt n (own.map (·.2)) U H (λx H1=>fV i x U H1 D.nx):=h
 refine bt<|bu (Jw (Qf:=λ_ o=>SP X w D .next o) I r aa N ok Q T he hs h λv C o ab H' I' ae hn ag=>?_) λ_ o hq=>cu<|cu hq;show wpAny _ _ (CD (.Name y l) X.env<|.ref v) _ _ _;refine aeU<|Il (v:=V.ref v) I' r M (.inl q) L (λs2 I2 ⟨a,sb,ha⟩=>?_)<|.inr q;obtain⟨f0,t,f2,f3,u,f5⟩:=ag;have B:C≠a:=by
  rcases ha with z|z
  ·rw[z];exact t
  ·exactλe=>u y a z e.symm
 refine⟨ab,hn.sameBut sb B,λh3 E=>?_⟩;exact⟨_,H',I2.turned (t':=s2.toks) (λah aq hb e=>(E.2 ah hb).trans e) f0 t f3 u f5,ae⟩
def VR{e:bF}{f:List Comprehension}{b:gk}{c d:cK}{y:ao}{l:Nat}{a:dj}(g:a.scope.kind= .function)(h:a.scope.names.lookup y=O .local)(i:(d.line==c.line)=Y)
  (j:(b.names.any λ(n,k)=>n==y&&(k== .local ||k== .cell))=ax):nA (.ListComp e f b c) (O<|.Name y d) l a=pure Y:=by
 have ky:a.kindOf y=O .local :=h;have m:a.blockKind= .function:=by unfold dj.blockKind;rw[g];rfl
 unfold nA;simp only[m,ky,j,bF.pos,i];rfl
end
def Jx{K:bj}{a:af}{xs:List V}{g:TG}{tt:TT}{k:TE}{vs:List Nat}{U:St}{l:Hp}{D:af}{n:Hp->Prop}(Pv:Nat->Hp->Prop)(r:Pv 0 (upd l D<|.lst []))(s:∀i H,i<=xs.length->Pv i H->aM K H a xs)
  (hs:∀i x H,xs[i]?=O x->Pv i H->g x (wipe U vs) H λσ2 f=>wipe σ2 vs=wipe U vs/\tt σ2 f λb c=>
   if b=Y then k σ2 c λy d=>∃acc,d D=O (.lst acc)/\acc.length<br/\Pv (i+1) (upd d D<|.lst<|acc++[y]) else Pv (i+1) c)(t:∀H,Pv xs.length H->n H):
  ∃W:Nat->Nat->Hp->Prop,(∃m,W 0 m<|upd l D<|.lst [])/\∀i m H,W i m H->
   ((je K a).stop i H/\n H)∨((je K a).go i H/\∃h:Hp->Prop,(∀H',h H'->∃o,o<m/\W (i+1) o H')/\∀x H',(je K a).kE i H x H'->g x (wipe U vs) H' λσ2 f=>wipe σ2 vs=wipe U vs/\tt σ2 f λb c=>
    if b=Y then k σ2 c λy d=>∃acc,d D=O (.lst acc)/\acc.length<br/\h (upd d D<|.lst<|acc++[y]) else h c):=by
 refine⟨λi m H=>m=xs.length-i/\i<=xs.length/\Pv i H,⟨xs.length,aT,dD _,r⟩,?_⟩;rintro i m H ⟨rfl,u,p⟩;have q:=s i H u p;by_cases j:i<xs.length
 ·refine .inr ⟨⟨xs,xs[i],q,by simp[j]⟩,Pv<|i+1,λH' v=>⟨xs.length-(i+1),aG,L,j,v⟩,λx H' y=>?_⟩;obtain⟨e,y⟩:=y;subst e;exact hs i x _ (y xs q) p
 ·have e:i=xs.length:=by omega
  subst e;exact .inl ⟨⟨xs,q,bG _⟩,t H p⟩
def VS{K:bj}{a:af}{xs:List V}{g:TG}{tt:TT}{k:TE}{vs:List Nat}{U:St}{l:Hp}{D:af}{n:Hp->Prop}(Pv:Nat->Hp->Prop)(r:Pv 0 (upd l D<|.lst []))(s:∀i H,i<=xs.length->Pv i H->cO K H a xs)
  (hs:∀i x H,xs[i]?=O x->Pv i H->g x (wipe U vs) H λσ2 f=>wipe σ2 vs=wipe U vs/\tt σ2 f λb c=>
   if b=Y then k σ2 c λy d=>∃acc,d D=O (.lst acc)/\acc.length<br/\Pv (i+1) (upd d D<|.lst<|acc++[y]) else Pv (i+1) c)(t:∀H,Pv xs.length H->n H):
  ∃W:Nat->Nat->Hp->Prop,(∃m,W 0 m<|upd l D<|.lst [])/\∀i m H,W i m H->
   ((mI K a).stop i H/\n H)∨((mI K a).go i H/\∃h:Hp->Prop,(∀H',h H'->∃o,o<m/\W (i+1) o H')/\∀x H',(mI K a).kE i H x H'->g x (wipe U vs) H' λσ2 f=>wipe σ2 vs=wipe U vs/\tt σ2 f λb c=>
    if b=Y then k σ2 c λy d=>∃acc,d D=O (.lst acc)/\acc.length<br/\h (upd d D<|.lst<|acc++[y]) else h c):=by
 refine⟨λi m H=>m=xs.length-i/\i<=xs.length/\Pv i H,⟨xs.length,aT,dD _,r⟩,?_⟩;rintro i m H ⟨rfl,u,p⟩;have q:=s i H u p;by_cases j:i<xs.length
 ·refine .inr ⟨⟨xs,xs[i],q,by simp[j]⟩,Pv<|i+1,λH' v=>⟨xs.length-(i+1),aG,L,j,v⟩,λx H' y=>?_⟩;obtain⟨e,y⟩:=y;subst e;exact hs i x _ (y xs q) p
 ·have e:i=xs.length:=by omega
  subst e;exact .inl ⟨⟨xs,q,bG _⟩,t H p⟩
def jO(N:List ao)(b a:gk)(own:List (ao×Nat)):Bool:=
 (match a.kind with|.function=>Y|_=>ax)&&(a.names.all λy=>decide (a.names.lookup y.1=O y.2))&&(own.all λp=>decide (N[p.2]?=O p.1))&&
  (a.names.all λy=>match y.2 with
   |.free=>(match b.names.lookup y.1 with|some .cell=>Y|some .free=>Y|_=>ax)
   |.local =>decide (y.1∈own.map (·.1))||decide (y.1∉N)
   |.cell=>decide (y.1∈own.map (·.1))||decide (y.1∉N)
   |_=>Y)
def kL{N:List ao}{c b:gk}{own:List (ao×Nat)}(h:jO N c b own=Y):xy N c b own:=by
 unfold jO at h;simp only[bL,qk,bO] at h;obtain⟨⟨⟨d,g⟩,i⟩,f⟩:=h;refine⟨?_,g,i,λy a e=>?_,λy a e=>?_⟩
 ·split at d
  ·assumption
  ·cases d
 ·have q:=f y a;simp only[e] at q;split at q<;>first|exact .inl (by assumption)|exact .inr (by assumption)|cases q
 ·have q:=f y a;rcases e with e|e<;>(simp only[e,jH,bO] at q;exact q)
section
variable{prog:cf}{w:bR}{A:cG}{R:CJ->aF->Prop}{s:aF}{elt t0 i0 t1 i1:bF}{ifs0 ifs1:List bF}{scope:gk}{pos:cK}{it acc:aw}{env:dj}
end
section
variable{X:Cx}
end
section
variable{κ:Type}[DecidableEq κ]
def da(a:List (κ×V))(k:κ):Option V:=(a.find? λb=>decide (b.1=k)).map (·.2)
def putK(b:List (κ×V))(k:κ)(v:V):List (κ×V):=
 if(b.any λa=>decide (a.1=k))=Y then b.map (λa=>if a.1=k then(a.1,v) else a) else b++[(k,v)]
def Ae{k:κ}:da ([]:List (κ×V)) k=ai:=rfl
def mM{p:κ×V}{r:List (κ×V)}{k:κ}(e:p.1=k):da (p::r) k=O p.2:=by simp[da,ko,e]
def mO{p:κ×V}{r:List (κ×V)}{k:κ}(e:¬p.1=k):da (p::r) k=da r k:=by simp[da,ko,e]
def vf(k:κ):∀a:List (κ×V),(a.any λb=>decide (b.1=k))=(da a k).isSome
 |[]=>rfl
 |p::r=>by
  rw[oO];by_cases e:p.1=k
  ·simp only[mM e,eN e,Bool.true_or,Tn]
  ·rw[mO e,gP e,afq];exact vf k r
def Jy(k j:κ)(y:V):∀b:List (κ×V),da (b.map λa=>if a.1=k then(a.1,y) else a) j=(da b j).map λx=>if j=k then y else x
 |[]=>rfl
 |p::r=>by
  have c:=Jy k j y r;rw[cM];by_cases h:p.1=k
  ·rw[aA h];by_cases e:p.1=j
   ·rw[mM (p:=(p.1,y)) e,mM e,Hs,aA<|e.symm.trans h]
   ·rw[mO (p:=(p.1,y)) e,mO e,c]
  ·rw[ak h];by_cases e:p.1=j
   ·rw[mM (p:=p) e,mM e,Hs,ak<|λz=>h<|e.trans z]
   ·rw[mO (p:=p) e,mO e,c]
def Jz(k j:κ)(y:V):∀b:List (κ×V),da b k=ai->da (b++[(k,y)]) j=if j=k then O y else da b j
 |[],_=>by
  by_cases e:k=j
  ·rw[aA e.symm];exact mM (p:=(k,y)) e
  ·rw[ak (λz=>e z.symm)];exact mO (p:=(k,y)) e
 |p::r,a=>by
  rw[rS];have c:¬p.1=k:=λz=>by rw[mM z] at a;cases a
  rw[mO c] at a;have d:=Jz k j y r a;by_cases e:p.1=j
  ·rw[mM e,mM e,ak<|λz=>c<|e.trans z]
  ·rw[mO e,mO e,d]
def sN(b:List (κ×V))(k j:κ)(y:V):da (putK b k y) j=if j=k then O y else da b j:=by
 unfold putK;by_cases a:(b.any λc=>decide (c.1=k))=Y
 ·rw[aA a,Jy];rw[vf] at a;by_cases e:j=k
  ·obtain⟨x,d⟩:=zf.mp a;rw[aA e,e,d,Hs,aA L]
  ·rw[ak e];cases da b j with
   |none=>rfl
   |some x=>rw[Hs,ak e]
 ·rw[ak a];refine Jz k j y b ?_;rw[vf] at a;cases q:da b k with
  |none=>rfl
  |some x=>rw[q] at a;exact(a L).elim
def vg(a:List (κ×V))(k:κ)(v:V):(putK a k v).length<=a.length+1:=by
 unfold putK;split
 ·rw[bH];omega
 ·rw[aV,bV,ly];omega
def VT{a:List (κ×V)}{k:κ}(v:V)(h:da a k=ai):putK a k v=a++[(k,v)]:=by
 unfold putK;rw[vf,h];exact ak aB
def gD.Af{o:Option V}{u:Option aw}(r:gD o u):o.isSome=u.isSome:=by
 cases o with
 |none=>cases u with
  |none=>rfl
  |some _=>exact(show False from r).elim
 |some _=>cases u with
  |none=>exact(show False from r).elim
  |some _=>rfl
def gD.getD{o:Option V}{u:Option aw}{d:V}{d':aw}(r:gD o u)(a:RelV d d'):RelV (o.getD d) (u.getD d'):=by
 cases o with
 |none=>cases u with
  |none=>exact a
  |some _=>exact(show False from r).elim
 |some _=>cases u with
  |none=>exact(show False from r).elim
  |some _=>exact r
def KV.val{d:List (κ×V)}{vs:List (κ×aw)}(r:KV d vs)(k:κ):gD (da d k) (wR vs k):=by
 unfold KV at r;induction r with
 |nil=>exact rM
 |@cons p q j a h t g=>
  obtain⟨f,i⟩:=h;by_cases e:p.1=k
  ·have c:q.1=k:=f.symm.trans e;have b:wR (q::a) k=O q.2:=by simp[wR,ko,c]
   rw[mM e,b];exact i
  ·have c:¬q.1=k:=λz=>e<|f.trans z;have b:wR (q::a) k=wR a k:=by simp[wR,ko,c]
   rw[mO e,b];exact g
def KV.any{b:List (κ×V)}{vs:List (κ×aw)}(r:KV b vs)(k:κ):(b.any λa=>decide (a.1=k))=vs.any λa=>decide (a.1=k):=by
 unfold KV at r;induction r with
 |nil=>rfl
 |cons h t c=>rw[oO,oO,c,h.1]
def KV.D3{c:List (κ×V)}{vs:List (κ×aw)}(r:KV c vs)(k:κ){y:V}{u:aw}(d:RelV y u):
  KV (c.map λa=>if a.1=k then(a.1,y) else a) (vs.map λa=>if a.1=k then(a.1,u) else a):=by
 unfold KV at r⊢;induction r with
 |nil=>exact .nil
 |@cons p q i j h t f=>
  rw[cM,cM];refine .cons ?_ f;obtain⟨b,g⟩:=h;by_cases e:p.1=k
  ·rw[aA e,aA<|b.symm.trans e];exact⟨b,d⟩
  ·rw[ak e,ak<|λz=>e<|b.trans z];exact⟨b,g⟩
def KV.put{a:List (κ×V)}{vs:List (κ×aw)}(r:KV a vs)(k:κ){y:V}{u:aw}(b:RelV y u):KV (putK a k y) (stored vs k u):=by
 unfold putK stored;rw[r.any k];by_cases e:(vs.any λc=>decide (c.1=k))=Y
 ·rw[aA e,aA e];exact r.D3 k b
 ·rw[ak e,ak e];exact uG r ⟨L,b⟩
def KV.length{a:List (κ×V)}{vs:List (κ×aw)}(r:KV a vs):a.length=vs.length:=fj r
end
def xB{P:cf}{w:bR}{k:Key}{u:aw}(r:RelV (kV k) u):(jr P w).is k u=Y:=by
 cases k with
 |inl i=>obtain⟨t,e⟩:=(show∃t,u=y6 i t from r);subst e;exact UM P w i t
 |inr x=>obtain⟨t,e⟩:=(show∃t,u=GZ x t from r);subst e;exact UN P w x t
def JA{P:cf}{w:bR}:∀{a:List Key}{us:List aw},Vals (a.map kV) us->ItemsAre (jr P w) a us
 |[],_,r=>by rw[wN] at r;cases r;exact .nil
 |k::a,_,r=>by
  rw[cM] at r;cases r with
  |cons h t=>exact .cons (xB h)<|JA t
abbrev KT(H:Hp):List (List Key×V)->List (List Key×af×aw)->Prop:=Paired λp q=>p.1=q.1/\H q.2.1=O (.tup<|p.1.map kV)/\RelV p.2 q.2.2
def KT.val{H:Hp}{d:List (List Key×V)}{xs:List (List Key×af×aw)}(r:KT H d xs)(k:List Key):gD (da d k) ((mx xs k).map (·.2)):=by
 induction r with
 |nil=>exact rM
 |@cons p q j a h t g=>
  obtain⟨f,_,i⟩:=h;by_cases e:p.1=k
  ·have c:q.1=k:=f.symm.trans e;have b:mx (q::a) k=O q.2:=by simp[mx,ko,c]
   rw[mM e,b];exact i
  ·have c:¬q.1=k:=λz=>e<|f.trans z;have b:mx (q::a) k=mx a k:=by simp[mx,ko,c]
   rw[mO e,b];exact g
def KT.D3{H:Hp}{c:List (List Key×V)}{xs:List (List Key×af×aw)}(r:KT H c xs)(k:List Key){y:V}{u:aw}(f:RelV y u):
  KT H (c.map λb=>if b.1=k then(b.1,y) else b) (xs.map<|putAt k u):=by
 induction r with
 |nil=>exact .nil
 |@cons p q j l h t g=>
  rw[cM,cM];refine .cons ?_ g;obtain⟨a,d,i⟩:=h;unfold putAt;by_cases e:p.1=k
  ·rw[aA e,aA<|a.symm.trans e];exact⟨a,d,f⟩
  ·rw[ak e,ak<|λz=>e<|a.trans z];exact⟨a,d,i⟩
def KT.put{H:Hp}{a:List (List Key×V)}{xs:List (List Key×af×aw)}(r:KT H a xs)(k:List Key){b:af}{y:V}{u:aw}(d:H b=O (.tup<|k.map kV))(c:RelV y u):
  KT H (putK a k y) (Ht xs k b u):=by
 have e:(a.any λf=>decide (f.1=k))=(mx xs k).isSome:=by
  rw[vf,(r.val k).Af,Hu]
 unfold putK Ht;rw[e];by_cases q:(mx xs k).isSome=Y
 ·rw[aA q,aA q];exact r.D3 k c
 ·rw[ak q,ak q];exact uG r ⟨L,d,c⟩
def KT.keeps{H H':Hp}{a:List (List Key×V)}{xs:List (List Key×af×aw)}(r:KT H a xs)(c:∀b ys,H b=O (.tup ys)->H' b=O (.tup ys)):KT H' a xs:=
 Paired.fT r λ_ _ z=>⟨z.1,c _ _ z.2.1,z.2.2⟩
section
variable{P:cf}{w:bR}{H:Hp}{h:bC}{a:af}
def JB{u:HO}(ok:cQ P w H h)(e:Rd H a u):dP P w H h a u:=e.ok ok
def vh{b:List (Key×V)}(ok:cQ P w H h)(e:Rd H a (.dK b)):b.length<=br/\(a==jX)=ax/\∃vs,KV b vs/\h.DictOf (jr P w) a vs:=
 show dP P w H h a (.dK b) from JB ok e
def VU{b:List (Key×V)}(ok:cQ P w H h)(e:H a=O (.dK b)):b.length<=br/\(a==jX)=ax/\∃vs,KV b vs/\h.DictOf (jr P w) a vs:=vh ok<|.inl e
def vi{b:List Key}(ok:cQ P w H h)(e:H a=O (.tup<|b.map kV)):(wx<|jr P w).is h b a:=by
 obtain⟨_,c,r,o,d,f,n,g⟩:=(show dP P w H h a (.tup<|b.map kV) from ok a _ e);exact⟨o,c.toArray,n,d,f,g,by simpa using JA r⟩
def vj{c:List (List Key×V)}(ok:cQ P w H h)(e:Rd H a (.dT c)):c.length<=br/\(a==jX)=ax/\
  ∃xs,KT H c xs/\h.DictOfH (wx<|jr P w) a xs:=by
 obtain⟨z,y,xs,r,o,f,g,i,j,k,n,s⟩:=(show dP P w H h a (.dT c) from JB ok e);refine⟨z,y,xs,r,o,f,g,i,j,k,n,λx b=>?_,s⟩;have all:∀{l:List (List Key×V)}{m:List (List Key×af×aw)},KT H l m->∀x∈m,(wx<|jr P w).is h x.1 x.2.1:=by
  intro l m q;induction q with
  |nil=>intro x b;exact nomatch b
  |@cons p q v A d t u=>
   intro x b;rcases dN.mp b with e|b
   ·subst e;exact vi ok (by rw[<-d.1];exact d.2.1)
   ·exact u x b
 exact all r x b
def JC{b:List (List Key×V)}(ok:cQ P w H h)(e:H a=O (.dT b)):b.length<=br/\(a==jX)=ax/\
  ∃xs,KT H b xs/\h.DictOfH (wx<|jr P w) a xs:=vj ok<|.inl e
end
def lO(H:Hp)(a:af)(y:V)(r:Option V):Prop:=
 (∃c k,Rd H a (.dK c)/\y=kV k/\r=da c k)∨∃c k b,Rd H a (.dT c)/\y= .ref b/\H b=O (.tup<|k.map kV)/\r=da c k
def xC(H:Hp)(a:af)(y v:V)(H':Hp):Prop:=
 (∃c k,H a=O (.dK c)/\y=kV k/\c.length<br/\H'=upd H a (.dK<|putK c k v))∨
 ∃c k b,H a=O (.dT c)/\y= .ref b/\H b=O (.tup<|k.map kV)/\c.length<br/\H'=upd H a (.dT<|putK c k v)
def lO.t{H:Hp}{a b:af}{c:List (List Key×V)}{k:List Key}(e:H a=O (.dT c))(d:H b=O (.tup<|k.map kV)):lO H a (.ref b) (da c k):=.inr ⟨c,k,b,.inl e,L,d,L⟩
def xC.t{H:Hp}{a b:af}{c:List (List Key×V)}{k:List Key}{v:V}(e:H a=O (.dT c))(d:H b=O (.tup<|k.map kV))(f:c.length<br):
  xC H a (.ref b) v (upd H a<|.dT<|putK c k v):=.inr ⟨c,k,b,e,L,d,f,L⟩
section
variable{X:Cx}{pins:List (af×bz)}{U:St}{H:Hp}{s:aF}{a:af}{y v:V}{u r:aw}{o:Option V}{A:cG}{E:aw->aF->Prop}
def Inv.big(I:Inv X pins U H s):jX<s.heap.objs.size:=by
 have h:iw<s.heap.objs.size:=(I.mod.glob.keeps I.bk).lt;exact afr aB h
def VV{Q:aw->aF->Prop}(w:A.units+1<i7)(I:Inv X pins U H s)(g:lO H a y (O v))(n:RelV y u)(h:∀c s',Inv X pins U H s'->RelV v c->Q c s'):
  wpAny (bo X.prog X.w) A (wK (.ref a) u) Q E s:=by
 rcases g with⟨q,k,e,i,l⟩|⟨q,k,b,e,i,x,l⟩
 ·subst i;obtain⟨z,B,C,d,j⟩:=vh I.aS e;obtain⟨c,m,f⟩:=gD.some_of (v:=v) (o:=wR C k) (by rw[l];exact d.val k);exact wpAny_getItem_of (xB n) j.mapOf m<|h c _ (I.tok _) f
 ·subst i;cases(show u=dC b from n);obtain⟨z,B,D,d,j⟩:=vj I.aS e;obtain⟨c,m,f⟩:=gD.some_of (v:=v) (o:=(mx D k).map (·.2)) (by rw[l];exact d.val k)
  obtain⟨p,M,t⟩:=rQ.mp m;refine wpAny_getItem_heap (CQ w) (vi I.aS x) j M ?_;rw[t];exact h c _ (I.tok _) f
def VW{Q:aw->aF->Prop}(n:A.units+1<i7)(I:Inv X pins U H s)(g:lO H a y o)(j:RelV y u)(h:∀s',Inv X pins U H s'->Q (.bool o.isSome) s'):
  wpAny (bo X.prog X.w) A (hW .In u<|.ref a) Q E s:=by
 rcases g with⟨m,k,e,d,l⟩|⟨m,k,b,e,d,p,l⟩
 ·subst d;obtain⟨z,f,t,c,i⟩:=vh I.aS e;refine wpAny_in_of (xB j) f i.mapOf ?_;rw[<-(c.val k).Af,<-l];exact h _ (I.tok _)
 ·subst d;cases(show u=dC b from j);obtain⟨z,f,w,c,i⟩:=vj I.aS e;refine wpAny_in_heap (CQ n) (vi I.aS p) f i ?_;have q:=(c.val k).Af;rw[Hu] at q;rw[<-q,<-l];exact h _ (I.tok _)
def D4{h':bC}{t':Nat}{c:HO}(I:Inv X pins U H s)(e:xf (H a))(hs:uo a s.heap h')(f:∃q,h'.get? a=O q)(d:dP X.prog X.w (upd H a c) h' a c):
  Inv X pins U (upd H a c) {s with heap:=h',toks:=t'}:=
 I.write (x:=a) (e:=a) e (.inl L) (λb q g z=>(hs.2 b g).trans z) f d
def VX{P:cf}{w:bR}{H':Hp}{h':bC}{b:List (Key×V)}{vs:List (Key×aw)}(z:b.length<=br)(d:(a==jX)=ax)(c:KV b vs)(e:h'.DictOf (jr P w) a vs):
  dP P w H' h' a (.dK b):=⟨z,d,vs,c,e⟩
def VY{H':Hp}{Q:Unit->aF->Prop}(M:A.units+1<i7)(I:Inv X pins U H s)(g:xC H a y v H')(w:RelV y u)(x:RelV v r)(h:∀s',Inv X pins U H' s'->Q () s'):
  wpAny (bo X.prog X.w) A (setItem (.ref a) u r) Q E s:=by
 rcases g with⟨b,k,e,i,aa,j⟩|⟨b,k,ab,e,i,B,aa,j⟩
 ·subst i j;obtain⟨z,l,N,c,m⟩:=VU I.aS e;have n:N.length<=br:=by rw[<-c.length];exact z
  have p:(putK b k v).length<=br:=by have:=vg b k v;omega
  refine wpAny_setItem_pairs (hsz:=n) (xB w) m λC d t=>h _ ?_;have T:∃q,C.get? a=O q:=let⟨q,_,_,f,_⟩:=d;⟨q,f⟩;exact D4 I (by rw[e];exact rM) t T<|VX p l (c.put k x) d
 ·subst i j;cases(show u=dC ab from w);obtain⟨z,l,xs,c,m⟩:=JC I.aS e;have n:xs.length<=br:=by rw[<-fj c];exact z
  have p:(putK b k v).length<=br:=by have:=vg b k v;omega
  refine wpAny_setItem_heap (hsz:=n) (CQ M) (vi I.aS B) m λC d t=>h _ ?_;obtain⟨q,es,ep,f,h2,h3,h4,_,h5⟩:=d;refine D4 I (by rw[e];exact rM) t ⟨q,f⟩ ⟨p,l,_,(c.put k B x).keeps λae ys D=>?_,q,es,ep,f,h2,h3,h4,h5⟩;rw[aX (dO D e (λz=>nomatch z))];exact D
end
section
variable{X:Cx}{pins:List (af×bz)}{U:St}{H:Hp}{s:aF}{a:af}{kvs:List (Key×V)}{k:Key}{u:aw}{A:cG}{E:aw->aF->Prop}
end
def D5(i:bF):Prop:=∀a b,Hg i ax a b=operate [a,b] (wK a b)
def JD{prog:cf}{w:bR}{A:cG}{E:aw->aF->Prop}{s:aF}{c:dj}{b a:bF}{e:cK}{T id:String}{Q:aw->aF->Prop}
  (f:wJ (.type T) "__getitem__"=pure (O<|.builtin id))(hs:D5 a)
  (h:wpAny (bo prog w) A (eval b c) (λo s₁=>wpAny (bo prog w) A (eval a c) (λi s₂=>s₂.TypeIs o T/\wpAny (bo prog w) A (wK o i) Q E s₂) E s₁) E s):
  wpAny (bo prog w) A (eval (.Subscript b a e) c) Q E s:=by
 refine Tf<|jZ h (λo s₁ h₁=>jZ h₁ (λi s₂ h₂=>?_) λ_ _ x=>x) λ_ _ x=>x;obtain⟨d,h₂⟩:=h₂;unfold Tg;refine bt ?_;rw[getitemInPython_of_ne d.not_modules];refine bt<|wpAny_specialOf d f ?_;have fin:wpAny (bo prog w) A (Hg a ax o i) (λr s₃=>wpAny (bo prog w) A (letTemporaryGo b o r>>=λ_=>pure r) Q E s₃) E s₂:=by
  rw[hs o i];exact wpAny_operating<|jZ h₂ (λr s₃ h₃=>bt<|wpAny_letTemporaryGo<|cu h₃) λ_ _ x=>x
 first
  |exact cu<|bt fin
  |exact bt<|cu<|bt fin
  |exact bt fin
def VZ{X:Cx}{pins:List (af×bz)}{U:St}{H:Hp}{s:aF}{a:af}{y:V}{o:Option V}(I:Inv X pins U H s)(g:lO H a y o):s.TypeIs (.ref a) "dict":=by
 rcases g with⟨d,k,e,_,_⟩|⟨d,k,b,e,_,_,_⟩
 ·obtain⟨_,_,f,_,c⟩:=vh I.aS e;exact c.typeIs
 ·obtain⟨_,_,h,_,c⟩:=vj I.aS e;exact c.typeIs
def V0(c ty:TE):TE:=λU H Q=>c U H λx d=>ty U d λy b=>∃a v,x= .ref a/\lO b a y (O v)/\Q v b
def JE(ty c:TE):TE:=λU H Q=>ty U H λy d=>c U d λx b=>∃a o,x= .ref a/\lO b a y o/\Q (.bl o.isSome) b
def JF(c ty d:TE):TS:=λD U H=>d U H λv e=>c U e λx f=>ty U f λy g=>∃a b,x= .ref a/\xC g a y v b/\D.nx U b
section
variable{X:Cx}{o i e value:bF}{pos pos' tpos:cK}{td ty tv:TE}
def V1(f:X.A.units+1<i7)(j:PE X o td)(k:PE X i ty)(hs:D5 i):PE X (.Subscript o i pos) (V0 td ty):=by
 intro b s U H Q I h;refine JD Hv.lookup hs<|bu (j b s U H _ I h) λu l ⟨x,m,n,p,q⟩=>bu (k b l U m _ n q) λB C ⟨y,r,c,t,a,v,w,g,z⟩=>?_;subst w;obtain rfl:u=dC a:=p;exact⟨VZ c g,VV f c g t λD E A d=>⟨v,r,A,d,z⟩⟩
def V2(c:X.A.units+1<i7)(d:PE X i ty)(f:PE X o td):PC X .In i o (JE ty td):=by
 intro b s U H Q I h;refine bu (d b s U H _ I h) λA j ⟨y,k,l,m,n⟩=>bu (f b j U k _ l n) λu B ⟨x,p,q,r,a,t,v,g,w⟩=>?_;subst v;obtain rfl:u=dC a:=r;exact VW c q g m λC z=>⟨.bl t.isSome,p,z,L,w⟩
def V3(c:X.A.units+1<i7)(d:PE X o td)(f:PE X i ty)(j:PE X value tv)(hs:nA value (O<|.Subscript o i pos') pos.line X.env=pure ax):
  PS X (.Assign [.Subscript o i pos'] value pos) (JF td ty tv):=by
 intro b s U H D I h;refine wpAny_Assign_Subscript (bu (j b s U H _ I h) λr k ⟨aa,l,m,n,p⟩=>bu (d b k U l _ m p) λu q ⟨ab,t,v,w,x⟩=>bu (f b q U t _ v x) λM N ⟨ae,Q,y,z,a,A,B,g,C⟩=>?_) hs;subst B;obtain rfl:u=dC a:=w;exact VY c y g z n λT E=>⟨U,A,E,C⟩
end
def V4{P:cf}{w:bR}{H:Hp}(h:bC)(a:jX<h.objs.size):dP P w H (h.push {cls:=.type "dict",data:=.dict #[]}) h.objs.size (.dT []):=
 ⟨dD _,rC.mpr<|qf<|gj a,[],.nil,_,#[],0,iS _ rfl,⟨L,L,L⟩,L,L,Tu⟩
def V5:TE:=λ_ H Q=>∀p,H p=ai->Q (.ref p) (upd H p<|.dT [])
section
variable{X:Cx}{pos:cK}
def Ag:PE X (.Dict [] [] pos) V5:=λa s U H Q I h=>
 wpAny_Dict_empty ⟨.ref s.heap.objs.size,_,I.laid (a:=s.heap.objs.size) (o:=.dT []) (t':=s.toks) (λ_ _ q=>fk _ q) (bG _)<|V4 s.heap I.big,L,h _ (I.aS.fresh<|bG _)⟩
end
structure M2(X:Cx)(o:bF)(m:ao)(apos:cK)(e f:bF)(cpos:cK):Prop where
 base:rN o m X.env (eval o X.env)=eval o X.env
 D6:((eP cpos<|bS [e,f] X.env).all (λx=>!x.1)&&(qg cpos<|qi [] X.env).all (λx=>x.1.isSome)
  &&decide (([e,f]:List bF).length+([]:List CL).length+(if([]:List CL).isEmpty then 0 else 1)<30))=Y
 line:(apos.endLine==cpos.line)=Y
 trees:eP cpos (bS [e,f] X.env)=[(ax,eval e X.env),(ax,eval f X.env)]
def D7(H:Hp)(a:af):Prop:=(∃b,Rd H a<|.dK b)∨∃b,Rd H a<|.dT b
def JG{X:Cx}{pins:List (af×bz)}{U:St}{H:Hp}{s:aF}{a:af}(I:Inv X pins U H s)(d:D7 H a):
  s.TypeIs (.ref a) "dict"/\(∀b,dC a= .ref b->∃c,s.heap.get? b=O c/\c.dict=ai)/\(a==jX)=ax:=by
 rcases d with⟨j,e⟩|⟨j,e⟩
 ·obtain⟨_,g,k,_,f⟩:=vh I.aS e;refine⟨f.typeIs,λb q=>?_,g⟩;cases q;obtain⟨c,_,_,h,i,_⟩:=f;exact⟨c,h,i.2.1⟩
 ·obtain⟨_,g,l,_,f⟩:=vj I.aS e;refine⟨f.typeIs,λb q=>?_,g⟩;cases q;obtain⟨c,_,_,h,i,_⟩:=f;exact⟨c,h,i.2.1⟩
section
variable{X:Cx}{pins:List (af×bz)}{U:St}{H:Hp}{s:aF}{a:af}{y d:V}{u r:aw}{o:Option V}{A:cG}{E:aw->aF->Prop}
def V6{Q:aw->aF->Prop}(t:A.units+1<i7)(I:Inv X pins U H s)(g:lO H a y o)(m:RelV y u)(n:RelV d r)(h:∀p s',Inv X pins U H s'->RelV (o.getD d) p->Q p s'):
  wpAny (bo X.prog X.w) A (call (.builtin "dict.get") [.ref a,u,r]) Q E s:=by
 rcases g with⟨q,k,e,i,l⟩|⟨q,k,b,e,i,v,l⟩
 ·subst i;obtain⟨z,j,x,f,c⟩:=vh I.aS e;refine CS CT c.typeIs Tv (Tw _ _ _) (meets_dict_get_default (jr X.prog X.w) a (xB m) j r) ⟨_,c.mapOf,h _ _ (I.tok _) ?_⟩;rw[l];exact(f.val k).getD n
 ·subst i;cases(show u=dC b from m);obtain⟨z,j,w,f,c⟩:=vj I.aS e;refine CS CT c.typeIs Tv (Tw _ _ _) (meetsH_dict_get_default (wx<|jr X.prog X.w) a b j r) ⟨CQ t,k,w,vi I.aS v,c,h _ _ (I.tok _) ?_⟩;rw[l];exact(f.val k).getD n
end
def JH(d ty tx:TE):TE:=λU H Q=>d U H λx b=>∃a,x= .ref a/\D7 b a/\ty U b λy e=>tx U e λz c=>∃o,lO c a y o/\Q (o.getD z) c
section
variable{X:Cx}{o e f:bF}{apos cpos:cK}{td ty tx:TE}
def V7(j:X.A.units+1<i7)(k:PE X o td)(l:PE X e ty)(n:PE X f tx)(m:M2 X o "get" apos e f cpos):PE X (.Call (.Attribute o "get" apos) [e,f] [] cpos) (JH td ty tx):=by
 intro b s U H aa I h;refine Tx m.base m.D6 m.line Tz CT afs<|bu (k b s U H _ I h) λu p ⟨ab,q,c,r,a,t,d,v⟩=>?_;subst t;obtain rfl:u=dC a:=r;obtain⟨w,x,_⟩:=JG c d;refine⟨w,x,?_⟩;rw[m.trees];refine CN L (Hh (wH (bu (l b p U q _ c v) λT y ⟨ae,z,A,B,C⟩=>
  wH (bu (n b y U z _ A C) λfv s3 ⟨ag,D,E,M,ov,g,N⟩=>He ?_))))
 exact V6 j E g B M λw' s4 Q i=>⟨_,D,Q,i,N⟩
end
section
variable{X:Cx}{pins:List (af×bz)}{U:St}{H:Hp}{s:aF}{a:af}{kvs:List (Key×V)}{A:cG}{E:aw->aF->Prop}
end
section
variable{X:Cx}{pins:List (af×bz)}{U:St}{H:Hp}{s:aF}{a:af}{y:V}{u:aw}{A:cG}{E:aw->aF->Prop}
end
section
variable{prog:cf}{w:bR}{A:cG}{E:aw->aF->Prop}
end
section
variable{X:Cx}
end
section
variable{X:Cx}{pins:List (af×bz)}{U:St}{H:Hp}{s:aF}{h':bC}
def Inv.V8{t':Nat}{ch:List af}(I:Inv X pins U H s)(k:∀b o,b∉ch->s.heap.get? b=O o->h'.get? b=O o)(d:∀b∈ch,lI X pins H b):Inv X pins U H {s with heap:=h',toks:=t'}:=by
 have g:∀b u,H b=O u->b∉ch:=λb u e z=>by
  have q:=(d b z).1;rw[q] at e;cases e
 refine I.step (g':=s.gens) (d':=s.drawn) (ch:=ch) (λb f=>⟨(d b f).2.2.2.1,(d b f).2.1,(d b f).2.2.2.2.1,(d b f).2.2.2.2.2⟩) (λb o _ _ a e _=>k b o a e) (λb o _ _ a e _=>⟨o.slots,k b o a e⟩)
  (λ_ _ _ _ n=>n) (λb o a e=>⟨o,k b o a e⟩) (λ_ _ e=>e) (λ_ _ _ e=>e) (λb p e=>⟨#[],by rw[e];simp⟩) (λm h=>?_) (λb u e=>?_) I.bare
 ·obtain⟨o,i,j,l,r⟩:=h;exact⟨o,i,j,k _ o (λz=>(d _ z).2.1 L) l,r⟩
 ·refine(I.aS b u e).jc (λc v a q=>k c v ?_ q) (λ_ q=>q) λ_ _ q=>q;rcases a with z|z
  ·rw[z];exact g b u e
  ·exact g c _ z
def Inv.JI{t':Nat}{ch:List af}{T:af}{h:HO}(I:Inv X pins U H s)(k:∀b o,b∉ch->s.heap.get? b=O o->h'.get? b=O o)(f:∀b∈ch,lI X pins H b)(j:s.heap.objs.size<=T)
  (l:dP X.prog X.w (upd H T h) h' T h):Inv X pins U (upd H T h) {s with heap:=h',toks:=t'}:=by
 have g:H T=ai:=I.aS.fresh j;have i:∀b u,H b=O u->b∉ch:=λb u e z=>by
  have q:=(f b z).1;rw[q] at e;cases e
 refine I.step (g':=s.gens) (d':=s.drawn) (ch:=ch) (λb a=>⟨(f b a).2.2.2.1,(f b a).2.1,(f b a).2.2.2.2.1,(f b a).2.2.2.2.2⟩) (λb o _ _ d e _=>k b o d e) (λb o _ _ d e _=>⟨o.slots,k b o d e⟩)
  (λb o _ e n=>?_) (λb o d e=>⟨o,k b o d e⟩) (λb p e=>?_) (λb o u e=>?_) (λb A e=>⟨#[],?_⟩) (λm t=>?_) (λb u e=>?_) I.bare
 ·rw[aX (gj<|i6 (di e) j)];exact n
 ·rw[aX (bA e g)];exact e
 ·rw[aX (bA e g)];exact e
 ·rw[aX (bA e g),e];simp
 ·obtain⟨o,w,x,y,r⟩:=t;exact⟨o,w,x,k _ o (λz=>(f _ z).2.1 L) y,r⟩
 ·by_cases a:b=T
  ·subst a;rw[ba] at e;cases e;exact l
  ·rw[aX a] at e;refine(I.aS b u e).jc (λc v d q=>k c v ?_ q) (λc q=>by rw[aX (bA q g)];exact q) λc p q=>by rw[aX (bA q g)];exact q
   rcases d with z|z
   ·rw[z];exact i b u e
   ·exact i c _ z
end
section
variable{X:Cx}
def JJ{d:bF}{pins:List (af×bz)}{U:St}{H:Hp}{s:aF}{R:It->Hp->Prop}{c:It}{a:Nat->bC->Prop}{tk:Nat}(I:Inv X pins U H s)(o:bz)
  (T:Turn X.prog X.w X.K d c [s.heap.objs.size] s.heap.objs.size a)(st:a 0 (s.heap.push o))(q:R c H):DB X pins U d R (.ref s.heap.objs.size) {s with heap:=s.heap.push o,toks:=tk}:=by
 refine⟨s.heap.objs.size,[s.heap.objs.size],a,c,H,L,I.kept λb g e=>fk _ e,T,st,λb f=>?_,q⟩;have e:b=s.heap.objs.size:=by simpa using f
 subst e;exact I.sD (bG _)<|I.aS.fresh<|bG _
end
section
variable{X:Cx}{tg:bF}
end
section
variable{X:Cx}{tg:bF}
end
def xD(x:ao):It:=⟨λi _=>i<x.cps.size,λi H v a=>a=H/\∃c,x.cps[i]?=O c/\v= .str ⟨#[c]⟩,λi _=>x.cps.size<=i⟩
def JK{P:cf}{w:bR}{K:bj}{T:bF}(a:af)(x:ao)(t:Tok)(ty:String)(j:ty="str_ascii_iterator"∨ty="str_iterator"):
  Turn P w K T (xD x) [a] a (λi h=>h.IsStrIter a ty x t i) where
 mem:=by simp
 obj:=λi h st b d=>by
  have e:b=a:=by simpa using d
  subst e;obtain⟨o,e,c,aa⟩:=st;exact⟨o,e,λab z=>by rw[aa] at z;cases z⟩
 keep:=λi h f st ae=>let⟨o,ho,ag⟩:=st;⟨o,ae a aT o ho,ag⟩
 item:=by
  intro X r u v g i B s U H E I k st y;subst r u v;obtain⟨l,m,f2,n,p,q⟩:=k a aT;have W:zH X.prog X.w X.A a [a] [a] x.cps.size (SignAt x) (λi h=>h.IsStrIter a ty x t i):=by
   rcases j with e|e
   ·rw[e];exact zH.strAscii (I.ok.hd g) a x t
   ·rw[e];exact zH.strWide (I.ok.hd g) a x t
  have N:["enumerate","zip","dict_itemiterator","dict_reverseitemiterator","odict_iterator","itertools.zip_longest","itertools.pairwise"].contains ty=ax:=by
   rcases j with e|e
   ·rw[e];decide
   ·rw[e];decide
  refine W.item i s _ _ y st λab f D hv C kk=>?_;obtain⟨c,ah,Q,rfl⟩:=hv;have I1:Inv X B U H {s with heap:=f,toks:=D}:=I.turned (λb o d e=>kk b o (by simpa using d) e) l m n p q;obtain⟨oi,e,cc,dd⟩:=id C;exact⟨_,L,zL (s:={s with heap:=f,toks:=D}) e cc dd N ⟨.str ⟨#[c]⟩,H,I1,⟨ah,L⟩,⟨L,c,Q,L⟩,C,λb d=>(k b d).1⟩⟩
 done:=by
  intro X r u v g i B s U H E I k st y;subst r u v;obtain⟨l,m,f2,n,p,q⟩:=k a aT;have M:x.cps[i]?=ai:=aft y;rcases j with e|e
  ·rw[e] at st;exact wpAny_pyNext_ascii_end (I.ok.hd g) st M λf A=>⟨L,I.turned (t':=s.toks) (λb o d e=>A b o d e) l m n p q⟩
  ·rw[e] at st;exact wpAny_pyNext_wide_end (I.ok.hd g) st M λf A=>⟨L,I.turned (t':=s.toks) (λb o d e=>A b o d e) l m n p q⟩
 self:=λaq i s ar E st h=>by
  rcases j with e|e
  ·rw[e] at st;exact wpAny_pyIter_striter_ascii st h
  ·rw[e] at st;exact wpAny_pyIter_striter_wide st h
def V9(a:TE):TI:=λU H R=>a U H λv b=>∃x,v= .str x/\R (xD x) b
def Wa{X:Cx}{g e:bF}{a:TE}(i:PE X e a):PI X g e (V9 a):=by
 intro f s U H R I h;refine bu (i f s U H _ I h) λv b ⟨y,l,c,j,x,k,q⟩=>?_;subst k;obtain⟨t,rfl⟩:=j;cases d:x.cps.all (·<128)
 ·exact wpAny_pyIter_wide d<|JJ (tk:=b.toks) c _ (JK _ x t "str_iterator" (.inr L)) ⟨_,iS _ rfl,L,L⟩ q
 ·exact wpAny_pyIter_ascii d<|JJ (tk:=b.toks) c _ (JK _ x t "str_ascii_iterator" (.inl L)) ⟨_,iS _ rfl,L,L⟩ q
section
variable{prog:cf}{w:bR}{A:cG}{E:aw->aF->Prop}{s:aF}
def Wb{d:af}{o:bz}{es:Array my}{e:Nat}{Q:aw->aF->Prop}(f:(d==jX)=ax)(a:s.heap.get? d=O o)(g:o.ExactDict)(c:o.data= .dict es e)
  (h:Q (.ref s.heap.objs.size) {s with heap:=s.heap.push {cls:=.type "dict_keyiterator",data:=.fields #[.ref d,.int 0 0,.int es.size 0,.int e 0]}}):
  wpAny (bo prog w) A (CG<|.ref d) Q E s:=by
 have b:s.TypeIs (.ref d) "dict":=⟨o,a,g.1⟩;refine wpAny_pyIter_slot b afu<|CU afu b F.entry_dict_iter ?_<|F.args_dict_iter_1 _;unfold rT.«dict.__iter__»;refine bt ?_;unfold ahP;refine bt<|afv b ?_;show wpAny _ _ (pure<|dC d) _ _ s;refine cu ?_;show wpAny _ _ (afw d>>=_) _ _ s;unfold afw;rw[ak (by rw[f];exact fe)];refine bt<|cu ?_;refine bt<|CV a c ?_;refine bt<|TB a c ?_;refine bt<|CP<|cu ⟨_,L,"dict_keyiterator",_,⟨_,iS _ rfl,L⟩,CW.lookup,?_⟩;simpa[wD] using h
def Wc{b d:af}{i n c:Nat}{k:bz}{es:Array my}{l:my}{Q:Option aw->aF->Prop}(a:s.heap.IsKeyIter b d i n c)(h:s.heap.get? d=O k)(j:k.data= .dict es c)
  (hsz:es.size=n)(r:es[i]?=O l)(t:∀h',h'.IsKeyIter b d (i+1) n c->uo b s.heap h'->Q (O l.key) {s with heap:=h'}):wpAny (bo prog w) A (wC<|.ref b) Q E s:=by
 obtain⟨o,f,u,e⟩:=id a;unfold wC;refine bt (afx (Hw (name:=nF "__next__") a.typeIs CW
  (CU CW a.typeIs afy ?_<|afz _)))
 refine bt<|cu ?_;refine bt ?_;refine bt ?_;first|refine bt (Hx a.typeIs<|cu ?_)|refine bt<|Hy a.typeIs<|cu ?_
 refine bt<|afA f e ?_;have m:afB "dict_keyiterator"=ax:=by decide
 simp only[m,Tt,jG];show wpAny _ _ (if(dC d==uj)=Y then _ else _) _ _ s;rw[ak (show¬((dC d==uj)=Y) from fe)];refine bt<|cu ?_;refine bt<|CV h j ?_;rw[ak (by rw[hsz];simp)];refine bt<|cu ?_;refine bt<|TB h j ?_;rw[ak aT];refine cu ?_;obtain⟨p,q⟩:=afC.mp r;simp only[show¬((i:Int)<0) from by omega,jG,ku,afD p];refine bt ?_;first|refine bt (Hx a.typeIs<|cu ?_)|refine bt<|Hy a.typeIs<|cu ?_
 refine bt<|afE a.typeIs ?_;show wpAny _ _ (TC (.ref b) 1 (wD<|(i:Int)+1)>>=_) _ _ s;refine bt<|TF f e aT ?_;have g:(s.heap.update b<|TH (·.setIfInBounds 1 (wD<|(i:Int)+1))).IsKeyIter b d (i+1) n c:=
  ⟨_,CY _ f (TJ<|Hz e _),(afF ..).trans u,by rw[Hz e];simp[wD]⟩
 refine bt<|CZ ?_;refine bt<|afE (s:={s with heap:=s.heap.update b<|TH (·.setIfInBounds 1 (wD<|(i:Int)+1))}) g.typeIs ?_
 show wpAny _ _ (pure es[i].key) _ _ _;rw[q];exact cu<|cu ⟨_,L,cu<|t _ g (C0 ..)⟩
def Wd{b d:af}{i n f:Nat}{g:bz}{es:Array my}{Q:Option aw->aF->Prop}(p:A.handled=ai)(a:s.heap.IsKeyIter b d i n f)(c:s.heap.get? d=O g)(e:g.data= .dict es f)
  (hsz:es.size=n)(m:n<=i)(q:∀h',bC.ExtBut b s.heap h'->Q ai {s with heap:=h'}):wpAny (bo prog w) A (wC<|.ref b) Q E s:=by
 obtain⟨o,h,r,j⟩:=id a;unfold wC;refine bt (afx (Hw (name:=nF "__next__") a.typeIs CW
  (CU CW a.typeIs afy ?_<|afz _)))
 refine bt<|cu ?_;refine bt ?_;refine bt ?_;first|refine bt (Hx a.typeIs<|cu ?_)|refine bt<|Hy a.typeIs<|cu ?_
 refine bt<|afA h j ?_;have k:afB "dict_keyiterator"=ax:=by decide
 simp only[k,Tt,jG];show wpAny _ _ (if(dC d==uj)=Y then _ else _) _ _ s;rw[ak (show¬((dC d==uj)=Y) from fe)];refine bt<|cu ?_;refine bt<|CV c e ?_;rw[ak (by rw[hsz];simp)];refine bt<|cu ?_;refine bt<|TB c e ?_;rw[ak aT];refine cu ?_;have l:es.size<=i:=by rw[hsz];exact m
 simp only[show¬((i:Int)<0) from by omega,jG,ku,aft l];refine bt ?_;first|refine bt (Hx a.typeIs<|cu ?_)|refine bt<|Hy a.typeIs<|cu ?_
 show wpAny _ _ (TC (.ref b) 0 .none>>=_) _ _ s;refine bt<|TF h j aT ?_;show wpAny _ _ (newExc (.type "StopIteration") []>>=_) _ _ _;refine bt ?_;simp only[newExc,newTuple];refine bt (CP ?_<|by size_fits);refine bt (m:=afG _ _)<|wpAny_of_eq (a:=uj) (by first|rfl|(simp only[afG];rfl)) ?_;refine CP ?_ (by size_fits);simp only[raiseNew];refine bt<|wpAny_handled ?_;rw[show A.in1.handled=ai from p];refine bt<|cu<|wpAny_throw ?_;refine bt<|wpAny_isInstance (T:="StopIteration") (b:=Y) ⟨_,iS _ rfl,L⟩ isSubtype_stop ?_;exact cu<|q _ (((C0 ..).extBut.push _).push _)
end
def D8{α β:Type}{G:α->β->Prop}{l₁:List α}{l₂:List β}(h:Paired G l₁ l₂):∀{i:Nat}{a:α},l₁[i]?=O a->∃b,l₂[i]?=O b/\G a b:=by
 induction h with
 |nil=>intro i a e;simp at e
 |@cons a b l₁ l₂ r t c=>
  intro i d e;cases i with
  |zero=>
   simp only[List.getElem?_cons_zero,ahQ] at e;subst e;exact⟨b,L,r⟩
  |succ j=>
   simp only[TK] at e⊢;exact c e
section
variable{X:Cx}{pins:List (af×bz)}{U:St}{H:Hp}{s:aF}{d:af}{o:bz}
end
section
variable{P:cf}{w:bR}{K:bj}{tg:bF}{d:af}{o:bz}{es:Array my}{ep:Nat}
end
section
variable{X:Cx}{tg e:bF}{td:TE}{apos cpos:cK}
end
def JL(K:bj)(a:af):It:=
 ⟨λi H=>∃(b:List V)(x:V),aM K H a b/\b[i]?=O x,λi H v c=>∃T x,v= .ref T/\H T=ai/\c=upd H T (.tup [.int (i:Nat),x])/\∀b,aM K H a b->b[i]?=O x,λi H=>∃b:List V,aM K H a b/\b.length<=i⟩
def We{P:cf}{w:bR}{K:bj}{ae:List bF}{kk:Nat}{ag:cK}(a e c:af):
  Turn P w K (.Tuple ae kk ag) (JL K a) [e,c] e (λi h=>(∃g,IsEnum h e c ((i:Nat):Int) g)/\h.IsListIter c a i/\e≠c) where
 mem:=by simp
 obj:=λi h st b d=>by
  obtain⟨⟨g,f⟩,⟨o,r,t,hd⟩,_⟩:=st;have v:b=e∨b=c:=by simpa using d
  rcases v with z|z
  ·rw[z];exact⟨_,f,λaE q=>nomatch q⟩
  ·rw[z];exact⟨o,r,λaE q=>by rw[hd] at q;cases q⟩
 keep:=λi h y st aa=>let⟨⟨g,f⟩,hi,j⟩:=st;⟨⟨g,aa e aT _ f⟩,hi.at λo q=>aa c aT o q,j⟩
 item:=by
  intro X A B C t i Q s U H ab I l st D;subst A B C;obtain⟨⟨g,f⟩,k,j⟩:=st;obtain⟨xs,x,m,E⟩:=D;obtain⟨aq,M,p,hz⟩:=I.list m;obtain⟨u,hu,ru⟩:=M.get E;have T:e<s.heap.objs.size:=di f;have ar:c<s.heap.objs.size:=by obtain⟨_,q,_⟩:=k;exact di q
  refine wpAny_pyNext_enum_item f k p.isList (x:=u) (by simpa using hu) j λy r ah hT a0 hk=>?_;refine⟨_,L,wpAny_letOwnedTupleGo_enum (s:={s with heap:=y,toks:=s.toks+1}) r λn au N=>?_⟩;have av:n.get? s.heap.objs.size=O {cls:=.type "tuple",data:=.seq #[.int i s.toks,u]}:=(N.2 _ (wB T)).trans hT;have ay:dP X.prog X.w (upd H s.heap.objs.size<|.tup [.int (i:Nat),x]) n s.heap.objs.size (.tup [.int (i:Nat),x]):=
   ⟨by show 2<=br;decide,[.int i s.toks,u],.cons ⟨_,L⟩<|.cons ru .nil,⟨_,av,L,_,L⟩⟩
  have I1:Inv X Q U (upd H s.heap.objs.size<|.tup [.int (i:Nat),x]) {s with heap:=n,toks:=s.toks+1}:=
   I.JI (ch:=[e,c]) (λb ob d q=>(N.2 b<|λz=>d<|by simp[z]).trans<|hk b ob (λz=>d<|by simp[z]) (λz=>d<|by simp[z]) q) l (bG _) ay
  refine⟨.ref s.heap.objs.size,_,I1,L,⟨_,x,L,I.aS.fresh<|bG _,L,λys hy=>by rw[I.zJ hy m];exact E⟩,⟨⟨u,?_⟩,ah.at λo q=>(N.2 c<|qf j).trans q,j⟩,λb d=>?_⟩
  ·have e1:((i+1:Nat):Int)=(i:Int)+1:=by omega
   rw[e1];exact au
  ·have az:b<s.heap.objs.size:=by
    have v:b=e∨b=c:=by simpa using d
    rcases v with z|z
    ·rw[z];exact T
    ·rw[z];exact ar
   rw[aX (gj az)];exact(l b d).1
 done:=by
  intro X A B C t i Q s U H ab I l st D;subst A B C;obtain⟨⟨g,f⟩,k,j⟩:=st;obtain⟨xs,m,E⟩:=D;obtain⟨aq,M,p,hz⟩:=I.list m;obtain⟨f0,f1,f2,f3,f4,f5⟩:=l c aT;have hl:=M.length;exact wpAny_pyNext_enum_end (I.ok.hd t) f k p.isList (by simp;omega) λy eb=>⟨L,I.turned (t':=s.toks) (λb o d q=>eb b o d q) f0 f1 f3 f4 f5⟩
 self:=λa3 i s a4 ab st h=>let⟨⟨_,f⟩,_⟩:=st;afH f h
def Ah(K:bj)(c:TA):TI:=λU H R=>c U H λd b=>∃a e,d=[.ref a]/\aM K b a e/\R (JL K a) b
def xE{X:Cx}{e:bF}{j:TA}{p g m:cK}{n:List bF}{kk:Nat}(t:Gl X "enumerate")(u:X.mg "enumerate"=ai)(v:PA X [e] j)(hs:bS [e] X.env=[(ax,eval e X.env)]:=by rfl):
  PI X (.Tuple n kk m) (.Call (.Name "enumerate" p) [e] [] g) (Ah X.K j):=by
 intro f s U H R I h;refine Call_<|sy I t u boot_enumerate<|CH (bu (v g f s U H _ I h) λus c ⟨vs,k,d,w,x⟩=>?_) hs L;obtain⟨a,xs,y,A,q⟩:=x;subst y;cases w with
 |cons r B=>
  cases B;cases r;obtain⟨T,rv,C,hz⟩:=d.list A;refine call_enumerate_list C.isList λD l o aa E=>afH l ?_;have M:Inv X f U k {c with heap:=D}:=d.kept (t':=c.toks) E;refine⟨c.heap.objs.size+1,[c.heap.objs.size+1,c.heap.objs.size],_,_,k,L,M,We a (c.heap.objs.size+1) c.heap.objs.size,⟨⟨.none,l⟩,o,Nat.succ_ne_self _⟩,λb N=>?_,q⟩;have Q:b=c.heap.objs.size+1∨b=c.heap.objs.size:=by simpa using N
  have i:c.heap.objs.size<=b:=by
   rcases Q with z|z
   ·rw[z];exact zi _ _
   ·rw[z];exact bG _
  exact d.sD i<|d.aS.fresh i
def Wf:jY "zip"=O (.type "zip"):=by decide+kernel
def JM(K:bj)(a b:af):It:=
 ⟨λi H=>∃(c d:List V)(x y:V),aM K H a c/\aM K H b d/\c[i]?=O x/\d[i]?=O y,
  λi H v e=>∃T x y,v= .ref T/\H T=ai/\e=upd H T (.tup [x,y])/\(∀c,aM K H a c->c[i]?=O x)/\∀d,aM K H b d->d[i]?=O y,
  λi H=>∃c d:List V,aM K H a c/\aM K H b d/\(c.length<=i∨d.length<=i)⟩
def Wg{P:cf}{w:bR}{K:bj}{av:List bF}{kk:Nat}{ay:cK}{a b z TI TO g j:af}(D:ZipApart z TI TO g j a b):
  Turn P w K (.Tuple av kk ay) (JM K a b) [z,TI,TO,g,j] z (λi h=>IsZip h z TI TO .none/\IsPair h TI (.ref g) (.ref j)/\(∃x y,IsPair h TO x y)/\h.IsListIter g a i/\h.IsListIter j b i) where
 mem:=by simp
 obj:=λi h st c B=>by
  obtain⟨m,f,⟨x,y,l⟩,⟨o1,Q,_,d1⟩,⟨o2,T,_,d2⟩⟩:=st;have e':c=z∨c=TI∨c=TO∨c=g∨c=j:=by simpa using B
  rcases e' with q|q|q|q|q
  ·rw[q];exact⟨_,m,λv q=>nomatch q⟩
  ·rw[q];exact⟨_,f,λv q=>nomatch q⟩
  ·rw[q];exact⟨_,l,λv q=>nomatch q⟩
  ·rw[q];exact⟨o1,Q,λv q=>by rw[d1] at q;cases q⟩
  ·rw[q];exact⟨o2,T,λv q=>by rw[d2] at q;cases q⟩
 keep:=λi h h' st k=>by
  obtain⟨m,f,⟨x,y,l⟩,n,p⟩:=st;exact⟨k z aT _ m,k TI aT _ f,⟨x,y,k TO aT _ l⟩,n.at λo q=>k g aT o q,p.at λo q=>k j aT o q⟩
 item:=by
  intro X hP hw hK B i ae s U aa au I C st hg;subst hP hw hK;obtain⟨m,f,⟨x0,y0,l⟩,n,p⟩:=st;obtain⟨xs,ys,x,y,t,A,hx,hy⟩:=hg;obtain⟨ah,rv,ab,_⟩:=I.list t;obtain⟨ag,M,p2,_⟩:=I.list A;obtain⟨u,hu,ru⟩:=rv.get hx;obtain⟨E,aE,a0⟩:=M.get hy;have aq:z<s.heap.objs.size:=di m;refine wpAny_pyNext_zip_item D m f l n p ab.isList p2.isList (x:=u) (y:=E) (by simpa using hu) (by simpa using aE) λh' z' a3 a4 a5 hT bl H=>?_;refine⟨_,L,wpAny_letOwnedTupleGo_zip (s:={s with heap:=h'}) z' λN a6 r=>?_⟩;have a7:N.get? s.heap.objs.size=O {cls:=.type "tuple",data:=.seq #[u,E]}:=(r.2 _ (wB aq)).trans hT;have a8:dP X.prog X.w (upd aa s.heap.objs.size<|.tup [x,y]) N s.heap.objs.size (.tup [x,y]):=
   ⟨by show 2<=br;decide,[u,E],.cons ru<|.cons a0 .nil,⟨_,a7,L,_,L⟩⟩
  have I1:Inv X ae U (upd aa s.heap.objs.size<|.tup [x,y]) {s with heap:=N}:=
   I.JI (t':=s.toks) (ch:=[z,TI,TO,g,j]) (λc o e q=>(r.2 c<|λd=>e<|by simp[d]).trans<|H c o (λd=>e<|by simp[d]) (λd=>e<|by simp[d]) (λd=>e<|by simp[d]) (λd=>e<|by simp[d]) q) C (bG _) a8
  refine⟨.ref s.heap.objs.size,_,I1,L,⟨_,x,y,L,I.aS.fresh<|bG _,L,λbk hl=>by rw[I.zJ hl t];exact hx,λbk hl=>by rw[I.zJ hl A];exact hy⟩,⟨a6,?_,⟨u,E,?_⟩,?_,?_⟩,λc ar=>?_⟩
  ·exact(r.2 _ D.TIz).trans<|H _ _ D.TIz D.TITO D.TIi1 D.TIi2 f
  ·exact(r.2 _ D.TOz).trans a3
  ·exact a4.at λo q=>(r.2 _ D.i1z).trans q
  ·exact a5.at λo q=>(r.2 _ D.i2z).trans q
  ·have a9:c<s.heap.objs.size:=by
    have e':c=z∨c=TI∨c=TO∨c=g∨c=j:=by simpa using ar
    rcases e' with q|q|q|q|q
    ·rw[q];exact aq
    ·rw[q];exact di f
    ·rw[q];exact di l
    ·rw[q];obtain⟨_,Q,_⟩:=n;exact di Q
    ·rw[q];obtain⟨_,T,_⟩:=p;exact di T
   rw[aX (gj a9)];exact(C c ar).1
 done:=by
  intro X hP hw hK B i ae s U aa au I C st hg;subst hP hw hK;obtain⟨m,f,⟨x0,y0,l⟩,n,p⟩:=st;obtain⟨xs,ys,t,A,az⟩:=hg;obtain⟨ah,rv,ab,_⟩:=I.list t;obtain⟨ag,M,p2,_⟩:=I.list A;have l1:=rv.length;have l2:=M.length;have he:ah.toArray[i]?=ai∨ag.toArray[i]?=ai:=by
   rcases az with q|q
   ·exact .inl (by simp;omega)
   ·exact .inr (by simp;omega)
  exact wpAny_pyNext_zip_end (I.ok.hd B) D m f l n p ab.isList p2.isList he λh' H=>⟨L,I.V8 (t':=s.toks) (ch:=[z,TI,TO,g,j]) (λc o e q=>
   H c o (λd=>e<|by simp[d]) (λd=>e<|by simp[d]) (λd=>e<|by simp[d]) (λd=>e<|by simp[d]) q) C⟩
 self:=λbx i s b0 au st h=>afI st.1 h
def JN(K:bj)(d:TA):TI:=λU H R=>d U H λe c=>∃a b f g,e=[.ref a,.ref b]/\aM K c a f/\aM K c b g/\R (JM K a b) c
def Wh{X:Cx}{e e2:bF}{k:TA}{p g q:cK}{r:List bF}{kk:Nat}(y:Gl X "zip")(A:X.mg "zip"=ai)(B:PA X [e,e2] k)
  (hs:bS [e,e2] X.env=(ax,eval e X.env)::bS [e2] X.env:=by rfl)(s:(eP g<|bS [e2] X.env).any (·.1)=ax:=by rfl):
  PI X (.Tuple r kk q) (.Call (.Name "zip" p) [e,e2] [] g) (JN X.K k):=by
 intro i aa U ab R I ae;refine Call_<|sy I y A Wf<|CH (bu (B g i aa U ab _ I ae) λus d ⟨vs,l,f,C,D⟩=>?_) hs s;obtain⟨a,b,xs,ys,E,t,u,ag⟩:=D;subst E;cases C with
 |cons ah h=>
  cases h with
  |cons H h=>
   cases h;cases ah;cases H;obtain⟨ar,rv,m,_⟩:=f.list t;obtain⟨aq,au,n,_⟩:=f.list u;have M:a<d.heap.objs.size:=m.lt;have N:b<d.heap.objs.size:=n.lt;refine call_zip_2 m.isList n.isList λQ o v w T h2 av hk=>afI o ?_;have I2:Inv X i U l {d with heap:=Q}:=f.kept (t':=d.toks) hk;refine⟨d.heap.objs.size+4,[d.heap.objs.size+4,d.heap.objs.size+2,d.heap.objs.size+3,d.heap.objs.size,d.heap.objs.size+1],_,_,l,L,I2,Wg<|PySem.W.ktu_apart d.heap.objs.size a b M N,⟨o,v,⟨_,_,w⟩,T,h2⟩,λc x=>?_,ag⟩;have e':c=d.heap.objs.size+4∨c=d.heap.objs.size+2∨c=d.heap.objs.size+3∨c=d.heap.objs.size∨c=d.heap.objs.size+1:=by simpa using x
   have j:d.heap.objs.size<=c:=by
    rcases e' with z|z|z|z|z
    ·rw[z];exact zi _ _
    ·rw[z];exact zi _ _
    ·rw[z];exact zi _ _
    ·rw[z];exact bG _
    ·rw[z];exact zi _ _
   exact f.sD j<|f.aS.fresh j
end L2
section
namespace Bits
open PySem PyProof.Rows
end Bits
end
section
namespace TL
open PySem PySem.Builtin PySem.Builtin.Str PySem.StrLaws
abbrev tl(x:ao):List Nat:=x.cps.toList
def sO(x:ao):x.length=(tl x).length:=by simp[tl,afg]
def JO(x y:ao):tl (x++y)=tl x++tl y:=by
 show(x++y).cps.toList=_;rw[ao.cps_append,Array.toList_append]
def JP(s:String):tl (nF s)=s.toList.map afJ:=ahR s
def Ai(n:Nat):List Nat:=(Nat.toDigits 10 n).map afJ
def D9(n:Nat):tl (nF<|S2 ((n:Nat):Int))=Ai n:=ahS n
def JQ{n k:Nat}(a:0<k)(h:n<10^k):(Ai n).length<=k:=by
 have z:=ahT (v:=(n:Int)) aG a (by
  have e:((10:Int)^k)=((10^k:Nat):Int):=by
   first
    |exact(Int.natCast_pow 10 k).symm
    |simp
  rw[e];first|exact Int.ofNat_lt.mpr h|omega)
 rw[sO,D9] at z;exact z
end TL
end
namespace L2
open PySem PySem.Spec PyProof.Rows
section
variable{X:Cx}{pins:List (af×bz)}{U:St}{H:Hp}{s:aF}{Q:VK}
end
section
variable{X:Cx}
end
section
variable{X:Cx}{o e:bF}{to te:TE}
end
section
variable{X:Cx}
end
end L2
namespace Att
open PySem PySem.W PySem.Calls PyProof.Rows
section
variable{prog:cf}{w:bR}{A:cG}{E:aw->aF->Prop}{s:aF}{K:Frag}
end
end Att
namespace L2
open PySem PySem.Spec PyProof.Rows
def inClass(s:eT)(j:Nat):eT:=match s with
 |.ClassDef _ _ _ a _ _ _ _ _ _ _=>a.getD j<|.Pass ⟨0,0,0,0⟩
 |_=>.Pass ⟨0,0,0,0⟩
def lP(s:eT):Arguments:=match s with
 |.FunctionDef _ a _ _ _ _ _ _ _ _=>a
 |_=>{posonlyargs:=[],args:=[],vararg:=ai,kwonlyargs:=[],kw_defaults:=[],kwarg:=ai,defaults:=[]}
def ik(s:eT):List eT:=match s with
 |.FunctionDef _ _ b _ _ _ _ _ _ _=>b
 |_=>[]
def cR(s:eT):gk:=match s with
 |.FunctionDef _ _ _ _ _ _ a _ _ _=>a
 |_=>{kind:=.function,names:=[],isGenerator:=ax,isCoroutine:=ax}
abbrev E0:XK:=λ_ _ _=>False
structure gH(K:bj)(x qual:ao)(st:eT)(f:af)(fd:iT):Prop where
 ex:∃(oc:aw)(od:Option af)(kV doc pm:aw)(an:Option af)(cdv ct:aw)(osl:Array (Option aw)),
  fd=zg x qual (lP st) (ik st) (cR st) .none kV doc pm an cdv ct/\K.lookup f=O ⟨oc,od,.func fd,osl⟩/\Te K cdv qual=Y
 kp:nB K (.ref f)=Y
section
variable{P:cf}{w:bR}{K:bj}{mg:ao->Option aw}{base:bC}
def gH.binds{x g:ao}{st:eT}{f:af}{i:iT}{ps:List ao}(F:gH K x g st f i)
  (h:∀(kV a c:aw)(d:Option af)(b e:aw)(us:List aw),us.length=ps.length->y9 (zg x g (lP st) (ik st) (cR st) .none kV a c d b e) ⟨us,[]⟩=pure (ps.zip us)):Binds K i ps []:=by
 obtain⟨l,m,kV,a,c,d,b,e,j,rfl,lk,k⟩:=F.ex;exact .all<|h kV a c d b e
def JR{x a:ao}{st:eT}{f:af}{j:aw}{m e:Option af}{i:Array (Option aw)}{kV d g b h:aw}(l:K.lookup f=O ⟨j,m,.func<|zg x a (lP st) (ik st) (cR st) .none kV d g e b h,i⟩)
  (c:Te K b a=Y)(k:nB K (.ref f)=Y):gH K x a st f (zg x a (lP st) (ik st) (cR st) .none kV d g e b h):=⟨⟨j,m,kV,d,g,e,b,h,i,L,l,c⟩,k⟩
end
section
variable{X:Cx}
def pv(i:Nat){x:ao}{a:cK}(c:X.N[i]?=O x:=by rfl)(d:su X.env.scope x:=by first|exact nG rfl|exact wU (nG rfl)|exact wU<|wU rfl)(e:(x==("__debug__":ao))=ax:=by decide)
  (b:(x==("__classdict__":ao))=ax:=by decide):PE X (.Name x a) (dQ i):=Io c d e b
end
def mP{A B:Prop}(h:B):if ax=Y then A else B:=by
 rw[ak fe];exact h
def mQ{A B:Prop}(h:A):if Y=Y then A else B:=by
 rw[aA L];exact h
def J(H H':Hp):Prop:=∀b o,H b=O o->H' b=O o
def J.refl(H:Hp):J H H:=λ_ _ h=>h
def J.trans{H d e:Hp}(a:J H d)(b:J d e):J H e:=λc o h=>b c o<|a c o h
def J.free{H H':Hp}(e:J H H'){l:af}(h:H' l=afK):H l=afK:=by
 cases q:H l with
 |none=>rfl
 |some o=>
  rw[e l o q] at h;cases h
def J.seq{K:bj}{H H':Hp}{a:af}{xs:List V}(e:J H H')(h:aM K H a xs):aM K H' a xs:=by
 rcases h with(h|⟨o,h⟩)|h
 ·exact .inl<|.inl<|e _ _ h
 ·exact .inl<|.inr ⟨o,e _ _ h⟩
 ·exact .inr h
section
variable{κ:Type}[DecidableEq κ]
end
def at_of{xs:List V}{z:Int}{j:Nat}{v:V}(e:z=(j:Int))(h:xs[j]?=O v):ij xs z=O v:=by
 rw[e];exact fJ h
open Sem (wp)
def ip(h h':bC):Prop:=∀b o,h.get? b=O o->∃a,h'.get? b=O a/\a.cls=o.cls/\a.dict=o.dict
def ip.refl:ip h h:=λ_ o e=>⟨o,e,L,L⟩
def ip.trans(x:ip a b)(y:ip b c):ip a c:=λn o e=>by
 obtain⟨d,f,c1,g⟩:=x n o e;obtain⟨h,i,c2,j⟩:=y n d f;exact⟨h,i,c2.trans c1,j.trans g⟩
def ip.push(o:bz):ip h (h.push o):=λb u e=>⟨u,fk _ e,L,L⟩
def ip.upd(d:h.get? a=O c)(g:(f c).isFreed=ax)(i:(f c).cls=c.cls)(j:(f c).dict=c.dict):ip h (h.update a f):=λb u e=>by
 by_cases q:a=b
 ·subst q;rw[d] at e;cases e;exact⟨_,CY f d g,i,j⟩
 ·exact⟨u,(Th _ _ q).trans e,L,L⟩
def Wi(o:bz)(g:Array aw->Array aw):(o.mapFields g).dict=o.dict:=by
 obtain⟨c,d,a,b⟩:=o;cases a<;>rfl
structure Kp{α:Type}(t:gQ α):Prop where
 out:∀(M:um)(Γ:PySem.Ctx)(P:α->cK->aF->Prop)(Ee:aw->cK->aF->Prop)(p:cK)(s:aF),wp M Γ t P Ee p s->wp M Γ t (λa p' s'=>P a p' s'/\ip s.heap s'.heap) Ee p s
namespace Kp
variable{α β:Type}
def ju(a:α):Kp (Pure.pure a:gQ α):=⟨λ_ _ _ _ _ _ h=>⟨h,ip.refl⟩⟩
def vk(x:String):Kp (PySem.unsupported x:gQ α):=⟨λ_ _ _ _ _ _ h=>h⟩
def gI(j:Kp m)(k:∀a,Kp<|f a):Kp (m>>=f):=⟨λM Γ P c p s h=>by
 rw[gQ.wp_bind'] at h⊢;refine afL M Γ m (λa d e g=>?_) (λ_ _ _ x=>x) p s<|j.out M Γ _ c p s h;exact afL M Γ (f a) (λb l n i=>⟨i.1,g.2.trans i.2⟩) (λ_ _ _ x=>x) d e<|(k a).out M Γ P c d e g.1⟩
def cond[Decidable c](a:Kp t)(b:Kp u):Kp (if c then t else u):=by split<;>assumption
def ld(a:af):Kp (PySem.load a):=⟨λM Γ P c p s h=>by
 obtain⟨o,b,h⟩:=h;exact⟨o,b,h,ip.refl⟩⟩
def fU:Kp afM:=⟨λM Γ P a p s h=>by
 unfold afM at h⊢;rw[gQ.wp_stack] at h⊢;exact⟨h,ip.refl⟩⟩
def Wj(o:bz):Kp (PySem.alloc o):=⟨λ_ _ _ _ _ _ h=>⟨h,ip.push o⟩⟩
def fld(v:aw)(i:Nat):Kp (PySem.field v i):=⟨λM Γ P b p s h=>by
 obtain⟨a,o,c,x,e,d,f,g,h⟩:=(wp_field_iff Γ v i P b p s).mp h;exact(wp_field_iff Γ v i _ b p s).mpr ⟨a,o,c,x,e,d,f,g,h,ip.refl⟩⟩
def Ea(v:aw)(i:Nat)(x:aw):Kp (PySem.setField v i x):=⟨λM Γ P b p s h=>by
 obtain⟨a,o,f,e,c,d,g,h⟩:=(afN Γ v i x P b p s).mp h;exact(afN Γ v i x _ b p s).mpr ⟨a,o,f,e,c,d,g,h,ip.upd c (TJ<|Hz d _) (afF _ _)<|Wi _ _⟩⟩
def upd(a:af)(f:bz->Array (Option aw)):Kp (PySem.update a λo=>{o with slots:=f o}):=⟨λM Γ P d p s h=>by
 obtain⟨e,h⟩:=h;refine⟨e,h,?_⟩;obtain⟨c,b⟩:=zf.mp e;exact ip.upd b ((PySem.W.kts_isFreed c _).trans (afO.mp b).2) L L⟩
end Kp
def Wk(b:dj)(a:List dj):Kp (afP b a):=by
 unfold afP;repeat' with_reducible first
  |exact Kp.ju _|exact Kp.vk _|exact Kp.fld _ _|apply Kp.cond|apply Kp.gI|intro _
def Wl:Kp afQ:=by
 unfold afQ;exact Kp.gI Kp.fU λ_=>Kp.ju _
def Wm(b:dj)(i:Bool)(l:List dj):Kp (TM b i l):=by
 cases l with
 |nil=>
  unfold TM;exact Kp.cond (Kp.ju _)<|Kp.gI Wl λ_=>Kp.ju _
 |cons a r=>
  unfold TM;exact Kp.ju _
def JS:∀l:List dj,Kp<|readyFrames l
 |[]=>Kp.ju _
 |env::a=>by
  have c:=JS a;unfold readyFrames;cases env.frame with
  |none=>exact Kp.vk _
  |some f=>
   refine Kp.gI (Kp.ld _) λo=>Kp.cond (Kp.ju _) ?_;refine Kp.gI (Wk _ _) λi=>Kp.gI (Wm _ _ _) λb=>Kp.gI (Kp.upd f _) λ_=>c
def Wn(b:dj):Kp (TN b):=by
 unfold TN frameEnvs;refine Kp.gI (Kp.gI Kp.fU λ_=>Kp.ju _) λl=>?_;generalize(l.dropWhile λx=>x.frame !=b.frame)=c;cases c with
 |nil=>exact Kp.gI (Kp.ju _) λr=>by cases r<;>first|exact Kp.vk _|exact Kp.ju _
 |cons a r=>
  unfold frameObject;exact Kp.gI (Kp.gI (JS _) λ_=>Kp.ju _) λr=>by cases r<;>first|exact Kp.vk _|exact Kp.ju _
def Wo(f:af)(b:Bool):Kp (TQ f b):=by
 unfold TQ;refine Kp.gI Kp.fU λa=>?_;split<;>exact Kp.ju _
def Wq(n:String)(l:List aw):Kp (newFields n l):=by
 unfold newFields newObj newObjAsIs;repeat' with_reducible first
  |exact Kp.ju _|exact Kp.vk _|exact Kp.Wj _|apply Kp.cond|apply Kp.gI|intro _|split
def Eb(e:aw)(f:Option af):Kp (setFlight e f):=by
 unfold setFlight;refine Kp.gI (Kp.fld _ _) λa=>?_;exact Kp.cond (Kp.Ea _ _ _)<|Kp.ju _
def JT(e:aw)(a:dj):Kp (Tr e a):=by
 have d:∀(c:aw)(f:af)(b:Bool),Kp (do TC e 1 (<-afR c (<-TN a) .none (wD f) .none (<-TQ f b))):=λc f b=>
  Kp.gI (Wn a) λg=>Kp.gI (Wo f b) λh=>Kp.gI (by unfold afR;exact Wq _ _) λx=>Kp.Ea _ _ _
 unfold Tr;cases a.frame with
 |none=>exact Kp.vk _
 |some f=>
  refine Kp.gI (Kp.fld _ _) λc=>?_;dsimp only;refine Kp.cond (Kp.gI (Kp.fld _ _) λy=>Kp.cond (Kp.ju _)<|Kp.gI (Kp.Ea _ _ _) λ_=>d _ _ _)<|d _ _ _
def JU(a:dj)(e:aw):Kp (ze a e):=by
 unfold ze;exact Kp.gI (JT _ _) λ_=>Eb _ _
def Kp.any(k:Kp t)(h:wpAny M A t Q E s):wpAny M A t (λa s'=>Q a s'/\ip s.heap s'.heap) E s:=
 λΓ p hΓ=>k.out M Γ _ _ p s (h Γ p hΓ)
structure sP(outer:List dj)(H H':Hp)(h h':bC)(a:af)(cls:aw)(od:Option af):Prop where
 ex:∃(B:bC)(a0:aw),zj B outer a cls a0 h'/\(∀b o u,H' b=O u->h'.get? b=O o->B.get? b=O o)/\(∀b o,h.get? b=O o->H b=ai->b∉fH outer->B.get? b=O o)
 dict:∃o,h'.get? a=O o/\o.dict=od
 free:H' a=ai
def cX(P:cf)(w:bR):kH:=λd H s E e b=>
 ∃(a C:af)(f:Option af)(c:Hp),e= .ref a/\b.os=s.os/\rG b.gens/\Un (fH d) [] H c s.heap b.heap/\cQ P w c b.heap/\sP d H c s.heap b.heap a (.ref C) f/\E (.ref C) f c
structure Lv(X:Cx)(E:XK):Prop where
 xe:∀e s',wpAny (bo X.prog X.w) X.A (ze X.env e) (λ_ s''=>cX X.prog X.w X.outer X.iX X.eA E e s'') (λe' s''=>cX X.prog X.w X.outer X.iX X.eA E e' s'') s'->X.xe e s'
 fU:X.stack=X.env::X.outer
 Ec:X.env.frame=O X.env.locals
 ex:X.ex=[]
 own:G3 (bo X.prog X.w) X.A X.env X.xe
def Wr{P:cf}{w:bR}{K:bj}{d:ao->Option aw}{base:bC}{N:List ao}{c:ao}{a:gk}{f:af}{e:aw}{A:cG}{b:List dj}{s:aF}{H:Hp}{E:XK}:
  Lv (jf (cX P w) P w K d base N c a f e A b s H E) E:=⟨λ_ _ h=>h,L,L,L,G3.leaving⟩
def hide(H:Hp)(a:af):Hp:=λb=>if b=a then ai else H b
def hide_self:hide H a a=ai:=by unfold hide;rw[aA L]
def hide_ne(h:b≠a):hide H a b=H b:=by unfold hide;rw[ak h]
def of_hide(h:hide H a b=O u):b≠a/\H b=O u:=by
 by_cases q:b=a
 ·subst q;rw[hide_self] at h;cases h
 ·rw[hide_ne q] at h;exact⟨q,h⟩
def lQ(a C:af)(b:Option af)(h:bC):Prop:=∃t:aw,h.get? a=O {cls:=.ref C,dict:=b,data:=.fields #[t,.none,.none,.none,.bool ax,.none]}
def dP.here(x:dP P w H h a o):∃b,h.get? a=O b:=by
 cases o with
 |lst d=>obtain⟨_,_,_,_,e⟩:=x;exact⟨_,e⟩
 |tup d=>obtain⟨_,_,_,b,e,_⟩:=x;exact⟨b,e⟩
 |dK c=>obtain⟨_,_,_,_,o,_,_,e,_⟩:=x;exact⟨o,e⟩
 |dT c=>obtain⟨_,_,_,_,o,_,_,e,_⟩:=x;exact⟨o,e⟩
 |set S n=>obtain⟨o,_,_,_,e,_⟩:=x;exact⟨o,e⟩
 |ins C i g=>obtain⟨_,_,_,e,_⟩:=x;exact⟨_,e⟩
 |own y=>obtain⟨o,e⟩:=x;exact⟨o,e⟩
 |xd g=>obtain⟨_,⟨o,_,_,e,_⟩,_⟩:=x;exact⟨o,e⟩
 |zI lo j=>obtain⟨_,_,_,e⟩:=x;exact⟨_,e⟩
 |gE b u=>obtain⟨e,_⟩:=x;exact⟨_,e⟩
 |nO k=>exact⟨_,x⟩
 |met f y=>exact⟨_,x⟩
 |ext φ=>obtain⟨_,⟨o,e⟩,_⟩:=x;exact⟨o,e⟩
section
variable{X:Cx}{pins:List (af×bz)}{U:St}{H H':Hp}{s s':aF}{E:XK}{a C:af}{od:Option af}
def JV(b:Lv X E):fH X.stack=X.env.locals::X.fs:=by
 rw[b.fU];unfold fH;rw[G2,b.Ec];rfl
def gc(c:Lv X E)(b:af):b∉X.ex:=by rw[c.ex];simp
def JW(g:Lv X E)(I:Inv X pins U H s)(j:zj B X.outer a x a0 h')(y:∃o,h'.get? a=O o/\o.dict=od)(A:H' a=ai)
  (j6:∀b u,H' b=O u->∃o,s'.heap.get? b=O o/\B.get? b=O o)
  (D:∀b o,s.heap.get? b=O o->H b=ai->b∉fH X.stack->B.get? b=O o)
  (M:∀b o,s.heap.get? b=O o->H b=ai->H' b=ai)(iV:∀b xs,H b=O (.tup xs)->H' b=O (.tup xs))(iW:∀b o u,H b=O (.gE o u)->H' b=O (.gE o u))
  (jd:∀b ps,H b=O (.nO ps)->∃w,H' b=O (.nO<|ps++w))
  (slot:∀b o,s.heap.get? b=O o->H b=ai->b∈X.fs->(∀vs,o.data≠ .fields vs)->∃p,h'.get? b=O {o with slots:=p})
  (t:∀b o,s.heap.get? b=O o->∃Q,h'.get? b=O Q)(aS:cQ X.prog X.w H' s'.heap):
  Un X.fs [] X.iX H' X.eA.heap h'/\cQ X.prog X.w H' h'/\sP X.outer X.iX H' X.eA.heap h' a x od:=by
 have sv:∀b o,X.eA.heap.get? b=O o->b≠X.env.locals:=λb o e=>gj<|i6 (di e) I.ok.above;have r:∀b o,X.eA.heap.get? b=O o->X.iX b=ai->b∉X.fs->B.get? b=O o:=λb o e n h=>
  D b o (I.base.keep b o e n h<|gc g b) (I.base.free b o e n<|gc g b) (by rw[JV g];intro z;rcases dN.mp z with z|z;exact sv b o e z;exact h z)
 refine⟨⟨λb o e n h _=>j.1 b o<|r b o e n h,λb o e n h _=>?_,λb o e n _=>?_,λb o e _=>?_,λb xs e=>iV b xs<|I.base.iV b xs e,λb o u e=>iW b o u<|I.base.iW b o u e,λb ps e=>?_⟩,λb u e=>?_,⟨⟨B,a0,j,λb o u e q=>?_,r⟩,y,A⟩⟩
 ·obtain⟨_,o2,d,T⟩:=I.ok.jM.mem h;rw[e] at d;cases d;obtain⟨p,f⟩:=I.base.slot b o e n h<|gc g b;obtain⟨N,d⟩:=slot b _ f (I.base.free b o e n<|gc g b) h T;exact⟨N,d⟩
 ·obtain⟨i,f⟩:=I.base.there b o e<|gc g b;exact M b i f<|I.base.free b o e n<|gc g b
 ·obtain⟨i,f⟩:=I.base.there b o e<|gc g b;exact t b i f
 ·obtain⟨m1,f⟩:=I.base.jd b ps e;obtain⟨m2,d⟩:=jd b _ f;exact⟨m1++m2,by rw[d,aeP]⟩
 ·have m:∀c k,H' c=O k->∀v,s'.heap.get? c=O v->h'.get? c=O v:=λc k q v aa=>by
   obtain⟨i,f,d⟩:=j6 c k q;rw[aa] at f;cases f;exact j.1 c v d
  refine(aS b u e).jc (λc v l q=>?_) (λ_ q=>q) λ_ _ q=>q;rcases l with rfl|l
  ·exact m c u e v q
  ·exact m c _ l v q
 ·obtain⟨i,f,d⟩:=j6 b u e;have:=j.1 b i d;rw[q] at this;cases this;exact d
def Ws(f:Lv X E)(I:Inv X pins U H s)(c:Un (fH X.stack) [] H H' s.heap s'.heap)(aS:cQ X.prog X.w H' s'.heap)(z:sP X.stack H H' s.heap s'.heap a h od)
  (A:∀h',Un X.fs [] X.iX H' X.eA.heap h'->cQ X.prog X.w H' h'->sP X.outer X.iX H' X.eA.heap h' a h od->Q () {s' with heap:=h'}):wpAny M X.A (ze X.env<|.ref a) Q B s':=by
 obtain⟨⟨aa,D,l,j6,t⟩,⟨N,v,w⟩,x⟩:=z;rw[f.fU] at l;have m:=I.ok.frames;rw[f.fU] at m;have r:=wpAny_leaves_onW (M:=M) (A:=X.A) (E:=B) (s:=s') (Q:=λ_ p=>∃h',p={s' with heap:=h'}/\zj aa X.outer a h D h'/\s'.heap.UpToSlots h') m f.Ec l λh' i j=>⟨h',L,i,j⟩;refine bu ((JU _ _).any r) λ_ p ⟨⟨h',e,i,j⟩,q⟩=>?_;subst e;obtain⟨T,e',_,d'⟩:=q a N v;have g:Un X.fs [] X.iX H' X.eA.heap h'/\cQ X.prog X.w H' h'/\sP X.outer X.iX H' X.eA.heap h' a h od:=by
  refine JW (s':=s') f I i ⟨T,e',d'.trans w⟩ x (λb u e=>?_) t (λb o e n=>c.free b o e n aT) c.iV c.iW c.jd (λb o e n hb hd=>?_) (λb o e=>?_) aS
  ·obtain⟨o,d⟩:=(aS b u e).here;exact⟨o,d,j6 b o u e d⟩
  ·obtain⟨sl,d⟩:=c.slot b o e n (by rw[JV f];exact dS _ hb) aT;obtain⟨y,k⟩:=j b _ d hd;exact⟨y,k⟩
  ·obtain⟨o1,d⟩:=c.there b o e aT;obtain⟨o2,k,_⟩:=q b o1 d;exact⟨o2,k⟩
 exact A h' g.1 g.2.1 g.2.2
def Wt(f:Lv X E)(I:Inv X pins U H s)(d:H a=O (.ext<|lQ a C od))
  (x:∀h',Un X.fs [] X.iX (hide H a) X.eA.heap h'->cQ X.prog X.w (hide H a) h'->sP X.outer X.iX (hide H a) X.eA.heap h' a (.ref C) od->Q () {s with heap:=h'}):wpAny M X.A (ze X.env<|.ref a) Q y s:=by
 obtain⟨⟨l,i⟩,_⟩:=I.aS a _ d;have m:=I.ok.frames;rw[f.fU] at m;have j:=I.stack;rw[f.fU] at j;have xF:∀b u,H b=O u->b∉fH X.stack:=λb u e z=>by
  rw[I.Dv b z] at e;cases e
 have k:∀b o,s.heap.get? b=O o->b≠a->b∉fH X.stack->(G0 s.heap<|a::fH X.stack).get? b=O o:=λb o e A B=>
  aeN _ e λz=>(dN.mp z).elim A B
 have v:=wpAny_leaving_firstW (M:=M) (A:=X.A) (E:=y) (s:=s) (base:=G0 s.heap<|a::fH X.stack) (a0:=l) (Q:=λ_ p=>∃h',p={s with heap:=h'}/\bC.LeftW (G0 s.heap<|a::fH X.stack) (X.env::X.outer) a (.ref C) l s.heap h') m
  (PySem.W.funFrames_hide j λw D b h=>dS _ (by rw[f.fU];exact S1.mpr ⟨w,D,h⟩)) f.Ec i (λb o e=>aeO _ e) (SQ _ dY) L L L λh' aa=>⟨h',L,aa⟩
 refine bu ((JU _ _).any v) λ_ p ⟨⟨h',e,N,⟨_,_,T⟩,x3,x4⟩,r⟩=>?_;subst e;obtain⟨o',e',_,d'⟩:=r a _ i;have aS:cQ X.prog X.w (hide H a) s.heap:=λb u e=>by
  obtain⟨n,e⟩:=of_hide e;refine(I.aS b u e).jc (λc ab _ q=>q) (λc q=>?_) λc xs q=>?_
  ·rw[hide_ne (dO q d (by intro z;cases z))];exact q
  ·rw[hide_ne (dO q d (by intro z;cases z))];exact q
 have g:Un X.fs [] X.iX (hide H a) X.eA.heap h'/\cQ X.prog X.w (hide H a) h'/\sP X.outer X.iX (hide H a) X.eA.heap h' a (.ref C) od:=by
  refine JW (s':=s) f I ⟨N,SQ _ dY,T,x3⟩ ⟨o',e',d'⟩ hide_self (λb u e=>?_) (λb o e n h=>k b o e (λz=>by rw[z,d] at n;cases n) h) (λb o e n=>?_)
   (λb xs e=>?_) (λb o u e=>?_) (λb ps e=>?_) (λb o e n h hd=>x4 b o e hd) (λb o e=>?_) aS
  ·obtain⟨n,e⟩:=of_hide e;obtain⟨o,t⟩:=(I.aS b u e).here;exact⟨o,t,k b o t n<|xF b u e⟩
  ·by_cases q:b=a
   ·rw[q];exact hide_self
   ·rw[hide_ne q];exact n
  ·rw[hide_ne (dO e d (by intro z;cases z))];exact e
  ·rw[hide_ne (dO e d (by intro z;cases z))];exact e
  ·exact⟨#[],by rw[hide_ne (dO e d (by intro z;cases z)),e];simp⟩
  ·obtain⟨o2,e2,_⟩:=r b o e;exact⟨o2,e2⟩
 exact x h' g.1 g.2.1 g.2.2
def Wu(b:Lv X E):Passes (cX X.prog X.w) X E:=λo U r t e p I h=>by
 obtain⟨m,n,d,f,rfl,os,c,g,aS,i,j⟩:=h;refine b.xe _ _ (Ws b I g aS i λq k g2 l=>?_);exact⟨m,n,d,f,L,os.trans I.os,c,k,g2,l,j⟩
end
def Ed(K:bj)(C d N:af)(e:List aw)(b:String):Bool:=match K.lookup C with
 |some ⟨.type "type",_,.cls a,f⟩=>(match a.mro,f.toList with
  |.ref g::c,[_,_,_,_,O<|.builtin n,_]=>g==C&&(n==b&&(!a.hasDel&&(a.hasDict&&(c==e&&(a.ns==N&&(afS K N&&nH K N "__init__"==O (O<|.ref d)))))))
  |_,_=>ax)
 |_=>ax
structure XC(K:bj)(C fI N:af)(bm:List aw)(newId:String):Prop where
 ok:Ed K C fI N bm newId=Y
 fn:G8 K (.ref fI)=Y
 kp:nB K (.ref C)=Y
def Wv{K:bj}{h:bC}{N:af}{a:ao->Option aw}{n:ao}{v:aw}(X:K.In h)(G:h.Ns N a)(e:nH K N n=O (O v)):a n=O v:=by
 obtain⟨o,k,l,b,f,_,g⟩:=G;unfold nH at e;split at e
 ·rename_i c d j m p q;have z:=X _ _ q;rw[b] at z;cases z;cases f;rw[<-g];unfold nsFind findBy;rw[<-aeY];split at e
  ·rename_i r i;rw[i];exact eh e
  ·split at e<;>cases e
 ·cases e
def XC.obj{K:bj}{h:bC}{C u N:af}{v:List aw}{p:String}(x:XC K C u N v p)(X:K.In h):
  ∃(nm i:ao)(bs:List aw)(j:List ao)(sub:List aw)(k:Bool)(g:Option Bool)(m:Option af)(a b c d f:Option aw)(o:ao->Option aw),
   h.get? C=O (uH nm i C N bs v Y j sub k g m a b c d f p)/\h.Ns N o/\o "__init__"=O (.ref u)/\∀n,nH K N n=O ai->o n=ai:=by
 have q:=x.ok;unfold Ed at q;split at q
 ·rename_i m D w E;split at q
  ·rename_i Q H a b c d n f y z;simp only[bL,fB,dZ] at q;obtain⟨rfl,rfl,r,s,rfl,rfl,aS,t⟩:=q;obtain⟨nm,bs,I,A,i,T,j,sub,k,g,M⟩:=D;dsimp only at y r aS t s;subst y r s;have B:w=#[a,b,c,d,O<|.builtin n,f]:=by
    obtain⟨l⟩:=w;simp only at z;rw[z]
   subst B;have G:h.Ns A (h.nsMap A):=.of_isNs<|PySem.W.isNs_of_in X aS;exact⟨nm,i,bs,j,sub,k,g,m,a,b,c,d,f,_,X _ _ E,G,Wv X G t,λn e=>PySem.W.ns_none_of X G e⟩
  ·cases q
 ·cases q
def XC.Ww{K:bj}{h:bC}{C a N:af}{d:List aw}{c:String}(x:XC K C a N d c)(X:K.In h):∃b,h.get? a=O b/\b.cls= .type "function":=by
 have e:ae4 K (.ref a)=O (.type "function"):=fB.mp x.fn;obtain⟨o,f,g⟩:=rQ.mp e;exact⟨o,X _ _ f,g⟩
section
variable{M:um}{A:cG}{E:aw->aF->Prop}{s:aF}{env:dj}
variable{nm q:ao}{C N:af}{bs bm:List aw}{hdct:Bool}{sn:List ao}{sub:List aw}{ab:Bool}{col:Option Bool}{dd:Option af}{k0 k1 k2 k3 k5:Option aw}{newId:String}
def Wx(m:bm.contains (.type "BaseException")=Y)(o:A.handled=ai)
  (h:wpAny M A (eval e env) (λv b=>∃a f vs,v= .ref a/\(∃nm q N bs hdct sn sub ab col dd k0 k1 k2 k3 k5 newId,b.heap.get? C=O (uH nm q C N bs bm hdct sn sub ab col dd k0 k1 k2 k3 k5 newId))/\
   b.heap.get? a=O f/\f.cls= .ref C/\f.data= .fields vs/\vs[1]?=O .none/\E (.ref a) b) E s):
  wpAny M A (exec (.Raise (O e) ai t) env) Q E s:=by
 have n:(dC C::bm).contains (.type "BaseException")=Y:=by rw[afT,m,Bool.or_true]
 rw[arm_exec_Raise];refine bt<|Hr ?_;simp only[evalOpt,TR];unfold raiseStmt;refine bt<|bt<|jZ h (λv b i=>bt<|Hr<|cu ?_) λ_ _ x=>x;obtain⟨a,f,vs,rfl,⟨nm,q,N,bs,hdct,sn,sub,ab,col,dd,k0,k1,k2,k3,k5,newId,k⟩,l,p,j,i,r⟩:=i;obtain⟨w,g,d,y,os⟩:=b;have u:∀c,f.data≠ .cls c:=λc z=>by rw[j] at z;cases z
 repeat (first|(with_reducible refine uI l ?_;try rw[p];try rw[j])|with_reducible refine uI k ?_|(with_reducible refine wpAny_isSubtype_exc k ?_;rw[n])|with_reducible refine wpAny_field l j i ?_|wp_step)
 exact wpAny_raiseNew_none o r
end
section
variable{X:Cx}{pins:List (af×bz)}{U:St}{H:Hp}{s:aF}
def JX(I:Inv X pins U H s)(e:s.heap.get? a=ai):H a=ai:=by
 cases q:H a with
 |none=>rfl
 |some u=>
  obtain⟨o,z⟩:=(I.aS a u q).here;rw[e] at z;cases z
def Inv.Wy(I:Inv X pins U H s)(k:∀b u,s.heap.get? b=O u->h'.get? b=O u)(f:s.heap.get? a=ai)(h:dP X.prog X.w (upd H a o) h' a o):Inv X pins U (upd H a o) {s with heap:=h'}:=by
 have d:=JX I f;have i:∀b u,s.heap.get? b=O u->b≠a:=λb u e z=>by
  rw[z,f] at e;cases e
 refine I.un (t':=s.toks) ⟨λb o e _ _ _=>k b o e,λb o e _ _ _=>⟨o.slots,k b o e⟩,λb o e n _=>?_,λb o e _=>⟨o,k b o e⟩,λb j e=>?_,λb o u e=>?_,λb l e=>?_⟩ λb u e=>?_
 ·rw[aX (i b o e)];exact n
 ·rw[aX (bA e d)];exact e
 ·rw[aX (bA e d)];exact e
 ·exact⟨#[],by rw[aX (bA e d),e];simp⟩
 ·by_cases g:b=a
  ·subst g;rw[ba] at e;cases e;exact h
  ·rw[aX g] at e;exact(I.aS b u e).jc (λc v _ q=>k c v q) (λc q=>by rw[aX (bA q d)];exact q) λc j q=>by rw[aX (bA q d)];exact q
end
def Ef(e:h.get? a=O {cls:=.ref C,dict:=b,data:=.fields #[t,.none,.none,.none,.bool ax,.none]}):dP P w H h a (.ext<|lQ a C b):=
 ⟨⟨t,e⟩,⟨_,e⟩,λf g ⟨c,d⟩ k=>⟨c,k _ d⟩⟩
def Eg(C:af)(f:Sp)(E:XK)(t:TA):TS:=λ_ U H=>t U H λb c=>b.length<=br/\∀a,c a=ai->
 f (.ref a::b) (upd c a<|.ext<|lQ a C ai) (λv d=>v= .bp/\∃e,d a=O (.ext<|lQ a C e)/\E (.ref C) e (hide d a)) λ_ _ _=>False
def Wz
  (FB:HA bx m a8 bm)(i:XC X.K C fI a3 bm m)(q:Lv X E)(hc:X.calm=Y)(F:dH X.prog X.w X.K X.mg X.base (cX X.prog X.w) k fI fd ps D)(hr:cZ (k+1) X.A)(hb:Binds X.K fd ps [])(hg:Gl X x)(hm:X.mg x=O (.ref C))
  (ha:PA X (e::es) t)(H:(x==("__debug__":ao))=ax:=by decide)(he:bS (e::es) X.env=(ax,eval e X.env)::bS es X.env:=by rfl)(M:(eP n<|bS es X.env).any (·.1)=ax:=by rfl):
  PS X (.Raise (O<|.Call (.Name x np) (e::es) [] n) ai a9) (Eg C D E t):=by
 intro o a4 U a5 b0 I a6;refine Wx (C:=C) FB.hasBase (I.ok.hd hc) ?_;refine uB<|sx I hg hm ?_ H;refine zc (h₀:=X.base) I.ok.mod.oY i.kp (bu (ha n o a4 U a5 _ I a6) λb s1 ⟨s,H1,c,r,z,a7⟩=>⟨c.eV,?_⟩) he M;obtain⟨nm,qn,bs,sn,sub,ab,bk,dd,k0,k1,k2,k3,k5,mN,hC,hN,hi,_⟩:=i.obj c.eV;obtain⟨oI,N,Q⟩:=i.Ww c.eV;obtain⟨hp,g,d,j,os⟩:=s1;show wpAny (bo X.prog X.w) X.A (call (.ref C) b) _ _ _;refine wpAny_call_exc_init FB hC hN hi N Q (λu a mk=>?_) (by rw[<-r.length];exact z);obtain⟨t0,T,_,_⟩:=mk.there;have l:Inv X o U (upd H1 a<|.ext<|lQ a C ai) ⟨u,g,d,j,os⟩:=Inv.Wy (s:=⟨hp,g,d,j,os⟩) c mk.keeps mk.new (Ef T);have v:=a7 a<|JX c mk.new;have w:Vals (.ref a::s) (.ref a::b):=.cons L r;have hl:(dC a::b++[]).length=ps.length:=by
  rw[gp,<-w.length];exact F.len _ _ _ _ v
 have p:=hb ⟨u,g,d,j,os⟩ (.ref a::b) l.eV hl;rw[gp] at p;refine CK<|uA (F.run _ X.stack _ _ ⟨.ref a::b,[]⟩ (.ref a::b) (.ref a::s) _ _ (hr.make C b []) (l.zY.make C b []) p w v) λrs s' f=>?_;cases rs with
 |error e'=>
  obtain⟨_,_,_,_,_,_,_,_,_,_,z⟩:=f;exact fY z
 |ok fl=>
  cases fl with
  |next=>exact fY f
  |brk=>exact fY f
  |cont=>exact fY f
  |ret b1=>
   obtain⟨b2,H',h,rv,ev,od,y,e2⟩:=l.after f;subst ev;obtain⟨aa,ae,ag,ah,A,aq,B,ar,au,av,ay,az,aE,bl,a0,_⟩:=i.obj h.eV;obtain⟨⟨t3,e3⟩,_⟩:=h.aS a _ y;refine⟨rv,a,_,_,L,⟨aa,ae,a3,ag,Y,ah,A,aq,B,ar,au,av,ay,az,aE,m,a0⟩,e3,L,L,L,?_⟩;refine q.xe _ _ (Wt q h y λh2 g1 g2 g3=>?_);exact⟨a,C,od,hide H' a,L,h.os,h.bare,g1,g2,g3,e2⟩
open Builtin Builtin.ObjectAttr
section
variable{prog:cf}{w:bR}{A:cG}{E:aw->aF->Prop}{h:bC}{g:Array SS}{d:Drawn}{t:Nat}{os:OsState}
variable{nm q:ao}{C N x:af}{bs bm:List aw}{sn:List ao}{sub:List aw}{ab:Bool}{col:Option Bool}{dd:Option af}{k0 k1 k2 k3 k5:Option aw}{B newId initId sa owner:String}
 {mN mA:ao->Option aw}{name:ao}{v:aw}{ob:bz}
def WA(m:TU B bm sa owner)(n:h.get? C=O (uH nm q C N bs bm Y sn sub ab col dd k0 k1 k2 k3 k5 newId))(hn:h.Ns N mN)(r:mN name=ai)
  (hB:wJ (.type B) name=pure ai)(a:h.get? x=O ob)(hc:ob.cls= .ref C)(s:∀c,ob.data≠ .cls c)(D:ob.dict=ai)
  (hq:∀h' H,h'.get? x=O {ob with dict:=O h.objs.size}->h'.Ns1 h.objs.size (λy=>if y=name then O v else ai)->(∀b u,b≠x->h.get? b=O u->h'.get? b=O u)->Q (.done<|.ret .none) ⟨h',g,d,H,os⟩):
  wpAny (bo prog w) A (rT.«object.__setattr__» ⟨[.ref x,.str name tk,v],[]⟩) Q E ⟨h,g,d,t,os⟩:=by
 have pass:=m.passes<|.ref x;unfold rT.«object.__setattr__»;repeat (first|rw[refuse_eq]|(rw[refuseLoop_ref,pass])|(with_reducible refine uI a ?_;rw[hc])|with_reducible refine wpAny_mroOf_exc n ?_|(with_reducible refine C1 n hn m.mro hB ?_;rw[r])|wp_step)
 rw[D,ak<|by simp[typeHasDict]];split
 ·rename_i z;cases z
 split
 ·rename_i c z;exact(s c z).elim
 have k:(h.push {cls:=.type "dict",data:=.dict #[]}).get? x=O ob:=fk _ a;have l:h.objs.size≠x:=wB<|di a;refine bt<|wpAny_alloc'<|bt<|wpAny_update' k<|cu ?_;generalize i:(h.push {cls:=.type "dict",data:=.dict #[]}).update x (λo=>{cls:=o.cls,dict:=O h.objs.size,data:=o.data,slots:=o.slots})=f;have Dt:({ob with dict:=O h.objs.size}:bz).isFreed=ax:=by
  have z:=(afO.mp a).2;obtain⟨oc,od,I,ae⟩:=ob;cases I<;>first|rfl|exact z
 have x1:f.get? x=O {ob with dict:=O h.objs.size}:=by rw[<-i];exact CY _ k Dt
 have d1:f.get? h.objs.size=O {cls:=.type "dict",data:=.dict #[]}:=by rw[<-i];exact(afU _ _ _ _ l).trans<|bC.get?_push_at L L
 have r1:∀b u,b≠x->h.get? b=O u->f.get? b=O u:=λb u j e=>by rw[<-i];exact(afU _ _ _ _ j).trans<|fk _ e
 have n1:f.Ns h.objs.size (λ_=>ai):=⟨_,#[],_,d1,L,λe he=>absurd he aT,λ_=>rfl⟩;show wpAny _ _ (storeInDict h.objs.size (.str name tk) name v) _ _ _;unfold storeInDict newKeyGuard;refine bt<|cu<|bt<|wpAny_nsSet1 (ae5 n1) λh' p same=>?_;obtain⟨oD,ag,ah,M,T,aa⟩:=p.count<|Within.cons name v Within.nil;refine bt<|ae1 M (by rw[T];exact ae2<|eO aa (by rw[bV,ly,b9];omega)) ?_;wp_walk
 refine hq h' _ ((same.2 x l.symm).trans x1) p λb u j e=>(same.2 b<|gj<|di e).trans<|r1 b u j e
def WB(a:TU B bm sa owner)(f:h.get? C=O (uH nm q C N bs bm Y sn sub ab col dd k0 k1 k2 k3 k5 newId))(k:h.Ns N mN)(l:mN "__setattr__"=ai)(m:mN name=ai)
  (p:wJ (.type B) name=pure ai)(i:h.get? x=O ob)(j:ob.cls= .ref C)(n:∀c,ob.data≠ .cls c)(o:ob.dict=ai)
  (r:∀h' e,h'.get? x=O {ob with dict:=O h.objs.size}->h'.Ns1 h.objs.size (λy=>if y=name then O v else ai)->(∀b u,b≠x->h.get? b=O u->h'.get? b=O u)->Q () ⟨h',g,d,e,os⟩):
  wpAny (bo prog w) A (G9 (.ref x) name v) Q E ⟨h,g,d,t,os⟩:=by
 have H:=a.slot.bind<|.ref x;unfold G9 callSpecial? specialOf;repeat (any_goals (first|assumption|(with_reducible refine uI i ?_;rw[j])|(with_reducible refine C1 f k a.mro a.slot.lookup ?_;rw[l])|wp_step))
 refine TV a.slot.plain a.entry<|wpAny_check_sa a f i j<|WA a f k m p i j n o λh' e s z D=>?_;repeat (any_goals (first|assumption|wp_step))
 exact r h' e s z D
def WC(FB:HB B bm)(a:h.get? C=O (uH nm q C N bs bm Y sn sub ab col dd k0 k1 k2 k3 k5 newId))(k:h.Ns N mN)(f:mN name=ai)
  (l:wJ (.type B) name=pure ai)(b:h.get? x=O ob)(e:ob.cls= .ref C)(i:∀c,ob.data≠ .cls c)(j:ob.dict=O dx)(m:h.Ns1 dx mA)(n:mA name=O v)(o:Q (.done<|.ret v) ⟨h,g,d,t,os⟩):
  wpAny (bo prog w) A (rT.«object.__getattribute__» ⟨[.ref x,.str name tk],[]⟩) Q E ⟨h,g,d,t,os⟩:=by
 repeat (first|(with_reducible refine uI b ?_;rw[e])|(with_reducible refine C1 a k FB.mro l ?_;rw[f])|wp_step)
 split
 ·rename_i c z;exact(i c z).elim
 unfold instanceDict;repeat (first|(with_reducible refine uI b ?_;rw[e])|with_reducible refine uI a ?_|wp_step)
 rw[j];repeat (first|(with_reducible refine wpAny_nsGet m.ns ?_;rw[n])|wp_step)
 exact o
def WD(FB:HB B bm)(a:h.get? C=O (uH nm q C N bs bm Y sn sub ab col dd k0 k1 k2 k3 k5 newId))(b:h.get? x=O ob)(c:ob.cls= .ref C)(e:Q () ⟨h,g,d,t,os⟩):
  wpAny M A (checkBuiltinCall "BaseException.__getattribute__" ⟨[.ref x,f],[]⟩) Q E ⟨h,g,d,t,os⟩:=
 wpAny_check_ga_own FB a OwnTailQ.base b c e
def WE(FB:HB B bm)(a:h.get? C=O (uH nm q C N bs bm Y sn sub ab col dd k0 k1 k2 k3 k5 newId))(b:h.Ns N mN)(j:mN "__getattribute__"=ai)(k:mN "__getattr__"=ai)(l:mN name=ai)
  (o:wJ (.type B) name=pure ai)(e:h.get? x=O ob)(f:ob.cls= .ref C)(m:∀c,ob.data≠ .cls c)(n:ob.dict=O dx)(p:h.Ns1 dx mA)(r:mA name=O v)(s:handedOut v=pure v)
  (u:Q v ⟨h,g,d,t+1,os⟩):wpAny (bo prog w) A (CI (.ref x) name i) Q E ⟨h,g,d,t,os⟩:=by
 have z:=FB.ga.bind<|.ref x;have D:(i&&onTheHeap (C2 "BaseException.__getattribute__"))=ax:=by cases i<;>rfl
 have y:(C2 "BaseException.__getattribute__"==C2 "object.__getattribute__")=ax:=by decide+kernel
 have H:(onTheHeap (dC C)&&C2 "BaseException.__getattribute__"==C2 "object.__getattribute__")=ax:=by rw[y];rfl
 unfold CI getAttrBy;repeat (any_goals (first|assumption|(with_reducible refine uI e ?_;rw[f])|(with_reducible refine C1 a b FB.mro FB.ga.lookup ?_;rw[j])|(with_reducible refine C1 a b FB.mro FB.noGetattr ?_;rw[k])|wp_step))
 refine TV FB.ga.plain F.entry_bexc_ga<|WD FB a e f<|WC FB a b l o e f m n p r ?_;show wpAny _ _ (handedOut v) _ _ _;rw[s];exact cu u
def WG{rest:List aw}{vs:Array aw}{Q:aw->aF->Prop}(F:HA B newId initId bm)(j:h.get? C=O (uH nm q C N bs bm Y sn sub ab col dd k0 k1 k2 k3 k5 newId))(f:h.get? x=O ob)(k:ob.cls= .ref C)(a:ob.data= .fields vs)
  (i:0<vs.size)(l:∀h' m,h'.get? x=O (ob.mapFields (·.setIfInBounds 0 m))->(∀b u,b≠x->h.get? b=O u->h'.get? b=O u)->Q .none ⟨h',g,d,t,os⟩)(p:rest.length<=br):
  wpAny (bo prog w) A (call (.builtin initId)<|.ref x::rest) Q E ⟨h,g,d,t,os⟩:=by
 refine CK<|TV F.init.plain F.initEntry<|wpAny_check_init_sub F j f k ?_;wp_walk
 have c:(h.push {cls:=rD "tuple",data:=zk rest.toArray}).get? x=O ob:=fk _ f;rw[a];refine cu ?_;have n:vs[0]?=O vs[0]:=afD i;rw[n];refine cu<|bt<|TF c a i ?_;have fin:Q .none ⟨(h.push {cls:=rD "tuple",data:=zk rest.toArray}).update x<|TH (·.setIfInBounds 0 (.ref h.objs.size)),g,d,t,os⟩:=
  l _ (.ref h.objs.size) (CY _ c (TJ<|Hz a _)) λb u o e=>(Th _ _ (qf o)).trans<|fk _ e
 split
 ·wp_walk
  exact fin
 ·wp_walk
  exact fin
end
def WH(h:H a=O o):upd H a o=H:=by
 funext b
 by_cases q:b=a
 ·rw[q,ba,h]
 ·rw[aX q]
def lR(a C:af)(b:Option af)(h:bC):Prop:=∃o c,h.get? a=O o/\o.cls= .ref C/\o.dict=b/\o.data= .fields c
def WI(e:lR a C d h):dP P w H h a (.ext<|lR a C d):=
 let⟨o,c,b,f,g,i⟩:=e
 ⟨e,⟨o,b⟩,λj l ⟨o,c,b,r⟩ k=>⟨o,c,k _ b,r⟩⟩
structure XN(K:bj)(N:af)(B:String)(f:ao):Prop where
 own:nH K N f=O ai
 base:wJ (.type B) f=pure ai
section
variable{X:Cx}{o e value:bF}{es:List bF}{f x:ao}{pos pos' apos p:cK}{ta tv:TE}{t:TA}{C fI N:af}{B newId initId sa owner:String}{bm:List aw}
def JY(C:af)(c g:TE)(f:ao):TS:=λD U H=>g U H λy h=>c U h λx b=>∃a,x= .ref a/\b a=O (.ext<|lQ a C ai)/\∀d,b d=ai->d≠a->D.nx U (upd (upd b a<|.ext<|lQ a C<|O d) d<|.xd [(f,y)])
def WJ(SF:TU B bm sa owner)(xc:XC X.K C fI N bm newId)(aa:nH X.K N "__setattr__"=O ai)(H:XN X.K N B f)(ha:PE X o ta)(hv:PE X value tv)(hs:nA value (O<|.Attribute o f pos') pos.line X.env=pure ax):
  PS X (.Assign [.Attribute o f pos'] value pos) (JY C ta tv f):=by
 intro A aq U ar a3 au av;refine ae6 (bu (hv A aq U ar _ au av) λu s1 ⟨y,H1,I1,ry,q⟩=>bu (ha A s1 U H1 _ I1 q) λov s2 ⟨x,m,i,rx,a,ex,l,g⟩=>?_) hs;subst ex;obtain rfl:ov=dC a:=rx;obtain⟨⟨t0,D⟩,_⟩:=i.aS a _ l;obtain⟨nm,qn,bs,sn,sub,ab,a0,dd,k0,k1,k2,k3,k5,mN,hC,hN,hi,E⟩:=xc.obj i.eV;obtain⟨d,ay,az,tk,os⟩:=s2;refine WB SF hC hN (E _ aa) (E _ H.own) H.base D L (λc z=>by cases z) L λh' ae I e2 r=>?_;have na:d.objs.size≠a:=wB<|di D;have M:m d.objs.size=ai:=i.aS.fresh<|bG _;refine⟨U,_,?_,g d.objs.size M na⟩;have ag:∀Q,dP X.prog X.w Q h' d.objs.size (.xd [(f,y)]):=λQ=>by
  refine⟨_,e2,λz=>?_⟩;show gD (oN z [(f,y)]) (if z=f then O u else ai);by_cases q:z=f
  ·have s:(z==f)=Y:=fB.mpr q;simp only[oN,s,aA q];exact ry
  ·have s:(z==f)=ax:=rC.mpr q;simp only[oN,s,ak q];exact rM
 have ah:∀b u,d.get? b=O u->b≠d.objs.size:=λb u z=>gj<|di z;have h:∀b u,b≠a->m b=O u->(upd (upd m a<|.ext<|lQ a C<|O d.objs.size) d.objs.size<|.xd [(f,y)]) b=O u:=λb u nb z=>by
  rw[aX (bA z M),aX nb];exact z
 have gc:∀b u,m b=O u->(∀φ,u≠ .ext φ)->b≠a:=λb u z k=>dO z l<|k _;refine Inv.un (s:=⟨d,ay,az,tk,os⟩) (t':=ae) i ⟨λb u z n _ _=>r b u (λq=>by rw[q,l] at n;cases n) z,λb u z n _ _=>⟨u.slots,r b u (λq=>by rw[q,l] at n;cases n) z⟩,λb u z n _=>?_,λb u z _=>?_,
  λb T z=>h b _ (gc b _ z (by intro φ k;cases k)) z,λb u T z=>h b _ (gc b _ z (by intro φ k;cases k)) z,λb ps z=>⟨#[],by rw[h b _ (gc b _ z (by intro φ k;cases k)) z];simp⟩⟩ λb u z=>?_
 ·rw[aX (ah b u z),aX (λq=>by rw[q,l] at n;cases n)];exact n
 ·by_cases q:b=a
  ·rw[q];exact⟨_,I⟩
  ·exact⟨u,r b u q z⟩
 ·by_cases v:b=d.objs.size
  ·rw[v,ba] at z;cases z;rw[v];exact ag _
  ·rw[aX v] at z;by_cases g:b=a
   ·rw[g,ba] at z;cases z;rw[g];exact Ef I
   ·rw[aX g] at z;refine(i.aS b u z).jc (λc aE w k=>r c aE ?_ k) (λc k=>h c _ (gc c _ k (by intro φ j;cases j)) k) λc T k=>h c _ (gc c _ k (by intro φ j;cases j)) k;rcases w with rfl|w
    ·exact g
    ·exact gc c _ w (by intro φ j;cases j)
def Eh(C:af)(g:TE)(f:ao):TE:=λU H Q=>g U H λx b=>∃a d c v,x= .ref a/\b a=O (.ext<|lR a C<|O d)/\b d=O (.xd c)/\c.lookup f=O v/\Q v b
def WK(FB:HB B bm)(l:XC X.K C fI N bm newId)(m:nH X.K N "__getattribute__"=O ai)(n:nH X.K N "__getattr__"=O ai)(h:XN X.K N B f)(q:PE X e ta)(r:rN e f X.env (eval e X.env)=eval e X.env):
  PE X (.Attribute e f pos) (Eh C ta f):=by
 intro k aa U ae az ag ah;refine Jb r<|bu (q k aa U ae _ ag ah) λu i ⟨x,s,b,w,a,d,y,v,A,D,E,aq,ar⟩=>?_;subst A;obtain rfl:u=dC a:=w;obtain⟨⟨oa,vs,H,I,M,Q⟩,_⟩:=b.aS a _ D;obtain⟨c,T,au⟩:=(show∃c,i.heap.Ns1 d c/\∀f,gD (y.lookup f) (c f) from b.aS d _ E);obtain⟨u,hu,j⟩:=gD.some_of (show gD (O v) (c f) by rw[<-aq];exact au f);obtain⟨nm,qn,bs,sn,sub,ab,ay,dd,k0,k1,k2,k3,k5,mN,hC,hN,hi,g⟩:=l.obj b.eV;obtain⟨hp,av,dr,tk,os⟩:=i;refine WE FB hC hN (g _ m) (g _ n) (g _ h.own) h.base H I (λaE z=>by rw[Q] at z;cases z) M T hu (PySem.W.handedOut_of<|IY j) ?_;exact⟨v,s,Inv.tok (s:=⟨hp,av,dr,tk,os⟩) b _,j,ar⟩
def JZ(C:af)(t:TA):TE:=λU H Q=>t U H λc b=>∃a rest,c= .ref a::rest/\rest.length<=br/\b a=O (.ext<|lQ a C ai)/\Q .bp b
def WL(FB:HA B newId initId bm)(D:XC X.K C fI N bm newId)(E:Gl X x)(H:X.mg x=ai)(M:jY x=O (.type B))(r:typeOf (.type B)=pure (.type "type"))(s:Manifest.isStub B=ax)
  (Q:afV X.K (.type B) (.type "type") "__init__"=O (.val<|.builtin initId))(u:S4 (.builtin initId)=Y)(T:PA X (e::es) t)(hn:x≠"__name__":=by decide)(v:(x==("__debug__":ao))=ax:=by decide)
  (he:bS (e::es) X.env=(ax,eval e X.env)::bS es X.env:=by rfl)(w:(eP pos<|bS es X.env).any (·.1)=ax:=by rfl)
  (ht:eval (.Call (.Attribute (.Name x p) "__init__" apos) (e::es) [] pos) X.env=(do
   let l<-eval (.Name x p) X.env
   uv apos.atName
   let(f,first)<-uw [l] (rK l "__init__" pl)
   uz pos f first (eP pos<|bS (e::es) X.env) (qg pos<|qi [] X.env)):=by rfl):
  PE X (.Call (.Attribute (.Name x p) "__init__" apos) (e::es) [] pos) (JZ C t):=by
 intro k aa U ae ay I ag;refine Hc (pl:=pl) (sy I E H M ?_ hn v) ht;obtain⟨az,y⟩:=I.fr;refine PySem.W.method_type y I.mod.oY r s Q u ?_;have I0:=I.tok<|aa.toks+1;refine afc (bu (T pos k _ U ae _ I0 ag) λus s1 ⟨vs,m,c,r1,a,rest,ev,z,h,q1⟩=>?_) he w;subst ev;obtain⟨b,i,rfl,ra,rr⟩:∃b i,us=b::i/\RelV (.ref a) b/\Vals rest i:=by
  cases r1 with
  |cons p ah=>exact⟨_,_,L,p,ah⟩
 obtain rfl:b=dC a:=ra;obtain⟨⟨t0,A⟩,_⟩:=c.aS a _ h;obtain⟨nm,qn,bs,sn,sub,ab,au,dd,k0,k1,k2,k3,k5,mN,hC,hN,hi,av⟩:=D.obj c.eV;obtain⟨hp,g,d,j,os⟩:=s1;refine WG FB hC A L L (by show 0<6;decide) (λh' tv n e2=>?_) (by rw[<-rr.length];exact z);have q:Inv X k U (upd m a<|.ext<|lQ a C ai) ⟨h',g,d,j,os⟩:=Inv.write (s:=⟨hp,g,d,j,os⟩) (t':=j) (x:=a) (e:=a) c (by rw[h];exact rM) (.inl L) (λaq ar nb z=>e2 aq ar nb z) ⟨_,n⟩<|Ef (t:=tv) n;rw[WH h] at q;exact⟨.bp,m,q,L,q1⟩
end
structure qz(l:List dj)(H H':Hp)(h h':bC)(a:af)(cls:aw)(od:Option af)(P:cf)(w:bR)(B:bC)(a0:aw):Prop where
 j6:∀b o u,H' b=O u->h'.get? b=O o->B.get? b=O o
 old:∀b o,h.get? b=O o->H b=ai->b∉fH l->B.get? b=O o
 dict:∃o,h'.get? a=O o/\o.dict=od
 free:H' a=ai
 un:Un (fH l) [] H H' h h'
 aS:cQ P w H' h'
def qz.on(f:qz l H H' h j a A D P w B a0)(E:j.FunFrames B l)(st:B.StaysIn k)(I:j.UpToSlots k)(z:ip j k):
  qz l H H' h k a A D P w B a0:=by
 have s:∀c u,H' c=O u->∀v,j.get? c=O v->k.get? c=O v:=λc u q v r=>st c v<|f.j6 c v u q r;refine⟨λb o u e q=>?_,f.old,?_,f.free,⟨λb o e n m _=>st b o<|f.old b o e n m,λb o e n m _=>?_,λb o e n _=>f.un.free b o e n aT,λb o e _=>?_,f.un.iV,f.un.iW,f.un.jd⟩,λb u e=>?_⟩
 ·obtain⟨t,g⟩:=(f.aS b u e).here;have:=s b u e t g;rw[q] at this;cases this;exact f.j6 b o u e g
 ·obtain⟨o,e,d⟩:=f.dict;obtain⟨p,i,_,x⟩:=z a o e;exact⟨p,i,x.trans d⟩
 ·obtain⟨N,g⟩:=f.un.slot b o e n m aT;obtain⟨_,p,i,x⟩:=E.mem m;rw[g] at i;cases i;obtain⟨C,M⟩:=I b _ g x;exact⟨C,M⟩
 ·obtain⟨t,g⟩:=f.un.there b o e aT;obtain⟨p,i,_⟩:=z b t g;exact⟨p,i⟩
 ·refine(f.aS b u e).jc (λc v y q=>?_) (λ_ q=>q) λ_ _ q=>q;rcases y with rfl|y
  ·exact s c u e v q
  ·exact s c _ y v q
abbrev Cx.within(X:Cx)(v:aw):Cx:={X with A:=X.A.mark<|O v,calm:=ax,xe:=λ_ _=>False}
section
variable{X:Cx}{pins:List (af×bz)}{U:St}{H H':Hp}{s s':aF}{v:aw}
def Cx.Ok.into(ok:X.Ok)(v:aw):(X.within v).Ok:=
 ⟨ok.mod,ok.kind,ok.glob,ok.blt,ok.above,ok.inj,ok.has,ok.uW,λh=>lA (show ax=Y from h),ok.frames,ok.fU,ok.xg,ok.bs,ok.lG,ok.uX,ok.uY,ok.jM,ok.nQ⟩
def Inv.into(I:Inv X pins U H s)(v:aw):Inv (X.within v) pins U H s:=⟨I.ok.into v,I.os,I.bare,I.base,I.loc,I.cell,I.free,I.j7,I.pin,I.aS,I.len⟩
def Inv.WM(ok:X.Ok)(I:Inv (X.within v) pins U H s):Inv X pins U H s:=⟨ok,I.os,I.bare,I.base,I.loc,I.cell,I.free,I.j7,I.pin,I.aS,I.len⟩
def Inv.gone(I:Inv X pins U H s)(t:h'.Ns X.env.locals m)(hs:uo X.env.locals s.heap h'):Inv X pins (zd X.N.length ai) H {s with heap:=h',toks:=t'}:=by
 have h:∀b o,X.eA.heap.get? b=O o->b≠X.env.locals:=λb o e=>gj<|i6 (di e) I.ok.above;refine⟨I.ok,I.os,I.bare,⟨λb o e n j a=>(hs.2 b<|h b o e).trans<|I.base.keep b o e n j a,λb o e n j a=>?_,I.base.free,λb o e a=>?_,I.base.iV,I.base.iW,I.base.jd⟩,⟨m,t,λi x l f k C=>?_⟩,λx c e=>?_,I.free,I.j7,λp w=>?_,λb u e=>?_,aT⟩
 ·obtain⟨y,f⟩:=I.base.slot b o e n j a;exact⟨y,(hs.2 b<|h b o e).trans f⟩
 ·obtain⟨A,f⟩:=I.base.there b o e a;exact⟨A,(hs.2 b<|h b o e).trans f⟩
 ·rw[afb] at k;split at k<;>cases k
 ·obtain⟨l,z⟩:=I.cell x c e;exact⟨l,z.sameBut hs<|I.qt x c e⟩
 ·obtain⟨e,n,r,B,d⟩:=I.pin p w;exact⟨(hs.2 p.1 r).trans e,n,r,B,d⟩
 ·refine(I.aS b u e).jc (λc l g q=>(hs.2 c ?_).trans q) (λ_ q=>q) λ_ _ q=>q;rintro rfl;rcases g with rfl|g
  ·rw[I.free] at e;cases e
  ·rw[I.free] at g;cases g
end
def qz.J0(I:Inv X pins U H s)(f:qz X.stack H H' s.heap s'.heap a (.ref C) j X.prog X.w B a0)(h:zj B X.stack a (.ref C) a0 s'.heap)
  (os:s'.os=s.os)(r:rG s'.gens):Inv X pins U (upd H' a<|.ext<|lR a C j) s':=by
 obtain⟨w,x,g,y,k,_⟩:=h.first;obtain⟨A,l,D⟩:=f.dict;rw[g] at l;cases l;have E:a∉fH X.stack:=λz=>by
  obtain⟨_,A,i,M⟩:=h.2.2.1.mem z;rw[g] at i;cases i;exact M _ k
 have t:∀b o,s.heap.get? b=O o->H b=ai->b≠a:=λb o e n z=>by
  subst z;have:=f.old b o e n E;rw[h.2.1] at this;cases this
 have d:∀b u,H' b=O u->(upd H' a<|.ext<|lR a C j) b=O u:=λb u e=>by rw[aX (bA e f.free)];exact e
 refine I.Im (ch:=[]) os ⟨f.un.keep,f.un.slot,λb o e n N=>?_,f.un.there,λb p e=>d b _ (f.un.iV b p e),λb o u e=>d b _ (f.un.iW b o u e),λb Q e=>?_⟩ (λb u e=>?_) r λb z=>absurd z aT
 ·rw[aX (t b o e n)];exact f.un.free b o e n N
 ·obtain⟨m,g⟩:=f.un.jd b Q e;exact⟨m,d b _ g⟩
 ·by_cases q:b=a
  ·subst q;rw[ba] at e;cases e;exact WI ⟨w,x,g,y,D,k⟩
  ·rw[aX q] at e;exact(f.aS b u e).jc (λc v _ z=>z) (λc z=>d c _ z) λc p z=>d c _ z
def Ends.blank(D:Ends)(n:Nat):Ends:={nx:=λ_ H=>D.nx (zd n ai) H,rt:=D.rt,bk:=λ_ H=>D.bk (zd n ai) H,ct:=λ_ H=>D.ct (zd n ai) H}
def J1(n:Nat)(sp:Sp)(C:af)(i j:Nat)(t:TA)(d:TS):TS:=λD U H=>t U H λe f=>sp e f (λv b=>D.nx (U.set i<|O v) b)
 λc g b=>c= .ref C/\∀a,b a=ai->d (D.blank n) (U.set j<|O<|.ref a) (upd b a<|.ext<|lR a C g)
def WN
  (FB:HA dt a3 dn bm)(xc:XC X.K C fI dx bm a3)(hN:X.N.Nodup)(hy:X.N[i]?=O y)(a7:Loc X.env.scope y)(hn:X.N[j]?=O n)(T:X.env.scope.names.lookup n=O .local)(aa:X.stack=X.env::X.outer)(a8:X.env.frame=O X.env.locals)
  (F:dH X.prog X.w X.K X.mg X.base (cX X.prog X.w) k f fd ps sp)(hr:cZ k X.A)(a9:Gl X E)(bk:X.mg E=O (.ref f))(bl:nB X.K (.ref f)=Y)(hb:Binds X.K fd ps [])
  (bx:Gl X x)(b1:X.mg x=O (.ref C))(ha:PA X.o7 (e::es) t)(b2:∀a,gF (X.within<|.ref a) (b0::a4) th)
  (b3:X.fn y=Y∨X.env.scope.names.lookup y=O .local :=by first|exact .inl rfl|exact .inr rfl)(b4:(x==("__debug__":ao))=ax:=by decide)(b5:(E==("__debug__":ao))=ax:=by decide)
  (hs:nA (.Call (.Name E fp) (e::es) [] cp) (O<|.Name y yp) ap.line X.env=pure ax:=by rfl)
  (he:bS (e::es) X.env=(ax,eval e X.env)::bS es X.env:=by rfl)(cc:(eP cp<|bS es X.env).any (·.1)=ax:=by rfl):
  PS X (.Try [.Assign [.Name y yp] (.Call (.Name E fp) (e::es) [] cp) ap] [.ExceptHandler (O<|.Name x np) (O n) (b0::a4) hp] [] [] dp) (J1 X.N.length sp C i j t th):=by
 intro m dg U dh dy I dk;refine wpAny_Try_except<|SY<|aeV (uB<|sx I a9 bk ?_ b5) hs;refine zc (h₀:=X.base) I.ok.mod.oY bl (jZ (ha cp m dg U dh _ (I.mH _) dk) (λr s1 ⟨vs,H1,aq,az,aE⟩=>⟨aq.nS.eV,?_⟩) λ_ _ z=>fY z) he cc;have p:=aq.nS;have hl:(r++[]).length=ps.length:=by
  rw[gp,<-az.length];exact F.len _ _ _ _ aE
 have ar:=hb s1 r p.eV hl;rw[gp] at ar;show wpAny (bo X.prog X.w) X.A (call (.ref f) r) _ _ _;refine CK<|uA (F.run X.A X.stack s1 H1 ⟨r,[]⟩ r vs _ _ hr p.zY ar az aE) λrs c s=>?_;have hF:=p.ok.frames;cases rs with
 |ok fl=>
  cases fl with
  |next=>exact fY s
  |brk=>exact fY s
  |cont=>exact fY s
  |ret dm=>
   obtain⟨dK,u,I2,rv,q2⟩:=p.after s;exact xh I2 hN hy a7 rv (λs3 H=>y8<|y8 ⟨_,u,H,q2⟩) b3
 |error er=>
  obtain⟨a,C',od,u,rfl,os,ae,un,aS,⟨⟨v,M,au,j6,cm⟩,a5,ag⟩,a6,ct⟩:=s;cases a6;have fb:qz X.stack H1 u s1.heap c.heap a (.ref C) od X.prog X.w v M:=⟨j6,cm,a5,ag,un,aS⟩;have ah:=au;rw[aa] at ah hF;have m1:=wpAny_looks_onW (M:=bo X.prog X.w) (A:=X.A) (E:=X.xe) (s:=c) (Q:=λ_ s2=>∃b,s2={c with heap:=b}/\bC.HeldW v (X.env::X.outer) a (.ref C) M X.env.locals b/\c.heap.UpToSlots b) hF a8 ah λb w A=>⟨b,L,w,A⟩;refine bu ((JT _ _).any m1) λ_ s2 ⟨⟨h2,e2,Q,cv⟩,cC⟩=>?_;subst e2;have cE:=fb.on au.2.2.1 Q.1 cv cC;have m2:=wpAny_landsW (M:=bo X.prog X.w) (A:=X.A) (E:=X.xe) (s:={c with heap:=h2}) (Q:=λ_ s3=>∃b,s3={c with heap:=b}/\zj v (X.env::X.outer) a (.ref C) M b/\h2.UpToSlots b) Q λb w A=>⟨b,L,w,A⟩;refine bu ((Eb _ _).any m2) λ_ s3 ⟨⟨N,e3,o,cL⟩,c0⟩=>?_;subst e3;have c1:h2.FunFrames v X.stack:=by rw[aa];exact Q.2.2.1
  rw[<-aa] at o;have av:=cE.on c1 o.1 cL c0;have H:Inv X m U (upd u a<|.ext<|lR a C od) {c with heap:=N}:=qz.J0 (s':={c with heap:=N}) p av o os ae;refine wpAny_handleBy_cons (codeAny_handlers_test ?_) (by intro z;cases z);refine sx (X:=X.within<|.ref a) (H.into _) bx b1 ?_ b4;obtain⟨nm,qn,bs,sn,sub,ab,dr,dd,k0,k1,k2,k3,k5,mN,hC,_⟩:=xc.obj H.eV;obtain⟨oe,c2,c3⟩:=o.there;refine wpAny_excMatches_sub_self hC c2 c3 FB.hasBase ?_;refine codeAny_handlers_suite_as ?_;have m4:=lands_againW (M:=bo X.prog X.w) (A:=X.A.mark<|O<|.ref a) (E:=wQ (bo X.prog X.w) (X.A.mark<|O<|.ref a) X.env<|cameBackBy (bo X.prog X.w) X.A X.env X.xe) (s:={c with heap:=N}) (Q:=λ_ s4=>∃b,s4={c with heap:=b}/\zj v X.stack a (.ref C) M b/\N.UpToSlots b) o λb w A=>⟨b,L,w,A⟩;refine bu ((Eb _ _).any m4) λ_ s4 ⟨⟨h4,e4,ay,c4⟩,c5⟩=>?_;subst e4;have c6:=av.on o.2.2.1 ay.1 c4 c5;have I4:Inv X m U (upd u a<|.ext<|lR a C od) {c with heap:=h4}:=qz.J0 (s':={c with heap:=h4}) p c6 ay os ae;refine xh (X:=X.within<|.ref a) (v:=.ref a) (I4.into _) hN hn (.inl T) L (λs5 I5=>?_)<|.inr T;refine jZ (b2 a m s5 _ _ _ I5 (ct a ag)) (λfw s6 D=>?_) λ_ _ z=>fY z;have B:∀{σ6:St}{d:Hp}{Q6:Unit->aF->Prop},Inv (X.within<|.ref a) m σ6 d s6->(∀q,Inv X m (zd X.N.length ai) d q->Q6 () q)->wpAny (bo X.prog X.w) X.A (do bindName X.env n .none;unbindBehindTheSuite X.env n hp) Q6 X.xe s6:=λ{σ6 d Q6} g k6=>by
   obtain⟨m6,c7,_⟩:=g.loc;exact wpAny_nameGoes T c7 (by show(X.env.scope.kind== .class ||(X.env.scope.kind== .module&&X.env.locals !=X.env.globals))=ax;rw[I.ok.kind];rfl) λh7 m7 c8 c9=>k6 _ (Inv.gone (g.WM I.ok) c8 c9)
  cases fw with
  |next=>
   obtain⟨σ6,d,g,h⟩:=D;exact B g λq l=>⟨_,d,l,h⟩
  |brk=>
   obtain⟨σ6,d,g,h⟩:=D;exact B g λq l=>⟨_,d,l,h⟩
  |cont=>
   obtain⟨σ6,d,g,h⟩:=D;exact B g λq l=>⟨_,d,l,h⟩
  |ret dm=>
   obtain⟨v6,σ6,d,g,r6,h⟩:=D;exact B g λq l=>⟨v6,_,d,l,r6,h⟩
def ck:Passes (cX P w) X E0:=λ_ _ _ _ _ _ _ h=>by
 obtain⟨_,_,_,_,_,_,_,_,_,_,z⟩:=h;exact fY z
section
variable{P:cf}{w:bR}{K:bj}{mg:ao->Option aw}{base:bC}
def gH.okN{x c:ao}{st:eT}{f:af}{d:iT}{N ps:List ao}{k:Nat}{sp:Sp}(F:gH K x c st f d)(S:mL N ps (cR st))(len:∀vs H Q E,sp vs H Q E->vs.length=ps.length)
  (e:∀(a:aw)(A:cG)(b:List dj)(s:aF)(H:Hp)(vs:List V)(Q:VK)(E:XK),cZ k (A.deeper<|j2 c (cR st) s.heap.objs.size f a)->sp vs H Q E->
   ∃t,gF (jf (cX P w) P w K mg base N c (cR st) f a A b s H E).o7 (ik st) t/\t {nx:=λ_ H'=>Q .bp H',rt:=Q} (start N vs) H):dH P w K mg base (cX P w) (k+1) f d ps sp:=by
 obtain⟨n,o,kV,l,p,r,a,u,m,rfl,lk,g⟩:=F.ex;refine Jm lk g S len λA b s H vs Q E j i=>?_;obtain⟨t,h,q⟩:=e a A b s H vs Q E j i;exact⟨t,h.o7,q⟩
def gH.Ei{x c:ao}{st:eT}{f:af}{d:iT}{N ps:List ao}{k:Nat}{sp:Sp}(F:gH K x c st f d)(S:mL N ps (cR st))(len:∀vs H Q E,sp vs H Q E->vs.length=ps.length)
  (e:∀(a:aw)(A:cG)(b:List dj)(s:aF)(H:Hp)(vs:List V)(Q:VK)(E:XK),cZ k (A.deeper<|j2 c (cR st) s.heap.objs.size f a)->sp vs H Q E->
   ∃t,gF (jf (cX P w) P w K mg base N c (cR st) f a A b s H E) (ik st) t/\t {nx:=λ_ H'=>Q .bp H',rt:=Q} (start N vs) H):dH P w K mg base (cX P w) (k+1) f d ps sp:=by
 obtain⟨m,n,kV,j,o,p,a,q,l,rfl,lk,g⟩:=F.ex;exact Jm lk g S len λA b s H vs Q E i h=>e a A b s H vs Q E i h
end
structure Fn(K:bj)(mg:ao->Option aw)(x:ao)(st:eT)(ps:List ao):Prop where
 ex:∃f fd,gH K x x st f fd/\mg x=O (.ref f)/\Binds K fd ps []
structure kM(P:cf)(w:bR)(K:bj)(mg:ao->Option aw)(base:bC)(k:Nat)(x:ao)(ps:List ao)(sp:Sp):Prop where
 ex:∃f fd,dH P w K mg base (cX P w) k f fd ps sp/\mg x=O (.ref f)/\nB K (.ref f)=Y/\Binds K fd ps []
def Fn.aU{P:cf}{w:bR}{K:bj}{c:ao->Option aw}{base:bC}{k:Nat}{x:ao}{st:eT}{ps:List ao}{sp:Sp}(F:Fn K c x st ps)(h:∀f a,gH K x x st f a->dH P w K c base (cX P w) k f a ps sp):kM P w K c base k x ps sp:=by
 obtain⟨f,a,d,m,b⟩:=F.ex;exact⟨f,a,h f a d,m,d.kp,b⟩
section
variable{X:Cx}{k:Nat}{x:ao}{ps:List ao}{sp:Sp}{E:XK}{p pos:cK}{e:bF}{es:List bF}{t:TA}
def pc(c:kM X.prog X.w X.K X.mg X.base k x ps sp)(g:cZ k X.A)(h:Gl X x)(i:Passes (cX X.prog X.w) X E)(j:PA X (e::es) t)(a:(x==("__debug__":ao))=ax:=by decide)
  (l:bS (e::es) X.env=(ax,eval e X.env)::bS es X.env:=by rfl)(d:(eP pos<|bS es X.env).any (·.1)=ax:=by rfl):PE X (.Call (.Name x p) (e::es) [] pos) (cA sp [] E t):=by
 obtain⟨f,o,F,m,n,b⟩:=c.ex;exact Vj F g h m n b .nil i j a l d
end
def J.new(h:H a=ai):J H (upd H a o):=λb u e=>by rw[aX (bA e h)];exact e
def tx(l:List Nat):List V:=l.map λ(n:Nat)=>V.int (n:Int)
def bX(l:List Nat):(tx l).length=l.length:=by unfold tx;rw[bH]
def J2{l:List Nat}{i:Nat}{n:Nat}(h:l[i]?=O n):(tx l)[i]?=O (V.int (n:Int)):=by unfold tx;rw[eU,h];rfl
def J3{l:List Nat}{i:Nat}(h:(tx l)[i]?=O v):∃n:Nat,l[i]?=O n/\v=V.int (n:Int):=by
 unfold tx at h;rw[eU] at h;cases e:l[i]?with
 |none=>rw[e] at h;cases h
 |some n=>rw[e] at h;exact⟨n,L,(eh h).symm⟩
def take_succ:∀{l:List α}{i:Nat}{x:α},l[i]?=O x->l.take (i+1)=l.take i++[x]
 |[],i,x,h=>by simp at h
 |a::l,0,x,h=>by
  have e:a=x:=eh h;rw[e];rfl
 |a::l,i+1,x,h=>by
  have b:=take_succ (l:=l) (i:=i) (x:=x) h;show a::l.take (i+1)=a::l.take i++[x];rw[b];rfl
def Aj(U:St)(v:Nat)(x:V):wipe ((wipe U [v]).set v<|O x) [v]=wipe U [v]:=by
 show((U.set v ai).set v<|O x).set v ai=U.set v ai;rw[C3,C3]
section
variable{K:bj}{a D:af}{xs:List V}{tt:TT}{te:TE}{v:Nat}{U:St}{H1:Hp}{Qd:Hp->Prop}
def J4(h:xs[i]?=O x):((xs.take<|i+1).filter p).map b=((xs.take i).filter p).map b++(if p x=Y then[b x] else[]):=by
 rw[take_succ h,wV,fR];congr 1;by_cases q:p x=Y
 ·rw[aA q,oP,aA q];rfl
 ·rw[ak q,oP,ak q];rfl
def Ej(p:V->Bool)(j:V->V)(u:aM K H1 a xs)(n:H1 D=ai)(hz:xs.length<=br)
  (w:∀x∈xs,∀c Q,J H1 c->(∀d,J c d->Q (p x) d)->tt ((wipe U [v]).set v<|O x) c Q)
  (z:∀x∈xs,p x=Y->∀c Q,J H1 c->(∀d,J c d->Q (j x) d)->te ((wipe U [v]).set v<|O x) c Q)(A:∀c,J H1 c->c D=O (.lst<|(xs.filter p).map j)->Qd c):
  ∃W:Nat->Nat->Hp->Prop,(∃m,W 0 m<|upd H1 D<|.lst [])/\∀i m H,W i m H->
   ((je K a).stop i H/\Qd H)∨((je K a).go i H/\∃k:Hp->Prop,(∀H',k H'->∃r,r<m/\W (i+1) r H')/\∀x H',(je K a).kE i H x H'->fV v x (wipe U [v]) H' λσ2 c=>wipe σ2 [v]=wipe U [v]/\tt σ2 c λb d=>
    if b=Y then te σ2 d λy l=>∃acc,l D=O (.lst acc)/\acc.length<br/\k (upd l D<|.lst<|acc++[y]) else k d):=by
 refine Jx (xs:=xs) (λi c=>J H1 c/\c D=O (.lst<|((xs.take i).filter p).map j)) ⟨J.new n,ba⟩ (λi c _ h=>h.1.seq u) (λi x c g h=>⟨Aj U v x,?_⟩) λc h=>?_
 ·have s:x∈xs:=ei g;refine w x s c _ h.1 λd f=>?_;by_cases q:p x=Y
  ·rw[aA q];refine z x s q d _ (h.1.trans f) λl t=>⟨_,t _ _ (f _ _ h.2),?_,λb o e=>?_,?_⟩
   ·rw[bH];refine afW (oQ _ _) ?_;rw[gA];have:=(fC.mp g).1;omega
   ·rw[aX (bA e n)];exact t _ _ (f _ _ (h.1 _ _ e))
   ·rw[ba,J4 g,aA q]
  ·rw[ak q];exact⟨h.1.trans f,by rw[J4 g,ak q,gp];exact f _ _ h.2⟩
 ·rw[kx] at h;exact A c h.1 h.2
def Ak(e:V->V)(l:aM K H1 a xs)(n:H1 D=ai)(hz:xs.length<=br)
  (o:∀x∈xs,∀c Q,J H1 c->(∀d,J c d->Q (e x) d)->te ((wipe U [v]).set v<|O x) c Q)(p:∀c,J H1 c->c D=O (.lst<|xs.map e)->Qd c):
  ∃W:Nat->Nat->Hp->Prop,(∃m,W 0 m<|upd H1 D<|.lst [])/\∀i m H,W i m H->
   ((je K a).stop i H/\Qd H)∨((je K a).go i H/\∃f:Hp->Prop,(∀H',f H'->∃g,g<m/\W (i+1) g H')/\∀x H',(je K a).kE i H x H'->fV v x (wipe U [v]) H' λσ2 c=>wipe σ2 [v]=wipe U [v]/\sM σ2 c λb d=>
    if b=Y then te σ2 d λy j=>∃acc,j D=O (.lst acc)/\acc.length<br/\f (upd j D<|.lst<|acc++[y]) else f d):=
 Ej (tt:=sM) (λ_=>Y) e l n hz (λx _ c Q _ k=>k c<|J.refl _) (λx q _=>o x q) λc s h=>p c s (by rw[h,List.filter_eq_self.mpr<|λ_ _=>rfl])
def qA(x:ao):List V:=x.cps.toList.map λc=>V.str ⟨#[c]⟩
def WO(g:V->V)(r:H1 D=ai)(hz:x.cps.size<=br)
  (w:∀c∈x.cps.toList,∀d Q,J H1 d->(∀f,J d f->Q (g<|.str ⟨#[c]⟩) f)->te ((wipe U [v]).set v<|O<|.str ⟨#[c]⟩) d Q)(z:∀d,J H1 d->d D=O (.lst<|(qA x).map g)->Qd d):
  ∃W:Nat->Nat->Hp->Prop,(∃m,W 0 m<|upd H1 D<|.lst [])/\∀i m H,W i m H->
   ((xD x).stop i H/\Qd H)∨((xD x).go i H/\∃j:Hp->Prop,(∀H',j H'->∃s,s<m/\W (i+1) s H')/\∀y H',(xD x).kE i H y H'->fV v y (wipe U [v]) H' λσ2 d=>wipe σ2 [v]=wipe U [v]/\sM σ2 d λb f=>
    if b=Y then te σ2 f λy k=>∃acc,k D=O (.lst acc)/\acc.length<br/\j (upd k D<|.lst<|acc++[y]) else j f):=by
 refine⟨λi m d=>m=x.cps.size-i/\i<=x.cps.size/\J H1 d/\d D=O (.lst<|((qA x).take i).map g),⟨_,L,dD _,J.new r,ba⟩,?_⟩;rintro i m d ⟨rfl,C,l,n⟩;have u:(qA x).length=x.cps.size:=by unfold qA;rw[bH,wy]
 by_cases p:i<x.cps.size
 ·refine .inr ⟨p,λf=>i+1<=x.cps.size/\J H1 f/\f D=O (.lst<|((qA x).take<|i+1).map g),λf h=>⟨_,aG,L,h.1,h.2.1,h.2.2⟩,?_⟩;rintro y f ⟨rfl,c,A,rfl⟩;have q:x.cps.toList[i]?=O c:=by rw[Hk];exact A
  have B:(qA x)[i]?=O (V.str ⟨#[c]⟩):=by unfold qA;rw[eU,q];rfl
  refine⟨Aj U v _,w c (ei q) _ _ l λk t=>⟨_,t _ _ n,?_,p,λb o e=>?_,?_⟩⟩
  ·rw[bH,gA];omega
  ·rw[aX (bA e r)];exact t _ _ (l _ _ e)
  ·rw[ba,take_succ B,fR];rfl
 ·have e:i=x.cps.size:=by omega
  subst e;rw[<-u,kx] at n;exact .inl ⟨bG _,z d l n⟩
end
end L2
namespace Nm
open Vbnlab
def sQ(h:gC x y=O z):
  (x=y/\z=x/\DOUBLED.contains x=Y)∨((x=97∨x=111)/\y=101/\z=101)∨(x=112/\(y=104∨y=102)/\z=102)∨
  ((x=99∨x=116∨x=114)/\y=104/\z=x)∨(x=99/\y=116/\z=116):=by
 unfold gC at h;split at h
 ·rename_i c;cases h;exact .inl ⟨c.1,L,c.2⟩
 ·split at h
  ·rename_i c;cases h;exact .inr<|.inl ⟨c.1,c.2,L⟩
  ·split at h
   ·rename_i c;cases h;exact .inr<|.inr<|.inl ⟨c.1,c.2,L⟩
   ·split at h
    ·rename_i c;cases h;exact .inr<|.inr<|.inr<|.inl ⟨c.1,c.2,L⟩
    ·split at h
     ·rename_i c;cases h;exact .inr<|.inr<|.inr<|.inr ⟨c.1,c.2,L⟩
     ·cases h
def WQ(h:DOUBLED.contains x=Y):gC x x=O x:=by unfold gC;rw[aA ⟨L,h⟩]
def WR(h:gC a c=O z)(d:gC c y=O u):∃v,gC z y=O v/\gC a u=O v:=by
 rcases sQ h with⟨rfl,rfl,e⟩|⟨f,rfl,rfl⟩|⟨rfl,b,rfl⟩|⟨f,rfl,rfl⟩|⟨rfl,rfl,rfl⟩
 ·rcases sQ d with⟨rfl,rfl,_⟩|⟨f,rfl,rfl⟩|⟨rfl,b,rfl⟩|⟨f,rfl,rfl⟩|⟨rfl,rfl,rfl⟩
  ·exact⟨_,d,d⟩
  ·rcases f with rfl|rfl<;>exact absurd e aB
  ·exact⟨_,d,aB⟩
  ·exact⟨_,d,WQ e⟩
  ·exact⟨_,d,aB⟩
 ·rcases sQ d with⟨rfl,rfl,e⟩|⟨f,rfl,rfl⟩|⟨b,_,rfl⟩|⟨f,rfl,rfl⟩|⟨b,_,rfl⟩
  ·exact absurd e aB
  ·omega
  ·omega
  ·omega
  ·omega
 ·rcases b with rfl|rfl
  ·rcases sQ d with⟨rfl,rfl,e⟩|⟨f,rfl,rfl⟩|⟨b,_,rfl⟩|⟨f,rfl,rfl⟩|⟨b,_,rfl⟩
   ·exact absurd e aB
   all_goals omega
  ·rcases sQ d with⟨rfl,rfl,e⟩|⟨f,rfl,rfl⟩|⟨b,_,rfl⟩|⟨f,rfl,rfl⟩|⟨b,_,rfl⟩
   ·exact⟨102,aB,aB⟩
   all_goals omega
 ·rcases sQ d with⟨rfl,rfl,e⟩|⟨g,rfl,rfl⟩|⟨b,_,rfl⟩|⟨g,rfl,rfl⟩|⟨b,_,rfl⟩
  ·exact absurd e aB
  all_goals omega
 ·rcases sQ d with⟨rfl,rfl,e⟩|⟨g,rfl,rfl⟩|⟨b,_,rfl⟩|⟨g,rfl,rfl⟩|⟨b,_,rfl⟩
  ·exact⟨116,aB,aB⟩
  ·omega
  ·omega
  ·exact⟨116,aB,aB⟩
  ·omega
def J5(h:gC a c=O z):∀w:S,put a (put c w)=put z w
 |[]=>by
  show put a [c]=[z];unfold put;rw[h];rfl
 |y::r=>by
  cases e:gC c y with
  |none=>
   have b:put c (y::r)=c::y::r:=by conv=>lhs;unfold put;simp only[e]
   rw[b];conv=>lhs;unfold put;simp only[h]
  |some u=>
   obtain⟨v,d,f⟩:=WR h e;have b:put c (y::r)=put u r:=by conv=>lhs;unfold put;simp only[e]
   have g:put z (y::r)=put v r:=by conv=>lhs;unfold put;simp only[d]
   rw[b,g];exact J5 f r
def push:List Nat->Nat->List Nat
 |[],c=>[c]
 |a::st,c=>match gC a c with
  |some z=>push st z
  |none=>c::a::st
def fU(st:List Nat)(w:S):S:=st.foldl (λa x=>put x a) w
def J6:∀(st:List Nat)(c:Nat)(w:S),fU (push st c) w=fU st (put c w)
 |[],c,w=>rfl
 |a::st,c,w=>by
  unfold push;cases e:gC a c with
  |none=>rfl
  |some z=>
   show fU (push st z) w=fU st (put a<|put c w);rw[J6 st z w,J5 e]
def J7:∀(l:List Nat)(st:List Nat),fU (l.foldl push st) []=fU st (l.foldr put [])
 |[],st=>rfl
 |c::l,st=>by
  rw[TX,J7 l,J6];rfl
def j9:List Nat->Prop
 |[]=>True
 |[_]=>True
 |c::a::st=>gC a c=ai/\j9 (a::st)
def j9.tail(h:j9 (a::st)):j9 st:=by
 cases st with
 |nil=>trivial
 |cons b s=>exact h.2
def j9.push:∀{st:List Nat}(c:Nat),j9 st->j9 (push st c)
 |[],c,_=>trivial
 |a::st,c,h=>by
  unfold Nm.push;cases e:gC a c with
  |none=>exact⟨e,h⟩
  |some z=>exact j9.push z h.tail
def j9.all:∀(l:List Nat){st:List Nat},j9 st->j9 (l.foldl Nm.push st)
 |[],_,h=>h
 |c::l,st,h=>j9.all l<|h.push c
def J8:∀(st:List Nat)(w:S),j9 st->(∀a b r s,st=a::r->w=b::s->gC a b=ai)->fU st w=st.reverse++w
 |[],w,_,_=>rfl
 |a::st,w,h,d=>by
  have e:put a w=a::w:=by
   cases w with
   |nil=>rfl
   |cons b s=>unfold put;rw[d a b st s L L]
  show fU st (put a w)=_;rw[e,J8 st (a::w) h.tail (λc b r s f g=>by cases g;subst f;exact h.1)];simp
def J9(w:S):fold w=(((w.filter λb=>b !=45).map plain).foldl push []).reverse:=by
 have e:=J7 ((w.filter λb=>b !=45).map plain) [];rw[J8 _ [] (j9.all _ (st:=[]) trivial) (λa b r s _ h=>by cases h),gp] at e;exact e.symm
abbrev Rs(α:Type):=Nat⊕(α×Nat×S)
def bindR(x:Nat⊕α)(f:α->Nat⊕β):Nat⊕β:=match x with
 |.inl q=>.inl q
 |.inr a=>f a
def pass:S->Nat->S->Nat⊕(Nat×S)
 |[],p,r=>.inr (p,r)
 |_::_,p,[]=>.inl p
 |c::s,p,b::r=>if b=c then pass s (p+1) r else .inl p
def span(f:Nat->Bool):Nat->S->S
 |0,_=>[]
 |_+1,[]=>[]
 |n+1,b::r=>if f b=Y then b::span f n r else[]
def jv(p:Nat):S->Rs S
 |[]=>.inl p
 |b::r=>if b7 b=Y then .inr (b::span bD 39 r,p+1+(span bD 39 r).length,r.drop (span bD 39 r).length) else .inl p
def pB(p:Nat)(r:S):Rs S:=bindR (jv p r) λ(w,p,r)=>if w.length<2 then .inl p else .inr (w,p,r)
def ft(w:S)(b:Nat):Bool:=if b=45 then decide (0<w.length)&&(decide (w.length<39)&&!w.contains 45) else bD b&&decide (w.length<40)
def dI:S->S->S×S
 |w,[]=>(w,[])
 |w,b::r=>if ft w b=Y then dI (w++[b]) r else(w,b::r)
def epithet(p:Nat)(r:S):Rs S:=if(dI [] r).1.length<2∨(dI [] r).1.getLast?=O 45 then .inl (p+(dI [] r).1.length) else .inr ((dI [] r).1,p+(dI [] r).1.length,(dI [] r).2)
def bc(f:Nat->Bool):S->Bool
 |[]=>ax
 |b::_=>f b
def i3(a:Bool)(w:S):S->Bool
 |[]=>ax
 |b::r=>decide (w.length<39)&&(if b=32/\a=ax then bc b7 r else iA b)
def dU(a:Bool):S->Nat->S->Rs S
 |w,p,[]=>.inr (w,p,[])
 |w,p,b::[]=>if eF b=Y/\w.length<40 then .inr (w++[b],p+1,[]) else if i3 a w [b]=Y then .inl (p+1) else .inr (w,p,[b])
 |w,p,b::c::r=>if eF b=Y/\w.length<40 then dU a (w++[b]) (p+1) (c::r)
  else if i3 a w (b::c::r)=Y then(if b7 c=Y then dU a (w++[b,c]) (p+2) r else .inl (p+1))
  else .inr (w,p,b::c::r)
def author(a:Bool)(p:Nat):S->Rs S
 |[]=>.inl p
 |b::r=>if b7 b=Y then dU a [b] (p+1) r else .inl p
def numOf(l:S):Int:=l.foldl (λ(a:Int)(b:Nat)=>a*10+((b:Int)-48)) 0
def number(p:Nat)(r:S):Rs Int:=if bc (λb=>cx b&&b !=48) r=Y then .inr (numOf<|span cx 4 r,p+(span cx 4 r).length,r.drop (span cx 4 r).length) else .inl p
def mR(p:Nat)(r:S):Rs Int:=if bc (λb=>b==49||b==50) r=Y then bindR (number p r) λ(y,p,r)=>if y<1000 then .inl p else .inr (y,p,r) else .inl p
def telling:Int->S
 |1=>aH "cf."
 |2=>aH "aff."
 |3=>aH "x "
 |4=>aH "subsp."
 |5=>aH "var."
 |6=>aH "f."
 |_=>[]
def marked:List Int->Nat->S->Rs Int
 |[],p,r=>.inr (0,p,r)
 |m::a,p,r=>if(telling m).isPrefixOf r=Y then bindR (pass (mz m) p r) λ(p,r)=>.inr (m,p,r) else marked a p r
def others:Nat->Name->Nat->S->Rs Name
 |0,n,p,r=>bindR (pass (aH " & ") p r) λ(p,r)=>bindR (author Y p r) λ(a,p,r)=>.inr ({n with authors:=n.authors++[a]},p,r)
 |k+1,n,p,r=>if bc (λb=>b==44) r=Y then bindR (pass (aH ", ") p r) λ(p,r)=>bindR (author ax p r) λ(a,p,r)=>others k {n with authors:=n.authors++[a]} p r
  else bindR (pass (aH " & ") p r) λ(p,r)=>bindR (author Y p r) λ(a,p,r)=>.inr ({n with authors:=n.authors++[a]},p,r)
def gJ(n:Name)(p:Nat)(r:S):Rs Name:=
 bindR (author ax p r) λ(a,p,r)=>
 bindR (if bc (λb=>b==32) r=Y/\bc (λb=>b==101) (r.drop 1)=Y then bindR (pass (aH " et al.") p r) λ(p,r)=>.inr ({n with authors:=n.authors++[a],etal:=1},p,r)
  else if bc (λb=>b==32) r=Y∨bc b7 (r.drop 2)=Y then others (7-(n.authors.length+1)) {n with authors:=n.authors++[a]} p r
  else .inr ({n with authors:=n.authors++[a]},p,r)) λ(n,p,r)=>
 bindR (pass (aH ", ") p r) λ(p,r)=>bindR (mR p r) λ(y,p,r)=>.inr ({n with year:=y},p,r)
def gZ(n:Name)(p:Nat)(r:S):Rs Name:=
 if bc (λb=>b==40) r=Y/\n.e1≠[] then bindR (gJ {n with paren:=1} (p+1)<|r.drop 1) λ(n,p,r)=>bindR (pass (aH ")") p r) λ(p,r)=>.inr (n,p,r)
 else gJ n p r
def epithets(n:Name)(p:Nat)(r:S):Rs Name:=
 bindR (marked [1,2,3] p r) λ(q,p,r)=>bindR (epithet p r) λ(w,p,r)=>
  if r=[] then .inr ({n with q1:=q,e1:=w},p,r) else bindR (pass (aH " ") p r) λ(p,r)=>
   if bc bD r=Y then bindR (marked [1,2,4,5,6] p r) λ(a,p,r)=>bindR (epithet p r) λ(b,p,r)=>
    if r=[] then .inr ({n with q1:=q,e1:=w,q2:=a,e2:=b},p,r) else bindR (pass (aH " ") p r) λ(p,r)=>gZ {n with q1:=q,e1:=w,q2:=a,e2:=b} p r
   else gZ {n with q1:=q,e1:=w} p r
def qB(n:Name)(p:Nat)(r:S):Rs Name:=
 bindR (pass (aH "sp.") p r) λ(p,r)=>if bc (λb=>b==32) r=Y then bindR (number (p+1)<|r.drop 1) λ(k,p,r)=>.inr ({n with num:=k},p,r) else .inr ({n with num:=0},p,r)
def rest(n:Name)(p:Nat)(r:S):Rs Name:=
 if(aH "sp.").isPrefixOf r=Y then qB n p r else if bc bD r=Y then epithets n p r else if n.abbr=0 then gZ n p r else .inl p
def headOf(p:Nat)(r:S):Rs Name:=bindR (jv p r) λ(w,p,r)=>
 if bc (λb=>b==46) r=Y/\w.length<40 then .inr ({abbr:=1,head:=w},p+1,r.drop 1) else if w.length<2 then .inl p else .inr ({head:=w},p,r)
def jP(n:Name)(p:Nat)(r:S):Rs Name:=bindR (pass (aH "(") p r) λ(p,r)=>bindR (pB p r) λ(w,p,r)=>bindR (pass (aH ")") p r) λ(p,r)=>.inr ({n with sub:=w},p,r)
def fin(x:Rs Name):Nat⊕Name:=bindR x λ(n,p,r)=>if r=[] then .inr n else .inl p
def name(r:S):Nat⊕Name:=
 bindR (headOf 0 r) λ(n,p,r)=>if r=[]/\n.abbr=0 then .inr n else bindR (pass (aH " ") p r) λ(p,r)=>
  if bc (λb=>b==40) r=Y then bindR (jP n p r) λ(n,p,r)=>if r=[]/\n.abbr=0 then .inr n else bindR (pass (aH " ") p r) λ(p,r)=>fin<|rest n p r
  else fin (rest n p r)
def res:St->Nat->S->Nat⊕Name
 |s,p,[]=>match oR s with
  |some n=>.inr n
  |none=>.inl p
 |s,p,b::r=>match next s b with
  |some a=>res a (p+1) r
  |none=>.inl p
def Ka(w:S):mB w=res .start 0 w:=by
 have h:∀(w:S)(s:St)(p:Nat),(match through s p w with
   |.inl i=>mj i
   |.inr s=>match oR s with
    |some n=>qb n
    |none=>mj<|p+w.length)=res s p w:=by
  intro w;induction w with
  |nil=>intro s p;rfl
  |cons b r c=>
   intro s p;unfold through res;cases e:next s b with
   |none=>rfl
   |some a=>
    have:=c a<|p+1;simp only;rw[<-this];cases through a (p+1) r with
    |inl i=>rfl
    |inr t=>
     simp only;cases oR t with
     |some n=>rfl
     |none=>simp only[bV];congr 1;omega
 have:=h w .start 0;rw[<-this];unfold mB;cases through .start 0 w with
 |inl i=>rfl
 |inr t=>simp only[afX];rfl
def qC(h:oR s=ai):res s p []= .inl p:=by unfold res;rw[h]
def Al(h:oR s=O n):res s p []= .inr n:=by unfold res;rw[h]
def res_none(h:next s b=ai):res s p (b::r)= .inl p:=by unfold res;rw[h]
def res_some(h:next s b=O s'):res s p (b::r)=res s' (p+1) r:=by
 conv=>lhs;unfold res
 rw[h]
def Ek(h:bD b=Y):b7 b=ax/\cx b=ax/\b≠32/\b≠46/\b≠45/\b≠40/\b≠41/\b≠44/\b≠39:=by
 unfold bD at h;rw[bL,bO,bO] at h;refine⟨?_,?_,?_,?_,?_,?_,?_,?_,?_⟩
 ·unfold b7;simp;omega
 ·unfold cx;simp;omega
 all_goals omega
def Kb(h:b7 b=Y):bD b=ax/\cx b=ax/\b≠32/\b≠46/\b≠45/\b≠40/\b≠41/\b≠44/\b≠39/\b≠38/\b≠101/\b≠49/\b≠50:=by
 unfold b7 at h;rw[bL,bO,bO] at h;refine⟨?_,?_,?_,?_,?_,?_,?_,?_,?_,?_,?_,?_,?_⟩
 ·unfold bD;simp;omega
 ·unfold cx;simp;omega
 all_goals omega
def Kc(h:eF b=Y):iA b=ax/\b≠32/\b≠45/\b≠39/\b≠44:=by
 unfold eF at h;rw[jH] at h;have:b≠32/\b≠45/\b≠39/\b≠44:=by
  rcases h with h|h
  ·have:=Ek h;omega
  ·have:=Kb h;omega
 refine⟨?_,this⟩;unfold iA;simp;omega
def Am(f:Nat->Bool)(n:Nat):span f n []=[]:=by cases n<;>rfl
def span_len(f:Nat->Bool):∀(n:Nat)(r:S),(span f n r).length<=n
 |0,r=>by cases r<;>exact bG _
 |n+1,[]=>dD _
 |n+1,b::r=>by
  unfold span;split
  ·have:=span_len f n r;simp only[bV];omega
  ·exact dD _
def sR(f:Nat->Bool):∀(n:Nat)(r:S)(b:Nat)(s:S),r.drop (span f n r).length=b::s->(span f n r).length<n->f b=ax
 |0,r,b,s,_,h=>absurd h (C4 _)
 |n+1,[],b,s,e,_=>by simp[span] at e
 |n+1,c::r,b,s,e,h=>by
  unfold span at e h;cases a:f c with
  |false=>
   simp only[a] at e h;cases e;exact a
  |true=>
   simp only[a,gz,bV,rV] at e h;exact sR f n r b s e aG
def e7(h:c=Y):dz c s=O s:=by unfold dz;rw[aA h]
def dc(h:c=ax):dz c s=ai:=by unfold dz;rw[ak (by rw[h];exact fe)]
def WS(b:Nat):next .start b=dz (b7 b) (.head [b]):=rfl
def vm(w:S)(b:Nat):next (.head w) b=if bD b=Y then dz (decide (w.length+1<=d9)) (.head<|w++[b]) else if b=46 then dz (decide (w.length+1<=d9)) (.dot {abbr:=1,head:=w}) else dz (b==32&&decide (2<=w.length)) (.gap {head:=w}):=rfl
def Ke(n:Name)(b:Nat):next (.dot n) b=dz (b==32) (.gap n):=rfl
def vn(n:Name)(b:Nat):next (.gap n) b=if bD b=Y then O (.word n ax 0 [b]) else if b=40 then dz (n.sub==[]) (.sub n []) else dz (b7 b&&n.abbr==0) (.author n .first [b]):=rfl
def WT(n:Name)(b:Nat):next (.sub n []) b=dz (b7 b) (.sub n [b]):=rfl
def xG(n:Name)(c:Nat)(r:S)(b:Nat):next (.sub n<|c::r) b=if bD b=Y then dz (decide (r.length+2<=d9)) (.sub n<|c::r++[b]) else dz (b==41&&decide (1<=r.length)) (.subbed {n with sub:=c::r}):=rfl
def Kf(n:Name)(b:Nat):next (.subbed n) b=dz (b==32) (.gap n):=rfl
def An(n:Name)(a:Bool)(q:Int)(w:S)(b:Nat):next (.word n a q w) b=
  if bD b=Y then dz (decide (w.length+1<=d9)) (.word n a q<|w++[b])
  else if b=45 then dz (HC w==0&&decide (w.length+2<=d9)) (.word n a q<|w++[b])
  else if b=46 then(if q≠0 then ai else if a=ax/\w=aH "sp" then O (.sp {n with num:=0}) else(wW a w).map λp=>.marked n a p)
  else if b=32 then(if a=ax/\q=0/\w=aH "x" then O (.bare n ax 3) else dz (wX w) (.wordGap<|nI n a q w))
  else ai:=rfl
def El(n:Name)(a:Bool)(q:Int)(b:Nat):next (.marked n a q) b=dz (b==32) (.bare n a q):=rfl
def Em(n:Name)(a:Bool)(q:Int)(b:Nat):next (.bare n a q) b=dz (bD b) (.word n a q [b]):=rfl
def Kg(n:Name)(b:Nat):next (.sp n) b=dz (b==32) (.spGap n):=rfl
def En(n:Name)(b:Nat):next (.spGap n) b=dz (cx b&&b !=48) (.spNum {n with num:=(b:Int)-48}):=rfl
def Ao(n:Name)(b:Nat):next (.spNum n) b=dz (cx b&&decide (n.num<1000)) (.spNum {n with num:=n.num*10+((b:Int)-48)}):=rfl
def Eo(n:Name)(b:Nat):next (.wordGap n) b=if bD b=Y then dz (n.e2==[]) (.word n Y 0 [b]) else if b=40 then O (.opened {n with paren:=1}) else dz (b7 b) (.author n .first [b]):=rfl
def Ep(n:Name)(b:Nat):next (.opened n) b=dz (b7 b) (.author n .first [b]):=rfl
def qD(n:Name)(m:lB)(w:S)(b:Nat):next (.author n m w) b=
  if eF b=Y then dz (decide (w.length+1<=d9)) (.author n m<|w++[b])
  else if b=45∨b=39 then dz (decide (w.length+2<=d9)) (.jointed n m<|w++[b])
  else if b=32 then dz (m != .last||decide (w.length+2<=d9)) (.authorGap n m w)
  else if b=44 then dz (m != .more||decide (n.authors.length+3<=zm)) (.comma {n with authors:=n.authors++[w]} m)
  else ai:=rfl
def Er(n:Name)(m:lB)(w:S)(b:Nat):next (.jointed n m w) b=dz (b7 b) (.author n m<|w++[b]):=rfl
def vo(n:Name)(m:lB)(w:S)(b:Nat):next (.authorGap n m w) b=
  if b7 b=Y then dz (decide (w.length+2<=d9)) (.author n m<|w++[32,b])
  else if b=38 then dz (m != .last) (.amp {n with authors:=n.authors++[w]})
  else dz (b==101&&m== .first) (.etal {n with authors:=n.authors++[w],etal:=1} (aH "t al.")):=rfl
def Kh(n:Name)(b:Nat):next (.amp n) b=dz (b==32) (.ampGap n):=rfl
def Et(n:Name)(b:Nat):next (.ampGap n) b=dz (b7 b) (.author n .last [b]):=rfl
def Ki(n:Name)(b:Nat):next (.etal n []) b=dz (b==44) (.comma n .last):=rfl
def Eu(n:Name)(c:Nat)(s:S)(b:Nat):next (.etal n<|c::s) b=dz (b==c) (.etal n s):=rfl
def Kj(n:Name)(m:lB)(b:Nat):next (.comma n m) b=dz (b==32) (.commaGap n m):=rfl
def vp(n:Name)(m:lB)(b:Nat):next (.commaGap n m) b=if b7 b=Y then dz (m != .last) (.author n .more [b]) else dz (m != .more&&(b==49||b==50)) (.year {n with year:=(b:Int)-48} 1):=rfl
def vq(n:Name)(k b:Nat):next (.year n k) b=if cx b=Y then dz (decide (k<4)) (.year {n with year:=n.year*10+((b:Int)-48)} (k+1)) else dz (b==41&&(decide (k=4)&&n.paren==1)) (.done n):=rfl
def Kk:∀(r:S)(w:S)(p k:Nat),w.length+k=40->res (.head w) p r=res (.head<|w++span bD k r) (p+(span bD k r).length) (r.drop (span bD k r).length)
 |[],w,p,k,h=>by rw[Am];simp
 |b::r,w,p,0,h=>by simp[span]
 |b::r,w,p,k+1,h=>by
  cases a:bD b with
  |false=>simp[span,a]
  |true=>
   have e:next (.head w) b=O (.head<|w++[b]):=by
    rw[vm,aA a,e7 (by simp[d9];omega)]
   rw[res_some e,Kk r (w++[b]) (p+1) k (by simp;omega)];simp only[span,a,gz,bV,rV,hX,afY];congr 1;omega
def WU(p:Nat)(r:S):res .start p r=bindR (jv p r) λ(w,p,r)=>res (.head w) p r:=by
 cases r with
 |nil=>rfl
 |cons b r=>
  cases a:b7 b with
  |false=>
   rw[res_none (show next .start b=ai from dc a)];simp[jv,a,bindR]
  |true=>
   rw[res_some (show next .start b=O (.head [b]) from e7 a),Kk r [b] (p+1) 39 L];simp[jv,a,bindR]
def Kl:∀(r:S)(n:Name)(c:Nat)(w:S)(p k:Nat),w.length+1+k=40->res (.sub n<|c::w) p r=res (.sub n<|c::w++span bD k r) (p+(span bD k r).length) (r.drop (span bD k r).length)
 |[],n,c,w,p,k,h=>by rw[Am];simp
 |b::r,n,c,w,p,0,h=>by simp[span]
 |b::r,n,c,w,p,k+1,h=>by
  cases a:bD b with
  |false=>simp[span,a]
  |true=>
   have e:next (.sub n<|c::w) b=O (.sub n<|c::(w++[b])):=by
    rw[xG,aA a,e7 (by simp[d9];omega)];rfl
   rw[res_some e,Kl r n c (w++[b]) (p+1) k (by simp;omega)];simp only[span,a,gz,bV,rV,hX,afY,rS];first|rfl|(congr 1;omega)
def Km(h:jv p r= .inr (w,f,a)):(∃c s,w=c::s)/\w.length<=40/\∀b s,a=b::s->w.length<40->bD b=ax:=by
 cases r with
 |nil=>cases h
 |cons b r=>
  simp only[jv] at h;split at h
  ·cases h;refine⟨⟨_,_,L⟩,?_,λc s e d=>?_⟩
   ·have:=span_len bD 39 r;simp only[bV];omega
   ·exact sR bD 39 r c s e (by simp only[bV] at d;omega)
  ·cases h
def WV(n:Name)(p:Nat)(r:S)(hs:n.sub=[])(h:bc (λb=>b==40) r=Y):res (.gap n) p r=bindR (jP n p r) λ(n,p,r)=>res (.subbed n) p r:=by
 cases r with
 |nil=>cases h
 |cons b r=>
  have a:b=40:=by simpa[bc] using h
  subst a;have e:next (.gap n) 40=O (.sub n []):=by
   rw[vn,ak aB,aA L,e7 (by rw[hs];rfl)]
  rw[res_some e];have j:jP n p (40::r)=bindR (pB (p+1) r) λ(w,p,r)=>bindR (pass (aH ")") p r) λ(p,r)=>.inr ({n with sub:=w},p,r):=rfl;rw[j];unfold pB;cases r with
  |nil=>rfl
  |cons c r=>
   cases d:b7 c with
   |false=>
    rw[res_none (show next (.sub n []) c=ai from dc d)];simp[jv,d,bindR]
   |true=>
    rw[res_some (show next (.sub n []) c=O (.sub n [c]) from e7 d),Kl r n c [] (p+1+1) 39 L];have k:jv (p+1) (c::r)= .inr (c::span bD 39 r,p+1+1+(span bD 39 r).length,r.drop (span bD 39 r).length):=by simp[jv,d]
    rw[k];have st:=sR bD 39 r;have q:=span_len bD 39 r;generalize span bD 39 r=w at*;generalize t:r.drop w.length=f at*;generalize p+1+1+w.length=l;show res (.sub n<|c::w) l f=_;simp only[bindR,bV];by_cases i:w.length+1<2
    ·rw[aA i];have m:w=[]:=afZ aG;subst m;cases f with
     |nil=>rfl
     |cons b s=>
      have a:=st b s L aT;rw[res_none];rw[xG,ak (by rw[a];decide),dc aT]
    ·rw[ak i];cases f with
     |nil=>rfl
     |cons b s=>
      by_cases a:b=41
      ·subst a;have g:next (.sub n<|c::w) 41=O (.subbed {n with sub:=c::w}):=by
        rw[xG,ak aB,e7 (by simp;omega)]
       rw[res_some g];rfl
      ·have g:next (.sub n<|c::w) b=ai:=by
        rw[xG];by_cases o:w.length<39
        ·rw[ak (by rw[st b s L o];decide),dc<|by simp[a]]
        ·split
         ·rw[dc (by simp[d9];omega)]
         ·rw[dc (by simp[a])]
       rw[res_none g];simp[pass,aH,a]
def Kn:(HC w==0)=!w.contains 45:=by
 unfold HC;induction w with
 |nil=>rfl
 |cons a r b=>
  by_cases h:a=45
  ·subst h;simp
  ·simp only[oP];rw[ak (by simpa using h),b];have:¬(45=a):=λe=>h e.symm;simp[h,this]
def WW(d:w≠[])(h:ft w b=Y):next (.word n c q w) b=O (.word n c q<|w++[b]):=by
 unfold ft at h;rw[An];by_cases a:b=45
 ·subst a;rw[aA L] at h;simp only[bL,bO] at h;rw[ak aB,aA L,e7];rw[Kn,bL];exact⟨h.2.2,by simp[d9];omega⟩
 ·rw[ak a,bL,bO] at h;rw[aA h.1,e7 (by simp[d9];omega)]
def Ko:∀(r:S)(n:Name)(a:Bool)(q:Int)(w:S)(p:Nat),w≠[]->res (.word n a q w) p r=res (.word n a q (dI w r).1) (p+(dI w r).1.length-w.length) (dI w r).2
 |[],n,a,q,w,p,c=>by simp[dI]
 |b::r,n,a,q,w,p,c=>by
  unfold dI;by_cases h:ft w b=Y
  ·rw[aA h,res_some<|WW c h,Ko r n a q (w++[b]) (p+1) aT];congr 1;simp only[aV,gR];omega
  ·rw[ak h];simp
def Ew:∀(r w:S),∃t,(dI w r).1=w++t/\r=t++(dI w r).2
 |[],w=>⟨[],by simp[dI]⟩
 |b::r,w=>by
  unfold dI;by_cases h:ft w b=Y
  ·rw[aA h];obtain⟨t,a,c⟩:=Ew r<|w++[b];refine⟨b::t,by rw[a];simp,?_⟩;rw[rS];exact fG _ c
  ·rw[ak h];exact⟨[],aT⟩
def Kq:∀(r w:S)(b:Nat)(s:S),(dI w r).2=b::s->ft (dI w r).1 b=ax
 |[],w,b,s,e=>by simp[dI] at e
 |c::r,w,b,s,e=>by
  unfold dI at e⊢;by_cases h:ft w c=Y
  ·rw[aA h] at e⊢;exact Kq r (w++[c]) b s e
  ·rw[ak h] at e⊢;cases e;simpa using h
def after(n:Name)(a:Bool)(q:Int)(w:S)(p:Nat)(r:S):Nat⊕Name:=
 if w.length<2∨w.getLast?=O 45 then .inl p else if r=[] then .inr (nI n a q w) else bindR (pass (aH " ") p r) λ(p,r)=>res (.wordGap<|nI n a q w) p r
def Ap:wX w=Y↔¬(w.length<2∨w.getLast?=O 45):=by
 unfold wX;simp[not_or]
def WX(hs:∀b s,r=b::s->ft w b=ax)(u:w≠[])
  (o:∀s,r=46::s->q=0->(a=ax->w≠aH "sp")/\wW a w=ai)(t:∀s,r=32::s->a=ax->q=0->w≠aH "x"):
  res (.word n a q w) p r=after n a q w p r:=by
 unfold after;cases r with
 |nil=>
  by_cases h:w.length<2∨w.getLast?=O 45
  ·rw[aA h,qC];show(if wX w=Y then _ else _)=_;rw[ak (by rw[Ap];exactλz=>z h)]
  ·rw[ak h,aA L,Al];show(if wX w=Y then _ else _)=_;rw[aA (Ap.mpr h)]
 |cons b s=>
  have c:=hs b s L;by_cases g:b=32
  ·subst g;have e:next (.word n a q w) 32=dz (wX w) (.wordGap<|nI n a q w):=by
    rw[An,ak aB,ak aB,ak aB,aA L,ak];rintro⟨i,j,v⟩;exact t s L i j v
   by_cases h:w.length<2∨w.getLast?=O 45
   ·rw[aA h,res_none];rw[e,dc];cases q:wX w with
    |false=>rfl
    |true=>exact absurd h (Ap.mp q)
   ·rw[ak h,ak aT,res_some<|e.trans<|e7<|Ap.mpr h];rfl
  ·have e:next (.word n a q w) b=ai:=by
    rw[An];by_cases d:b=45
    ·subst d;rw[ak aB,aA L,dc];unfold ft at c;rw[aA L] at c;rw[Kn];have m:0<w.length:=wY.mpr u;rw[eN m,uJ] at c;rw[af0];have:decide (w.length+2<=d9)=decide (w.length<39):=by
      apply cY.mpr;unfold d9;omega
     rw[this];exact c
    ·by_cases f:bD b=Y
     ·rw[aA f,dc];unfold ft at c;rw[ak d,f,uJ] at c;simp[d9] at c⊢;omega
     ·rw[ak f,ak d];by_cases l:b=46
      ·subst l;rw[aA L];by_cases k:q=0
       ·rw[ak (by simpa using k)];obtain⟨i,j⟩:=o s L k;rw[ak (λz=>i z.1 z.2),j];rfl
       ·rw[aA k]
      ·rw[ak l,ak g]
   rw[res_none e];have:pass (aH " ") p (b::s)= .inl p:=by simp[pass,aH,g]
   rw[this];split
   ·rfl
   ·rfl
def Ex(h:bD b=Y)
  (d:∀t,(dI []<|b::s).2=46::t->q=0->(a=ax->(dI []<|b::s).1≠aH "sp")/\wW a (dI []<|b::s).1=ai)
  (f:∀t,(dI []<|b::s).2=32::t->a=ax->q=0->(dI []<|b::s).1≠aH "x"):
  res (.word n a q [b]) (p+1) s=bindR (epithet p<|b::s) λ(w,p,r)=>if r=[] then .inr (nI n a q w) else bindR (pass (aH " ") p r) λ(p,r)=>res (.wordGap<|nI n a q w) p r:=by
 have g:ft [] b=Y:=by
  unfold ft;have:=Ek h;rw[ak aG,h];rfl
 have e:dI [] (b::s)=dI [b] s:=by
  conv=>lhs;unfold dI
  rw[aA g];rfl
 rw[Ko s n a q [b] (p+1) aT];unfold epithet;rw[e] at d f⊢;have i:(dI [b] s).1≠[]:=by
  obtain⟨t,j,_⟩:=Ew s [b];rw[j];simp
 rw[WX (λc t z=>Kq s [b] c t z) i d f];have k:p+1+(dI [b] s).1.length-([b]:S).length=p+(dI [b] s).1.length:=by simp only[gR];omega
 rw[k];unfold after;split
 ·rfl
 ·rfl
def Kr{a b:S}:a.isPrefixOf b=Y↔∃t,b=a++t:=by
 rw[TY];exact⟨λ⟨t,e⟩=>⟨t,e.symm⟩,λ⟨t,e⟩=>⟨t,e.symm⟩⟩
def pC{a r:S}(h:¬a.isPrefixOf r=Y):∀t,r≠a++t:=λt e=>h<|Kr.mpr ⟨t,e⟩
def Ks(r:S):r=(dI [] r).1++(dI [] r).2:=by
 obtain⟨t,a,b⟩:=Ew r [];rw[TZ] at a;rw[<-a] at b;exact b
def pD(n:Name)(a:Bool)(q:Int)(p:Nat)(r:S):Nat⊕Name:=
 bindR (epithet p r) λ(w,p,r)=>if r=[] then .inr (nI n a q w) else bindR (pass (aH " ") p r) λ(p,r)=>res (.wordGap<|nI n a q w) p r
def WY(h:¬bc bD r=Y):epithet p r= .inl p:=by
 cases r with
 |nil=>rfl
 |cons b s=>
  have g:ft [] b=ax:=by
   unfold ft;split
   ·rfl
   ·have:bD b=ax:=by simpa[bc] using h
    rw[this];rfl
  have e:dI [] (b::s)=([],b::s):=by
   unfold dI;rw[g];rfl
  unfold epithet;rw[e];rfl
def Ku(c:q≠0)(p:Nat)(r:S):res (.bare n a q) p r=pD n a q p r:=by
 unfold pD;by_cases h:bc bD r=Y
 ·cases r with
  |nil=>cases h
  |cons b s=>
   have d:bD b=Y:=h;rw[res_some (s':=.word n a q [b]) (by rw[Em,e7 d]),Ex d (λ_ _ z=>absurd z c)<|λ_ _ _ z=>absurd z c]
 ·rw[WY h];cases r with
  |nil=>rfl
  |cons b s=>
   rw[res_none]
   ·rfl
   ·rw[Em,dc<|by simpa[bc] using h]
def sS(d:q≠0)(p:Nat)(r:S):res (.marked n c q) p r=bindR (pass (aH " ") p r) λ(p,r)=>pD n c q p r:=by
 cases r with
 |nil=>rfl
 |cons b s=>
  by_cases a:b=32
  ·subst a;rw[res_some (s':=.bare n c q) (by rw[El];rfl),Ku d];rfl
  ·rw[res_none (by rw[El,dc<|by simp[a]])];simp[pass,aH,a,bindR]
def qE(h:¬(telling m).isPrefixOf r=Y):marked (m::ms) p r=marked ms p r:=by
 conv=>lhs;unfold marked
 rw[ak h]
def qF(h:(telling m).isPrefixOf r=Y):marked (m::ms) p r=bindR (pass (mz m) p r) λ(p,r)=>.inr (m,p,r):=by
 conv=>lhs;unfold marked
 rw[aA h]
def pF{a r:S}(h:a.isPrefixOf r=Y):∃t,r=a++t:=Kr.mp h
def fK(x:Nat⊕α)(f:α->Nat⊕β)(g:β->Nat⊕γ):bindR (bindR x f) g=bindR x λa=>bindR (f a) g:=by
 cases x<;>rfl
def jQ(a:α)(f:α->Nat⊕β):bindR (qb a) f=f a:=rfl
def WZ(n:Name)(p:Nat)(r:S)(h:bc bD r=Y)(j:¬(aH "sp.").isPrefixOf r=Y):
  res (.gap n) p r=bindR (marked [1,2,3] p r) λ(q,p,r)=>pD n ax q p r:=by
 by_cases d:(telling 1).isPrefixOf r=Y
 ·rw[qF d];obtain⟨t,rfl⟩:=pF d;show res (.marked n ax 1) (p+1+1+1) t=_;rw[sS aB,fK];rfl
 rw[qE d];by_cases f:(telling 2).isPrefixOf r=Y
 ·rw[qF f];obtain⟨t,rfl⟩:=pF f;show res (.marked n ax 2) (p+1+1+1+1) t=_;rw[sS aB,fK];rfl
 rw[qE f];by_cases g:(telling 3).isPrefixOf r=Y
 ·rw[qF g];obtain⟨t,rfl⟩:=pF g;show res (.bare n ax 3) (p+1+1) t=_;rw[Ku aB];rfl
 rw[qE g];show _=pD n ax 0 p r;cases r with
 |nil=>cases h
 |cons b s=>
  have i:bD b=Y:=h;rw[res_some (s':=.word n ax 0 [b]) (by rw[vn,aA i])];have a:=Ks<|b::s;refine Ex i (λt e _=>⟨λ_ c=>?_,?_⟩)<|λt e _ _ c=>?_
  ·rw[e,c] at a;exact pC j t a
  ·unfold wW;rw[ak,ak,ak aB]
   ·intro c;rw[e,c] at a;exact pC f t a
   ·intro c;rw[e,c] at a;exact pC d t a
  ·rw[e,c] at a;exact pC g t a
def W0(n:Name)(p:Nat)(r:S)(l:n.e2=[])(k:bc bD r=Y):
  res (.wordGap n) p r=bindR (marked [1,2,4,5,6] p r) λ(q,p,r)=>pD n Y q p r:=by
 have go:∀b s,bD b=Y->res (.wordGap n) p (b::s)=res (.word n Y 0 [b]) (p+1) s:=λb s d=>
  res_some (by rw[Eo,aA d,e7 (by rw[l];rfl)])
 by_cases f:(telling 1).isPrefixOf r=Y
 ·rw[qF f];obtain⟨t,rfl⟩:=pF f;refine(go 99 (102::46::t) L).trans ?_;show res (.marked n Y 1) (p+1+1+1) t=_;rw[sS aB,fK];rfl
 rw[qE f];by_cases g:(telling 2).isPrefixOf r=Y
 ·rw[qF g];obtain⟨t,rfl⟩:=pF g;refine(go 97 (102::102::46::t) L).trans ?_;show res (.marked n Y 2) (p+1+1+1+1) t=_;rw[sS aB,fK];rfl
 rw[qE g];by_cases h:(telling 4).isPrefixOf r=Y
 ·rw[qF h];obtain⟨t,rfl⟩:=pF h;refine(go 115 (117::98::115::112::46::t) L).trans ?_;show res (.marked n Y 4) (p+1+1+1+1+1+1) t=_;rw[sS aB,fK];rfl
 rw[qE h];by_cases i:(telling 5).isPrefixOf r=Y
 ·rw[qF i];obtain⟨t,rfl⟩:=pF i;refine(go 118 (97::114::46::t) L).trans ?_;show res (.marked n Y 5) (p+1+1+1+1) t=_;rw[sS aB,fK];rfl
 rw[qE i];by_cases j:(telling 6).isPrefixOf r=Y
 ·rw[qF j];obtain⟨t,rfl⟩:=pF j;refine(go 102 (46::t) L).trans ?_;show res (.marked n Y 6) (p+1+1) t=_;rw[sS aB,fK];rfl
 rw[qE j];show _=pD n Y 0 p r;cases r with
 |nil=>cases k
 |cons b s=>
  have d:bD b=Y:=k;rw[go b s d];have a:=Ks<|b::s;refine Ex d (λt e _=>⟨(λz=>nomatch z),?_⟩) (λt e z _ _=>nomatch z);unfold wW;rw[ak,ak,aA L,ak,ak,ak]
  ·intro c;rw[e,c] at a;exact pC j t a
  ·intro c;rw[e,c] at a;exact pC i t a
  ·intro c;rw[e,c] at a;exact pC h t a
  ·intro c;rw[e,c] at a;exact pC g t a
  ·intro c;rw[e,c] at a;exact pC f t a
def Ey(a:b=45∨b=39)(c:w.length<39):next (.author n m w) b=O (.jointed n m<|w++[b]):=by
 rw[qD,ak,aA a,e7 (by simp[d9];omega)];intro h;have:=Kc h;omega
def Kv(a:eF b=Y)(c:w.length<40):next (.author n m w) b=O (.author n m<|w++[b]):=by
 rw[qD,aA a,e7 (by simp[d9];omega)]
def Aq(a:w.length<39∨m≠ .last):next (.author n m w) 32=O (.authorGap n m w):=by
 rw[qD,ak aB,ak aB,aA L,e7];rcases a with h|h
 ·rw[jH];right;simp[d9];omega
 ·rw[jH];left;simpa using h
def Kw(h:i3 a w (b::r)=Y):w.length<39/\iA b=Y/\(b=32->a=ax->bc b7 r=Y):=by
 unfold i3 at h;rw[bL,bO] at h;refine⟨h.1,?_,λd e=>?_⟩
 ·by_cases c:b=32/\a=ax
  ·rw[c.1];rfl
  ·rw[ak c] at h;exact h.2
 ·rw[aA ⟨d,e⟩] at h;exact h.2
def Kx(h:iA b=Y):b=32∨b=45∨b=39:=by
 unfold iA at h;simpa using h
def xH(n:Name)(m:lB):∀(k:Nat)(r w:S)(p:Nat),r.length<=k->res (.author n m w) p r=bindR (dU (m== .last) w p r) λ(w,p,r)=>res (.author n m w) p r
 |_,[],w,p,_=>by unfold dU;rfl
 |k,[b],w,p,_=>by
  unfold dU;by_cases h:eF b=Y/\w.length<40
  ·rw[aA h,res_some<|Kv h.1 h.2];rfl
  ·rw[ak h];by_cases g:i3 (m== .last) w [b]=Y
   ·rw[aA g];obtain⟨f,l,o⟩:=Kw g;rcases Kx l with rfl|d|d
    ·have q:(m== .last)=Y:=by
      cases e:(m== .last) with
      |true=>rfl
      |false=>exact absurd (o L e) (by simp[bc])
     rw[res_some (Aq<|.inl f),qC L];rfl
    ·rw[res_some (Ey (.inl d) f),qC L];rfl
    ·rw[res_some (Ey (.inr d) f),qC L];rfl
   ·rw[ak g];rfl
 |0,b::c::r,w,p,i=>by simp at i
 |k+1,b::c::r,w,p,i=>by
  unfold dU;by_cases h:eF b=Y/\w.length<40
  ·rw[aA h,res_some<|Kv h.1 h.2];exact xH n m k (c::r) (w++[b]) (p+1) (by simp at i⊢;omega)
  ·rw[ak h];by_cases g:i3 (m== .last) w (b::c::r)=Y
   ·rw[aA g];obtain⟨f,l,o⟩:=Kw g;have go:∀j,res (.author n m j) (p+2) r=bindR (dU (m== .last) j (p+2) r) λ(w,p,r)=>res (.author n m w) p r:=λj=>xH n m k r j (p+2) (by simp at i⊢;omega);rcases Kx l with rfl|d|d
    ·rw[res_some (Aq<|.inl f)];by_cases a:b7 c=Y
     ·rw[aA a,res_some (s':=.author n m<|w++[32,c])<|by rw[vo,aA a,e7 (by simp[d9];omega)]];exact go _
     ·rw[ak a];have q:(m== .last)=Y:=by
       cases e:(m== .last) with
       |true=>rfl
       |false=>exact absurd (o L e) a
      have s:m= .last:=by simpa using q
      rw[res_none]
      ·rfl
      ·rw[vo,ak a,s];split
       ·rfl
       ·rw[dc aT]
    all_goals
     rw[res_some (Ey (by first|exact .inl d|exact .inr d) f)];by_cases a:b7 c=Y
     ·rw[aA a,res_some (s':=.author n m<|w++[b]++[c])<|by rw[Er,e7 a],hX];exact go _
     ·rw[ak a,res_none<|by rw[Er,dc<|by simpa using a]];rfl
   ·rw[ak g];rfl
def sT(i:Bool):∀(k:Nat)(r w:S)(p:Nat)(a:S)(g:Nat)(f:S),r.length<=k->dU i w p r= .inr (a,g,f)->∀b s,f=b::s->(eF b=Y->40<=a.length)/\i3 i a (b::s)=ax
 |_,[],w,p,a,g,f,_,h,b,s,e=>by unfold dU at h;cases h;cases e
 |k,[c],w,p,a,g,f,_,h,b,s,e=>by
  unfold dU at h;split at h
  ·cases h;cases e
  ·split at h
   ·cases h
   ·rename_i l m;cases h;cases e;exact⟨λn=>HD λz=>l ⟨n,z⟩,by simpa using m⟩
 |0,c::d::r,w,p,a,g,f,j,h,b,s,e=>by simp at j
 |k+1,c::d::r,w,p,a,g,f,j,h,b,s,e=>by
  unfold dU at h;split at h
  ·exact sT i k (d::r) _ _ a g f (by simp at j⊢;omega) h b s e
  ·split at h
   ·split at h
    ·exact sT i k r _ _ a g f (by simp at j⊢;omega) h b s e
    ·cases h
   ·rename_i l m;cases h;cases e;exact⟨λn=>HD λz=>l ⟨n,z⟩,by simpa using m⟩
def kN(a:Int)(l:S):Int:=l.foldl (λ(a:Int)(b:Nat)=>a*10+((b:Int)-48)) a
def Ky(f:Nat->Bool):∀(n:Nat)(r:S),∀b∈span f n r,f b=Y
 |0,r,b,h=>by cases r<;>cases h
 |n+1,[],b,h=>by cases h
 |n+1,c::r,b,h=>by
  unfold span at h;split at h
  ·rename_i a;cases h with
   |head=>exact a
   |tail _ h=>exact Ky f n r b h
  ·cases h
def xJ:cx b=Y↔48<=b/\b<=57:=by unfold cx;simp
def Kz:∀(l:S)(a:Int),(∀b∈l,cx b=Y)->a*10^l.length<=kN a l/\kN a l<(a+1)*10^l.length
 |[],a,_=>by simp[kN];omega
 |b::l,a,h=>by
  have p:=xJ.mp<|h b<|dY ..;have d:=Kz l (a*10+((b:Int)-48)) λc i=>h c<|dS _ i;have e:kN a (b::l)=kN (a*10+((b:Int)-48)) l:=rfl;rw[e,bV,Int.pow_succ];have j:(0:Int)<10^l.length:=Int.pow_pos aB;generalize(10:Int)^l.length=P at d j⊢;generalize kN (a*10+((b:Int)-48)) l=N at d⊢;have k:(0:Int)<=((b:Int)-48)*P:=af1 aG aG;have m:(0:Int)<=(57-(b:Int))*P:=af1 aG aG;have n:a*(P*10)=a*10*P:=by rw[af2 P 10,<-af3]
  have o:(a+1)*(P*10)=a*10*P+10*P:=by rw[af2 P 10,<-af3,C5,C5];simp
  rw[n,o];have f:=d.1;have g:=d.2;rw[C5] at f;rw[C5,C5] at g;rw[Int.sub_mul] at f g k m;constructor
  ·omega
  ·have:(57:Int)*P-48*P=9*P:=by omega
   omega
def KA:∀(r:S)(n:Name)(k j p:Nat),k+j=4->res (.year n k) p r=res (.year {n with year:=kN n.year<|span cx j r} (k+(span cx j r).length)) (p+(span cx j r).length) (r.drop (span cx j r).length)
 |[],n,k,j,p,h=>by rw[Am];rfl
 |b::r,n,k,0,p,h=>by rfl
 |b::r,n,k,j+1,p,h=>by
  cases a:cx b with
  |false=>simp[span,a];rfl
  |true=>
   have e:next (.year n k) b=O (.year {n with year:=n.year*10+((b:Int)-48)} (k+1)):=by
    rw[vq,aA a,e7 (by simp;omega)]
   rw[res_some e,KA r _ (k+1) j (p+1) aG];simp only[span,a,gz,bV,rV];have c:k+1+(span cx j r).length=k+((span cx j r).length+1):=by omega
   have d:p+1+(span cx j r).length=p+((span cx j r).length+1):=by omega
   rw[c,d];rfl
def Ez(n:Name)(m:lB)(p:Nat)(r:S)(q:m≠ .more)(f:m= .last∨bc b7 r=ax):res (.commaGap n m) p r=bindR (mR p r) λ(y,p,r)=>res (.year {n with year:=y} 4) p r:=by
 unfold mR;cases r with
 |nil=>rfl
 |cons b s=>
  by_cases a:b=49∨b=50
  ·have g:bc (λb=>b==49||b==50) (b::s)=Y:=by simpa[bc] using a
   have l:cx b=Y:=xJ.mpr aG;have e:next (.commaGap n m) b=O (.year {n with year:=(b:Int)-48} 1):=by
    rw[vp,ak,e7]
    ·simp[q];exact a
    ·unfold b7;simp;omega
   rw[aA g,res_some e,KA s _ 1 3 (p+1) L];have u:bc (λb=>cx b&&b !=48) (b::s)=Y:=by
    show(cx b&&b !=48)=Y;rw[l];simp;omega
   have v:span cx 4 (b::s)=b::span cx 3 s:=by simp[span,l]
   have st:=sR cx 3 s;have D:=span_len cx 3 s;have i:=Kz (span cx 3 s) ((b:Int)-48)<|Ky cx 3 s;unfold number;rw[aA u,v];simp only[bindR,bV,rV];have w:numOf (b::span cx 3 s)=kN ((b:Int)-48) (span cx 3 s):=by
    unfold numOf kN;simp
   rw[w];generalize span cx 3 s=d at*;generalize E:s.drop d.length=x at*;have A:p+1+d.length=p+(d.length+1):=by omega
   rw[A];generalize p+(d.length+1)=H;generalize kN ((b:Int)-48) d=y at*;by_cases B:d.length=3
   ·rw[B] at i⊢;have:¬y<1000:=by
     have:=i.1;have C:(10:Int)^3=1000:=by decide
     rw[C] at this;rcases a with rfl|rfl<;>omega
    rw[ak this]
   ·have o:d.length<3:=by omega
    have:y<1000:=by
     have:=i.2;have j:d.length=0∨d.length=1∨d.length=2:=by omega
     rcases j with k|k|k<;>rw[k] at this<;>rcases a with rfl|rfl<;>simp at this<;>omega
    rw[aA this];cases x with
    |nil=>rw[qC];show(if _ then _ else _)=_;rw[ak];rintro⟨z,_⟩;omega
    |cons c t=>
     have j:=st c t L o;rw[res_none];rw[vq,ak (by rw[j];decide),dc];have:¬(1+d.length=4):=by omega
     simp[this]
  ·have g:¬bc (λb=>b==49||b==50) (b::s)=Y:=by simpa[bc] using a
   rw[ak g,res_none]
   ·rfl
   ·rw[vp];split
    ·rcases f with rfl|f
     ·rfl
     ·rename_i h;exact absurd h (by simpa[bc] using f)
    ·rw[dc];simp only[not_or] at a;simp[a.1,a.2]
def ka(n:Name)(p:Nat)(r:S):Nat⊕Name:=bindR (pass (aH ", ") p r) λ(p,r)=>bindR (mR p r) λ(y,p,r)=>res (.year {n with year:=y} 4) p r
def W2:pass (a::s) p (a::r)=pass s (p+1) r:=by simp[pass]
def W3(h:b≠a):pass (a::s) p (b::r)= .inl p:=by simp[pass,h]
def As(n:Name)(m:lB)(p:Nat)(r:S):res (.comma n m) p r=bindR (pass (aH " ") p r) λ(p,r)=>res (.commaGap n m) p r:=by
 cases r with
 |nil=>rfl
 |cons b s=>
  by_cases a:b=32
  ·subst a;rw[res_some (s':=.commaGap n m) L];rfl
  ·rw[res_none (by rw[Kj,dc<|by simp[a]])];simp[pass,aH,a,bindR]
def EA(a:Bool)(w:S)(b:Nat)(r:S):i3 a w (b::r)=(decide (w.length<39)&&(if b=32/\a=ax then bc b7 r else iA b)):=rfl
def W4(n:Name)(w:S)(p:Nat)(r:S)(hs:∀b s,r=b::s->(eF b=Y->40<=w.length)/\i3 Y w (b::s)=ax):
  res (.author n .last w) p r=ka {n with authors:=n.authors++[w]} p r:=by
 unfold ka;cases r with
 |nil=>rfl
 |cons b s=>
  obtain⟨e,a⟩:=hs b s L;by_cases d:b=44
  ·subst d;rw[res_some (s':=.comma {n with authors:=n.authors++[w]} .last) L,As];show _=bindR (pass (aH " ") (p+1) s) _;congr 1;funext x
   obtain⟨f,g⟩:=x;exact Ez _ .last f g aB (.inl L)
  ·have i:pass (aH ", ") p (b::s)= .inl p:=by simp[pass,aH,d]
   rw[i,res_none]
   ·rfl
   ·rw[qD];split
    ·rename_i h;rw[dc (by have:=e h;simp[d9];omega)]
    ·rw[EA,ak aT] at a;split
     ·rename_i h;have c:iA b=Y:=by unfold iA;rcases h with rfl|rfl<;>rfl
      rw[c,rW,hU] at a;rw[dc (by simp[d9];omega)]
     ·split
      ·rename_i h;subst h;have c:iA 32=Y:=rfl;rw[c,rW,hU] at a;rw[dc (by simp[d9];omega)]
      ·rfl
def W5(n:Name)(p:Nat)(r:S):res (.ampGap n) p r=bindR (author Y p r) λ(a,p,r)=>ka {n with authors:=n.authors++[a]} p r:=by
 cases r with
 |nil=>rfl
 |cons b s=>
  unfold author;by_cases c:b7 b=Y
  ·simp only[c,gz];rw[res_some (s':=.author n .last [b]) (by rw[Et,e7 c]),xH n .last s.length s [b] (p+1)<|bG _];have i:((HE==HE):Bool)=Y:=rfl;rw[i];cases e:dU Y [b] (p+1) s with
   |inl q=>rfl
   |inr x=>
    obtain⟨f,g,h⟩:=x;exact W4 n f g h<|sT Y s.length s [b] (p+1) f g h (bG _) e
  ·have d:b7 b=ax:=by simpa using c
   rw[res_none (by rw[Et,dc d])];simp[d,bindR]
def EB(n:Name)(m:lB)(e:m≠ .last)(w:S)(p:Nat)(s:S)(hs:i3 ax w (32::s)=ax)(i:m= .first->bc (λb=>b==101) s=ax):
  res (.author n m w) p (32::s)=bindR (pass (aH " & ") p<|32::s) λ(p,r)=>bindR (author Y p r) λ(a,p,r)=>ka {n with authors:=n.authors++[w]++[a]} p r:=by
 rw[res_some (Aq<|.inr e)];show _=bindR (pass (aH "& ") (p+1) s) _;cases s with
 |nil=>rfl
 |cons c t=>
  by_cases f:c=38
  ·subst f;rw[res_some (s':=.amp {n with authors:=n.authors++[w]}) (by rw[vo,ak aB,aA L,e7<|by simpa using e])];show _=bindR (pass (aH " ") (p+1+1) t) _;cases t with
   |nil=>rfl
   |cons d u=>
    by_cases g:d=32
    ·subst g;rw[res_some (s':=.ampGap {n with authors:=n.authors++[w]}) L,W5];rfl
    ·rw[res_none (by rw[Kh,dc<|by simp[g]])];simp[pass,aH,g,bindR]
  ·have j:pass (aH "& ") (p+1) (c::t)= .inl (p+1):=by simp[pass,aH,f]
   rw[j,res_none]
   ·rfl
   ·rw[vo];split
    ·rename_i h;rw[EA,aA ⟨L,L⟩] at hs;have:bc b7 (c::t)=Y:=h;rw[this,rW,hU] at hs;rw[dc (by simp[d9];omega)]
    ·first|rw[ak f]|skip
     rw[dc];cases m with
     |first=>
      have:=i L;have:¬c=101:=by simpa[bc] using this
      simp[this]
     |more=>simp
     |last=>exact absurd L e
def EC(n:Name)(m:lB)(g:m≠ .last)(w:S)(p b:Nat)(s:S)(c:eF b=Y->40<=w.length)(d:i3 ax w (b::s)=ax)(a:b≠32)(e:b=44->m= .more/\zm<n.authors.length+3):
  res (.author n m w) p (b::s)= .inl p:=by
 rw[res_none];rw[qD];split
 ·rename_i h;rw[dc (by have:=c h;simp[d9];omega)]
 ·split
  ·rename_i h;have f:iA b=Y:=by unfold iA;rcases h with rfl|rfl<;>rfl
   rw[EA,ak<|λz=>a z.1,f,rW,hU] at d;rw[dc (by simp[d9];omega)]
  ·first|rw[ak a]|skip
   split
   ·rename_i h;obtain⟨rfl,i⟩:=e h;rw[dc];simp;omega
   ·rfl
def KC(n:Name)(p:Nat)(r:S)(b:Nat)(s:S)(g:r=b::s)(i:b7 b=Y)(F:Name->Nat->S->Nat⊕Name)
  (h:∀w p r,(∀b s,r=b::s->(eF b=Y->40<=w.length)/\i3 ax w (b::s)=ax)->res (.author n .more w) p r=F {n with authors:=n.authors++[w]} p r):
  res (.author n .more [b]) (p+1) s=bindR (author ax p r) λ(a,p,r)=>F {n with authors:=n.authors++[a]} p r:=by
 subst g;unfold author;simp only[i,gz];rw[xH n .more s.length s [b] (p+1) (bG _)];have j:((lB.more==HE):Bool)=ax:=rfl;rw[j];cases e:dU ax [b] (p+1) s with
 |inl q=>rfl
 |inr x=>
  obtain⟨c,d,f⟩:=x;exact h c d f<|sT ax s.length s [b] (p+1) c d f (bG _) e
def W6(a:m= .more)(c:¬b7 b=Y):res (.commaGap n m) p (b::s)= .inl p:=by
 subst a;rw[res_none];rw[vp,ak c,dc aT]
def W7:∀(k:Nat)(n:Name)(w:S)(p:Nat)(r:S),n.authors.length+1+k=7->(∀b s,r=b::s->(eF b=Y->40<=w.length)/\i3 ax w (b::s)=ax)->
  res (.author n .more w) p r=bindR (others k {n with authors:=n.authors++[w]} p r) λ(n,p,r)=>ka n p r:=by
 intro k;induction k with
 |zero=>
  intro n w p r o g;unfold others;cases r with
  |nil=>rfl
  |cons b s=>
   obtain⟨h,d⟩:=g b s L;by_cases a:b=32
   ·subst a;rw[EB n .more aB w p s d (λz=>by cases z),fK];congr 1;funext x;obtain⟨i,j⟩:=x;simp only[fK];rfl
   ·rw[EC n .more aB w p b s h d a (λ_=>⟨L,by unfold zm;omega⟩)];have:pass (aH " & ") p (b::s)= .inl p:=by simp[pass,aH,a]
    rw[this];rfl
 |succ k q=>
  intro n w p r o g;unfold others;cases r with
  |nil=>rfl
  |cons b s=>
   obtain⟨h,d⟩:=g b s L;by_cases l:b=44
   ·subst l;have:bc (λb=>b==44) (44::s)=Y:=rfl;rw[aA this];have e:next (.author n .more w) 44=O (.comma {n with authors:=n.authors++[w]} .more):=by
     rw[qD,ak aB,ak aB,ak aB,aA L,e7];simp[zm];omega
    rw[res_some e,As,fK];show _=bindR (pass (aH " ") (p+1) s) _;congr 1;funext x;obtain⟨i,j⟩:=x;dsimp only;cases j with
    |nil=>rfl
    |cons c t=>
     by_cases f:b7 c=Y
     ·rw[res_some (s':=.author {n with authors:=n.authors++[w]} .more [c]) (by rw[vp,aA f];rfl)];rw[KC {n with authors:=n.authors++[w]} i (c::t) c t L f (λn p r=>bindR (others k n p r) λ(n,p,r)=>ka n p r)
       (λu v y m=>q {n with authors:=n.authors++[w]} u v y (by simp;omega) m)]
      simp only[fK]
     ·rw[W6 L f];simp[author,f,bindR]
   ·have:¬bc (λb=>b==44) (b::s)=Y:=by simpa[bc] using l
    rw[ak this];by_cases a:b=32
    ·subst a;rw[EB n .more aB w p s d (λz=>by cases z),fK];congr 1;funext x;obtain⟨i,j⟩:=x;simp only[fK];rfl
    ·rw[EC n .more aB w p b s h d a (λz=>absurd z l)];have:pass (aH " & ") p (b::s)= .inl p:=by simp[pass,aH,a]
     rw[this];rfl
def KD(n:Name):∀(s:S)(p:Nat)(r:S),res (.etal n s) p r=bindR (pass s p r) λ(p,r)=>res (.etal n []) p r
 |[],p,r=>rfl
 |c::s,p,[]=>rfl
 |c::s,p,b::r=>by
  by_cases a:b=c
  ·subst a;rw[res_some (s':=.etal n s) (by rw[Eu,e7 aT]),KD n s (p+1) r,W2]
  ·rw[res_none (by rw[Eu,dc<|by simp[a]]),W3 a];rfl
def W8(n:Name)(p:Nat)(r:S):res (.etal n []) p r=ka n p r:=by
 unfold ka;cases r with
 |nil=>rfl
 |cons b s=>
  by_cases a:b=44
  ·subst a;rw[res_some (s':=.comma n .last) L,As];show _=bindR (pass (aH " ") (p+1) s) _;congr 1;funext x;obtain⟨c,d⟩:=x;exact Ez _ .last c d aB (.inl L)
  ·rw[res_none (by rw[Ki,dc<|by simp[a]])];simp[pass,aH,a,bindR]
def W9(n:Name)(l:n.authors=[])(w:S)(p:Nat)(r:S)(hs:∀b s,r=b::s->(eF b=Y->40<=w.length)/\i3 ax w (b::s)=ax):
  res (.author n .first w) p r=bindR (if bc (λb=>b==32) r=Y/\bc (λb=>b==101) (r.drop 1)=Y then bindR (pass (aH " et al.") p r) λ(p,r)=>.inr ({n with authors:=n.authors++[w],etal:=1},p,r)
   else if bc (λb=>b==32) r=Y∨bc b7 (r.drop 2)=Y then others (7-(n.authors.length+1)) {n with authors:=n.authors++[w]} p r
   else .inr ({n with authors:=n.authors++[w]},p,r)) λ(n,p,r)=>ka n p r:=by
 have y:7-(n.authors.length+1)=5+1:=by rw[l];rfl
 rw[y];cases r with
 |nil=>rfl
 |cons b s=>
  obtain⟨A,m⟩:=hs b s L;by_cases i:b=32
  ·subst i;have f:bc (λb=>b==32) (32::s)=Y:=rfl;by_cases h:bc (λb=>b==101) s=Y
   ·rw[aA ⟨f,h⟩];cases s with
    |nil=>cases h
    |cons c t=>
     have:c=101:=by simpa[bc] using h
     subst this;rw[res_some (Aq<|.inr aB),res_some (s':=.etal {n with authors:=n.authors++[w],etal:=1} (aH "t al.")) (by rw[vo];rfl),KD];rw[fK];show _=bindR (pass (aH "t al.") (p+1+1) t) _;congr 1;funext x;obtain⟨o,q⟩:=x;exact W8 _ o q
   ·rw[ak (λz=>h z.2),aA<|.inl f];unfold others;rw[ak (by simp[bc]),EB n .first aB w p s m<|λ_=>by simpa using h,fK];congr 1;funext x;obtain⟨o,q⟩:=x;simp only[fK];rfl
  ·have f:¬bc (λb=>b==32) (b::s)=Y:=by simpa[bc] using i
   rw[ak (λz=>f z.1)];by_cases j:b=44
   ·subst j;have e:next (.author n .first w) 44=O (.comma {n with authors:=n.authors++[w]} .first):=by
     rw[qD,ak aB,ak aB,ak aB,aA L];rfl
    rw[res_some e,As];by_cases a:bc b7 ((44::s).drop 2)=Y
    ·rw[aA (.inr a)];unfold others;rw[aA (show bc (λb=>b==44) (44::s)=Y from L)];cases s with
     |nil=>cases a
     |cons d t=>
      by_cases g:d=32
      ·subst g;show res (.commaGap _ .first) (p+1+1) t=bindR (bindR (author ax (p+1+1) t) _) _;cases t with
       |nil=>cases a
       |cons c u=>
        have k:b7 c=Y:=a;rw[res_some (s':=.author {n with authors:=n.authors++[w]} .more [c]) (by rw[vp,aA k];rfl)];rw[KC {n with authors:=n.authors++[w]} (p+1+1) (c::u) c u L k (λn p r=>bindR (others 5 n p r) λ(n,p,r)=>ka n p r)
         (λB C D v=>W7 5 {n with authors:=n.authors++[w]} B C D (by simp[l]) v)]
        simp only[fK]
      ·have:pass (aH " ") (p+1) (d::t)= .inl (p+1):=by simp[pass,aH,g]
       rw[this];have:pass (aH ", ") p (44::d::t)= .inl (p+1):=by simp[pass,aH,g]
       rw[this];rfl
    ·rw[ak (λz=>z.elim f a),jQ];unfold ka;show _=bindR (pass (aH " ") (p+1) s) _;cases s with
     |nil=>rfl
     |cons d t=>
      by_cases g:d=32
      ·subst g;show res (.commaGap _ .first) (p+1+1) t=bindR (mR (p+1+1) t) _;exact Ez _ .first _ t aB (.inr<|by simpa using a)
      ·have:pass (aH " ") (p+1) (d::t)= .inl (p+1):=by simp[pass,aH,g]
       rw[this];rfl
   ·rw[EC n .first aB w p b s A m i (λz=>absurd z j)];by_cases a:bc b7 ((b::s).drop 2)=Y
    ·rw[aA (.inr a)];unfold others;rw[ak (by simpa[bc] using j)];have:pass (aH " & ") p (b::s)= .inl p:=by simp[pass,aH,i]
     rw[this];rfl
    ·rw[ak (λz=>z.elim f a),jQ];unfold ka;have:pass (aH ", ") p (b::s)= .inl p:=by simp[pass,aH,j]
     dsimp only;rw[this];rfl
def qG(n:Name)(p:Nat):S->Nat⊕Name
 |[]=>.inl p
 |b::r=>if b7 b=Y then res (.author n .first [b]) (p+1) r else .inl p
def KG(n:Name)(i:n.authors=[])(p:Nat)(r:S):qG n p r=bindR (gJ n p r) λ(n,p,r)=>res (.year n 4) p r:=by
 have e:(bindR (gJ n p r) λ(n,p,r)=>res (.year n 4) p r)=bindR (author ax p r) λ(a,p,r)=>
   bindR (if bc (λb=>b==32) r=Y/\bc (λb=>b==101) (r.drop 1)=Y then bindR (pass (aH " et al.") p r) λ(p,r)=>.inr ({n with authors:=n.authors++[a],etal:=1},p,r)
   else if bc (λb=>b==32) r=Y∨bc b7 (r.drop 2)=Y then others (7-(n.authors.length+1)) {n with authors:=n.authors++[a]} p r
   else .inr ({n with authors:=n.authors++[a]},p,r)) λ(n,p,r)=>ka n p r:=by
  unfold gJ;rw[fK];congr 1;funext x;obtain⟨a,p,r⟩:=x;dsimp only;rw[fK];congr 1;funext x;obtain⟨m,p,r⟩:=x;dsimp only;rw[fK];unfold ka;congr 1;funext x;obtain⟨p,r⟩:=x;dsimp only;rw[fK];rfl
 rw[e];cases r with
 |nil=>rfl
 |cons b s=>
  unfold qG author;by_cases c:b7 b=Y
  ·simp only[c,gz];rw[xH n .first s.length s [b] (p+1) (bG _)];have j:((lB.first==HE):Bool)=ax:=rfl;rw[j];cases e:dU ax [b] (p+1) s with
   |inl q=>rfl
   |inr x=>
    obtain⟨d,f,g⟩:=x;exact W9 n i d f g<|sT ax s.length s [b] (p+1) d f g (bG _) e
  ·have h:b7 b=ax:=by simpa using c
   simp[h,bindR]
def Xa(n:Name)(h:n.paren=0)(p:Nat)(r:S):res (.year n 4) p r=if r=[] then .inr n else .inl p:=by
 cases r with
 |nil=>rw[aA L,Al];show(if _ then _ else _)=_;rw[aA ⟨L,h⟩]
 |cons b s=>
  rw[ak aT,res_none];rw[vq];split
  ·rfl
  ·rw[dc (by rw[h];simp)]
def Xb(n:Name)(h:n.paren=1)(p:Nat)(r:S):res (.year n 4) p r=bindR (pass (aH ")") p r) λ(p,r)=>if r=[] then .inr n else .inl p:=by
 cases r with
 |nil=>
  rw[qC]
  ·rfl
  show(if _ then _ else _)=_;rw[ak (by rw[h];decide)]
 |cons b s=>
  by_cases a:b=41
  ·subst a;rw[res_some (s':=.done n) (by rw[vq,ak aB,e7 (by rw[h];rfl)])];show _=(if s=[] then qb n else mj (p+1));cases s with
   |nil=>rfl
   |cons c t=>rw[ak aT,res_none L]
  ·have:pass (aH ")") p (b::s)= .inl p:=by simp[pass,aH,a]
   rw[this,res_none]
   ·rfl
   ·rw[vq];split
    ·rfl
    ·rw[dc (by simp[a])]
def xK:∀(k:Nat)(n:Name)(p:Nat)(r:S)(m:Name)(b:Nat)(c:S),others k n p r= .inr (m,b,c)->m.paren=n.paren
 |0,n,p,r,m,b,c,h=>by
  unfold others at h;cases e:pass (aH " & ") p r with
  |inl q=>rw[e] at h;cases h
  |inr x=>
   rw[e,jQ] at h;dsimp only at h;cases a:author Y x.1 x.2 with
   |inl q=>rw[a] at h;cases h
   |inr y=>rw[a] at h;cases h;rfl
 |k+1,n,p,r,m,b,c,h=>by
  unfold others at h;split at h
  ·cases e:pass (aH ", ") p r with
   |inl q=>rw[e] at h;cases h
   |inr x=>
    rw[e,jQ] at h;dsimp only at h;cases a:author ax x.1 x.2 with
    |inl q=>rw[a] at h;cases h
    |inr y=>
     rw[a,jQ] at h;have:=xK k _ _ _ m b c h;exact this
  ·cases e:pass (aH " & ") p r with
   |inl q=>rw[e] at h;cases h
   |inr x=>
    rw[e,jQ] at h;dsimp only at h;cases a:author Y x.1 x.2 with
    |inl q=>rw[a] at h;cases h
    |inr y=>rw[a] at h;cases h;rfl
def vt(h:bindR x f= .inr b):∃a,x= .inr a/\f a= .inr b:=by
 cases x with
 |inl q=>cases h
 |inr a=>exact⟨a,L,h⟩
def Au(h:gJ n p r= .inr (m,d,e)):m.paren=n.paren:=by
 unfold gJ at h;obtain⟨⟨a,f,g⟩,_,h⟩:=vt h;dsimp only at h;obtain⟨⟨c,i,j⟩,b,h⟩:=vt h;dsimp only at h;obtain⟨⟨k,l⟩,_,h⟩:=vt h;dsimp only at h;obtain⟨⟨y,o,q⟩,_,h⟩:=vt h;cases h;show c.paren=n.paren;split at b
 ·obtain⟨⟨_,_⟩,_,b⟩:=vt b;cases b;rfl
 ·split at b
  ·exact(xK _ _ _ _ _ _ _ b).trans L
  ·cases b;rfl
def KH(n:Name)(a:n.authors=[])(b:n.paren=0)(p:Nat)(r:S):qG n p r=fin (gJ n p r):=by
 rw[KG n a];unfold fin;cases e:gJ n p r with
 |inl q=>rfl
 |inr x=>
  obtain⟨m,c,d⟩:=x;exact Xa m ((Au e).trans b) c d
def Xc(n:Name)(p:Nat)(r:S):res (.opened n) p r=qG n p r:=by
 cases r with
 |nil=>rfl
 |cons b s=>
  unfold qG;by_cases a:b7 b=Y
  ·simp only[a,gz];rw[res_some (by rw[Ep,e7 a])]
  ·simp only[a];rw[res_none (by rw[Ep,dc<|by simpa using a])];rfl
def Xd(n:Name)(a:n.authors=[])(b:n.paren=1)(p:Nat)(r:S):qG n p r=fin (bindR (gJ n p r) λ(n,p,r)=>bindR (pass (aH ")") p r) λ(p,r)=>.inr (n,p,r)):=by
 rw[KG n a];unfold fin;rw[fK];cases e:gJ n p r with
 |inl q=>rfl
 |inr x=>
  obtain⟨m,c,d⟩:=x;simp only[jQ,fK];exact Xb m ((Au e).trans b) c d
def KI(n:Name)(g:n.authors=[])(h:n.paren=0)(i:n.e1≠[])(p:Nat)(r:S)(a:n.e2≠[]∨¬bc bD r=Y):res (.wordGap n) p r=fin (gZ n p r):=by
 unfold gZ;cases r with
 |nil=>
  rw[ak (by simp[bc])];rfl
 |cons b s=>
  have c:next (.wordGap n) b=if b=40 then O (.opened {n with paren:=1}) else dz (b7 b) (.author n .first [b]):=by
   rw[Eo];by_cases d:bD b=Y
   ·have:=Ek d;rw[aA d,dc,ak aG,dc this.1];rcases a with a|a
    ·simpa using a
    ·exact absurd d a
   ·rw[ak d]
  by_cases f:b=40
  ·subst f;rw[aA ⟨L,i⟩,res_some<|c.trans<|aA L,Xc];exact Xd {n with paren:=1} g L (p+1) s
  ·rw[ak f] at c;rw[ak (λz=>f<|by simpa[bc] using z.1),<-KH n g h];unfold qG;by_cases e:b7 b=Y
   ·rw[res_some (c.trans<|e7 e)];simp[e]
   ·rw[res_none (c.trans<|dc<|by simpa using e)];simp[e]
def vv(x:Nat⊕α)(f:α->Rs Name):fin (bindR x f)=bindR x λa=>fin (f a):=by unfold fin;rw[fK]
def KJ(h:epithet p r= .inr (w,b,c)):w≠[]:=by
 unfold epithet at h;split at h
 ·cases h
 ·rename_i a;cases h;intro e;rw[e] at a;exact a<|.inl aB
def Xe(n:Name)(k:n.e2=[])(t:n.q2=0)(d:n.authors=[])(e:n.paren=0)(p:Nat)(r:S)(l:bc bD r=Y)(g:¬(aH "sp.").isPrefixOf r=Y):
  res (.gap n) p r=fin (epithets n p r):=by
 rw[WZ n p r l g];unfold epithets;rw[vv];congr 1;funext x;obtain⟨q,p,r⟩:=x;dsimp only;unfold pD;rw[vv];cases m:epithet p r with
 |inl i=>rfl
 |inr x=>
  obtain⟨w,p,r⟩:=x;have f:=KJ m;simp only[jQ];by_cases b:r=[]
  ·subst b;rfl
  ·rw[ak b,ak b,vv];congr 1;funext x;obtain⟨p,r⟩:=x;dsimp only;show res (.wordGap {n with e1:=w,q1:=q}) p r=_;by_cases a:bc bD r=Y
   ·rw[aA a,W0 {n with e1:=w,q1:=q} p r k a,vv];congr 1;funext x;obtain⟨o,p,r⟩:=x;dsimp only;unfold pD;rw[vv];cases h:epithet p r with
    |inl i=>rfl
    |inr x=>
     obtain⟨s,p,r⟩:=x;have j:=KJ h;simp only[jQ];by_cases c:r=[]
     ·subst c;rfl
     ·rw[ak c,ak c,vv];congr 1;funext x;obtain⟨p,r⟩:=x;exact KI {n with q1:=q,e1:=w,q2:=o,e2:=s} d e f p r<|.inl j
   ·rw[ak a];exact KI {n with q1:=q,e1:=w} d e f p r<|.inr a
def KN:∀(j:Nat)(r:S)(n:Name)(p:Nat),j<=3->(10:Int)^(3-j)<=n.num->n.num<10^(4-j)->
  res (.spNum n) p r=if r.drop (span cx j r).length=[] then .inr {n with num:=kN n.num<|span cx j r} else .inl (p+(span cx j r).length)
 |j,[],n,p,f,c,d=>by rw[Am];rfl
 |0,b::r,n,p,f,c,d=>by
  have e:span cx 0 (b::r)=[]:=rfl;rw[e,ak aT,res_none]
  ·rfl
  ·rw[Ao,dc];have:¬n.num<1000:=by simp at c;omega
   simp[this]
 |j+1,b::r,n,p,f,c,d=>by
  cases a:cx b with
  |false=>
   have e:span cx (j+1) (b::r)=[]:=by simp[span,a]
   rw[e,ak aT,res_none<|by rw[Ao,dc (by rw[a];rfl)]];rfl
  |true=>
   have k:=xJ.mp a;have e:span cx (j+1) (b::r)=b::span cx j r:=by simp[span,a]
   have g:n.num<1000:=by
    have:j=0∨j=1∨j=2:=by omega
    rcases this with rfl|rfl|rfl<;>simp at d<;>omega
   have h:(10:Int)^(3-j)<=n.num*10+((b:Int)-48):=by
    have:j=0∨j=1∨j=2:=by omega
    rcases this with rfl|rfl|rfl<;>simp at c⊢<;>omega
   have i:n.num*10+((b:Int)-48)<(10:Int)^(4-j):=by
    have:j=0∨j=1∨j=2:=by omega
    rcases this with rfl|rfl|rfl<;>simp at d⊢<;>omega
   rw[res_some (s':=.spNum {n with num:=n.num*10+((b:Int)-48)}) (by rw[Ao,e7 (by rw[a];simpa using g)]),KN j r _ (p+1) aG h i,e];simp only[bV,rV];have:p+1+(span cx j r).length=p+((span cx j r).length+1):=by omega
   rw[this];rfl
def Xf(n:Name)(p:Nat)(r:S)(h:(aH "sp.").isPrefixOf r=Y):res (.gap n) p r=fin (qB n p r):=by
 obtain⟨t,rfl⟩:=pF h;have e:qB n p (aH "sp."++t)=if bc (λb=>b==32) t=Y then bindR (number (p+3+1)<|t.drop 1) λ(k,p,r)=>.inr ({n with num:=k},p,r) else .inr ({n with num:=0},p+3,t):=rfl
 rw[e];show res (.sp {n with num:=0}) (p+3) t=_;generalize p+3=p;cases t with
 |nil=>rfl
 |cons b s=>
  by_cases d:b=32
  ·subst d;rw[aA (show bc (λb=>b==32) (32::s)=Y from L),res_some (s':=.spGap {n with num:=0}) L];show res (.spGap {n with num:=0}) (p+1) s=fin (bindR (number (p+1) s) _);generalize p+1=p;unfold number;cases s with
   |nil=>rfl
   |cons c u=>
    by_cases a:(cx c&&c !=48)=Y
    ·have f:bc (λb=>cx b&&b !=48) (c::u)=Y:=a;rw[aA f,res_some (s':=.spNum {n with num:=(c:Int)-48})<|by rw[En,e7 a]];rw[bL] at a;have l:=xJ.mp a.1;have j:c≠48:=by simpa using a.2
     rw[KN 3 u _ (p+1) (bG _) (by show(10:Int)^0<=(c:Int)-48;simp;omega) (by show(c:Int)-48<10^1;simp;omega)];have g:span cx 4 (c::u)=c::span cx 3 u:=by simp[span,a.1]
     have i:numOf (c::span cx 3 u)=kN ((c:Int)-48) (span cx 3 u):=by
      unfold numOf kN;simp
     rw[g,jQ,i];unfold fin;simp only[jQ,bV,rV];have:p+1+(span cx 3 u).length=p+((span cx 3 u).length+1):=by omega
     rw[this]
    ·have f:¬bc (λb=>cx b&&b !=48) (c::u)=Y:=a;rw[ak f,res_none<|by rw[En,dc<|by simpa using a]];rfl
  ·rw[ak (by simpa[bc] using d),res_none<|by rw[Kg,dc<|by simp[d]]];rfl
def KO(n:Name)(k:n.e1=[])(l:n.e2=[])(m:n.q2=0)(i:n.authors=[])(j:n.paren=0)(p:Nat)(r:S)(a:n.sub≠[]∨¬bc (λb=>b==40) r=Y):
  res (.gap n) p r=fin (rest n p r):=by
 unfold rest;by_cases d:(aH "sp.").isPrefixOf r=Y
 ·rw[aA d];exact Xf n p r d
 rw[ak d];by_cases f:bc bD r=Y
 ·rw[aA f];exact Xe n l m i j p r f d
 rw[ak f];cases r with
 |nil=>
  split
  ·unfold gZ;rw[ak (by simp[bc])];rfl
  ·rfl
 |cons b s=>
  have g:¬bD b=Y:=f;by_cases e:n.abbr=0
  ·rw[aA e];unfold gZ;rw[ak (λz=>z.2 k),<-KH n i j];unfold qG;by_cases c:b7 b=Y
   ·have:=Kb c;rw[res_some (s':=.author n .first [b]) (by rw[vn,ak g,ak aG,e7 (by rw[c,e];rfl)])];simp[c]
   ·rw[res_none]
    ·simp[c]
    ·rw[vn,ak g];split
     ·rename_i h;subst h;rw[dc];rcases a with a|a
      ·simpa using a
      ·exact absurd L a
     ·rw[dc (by simp[c])]
  ·rw[ak e,res_none]
   ·rfl
   ·rw[vn,ak g];split
    ·rename_i h;subst h;rw[dc];rcases a with a|a
     ·simpa using a
     ·exact absurd L a
    ·rw[dc (by simp[e])]
def Xg(n:Name)(p:Nat)(r:S):res (.subbed n) p r=if r=[]/\n.abbr=0 then .inr n else bindR (pass (aH " ") p r) λ(p,r)=>res (.gap n) p r:=by
 cases r with
 |nil=>
  by_cases h:n.abbr=0
  ·rw[aA ⟨L,h⟩,Al];show(if _ then _ else _)=_;rw[aA h]
  ·rw[ak (λz=>h z.2),qC]
   ·rfl
   ·show(if _ then _ else _)=_;rw[ak h]
 |cons b s=>
  rw[ak (λz=>by cases z.1)];by_cases a:b=32
  ·subst a;rw[res_some (s':=.gap n) L];rfl
  ·rw[res_none (by rw[Kf,dc<|by simp[a]])];simp[pass,aH,a,bindR]
def Xh(h:pB p r= .inr (w,b,d)):w≠[]:=by
 unfold pB at h;obtain⟨⟨f,g,i⟩,a,h⟩:=vt h;dsimp only at h;split at h
 ·cases h
 ·cases h;obtain⟨⟨c,s,e⟩,_⟩:=Km a;rw[e];simp
def KP(n:Name)(h:n.sub=[])(c:n.e1=[])(d:n.e2=[])(e:n.q2=0)(f:n.authors=[])(g:n.paren=0)(p:Nat)(r:S):
  res (.gap n) p r=if bc (λb=>b==40) r=Y then bindR (jP n p r) λ(n,p,r)=>if r=[]/\n.abbr=0 then .inr n else bindR (pass (aH " ") p r) λ(p,r)=>fin<|rest n p r
   else fin (rest n p r):=by
 by_cases a:bc (λb=>b==40) r=Y
 ·rw[aA a,WV n p r h a];unfold jP;simp only[fK];congr 1;funext x;obtain⟨p,r⟩:=x;dsimp only;cases i:pB p r with
  |inl q=>rfl
  |inr x=>
   obtain⟨w,p,r⟩:=x;have j:=Xh i;simp only[jQ];congr 1;funext x;obtain⟨p,r⟩:=x;dsimp only;rw[Xg];split
   ·rfl
   ·congr 1;funext x;obtain⟨p,r⟩:=x;exact KO {n with sub:=w} c d e f g p r<|.inl j
 ·rw[ak a];exact KO n c d e f g p r<|.inr a
def Xi(n:Name)(p:Nat)(r:S):res (.dot n) p r=bindR (pass (aH " ") p r) λ(p,r)=>res (.gap n) p r:=by
 cases r with
 |nil=>rfl
 |cons b s=>
  by_cases a:b=32
  ·subst a;rw[res_some (s':=.gap n) L];rfl
  ·rw[res_none (by rw[Ke,dc<|by simp[a]])];simp[pass,aH,a,bindR]
def vw(w:S):mB w=name w:=by
 rw[Ka,WU];unfold name headOf;rw[fK];cases j:jv 0 w with
 |inl q=>rfl
 |inr x=>
  obtain⟨w,p,r⟩:=x;obtain⟨⟨c,s,l⟩,k,d⟩:=Km j;simp only[jQ];by_cases a:bc (λb=>b==46) r=Y/\w.length<40
  ·rw[aA a];cases r with
   |nil=>cases a.1
   |cons b s=>
    have:b=46:=by simpa[bc] using a.1
    subst this;rw[res_some (s':=.dot {abbr:=1,head:=w}) (by rw[vm,ak aB,aA L,e7 (by have:=a.2;simp[d9];omega)]),Xi];simp only[jQ];rw[ak (λz=>by have:=z.2;simp at this)];show bindR (pass (aH " ") (p+1) s) _=bindR (pass (aH " ") (p+1) s) _;congr 1;funext x;obtain⟨p,r⟩:=x;exact KP {abbr:=1,head:=w} L L L L L L p r
  ·rw[ak a];by_cases f:w.length<2
   ·rw[aA f];cases r with
    |nil=>
     rw[qC];·rfl
     show(if _ then _ else _)=_;rw[ak aG]
    |cons b s=>
     rw[res_none]
     ·rfl
     ·have g:=d b s L aG;rw[vm,ak (by rw[g];decide),ak,dc (by simp;omega)];rintro rfl;exact a ⟨L,aG⟩
   ·rw[ak f,jQ];cases r with
    |nil=>
     rw[Al (n:={head:=w})]
     ·rfl
     ·show(if _ then _ else _)=_;rw[aA aG]
    |cons b s=>
     dsimp only;rw[ak (λz=>by cases z.1)];by_cases e:b=32
     ·subst e;rw[res_some (s':=.gap {head:=w}) (by rw[vm,ak aB,ak aB,e7 (by simp;omega)])];show _=(if _ then _ else _);exact KP {head:=w} L L L L L L (p+1) s
     ·have:pass (aH " ") p (b::s)= .inl p:=by simp[pass,aH,e]
      rw[this,res_none]
      ·rfl
      ·rw[vm];split
       ·rename_i h;rw[dc];have:=λz=>d b s L z;simp[d9];apply rX;intro z;rw[d b s L aG] at h;cases h
       ·split
        ·rename_i i;subst i;rw[dc];have:¬w.length<40:=λz=>a ⟨L,z⟩;simp[d9];omega
        ·rw[dc (by simp[e])]
def gK:S->Int
 |[]=>-1
 |b::_=>(b:Int)
def d5(lo a i:Int):Bool:=decide (lo<=i)&&decide (i<=a)
def xM(b:Nat):d5 97 122 (b:Int)=bD b:=by unfold d5 bD;congr 1<;>(apply cY.mpr;omega)
def pG(b:Nat):d5 65 90 (b:Int)=b7 b:=by unfold d5 b7;congr 1<;>(apply cY.mpr;omega)
def Xj(b:Nat):d5 48 57 (b:Int)=cx b:=by unfold d5 cx;congr 1<;>(apply cY.mpr;omega)
def xO(r:S):d5 97 122 (gK r)=bc bD r:=by cases r with|nil=>rfl|cons b s=>exact xM b
def ED(r:S):d5 65 90 (gK r)=bc b7 r:=by cases r with|nil=>rfl|cons b s=>exact pG b
def KQ(r:S):d5 48 57 (gK r)=bc cx r:=by cases r with|nil=>rfl|cons b s=>exact Xj b
def qH(k:Nat)(r:S):decide (gK r=(k:Int))=bc (λb=>b==k) r:=by
 cases r with
 |nil=>show decide ((-1:Int)=k)=ax;simp
 |cons b s=>show decide ((b:Int)=k)=(b==k);rw[fS];apply cY.mpr;omega
def Xk(r:S):(d5 97 122 (gK r)||d5 65 90 (gK r))=bc eF r:=by
 cases r with
 |nil=>rfl
 |cons b s=>show(d5 97 122 (b:Int)||d5 65 90 (b:Int))=eF b;rw[xM,pG];rfl
def Av(t:S):genusText t=(decide (2<=t.length/\t.length<=40)&&(bc b7 t&&(t.drop 1).all bD)):=by
 cases t with
 |nil=>rfl
 |cons c r=>
  show(b7 c&&(r.all bD&&(decide (1<=r.length)&&decide (r.length+1<=40))))=(decide (2<=r.length+1/\r.length+1<=40)&&(b7 c&&r.all bD));have e:decide (2<=r.length+1/\r.length+1<=40)=(decide (1<=r.length)&&decide (r.length+1<=40)):=by
   rw[zo];congr 1;apply cY.mpr;omega
  rw[e];cases b7 c<;>cases r.all bD<;>cases decide (1<=r.length)<;>cases decide (r.length+1<=40)<;>rfl
def Aw(t:S):HF t=(decide (1<=t.length/\t.length<40)&&(bc b7 t&&(t.drop 1).all bD)):=by
 cases t with
 |nil=>rfl
 |cons c r=>
  show(b7 c&&(r.all bD&&decide (r.length+2<=40)))=(decide (1<=r.length+1/\r.length+1<40)&&(b7 c&&r.all bD));have e:decide (1<=r.length+1/\r.length+1<40)=decide (r.length+2<=40):=by apply cY.mpr;omega
  rw[e];cases b7 c<;>cases r.all bD<;>cases decide (r.length+2<=40)<;>rfl
def KS(t:S):(t.all λb=>bD b||b==45)=(t.filter λb=>b !=45).all bD:=by
 induction t with
 |nil=>rfl
 |cons b r a=>
  rw[rP,a,oP];by_cases h:b=45
  ·subst h;simp
  ·have c:(b==45)=ax:=by simpa using h
   rw[aA (by simp[h]),rP,c,wL]
def mS(t:S):jI t=(decide (2<=t.length/\t.length<=40)&&(!(decide (t.head?=O 45)||(decide (t.getLast?=O 45)||decide (1<(t.filter λb=>b==45).length)))&&(t.filter λb=>b !=45).all bD)):=by
 unfold jI HC;rw[KS];have a:decide (2<=t.length/\t.length<=40)=(decide (2<=t.length)&&decide (t.length<=d9)):=by rw[zo];rfl
 have c:decide ((t.filter λb=>b==45).length<=1)=!decide (1<(t.filter λb=>b==45).length):=by
  rw[<-Cw];apply cY.mpr;omega
 rw[a,c];have d:(t.head? !=O 45)=!decide (t.head?=O 45):=by unfold bne;rw[fS]
 have e:(t.getLast? !=O 45)=!decide (t.getLast?=O 45):=by unfold bne;rw[fS]
 rw[d,e];cases decide (2<=t.length)<;>cases decide (t.length<=d9)<;>cases(t.filter λb=>b !=45).all bD<;>cases decide (1<(t.filter λb=>b==45).length)<;>cases decide (t.head?=O 45)<;>cases decide (t.getLast?=O 45)<;>rfl
def kO:Bool->S->Bool
 |need,[]=>!need
 |need,b::r=>if(need&&!great b)=Y then ax else if(!letter b&&!joint b)=Y then ax else kO (iA b) r
def KU(h:eF b=Y):iA b=ax:=(Kc h).1
def EE:∀r:S,kO ax r=HG r
 |[]=>rfl
 |[b]=>by
  unfold kO HG;rw[ux,ak aB];cases a:eF b with
  |true=>rw[KU a];rfl
  |false=>
   cases d:iA b<;>simp[kO]
 |b::c::r=>by
  unfold kO HG;rw[ux,ak aB];cases a:eF b with
  |true=>rw[KU a];simp[EE (c::r)]
  |false=>
   cases d:iA b with
   |false=>simp
   |true=>
    simp;rw[<-EE (c::r)];unfold kO;cases e:b7 c with
    |false=>simp
    |true=>simp
def Ax(t:S):uK t=(kO Y t&&decide (t.length<=40)):=by
 cases t with
 |nil=>rfl
 |cons c r=>
  show(b7 c&&(HG (c::r)&&decide (r.length+1<=40)))=(kO Y (c::r)&&decide (r.length+1<=40));rw[<-EE];unfold kO;cases a:b7 c with
  |false=>simp
  |true=>simp
def vx:∀a:S,i8 a a=ax
 |[]=>rfl
 |x::a=>by unfold i8;rw[vx a];simp
def EF:i8 (x::a) (y::b)=Y↔x<y∨(x=y/\i8 a b=Y):=by
 conv=>lhs;unfold i8
 simp
def Ay:∀{a b c:S},i8 a b=Y->i8 b c=Y->i8 a c=Y
 |_,[],_,h,_=>by unfold i8 at h;cases h
 |a,y::b,[],_,h=>by unfold i8 at h;cases h
 |[],y::b,z::c,_,_=>rfl
 |x::a,y::b,z::c,e,d=>by
  rw[EF] at e d⊢;rcases e with e|⟨rfl,e⟩
  ·rcases d with d|⟨rfl,d⟩
   ·left;omega
   ·left;exact e
  ·rcases d with d|⟨rfl,d⟩
   ·left;exact d
   ·right;exact⟨L,Ay e d⟩
def EG:∀{a b:S},a≠b->i8 a b=Y∨i8 b a=Y
 |[],[],h=>absurd L h
 |[],y::b,_=>.inl L
 |x::a,[],_=>.inr L
 |x::a,y::b,h=>by
  rw[EF,EF];by_cases e:x=y
  ·subst e;rcases EG (a:=a) (b:=b) (λz=>h<|by rw[z]) with h|h
   ·exact .inl<|.inr ⟨L,h⟩
   ·exact .inr<|.inr ⟨L,h⟩
  ·rcases Nat.lt_or_gt_of_ne e with h|h
   ·exact .inl<|.inl h
   ·exact .inr<|.inl h
def KW:∀{l m:List S},l.Pairwise (λa b=>i8 a b=Y)->m.Pairwise (λa b=>i8 a b=Y)->(∀x,x∈l↔x∈m)->l=m
 |[],[],_,_,_=>rfl
 |[],y::m,_,_,h=>absurd ((h y).mpr<|dY ..) aT
 |x::l,[],_,_,h=>absurd ((h x).mp<|dY ..) aT
 |x::l,y::m,d,f,h=>by
  rw[uL] at d f;have e:x=y:=by
   apply rX;intro g;rcases dN.mp ((h x).mp<|dY ..) with e|i
   ·exact g e
   ·rcases dN.mp ((h y).mpr<|dY ..) with e|j
    ·exact g e.symm
    ·have q:=Ay (f.1 x i)<|d.1 y j;rw[vx] at q;cases q
  subst e;have k:x∉l:=λz=>by have:=d.1 x z;rw[vx] at this;cases this
  have n:x∉m:=λz=>by have:=f.1 x z;rw[vx] at this;cases this
  rw[KW d.2 f.2 λz=>⟨λc=>?_,λc=>?_⟩]
  ·rcases dN.mp ((h z).mp<|dS _ c) with e|h
   ·subst e;exact absurd c k
   ·exact h
  ·rcases dN.mp ((h z).mpr<|dS _ c) with e|h
   ·subst e;exact absurd c n
   ·exact h
abbrev Tab:=List<|S×List Nat
def keys(l:Tab):List S:=l.map (·.1)
def jw(l:Tab)(e:S)(n:Nat):Tab:=if e∈keys l then l.map λx=>if x.1=e then(x.1,x.2++[n]) else x else l++[(e,[n])]
def look(l:Tab)(k:S):List Nat:=((l.find? λx=>decide (x.1=k)).map (·.2)).getD []
def iK(x:S×List Nat)(l:Tab)(k:S):look (x::l) k=if x.1=k then x.2 else look l k:=by
 unfold look;rw[ko];by_cases h:x.1=k<;>simp[h]
def vy(h:k∉keys l):look l k=[]:=by
 induction l with
 |nil=>rfl
 |cons x l a=>
  rw[iK,ak<|λe=>h (by rw[<-e];exact dY ..),a<|λz=>h<|dS _ z]
def kb(l:Tab):Prop:=(keys l).Pairwise λa b=>i8 a b=Y
def EH(w:S)(n:Nat):∀(l:Tab)(k:S),k∈keys (i9 w n l)↔k=w∨k∈keys l
 |[],k=>by simp[i9,keys]
 |x::r,k=>by
  unfold i9;by_cases h:x.1=w
  ·rw[aA h];simp only[keys,cM,dN];rw[h];constructor
   ·rintro(e|e);exact .inl e;exact .inr<|.inr e
   ·rintro(e|e|e);exact .inl e;exact .inl e;exact .inr e
  ·rw[ak h];by_cases a:i8 w x.1=Y
   ·rw[aA a];simp[keys]
   ·rw[ak a];have b:=EH w n r k;simp only[keys,cM,dN] at b⊢;rw[b];constructor
    ·rintro(e|e|e);exact .inr<|.inl e;exact .inl e;exact .inr<|.inr e
    ·rintro(e|e|e);exact .inr<|.inl e;exact .inl e;exact .inr<|.inr e
def KY(w:S)(n:Nat):∀l:Tab,kb l->kb (i9 w n l)
 |[],_=>by simp[i9,kb,keys]
 |x::r,h=>by
  unfold kb keys at h;rw[cM,uL] at h;unfold i9;by_cases b:x.1=w
  ·rw[aA b];unfold kb keys;rw[cM,uL];exact h
  ·rw[ak b];by_cases a:i8 w x.1=Y
   ·rw[aA a];unfold kb keys;rw[cM,cM,uL,uL];refine⟨λy c=>?_,h⟩;rcases dN.mp c with e|e
    ·rw[e];exact a
    ·exact Ay a<|h.1 y e
   ·rw[ak a];unfold kb keys;rw[cM,uL];refine⟨λy c=>?_,KY w n r h.2⟩;rcases(EH w n r y).mp c with e|e
    ·rw[e];rcases EG b with z|z
     ·exact z
     ·exact absurd z a
    ·exact h.1 y e
def KZ(w:S)(n:Nat):∀(l:Tab)(k:S),kb l->look (i9 w n l) k=if k=w then look l w++[n] else look l k
 |[],k,_=>by
  unfold i9;rw[iK];by_cases e:w=k
  ·rw[aA e,aA e.symm];rfl
  ·rw[ak e,ak<|λz=>e z.symm]
 |x::r,k,h=>by
  unfold kb keys at h;rw[cM,uL] at h;unfold i9;by_cases b:x.1=w
  ·rw[aA b,iK,iK,iK];by_cases a:k=w
   ·simp[b,a]
   ·have:¬x.1=k:=λe=>a<|e.symm.trans b;simp[a,this]
  ·rw[ak b];by_cases c:i8 w x.1=Y
   ·rw[aA c];have d:w∉keys (x::r):=λz=>by
     rcases dN.mp z with e|e
     ·exact b e.symm
     ·have:=Ay c<|h.1 w e;rw[vx] at this;cases this
    rw[iK,vy d];by_cases a:k=w
    ·rw[aA a.symm,aA a];rfl
    ·rw[ak (λe=>a e.symm),ak a]
   ·rw[ak c,iK,iK,KZ w n r k h.2];by_cases a:k=w
    ·subst a;rw[ak b,aA L,aA L,ak b]
    ·rw[ak a,ak a,iK]
def K0(l:Tab)(e:S)(n:Nat)(k:S):k∈keys (jw l e n)↔k=e∨k∈keys l:=by
 unfold jw;by_cases h:e∈keys l
 ·rw[aA h];have:keys (l.map λx=>if x.1=e then(x.1,x.2++[n]) else x)=keys l:=by
   unfold keys;rw[iB];refine uM λx _=>?_;dsimp only[Function.comp];split<;>rfl
  rw[this];constructor
  ·exact .inr
  ·rintro(rfl|z);exact h;exact z
 ·rw[ak h];simp[keys,or_comm]
def Xl(l:Tab)(e:S)(n:Nat)(k:S):look (l.map λx=>if x.1=e then(x.1,x.2++[n]) else x) k=if k=e/\e∈keys l then look l k++[n] else look l k:=by
 induction l with
 |nil=>simp[keys,look]
 |cons x l c=>
  rw[cM,iK,iK,c];by_cases b:x.1=e
  ·rw[aA b];by_cases a:x.1=k
   ·rw[aA a,aA a,aA ⟨a.symm.trans b,by rw[<-b];exact dY ..⟩]
   ·have:¬k=e:=λz=>a<|b.trans z.symm;simp[a,this]
  ·rw[ak b];by_cases a:x.1=k
   ·have:¬k=e:=λz=>b<|a.trans z;simp[a,this]
   ·rw[ak a,ak a];have:(e∈keys (x::l))↔e∈keys l:=by
     simp only[keys,cM,dN];exact⟨λz=>z.elim (λz=>absurd z.symm b) id,.inr⟩
    simp only[this]
def Xm(l:Tab)(e:S)(n:Nat)(k:S)(h:e∉keys l):look (l++[(e,[n])]) k=if k=e then[n] else look l k:=by
 induction l with
 |nil=>
  rw[TZ,iK];by_cases a:e=k
  ·rw[aA a,aA a.symm]
  ·rw[ak a,ak<|λz=>a z.symm]
 |cons x l b=>
  have c:¬x.1=e:=λz=>h (by rw[<-z];exact dY ..);rw[rS,iK,iK,b<|λz=>h<|dS _ z];by_cases a:x.1=k
  ·have:¬k=e:=λz=>c<|a.trans z;simp[a,this]
  ·simp[a]
def Az(l:Tab)(e:S)(n:Nat)(k:S):look (jw l e n) k=if k=e then look l e++[n] else look l k:=by
 unfold jw;by_cases h:e∈keys l
 ·rw[aA h,Xl];by_cases a:k=e
  ·subst a;simp[h]
  ·simp[a]
 ·rw[ak h,Xm l e n k h];by_cases a:k=e
  ·rw[aA a,aA a,vy h];rfl
  ·rw[ak a,ak a]
def Xn(c:kb l)(a:keys l=keys m)(f:∀k,look l k=look m k):l=m:=by
 induction l generalizing m with
 |nil=>
  cases m with
  |nil=>rfl
  |cons y m=>cases a
 |cons x l h=>
  cases m with
  |nil=>cases a
  |cons y m=>
   unfold keys at a;rw[cM,cM,wZ] at a;unfold kb keys at c;rw[cM,uL] at c;have i:x.2=y.2:=by
    have:=f x.1;rw[iK,iK,aA L,aA a.1.symm] at this;exact this
   have d:∀k∈keys l,¬x.1=k:=λk g e=>by have:=c.1 k g;rw[<-e,vx] at this;cases this
   have j:l=m:=h c.2 a.2 λk=>by
    by_cases b:k∈keys l
    ·have:=f k;rw[iK,iK,ak<|d k b,ak (by rw[<-a.1];exact d k b)] at this;exact this
    ·rw[vy b,vy (by show k∉keys m;unfold keys;rw[<-a.2];exact b)]
   rw[j];congr 1;exact Prod.ext a.1 i
def Xo(c:List (Nat×Name))(d:List S)(j:∀k,k∈d↔k∈keys (c.foldl (λl x=>jw l (f6 x.2) x.1) []))
  (p:d.Pairwise λa b=>i8 a b=Y):c.foldl (λl x=>i9 (f6 x.2) x.1 l) []=d.map λk=>(k,look (c.foldl (λl x=>jw l (f6 x.2) x.1) []) k):=by
 have o:∀(c:List (Nat×Name))(l m:Tab),kb l->(∀k,k∈keys l↔k∈keys m)->(∀k,look l k=look m k)->
   kb (c.foldl (λl x=>i9 (f6 x.2) x.1 l) l)/\(∀k,k∈keys (c.foldl (λl x=>i9 (f6 x.2) x.1 l) l)↔k∈keys (c.foldl (λl x=>jw l (f6 x.2) x.1) m))/\
   ∀k,look (c.foldl (λl x=>i9 (f6 x.2) x.1 l) l) k=look (c.foldl (λl x=>jw l (f6 x.2) x.1) m) k:=by
  intro c;induction c with
  |nil=>intro l m e g f;exact⟨e,g,f⟩
  |cons x c i=>
   intro l m e g f;refine i _ _ (KY _ _ l e) (λk=>?_) (λk=>?_)
   ·rw[EH,K0,g]
   ·rw[KZ _ _ l k e,Az,f,f]
 obtain⟨n,g2,q⟩:=o c [] [] (by simp[kb,keys]) (λk=>Iff.rfl)<|λk=>rfl;refine Xn n ?_ λk=>?_
 ·have:keys (d.map λk=>(k,look (c.foldl (λl x=>jw l (f6 x.2) x.1) []) k))=d:=by
   unfold keys;rw[iB];exact(uM<|λa _=>rfl).trans<|HH _
  rw[this];exact KW n p λx=>(g2 x).trans (j x).symm
 ·rw[q k];generalize c.foldl (λl x=>jw l (f6 x.2) x.1) []=T at*;have:∀(d:List S)(k:S),look (d.map λk=>(k,look T k)) k=if k∈d then look T k else[]:=by
   intro d k;induction d with
   |nil=>rfl
   |cons a d i=>
    rw[cM,iK,i];by_cases h:a=k
    ·subst h;simp
    ·have r:¬k=a:=λz=>h z.symm;simp[h,r]
  rw[this];by_cases h:k∈d
  ·rw[aA h]
  ·rw[ak h,vy<|λz=>h<|(j k).mpr z]
def AA:∀(l:List S)(x:S),x∈once l↔x∈l
 |[],x=>Iff.rfl
 |a::l,x=>by
  unfold once;rw[dN,dN,rF,AA l x];by_cases h:x=a<;>simp[h]
def K1:∀(l:List S)(x:S),once (l++[x])=if x∈l then once l else once l++[x]
 |[],x=>rfl
 |a::l,x=>by
  rw[rS];unfold once;rw[K1 l x];by_cases b:x∈l
  ·rw[aA b,aA<|dS _ b]
  ·rw[ak b,wV];by_cases c:x=a
   ·subst c;rw[aA (dY ..)];simp
   ·rw[ak (by simp[b,c])];have:([x].filter λy=>y !=a)=[x]:=by simp[c]
    rw[this];rfl
def K2(n:Nat):rE (n+1)=rE n++[n]:=T2
def upTo(l:List α)(p:α->Bool)(i:Nat):List Nat:=(rE i).filter λj=>(l[j]?).any p
def EI(h:l[i]?=O x):upTo l p (i+1)=upTo l p i++(if p x=Y then[i] else[]):=by
 unfold upTo;rw[K2,wV];congr 1;rw[oP,h];show(if(O x).any p=Y then _ else _)=_;simp only[Option.any_some,List.filter_nil]
def EJ(l:List α)(p:α->Bool):upTo l p l.length=f7 l p:=rfl
def K3(h:∀j<i,∀x,l[j]?=O x->p x=ax):upTo l p i=[]:=by
 unfold upTo;rw[List.filter_eq_nil_iff];intro j b;have a:j<i:=Cy.mp b;cases e:l[j]?with
 |none=>simp
 |some x=>simp[h j a x e]
def Xp(h:∀j<i,∀x,l[j]?=O x->p x=ax)(a:l[i]?=O x)(c:p x=Y):(f7 l p).head?=O i:=by
 have f:i<l.length:=(fC.mp a).1;rw[<-EJ];have:∀k,(upTo l p<|i+1+k).head?=O i:=by
  intro k;induction k with
  |zero=>
   rw[af4,EI a,K3 h,aA c];rfl
  |succ k b=>
   show(upTo l p<|i+1+k+1).head?=_;unfold upTo at b⊢;rw[K2,wV,List.head?_append,b];rfl
 have e:=this (l.length-(i+1));have d:i+1+(l.length-(i+1))=l.length:=by omega
 rw[d] at e;exact e
def EK(h:∀(j:Nat)(x:α),l[j]?=O x->p x=ax):f7 l p=[]:=by
 rw[<-EJ];exact K3 λj _ x e=>h j x e
def Xq(l:List α)(p:α->Bool):l.any p=(f7 l p).head?.isSome:=by
 cases e:l.any p with
 |false=>
  rw[EK];·rfl
  intro j x c;have:=aeZ.mp e x<|ei c;simpa using this
 |true=>
  obtain⟨x,c,g⟩:=T3.mp e;obtain⟨j,d⟩:=uN.mp c;cases h:(f7 l p).head? with
  |some _=>rfl
  |none=>
   have:f7 l p=[]:=by cases i:f7 l p with
    |nil=>rfl
    |cons a b=>rw[i] at h;cases h
   have f:j∈f7 l p:=by
    unfold f7;rw[rF];exact⟨Cy.mpr (fC.mp d).1,by rw[d];exact g⟩
   rw[this] at f;cases f
def Xr(h:(f7 l p).head?=O i):∃x,l[i]?=O x/\p x=Y:=by
 have a:i∈f7 l p:=List.mem_of_mem_head? (by rw[h];rfl);unfold f7 at a;rw[rF] at a;have b:=Cy.mp a.1;refine⟨l[i],gq b,?_⟩;have:=a.2;rw[gq b] at this;simpa using this
def K4{α:Type}{l:List α}{p:α->Bool}{i:Nat}{x:α}(h:∀j<i,∀y,l[j]?=O y->p y=ax)(a:l[i]?=O x)(b:p x=Y):l.findIdx p=i:=by
 obtain⟨f,e⟩:=fC.mp a;have:l.findIdx p<l.length:=List.findIdx_lt_length_of_exists ⟨x,ei a,b⟩;apply Nat.le_antisymm
 ·apply HD;intro q;have:=List.not_of_lt_findIdx q;rw[e,b] at this;cases this
 ·apply HD;intro q;have c:=List.findIdx_getElem (w:=this);have d:=h _ q _ (gq this);rw[d] at c;cases c
def K5(w t:S):ql w t=(decide (t.length<=w.length)&&(w.drop (w.length-t.length)==t)):=by
 unfold ql;rw[j0,List.isSuffixOf_iff_suffix,bL,bO,fB];constructor
 ·rintro⟨s,rfl⟩;refine⟨aT,?_⟩;have:(s++t).length-t.length=s.length:=by simp
  rw[this];simp
 ·rintro⟨b,a⟩;exact⟨w.take<|w.length-t.length,by
   conv=>lhs;arg 2;rw[<-a]
   exact List.take_append_drop _ _⟩
def sU(n:Name):Bool:=if n.abbr=0 then genusText n.head else decide (n.abbr=1)&&(HF n.head&&(decide (0<n.e1.length)||decide (0<=n.num)))
def vz(n:Name):Bool:=decide (n.sub.length=0)||genusText n.sub
def qI(n:Name):Bool:=if n.num=-1 then Y else(decide (0<=n.num)&&decide (n.num<=9999))&&(decide (n.e1.length=0)&&decide (n.authors.length=0))
def nW(q:Int)(ms:List Int)(e:S):Bool:=if e.length=0 then decide (q=0) else jI e&&(decide (q=0)||ms.contains q)
def qJ(n:Name):Bool:=if n.e1.length=0/\0<n.e2.length then ax else nW n.q1 [1,2,3] n.e1&&nW n.q2 [1,2,4,5,6] n.e2
def pH(as:List S)(etal a:Int):Bool:=decide (as.length=0)&&(decide (etal=0)&&decide (a=0))
def vA(as:List S):Bool:=(decide (1<=as.length)&&decide (as.length<=8))&&as.all uK
def nX(as:List S)(etal a:Int):Bool:=if vA as=ax then ax else if(¬(etal=0∨etal=1))∨(etal=1/\1<as.length) then ax else decide (1000<=a)&&decide (a<=2999)
def sV(n:Name):Bool:=if pH n.authors n.etal n.year=Y then decide (n.paren=0) else if(¬(n.paren=0∨n.paren=1))∨(n.paren=1/\n.e1.length=0) then ax else nX n.authors n.etal n.year
def len0(l:List α):l.length=0↔l=[]:=mC
def xP(l:List α):0<l.length↔l≠[]:=wY
def K6(q:Int):HI q=Y↔q=0∨q=1∨q=2∨q=3:=by unfold HI within;simp;omega
def K7(q:Int):HJ q=Y↔q=0∨q=1∨q=2∨q=4∨q=5∨q=6:=by unfold HJ within;simp;omega
def Xs(q:Int):([1,2,3]:List Int).contains q=Y↔q=1∨q=2∨q=3:=by simp
def Xt(q:Int):([1,2,4,5,6]:List Int).contains q=Y↔q=1∨q=2∨q=4∨q=5∨q=6:=by simp
def AB(q:Int)(e:S):nW q [1,2,3] e=Y↔(e=[]/\q=0)∨(e≠[]/\jI e=Y/\HI q=Y):=by
 unfold nW;rw[K6];by_cases h:e=[]
 ·subst h;simp
 ·have:¬e.length=0:=λz=>h<|(len0 e).mp z;rw[ak this,bL,jH,bO,Xs];simp[h]
def AD(q:Int)(e:S):nW q [1,2,4,5,6] e=Y↔(e=[]/\q=0)∨(e≠[]/\jI e=Y/\HJ q=Y):=by
 unfold nW;rw[K7];by_cases h:e=[]
 ·subst h;simp
 ·have:¬e.length=0:=λz=>h<|(len0 e).mp z;rw[ak this,bL,jH,bO,Xt];simp[h]
def vB(as:List S)(etal d:Int):nX as etal d=Y↔(as≠[]/\as.length<=8/\as.all uK=Y)/\(etal=0∨etal=1)/\(etal=0∨as.length=1)/\1000<=d/\d<=2999:=by
 unfold nX;have e:vA as=Y↔(as≠[]/\as.length<=8/\as.all uK=Y):=by
  unfold vA;rw[bL,bL,bO,bO,<-xP];constructor
  ·rintro⟨⟨a,b⟩,c⟩;exact⟨a,b,c⟩
  ·rintro⟨a,b,c⟩;exact⟨⟨a,b⟩,c⟩
 cases h:vA as with
 |false=>
  simp only[gz];constructor
  ·intro z;cases z
  ·rintro⟨z,_⟩;rw[e.mpr z] at h;cases h
 |true=>
  have f:=e.mp h;have j:=(xP as).mpr f.1;rw[ak aB];by_cases q:(¬(etal=0∨etal=1))∨(etal=1/\1<as.length)
  ·rw[aA q];constructor
   ·intro z;cases z
   ·rintro⟨_,b,c,_⟩;rcases q with q|q
    ·exact absurd b q
    ·omega
  ·rw[ak q];rw[not_or] at q;rw[bL,bO,bO];have g:etal=0∨etal=1:=af5.mp q.1;have i:etal=0∨as.length=1:=by
    rcases g with z|z
    ·exact .inl z
    ·right;have:=λy=>q.2 ⟨z,y⟩;omega
   constructor
   ·intro z;exact⟨f,g,i,z⟩
   ·intro z;exact z.2.2.2
def EL(n:Name):T4 n=Y↔(n.authors=[]/\n.paren=0/\n.etal=0/\n.year=0)∨(nX n.authors n.etal n.year=Y/\(n.paren=0∨n.paren=1)/\(n.paren=0∨n.e1≠[])):=by
 unfold T4;by_cases h:n.authors=[]
 ·rw[aA h];simp only[bL,fB];constructor
  ·rintro⟨a,b,c⟩;exact .inl ⟨h,a,b,c⟩
  ·rintro(⟨_,a,b,c⟩|⟨a,_⟩)
   ·exact⟨a,b,c⟩
   ·exact absurd h ((vB _ _ _).mp a).1.1
 ·rw[ak h];simp only[bL,jH,fB,bO,within,zm,bne_iff_ne];rw[vB];constructor
  ·rintro⟨a,b,c,d,e,f,g⟩;refine .inr ⟨⟨⟨h,df a,b⟩,aG,e,f⟩,aG,?_⟩;exact g
  ·rintro(⟨a,_⟩|⟨⟨⟨_,a,b⟩,c,d,e⟩,f,g⟩)
   ·exact absurd a h
   ·exact⟨eN a,b,aG,aG,d,e,g⟩
def K8(n:Name):sV n=T4 n:=by
 rw[j0,EL];unfold sV;have c:pH n.authors n.etal n.year=Y↔n.authors=[]/\n.etal=0/\n.year=0:=by
  unfold pH;simp only[bL,bO,len0]
 split
 ·rename_i h;have h:=c.mp h;rw[bO];constructor
  ·intro z;exact .inl ⟨h.1,z,h.2.1,h.2.2⟩
  ·rintro(z|⟨z,_⟩)
   ·exact z.2.1
   ·exact absurd h.1 ((vB _ _ _).mp z).1.1
 ·rename_i h;split
  ·rename_i q;constructor
   ·intro z;cases z
   ·rintro(z|⟨f,d,b⟩)
    ·exact absurd (c.mpr ⟨z.1,z.2.2.1,z.2.2.2⟩) h
    ·rcases q with q|q
     ·exact absurd d q
     ·rcases b with b|b
      ·omega
      ·exact absurd ((len0 _).mp q.2) b
  ·rename_i q;rw[not_or] at q;have a:n.paren=0∨n.paren=1:=af5.mp q.1;constructor
   ·intro z;refine .inr ⟨z,a,?_⟩;rcases a with a|a
    ·exact .inl a
    ·exact .inr λe=>q.2 ⟨a,(len0 _).mpr e⟩
   ·rintro(z|⟨z,_⟩)
    ·exact absurd (c.mpr ⟨z.1,z.2.2.1,z.2.2.2⟩) h
    ·exact z
def K9(n:Name):sound n=(sU n&&(vz n&&(qI n&&(qJ n&&sV n)))):=by
 unfold sound;rw[K8];have f:((n.abbr==0&&genusText n.head)||(n.abbr==1&&(HF n.head&&(n.e1 !=[]||decide (0<=n.num)))))=sU n:=by
  unfold sU;by_cases h:n.abbr=0
  ·rw[aA h,h];simp
  ·rw[ak h];have g:(n.abbr==0)=ax:=by simpa using h
   have i:(n.e1 !=[])=decide (0<n.e1.length):=by
    rw[j0,bne_iff_ne,bO,xP]
   rw[g,i,ux,afq,fS]
 have j:(n.sub==[]||genusText n.sub)=vz n:=by
  unfold vz;rw[fS];congr 1;apply cY.mpr;exact(len0 _).symm
 have k:(within n.num (-1) 9999&&(n.num==-1||(n.e1==[]&&n.authors==[])))=qI n:=by
  unfold qI within;rw[j0];split
  ·rename_i h;rw[h];simp
  ·rename_i h;simp only[bL,jH,bO,fB,len0];constructor
   ·rintro⟨⟨a,b⟩,c|c⟩
    ·exact absurd c h
    ·exact⟨⟨aG,b⟩,c⟩
   ·rintro⟨⟨a,b⟩,c⟩;exact⟨⟨aG,b⟩,.inr c⟩
 have l:((if n.e1=[] then n.q1==0&&n.e2==[] else jI n.e1&&HI n.q1)&&(if n.e2=[] then n.q2==0 else jI n.e2&&HJ n.q2))=qJ n:=by
  unfold qJ;rw[j0];by_cases e:n.e1=[]
  ·rw[aA e];by_cases d:n.e2=[]
   ·rw[aA d,ak (by rw[d];simp)];simp only[bL,AB,AD,fB,e,d];simp
   ·rw[ak d,aA ⟨(len0 _).mpr e,(xP _).mpr d⟩];simp[d]
  ·rw[ak e,ak (show¬(n.e1.length=0/\0<n.e2.length) fromλz=>e<|(len0 _).mp z.1)];by_cases d:n.e2=[]
   ·rw[aA d];simp only[bL,AB,AD,fB,e,d];simp[e]
   ·rw[ak d];simp only[bL,AB,AD,fB,e,d];simp[e,d]
 rw[f,j,k,<-T5 (if n.e1=[] then _ else _),l]
def La(first d etal:Int)(as:List S):citedAuthors first d etal as=if first=-1 then pH as etal d else nX as etal d:=by
 unfold citedAuthors;split
 ·unfold pH;rw[j0];simp only[bL,fB,bO,len0];constructor
  ·rintro⟨a,b,c⟩;exact⟨a,c,b⟩
  ·rintro⟨a,b,c⟩;exact⟨a,c,b⟩
 ·rw[j0,bL,EL,bne_iff_ne];constructor
  ·rintro⟨h,(z|z)⟩
   ·exact absurd z.1 h
   ·exact z.1
  ·intro z;exact⟨((vB _ _ _).mp z).1.1,.inr ⟨z,.inl L,.inl L⟩⟩
structure Good(n:Name):Prop where
 abbr:n.abbr=0∨n.abbr=1
 q1:0<=n.q1/\n.q1<=6
 q2:0<=n.q2/\n.q2<=6
 num:-1<=n.num/\n.num<=9999
 year:0<=n.year/\n.year<=9999
 head:n.head≠[]/\n.head.length<=40
 sub:n.sub.length<=40
 e1:n.e1.length<=40
 e2:n.e2.length<=40
 au:n.authors.length<=8
 kP:∀a∈n.authors,a.length<=40
def vC:lB->Nat
 |.first=>0
 |.more=>6
 |.last=>7
def EM:lB->Nat
 |.first=>1
 |.more=>6
 |.last=>8
def Gd:St->Prop
 |.start=>True
 |.head w=>w≠[]/\w.length<=40
 |.dot n=>Good n/\n.authors=[]
 |.gap n=>Good n/\n.authors=[]
 |.sub n w=>Good n/\n.authors=[]/\w.length<=40
 |.subbed n=>Good n/\n.authors=[]
 |.word n _ q w=>Good n/\n.authors=[]/\(0<=q/\q<=6)/\w.length<=40
 |.marked n _ q=>Good n/\n.authors=[]/\(0<=q/\q<=6)
 |.bare n _ q=>Good n/\n.authors=[]/\(0<=q/\q<=6)
 |.sp n=>Good n
 |.spGap n=>Good n
 |.spNum n=>Good n/\0<=n.num
 |.wordGap n=>Good n/\n.authors=[]
 |.opened n=>Good n/\n.authors=[]
 |.author n m w=>Good n/\n.authors.length<=vC m/\w.length<=40
 |.jointed n m w=>Good n/\n.authors.length<=vC m/\w.length+1<=40
 |.authorGap n m w=>Good n/\n.authors.length<=vC m/\w.length<=40
 |.amp n=>Good n/\n.authors.length<=7
 |.ampGap n=>Good n/\n.authors.length<=7
 |.etal n _=>Good n
 |.comma n m=>Good n/\n.authors.length<=EM m
 |.commaGap n m=>Good n/\n.authors.length<=EM m
 |.year n k=>Good n/\0<=n.year/\n.year<10^k/\k<=4
 |.done n=>Good n
def dW(h:dz c s=O t):c=Y/\t=s:=by
 unfold dz at h;split at h
 ·cases h;exact⟨by assumption,L⟩
 ·cases h
def Good.EN(g:Good n)(h:n.authors.length<=7)(b:w.length<=40):Good {n with authors:=n.authors++[w]}:=
 ⟨g.abbr,g.q1,g.q2,g.num,g.year,g.head,g.sub,g.e1,g.e2,by simp;omega,λa c=>by
  rcases lu.mp c with z|z
  ·exact g.kP a z
  ·rw[ja.mp z];exact b⟩
def Good.etal(g:Good n):Good {n with etal:=z}:=⟨g.abbr,g.q1,g.q2,g.num,g.year,g.head,g.sub,g.e1,g.e2,g.au,g.kP⟩
def Good.paren(g:Good n):Good {n with paren:=z}:=⟨g.abbr,g.q1,g.q2,g.num,g.year,g.head,g.sub,g.e1,g.e2,g.au,g.kP⟩
def Good.EO(g:Good n)(h:-1<=z/\z<=9999):Good {n with num:=z}:=⟨g.abbr,g.q1,g.q2,h,g.year,g.head,g.sub,g.e1,g.e2,g.au,g.kP⟩
def Good.Lb(g:Good n)(h:0<=z/\z<=9999):Good {n with year:=z}:=⟨g.abbr,g.q1,g.q2,g.num,h,g.head,g.sub,g.e1,g.e2,g.au,g.kP⟩
def Good.Xu(g:Good n)(h:z.length<=40):Good {n with sub:=z}:=⟨g.abbr,g.q1,g.q2,g.num,g.year,g.head,h,g.e1,g.e2,g.au,g.kP⟩
def Good.keep(g:Good n)(a:0<=q/\q<=6)(h:w.length<=40):Good (nI n s q w):=by
 unfold nI;split
 ·exact⟨g.abbr,g.q1,a,g.num,g.year,g.head,g.sub,g.e1,h,g.au,g.kP⟩
 ·exact⟨g.abbr,a,g.q2,g.num,g.year,g.head,g.sub,h,g.e2,g.au,g.kP⟩
def Xv(n:Name)(s:Bool)(q:Int)(w:S):(nI n s q w).authors=n.authors:=by unfold nI;split<;>rfl
def ER(h:cx b=Y):0<=(b:Int)-48/\(b:Int)-48<=9:=by have:=xJ.mp h;omega
def Xw(h:wW s w=O q):0<=q/\q<=6:=by
 unfold wW at h;repeat' split at h
 all_goals first|cases h|skip
 all_goals decide
def ES(b:w≠[])(c:w.length<=40)(z:Int)(hz:z=0∨z=1):Good {abbr:=z,head:=w}:=
 ⟨hz,(show(0:Int)<=0/\(0:Int)<=6 by decide),(show(0:Int)<=0/\(0:Int)<=6 by decide),(show(-1:Int)<=-1/\(-1:Int)<=9999 by decide),(show(0:Int)<=0/\(0:Int)<=9999 by decide),⟨b,c⟩,dD _,dD _,dD _,dD _,λa h=>by cases h⟩
def Xx(g:Gd s)(h:next s b=O t):Gd t:=by
 cases s with
 |start=>rw[WS] at h;obtain⟨_,rfl⟩:=dW h;exact⟨aT,aT⟩
 |head w=>
  rw[vm] at h;split at h
  ·obtain⟨c,rfl⟩:=dW h;simp[d9] at c;exact⟨aT,by simp;omega⟩
  ·split at h
   ·obtain⟨c,rfl⟩:=dW h;exact⟨ES g.1 g.2 1<|.inr L,L⟩
   ·obtain⟨c,rfl⟩:=dW h;exact⟨ES g.1 g.2 0<|.inl L,L⟩
 |dot n=>rw[Ke] at h;obtain⟨_,rfl⟩:=dW h;exact g
 |gap n=>
  rw[vn] at h;split at h
  ·cases h;exact⟨g.1,g.2,aB,aT⟩
  ·split at h
   ·obtain⟨_,rfl⟩:=dW h;exact⟨g.1,g.2,aT⟩
   ·obtain⟨_,rfl⟩:=dW h;exact⟨g.1,by rw[g.2];simp[vC],aT⟩
 |sub n w=>
  cases w with
  |nil=>rw[WT] at h;obtain⟨_,rfl⟩:=dW h;exact⟨g.1,g.2.1,aT⟩
  |cons c r=>
   rw[xG] at h;split at h
   ·obtain⟨q,rfl⟩:=dW h;simp[d9] at q;exact⟨g.1,g.2.1,by simp;omega⟩
   ·obtain⟨_,rfl⟩:=dW h;exact⟨g.1.Xu g.2.2,g.2.1⟩
 |subbed n=>rw[Kf] at h;obtain⟨_,rfl⟩:=dW h;exact g
 |word n f q w=>
  obtain⟨a,g2,d,i⟩:=g;rw[An] at h;split at h
  ·obtain⟨c,rfl⟩:=dW h;simp[d9] at c;exact⟨a,g2,d,by simp;omega⟩
  ·split at h
   ·obtain⟨c,rfl⟩:=dW h;rw[bL] at c;have:=c.2;simp[d9] at this;exact⟨a,g2,d,by simp;omega⟩
   ·split at h
    ·split at h
     ·cases h
     ·split at h
      ·cases h;exact a.EO aB
      ·obtain⟨p,l,rfl⟩:=rQ.mp h;exact⟨a,g2,Xw l⟩
    ·split at h
     ·split at h
      ·cases h;exact⟨a,g2,aB⟩
      ·obtain⟨_,rfl⟩:=dW h;exact⟨a.keep d i,by rw[Xv];exact g2⟩
     ·cases h
 |marked n f q=>rw[El] at h;obtain⟨_,rfl⟩:=dW h;exact g
 |bare n f q=>rw[Em] at h;obtain⟨_,rfl⟩:=dW h;exact⟨g.1,g.2.1,g.2.2,aT⟩
 |sp n=>rw[Kg] at h;obtain⟨_,rfl⟩:=dW h;exact g
 |spGap n=>
  rw[En] at h;obtain⟨c,rfl⟩:=dW h;rw[bL] at c;have:=ER c.1;exact⟨Good.EO g aG,by show(0:Int)<=(b:Int)-48;omega⟩
 |spNum n=>
  rw[Ao] at h;obtain⟨c,rfl⟩:=dW h;rw[bL,bO] at c;have:=ER c.1;have v:=g.2;exact⟨Good.EO g.1 aG,by show(0:Int)<=n.num*10+((b:Int)-48);omega⟩
 |wordGap n=>
  rw[Eo] at h;split at h
  ·obtain⟨_,rfl⟩:=dW h;exact⟨g.1,g.2,aB,aT⟩
  ·split at h
   ·cases h;exact⟨g.1.paren,g.2⟩
   ·obtain⟨_,rfl⟩:=dW h;exact⟨g.1,by rw[g.2];simp[vC],aT⟩
 |opened n=>rw[Ep] at h;obtain⟨_,rfl⟩:=dW h;exact⟨g.1,by rw[g.2];simp[vC],aT⟩
 |author n m w=>
  obtain⟨a,g2,d⟩:=g;have e:n.authors.length<=7:=eO g2 (by cases m<;>decide);rw[qD] at h;split at h
  ·obtain⟨c,rfl⟩:=dW h;simp[d9] at c;exact⟨a,g2,by simp;omega⟩
  ·split at h
   ·obtain⟨c,rfl⟩:=dW h;simp[d9] at c;exact⟨a,g2,by simp;omega⟩
   ·split at h
    ·obtain⟨c,rfl⟩:=dW h;exact⟨a,g2,d⟩
    ·split at h
     ·obtain⟨c,rfl⟩:=dW h;refine⟨a.EN e d,?_⟩;show(n.authors++[w]).length<=EM m;rw[aV,gR];cases m with
      |first=>exact T6 g2
      |more=>simp[zm] at c;show _<=6;omega
      |last=>exact T6 g2
     ·cases h
 |jointed n m w=>rw[Er] at h;obtain⟨_,rfl⟩:=dW h;exact⟨g.1,g.2.1,by have:=g.2.2;simp;omega⟩
 |authorGap n m w=>
  obtain⟨a,g2,d⟩:=g;have e:n.authors.length<=7:=eO g2 (by cases m<;>decide);rw[vo] at h;split at h
  ·obtain⟨c,rfl⟩:=dW h;simp[d9] at c;exact⟨a,g2,by simp;omega⟩
  ·split at h
   ·obtain⟨c,rfl⟩:=dW h;refine⟨a.EN e d,?_⟩;show(n.authors++[w]).length<=7;rw[aV,gR];cases m with
    |first=>exact Nat.succ_le_of_lt<|afW g2 aB
    |more=>exact T6 g2
    |last=>simp at c
   ·obtain⟨c,rfl⟩:=dW h;exact(a.EN e d).etal
 |amp n=>rw[Kh] at h;obtain⟨_,rfl⟩:=dW h;exact g
 |ampGap n=>rw[Et] at h;obtain⟨_,rfl⟩:=dW h;exact⟨g.1,g.2,aT⟩
 |etal n r=>
  cases r with
  |nil=>rw[Ki] at h;obtain⟨_,rfl⟩:=dW h;exact⟨g,Good.au g⟩
  |cons c r=>rw[Eu] at h;obtain⟨_,rfl⟩:=dW h;exact g
 |comma n m=>rw[Kj] at h;obtain⟨_,rfl⟩:=dW h;exact g
 |commaGap n m=>
  rw[vp] at h;split at h
  ·obtain⟨c,rfl⟩:=dW h;refine⟨g.1,eO g.2 ?_,aT⟩;cases m with
   |first=>decide
   |more=>decide
   |last=>simp at c
  ·obtain⟨c,rfl⟩:=dW h;rw[bL,jH,fB,fB] at c;have:(b:Int)-48=1∨(b:Int)-48=2:=by omega
   exact⟨g.1.Lb aG,by show(0:Int)<=(b:Int)-48;omega,by show(b:Int)-48<10^1;simp;omega,aB⟩
 |year n k=>
  obtain⟨a,g2,d,i⟩:=g;rw[vq] at h;split at h
  ·rename_i o;obtain⟨c,rfl⟩:=dW h;rw[bO] at c;have x:=ER o;have u:k=0∨k=1∨k=2∨k=3:=by omega
   have j:n.year*10+((b:Int)-48)<10^(k+1)/\n.year*10+((b:Int)-48)<=9999:=by
    rcases u with rfl|rfl|rfl|rfl<;>simp at d⊢<;>omega
   exact⟨a.Lb ⟨aG,j.2⟩,by show(0:Int)<=n.year*10+((b:Int)-48);omega,j.1,aG⟩
  ·obtain⟨c,rfl⟩:=dW h;exact a
 |done n=>cases h
def Xy(g:Gd s)(h:oR s=O n):Good n:=by
 cases s with
 |head w=>
  simp only[oR] at h;split at h
  ·cases h;exact ES g.1 g.2 0<|.inl L
  ·cases h
 |subbed n=>simp only[oR] at h;split at h<;>cases h;exact g.1
 |word n a q w=>simp only[oR] at h;split at h<;>cases h;exact g.1.keep g.2.2.1 g.2.2.2
 |sp n=>cases h;exact g
 |spNum n=>cases h;exact g.1
 |year n k=>simp only[oR] at h;split at h<;>cases h;exact g.1
 |done n=>cases h;exact g
 |_=>cases h
def Lc:∀(w:S)(s:Vbnlab.St)(p:Nat)(n:Name),Gd s->res s p w= .inr n->Good n
 |[],s,p,n,g,h=>by
  unfold res at h;cases e:oR s with
  |none=>rw[e] at h;cases h
  |some m=>rw[e] at h;cases h;exact Xy g e
 |b::r,s,p,n,g,h=>by
  unfold res at h;cases e:next s b with
  |none=>rw[e] at h;cases h
  |some t=>rw[e] at h;exact Lc r t (p+1) n (Xx g e) h
def vD(h:mB w= .inr n):Good n:=Lc w .start 0 n trivial (by rw[<-Ka];exact h)
end Nm
namespace Nr
open Nm (AA AB AD Av Aw Ax Az ED EG EI EJ EK EL J9 K0 K1 K4 K5 K6 K7 K8 K9 KQ KS La Xk Xo Xp Xq Xr bc d5 dI dU ft gJ gK gZ i3 jP jv kO mR mS nW nX pB pG pH qB qH qI qJ sU sV vA vB vD vw vy vz xM xO xP)
open PySem PySem.Spec PyProof.Rows L2
open PyProof.V (Flat)
structure Cn(mg:ao->Option aw)(x:ao)(v:V):Prop where
 ex:∃u,mg x=O u/\RelV v u
structure kQ(K:bj)(mg:ao->Option aw)(x:ao)(vs:List V):Prop where
 ex:∃a,mg x=O (.ref a)/\∀H,cO K H a vs
structure qK(K:bj)(mg:ao->Option aw)(x:ao)(D:List (ao×ao)):Prop where
 ex:∃a,mg x=O (.ref a)/\∀h:bC,K.In h->ahU h a (D.map λp=>(p.1,.flat<|.str p.2))
section
variable{X:Cx}{x:ao}{p:cK}
def cD(c:Cn X.mg x v)(a:Gl X x:=by rfl)(b:(x==("__debug__":ao))=ax:=by decide):PE X (.Name x p) (tC v):=by
 obtain⟨u,m,r⟩:=c.ex;exact uZ a m r b
def xQ(K:bj)(vs:List V):TE:=λ_ H Q=>∀a,(∀b,cO K b a vs)->Q (.ref a) H
def kR(c:kQ X.K X.mg x vs)(d:Gl X x:=by rfl)(e:(x==("__debug__":ao))=ax:=by decide):PE X (.Name x p) (xQ X.K vs):=by
 obtain⟨a,m,r⟩:=c.ex;intro b s U H Q I h;exact uZ (v:=.ref a) d m L e b s U H Q I<|h a r
def Ld(m:X.mg x=O (.ref f))(a:Gl X x:=by rfl)(b:(x==("__debug__":ao))=ax:=by decide):PE X (.Name x p) (tC<|.ref f):=uZ a m L b
end
def jk(k:ao)(D:List (ao×ao)):Option ao:=T7 k D
def xR(k:ao):∀D:List (ao×ao),T7 k (D.map λp=>(p.1,T8<|.str p.2))=(jk k D).map λv=>T8<|.str v
 |[]=>rfl
 |(y,v)::D=>by
  have a:=xR k D;show(if decide (k=y)=Y then _ else _)=TR _ (if decide (k=y)=Y then O v else jk k D);by_cases h:k=y
  ·rw[aA (eN h),aA<|eN h];rfl
  ·rw[ak (by simp[h]),ak<|by simp[h]];exact a
section
variable{X:Cx}{x:ao}{p pos apos cpos:cK}{e f:bF}{te tf:TE}{D:List (ao×ao)}
def qK.here{K:bj}{b:ao->Option aw}(c:qK K b x D):∃a,b x=O (.ref a)/\∀h:bC,K.In h->ahV h h a (D.map λp=>(p.1,.flat<|.str p.2)):=by
 obtain⟨a,m,t⟩:=c.ex;exact⟨a,m,λh k=>⟨t h k,λ_ _ q=>q⟩⟩
def Le(a:TE)(D:List (ao×ao)):TE:=λU H Q=>a U H λy b=>∃k,y= .str k/\Q (.bl (jk k D).isSome) b
def Xz(a:TE)(D:List (ao×ao)):TE:=λU H Q=>a U H λy b=>∃k v,y= .str k/\jk k D=O v/\Q (.str v) b
def XA(a b:TE)(D:List (ao×ao)):TE:=λU H Q=>a U H λy c=>b U c λz g=>∃k d,y= .str k/\z= .str d/\Q (.str<|(jk k D).getD d) g
def XB(c:qK X.K X.mg x D)(j:PE X e te)(l:Gl X x:=by rfl)(n:(x==("__debug__":ao))=ax:=by decide):
  PC X .In e (.Name x p) (Le te D):=by
 obtain⟨a,m,t⟩:=c.here;intro d s U H Q I h;refine bu (j d s U H _ I h) λM o ⟨y,g,q,r,k,w,z⟩=>bu (uZ (v:=.ref a) l m L n d o U g (λv b=>v= .ref a/\b=g) q ⟨L,L⟩) λu A ⟨v,b,i,B,C,E⟩=>?_;subst w C E;obtain⟨N,rfl⟩:=r;obtain rfl:u=dC a:=B;refine ahW (h₀:=A.heap) (t _ i.eV) ⟨.bl (jk k D).isSome,b,i.tok _,?_,z⟩;show _=wu _;rw[<-ahX,xR,Hu]
def XD(c:qK X.K X.mg x D)(n:PE X e te)(hs:D5 e)(o:Gl X x:=by rfl)(q:(x==("__debug__":ao))=ax:=by decide):
  PE X (.Subscript (.Name x p) e pos) (Xz te D):=by
 obtain⟨a,m,t⟩:=c.here;intro d s U H ag aa ab;refine JD Hv.lookup hs<|bu (uZ (v:=.ref a) o m L q d s U H (λv b=>v= .ref a/\b=H) aa ⟨L,L⟩) λae r ⟨v,H1,u,w,y,A⟩=>bu (n d r U H _ (A▸u) ab) λiv B ⟨ah,b,h,C,k,z,E,I,M⟩=>?_;subst E y;obtain⟨N,rfl⟩:=C;obtain rfl:ae=dC a:=w;have g:T7 k (D.map λp=>(p.1,T8<|.str p.2))=O (.flat<|.str z):=by rw[xR,I];rfl
 have T:=t _ h.eV;refine⟨T.typeIs,?_⟩;unfold wK;try with_reducible refine CZ ?_
 refine bt<|wpAny_sequenceKey T.typeIs aB ?_;refine bt (Hw (name:=nF "__getitem__") T.typeIs Hv
  (CU Hv T.typeIs PySem.F.entry_dict_getitem ?_<|PySem.F.args_dict_getitem_2 _ _))
 show wpAny _ _ (dictGet a (.str k N)>>=_) _ _ B;refine bt<|ahY T (λaq v i Q=>?_) λj=>?_
 ·rw[g] at i;cases i;have l:Flat v (.str z):=Q;obtain⟨t2,rfl⟩:=l.str_inv;exact cu ⟨_,L,cu ⟨.str z,b,h.tok _,⟨_,L⟩,M⟩⟩
 ·rw[g] at j;cases j
def XE(c:qK X.K X.mg x D)(s:PE X e te)(u:PE X f tf)(m:M2 X (.Name x p) "get" apos e f cpos)(w:Gl X x:=by rfl)(y:(x==("__debug__":ao))=ax:=by decide):
  PE X (.Call (.Attribute (.Name x p) "get" apos) [e,f] [] cpos) (XA te tf D):=by
 obtain⟨a,A,t⟩:=c.here;intro g aa U H ar ab ae;refine Tx m.base m.D6 m.line Tz CT afs<|bu (uZ (v:=.ref a) w A L y g aa U H (λv h=>v= .ref a/\h=H) ab ⟨L,L⟩) λag B ⟨v,C,l,E,I,M⟩=>?_;subst I M;obtain rfl:ag=dC a:=E;have n:=t _ l.eV;refine⟨n.typeIs,n.noDict,?_⟩;rw[m.trees];refine CN L (Hh (wH (bu (s g B U C _ l ae) λiv N ⟨au,h,Q,ry,q2⟩=>
  wH (bu (u g N U h _ Q q2) λfv s3 ⟨z,o,i,rz,k,ah,ey,b,d⟩=>He ?_))))
 subst ey b;obtain⟨tk,rfl⟩:=ry;obtain⟨td,rfl⟩:=rz;have T:=t _ i.eV;refine CS CT T.typeIs Tv (Tw _ _ _) (ahZ (h₀:=s3.heap) (D:=D.map λp=>(p.1,.flat<|.str p.2))) ⟨T,λd' v q hv=>?_,λj=>?_⟩
 ·rw[xR] at q;obtain⟨z,b,e2⟩:=rQ.mp q;subst e2;have r:Flat v (.str z):=hv;obtain⟨t2,rfl⟩:=r.str_inv;exact⟨.str z,o,i.tok _,⟨_,L⟩,by rw[b] at d;exact d⟩
 ·rw[xR] at j;have b:jk k D=ai:=by
   cases aq:jk k D with
   |none=>rfl
   |some z=>rw[aq] at j;cases j
  exact⟨.str ah,o,i.tok _,⟨_,L⟩,by rw[b] at d;exact d⟩
end
structure ke(K:bj)(C:af)(qual:ao)(st:eT)(ps:List ao):Prop where
 ex:∃f fd,gH K "__init__" qual st f fd/\Mk K C f/\Binds K fd ps []
structure Mt(K:bj)(C:af)(m qual:ao)(st:eT)(ps:List ao):Prop where
 ex:∃f fd,gH K m qual st f fd/\Meth K C m f/\Binds K fd ps []
structure vE(P:cf)(w:bR)(K:bj)(mg:ao->Option aw)(base:bC)(k:Nat)(C:af)(ps:List ao)(sp:Sp):Prop where
 ex:∃f fd,dH P w K mg base (cX P w) k f fd ps sp/\Mk K C f/\Binds K fd ps []
structure AE(P:cf)(w:bR)(K:bj)(mg:ao->Option aw)(base:bC)(k:Nat)(C:af)(m:ao)(ps:List ao)(sp:Sp):Prop where
 ex:∃f fd,dH P w K mg base (cX P w) k f fd ps sp/\Meth K C m f/\Binds K fd ps []
section
variable{P:cf}{w:bR}{K:bj}{mg:ao->Option aw}{base:bC}{k:Nat}{C:af}{m qual:ao}{st:eT}{ps:List ao}{sp:Sp}
def ke.aU(F:ke K C qual st ps)(h:∀f a,gH K "__init__" qual st f a->dH P ww K mg base (cX P ww) k f a ps sp):vE P ww K mg base k C ps sp:=by
 obtain⟨f,a,c,mk,b⟩:=F.ex;exact⟨f,a,h f a c,mk,b⟩
def Mt.aU(F:Mt K C m qual st ps)(h:∀f a,gH K m qual st f a->dH P ww K mg base (cX P ww) k f a ps sp):AE P ww K mg base k C m ps sp:=by
 obtain⟨f,a,c,mk,b⟩:=F.ex;exact⟨f,a,h f a c,mk,b⟩
end
section
variable{X:Cx}{k:Nat}{C:af}{x m:ao}{ps:List ao}{sp:Sp}{E:XK}{p pos apos:cK}{e o:bF}{es:List bF}{ta:TE}{t:TA}
def XF(c:vE X.prog X.w X.K X.mg X.base k C ps sp)(g:X.mg x=O (.ref C))(h:cZ (k+1) X.A)(i:Passes (cX X.prog X.w) X E)(j:PA X (e::es) t)(l:Gl X x:=by rfl)(a:(x==("__debug__":ao))=ax:=by decide)
  (n:bS (e::es) X.env=(ax,eval e X.env)::bS es X.env:=by rfl)(d:(eP pos<|bS es X.env).any (·.1)=ax:=by rfl):PE X (.Call (.Name x p) (e::es) [] pos) (iZ C sp [] E t):=by
 obtain⟨f,q,F,mk,b⟩:=c.ex;exact Vm mk F h l g b .nil i j a n d
def XG(c:vE X.prog X.w X.K X.mg X.base k C ps sp)(d:X.mg x=O (.ref C))(g:cZ (k+1) X.A)(h:Passes (cX X.prog X.w) X E)(i:Gl X x:=by rfl)(a:(x==("__debug__":ao))=ax:=by decide):
  PE X (.Call (.Name x p) [] [] pos) (iZ C sp [] E aW):=by
 obtain⟨f,j,F,mk,b⟩:=c.ex;exact Vn mk F g i d b .nil h a
def jx(c:AE X.prog X.w X.K X.mg X.base k C m ps sp)(cl:fg X.K C)(h:PE X o ta)(i:cZ k X.A)(j:Passes (cX X.prog X.w) X E)(l:PA X (e::es) t)
  (d:bS (e::es) X.env=(ax,eval e X.env)::bS es X.env:=by rfl)(g:(eP pos<|bS es X.env).any (·.1)=ax:=by rfl)
  (n:eval (.Call (.Attribute o m apos) (e::es) [] pos) X.env=(do
   let a<-eval o X.env
   uv apos.atName
   let(f,first)<-uw [a] (rK a m pl)
   uz pos f first (eP pos<|bS (e::es) X.env) (qg pos<|qi [] X.env)):=by rfl):
  PE X (.Call (.Attribute o m apos) (e::es) [] pos) (gX C m sp [] E ta t):=by
 obtain⟨f,r,F,q,b⟩:=c.ex;exact Vk h cl q F i b .nil j l d g n
def dE(c:AE X.prog X.w X.K X.mg X.base k C m ps sp)(cl:fg X.K C)(d:PE X o ta)(g:cZ k X.A)(h:Passes (cX X.prog X.w) X E)
  (i:eval (.Call (.Attribute o m apos) [] [] pos) X.env=(do
   let a<-eval o X.env
   uv apos.atName
   let(f,first)<-uw [a] (rK a m pl)
   uz pos f first (eP pos<|bS [] X.env) (qg pos<|qi [] X.env)):=by rfl):
  PE X (.Call (.Attribute o m apos) [] [] pos) (gX C m sp [] E ta aW):=by
 obtain⟨f,l,F,j,b⟩:=c.ex;exact Vl d cl j F g b .nil h i
def Lf{i:Nat}(n:X.N[i]?=O x)(q:su X.env.scope x)(r:Passes (cX X.prog X.w) X E)(s:PA X (e::es) t)(g:(x==("__debug__":ao))=ax:=by decide)(j:(x==("__classdict__":ao))=ax:=by decide)
  (u:bS (e::es) X.env=(ax,eval e X.env)::bS es X.env:=by rfl)(l:(eP pos<|bS es X.env).any (·.1)=ax:=by rfl):
  PE X (.Call (.Name x p) (e::es) [] pos) (λU H Q=>∃f k a ps sp,U[i]?=O (O<|.ref f)/\dH X.prog X.w X.K X.mg X.base (cX X.prog X.w) k f a ps sp/\cZ k X.A/\nB X.K (.ref f)=Y/\Binds X.K a ps []/\
   t U H λvs c=>sp (vs++[]) c Q E):=by
 intro b aa U H Q I h;obtain⟨f,k,a,ps,sp,w,F,y,z,A,h⟩:=h;refine uB<|bu (Io n q g j b aa U H (λv B=>v= .ref f/\B=H) I ⟨_,w,L,L⟩) λab D ⟨v,M,N,T,ev,eH⟩=>?_;subst ev eH;obtain rfl:ab=dC f:=T;refine zc (h₀:=X.base) I.ok.mod.oY z (bu (s pos b D U M _ N h) λus s1 ⟨vs,c,d,ae,ag⟩=>⟨d.eV,?_⟩) u l;exact zZ F y A .nil r d ae ag
end
def top(i:Nat):eT:=ah0.main.body.getD i<|.Pass ⟨0,0,0,0⟩
def AF:List (List ao):=[["","",""],["us","a","um"],["er","ra","rum"],["er","era","erum"],["is","is","e"],["er","ris","re"],["or","or","us"],["os","e","on"]]
abbrev qL:List aw:=[.type "ValueError",.type "Exception",.type "BaseException",.type "object"]
structure Cs where
 Epithet:af
 Genus:af
 Name:af
 jm:af
 jR:af
 gf:af
 iL:af
 Paper:af
 jn:af
 fE:af
 g0:af
 xI:af
 xN:af
structure Txt(K:bj)(mg:ao->Option aw)(cs:Cs):Prop where
 XH:Cn mg "LINE_END" (.int 10)
 xS:Cn mg "BLANK" (.int 32)
 XI:Cn mg "APOSTROPHE" (.int 39)
 Lg:Cn mg "OPENING" (.int 40)
 XJ:Cn mg "COMMA" (.int 44)
 nY:Cn mg "HYPHEN" (.int 45)
 Lh:Cn mg "DOT" (.int 46)
 XM:Cn mg "SMALL_E" (.int 101)
 AG:Cn mg "SHORTEST_WORD" (.int 2)
 pI:Cn mg "LONGEST_WORD" (.int 40)
 Lj:Cn mg "MOST_AUTHORS" (.int 8)
 XO:Cn mg "FIRST_YEAR" (.int 1000)
 XQ:Cn mg "LAST_YEAR" (.int 2999)
 XR:Cn mg "ALPHABET" (.str "abcdefghijklmnopqrstuvwxyz")
 XS:qK K mg "EXCHANGED" [("j","i"),("y","i"),("v","u"),("k","c")]
 Lk:qK K mg "PAIRS" [("ae","e"),("oe","e"),("ph","f"),("pf","f"),("ch","c"),("th","t"),("rh","r"),("ct","t"),("bb","b"),("cc","c"),("dd","d"),("ff","f"),("gg","g"),("ii","i"),("ll","l"),("mm","m"),("nn","n"),("pp","p"),("qq","q"),("rr","r"),("ss","s"),("tt","t"),("xx","x"),("zz","z")]
 XT:Cn mg "GENDERS" (.int 3)
 XU:Cn mg "KINDS" (.int 8)
 Ll:∃as:List af,kQ K mg "ENDINGS" (as.map V.ref)/\Paired (λa (l:List ao)=>∀H,cO K H a<|l.map V.str) as AF
 XW:Cn mg "MOST_EPITHETS" (.int 200)
 XX:Cn mg "MOST_GENERA" (.int 200)
 XY:Cn mg "LONGEST_STEM" (.int 35)
 ET:kQ K mg "FAMILY_ENDINGS" [.str "oidea",.str "idae",.str "inae",.str "ini",.str "ina"]
 Lm:kQ K mg "MARKS" [.str "",.str "cf. ",.str "aff. ",.str "x ",.str "subsp. ",.str "var. ",.str "f. "]
 Ln:kQ K mg "FIRST_MARKS" [.int 1,.int 2,.int 3]
 Lo:kQ K mg "SECOND_MARKS" [.int 1,.int 2,.int 4,.int 5,.int 6]
 XZ:Cn mg "GREATEST_NUMBER" (.int 9999)
 sW:Cn mg "ABSENT" (.int<|-1)
 X0:Cn mg "END" (.int<|-1)
 X1:Cn mg "LONGEST_NUMBER" (.int 4)
 X2:kQ K mg "TELLING_SIGNS" [.str "",.str "cf.",.str "aff.",.str "x ",.str "subsp.",.str "var.",.str "f."]
 X3:Cn mg "NO_SUB" (.int<|-1)
 X4:Cn mg "UNKNOWN_SUB" (.int<|-2)
 X5:Cn mg "MOST_NAMES" (.int 300)
 X6:Cn mg "MOST_TOLD" (.int 300)
 X7:∃as:List af,kQ K mg "CALLS" (as.map V.ref)/\Paired (λa (x:ao)=>mg x=O (.ref a)) as ["call_genus","call_epithet","call_form","call_fold","call_alike","call_classes","call_family","call_families","call_turn","call_read","call_write","call_cite","call_who","call_mend","call_feed","call_last","call_index","call_tell","call_fresh"]
 cn:mg "len"=ai
 Lq:mg "ord"=ai
 X8:mg "min"=ai
 xT:mg "all"=ai
 AH:mg "list"=ai
 vF:mg "tuple"=ai
 Lr:mg "str"=ai
 X9:mg "sorted"=ai
 xU:mg "enumerate"=ai
 Ya:mg "zip"=ai
 EU:mg "range"=ai
 Yb:mg "ValueError"=ai
 Ls:Fn K mg "is_small" (top 9) ["byte"]
 Lu:Fn K mg "is_capital" (top 10) ["byte"]
 Lw:Fn K mg "is_letter" (top 11) ["byte"]
 Lx:Fn K mg "is_digit" (top 12) ["byte"]
 Ly:Fn K mg "is_joint" (top 13) ["byte"]
 Lz:Fn K mg "bytes_of" (top 14) ["signs"]
 LA:Fn K mg "has_word_length" (top 18) ["text"]
 LB:Fn K mg "are_small" (top 19) ["text"]
 LC:Fn K mg "is_genus_text" (top 20) ["text"]
 LD:Fn K mg "is_short_head" (top 21) ["text"]
 LF:Fn K mg "is_epithet_text" (top 22) ["text"]
 LG:Fn K mg "is_author_text" (top 23) ["text"]
 LH:Fn K mg "are_authors" (top 28) ["authors"]
 LI:Fn K mg "is_authorship" (top 29) ["authors","etal","year"]
 LJ:Fn K mg "is_no_authorship" (top 30) ["authors","etal","year"]
 LK:Fn K mg "joined_authors" (top 31) ["authors"]
 LL:Fn K mg "authorship_text" (top 32) ["authors","etal","year"]
 LM:Fn K mg "can_be_folded" (top 37) ["text"]
 LN:Fn K mg "exchanged_letters" (top 38) ["text"]
 LO:Fn K mg "put_letter" (top 39) ["folded","letter"]
 fold:Fn K mg "fold" (top 40) ["text"]
 LP:Fn K mg "answer_fold" (top 41) ["text"]
 LQ:Fn K mg "is_gender" (top 46) ["number"]
 LR:Fn K mg "is_kind" (top 47) ["number"]
 LS:Fn K mg "ends_in" (top 48) ["text","ending"]
 LU:Fn K mg "stem_of" (top 49) ["kind","text"]
 LV:Fn K mg "forms_of" (top 50) ["kind","stem"]
 AI:ke K cs.Epithet "Epithet.__init__" (inClass (top 53) 0) ["self","forms"]
 LW:Fn K mg "is_epithet_number" (top 54) ["epithets","number"]
 LX:Fn K mg "answer_epithet" (top 55) ["epithets","kind","text"]
 LY:Fn K mg "answer_form" (top 56) ["epithets","number","gender"]
 LZ:Fn K mg "answer_alike" (top 57) ["epithets","one","other","gender"]
 L0:Fn K mg "answer_classes" (top 58) ["epithets","gender"]
 AJ:ke K cs.Genus "Genus.__init__" (inClass (top 63) 0) ["self","text","gender","stem"]
 L1:Fn K mg "is_genus_number" (top 64) ["genera","number"]
 L3:Fn K mg "number_of_genus" (top 65) ["genera","text"]
 L4:Fn K mg "answer_genus" (top 66) ["genera","gender","stem","text"]
 L5:Fn K mg "family_text" (top 67) ["genus","rank"]
 L6:Fn K mg "answer_family" (top 68) ["genera","number","rank"]
 L7:Fn K mg "answer_families" (top 69) ["genera","text"]
 L8:Fn K mg "answer_turn" (top 70) ["genera","number","gender"]
 vG:ke K cs.Name "Name.__init__" (inClass (top 72) 0) ["self"]
 L9:Fn K mg "numbers_of" (top 73) ["name"]
 Ma:Fn K mg "texts_of" (top 74) ["name"]
 Mb:Fn K mg "name_of" (top 75) ["numbers","texts"]
 Mc:Fn K mg "with_head" (top 76) ["name","abbr","head"]
 counted:Fn K mg "counted" (top 77) ["row"]
 Me:Fn K mg "value_answer" (top 78) ["name"]
 Mf:Fn K mg "is_head_sound" (top 84) ["name"]
 Mg:Fn K mg "is_sub_sound" (top 85) ["name"]
 Mh:Fn K mg "is_number_sound" (top 86) ["name"]
 Mi:Fn K mg "is_marked_epithet" (top 87) ["mark","marks","epithet"]
 Mj:Fn K mg "are_epithets_sound" (top 88) ["name"]
 Ml:Fn K mg "is_publication_sound" (top 89) ["name"]
 Mm:Fn K mg "is_sound" (top 90) ["name"]
 bracketed:Fn K mg "bracketed" (top 92) ["text"]
 Mn:Fn K mg "unnamed_text" (top 93) ["num"]
 mS:Fn K mg "epithet_text" (top 94) ["mark","epithet"]
 entry_text:Fn K mg "entry_text" (top 95) ["name"]
 Mo:Fn K mg "publication_text" (top 96) ["name"]
 Mp:Fn K mg "name_text" (top 97) ["name"]
 Mq:Fn K mg "answer_write" (top 98) ["name"]
 AK:ke K cs.jm "Citation.__init__" (inClass (top 101) 0) ["self","numbers","authors"]
 Mr:Fn K mg "is_published_right" (top 102) ["citation"]
 Ms:Fn K mg "citation_refusal" (top 103) ["genera","epithets","citation"]
 Mu:Fn K mg "cited_name" (top 104) ["genera","epithets","citation"]
 Mw:Fn K mg "answer_cite" (top 105) ["genera","epithets","numbers","authors"]
 AL:ke K cs.gf "Scanner.__init__" (inClass (top 109) 0) ["self","text"]
 Mx:Mt K cs.gf "is_done" "Scanner.is_done" (inClass (top 109) 1) ["self"]
 My:Mt K cs.gf "ahead" "Scanner.ahead" (inClass (top 109) 2) ["self"]
 Mz:Mt K cs.gf "further" "Scanner.further" (inClass (top 109) 3) ["self","distance"]
 MA:Mt K cs.gf "advance" "Scanner.advance" (inClass (top 109) 4) ["self"]
 MB:Mt K cs.gf "since" "Scanner.since" (inClass (top 109) 5) ["self","start"]
 MC:Mt K cs.gf "begins" "Scanner.begins" (inClass (top 109) 6) ["self","signs"]
 MD:Fn K mg "pass_signs" (top 110) ["scanner","signs"]
 ME:Fn K mg "scan_capital" (top 113) ["scanner"]
 MF:Fn K mg "scan_capital_word" (top 114) ["scanner"]
 MG:Fn K mg "scan_genus_text" (top 115) ["scanner"]
 MI:Fn K mg "epithet_goes_on" (top 116) ["scanner","word"]
 MJ:Fn K mg "scan_epithet" (top 117) ["scanner"]
 MK:Fn K mg "scan_author_letters" (top 118) ["scanner","start"]
 ML:Fn K mg "author_goes_on" (top 119) ["scanner","start","is_last"]
 MM:Fn K mg "scan_author" (top 120) ["scanner","is_last"]
 MN:Fn K mg "scan_number" (top 121) ["scanner"]
 MO:Fn K mg "scan_year" (top 122) ["scanner"]
 MQ:Fn K mg "read_head" (top 125) ["scanner","name"]
 MR:Fn K mg "read_sub" (top 126) ["scanner","name"]
 MS:Fn K mg "read_unnamed" (top 127) ["scanner","name"]
 MT:Fn K mg "read_mark" (top 128) ["scanner","marks"]
 MU:Fn K mg "read_epithets" (top 129) ["scanner","name"]
 MV:Fn K mg "read_other_authors" (top 130) ["scanner","name"]
 MW:Fn K mg "read_authorship" (top 131) ["scanner","name"]
 MX:Fn K mg "read_publication" (top 132) ["scanner","name"]
 MY:Fn K mg "read_rest" (top 133) ["scanner","name"]
 MZ:Fn K mg "may_end_here" (top 134) ["scanner","name"]
 vw:Fn K mg "read_name" (top 135) ["text"]
 M0:Fn K mg "answer_read" (top 136) ["text"]
 M4:Fn K mg "listing_refusal" (top 140) ["genera","name"]
 M5:Fn K mg "answer_for_listed" (top 141) ["genera","epithets","text","answer"]
 M6:Fn K mg "number_of_sub" (top 142) ["genera","sub"]
 M8:Fn K mg "numbers_of_form" (top 143) ["epithets","gender","text"]
 M9:Fn K mg "is_other_spelling" (top 144) ["epithet","gender","text","folded"]
 Na:Fn K mg "numbers_of_other_spelling" (top 145) ["epithets","gender","text"]
 Nb:Fn K mg "who_answer" (top 146) ["genera","epithets","name"]
 Nc:Fn K mg "answer_who" (top 147) ["genera","epithets","text"]
 Nd:Fn K mg "put_right" (top 148) ["epithets","gender","text"]
 Ng:Fn K mg "mend_answer" (top 149) ["genera","epithets","name"]
 Nh:Fn K mg "answer_mend" (top 150) ["genera","epithets","text"]
 xV:ke K cs.iL "Heads.__init__" (inClass (top 152) 0) ["self"]
 Ni:Mt K cs.iL "learn" "Heads.learn" (inClass (top 152) 1) ["self","head"]
 Nj:Mt K cs.iL "meant_by" "Heads.meant_by" (inClass (top 152) 2) ["self","short"]
 Nk:Fn K mg "shortest_for" (top 153) ["heads","head"]
 xW:ke K cs.Paper "Paper.__init__" (inClass (top 156) 0) ["self"]
 Nl:Mt K cs.Paper "end_line" "Paper.end_line" (inClass (top 156) 1) ["self"]
 Nn:Mt K cs.Paper "take_name" "Paper.take_name" (inClass (top 156) 2) ["self","name"]
 Np:Fn K mg "whole_outcome" (top 157) ["paper","name"]
 Nq:Fn K mg "short_outcome" (top 158) ["paper","name"]
 Nt:Fn K mg "outcome_of_line" (top 159) ["paper"]
 Nu:Fn K mg "answer_feed" (top 160) ["paper","text"]
 Nv:Fn K mg "answer_last" (top 161) ["paper"]
 Nw:Fn K mg "lines_by_entry" (top 162) ["paper"]
 Ny:Fn K mg "answer_index" (top 163) ["paper"]
 xX:ke K cs.jn "Draft.__init__" (inClass (top 166) 0) ["self"]
 shortened:Fn K mg "shortened" (top 167) ["heads","name"]
 Nz:Fn K mg "answer_tell" (top 168) ["draft","name"]
 AM:ke K cs.fE "Desk.__init__" (inClass (top 170) 0) ["self"]
 AN:ke K cs.g0 "Tape.__init__" (inClass (top 171) 0) ["self","numbers"]
 NA:Mt K cs.g0 "has_more" "Tape.has_more" (inClass (top 171) 1) ["self"]
 NB:Mt K cs.g0 "take" "Tape.take" (inClass (top 171) 2) ["self"]
 NC:Mt K cs.g0 "take_row" "Tape.take_row" (inClass (top 171) 3) ["self"]
 ND:Mt K cs.g0 "take_rows" "Tape.take_rows" (inClass (top 171) 4) ["self"]
 NF:Fn K mg "call_genus" (top 172) ["desk","numbers","texts"]
 NG:Fn K mg "call_epithet" (top 173) ["desk","numbers","texts"]
 NH:Fn K mg "call_form" (top 174) ["desk","numbers","texts"]
 NI:Fn K mg "call_fold" (top 175) ["desk","numbers","texts"]
 NJ:Fn K mg "call_alike" (top 176) ["desk","numbers","texts"]
 NK:Fn K mg "call_classes" (top 177) ["desk","numbers","texts"]
 NL:Fn K mg "call_family" (top 178) ["desk","numbers","texts"]
 NM:Fn K mg "call_families" (top 179) ["desk","numbers","texts"]
 NN:Fn K mg "call_turn" (top 180) ["desk","numbers","texts"]
 NO:Fn K mg "call_read" (top 181) ["desk","numbers","texts"]
 NP:Fn K mg "call_write" (top 182) ["desk","numbers","texts"]
 NQ:Fn K mg "call_cite" (top 183) ["desk","numbers","texts"]
 NR:Fn K mg "call_who" (top 184) ["desk","numbers","texts"]
 NS:Fn K mg "call_mend" (top 185) ["desk","numbers","texts"]
 NT:Fn K mg "call_feed" (top 186) ["desk","numbers","texts"]
 NU:Fn K mg "call_last" (top 187) ["desk","numbers","texts"]
 NV:Fn K mg "call_index" (top 188) ["desk","numbers","texts"]
 NW:Fn K mg "call_tell" (top 189) ["desk","numbers","texts"]
 NX:Fn K mg "call_fresh" (top 190) ["desk","numbers","texts"]
 answers:Fn K mg "answers" (top 192) ["calls"]
 Yc:mg "Epithet"=O (.ref cs.Epithet)
 AO:fg K cs.Epithet
 AQ:∀f∈(["forms","folds"]:List ao),gb K cs.Epithet f
 Yd:mg "Genus"=O (.ref cs.Genus)
 sX:fg K cs.Genus
 sY:∀f∈(["text","gender","stem"]:List ao),gb K cs.Genus f
 EV:mg "Name"=O (.ref cs.Name)
 ef:fg K cs.Name
 fL:∀f∈(["abbr","q1","q2","num","paren","etal","year","head","sub","e1","e2","authors"]:List ao),gb K cs.Name f
 Ye:mg "Citation"=O (.ref cs.jm)
 jy:fg K cs.jm
 jz:∀f∈(["genus","sub","e1","e2","first","year","etal","authors"]:List ao),gb K cs.jm f
 Yf:mg "Scanner"=O (.ref cs.gf)
 cV:fg K cs.gf
 xY:∀f∈(["text","place"]:List ao),gb K cs.gf f
 NY:mg "Heads"=O (.ref cs.iL)
 qM:fg K cs.iL
 AR:∀f∈(["known","meant"]:List ao),gb K cs.iL f
 NZ:mg "Paper"=O (.ref cs.Paper)
 kg:fg K cs.Paper
 lS:∀f∈(["unfinished","lines_ended","names","name_lines","heads"]:List ao),gb K cs.Paper f
 N0:mg "Draft"=O (.ref cs.jn)
 xZ:fg K cs.jn
 x5:∀f∈(["told","heads"]:List ao),gb K cs.jn f
 Yg:mg "Desk"=O (.ref cs.fE)
 nZ:fg K cs.fE
 og:∀f∈(["genera","epithets","paper","draft"]:List ao),gb K cs.fE f
 Yh:mg "Tape"=O (.ref cs.g0)
 kS:fg K cs.g0
 vH:∀f∈(["numbers","place"]:List ao),gb K cs.g0 f
 N1:mg "NotRight"=O (.ref cs.jR)
 x6:XC K cs.jR cs.xI cs.xN qL "ValueError.__new__"
 Yi:∃fd,gH K "__init__" "NotRight.__init__" (inClass (top 108) 0) cs.xI fd/\Binds K fd ["self","place"] []
 Yj:nH K cs.xN "__setattr__"=O ai
 Yk:nH K cs.xN "__getattribute__"=O ai
 Yl:nH K cs.xN "__getattr__"=O ai
 Ym:nH K cs.xN "place"=O ai
 Yn:afV K (.type "ValueError") (.type "type") "__init__"=O (.val<|.builtin "ValueError.__init__")
abbrev aY(H:Hp)(a:af)(l:S):Prop:=H a=O (.lst<|tx l)
def zs(l:List Int):List V:=l.map V.int
abbrev sZ(H:Hp)(a:af)(l:List Int):Prop:=H a=O (.lst<|zs l)
def J.rf:J H H:=λ_ _ h=>h
def tj(r:cZ k A):A.units+1<i7:=by have:=r.un;omega
def oh(r:cZ k A):A.units+64<i7:=r.units
def qN(f:Int->Bool):Sp:=λb H Q _=>∃i,b=[.int i]/\∀a,J H a->Q (.bl<|f i) a
def qO(f:S->Bool):Sp:=λc H Q _=>∃a l,c=[.ref a]/\aY H a l/\∀b,J H b->Q (.bl<|f l) b
def eS(H:Hp)(Q:VK)(vs:List V):Prop:=∀a p,J H a->H p=ai->a p=O (.lst vs)->Q (.ref p) a
def cq:jY "len"=O (.builtin "len"):=by decide+kernel
def N2:jY "ord"=O (.builtin "ord"):=by decide+kernel
def Yo:jY "min"=O (.builtin "min"):=by decide+kernel
def x8:jY "all"=O (.builtin "all"):=by decide+kernel
def AS:jY "list"=O (.type "list"):=by decide+kernel
def vI:jY "tuple"=O (.type "tuple"):=by decide+kernel
def N3:jY "str"=O (.type "str"):=by decide+kernel
def Yp:jY "sorted"=O (.builtin "sorted"):=by decide+kernel
def AU(h:0<=k):jh xs (O k) ai=xs.drop k.toNat:=by
 unfold jh HT.iI;dsimp only;rw[ak aG];by_cases a:k.toNat<=xs.length
 ·rw[zp a,rY (by rw[rO];exact bG _)]
 ·rw[HK aG,uO<|bG _,uO aG];simp
def AV(h:0<=k):jh xs ai (O k)=xs.take k.toNat:=by
 unfold jh HT.iI;dsimp only;rw[ak aG,List.drop_zero,Nat.sub_zero];by_cases a:k.toNat<=xs.length
 ·rw[zp a]
 ·rw[HK aG,rY<|bG _,rY aG]
def EW(c:0<=i)(d:0<=j):jh xs (O i) (O j)=(xs.drop i.toNat).take (j.toNat-i.toNat):=by
 unfold jh HT.iI;dsimp only;rw[ak aG,ak aG];by_cases a:i.toNat<=xs.length
 ·rw[zp a];by_cases b:j.toNat<=xs.length
  ·rw[zp b]
  ·rw[HK aG,rY (by rw[rO];exact bG _),rY (by rw[rO];omega)]
 ·rw[HK (show xs.length<=i.toNat by omega),uO<|bG _,uO aG];simp
def x9(l:S)(k:Nat):(tx l).drop k=tx (l.drop k):=by unfold tx;rw[af6]
def vJ(l:S)(k:Nat):(tx l).take k=tx (l.take k):=by unfold tx;rw[af7]
def gh(l m:S):tx l++tx m=tx (l++m):=by unfold tx;rw[fR]
def Yq(h:tx l=tx m):l=m:=by
 unfold tx at h;induction l generalizing m with
 |nil=>cases m with
  |nil=>rfl
  |cons b m=>cases h
 |cons a l c=>cases m with
  |nil=>cases h
  |cons b m=>
   rw[cM,cM,wZ] at h;have:(a:Int)=b:=V.int.inj h.1;rw[c h.2];congr 1;omega
def Yr(b:Nat)(l:S):tx (b::l)=V.int b::tx l:=rfl
def ya:tx []=[]:=rfl
section
variable{X:Cx}
def Ys(K:bj):V->List V->Hp->VK->Prop:=λx c H Q=>∃(a:af)(l:S)(k:Nat),x=V.ref a/\c=[.int k]/\aM K H a (tx l)/\Q (.int ((l.filter λb=>b==k).length:Nat)) H
def N4(l:S):(tx l).all nV=Y:=by
 unfold tx;rw[qj,qk];intro b _;rfl
def N5:∀(l:S)(us:List aw)(k:Nat),Vals (tx l) us->us.countP (ji<|.int k)=(l.filter λb=>b==k).length
 |[],us,k,r=>by cases r;rfl
 |b::l,us,k,r=>by
  cases r with
  |cons a c=>
   rw[List.countP_cons,N5 l _ k c,DQ a L,oP];have:lL (.int (b:Int)) (.int (k:Int))=(b==k):=by
    show((b:Int)==(k:Int))=(b==k);rw[fS,fS];apply cY.mpr;omega
   rw[this];by_cases h:(b==k)=Y
   ·simp[h]
   ·simp[h]
def Yt:DP X "list.count" (Ys X.K):=by
 intro y s U H x D v E Q I j g h;obtain⟨a,l,k,rfl,rfl,m,q⟩:=h;cases j;cases g with
 |cons o p=>
  rename_i r M;cases p;obtain⟨b,c,⟨⟨B,t,z,u⟩,n,d,e,C,f⟩,A⟩:=I.list m;simp only at e f;subst e f;refine Hi af8 ⟨_,d,L⟩ PySem.F.entry_list_count (PySem.F.args_list_count_2 _ _)
   (SeqAt.list_countAt a b.toArray n t u r<|ji<|.int k) ⟨d,λw i=>u9 o L c (N4 l) w<|by simpa using i,?_⟩
  refine⟨.int _,H,I.tok _,⟨_,L⟩,?_⟩;rw[<-N5 l b k c] at q;exact q
end
def qP(K:bj)(H:Hp):Prop:=∀a b,aM K H a b->b.length<=br
def Yu{P:cf}{w:bR}{K:bj}{c:ao->Option aw}{base:bC}{A:cG}{b:List dj}{s:aF}{H:Hp}(e:qv P w K c base A b s H):qP K H:=λa f h=>by
 rcases h with h|⟨o,d,n,g,i,j,k,l,r⟩
 ·exact(h.ok e.aS).1
 ·have:=r.length;simp only[wy] at this;omega
def N6{P:cf}{w:bR}{K:bj}{a:ao->Option aw}{base:bC}{CX:kH}{k:Nat}{f:af}{b:iT}{ps:List ao}{sp:Sp}(len:∀vs H Q E,sp vs H Q E->vs.length=ps.length)
  (F:dH P w K a base CX k f b ps (λvs H Q E=>sp vs H Q E/\qP K H)):dH P w K a base CX k f b ps sp:=
 ⟨len,λA d s H args e vs Q E g c h i j=>F.run A d s H args e vs Q E g c h i ⟨j,Yu c⟩⟩
section
variable{P:cf}{w:bR}{K:bj}{mg:ao->Option aw}{base:bC}
def okN{x c:ao}{st:eT}{f:af}{d:iT}{N ps:List ao}{k:Nat}{sp:Sp}(F:gH K x c st f d)(S:mL N ps (cR st))(len:∀vs H Q E,sp vs H Q E->vs.length=ps.length)
  (e:∀(a:aw)(A:cG)(b:List dj)(s:aF)(H:Hp)(vs:List V)(Q:VK)(E:XK),N.Nodup->qP K H->cZ k (A.deeper<|j2 c (cR st) s.heap.objs.size f a)->sp vs H Q E->
   ∃t,gF (jf (cX P ww) P ww K mg base N c (cR st) f a A b s H E).o7 (ik st) t/\t {nx:=λ_ H'=>Q .bp H',rt:=Q} (start N vs) H):dH P ww K mg base (cX P ww) (k+1) f d ps sp:=
 N6 len (F.okN S (λvs H Q E h=>len vs H Q E h.1) λa A b s H vs Q E g h=>e a A b s H vs Q E S.nd h.2 g h.1)
def Ei{x c:ao}{st:eT}{f:af}{d:iT}{N ps:List ao}{k:Nat}{sp:Sp}(F:gH K x c st f d)(S:mL N ps (cR st))(len:∀vs H Q E,sp vs H Q E->vs.length=ps.length)
  (e:∀(a:aw)(A:cG)(b:List dj)(s:aF)(H:Hp)(vs:List V)(Q:VK)(E:XK),N.Nodup->qP K H->cZ k (A.deeper<|j2 c (cR st) s.heap.objs.size f a)->sp vs H Q E->
   Lv (jf (cX P ww) P ww K mg base N c (cR st) f a A b s H E) E->∃t,gF (jf (cX P ww) P ww K mg base N c (cR st) f a A b s H E) (ik st) t/\t {nx:=λ_ H'=>Q .bp H',rt:=Q} (start N vs) H):dH P ww K mg base (cX P ww) (k+1) f d ps sp:=
 N6 len (F.Ei S (λvs H Q E h=>len vs H Q E h.1) λa A b s H vs Q E g h=>e a A b s H vs Q E S.nd h.2 g h.1 Wr)
end
def bh{a:Bool}{A B:Prop}(b:a=Y->A)(c:a=ax->B):if a=Y then A else B:=by
 cases a with
 |true=>exact mQ<|b L
 |false=>exact mP<|c L
def cI{Q:VK}{H:Hp}{a b:Bool}(k:Q (.bl a) H)(e:a=b):Q (.bl b) H:=e▸k
section
variable{X:Cx}{k n i:Nat}{x f:ao}{ps:List ao}{sp:Sp}{E:XK}{p pos apos cpos pos':cK}{e o a b:bF}{es:List bF}{t:TA}{te to ta tb:TE}{C:af}{m:ao}{op:rH}{r:R2}
def aO(c:kM X.prog X.w X.K X.mg X.base k x ps sp)(h:cZ n X.A)(j:PA X (e::es) t)(l:k<=n:=by decide)(q:Gl X x:=by rfl)(d:(x==("__debug__":ao))=ax:=by decide)
  (s:bS (e::es) X.env=(ax,eval e X.env)::bS es X.env:=by rfl)(g:(eP pos<|bS es X.env).any (·.1)=ax:=by rfl):PE X (.Call (.Name x p) (e::es) [] pos) (cA sp [] E0 t):=pc c (h.mono l) q ck j d s g
def d6(c:kM X.prog X.w X.K X.mg X.base k x ps sp)(h:cZ n X.A)(j:Lv X E)(l:PA X (e::es) t)(q:k<=n:=by decide)(s:Gl X x:=by rfl)(d:(x==("__debug__":ao))=ax:=by decide)
  (u:bS (e::es) X.env=(ax,eval e X.env)::bS es X.env:=by rfl)(g:(eP pos<|bS es X.env).any (·.1)=ax:=by rfl):PE X (.Call (.Name x p) (e::es) [] pos) (cA sp [] E t):=pc c (h.mono q) s (Wu j) l d u g
def yb(c:vE X.prog X.w X.K X.mg X.base k C ps sp)(h:X.mg x=O (.ref C))(j:cZ n X.A)(l:PA X (e::es) t)(q:k+1<=n:=by decide)(s:Gl X x:=by rfl)(d:(x==("__debug__":ao))=ax:=by decide)
  (u:bS (e::es) X.env=(ax,eval e X.env)::bS es X.env:=by rfl)(g:(eP pos<|bS es X.env).any (·.1)=ax:=by rfl):PE X (.Call (.Name x p) (e::es) [] pos) (iZ C sp [] E0 t):=XF c h (j.mono q) ck l s d u g
def oj(c:vE X.prog X.w X.K X.mg X.base k C ps sp)(h:X.mg x=O (.ref C))(g:cZ n X.A)(j:k+1<=n:=by decide)(l:Gl X x:=by rfl)(d:(x==("__debug__":ao))=ax:=by decide):PE X (.Call (.Name x p) [] [] pos) (iZ C sp [] E0 aW):=XG c h (g.mono j) ck l d
def cw(i:Nat)(c:X.N.Nodup)(d:PE X e te)(g:X.N[i]?=O x:=by rfl)(h:Loc X.env.scope x:=by first|exact nG rfl|exact wU rfl)(hs:nA e (O<|.Name x pos') pos.line X.env=pure ax:=by rfl)(j:X.fn x=Y∨X.env.scope.names.lookup x=O .local :=by first|exact .inl rfl|exact .inr rfl|assumption):
  PS X (.Assign [.Name x pos'] e pos) (nT te<|fV i):=UY c g h d hs j
def d7(i:Nat)(c:X.N.Nodup)(d:X.N[i]?=O x:=by rfl)(g:Loc X.env.scope x:=by first|exact nG rfl|exact wU rfl)(h:X.fn x=Y∨X.env.scope.names.lookup x=O .local :=by first|exact .inl rfl|exact .inr rfl|assumption):PG X (.Name x pos) (fV i):=UX c d g h
def aJ(c:PE X e ta)(d:rN e f X.env (eval e X.env)=eval e X.env:=by rfl):PE X (.Attribute e f pos) (cz X.K ta f):=Je c d
def bT(c:u7 X r)(d:PE X a ta)(g:PE X b tb)(hs:Jo b:=by exactλ_ _=>rfl):PE X (.Subscript a b pos) (dG r ta tb):=Vs c d g hs
def bK(c:eZ X (hW op) r)(d:PE X a ta)(g:PE X b tb)(h:op≠ .In:=by decide)(j:op≠ .NotIn:=by decide):PT X (.Compare a [op] [b] pos) (zW<|dG r ta tb):=xn c d g<|IS _ h j
def gw(c:eZ X (hW op) r)(d:PE X a ta)(g:PE X b tb)(h:op≠ .In:=by decide)(j:op≠ .NotIn:=by decide):PE X (.Compare a [op] [b] pos) (dG r ta tb):=zV c d g<|IS _ h j
def aj(h:PE X e te)(hs:bS [e] X.env=(ax,eval e X.env)::bS [] X.env:=by rfl):PA X [e] (aN te aW):=aP h gv hs
end
section
variable{P:cf}{w:bR}{K:bj}{mg:ao->Option aw}{base:bC}{x qual:ao}{st:eT}{f:af}{fd:iT}{ps:List ao}{k:Nat}{sp:Sp}
def cW(N:List ao)
  (c:∀{f:af}{a:aw}{A:cG}{b:List dj}{s:aF}{vs:List V}(H:Hp)(Q:VK)(E:XK),N.Nodup->qP K H->cZ k (A.deeper<|j2 qual (cR st) s.heap.objs.size f a)->sp vs H Q E->
   ∃t,gF (jf (cX P ww) P ww K mg base N qual (cR st) f a A b s H E).o7 (ik st) t/\t {nx:=λ_ H'=>Q .bp H',rt:=Q} (start N vs) H)
  (S:mL N ps (cR st):=by exact⟨L,L,L,bf,L,bf,bf⟩)(len:∀vs H Q E,sp vs H Q E->vs.length=ps.length:=by(intro vs H Q E h;(repeat (obtain⟨_,h⟩:=h));subst_vars;rfl)):∀f fd,gH K x qual st f fd->dH P ww K mg base (cX P ww) (k+1) f fd ps sp:=λ_ _ F=>okN F S len λ_ _ _ _ H _ Q E=>c H Q E
def om(N:List ao)
  (c:∀{f:af}{a:aw}{A:cG}{b:List dj}{s:aF}{vs:List V}(H:Hp)(Q:VK)(E:XK),N.Nodup->qP K H->cZ k (A.deeper<|j2 qual (cR st) s.heap.objs.size f a)->sp vs H Q E->
   Lv (jf (cX P ww) P ww K mg base N qual (cR st) f a A b s H E) E->∃t,gF (jf (cX P ww) P ww K mg base N qual (cR st) f a A b s H E) (ik st) t/\t {nx:=λ_ H'=>Q .bp H',rt:=Q} (start N vs) H)
  (S:mL N ps (cR st):=by exact⟨L,L,L,bf,L,bf,bf⟩)(len:∀vs H Q E,sp vs H Q E->vs.length=ps.length:=by(intro vs H Q E h;(repeat (obtain⟨_,h⟩:=h));subst_vars;rfl)):∀f fd,gH K x qual st f fd->dH P ww K mg base (cX P ww) (k+1) f fd ps sp:=λ_ _ F=>Ei F S len λ_ _ _ _ H _ Q E=>c H Q E
def bN
  (c:∀{f:af}{a:aw}{A:cG}{b:List dj}{s:aF}{vs:List V}(H:Hp)(Q:VK)(E:XK),ps.Nodup->qP K H->cZ k (A.deeper<|j2 qual (cR st) s.heap.objs.size f a)->sp vs H Q E->
   ∃t,gF (jf (cX P ww) P ww K mg base ps qual (cR st) f a A b s H E).o7 (ik st) t/\t {nx:=λ_ H'=>Q .bp H',rt:=Q} (start ps vs) H)
  (S:mL ps ps (cR st):=by exact⟨L,L,L,bf,L,bf,bf⟩)(len:∀vs H Q E,sp vs H Q E->vs.length=ps.length:=by(intro vs H Q E h;(repeat (obtain⟨_,h⟩:=h));subst_vars;rfl)):∀f fd,gH K x qual st f fd->dH P ww K mg base (cX P ww) (k+1) f fd ps sp:=cW ps c S len
def pJ
  (c:∀{f:af}{a:aw}{A:cG}{b:List dj}{s:aF}{vs:List V}(H:Hp)(Q:VK)(E:XK),ps.Nodup->qP K H->cZ k (A.deeper<|j2 qual (cR st) s.heap.objs.size f a)->sp vs H Q E->
   Lv (jf (cX P ww) P ww K mg base ps qual (cR st) f a A b s H E) E->∃t,gF (jf (cX P ww) P ww K mg base ps qual (cR st) f a A b s H E) (ik st) t/\t {nx:=λ_ H'=>Q .bp H',rt:=Q} (start ps vs) H)
  (S:mL ps ps (cR st):=by exact⟨L,L,L,bf,L,bf,bf⟩)(len:∀vs H Q E,sp vs H Q E->vs.length=ps.length:=by(intro vs H Q E h;(repeat (obtain⟨_,h⟩:=h));subst_vars;rfl)):∀f fd,gH K x qual st f fd->dH P ww K mg base (cX P ww) (k+1) f fd ps sp:=om ps c S len
end
open Vbnlab (great digit letter joint genusText)
variable{P:cf}{ww:bR}{K:bj}{mg:ao->Option aw}{base:bC}{cs:Cs}
abbrev tm(_:cf)(_:bR)(K:bj)(a:ao->Option aw)(_:bC)(cs:Cs):=Txt K a cs
abbrev tm.bb{x:ao}{st:eT}{ps:List ao}(_:tm P ww K mg base cs)(_:Fn K mg x st ps)(k:Nat)(sp:Sp):=kM P ww K mg base k x ps sp
abbrev tm.kh{C:af}{m a:ao}{st:eT}{ps:List ao}(_:tm P ww K mg base cs)(_:Mt K C m a st ps)(k:Nat)(sp:Sp):=AE P ww K mg base k C m ps sp
abbrev tm.oo{C:af}{a:ao}{st:eT}{ps:List ao}(_:tm P ww K mg base cs)(_:ke K C a st ps)(k:Nat)(sp:Sp):=vE P ww K mg base k C ps sp
variable(T:tm P ww K mg base cs)
def tu:T.bb T.Ls 1 (qN<|d5 97 122):=T.Ls.aU<|bN λH Q E a b c h=>by
 obtain⟨i,rfl,k⟩:=h;refine⟨_,(aC<|aK<|kG ig ig aI (pv 0) aI),?_⟩;exact⟨_,L,_,_,L,L,_,L,bh (λh=>⟨_,_,L,L,cI (k H J.rf) (by unfold d5;rw[h];rfl)⟩)<|λh=>cI (k H J.rf) (by unfold d5;rw[h];rfl)⟩
def tw:T.bb T.Lu 1 (qN<|d5 65 90):=T.Lu.aU<|bN λH Q E a b c h=>by
 obtain⟨i,rfl,k⟩:=h;refine⟨_,(aC<|aK<|kG ig ig aI (pv 0) aI),?_⟩;exact⟨_,L,_,_,L,L,_,L,bh (λh=>⟨_,_,L,L,cI (k H J.rf) (by unfold d5;rw[h];rfl)⟩)<|λh=>cI (k H J.rf) (by unfold d5;rw[h];rfl)⟩
def vK(i:Int):Bool:=d5 97 122 i||d5 65 90 i
def N7:T.bb T.Lw 2 (qN vK):=T.Lw.aU<|bN λH Q E f g a h=>by
 obtain⟨i,rfl,k⟩:=h;refine⟨_,(aC<|aK<|xi (aO (tu T) a<|aj<|pv 0)<|ic<|aO (tw T) a<|aj<|pv 0),?_⟩;exact⟨_,L,_,L,λc b=>⟨_,L,bh (λh=>cI (k c b) (by unfold vK;rw[h];rfl))<|λh=>⟨_,L,_,L,λd e=>cI (k d<|b.trans e) (by unfold vK;rw[h];rfl)⟩⟩⟩
def N8:T.bb T.Lx 1 (qN<|d5 48 57):=T.Lx.aU<|bN λH Q E a b c h=>by
 obtain⟨i,rfl,k⟩:=h;refine⟨_,(aC<|aK<|kG ig ig aI (pv 0) aI),?_⟩;exact⟨_,L,_,_,L,L,_,L,bh (λh=>⟨_,_,L,L,cI (k H J.rf) (by unfold d5;rw[h];rfl)⟩)<|λh=>cI (k H J.rf) (by unfold d5;rw[h];rfl)⟩
def yc(i:Int):Bool:=decide (i=32)||(decide (i=45)||decide (i=39))
def AW(b:Nat):yc (b:Int)=iA b:=by
 unfold yc iA;rw[fS,fS,fS];congr 1
 ·apply cY.mpr;omega
 ·congr 1<;>(apply cY.mpr;omega)
def N9(b:Nat):vK (b:Int)=eF b:=by unfold vK eF;rw[xM,pG]
def EX:T.bb T.Ly 1 (qN yc):=T.Ly.aU<|bN λH Q E b c d h=>by
 obtain⟨i,rfl,k⟩:=h;refine⟨_,(aC<|aK<|zV Jq (pv 0) (zX<|aP (cD T.xS)<|aP (cD T.nY)<|aj<|cD T.XI)<|by with_unfolding_all rfl),?_⟩;refine⟨_,L,aB,λp a=>⟨_,_,L,.inr<|cO.of ba,L,L,cI (k _ (J.new a)) ?_⟩⟩;unfold yc;show _=(lM (V.int i) [V.int 32,V.int 45,V.int 39]);unfold lM;simp only[oO,T9,lL,wL];congr 1
 ·rw[fS];apply cY.mpr;omega
 ·congr 1<;>(rw[fS];apply cY.mpr;omega)
def EY:Sp:=λa H Q _=>∃x:ao,a=[.str x]/\x.cps.size<=1000/\eS H Q (tx x.cps.toList)
def jA:T.bb T.Lz 1 EY:=T.Lz.aU<|cW ["signs","sign"] λH Q E a j l h=>by
 obtain⟨x,rfl,f,k⟩:=h;refine⟨_,(aC<|aK<|lN (own:=[("sign",1)]) L a (Wa<|pv 0) (kL (show jO ["signs","sign"] (cR<|top 14) _ _=Y by decide+kernel)) (λ_ _ _ _ _=>(d7 1 a)) (λ_ _ _ _ _=>pA)<|λ_ _ _ _ _=>(b6 IV aZ T.Lq N2<|aj<|pv 1)),?_⟩;refine⟨_,L,x,L,λD b=>?_⟩;refine WO (λv=>match v with|.str y=>.int (y.cps.getD 0 0:Nat)|_=>.bp) b (eO f aB) (λc m d n e g=>⟨_,L,_,L,L,g _ J.rf⟩)<|λd e i=>k d D e b ?_;rw[i];unfold qA tx;rw[iB];rfl
def vL(l:S):Bool:=decide (2<=l.length/\l.length<=40)
def Oa:T.bb T.LA 1 (qO vL):=T.LA.aU<|bN λH Q E c d e h=>by
 obtain⟨a,l,rfl,b,k⟩:=h;refine⟨_,(aC<|aK<|kG ig ig (cD T.AG) (b6 cB aZ T.cn cq<|aj<|pv 0)<|cD T.pI),?_⟩;refine⟨_,L,_,_,L,.inl<|aM.of b,_,_,L,L,_,L,bh (λh=>⟨_,_,L,L,cI (k H J.rf) ?_⟩)<|λh=>cI (k H J.rf) ?_⟩
 ·rw[bX] at h⊢;unfold vL;rw[zo];have:decide (2<=l.length)=Y:=by rw[bO] at h⊢;omega
  rw[this,uJ];apply cY.mpr;omega
 ·rw[bX] at h;unfold vL;rw[hU] at h⊢;omega
def Yv{f:Int->Bool}{g:Nat->Bool}(h:∀b:Nat,f b=g b)(l:S){Q:VK}{H:Hp}(k:Q (.bl<|l.all g) H):Q (.bl<|(l.map λ(b:Nat)=>f (b:Int)).all id) H:=by
 refine cI k ?_;rw[qj];congr 1;funext b
 exact(h b).symm
def Ob(f:Int->Bool):V->V
 |.int i=>.bl<|f i
 |_=>.bp
def Yw(f:Int->Bool)(l:S):(tx l).map (Ob f)=(l.map λ(b:Nat)=>f (b:Int)).map V.bl:=by
 unfold tx;rw[iB,iB];rfl
def EZ:T.bb T.LB 2 (qO λl=>l.all bD):=T.LB.aU<|cW ["text","byte"] λH Q E d j m h=>by
 obtain⟨a,l,rfl,c,k⟩:=h;refine⟨_,(aC<|aK<|b6 (xw L) aZ T.xT x8<|aj<|lN (own:=[("byte",1)]) L d (iG<|pv 0) (kL (show jO ["text","byte"] (cR<|top 19) _ _=Y by decide+kernel)) (λ_ _ _ _ _=>(d7 1 d)) (λ_ _ _ _ _=>pA)<|λ_ _ _ _ _=>(aO (tu T) m<|aj<|pv 1)),?_⟩;refine⟨_,L,_,L,⟨_,aM.of c⟩,λD n=>?_⟩;refine Ak (Ob<|d5 97 122) (aM.of c) n (j a _ (aM.of c)) (λx e f p g o=>?_)<|λf g i=>?_
 ·obtain⟨b,_,rfl⟩:∃b,b∈l/\(V.int (b:Nat))=x:=by unfold tx at e;simpa using e
  exact⟨_,L,_,L,o⟩
 ·rw[Yw] at i;exact⟨_,_,L,aM.of i,Yv xM l<|k f g⟩
def E1{l:S}{n:Nat}(h:l[0]?=O n):ij (tx l) 0=O (V.int n):=fJ (j:=0)<|J2 h
def E2(h:0<l.length):∃n,l[0]?=O n/\bc b7 l=b7 n:=by
 cases l with
 |nil=>cases h
 |cons b s=>exact⟨b,L,L⟩
def E3:T.bb T.LC 3 (qO genusText):=T.LC.aU<|bN λH Q E t u d h=>by
 obtain⟨a,l,rfl,e,k⟩:=h;refine⟨_,(aC<|aK<|ie (aO (Oa T) d<|aj<|pv 0)<|ie (aO (tw T) d<|aj<|bT b8 (pv 0) aI)<|ic<|aO (EZ T) d<|aj<|kI kJ (pv 0) (jg aI) px),?_⟩;refine⟨_,L,_,_,L,e,λj b=>⟨_,L,bh (λh=>?_)<|λh=>cI (k j b) (by rw[Av];unfold vL at h;rw[h];rfl)⟩⟩;have m:2<=l.length/\l.length<=40:=df h;obtain⟨n,o,g⟩:=E2 (l:=l) aG;refine⟨_,L,_,_,_,_,L,L,aM.of<|b _ _ e,E1 o,_,L,λi f=>⟨_,L,bh (λc=>?_)<|λc=>cI (k i<|b.trans f) ?_⟩⟩
 ·refine⟨_,L,_,L,_,_,L,aM.of<|f _ _ (b _ _ e),λp q=>⟨_,l.drop 1,L,?_,λr s=>cI (k r<|(b.trans f).trans<|(J.new q).trans s) ?_⟩⟩
  ·show upd i p _ p=_;rw[ba,AU aB,x9];rfl
  ·rw[pG] at c;rw[Av,eN m,g,c];rfl
 ·rw[pG] at c;rw[Av,g,c,ux,Hj]
def Yx:T.bb T.LD 3 (qO HF):=T.LD.aU<|bN λH Q E s t f h=>by
 obtain⟨a,l,rfl,c,k⟩:=h;refine⟨_,(aC<|aK<|ie (kG ig f9 aI (b6 cB aZ T.cn cq<|aj<|pv 0)<|cD T.pI)<|ie (aO (tw T) f<|aj<|bT b8 (pv 0) aI)<|ic<|aO (EZ T) f<|aj<|kI kJ (pv 0) (jg aI) px),?_⟩;refine⟨_,L,_,_,L,.inl<|aM.of c,_,_,L,L,_,L,bh (λh=>⟨_,_,L,L,_,L,bh (λd=>?_)<|λd=>cI (k H J.rf) ?_⟩)<|λh=>⟨_,L,mP<|cI (k H J.rf) ?_⟩⟩
 ·rw[bX,bO] at h d;obtain⟨n,j,g⟩:=E2 (l:=l) aG;have m:1<=l.length/\l.length<40:=by omega
  refine⟨_,L,_,_,_,_,L,L,aM.of c,E1 j,_,L,λi e=>⟨_,L,bh (λb=>?_)<|λb=>cI (k i e) ?_⟩⟩
  ·refine⟨_,L,_,L,_,_,L,aM.of<|e _ _ c,λp o=>⟨_,l.drop 1,L,?_,λq r=>cI (k q<|e.trans<|(J.new o).trans r) ?_⟩⟩
   ·show upd i p _ p=_;rw[ba,AU aB,x9];rfl
   ·rw[pG] at b;rw[Aw,eN m,g,b];rfl
  ·rw[pG] at b;rw[Aw,g,b,ux,Hj]
 ·rw[bX,hU] at d;rw[Aw,gP aG,ux]
 ·rw[bX,hU] at h;rw[Aw,gP aG,ux]
def Oc{l:S}(h:0<l.length):∃n,l.getLast?=O n/\ij (tx l) (-1)=O (V.int n):=by
 have a:l≠[]:=wY.mp h;refine⟨l.getLast a,af9 a,?_⟩;have e:tx l=tx l.dropLast++[V.int (l.getLast a:Nat)]:=by
  show _=tx l.dropLast++tx [l.getLast a];rw[gh,zq]
 rw[e];exact DO _ _
def AX(n:Nat):decide (V.int (n:Int)=V.int 45)=decide (n=45):=by
 apply cY.mpr;constructor
 ·intro h;have:=V.int.inj h;omega
 ·intro h;rw[h];rfl
def yd(k:Nat):V->Bool
 |.int i=>!decide (i=(k:Int))
 |_=>Y
def Od(k:Nat)(l:S):(tx l).filter (yd k)=tx (l.filter λb=>b !=k):=by
 unfold tx;rw[List.filter_map];congr 1;apply List.filter_congr;intro b _;show(!decide ((b:Int)=(k:Int)))=(b !=k);unfold bne;rw[fS];congr 1;apply cY.mpr;omega
def E4:T.bb T.LF 3 (qO jI):=T.LF.aU<|cW ["text","byte"] λH Q E t C u h=>by
 obtain⟨a,l,rfl,j,k⟩:=h;refine⟨_,(aD (bw (eJ<|cN<|aO (Oa T) u<|aj<|pv 0) (aC<|aK jN) bB)<|aD (bw (PW.pt<|nR (bK de (bT b8 (pv 0) aI)<|cD T.nY)<|nR (bK de (bT b8 (pv 0)<|du dv aI)<|cD T.nY)<|oZ<|bK kF (eK eL af8 PySem.F.type_list_count Yt (pv 0)<|aj<|cD T.nY) aI) (aC<|aK jN) bB)<|aC<|aK<|aO (EZ T) u<|aj<|lN (own:=[("byte",1)]) L t (iG<|pv 0) (kL (show jO ["text","byte"] (cR<|top 22) _ _=Y by decide+kernel)) (λ_ _ _ _ _=>(d7 1 t)) (λ_ _ _ _ _=>(Ad<|bK pb (pv 1)<|cD T.nY))<|λ_ _ _ _ _=>(pv 1)),?_⟩;refine⟨_,L,_,_,L,j,λf c=>⟨_,L,bh (λh=>cI (k f c) ?_)<|λh=>?_⟩⟩
 ·rw[mS];unfold vL at h;rw[dZ] at h;rw[h];rfl
 ·rw[eG] at h;have A:2<=l.length/\l.length<=40:=df h;obtain⟨n,v,_⟩:=E2 (l:=l) aG;obtain⟨m,w,B⟩:=Oc (l:=l) aG;have y:l.head?=O n:=by rw[List.head?_eq_getElem?];exact v
  have d:aY f a l:=c _ _ j;refine⟨_,L,_,_,_,_,L,L,aM.of d,E1 v,L,_,L,bh (λg=>mQ<|cI (k f c) ?_)<|λg=>?_⟩
  ·rw[AX,bO] at g;rw[mS,y,g];simp
  refine⟨_,L,_,L,_,_,_,_,L,L,aM.of d,B,L,_,L,bh (λi=>mQ<|cI (k f c) ?_)<|λi=>?_⟩
  ·rw[AX,bO] at i;rw[mS,w,i];simp
  refine⟨_,L,.inl ⟨L,_,aM.of d⟩,a,l,45,L,L,aM.of d,_,_,L,L,_,L,bh (λo=>cI (k f c) ?_)<|λo=>?_⟩
  ·rw[bO] at o;rw[mS,eN (show 1<(l.filter λb=>b==45).length by omega)];simp
  refine⟨_,L,_,L,⟨_,aM.of d⟩,λaa D=>?_⟩;refine Ej (yd 45) id (aM.of d) D (C a _ (aM.of j)) (λx p q I r s=>?_) (λx p _ q I r s=>⟨_,L,s _ J.rf⟩)<|λq r z=>?_
  ·obtain⟨b,_,rfl⟩:∃b,b∈l/\(V.int (b:Nat))=x:=by unfold tx at p;simpa using p
   refine⟨_,L,L,_,L,?_⟩;have:=s q J.rf;rw[AX];have e:yd 45 (V.int (b:Nat))=!decide (b=45):=by
    show(!decide ((b:Int)=((45:Nat):Int)))=_;congr 1;apply cY.mpr;omega
   rw[e] at this;exact this
  ·rw[HH,Od] at z;refine⟨_,_,L,z,λM N=>cI (k M<|c.trans<|r.trans N) ?_⟩;rw[AX,hU] at g i;rw[hU] at o;rw[mS,eN (show 2<=l.length/\l.length<=40 from A),y,w,gP (show¬1<(l.filter λb=>b==45).length by omega)];simp[g,i]
def G(t:TE)(U:L2.St)(H:Hp)(v:V):Prop:=∀Q:VK,(∀a,J H a->Q v a)->t U H Q
def bg(t:TT)(U:L2.St)(H:Hp)(c:Bool):Prop:=∀Q:Bool->Hp->Prop,(∀a,J H a->Q c a)->t U H Q
section
variable{U:L2.St}{H:Hp}{t u ta tb tc:TE}{tt uu:TT}{a b:Bool}
def fM(h:U[i]?=O (O v)):G (dQ i) U H v:=λQ k=>⟨v,h,k H J.rf⟩
def aQ:G (tC v) U H v:=λQ k=>k H J.rf
def W(h:U[i]?=O (O v):=by rfl):G (dQ i) U H v:=fM h
def aR(h:U[i]?=O (O v):=by rfl)(c:Hp)(_:J H c):G (dQ i) U c v:=fM h
def bq(c:Hp)(_:J H c):G (tC v) U c v:=aQ
def jB(e:G ta U H (.bl a))(f:∀c,J H c->a=Y->G tb U c (.bl b)):G (Iv ta tb) U H (.bl<|a&&b):=λQ k=>e _ λc d=>⟨a,L,by
 cases a with
 |true=>exact mQ<|f c d L _ λg h=>k g<|d.trans h
 |false=>exact mP<|k c d⟩
def AY(e:G ta U H (.bl a))(f:∀c,J H c->a=ax->G tb U c (.bl b)):G (Iw ta tb) U H (.bl<|a||b):=λQ k=>e _ λc d=>⟨a,L,by
 cases a with
 |false=>exact mP<|f c d L _ λg h=>k g<|d.trans h
 |true=>exact mQ<|k c d⟩
def Yy(h:G ta U H (.bl a)):G (Iy ta) U H (.bl<|!a):=λQ k=>h _ λc d=>⟨a,L,k c d⟩
def cS(h:G t U H (.bl a)):bg (tB t) U H a:=λQ k=>h _ λc d=>⟨a,L,k c d⟩
def bI(h:G t U H (.bl a)):bg (zW t) U H a:=λQ k=>h _ λc d=>⟨a,L,k c d⟩
def iq(e:bg tt U H a)(f:∀c,J H c->a=Y->bg uu U c b):bg (Iq tt uu) U H (a&&b):=λQ k=>e _ λc d=>by
 cases a with
 |true=>exact mQ<|f c d L _ λg h=>k g<|d.trans h
 |false=>exact mP<|k c d
def pK(e:bg tt U H a)(f:∀c,J H c->a=ax->bg uu U c b):bg (Ir tt uu) U H (a||b):=λQ k=>e _ λc d=>by
 cases a with
 |false=>exact mP<|f c d L _ λg h=>k g<|d.trans h
 |true=>exact mQ<|k c d
def eM(h:bg tt U H a):bg (Iu tt) U H (!a):=λQ k=>h _ λc d=>k c d
def bg.iM{c t u}(h:bg c U H a)(k:∀d,J H d->if a=Y then t D U d else u D U d):sA c t u D U H:=h _ k
def G.ret(h:G t U H v)(k:∀c,J H c->D.rt v c):o8 t D U H:=h _ k
def cj(e:G ta U H (.int i))(f:∀c,J H c->G tb U c (.int j)):G (dG (mJ g) ta tb) U H (g i j):=λQ k=>
 e _ λc d=>f c d _ λh l=>⟨i,j,L,L,k h<|d.trans l⟩
def dA(c:G ta U H (.int i)):G (DG (rU g) ta) U H (g i):=λQ k=>c _ λd e=>⟨i,L,k d e⟩
def qQ{p q:Int->Int->Bool}{x y z:Int}(g:G ta U H (.int x))(l:∀c,J H c->G tb U c (.int y))(m:∀c,J H c->G tc U c (.int z)):
  G (IT (mJ λi j=>.bl<|p i j) (mJ λi j=>.bl<|q i j) ta tb tc) U H (.bl<|p x y&&q y z):=λQ k=>
 g _ λc d=>l c d _ λf e=>⟨x,y,L,L,p x y,L,by
  cases h:p x y with
  |true=>exact mQ<|m f (d.trans e) _ λn o=>⟨y,z,L,L,by have:=k n<|(d.trans e).trans o;rw[h] at this;exact this⟩
  |false=>exact mP (by have:=k f<|d.trans e;rw[h] at this;exact this)⟩
def Yz(e:G ta U H x)(f:∀c,J H c->G tb U c y)(hs:zS x y=Y):G (dG zT ta tb) U H (.bl<|decide (x=y)):=λQ k=>
 e _ λc d=>f c d _ λg h=>⟨hs,k g<|d.trans h⟩
def YA(e:G ta U H x)(f:∀c,J H c->G tb U c y)(hs:zS x y=Y):G (dG DI ta tb) U H (.bl<|!decide (x=y)):=λQ k=>
 e _ λc d=>f c d _ λg h=>⟨hs,k g<|d.trans h⟩
def E5:decide (V.int i=V.int j)=decide (i=j):=by
 apply cY.mpr;constructor
 ·intro h;exact V.int.inj h
 ·intro h;rw[h]
def dw(d:G ta U H (.int i))(e:∀c,J H c->G tb U c (.int j)):G (dG zT ta tb) U H (.bl<|decide (i=j)):=by
 rw[<-E5];exact Yz d e L
def tD(d:G ta U H (.int i))(e:∀c,J H c->G tb U c (.int j)):G (dG DI ta tb) U H (.bl<|!decide (i=j)):=by
 rw[<-E5];exact YA d e L
def g8(h:G t U H (.int i)):G (cA (qN f) [] E<|aN t aW) U H (.bl<|f i):=λQ k=>h _ λg c=>⟨i,L,λd e=>k d<|c.trans e⟩
def pL(h:G t U H (.ref p))(d:aY H p l):G (cA (qO f) [] E<|aN t aW) U H (.bl<|f l):=λQ k=>h _ λi c=>⟨p,l,L,c _ _ d,λe g=>k e<|c.trans g⟩
def iN{p:af}{xs:List V}(h:G t U H (.ref p))(d:aM K H p xs):G (gG (λxs H Q=>∃p ys,xs=[.ref p]/\(aM K H p ys∨cO K H p ys)/\Q (.int ys.length) H)<|aN t aW) U H (.int (xs.length:Nat)):=λQ k=>
 h _ λe c=>⟨p,xs,L,.inl<|c.seq d,k e c⟩
def fu{p:af}{l:S}(h:G t U H (.ref p))(c:aY H p l):G (gG (λxs H Q=>∃p ys,xs=[.ref p]/\(aM K H p ys∨cO K H p ys)/\Q (.int ys.length) H)<|aN t aW) U H (.int (l.length:Nat)):=by
 have:=iN (K:=K) h<|aM.of c;rw[bX] at this;exact this
def e8{p:af}{xs:List V}{i:Int}{v:V}(f:G ta U H (.ref p))(g:∀c,J H c->G tb U c (.int i))(h:aM K H p xs)(j:ij xs i=O v):G (dG (j8 K) ta tb) U H v:=λQ k=>
 f _ λc d=>g c d _ λl e=>⟨p,xs,i,v,L,L,(d.trans e).seq h,j,k l<|d.trans e⟩
def dJ{f:ao}{p C dx:af}{fs:List (ao×V)}{v:V}(h:G t U H (.ref p))(d:H p=O (.ins C dx fs))(cl:fg K C)(e:gb K C f)(g:fs.lookup f=O v):G (cz K t f) U H v:=λQ k=>
 h _ λi c=>⟨p,C,dx,fs,v,L,c _ _ d,cl,e,g,k i c⟩
end
def YB(h:0<=k):jh (tx l) (O k) ai=tx (l.drop k.toNat):=by rw[AU h,x9]
def E6{α:Type}{l:List α}{i:Nat}{x:α}(h:l[i]?=O x):l.drop i=x::l.drop (i+1):=by
 obtain⟨a,e⟩:=fC.mp h;rw[zr a,e]
def E7(h:x∈tx l):∃b:Nat,b∈l/\x=V.int (b:Int):=by
 unfold tx at h;obtain⟨b,a,e⟩:=iz.mp h;exact⟨b,a,e.symm⟩
def cU(H:Hp)(p:af)(ls:List S):Prop:=∃b:List af,H p=O (.lst<|b.map V.ref)/\b.length=ls.length/\∀(i:Nat)(a:af)(l:S),b[i]?=O a->ls[i]?=O l->aY H a l
def cU.same(h:cU H p ls)(s:J H H'):cU H' p ls:=by
 obtain⟨b,c,d,e⟩:=h;exact⟨b,s _ _ c,d,λi a l f g=>s _ _ (e i a l f g)⟩
def cU.lst{H:Hp}{p:af}{ls:List S}(h:cU H p ls):∃xs,aM K H p xs/\xs.length=ls.length:=by
 obtain⟨c,a,b,d⟩:=h;exact⟨_,aM.of a,by rw[bH];exact b⟩
def tF{t:TE}{U:L2.St}{H:Hp}{p:af}{ls:List S}(h:G t U H (.ref p))(a:cU H p ls):G (gG (λxs H Q=>∃p ys,xs=[.ref p]/\(aM K H p ys∨cO K H p ys)/\Q (.int ys.length) H)<|aN t aW) U H (.int (ls.length:Nat)):=by
 obtain⟨xs,b,c⟩:=a.lst (K:=K);have:=iN (K:=K) h b;rw[c] at this;exact this
def YC(a:Bool)(b:Nat)(r:S):kO a (b::r)=if(a&&!great b)=Y then ax else if(!letter b&&!joint b)=Y then ax else kO (iA b) r:=rfl
def YD:T.bb T.LG 3 (qO uK):=T.LG.aU<|cW ["text","needs_capital","byte"] λH Q E p y m h=>by
 obtain⟨a,l,rfl,q,k⟩:=h;refine⟨_,(aD (cw 1 p jN)<|aD (iH iC L (iG<|pv 0) (d7 2 p)<|aD (bw (PW.pt<|iF (cN<|pv 1)<|iE<|eJ<|cN<|aO (tw T) m<|aj<|pv 2) (aC<|aK jN) bB)<|aD (bw (PW.pt<|iF (eJ<|cN<|aO (N7 T) m<|aj<|pv 2)<|iE<|eJ<|cN<|aO (EX T) m<|aj<|pv 2) (aC<|aK jN) bB)<|aC<|cw 1 p<|aO (EX T) m<|aj<|pv 2)<|aC<|aK<|ie (US<|pv 1)<|ic<|gw ig (b6 cB aZ T.cn cq<|aj<|pv 0)<|cD T.pI),?_⟩;refine⟨_,L,a,L,⟨_,aM.of q⟩,zN (K:=K) (a:=a) (xs:=tx l) (λi U n=>∃(d:Bool)(v:Option V),U=[O (.ref a),O<|.bl d,v]/\J H n/\kO Y l=kO d (l.drop i))
  ⟨Y,ai,L,J.rf,L⟩ (λi U n _ ⟨_,_,_,s,_⟩=>s.seq<|aM.of q) ?_ ?_⟩
 ·rintro i x U n t ⟨d,v,rfl,s,e⟩;obtain⟨b,u,rfl⟩:=J3 t;rw[E6 u,YC] at e;refine bg.iM (iq (cS W) λf c _=>eM<|cS<|g8 W) λf c=>bh (λg=>cI (k f<|s.trans c) ?_)<|λg=>?_
  ·rw[pG] at g;rw[aA g] at e;rw[Ax,e];rfl
  rw[pG] at g;rw[ak (by rw[g];decide)] at e;refine bg.iM (iq (eM<|cS<|g8 W) λr o _=>eM<|cS<|g8 W) λr o=>bh (λj=>cI (k r<|s.trans<|c.trans o) ?_)<|λj=>?_
  ·rw[N9,AW] at j;rw[aA j] at e;rw[Ax,e];rfl
  rw[N9,AW] at j;rw[ak (by rw[j];decide)] at e;exact⟨_,L,_,L,λz w=>⟨_,_,L,s.trans<|c.trans<|o.trans w,by rw[AW];exact e⟩⟩
 ·rintro U n ⟨d,v,rfl,s,e⟩;rw[bX,List.drop_length] at e;refine G.ret (jB (Yy W) λf c _=>cj (fu W<|c _ _ (s _ _ q)) λr o=>aQ) λf c=>cI (k f<|s.trans c) ?_;rw[Ax,e];show(!d&&_)=_;congr 1;apply cY.mpr;omega
def Oe(f:List S->Bool):Sp:=λc H Q _=>∃p a,c=[.ref p]/\cU H p a/\∀b,J H b->Q (.bl<|f a) b
def YE(h:G t U H (.ref p))(b:cU H p ls):G (cA (Oe f) [] E<|aN t aW) U H (.bl<|f ls):=λQ k=>h _ λe a=>⟨p,ls,L,b.same a,λc d=>k c<|a.trans d⟩
def AZ(vs:List V):S:=vs.map λv=>match v with
 |.int i=>i.toNat
 |_=>0
def YF(l:S):AZ (tx l)=l:=by
 unfold AZ tx;rw[iB];exact(uM λb _=>rfl).trans<|HH l
def jS(H:Hp):V->S
 |.ref a=>match H a with
  |some (.lst b)=>AZ b
  |_=>[]
 |_=>[]
def Of(h:aY H a l):jS H (.ref a)=l:=by
 show(match H a with
  |some (.lst b)=>AZ b
  |_=>[])=l
 rw[h];exact YF l
def cU.by (h:cU H p ls):∃as:List af,H p=O (.lst<|as.map V.ref)/\(as.map V.ref).map (jS H)=ls/\∀x∈as.map V.ref,∃a,x= .ref a/\aY H a (jS H x):=by
 obtain⟨as,f,c,d⟩:=h;refine⟨as,f,?_,λx g=>?_⟩
 ·apply Ua;intro i;rw[iB,eU];cases e:as[i]?with
  |none=>rw[aga] at e;rw[Ho aG];rfl
  |some a=>
   have b:i<ls.length:=by rw[<-c];exact(fC.mp e).1
   rw[gq b];show O (jS H<|.ref a)=_;rw[Of (d i a _ e (gq b))]
 ·obtain⟨a,j,rfl⟩:=iz.mp g;obtain⟨i,b⟩:=uN.mp j;have k:i<ls.length:=by rw[<-c];exact(fC.mp b).1
  have:=d i a _ b (gq k);exact⟨a,L,by rw[Of this];exact this⟩
def E8{U:L2.St}{H:Hp}{p:af}{xs:List V}{i v:Nat}{c:TE}{g:V->Bool}(e:U[i]?=O (O<|.ref p))(d:aM K H p xs)(hz:xs.length<=br)
  (f:∀x∈xs,∀a,J H a->G c ((wipe U [v]).set v<|O x) a (.bl<|g x)):G (gG (DV K)<|aN (ve (xl K<|dQ i) (fV v) sM c [v]) aW) U H (.bl<|xs.all g):=λQ k=>
 ⟨_,e,p,L,⟨_,d⟩,λD h=>Ak (λx=>.bl<|g x) d h hz (λx j a l b m=>f x j a b l m) λa b n=>⟨D,xs.map g,L,aM.of (by rw[n,iB];rfl),by rw[qj];exact k a b⟩⟩
def YG:T.bb T.LH 4 (Oe vA):=T.LH.aU<|cW ["authors","author"] λH Q E f j l h=>by
 obtain⟨p,g,rfl,d,k⟩:=h;refine⟨_,(aC<|aK<|ie (kG ig ig aI (b6 cB aZ T.cn cq<|aj<|pv 0)<|cD T.Lj)<|ic<|b6 (xw L) aZ T.xT x8<|aj<|lN (own:=[("author",1)]) L f (iG<|pv 0) (kL (show jO ["authors","author"] (cR<|top 28) _ _=Y by decide+kernel)) (λ_ _ _ _ _=>(d7 1 f)) (λ_ _ _ _ _=>pA)<|λ_ _ _ _ _=>(aO (YD T) l<|aj<|pv 1)),?_⟩;refine G.ret (jB (b:=g.all uK) (qQ aQ (λc b=>tF W<|d.same b) λc b=>aQ) λc b _=>?_) λc b=>cI (k c b) ?_
 ·obtain⟨m,n,i,o⟩:=(d.same b).by
  have e:g.all uK=(m.map V.ref).all λx=>uK (jS c x):=by rw[<-i,qj];rfl
  rw[e];refine E8 (i:=0) (v:=1) L (aM.of n) ?_ λx q w r=>?_
  ·obtain⟨v,s,y,_⟩:=d;have:=j p _ (aM.of s);rw[bH] at this⊢;have t:=fG fZ i;rw[bH,bH] at t;omega
  ·obtain⟨a,rfl,u⟩:=o x q;exact pL W<|r _ _ u
 ·unfold vA;congr 1;congr 1<;>(apply cY.mpr;omega)
def E9(f:List S->Int->Int->Bool):Sp:=λe H Q _=>∃p c a b,e=[.ref p,.int a,.int b]/\cU H p c/\∀d,J H d->Q (.bl<|f c a b) d
def A0(h:G g U H (.ref p))(i:∀a,J H a->G j U a (.int etal))(l:∀a,J H a->G m U a (.int d))(n:cU H p ls):
  G (cA (E9 f) [] E<|aN g<|aN j<|aN m aW) U H (.bl<|f ls etal d):=λQ k=>h _ λa b=>i a b _ λo c=>l o (b.trans c) _ λs e=>⟨p,ls,etal,d,L,n.same<|(b.trans c).trans e,λq r=>k q<|((b.trans c).trans e).trans r⟩
def Oh(h:G t U H (.int i)):G (dG (va K neg) t<|DM<|aN (tC<|.int a)<|aN (tC<|.int b) aW) U H (.bl (if neg then !(decide (i=a)||decide (i=b)) else(decide (i=a)||decide (i=b)))):=λQ k=>
 h _ λf c=>⟨(by show 2<=br;decide),λp d=>⟨p,_,L,.inr<|cO.of ba,L,L,by
  have e:lM (V.int i) [V.int a,V.int b]=(decide (i=a)||decide (i=b)):=by
   unfold lM;simp only[oO,T9,lL,wL];congr 1<;>(rw[fS];apply cY.mpr;omega)
  rw[e];exact k _ (c.trans<|J.new d)⟩⟩
def Oi:T.bb T.LI 5 (E9 nX):=T.LI.aU<|bN λH Q E o q l h=>by
 obtain⟨p,r,m,n,rfl,i,k⟩:=h;refine⟨_,(aD (bw (eJ<|cN<|aO (YG T) l<|aj<|pv 0) (aC<|aK jN) bB)<|aD (bw (PW.pt<|nR (xn z5 (pv 1) (zX<|aP aI<|aj aI)<|by with_unfolding_all rfl)<|oZ<|PW.pt<|iF (bK de (pv 1) aI)<|iE<|bK kF (b6 cB aZ T.cn cq<|aj<|pv 0) aI) (aC<|aK jN) bB)<|aC<|aK<|kG ig ig (cD T.XO) (pv 2)<|cD T.XQ),?_⟩;refine bg.iM (eM<|cS<|YE W i) λf b=>bh (λc=>cI (k f b) ?_)<|λc=>?_
 ·rw[dZ] at c;unfold nX;rw[aA c]
 rw[eG] at c;refine bg.iM (pK (bI<|Oh W) λj d _=>iq (bI<|dw W λg e=>aQ) λg e _=>bI<|cj (tF W<|i.same<|b.trans<|d.trans e) λs t=>aQ) λj d=>bh (λa=>cI (k j<|b.trans d) ?_)<|λa=>?_
 ·unfold nX;rw[ak (by rw[c];decide),aA];simp at a;rcases a with a|a
  ·left;omega
  ·right;omega
 refine G.ret (qQ aQ (λf b=>fM L) λf b=>aQ) λg e=>cI (k g<|b.trans<|d.trans e) ?_;unfold nX;rw[ak (by rw[c];decide),ak];simp at a;intro z;rcases z with z|z
 ·omega
 ·have:=a.2 z.1;omega
def Oj:T.bb T.LJ 1 (E9 pH):=T.LJ.aU<|bN λH Q E f g i h=>by
 obtain⟨p,j,d,e,rfl,c,k⟩:=h;refine⟨_,(aC<|aK<|ie (gw de (b6 cB aZ T.cn cq<|aj<|pv 0) aI)<|ie (gw de (pv 1) aI)<|ic<|gw de (pv 2) aI),?_⟩;refine G.ret (jB (dw (tF W c) λa b=>aQ) λa b _=>jB (dw W λa b=>aQ) λa b _=>dw W λa b=>aQ) λa b=>cI (k a b) ?_;unfold pH;congr 1;apply cY.mpr;omega
def fh(t:TE)(U:L2.St)(H:Hp)(vs:List V):Prop:=∀Q:VK,(∀a p,J H a->a p=O (.lst vs)->Q (.ref p) a)->t U H Q
def aL(t:TE)(U:L2.St)(H:Hp)(vs:List V):Prop:=∀Q:VK,(∀a p,J H a->H p=ai->a p=O (.lst vs)->Q (.ref p) a)->t U H Q
section
variable{U:L2.St}{H:Hp}{t u ta tb tc:TE}{xs ys vs:List V}
def aL.x(h:aL t U H vs):fh t U H vs:=λQ k=>h Q λa p s _ b=>k a p s b
def G.x(h:G t U H (.ref p))(a:H p=O (.lst vs)):fh t U H vs:=λQ k=>h Q λb s=>k b p s<|s _ _ a
def aL.ret(h:aL t U H vs)(k:∀a p,J H a->H p=ai->a p=O (.lst vs)->D.rt (.ref p) a):o8 t D U H:=h _ k
def aL.cv(h:aL t U H xs)(e:xs=ys):aL t U H ys:=e▸h
def fh.cv(h:fh t U H xs)(e:xs=ys):fh t U H ys:=e▸h
def G.cv(h:G t U H v)(e:v=w):G t U H w:=e▸h
def fX(e:fh ta U H xs)(f:∀a,J H a->fh tb U a ys)(hz:xs.length+ys.length<=br):aL (dG z8 ta tb) U H (xs++ys):=λQ k=>
 e _ λa p b g=>f a b _ λi q c h=>⟨p,q,xs,ys,L,L,c _ _ g,h,hz,λr d=>k _ r ((b.trans c).trans<|J.new d) ((b.trans c).free d) ba⟩
def ir:aL (pj aW) U H []:=λQ k=>⟨dD _,λp a=>k _ p (J.new a) a ba⟩
def eW(h:G t U H v):aL (pj<|aN t aW) U H [v]:=λQ k=>h _ λc a=>⟨(by show 1<=br;decide),λp b=>k _ p (a.trans<|J.new b) (a.free b) ba⟩
def Ol(h:fh t U H xs):aL (gG (λxs H Q=>∃p ys,xs=[.ref p]/\(aM K H p ys∨cO K H p ys)/\∀l,H l=ai->Q (.ref l) (upd H l<|.lst ys))<|aN t aW) U H xs:=λQ k=>
 h _ λd p a c=>⟨p,xs,L,.inl<|aM.of c,λl b=>k _ l (a.trans<|J.new b) (a.free b) ba⟩
def Fb{i j:Int}(h:fh t U H xs)(f:∀a,J H a->G ta U a (.int i))(g:∀a,J H a->G tb U a (.int j)):aL (sH (sJ K) t (pw ta)<|pw tb) U H (jh xs (O i)<|O j):=λQ k=>
 h _ λa p b l=>f a b _ λm c=>⟨i,L,g m (b.trans c) _ λn d=>⟨j,L,p,xs,L,aM.of<|d _ _ (c _ _ l),λr e=>k _ r (((b.trans c).trans d).trans<|J.new e) (((b.trans c).trans d).free e) ba⟩⟩
def Om{i:Int}(h:fh t U H xs)(e:∀a,J H a->G ta U a (.int i)):aL (sH (sJ K) t (pw ta) xt) U H (jh xs (O i) ai):=λQ k=>
 h _ λa p b f=>e a b _ λg c=>⟨i,L,p,xs,L,aM.of<|c _ _ f,λr d=>k _ r ((b.trans c).trans<|J.new d) ((b.trans c).free d) ba⟩
def A1{j:Int}(h:fh t U H xs)(e:∀a,J H a->G tb U a (.int j)):aL (sH (sJ K) t xt<|pw tb) U H (jh xs ai<|O j):=λQ k=>
 h _ λa p b f=>e a b _ λg c=>⟨j,L,p,xs,L,aM.of<|c _ _ f,λr d=>k _ r ((b.trans c).trans<|J.new d) ((b.trans c).free d) ba⟩
def Oo(h:G t U H (.str x))(b:x.cps.size<=1000):aL (cA EY [] E<|aN t aW) U H (tx x.cps.toList):=λQ k=>
 h _ λg a=>⟨x,L,b,λc p d e f=>k c p (a.trans d) (a.free e) f⟩
def aL.set(h:aL t U H vs)(k:∀a p,J H a->H p=ai->a p=O (.lst vs)->D.nx (U.set i<|O<|.ref p) a):nT t (fV i) D U H:=h _ k
def ye{D:Ends}{p:af}{v:V}(e:G ta U H (.ref p))(c:H p=O (.lst xs))(f:∀a,J H a->G tb U a v)(hz:xs.length<br)(k:∀a,J H a->D.nx U (upd a p<|.lst<|xs++[v])):
  gu (kK K "list" pz ta<|aN tb aW) D U H:=e _ λa b=>⟨.inl ⟨L,_,aM.of<|b _ _ c⟩,f a b _ λg d=>⟨p,xs,v,L,L,d _ _ (b _ _ c),hz,k g<|b.trans d⟩⟩
def pM{D:Ends}{p:af}(e:G ta U H (.ref p))(c:H p=O (.lst xs))(f:∀a,J H a->fh tb U a ys)(hz:xs.length+ys.length<=br)(k:∀a,J H a->D.nx U (upd a p<|.lst<|xs++ys)):
  gu (kK K "list" sL ta<|aN tb aW) D U H:=e _ λa b=>⟨.inl ⟨L,_,aM.of<|b _ _ c⟩,f a b _ λg q d h=>⟨p,q,xs,ys,L,L,d _ _ (b _ _ c),h,hz,k g<|b.trans d⟩⟩
end
def sq(h:t {D with nx:=u D} U H):cF t u D U H:=h
def Oq{t:TE}{g:TG}{b:TS}{D:Ends}{U:L2.St}{H:Hp}{xs:List V}(h:aL t U H xs)
  (k:∀a p,J H a->H p=ai->a p=O (.lst xs)->∃Pv:Nat->L2.St->Hp->Prop,Pv 0 U a/\(∀i U H',i<=xs.length->Pv i U H'->H' p=O (.lst xs))/\
   (∀i x U H',xs[i]?=O x->Pv i U H'->g x U H' λσ2 d=>b {D with nx:=Pv<|i+1,ct:=Pv<|i+1,bk:=D.nx} σ2 d)/\∀U H',Pv xs.length U H'->D.nx U H'):nU (xl K t) g b D U H:=
 h _ λa p s n c=>⟨p,L,⟨_,aM.of c⟩,by
  obtain⟨Pv,e,f,j,l⟩:=k a p s n c;exact zN Pv e (λi U H' m q=>aM.of<|f i U H' m q) j l⟩
def YH(Pv:L2.St->Hp->Prop)(μ:L2.St->Hp->Nat)(d:Pv U H)
  (hs:∀U H,Pv U H->∃b,bg c U H b/\∀a,J H a->if b=Y then e {D with nx:=λσ' H'=>Pv σ' H'/\μ σ' H'<μ U H,ct:=λσ' H'=>Pv σ' H'/\μ σ' H'<μ U H,bk:=D.nx} U a else D.nx U a):u4 c e D U H:=by
 refine⟨λm U H=>m=μ U H/\Pv U H,⟨_,L,d⟩,?_⟩;rintro m U H ⟨rfl,p⟩;obtain⟨b,h,k⟩:=hs U H p;refine h _ λa f=>?_;have q:=k a f;cases b with
 |true=>
  rw[aA L] at q;refine(aA L).mpr ?_;exact⟨_,λσ' H' ⟨g,l⟩=>⟨_,l,L,g⟩,q⟩
 |false=>
  rw[ak fe] at q;exact(ak fe).mpr q
section
variable{U:L2.St}{H:Hp}{t ta tb:TE}{xs ys vs:List V}{D:Ends}{u a b:TS}
def aL.eB(h:aL t U H vs)(k:∀c p,J H c->H p=ai->c p=O (.lst vs)->u D (U.set i<|O<|.ref p) c):cF (nT t<|fV i) u D U H:=h _ k
def G.eB(h:G t U H v)(k:∀c,J H c->u D (U.set i<|O v) c):cF (nT t<|fV i) u D U H:=h _ k
def bg.bU(h:bg c U H x)(k:∀d,J H d->if x=Y then a {D with nx:=u D} U d else u D U d):cF (sA c a u0) u D U H:=h _ k
def yf{p:af}{v:V}(d:G ta U H (.ref p))(e:H p=O (.lst xs))(f:∀c,J H c->G tb U c v)(hz:xs.length<br)(k:∀c,J H c->u D U (upd c p<|.lst<|xs++[v])):
  cF (gu<|kK K "list" pz ta<|aN tb aW) u D U H:=ye d e f hz k
def Ot{p:af}(d:G ta U H (.ref p))(e:H p=O (.lst xs))(f:∀c,J H c->fh tb U c ys)(hz:xs.length+ys.length<=br)(k:∀c,J H c->u D U (upd c p<|.lst<|xs++ys)):
  cF (gu<|kK K "list" sL ta<|aN tb aW) u D U H:=pM d e f hz k
def A2{g:TG}{d:TS}(h:aL t U H xs)
  (k:∀c p,J H c->H p=ai->c p=O (.lst xs)->∃Pv:Nat->L2.St->Hp->Prop,Pv 0 U c/\(∀i U H',i<=xs.length->Pv i U H'->H' p=O (.lst xs))/\
   (∀i x U H',xs[i]?=O x->Pv i U H'->g x U H' λσ2 e=>d {D with nx:=Pv<|i+1,ct:=Pv<|i+1,bk:=u D} σ2 e)/\∀U H',Pv xs.length U H'->u D U H'):cF (nU (xl K t) g d) u D U H:=Oq h k
def vM{c:TT}{e:TS}(Pv:L2.St->Hp->Prop)(μ:L2.St->Hp->Nat)(f:Pv U H)
  (hs:∀U H,Pv U H->∃b,bg c U H b/\∀d,J H d->if b=Y then e {D with nx:=λσ' H'=>Pv σ' H'/\μ σ' H'<μ U H,ct:=λσ' H'=>Pv σ' H'/\μ σ' H'<μ U H,bk:=u D} U d else u D U d):cF (u4 c e) u D U H:=YH Pv μ f hs
end
def kT(s:J H a)(n:H p=ai):J H (upd a p o):=λb u e=>by rw[aX (bA e n)];exact s b u e
def Kt(t:af)(H H':Hp):Prop:=∀b o,H b=O o->b≠t->H' b=O o
def Kt.trans(a:Kt t H d)(b:Kt t d e):Kt t H e:=λc o h n=>b c o (a c o h n) n
def bE(a:J H b):Kt t H b:=λc o h _=>a c o h
def Kt.rf:Kt t H H:=λ_ _ h _=>h
def Kt.put(a:Kt t H b):Kt t H (upd b t o):=λc u h n=>by rw[aX n];exact a c u h n
def Kt.same(s:J H b)(n:H t=ai)(a:Kt t b d):J H d:=λc o h=>a c o (s c o h)<|bA h n
def YI:(nF ", ").cps.toList=aH ", ":=by decide+kernel
def YJ:(nF " & ").cps.toList=aH " & ":=by decide+kernel
def Ou(a:α)(l:List α)(h:l≠[]):(a::l)[l.length]?=O (l.getLast h):=by
 have e:=List.getLast?_eq_getElem? (l:=a::l);rw[bV,agb] at e;rw[<-e,af9 aT,List.getLast_cons h]
def Ov:∀(m:List S)(z:S),uP (m++[z])=m.flatMap (λa=>aH ", "++a)++(aH " & "++z)
 |[],z=>rfl
 |[a],z=>by simp[uP]
 |a::b::m,z=>by
  have c:=Ov (b::m) z;show aH ", "++a++uP (b::m++[z])=_;rw[c];simp
def A3{l m:List Nat}(h:l.Sublist m):l.sum<=m.sum:=by
 induction h with
 |slnil=>exact bG _
 |cons a _ b=>simp only[mD];omega
 |cons_cons a _ b=>simp only[mD];omega
def Ow(x:S):∀m:List S,(m.flatMap λa=>x++a).length=(m.map fZ).sum+x.length*m.length
 |[]=>by simp
 |a::m=>by
  rw[qm,aV,Ow x m,aV];simp only[cM,mD,bV,Nat.mul_add,Nat.mul_one];omega
def joined:List S->S
 |[]=>[]
 |a::r=>a++uP r
def dF(ls:List S):Nat:=(ls.map fZ).sum+4*ls.length
def YK(xs:List V):jh xs (O 1) (O<|-1)=(xs.drop 1).dropLast:=by
 unfold jh HT.iI;dsimp only;rw[ak (show¬(1:Int)<0 by decide),aA (show(-1:Int)<0 by decide)];have e:(-1+(xs.length:Int)).toNat=xs.length-1:=by omega
 rw[e,List.dropLast_eq_take,rO];by_cases h:1<=xs.length
 ·rw[show min (Int.toNat 1) xs.length=1 from zp h]
 ·have:xs=[]:=afZ aG;subst this;rfl
def Ox:Sp:=λb H Q _=>∃p a,b=[.ref p]/\cU H p a/\a≠[]/\dF a<=1000000/\eS H Q (tx<|joined a)
def YL:T.bb T.LK 2 Ox:=T.LK.aU<|cW ["authors","text","author"] λaa a7 a8 nd hL hr h=>by
 obtain⟨p,ls,rfl,M,ah,B,ag⟩:=h;obtain⟨as,C,h2,N⟩:=id M;refine⟨_,(aD (cw 1 nd<|lK z6 aZ T.AH AS<|aj<|bT b8 (pv 0) aI)<|aD (iH iC L (iG<|kI kJ (pv 0) (jg aI)<|jg<|du dv aI) (d7 2 nd)<|aC<|bW<|eK eL j3 j4 jt (pv 1)<|aj<|cP fW (aO (jA T) hr<|aj fD)<|pv 2)<|aD (bw (bK kF (b6 cB aZ T.cn cq<|aj<|pv 0) aI) (aC<|bW<|eK eL j3 j4 jt (pv 1)<|aj<|cP fW (aO (jA T) hr<|aj fD)<|bT b8 (pv 0)<|du dv aI) bB)<|aC<|aK<|pv 1),?_⟩;obtain⟨g,c,rfl⟩:∃a r,ls=a::r:=by cases ls with|nil=>exact absurd L ah|cons a r=>exact⟨a,r,L⟩
 obtain⟨k,d,rfl⟩:∃b r,as=b::r:=by cases as with|nil=>cases h2|cons a r=>exact⟨a,r,L⟩
 have t0:aY aa k g:=N 0 k g L L;refine aL.eB (Ol<|G.x (e8 W (λQ w=>aQ) (aM.of C)<|fJ (j:=0) L) t0) λQ t w q ht=>?_;have p1:Q p=O (.lst<|(k::d).map V.ref):=w _ _ C;have nt:p≠t:=bA C q;have hT:cU Q p (g::c):=M.same w;have I:d.length=c.length:=by simpa using h2
 have bound:∀i,(g++(c.dropLast.take i).flatMap λa=>aH ", "++a).length+100<=2000000:=by
  intro i;have D:(c.dropLast.take i).Sublist c:=(Hf _ _).trans<|List.dropLast_sublist _;have q1:=A3<|D.map fZ;have q2:=D.length_le;have q3:(aH ", ").length=2:=by decide
  unfold dF at B;rw[aV,Ow,q3];simp only[cM,mD,bV] at B;omega
 refine A2 (xs:=d.dropLast.map V.ref) ?_ λE a4 x n2 hq=>?_
 ·refine aL.cv (Fb (G.x W p1) (λE x=>aQ)<|λE x=>dA aQ) ?_;rw[show(-(1:Int))=-1 from L,YK];show(d.map V.ref).dropLast=_;rw[List.map_dropLast]
 have aq:a4≠t:=λe=>by subst e;rw[ht] at n2;cases n2
 have ar:E t=O (.lst<|tx g):=x _ _ ht;refine⟨λi U m=>∃ab:Option V,U=[O (.ref p),O<|.ref t,ab]/\Kt t E m/\m t=O (.lst<|tx<|g++(c.dropLast.take i).flatMap λa=>aH ", "++a),
  ⟨ai,L,Kt.rf,by rw[ar];simp⟩,λi U m _ ⟨_,_,s,_⟩=>s _ _ hq aq,?_,?_⟩
 ·rintro i a5 U m y ⟨ab,rfl,s,z⟩;obtain⟨b,hb,rfl⟩:∃b,d.dropLast[i]?=O b/\a5=V.ref b:=by
   rw[eU] at y;cases e:d.dropLast[i]?with
   |none=>rw[e] at y;cases y
   |some b=>rw[e] at y;exact⟨b,L,(eh y).symm⟩
  have ae:i<d.dropLast.length:=(fC.mp hb).1;rw[CO] at ae;obtain⟨l,A⟩:∃l,c.dropLast[i]?=O l:=⟨_,gq (by rw[CO];omega)⟩;have au:(k::d)[i+1]?=O b:=by
   rw[TK];rw[agc,aA ae] at hb;exact hb
  have av:(g::c)[i+1]?=O l:=by
   rw[TK];rw[agc,aA aG] at A;exact A
  have tb:=N (i+1) b l au av;have ay:aY m b l:=s _ _ (x _ _ (w _ _ tb)) (bA tb q);have u:=bound<|i+1;rw[take_succ A,qo,<-hX] at u;have e1:([l].flatMap λa=>aH ", "++a)=aH ", "++l:=by simp
  rw[e1] at u;refine pM (xs:=tx<|g++(c.dropLast.take i).flatMap λa=>aH ", "++a) (ys:=tx (aH ", ")++tx l) W z (λH3 j=>aL.x<|fX (aL.x<|aL.cv (Oo aQ aB)<|by rw[YI]) (λH4 v=>G.x W<|v _ _ (j _ _ ay)) ?_) ?_ λH3 j=>⟨_,L,(s.trans<|bE j).put,?_⟩
  ·rw[bX,bX,b9];rw[aV,aV (as:=aH ", ")] at u;omega
  ·rw[gh,bX,bX,b9];rw[aV] at u;omega
  ·rw[ba,gh,gh,take_succ A,qo,e1,hX]
 ·rintro U m ⟨ab,rfl,s,z⟩;have st:J aa m:=s.same (w.trans x) q;rw[bH,CO,rY (by rw[CO];omega)] at z;have az:cU m p (g::c):=M.same st;refine bg.bU (bI<|cj (tF W az) λH3 j=>aQ) λH3 j=>bh (λh=>?_)<|λh=>?_
  ·rw[bO] at h;have f:c≠[]:=by intro e;subst e;simp at h
   have o:d≠[]:=by intro e;subst e;rw[ly] at I;exact f<|mC.mp I.symm
   have aE:=j _ _ z;have eb:d=d.dropLast++[d.getLast o]:=(zq o).symm;have er:c=c.dropLast++[c.getLast f]:=(zq f).symm;have tl:aY aa (d.getLast o) (c.getLast f):=by
    refine N d.length _ _ (Ou k d o) ?_;rw[I];exact Ou g c f
   have a3:ij ((k::d).map V.ref) (-1)=O (V.ref<|d.getLast o):=by
    have:(k::d).map V.ref=(k::d.dropLast).map V.ref++[V.ref (d.getLast o)]:=by
     conv=>lhs;rw[eb]
     simp
    rw[this];exact DO _ _
   have u:=bound<|c.dropLast.length;rw[rY (bG _)] at u;have a6:(c.getLast f).length<=1000000:=by
    have hm:c.getLast f∈c:=List.getLast_mem f;have D:[c.getLast f].Sublist c:=agd.mpr hm;have q1:=A3<|D.map fZ;unfold dF at B;simp only[cM,mD,wN,age] at B q1;omega
   have q4:(aH " & ").length=3:=by decide
   refine pM (xs:=tx<|g++c.dropLast.flatMap λa=>aH ", "++a) (ys:=tx (aH " & ")++tx (c.getLast f)) W aE (λH4 v=>aL.x<|fX (aL.x<|aL.cv (Oo aQ aB)<|by rw[YJ]) (λH n=>G.x (e8 W (λH6 s6=>dA aQ) (aM.of<|n _ _ (v _ _ (j _ _ (st _ _ C)))) a3)<|n _ _ (v _ _ (j _ _ (st _ _ tl)))) ?_) ?_ λH4 v=>?_
   ·rw[bX,bX,q4,b9];omega
   ·rw[gh,bX,bX,aV (as:=aH " & "),q4,b9];omega
   ·refine G.ret W λH n=>ag H t ((kT (st.trans<|j.trans v) q).trans n) q ?_;refine(n _ _ ba).trans ?_;rw[gh,gh];congr 3;show _=g++uP c;conv=>rhs;rw[er]
    rw[Ov,hX]
  ·rw[hU] at h;have f:c=[]:=mC.mp (by simp at h;omega);subst f;refine G.ret W λH n=>ag H t (st.trans<|j.trans n) q ?_;refine(n _ _ (j _ _ z)).trans ?_;simp[joined,uP]
section
variable{U:L2.St}{H:Hp}{t ta tv:TE}{a dx:af}{D:Ends}{u:TS}
def vN(b c:V):List (ao×V):=[("forms",b),("folds",c)]
section
variable{v0 v1:V}
def vO(h:G t U H (.ref a))(b:H a=O (.ins cs.Epithet dx<|vN v0 v1)):G (cz K t "forms") U H v0:=dJ h b T.AO (T.AQ _ bf) aZ
def A4(h:G t U H (.ref a))(b:H a=O (.ins cs.Epithet dx<|vN v0 v1)):G (cz K t "folds") U H v1:=dJ h b T.AO (T.AQ _ bf) aZ
end
def i4(b c d:V):List (ao×V):=[("text",b),("gender",c),("stem",d)]
section
variable{v0 v1 v2:V}
def A5(h:G t U H (.ref a))(b:H a=O (.ins cs.Genus dx<|i4 v0 v1 v2)):G (cz K t "text") U H v0:=dJ h b T.sX (T.sY _ bf) aZ
def yh(h:G t U H (.ref a))(b:H a=O (.ins cs.Genus dx<|i4 v0 v1 v2)):G (cz K t "gender") U H v1:=dJ h b T.sX (T.sY _ bf) aZ
def YM:d4 "gender" y (i4 v0 v1 v2)=i4 v0 y v2:=by rfl
def YN(e:G tv U H y)(h:∀b,J H b->G ta U b (.ref a))(f:H a=O (.ins cs.Genus dx<|i4 v0 v1 v2))(k:∀b,J H b->D.nx U (upd b a<|.ins cs.Genus dx<|i4 v0 y v2)):cH K ta tv "gender" D U H:=
 e _ λb c=>h b c _ λg d=>⟨a,cs.Genus,dx,_,L,d _ _ (c _ _ f),T.sX,T.sY _ bf,(by show 3<1000;decide),by rw[YM];exact k g<|c.trans d⟩
def YO(c:G tv U H y)(h:∀b,J H b->G ta U b (.ref a))(d:H a=O (.ins cs.Genus dx<|i4 v0 v1 v2))(k:∀b,J H b->u D U (upd b a<|.ins cs.Genus dx<|i4 v0 y v2)):cF (cH K ta tv "gender") u D U H:=YN T c h d k
def YQ(h:G t U H (.ref a))(b:H a=O (.ins cs.Genus dx<|i4 v0 v1 v2)):G (cz K t "stem") U H v2:=dJ h b T.sX (T.sY _ bf) aZ
end
def cb(d e f g h i j k l m b c:V):List (ao×V):=[("abbr",d),("q1",e),("q2",f),("num",g),("paren",h),("etal",i),("year",j),("head",k),("sub",l),("e1",m),("e2",b),("authors",c)]
section
variable{v0 v1 v2 v3 v4 v5 v6 v7 v8 v9 v10 v11:V}
def yi(h:G t U H (.ref a))(b:H a=O (.ins cs.Name dx<|cb v0 v1 v2 v3 v4 v5 v6 v7 v8 v9 v10 v11)):G (cz K t "abbr") U H v0:=dJ h b T.ef (T.fL _ bf) aZ
def YR:d4 "abbr" y (cb v0 v1 v2 v3 v4 v5 v6 v7 v8 v9 v10 v11)=cb y v1 v2 v3 v4 v5 v6 v7 v8 v9 v10 v11:=by rfl
def YS(e:G tv U H y)(h:∀b,J H b->G ta U b (.ref a))(f:H a=O (.ins cs.Name dx<|cb v0 v1 v2 v3 v4 v5 v6 v7 v8 v9 v10 v11))(k:∀b,J H b->D.nx U (upd b a<|.ins cs.Name dx<|cb y v1 v2 v3 v4 v5 v6 v7 v8 v9 v10 v11)):cH K ta tv "abbr" D U H:=
 e _ λb c=>h b c _ λg d=>⟨a,cs.Name,dx,_,L,d _ _ (c _ _ f),T.ef,T.fL _ bf,(by show 12<1000;decide),by rw[YR];exact k g<|c.trans d⟩
def Fc(h:G t U H (.ref a))(b:H a=O (.ins cs.Name dx<|cb v0 v1 v2 v3 v4 v5 v6 v7 v8 v9 v10 v11)):G (cz K t "q1") U H v1:=dJ h b T.ef (T.fL _ bf) aZ
def YT:d4 "q1" y (cb v0 v1 v2 v3 v4 v5 v6 v7 v8 v9 v10 v11)=cb v0 y v2 v3 v4 v5 v6 v7 v8 v9 v10 v11:=by rfl
def YU(e:G tv U H y)(h:∀b,J H b->G ta U b (.ref a))(f:H a=O (.ins cs.Name dx<|cb v0 v1 v2 v3 v4 v5 v6 v7 v8 v9 v10 v11))(k:∀b,J H b->D.nx U (upd b a<|.ins cs.Name dx<|cb v0 y v2 v3 v4 v5 v6 v7 v8 v9 v10 v11)):cH K ta tv "q1" D U H:=
 e _ λb c=>h b c _ λg d=>⟨a,cs.Name,dx,_,L,d _ _ (c _ _ f),T.ef,T.fL _ bf,(by show 12<1000;decide),by rw[YT];exact k g<|c.trans d⟩
def Fd(h:G t U H (.ref a))(b:H a=O (.ins cs.Name dx<|cb v0 v1 v2 v3 v4 v5 v6 v7 v8 v9 v10 v11)):G (cz K t "q2") U H v2:=dJ h b T.ef (T.fL _ bf) aZ
def YV:d4 "q2" y (cb v0 v1 v2 v3 v4 v5 v6 v7 v8 v9 v10 v11)=cb v0 v1 y v3 v4 v5 v6 v7 v8 v9 v10 v11:=by rfl
def YW(e:G tv U H y)(h:∀b,J H b->G ta U b (.ref a))(f:H a=O (.ins cs.Name dx<|cb v0 v1 v2 v3 v4 v5 v6 v7 v8 v9 v10 v11))(k:∀b,J H b->D.nx U (upd b a<|.ins cs.Name dx<|cb v0 v1 y v3 v4 v5 v6 v7 v8 v9 v10 v11)):cH K ta tv "q2" D U H:=
 e _ λb c=>h b c _ λg d=>⟨a,cs.Name,dx,_,L,d _ _ (c _ _ f),T.ef,T.fL _ bf,(by show 12<1000;decide),by rw[YV];exact k g<|c.trans d⟩
def tG(h:G t U H (.ref a))(b:H a=O (.ins cs.Name dx<|cb v0 v1 v2 v3 v4 v5 v6 v7 v8 v9 v10 v11)):G (cz K t "num") U H v3:=dJ h b T.ef (T.fL _ bf) aZ
def YX:d4 "num" y (cb v0 v1 v2 v3 v4 v5 v6 v7 v8 v9 v10 v11)=cb v0 v1 v2 y v4 v5 v6 v7 v8 v9 v10 v11:=by rfl
def YY(e:G tv U H y)(h:∀b,J H b->G ta U b (.ref a))(f:H a=O (.ins cs.Name dx<|cb v0 v1 v2 v3 v4 v5 v6 v7 v8 v9 v10 v11))(k:∀b,J H b->D.nx U (upd b a<|.ins cs.Name dx<|cb v0 v1 v2 y v4 v5 v6 v7 v8 v9 v10 v11)):cH K ta tv "num" D U H:=
 e _ λb c=>h b c _ λg d=>⟨a,cs.Name,dx,_,L,d _ _ (c _ _ f),T.ef,T.fL _ bf,(by show 12<1000;decide),by rw[YX];exact k g<|c.trans d⟩
def vP(h:G t U H (.ref a))(b:H a=O (.ins cs.Name dx<|cb v0 v1 v2 v3 v4 v5 v6 v7 v8 v9 v10 v11)):G (cz K t "paren") U H v4:=dJ h b T.ef (T.fL _ bf) aZ
def YZ:d4 "paren" y (cb v0 v1 v2 v3 v4 v5 v6 v7 v8 v9 v10 v11)=cb v0 v1 v2 v3 y v5 v6 v7 v8 v9 v10 v11:=by rfl
def Y0(e:G tv U H y)(h:∀b,J H b->G ta U b (.ref a))(f:H a=O (.ins cs.Name dx<|cb v0 v1 v2 v3 v4 v5 v6 v7 v8 v9 v10 v11))(k:∀b,J H b->D.nx U (upd b a<|.ins cs.Name dx<|cb v0 v1 v2 v3 y v5 v6 v7 v8 v9 v10 v11)):cH K ta tv "paren" D U H:=
 e _ λb c=>h b c _ λg d=>⟨a,cs.Name,dx,_,L,d _ _ (c _ _ f),T.ef,T.fL _ bf,(by show 12<1000;decide),by rw[YZ];exact k g<|c.trans d⟩
def A6(h:G t U H (.ref a))(b:H a=O (.ins cs.Name dx<|cb v0 v1 v2 v3 v4 v5 v6 v7 v8 v9 v10 v11)):G (cz K t "etal") U H v5:=dJ h b T.ef (T.fL _ bf) aZ
def Y1:d4 "etal" y (cb v0 v1 v2 v3 v4 v5 v6 v7 v8 v9 v10 v11)=cb v0 v1 v2 v3 v4 y v6 v7 v8 v9 v10 v11:=by rfl
def Y2(e:G tv U H y)(h:∀b,J H b->G ta U b (.ref a))(f:H a=O (.ins cs.Name dx<|cb v0 v1 v2 v3 v4 v5 v6 v7 v8 v9 v10 v11))(k:∀b,J H b->D.nx U (upd b a<|.ins cs.Name dx<|cb v0 v1 v2 v3 v4 y v6 v7 v8 v9 v10 v11)):cH K ta tv "etal" D U H:=
 e _ λb c=>h b c _ λg d=>⟨a,cs.Name,dx,_,L,d _ _ (c _ _ f),T.ef,T.fL _ bf,(by show 12<1000;decide),by rw[Y1];exact k g<|c.trans d⟩
def A7(h:G t U H (.ref a))(b:H a=O (.ins cs.Name dx<|cb v0 v1 v2 v3 v4 v5 v6 v7 v8 v9 v10 v11)):G (cz K t "year") U H v6:=dJ h b T.ef (T.fL _ bf) aZ
def Y3:d4 "year" y (cb v0 v1 v2 v3 v4 v5 v6 v7 v8 v9 v10 v11)=cb v0 v1 v2 v3 v4 v5 y v7 v8 v9 v10 v11:=by rfl
def Y4(e:G tv U H y)(h:∀b,J H b->G ta U b (.ref a))(f:H a=O (.ins cs.Name dx<|cb v0 v1 v2 v3 v4 v5 v6 v7 v8 v9 v10 v11))(k:∀b,J H b->D.nx U (upd b a<|.ins cs.Name dx<|cb v0 v1 v2 v3 v4 v5 y v7 v8 v9 v10 v11)):cH K ta tv "year" D U H:=
 e _ λb c=>h b c _ λg d=>⟨a,cs.Name,dx,_,L,d _ _ (c _ _ f),T.ef,T.fL _ bf,(by show 12<1000;decide),by rw[Y3];exact k g<|c.trans d⟩
def kU(h:G t U H (.ref a))(b:H a=O (.ins cs.Name dx<|cb v0 v1 v2 v3 v4 v5 v6 v7 v8 v9 v10 v11)):G (cz K t "head") U H v7:=dJ h b T.ef (T.fL _ bf) aZ
def Y5:d4 "head" y (cb v0 v1 v2 v3 v4 v5 v6 v7 v8 v9 v10 v11)=cb v0 v1 v2 v3 v4 v5 v6 y v8 v9 v10 v11:=by rfl
def Oy(e:G tv U H y)(h:∀b,J H b->G ta U b (.ref a))(f:H a=O (.ins cs.Name dx<|cb v0 v1 v2 v3 v4 v5 v6 v7 v8 v9 v10 v11))(k:∀b,J H b->D.nx U (upd b a<|.ins cs.Name dx<|cb v0 v1 v2 v3 v4 v5 v6 y v8 v9 v10 v11)):cH K ta tv "head" D U H:=
 e _ λb c=>h b c _ λg d=>⟨a,cs.Name,dx,_,L,d _ _ (c _ _ f),T.ef,T.fL _ bf,(by show 12<1000;decide),by rw[Y5];exact k g<|c.trans d⟩
def Y6(c:G tv U H y)(h:∀b,J H b->G ta U b (.ref a))(d:H a=O (.ins cs.Name dx<|cb v0 v1 v2 v3 v4 v5 v6 v7 v8 v9 v10 v11))(k:∀b,J H b->u D U (upd b a<|.ins cs.Name dx<|cb v0 v1 v2 v3 v4 v5 v6 y v8 v9 v10 v11)):cF (cH K ta tv "head") u D U H:=Oy T c h d k
def tH(h:G t U H (.ref a))(b:H a=O (.ins cs.Name dx<|cb v0 v1 v2 v3 v4 v5 v6 v7 v8 v9 v10 v11)):G (cz K t "sub") U H v8:=dJ h b T.ef (T.fL _ bf) aZ
def Y7:d4 "sub" y (cb v0 v1 v2 v3 v4 v5 v6 v7 v8 v9 v10 v11)=cb v0 v1 v2 v3 v4 v5 v6 v7 y v9 v10 v11:=by rfl
def Y8(e:G tv U H y)(h:∀b,J H b->G ta U b (.ref a))(f:H a=O (.ins cs.Name dx<|cb v0 v1 v2 v3 v4 v5 v6 v7 v8 v9 v10 v11))(k:∀b,J H b->D.nx U (upd b a<|.ins cs.Name dx<|cb v0 v1 v2 v3 v4 v5 v6 v7 y v9 v10 v11)):cH K ta tv "sub" D U H:=
 e _ λb c=>h b c _ λg d=>⟨a,cs.Name,dx,_,L,d _ _ (c _ _ f),T.ef,T.fL _ bf,(by show 12<1000;decide),by rw[Y7];exact k g<|c.trans d⟩
def lT(h:G t U H (.ref a))(b:H a=O (.ins cs.Name dx<|cb v0 v1 v2 v3 v4 v5 v6 v7 v8 v9 v10 v11)):G (cz K t "e1") U H v9:=dJ h b T.ef (T.fL _ bf) aZ
def Y9:d4 "e1" y (cb v0 v1 v2 v3 v4 v5 v6 v7 v8 v9 v10 v11)=cb v0 v1 v2 v3 v4 v5 v6 v7 v8 y v10 v11:=by rfl
def Oz(e:G tv U H y)(h:∀b,J H b->G ta U b (.ref a))(f:H a=O (.ins cs.Name dx<|cb v0 v1 v2 v3 v4 v5 v6 v7 v8 v9 v10 v11))(k:∀b,J H b->D.nx U (upd b a<|.ins cs.Name dx<|cb v0 v1 v2 v3 v4 v5 v6 v7 v8 y v10 v11)):cH K ta tv "e1" D U H:=
 e _ λb c=>h b c _ λg d=>⟨a,cs.Name,dx,_,L,d _ _ (c _ _ f),T.ef,T.fL _ bf,(by show 12<1000;decide),by rw[Y9];exact k g<|c.trans d⟩
def Za(c:G tv U H y)(h:∀b,J H b->G ta U b (.ref a))(d:H a=O (.ins cs.Name dx<|cb v0 v1 v2 v3 v4 v5 v6 v7 v8 v9 v10 v11))(k:∀b,J H b->u D U (upd b a<|.ins cs.Name dx<|cb v0 v1 v2 v3 v4 v5 v6 v7 v8 y v10 v11)):cF (cH K ta tv "e1") u D U H:=Oz T c h d k
def qR(h:G t U H (.ref a))(b:H a=O (.ins cs.Name dx<|cb v0 v1 v2 v3 v4 v5 v6 v7 v8 v9 v10 v11)):G (cz K t "e2") U H v10:=dJ h b T.ef (T.fL _ bf) aZ
def Zb:d4 "e2" y (cb v0 v1 v2 v3 v4 v5 v6 v7 v8 v9 v10 v11)=cb v0 v1 v2 v3 v4 v5 v6 v7 v8 v9 y v11:=by rfl
def OA(e:G tv U H y)(h:∀b,J H b->G ta U b (.ref a))(f:H a=O (.ins cs.Name dx<|cb v0 v1 v2 v3 v4 v5 v6 v7 v8 v9 v10 v11))(k:∀b,J H b->D.nx U (upd b a<|.ins cs.Name dx<|cb v0 v1 v2 v3 v4 v5 v6 v7 v8 v9 y v11)):cH K ta tv "e2" D U H:=
 e _ λb c=>h b c _ λg d=>⟨a,cs.Name,dx,_,L,d _ _ (c _ _ f),T.ef,T.fL _ bf,(by show 12<1000;decide),by rw[Zb];exact k g<|c.trans d⟩
def Zc(c:G tv U H y)(h:∀b,J H b->G ta U b (.ref a))(d:H a=O (.ins cs.Name dx<|cb v0 v1 v2 v3 v4 v5 v6 v7 v8 v9 v10 v11))(k:∀b,J H b->u D U (upd b a<|.ins cs.Name dx<|cb v0 v1 v2 v3 v4 v5 v6 v7 v8 v9 y v11)):cF (cH K ta tv "e2") u D U H:=OA T c h d k
def oq(h:G t U H (.ref a))(b:H a=O (.ins cs.Name dx<|cb v0 v1 v2 v3 v4 v5 v6 v7 v8 v9 v10 v11)):G (cz K t "authors") U H v11:=dJ h b T.ef (T.fL _ bf) aZ
def OB:d4 "authors" y (cb v0 v1 v2 v3 v4 v5 v6 v7 v8 v9 v10 v11)=cb v0 v1 v2 v3 v4 v5 v6 v7 v8 v9 v10 y:=by rfl
def Zd(e:G tv U H y)(h:∀b,J H b->G ta U b (.ref a))(f:H a=O (.ins cs.Name dx<|cb v0 v1 v2 v3 v4 v5 v6 v7 v8 v9 v10 v11))(k:∀b,J H b->D.nx U (upd b a<|.ins cs.Name dx<|cb v0 v1 v2 v3 v4 v5 v6 v7 v8 v9 v10 y)):cH K ta tv "authors" D U H:=
 e _ λb c=>h b c _ λg d=>⟨a,cs.Name,dx,_,L,d _ _ (c _ _ f),T.ef,T.fL _ bf,(by show 12<1000;decide),by rw[OB];exact k g<|c.trans d⟩
def Ze(c:G tv U H y)(h:∀b,J H b->G ta U b (.ref a))(d:H a=O (.ins cs.Name dx<|cb v0 v1 v2 v3 v4 v5 v6 v7 v8 v9 v10 v11))(k:∀b,J H b->u D U (upd b a<|.ins cs.Name dx<|cb v0 v1 v2 v3 v4 v5 v6 v7 v8 v9 v10 y)):cF (cH K ta tv "authors") u D U H:=Zd T c h d k
end
def ou(b c d e f g h i:V):List (ao×V):=[("genus",b),("sub",c),("e1",d),("e2",e),("first",f),("year",g),("etal",h),("authors",i)]
section
variable{v0 v1 v2 v3 v4 v5 v6 v7:V}
def Fe(h:G t U H (.ref a))(b:H a=O (.ins cs.jm dx<|ou v0 v1 v2 v3 v4 v5 v6 v7)):G (cz K t "genus") U H v0:=dJ h b T.jy (T.jz _ bf) aZ
def A8(h:G t U H (.ref a))(b:H a=O (.ins cs.jm dx<|ou v0 v1 v2 v3 v4 v5 v6 v7)):G (cz K t "sub") U H v1:=dJ h b T.jy (T.jz _ bf) aZ
def OC(h:G t U H (.ref a))(b:H a=O (.ins cs.jm dx<|ou v0 v1 v2 v3 v4 v5 v6 v7)):G (cz K t "e1") U H v2:=dJ h b T.jy (T.jz _ bf) aZ
def A9(h:G t U H (.ref a))(b:H a=O (.ins cs.jm dx<|ou v0 v1 v2 v3 v4 v5 v6 v7)):G (cz K t "e2") U H v3:=dJ h b T.jy (T.jz _ bf) aZ
def Ba(h:G t U H (.ref a))(b:H a=O (.ins cs.jm dx<|ou v0 v1 v2 v3 v4 v5 v6 v7)):G (cz K t "first") U H v4:=dJ h b T.jy (T.jz _ bf) aZ
def Ff(h:G t U H (.ref a))(b:H a=O (.ins cs.jm dx<|ou v0 v1 v2 v3 v4 v5 v6 v7)):G (cz K t "year") U H v5:=dJ h b T.jy (T.jz _ bf) aZ
def Fg(h:G t U H (.ref a))(b:H a=O (.ins cs.jm dx<|ou v0 v1 v2 v3 v4 v5 v6 v7)):G (cz K t "etal") U H v6:=dJ h b T.jy (T.jz _ bf) aZ
def Fh(h:G t U H (.ref a))(b:H a=O (.ins cs.jm dx<|ou v0 v1 v2 v3 v4 v5 v6 v7)):G (cz K t "authors") U H v7:=dJ h b T.jy (T.jz _ bf) aZ
end
def lU(b c:V):List (ao×V):=[("text",b),("place",c)]
section
variable{v0 v1:V}
def yj(h:G t U H (.ref a))(b:H a=O (.ins cs.gf dx<|lU v0 v1)):G (cz K t "text") U H v0:=dJ h b T.cV (T.xY _ bf) aZ
def tI(h:G t U H (.ref a))(b:H a=O (.ins cs.gf dx<|lU v0 v1)):G (cz K t "place") U H v1:=dJ h b T.cV (T.xY _ bf) aZ
def Zf:(lU v0 v1).lookup ("is_done":ao)=ai:=by rfl
def Zg:(lU v0 v1).lookup ("ahead":ao)=ai:=by rfl
def Zh:(lU v0 v1).lookup ("further":ao)=ai:=by rfl
def Zi:(lU v0 v1).lookup ("advance":ao)=ai:=by rfl
def Zj:(lU v0 v1).lookup ("since":ao)=ai:=by rfl
def Zk:(lU v0 v1).lookup ("begins":ao)=ai:=by rfl
end
def qS(b c:V):List (ao×V):=[("known",b),("meant",c)]
section
variable{v0 v1:V}
def OD(h:G t U H (.ref a))(b:H a=O (.ins cs.iL dx<|qS v0 v1)):G (cz K t "known") U H v0:=dJ h b T.qM (T.AR _ bf) aZ
def OE(h:G t U H (.ref a))(b:H a=O (.ins cs.iL dx<|qS v0 v1)):G (cz K t "meant") U H v1:=dJ h b T.qM (T.AR _ bf) aZ
def OF:(qS v0 v1).lookup ("learn":ao)=ai:=by rfl
def Zl:(qS v0 v1).lookup ("meant_by":ao)=ai:=by rfl
end
def ow(b c d e f:V):List (ao×V):=[("unfinished",b),("lines_ended",c),("names",d),("name_lines",e),("heads",f)]
section
variable{v0 v1 v2 v3 v4:V}
def Fi(h:G t U H (.ref a))(b:H a=O (.ins cs.Paper dx<|ow v0 v1 v2 v3 v4)):G (cz K t "unfinished") U H v0:=dJ h b T.kg (T.lS _ bf) aZ
def Zm(h:G t U H (.ref a))(b:H a=O (.ins cs.Paper dx<|ow v0 v1 v2 v3 v4)):G (cz K t "lines_ended") U H v1:=dJ h b T.kg (T.lS _ bf) aZ
def Fj(h:G t U H (.ref a))(b:H a=O (.ins cs.Paper dx<|ow v0 v1 v2 v3 v4)):G (cz K t "names") U H v2:=dJ h b T.kg (T.lS _ bf) aZ
def OG(h:G t U H (.ref a))(b:H a=O (.ins cs.Paper dx<|ow v0 v1 v2 v3 v4)):G (cz K t "name_lines") U H v3:=dJ h b T.kg (T.lS _ bf) aZ
def OH(h:G t U H (.ref a))(b:H a=O (.ins cs.Paper dx<|ow v0 v1 v2 v3 v4)):G (cz K t "heads") U H v4:=dJ h b T.kg (T.lS _ bf) aZ
def Zn:(ow v0 v1 v2 v3 v4).lookup ("end_line":ao)=ai:=by rfl
def Zo:(ow v0 v1 v2 v3 v4).lookup ("take_name":ao)=ai:=by rfl
end
def tJ(b c:V):List (ao×V):=[("told",b),("heads",c)]
section
variable{v0 v1:V}
def OI(h:G t U H (.ref a))(b:H a=O (.ins cs.jn dx<|tJ v0 v1)):G (cz K t "told") U H v0:=dJ h b T.xZ (T.x5 _ bf) aZ
def OJ(h:G t U H (.ref a))(b:H a=O (.ins cs.jn dx<|tJ v0 v1)):G (cz K t "heads") U H v1:=dJ h b T.xZ (T.x5 _ bf) aZ
end
def gL(b c d e:V):List (ao×V):=[("genera",b),("epithets",c),("paper",d),("draft",e)]
section
variable{v0 v1 v2 v3:V}
def tK(h:G t U H (.ref a))(b:H a=O (.ins cs.fE dx<|gL v0 v1 v2 v3)):G (cz K t "genera") U H v0:=dJ h b T.nZ (T.og _ bf) aZ
def tL(h:G t U H (.ref a))(b:H a=O (.ins cs.fE dx<|gL v0 v1 v2 v3)):G (cz K t "epithets") U H v1:=dJ h b T.nZ (T.og _ bf) aZ
def Fl(h:G t U H (.ref a))(b:H a=O (.ins cs.fE dx<|gL v0 v1 v2 v3)):G (cz K t "paper") U H v2:=dJ h b T.nZ (T.og _ bf) aZ
def Zp:d4 "paper" y (gL v0 v1 v2 v3)=gL v0 v1 y v3:=by rfl
def Zq(e:G tv U H y)(h:∀b,J H b->G ta U b (.ref a))(f:H a=O (.ins cs.fE dx<|gL v0 v1 v2 v3))(k:∀b,J H b->D.nx U (upd b a<|.ins cs.fE dx<|gL v0 v1 y v3)):cH K ta tv "paper" D U H:=
 e _ λb c=>h b c _ λg d=>⟨a,cs.fE,dx,_,L,d _ _ (c _ _ f),T.nZ,T.og _ bf,(by show 4<1000;decide),by rw[Zp];exact k g<|c.trans d⟩
def Zr(c:G tv U H y)(h:∀b,J H b->G ta U b (.ref a))(d:H a=O (.ins cs.fE dx<|gL v0 v1 v2 v3))(k:∀b,J H b->u D U (upd b a<|.ins cs.fE dx<|gL v0 v1 y v3)):cF (cH K ta tv "paper") u D U H:=Zq T c h d k
def OL(h:G t U H (.ref a))(b:H a=O (.ins cs.fE dx<|gL v0 v1 v2 v3)):G (cz K t "draft") U H v3:=dJ h b T.nZ (T.og _ bf) aZ
def Zs:d4 "draft" y (gL v0 v1 v2 v3)=gL v0 v1 v2 y:=by rfl
def Zt(e:G tv U H y)(h:∀b,J H b->G ta U b (.ref a))(f:H a=O (.ins cs.fE dx<|gL v0 v1 v2 v3))(k:∀b,J H b->D.nx U (upd b a<|.ins cs.fE dx<|gL v0 v1 v2 y)):cH K ta tv "draft" D U H:=
 e _ λb c=>h b c _ λg d=>⟨a,cs.fE,dx,_,L,d _ _ (c _ _ f),T.nZ,T.og _ bf,(by show 4<1000;decide),by rw[Zs];exact k g<|c.trans d⟩
def Zu(c:G tv U H y)(h:∀b,J H b->G ta U b (.ref a))(d:H a=O (.ins cs.fE dx<|gL v0 v1 v2 v3))(k:∀b,J H b->u D U (upd b a<|.ins cs.fE dx<|gL v0 v1 v2 y)):cF (cH K ta tv "draft") u D U H:=Zt T c h d k
end
def mT(b c:V):List (ao×V):=[("numbers",b),("place",c)]
section
variable{v0 v1:V}
def Fm(h:G t U H (.ref a))(b:H a=O (.ins cs.g0 dx<|mT v0 v1)):G (cz K t "numbers") U H v0:=dJ h b T.kS (T.vH _ bf) aZ
def Bb(h:G t U H (.ref a))(b:H a=O (.ins cs.g0 dx<|mT v0 v1)):G (cz K t "place") U H v1:=dJ h b T.kS (T.vH _ bf) aZ
def Zv:(mT v0 v1).lookup ("has_more":ao)=ai:=by rfl
def Zw:(mT v0 v1).lookup ("take":ao)=ai:=by rfl
def Zx:(mT v0 v1).lookup ("take_row":ao)=ai:=by rfl
def Zy:(mT v0 v1).lookup ("take_rows":ao)=ai:=by rfl
end
end
abbrev ox(n:bJ)(h s e1 e2 au:af):List (ao×V):=cb (.int n.abbr) (.int n.q1) (.int n.q2) (.int n.num) (.int n.paren) (.int n.etal) (.int n.year) (.ref h) (.ref s) (.ref e1) (.ref e2)<|.ref au
def cy(cs:Cs)(H:Hp)(a:af)(n:bJ):Prop:=∃e h s b c d,H a=O (.ins cs.Name e<|ox n h s b c d)/\aY H h n.head/\aY H s n.sub/\aY H b n.e1/\aY H c n.e2/\cU H d n.authors
def cy.same(h:cy cs H a n)(s:J H H'):cy cs H' a n:=by
 obtain⟨b,h,c,d,e,f,q,g,i,j,k,l⟩:=h;exact⟨b,h,c,d,e,f,s _ _ q,s _ _ g,s _ _ i,s _ _ j,s _ _ k,l.same s⟩
def tM(cs:Cs)(f:bJ->Bool):Sp:=λc H Q _=>∃a n,c=[.ref a]/\cy cs H a n/\∀b,J H b->Q (.bl<|f n) b
def tN(h:G t U H (.ref a))(c:cy cs H a n):G (cA (tM cs f) [] E<|aN t aW) U H (.bl<|f n):=λQ k=>h _ λg b=>⟨a,n,L,c.same b,λd e=>k d<|b.trans e⟩
def Fp(n:Nat):decide (0<(n:Int))=decide (0<n):=by apply cY.mpr;omega
def pN(n:Nat):decide ((n:Int)=0)=decide (n=0):=by apply cY.mpr;omega
def Zz:T.bb T.Mf 4 (tM cs sU):=T.Mf.aU<|bN λH Q E p r g h=>by
 obtain⟨a,n,rfl,⟨s,h,t,u,v,w,q,i,x,l,y,z⟩,k⟩:=h;refine⟨_,(aD (bw (bK de (aJ<|pv 0) aI) (aC<|aK<|aO (E3 T) g<|aj<|aJ<|pv 0) bB)<|aC<|aK<|ie (gw de (aJ<|pv 0) aI)<|ie (aO (Yx T) g<|aj<|aJ<|pv 0)<|ic<|xi (gw kF (b6 cB aZ T.cn cq<|aj<|aJ<|pv 0) aI)<|ic<|gw mK (aJ<|pv 0) aI),?_⟩;refine bg.bU (bI<|dw (yi T W q) λm b=>aQ) λm b=>bh (λe=>?_)<|λe=>?_
 ·refine G.ret (pL (kU T W<|b _ _ q)<|b _ _ i) λd c=>cI (k d<|b.trans c) ?_;unfold sU;rw[aA (df e)]
 ·refine G.ret (jB (dw (yi T W<|b _ _ q) λd c=>aQ) λd c _=>jB (pL (kU T W<|c _ _ (b _ _ q))<|c _ _ (b _ _ i)) λA f _=>
   AY (cj (fu (lT T W<|f _ _ (c _ _ (b _ _ q)))<|f _ _ (c _ _ (b _ _ l))) λo j=>aQ) λo j _=>cj (tG T W<|j _ _ (f _ _ (c _ _ (b _ _ q)))) λB C=>aQ) λd c=>cI (k d<|b.trans c) ?_
  unfold sU;rw[ak (d8 e)];rw[Fp]
def ZA:T.bb T.Mg 4 (tM cs vz):=T.Mg.aU<|bN λH Q E f g e h=>by
 obtain⟨a,n,rfl,⟨i,h,j,l,m,o,q,p,d,r,s,t⟩,k⟩:=h;refine⟨_,(aC<|aK<|xi (gw de (b6 cB aZ T.cn cq<|aj<|aJ<|pv 0) aI)<|ic<|aO (E3 T) e<|aj<|aJ<|pv 0),?_⟩;refine G.ret (AY (dw (fu (tH T W q) d) λc b=>aQ) λc b _=>pL (tH T W<|b _ _ q)<|b _ _ d) λc b=>cI (k c b) ?_;unfold vz;rw[pN]
def ZC:T.bb T.Mh 1 (tM cs qI):=T.Mh.aU<|bN λH Q E m o p h=>by
 obtain⟨a,n,rfl,⟨r,h,s,t,u,v,q,w,x,g,y,i⟩,k⟩:=h;refine⟨_,(aD (bw (bK de (aJ<|pv 0)<|du dv aI) (aC<|aK jN) bB)<|aC<|aK<|ie (kG ig ig aI (aJ<|pv 0)<|cD T.XZ)<|ie (gw de (b6 cB aZ T.cn cq<|aj<|aJ<|pv 0) aI)<|ic<|gw de (b6 cB aZ T.cn cq<|aj<|aJ<|pv 0) aI),?_⟩;refine bg.bU (bI<|dw (tG T W q) λj c=>dA aQ) λj c=>bh (λe=>?_)<|λe=>?_
 ·refine G.ret aQ λd b=>cI (k d<|c.trans b) ?_;unfold qI;rw[aA (df e)]
 ·refine G.ret (jB (qQ aQ (λd b=>tG T W<|b _ _ (c _ _ q)) λd b=>aQ) λd b _=>jB (dw (fu (lT T W<|b _ _ (c _ _ q))<|b _ _ (c _ _ g)) λl f=>aQ) λl f _=>
   dw (tF (oq T W<|f _ _ (b _ _ (c _ _ q)))<|i.same<|c.trans<|b.trans f) λz A=>aQ) λd b=>cI (k d<|c.trans b) ?_
  unfold qI;rw[ak (d8 e),pN,pN]
def Fq(i:Int):∀ms:List Int,lM (V.int i) (ms.map V.int)=ms.contains i
 |[]=>rfl
 |m::ms=>by
  have a:=Fq i ms;unfold lM at a⊢;rw[cM,oO,a,afT];congr 1;show(m==i)=(i==m);rw[fS,fS];apply cY.mpr;omega
def ZD(ms:List Int):(ms.map V.int).all nV=Y:=by
 rw[qj,qk];intro b _;rfl
def ZE{i:Int}{ms:List Int}(h:G t U H (.int i))(d:∀a,J H a->G u U a (.ref p))(e:∀H,cO K H p<|ms.map V.int):G (dG (va K ax) t u) U H (.bl<|ms.contains i):=λQ k=>
 h _ λa c=>d a c _ λb f=>⟨p,_,L,.inr<|e b,L,ZD ms,by
  show Q (.bl<|lM (V.int i)<|ms.map V.int) b;rw[Fq];exact k b<|c.trans f⟩
def OM(K:bj):Sp:=λc H Q _=>∃(m:Int)(p e:af)(a:List Int)(l:S),c=[.int m,.ref p,.ref e]/\(∀H,cO K H p<|a.map V.int)/\aY H e l/\∀b,J H b->Q (.bl<|nW m a l) b
def ON:T.bb T.Mi 4 (OM K):=T.Mi.aU<|bN λH Q E q r g h=>by
 obtain⟨m,p,e,s,l,rfl,i,f,k⟩:=h;refine⟨_,(aD (bw (bK de (b6 cB aZ T.cn cq<|aj<|pv 2) aI) (aC<|aK<|gw de (pv 0) aI) bB)<|aC<|aK<|ie (aO (E4 T) g<|aj<|pv 2)<|ic<|xi (gw de (pv 0) aI)<|ic<|zV Jq (pv 0) (pv 1)<|by with_unfolding_all rfl),?_⟩;refine bg.bU (bI<|dw (fu W f) λj d=>aQ) λj d=>bh (λa=>?_)<|λa=>?_
 ·refine G.ret (dw W λb c=>aQ) λb c=>cI (k b<|d.trans c) ?_;rw[pN] at a;unfold nW;rw[aA (df a)]
 ·refine G.ret (jB (pL W<|d _ _ f) λb c _=>AY (dw W λn o=>aQ) λn o _=>ZE W (λt u=>fM L) i) λb c=>cI (k b<|d.trans c) ?_;rw[pN] at a;unfold nW;rw[ak (d8 a)]
def OO(d:G f U H (.int m))(g:∀a,J H a->G h U a (.ref e))(i:aY H e l):
  G (cA (OM K) [] E<|aN f<|aN (xQ K<|ms.map V.int)<|aN h aW) U H (.bl<|nW m ms l):=λQ k=>
 d _ λa b p j=>g a b _ λq c=>⟨m,p,e,ms,l,L,j,c _ _ (b _ _ i),λn o=>k n<|(b.trans c).trans o⟩
def ZF:T.bb T.Mj 5 (tM cs qJ):=T.Mj.aU<|bN λH Q E m o f h=>by
 obtain⟨a,n,rfl,⟨p,h,r,s,t,u,q,v,w,g,i,x⟩,k⟩:=h;refine⟨_,(aD (bw (PW.pt<|iF (bK de (b6 cB aZ T.cn cq<|aj<|aJ<|pv 0) aI)<|iE<|bK kF (b6 cB aZ T.cn cq<|aj<|aJ<|pv 0) aI) (aC<|aK jN) bB)<|aC<|aK<|ie (aO (ON T) f<|aP (aJ<|pv 0)<|aP (kR T.Ln)<|aj<|aJ<|pv 0)<|ic<|aO (ON T) f<|aP (aJ<|pv 0)<|aP (kR T.Lo)<|aj<|aJ<|pv 0),?_⟩;refine bg.bU (iq (bI<|dw (fu (lT T W q) g) λj b=>aQ) λj b _=>bI<|cj (fu (qR T W<|b _ _ q)<|b _ _ i) λd c=>aQ) λj b=>bh (λe=>?_)<|λe=>?_
 ·refine G.ret aQ λd c=>cI (k d<|b.trans c) ?_;rw[pN,Fp,bL,bO,bO] at e;unfold qJ;rw[aA e]
 ·refine G.ret (jB (OO (ms:=[1,2,3]) (Fc T W<|b _ _ q) (λd c=>lT T W<|c _ _ (b _ _ q))<|b _ _ g) λd c _=>
   OO (ms:=[1,2,4,5,6]) (Fd T W<|c _ _ (b _ _ q)) (λy l=>qR T W<|l _ _ (c _ _ (b _ _ q))) (c _ _ (b _ _ i))) λd c=>cI (k d<|b.trans c) ?_
  rw[pN,Fp] at e;unfold qJ;rw[ak];intro z;rw[eN z.1,eN z.2] at e;cases e
def ZG:T.bb T.Ml 6 (tM cs sV):=T.Ml.aU<|bN λH Q E p r j h=>by
 obtain⟨a,n,rfl,⟨s,h,t,u,v,w,q,x,y,o,A,l⟩,k⟩:=h;refine⟨_,(aD (bw (cN<|aO (Oj T) j<|aP (aJ<|pv 0)<|aP (aJ<|pv 0)<|aj<|aJ<|pv 0) (aC<|aK<|gw de (aJ<|pv 0) aI) bB)<|aD (bw (PW.pt<|nR (xn z5 (aJ<|pv 0) (zX<|aP aI<|aj aI)<|by with_unfolding_all rfl)<|oZ<|PW.pt<|iF (bK de (aJ<|pv 0) aI)<|iE<|bK de (b6 cB aZ T.cn cq<|aj<|aJ<|pv 0) aI) (aC<|aK jN) bB)<|aC<|aK<|aO (Oi T) j<|aP (aJ<|pv 0)<|aP (aJ<|pv 0)<|aj<|aJ<|pv 0),?_⟩;refine bg.bU (cS<|A0 (oq T W q) (λm b=>A6 T W<|b _ _ q) (λm b=>A7 T W<|b _ _ q) l) λm b=>bh (λg=>?_)<|λg=>?_
 ·refine G.ret (dw (vP T W<|b _ _ q) λi c=>aQ) λi c=>cI (k i<|b.trans c) ?_;unfold sV;rw[aA g]
 refine bg.bU (pK (bI<|Oh<|vP T W<|b _ _ q) λi c _=>iq (bI<|dw (vP T W<|c _ _ (b _ _ q)) λf d=>aQ) λf d _=>
  bI (dw (fu (lT T W<|d _ _ (c _ _ (b _ _ q)))<|d _ _ (c _ _ (b _ _ o))) λB C=>aQ)) λi c=>bh (λe=>?_)<|λe=>?_
 ·refine G.ret aQ λf d=>cI (k f<|b.trans<|c.trans d) ?_;unfold sV;rw[ak (by rw[g];decide),aA];simp at e;rcases e with e|e
  ·left;omega
  ·right;exact⟨e.1,(Nm.len0 _).mpr e.2⟩
 ·refine G.ret (A0 (oq T W<|c _ _ (b _ _ q)) (λf d=>A6 T W<|d _ _ (c _ _ (b _ _ q))) (λf d=>A7 T W<|d _ _ (c _ _ (b _ _ q)))<|l.same<|b.trans c) λf d=>cI (k f<|b.trans<|c.trans d) ?_;unfold sV;rw[ak (by rw[g];decide),ak];simp at e;intro z;rcases z with z|z
  ·omega
  ·exact absurd ((Nm.len0 _).mp z.2) (e.2 z.1)
def Fs(l:G m U H a)(n:∀e,J H e->G o U e b)(q:∀e,J H e->G r U e c)(s:∀e,J H e->G t U e d):
  aL (pj<|aN m<|aN o<|aN r<|aN t aW) U H [a,b,c,d]:=λQ k=>
 l _ λe f=>n e f _ λu g=>q u (f.trans g) _ λv h=>s v ((f.trans g).trans h) _ λw i=>⟨(by show 4<=br;decide),λp j=>k _ p ((((f.trans g).trans h).trans i).trans<|J.new j) ((((f.trans g).trans h).trans i).free j) ba⟩
def ZH{bs:List Bool}(h:fh t U H (bs.map V.bl)):G (gG (DV K)<|aN t aW) U H (.bl<|bs.all id):=λQ k=>h _ λa p b c=>⟨p,bs,L,aM.of c,k a b⟩
def OP:T.bb T.Mm 7 (tM cs nJ):=T.Mm.aU<|cW ["name","parts"] λH Q E i l c h=>by
 obtain⟨a,n,rfl,d,k⟩:=h;refine⟨_,(aD (cw 1 i<|bQ<|aP (aO (Zz T) c<|aj<|pv 0)<|aP (aO (ZA T) c<|aj<|pv 0)<|aP (aO (ZC T) c<|aj<|pv 0)<|aj<|aO (ZF T) c<|aj<|pv 0)<|aC<|aK<|ie (b6 (xw L) aZ T.xT x8<|aj<|pv 1)<|ic<|aO (ZG T) c<|aj<|pv 0),?_⟩;refine aL.eB (Fs (tN W d) (λe b=>tN W<|d.same b) (λe b=>tN W<|d.same b)<|λe b=>tN W<|d.same b) λe p b m j=>?_;refine G.ret (jB (ZH (bs:=[sU n,vz n,qI n,qJ n])<|G.x W j) λg f _=>tN W<|d.same<|b.trans f) λg f=>cI (k g<|b.trans f) ?_;rw[K9];simp[T5]
open TL (tl sO JO JP Ai D9 JQ)
def mU(t:TE)(U:L2.St)(H:Hp)(l:List Nat):Prop:=∀Q:VK,(∀a (x:ao),J H a->tl x=l->Q (.str x) a)->t U H Q
section
variable{U:L2.St}{H:Hp}{t ta tb tc:TE}{l m:List Nat}
def ZI(h:tl x=l):mU (tC<|.str x) U H l:=λQ k=>k H x J.rf h
def oy(s:String):tl (nF s)=aH s:=JP s
def fN:mU (tC<|.str<|nF s) U H (aH s):=ZI<|oy s
def Ft(e:mU ta U H l)(f:∀a,J H a->mU tb U a m)(hz:l.length+m.length<=br):mU (dG (λx y H Q=>∃i j,x= .str i/\y= .str j/\i.length+j.length<=br/\Q (.str<|i++j) H) ta tb) U H (l++m):=λQ k=>
 e _ λa x b c=>f a b _ λg y h d=>⟨x,y,L,L,by rw[sO,sO,c,d];exact hz,k g _ (b.trans h) (by rw[JO,c,d])⟩
def OQ(h:G t U H (.int i))(hz:i.natAbs.log2<1920):mU (gG (λxs H Q=>∃i,xs=[.int i]/\i.natAbs.log2<1920/\Q (.str<|S2 i) H)<|aN t aW) U H (C6 i):=λQ k=>
 h _ λa b=>⟨i,L,hz,k a _ b (oy _)⟩
def Bc{xs:List ao}{i:Int}(c:∀b,J H b->G tb U b (.int i))(d:ij (xs.map V.str) i=O (.str x))(e:tl x=l):mU (dG (Jp K) (xQ K<|xs.map V.str) tb) U H l:=λQ k a f=>
 c H J.rf _ λb g=>⟨a,_,i,_,L,L,f b,d,k b x g e⟩
def jT(h:mU t U H l)(hz:l.length<=1000):aL (cA EY [] E<|aN t aW) U H (tx l):=λQ k=>
 h _ λg x a e=>⟨x,L,by rw[<-wy,show x.cps.toList=l from e];exact hz,λb p c d f=>k b p (a.trans c) (a.free d)<|by rw[f,show x.cps.toList=l from e]⟩
def yk(h:bg c U H x)(g:∀a,J H a->G ta U a (.ref p))(e:H p=O (.lst xs))(i:x=Y->∀a,J H a->fh tb U a ys)(hz:x=Y->xs.length+ys.length<=br)
  (k:∀a,Kt p H a->a p=O (.lst (xs++if x=Y then ys else[]))->u D U a):cF (sA c (gu<|kK K "list" sL ta<|aN tb aW) u0) u D U H:=by
 refine bg.bU h λa b=>?_;cases x with
 |true=>
  refine mQ ?_;exact pM (D:={D with nx:=u D}) (g a b) (b _ _ e) (λf d=>i L f<|b.trans d) (hz L) λf d=>k _ (Kt.put<|bE<|b.trans d) ba
 |false=>exact mP<|k a (bE b) (by rw[ak fe,gp];exact b _ _ e)
def ZJ(h:bg c U H x)(g:∀a,J H a->G ta U a (.ref p))(e:H p=O (.lst xs))(i:∀a,J H a->G tb U a v)(hz:xs.length<br)
  (k:∀a,Kt p H a->a p=O (.lst (xs++if x=Y then[v] else[]))->u D U a):cF (sA c (gu<|kK K "list" pz ta<|aN tb aW) u0) u D U H:=by
 refine bg.bU h λa b=>?_;cases x with
 |true=>
  refine mQ ?_;exact ye (D:={D with nx:=u D}) (g a b) (b _ _ e) (λf d=>i f<|b.trans d) hz λf d=>k _ (Kt.put<|bE<|b.trans d) ba
 |false=>exact mP<|k a (bE b) (by rw[ak fe,gp];exact b _ _ e)
end
def OR{i:Int}(h:0<=i/\i<=9999):i.natAbs.log2<1920:=by
 by_cases a:i.natAbs=0
 ·rw[a];decide
 ·have b:i.natAbs<2^14:=by omega
  exact afr ((Nat.log2_lt a).mpr b) aB
def tO(h:0<=i/\i<=9999):(C6 i).length<=4:=by
 obtain⟨n,rfl⟩:=zu h.1;have e:C6 (n:Int)=Ai n:=by rw[<-D9 n];exact(oy _).symm
 rw[e];exact JQ aB aG
def pO(ls:List S)(etal a:Int):S:=joined ls++(if etal=1 then aH " et al." else[])++(aH ", "++C6 a)
def Fu:∀ls:List S,(joined ls).length<=dF ls
 |[]=>dD _
 |a::r=>by
  have h:∀r:List S,(uP r).length<=(r.map fZ).sum+4*r.length:=by
   intro r;induction r with
   |nil=>exact dD _
   |cons b r d=>
    cases r with
    |nil=>show(aH " & "++b).length<=_;rw[aV,show(aH " & ").length=3 from by decide];simp;omega
    |cons c r=>
     show(aH ", "++b++uP (c::r)).length<=_;rw[aV,aV,show(aH ", ").length=2 from by decide];simp only[cM,mD,bV] at d⊢;omega
  have:=h r;unfold joined dF;simp only[aV,cM,mD,bV];omega
def OS:Sp:=λd H Q _=>∃p b c a,d=[.ref p,.int c,.int a]/\cU H p b/\b≠[]/\dF b<=1000000/\(0<=a/\a<=9999)/\eS H Q (tx<|pO b c a)
def ZK(h:G t U H (.ref p))(c:cU H p ls)(b:ls≠[])(hz:dF ls<=1000000):aL (cA Ox [] E<|aN t aW) U H (tx<|joined ls):=λQ k=>
 h _ λi a=>⟨p,ls,L,c.same a,b,hz,λd q e f g=>k d q (a.trans e) (a.free f) g⟩
def ZL:T.bb T.LL 3 OS:=T.LL.aU<|cW ["authors","etal","year","text"] λH Q E n A d h=>by
 obtain⟨p,f,c,z,rfl,o,m,q,a,k⟩:=h;refine⟨_,(aD (cw 3 n<|aO (YL T) d<|aj<|pv 0)<|aD (bw (bK de (pv 1) aI) (aC<|bW<|eK eL j3 j4 jt (pv 3)<|aj<|aO (jA T) d<|aj fD) bB)<|aC<|aK<|cP fW (pv 3)<|aO (jA T) d<|aj<|cP xp fD<|lK IU aZ T.Lr N3<|aj<|pv 2),?_⟩;have B:=Fu f;refine aL.eB (ZK W o m q) λC t s u v=>?_;refine yk (ys:=tx<|aH " et al.") (bI<|dw W λb i=>aQ) (λb i=>fM L) v (λ_ b i=>aL.x<|jT fN aB) ?_ λb w g=>?_
 ·intro _;rw[bX,bX,b9,show(aH " et al.").length=7 from by decide];omega
 have st:J H b:=w.same s u;have e:tx (joined f)++(if decide (c=1)=Y then tx (aH " et al.") else[])=tx (joined f++(if c=1 then aH " et al." else[])):=by
  rw[<-gh];congr 1;by_cases h:c=1<;>simp[h,ya]
 rw[e] at g;refine aL.ret (fX (G.x W g) (λj l=>aL.x<|jT (Ft fN (λD I=>OQ W<|OR a) ?_) ?_) ?_) λj r l x y=>k j r (st.trans l) (st.free x) ?_
 ·have:=tO a;rw[show(aH ", ").length=2 from by decide,b9];omega
 ·have:=tO a;rw[aV,show(aH ", ").length=2 from by decide];omega
 ·have:=tO a;rw[bX,bX,aV,aV,show(aH ", ").length=2 from by decide,b9];split
  ·rw[show(aH " et al.").length=7 from by decide];omega
  ·rw[ly];omega
 ·rw[y,gh];rfl
def OT:Sp:=λa H Q _=>∃p l,a=[.ref p]/\aY H p l/\l.length<=2000000/\eS H Q (tx<|aH "("++l++aH ")")
def OU:T.bb T.bracketed 2 OT:=T.bracketed.aU<|bN λH Q E g i c h=>by
 obtain⟨p,l,rfl,d,j,k⟩:=h;refine⟨_,(aC<|aK<|cP fW (cP fW (aO (jA T) c<|aj fD)<|pv 0)<|aO (jA T) c<|aj fD),?_⟩;refine aL.ret (fX (aL.x<|fX (aL.x<|jT fN aB) (λb a=>G.x W<|a _ _ d) ?_) (λb a=>aL.x<|jT fN aB) ?_) λb r a e f=>k b r a e ?_
 ·rw[bX,bX,show(aH "(").length=1 from by decide,b9];omega
 ·rw[aV,bX,bX,bX,show(aH "(").length=1 from by decide,show(aH ")").length=1 from by decide,b9];omega
 ·rw[f,gh,gh]
def OV(h:G t U H (.ref p))(b:aY H p l)(hz:l.length<=2000000):aL (cA OT [] E<|aN t aW) U H (tx<|aH "("++l++aH ")"):=λQ k=>
 h _ λg a=>⟨p,l,L,a _ _ b,hz,λc q d e f=>k c q (a.trans d) (a.free e) f⟩
def pP(n:Int):S:=aH " sp."++(if n=0 then[] else aH " "++C6 n)
def OW:Sp:=λa H Q _=>∃n,a=[.int n]/\(0<=n/\n<=9999)/\eS H Q (tx<|pP n)
def ZM:T.bb T.Mn 2 OW:=T.Mn.aU<|bN λH Q E j l g h=>by
 obtain⟨n,rfl,i,k⟩:=h;refine⟨_,(aD (bw (bK de (pv 0) aI) (aC<|aK<|aO (jA T) g<|aj fD) bB)<|aC<|aK<|aO (jA T) g<|aj<|cP xp fD<|lK IU aZ T.Lr N3<|aj<|pv 0),?_⟩;refine bg.bU (bI<|dw W λm o=>aQ) λp a=>bh (λb=>?_)<|λb=>?_
 ·refine aL.ret (jT fN aB) λc r d e f=>k c r (a.trans d) (a.free e) ?_;rw[f];unfold pP;rw[aA (df b),gp]
 ·have:=tO i;refine aL.ret (jT (Ft fN (λq s=>OQ W<|OR i) ?_) ?_) λc r d e f=>k c r (a.trans d) (a.free e) ?_
  ·rw[show(aH " sp. ").length=5 from by decide,b9];omega
  ·rw[aV,show(aH " sp. ").length=5 from by decide];omega
  ·rw[f];unfold pP;rw[ak (d8 b),<-hX];rfl
def Fw:List ao:=["","cf. ","aff. ","x ","subsp. ","var. ","f. "]
def Fy(h:0<=q/\q<=6):∃x:ao,ij (Fw.map V.str) q=O (.str x)/\tl x=mz q/\(mz q).length<=7:=by
 obtain⟨n,rfl⟩:=zu h.1;have a:n=0∨n=1∨n=2∨n=3∨n=4∨n=5∨n=6:=by omega
 rcases a with rfl|rfl|rfl|rfl|rfl|rfl|rfl
 ·exact⟨_,L,oy "",aB⟩
 ·exact⟨_,L,oy "cf. ",aB⟩
 ·exact⟨_,L,oy "aff. ",aB⟩
 ·exact⟨_,L,oy "x ",aB⟩
 ·exact⟨_,L,oy "subsp. ",aB⟩
 ·exact⟨_,L,oy "var. ",aB⟩
 ·exact⟨_,L,oy "f. ",aB⟩
def OX:Sp:=λa H Q _=>∃q p l,a=[.int q,.ref p]/\(0<=q/\q<=6)/\aY H p l/\l.length<=100000/\eS H Q (tx<|aH " "++mz q++l)
def OY:T.bb T.mS 2 OX:=T.mS.aU<|bN λH Q E m n c h=>by
 obtain⟨q,p,l,rfl,d,e,o,k⟩:=h;obtain⟨x,f,g,s⟩:=Fy d;refine⟨_,(aC<|aK<|cP fW (aO (jA T) c<|aj<|cP xp fD<|bT sI (kR T.Lm)<|pv 0)<|pv 1),?_⟩;refine aL.ret (fX (aL.x<|jT (Ft fN (λt u=>Bc (xs:=Fw) (λv w=>fM L) f g) ?_) ?_) (λb a=>G.x W<|a _ _ e) ?_) λb r a i j=>k b r a i ?_
 ·rw[show(aH " ").length=1 from by decide,b9];omega
 ·rw[aV,show(aH " ").length=1 from by decide];omega
 ·rw[bX,bX,aV,show(aH " ").length=1 from by decide,b9];omega
 ·rw[j,gh]
structure fO(n:bJ):Prop where
 q1:0<=n.q1/\n.q1<=6
 q2:0<=n.q2/\n.q2<=6
 num:n.num<=9999
 year:n.authors≠[]->0<=n.year/\n.year<=9999
 head:n.head.length<=5000
 sub:n.sub.length<=5000
 e1:n.e1.length<=5000
 e2:n.e2.length<=5000
 au:dF n.authors<=1000000
def oz(n:bJ):S:=if n.abbr=1 then aH "." else[]
def pQ(n:bJ):S:=if n.sub=[] then[] else aH " ("++n.sub++aH ")"
def oA(n:bJ):S:=if n.num<0 then[] else pP n.num
def tP(n:bJ):S:=if n.e1=[] then[] else aH " "++mz n.q1++n.e1
def vQ(n:bJ):S:=if n.e2=[] then[] else aH " "++mz n.q2++n.e2
def entry_eq(n:bJ):mE n=n.head++oz n++pQ n++oA n++tP n++vQ n:=by
 unfold mE hZ oz pQ oA tP vQ pP;simp
def Bd(h:0<=q/\q<=6):(mz q).length<=7:=let⟨_,_,_,l⟩:=Fy h;l
def Be(h:n.num<=9999):(oA n).length<=10:=by
 unfold oA;split
 ·exact dD _
 ·have:=tO (i:=n.num) aG;unfold pP;rw[aV,show(aH " sp.").length=4 from by decide];split
  ·simp
  ·rw[aV,show(aH " ").length=1 from by decide];omega
def Bf:(pQ n).length<=n.sub.length+3:=by
 unfold pQ;split
 ·exact dD _
 ·rw[aV,aV,show(aH " (").length=2 from by decide,show(aH ")").length=1 from by decide];omega
def Bg(h:0<=n.q1/\n.q1<=6):(tP n).length<=n.e1.length+8:=by
 unfold tP;split
 ·exact dD _
 ·have:=Bd h;rw[aV,aV,show(aH " ").length=1 from by decide];omega
def Bh(h:0<=n.q2/\n.q2<=6):(vQ n).length<=n.e2.length+8:=by
 unfold vQ;split
 ·exact dD _
 ·have:=Bd h;rw[aV,aV,show(aH " ").length=1 from by decide];omega
def Bi:(oz n).length<=1:=by
 unfold oz;split
 ·decide
 ·exact dD _
def grow{a p:S}{b:Bool}{ys:List V}{H:Hp}{t:af}(h:H t=O (.lst (tx a++if b=Y then ys else[])))(e:tx p=if b=Y then ys else[]):H t=O (.lst<|tx<|a++p):=by rw[h,<-gh,e]
def yl(cs:Cs)(f:bJ->S)(ok:bJ->Prop):Sp:=λb H Q _=>∃a n,b=[.ref a]/\cy cs H a n/\ok n/\eS H Q (tx<|f n)
def vR(h:G t U H (.ref a))(c:cy cs H a n)(d:ok n):aL (cA (yl cs f ok) [] E<|aN t aW) U H (tx<|f n):=λQ k=>
 h _ λl b=>⟨a,n,L,c.same b,d,λe q g i j=>k e q (b.trans g) (b.free i) j⟩
def ZN(h:G t U H (.int n))(b:0<=n/\n<=9999):aL (cA OW [] E<|aN t aW) U H (tx<|pP n):=λQ k=>
 h _ λg a=>⟨n,L,b,λc q d e f=>k c q (a.trans d) (a.free e) f⟩
def OZ(h:G t U H (.int q))(d:∀a,J H a->G u U a (.ref p))(e:aY H p l)(f:0<=q/\q<=6)(hz:l.length<=100000):aL (cA OX [] E<|aN t<|aN u aW) U H (tx<|aH " "++mz q++l):=λQ k=>
 h _ λa b=>d a b _ λn c=>⟨q,p,l,L,f,c _ _ (b _ _ e),hz,λg r i j m=>k g r ((b.trans c).trans i) ((b.trans c).free j) m⟩
def FA:T.bb T.entry_text 3 (yl cs mE fO):=T.entry_text.aU<|cW ["name","text"] λH ag ah C hL j h=>by
 obtain⟨aa,n,rfl,⟨dx,h,sb,e1,e2,au,q,D,v,w,x,q5⟩,a,ab⟩:=h;refine⟨_,(aD (cw 1 C<|lK z6 aZ T.AH AS<|aj<|aJ<|pv 0)<|aD (bw (bK de (aJ<|pv 0) aI) (aC<|bW<|eK eL jJ jK jj (pv 1)<|aj<|cD T.Lh) bB)<|aD (bw (bK kF (b6 cB aZ T.cn cq<|aj<|aJ<|pv 0) aI) (aC<|bW<|eK eL j3 j4 jt (pv 1)<|aj<|cP fW (aO (jA T) j<|aj fD)<|aO (OU T) j<|aj<|aJ<|pv 0) bB)<|aD (bw (bK mK (aJ<|pv 0) aI) (aC<|bW<|eK eL j3 j4 jt (pv 1)<|aj<|aO (ZM T) j<|aj<|aJ<|pv 0) bB)<|aD (bw (bK kF (b6 cB aZ T.cn cq<|aj<|aJ<|pv 0) aI) (aC<|bW<|eK eL j3 j4 jt (pv 1)<|aj<|aO (OY T) j<|aP (aJ<|pv 0)<|aj<|aJ<|pv 0) bB)<|aD (bw (bK kF (b6 cB aZ T.cn cq<|aj<|aJ<|pv 0) aI) (aC<|bW<|eK eL j3 j4 jt (pv 1)<|aj<|aO (OY T) j<|aP (aJ<|pv 0)<|aj<|aJ<|pv 0) bB)<|aC<|aK<|pv 1),?_⟩;have b1:=Bi (n:=n);have b2:=Bf (n:=n);have E:=Be a.num;have b4:=Bg a.q1;have b5:=Bh a.q2;have c1:=a.head;have c2:=a.sub;have c3:=a.e1;have c4:=a.e2;refine aL.eB (Ol<|G.x (kU T W q) D) λH1 t y b I=>?_;have na:aa≠t:=bA q b;refine ZJ (bI<|dw (yi T W<|y _ _ q) λk A=>aQ) (λk A=>fM L) I (λk A=>aQ) (by rw[bX,b9];omega) λk M N=>?_;have g2:k t=O (.lst<|tx<|n.head++oz n):=grow N (by unfold oz;by_cases z:n.abbr=1<;>simp[z,ya];rfl);have l:J H k:=M.same y b;refine yk (ys:=tx (aH " ")++tx (aH "("++n.sub++aH ")")) (bI<|cj (fu (tH T W<|l _ _ q)<|l _ _ v) λm r=>aQ) (λm r=>fM L) g2 (λ_ m r=>aL.x<|fX (aL.x<|jT fN aB) (λd e=>aL.x<|OV (tH T W<|e _ _ (r _ _ (l _ _ q))) (e _ _ (r _ _ (l _ _ v))) aG) ?_) ?_ λm Q h3=>?_
 ·rw[bX,bX,aV,aV,show(aH " ").length=1 from by decide,show(aH "(").length=1 from by decide,show(aH ")").length=1 from by decide,b9];omega
 ·intro _;rw[gh,bX,bX,aV,aV,aV,aV,show(aH " ").length=1 from by decide,show(aH "(").length=1 from by decide,show(aH ")").length=1 from by decide,b9];omega
 have g3:m t=O (.lst<|tx<|n.head++oz n++pQ n):=grow h3 (by
  unfold pQ;by_cases z:n.sub=[]
  ·simp[z,ya]
  ·have:0<n.sub.length:=wY.mpr z;rw[ak z,gh,aA (by rw[bO];omega)];rfl)
 have u:J H m:=Q.same (l) b;refine yk (ys:=tx<|pP n.num) (bI<|cj (tG T W<|u _ _ q) λd e=>aQ) (λd e=>fM L) g3 (λz d e=>aL.x<|ZN (tG T W<|e _ _ (u _ _ q)) ⟨df z,a.num⟩) ?_ λd k4 h4=>?_
 ·intro z;rw[bX,bX,aV,aV,b9];have z':0<=n.num:=df z;have ae:oA n=pP n.num:=by unfold oA;rw[ak aG]
  rw[ae] at E;omega
 have g4:d t=O (.lst<|tx<|n.head++oz n++pQ n++oA n):=grow h4 (by
  unfold oA;by_cases z:n.num<0
  ·rw[aA z,ak (by rw[bO];omega)];rfl
  ·rw[ak z,aA (by rw[bO];omega)])
 have f:J H d:=k4.same u b;refine yk (ys:=tx<|aH " "++mz n.q1++n.e1) (bI<|cj (fu (lT T W<|f _ _ q)<|f _ _ w) λo p=>aQ) (λo p=>fM L) g4 (λz o p=>aL.x<|OZ (Fc T W<|p _ _ (f _ _ q)) (λg c=>lT T W<|c _ _ (p _ _ (f _ _ q))) (p _ _ (f _ _ w)) a.q1 aG) ?_ λo k5 h5=>?_
 ·intro _;have:=Bd a.q1;rw[bX,bX,aV,aV,aV,aV,aV,show(aH " ").length=1 from by decide,b9];omega
 have g5:o t=O (.lst<|tx<|n.head++oz n++pQ n++oA n++tP n):=grow h5 (by
  unfold tP;by_cases z:n.e1=[]
  ·simp[z,ya]
  ·have:0<n.e1.length:=wY.mpr z;rw[ak z,aA (by rw[bO];omega)])
 have i:J H o:=k5.same f b;refine yk (ys:=tx<|aH " "++mz n.q2++n.e2) (bI<|cj (fu (qR T W<|i _ _ q)<|i _ _ x) λg c=>aQ) (λg c=>fM L) g5 (λz g c=>aL.x<|OZ (Fd T W<|c _ _ (i _ _ q)) (λB s=>qR T W<|s _ _ (c _ _ (i _ _ q))) (c _ _ (i _ _ x)) a.q2 aG) ?_ λg k6 h6=>?_
 ·intro _;have:=Bd a.q2;rw[bX,bX,aV,aV,aV,aV,aV,aV,show(aH " ").length=1 from by decide,b9];omega
 have g6:g t=O (.lst<|tx<|n.head++oz n++pQ n++oA n++tP n++vQ n):=grow h6 (by
  unfold vQ;by_cases z:n.e2=[]
  ·simp[z,ya]
  ·have:0<n.e2.length:=wY.mpr z;rw[ak z,aA (by rw[bO];omega)])
 have m6:J H g:=k6.same i b;refine G.ret W λB s=>ab B t (m6.trans s) b ?_;rw[entry_eq];exact s _ _ g6
def ZO(h:G t U H (.ref p))(g:∀a,J H a->G u U a (.int etal))(i:∀a,J H a->G v U a (.int c))(j:cU H p ls)(f:ls≠[])(hz:dF ls<=1000000)(l:0<=c/\c<=9999):
  aL (cA OS [] E<|aN t<|aN u<|aN v aW) U H (tx<|pO ls etal c):=λQ k=>
 h _ λa b=>g a b _ λm d=>i m (b.trans d) _ λw e=>⟨p,ls,etal,c,L,j.same<|(b.trans d).trans e,f,hz,l,λn r o q s=>k n r (((b.trans d).trans e).trans o) (((b.trans d).trans e).free q) s⟩
def pR(n:bJ):S:=aH " "++(if n.paren=1 then aH "("++pO n.authors n.etal n.year++aH ")" else pO n.authors n.etal n.year)
def O0(hz:dF ls<=1000000)(b:0<=a/\a<=9999):(pO ls etal a).length<=1000100:=by
 have:=Fu ls;have:=tO b;unfold pO;rw[aV,aV,aV,show(aH ", ").length=2 from by decide];split
 ·rw[show(aH " et al.").length=7 from by decide];omega
 ·rw[ly];omega
def ZP:T.bb T.Mo 4 (yl cs pR λn=>fO n/\n.authors≠[]):=T.Mo.aU<|cW ["name","text"] λH aa ab o w g h=>by
 obtain⟨ae,n,rfl,⟨x,h,y,z,A,B,q,C,D,E,I,t⟩,⟨e,f⟩,k⟩:=h;refine⟨_,(aD (cw 1 o<|aO (ZL T) g<|aP (aJ<|pv 0)<|aP (aJ<|pv 0)<|aj<|aJ<|pv 0)<|aD (bw (bK de (aJ<|pv 0) aI) (aC<|cw 1 o<|aO (OU T) g<|aj<|pv 1) bB)<|aC<|aK<|cP fW (aO (jA T) g<|aj fD)<|pv 1),?_⟩;have bl:=O0 (etal:=n.etal) e.au<|e.year f;refine aL.eB (ZO (oq T W q) (λp a=>A6 T W<|a _ _ q) (λp a=>A7 T W<|a _ _ q) t f e.au<|e.year f) λp ag a M r=>?_;refine bg.bU (bI<|dw (vP T W<|a _ _ q) λu b=>aQ) λu b=>bh (λi=>?_)<|λi=>?_
 ·refine aL.set (OV W (b _ _ r) aG) λN ah s Q v=>?_;refine aL.ret (fX (aL.x<|jT (E:=E0) fN aB) (λd c=>G.x W<|c _ _ v) ?_) λd j c l m=>k d j (a.trans<|b.trans<|s.trans c) ((a.trans<|b.trans s).free l) ?_
  ·rw[bX,bX,aV,aV,show(aH " ").length=1 from by decide,show(aH "(").length=1 from by decide,show(aH ")").length=1 from by decide,b9];omega
  ·rw[m,gh];unfold pR;rw[aA (df i)]
 ·refine aL.ret (fX (aL.x<|jT fN aB) (λd c=>G.x W<|c _ _ (b _ _ r)) ?_) λd j c l m=>k d j (a.trans<|b.trans c) ((a.trans b).free l) ?_
  ·rw[bX,bX,show(aH " ").length=1 from by decide,b9];omega
  ·rw[m,gh];unfold pR;rw[ak (d8 i)]
def Bj(n:bJ):hZ n=if n.authors=[] then mE n else mE n++pR n:=by
 have e:hZ n=mE n++(if n.authors=[] then[] else if n.paren=1 then aH " ("++HL n++aH ")" else aH " "++HL n):=by
  unfold mE hZ;simp
 rw[e];by_cases h:n.authors=[]
 ·rw[aA h,aA h,gp]
 ·rw[ak h,ak h];congr 1;have a:HL n=pO n.authors n.etal n.year:=by
   unfold HL pO;split
   ·rename_i z;exact absurd z h
   ·rename_i x r z;rw[z];unfold joined;simp
  rw[a];unfold pR;split
  ·show aH " ("++_++_=aH " "++(aH "("++_++_);rw[show aH " ("=aH " "++aH "(" from by decide];simp
  ·rfl
def entry_len(ok:fO n):(mE n).length<=20100:=by
 have a:=Bi (n:=n);have b:=Bf (n:=n);have c:=Be ok.num;have d:=Bg ok.q1;have e:=Bh ok.q2;have c1:=ok.head;have c2:=ok.sub;have c3:=ok.e1;have c4:=ok.e2;rw[entry_eq];simp only[aV];omega
def O1(ok:fO n)(a:n.authors≠[]):(pR n).length<=1000200:=by
 have bl:=O0 (etal:=n.etal) ok.au<|ok.year a;unfold pR;rw[aV,show(aH " ").length=1 from by decide];split
 ·rw[aV,aV,show(aH "(").length=1 from by decide,show(aH ")").length=1 from by decide];omega
 ·omega
def Bk:T.bb T.Mp 5 (yl cs hZ fO):=T.Mp.aU<|bN λH Q E r s j h=>by
 obtain⟨a,n,rfl,g,d,k⟩:=h;obtain⟨t,h,u,v,w,x,q,y,A,B,C,o⟩:=id g;refine⟨_,(aD (bw (bK de (b6 cB aZ T.cn cq<|aj<|aJ<|pv 0) aI) (aC<|aK<|aO (FA T) j<|aj<|pv 0) bB)<|aC<|aK<|cP fW (aO (FA T) j<|aj<|pv 0)<|aO (ZP T) j<|aj<|pv 0),?_⟩;refine bg.bU (bI<|dw (tF (oq T W q) o) λe c=>aQ) λD b=>bh (λf=>?_)<|λf=>?_
 ·rw[pN] at f;refine aL.ret (vR W (g.same b) d) λe p c l m=>k e p (b.trans c) (b.free l) ?_;rw[m,Bj,aA<|(Nm.len0 _).mp<|df f]
 ·rw[pN] at f;have i:n.authors≠[]:=λz=>d8 f<|(Nm.len0 _).mpr z;have I:=entry_len d;have M:=O1 d i;refine aL.ret (fX (aL.x<|vR W (g.same b) d) (λe c=>aL.x<|vR W (g.same<|b.trans c) ⟨d,i⟩) ?_) λe p c l m=>k e p (b.trans c) (b.free l) ?_
  ·rw[bX,bX,b9];omega
  ·rw[m,Bj,ak i,gh]
section
variable{U:L2.St}{H:Hp}{ta tv:TE}{a C dx:af}{fs:List (ao×V)}{f:ao}{y:V}{D:Ends}{u:TS}{vs:List V}
def pS(cl:fg K C)(g:gb K C f)(i:fs.length<1000)(j:H a=O (.ins C dx fs))(l:G tv U H y)(h:∀b,J H b->G ta U b (.ref a))(k:∀c,Kt a H c->c a=O (.ins C dx<|d4 f y fs)->D.nx U c):cH K ta tv f D U H:=
 l _ λb d=>h b d _ λc e=>⟨a,C,dx,fs,L,e _ _ (d _ _ j),cl,g,i,k _ (Kt.put<|bE<|d.trans e) ba⟩
def gy(cl:fg K C)(d:gb K C f)(e:fs.length<1000)(g:H a=O (.ins C dx fs))(i:G tv U H y)(h:∀c,J H c->G ta U c (.ref a))(k:∀b,Kt a H b->b a=O (.ins C dx<|d4 f y fs)->u D U b):cF (cH K ta tv f) u D U H:=pS cl d e g i h k
def O2(cl:fg K C)(m:gb K C f)(n:fs.length<1000)(l:H a=O (.ins C dx fs))(o:aL tv U H vs)(h:∀c,J H c->G ta U c (.ref a))
  (k:∀b r,Kt a H b->H r=ai->r≠a->b r=O (.lst vs)->b a=O (.ins C dx<|d4 f (.ref r) fs)->D.nx U b):cH K ta tv f D U H:=
 o _ λc r d g p=>h c d _ λb i=>by
  have j:r≠a:=λe=>by subst e;rw[l] at g;cases g
  exact⟨a,C,dx,fs,L,i _ _ (d _ _ l),cl,m,n,k _ r (Kt.put<|bE<|d.trans i) g j (by rw[aX j];exact i _ _ p) ba⟩
def mV(cl:fg K C)(d:gb K C f)(e:fs.length<1000)(g:H a=O (.ins C dx fs))(i:aL tv U H vs)(h:∀c,J H c->G ta U c (.ref a))
  (k:∀b r,Kt a H b->H r=ai->r≠a->b r=O (.lst vs)->b a=O (.ins C dx<|d4 f (.ref r) fs)->u D U b):cF (cH K ta tv f) u D U H:=O2 cl d e g i h k
end
def Kt.free(a:Kt t H c)(b:c r=ai)(d:r≠t):H r=ai:=by
 cases e:H r with
 |none=>rfl
 |some o=>rw[a r o e d] at b;cases b
def ym(t:TA)(U:L2.St)(H:Hp)(vs:List V):Prop:=∀Q:List V->Hp->Prop,(∀a,J H a->Q vs a)->t U H Q
def iO:ym aW U H []:=λQ k=>k H J.rf
def cT(h:G t U H v)(hs:∀a,J H a->ym c U a vs):ym (aN t c) U H (v::vs):=λQ k=>
 h _ λa b=>hs a b _ λd e=>k d<|b.trans e
def Bl(h:ym t U H vs)(hz:vs.length<=br):aL (pj t) U H vs:=λQ k=>h _ λc a=>⟨hz,λp b=>k _ p (a.trans<|J.new b) (a.free b) ba⟩
def bM(cs:Cs)(H:Hp)(a au:af)(n:bJ):Prop:=∃f h s c d,∃e:List af,H a=O (.ins cs.Name f<|ox n h s c d au)/\aY H h n.head/\aY H s n.sub/\aY H c n.e1/\aY H d n.e2/\
 H au=O (.lst<|e.map V.ref)/\e.length=n.authors.length/\(∀(i:Nat)(b:af)(l:S),e[i]?=O b->n.authors[i]?=O l->aY H b l/\b≠au)/\h≠au/\s≠au/\c≠au/\d≠au
def bM.a{H:Hp}{a au:af}{n:bJ}(h:bM cs H a au n):cy cs H a n:=by
 obtain⟨c,h,s,d,e,f,q,g,j,k,m,o,p,r,_⟩:=h;exact⟨c,h,s,d,e,au,q,g,j,k,m,f,o,p,λi b l x y=>(r i b l x y).1⟩
def bM.same{H H':Hp}{a au:af}{n:bJ}(h:bM cs H a au n)(m:J H H'):bM cs H' a au n:=by
 obtain⟨d,h,s,e,f,g,q,j,k,o,p,r,t,c,u⟩:=h;exact⟨d,h,s,e,f,g,m _ _ q,m _ _ j,m _ _ k,m _ _ o,m _ _ p,m _ _ r,t,λi b l x y=>⟨m _ _ (c i b l x y).1,(c i b l x y).2⟩,u⟩
def Bm(cs:Cs):Sp:=λc H Q _=>∃p d,c=[.ref p]/\H p=O (.ins cs.Name d [])/\∀a b,Kt p H a->H b=ai->bM cs a p b {}->Q .bp a
def vG:T.oo T.vG 1 (Bm cs):=T.vG.aU<|bN λH aq ar nd hL hr aa=>by
 obtain⟨p,v,rfl,w,ab⟩:=aa;have a:∀ae∈(["abbr","q1","q2","num","paren","etal","year","head","sub","e1","e2","authors"]:List ao),gb K cs.Name ae:=T.fL;refine⟨_,(aD (bP (pv 0) aI L)<|aD (bP (pv 0) aI L)<|aD (bP (pv 0) aI L)<|aD (bP (pv 0) (du dv aI) L)<|aD (bP (pv 0) aI L)<|aD (bP (pv 0) aI L)<|aD (bP (pv 0) aI L)<|aD (bP (pv 0) (bQ gv) L)<|aD (bP (pv 0) (bQ gv) L)<|aD (bP (pv 0) (bQ gv) L)<|aD (bP (pv 0) (bQ gv) L)<|aC<|bP (pv 0) (bQ gv) L),?_⟩;refine gy T.ef (a _ bf) aB w aQ aR λH1 x y=>?_;refine gy T.ef (a _ bf) aB y aQ aR λH2 z A=>?_;refine gy T.ef (a _ bf) aB A aQ aR λH3 B C=>?_;refine gy T.ef (a _ bf) aB C (dA aQ) aR λH4 D E=>?_;refine gy T.ef (a _ bf) aB E aQ aR λH5 I M=>?_;refine gy T.ef (a _ bf) aB M aQ aR λH6 N Q=>?_;refine gy T.ef (a _ bf) aB Q aQ aR λH7 k7 h7=>?_;refine mV T.ef (a _ bf) aB h7 ir aR λH8 rh k8 nh g l h8=>?_;refine mV T.ef (a _ bf) (by show 8<1000;decide) h8 ir aR λH9 rs m ns e n h9=>?_;refine mV T.ef (a _ bf) (by show 9<1000;decide) h9 ir aR λah r1 f n1 h o r=>?_;refine mV T.ef (a _ bf) (by show 10<1000;decide) r ir aR λi r2 b n2 p2 q s=>?_;refine O2 T.ef (a _ bf) (by show 11<1000;decide) s ir aR λt ra c d pa qa u=>?_;have t7:Kt p H H7:=x.trans<|z.trans<|B.trans<|D.trans<|I.trans<|N.trans k7;have j:Kt p H i:=t7.trans<|k8.trans<|m.trans<|f.trans b;have k:Kt p H8 i:=m.trans<|f.trans b;refine ab t ra (j.trans c) (j.free d pa) ⟨v,rh,rs,r1,r2,[],u,?_,?_,?_,?_,qa,L,λau av ay ag=>by simp at ag,?_,?_,?_,?_⟩
 ·exact c _ _ (k _ _ l g) g
 ·exact c _ _ (b _ _ (f _ _ n e) e) e
 ·exact c _ _ (b _ _ o h) h
 ·exact c _ _ q p2
 ·exact bA (k _ _ l g) d
 ·exact bA (b _ _ (f _ _ n e) e) d
 ·exact bA (b _ _ o h) d
 ·exact bA q d
def ZQ(k:∀d p au,J H d->H p=ai->H au=ai->bM cs d p au {}->Q (.ref p) d):iZ cs.Name (Bm cs) [] E aW U H Q:=λx g a f gc=>
 ⟨x,g,L,ba,λh au m c n=>⟨L,by
  have st:J H h:=λb o e=>m b o (by rw[aX (bA e a),aX<|bA e f];exact e)<|bA e a;have l:H au=ai:=by
   by_cases i:au=x
   ·subst i;exact a
   ·rw[aX i] at c;by_cases j:au=g
    ·subst j;exact f
    ·rw[aX j] at c;exact c
  exact k h x au st a l n⟩⟩
def intsOf(n:bJ):List Int:=[n.abbr,n.q1,n.q2,n.num,n.paren,n.etal,n.year]
def O3(cs:Cs):Sp:=λb H Q _=>∃a n,b=[.ref a]/\cy cs H a n/\eS H Q (zs<|intsOf n)
def O4:T.bb T.L9 1 (O3 cs):=T.L9.aU<|bN λH Q E l m n h=>by
 obtain⟨aa,ab,rfl,⟨o,h,r,s,t,u,q,v,w,x,y,z⟩,k⟩:=h;refine⟨_,(aC<|aK<|bQ<|aP (aJ<|pv 0)<|aP (aJ<|pv 0)<|aP (aJ<|pv 0)<|aP (aJ<|pv 0)<|aP (aJ<|pv 0)<|aP (aJ<|pv 0)<|aj<|aJ<|pv 0),?_⟩;refine aL.ret (Bl (cT (yi T W q) λe a=>cT (Fc T W<|a _ _ q) λA b=>cT (Fd T W<|b _ _ (a _ _ q)) λB c=>cT (tG T W<|c _ _ (b _ _ (a _ _ q))) λC d=>
  cT (vP T W<|d _ _ (c _ _ (b _ _ (a _ _ q)))) λD f=>cT (A6 T W<|f _ _ (d _ _ (c _ _ (b _ _ (a _ _ q))))) λI g=>cT (A7 T W<|g _ _ (f _ _ (d _ _ (c _ _ (b _ _ (a _ _ q)))))) λM N=>iO) (by show 7<=br;decide)) λe p a i j=>k e p a i j
def O5(h:G t U H (.ref a))(c:cy cs H a n):aL (cA (O3 cs) [] E<|aN t aW) U H (zs<|intsOf n):=λQ k=>
 h _ λi b=>⟨a,n,L,c.same b,λd q e f g=>k d q (b.trans e) (b.free f) g⟩
def O6(cs:Cs):Sp:=λc H Q _=>∃a n,c=[.ref a]/\cy cs H a n/\n.authors.length<=1000/\∀b p,J H b->H p=ai->cU b p ([n.head,n.sub,n.e1,n.e2]++n.authors)->Q (.ref p) b
def oB(h:H p=O (.lst<|as.map V.ref))(c:Paired (aY H) as ls):cU H p ls:=by
 refine⟨as,h,fj c,λi a l b d=>?_⟩;clear h;induction c generalizing i with
 |nil=>simp at b
 |@cons x y g j e _ f=>
  cases i with
  |zero=>
   cases b;cases d;exact e
  |succ i=>exact f i (by simpa using b) (by simpa using d)
def mW(h:cU H p ls):∃as,H p=O (.lst<|as.map V.ref)/\Paired (aY H) as ls:=by
 obtain⟨as,d,c,e⟩:=h;refine⟨as,d,?_⟩;clear d;induction as generalizing ls with
 |nil=>
  cases ls with
  |nil=>exact .nil
  |cons _ _=>cases c
 |cons a as f=>
  cases ls with
  |nil=>cases c
  |cons l ls=>exact .cons (e 0 a l L L) (f (by simpa using c) λi b m g j=>e (i+1) b m (by simpa using g)<|by simpa using j)
def Bn(h:Paired (aY H) as ls)(s:J H H'):Paired (aY H') as ls:=Paired.fT h λ_ _ x=>s _ _ x
def ZR:T.bb T.Ma 1 (O6 cs):=T.Ma.aU<|bN λH Q E v w x h=>by
 obtain⟨a,n,rfl,⟨y,h,f,g,i,z,q,j,l,m,o,r⟩,A,k⟩:=h;obtain⟨s,e,d⟩:=mW r;refine⟨_,(aC<|aK<|cP fW (bQ<|aP (aJ<|pv 0)<|aP (aJ<|pv 0)<|aP (aJ<|pv 0)<|aj<|aJ<|pv 0)<|aJ<|pv 0),?_⟩;refine aL.ret (fX (aL.x<|Fs (kU T W q) (λc b=>tH T W<|b _ _ q) (λc b=>lT T W<|b _ _ q)<|λc b=>qR T W<|b _ _ q) (λc b=>G.x (oq T W<|b _ _ q)<|b _ _ e) ?_) λc p b t u=>k c p b t ?_
 ·rw[bH,fj d,b9];show 4+_<=_;omega
 ·refine oB (as:=h::f::g::i::s) u ?_;exact .cons (b _ _ j)<|.cons (b _ _ l)<|.cons (b _ _ m)<|.cons (b _ _ o)<|Bn d b
section
variable{U:L2.St}{H:Hp}{ta tv:TE}{a au:af}{n:bJ}{D:Ends}{u:TS}
def bM.put{as:List af}{m:bJ}(q:H a=O (.ins cs.Name dx<|ox n h s e1 e2 au))(c:Kt a H k)(e:k a=O (.ins cs.Name dx<|ox m h' s' f g au))
  (o:aY H h' m.head)(p:aY H s' m.sub)(r:aY H f m.e1)(t:aY H g m.e2)(v:H au=O (.lst<|as.map V.ref))(A:as.length=m.authors.length)(j:∀(i:Nat)(b:af)(l:S),as[i]?=O b->m.authors[i]?=O l->aY H b l/\b≠au)
  (B:h'≠au/\s'≠au/\f≠au/\g≠au):bM cs k a au m:=by
 have d:∀x w,H x=O (.lst w)->x≠a:=λx w e=>dO e q (by intro z;cases z);exact⟨dx,h',s',f,g,as,e,c _ _ o (d _ _ o),c _ _ p (d _ _ p),c _ _ r (d _ _ r),c _ _ t (d _ _ t),c _ _ v (d _ _ v),A,λi b l x y=>⟨c _ _ (j i b l x y).1 (d _ _ (j i b l x y).1),(j i b l x y).2⟩,B⟩
def O7{y:Int}(e:bM cs H a au n)(f:G tv U H (.int y))(h:∀b,J H b->G ta U b (.ref a))(k:∀c,Kt a H c->bM cs c a au {n with abbr:=y}->D.nx U c):cH K ta tv "abbr" D U H:=by
 obtain⟨x,g,s,i,j,z,q,l,m,o,p,r,t,v,w⟩:=e;refine YS T f h q λb d=>?_;exact k _ (Kt.put<|bE d) (bM.put (h:=g) (s:=s) (e1:=i) (e2:=j) q (Kt.put<|bE d) ba l m o p r t v w)
def O8(d:bM cs H a au n)(e:G tv U H (.int y))(h:∀c,J H c->G ta U c (.ref a))(k:∀b,Kt a H b->bM cs b a au {n with abbr:=y}->u D U b):cF (cH K ta tv "abbr") u D U H:=O7 T d e h k
def ZS{y:Int}(e:bM cs H a au n)(f:G tv U H (.int y))(h:∀b,J H b->G ta U b (.ref a))(k:∀c,Kt a H c->bM cs c a au {n with q1:=y}->D.nx U c):cH K ta tv "q1" D U H:=by
 obtain⟨x,g,s,i,j,z,q,l,m,o,p,r,t,v,w⟩:=e;refine YU T f h q λb d=>?_;exact k _ (Kt.put<|bE d) (bM.put (h:=g) (s:=s) (e1:=i) (e2:=j) q (Kt.put<|bE d) ba l m o p r t v w)
def O9(d:bM cs H a au n)(e:G tv U H (.int y))(h:∀c,J H c->G ta U c (.ref a))(k:∀b,Kt a H b->bM cs b a au {n with q1:=y}->u D U b):cF (cH K ta tv "q1") u D U H:=ZS T d e h k
def ZT{y:Int}(e:bM cs H a au n)(f:G tv U H (.int y))(h:∀b,J H b->G ta U b (.ref a))(k:∀c,Kt a H c->bM cs c a au {n with q2:=y}->D.nx U c):cH K ta tv "q2" D U H:=by
 obtain⟨x,g,s,i,j,z,q,l,m,o,p,r,t,v,w⟩:=e;refine YW T f h q λb d=>?_;exact k _ (Kt.put<|bE d) (bM.put (h:=g) (s:=s) (e1:=i) (e2:=j) q (Kt.put<|bE d) ba l m o p r t v w)
def Pa(d:bM cs H a au n)(e:G tv U H (.int y))(h:∀c,J H c->G ta U c (.ref a))(k:∀b,Kt a H b->bM cs b a au {n with q2:=y}->u D U b):cF (cH K ta tv "q2") u D U H:=ZT T d e h k
def Pb{y:Int}(e:bM cs H a au n)(f:G tv U H (.int y))(h:∀b,J H b->G ta U b (.ref a))(k:∀c,Kt a H c->bM cs c a au {n with num:=y}->D.nx U c):cH K ta tv "num" D U H:=by
 obtain⟨x,g,s,i,j,z,q,l,m,o,p,r,t,v,w⟩:=e;refine YY T f h q λb d=>?_;exact k _ (Kt.put<|bE d) (bM.put (h:=g) (s:=s) (e1:=i) (e2:=j) q (Kt.put<|bE d) ba l m o p r t v w)
def Pc(d:bM cs H a au n)(e:G tv U H (.int y))(h:∀c,J H c->G ta U c (.ref a))(k:∀b,Kt a H b->bM cs b a au {n with num:=y}->u D U b):cF (cH K ta tv "num") u D U H:=Pb T d e h k
def FC{y:Int}(e:bM cs H a au n)(f:G tv U H (.int y))(h:∀b,J H b->G ta U b (.ref a))(k:∀c,Kt a H c->bM cs c a au {n with paren:=y}->D.nx U c):cH K ta tv "paren" D U H:=by
 obtain⟨x,g,s,i,j,z,q,l,m,o,p,r,t,v,w⟩:=e;refine Y0 T f h q λb d=>?_;exact k _ (Kt.put<|bE d) (bM.put (h:=g) (s:=s) (e1:=i) (e2:=j) q (Kt.put<|bE d) ba l m o p r t v w)
def ZU(d:bM cs H a au n)(e:G tv U H (.int y))(h:∀c,J H c->G ta U c (.ref a))(k:∀b,Kt a H b->bM cs b a au {n with paren:=y}->u D U b):cF (cH K ta tv "paren") u D U H:=FC T d e h k
def Pd{y:Int}(e:bM cs H a au n)(f:G tv U H (.int y))(h:∀b,J H b->G ta U b (.ref a))(k:∀c,Kt a H c->bM cs c a au {n with etal:=y}->D.nx U c):cH K ta tv "etal" D U H:=by
 obtain⟨x,g,s,i,j,z,q,l,m,o,p,r,t,v,w⟩:=e;refine Y2 T f h q λb d=>?_;exact k _ (Kt.put<|bE d) (bM.put (h:=g) (s:=s) (e1:=i) (e2:=j) q (Kt.put<|bE d) ba l m o p r t v w)
def Pe(d:bM cs H a au n)(e:G tv U H (.int y))(h:∀c,J H c->G ta U c (.ref a))(k:∀b,Kt a H b->bM cs b a au {n with etal:=y}->u D U b):cF (cH K ta tv "etal") u D U H:=Pd T d e h k
def Pf{y:Int}(e:bM cs H a au n)(f:G tv U H (.int y))(h:∀b,J H b->G ta U b (.ref a))(k:∀c,Kt a H c->bM cs c a au {n with year:=y}->D.nx U c):cH K ta tv "year" D U H:=by
 obtain⟨x,g,s,i,j,z,q,l,m,o,p,r,t,v,w⟩:=e;refine Y4 T f h q λb d=>?_;exact k _ (Kt.put<|bE d) (bM.put (h:=g) (s:=s) (e1:=i) (e2:=j) q (Kt.put<|bE d) ba l m o p r t v w)
def Pg(d:bM cs H a au n)(e:G tv U H (.int y))(h:∀c,J H c->G ta U c (.ref a))(k:∀b,Kt a H b->bM cs b a au {n with year:=y}->u D U b):cF (cH K ta tv "year") u D U H:=Pf T d e h k
def ZV{l:S}(f:bM cs H a au n)(g:G tv U H (.ref x))(i:aY H x l)(j:x≠au)(h:∀b,J H b->G ta U b (.ref a))(k:∀c,Kt a H c->bM cs c a au {n with head:=l}->D.nx U c):cH K ta tv "head" D U H:=by
 obtain⟨A,m,s,o,p,B,q,C,r,t,v,w,y,z,d⟩:=f;refine Oy T g h q λb e=>?_;exact k _ (Kt.put<|bE e) (bM.put (h:=m) (s:=s) (e1:=o) (e2:=p) q (Kt.put<|bE e) ba i r t v w y z ⟨j,d.2.1,d.2.2.1,d.2.2.2⟩)
def FD(d:bM cs H a au n)(e:G tv U H (.ref x))(f:aY H x l)(g:x≠au)(h:∀c,J H c->G ta U c (.ref a))(k:∀b,Kt a H b->bM cs b a au {n with head:=l}->u D U b):cF (cH K ta tv "head") u D U H:=ZV T d e f g h k
def Ph{l:S}(f:bM cs H a au n)(g:G tv U H (.ref x))(i:aY H x l)(j:x≠au)(h:∀b,J H b->G ta U b (.ref a))(k:∀c,Kt a H c->bM cs c a au {n with sub:=l}->D.nx U c):cH K ta tv "sub" D U H:=by
 obtain⟨A,m,s,o,p,B,q,r,C,t,v,w,y,z,d⟩:=f;refine Y8 T g h q λb e=>?_;exact k _ (Kt.put<|bE e) (bM.put (h:=m) (s:=s) (e1:=o) (e2:=p) q (Kt.put<|bE e) ba r i t v w y z ⟨d.1,j,d.2.2.1,d.2.2.2⟩)
def Pj(d:bM cs H a au n)(e:G tv U H (.ref x))(f:aY H x l)(g:x≠au)(h:∀c,J H c->G ta U c (.ref a))(k:∀b,Kt a H b->bM cs b a au {n with sub:=l}->u D U b):cF (cH K ta tv "sub") u D U H:=Ph T d e f g h k
def ZW{l:S}(f:bM cs H a au n)(g:G tv U H (.ref x))(i:aY H x l)(j:x≠au)(h:∀b,J H b->G ta U b (.ref a))(k:∀c,Kt a H c->bM cs c a au {n with e1:=l}->D.nx U c):cH K ta tv "e1" D U H:=by
 obtain⟨z,m,s,e1,o,A,q,p,r,B,t,v,w,y,d⟩:=f;refine Oz T g h q λb e=>?_;exact k _ (Kt.put<|bE e) (bM.put (h:=m) (s:=s) (e1:=e1) (e2:=o) q (Kt.put<|bE e) ba p r i t v w y ⟨d.1,d.2.1,j,d.2.2.2⟩)
def FE(d:bM cs H a au n)(e:G tv U H (.ref x))(f:aY H x l)(g:x≠au)(h:∀c,J H c->G ta U c (.ref a))(k:∀b,Kt a H b->bM cs b a au {n with e1:=l}->u D U b):cF (cH K ta tv "e1") u D U H:=ZW T d e f g h k
def Pk{l:S}(f:bM cs H a au n)(g:G tv U H (.ref x))(i:aY H x l)(j:x≠au)(h:∀b,J H b->G ta U b (.ref a))(k:∀c,Kt a H c->bM cs c a au {n with e2:=l}->D.nx U c):cH K ta tv "e2" D U H:=by
 obtain⟨z,m,s,o,e2,A,q,p,r,t,B,v,w,y,d⟩:=f;refine OA T g h q λb e=>?_;exact k _ (Kt.put<|bE e) (bM.put (h:=m) (s:=s) (e1:=o) (e2:=e2) q (Kt.put<|bE e) ba p r t i v w y ⟨d.1,d.2.1,d.2.2.1,j⟩)
def Pl(d:bM cs H a au n)(e:G tv U H (.ref x))(f:aY H x l)(g:x≠au)(h:∀c,J H c->G ta U c (.ref a))(k:∀b,Kt a H b->bM cs b a au {n with e2:=l}->u D U b):cF (cH K ta tv "e2") u D U H:=Pk T d e f g h k
end
def ZX{n:bJ}{rs:List af}{ls:List S}(w:bM cs H a au n)(z:aL A U H (rs.map V.ref))(B:rs.length=ls.length)(g:∀(i:Nat)(b:af)(l:S),rs[i]?=O b->ls[i]?=O l->aY H b l)
  (h:∀s,J H s->G C U s (.ref a))(k:∀e r,Kt a H e->H r=ai->bM cs e a r {n with authors:=ls}->u D U e):cF (cH K C A "authors") u D U H:=by
 obtain⟨E,I,aa,M,N,as,q,j,m,o,p,q5,q6,q7,q8⟩:=w;have f:∀x t,H x=O (.lst t)->x≠a:=λx t ab=>dO ab q (by intro ae;cases ae);refine mV T.ef (T.fL _ bf) (by show 12<1000;decide) q z h λe r c d ra Q v=>?_;rw[OB] at v;exact k e r c d ⟨E,I,aa,M,N,rs,v,c _ _ j (f _ _ j),c _ _ m (f _ _ m),c _ _ o (f _ _ o),c _ _ p (f _ _ p),Q,B,λi b l x y=>⟨c _ _ (g i b l x y) (f _ _ (g i b l x y)),bA (g i b l x y) d⟩,bA j d,bA m d,bA o d,bA p d⟩
def FF(k:∀a p au,J H a->H p=ai->H au=ai->bM cs a p au {}->u D (U.set i<|O<|.ref p) a):cF (nT (iZ cs.Name (Bm cs) [] E aW)<|fV i) u D U H:=
 show iZ cs.Name (Bm cs) [] E aW U H (λx a=>u D (U.set i<|O x) a) from ZQ k
def FG(cs:Cs):Sp:=λe H Q _=>∃(b c:af)(n:bJ),e=[.ref b,.ref c]/\sZ H b (intsOf n)/\cU H c ([n.head,n.sub,n.e1,n.e2]++n.authors)/\
 ∀a p d,J H a->H p=ai->H d=ai->bM cs a p d n->Q (.ref p) a
def FH:T.bb T.Mb 3 (FG cs):=T.Mb.aU<|cW ["numbers","texts","name"] λH cc cm nd hL hr bx=>by
 obtain⟨pn,Q,n,rfl,y,aq,b0⟩:=bx;obtain⟨as,f,ar⟩:=mW aq;obtain⟨t,q,u,v,i,rfl,j,k,l,m,tz⟩:∃t q u v i,as=t::q::u::v::i/\aY H t n.head/\aY H q n.sub/\aY H u n.e1/\aY H v n.e2/\Paired (aY H) i n.authors:=by
  cases ar with
  |cons b1 b=>cases b with
   |cons b c=>cases c with
    |cons c d=>cases d with
     |cons d e=>exact⟨_,_,_,_,_,L,b1,b,c,d,e⟩
 refine⟨_,(aD (cw 2 nd<|oj (vG T) T.EV hr)<|aD (bP (pv 2) (bT b8 (pv 0) aI) L)<|aD (bP (pv 2) (bT b8 (pv 0) aI) L)<|aD (bP (pv 2) (bT b8 (pv 0) aI) L)<|aD (bP (pv 2) (bT b8 (pv 0) aI) L)<|aD (bP (pv 2) (bT b8 (pv 0) aI) L)<|aD (bP (pv 2) (bT b8 (pv 0) aI) L)<|aD (bP (pv 2) (bT b8 (pv 0) aI) L)<|aD (bP (pv 2) (bT b8 (pv 1) aI) L)<|aD (bP (pv 2) (bT b8 (pv 1) aI) L)<|aD (bP (pv 2) (bT b8 (pv 1) aI) L)<|aD (bP (pv 2) (bT b8 (pv 1) aI) L)<|aD (bP (pv 2) (kI kJ (pv 1) (jg aI) px) L)<|aC<|aK<|pv 2),?_⟩;refine FF λH0 p au w a s m0=>?_;have h:pn≠p:=bA y a;have g:Q≠p:=bA f a;refine O8 T m0 (e8 W bq (aM.of<|w _ _ y)<|fJ (j:=0) L) aR λH1 z m1=>?_;have g1:=z _ _ (w _ _ y) h;refine O9 T m1 (e8 W bq (aM.of g1)<|fJ (j:=1) L) aR λH2 A m2=>?_;have g2:=A _ _ g1 h;refine Pa T m2 (e8 W bq (aM.of g2)<|fJ (j:=2) L) aR λH3 B m3=>?_;have g3:=B _ _ g2 h;refine Pc T m3 (e8 W bq (aM.of g3)<|fJ (j:=3) L) aR λH4 C m4=>?_;have g4:=C _ _ g3 h;refine ZU T m4 (e8 W bq (aM.of g4)<|fJ (j:=4) L) aR λH5 D m5=>?_;have g5:=D _ _ g4 h;refine Pe T m5 (e8 W bq (aM.of g5)<|fJ (j:=5) L) aR λH6 E m6=>?_;have g6:=E _ _ g5 h;refine Pg T m6 (e8 W bq (aM.of g6)<|fJ (j:=6) L) aR λH7 k7 m7=>?_;have kk:Kt p H H7:=(bE w).trans<|z.trans<|A.trans<|B.trans<|C.trans<|D.trans<|E.trans k7;have a7:=kk _ _ f g;refine FD T m7 (e8 W bq (aM.of a7)<|fJ (j:=0) L) (kk _ _ j (bA j a)) (bA j s) aR λH8 k8 m8=>?_;have kk:=kk.trans k8;refine Pj T m8 (e8 W bq (aM.of<|kk _ _ f g)<|fJ (j:=1) L) (kk _ _ k (bA k a)) (bA k s) aR λH9 k9 m9=>?_;have kk:=kk.trans k9;refine FE T m9 (e8 W bq (aM.of<|kk _ _ f g)<|fJ (j:=2) L) (kk _ _ l (bA l a)) (bA l s) aR λb5 I av=>?_;have kk:=kk.trans I;refine Pl T av (e8 W bq (aM.of<|kk _ _ f g)<|fJ (j:=3) L) (kk _ _ m (bA m a)) (bA m s) aR λay M aE=>?_;have kk:=kk.trans M;have a0:cU ay Q ([n.head,n.sub,n.e1,n.e2]++n.authors):=oB (kk _ _ f g)<|.cons (kk _ _ j (bA j a))<|.cons (kk _ _ k (bA k a))<|.cons (kk _ _ l (bA l a))<|.cons (kk _ _ m (bA m a))<|Paired.fT tz λ_ _ x=>kk _ _ x (bA x a);obtain⟨a3,a4,b4,a5⟩:=a0;have a6:a3=t::q::u::v::i:=by
  have:=(kk _ _ f g).symm.trans a4;have:=HO.lst.inj<|eh this;exact(Ub<|λx ae ag=>V.ref.inj ag).mp this.symm
 subst a6;refine ZX (rs:=i) (ls:=n.authors) T aE ?_ (fj tz) (λb2 b b3 x ae=>a5 (b2+4) b b3 (by simpa using x)<|by simpa using ae) aR λa8 r a9 nr bk=>?_
 ·refine aL.cv (Om (G.x W<|kk _ _ f g) bq) ?_;rw[AU aB];rfl
 ·have kk:=kk.trans a9;have st:J H a8:=λb o e=>kk b o e<|bA e a;refine G.ret W λbl N=>b0 bl p r (st.trans N) a ?_<|bM.same bk N;cases e:H r with
  |none=>rfl
  |some o=>exact absurd ((kk.trans<|Kt.rf) r o e<|bA e a) (by
    intro ag;have:=((bE w:Kt p H H0).trans<|z.trans<|A.trans<|B.trans<|C.trans<|D.trans<|E.trans<|k7.trans<|k8.trans<|k9.trans<|I.trans M) r o e<|bA e a;rw[nr] at this;cases this)
def ZY(f:aL g U H (zs<|intsOf n))(h:∀a,J H a->∀Q:VK,(∀b p,J a b->cU b p ([n.head,n.sub,n.e1,n.e2]++n.authors)->Q (.ref p) b)->i U a Q)
  (k:∀H' p au,J H H'->H p=ai->H au=ai->bM cs H' p au n->Q (.ref p) H'):cA (FG cs) [] E (aN g<|aN i aW) U H Q:=
 f _ λa p c u j=>h a c _ λb q d l=>⟨p,q,n,L,d _ _ j,l,λm r au o s e t=>k m r au (c.trans<|d.trans o) ((c.trans d).free s) ((c.trans d).free e) t⟩
def ZZ(h:G t U H (.ref a))(d:cy cs H a n)(hz:n.authors.length<=1000):∀Q:VK,(∀b p,J H b->cU b p ([n.head,n.sub,n.e1,n.e2]++n.authors)->Q (.ref p) b)->cA (O6 cs) [] E (aN t aW) U H Q:=λQ k=>
 h _ λg c=>⟨a,n,L,d.same c,hz,λb p e i f=>k b p (c.trans e) f⟩
def Pn(cs:Cs):Sp:=λd H Q _=>∃(a h:af)(z:Int)(n:bJ)(l:S),d=[.ref a,.int z,.ref h]/\cy cs H a n/\n.authors.length<=1000/\aY H h l/\
 ∀b p c,J H b->H p=ai->H c=ai->bM cs b p c {n with abbr:=z,head:=l}->(∃e s f g,b p=O (.ins cs.Name e<|ox {n with abbr:=z} h s f g c))->Q (.ref p) b
def Po:T.bb T.Mc 4 (Pn cs):=T.Mc.aU<|cW ["name","abbr","head","other"] λae ag ah t hL e h=>by
 obtain⟨aq,h,z,n,aa,rfl,l,u,f,ab⟩:=h;refine⟨_,(aD (cw 3 t<|aO (FH T) e<|aP (aO (O4 T) e<|aj<|pv 0)<|aj<|aO (ZR T) e<|aj<|pv 0)<|aD (bP (pv 3) (pv 1) L)<|aD (bP (pv 3) (pv 2) L)<|aC<|aK<|pv 3),?_⟩;show cA (FG cs) [] E0 _ _ _ _;refine ZY (n:=n) (O5 W l) (λv a=>ZZ W (l.same a) u) λv p b a g k w=>?_;show cF _ _ _ _ _;refine O8 T w W aR λx m y=>?_;have A:=bA f g;obtain⟨i,B,s,c,d,as,q,q1,C,D,E,H,I,M,N⟩:=id y;refine Y6 T W aR q λo Q=>?_;have r:Kt p x (upd o p<|.ins cs.Name i<|ox {n with abbr:=z} h s c d b):=Kt.put<|bE Q;have m3:bM cs (upd o p<|.ins cs.Name i<|ox {n with abbr:=z} h s c d b) p b {n with abbr:=z,head:=aa}:=bM.put (h:=B) (s:=s) (e1:=c) (e2:=d) q r ba (m _ _ (a _ _ f) A) C D E H I M ⟨bA f k,N.2⟩;refine G.ret W λH4 j=>ab H4 p b ?_ g k (bM.same m3 j) ⟨i,s,c,d,j _ _ ba⟩;exact(Kt.same a g<|m.trans r).trans j
def FI:Sp:=λb H Q _=>∃p a,b=[.ref p]/\H p=O (.lst a)/\a.length<=1000000/\eS H Q (V.int (a.length:Nat)::a)
def vS:T.bb T.counted 1 FI:=T.counted.aU<|bN λH Q E f g i h=>by
 obtain⟨p,j,rfl,b,l,k⟩:=h;refine⟨_,(aC<|aK<|cP fW (bQ<|aj<|b6 cB aZ T.cn cq<|aj<|pv 0)<|pv 0),?_⟩;refine aL.ret (fX (aL.x<|eW<|iN W<|aM.of b) (λc a=>G.x W<|a _ _ b) ?_) λc r a d e=>k c r a d e;rw[b9];show 1+_<=_;omega
def yn(h:fh t U H xs)(hz:xs.length<=1000000):aL (cA FI [] E<|aN t aW) U H (V.int (xs.length:Nat)::xs):=λQ k=>
 h _ λg p a b=>⟨p,xs,L,b,hz,λc q d e f=>k c q (a.trans d) (a.free e) f⟩
def cnt(l:S):List V:=V.int (l.length:Nat)::tx l
def Z0(l:S):(cnt l).length=l.length+1:=by unfold cnt;rw[bV,bX]
def Bo:∀ls:List S,(ls.flatMap cnt).length<=dF ls
 |[]=>dD _
 |a::r=>by
  have:=Bo r;unfold dF at this⊢;rw[qm,aV,Z0];simp only[cM,mD,bV];omega
def Z1(ls:List S)(i:Nat):dF (ls.take i)<=dF ls:=by
 have a:=Hf i ls;have b:=A3<|a.map fZ;have c:=a.length_le;unfold dF;omega
def Z2(h:l∈ls):l.length+4<=dF ls:=by
 have a:[l].Sublist ls:=agd.mpr h;have b:=A3<|a.map fZ;have c:=a.length_le;unfold dF;simp only[cM,mD,wN,age,bV,ly] at b c;omega
def Pp{as:List af}{ls:List S}(c:Paired (aY H) as ls){i:Nat}{l:S}(e1:as[i]?=O a)(e2:ls[i]?=O l):aY H a l:=by
 induction c generalizing i with
 |nil=>simp at e1
 |@cons x y e f b _ d=>
  cases i with
  |zero=>cases e1;cases e2;exact b
  |succ i=>exact d (i:=i) (by simpa using e1) (by simpa using e2)
def pT{as:List af}{i:Nat}(a:(as.map V.ref)[i]?=O x):∃b,as[i]?=O b/\x=V.ref b:=by
 rw[eU] at a;cases e:as[i]?with
 |none=>rw[e] at a;cases a
 |some b=>rw[e] at a;exact⟨b,L,(eh a).symm⟩
def FJ{t:TE}{U:L2.St}{H:Hp}{D:Ends}{u:TS}{g:TG}{b:TS}{p:af}{xs:List V}(h:G t U H (.ref p))(c:H p=O (.lst xs))
  (k:∀a,J H a->∃Pv:Nat->L2.St->Hp->Prop,Pv 0 U a/\(∀i U H',i<=xs.length->Pv i U H'->H' p=O (.lst xs))/\
   (∀i x U H',xs[i]?=O x->Pv i U H'->g x U H' λσ2 d=>b {D with nx:=Pv<|i+1,ct:=Pv<|i+1,bk:=u D} σ2 d)/\∀U H',Pv xs.length U H'->u D U H'):cF (nU (xl K t) g b) u D U H:=
 h _ λa s=>⟨p,L,⟨_,aM.of<|s _ _ c⟩,by
  obtain⟨Pv,e,f,j,l⟩:=k a s;exact zN Pv e (λi U H' m q=>aM.of<|f i U H' m q) j l⟩
def Pr{U:L2.St}{H:Hp}{E:XK}{u:TS}{D:Ends}{as:List af}{ls:List S}{t p:af}{xs:List V}{v j:Nat}(z:∃x,U=U.set v x)(A:U[j]?=O (O<|.ref t))(r:v≠j)(s:v<U.length)
  (h:Paired (aY H) as ls)(B:H t=O (.lst xs))(C:∀a∈as,a≠t)(w:H p=O (.lst<|as.map V.ref))(y:p≠t)(hz:xs.length+dF ls<=10000000)(ab:dF ls<=1000000)
  (k:∀σ' H',(∃x,σ'=U.set v x)->Kt t H H'->H' t=O (.lst<|xs++ls.flatMap cnt)->u D σ' H'):
  ∃Pv:Nat->L2.St->Hp->Prop,Pv 0 U H/\(∀i U H',i<=(as.map V.ref).length->Pv i U H'->H' p=O (.lst<|as.map V.ref))/\
   (∀i x U H',(as.map V.ref)[i]?=O x->Pv i U H'->fV v x U H' λσ2 I=>(gu<|kK K "list" sL (dQ j)<|aN (cA FI [] E<|aN (dQ v) aW) aW) {D with nx:=Pv<|i+1,ct:=Pv<|i+1,bk:=u D} σ2 I)/\∀U H',Pv (as.map V.ref).length U H'->u D U H':=by
 have q:as.length=ls.length:=fj h;refine⟨λi σ' H'=>(∃x,σ'=U.set v x)/\Kt t H H'/\H' t=O (.lst<|xs++(ls.take i).flatMap cnt),⟨z,Kt.rf,by rw[B];simp⟩,λi σ' H' _ ⟨_,c,_⟩=>c _ _ w y,?_,?_⟩
 ·rintro i x σ' H' M ⟨⟨aa,rfl⟩,c,d⟩;obtain⟨b,f,rfl⟩:=pT M;have ae:i<as.length:=(fC.mp f).1;obtain⟨l,e⟩:∃l,ls[i]?=O l:=⟨_,gq aG⟩;have N:=c _ _ (Pp h f e) (C b<|ei f);have zl:=Z2<|ei e;have m:((ls.take<|i+1).flatMap cnt).length<=dF ls:=eO (Bo _)<|Z1 ls _;rw[take_succ e,qo,aV] at m;have n:([l].flatMap cnt)=cnt l:=by simp
  rw[n] at m;refine pM (xs:=xs++(ls.take i).flatMap cnt) (ys:=cnt l) (fM ?_) d (λo g=>aL.x ?_) ?_ λo g=>⟨⟨O<|.ref b,by rw[C3]⟩,Kt.put<|c.trans<|bE g,?_⟩
  ·rw[C3,CA r];exact A
  ·have:=yn (E:=E) (t:=dQ v) (U:=(U.set v aa).set v<|O<|.ref b) (H:=o) (xs:=tx l) (G.x (fM<|by rw[C3,Cz s])<|g _ _ N) (by rw[bX];omega);rw[bX] at this;exact this
  ·rw[aV,b9];omega
  ·rw[ba,take_succ e,qo,n,hX]
 ·rintro σ' H' ⟨Q,c,d⟩;rw[bH,q,kx] at d;exact k σ' H' Q c d
def Z3(n:bJ):zs (0::qr n)=[V.int 0]++zs (intsOf n)++([n.head,n.sub,n.e1,n.e2].flatMap cnt)++[V.int (n.authors.length:Nat)]++n.authors.flatMap cnt:=by
 have c:∀l:S,(gS l).map V.int=cnt l:=λl=>by
  unfold gS fm cnt tx;rw[cM,iB];rfl
 have d:∀b:List S,(b.flatMap gS).map V.int=b.flatMap cnt:=λb=>by
  induction b with
  |nil=>rfl
  |cons a r e=>rw[qm,fR,e,c,qm]
 unfold zs qr intsOf;simp only[cM,fR,wN,c,d,qm,List.flatMap_nil,gp,rS,TZ,hX]
def Pt(cs:Cs):Sp:=λb H Q _=>∃a n,b=[.ref a]/\cy cs H a n/\dF ([n.head,n.sub,n.e1,n.e2]++n.authors)<=1000000/\eS H Q (zs<|0::qr n)
def Bp(a b:List S):dF (a++b)=dF a+dF b:=by unfold dF;rw[fR,List.sum_append,aV];omega
def Pu:T.bb T.Me 2 (Pt cs):=T.Me.aU<|cW ["name","answer","text","author"] λaa ar av l hL m h=>by
 obtain⟨ab,n,rfl,u,hz,ae⟩:=h;obtain⟨dx,h,v,w,x,au,q,y,z,A,B,C⟩:=id u;obtain⟨D,j,k⟩:=mW C;refine⟨_,(aD (cw 1 l<|cP fW (bQ<|aj aI)<|aO (O4 T) m<|aj<|pv 0)<|aD (iH iC L (iG<|bQ<|aP (aJ<|pv 0)<|aP (aJ<|pv 0)<|aP (aJ<|pv 0)<|aj<|aJ<|pv 0) (d7 2 l)<|aC<|bW<|eK eL j3 j4 jt (pv 1)<|aj<|aO (vS T) m<|aj<|pv 2)<|aD (bW<|eK eL jJ jK jj (pv 1)<|aj<|b6 cB aZ T.cn cq<|aj<|aJ<|pv 0)<|aD (iH iC L (iG<|aJ<|pv 0) (d7 3 l)<|aC<|bW<|eK eL j3 j4 jt (pv 1)<|aj<|aO (vS T) m<|aj<|pv 3)<|aC<|aK<|pv 1),?_⟩;rw[Bp] at hz;refine aL.eB (fX (aL.x<|eW aQ) (λH1 d=>aL.x<|O5 W<|u.same d) (by rw[b9];show 1+7<=_;decide)) λH1 t d a E=>?_;have l4:∀b∈[h,v,w,x],b≠t:=λb f=>by
  simp only[dN,nL,y4] at f;rcases f with rfl|rfl|rfl|rfl
  ·exact bA y a
  ·exact bA z a
  ·exact bA A a
  ·exact bA B a
 refine A2 (xs:=[h,v,w,x].map V.ref) (Fs (kU T W<|d _ _ q) (λg c=>tH T W<|c _ _ (d _ _ q)) (λg c=>lT T W<|c _ _ (d _ _ q))<|λg c=>qR T W<|c _ _ (d _ _ q)) λg ay c H hp=>?_;have e:=d.trans c;refine Pr (U:=[O (.ref ab),O<|.ref t,ai,ai]) (H:=g) (ls:=[n.head,n.sub,n.e1,n.e2]) (t:=t) (v:=2) (j:=1) ⟨_,L⟩ L aB (by show 2<4;decide) (.cons (e _ _ y)<|.cons (e _ _ z)<|.cons (e _ _ A)<|.cons (e _ _ B) .nil) (c _ _ E) l4 hp (λag=>by subst ag;rw[E] at H;cases H) ?_ ?_ ?_
 ·rw[aV];show 1+7+_<=_;omega
 ·omega
 rintro σ' H3 ⟨ah,rfl⟩ k3 h3;have o:J aa H3:=k3.same e a;refine yf W h3 (λI i=>tF (oq T W<|i _ _ (o _ _ q))<|C.same<|o.trans i) ?_ λI i=>?_
 ·have:=Bo [n.head,n.sub,n.e1,n.e2];rw[aV,aV,b9];show 1+7+_<_;omega
 have p:J aa (upd I t<|.lst<|[V.int 0]++zs (intsOf n)++[n.head,n.sub,n.e1,n.e2].flatMap cnt++[V.int (n.authors.length:Nat)]):=kT (o.trans i) a;refine FJ (xs:=D.map V.ref) (oq T W<|p _ _ q) (p _ _ j) λH5 M=>?_;have r:=p.trans M;have c4:=Bo [n.head,n.sub,n.e1,n.e2];refine Pr (U:=[O (.ref ab),O<|.ref t,ah,ai]) (H:=H5) (ls:=n.authors) (t:=t) (v:=3) (j:=1) ⟨_,L⟩ L aB (by show 3<4;decide) (Bn k r) (M _ _ ba) (λb f=>?_) (r _ _ j) (bA j a) ?_ aG ?_
 ·obtain⟨aq,N⟩:=uN.mp f;have s:aq<D.length:=(fC.mp N).1;rw[fj k] at s;exact bA (Pp k N<|gq s) a
 ·rw[aV,aV,aV];show 1+7+_+1+_<=_;omega
 rintro σ' H6 ⟨az,rfl⟩ k6 h6;refine G.ret W λH7 Q=>ae H7 t ((k6.same r a).trans Q) a ?_;rw[Z3];exact Q _ _ h6
def Pw(h:G t U H (.ref a))(c:cy cs H a n)(hz:dF ([n.head,n.sub,n.e1,n.e2]++n.authors)<=1000000):aL (cA (Pt cs) [] E<|aN t aW) U H (zs<|0::qr n):=λQ k=>
 h _ λi b=>⟨a,n,L,c.same b,hz,λd q e f g=>k d q (b.trans e) (b.free f) g⟩
def qT(l:S):zs (fm l)=tx l:=by unfold zs fm tx;rw[iB];rfl
def fO.Bq(h:nJ n=Y)(hz:n.head.length<=5000/\n.sub.length<=5000/\n.e1.length<=5000/\n.e2.length<=5000/\dF n.authors<=1000000):fO n:=by
 rw[K9] at h;simp only[bL] at h;obtain⟨_,_,b,a,c⟩:=h;unfold qJ at a;split at a
 ·cases a
 rw[bL,AB,AD,K6,K7] at a;rw[K8,EL,vB] at c;unfold qI at b;refine⟨?_,?_,?_,λd=>?_,hz.1,hz.2.1,hz.2.2.1,hz.2.2.2.1,hz.2.2.2.2⟩
 ·rcases a.1 with z|z<;>omega
 ·rcases a.2 with z|z<;>omega
 ·split at b
  ·omega
  ·simp only[bL,bO] at b;omega
 ·rcases c with z|z
  ·exact absurd z.1 d
  ·omega
def Z4(cs:Cs):Sp:=λb H Q _=>∃a n,b=[.ref a]/\cy cs H a n/\(n.head.length<=5000/\n.sub.length<=5000/\n.e1.length<=5000/\n.e2.length<=5000/\dF n.authors<=1000000)/\
 eS H Q (zs (if nJ n=Y then 0::fm (hZ n) else[-1]))
def Br(ok:fO n):(hZ n).length<=1100000:=by
 rw[Bj];have:=entry_len ok;split
 ·omega
 ·rename_i h;have:=O1 ok h;rw[aV];omega
def Z5:T.bb T.Mq 8 (Z4 cs):=T.Mq.aU<|bN λH Q E o q i h=>by
 obtain⟨a,n,rfl,j,m,k⟩:=h;refine⟨_,(aD (bw (eJ<|cN<|aO (OP T) i<|aj<|pv 0) (aC<|aK<|bQ<|aj<|du dv aI) bB)<|aC<|aK<|cP fW (bQ<|aj aI)<|aO (Bk T) i<|aj<|pv 0),?_⟩;refine bg.bU (eM<|cS<|tN W j) λr c=>bh (λb=>?_)<|λb=>?_
 ·rw[dZ] at b;refine aL.ret (eW<|dA aQ) λe p d f g=>k e p (c.trans d) (c.free f) ?_;rw[g,ak (by rw[b];decide)];rfl
 ·rw[eG] at b;have l:=fO.Bq b m;have s:=Br l;refine aL.ret (fX (aL.x<|eW aQ) (λe d=>aL.x<|vR W (j.same<|c.trans d) l) ?_) λe p d f g=>k e p (c.trans d) (c.free f) ?_
  ·rw[bX,b9];show 1+_<=_;omega
  ·rw[g,aA b];show _=O (HO.lst<|V.int 0::zs (fm<|hZ n));rw[qT];rfl
open Vbnlab (plain)
def sg(c:Nat):V:=.str ⟨#[c]⟩
def fP(l:List Nat):List V:=l.map sg
def tQ(l:List Nat):(fP l).length=l.length:=by unfold fP;rw[bH]
def FK:List (ao×ao):=[("ae","e"),("oe","e"),("ph","f"),("pf","f"),("ch","c"),("th","t"),("rh","r"),("ct","t"),("bb","b"),("cc","c"),("dd","d"),("ff","f"),("gg","g"),("ii","i"),("ll","l"),("mm","m"),("nn","n"),("pp","p"),("qq","q"),("rr","r"),("ss","s"),("tt","t"),("xx","x"),("zz","z")]
def FL:List (ao×ao):=[("j","i"),("y","i"),("v","u"),("k","c")]
def Z6:List (Nat×Nat×Nat):=[(97,101,101),(111,101,101),(112,104,102),(112,102,102),(99,104,99),(116,104,116),(114,104,114),(99,116,116),(98,98,98),(99,99,99),(100,100,100),(102,102,102),(103,103,103),(105,105,105),(108,108,108),(109,109,109),(110,110,110),(112,112,112),(113,113,113),(114,114,114),(115,115,115),(116,116,116),(120,120,120),(122,122,122)]
def Bs(a c:Nat):List (Nat×Nat×Nat)->Option Nat
 |[]=>ai
 |p::l=>if p.1=a/\p.2.1=c then O p.2.2 else Bs a c l
def Px(a c:Nat):∀l:List (Nat×Nat×Nat),jk (⟨#[a]⟩++⟨#[c]⟩) (l.map λp=>(⟨#[p.1,p.2.1]⟩,⟨#[p.2.2]⟩))=(Bs a c l).map λz=>(⟨#[z]⟩:ao)
 |[]=>rfl
 |(x,y,z)::l=>by
  show(if decide ((⟨#[a]⟩++⟨#[c]⟩:ao)=⟨#[x,y]⟩)=Y then O (⟨#[z]⟩:ao) else jk (⟨#[a]⟩++⟨#[c]⟩) _)=TR _ (if x=a/\y=c then O z else Bs a c l);have e:((⟨#[a]⟩++⟨#[c]⟩:ao)=⟨#[x,y]⟩)↔(x=a/\y=c):=by
   show((⟨#[a]++#[c]⟩:ao)=⟨#[x,y]⟩)↔_;simp[eq_comm]
  by_cases h:x=a/\y=c
  ·rw[aA h,aA<|eN<|e.mpr h];rfl
  ·rw[ak h,ak (by rw[bO,e];exact h)];exact Px a c l
def Z7:∀i<26,∀j<26,Bs (97+i) (97+j) Z6=gC (97+i) (97+j):=by decide+kernel
def Z8(i:Nat)(a:i<26)(j:Nat)(b:j<26):jk (⟨#[97+i]⟩++⟨#[97+j]⟩) FK=(gC (97+i)<|97+j).map λz=>(⟨#[z]⟩:ao):=by
 rw[<-Z7 i a j b,<-Px];rfl
def Z9:∀i<26,∀j<26,((gC (97+i)<|97+j).all bD)=Y:=by decide+kernel
def aaa:∀i<26,(jk ⟨#[97+i]⟩ FL).getD ⟨#[97+i]⟩=(⟨#[plain (97+i)]⟩:ao):=by decide+kernel
def Py:∀i<26,bD (plain<|97+i)=Y:=by decide+kernel
def aab:∀i<26,(tl<|nF "abcdefghijklmnopqrstuvwxyz")[i]?=O (97+i):=by decide+kernel
def qU(h:bD b=Y):∃i<26,b=97+i:=by
 unfold bD at h;rw[bL,bO,bO] at h;exact⟨b-97,aG,aG⟩
def pairs_at(b:bD a=Y)(d:bD c=Y):jk (⟨#[a]⟩++⟨#[c]⟩) FK=(gC a c).map λz=>(⟨#[z]⟩:ao):=by
 obtain⟨i,e,rfl⟩:=qU b;obtain⟨j,f,rfl⟩:=qU d;exact Z8 i e j f
def Pz(b:bD a=Y)(d:bD c=Y)(h:gC a c=O z):bD z=Y:=by
 obtain⟨i,e,rfl⟩:=qU b;obtain⟨j,f,rfl⟩:=qU d;have:=Z9 i e j f;rw[h] at this;exact this
def foldable(l:S):Bool:=l.all λb=>bD b||b==45
def aac:V->Bool
 |.int i=>decide (i=45)||d5 97 122 i
 |_=>ax
def aad:T.bb T.LM 2 (qO foldable):=T.LM.aU<|cW ["text","byte"] λH Q E c e f h=>by
 obtain⟨a,l,rfl,d,k⟩:=h;refine⟨_,(aC<|aK<|b6 (xw L) aZ T.xT x8<|aj<|lN (own:=[("byte",1)]) L c (iG<|pv 0) (kL (show jO ["text","byte"] (cR<|top 37) _ _=Y by decide+kernel)) (λ_ _ _ _ _=>(d7 1 c)) (λ_ _ _ _ _=>pA)<|λ_ _ _ _ _=>(xi (gw de (pv 1)<|cD T.nY)<|ic<|aO (tu T) f<|aj<|pv 1)),?_⟩;refine G.ret (E8 (g:=aac) (i:=0) (v:=1) L (aM.of d) (e a _ (aM.of d)) λx g o p=>?_) λi j=>cI (k i j) ?_
 ·obtain⟨b,_,rfl⟩:=E7 g;exact AY (dw W λm n=>aQ) λm n _=>g8 W
 ·unfold foldable tx;rw[qj];congr 1;funext b
  show _=(decide ((b:Int)=45)||d5 97 122 (b:Int));rw[xM,agf,fS];congr 1;apply cY.mpr;omega
def PB:Sp:=λc H Q _=>∃a l,c=[.ref a]/\aY H a l/\foldable l=Y/\eS H Q (fP<|(l.filter λb=>b !=45).map plain)
def PD:V->V
 |.int i=>sg i.toNat
 |_=>.bp
def aae:V->V
 |.str x=>.str<|(jk x FL).getD x
 |_=>.bp
def FN(h:foldable l=Y):∀b∈l.filter (λb=>b !=45),bD b=Y:=λb a=>by
 obtain⟨c,d⟩:=rF.mp a;have:=qk.mp h b c;rw[jH] at this;rcases this with z|z
 ·exact z
 ·rw[fB] at z;subst z;simp at d
def aaf:T.bb T.LN 1 PB:=T.LN.aU<|cW ["text","letters","byte","letter"] λH Q aa d r M h=>by
 obtain⟨a,l,rfl,f,y,k⟩:=h;have s:=FN y;refine⟨_,(aD (VQ (i:=1) (own:=[("byte",2)]) L d L L (VR L L L L) (iG<|pv 0) (kL (show jO ["text","letters","byte","letter"] (cR<|top 38) _ _=Y by decide+kernel)) (λ_ _ _ _ _=>(d7 2 d)) (λ_ _ _ _ _=>(Ad<|bK pb (pv 2)<|cD T.nY))<|λ_ _ _ _ _=>(bT Vu (cD T.XR)<|cP iY (pv 2) aI))<|aC<|aK<|lN (own:=[("letter",3)]) L d (iG<|pv 1) (kL (show jO ["text","letters","byte","letter"] (cR<|top 38) _ _=Y by decide+kernel)) (λ_ _ _ _ _=>(d7 3 d)) (λ_ _ _ _ _=>pA)<|λ_ _ _ _ _=>(XE T.XS (pv 3) (pv 3) ⟨L,L,L,L⟩)),?_⟩;refine sq ?_;refine⟨_,L,_,L,⟨_,aM.of f⟩,λab z=>?_⟩;refine Ej (yd 45) PD (aM.of f) z (r a _ (aM.of f)) (λx c g A j n=>?_) (λx c v g A j n=>?_)<|λg j o=>?_
 ·obtain⟨b,_,rfl⟩:=E7 c;refine⟨_,L,L,_,L,?_⟩;rw[E5];exact n g J.rf
 ·obtain⟨b,m,rfl⟩:=E7 c;have w:b∈l.filter (λb=>b !=45):=by
   refine rF.mpr ⟨m,?_⟩;have:(!decide ((b:Int)=((45:Nat):Int)))=Y:=v;rw[dZ,hU] at this;simp;omega
  obtain⟨i,p,rfl⟩:=qU<|s b w;refine⟨_,L,_,_,L,L,_,_,_,L,L,bf,?_,n g J.rf⟩;have e:(((97+i:Nat):Int)-97)=(i:Int):=by omega
  rw[e];exact fJ<|aab i p
 ·have B:((tx l).filter<|yd 45).map PD=fP (l.filter λb=>b !=45):=by
   rw[Od];unfold tx fP;rw[iB];exact uM λb _=>by show sg (b:Int).toNat=sg b;rw[ku]
  rw[B] at o;have C:(fP<|l.filter λb=>b !=45).length<=br:=by
   rw[tQ];have:=r a _ (aM.of f);rw[bX] at this;exact eO (oQ _ _) this
  refine⟨_,L,_,L,⟨_,aM.of o⟩,λD q=>?_⟩;refine Ak aae (aM.of o) q C (λx c t N u E=>?_)<|λt u I=>k t D (j.trans u) (j.free q) ?_
  ·unfold fP at c;obtain⟨b,m,rfl⟩:=iz.mp c;exact⟨_,L,_,L,_,_,L,L,E _ J.rf⟩
  ·rw[I];unfold fP;rw[iB,iB];congr 2;refine uM λb m=>?_;obtain⟨i,p,rfl⟩:=qU<|s b m;show V.str ((jk ⟨#[97+i]⟩ FL).getD ⟨#[97+i]⟩)=sg (plain<|97+i);rw[aaa i p];rfl
def aag(c:G d U H (.str x))(e:∀a,J H a->G f U a (.str y))(hz:x.length+y.length<=br):G (dG (λx y H Q=>∃i j,x= .str i/\y= .str j/\i.length+j.length<=br/\Q (.str<|i++j) H) d f) U H (.str<|x++y):=λQ k=>
 c _ λa b=>e a b _ λg h=>⟨x,y,L,L,hz,k g<|b.trans h⟩
def aah(h:G a U H (.str x)):bg (tB<|Le a D) U H (jk x D).isSome:=λQ k=>
 h _ λb c=>⟨x,L,_,L,k b c⟩
def yo(p:af)(H:Hp):Nat:=match H p with
 |some (.lst a)=>a.length
 |_=>0
def Bt(h:H p=O (.lst xs)):yo p H=xs.length:=by unfold yo;rw[h]
def yq(c:Nat)(st:List Nat):fP (c::st).reverse=fP st.reverse++[sg c]:=by unfold fP;simp
def Bu(a c:Nat)(st:List Nat):Nm.push (a::st) c=match gC a c with
  |some z=>Nm.push st z
  |none=>c::a::st:=rfl
def aai:Sp:=λd H Q _=>∃p st c,d=[.ref p,sg c]/\H p=O (.lst<|fP<|C7 st)/\(∀b∈st,bD b=Y)/\bD c=Y/\st.length<=1000000/\∀a,Kt p H a->a p=O (.lst<|fP (Nm.push st c).reverse)->Q .bp a
def aaj:T.bb T.LO 1 aai:=T.LO.aU<|bN λH aa ab B N Q h=>by
 obtain⟨p,st,c,rfl,C,D,E,hz,k⟩:=h;refine⟨_,(aD (o9 iC (PW.pt<|iF (bK kF (b6 cB aZ T.cn cq<|aj<|pv 0) aI)<|iE<|Ip<|XB T.Lk<|cP xp (bT b8 (pv 0)<|du dv aI)<|pv 1)<|aC<|cw 1 B<|XD T.Lk (cP xp (Vz eL PySem.F.slot_list_pop PySem.F.type_list_pop VE<|pv 0)<|pv 1)<|λ_ _=>rfl)<|aC<|bW<|eK eL jJ jK jj (pv 0)<|aj<|pv 1),?_⟩;refine vM (λU l=>∃j f,U=[O (.ref p),O<|sg f]/\Kt p H l/\l p=O (.lst<|fP<|C7 j)/\(∀b∈j,bD b=Y)/\bD f=Y/\j.length<=st.length/\Nm.push j f=Nm.push st c) (λU l=>yo p l)
  ⟨st,c,L,Kt.rf,C,D,E,bG _,L⟩ ?_
 rintro U l ⟨j,f,rfl,r,g,t,u,A,s⟩;cases j with
 |nil=>
  refine⟨_,iq (b:=ax) (bI<|cj (iN W<|aM.of g) λm d=>aQ)<|λm d z=>by simp[fP] at z,λm d=>?_⟩;rw[Hj];refine mP ?_;refine ye W (d _ _ g) (λn i=>fM L) aB λn i=>k _ (Kt.put<|r.trans<|bE<|d.trans i) ?_;rw[ba,<-s];rfl
 |cons a e=>
  have w:bD a=Y:=t a<|dY ..;have x:ij (fP<|C7<|a::e) (-1)=O (sg a):=by rw[yq];exact DO _ _
  have M:0<(fP<|C7<|a::e).length:=by rw[tQ];simp
  have q:=pairs_at w u;refine⟨_,iq (bI<|cj (iN W<|aM.of g) λm d=>aQ)<|λm d _=>aah<|aag (e8 W (λn i=>dA aQ) (aM.of<|d _ _ g) x) (λn i=>fM L) (by show 2<=br;decide),λm d=>?_⟩;rw[eN aG,uJ];show if(jk (⟨#[a]⟩++⟨#[f]⟩) FK).isSome=Y then _ else _
  rw[q,Hu]
  ·cases o:gC a f with
   |none=>
    refine mP ?_;refine ye W (d _ _ g) (λn i=>fM L) ?_ λn i=>k _ (Kt.put<|r.trans<|bE<|d.trans i) ?_
    ·rw[tQ,HM,b9];omega
    ·rw[ba,<-s,Bu,o];show _=O (HO.lst<|fP (f::a::e).reverse);rw[yq f (a::e)]
   |some z=>
    refine mQ ?_;rw[o] at q;have v:=d _ _ g;have y:(fP<|C7<|a::e).length=e.length+1:=by rw[tQ];simp
    refine⟨_,L,.inl ⟨L,_,aM.of v⟩,p,_,sg a,L,L,v,?_,_,L,_,_,L,L,(by show 2<=br;decide),_,⟨#[z]⟩,L,q,⟨e,z,L,Kt.put<|r.trans<|bE d,?_,λb I=>t b<|dS _ I,Pz w u o,by have:=A;simp only[bV] at this;omega,?_⟩,?_⟩
    ·rw[y,agb,yq];have:(fP e.reverse).length=e.length:=by rw[tQ,HM]
     rw[<-this];simp
    ·rw[ba,yq,agg]
    ·rw[<-s,Bu,o]
    ·rw[Bt ba,Bt g,yq,agg];simp
def PF:Sp:=λb H Q _=>∃a l,b=[.ref a]/\aY H a l/\foldable l=Y/\l.length<=1000000/\eS H Q (tx<|dq l)
def PH:∀(st:List Nat)(c:Nat),(∀b∈st,bD b=Y)->bD c=Y->∀b∈Nm.push st c,bD b=Y
 |[],c,_,e,b,d=>by cases d with|head=>exact e|tail _ h=>cases h
 |a::st,c,f,e,b,d=>by
  rw[Bu] at d;have i:=f a<|dY ..;cases g:gC a c with
  |none=>
   rw[g] at d;rcases dN.mp d with rfl|h
   ·exact e
   ·exact f b h
  |some z=>
   rw[g] at d;exact PH st z (λb d=>f b<|dS _ d) (Pz i e g) b d
def PJ:∀(st:List Nat)(c:Nat),(Nm.push st c).length<=st.length+1
 |[],c=>bG _
 |a::st,c=>by
  rw[Bu];cases b:gC a c with
  |none=>exact bG _
  |some z=>
   have:=PJ st z;simp only[bV];omega
def aak(h:G t U H (.ref a))(d:aY H a l)(e:foldable l=Y):aL (cA PB [] E<|aN t aW) U H (fP<|(l.filter λb=>b !=45).map plain):=λQ k=>
 h _ λm c=>⟨a,l,L,c _ _ d,e,λf q g i j=>k f q (c.trans g) (c.free i) j⟩
def aal:V->V
 |.str y=>.int (y.cps.getD 0 0:Nat)
 |_=>.bp
def FO(w:List Nat)(f:∀b∈w,bD b=Y)(i:Nat):(∀b∈(w.take i).foldl Nm.push [],bD b=Y)/\((w.take i).foldl Nm.push []).length<=i:=by
 have e:∀(l st:List Nat),(∀b∈l,bD b=Y)->(∀b∈st,bD b=Y)->(∀b∈l.foldl Nm.push st,bD b=Y)/\(l.foldl Nm.push st).length<=st.length+l.length:=by
  intro l;induction l with
  |nil=>intro st _ h;exact⟨h,bG _⟩
  |cons c l g=>
   intro st d j;have:=g (Nm.push st c) (λb a=>d b<|dS _ a)<|PH st c j<|d c<|dY ..;refine⟨this.1,?_⟩;have q:=PJ st c;have k:=this.2;simp only[TX,bV];omega
 have:=e (w.take i) [] (λb a=>f b<|List.mem_of_mem_take a) aT;refine⟨this.1,eO this.2 ?_⟩;rw[ly,afX,gA];exact Nat.min_le_left _ _
def FP:T.bb T.fold 2 PF:=T.fold.aU<|cW ["text","folded","letter"] λaa au av k hL u ab=>by
 obtain⟨ae,l,rfl,M,w,hz,ag⟩:=ab;have N:=FN w;have m:∀b∈(l.filter λb=>b !=45).map plain,bD b=Y:=λb y=>by
  obtain⟨c,g,rfl⟩:=iz.mp y;obtain⟨i,d,rfl⟩:=qU<|N c g;exact Py i d
 refine⟨_,(aD (cw 1 k<|bQ gv)<|aD (iH iC L (iG<|aO (aaf T) u<|aj<|pv 0) (d7 2 k)<|aC<|bW<|aO (aaj T) u<|aP (pv 1)<|aj<|pv 2)<|aC<|aK<|lN (own:=[("letter",2)]) L k (iG<|pv 1) (kL (show jO ["text","folded","letter"] (cR<|top 40) _ _=Y by decide+kernel)) (λ_ _ _ _ _=>(d7 2 k)) (λ_ _ _ _ _=>pA)<|λ_ _ _ _ _=>(b6 IV aZ T.Lq N2<|aj<|pv 2)),?_⟩;generalize n:(l.filter λb=>b !=45).map plain=a at m;have vL:a.length<=l.length:=by rw[<-n,bH];exact oQ _ _
 refine aL.eB ir λH1 t z Q A=>?_;refine A2 (xs:=fP a) (by rw[<-n];exact aak W (z _ _ M) w) λH2 ah B C hq=>?_;have I:ah≠t:=λe=>by subst e;rw[A] at C;cases C
 refine⟨λi U f=>(∃v,U=[O (.ref ae),O<|.ref t,v])/\Kt t H2 f/\f t=O (.lst<|fP ((a.take i).foldl Nm.push []).reverse),⟨⟨ai,L⟩,Kt.rf,B _ _ A⟩,λi U f _ ⟨_,h,_⟩=>h _ _ hq I,?_,?_⟩
 ·rintro i x U f d ⟨⟨v,rfl⟩,h,j⟩;obtain⟨c,g,rfl⟩:∃c,a[i]?=O c/\x=sg c:=by
   unfold fP at d;rw[eU] at d;cases e:a[i]?with
   |none=>rw[e] at d;cases d
   |some b=>rw[e] at d;exact⟨b,L,(eh d).symm⟩
  obtain⟨o,D⟩:=FO a m i;have ar:i<a.length:=(fC.mp g).1;refine⟨_,L,_,L,t,_,c,L,j,o,m c<|ei g,aG,λp q r=>⟨⟨_,L⟩,h.trans q,?_⟩⟩;rw[r,take_succ g,HN];rfl
 ·rintro U f ⟨⟨v,rfl⟩,h,j⟩;have st:J aa f:=h.same (z.trans B) Q;rw[tQ,kx] at j;obtain⟨o,D⟩:=FO a m a.length;rw[kx] at o D;refine⟨_,L,_,L,⟨_,aM.of j⟩,λaq E=>?_⟩;refine Ak aal (aM.of j) E ?_ (λx s p Q3 H q=>?_)<|λp H r=>ag p aq (st.trans H) (st.free E) ?_
  ·rw[tQ,HM,b9];omega
  ·unfold fP at s;obtain⟨b,y,rfl⟩:=iz.mp s;exact⟨_,L,_,L,L,q _ J.rf⟩
  ·rw[r,J9,n];unfold fP tx;rw[iB];rfl
def FQ(h:G t U H (.ref a))(c:aY H a l)(d:foldable l=Y)(hz:l.length<=1000000):aL (cA PF [] E<|aN t aW) U H (tx<|dq l):=λQ k=>
 h _ λj b=>⟨a,l,L,b _ _ c,d,hz,λe q f g i=>k e q (b.trans f) (b.free g) i⟩
def PK(l:S)(d:foldable l=Y):(dq l).length<=l.length:=by
 have e:=FN d;have f:∀b∈(l.filter λb=>b !=45).map plain,bD b=Y:=λb g=>by
  obtain⟨c,h,rfl⟩:=iz.mp g;obtain⟨i,j,rfl⟩:=qU<|e c h;exact Py i j
 rw[J9,HM];obtain⟨k,a⟩:=FO _ f ((l.filter λb=>b !=45).map plain).length;rw[kx] at a;refine eO a ?_;rw[bH];exact oQ _ _
def aam:Sp:=λb H Q _=>∃a l,b=[.ref a]/\aY H a l/\l.length<=1000000/\eS H Q (zs (if foldable l=Y then 0::fm (dq l) else[-1]))
def aan:T.bb T.LP 3 aam:=T.LP.aU<|bN λH Q E n o i h=>by
 obtain⟨a,l,rfl,j,m,k⟩:=h;refine⟨_,(aD (bw (eJ<|cN<|aO (aad T) i<|aj<|pv 0) (aC<|aK<|bQ<|aj<|du dv aI) bB)<|aC<|aK<|cP fW (bQ<|aj aI)<|aO (FP T) i<|aj<|pv 0),?_⟩;refine bg.bU (eM<|cS<|pL W j) λq c=>bh (λb=>?_)<|λb=>?_
 ·rw[dZ] at b;refine aL.ret (eW<|dA aQ) λe p d f g=>k e p (c.trans d) (c.free f) ?_;rw[g,ak (by rw[b];decide)];rfl
 ·rw[eG] at b;have r:=PK l b;refine aL.ret (fX (aL.x<|eW aQ) (λe d=>aL.x<|FQ W (d _ _ (c _ _ j)) b m) ?_) λe p d f g=>k e p (c.trans d) (c.free f) ?_
  ·rw[bX,b9];show 1+_<=_;omega
  ·rw[g,aA b];show _=O (HO.lst<|V.int 0::zs (fm<|dq l));rw[qT];rfl
open Vbnlab (ending)
def fi(l:S):rR:=.list<|l.map λ(b:Nat)=>uQ (b:Int)
def PL{H:Hp}:∀l:S,qx K H (tx l)<|l.map λ(b:Nat)=>uQ (b:Int)
 |[]=>.nil
 |b::l=>.cons (.int _)<|PL l
def tR{H:Hp}{p:af}{l:S}(h:aY H p l):Dp K H (.ref p) (fi l):=.lst (aM.of h)<|PL l
def PM:∀l m:S,C8 (l.map λ(b:Nat)=>uQ (b:Int)) (m.map λ(b:Nat)=>uQ (b:Int))=decide (l=m)
 |[],[]=>rfl
 |[],b::m=>by rw[gP aT];rfl
 |a::l,[]=>by rw[gP aT];rfl
 |a::l,b::m=>by
  have c:=PM l m;rw[cM,cM];show(((a:Int)==(b:Int))&&C8 _ _)=_;rw[c,fS,<-zo];apply cY.mpr;rw[wZ];constructor
  ·rintro⟨x,y⟩;exact⟨aG,y⟩
  ·rintro⟨x,y⟩;exact⟨aG,y⟩
def Bv(l m:S):Tj (fi l) (fi m)=decide (l=m):=PM l m
def lay_ints:∀l:S,HP (l.map λ(b:Nat)=>uQ (b:Int))=Y
 |[]=>rfl
 |b::l=>by rw[cM];show(Y&&HP _)=Y;rw[lay_ints l];rfl
def FR:∀l:S,w6 (l.map λ(b:Nat)=>uQ (b:Int))=0
 |[]=>rfl
 |b::l=>by rw[cM];show max 0 (w6 _)=0;rw[FR l];rfl
def tS(l:S):uE (fi l)=Y:=by
 unfold uE fi;have a:Uc (.list<|l.map λ(b:Nat)=>uQ (b:Int))=Y:=lay_ints l;have c:Ud (.list<|l.map λ(b:Nat)=>uQ (b:Int))=1:=by
  show w6 _+1=1;rw[FR]
 rw[a,c];rfl
section
variable{U:L2.St}{H:Hp}{ta tb:TE}{l m:S}
def tT(d:fh ta U H (tx l))(e:∀a,J H a->fh tb U a (tx m)):G (dG (z9 K) ta tb) U H (.bl<|decide (l=m)):=λQ k=>
 d _ λa p b f=>e a b _ λg q c h=>⟨fi l,fi m,tR<|c _ _ f,tR h,tS l,tS m,by rw[Bv];exact k g<|b.trans c⟩
def aao(d:fh ta U H (tx l))(e:∀a,J H a->fh tb U a (tx m)):G (dG (Jt K) ta tb) U H (.bl<|!decide (l=m)):=λQ k=>
 d _ λa p b f=>e a b _ λg q c h=>⟨fi l,fi m,tR<|c _ _ f,tR h,tS l,tS m,by rw[Bv];exact k g<|b.trans c⟩
end
def yr:T.bb T.LQ 1 (qN<|d5 0 2):=T.LQ.aU<|bN λH Q E c d e h=>by
 obtain⟨i,rfl,k⟩:=h;refine⟨_,(aC<|aK<|kG ig f9 aI (pv 0)<|cD T.XT),?_⟩;refine G.ret (qQ aQ aR bq) λa b=>cI (k a b) ?_;unfold d5;congr 1;apply cY.mpr;omega
def aap:T.bb T.LR 1 (qN<|d5 0 7):=T.LR.aU<|bN λH Q E c d e h=>by
 obtain⟨i,rfl,k⟩:=h;refine⟨_,(aC<|aK<|kG ig f9 aI (pv 0)<|cD T.XU),?_⟩;refine G.ret (qQ aQ aR bq) λa b=>cI (k a b) ?_;unfold d5;congr 1;apply cY.mpr;omega
def FT(h:G t U H (.str x))(hz:x.length<=br):G (gG (λxs H Q=>∃z,xs=[.str z]/\z.length<=br/\Q (.int z.length) H)<|aN t aW) U H (.int ((tl x).length:Nat)):=λQ k=>
 h _ λa b=>⟨x,L,hz,by rw[sO];exact k a b⟩
def PN:Sp:=λc H Q _=>∃a l x,c=[.ref a,.str x]/\aY H a l/\(tl x).length<=1000/\∀b,J H b->Q (.bl<|ql l<|tl x) b
def aaq:T.bb T.LS 2 PN:=T.LS.aU<|bN λH Q E q r e h=>by
 obtain⟨a,l,x,rfl,c,i,k⟩:=h;refine⟨_,(aC<|aK<|ie (gw mK (b6 cB aZ T.cn cq<|aj<|pv 0)<|b6 DR aZ T.cn cq<|aj<|pv 1)<|ic<|gw (qy<|oh e) (kI kJ (pv 0) (jg<|cP iY (b6 cB aZ T.cn cq<|aj<|pv 0)<|b6 DR aZ T.cn cq<|aj<|pv 1) px)<|aO (jA T) e<|aj<|pv 1),?_⟩;have d:x.length<=br:=by rw[sO,b9];omega
 refine G.ret (jB (b:=decide (l.drop (l.length-(tl x).length)=tl x)) (cj (fu W c) λ_ _=>FT W d) λf b j=>?_) λf b=>cI (k f b) ?_
 ·have p:(tl x).length<=l.length:=by have:=df j;omega
  refine tT (aL.x<|aL.cv (Om (G.x W<|b _ _ c)<|λm g=>cj (fu W<|g _ _ (b _ _ c)) λ_ _=>FT W d) ?_)<|λm g=>aL.x<|jT (λQ k=>fM L Q λn o=>k n x o L) i;rw[YB aG];congr 2;omega
 ·rw[K5,fS];congr 1;apply cY.mpr;omega
def aar:∀n<8,(AF[n]?).map (λr=>r.map tl)=O [kz n 0,kz n 1,kz n 2]:=by decide+kernel
def PQ:∀n<8,∀g<3,(kz n g).length<=4:=by decide+kernel
def PR{d:List af}(t:Paired (λa (l:List ao)=>∀H,cO K H a<|l.map V.str) d AF){kd:Int}(h:0<=kd/\kd<=7):
  ∃a,∃f g j:ao,ij (d.map V.ref) kd=O (.ref a)/\(∀H,cO K H a<|[f,g,j].map V.str)/\tl f=kz kd.toNat 0/\tl g=kz kd.toNat 1/\tl j=kz kd.toNat 2:=by
 obtain⟨n,rfl⟩:=zu h.1;have B:n<8:=by omega
 have e:=aar n B;rw[ku];obtain⟨r,u,k⟩:=rQ.mp e;have C:d.length=AF.length:=fj t;have s:n<d.length:=by rw[C];exact(fC.mp u).1
 have o:∀H,cO K H d[n] (r.map V.str):=by
  have w:∀{p:List af}{q:List (List ao)},Paired (λa (l:List ao)=>∀H,cO K H a<|l.map V.str) p q->∀(i:Nat)(a:af)(l:List ao),p[i]?=O a->q[i]?=O l->∀H,cO K H a (l.map V.str):=by
   intro p q o;induction o with
   |nil=>intro i a l m;simp at m
   |@cons x y E I z _ D=>
    intro i a l m v;cases i with
    |zero=>cases m;cases v;exact z
    |succ i=>exact D i a l (by simpa using m) (by simpa using v)
  exact w t n _ r (gq s) u
 have A:r.length=3:=by have:=fG fZ k;simpa using this
 obtain⟨f,g,j,rfl⟩:∃f g j,r=[f,g,j]:=by
  match r,A with
  |[a,b,c],_=>exact⟨a,b,c,L⟩
 ·simp only[cM,wN,wZ,and_true] at k;refine⟨d[n],f,g,j,fJ ?_,o,k.1,k.2.1,k.2.2⟩;rw[eU,gq s];rfl
def aas(l:S)(k:Nat):C9 l k=(([kz k 0,kz k 1,kz k 2].find? λe=>ql l e).map λe=>l.take<|l.length-e.length):=by
 unfold C9 Ue;simp only[ko,agh];cases a:ql l (kz k 0) with
 |true=>rfl
 |false=>
  cases b:ql l (kz k 1) with
  |true=>rfl
  |false=>cases c:ql l (kz k 2)<;>rfl
def aat(h:G t U H (.ref a))(e:∀b,J H b->G u U b (.str x))(f:aY H a l)(g:(tl x).length<=1000):G (cA PN [] E<|aN t<|aN u aW) U H (.bl<|ql l<|tl x):=λQ k=>
 h _ λb c=>e b c _ λm d=>⟨a,l,x,L,d _ _ (c _ _ f),g,λi j=>k i<|c.trans<|d.trans j⟩
def aau:Sp:=λd H Q _=>∃b a l,d=[.int b,.ref a]/\(0<=b/\b<=7)/\aY H a l/\(C9 l b.toNat=ai->∀c,J H c->Q .bp c)/\∀st,C9 l b.toNat=O st->eS H Q (tx st)
def aav:T.bb T.LU 3 aau:=T.LU.aU<|cW ["kind","text","ending"] λH ay az Q hL hr aa=>by
 obtain⟨n,ab,l,rfl,hk,o,t,u⟩:=aa;obtain⟨aq,cE,pE⟩:=T.Ll;refine⟨_,(aD (iH iC L (DC<|bT sI (kR cE)<|pv 0) (d7 2 Q)<|aC<|bw (cN<|aO (aaq T) hr<|aP (pv 1)<|aj<|pv 2) (aC<|aK<|kI kJ (pv 1) px<|jg<|cP iY (b6 cB aZ T.cn cq<|aj<|pv 1)<|b6 DR aZ T.cn cq<|aj<|pv 2) bB)<|aC<|aK qu),?_⟩;obtain⟨w,c,d,f,E,s,z,A,B⟩:=PR pE hk;have bl:∀ae<3,(kz n.toNat ae).length<=4:=PQ n.toNat aG;have bx:∀(i:Nat)(x:ao),[c,d,f][i]?=O x->(tl x).length<=4:=by
  intro i x a;match i,a with
  |0,a=>cases a;rw[z];exact bl 0 aB
  |1,a=>cases a;rw[A];exact bl 1 aB
  |2,a=>cases a;rw[B];exact bl 2 aB
 rw[aas,<-z,<-A,<-B] at t u;intro aE I;refine⟨_,L,_,_,_,_,L,L,I H,E,w,L,⟨_,s H⟩,?_⟩;refine IG (K:=K) (a:=w) (xs:=[c,d,f].map V.str) (λi U h=>(∃v,U=[O (.int n),O<|.ref ab,v])/\J H h/\∀(j:Nat),j<i->∀(x:ao),[c,d,f][j]?=O x->ql l (tl x)=ax) ⟨⟨ai,L⟩,J.rf,λj C=>absurd C (C4 _)⟩ (λi U h _ _=>s h) ?_ ?_
 ·rintro i v U h k ⟨⟨y,rfl⟩,st,b⟩;obtain⟨x,a,rfl⟩:∃x,[c,d,f][i]?=O x/\v=V.str x:=by
   rw[eU] at k;cases e:[c,d,f][i]?with
   |none=>rw[e] at k;cases k
   |some ag=>rw[e] at k;exact⟨ag,L,(eh k).symm⟩
  have au:=bx i x a;have M:x.length<=br:=by rw[sO,b9];omega
  refine bg.iM (cS<|aat W aR (st _ _ o) aG) λH1 m=>bh (λg=>?_)<|λg=>?_
  ·have av:(tl x).length<=l.length:=by
    rw[K5,bL,bO] at g;exact g.1
   have hf:([tl c,tl d,tl f].find? λe=>ql l e)=O (tl x):=by
    match i,a,b with
    |0,a,_=>cases a;rw[ko,g]
    |1,a,b=>cases a;rw[ko,b 0 aB c L,ko,g]
    |2,a,b=>cases a;rw[ko,b 0 aB c L,ko,b 1 aB d L,ko,g]
   refine aL.ret (aL.cv (A1 (G.x W<|m _ _ (st _ _ o))<|λD p=>cj (fu W<|p _ _ (m _ _ (st _ _ o))) λ_ _=>FT W M) (ys:=tx<|l.take<|l.length-(tl x).length) ?_) λD ah p n2 q=>u _ (by rw[hf];rfl) D ah (st.trans<|m.trans p) ((st.trans m).free n2) q;rw[AV aG,vJ];congr 2;omega
  ·exact⟨⟨_,L⟩,st.trans m,λj C y r=>by
    by_cases N:j=i
    ·subst N;rw[a] at r;cases r;exact g
    ·exact b j aG y r⟩
 ·rintro U h ⟨⟨y,rfl⟩,st,b⟩;refine t ?_ h st;have h0:=b 0 (by show 0<3;decide) c L;have h1:=b 1 (by show 1<3;decide) d L;have q:=b 2 (by show 2<3;decide) f L;simp only[ko,h0,h1,q,agh,Option.map_none]
def aaw(h:Paired (aY H) as ls)(b:aY H a l):Paired (aY H) (as++[a]) (ls++[l]):=uG h b
def aax(h:Paired (aY H) as ls)(n:∀a∈as,a≠t):Paired (aY<|upd H t o) as ls:=by
 induction h with
 |nil=>exact .nil
 |@cons x y e f b _ c=>exact .cons (by show upd H t o x=_;rw[aX (n x<|dY ..)];exact b)<|c λa d=>n a<|dS _ d
def pU(c:Hp)(D:af)(ls:List S)(H:Hp):Prop:=J c H/\∃b:List af,H D=O (.lst<|b.map V.ref)/\Paired (aY H) b ls/\∀a∈b,c a=ai/\a≠D
def pU.snoc(h:pU b D ls H)(p:b D=ai)(s:J H H')(c:H q=ai)(r:H' q=O (.lst<|tx l))(hz:ls.length<br):
  ∃acc,H' D=O (.lst acc)/\acc.length<br/\pU b D (ls++[l]) (upd H' D<|.lst<|acc++[V.ref q]):=by
 obtain⟨g,i,j,k,m⟩:=h;have f:q≠D:=λe=>by subst e;rw[j] at c;cases c
 have n:b q=ai:=by
  cases e:b q with
  |none=>rfl
  |some o=>rw[g _ _ e] at c;cases c
 refine⟨i.map V.ref,s _ _ j,by rw[bH,fj k];exact hz,kT (g.trans s) p,i++[q],by rw[ba,fR];rfl,?_,λa d=>?_⟩
 ·exact aax (aaw (Bn k s) r) λa d=>by
   rcases lu.mp d with z|z
   ·exact(m a z).2
   ·rw[ja.mp z];exact f
 ·rcases lu.mp d with z|z
  ·exact m a z
  ·rw[ja.mp z];exact⟨n,f⟩
def aay{xs:List V}{v:Nat}{k:Hp->Prop}(e:V->S)(p:∀H,J d H->cO K H a xs)(l:d D=ai)(hz:xs.length<=br)
  (r:∀x∈xs,∀c,J d c->aL s ((wipe U [v]).set v<|O x) c (tx<|e x))(t:∀c,pU d D (xs.map e) c->k c):
  ∃W:Nat->Nat->Hp->Prop,(∃m,W 0 m<|upd d D<|.lst [])/\∀i m H,W i m H->
   ((mI K a).stop i H/\k H)∨((mI K a).go i H/\∃f:Hp->Prop,(∀H',f H'->∃n,n<m/\W (i+1) n H')/\∀x H',(mI K a).kE i H x H'->fV v x (wipe U [v]) H' λσ2 c=>wipe σ2 [v]=wipe U [v]/\sM σ2 c λb g=>
    if b=Y then s σ2 g λy o=>∃acc,o D=O (.lst acc)/\acc.length<br/\f (upd o D<|.lst<|acc++[y]) else f g):=by
 refine VS (xs:=xs) (λi c=>pU d D ((xs.take i).map e) c) ⟨J.new l,[],ba,.nil,λ_ h=>by cases h⟩ (λi c _ h=>p c h.1) (λi x c j h=>⟨Aj U v x,?_⟩) λc h=>?_
 ·refine r x (ei j) c h.1 _ λg q u w z=>?_;have E:=(fC.mp j).1;obtain⟨acc,A,B,C⟩:=h.snoc l u w z (by rw[bH,gA];omega);exact⟨acc,A,B,by rw[take_succ j,fR];exact C⟩
 ·rw[kx] at h;exact t c h
def aaz{xs:List V}{v:Nat}{k:Hp->Prop}(e:V->S)(p:aM K d a xs)(l:d D=ai)(hz:xs.length<=br)
  (r:∀x∈xs,∀c,J d c->aL s ((wipe U [v]).set v<|O x) c (tx<|e x))(t:∀c,pU d D (xs.map e) c->k c):
  ∃W:Nat->Nat->Hp->Prop,(∃m,W 0 m<|upd d D<|.lst [])/\∀i m H,W i m H->
   ((je K a).stop i H/\k H)∨((je K a).go i H/\∃f:Hp->Prop,(∀H',f H'->∃n,n<m/\W (i+1) n H')/\∀x H',(je K a).kE i H x H'->fV v x (wipe U [v]) H' λσ2 c=>wipe σ2 [v]=wipe U [v]/\sM σ2 c λb g=>
    if b=Y then s σ2 g λy o=>∃acc,o D=O (.lst acc)/\acc.length<br/\f (upd o D<|.lst<|acc++[y]) else f g):=by
 refine Jx (xs:=xs) (λi c=>pU d D ((xs.take i).map e) c) ⟨J.new l,[],ba,.nil,λ_ h=>by cases h⟩ (λi c _ h=>h.1.seq p) (λi x c j h=>⟨Aj U v x,?_⟩) λc h=>?_
 ·refine r x (ei j) c h.1 _ λg q u w z=>?_;have E:=(fC.mp j).1;obtain⟨acc,A,B,C⟩:=h.snoc l u w z (by rw[bH,gA];omega);exact⟨acc,A,B,by rw[take_succ j,fR];exact C⟩
 ·rw[kx] at h;exact t c h
def aaA:Sp:=λd H Q _=>∃b a st,d=[.int b,.ref a]/\(0<=b/\b<=7)/\aY H a st/\st.length<=100000/\∀c p,H p=ai->pU H p [bY ⟨st,b.toNat⟩ 0,bY ⟨st,b.toNat⟩ 1,bY ⟨st,b.toNat⟩ 2] c->Q (.ref p) c
def aaB:T.bb T.LV 2 aaA:=T.LV.aU<|cW ["kind","stem","ending"] λH Q ab d hL t h=>by
 obtain⟨a,ae,st,rfl,u,w,hz,k⟩:=h;obtain⟨N,z,A⟩:=T.Ll;refine⟨_,(aC<|aK<|lN (own:=[("ending",2)]) L d (DC<|bT sI (kR z)<|pv 0) (kL (show jO ["kind","stem","ending"] (cR<|top 50) _ _=Y by decide+kernel)) (λ_ _ _ _ _=>(d7 2 d)) (λ_ _ _ _ _=>pA)<|λ_ _ _ _ _=>(cP fW (pv 1)<|aO (jA T) t<|aj<|pv 2)),?_⟩;obtain⟨B,f,i,j,r,c,l,m,n⟩:=PR A u;have bl:∀g<3,(kz a.toNat g).length<=4:=PQ a.toNat aG;intro aE s;refine⟨_,L,_,_,_,_,L,L,s H,r,B,L,⟨_,c H⟩,λD o=>?_⟩;refine aay (K:=K) (λv=>match v with|.str x=>st++tl x|_=>[]) (λb _=>c b) o (by show 3<=br;decide) (λx C b E=>?_)<|λb p=>k b D o ?_
 ·obtain⟨y,q,rfl⟩:=iz.mp C;have aa:(tl y).length<=4:=by
   simp only[dN,nL,y4] at q;rcases q with rfl|rfl|rfl
   ·rw[l];exact bl 0 aB
   ·rw[m];exact bl 1 aB
   ·rw[n];exact bl 2 aB
  refine aL.cv (fX (G.x W<|E _ _ w) (λH3 s3=>aL.x<|jT (λQ k=>fM L Q λI M=>k I y M L) aG) ?_)<|gh st<|tl y;rw[bX,bX,b9];omega
 ·have e:([f,i,j].map V.str).map (λv=>match v with|.str x=>st++tl x|_=>[])=[bY ⟨st,a.toNat⟩ 0,bY ⟨st,a.toNat⟩ 1,bY ⟨st,a.toNat⟩ 2]:=by
   show[st++tl f,st++tl i,st++tl j]=_;rw[l,m,n];rfl
  rw[e] at p;exact p
open Classical in
noncomputable def HR(R:af->Prop)(H:Hp):Hp:=λb=>if R b then H b else ai
def jC(h:R b):HR R H b=H b:=by unfold HR;rw[aA h]
def PU(h:¬R b):HR R H b=ai:=by unfold HR;rw[ak h]
def gM:J (HR R H) H:=λb o e=>by
 by_cases h:R b
 ·rw[jC h] at e;exact e
 ·rw[PU h] at e;cases e
def eC(e:HR R H b=O o):R b/\H b=O o:=by
 by_cases h:R b
 ·rw[jC h] at e;exact⟨h,e⟩
 ·rw[PU h] at e;cases e
def Rn(R:af->Prop)(H:Hp):af->Prop:=λb=>R b∨H b=ai
def FU(n:H b=ai)(h:H' b=O o):HR (Rn R H) H' b=O o:=by rw[jC (.inr n)];exact h
def FV(k:Kt t H H'):Kt t (HR R H) (HR (Rn R H) H'):=λb o e n=>by
 obtain⟨r,e⟩:=eC e;rw[jC (.inl r)];exact k b o e n
def Bw(k:J H H'):J (HR R H) (HR (Rn R H) H'):=λb o e=>by
 obtain⟨r,e⟩:=eC e;rw[jC (.inl r)];exact k b o e
def fQ(e:w8):List S:=[bY e 0,bY e 1,bY e 2]
def tU(cs:Cs)(H:Hp)(a:af)(e:w8):Prop:=∃d b c,H a=O (.ins cs.Epithet d<|vN (.ref b)<|.ref c)/\cU H b (fQ e)/\cU H c ((fQ e).map dq)
def tU.same(h:tU cs H a e)(s:J H H'):tU cs H' a e:=by
 obtain⟨b,c,d,f,g,i⟩:=h;exact⟨b,c,d,s _ _ f,g.same s,i.same s⟩
structure dR(cs:Cs)(H:Hp)(p:af)(es:List w8):Prop where
 ex:∃as:List af,H p=O (.lst<|as.map V.ref)/\Paired (tU cs H) as es
 good:∀e∈es,jb e=Y
 most:es.length<=200
def dR.same(h:dR cs H p es)(s:J H H'):dR cs H' p es:=by
 obtain⟨⟨a,b,c⟩,d,e⟩:=h;exact⟨⟨a,s _ _ b,Paired.fT c λ_ _ x=>x.same s⟩,d,e⟩
def mX{α:Type}{F:af->α->Prop}{as:List af}{ls:List α}(c:Paired F as ls){i:Nat}{l:α}(e2:ls[i]?=O l):∃a,as[i]?=O a/\F a l:=by
 induction c generalizing i with
 |nil=>simp at e2
 |@cons x y g h b _ d=>
  cases i with
  |zero=>cases e2;exact⟨x,L,b⟩
  |succ i=>
   obtain⟨a,e,f⟩:=d (i:=i) (by simpa using e2);exact⟨a,by simpa using e,f⟩
def lV(h:jb e=Y)(a:g<3):jI (bY e g)=Y:=by
 unfold jb Ue at h;simp only[rP,agi,rW,bL] at h;match g,a with
 |0,_=>exact h.1
 |1,_=>exact h.2.1
 |2,_=>exact h.2.2
def pV(h:jI l=Y):l.length<=40/\2<=l.length:=by
 rw[mS] at h;simp only[bL,bO] at h;omega
def aaC(h:jI l=Y):foldable l=Y:=by
 rw[mS] at h;simp only[bL] at h;unfold foldable;rw[KS];exact h.2.2
def gN(c H:Hp)(p:af)(ls:List S):Prop:=c p=ai/\∃b:List af,H p=O (.lst<|b.map V.ref)/\Paired (aY H) b ls/\∀a∈b,c a=ai
def gN.of(n:b D=ai)(h:pU b D ls H):gN b H D ls:=by
 obtain⟨_,c,d,e,f⟩:=h;exact⟨n,c,d,e,λa g=>(f a g).1⟩
def gN.yt(h:gN c H p ls):cU H p ls:=let⟨_,_,a,b,_⟩:=h;oB a b
def gN.back(h:gN b H p ls)(s:J c b):gN c H p ls:=let⟨n,d,e,f,g⟩:=h;⟨s.free n,d,e,f,λa i=>s.free<|g a i⟩
def gN.same(h:gN a H p ls)(s:J H H'):gN a H' p ls:=let⟨n,b,c,d,e⟩:=h;⟨n,b,s _ _ c,Bn d s,e⟩
def gN.kt(h:gN d H p ls)(k:Kt t H H')(c:d t≠ai∨∃C dx fs,H t=O (.ins C dx fs)):gN d H' p ls:=by
 obtain⟨n,m,f,o,g⟩:=h;have j:∀b l,H b=O (.lst l)->d b=ai->b≠t:=λb l e q z=>by
  subst z;rcases c with c|⟨C,dx,fs,c⟩
  ·exact c q
  ·rw[e] at c;cases c
 refine⟨n,m,k _ _ f (j _ _ f n),?_,g⟩;clear f;induction o with
 |nil=>exact .nil
 |@cons x y u v i _ r=>exact .cons (k _ _ i (j _ _ i (g x<|dY ..)))<|r λa s=>g a<|dS _ s
def gN.hr(h:gN e H p ls):cU (HR (Rn R e) H) p ls:=by
 obtain⟨n,j,b,f,c⟩:=h;refine oB (FU n b) ?_;clear b;induction f with
 |nil=>exact .nil
 |@cons x y k l d _ g=>exact .cons (FU (c x<|dY ..) d)<|g λa i=>c a<|dS _ i
def PV(cs:Cs):Sp:=λf H Q _=>∃p c b e,f=[.ref p,.ref b]/\H p=O (.ins cs.Epithet c [])/\cU H b (fQ e)/\jb e=Y/\
 ∀a d,Kt p H a->a p=O (.ins cs.Epithet c<|vN (.ref b)<|.ref d)->gN H a d ((fQ e).map dq)->Q .bp a
def AI:T.oo T.AI 3 (PV cs):=T.AI.aU<|cW ["self","forms","form"] λH ae ag o hL N aa=>by
 obtain⟨p,q,r,e,rfl,s,Q,i,ab⟩:=aa;refine⟨_,(aD (bP (pv 0) (pv 1) L)<|aC<|bP (pv 0) (lN (own:=[("form",2)]) L o (iG<|pv 1) (kL (show jO ["self","forms","form"] (cR<|inClass (top 53) 0) _ _=Y by decide+kernel)) (λ_ _ _ _ _=>(d7 2 o)) (λ_ _ _ _ _=>pA)<|λ_ _ _ _ _=>(aO (FP T) N<|aj<|pv 2)) L),?_⟩;refine gy T.AO (T.AQ _ bf) aB s W aR λt c j=>?_;obtain⟨u,v,k,q3⟩:=Q.by;have w:∀b y,H b=O (.lst y)->b≠p:=λb y e=>dO e s (by intro z;cases z);have A:t r=O (.lst<|u.map V.ref):=c _ _ v (w _ _ v);refine⟨_,L,_,L,⟨_,aM.of A⟩,λD B=>?_⟩;refine aaz (K:=K) (λx=>dq<|jS H x) (aM.of A) B ?_ (λx C f s2=>?_)<|λf g=>?_
 ·rw[bH];have:=fG fZ k;rw[bH,bH] at this;rw[this];show 3<=br;decide
 ·obtain⟨a,rfl,d⟩:=q3 x C;have h:jS H (.ref a)∈fQ e:=by rw[<-k];exact zx C
  have l:jI (jS H<|.ref a)=Y:=by
   unfold fQ at h;simp only[dN,nL,y4] at h;rcases h with z|z|z<;>rw[z]
   ·exact lV i aB
   ·exact lV i aB
   ·exact lV i aB
  exact FQ W (s2 _ _ (c _ _ d (w _ _ d))) (aaC l) (by have:=pV l;omega)
 ·have I:gN t f D ((fQ e).map dq):=by
   have e2:(u.map V.ref).map (λx=>dq<|jS H x)=(fQ e).map dq:=by rw[<-k];simp[iB,Function.comp_def]
   rw[e2] at g;exact gN.of B g
  have m:=g.1 _ _ j;refine⟨_,L,p,_,q,_,L,m,T.AO,T.AQ _ bf,(by show 1<1000;decide),?_⟩;have kk:Kt p f (upd f p<|.ins cs.Epithet q<|vN (.ref r)<|.ref D):=Kt.put Kt.rf;have M:=I.kt kk<|.inr ⟨_,_,_,m⟩;refine ab _ D (c.trans<|(bE g.1).trans kk) ba ?_;obtain⟨n,bs,b1,b2,E⟩:=M;refine⟨c.free n (λz=>by subst z;rw[j] at n;cases n),bs,b1,b2,λa d=>c.free (E a d) (λz=>by subst z;have:=E _ d;rw[j] at this;cases this)⟩
def PX(cs:Cs):Sp:=λc H Q _=>∃p a i,c=[.ref p,.int i]/\dR cs H p a/\∀b,J H b->Q (.bl<|decide (0<=i)&&decide (i<(a.length:Int))) b
def dR.len(h:dR cs H p es):∃xs,aM K H p xs/\xs.length=es.length:=let⟨c,a,b⟩:=h.ex;⟨_,aM.of a,by rw[bH];exact fj b⟩
def FW(h:G t U H (.ref p))(a:dR cs H p es):G (gG (λxs H Q=>∃p ys,xs=[.ref p]/\(aM K H p ys∨cO K H p ys)/\Q (.int ys.length) H)<|aN t aW) U H (.int (es.length:Nat)):=by
 obtain⟨xs,b,c⟩:=a.len (K:=K);have:=iN (K:=K) h b;rw[c] at this;exact this
def yu:T.bb T.LW 1 (PX cs):=T.LW.aU<|bN λH Q E d e f h=>by
 obtain⟨p,g,i,rfl,c,k⟩:=h;refine⟨_,(aC<|aK<|kG ig f9 aI (pv 1)<|b6 cB aZ T.cn cq<|aj<|pv 0),?_⟩;exact G.ret (qQ aQ aR λb a=>FW W<|c.same a) λb a=>k b a
def yw(h:G t U H (.ref p))(d:∀a,J H a->G u U a (.int i))(e:dR cs H p es):G (cA (PX cs) [] E<|aN t<|aN u aW) U H (.bl<|decide (0<=i)&&decide (i<(es.length:Int))):=λQ k=>
 h _ λa b=>d a b _ λj c=>⟨p,es,i,L,e.same<|b.trans c,λf g=>k f<|b.trans<|c.trans g⟩
def qV(h:(decide (0<=i)&&decide (i<(l.length:Int)))=Y):∃x,cJ l i=O x/\l[i.toNat]?=O x/\(i.toNat:Int)=i:=by
 rw[bL,bO,bO] at h;have a:i.toNat<l.length:=by omega
 refine⟨l[i.toNat],?_,gq a,aG⟩;unfold cJ;rw[ak aG,gq a]
def qW(h:(decide (0<=i)&&decide (i<(l.length:Int)))=ax):cJ l i=ai:=by
 unfold cJ;by_cases a:i<0
 ·rw[aA a]
 ·rw[ak a,Ho];rw[eN aG,uJ,hU] at h;omega
def tV{f:Nat->S}{g:Int}(h:G t U H (.ref p))(c:∀b,J H b->G u U b (.int g))(d:cU H p [f 0,f 1,f 2])(i:0<=g/\g<=2):fh (dG (j8 K) t u) U H (tx<|f g.toNat):=by
 obtain⟨q,j,k⟩:=mW d;obtain⟨n,rfl⟩:=zu i.1;have l:n=0∨n=1∨n=2:=by omega
 have e:[f 0,f 1,f 2][n]?=O (f n):=by rcases l with rfl|rfl|rfl<;>rfl
 obtain⟨a,m,o⟩:=mX k e;exact G.x (e8 h c (aM.of j)<|fJ (j:=n) (by rw[eU,m];rfl)) o
def vT(h:d5 0 2 g=Y):0<=g/\g<=2:=by unfold d5 at h;rw[bL,bO,bO] at h;exact h
def lW(g:Int):gT g=d5 0 2 g:=rfl
def aaD(cs:Cs):Sp:=λb H Q _=>∃p a i g,b=[.ref p,.int i,.int g]/\dR cs H p a/\eS H Q (zs (match cJ a i with
 |none=>[-1]
 |some x=>if gT g=ax then[-2] else 0::fm (bY x g.toNat)))
def aaE:T.bb T.LY 2 (aaD cs):=T.LY.aU<|bN λH aa ab A B o h=>by
 obtain⟨p,C,ae,g,rfl,i,k⟩:=h;refine⟨_,(aD (bw (eJ<|cN<|aO (yu T) o<|aP (pv 0)<|aj<|pv 1) (aC<|aK<|bQ<|aj<|du dv aI) bB)<|aD (bw (eJ<|cN<|aO (yr T) o<|aj<|pv 2) (aC<|aK<|bQ<|aj<|du dv aI) bB)<|aC<|aK<|cP fW (bQ<|aj aI)<|bT b8 (aJ<|bT b8 (pv 0)<|pv 1)<|pv 2),?_⟩;refine bg.bU (eM<|cS<|yw W aR i) λD a=>bh (λe=>?_)<|λe=>?_
 ·rw[dZ] at e;refine aL.ret (eW<|dA aQ) λq p b s j=>k q p (a.trans b) (a.free s) ?_;rw[j,qW e];rfl
 rw[eG] at e;obtain⟨x,r,n,t⟩:=qV e;refine bg.bU (eM<|cS<|g8 W) λq b=>bh (λc=>?_)<|λc=>?_
 ·rw[dZ] at c;refine aL.ret (eW<|dA aQ) λf p d l m=>k f p (a.trans<|b.trans d) ((a.trans b).free l) ?_;rw[m,r];show _=O (HO.lst<|zs (if gT g=ax then[-2] else _));rw[lW,aA c];rfl
 rw[eG] at c;obtain⟨E,u,j⟩:=(i.same<|a.trans b).ex;obtain⟨ag,v,I,M,N,w,y,Q⟩:=mX j n;have z:=pV<|lV (i.good x<|ei n) (g:=g.toNat) (by have:=vT c;omega);refine aL.ret (fX (aL.x<|eW aQ) (λf d=>tV (f:=bY x) (vO T (e8 W aR (aM.of<|d _ _ u)<|at_of t.symm (by rw[eU,v];rfl))<|d _ _ w) aR (y.same d)<|vT c) ?_) λf p d l m=>k f p (a.trans<|b.trans d) ((a.trans b).free l) ?_
 ·rw[bX,b9];show 1+_<=_;omega
 ·rw[m,r];show _=O (HO.lst<|zs (if gT g=ax then[-2] else _));rw[lW,ak (by rw[c];decide)];show _=O (HO.lst<|V.int 0::zs (fm _));rw[qT];rfl
def PY(h:as≠[]):tx l≠as.map V.ref:=λe=>by
 cases as with
 |nil=>exact h L
 |cons a as=>
  cases l with
  |nil=>cases e
  |cons b l=>rw[Yr,cM,wZ] at e;cases e.1
def FX(h:Paired F as ls):Paired (λa l=>a∈as/\F a l) as ls:=by
 induction h with
 |nil=>exact .nil
 |@cons x y d e b _ c=>exact .cons ⟨dY ..,b⟩<|Paired.fT c λa l h=>⟨dS _ h.1,h.2⟩
def qX{α:Type}{F:af->α->Prop}{as:List af}{ls:List α}(c:Paired F as ls){i:Nat}(e2:as[i]?=O a):∃l,ls[i]?=O l/\F a l:=by
 induction c generalizing i with
 |nil=>simp at e2
 |@cons x y g h b _ d=>
  cases i with
  |zero=>cases e2;exact⟨y,L,b⟩
  |succ i=>
   obtain⟨l,e,f⟩:=d (i:=i) (by simpa using e2);exact⟨l,by simpa using e,f⟩
def Bx{as bs:List af}(h:as.map V.ref=bs.map V.ref):as=bs:=(Ub<|λx y z=>V.ref.inj z).mp h
def PZ(h:aY H a l)(k:Kt p H H')(c:H p=O (.lst<|as.map V.ref))(b:as≠[]):aY H' a l:=k _ _ h λz=>by
 subst z;have h:H a=O (.lst<|tx l):=h;rw[c] at h;exact PY b (HO.lst.inj<|eh h).symm
def cU.P0{as:List af}{ls:List S}(h:cU H q ls)(k:Kt p H H')(c:H p=O (.lst<|as.map V.ref))(g:as≠[])(f:∀a∈as,∃C dx fs,H a=O (.ins C dx fs))(i:ls≠[]):cU H' q ls:=by
 obtain⟨o,b,d⟩:=mW h;refine oB (k _ _ b λz=>?_)<|Paired.fT d λa l m=>PZ m k c g;subst z;rw[c] at b;have e:=Bx<|HO.lst.inj<|eh b;subst e;cases d with
 |nil=>exact i L
 |@cons x y r s j _=>
  obtain⟨C,dx,fs,n⟩:=f x<|dY ..;have:H x=O (.lst<|tx y):=j;rw[n] at this;cases this
def P1(T:Txt K mg cs)(h:G t U H (.ref p))(c:∀b,J H b->G u U b (.int i))(d:dR cs H p es)(e:es[i.toNat]?=O x)(f:(i.toNat:Int)=i):∃a,G (dG (j8 K) t u) U H (.ref a)/\tU cs H a x:=by
 obtain⟨m,g,j⟩:=d.ex;obtain⟨a,k,l⟩:=mX j e;exact⟨a,e8 h c (aM.of g)<|at_of f.symm (by rw[eU,k];rfl),l⟩
def aaF(cs:Cs):Sp:=λb H Q _=>∃p a i j g,b=[.ref p,.int i,.int j,.int g]/\dR cs H p a/\eS H Q (zs (match cJ a i with
 |none=>[-1]
 |some x=>match cJ a j with
  |none=>[-2]
  |some y=>if gT g=ax then[-3] else[if rZ x y g.toNat=Y then 1 else 0]))
def aaG:T.bb T.LZ 2 (aaF cs):=T.LZ.aU<|bN λaq ar au nd hL m aa=>by
 obtain⟨p,es,i,j,g,rfl,o,k⟩:=aa;refine⟨_,(aD (bw (eJ<|cN<|aO (yu T) m<|aP (pv 0)<|aj<|pv 1) (aC<|aK<|bQ<|aj<|du dv aI) bB)<|aD (bw (eJ<|cN<|aO (yu T) m<|aP (pv 0)<|aj<|pv 2) (aC<|aK<|bQ<|aj<|du dv aI) bB)<|aD (bw (eJ<|cN<|aO (yr T) m<|aj<|pv 3) (aC<|aK<|bQ<|aj<|du dv aI) bB)<|aD (bw (bK (qy<|oh m) (bT b8 (aJ<|bT b8 (pv 0)<|pv 1)<|pv 3)<|bT b8 (aJ<|bT b8 (pv 0)<|pv 2)<|pv 3) (aC<|aK<|bQ<|aj aI) bB)<|aC<|aK<|bQ<|aj aI),?_⟩;refine bg.bU (eM<|cS<|yw W aR o) λH1 c=>bh (λe=>?_)<|λe=>?_
 ·rw[dZ] at e;refine aL.ret (eW<|dA aQ) λz p f I M=>k z p (c.trans f) (c.free I) ?_;rw[M,qW e];rfl
 rw[eG] at e;obtain⟨x,N,C,Q⟩:=qV e;rw[N] at k;refine bg.bU (eM<|cS<|yw W aR<|o.same c) λz f=>bh (λh=>?_)<|λh=>?_
 ·rw[dZ] at h;refine aL.ret (eW<|dA aQ) λA p l n3 h3=>k A p (c.trans<|f.trans l) ((c.trans f).free n3) ?_;rw[h3,qW h];rfl
 rw[eG] at h;obtain⟨y,hy,D,hj⟩:=qV h;rw[hy] at k;have r:=c.trans f;refine bg.bU (eM<|cS<|g8 W) λA l=>bh (λb=>?_)<|λb=>?_
 ·rw[dZ] at b;refine aL.ret (eW<|dA aQ) λs p a n4 h4=>k s p (r.trans<|l.trans a) ((r.trans l).free n4) ?_;rw[h4];show _=O (HO.lst<|zs (if gT g=ax then[-3] else _));rw[lW,aA b];rfl
 rw[eG] at b;have B:=vT b;have d:=r.trans l;obtain⟨av,ea,dx,pf,pd,o1,o2,o3⟩:=P1 (U:=[O (.ref p),O<|.int i,O<|.int j,O<|.int g]) (t:=dQ 0) (u:=dQ 1) T W aR (o.same d) C Q;refine bg.bU (bI<|tT (l:=dq<|bY x g.toNat) (m:=dq<|bY y g.toNat) (tV (f:=λn=>dq<|bY x n) (A4 T ea o1) aR o3 B)<|λs a=>?_) λs a=>bh (λq=>?_)<|λq=>?_
 ·obtain⟨ay,eb,ab,ae,ag,E,ah,H⟩:=P1 (U:=[O (.ref p),O<|.int i,O<|.int j,O<|.int g]) (t:=dQ 0) (u:=dQ 2) T W aR (o.same<|d.trans a) D hj;exact tV (f:=λn=>dq<|bY y n) (A4 T eb E) aR H B
 ·refine aL.ret (eW aQ) λt p u v w=>k t p (d.trans<|a.trans u) ((d.trans a).free v) ?_;rw[w];show _=O (HO.lst<|zs (if gT g=ax then[-3] else[if rZ x y g.toNat=Y then 1 else 0]));have:rZ x y g.toNat=Y:=by unfold rZ;rw[fB];exact df q
  rw[lW,ak (by rw[b];decide),aA this];rfl
 ·refine aL.ret (eW aQ) λt p u v w=>k t p (d.trans<|a.trans u) ((d.trans a).free v) ?_;rw[w];show _=O (HO.lst<|zs (if gT g=ax then[-3] else[if rZ x y g.toNat=Y then 1 else 0]));have:¬rZ x y g.toNat=Y:=by unfold rZ;rw[fB];exact d8 q
  rw[lW,ak (by rw[b];decide),ak this];rfl
def aaH(h:G t U H (.ref g))(l:cU H g (fQ e))(m:jb e=Y)
  (k:∀c a dx d,J H c->H a=ai->c a=O (.ins cs.Epithet dx<|vN (.ref g)<|.ref d)->gN H c d ((fQ e).map dq)->Q (.ref a) c):iZ cs.Epithet (PV cs) [] E (aN t aW) U H Q:=
 h _ λc f x dx i j gc=>by
  have st:J c (upd (upd c dx<|.own x) x<|.ins cs.Epithet dx []):=λb o e=>by rw[aX (bA e i),aX<|bA e j];exact e
  refine⟨x,dx,g,e,L,ba,(l.same f).same st,m,λn d p q r=>⟨L,k n x dx d (f.trans<|p.same st i) (f.free i) q ?_⟩⟩;exact(r.back st).back f
def dR.snoc{R:af->Prop}{es:List w8}{e:w8}{as:List af}(h:dR cs (HR R H) p es)(w:R p)(s:H p=O (.lst<|as.map V.ref))(k:Kt p H H')(d:H' p=O (.lst<|as.map V.ref++[V.ref a]))(l:tU cs (HR (Rn R H) H') a e)(A:jb e=Y)(hz:es.length<200):dR cs (HR (Rn R H) H') p (es++[e]):=by
 obtain⟨⟨c,f,o⟩,B,Q⟩:=h;obtain⟨_,t⟩:=eC f;have u:c=as:=by
  have:=HO.lst.inj<|eh<|t.symm.trans s;exact(Ub<|λx y z=>V.ref.inj z).mp this
 subst u;have kk:Kt p (HR R H) (HR (Rn R H) H'):=FV k;refine⟨⟨c++[a],by rw[jC (.inl w),d,fR];rfl,uG (Paired.fT (FX o) λb x D=>?_) l⟩,λx d=>?_,by rw[aV];exact hz⟩
 ·obtain⟨v,g,q,r,j,E,I⟩:=D;have n:c≠[]:=agj v;have m:∀a∈c,∃C g M,HR R H a=O (.ins C g M):=λa l=>by
   obtain⟨i,N⟩:=uN.mp l;obtain⟨x,d,g,q,r,j,_⟩:=qX o N;exact⟨_,_,_,j⟩
  exact⟨g,q,r,kk _ _ j (dO j f (by intro z;cases z)),E.P0 kk f n m (by unfold fQ;simp),I.P0 kk f n m (by unfold fQ;simp)⟩
 ·rcases lu.mp d with z|z
  ·exact B x z
  ·rw[ja.mp z];exact A
section
variable{prog:cf}{w:bR}{K:Type}[DecidableEq K]{knd:HeapKind prog w K}{A:cG}{E:aw->aF->Prop}{s:aF}
def aaI(n:knd.room A)(i:knd.is s.heap k a)(u:s.heap.DictOfH knd d xs)
  (z:∀p,mx xs k=O p->Q p.2 {s with toks:=s.toks+knd.draws k})
  (B:mx xs k=ai->∀h',h'.DictOfH knd d (Ht xs k a v)->uo d s.heap h'->Q v {s with heap:=h',toks:=s.toks+knd.draws k})(hsz:xs.length<=br):
  wpAny (bo prog w) A (Ug d (.ref a) v) Q E s:=by
 obtain⟨o,H,C,f,D,c,h,m,l⟩:=u;unfold Ug;try with_reducible refine CZ ?_
 refine bt<|knd.pyHash n i ?_;refine bt<|wpAny_dictFind_heap (s:={s with toks:=s.toks+knd.draws k}) n i f c h m l ?_ ?_
 ·intro g;have t:k∉xs.map (·.1):=not_mem_keys_of_get g
  refine bt (wpAny_rule (bt (wpAny_updateDictKeys (hz:=by have e:=Uh h;omega) (s:={s with toks:=s.toks+knd.draws k}) f c (cu (B (HQ g) _ ⟨_,_,C+1,CY _ f (bz.isFreed_of_dict<|agk c _),
   D.mapDictKeys _,agk c _,?_,?_,?_⟩ (C0 ..))))))
  ·rw[Ui (HQ g)];simp[h,entryOfKey]
  ·rw[Ui (HQ g)];intro x b;rcases lu.mp b with b|b
   ·exact knd.keeps (m x b) f c<|C0 ..
   ·simp only[ja] at b;subst b;exact knd.keeps i f c<|C0 ..
  ·rw[Ui (HQ g)];rw[fR,Uj];refine⟨l,aT,?_⟩;intro x b y q;simp only[cM,wN,ja] at q;subst q;exactλe=>t (e▸b)
 ·intro j p r;refine bt<|CV (s:={s with toks:=s.toks+knd.draws k}) f c ?_;rw[entry_at h j,r];exact bt<|wpAny_rule<|cu<|z _ (atKey_of_get l r)
def aaJ(b:HeapKind prog w K)(d a:af)(h:(d==jX)=ax)(v:aw):
  MeetsIn prog w (rT.«dict.setdefault» ⟨[.ref d,.ref a,v],[]⟩) (λA R s=>b.room A.in1/\∃k xs,b.is s.heap k a/\s.heap.DictOfH b d xs/\xs.length<=br/\
   (∀p,mx xs k=O p->R (.ok<|.ret p.2) {s with toks:=s.toks+b.draws k})/\
   (mx xs k=ai->∀h',h'.DictOfH b d (Ht xs k a v)->uo d s.heap h'->R (.ok<|.ret v) {s with heap:=h',toks:=s.toks+b.draws k})):=
 .of_wp λA R s ⟨i,k,xs,e,c,j,l,m⟩=>by
  unfold rT.«dict.setdefault»;refine bt ?_;unfold ah1;refine bt<|afv c.typeIs ?_;show wpAny _ _ (pure (d,dC a,O v)) _ _ s;refine cu ?_;show wpAny _ _ (if(d==jX)=Y then _ else(Ug d (.ref a) v>>=_)) _ _ s;rw[ak (by rw[h];exact fe)];exact bt<|aaI i e c (λp n=>cu ⟨p.2,L,l p n⟩) (λo h' f g=>cu ⟨v,L,m o h' f g⟩) j
end
section
variable{X:Cx}{pins:List (af×bz)}{U:L2.St}{H:Hp}{s:aF}{a b:af}{v:V}{r:aw}{A:cG}{E:aw->aF->Prop}{kvs:List (List Key×V)}{k:List Key}
def aaK(t:A.units+1<i7)(I:Inv X pins U H s)(e:H a=O (.dT kvs))(f:H b=O (.tup<|k.map kV))(hl:kvs.length<br)(u:RelV v r)
  (w:∀x g s',da kvs k=O x->Inv X pins U H s'->RelV x g->Q g s')(y:∀s',da kvs k=ai->Inv X pins U (upd H a<|.dT<|putK kvs k v) s'->Q r s'):
  wpAny (bo X.prog X.w) A (call (.builtin "dict.setdefault") [.ref a,.ref b,r]) Q E s:=by
 obtain⟨z,h,i,d,j⟩:=JC I.aS e;have B:i.length<=br:=by rw[<-fj d];exact z
 have n:(putK kvs k v).length<=br:=by have:=vg kvs k v;omega
 refine CS agl j.typeIs PySem.F.entry_dict_setdefault (PySem.F.args_dict_setdefault_3 _ _ _) (aaJ (wx<|jr X.prog X.w) a b h r) ⟨CQ t,k,i,vi I.aS f,j,B,λaa C=>?_,λD h' o M=>?_⟩
 ·have q:=d.val k;rw[C] at q;cases c:da kvs k with
  |none=>rw[c] at q;cases q
  |some x=>rw[c] at q;exact w x aa.2 _ c (I.tok _) q
 ·have q:=(d.val k).Af;rw[D] at q;have c:da kvs k=ai:=by
   cases c:da kvs k with
   |none=>rfl
   |some x=>rw[c] at q;cases q
  obtain⟨q,N,ep,l,p,h3,h4,_,h5⟩:=o;refine y _ c (D4 I (by rw[e];exact rM) M ⟨q,l⟩ ⟨n,h,_,(d.put k f u).keeps λab ys m=>?_,q,N,ep,l,p,h3,h4,h5⟩);rw[aX (dO m e (λz=>nomatch z))];exact m
end
def P2(f ty g:TE):TE:=λU H Q=>f U H λx e=>∃a,x= .ref a/\D7 e a/\ty U e λy h=>g U h λz d=>∃c k b,d a=O (.dT c)/\y= .ref b/\d b=O (.tup<|k.map kV)/\c.length<br/\
 match da c k with
 |some v=>Q v d
 |none=>Q z<|upd d a<|.dT<|putK c k z
def FY(l:X.A.units+1<i7)(n:PE X o p)(q:PE X e ty)(r:PE X f s)(m:M2 X o "setdefault" i e f j):PE X (.Call (.Attribute o "setdefault" i) [e,f] [] j) (P2 p ty s):=by
 intro b aa U ab az ae ag;refine Tx m.base m.D6 m.line Tz agl PySem.F.type_dict_setdefault<|bu (n b aa U ab _ ae ag) λah t ⟨aq,u,g,v,ar,w,au,x⟩=>?_;subst w;obtain rfl:ah=dC ar:=v;obtain⟨y,z,_⟩:=JG g au;refine⟨y,z,?_⟩;rw[m.trees];refine CN L (Hh (wH (bu (q b t U u _ g x) λA B ⟨aE,C,D,E,H⟩=>
  wH (bu (r b B U C _ D H) λfv s3 ⟨a0,I,M,h,ay,a3,av,N,Q,eb,hl,a⟩=>He ?_))))
 subst Q;obtain rfl:A=dC av:=E;refine aaK l M N eb hl h (λaq w' s4 c d k=>?_)<|λs4 c d=>?_
 ·rw[c] at a;exact⟨_,I,d,k,a⟩
 ·rw[c] at a;exact⟨_,_,d,h,a⟩
def iP(h:t U H λv a=>u D (U.set i<|O v) a):cF (nT t<|fV i) u D U H:=h
def tW(h:t U H λ_ a=>u D U a):cF (gu t) u D U H:=h
def vU(h:G c U H x)(d:∀a,J H a->G e U a .bp):G (dG (λx y H Q=>y= .bp/\Q (.bl<|decide (x= .bp)) H) c e) U H (.bl<|decide (x= .bp)):=λQ k=>
 h _ λa b=>d a b _ λf g=>⟨L,k f<|b.trans g⟩
def aaL(h:G c U H x)(d:∀a,J H a->G e U a .bp):G (dG (λx y H Q=>y= .bp/\Q (.bl<|!decide (x= .bp)) H) c e) U H (.bl<|!decide (x= .bp)):=λQ k=>
 h _ λa b=>d a b _ λf g=>⟨L,k f<|b.trans g⟩
def eX(s:J H a)(k:Kt t a c):Kt t H c:=λb o e n=>k b o (s b o e) n
def gi(h:G t U H (.int i))(s:J a H)(k:∀H' q,J a H'->a q=ai->H' q=O (.lst<|zs [i])->D.rt (.ref q) H'):o8 (pj<|aN t aW) D U H:=
 aL.ret (eW h) λb q c d e=>k b q (s.trans c) (s.free d) e
def aaM(cs:Cs):Sp:=λd H Q _=>∃(R:af->Prop)(p a:af)(c:Int)(l:S)(s:eI),d=[.ref p,.int c,.ref a]/\R p/\dR cs (HR R H) p s.epithets/\aY H a l/\l.length<=100000/\
 ∀b q,Kt p H b->H q=ai->b q=O (.lst<|zs<|r8 (ia s c l).2)->dR cs (HR (Rn R H) b) p (ia s c l).1.epithets->Q (.ref q) b
def aaN:T.bb T.LX 5 (aaM cs):=T.LX.aU<|cW ["epithets","kind","text","stem","forms","form"] λH a5 bl n hL g a6=>by
 obtain⟨R,p,a7,a,l,s,rfl,rp,B,hl,hz,k⟩:=a6;refine⟨_,(aD (bw (eJ<|cN<|aO (E4 T) g<|aj<|pv 2) (aC<|aK<|bQ<|aj<|du dv aI) bB)<|aD (bw (eJ<|cN<|aO (aap T) g<|aj<|pv 1) (aC<|aK<|bQ<|aj<|du dv aI) bB)<|aD (cw 3 n<|aO (aav T) g<|aP (pv 1)<|aj<|pv 2)<|aD (bw (bK zU (pv 3) qu) (aC<|aK<|bQ<|aj<|du dv aI) bB)<|aD (cw 4 n<|aO (aaB T) g<|aP (pv 1)<|aj<|pv 3)<|aD (bw (eJ<|cN<|b6 (xw L) aZ T.xT x8<|aj<|lN (own:=[("form",5)]) L n (iG<|pv 4) (kL (show jO ["epithets","kind","text","stem","forms","form"] (cR<|top 55) _ _=Y by decide+kernel)) (λ_ _ _ _ _=>(d7 5 n)) (λ_ _ _ _ _=>pA)<|λ_ _ _ _ _=>(aO (E4 T) g<|aj<|pv 5)) (aC<|aK<|bQ<|aj<|du dv aI) bB)<|aD (bw (bK mK (b6 cB aZ T.cn cq<|aj<|pv 0)<|cD T.XW) (aC<|aK<|bQ<|aj<|du dv aI) bB)<|aD (bW<|eK eL jJ jK jj (pv 0)<|aj<|yb (AI T) T.Yc g<|aj<|pv 4)<|aC<|aK<|bQ<|aj<|cP iY (b6 cB aZ T.cn cq<|aj<|pv 0) aI),?_⟩;have au:=B.same gM;have fin:∀aa,ia s a l=(s,.number aa)->∀i q,J H i->H q=ai->i q=O (.lst<|zs [aa])->a5 (.ref q) i:=λaa ab i q st a8 hq=>by
  rw[ab] at k;exact k i q (bE st) a8 hq<|B.same<|Bw st
 refine bg.bU (eM<|cS<|pL W hl) λH1 C=>bh (λd=>?_)<|λd=>?_
 ·rw[dZ] at d;exact gi (dA aQ) C<|fin (-1) (by unfold ia;rw[aA d])
 rw[eG] at d;refine bg.bU (eM<|cS<|g8 W) λH2 s2=>bh (λe=>?_)<|λe=>?_
 ·rw[dZ] at e;have m:mF a 0 7=ax:=e;exact gi (dA aQ) (C.trans s2)<|fin (-2) (by unfold ia;rw[ak (by rw[d];decide),aA m])
 rw[eG] at e;have m:¬mF a 0 7=ax:=by rw[show mF a 0 7=Y from e];decide
 have hk:0<=a/\a<=7:=by unfold d5 at e;rw[bL,bO,bO] at e;exact e
 have D:=C.trans s2;have ag:¬jI l=ax:=by rw[d];decide
 refine iP ⟨_,L,_,L,a,a7,l,L,hk,D _ _ hl,λhn H3 E=>?_,λst z H3 p3 E n3 h3=>?_⟩
 ·refine bg.bU (bI<|vU W bq) λH4 o=>bh (λc=>?_)<|λc=>absurd c aT;exact gi (dA aQ) (D.trans<|E.trans o)<|fin (-3) (by unfold ia;rw[ak ag,ak m,hn])
 have m3:=D.trans E;have a9:st.length<=l.length:=by
  unfold C9 at z;obtain⟨bx,_,ab⟩:=rQ.mp z;rw[<-ab,gA];omega
 refine bg.bU (bI<|vU W bq) λH4 o=>bh (λc=>absurd c aT)<|λ_=>?_;have m4:=m3.trans o;refine iP ⟨_,L,_,L,a,p3,st,L,hk,o _ _ h3,aG,λH5 p5 n5 hN=>?_⟩;have s5:=hN.1;have I:=gN.of n5 hN;have m5:=m4.trans s5;obtain⟨fs,q1,q2,q3⟩:=I.yt.by;have e3:[bY ⟨st,a.toNat⟩ 0,bY ⟨st,a.toNat⟩ 1,bY ⟨st,a.toNat⟩ 2].all jI=jb ⟨st,a.toNat⟩:=rfl;refine bg.bU (eM<|cS<|E8 (K:=K) (g:=λx=>jI<|jS H5 x) L (aM.of q1) ?_<|λx hx H6 j=>?_) λH6 j=>?_
 ·have:=fG fZ q2;rw[bH] at this;rw[this];show 3<=br;decide
 ·obtain⟨b,rfl,d⟩:=q3 x hx;exact pL W<|j _ _ d
 have e4:((fs.map V.ref).all λx=>jI<|jS H5 x)=jb ⟨st,a.toNat⟩:=by rw[<-e3,<-q2,qj,qj,qj];rfl
 rw[e4];have r:=m5.trans j;have M:ia s a l=if jb ⟨st,a.toNat⟩=ax then(s,.number<|-4) else if zy<=s.epithets.length then(s,.number<|-5) else({s with epithets:=s.epithets++[⟨st,a.toNat⟩]},.number s.epithets.length):=by
  unfold ia;rw[ak ag,ak m,z]
 refine bh (λc=>?_)<|λc=>?_
 ·rw[dZ] at c;exact gi (dA aQ) r (fin (-4)<|by rw[M,aA c])
 rw[eG] at c;have ah:¬jb ⟨st,a.toNat⟩=ax:=by rw[c];decide
 refine bg.bU (bI<|cj (FW W<|au.same r) bq) λH7 t=>bh (λN=>?_)<|λN=>?_
 ·exact gi (dA aQ) (r.trans t) (fin (-5)<|by rw[M,ak ah,aA (by have:=df N;unfold zy;omega)])
 have av:s.epithets.length<200:=by have:=d8 N;omega
 rw[M,ak ah,ak (by unfold zy;omega)] at k;have u:=r.trans t;obtain⟨⟨h,h1,h2⟩,ay,az⟩:=B;obtain⟨_,f⟩:=eC h1;have h7:=u _ _ f;have aq:h.length=s.epithets.length:=fj h2;refine tW ⟨_,L,.inl ⟨L,_,aM.of h7⟩,aaH (cs:=cs) (e:=⟨st,a.toNat⟩) W (I.yt.same<|j.trans t) c λv b dx pd s8 nb d aE=>?_⟩;have w:=u.trans s8;refine⟨p,_,_,L,L,w _ _ f,by rw[bH,aq];rw[b9];omega,?_⟩;refine aL.ret (eW<|cj (iN (K:=K) (xs:=h.map V.ref++[V.ref b]) W<|aM.of ba) bq) λQ q s9 y h9=>?_;have kt:Kt p H Q:=(bE w).trans<|(Kt.put Kt.rf).trans<|bE s9;have a0:q≠p:=λae=>by subst ae;rw[ba] at y;cases y
 refine k Q q kt (w.free (by rw[aX a0] at y;exact y)) ?_ ?_
 ·rw[h9];show O (HO.lst [V.int ((((h.map V.ref++[V.ref b]).length:Nat):Int)-1)])=O (HO.lst [V.int (s.epithets.length:Int)]);rw[aV,bH,aq];show O (HO.lst [V.int (((s.epithets.length+1:Nat):Int)-1)])=_;rw[show(((s.epithets.length+1:Nat):Int)-1)=(s.epithets.length:Int) by omega]
 ·have A:H b=ai:=u.free nb;have a3:b≠p:=λae=>by subst ae;rw[f] at A;cases A
  have a4:gN H v p5 (fQ ⟨st,a.toNat⟩):=((I.same<|j.trans<|t.trans s8)).back m4;have ar:gN H v pd ((fQ ⟨st,a.toNat⟩).map dq):=aE.back u;have bk:v p=O (.lst<|h.map V.ref):=w _ _ f;have kk:Kt p v Q:=(Kt.put Kt.rf).trans<|bE s9;have f1:=a4.kt kk<|.inl (by rw[f];exact j5 _);have f2:=ar.kt kk<|.inl (by rw[f];exact j5 _);exact dR.snoc (as:=h) ⟨⟨h,h1,h2⟩,ay,az⟩ rp f kt (s9 _ _ ba) ⟨dx,p5,pd,FU A<|kk _ _ d a3,f1.hr,f2.hr⟩ c av
abbrev g2(K:bj)(i j:Nat):TG:=DA K 2<|Dz (fV i)<|Dz (fV j) IA
def FZ{i j:Nat}{H:Hp}{T:af}{x y:V}{U:L2.St}{Q:L2.St->Hp->Prop}(n:H T=ai)(k:∀a,J H a->Q ((U.set i<|O x).set j<|O y) a):g2 K i j (.ref T) U (upd H T<|.tup [x,y]) Q:=
 ⟨T,[x,y],L,cO.of ba,L,x,[y],L,y,[],L,L,k _ (J.new n)⟩
section
variable{ta tb':TE}{tb:TS}{D:Ends}{u:TS}{U:L2.St}{H:Hp}{p q:af}{xs ys:List V}{i j:Nat}
def aaO(h:G ta U H (.ref p))(l:H p=O (.lst xs))
  (k:∀a,J H a->∃Pv:Nat->L2.St->Hp->Prop,Pv 0 U a/\(∀m U H',m<=xs.length->Pv m U H'->H' p=O (.lst xs))/\
   (∀m x U H',xs[m]?=O x->Pv m U H'->∀b,J H' b->tb {D with nx:=Pv<|m+1,ct:=Pv<|m+1,bk:=D.nx} ((U.set i<|O<|.int (m:Nat)).set j<|O x) b)/\∀U H',Pv xs.length U H'->D.nx U H'):nU (Ah K<|aN ta aW) (g2 K i j) tb D U H:=
 h _ λa g=>⟨p,xs,L,aM.of<|g _ _ l,by
  obtain⟨Pv,o,r,s,t⟩:=k a g;refine⟨λm c U H=>c=xs.length-m/\m<=xs.length/\Pv m U H,⟨xs.length,aT,dD _,o⟩,?_⟩;rintro m c U H ⟨rfl,v,pv⟩;have d:=aM.of (K:=K)<|r m U H v pv;by_cases f:m<xs.length
  ·refine .inr ⟨⟨xs,xs[m],d,by simp[f]⟩,Pv<|m+1,λσ' H' w=>⟨xs.length-(m+1),aG,L,f,w⟩,λx H' y=>?_⟩;obtain⟨T,x,rfl,n,rfl,y⟩:=y;exact FZ n λb z=>s m x U H (y xs d) pv b z
  ·have e:m=xs.length:=by omega
   subst e;exact .inl ⟨⟨xs,d,bG _⟩,t U H pv⟩⟩
def F2(h:G ta U H (.ref p))(c:H p=O (.lst xs))
  (k:∀a,J H a->∃Pv:Nat->L2.St->Hp->Prop,Pv 0 U a/\(∀m U H',m<=xs.length->Pv m U H'->H' p=O (.lst xs))/\
   (∀m x U H',xs[m]?=O x->Pv m U H'->∀b,J H' b->tb {D with nx:=Pv<|m+1,ct:=Pv<|m+1,bk:=u D} ((U.set i<|O<|.int (m:Nat)).set j<|O x) b)/\∀U H',Pv xs.length U H'->u D U H'):cF (nU (Ah K<|aN ta aW) (g2 K i j) tb) u D U H:=aaO h c k
def aaP(h:G ta U H (.ref p))(o:∀a,J H a->G tb' U a (.ref q))(r:H p=O (.lst xs))(s:H q=O (.lst ys))(N:xs.length=ys.length)
  (k:∀a,J H a->∃Pv:Nat->L2.St->Hp->Prop,Pv 0 U a/\(∀m U H',m<=xs.length->Pv m U H'->H' p=O (.lst xs)/\H' q=O (.lst ys))/\
   (∀m x y U H',xs[m]?=O x->ys[m]?=O y->Pv m U H'->∀d,J H' d->tb {D with nx:=Pv<|m+1,ct:=Pv<|m+1,bk:=u D} ((U.set i<|O x).set j<|O y) d)/\∀U H',Pv xs.length U H'->u D U H'):cF (nU (JN K<|aN ta<|aN tb' aW) (g2 K i j) tb) u D U H:=
 h _ λt f=>o t f _ λa g=>⟨p,q,xs,ys,L,aM.of<|g _ _ (f _ _ r),aM.of<|g _ _ (f _ _ s),by
  obtain⟨Pv,v,w,z,A⟩:=k a<|f.trans g;refine⟨λm c U H=>c=xs.length-m/\m<=xs.length/\Pv m U H,⟨xs.length,aT,dD _,v⟩,?_⟩;rintro m c U H ⟨rfl,B,pv⟩;have b:=w m U H B pv;by_cases l:m<xs.length
  ·refine .inr ⟨⟨xs,ys,xs[m],ys[m]'(by omega),aM.of b.1,aM.of b.2,by simp[l],gq _⟩,Pv<|m+1,λσ' H' C=>⟨xs.length-(m+1),aG,L,l,C⟩,λx H' y=>?_⟩;obtain⟨T,x,y,rfl,n,rfl,E,I⟩:=y;exact FZ n λd M=>z m x y U H (E xs<|aM.of b.1) (I ys<|aM.of b.2) pv d M
  ·have e:m=xs.length:=by omega
   subst e;exact .inl ⟨⟨xs,ys,aM.of b.1,aM.of b.2,.inl<|bG _⟩,A U H pv⟩⟩
def aaQ(h:G ta U H (.int z))(hz:-(2^62)<=z/\z<2^62)
  (k:∀a,J H a->∃Pv:Nat->L2.St->Hp->Prop,Pv 0 U a/\(∀m U H',m<z.toNat->Pv m U H'->tb {D with nx:=Pv<|m+1,ct:=Pv<|m+1,bk:=D.nx} (U.set i<|O<|.int (m:Nat)) H')/\∀U H',Pv z.toNat U H'->D.nx U H'):nU (IE<|aN ta aW) (fV i) tb D U H:=
 h _ λa b=>⟨z,L,hz.1,hz.2,by
  obtain⟨Pv,c,d,e⟩:=k a b;refine IH Pv c (λm U H f pv=>?_) e;rw[Int.zero_add];exact d m U H f pv⟩
def P4{lo z:Int}(b:G ta U H (.int lo))(h:∀a,J H a->G tb' U a (.int z))(hz:-(2^62)<=lo/\lo<2^62/\-(2^62)<=z/\z<2^62)
  (k:∀a,J H a->∃Pv:Nat->L2.St->Hp->Prop,Pv 0 U a/\(∀m U H',m<(z-lo).toNat->Pv m U H'->tb {D with nx:=Pv<|m+1,ct:=Pv<|m+1,bk:=D.nx} (U.set i<|O<|.int<|lo+m) H')/\∀U H',Pv (z-lo).toNat U H'->D.nx U H'):nU (DD<|aN ta<|aN tb' aW) (fV i) tb D U H:=
 b _ λd c=>h d c _ λa e=>⟨lo,z,L,hz,by
  obtain⟨Pv,b,f,g⟩:=k a<|c.trans e;exact IH Pv b (λm U H l pv=>f m U H l pv) g⟩
def aaR{lo z:Int}(b:G ta U H (.int lo))(h:∀a,J H a->G tb' U a (.int z))(hz:-(2^62)<=lo/\lo<2^62/\-(2^62)<=z/\z<2^62)
  (k:∀a,J H a->∃Pv:Nat->L2.St->Hp->Prop,Pv 0 U a/\(∀m U H',m<(z-lo).toNat->Pv m U H'->tb {D with nx:=Pv<|m+1,ct:=Pv<|m+1,bk:=u D} (U.set i<|O<|.int<|lo+m) H')/\∀U H',Pv (z-lo).toNat U H'->u D U H'):cF (nU (DD<|aN ta<|aN tb' aW) (fV i) tb) u D U H:=P4 b h hz k
def aaS(U:L2.St)(i j:Nat)(x y:V):wipe (((wipe U [i,j]).set i<|O x).set j<|O y) [i,j]=wipe U [i,j]:=by
 show(((((U.set j ai).set i ai).set i<|O x).set j<|O y).set j ai).set i ai=(U.set j ai).set i ai;apply Ua;intro n;simp only[List.getElem?_set,Tp];by_cases a:i=n
 ·simp[a]
 ·by_cases b:j=n
  ·simp[a,b]
  ·simp[a,b]
def P5{α:Type}{es:List α}{f:α->Bool}{tt:TT}(A:i≠j)(B:i<U.length)(h:G ta U H (.ref p))(v:H p=O (.lst xs))(E:xs.length=es.length)(hz:xs.length<=br)
  (I:∀(m:Nat)(x:V)(e:α),xs[m]?=O x->es[m]?=O e->∀a,J H a->bg tt (((wipe U [i,j]).set i<|O<|.int (m:Nat)).set j<|O x) a (f e)):aL (ve (Ah K<|aN ta aW) (g2 K i j) tt (dQ i) [i,j]) U H (tx<|Dc es f):=λag aa=>
 h _ λw b=>⟨p,xs,L,aM.of<|b _ _ v,λr g=>by
  have C:=b _ _ v;refine⟨λm c a=>c=xs.length-m/\m<=xs.length/\J w a/\a r=O (.lst<|tx<|Nm.upTo es f m),⟨xs.length,aT,dD _,J.new g,by rw[ba];rfl⟩,?_⟩;rintro m c a ⟨rfl,hm,st,z⟩;have k:=aM.of (K:=K)<|st _ _ C;by_cases s:m<xs.length
  ·refine .inr ⟨⟨xs,xs[m],k,by simp[s]⟩,λa=>J w a/\a r=O (.lst<|tx<|Nm.upTo es f<|m+1),λM N=>⟨xs.length-(m+1),aG,L,s,N⟩,λx M y=>?_⟩;obtain⟨T,x,rfl,ab,rfl,y⟩:=y;have Q:=y xs k;obtain⟨e,l⟩:∃e,es[m]?=O e:=⟨es[m]'(by omega),gq aG⟩;refine FZ ab λH3 d=>⟨aaS U i j _ _,I m x e Q l H3 (b.trans<|st.trans d) _ λH4 n=>?_⟩;have t:=n _ _ (d _ _ z);have ae:(Nm.upTo es f m).length<=m:=by unfold Nm.upTo;exact eO (oQ _ _) (by rw[Dd];exact bG _)
   refine bh (λo=>⟨.int (m:Nat),?_,_,t,by rw[bX];omega,kT (st.trans<|d.trans n) g,?_⟩)<|λo=>⟨st.trans<|d.trans n,?_⟩
   ·rw[CA A.symm,Cz];rw[Ac];exact B
   ·rw[ba,EI l,aA o];show O (HO.lst<|tx _++tx [m])=_;rw[gh]
   ·rw[t,EI l,ak (by rw[o];decide),gp]
  ·have e:m=xs.length:=by omega
   subst e;refine .inl ⟨⟨xs,k,bG _⟩,aa a r (b.trans st) (b.free g) ?_⟩;rw[z,E,EJ]⟩
def By(t:TE)(U:L2.St)(H:Hp)(vs:List V):Prop:=∀Q:VK,(∀a p,J H a->H p=ai->a p=O (.tup vs)->Q (.ref p) a)->t U H Q
def vV(h:fh t U H xs):By (gG (λxs H Q=>∃p ys,xs=[.ref p]/\((aM K H p ys/\∀l,H l=ai->Q (.ref l) (upd H l<|.tup ys))∨(cO K H p ys/\Q (.ref p) H)))<|aN t aW) U H xs:=λQ k=>
 h _ λd p a c=>⟨p,xs,L,.inl ⟨aM.of c,λl b=>k _ l (a.trans<|J.new b) (a.free b) ba⟩⟩
end
def ky(l:S):List Key:=l.map λ(b:Nat)=>mj (b:Int)
def pW(l:S):(ky l).map kV=tx l:=by unfold ky tx;rw[iB];rfl
def tX(h:ky l=ky m):l=m:=Yq (by rw[<-pW,<-pW,h])
def kW(es:List w8)(g m:Nat)(w:S):Option Nat:=(es.take m).findIdx? λe=>dq (bY e g)==w
def P6(h:es[m]?=O x)(w:S):kW es g (m+1) w=(kW es g m w).or (if dq (bY x g)=w then O m else ai):=by
 unfold kW;have a:=(fC.mp h).1;rw[take_succ h,List.findIdx?_append,gA,zp aG,List.findIdx?_singleton];congr 1;by_cases e:dq (bY x g)=w
 ·rw[aA e,aA<|fB.mpr e];simp
 ·rw[ak e,ak<|by simpa using e];rfl
def aaT(c:es[m]?=O x)(h:(kW es g m<|dq<|bY x g).or (O m)=O j):uR es x g=j:=by
 unfold uR rZ;cases e:kW es g m (dq<|bY x g) with
 |some i=>
  rw[e] at h;cases h;unfold kW at e;obtain⟨d,f,k⟩:=List.findIdx?_eq_some_iff_getElem.mp e;rw[gA] at d;refine K4 (x:=(es.take m)[j]) (λi b y a=>?_) ?_ ?_
  ·have:=k i b;rw[agm] at this;have q:es[i]?=O es[i]:=gq aG;rw[q] at a;cases a;simpa using this
  ·rw[agm];exact gq aG
  ·simpa using f
 |none=>
  rw[e] at h;cases h;unfold kW at e;rw[List.findIdx?_eq_none_iff] at e;refine K4 (x:=x) (λi b y a=>e y ?_) c aT;exact ei (i:=i) (by rw[List.getElem?_take,aA b];exact a)
def aaU(cs:Cs):Sp:=λb H Q _=>∃p a g,b=[.ref p,.int g]/\dR cs H p a/\eS H Q (zs (if gT g=ax then[-1] else(a.length:Int)::a.map λe=>(uR a e g.toNat:Int)))
def aaV:T.bb T.L0 2 (aaU cs):=T.L0.aU<|cW ["epithets","gender","least","classes","number","epithet"] λH a3 a4 p hL hr ar=>by
 obtain⟨au,a,g,rfl,B,k⟩:=ar;refine⟨_,(aD (bw (eJ<|cN<|aO (yr T) hr<|aj<|pv 1) (aC<|aK<|bQ<|aj<|du dv aI) bB)<|aD (cw 2 p Ag)<|aD (cw 3 p<|bQ gv)<|aD (iH iC L (xE L T.xU<|aj<|pv 0) (xk L<|lH (d7 4 p)<|lH (d7 5 p) u1)<|aC<|bW<|eK eL jJ jK jj (pv 3)<|aj<|FY (tj hr) (pv 2) (lK vb aZ T.vF vI<|aj<|bT b8 (aJ<|pv 5)<|pv 1) (pv 4) ⟨L,L,L,L⟩)<|aC<|aK<|cP fW (bQ<|aj<|b6 cB aZ T.cn cq<|aj<|pv 0)<|pv 3),?_⟩;refine bg.bU (eM<|cS<|g8 W) λH1 r=>bh (λh=>?_)<|λh=>?_
 ·rw[dZ] at h;exact gi (dA aQ) r<|λH2 q s2 n2 s=>k H2 q s2 n2 (by rw[lW,aA h];exact s)
 rw[eG] at h;have hg:=vT h;rw[lW,ak (by rw[h];decide)] at k;obtain⟨C,h1,s⟩:=B.ex;have ae:C.length=a.length:=fj s;have aE:=B.most;refine iP λd hd=>?_;refine aL.eB ir λH3 c s3 D h3=>?_;have sd:J H1 (upd H1 d<|.dT []):=J.new hd;have m3:J H H3:=r.trans<|sd.trans s3;have ag:H d=ai:=r.free hd;have M:H c=ai:=(r.trans sd).free D;have y:c≠d:=λz=>by subst z;rw[ba] at D;cases D
 have ah:H3 d=O (.dT []):=s3 _ _ ba;refine F2 (xs:=C.map V.ref) W (m3 _ _ h1) λH4 E=>⟨λm U i=>(∃av ab,U=[O (.ref au),O<|.int g,O<|.ref d,O<|.ref c,av,ab])/\J H i/\(∃b,i d=O (.dT b)/\b.length<=m/\∀w:S,da b (ky w)=(kW a g.toNat m w).map λ(ay:Nat)=>V.int (ay:Int))/\
  i c=O (.lst<|zs<|(a.take m).map λe=>(uR a e g.toNat:Int)),⟨⟨_,_,L⟩,m3.trans E,⟨[],E _ _ ah,bG _,λw=>?_⟩,E _ _ h3⟩,λm U i _ q=>q.2.1 _ _ h1,?_,?_⟩
 ·unfold kW;rw[agn];rfl
 ·rintro m a5 U i hv ⟨⟨a0,b0,rfl⟩,st,⟨b,t,aq,o⟩,l⟩ I f;obtain⟨ab,hb,rfl⟩:=pT hv;obtain⟨x,n,dx,pf,pd,o1,o2,o3⟩:=qX s hb;have A:=st.trans f;have hm:m<a.length:=(fC.mp n).1;refine⟨_,L,.inl ⟨L,_,aM.of<|f _ _ l⟩,_,L,d,L,.inr ⟨b,.inl<|f _ _ t⟩,vV (tV (f:=λaz=>dq<|bY x az) (A4 T W<|A _ _ o1) aR (o3.same A) hg) _ λH6 tp u n6 h6=>?_⟩;refine⟨_,L,b,ky<|dq<|bY x g.toNat,tp,u _ _ (f _ _ t),L,by rw[pW];exact h6,by rw[b9];omega,?_⟩;have N:=u _ _ (f _ _ l);have Q:=A.trans u;have aa:∀j,(kW a g.toNat m<|dq<|bY x g.toNat).or (O m)=O j->zs ((a.take m).map λe=>(uR a e g.toNat:Int))++[V.int (j:Int)]=zs ((a.take<|m+1).map λe=>(uR a e g.toNat:Int)):=λj hj=>by
   rw[take_succ n,fR];unfold zs;rw[fR,cM,cM,aaT n hj];rfl
  have hz:(zs<|(a.take m).map λe=>(uR a e g.toNat:Int)).length<br:=by unfold zs;rw[bH,bH,gA,b9];omega
  rw[o];cases v:kW a g.toNat m (dq<|bY x g.toNat) with
  |some j=>
   refine⟨c,_,_,L,L,N,hz,⟨_,_,L⟩,kT Q M,⟨b,by rw[aX y.symm];exact u _ _ (f _ _ t),aG,λw=>?_⟩,?_⟩
   ·rw[o,P6 n];by_cases e:dq (bY x g.toNat)=w
    ·subst e;rw[v];rfl
    ·rw[ak e];cases kW a g.toNat m w<;>rfl
   ·rw[ba,aa j (by rw[v];rfl)]
  |none=>
   refine⟨c,_,_,L,L,by rw[aX y];exact N,hz,⟨_,_,L⟩,kT (kT Q ag) M,⟨putK b (ky<|dq<|bY x g.toNat)<|.int (m:Nat),by rw[aX y.symm,ba],by have:=vg b (ky<|dq<|bY x g.toNat)<|.int (m:Nat);omega,λw=>?_⟩,?_⟩
   ·rw[sN,o,P6 n];by_cases e:dq (bY x g.toNat)=w
    ·subst e;rw[aA L,v,aA L];rfl
    ·rw[ak (λz=>e (tX z).symm),ak e];cases kW a g.toNat m w<;>rfl
   ·rw[ba,aa m (by rw[v];rfl)]
 ·rintro U i ⟨⟨a0,b0,rfl⟩,st,⟨b,t,aq,o⟩,l⟩;have e1:(C.map V.ref).length=a.length:=by rw[bH];exact ae
  rw[e1,kx] at l;refine aL.ret (fX (aL.x<|eW<|FW W<|B.same st) (λI f=>G.x W<|f _ _ l) ?_) λI q f n5 h5=>k I q (st.trans f) (st.free n5) h5;unfold zs;rw[bH,bH,b9];show 1+_<=_;omega
def KR(R:af->Prop)(H H':Hp):Prop:=∀b o,H b=O o->¬R b->H' b=O o
def KR.of(s:J H H'):KR R H H':=λb o e _=>s b o e
def KR.kt(k:Kt p H H')(h:R p):KR R H H':=λb o e n=>k b o e λz=>n (z▸h)
def lX(cs:Cs)(H:Hp)(a:af)(g:iU):Prop:=∃c b,H a=O (.ins cs.Genus c<|i4 (.ref b) (.int (g.gender:Nat))<|.int (g.stem:Nat))/\aY H b g.text
def lX.same(h:lX cs H a g)(s:J H H'):lX cs H' a g:=let⟨b,c,d,e⟩:=h;⟨b,c,s _ _ d,s _ _ e⟩
structure GoodG(g:iU):Prop where
 tx:genusText g.text=Y
 gd:g.gender<=2
 st:g.stem<=35
structure dX(cs:Cs)(H:Hp)(p:af)(gs:List iU):Prop where
 ex:∃as:List af,H p=O (.lst<|as.map V.ref)/\Paired (lX cs H) as gs/\as.Nodup
 good:∀g∈gs,GoodG g
 most:gs.length<=200
def dX.same(h:dX cs H p a)(s:J H H'):dX cs H' p a:=
 let⟨⟨b,c,d,e⟩,f,g⟩:=h;⟨⟨b,s _ _ c,Paired.fT d λ_ _ x=>x.same s,e⟩,f,g⟩
def qY(h:genusText l=Y):l.length<=40/\2<=l.length:=by
 rw[Av] at h;simp only[bL,bO] at h;omega
def Bz:Option Nat->V
 |none=>.bp
 |some i=>.int (i:Nat)
def F3(o:Option Nat):decide (Bz o= .bp)=!o.isSome:=by
 cases o with
 |none=>rfl
 |some i=>exact gP λh=>by cases h
def P7(cs:Cs):Sp:=λc H Q _=>∃p b x y z,c=[.ref p,x,y,z]/\H p=O (.ins cs.Genus b [])/\∀a,Kt p H a->a p=O (.ins cs.Genus b<|i4 x y z)->Q .bp a
def AJ:T.oo T.AJ 1 (P7 cs):=T.AJ.aU<|bN λH Q E j l m h=>by
 obtain⟨p,n,x,y,z,rfl,a,k⟩:=h;refine⟨_,(aD (bP (pv 0) (pv 1) L)<|aD (bP (pv 0) (pv 2) L)<|aC<|bP (pv 0) (pv 3) L),?_⟩;refine gy T.sX (T.sY _ bf) aB a W aR λo b c=>?_;refine gy T.sX (T.sY _ bf) (by show 1<1000;decide) c W aR λq d e=>?_;exact pS T.sX (T.sY _ bf) (by show 2<1000;decide) e W aR λf g i=>k f (b.trans<|d.trans g) i
def aaW(j:G l U H x)(n:∀c,J H c->G p U c y)(q:∀c,J H c->G r U c z)
  (k:∀c a dx,J H c->H a=ai->c a=O (.ins cs.Genus dx<|i4 x y z)->Q (.ref a) c):iZ cs.Genus (P7 cs) [] E (aN l<|aN p<|aN r aW) U H Q:=
 j _ λc d=>n c d _ λs g=>q s (d.trans g) _ λh t x dx f i gc=>by
  have m:=d.trans<|g.trans t;have st:J h (upd (upd h dx<|.own x) x<|.ins cs.Genus dx []):=λb o e=>by rw[aX (bA e f),aX<|bA e i];exact e
  exact⟨x,dx,_,_,_,L,ba,λu v w=>⟨L,k u x dx (m.trans<|v.same st f) (m.free f) w⟩⟩
def P8(cs:Cs):Sp:=λc H Q _=>∃p a i,c=[.ref p,.int i]/\dX cs H p a/\∀b,J H b->Q (.bl<|decide (0<=i)&&decide (i<(a.length:Int))) b
def dX.len(h:dX cs H p es):∃xs,aM K H p xs/\xs.length=es.length:=let⟨c,a,b,_⟩:=h.ex;⟨_,aM.of a,by rw[bH];exact fj b⟩
def P9(h:G t U H (.ref p))(a:dX cs H p es):G (gG (λxs H Q=>∃p ys,xs=[.ref p]/\(aM K H p ys∨cO K H p ys)/\Q (.int ys.length) H)<|aN t aW) U H (.int (es.length:Nat)):=by
 obtain⟨xs,b,c⟩:=a.len (K:=K);have:=iN (K:=K) h b;rw[c] at this;exact this
def yx:T.bb T.L1 1 (P8 cs):=T.L1.aU<|bN λH Q E d e f h=>by
 obtain⟨p,g,i,rfl,c,k⟩:=h;refine⟨_,(aC<|aK<|kG ig f9 aI (pv 1)<|b6 cB aZ T.cn cq<|aj<|pv 0),?_⟩;exact G.ret (qQ aQ aR λb a=>P9 W<|c.same a) λb a=>k b a
def yy(h:G t U H (.ref p))(d:∀a,J H a->G u U a (.int i))(e:dX cs H p es):G (cA (P8 cs) [] E<|aN t<|aN u aW) U H (.bl<|decide (0<=i)&&decide (i<(es.length:Int))):=λQ k=>
 h _ λa b=>d a b _ λj c=>⟨p,es,i,L,e.same<|b.trans c,λf g=>k f<|b.trans<|c.trans g⟩
def Qa(h:G t U H (.ref p))(c:∀b,J H b->G u U b (.int i))(d:dX cs H p e)(f:e[i.toNat]?=O x)(g:(i.toNat:Int)=i):∃a,G (dG (j8 K) t u) U H (.ref a)/\lX cs H a x:=by
 obtain⟨n,j,k,_⟩:=d.ex;obtain⟨a,l,m⟩:=mX k f;exact⟨a,e8 h c (aM.of j)<|at_of g.symm (by rw[eU,l];rfl),m⟩
def Qb(cs:Cs):Sp:=λd H Q _=>∃p a b l,d=[.ref p,.ref a]/\dX cs H p b/\aY H a l/\∀c,J H c->Q (Bz<|(Dc b λg=>g.text==l).head?) c
def yz:T.bb T.L3 1 (Qb cs):=T.L3.aU<|cW ["genera","text","number","genus"] λH aq ar o hL t h=>by
 obtain⟨aa,ab,u,l,rfl,v,w,k⟩:=h;refine⟨_,(aD (iH iC L (xE L T.xU<|aj<|pv 0) (xk L<|lH (d7 2 o)<|lH (d7 3 o) u1)<|aC<|bw (bK (qy<|oh t) (aJ<|pv 3)<|pv 1) (aC<|aK<|pv 2) bB)<|aC<|aK qu),?_⟩;obtain⟨y,p,q,_⟩:=v.ex;refine F2 (xs:=y.map V.ref) W p λH1 z=>⟨λm U d=>(∃x ae,U=[O (.ref aa),O<|.ref ab,x,ae])/\J H d/\∀j<m,∀g,u[j]?=O g->(g.text==l)=ax,⟨⟨_,_,L⟩,z,λj r=>absurd r (C4 _)⟩,λm U d _ ag=>ag.2.1 _ _ p,?_,?_⟩
 ·rintro m au U d A ⟨⟨B,C,rfl⟩,st,c⟩ s f;obtain⟨av,D,rfl⟩:=pT A;obtain⟨x,b,dx,pt,E,I⟩:=qX q D;have a:=st.trans f;refine bg.iM (bI<|tT (l:=x.text) (m:=l) (G.x (A5 T W<|a _ _ E)<|a _ _ I)<|λM e=>G.x W<|e _ _ (a _ _ w)) λM e=>bh (λi=>?_)<|λi=>?_
  ·refine G.ret W λN Q=>?_;have:=k N<|a.trans<|e.trans Q;rw[Xp c b (fB.mpr<|df i)] at this;exact this
  ·refine⟨⟨_,_,L⟩,a.trans e,λj r g n=>?_⟩;by_cases ah:j=m
   ·subst ah;rw[b] at n;cases n;exact rC.mpr<|d8 i
   ·exact c j aG g n
 ·rintro U d ⟨⟨B,C,rfl⟩,st,c⟩;refine G.ret aQ λs f=>?_;have:=k s<|st.trans f;rw[EK λj x b=>c j (by rw[bH,fj q];exact(fC.mp b).1) x b] at this;exact this
def yA(h:G t U H (.ref p))(f:∀b,J H b->G u U b (.ref a))(i:dX cs H p e)(j:aY H a l):G (cA (Qb cs) [] E<|aN t<|aN u aW) U H (Bz<|(Dc e λg=>g.text==l).head?):=λQ k=>
 h _ λb c=>f b c _ λo d=>⟨p,a,e,l,L,i.same<|c.trans d,d _ _ (c _ _ j),λm n=>k m<|c.trans<|d.trans n⟩
def aaX{as:List af}{l:S}(h:l≠[]):tx l≠as.map V.ref:=λe=>by
 cases as with
 |nil=>cases l with
  |nil=>exact h L
  |cons b l=>cases e
 |cons a as=>exact PY (List.cons_ne_nil _ _) e
def aaY(c:G d U H (.int i))(e:∀a,J H a->G f U a (.int j)):G (gG (λxs H Q=>∃i j,xs=[.int i,.int j]/\Q (.int (if j<i then j else i)) H)<|aN d<|aN f aW) U H (.int (if j<i then j else i)):=λQ k=>
 c _ λa b=>e a b _ λg h=>⟨i,j,L,k g<|b.trans h⟩
def dX.snoc{R:af->Prop}{d:List iU}{g:iU}{as:List af}(h:dX cs (HR R H) p d)(w:R p)(r:H p=O (.lst<|as.map V.ref))(k:Kt p H H')(f:H' p=O (.lst<|as.map V.ref++[V.ref a]))(A:H a=ai)
  (B:lX cs (HR (Rn R H) H') a g)(C:GoodG g)(hz:d.length<200):dX cs (HR (Rn R H) H') p (d++[g]):=by
 obtain⟨⟨l,j,m,D⟩,E,Q⟩:=h;obtain⟨_,s⟩:=eC j;have t:l=as:=Bx<|HO.lst.inj<|eh<|s.symm.trans r;subst t;have kk:Kt p (HR R H) (HR (Rn R H) H'):=FV k;refine⟨⟨l++[a],by rw[jC (.inl w),f,fR];rfl,uG (Paired.fT (FX m) λb x I=>?_) B,?_⟩,λx f=>?_,by rw[aV];exact hz⟩
 ·obtain⟨u,n,o,c,M⟩:=I;exact⟨n,o,kk _ _ c (dO c j (by intro z;cases z)),PZ M kk j<|agj u⟩
 ·rw[Uj];refine⟨D,aT,λx v y q e=>?_⟩;rw[ja] at q;subst q e;obtain⟨i,N⟩:=uN.mp v;obtain⟨g,_,n,o,c,_⟩:=qX m N;obtain⟨_,c⟩:=eC c;rw[A] at c;cases c
 ·rcases lu.mp f with z|z
  ·exact E x z
  ·rw[ja.mp z];exact C
def aaZ(cs:Cs):Sp:=λd H Q _=>∃(R:af->Prop)(p a:af)(c st:Int)(l:S)(s:eI),d=[.ref p,.int c,.int st,.ref a]/\R p/\R a/\dX cs (HR R H) p s.genera/\aY H a l/\
 ∀b q,KR R H b->H q=ai->b q=O (.lst<|zs<|r8 (gU s c st l).2)->dX cs (HR (Rn R H) b) p (gU s c st l).1.genera->Q (.ref q) b
def aa0:T.bb T.L4 4 (aaZ cs):=T.L4.aU<|bN λH a4 bk nd hL t h=>by
 obtain⟨R,p,a,d,st,l,s,rfl,rp,ra,B,e,k⟩:=h;refine⟨_,(aD (bw (eJ<|cN<|aO (E3 T) t<|aj<|pv 3) (aC<|aK<|bQ<|aj<|du dv aI) bB)<|aD (bw (eJ<|cN<|aO (yr T) t<|aj<|pv 1) (aC<|aK<|bQ<|aj<|du dv aI) bB)<|aD (bw (PW.pt<|nR (bK f9 (pv 2) aI)<|oZ<|bK kF (pv 2)<|b6 (Vb L) aZ T.X8 Yo<|aP (cD T.XY)<|aj<|b6 cB aZ T.cn cq<|aj<|pv 3) (aC<|aK<|bQ<|aj<|du dv aI) bB)<|aD (bw (bK Va (aO (yz T) t<|aP (pv 0)<|aj<|pv 3) qu) (aC<|aK<|bQ<|aj<|du dv aI) bB)<|aD (bw (bK mK (b6 cB aZ T.cn cq<|aj<|pv 0)<|cD T.XX) (aC<|aK<|bQ<|aj<|du dv aI) bB)<|aD (bW<|eK eL jJ jK jj (pv 0)<|aj<|yb (AJ T) T.Yd t<|aP (pv 3)<|aP (pv 1)<|aj<|pv 2)<|aC<|aK<|bQ<|aj<|cP iY (b6 cB aZ T.cn cq<|aj<|pv 0) aI),?_⟩;have ab:=B.same gM;have fin:∀aa,gU s d st l=(s,.number aa)->∀j q,J H j->H q=ai->j q=O (.lst<|zs [aa])->a4 (.ref q) j:=λaa a5 j q st a6 m=>by
  rw[a5] at k;exact k j q (KR.of st) a6 m<|B.same<|Bw st
 refine bg.bU (eM<|cS<|pL W e) λH1 C=>bh (λf=>?_)<|λf=>?_
 ·rw[dZ] at f;exact gi (dA aQ) C<|fin (-1) (by unfold gU;rw[aA f])
 rw[eG] at f;have o:¬genusText l=ax:=by rw[f];decide
 have ae:=qY f;refine bg.bU (eM<|cS<|g8 W) λH2 s2=>bh (λg=>?_)<|λg=>?_
 ·rw[dZ] at g;exact gi (dA aQ) (C.trans s2)<|fin (-2) (by unfold gU;rw[ak o,aA (by rw[lW];exact g)])
 rw[eG] at g;have A:¬gT d=ax:=by rw[lW,g];decide
 have a8:=vT g;have D:=C.trans s2;refine bg.bU (pK (bI<|cj W bq) λH3 u _=>bI<|cj W λH4 E=>aaY aQ λH5 s5=>fu W<|s5 _ _ (E _ _ (u _ _ (D _ _ e)))) λH3 u=>?_;have e3:(decide (st<1)||decide (st>(if(l.length:Int)<35 then(l.length:Int) else 35)))=!Vbnlab.within st 1 (if l.length<De then l.length else De):=by
  unfold mF De;rw[Uk];congr 1
  ·rw[<-Cw];apply cY.mpr;omega
  ·rw[<-Cw];apply cY.mpr;by_cases h:l.length<35
   ·rw[aA h,aA aG];omega
   ·rw[ak h,ak aG];omega
 refine bh (λc=>?_)<|λc=>?_
 ·have c:(decide (st<1)||decide (st>(if(l.length:Int)<35 then(l.length:Int) else 35)))=Y:=c;rw[e3,dZ] at c;exact gi (dA aQ) (D.trans u)<|fin (-3) (by unfold gU;rw[ak o,ak A,aA c])
 have c:(decide (st<1)||decide (st>(if(l.length:Int)<35 then(l.length:Int) else 35)))=ax:=c;have a9:1<=st/\st<=35:=by
  rw[HS,hU,hU] at c;by_cases h:(l.length:Int)<35
  ·rw[aA h] at c;omega
  ·rw[ak h] at c;omega
 rw[e3,eG] at c;have ag:¬mF st 1 (if l.length<De then l.length else De)=ax:=by rw[c];decide
 have I:=D.trans u;refine bg.bU (bI<|aaL (yA W aR (ab.same I)<|I _ _ e) bq) λH4 E=>?_;rw[F3,Bool.not_not,<-Xq];have v:=I.trans E;refine bh (λM=>?_)<|λM=>?_
 ·exact gi (dA aQ) v<|fin (-4) (by unfold gU;rw[ak o,ak A,ak ag,aA M])
 have aq:¬(s.genera.any λa7=>a7.text==l)=Y:=by rw[M];decide
 have pe:gU s d st l=if zy<=s.genera.length then(s,.number<|-5) else({s with genera:=s.genera++[{text:=l,gender:=d.toNat,stem:=st.toNat}]},.number s.genera.length):=by
  unfold gU;rw[ak o,ak A,ak ag,ak aq]
 refine bg.bU (bI<|cj (P9 W<|ab.same v) bq) λH7 s7=>bh (λm=>?_)<|λm=>?_
 ·exact gi (dA aQ) (v.trans s7) (fin (-5)<|by rw[pe,aA (by have:=df m;unfold zy;omega)])
 have ar:s.genera.length<200:=by have:=d8 m;omega
 rw[pe,ak (by unfold zy;omega)] at k;have N:=v.trans s7;obtain⟨⟨n,h1,h2,au⟩,av,ay⟩:=B;obtain⟨_,i⟩:=eC h1;have h7:=N _ _ i;have ah:n.length=s.genera.length:=fj h2;refine tW ⟨_,L,.inl ⟨L,_,aM.of h7⟩,aaW (cs:=cs) W aR aR λH8 b Q s8 nb az=>?_⟩;have w:=N.trans s8;refine⟨p,_,_,L,L,w _ _ i,by rw[bH,ah];rw[b9];omega,?_⟩;refine aL.ret (eW<|cj (iN (K:=K) (xs:=n.map V.ref++[V.ref b]) W<|aM.of ba) bq) λx q s9 y h9=>?_;have kk:Kt p H8 x:=(Kt.put Kt.rf).trans<|bE s9;have kt:Kt p H x:=(bE w).trans kk;have aE:q≠p:=λz=>by subst z;rw[ba] at y;cases y
 refine k x q (KR.kt kt rp) (w.free (by rw[aX aE] at y;exact y)) ?_ ?_
 ·rw[h9];show O (HO.lst [V.int ((((n.map V.ref++[V.ref b]).length:Nat):Int)-1)])=O (HO.lst [V.int (s.genera.length:Int)]);rw[aV,bH,ah];show O (HO.lst [V.int (((s.genera.length+1:Nat):Int)-1)])=_;rw[show(((s.genera.length+1:Nat):Int)-1)=(s.genera.length:Int) by omega]
 ·have r:H b=ai:=N.free nb;have a0:b≠p:=λz=>by subst z;rw[i] at r;cases r
  have a3:a≠p:=λz=>by
   subst z;have e:H a=O (.lst<|tx l):=e;rw[i] at e;exact aaX (by intro z;rw[z] at ae;simp at ae) (HO.lst.inj<|eh e).symm
  refine dX.snoc (as:=n) ⟨⟨n,h1,h2,au⟩,av,ay⟩ rp i kt (s9 _ _ ba) r ⟨Q,a,?_,?_⟩ ⟨f,?_,?_⟩ ar
  ·rw[jC (.inr r),kk _ _ az a0];show O (HO.ins cs.Genus Q<|i4 (V.ref a) (V.int d)<|V.int st)=O (HO.ins cs.Genus Q<|i4 (V.ref a) (V.int (d.toNat:Int))<|V.int (st.toNat:Int));rw[show(d.toNat:Int)=d by omega,show(st.toNat:Int)=st by omega]
  ·show HR (Rn R H) x a=_;rw[jC (.inl ra)];exact kk _ _ (w _ _ e) a3
  ·show d.toNat<=2;omega
  ·show st.toNat<=35;omega
def Qc:List ao:=["oidea","idae","inae","ini","ina"]
def aa1:∀n<5,(Qc[n]?).map tl=O (Ul n):=by decide+kernel
def Qe:∀n<5,(Ul n).length<=5:=by decide+kernel
def Qg(cs:Cs):Sp:=λb H Q _=>∃a g r,b=[.ref a,.int r]/\lX cs H a g/\GoodG g/\(0<=r/\r<5)/\eS H Q (tx<|oS g r.toNat)
def Qh:T.bb T.L5 2 (Qg cs):=T.L5.aU<|bN λH Q E s t f h=>by
 obtain⟨a,g,r,rfl,⟨u,v,b,i⟩,j,e,k⟩:=h;refine⟨_,(aC<|aK<|cP fW (kI kJ (aJ<|pv 0) px<|jg<|aJ<|pv 0)<|aO (jA T) f<|aj<|bT sI (kR T.ET)<|pv 1),?_⟩;obtain⟨n,rfl⟩:=zu e.1;have c:n<5:=by omega
 obtain⟨x,l,m⟩:=rQ.mp<|aa1 n c;have p:=Qe n c;have q:=qY j.tx;refine aL.ret (aL.cv (fX (xs:=tx<|g.text.take g.stem) (ys:=tx<|Ul n) (aL.x<|aL.cv (A1 (G.x (A5 T W b) i)<|λo d=>YQ T W<|d _ _ b) ?_) (λo d=>aL.x<|jT (Bc (xs:=Qc) aR (fJ (j:=n) (by rw[eU,l];rfl)) m) aG) ?_) ?_) k
 ·rw[AV aG,ku,vJ]
 ·rw[bX,bX,gA,b9];omega
 ·rw[gh,ku];rfl
def Qi(h:G t U H (.ref a))(e:∀b,J H b->G u U b (.int r))(f:lX cs H a g)(i:GoodG g)(j:0<=r/\r<5):aL (cA (Qg cs) [] E<|aN t<|aN u aW) U H (tx<|oS g r.toNat):=λQ k=>
 h _ λb c=>e b c _ λq d=>⟨a,g,r,L,f.same<|c.trans d,i,j,λl p m n o=>k l p (c.trans<|d.trans m) ((c.trans d).free n) o⟩
def Qj(h:GoodG g)(a:n<5):(oS g n).length<=50:=by
 have b:=qY h.tx;have c:=Qe n a;unfold oS;rw[aV,gA];omega
def aa2(cs:Cs):Sp:=λb H Q _=>∃p a i r,b=[.ref p,.int i,.int r]/\dX cs H p a/\eS H Q (zs (match cJ a i with
 |none=>[-1]
 |some x=>if mF r 0 4=ax then[-2] else 0::fm (oS x r.toNat)))
def Qk:G (gG (λxs H Q=>∃p ys,xs=[.ref p]/\(aM K H p ys∨cO K H p ys)/\Q (.int ys.length) H)<|aN (xQ K vs) aW) U H (.int (vs.length:Nat)):=λQ k a b=>⟨a,vs,L,.inr<|b H,k H J.rf⟩
def aa3:T.bb T.L6 3 (aa2 cs):=T.L6.aU<|bN λaa ab ae I M u h=>by
 obtain⟨p,N,i,r,rfl,d,k⟩:=h;refine⟨_,(aD (bw (eJ<|cN<|aO (yx T) u<|aP (pv 0)<|aj<|pv 1) (aC<|aK<|bQ<|aj<|du dv aI) bB)<|aD (bw (PW.pt<|nR (bK f9 (pv 2) aI)<|oZ<|bK mK (pv 2)<|b6 cB aZ T.cn cq<|aj<|kR T.ET) (aC<|aK<|bQ<|aj<|du dv aI) bB)<|aC<|aK<|cP fW (bQ<|aj aI)<|aO (Qh T) u<|aP (bT b8 (pv 0)<|pv 1)<|aj<|pv 2),?_⟩;refine bg.bU (eM<|cS<|yy W aR d) λQ l=>bh (λc=>?_)<|λc=>?_
 ·rw[dZ] at c;exact gi (dA aQ) l<|λm q n o s=>k m q n o (by rw[qW c];exact s)
 rw[eG] at c;obtain⟨x,D,j,v⟩:=qV c;rw[D] at k;refine bg.bU (pK (bI<|cj W bq) λw t _=>bI<|cj W λe f=>Qk) λw t=>?_;have y:(decide (r<0)||decide (r≥5))=!Vbnlab.within r 0 4:=by
  unfold mF;rw[Uk];congr 1
  ·rw[<-Cw];apply cY.mpr;omega
  ·rw[<-Cw];apply cY.mpr;omega
 refine bh (λb=>?_)<|λb=>?_
 ·have b:(decide (r<0)||decide (r≥5))=Y:=b;rw[y,dZ] at b;exact gi (dA aQ) (l.trans t)<|λm q n o s=>k m q n o (by show _=O (HO.lst<|zs (if mF r 0 4=ax then[-2] else _));rw[aA b];exact s)
 have b:(decide (r<0)||decide (r≥5))=ax:=b;have C:0<=r/\r<5:=by rw[HS,hU,hU] at b;omega
 rw[y,eG] at b;have g:=l.trans t;have z:=d.good x<|ei j;obtain⟨a,A,B⟩:=Qa (K:=K) (U:=[O (.ref p),O<|.int i,O<|.int r]) (t:=dQ 0) (u:=dQ 1) (H:=w) W aR (d.same g) j v;refine aL.ret (fX (ys:=tx<|oS x r.toNat) (aL.x<|eW aQ) (λe f=>?_) ?_) λe q f E H=>k e q (g.trans f) (g.free E) ?_
 ·obtain⟨a,A,B⟩:=Qa (K:=K) (U:=[O (.ref p),O<|.int i,O<|.int r]) (t:=dQ 0) (u:=dQ 1) (H:=e) W aR (d.same<|g.trans f) j v;exact aL.x<|Qi A aR B z C
 ·have:=Qj z (n:=r.toNat) aG;rw[bX,b9];show 1+_<=_;omega
 ·rw[H];show _=O (HO.lst<|zs (if mF r 0 4=ax then[-2] else _));rw[ak (by rw[b];decide)];show _=O (HO.lst<|V.int 0::zs (fm _));rw[qT];rfl
def vW(a:List iU)(l:S)(i:Nat):List (Nat×Nat):=match a[i]?with
 |some x=>(Vbnlab.RANKS.filter λr=>oS x r==l).map λr=>(i,r)
 |none=>[]
def jD(a:List iU)(l:S)(m:Nat):List (Nat×Nat):=(rE m).flatMap<|vW a l
def mY(ps:List (Nat×Nat)):List Int:=ps.flatMap λx=>[(x.1:Int),(x.2:Int)]
def oC(x:iU)(l:S)(i r:Nat):List (Nat×Nat):=((rE r).filter λr=>oS x r==l).map λr=>(i,r)
def BA(ps:List (Nat×Nat)):(mY ps).length=2*ps.length:=by
 unfold mY;induction ps with
 |nil=>rfl
 |cons x r a=>rw[qm,aV,a];show 2+2*r.length=2*(r.length+1);omega
def aa4(a b:List (Nat×Nat)):mY (a++b)=mY a++mY b:=by unfold mY;rw[qo]
def Ql(a:List iU)(l:S)(m:Nat):jD a l (m+1)=jD a l m++vW a l m:=by unfold jD;rw[T2,qo];simp
def aa5(a:List iU)(l:S)(m:Nat):(vW a l m).length<=5:=by
 unfold vW;split
 ·rw[bH];exact eO (oQ _ _) aB
 ·simp
def BB(a:List iU)(l:S):∀m:Nat,(jD a l m).length<=5*m
 |0=>by simp[jD]
 |m+1=>by
  have:=BB a l m;have:=aa5 a l m;rw[Ql,aV];omega
def aa6(x:iU)(l:S)(i r:Nat):(oC x l i r).length<=r:=by
 unfold oC;rw[bH];exact eO (oQ _ _) (by rw[Dd];exact bG _)
def Qm(x:iU)(l:S)(i r:Nat):oC x l i (r+1)=oC x l i r++(if oS x r=l then[(i,r)] else[]):=by
 unfold oC;rw[T2,wV,fR];congr 1;by_cases h:oS x r=l
 ·rw[aA h];simp[h]
 ·rw[ak h];simp[h]
def aa7(h:a[i]?=O x):oC x l i 5=vW a l i:=by unfold vW;rw[h];rfl
def aa8(h:G t U H (.int i))(c:∀a,J H a->G u U a (.int 2)):G (dG (rI IK λi j=>.int<|i/j) t u) U H (.int<|i/2):=λQ k=>
 h _ λa b=>c a b _ λd e=>⟨i,2,L,L,⟨aB,aB⟩,k d<|b.trans e⟩
def aa9(cs:Cs):Sp:=λc H Q _=>∃p a b l,c=[.ref p,.ref a]/\dX cs H p b/\aY H a l/\eS H Q (zs<|((jD b l b.length).length:Int)::mY (jD b l b.length))
def aba:T.bb T.L7 3 (aa9 cs):=T.L7.aU<|cW ["genera","text","pairs","number","genus","rank"] λH aq ar j hL g aa=>by
 obtain⟨p,a,b,l,rfl,k,M,ab⟩:=aa;refine⟨_,(aD (cw 2 j<|bQ gv)<|aD (iH iC L (xE L T.xU<|aj<|pv 0) (xk L<|lH (d7 3 j)<|lH (d7 4 j) u1)<|aC<|iH iC L (U5 L T.EU<|aj<|b6 cB aZ T.cn cq<|aj<|kR T.ET) (d7 5 j)<|aC<|bw (bK (qy<|oh g) (aO (Qh T) g<|aP (pv 4)<|aj<|pv 5)<|pv 1) (aC<|bW<|eK eL j3 j4 jt (pv 2)<|aj<|bQ<|aP (pv 3)<|aj<|pv 5) bB)<|aC<|aK<|cP fW (bQ<|aj<|cP U8 (b6 cB aZ T.cn cq<|aj<|pv 2) aI)<|pv 2),?_⟩;obtain⟨t,u,v,_⟩:=k.ex;have E:t.length=b.length:=fj v;have ah:=k.most;refine aL.eB ir λH1 c w N I=>?_;refine F2 (xs:=t.map V.ref) W (w _ _ u) λH2 y=>⟨λm U d=>(∃x ae z,U=[O (.ref p),O<|.ref a,O<|.ref c,x,ae,z])/\J H d/\d c=O (.lst<|zs<|mY<|jD b l m),⟨⟨_,_,_,L⟩,w.trans y,y _ _ I⟩,λm U d _ q=>q.2.1 _ _ u,?_,?_⟩
 ·rintro m au U d Q ⟨⟨x0,y0,z0,rfl⟩,st,h⟩ H3 A;obtain⟨ag,hb,rfl⟩:=pT Q;obtain⟨x,n,ga⟩:=qX v hb;have hm:m<b.length:=(fC.mp n).1;have gg:=k.good x<|ei n;refine aaQ (Qk) ⟨aB,aB⟩ λH4 B=>⟨λr U d=>(∃z,U=[O (.ref p),O<|.ref a,O<|.ref c,O<|.int (m:Nat),O<|.ref ag,z])/\J H d/\d c=O (.lst<|zs<|mY<|jD b l m++oC x l m r),⟨⟨_,L⟩,st.trans<|A.trans B,?_⟩,?_,?_⟩
  ·rw[B _ _ (A _ _ h)];unfold oC;simp
  ·rintro r U d g ⟨⟨z1,rfl⟩,e,i⟩;have g:r<5:=g;refine bg.iM (bI<|tT (l:=oS x r) (m:=l) (aL.x<|aL.cv (Qi (g:=x) (r:=(r:Int)) W aR (ga.same e) gg ⟨aG,aG⟩)<|by rw[ku])<|λH6 f=>G.x W<|f _ _ (e _ _ M)) λH6 f=>bh (λo=>?_)<|λo=>?_
   ·refine pM (K:=K) (xs:=zs<|mY<|jD b l m++oC x l m r) (ys:=[.int (m:Nat),.int (r:Nat)]) W (f _ _ i) (λH7 C=>aL.x<|Bl (cT W λ_ _=>cT W λ_ _=>iO) (by show 2<=br;decide)) ?_ λH7 C=>⟨⟨_,L⟩,kT (e.trans<|f.trans C) N,?_⟩
    ·have e1:=BB b l m;have e2:=aa6 x l m r;unfold zs;rw[bH,BA,aV,b9];show _+2<=_;omega
    ·rw[ba,Qm,aA<|df o,<-hX,aa4<|jD b l m++oC x l m r];unfold zs;rw[fR];rfl
   ·refine⟨⟨_,L⟩,e.trans f,?_⟩;rw[Qm,ak<|d8 o,gp];exact f _ _ i
  ·rintro U d ⟨⟨z1,rfl⟩,e,i⟩;have e5:((([V.str "oidea",.str "idae",.str "inae",.str "ini",.str "ina"]:List V).length:Nat):Int).toNat=5:=rfl;refine⟨⟨_,_,_,L⟩,e,?_⟩;rw[i,Ql,<-aa7 n];rfl
 ·rintro U d ⟨⟨x0,y0,z0,rfl⟩,st,h⟩;rw[bH,E] at h;have e1:=BB b l b.length;refine aL.ret (fX (xs:=[V.int (((jD b l b.length).length:Nat):Int)]) (aL.x<|aL.cv (eW<|aa8 (iN (K:=K) W<|aM.of h) bq) ?_) (λD s=>G.x W<|s _ _ h) ?_) λD q s n5 h5=>ab D q (st.trans s) (st.free n5) h5
  ·unfold zs;rw[bH,BA];rw[show((2*(jD b l b.length).length:Nat):Int)/2=((jD b l b.length).length:Int) by omega]
  ·unfold zs;rw[bH,BA,b9];show 1+_<=_;omega
def abb(cs:Cs):Sp:=λc H Q _=>∃(R:af->Prop)(p:af)(i g:Int)(a:List iU),c=[.ref p,.int i,.int g]/\dX cs (HR R H) p a/\
 ∀b q,KR R H b->H q=ai->b q=O (.lst (zs (match cJ a i with
  |none=>[-1]
  |some x=>if gT g=ax then[-2] else[(x.gender:Int)])))->dX cs (HR (Rn R H) b) p (match cJ a i with
  |none=>a
  |some x=>if gT g=ax then a else a.set i.toNat {x with gender:=g.toNat})->Q (.ref q) b
def abc:T.bb T.L8 2 (abb cs):=T.L8.aU<|cW ["genera","number","gender","before"] λH bl bx nd hL hr a8=>by
 obtain⟨R,ar,au,g,gs,rfl,p,k⟩:=a8;refine⟨_,(aD (bw (eJ<|cN<|aO (yx T) hr<|aP (pv 0)<|aj<|pv 1) (aC<|aK<|bQ<|aj<|du dv aI) bB)<|aD (bw (eJ<|cN<|aO (yr T) hr<|aj<|pv 2) (aC<|aK<|bQ<|aj<|du dv aI) bB)<|aD (cw 3 nd<|aJ<|bT b8 (pv 0)<|pv 1)<|aD (bP (bT b8 (pv 0)<|pv 1) (pv 2) L)<|aC<|aK<|bQ<|aj<|pv 3),?_⟩;have aE:=p.same gM;refine bg.bU (eM<|cS<|yy W aR aE) λC D=>bh (λc=>?_)<|λc=>?_
 ·rw[dZ] at c;rw[qW c] at k;exact gi (dA aQ) D<|λr q d E i=>k r q (KR.of d) E i<|p.same<|Bw d
 rw[eG] at c;obtain⟨x,s,A,hi⟩:=qV c;rw[s] at k;refine bg.bU (eM<|cS<|g8 W) λr d=>bh (λf=>?_)<|λf=>?_
 ·rw[dZ] at f;refine gi (dA aQ) (D.trans d)<|λr q d E i=>k r q (KR.of d) E ?_ ?_
  ·rw[lW];show _=O (HO.lst<|zs (if d5 0 2 g=ax then[-2] else _));rw[aA f];exact i
  ·rw[lW];show dX _ _ _ (if d5 0 2 g=ax then gs else _);rw[aA f];exact p.same<|Bw d
 rw[eG] at f;have hg:=vT f;have aa:¬gT g=ax:=by rw[lW,f];decide
 have I:=D.trans d;obtain⟨⟨as,M,i,e⟩,ab,az⟩:=p;obtain⟨a,ha,j,l,o1,N⟩:=mX i A;obtain⟨ra,ae⟩:=eC o1;obtain⟨rt,bk⟩:=eC N;obtain⟨rp,ag⟩:=eC M;have ix:∀{t:Hp}{av ay:TE}{U:L2.St},G av U t (.ref ar)->(∀C,J t C->G ay U C (.int au))->t ar=O (.lst<|as.map V.ref)->G (dG (j8 K) av ay) U t (.ref a):=λht hu Q=>e8 ht hu (aM.of Q)<|at_of hi.symm (by rw[eU,ha];rfl);refine G.eB (yh T (ix W aR<|I _ _ ag)<|I _ _ ae) λH3 s3=>?_;have m3:=I.trans s3;refine YO T W (λH4 s4=>ix W aR<|s4 _ _ (m3 _ _ ag)) (m3 _ _ ae) λH4 s4=>?_;have m4:=m3.trans s4;refine aL.ret (eW W) λm q s5 u h5=>?_;have kk:Kt a H m:=(bE m4).trans<|(Kt.put Kt.rf).trans<|bE s5;have a0:q≠a:=λz=>by subst z;rw[ba] at u;cases u
 refine k m q (KR.kt kk ra) (m4.free (by rw[aX a0] at u;exact u)) ?_ ?_
 ·show _=O (HO.lst<|zs (if gT g=ax then[-2] else _));rw[ak aa];exact h5
 ·show dX _ _ _ (if gT g=ax then gs else _);rw[ak aa];have v:=FV (R:=R) kk;have B:∀{b:af}{vs:List V},HR R H b=O (.lst vs)->b≠a:=λa9=>dO a9 o1 (by intro z;cases z);have a3:HR (Rn R H) m a=O (.ins cs.Genus j<|i4 (.ref l) (.int g)<|.int (x.stem:Nat)):=by rw[jC (.inl ra),s5 _ _ ba]
  refine⟨⟨as,v _ _ M (B M),?_,e⟩,λy hy=>?_,by rw[Tp];exact az⟩
  ·have a4:∀{h:List af}{o:List iU},Paired (lX cs<|HR R H) h o->h.Nodup->∀(n:Nat),h[n]?=O a->o[n]?=O x->Paired (lX cs<|HR (Rn R H) m) h (o.set n {x with gender:=g.toNat}):=by
    intro h o Q;have ah:∀b y,b≠a->lX cs (HR R H) b y->lX cs (HR (Rn R H) m) b y:=λb y a5 c=>let⟨j,l,q1,q2⟩:=c;⟨j,l,v _ _ q1 a5,v _ _ q2 (B q2)⟩;induction Q with
    |nil=>intro _ n w;simp at w
    |@cons b y h o a6 a7 ih=>
     intro e n w s;rw[CM] at e;cases n with
     |zero=>
      cases w;cases s;refine .cons ⟨j,l,?_,v _ _ N (B N)⟩<|Paired.fT (FX a7) λb y c=>ah b y (λz=>e.1 (z▸c.1)) c.2;rw[a3];show O (HO.ins cs.Genus j<|i4 (.ref l) (.int g)<|.int (x.stem:Nat))=O (HO.ins cs.Genus j<|i4 (.ref l) (.int (g.toNat:Int))<|.int (x.stem:Nat));rw[show(g.toNat:Int)=g by omega]
     |succ n=>
      have aq:h[n]?=O a:=by simpa using w
      exact .cons (ah b y (λz=>e.1 (z▸ei aq)) a6) (ih e.2 n aq<|by simpa using s)
   exact a4 i e au.toNat ha A
  ·rcases List.mem_or_eq_of_mem_set hy with z|z
   ·exact ab y z
   ·subst z;have q:=ab x<|ei A;exact⟨q.tx,by show g.toNat<=2;omega,q.st⟩
def cU.pX(h:cU H p ls)(k:Kt a H H')(c:H a=O (.ins C dx fs)):cU H' p ls:=by
 obtain⟨g,d,f⟩:=mW h;exact oB (k _ _ d (dO d c (by intro z;cases z)))<|Paired.fT f λb l e=>k _ _ e (dO e c (by intro z;cases z))
def lY(h:aY H p l)(k:Kt a H H')(b:H a=O (.ins C dx fs)):aY H' p l:=k _ _ h (dO h b (by intro z;cases z))
section
variable{U:L2.St}{H:Hp}{ta tv:TE}{a x r:af}{l:S}{ls:List S}{n:bJ}{D:Ends}{u:TS}
def abd(j:cy cs H a n)(m:G tv U H (.ref x))(o:aY H x l)(h:∀c,J H c->G ta U c (.ref a))(k:∀d,Kt a H d->cy cs d a {n with e1:=l}->u D U d):cF (cH K ta tv "e1") u D U H:=by
 obtain⟨e,f,s,e1,g,i,q,p,t,z,v,w⟩:=j;refine Za T m h q λc y=>?_;have b:Kt a H (upd c a<|.ins cs.Name e<|ox {n with e1:=l} f s x g i):=Kt.put<|bE y;exact k _ b ⟨e,f,s,x,g,i,ba,lY p b q,lY t b q,lY o b q,lY v b q,w.pX b q⟩
def abe(j:cy cs H a n)(m:G tv U H (.ref x))(o:aY H x l)(h:∀c,J H c->G ta U c (.ref a))(k:∀d,Kt a H d->cy cs d a {n with e2:=l}->u D U d):cF (cH K ta tv "e2") u D U H:=by
 obtain⟨e,f,s,g,e2,i,q,p,t,v,z,w⟩:=j;refine Zc T m h q λc y=>?_;have b:Kt a H (upd c a<|.ins cs.Name e<|ox {n with e2:=l} f s g x i):=Kt.put<|bE y;exact k _ b ⟨e,f,s,g,x,i,ba,lY p b q,lY t b q,lY v b q,lY o b q,w.pX b q⟩
def abf(j:cy cs H a n)(m:G tv U H (.ref r))(o:cU H r ls)(h:∀c,J H c->G ta U c (.ref a))(k:∀d,Kt a H d->cy cs d a {n with authors:=ls}->u D U d):cF (cH K ta tv "authors") u D U H:=by
 obtain⟨e,f,s,g,i,z,q,p,t,v,w,A⟩:=j;refine Ze T m h q λc y=>?_;have b:Kt a H (upd c a<|.ins cs.Name e<|ox {n with authors:=ls} f s g i r):=Kt.put<|bE y;exact k _ b ⟨e,f,s,g,i,r,ba,lY p b q,lY t b q,lY v b q,lY w b q,o.pX b q⟩
end
structure Ct where
 g:Int
 sub:Int
 e1:Int
 e2:Int
 first:Int
 year:Int
 etal:Int
 authors:List S
def Ct.row(c:Ct):List Int:=[c.g,c.sub,c.e1,c.e2,c.first,c.year,c.etal]
def oE(cs:Cs)(H:Hp)(a:af)(c:Ct):Prop:=∃d b,H a=O (.ins cs.jm d<|ou (.int c.g) (.int c.sub) (.int c.e1) (.int c.e2) (.int c.first) (.int c.year) (.int c.etal)<|.ref b)/\cU H b c.authors
def oE.same(h:oE cs H a c)(s:J H H'):oE cs H' a c:=let⟨b,d,e,f⟩:=h;⟨b,d,s _ _ e,f.same s⟩
def Qn(cs:Cs):Sp:=λf H Q _=>∃p b d e c,f=[.ref p,.ref d,.ref e]/\H p=O (.ins cs.jm b [])/\sZ H d (Ct.row c)/\∀a,Kt p H a->a p=O (.ins cs.jm b<|ou (.int c.g) (.int c.sub) (.int c.e1) (.int c.e2) (.int c.first) (.int c.year) (.int c.etal)<|.ref e)->Q .bp a
def AK:T.oo T.AK 1 (Qn cs):=T.AK.aU<|bN λaa ab ae I M N h=>by
 obtain⟨p,Q,n,pa,c,rfl,e,a,k⟩:=h;refine⟨_,(aD (bP (pv 0) (bT b8 (pv 1) aI) L)<|aD (bP (pv 0) (bT b8 (pv 1) aI) L)<|aD (bP (pv 0) (bT b8 (pv 1) aI) L)<|aD (bP (pv 0) (bT b8 (pv 1) aI) L)<|aD (bP (pv 0) (bT b8 (pv 1) aI) L)<|aD (bP (pv 0) (bT b8 (pv 1) aI) L)<|aD (bP (pv 0) (bT b8 (pv 1) aI) L)<|aC<|bP (pv 0) (pv 2) L),?_⟩;have d:n≠p:=dO a e (by intro z;cases z);have b:∀{o:Hp}{i:Nat}{z:Int}{U:L2.St}{t:TE},G t U o (.ref n)->o n=O (.lst<|zs c.row)->c.row[i]?=O z->G (dG (j8 K) t<|tC<|.int (i:Nat)) U o (.int z):=λs e u=>e8 s bq (aM.of e)<|fJ (by unfold zs;rw[eU,u];rfl);refine gy T.jy (T.jz _ bf) aB e (b (i:=0) (z:=c.g) W a L) aR λH1 r v=>?_;refine gy T.jy (T.jz _ bf) (by show 1<1000;decide) v (b (i:=1) (z:=c.sub) W (r _ _ a d) L) aR λH2 f w=>?_;have f:=r.trans f;refine gy T.jy (T.jz _ bf) (by show 2<1000;decide) w (b (i:=2) (z:=c.e1) W (f _ _ a d) L) aR λH3 g x=>?_;have g:=f.trans g;refine gy T.jy (T.jz _ bf) (by show 3<1000;decide) x (b (i:=3) (z:=c.e2) W (g _ _ a d) L) aR λH4 j y=>?_;have j:=g.trans j;refine gy T.jy (T.jz _ bf) (by show 4<1000;decide) y (b (i:=4) (z:=c.first) W (j _ _ a d) L) aR λH5 l A=>?_;have l:=j.trans l;refine gy T.jy (T.jz _ bf) (by show 5<1000;decide) A (b (i:=5) (z:=c.year) W (l _ _ a d) L) aR λH6 m B=>?_;have m:=l.trans m;refine gy T.jy (T.jz _ bf) (by show 6<1000;decide) B (b (i:=6) (z:=c.etal) W (m _ _ a d) L) aR λH7 q C=>?_;have q:=m.trans q;exact pS T.jy (T.jz _ bf) (by show 7<1000;decide) C W aR λD E H=>k D (q.trans E) H
def Qo(cs:Cs):Sp:=λd H Q _=>∃a c,d=[.ref a]/\oE cs H a c/\∀b,J H b->Q (.bl<|HU c.first c.year c.etal c.authors) b
def abg:T.bb T.Mr 6 (Qo cs):=T.Mr.aU<|bN λH Q E l m i h=>by
 obtain⟨a,c,rfl,⟨n,o,e,j⟩,k⟩:=h;refine⟨_,(aD (bw (bK de (aJ<|pv 0)<|cD T.sW) (aC<|aK<|aO (Oj T) i<|aP (aJ<|pv 0)<|aP (aJ<|pv 0)<|aj<|aJ<|pv 0) bB)<|aC<|aK<|aO (Oi T) i<|aP (aJ<|pv 0)<|aP (aJ<|pv 0)<|aj<|aJ<|pv 0),?_⟩;rw[La] at k;refine bg.bU (bI<|dw (Ba T W e) bq) λp d=>bh (λg=>?_)<|λg=>?_
 ·rw[aA (df g)] at k;exact G.ret (A0 (Fh T W<|d _ _ e) (λf b=>Fg T W<|b _ _ (d _ _ e)) (λf b=>Ff T W<|b _ _ (d _ _ e))<|j.same d) λf b=>k f<|d.trans b
 ·rw[ak (d8 g)] at k;exact G.ret (A0 (Fh T W<|d _ _ e) (λf b=>Fg T W<|b _ _ (d _ _ e)) (λf b=>Ff T W<|b _ _ (d _ _ e))<|j.same d) λf b=>k f<|d.trans b
def F4(Inv:Hp->Prop)(h:bg c U H b)(j:∀d,J H d->b=Y->∀g:Ends,(∀e,Inv e->g.nx U e)->a g U d)(l:∀d,J H d->b=ax->Inv d)(k:∀e,Inv e->u D U e):cF (sA c a u0) u D U H:=
 h _ λd i=>bh (λf=>j d i f {D with nx:=u D} k)<|λf=>k d<|l d i f
def at_isSome(l:List α)(i:Int):(cJ l i).isSome=(decide (0<=i)&&decide (i<(l.length:Int))):=by
 cases h:(decide (0<=i)&&decide (i<(l.length:Int))) with
 |true=>obtain⟨x,a,_⟩:=qV h;rw[a];rfl
 |false=>rw[qW h];rfl
def F5(l:List α)(i:Int):(!decide (i=-1)&&!(decide (0<=i)&&decide (i<(l.length:Int))))=!Vbnlab.maybe? l i:=by
 unfold r9;rw[ago,at_isSome,fS]
def lZ(h:cJ l i=O x):l[i.toNat]?=O x/\(i.toNat:Int)=i:=by
 unfold cJ at h;by_cases a:i<0
 ·rw[aA a] at h;cases h
 ·rw[ak a] at h;exact⟨h,aG⟩
abbrev kX(s:eI)(c:Ct):Int⊕bJ:=Df s c.g c.sub c.e1 c.e2 c.first c.year c.etal c.authors
def refOf(s:eI)(c:Ct):Int:=match kX s c with
 |.inl z=>z
 |.inr _=>0
def Qp(cs:Cs):Sp:=λf H Q _=>∃b d a s c,f=[.ref b,.ref d,.ref a]/\dX cs H b s.genera/\dR cs H d s.epithets/\oE cs H a c/\∀e,J H e->Q (.int<|refOf s c) e
def abh(h:G t U H (.ref a))(d:oE cs H a c):G (cA (Qo cs) [] E<|aN t aW) U H (.bl<|HU c.first c.year c.etal c.authors):=λQ k=>
 h _ λg b=>⟨a,c,L,d.same b,λe f=>k e<|b.trans f⟩
def abi:T.bb T.Ms 7 (Qp cs):=T.Ms.aU<|bN λH aa ab M N l h=>by
 obtain⟨Q,pe,a,ae,c,rfl,t,w,u,k⟩:=h;refine⟨_,(aD (bw (eJ<|cN<|aO (yx T) l<|aP (pv 0)<|aj<|aJ<|pv 2) (aC<|aK<|du dv aI) bB)<|aD (bw (PW.pt<|iF (bK pb (aJ<|pv 2)<|cD T.sW)<|iE<|eJ<|cN<|aO (yx T) l<|aP (pv 0)<|aj<|aJ<|pv 2) (aC<|aK<|du dv aI) bB)<|aD (bw (eJ<|cN<|aO (yu T) l<|aP (pv 1)<|aj<|aJ<|pv 2) (aC<|aK<|du dv aI) bB)<|aD (bw (PW.pt<|iF (bK pb (aJ<|pv 2)<|cD T.sW)<|iE<|eJ<|cN<|aO (yu T) l<|aP (pv 1)<|aj<|aJ<|pv 2) (aC<|aK<|du dv aI) bB)<|aD (bw (PW.pt<|iF (bK pb (aJ<|pv 2)<|cD T.sW)<|iE<|eJ<|cN<|aO (yx T) l<|aP (pv 0)<|aj<|aJ<|pv 2) (aC<|aK<|du dv aI) bB)<|aD (bw (eJ<|cN<|aO (abg T) l<|aj<|pv 2) (aC<|aK<|du dv aI) bB)<|aC<|aK aI),?_⟩;obtain⟨A,B,g,C⟩:=u;have u:oE cs H a c:=⟨A,B,g,C⟩;unfold refOf kX Df at k;refine bg.bU (eM<|cS<|yy W (λx i=>Fe T W<|i _ _ g) t) λx i=>bh (λe=>?_)<|λe=>?_
 ·rw[dZ] at e;rw[qW e] at k;exact G.ret (dA aQ) λy v=>k y<|i.trans v
 rw[eG] at e;obtain⟨ag,D,_⟩:=qV e;rw[D] at k;refine bg.bU (iq (bI<|tD (A8 T W<|i _ _ g) bq)<|λf d _=>eM<|cS<|yy W (λp j=>A8 T W<|j _ _ (d _ _ (i _ _ g)))<|t.same<|i.trans d) λy v=>?_;rw[F5];have n:=i.trans v;refine bh (λb=>?_)<|λb=>?_
 ·rw[dZ] at b;refine G.ret (dA aQ) λf d=>?_;have:=k f<|n.trans d;simp only[b,gz] at this;exact this
 rw[eG] at b;simp only[b,sh,jG] at k;refine bg.bU (eM<|cS<|yw W (λx i=>OC T W<|i _ _ (n _ _ g))<|w.same n) λf d=>bh (λe=>?_)<|λe=>?_
 ·rw[dZ] at e;rw[qW e] at k;exact G.ret (dA aQ) λp j=>k p<|n.trans<|d.trans j
 rw[eG] at e;obtain⟨ah,E,_⟩:=qV e;rw[E] at k;have q:=n.trans d;refine bg.bU (iq (bI<|tD (A9 T W<|q _ _ g) bq)<|λp j _=>eM<|cS<|yw W (λz m=>A9 T W<|m _ _ (j _ _ (q _ _ g)))<|w.same<|q.trans j) λp j=>?_;rw[F5];have o:=q.trans j;refine bh (λb=>?_)<|λb=>?_
 ·rw[dZ] at b;refine G.ret (dA aQ) λf d=>?_;have:=k f<|o.trans d;simp only[b,gz] at this;exact this
 rw[eG] at b;simp only[b,sh,jG] at k;refine bg.bU (iq (bI<|tD (Ba T W<|o _ _ g) bq)<|λz m _=>eM<|cS<|yy W (λI r=>Ba T W<|r _ _ (m _ _ (o _ _ g)))<|t.same<|o.trans m) λz m=>?_;rw[F5];have s:=o.trans m;refine bh (λb=>?_)<|λb=>?_
 ·rw[dZ] at b;refine G.ret (dA aQ) λf d=>?_;have:=k f<|s.trans d;simp only[b,gz] at this;exact this
 rw[eG] at b;simp only[b,sh,jG] at k;refine bg.bU (eM<|cS<|abh W<|u.same s) λI r=>bh (λb=>?_)<|λb=>?_
 ·rw[dZ] at b;refine G.ret (dA aQ) λf d=>?_;have:=k f<|s.trans<|r.trans d;simp only[b,gz] at this;exact this
 ·rw[eG] at b;simp only[b,sh,jG] at k;exact G.ret aQ λf d=>k f<|s.trans<|r.trans d
def abj(h:G t U H (.ref e))(i:∀b,J H b->G u U b (.ref f))(j:∀b,J H b->G v U b (.ref a))(l:dX cs H e s.genera)(n:dR cs H f s.epithets)(o:oE cs H a c):
  G (cA (Qp cs) [] E<|aN t<|aN u<|aN v aW) U H (.int<|refOf s c):=λQ k=>
 h _ λb d=>i b d _ λp g=>j p (d.trans g) _ λx q=>let m:=d.trans<|g.trans q;⟨e,f,a,s,c,L,l.same m,n.same m,o.same m,λr w=>k r<|m.trans w⟩
def F6(h:kX s c= .inr n):∃x e,cJ s.genera c.g=O x/\r9 s.genera c.sub=Y/\cJ s.epithets c.e1=O e/\r9 s.epithets c.e2=Y/\r9 s.genera c.first=Y/\
  HU c.first c.year c.etal c.authors=Y/\n={head:=x.text,sub:=((cJ s.genera c.sub).map λy=>y.text).getD [],e1:=bY e x.gender,e2:=((cJ s.epithets c.e2).map λf=>bY f x.gender).getD [],paren:=if c.first=-1∨c.first=c.g then 0 else 1,etal:=c.etal,year:=c.year,authors:=c.authors}:=by
 unfold kX Df at h;cases g:cJ s.genera c.g with
 |none=>rw[g] at h;cases h
 |some x=>
  rw[g] at h;cases i:r9 s.genera c.sub with
  |false=>simp only[i,gz] at h;cases h
  |true=>
   simp only[i,sh,jG] at h;cases j:cJ s.epithets c.e1 with
   |none=>rw[j] at h;cases h
   |some e=>
    rw[j] at h;cases a:r9 s.epithets c.e2 with
    |false=>simp only[a,gz] at h;cases h
    |true=>
     simp only[a,sh,jG] at h;cases b:r9 s.genera c.first with
     |false=>simp only[b,gz] at h;cases h
     |true=>
      simp only[b,sh,jG] at h;cases d:HU c.first c.year c.etal c.authors with
      |false=>simp only[d,gz] at h;cases h
      |true=>
       simp only[d,sh,jG] at h;exact⟨x,e,L,L,L,L,L,L,(aeI h).symm⟩
def BC(c:dX cs H p e)(f:cJ e i=O x):∃a dx pt,H a=O (.ins cs.Genus dx<|i4 (.ref pt) (.int (x.gender:Nat))<|.int (x.stem:Nat))/\aY H pt x.text/\GoodG x/\
  ∀{H':Hp}{t u:TE}{U:L2.St},J H H'->G t U H' (.ref p)->(∀d,J H' d->G u U d (.int i))->G (dG (j8 K) t u) U H' (.ref a):=by
 obtain⟨b,g⟩:=lZ f;obtain⟨q,h,j,_⟩:=c.ex;obtain⟨a,k,dx,pt,l,m⟩:=mX j b;exact⟨a,dx,pt,l,m,c.good x<|ei b,λs n o=>e8 n o (aM.of<|s _ _ h)<|at_of g.symm (by rw[eU,k];rfl)⟩
def Qq(e:dR cs H p es)(f:cJ es i=O x)(C:g<=2):∃b,aY H b (bY x g)/\jb x=Y/\
  ∀{H':Hp}{t u v:TE}{U:L2.St},J H H'->G t U H' (.ref p)->(∀c,J H' c->G u U c (.int i))->(∀c,J H' c->G v U c (.int (g:Nat)))->G (dG (j8 K) (cz K (dG (j8 K) t u) "forms") v) U H' (.ref b):=by
 obtain⟨d,h⟩:=lZ f;obtain⟨D,j,k⟩:=e.ex;obtain⟨a,l,E,I,M,m,n,N⟩:=mX k d;obtain⟨Q,o,q⟩:=mW n;have r:(fQ x)[g]?=O (bY x g):=by
  have:g=0∨g=1∨g=2:=by omega
  rcases this with rfl|rfl|rfl<;>rfl
 obtain⟨b,w,y⟩:=mX q r;exact⟨b,y,e.good x<|ei d,λs z A B=>e8 (vO T (e8 z A (aM.of<|s _ _ j)<|at_of h.symm (by rw[eU,l];rfl))<|s _ _ m) B (aM.of<|s _ _ o)<|fJ (j:=g) (by rw[eU,w];rfl)⟩
def abk(h:G t U H (.int i))(f:∀c,J H c->G u U c (.int b)):G (dG (va K neg) t<|DM<|aN (tC<|.int a)<|aN u aW) U H (.bl (if neg then !(decide (i=a)||decide (i=b)) else(decide (i=a)||decide (i=b)))):=λQ k=>
 h _ λc d=>f c d _ λl g=>⟨(by show 2<=br;decide),λp j=>⟨p,_,L,.inr<|cO.of ba,L,L,by
  have e:lM (V.int i) [V.int a,V.int b]=(decide (i=a)||decide (i=b)):=by
   unfold lM;simp only[oO,T9,lL,wL];congr 1<;>(rw[fS];apply cY.mpr;omega)
  rw[e];exact k _ (d.trans<|g.trans<|J.new j)⟩⟩
def Qr(cs:Cs):Sp:=λf H Q _=>∃d e a s c n,f=[.ref d,.ref e,.ref a]/\dX cs H d s.genera/\dR cs H e s.epithets/\oE cs H a c/\kX s c= .inr n/\∀b q,J H b->cy cs b q n->Q (.ref q) b
def abl:T.bb T.Mu 3 (Qr cs):=T.Mu.aU<|cW ["genera","epithets","citation","name","genus"] λH cC cE nd hL hr b3=>by
 obtain⟨pg,pe,cL,s,c,c0,rfl,hg,he,hc,hn,b4⟩:=b3;refine⟨_,(aD (cw 3 nd<|oj (vG T) T.EV hr)<|aD (cw 4 nd<|bT b8 (pv 0)<|aJ<|pv 2)<|aD (bP (pv 3) (aJ<|pv 4) L)<|aD (bw (bK pb (aJ<|pv 2)<|cD T.sW) (aC<|bP (pv 3) (aJ<|bT b8 (pv 0)<|aJ<|pv 2) L) bB)<|aD (bP (pv 3) (bT b8 (aJ<|bT b8 (pv 1)<|aJ<|pv 2)<|aJ<|pv 4) L)<|aD (bw (bK pb (aJ<|pv 2)<|cD T.sW) (aC<|bP (pv 3) (bT b8 (aJ<|bT b8 (pv 1)<|aJ<|pv 2)<|aJ<|pv 4) L) bB)<|aD (bw (xn z5 (aJ<|pv 2) (zX<|aP (cD T.sW)<|aj<|aJ<|pv 2)<|by with_unfolding_all rfl) (aC<|bP (pv 3) aI L) bB)<|aD (bP (pv 3) (aJ<|pv 2) L)<|aD (bP (pv 3) (aJ<|pv 2) L)<|aD (bP (pv 3) (aJ<|pv 2) L)<|aC<|aK<|pv 3),?_⟩;obtain⟨x,e,hx,A,aE,B,cm,cp,rfl⟩:=F6 hn;obtain⟨dx,pa,g,o2⟩:=hc;obtain⟨ag,dg,pt,D,g2,gg,a0⟩:=BC (K:=K) hg hx;obtain⟨b1,f1,ct,aq⟩:=Qq (K:=K) T he aE gg.gd;refine FF λH1 p u E i a3 a4=>?_;have t:∀{ah:af}{b5:HO},H ah=O b5->ah≠u:=λe=>bA e a3;refine G.eB (a0 E W<|λH2 v=>Fe T W<|v _ _ (E _ _ g)) λH2 v=>?_;have I:=E.trans v;refine FD T (a4.same v) (A5 T W<|I _ _ D) (I _ _ g2) (t g2) aR λH3 k3 Q=>?_;have M:J H H3:=k3.same I i;refine F4 (λd=>J H d/\bM cs d p u {head:=x.text,sub:=((cJ s.genera c.sub).map λy=>y.text).getD []}) (bI<|tD (A8 T W<|M _ _ g) bq) (λd b a D' j=>?_) (λd b a=>⟨M.trans b,?_⟩) ?_
 ·rw[dZ,hU] at a;have z:(cJ s.genera c.sub).isSome=Y:=by
   unfold r9 at A;rw[jH,fB] at A;exact A.resolve_left a
  obtain⟨y,n⟩:=zf.mp z;rw[n] at j;obtain⟨ay,dy,py,y1,y2,yg,a5⟩:=BC (K:=K) hg n;have h:=M.trans b;refine Ph T (Q.same b) (A5 T (a5 h W<|λl s5=>A8 T W<|s5 _ _ (h _ _ g))<|h _ _ y1) (h _ _ y2) (t y2) aR λl o k=>j l ⟨o.same h i,k⟩
 ·rw[eG,bO] at a;have:cJ s.genera c.sub=ai:=by rw[a];rfl
  rw[this];exact Q.same b
 rintro l ⟨q,k⟩;refine FE T k (aq q W (λr m=>OC T W<|m _ _ (q _ _ g))<|λr m=>yh T W<|m _ _ (q _ _ D)) (q _ _ f1) (t f1) aR λr k6 aa=>?_;have N:J H r:=k6.same q i;refine F4 (λd=>J H d/\bM cs d p u {head:=x.text,sub:=((cJ s.genera c.sub).map λy=>y.text).getD [],e1:=bY e x.gender,e2:=((cJ s.epithets c.e2).map λf=>bY f x.gender).getD []}) (bI<|tD (A9 T W<|N _ _ g) bq) (λd b a D' j=>?_) (λd b a=>⟨N.trans b,?_⟩) ?_
 ·rw[dZ,hU] at a;have z:(cJ s.epithets c.e2).isSome=Y:=by
   unfold r9 at B;rw[jH,fB] at B;exact B.resolve_left a
  obtain⟨y,n⟩:=zf.mp z;rw[n] at j;obtain⟨b2,f2,cv,ar⟩:=Qq (K:=K) T he n gg.gd;have h:=N.trans b;refine Pk T (aa.same b) (ar h W (λr m=>A9 T W<|m _ _ (h _ _ g))<|λr m=>yh T W<|m _ _ (h _ _ D)) (h _ _ f2) (t f2) aR λl o k=>j l ⟨o.same h i,k⟩
 ·rw[eG,bO] at a;have:cJ s.epithets c.e2=ai:=by rw[a];rfl
  rw[this];exact aa.same b
 rintro H7 ⟨w,ab⟩;refine F4 (λd=>J H d/\bM cs d p u {head:=x.text,sub:=((cJ s.genera c.sub).map λy=>y.text).getD [],e1:=bY e x.gender,e2:=((cJ s.epithets c.e2).map λf=>bY f x.gender).getD [],paren:=if c.first=-1∨c.first=c.g then 0 else 1}) (bI<|abk (neg:=Y) (Ba T W<|w _ _ g) λH8 s8=>Fe T W<|s8 _ _ (w _ _ g)) (λd b a D' j=>?_) (λd b a=>⟨w.trans b,?_⟩) ?_
 ·have a:(!(decide (c.first=-1)||decide (c.first=c.g)))=Y:=a;rw[dZ,HS,hU,hU] at a;rw[ak (by intro cc;exact cc.elim a.1 a.2)] at j;exact FC T (ab.same b) aQ aR λl o k=>j l ⟨o.same (w.trans b) i,k⟩
 ·have a:(!(decide (c.first=-1)||decide (c.first=c.g)))=ax:=a;rw[eG,jH,bO,bO] at a;rw[aA a];exact ab.same b
 rintro H8 ⟨m8,a6⟩;refine Pe T a6 (Fg T W<|m8 _ _ g) aR λH9 k9 a7=>?_;have m9:J H H9:=k9.same m8 i;refine Pg T a7 (Ff T W<|m9 _ _ g) aR λa8 a9 av=>?_;have C:J H a8:=a9.same m9 i;refine abf T av.a (Fh T W<|C _ _ g) (o2.same C) aR λbk bl az=>?_;have bx:J H bk:=bl.same C i;exact G.ret W λb0 ae=>b4 b0 p (bx.trans ae)<|az.same ae
def Qs(h:nX as etal b=Y):dF as<=400/\0<=b/\b<=9999:=by
 obtain⟨⟨_,i,e⟩,_,_,j,k⟩:=(vB as etal b).mp h;refine⟨?_,aG,aG⟩;have d:∀a:List S,a.all Vbnlab.authorText=Y->(a.map fZ).sum<=40*a.length:=by
  intro a;induction a with
  |nil=>intro _;exact bG _
  |cons l r f=>
   intro c;rw[rP,bL] at c;have g:l.length<=40:=by
    have:=c.1;rw[Ax,bL,bO] at this;exact this.2
   have:=f c.2;rw[cM,mD,bV];omega
 have:=d as e;unfold dF;omega
def Qt(j:∀g∈s.genera,GoodG g)(k:∀e∈s.epithets,jb e=Y)(h:kX s c= .inr n):fO n:=by
 obtain⟨x,e,o,q,l,r,t,a,rfl⟩:=F6 h;have d:=j x<|ei (lZ o).1;have p:=k e<|ei (lZ l).1;have u:=qY d.tx;have v:=pV<|lV p (g:=x.gender) (by have:=d.gd;omega);rw[La] at a;refine⟨(by show(0:Int)<=0/\(0:Int)<=6;decide),(by show(0:Int)<=0/\(0:Int)<=6;decide),(by show(-1:Int)<=9999;decide),λm=>?_,by show x.text.length<=5000;omega,?_,by show(bY e x.gender).length<=5000;omega,?_,?_⟩
 ·by_cases b:c.first=-1
  ·rw[aA b] at a;unfold pH at a;simp only[bL,bO] at a;exact absurd (mC.mp a.1) m
  ·rw[ak b] at a;exact(Qs a).2
 ·show(((cJ s.genera c.sub).map λy=>y.text).getD []).length<=5000;cases i:cJ s.genera c.sub with
  |none=>simp
  |some y=>have:=qY (j y<|ei (lZ i).1).tx;show y.text.length<=5000;omega
 ·show(((cJ s.epithets c.e2).map λf=>bY f x.gender).getD []).length<=5000;cases i:cJ s.epithets c.e2 with
  |none=>simp
  |some y=>have:=pV<|lV (k y<|ei (lZ i).1) (g:=x.gender) (by have:=d.gd;omega);show(bY y x.gender).length<=5000;omega
 ·by_cases b:c.first=-1
  ·rw[aA b] at a;unfold pH at a;simp only[bL,bO] at a;show dF c.authors<=_;rw[mC.mp a.1];decide
  ·rw[ak b] at a;have:=(Qs a).1;show dF c.authors<=_;omega
def abm(h:kX s c= .inl z):z<0:=by
 unfold kX Df at h;repeat' split at h
 all_goals first|(cases h;decide)|cases h
def abn(r:G s U H (.ref j))(t:∀d,J H d->G v U d (.ref g))(w:sZ H j c.row)(y:cU H g c.authors)
  (k:∀d a,J H d->oE cs d a c->u D (U.set i<|O<|.ref a) d):cF (nT (iZ cs.jm (Qn cs) [] E<|aN s<|aN v aW)<|fV i) u D U H:=
 r _ λd l=>t d l _ λn z x f h q gc=>by
  have m:=l.trans z;have st:J n (upd (upd n f<|.own x) x<|.ins cs.jm f []):=λb o e=>by rw[aX (bA e h),aX<|bA e q];exact e
  exact⟨x,f,j,g,c,L,ba,st _ _ (m _ _ w),λA p B=>⟨L,k A x (m.trans<|p.same st h) ⟨f,g,B,y.same<|m.trans<|p.same st h⟩⟩⟩
def abo(cs:Cs):Sp:=λf H Q _=>∃a b d e s c,f=[.ref a,.ref b,.ref d,.ref e]/\dX cs H a s.genera/\dR cs H b s.epithets/\sZ H d (Ct.row c)/\cU H e c.authors/\eS H Q (zs (match kX s c with
 |.inl z=>[z]
 |.inr n=>0::fm (hZ n)))
def abp:T.bb T.Mw 8 (abo cs):=T.Mw.aU<|cW ["genera","epithets","numbers","authors","citation","refusal"] λag Q ah r hL d aa=>by
 obtain⟨t,u,A,B,s,c,rfl,i,j,C,D,k⟩:=aa;refine⟨_,(aD (cw 4 r<|yb (AK T) T.Ye d<|aP (pv 2)<|aj<|pv 3)<|aD (cw 5 r<|aO (abi T) d<|aP (pv 0)<|aP (pv 1)<|aj<|pv 4)<|aD (bw (bK f9 (pv 5) aI) (aC<|aK<|bQ<|aj<|pv 5) bB)<|aC<|aK<|cP fW (bQ<|aj aI)<|aO (Bk T) d<|aj<|aO (abl T) d<|aP (pv 0)<|aP (pv 1)<|aj<|pv 4),?_⟩;refine abn (cs:=cs) (c:=c) W aR C D λH1 a l v=>?_;refine G.eB (abj W aR aR (i.same l) (j.same l) v) λH2 w=>?_;have E:=l.trans w;refine bg.bU (bI<|cj W bq) λH3 x=>?_;have e:=E.trans x;unfold refOf;cases b:kX s c with
 |inl aq=>
  rw[b] at k;have H:=abm b;refine bh (λ_=>?_)<|λm=>absurd m (by simp;exact H);exact gi W e k
 |inr n=>
  rw[b] at k;refine bh (λm=>absurd m aT)<|λ_=>?_;have p:=Qt i.good j.good b;have ae:=Br p;refine aL.ret (fX (ys:=tx<|hZ n) (aL.x<|eW aQ) (λf g=>?_) ?_) λf q g I M=>k f q (e.trans g) (e.free I) ?_
  ·have y:=e.trans g;have N:∀Q:VK,(∀h q,J f h->cy cs h q n->Q (.ref q) h)->cA (Qr cs) [] E0 (aN (dQ 0)<|aN (dQ 1)<|aN (dQ 4) aW) [O (.ref t),O<|.ref u,O<|.ref A,O<|.ref B,O<|.ref a,O<|.int 0] f Q:=λQ o=>
    ⟨_,L,_,L,_,L,t,u,a,s,c,n,L,i.same y,j.same y,v.same<|(w.trans x).trans g,b,o⟩
   refine aL.x λQ o=>N _ λh ab z hb=>?_;exact⟨ab,n,L,hb,p,λH6 q s6 n6 h6=>o H6 q (z.trans s6) (z.free n6) h6⟩
  ·rw[bX,b9];show 1+_<=_;omega
  ·rw[M];show _=O (HO.lst<|V.int 0::zs (fm _));rw[qT];rfl
def abq:jY "ValueError"=O (.type "ValueError"):=by decide+kernel
section
variable{X:Cx}{p pos pos' apos cpos np:cK}{e o value:bF}{es:List bF}{ta tv:TE}{t:TA}
def Qu(T:Txt K mg cs):XN K cs.xN "ValueError" "place":=⟨T.Ym,by first|rfl|decide+kernel⟩
def abr(T:Txt X.K X.mg cs)(a:PE X o ta)(b:PE X value tv)(hs:nA value (O<|.Attribute o "place" pos') pos.line X.env=pure ax:=by rfl):PS X (.Assign [.Attribute o "place" pos'] value pos) (JY cs.jR ta tv "place"):=
 WJ PySem.F.store_ValueError T.x6 T.Yj (Qu T) a b hs
def F7(T:Txt X.K X.mg cs)(a:PE X e ta)(b:rN e "place" X.env (eval e X.env)=eval e X.env:=by rfl):PE X (.Attribute e "place" pos) (Eh cs.jR ta "place"):=
 WK PySem.F.attrBase_ValueError T.x6 T.Yk T.Yl (Qu T) a b
def abt(T:Txt X.K X.mg cs)(c:PA X (e::es) t)(d:Gl X "ValueError":=by rfl)(g:bS (e::es) X.env=(ax,eval e X.env)::bS es X.env:=by rfl)(b:(eP pos<|bS es X.env).any (·.1)=ax:=by rfl)
  (h:eval (.Call (.Attribute (.Name "ValueError" p) "__init__" apos) (e::es) [] pos) X.env=(do
   let a<-eval (.Name "ValueError" p) X.env
   uv apos.atName
   let(f,first)<-uw [a] (rK a "__init__" pl)
   uz pos f first (eP pos<|bS (e::es) X.env) (qg pos<|qi [] X.env)):=by rfl):PE X (.Call (.Attribute (.Name "ValueError" p) "__init__" apos) (e::es) [] pos) (JZ cs.jR t):=
 WL (pl:=pl) Um T.x6 d T.Yb abq aZ bf T.Yn bf c aB aB g b h
end
def F8(cs:Cs):Sp:=λb H Q _=>∃a q,b=[.ref a,.int q]/\H a=O (.ext<|lQ a cs.jR ai)/\∀d,H d=ai->d≠a->Q .bp (upd (upd H a<|.ext<|lQ a cs.jR<|O d) d<|.xd [("place",.int q)])
def abu:mL ["self","place"] ["self","place"] (cR<|inClass (top 108) 0):=⟨L,L,L,bf,L,bf,bf⟩
def abv:∃c,dH P ww K mg base (cX P ww) 1 cs.xI c ["self","place"] (F8 cs)/\Binds K c ["self","place"] []:=by
 obtain⟨c,F,b⟩:=T.Yi;refine⟨c,?_,b⟩;refine okN F abu (λe H Q E h=>by obtain⟨a,q,rfl,_⟩:=h;rfl) λg A f s H e Q E i j l h=>?_;obtain⟨a,q,rfl,d,k⟩:=h;refine⟨_,(aD (bW<|abt T<|aP (pv 0)<|aP (pv 1) gv)<|aC<|abr T (pv 0)<|pv 1),?_⟩;exact⟨_,L,_,L,a,[.int q],L,by show 1<=br;decide,d,_,L,_,L,a,L,d,k⟩
def oF(T:Txt X.K X.mg cs)(d:Lv X E)(f:X.calm=Y)(g:cZ 2 X.A)(h:PA X (e::es) t)(i:Gl X "NotRight":=by rfl)
  (j:bS (e::es) X.env=(ax,eval e X.env)::bS es X.env:=by rfl)(c:(eP a<|bS es X.env).any (·.1)=ax:=by rfl):
  PS X (.Raise (O<|.Call (.Name "NotRight" l) (e::es) [] a) ai k) (Eg cs.jR (F8 cs) E t):=by
 obtain⟨m,F,b⟩:=abv (P:=X.prog) (ww:=X.w) (base:=X.base) T;exact Wz Um T.x6 d f F g b i T.N1 h aB j c
def oG(h:G t U H (.int q))(k:∀H' d,J H H'->H' d=O (.xd [("place",.int q)])->E (.ref cs.jR) (O d) H'):Eg cs.jR (F8 cs) E (aN t aW) D U H:=
 h _ λl m=>⟨by show 1<=br;decide,λa n=>⟨a,q,L,ba,λd i c=>⟨L,O d,by rw[aX (qf c),ba],by
  have j:l d=ai:=by rw[aX c] at i;exact i
  refine k _ d (λb o e=>?_) (by rw[hide_ne c,ba]);have f:=m _ _ e;have g:b≠a:=bA f n;rw[hide_ne g,aX<|bA f j,aX g,aX g];exact f⟩⟩⟩
def F9(T:Txt X.K X.mg cs)
  (c:kM X.prog X.w X.K X.mg X.base k d ps sp)(w:X.N.Nodup)(x:X.N[i]?=O y)(h:Loc X.env.scope y)(z:X.N[j]?=O n)(l:X.env.scope.names.lookup n=O .local)(A:cZ k X.A)(B:PA X.o7 (e::es) t)(m:∀a,gF (X.within<|.ref a) (C::g) D)
  (o:X.stack=X.env::X.outer:=by rfl)(p:X.env.frame=O X.env.locals:=by rfl)(q:Gl X d:=by rfl)(r:Gl X "NotRight":=by rfl)
  (s:X.fn y=Y∨X.env.scope.names.lookup y=O .local :=by first|exact .inl rfl|exact .inr rfl)(u:(d==("__debug__":ao))=ax:=by decide)
  (hs:nA (.Call (.Name d E) (e::es) [] f) (O<|.Name y H) I.line X.env=pure ax:=by rfl)
  (M:bS (e::es) X.env=(ax,eval e X.env)::bS es X.env:=by rfl)(v:(eP f<|bS es X.env).any (·.1)=ax:=by rfl):
  PS X (.Try [.Assign [.Name y H] (.Call (.Name d E) (e::es) [] f) I] [.ExceptHandler (O<|.Name "NotRight" np) (O n) (C::g) hp] [] [] aa) (J1 X.N.length sp cs.jR i j t D):=by
 obtain⟨ab,fd,F,N,Q,b⟩:=c.ex;exact WN Um T.x6 w x h z l o p F A q N Q b r T.N1 B m s aB u hs M v
def yB{e g:TE}{U:L2.St}{H:Hp}{D:Ends}{f:ao}{a C dx:af}{fs:List (ao×V)}{i j:Int}(h:G e U H (.ref a))(l:H a=O (.ins C dx fs))(cl:fg K C)(n:gb K C f)(o:fs.lookup f=O (.int i))(p:fs.length<1000)
  (q:∀b,J H b->G g U b (.int j))(k:∀c,Kt a H c->c a=O (.ins C dx<|d4 f (.int<|i+j) fs)->D.nx U c):Jd K e g Jf f D U H:=
 h _ λb d=>⟨a,C,dx,fs,_,L,d _ _ l,cl,n,o,q b d _ λc m=>⟨i,j,L,L,dx,fs,m _ _ (d _ _ l),p,k _ (Kt.put<|bE<|d.trans m) ba⟩⟩
def cg(cs:Cs)(H:Hp)(a pt:af)(w:S)(p:Nat):Prop:=∃b,H a=O (.ins cs.gf b<|lU (.ref pt)<|.int (p:Nat))/\aY H pt w/\p<=w.length
def cg.same(h:cg cs H a pt w p)(s:J H H'):cg cs H' a pt w p:=let⟨b,c,d,e⟩:=h;⟨b,s _ _ c,s _ _ d,e⟩
def Qv(cs:Cs):Sp:=λe H Q _=>∃a c d,e=[.ref a,.ref d]/\H a=O (.ins cs.gf c [])/\∀b,Kt a H b->b a=O (.ins cs.gf c<|lU (.ref d)<|.int 0)->Q .bp b
def AL:T.oo T.AL 1 (Qv cs):=T.AL.aU<|bN λH Q E i j l h=>by
 obtain⟨a,m,n,rfl,b,k⟩:=h;refine⟨_,(aD (bP (pv 0) (pv 1) L)<|aC<|bP (pv 0) aI L),?_⟩;refine gy T.cV (T.xY _ bf) aB b W aR λo c d=>?_;exact pS T.cV (T.xY _ bf) (by show 1<1000;decide) d aQ aR λe f g=>k e (c.trans f) g
def Qw(cs:Cs)(f:S->Bool):Sp:=λc H Q _=>∃a d t p,c=[.ref a]/\cg cs H a d t p/\∀b,J H b->Q (.bl<|f<|t.drop p) b
def drop_nil(t:S)(p:Nat):decide (t.drop p=[])=decide (t.length<=p):=by apply cY.mpr;rw[List.drop_eq_nil_iff]
def BD:T.kh T.Mx 1 (Qw cs λr=>decide (r=[])):=T.Mx.aU<|bN λH Q E f g i h=>by
 obtain⟨a,j,t,p,rfl,⟨l,c,e,m⟩,k⟩:=h;refine⟨_,(aC<|aK<|gw mK (aJ<|pv 0)<|b6 cB aZ T.cn cq<|aj<|aJ<|pv 0),?_⟩;refine G.ret (cj (tI T W c) λd b=>fu (yj T W<|b _ _ c)<|b _ _ e) λd b=>cI (k d b) ?_;show decide (t.drop p=[])=_;rw[drop_nil];apply cY.mpr;omega
def Qx(cs:Cs):Sp:=λc H Q _=>∃a e t p,∃d:Nat,c=[.ref a,.int (d:Nat)]/\cg cs H a e t p/\∀b,J H b->Q (.int<|gK<|t.drop<|p+d) b
def BE:T.kh T.Mz 1 (Qx cs):=T.Mz.aU<|bN λH Q E n o q h=>by
 obtain⟨a,r,t,p,d,rfl,⟨s,f,j,u⟩,k⟩:=h;refine⟨_,(aD (bw (bK mK (cP zQ (aJ<|pv 0)<|pv 1)<|b6 cB aZ T.cn cq<|aj<|aJ<|pv 0) (aC<|aK<|cD T.X0) bB)<|aC<|aK<|bT b8 (aJ<|pv 0)<|cP zQ (aJ<|pv 0)<|pv 1),?_⟩;refine bg.bU (bI<|cj (cj (tI T W f) aR) λl b=>fu (yj T W<|b _ _ f)<|b _ _ j) λl b=>bh (λc=>?_)<|λc=>?_
 ·have c:=df c;refine G.ret aQ λg e=>?_;have:=k g<|b.trans e;rw[uO aG] at this;exact this
 ·have c:=d8 c;have i:p+d<t.length:=by omega
  have m:t.drop (p+d)=t[p+d]::t.drop (p+d+1):=zr i;refine G.ret (e8 (v:=.int ((t[p+d]:Nat):Int)) (i:=((p+d:Nat):Int)) (yj T W<|b _ _ f) (λg e=>G.cv (cj (tI T W<|e _ _ (b _ _ f)) aR)<|by rw[Int.natCast_add]) (aM.of<|b _ _ j)<|fJ<|J2<|gq i) λg e=>?_;have:=k g<|b.trans e;rw[m] at this;exact this
def BF(h:G t U H (.ref a))(f:∀b,J H b->G g U b (.int (d:Nat)))(hs:cg cs H a pt x p):G (gX cs.gf "further" (Qx cs) [] E t<|aN g aW) U H (.int<|gK<|x.drop<|p+d):=λQ k=>
 h _ λb c=>let⟨i,j,n,o⟩:=hs;⟨a,i,_,L,c _ _ j,Zh,f b c _ λq e=>⟨a,pt,x,p,d,L,hs.same<|c.trans e,λl m=>k l<|c.trans<|e.trans m⟩⟩
def Qy(cs:Cs)(f:S->Int):Sp:=λc H Q _=>∃a d t p,c=[.ref a]/\cg cs H a d t p/\∀b,J H b->Q (.int<|f<|t.drop p) b
def g9:T.kh T.My 2 (Qy cs gK):=T.My.aU<|bN λH Q E f g b h=>by
 obtain⟨a,i,t,p,rfl,c,k⟩:=h;refine⟨_,(aC<|aK<|jx (BE T) T.cV (pv 0) (b.mono aB) ck<|aj aI),?_⟩;exact G.ret (BF (d:=0) W bq c) λd e=>k d e
def hG(h:G t U H (.ref a))(hs:cg cs H a pt x p):G (gX cs.gf "ahead" (Qy cs gK) [] E t aW) U H (.int<|gK<|x.drop p):=λQ k=>
 h _ λg b=>let⟨c,d,i,j⟩:=hs;⟨a,c,_,L,b _ _ d,Zg,a,pt,x,p,L,hs.same b,λe f=>k e<|b.trans f⟩
def BG(h:G t U H (.ref a))(hs:cg cs H a pt x p):G (gX cs.gf "is_done" (Qw cs λr=>decide (r=[])) [] E t aW) U H (.bl<|decide (x.drop p=[])):=λQ k=>
 h _ λg b=>let⟨c,d,i,j⟩:=hs;⟨a,c,_,L,b _ _ d,Zf,a,pt,x,p,L,hs.same b,λe f=>k e<|b.trans f⟩
def jo(h:G t U H (.ref a))(hs:cg cs H a pt x p):G (cz K t "place") U H (.int (p:Nat)):=let⟨c,b,_,_⟩:=hs;tI T h b
def Ga(cs:Cs):Sp:=λd H Q _=>∃a c t p,d=[.ref a]/\cg cs H a c t p/\p<t.length/\∀b,Kt a H b->cg cs b a c t (p+1)->Q .bp b
def oH:T.kh T.MA 1 (Ga cs):=T.MA.aU<|bN λH Q E i j l h=>by
 obtain⟨a,m,t,p,rfl,⟨e,b,c,n⟩,o,k⟩:=h;refine⟨_,(aC<|xq (pv 0) aI xr),?_⟩;refine yB W b T.cV (T.xY _ bf) aZ (by show 2<1000;decide) bq λf d g=>k f d ⟨e,?_,d _ _ c (dO c b (by intro z;cases z)),aG⟩;rw[g];rfl
def tY(h:G t U H (.ref a))(hs:cg cs H a pt x p)(c:p<x.length)(k:∀H',Kt a H H'->cg cs H' a pt x (p+1)->D.nx U H'):gu (gX cs.gf "advance" (Ga cs) [] E t aW) D U H:=
 h _ λj b=>let⟨d,e,l,m⟩:=hs;⟨a,d,_,L,b _ _ e,Zi,a,pt,x,p,L,hs.same b,c,λf g i=>k f (eX b g) i⟩
def BH(h:G t U H (.ref a))(hs:cg cs H a pt x p)(b:p<x.length)(k:∀H',Kt a H H'->cg cs H' a pt x (p+1)->u D U H'):cF (gu<|gX cs.gf "advance" (Ga cs) [] E t aW) u D U H:=tY h hs b k
def Qz(cs:Cs):Sp:=λc H Q _=>∃a d t p,∃b:Nat,c=[.ref a,.int (b:Nat)]/\cg cs H a d t p/\eS H Q (tx<|(t.drop b).take<|p-b)
def QA:T.kh T.MB 1 (Qz cs):=T.MB.aU<|bN λH Q E f g i h=>by
 obtain⟨a,j,t,p,b,rfl,⟨l,c,d,m⟩,k⟩:=h;refine⟨_,(aC<|aK<|kI kJ (aJ<|pv 0) (jg<|pv 1)<|jg<|aJ<|pv 0),?_⟩;refine aL.ret (aL.cv (Fb (G.x (yj T W c) d) aR<|λn e=>tI T W<|e _ _ c) ?_) k;rw[EW aG aG,ku,ku,x9,vJ]
def QB(h:G t U H (.ref a))(f:∀d,J H d->G u U d (.int (b:Nat)))(hs:cg cs H a pt x p):aL (gX cs.gf "since" (Qz cs) [] E t<|aN u aW) U H (tx<|(x.drop b).take<|p-b):=λQ k=>
 h _ λd c=>let⟨g,i,o,r⟩:=hs;⟨a,g,_,L,c _ _ i,Zj,f d c _ λs e=>⟨a,pt,x,p,b,L,hs.same<|c.trans e,λj q l m n=>k j q (c.trans<|e.trans l) ((c.trans e).free m) n⟩⟩
def QC(cs:Cs):Sp:=λc H Q _=>∃a d t p x,c=[.ref a,.str x]/\cg cs H a d t p/\(tl x).length<=1000/\∀b,J H b->Q (.bl<|(tl x).isPrefixOf<|t.drop p) b
def yC:T.kh T.MC 2 (QC cs):=T.MC.aU<|cW ["self","signs","wanted"] λH Q E j o f h=>by
 obtain⟨a,r,t,p,x,rfl,⟨s,e,l,u⟩,m,k⟩:=h;refine⟨_,(aD (cw 2 j<|aO (jA T) f<|aj<|pv 1)<|aC<|aK<|gw (qy<|oh f) (kI kJ (aJ<|pv 0) (jg<|aJ<|pv 0)<|jg<|cP zQ (aJ<|pv 0)<|b6 cB aZ T.cn cq<|aj<|pv 2)<|pv 2),?_⟩;refine aL.eB (jT (λQ k=>fM L Q λg c=>k g x c L) m) λg q c v i=>?_;refine G.ret (tT (l:=(t.drop p).take (tl x).length) (m:=tl x) (aL.x<|aL.cv (Fb (G.x (yj T W<|c _ _ e)<|c _ _ l) (λd b=>tI T W<|b _ _ (c _ _ e))<|λd b=>cj (tI T W<|b _ _ (c _ _ e)) λw n=>fu W<|n _ _ (b _ _ i)) ?_)<|λd b=>G.x W<|b _ _ i) λd b=>cI (k d<|c.trans b) ?_
 ·rw[EW aG aG,ku,x9,vJ];congr 2;omega
 ·rw[j0,TY,agp,bO];exact⟨λh=>h.symm,λh=>h.symm⟩
def yD(h:G t U H (.ref a))(f:∀b,J H b->mU u U b l)(g:l.length<=1000)(hs:cg cs H a pt x p):G (gX cs.gf "begins" (QC cs) [] E t<|aN u aW) U H (.bl<|l.isPrefixOf<|x.drop p):=λQ k=>
 h _ λb c=>let⟨i,j,o,q⟩:=hs;⟨a,i,_,L,c _ _ j,Zk,f b c _ λr z d e=>⟨a,pt,x,p,z,L,hs.same<|c.trans d,by rw[e];exact g,λm n=>by rw[e];exact k m<|c.trans<|d.trans n⟩⟩
def Rz(cs:Cs)(E:XK)(KK:Hp->Prop)(q:Nat):Prop:=∀a d,KK a->a d=O (.xd [("place",.int (q:Nat))])->E (.ref cs.jR) (O d) a
def Rz.mono{KK a:Hp->Prop}{q:Nat}(h:Rz cs E KK q)(k:∀H',a H'->KK H'):Rz cs E a q:=λH' d kk e=>h H' d (k H' kk) e
def abw(cs:Cs)(H:Hp)(a pt:af)(w:S)(Q:Hp->Prop)(E:XK):Nat⊕(Nat×S)->Prop
 |.inl q=>Rz cs E (Kt a H) q
 |.inr (p,r)=>r=w.drop p->∀b,Kt a H b->cg cs b a pt w p->Q b
def BI(cs:Cs)(H:Hp)(a pt:af)(w:S)(Q:VK)(E:XK):Nm.Rs S->Prop
 |.inl q=>Rz cs E (Kt a H) q
 |.inr (x,p,r)=>r=w.drop p->∀b q,Kt a H b->H q=ai->aY b q x->cg cs b a pt w p->Q (.ref q) b
def Gb(cs:Cs)(H:Hp)(a pt:af)(w:S)(Q:VK)(E:XK):Nm.Rs Int->Prop
 |.inl q=>Rz cs E (Kt a H) q
 |.inr (x,p,r)=>r=w.drop p->∀b,Kt a H b->cg cs b a pt w p->Q (.int x) b
def BJ(a:af)(H:Hp):Nat:=match H a with
 |some (.ins _ _ b)=>match b.lookup ("place":ao) with
  |some (.int i)=>i.toNat
  |_=>0
 |_=>0
def cg.pl(h:cg cs H a pt w p):BJ a H=p:=by
 obtain⟨c,b,_,_⟩:=h;unfold BJ;rw[b];show(match(lU (.ref pt)<|.int (p:Nat)).lookup ("place":ao) with|some (.int i)=>i.toNat|_=>0)=p;rw[show(lU (.ref pt)<|.int (p:Nat)).lookup ("place":ao)=O (.int (p:Nat)) from L];exact ku p
def cg.le(h:cg cs H a pt w p):p<=w.length:=let⟨_,_,_,h⟩:=h;h
def cg.ne(h:cg cs H a pt w p)(n:H q=ai):q≠a:=λz=>by subst z;obtain⟨b,o,_⟩:=h;rw[o] at n;cases n
def cg.sv(h:cg cs H a pt w p)(n:H q=O (.lst vs)):q≠a:=λz=>by subst z;obtain⟨b,o,_⟩:=h;rw[o] at n;cases n
def BK(Pv:Nat->Hp->Prop)(o:Pv p0 H)(h:∀p H,Pv p H->cg cs H a pt w p)
  (hs:∀p H,Pv p H->∃b,bg c U H b/\∀d,J H d->(b=Y->∀l:Ends,(∀g f,p<f->Pv f g->l.nx U g)->q l U d)/\(b=ax->u D U d)):cF (u4 c q) u D U H:=by
 refine vM (λσ' j=>σ'=U/\∃p,Pv p j) (λ_ j=>w.length-BJ a j) ⟨L,p0,o⟩ ?_;rintro σ' d ⟨rfl,p,pv⟩;obtain⟨b,r,k⟩:=hs p d pv;refine⟨b,r,λg m=>bh (λe=>(k g m).1 e _ λn f v i=>⟨⟨L,f,i⟩,?_⟩)<|λe=>(k g m).2 e⟩;have s:=(h p d pv).pl;have t:=(h f n i).pl;have x:=(h f n i).le;rw[s,t];omega
def drop_cons{t:S}{p b:Nat}{r:S}(h:t.drop p=b::r):p<t.length/\t[p]?=O b/\r=t.drop (p+1):=by
 have a:p<t.length:=by
  have:=fG fZ h;rw[rO,bV] at this;omega
 have e:=zr a;rw[h,wZ] at e;exact⟨a,by rw[gq a,<-e.1],e.2⟩
def oJ(h:bc f r=Y):∃b s,r=b::s/\f b=Y:=by
 cases r with
 |nil=>cases h
 |cons b s=>exact⟨b,s,L,h⟩
def Ge(cs:Cs):Sp:=λc H Q E=>∃a b t p x,c=[.ref a,.str x]/\cg cs H a b t p/\(tl x).length<=1000/\abw cs H a b t (Q .bp) E (Nm.pass (tl x) p<|t.drop p)
def kY:T.bb T.MD 3 (Ge cs):=T.MD.aU<|om ["scanner","signs","byte"] λaa Q ar B hL d h o=>by
 obtain⟨a,C,t,p,x,rfl,q,D,k⟩:=h;refine⟨_,(aC<|iH o.own L (iG<|aO (jA T) d<|aj<|pv 1) (d7 2 B)<|aD (bw (bK pb (dE (g9 T) T.cV (pv 0) (d.mono aB) ck)<|pv 2) (aC<|oF T o L (d.mono aB)<|aj<|aJ<|pv 0) bB)<|aC<|bW<|dE (oH T) T.cV (pv 0) (d.mono aB) ck),?_⟩;refine Oq (K:=K) (jT (E:=E0) (l:=tl x) (λQ k=>fM L Q λr m=>k r x m L) D) λr ab m E H=>⟨λi U g=>(∃v,U=[O (.ref a),O<|.str x,v])/\Kt a aa g/\g ab=O (.lst<|tx<|tl x)/\cg cs g a C t (p+i)/\Nm.pass (tl x) p (t.drop p)=Nm.pass ((tl x).drop i) (p+i) (t.drop<|p+i),⟨⟨ai,L⟩,bE m,H,q.same m,L⟩,λi U g _ h=>h.2.2.1,?_,?_⟩
 ·rintro i v U g I ⟨⟨M,rfl⟩,n,s,j,e⟩;obtain⟨b,N,rfl⟩:=J3 I;rw[E6 N] at e;refine bg.bU (bI<|tD (hG W j) aR) λH2 l=>bh (λf=>?_)<|λf=>?_
  ·rw[dZ,hU] at f;have ae:Nm.pass (tl x) p (t.drop p)= .inl (p+i):=by
    rw[e];cases d:t.drop (p+i) with
    |nil=>rfl
    |cons c ag=>
     rw[d] at f;show(if c=b then _ else _)=_;rw[ak (λah=>f (by rw[ah];rfl))]
   rw[ae] at k;exact oG (jo T W<|j.same l) λu aq s3 h3=>k u aq (n.trans<|bE<|l.trans s3) h3
  ·rw[eG,bO] at f;cases d:t.drop (p+i) with
   |nil=>rw[d] at f;exact absurd f (by show¬((-1:Int)=(b:Int));omega)
   |cons c ag=>
    rw[d] at f e;have y:c=b:=by have:(c:Int)=b:=f;omega
    obtain⟨hl,_,z⟩:=drop_cons d;refine tY W (j.same l) hl λu w A=>⟨⟨_,L⟩,n.trans<|(bE l).trans w,w _ _ (l _ _ s) (q.ne<|E),A,?_⟩;rw[e];show(if c=b then _ else _)=_;rw[aA y,z,Nat.add_assoc]
 ·rintro U g ⟨⟨M,rfl⟩,n,s,j,e⟩;rw[bX] at j e;rw[uO (bG _)] at e;have e:Nm.pass (tl x) p (t.drop p)= .inr (p+(tl x).length,t.drop<|p+(tl x).length):=e;rw[e] at k;exact k L g n j
def abx(cs:Cs):Sp:=λd H Q E=>∃a c t p,d=[.ref a]/\cg cs H a c t p/\(bc b7 (t.drop p)=Y->∀b,Kt a H b->cg cs b a c t (p+1)->Q .bp b)/\(bc b7 (t.drop p)=ax->Rz cs E (Kt a H) p)
def Gf:T.bb T.ME 3 (abx cs):=T.ME.aU<|pJ λH Q E u v f h k=>by
 obtain⟨a,w,t,p,rfl,i,l,j⟩:=h;refine⟨_,(aD (bw (eJ<|cN<|aO (tw T) f<|aj<|dE (g9 T) T.cV (pv 0) (f.mono aB) ck) (aC<|oF T k L (f.mono aB)<|aj<|aJ<|pv 0) bB)<|aC<|bW<|dE (oH T) T.cV (pv 0) (f.mono aB) ck),?_⟩;refine bg.bU (eM<|cS<|g8<|hG W i) λx g=>?_;rw[ED];refine bh (λc=>?_)<|λc=>?_
 ·rw[dZ] at c;exact oG (jo T W<|i.same g) λm d n o=>j c m d (bE<|g.trans n) o
 ·rw[eG] at c;obtain⟨b,r,e,_⟩:=oJ c;exact tY W (i.same g) (drop_cons e).1 λq j s=>l c q (eX g j) s
def aby(a:f b=Y):Nm.span f (n+1) (b::s)=b::Nm.span f n s:=by
 show(if f b=Y then _ else _)=_;rw[aA a]
def sR(h:(bc f r&&decide (0<n))=ax):Nm.span f n r=[]:=by
 cases n with
 |zero=>rfl
 |succ n=>
  cases r with
  |nil=>rfl
  |cons b s=>
   show(if f b=Y then _ else _)=_;rw[eN (agq n),rW] at h;have h:f b=ax:=h;rw[ak (by rw[h];decide)]
def QD{f:Nat->Bool}{n j:Nat}{r s:S}{c:Nat}(e:Nm.span f n r=r.take j++Nm.span f (n-j) (r.drop j))(h:j<n)(a:r.drop j=c::s)(b:f c=Y):Nm.span f n r=r.take (j+1)++Nm.span f (n-(j+1)) (r.drop<|j+1):=by
 obtain⟨i,d,g⟩:=drop_cons a;rw[e,a,show n-j=(n-(j+1))+1 by omega,aby b,take_succ d,<-g,hX];rfl
def BL(cs:Cs)(f:Nat->S->Nm.Rs S):Sp:=λc H Q E=>∃a b t p,c=[.ref a]/\cg cs H a b t p/\BI cs H a b t Q E (f p<|t.drop p)
def QE:T.bb T.MF 4 (BL cs jv):=T.MF.aU<|om ["scanner","start"] λab aq ar nd hL d h z=>by
 obtain⟨a,o,t,p,rfl,A,k⟩:=h;refine⟨_,(aD (cw 1 nd<|aJ<|pv 0)<|aD (bW<|d6 (Gf T) d z<|aj<|pv 0)<|aD (o9 z.own (PW.pt<|iF (cN<|aO (tu T) d<|aj<|dE (g9 T) T.cV (pv 0) (d.mono aB) ck)<|iE<|bK f9 (cP iY (aJ<|pv 0)<|pv 1)<|cD T.pI)<|aC<|bW<|dE (oH T) T.cV (pv 0) (d.mono aB) ck)<|aC<|aK<|jx (QA T) T.cV (pv 0) (d.mono aB) ck<|aj<|pv 1),?_⟩;refine G.eB (jo T W A) λH1 s=>?_;refine tW ⟨_,L,a,o,t,p,L,A.same s,λg B u I=>?_,λg B ae u h2=>?_⟩;rotate_left
 ·have e:jv p (t.drop p)= .inl p:=by
   cases d:t.drop p with
   |nil=>rfl
   |cons b r=>
    rw[d] at g;have g:b7 b=ax:=g;show(if b7 b=Y then _ else _)=_;rw[ak (by rw[g];decide)]
  rw[e] at k;exact k B ae (eX s u) h2
 obtain⟨b,r,e,hb⟩:=oJ g;obtain⟨ag,_,C⟩:=drop_cons e;have M:=eX s u;have ek:jv p (t.drop p)= .inr (b::Nm.span bD 39 r,p+1+(Nm.span bD 39 r).length,r.drop (Nm.span bD 39 r).length):=by
  rw[e];show(if b7 b=Y then _ else _)=_;rw[aA hb]
 rw[ek] at k;refine BK (cs:=cs) (a:=a) (pt:=o) (w:=t) (p0:=p+1) (λl i=>Kt a ab i/\cg cs i a o t l/\∃j,l=p+1+j/\j<=39/\Nm.span bD 39 r=r.take j++Nm.span bD (39-j) (r.drop j)) ⟨M,I,0,L,aG,L⟩ (λl i h=>h.2.1) ?_;rintro l i ⟨v,f,j,rfl,hj,m⟩;have w:t.drop (p+1+j)=r.drop j:=by rw[C,oT]
 refine⟨_,iq (cS<|g8<|hG W f)<|λH3 c _=>bI<|cj (cj (jo T W<|f.same c) aR) bq,λH3 c=>?_⟩;rw[xO,w,show decide (((p+1+j:Nat):Int)-(p:Int)<40)=decide (0<39-j) by apply cY.mpr;omega];refine⟨λn D' kd=>?_,λn=>?_⟩
 ·rw[bL,bO] at n;obtain⟨au,av,D,N⟩:=oJ n.1;have hl:=(drop_cons<|w.trans D).1;exact tY W (f.same c) hl λx k4 Q=>kd x _ (wG _) ⟨v.trans<|(bE c).trans k4,Q,j+1,aG,aG,QD m aG D N⟩
 ·have e0:=sR n;rw[e0,gp] at m;have ah:j<=r.length:=by
   have:=f.le;rw[C,rO];omega
  have y:(Nm.span bD 39 r).length=j:=by rw[m,gA];omega
  refine aL.ret (aL.cv (QB W aR<|f.same c) (ys:=tx<|b::Nm.span bD 39 r) ?_) λx q E n4 h4=>?_
  ·rw[e,m,show p+1+j-p=j+1 by omega];rfl
  ·have aa:=v.trans<|bE<|c.trans E;refine k ?_ x q aa ?_ h4 ?_
   ·rw[y,w]
   ·have H:i q=ai:=c.free n4;exact v.free H<|f.ne H
   ·rw[y];exact f.same<|c.trans E
def abz(Pv:Nat->L2.St->Hp->Prop)(o:Pv p0 U H)(h:∀p U H,Pv p U H->cg cs H a pt w p)
  (hs:∀p U H,Pv p U H->∃b,bg c U H b/\∀d,J H d->(b=Y->∀l:Ends,(∀σ2 g f,p<f->Pv f σ2 g->l.nx σ2 g)->q l U d)/\(b=ax->u D U d)):cF (u4 c q) u D U H:=by
 refine vM (λσ' j=>∃p,Pv p σ' j) (λ_ j=>w.length-BJ a j) ⟨p0,o⟩ ?_;rintro σ' d ⟨p,pv⟩;obtain⟨b,r,k⟩:=hs p σ' d pv;refine⟨b,r,λg m=>bh (λe=>(k g m).1 e _ λσ2 n f v i=>⟨⟨f,i⟩,?_⟩)<|λe=>(k g m).2 e⟩;have s:=(h p _ d pv).pl;have t:=(h f _ n i).pl;have x:=(h f _ n i).le;rw[s,t];omega
def abA(k:Kt a H c)(n:H q=ai):Kt a H (upd c q o):=λb u e d=>by rw[aX (bA e n)];exact k b u e d
def abB:T.bb T.MG 5 (BL cs pB):=T.MG.aU<|om ["scanner","word"] λH Q E s B i h j=>by
 obtain⟨a,l,t,p,rfl,u,k⟩:=h;refine⟨_,(aD (cw 1 s<|d6 (QE T) i j<|aj<|pv 0)<|aD (bw (bK f9 (b6 cB aZ T.cn cq<|aj<|pv 1)<|cD T.AG) (aC<|oF T j L (i.mono aB)<|aj<|aJ<|pv 0) bB)<|aC<|aK<|pv 1),?_⟩;refine iP ⟨_,L,a,l,t,p,L,u,?_⟩;unfold pB at k;cases m:jv p (t.drop p) with
 |inl q=>rw[m] at k;exact k
 |inr z=>
  obtain⟨x,n,v⟩:=z;rw[m] at k;intro w C q o y r g;have k:BI cs H a l t Q E (if x.length<2 then .inl n else .inr (x,n,v)):=k;refine bg.bU (bI<|cj (fu W r) bq) λD b=>bh (λe=>?_)<|λe=>?_
  ·rw[aA (by have:=df e;omega)] at k;exact oG (jo T W<|g.same b) λf d c A=>k f d (o.trans<|bE<|b.trans c) A
  ·rw[ak (by have:=d8 e;omega)] at k;exact G.ret W λf c=>k w f q (o.trans<|bE<|b.trans c) y (c _ _ (b _ _ r))<|g.same<|b.trans c
def Gg(x:S):S->Bool
 |[]=>ax
 |b::_=>ft x b
def abC(h:G t U H (.int (k:Nat)))(g:∀a,J H a->G u U a (.ref p))(i:aY H p l):G (dG (va K Y) t u) U H (.bl<|!l.contains k):=λQ j=>
 h _ λa c=>g a c _ λm d=>⟨p,tx l,L,.inl<|aM.of<|d _ _ (c _ _ i),L,N4 l,by
  have e:lM (V.int (k:Int)) (tx l)=l.contains k:=by
   have n:tx l=(l.map λ(b:Nat)=>(b:Int)).map V.int:=by unfold tx;rw[iB];rfl
   rw[n,Fq,j0,si,si,iz];constructor
   ·rintro⟨b,f,e⟩;rw[show b=k by omega] at f;exact f
   ·intro o;exact⟨k,o,L⟩
  rw[e];exact j m<|c.trans d⟩
def QF(cs:Cs):Sp:=λd H Q _=>∃a e t p b x,d=[.ref a,.ref b]/\cg cs H a e t p/\aY H b x/\∀c,J H c->Q (.bl<|Gg x<|t.drop p) c
def abD:T.bb T.MI 3 (QF cs):=T.MI.aU<|bN λH Q E l m e h=>by
 obtain⟨a,n,t,p,o,x,rfl,j,i,k⟩:=h;refine⟨_,(aD (bw (bK de (dE (g9 T) T.cV (pv 0) (e.mono aB) ck)<|cD T.nY) (aC<|aK<|ie (kG f9 f9 aI (b6 cB aZ T.cn cq<|aj<|pv 1)<|cP iY (cD T.pI) aI)<|ic<|zV z5 (cD T.nY) (pv 1)<|by with_unfolding_all rfl) bB)<|aC<|aK<|ie (aO (tu T) e<|aj<|dE (g9 T) T.cV (pv 0) (e.mono aB) ck)<|ic<|gw f9 (b6 cB aZ T.cn cq<|aj<|pv 1)<|cD T.pI),?_⟩;refine bg.bU (bI<|dw (hG W j) bq) λq f=>bh (λc=>?_)<|λc=>?_
 ·have c:=df c;refine G.ret (jB (qQ aQ (λg d=>fu W<|d _ _ (f _ _ i)) λ_ _=>cj aQ bq) λg d _=>abC (k:=45) aQ aR<|d _ _ (f _ _ i)) λg d=>cI (k g<|f.trans d) ?_;cases e:t.drop p with
  |nil=>rw[e] at c;exact absurd c aB
  |cons b r=>
   rw[e] at c;have c:b=45:=by have:(b:Int)=45:=c;omega
   show ft x b=_;unfold ft;rw[aA c,<-T5];congr 1;congr 1<;>(apply cY.mpr;omega)
 ·have c:=d8 c;refine G.ret (jB (g8<|hG W<|j.same f) λg d _=>cj (fu W<|d _ _ (f _ _ i)) bq) λg d=>cI (k g<|f.trans d) ?_;rw[xO];cases e:t.drop p with
  |nil=>rfl
  |cons b r=>
   rw[e] at c;have c:¬b=45:=λz=>c (by rw[z];rfl);show ft x b=_;unfold ft;rw[ak c];show(bD b&&_)=(bD b&&_);congr 1;apply cY.mpr;omega
def abE(h:G t U H (.ref a))(f:∀b,J H b->G u U b (.ref e))(hs:cg cs H a pt y p)(g:aY H e x):G (cA (QF cs) [] E<|aN t<|aN u aW) U H (.bl<|Gg x<|y.drop p):=λQ k=>
 h _ λb c=>f b c _ λl d=>⟨a,pt,y,p,e,x,L,hs.same<|c.trans d,d _ _ (c _ _ g),λi j=>k i<|c.trans<|d.trans j⟩
def abF(h:ft x b=Y):dI x (b::r)=dI (x++[b]) r:=by
 show(if ft x b=Y then _ else _)=_;rw[aA h]
def abG(h:Gg x r=ax):dI x r=(x,r):=by
 cases r with
 |nil=>rfl
 |cons b r=>
  have h:ft x b=ax:=h;show(if ft x b=Y then _ else _)=_;rw[ak (by rw[h];decide)]
def QG:T.bb T.MJ 4 (BL cs Nm.epithet):=T.MJ.aU<|om ["scanner","word"] λH ag ah nd hL l h I=>by
 obtain⟨a,m,t,p,rfl,B,k⟩:=h;refine⟨_,(aD (cw 1 nd<|bQ gv)<|aD (o9 I.own (cN<|aO (abD T) l<|aP (pv 0)<|aj<|pv 1)<|aD (bW<|eK eL jJ jK jj (pv 1)<|aj<|dE (g9 T) T.cV (pv 0) (l.mono aB) ck)<|aC<|bW<|dE (oH T) T.cV (pv 0) (l.mono aB) ck)<|aD (bw (PW.pt<|nR (bK f9 (b6 cB aZ T.cn cq<|aj<|pv 1)<|cD T.AG)<|oZ<|bK de (bT b8 (pv 1)<|du dv aI)<|cD T.nY) (aC<|oF T I L (l.mono aB)<|aj<|aJ<|pv 0) bB)<|aC<|aK<|pv 1),?_⟩;refine aL.eB ir λH1 g M A h1=>?_;have E:g≠a:=B.ne A;refine BK (cs:=cs) (a:=a) (pt:=m) (w:=t) (p0:=p) (λq r=>Kt a H r/\cg cs r a m t q/\∃x,aY r g x/\q=p+x.length/\dI [] (t.drop p)=dI x (t.drop q)) ⟨bE M,B.same M,[],h1,L,L⟩ (λq r h=>h.2.1) ?_;rintro q r ⟨C,s,x,n,rfl,u⟩;refine⟨_,cS<|abE W aR s n,λH2 f=>⟨λc D' kd=>?_,λc=>?_⟩⟩
 ·cases l:t.drop (p+x.length) with
  |nil=>rw[l] at c;cases c
  |cons b au=>
   rw[l] at c u;have c:ft x b=Y:=c;rw[abF c] at u;obtain⟨hl,_,er⟩:=drop_cons l;have hz:x.length<br:=by
    unfold ft at c;rw[b9];by_cases z:b=45
    ·rw[aA z] at c;simp only[bL,bO] at c;omega
    ·rw[ak z] at c;simp only[bL,bO] at c;omega
   refine yf (v:=.int ((b:Nat):Int)) W (f _ _ n) (λo d=>G.cv (hG W<|s.same<|f.trans d) (by rw[l];rfl)) (by rw[bX];exact hz) λo d=>?_;have aa:cg cs (upd o g<|.lst<|tx x++[V.int ((b:Nat):Int)]) a m t (p+x.length):=by
    obtain⟨dx,o1,o2,o3⟩:=s.same<|f.trans d;have ab:m≠g:=λz=>by
     obtain⟨_,_,v,_⟩:=B;rw[z] at v;have v:H g=O _:=v;rw[A] at v;cases v
    exact⟨dx,by rw[aX E.symm];exact o1,by show upd o g _ m=_;rw[aX ab];exact o2,o3⟩
   refine tY W aa hl λw N ae=>kd w _ (wG _) ⟨(abA (C.trans<|bE<|f.trans d) A).trans N,ae,x++[b],?_,by rw[aV];rfl,by rw[u,er]⟩;refine N _ _ ?_ E;rw[ba,<-gh];rfl
 ·rw[abG c] at u;unfold Nm.epithet at k;rw[u] at k;have k:BI cs H a m t ag ah (if x.length<2∨x.getLast?=O 45 then .inl (p+x.length) else .inr (x,p+x.length,t.drop<|p+x.length)):=k;refine bg.bU (x:=decide (x.length<2∨x.getLast?=O 45)) ?_ λo d=>bh (λD=>?_)<|λD=>?_
  ·by_cases h2:x.length<2
   ·have:=pK (uu:=zW<|dG zT (dG (j8 K) (dQ 1)<|DG (rU λi=>.int<|-i)<|tC<|.int 1)<|tC<|.int 45) (b:=ax) (bI<|cj (g:=λi j=>.bl<|decide (i<j)) (fu (K:=K) (fM (i:=1) (U:=[O (.ref a),O<|.ref g]) L)<|f _ _ n) λ_ _=>aQ (v:=.int 2)) λo d Q=>absurd Q (by simp;omega);have e:(decide (((x.length:Nat):Int)<2)||false)=decide (x.length<2∨x.getLast?=O 45):=by rw[wL];apply cY.mpr;omega
    rw[<-e];exact this
   ·obtain⟨aq,hn,ha⟩:=Oc (l:=x) aG;have:=pK (bI<|cj (g:=λi j=>.bl<|decide (i<j)) (fu (K:=K) (fM (i:=1) (U:=[O (.ref a),O<|.ref g]) L)<|f _ _ n) λ_ _=>aQ (v:=.int 2)) λo d Q=>bI<|dw (e8 (K:=K) (i:=-1) (fM (i:=1) (U:=[O (.ref a),O<|.ref g]) L) (λ_ _=>dA (g:=λi=>.int<|-i)<|aQ (v:=.int 1)) (aM.of<|d _ _ (f _ _ n)) ha) λ_ _=>aQ (v:=.int 45);have e:(decide (((x.length:Nat):Int)<2)||decide ((aq:Int)=45))=decide (x.length<2∨x.getLast?=O 45):=by
     rw[<-Bool.decide_or];apply cY.mpr;rw[hn];constructor
     ·rintro(h|h)
      ·omega
      ·right;congr 1;omega
     ·rintro(h|h)
      ·omega
      ·right;have:=eh h;omega
    rw[<-e];exact this
  ·rw[aA (df D)] at k;exact oG (jo T W<|s.same<|f.trans d) λw ar y h4=>k w ar (C.trans<|bE<|f.trans<|d.trans y) h4
  ·rw[ak (d8 D)] at k;exact G.ret W λw y=>k L w g (C.trans<|bE<|f.trans<|d.trans y) A (y _ _ (d _ _ (f _ _ n)))<|s.same<|f.trans<|d.trans y
def eY(t:S)(b p:Nat):S:=(t.drop b).take<|p-b
def Gh(h:p<=t.length):(eY t b p).length=p-b:=by unfold eY;rw[gA,rO];omega
def BM(h:t.drop p=c::s)(d:b<=p):eY t b (p+1)=eY t b p++[c]:=by
 unfold eY;obtain⟨e,a,_⟩:=drop_cons h;rw[show p+1-b=(p-b)+1 by omega];refine take_succ (i:=p-b) ?_;rw[Uo,show b+(p-b)=p by omega];exact a
def abH(a:eF b=Y)(d:x.length<40):dU e x p (b::r)=dU e (x++[b]) (p+1) r:=by
 cases r with
 |nil=>
  simp only[dU,aA (show eF b=Y/\x.length<40 from⟨a,d⟩)]
 |cons c r=>rw[dU,aA ⟨a,d⟩]
def sT(a:(bc eF r&&decide (x.length<40))=ax)(d:i3 f x r=ax):dU f x p r= .inr (x,p,r):=by
 match r,a,d with
 |[],_,_=>rw[dU]
 |[b],a,d=>
  have e:¬(eF b=Y/\x.length<40):=λz=>by
   have:(eF b&&decide (x.length<40))=ax:=a;rw[z.1,eN z.2] at this;cases this
  rw[dU,ak e,ak (by rw[d];decide)]
 |b::c::r,a,d=>
  have e:¬(eF b=Y/\x.length<40):=λz=>by
   have:(eF b&&decide (x.length<40))=ax:=a;rw[z.1,eN z.2] at this;cases this
  rw[dU,ak e,ak (by rw[d];decide)]
def abI(f:(bc eF (b::r)&&decide (x.length<40))=ax)(e:i3 a x (b::r)=Y):dU a x p (b::r)=if bc b7 r=Y then dU a (x++[b]++r.take 1) (p+2) (r.drop 1) else .inl (p+1):=by
 have d:¬(eF b=Y/\x.length<40):=λz=>by
  have:(eF b&&decide (x.length<40))=ax:=f;rw[z.1,eN z.2] at this;cases this
 cases r with
 |nil=>rw[dU,ak d,aA e];rfl
 |cons c r=>
  rw[dU,ak d,aA e];show(if b7 c=Y then _ else _)=(if b7 c=Y then dU a (x++[b]++[c]) (p+2) r else _);rw[hX];rfl
def Gi(k:Nat)(r:S):List.isPrefixOf [k] r=bc (λb=>b==k) r:=by
 cases r with
 |nil=>rfl
 |cons b r=>show((k==b)&&Y)=(b==k);rw[rW,fS,fS];apply cY.mpr;omega
def Gj(cs:Cs):Sp:=λg H Q _=>∃a f t p,∃b:Nat,g=[.ref a,.int (b:Nat)]/\cg cs H a f t p/\b<=p/\∀d c,Kt a H d->cg cs d a f t c->p<=c->(∀e,dU e (eY t b p) p (t.drop p)=dU e (eY t b c) c (t.drop c))->
 (bc eF (t.drop c)&&decide ((eY t b c).length<40))=ax->Q .bp d
def abJ{w:S}{p0:Nat}(Pv:Nat->Hp->Prop)(i:Pv p0 H)(h:∀p H,Pv p H->cg cs H a pt w p)
  (hs:∀p H,Pv p H->∃b,bg c U H b/\∀d,J H d->(b=Y->∀e:Ends,(∀f g,p<g->Pv g f->e.nx U f)->j e U d)/\(b=ax->D.nx U d)):u4 c j D U H:=
 BK (u:=u0) Pv i h hs
def QH:T.bb T.MK 3 (Gj cs):=T.MK.aU<|bN λH Q E I M j h=>by
 obtain⟨a,m,t,p,b,rfl,w,D,k⟩:=h;refine⟨_,(aC<|o9 iC (PW.pt<|iF (cN<|aO (N7 T) j<|aj<|dE (g9 T) T.cV (pv 0) (j.mono aB) ck)<|iE<|bK f9 (cP iY (aJ<|pv 0)<|pv 1)<|cD T.pI)<|aC<|bW<|dE (oH T) T.cV (pv 0) (j.mono aB) ck),?_⟩;refine abJ (cs:=cs) (a:=a) (pt:=m) (w:=t) (p0:=p) (λc g=>Kt a H g/\cg cs g a m t c/\p<=c/\∀i,dU i (eY t b p) p (t.drop p)=dU i (eY t b c) c (t.drop c)) ⟨Kt.rf,w,bG _,λ_=>rfl⟩ (λc g h=>h.2.1) ?_;rintro c g ⟨n,e,r,o⟩;refine⟨_,iq (cS<|g8<|hG W e)<|λq d _=>bI<|cj (cj (jo T W<|e.same d) aR) bq,λq d=>?_⟩;have x:vK (gK<|t.drop c)=bc eF (t.drop c):=Xk _;have s:decide (((c:Nat):Int)-(b:Int)<40)=decide ((eY t b c).length<40):=by rw[Gh e.le];apply cY.mpr;omega
 rw[x,s];refine⟨λf N y=>?_,λf=>k q c (n.trans<|bE d) (e.same d) r o f⟩;rw[bL,bO] at f;obtain⟨aa,ab,l,u⟩:=oJ f.1;obtain⟨z,_,A⟩:=drop_cons l;refine tY W (e.same d) z λB C v=>y B _ (wG _) ⟨n.trans<|(bE d).trans C,v,aG,λi=>?_⟩;rw[o,l,abH u f.2,BM l aG,A]
def QI(cs:Cs):Sp:=λe H Q _=>∃a f t p,∃b:Nat,∃c,e=[.ref a,.int (b:Nat),.bl c]/\cg cs H a f t p/\b<=p/\∀d,J H d->Q (.bl<|i3 c (eY t b p)<|t.drop p) d
def abK:T.bb T.ML 3 (QI cs):=T.ML.aU<|bN λH Q E w x d h=>by
 obtain⟨a,y,t,p,b,l,rfl,g,v,k⟩:=h;refine⟨_,(aD (bw (bK mK (cP iY (aJ<|pv 0)<|pv 1)<|cP iY (cD T.pI) aI) (aC<|aK jN) bB)<|aD (bw (PW.pt<|iF (bK de (dE (g9 T) T.cV (pv 0) (d.mono aB) ck)<|cD T.xS)<|iE<|eJ<|cN<|pv 2) (aC<|aK<|aO (tw T) d<|aj<|jx (BE T) T.cV (pv 0) (d.mono aB) ck<|aj aI) bB)<|aC<|aK<|aO (EX T) d<|aj<|dE (g9 T) T.cV (pv 0) (d.mono aB) ck),?_⟩;refine bg.bU (bI<|cj (cj (jo T W g) aR) λ_ _=>cj aQ bq) λA i=>bh (λj=>?_)<|λj=>?_
 ·have j:=df j;refine G.ret aQ λm f=>cI (k m<|i.trans f) ?_;cases d:t.drop p with
  |nil=>rfl
  |cons c r=>
   show(decide ((eY t b p).length<39)&&_)=ax;rw[Gh g.le,gP aG];rfl
 have j:=d8 j;have q:(eY t b p).length<39:=by rw[Gh g.le];omega
 refine bg.bU (iq (bI<|dw (hG W<|g.same i) bq) λm f _=>eM<|cS W) λm f=>bh (λe=>?_)<|λe=>?_
 ·rw[bL,bO,dZ] at e;refine G.ret (g8<|BF (d:=1) W bq<|g.same<|i.trans f) λn o=>cI (k n<|i.trans<|f.trans o) ?_;rw[ED];cases d:t.drop p with
  |nil=>rw[d] at e;exact absurd e.1 aB
  |cons c r=>
   rw[d] at e;have s:c=32:=by have:(c:Int)=32:=e.1;omega
   show(decide ((eY t b p).length<39)&&(if c=32/\l=ax then bc b7 r else iA c))=_;rw[eN q,aA ⟨s,e.2⟩,uJ,(drop_cons d).2.2]
 ·refine G.ret (g8<|hG W<|g.same<|i.trans f) λn o=>cI (k n<|i.trans<|f.trans o) ?_;cases d:t.drop p with
  |nil=>rfl
  |cons c r=>
   rw[d] at e;have u:¬(c=32/\l=ax):=λz=>by
    rw[z.2,show decide (gK (c::r)=(32:Int))=Y from eN (by rw[z.1];rfl)] at e;cases e
   show(decide ((eY t b p).length<39)&&(if c=32/\l=ax then bc b7 r else iA c))=yc (c:Int);rw[eN q,ak u,uJ,AW]
def abL(h:G t U H (.ref a))(i:∀c,J H c->G u U c (.int (b:Nat)))(j:∀c,J H c->G v U c (.bl f))(hs:cg cs H a pt y p)(l:b<=p):G (cA (QI cs) [] E<|aN t<|aN u<|aN v aW) U H (.bl<|i3 f (eY y b p)<|y.drop p):=λQ k=>
 h _ λc d=>i c d _ λm e=>j m (d.trans e) _ λq g=>⟨a,pt,y,p,b,f,L,hs.same<|d.trans<|e.trans g,l,λn o=>k n<|d.trans<|e.trans<|g.trans o⟩
def QJ(h:G u U H (.ref a))(g:∀d,J H d->G v U d (.int (b:Nat)))(hs:cg cs H a pt y p)(i:b<=p)(k:∀H' c,Kt a H H'->cg cs H' a pt y c->p<=c->(∀e,dU e (eY y b p) p (y.drop p)=dU e (eY y b c) c (y.drop c))->
  (bc eF (y.drop c)&&decide ((eY y b c).length<40))=ax->D.nx U H'):gu (cA (Gj cs) [] E<|aN u<|aN v aW) D U H:=
 h _ λd f=>g d f _ λq j=>let m:=f.trans j;⟨a,pt,y,p,b,L,hs.same m,i,λl c n o=>k l c (eX m n) o⟩
def abM(h:G u U H (.ref a))(f:∀e,J H e->G v U e (.int (b:Nat)))(hs:cg cs H a pt y p)(g:b<=p)(k:∀H' c,Kt a H H'->cg cs H' a pt y c->p<=c->(∀d,dU d (eY y b p) p (y.drop p)=dU d (eY y b c) c (y.drop c))->
  (bc eF (y.drop c)&&decide ((eY y b c).length<40))=ax->i D U H'):cF (gu<|cA (Gj cs) [] E<|aN u<|aN v aW) i D U H:=QJ h f hs g k
def BN(cs:Cs):Sp:=λd H Q E=>∃a c t p b,d=[.ref a,.bl b]/\cg cs H a c t p/\BI cs H a c t Q E (Nm.author b p<|t.drop p)
def Gk:T.bb T.MM 4 (BN cs):=T.MM.aU<|om ["scanner","is_last","start"] λaE a7 a8 nd hL c h w=>by
 obtain⟨a,u,t,p,i,rfl,E,k⟩:=h;refine⟨_,(aD (cw 2 nd<|aJ<|pv 0)<|aD (bW<|d6 (Gf T) c w<|aj<|pv 0)<|aD (bW<|aO (QH T) c<|aP (pv 0)<|aj<|pv 2)<|aD (o9 w.own (cN<|aO (abK T) c<|aP (pv 0)<|aP (pv 2)<|aj<|pv 1)<|aD (bW<|dE (oH T) T.cV (pv 0) (c.mono aB) ck)<|aD (bW<|d6 (Gf T) c w<|aj<|pv 0)<|aC<|bW<|aO (QH T) c<|aP (pv 0)<|aj<|pv 2)<|aC<|aK<|jx (QA T) T.cV (pv 0) (c.mono aB) ck<|aj<|pv 2),?_⟩;refine G.eB (jo T W E) λH1 x=>?_;refine tW ⟨_,L,a,u,t,p,L,E.same x,λj H y ae=>?_,λj H d y h2=>?_⟩;rotate_left
 ·have e:Nm.author i p (t.drop p)= .inl p:=by
   cases c:t.drop p with
   |nil=>rfl
   |cons b a0=>
    rw[c] at j;have j:b7 b=ax:=j;show(if b7 b=Y then _ else _)=_;rw[ak (by rw[j];decide)]
  rw[e] at k;exact k H d (eX x y) h2
 obtain⟨b,a0,e,hb⟩:=oJ j;obtain⟨a4,_,er⟩:=drop_cons e;have ag:=eX x y;have eb:eY t p (p+1)=[b]:=by rw[BM e (bG _)];unfold eY;rw[Up];rfl
 have z:Nm.author i p (t.drop p)=dU i (eY t p<|p+1) (p+1) (t.drop<|p+1):=by
  rw[eb,e,<-er];show(if b7 b=Y then _ else _)=_;rw[aA hb]
 rw[z] at k;refine abM W aR ae (S9 _) λH3 v k3 ah a5 I aq=>?_;rw[I] at k;have z:=z.trans<|I i;refine BK (cs:=cs) (a:=a) (pt:=u) (w:=t) (p0:=v) (λf o=>Kt a aE o/\cg cs o a u t f/\p<=f/\(bc eF (t.drop f)&&decide ((eY t p f).length<40))=ax/\dU i (eY t p v) v (t.drop v)=dU i (eY t p f) f (t.drop f)) ⟨ag.trans k3,ah,aG,aq,L⟩ (λf o h=>h.2.1) ?_;rintro f o ⟨A,q,C,l,g⟩;refine⟨_,cS<|abL W aR aR q C,λH4 m=>⟨λn D' kd=>?_,λn=>?_⟩⟩
 ·cases c:t.drop f with
  |nil=>rw[c] at n;cases n
  |cons a3 aa=>
   rw[c] at n l g;rw[abI l n] at g;obtain⟨hl,_,r⟩:=drop_cons c;refine BH W (q.same m) hl λM k5 ar=>?_;have D:=A.trans<|(bE m).trans k5;refine tW ⟨_,L,a,u,t,f+1,L,ar,λs N B au=>?_,λs N d B h6=>?_⟩
   ·rw[r,aA s,<-r] at g;obtain⟨c2,s2,Q,_⟩:=oJ s;have e3:eY t p (f+1+1)=eY t p f++[a3]++aa.take 1:=by rw[BM Q aG,BM c C,r,Q];rfl
    have e4:aa.drop 1=t.drop (f+1+1):=by rw[r,oT]
    rw[<-e3,e4] at g;refine QJ W aR au aG λH7 p7 k7 av a6 ay az=>kd H7 p7 aG ⟨D.trans<|B.trans k7,av,aG,az,?_⟩;rw[g,<-ay]
   ·rw[r,ak (by rw[s];decide)] at g;rw[g] at k;exact k N d (D.trans B) h6
 ·rw[sT l n] at g;rw[g] at k;refine aL.ret (QB W aR<|q.same m) λM ab s5 n5 h5=>?_;have l:o ab=ai:=m.free n5;exact k L M ab (A.trans<|bE<|m.trans s5) (A.free l<|q.ne l) h5<|q.same<|m.trans s5
def abN(l:S)(b:Nat):Nm.numOf (l++[b])=Nm.numOf l*10+((b:Int)-48):=by unfold Nm.numOf;rw[HN];rfl
def abO(h:G t U H (.int i))(c:∀a,J H a->G u U a (.int 10)):G (dG (rI zP λi j=>.int<|i*j) t u) U H (.int<|i*10):=λQ k=>
 h _ λa b=>c a b _ λd e=>⟨i,10,L,L,.inr ⟨aB,aB⟩,k d<|b.trans e⟩
def Gm(cs:Cs)(f:Nat->S->Nm.Rs Int):Sp:=λc H Q E=>∃a b t p,c=[.ref a]/\cg cs H a b t p/\Gb cs H a b t Q E (f p<|t.drop p)
def QK:T.bb T.MN 3 (Gm cs Nm.number):=T.MN.aU<|om ["scanner","start","number"] λaa ag ah u hL d h A=>by
 obtain⟨a,B,t,p,rfl,i,k⟩:=h;refine⟨_,(aD (bw (PW.pt<|nR (eJ<|cN<|aO (N8 T) d<|aj<|dE (g9 T) T.cV (pv 0) (d.mono aB) ck)<|oZ<|cN<|jx (yC T) T.cV (pv 0) (d.mono aB) ck<|aj fD) (aC<|oF T A L (d.mono aB)<|aj<|aJ<|pv 0) bB)<|aD (cw 1 u<|aJ<|pv 0)<|aD (cw 2 u aI)<|aD (o9 A.own (PW.pt<|iF (cN<|aO (N8 T) d<|aj<|dE (g9 T) T.cV (pv 0) (d.mono aB) ck)<|iE<|bK f9 (cP iY (aJ<|pv 0)<|pv 1)<|cD T.X1)<|aD (cw 2 u<|cP iY (cP zQ (cP U7 (pv 2) aI)<|dE (g9 T) T.cV (pv 0) (d.mono aB) ck) aI)<|aC<|bW<|dE (oH T) T.cV (pv 0) (d.mono aB) ck)<|aC<|aK<|pv 2),?_⟩;unfold Nm.number at k;refine bg.bU (pK (eM<|cS<|g8<|hG W i) λN f _=>cS<|yD (l:=aH "0") W (λ_ _=>fN) aB<|i.same f) λN f=>?_;have v:(!d5 48 57 (gK<|t.drop p)||(aH "0").isPrefixOf (t.drop p))=!bc (λb=>cx b&&b !=48) (t.drop p):=by
  rw[KQ];have:aH "0"=[48]:=by decide+kernel
  rw[this,Gi];cases t.drop p with
  |nil=>rfl
  |cons b aq=>show(!digit b||(b==48))=!(cx b&&(b !=48));cases cx b<;>simp[bne]
 rw[v];refine bh (λl=>?_)<|λl=>?_
 ·rw[dZ] at l;rw[ak (by rw[l];decide)] at k;exact oG (jo T W<|i.same f) λw ab m Q=>k w ab (bE<|f.trans m) Q
 rw[eG] at l;rw[aA l] at k;refine G.eB (jo T W<|i.same f) λH2 s2=>?_;refine G.eB aQ λw m=>?_;have C:=f.trans<|s2.trans m;refine abz (cs:=cs) (a:=a) (pt:=B) (w:=t) (p0:=p) (λq U r=>Kt a aa r/\cg cs r a B t q/\∃j,q=p+j/\j<=4/\U=[O (.ref a),O<|.int (p:Nat),O<|.int<|Nm.numOf<|(t.drop p).take j]/\Nm.span cx 4 (t.drop p)=(t.drop p).take j++Nm.span cx (4-j) ((t.drop p).drop j)) ⟨bE C,i.same C,0,L,aG,L,L⟩ (λq U r h=>h.2.1) ?_;rintro q U r ⟨D,g,j,rfl,hj,rfl,s⟩;have x:t.drop (p+j)=(t.drop p).drop j:=by rw[oT]
 refine⟨_,iq (cS<|g8<|hG W g)<|λw m _=>bI<|cj (cj (jo T W<|g.same m) aR) bq,λH4 n=>?_⟩;rw[KQ,show decide (((p+j:Nat):Int)-(p:Int)<4)=decide (0<4-j) by apply cY.mpr;omega];refine⟨λo D' kd=>?_,λo=>?_⟩
 ·rw[bL,bO] at o;obtain⟨c,ar,y,H⟩:=oJ o.1;obtain⟨hl,hg,_⟩:=drop_cons y;refine G.eB (v:=.int<|Nm.numOf<|(t.drop p).take<|j+1) (G.cv (cj (cj (abO W bq) λz e=>hG W<|g.same<|n.trans e) bq) ?_) λz e=>?_
  ·rw[y];have I:(t.drop p)[j]?=O c:=by rw[Uo];exact hg
   rw[take_succ I,abN];show V.int (Nm.numOf ((t.drop p).take j)*10+(c:Int)-48)=_;congr 1;omega
  ·exact tY W (g.same<|n.trans e) hl λH6 k6 M=>kd _ H6 _ (wG _) ⟨D.trans<|(bE<|n.trans e).trans k6,M,j+1,aG,aG,L,QD s aG (x▸y) H⟩
 ·rw[x] at o;have v:=sR o;rw[v,gp] at s;have ae:j<=(t.drop p).length:=by have:=g.le;rw[rO];omega
  have E:(Nm.span cx 4<|t.drop p).length=j:=by rw[s,gA];omega
  rw[E,s] at k;exact G.ret W λz e=>k x.symm z (D.trans<|bE<|n.trans e)<|g.same<|n.trans e
def abP:T.bb T.MO 4 (Gm cs mR):=T.MO.aU<|om ["scanner","year"] λH Q E v hL g h l=>by
 obtain⟨a,q,t,p,rfl,i,k⟩:=h;refine⟨_,(aD (bw (PW.pt<|iF (eJ<|cN<|jx (yC T) T.cV (pv 0) (g.mono aB) ck<|aj fD)<|iE<|eJ<|cN<|jx (yC T) T.cV (pv 0) (g.mono aB) ck<|aj fD) (aC<|oF T l L (g.mono aB)<|aj<|aJ<|pv 0) bB)<|aD (cw 1 v<|d6 (QK T) g l<|aj<|pv 0)<|aD (bw (bK f9 (pv 1) aI) (aC<|oF T l L (g.mono aB)<|aj<|aJ<|pv 0) bB)<|aC<|aK<|pv 1),?_⟩;unfold mR at k;refine bg.bU (iq (eM<|cS<|yD (l:=aH "1") W (λ_ _=>fN) aB i) λw e _=>eM<|cS<|yD (l:=aH "2") W (λ_ _=>fN) aB<|i.same e) λw e=>?_;have x:(!(aH "1").isPrefixOf (t.drop p)&&!(aH "2").isPrefixOf (t.drop p))=!bc (λb=>b==49||b==50) (t.drop p):=by
  have z:aH "1"=[49]:=by decide+kernel
  have A:aH "2"=[50]:=by decide+kernel
  rw[z,A,Gi,Gi];cases t.drop p with
  |nil=>rfl
  |cons b ab=>show(!(b==49)&&!(b==50))=!((b==49)||(b==50));rw[ago]
 rw[x];refine bh (λc=>?_)<|λc=>?_
 ·rw[dZ] at c;rw[ak (by rw[c];decide)] at k;exact oG (jo T W<|i.same e) λr d f B=>k r d (bE<|e.trans f) B
 rw[eG] at c;rw[aA c] at k;refine iP ⟨_,L,a,q,t,p,L,i.same e,?_⟩;cases s:Nm.number p (t.drop p) with
 |inl ae=>rw[s] at k;exactλC d kk h=>k C d (eX e kk) h
 |inr aa=>
  obtain⟨y,u,D⟩:=aa;rw[s] at k;intro I H2 M n;have k:Gb cs H a q t Q E (if y<1000 then .inl u else .inr (y,u,D)):=k;have o:=eX e M;refine bg.bU (bI<|cj W bq) λr f=>bh (λc=>?_)<|λc=>?_
  ·rw[aA (df c)] at k;exact oG (jo T W<|n.same f) λm d j N=>k m d (o.trans<|bE<|f.trans j) N
  ·rw[ak (d8 c)] at k;exact G.ret W λm j=>k I m (o.trans<|bE<|f.trans j)<|n.same<|f.trans j
def R3(a nm au:af):af->Prop:=λb=>b=a∨b=nm∨b=au
def KR.trans(x:KR R H a)(y:KR R a c):KR R H c:=λb o e n=>y b o (x b o e n) n
def KR.rf:KR R H H:=λ_ _ e _=>e
def kZ(k:Kt a H H'):KR (R3 a nm au) H H':=KR.kt k<|.inl L
def l0(k:Kt nm H H'):KR (R3 a nm au) H H':=KR.kt k<|.inr<|.inl L
def abQ(k:Kt au H H'):KR (R3 a nm au) H H':=KR.kt k<|.inr<|.inr L
structure SN(cs:Cs)(H:Hp)(a pt:af)(t:S)(p:Nat)(nm au:af)(n:bJ):Prop where
 sc:cg cs H a pt t p
 nm:bM cs H nm au n
 ne:pt≠au
def SN.same{H H':Hp}{a pt:af}{t:S}{p:Nat}{nm au:af}{n:bJ}(h:SN cs H a pt t p nm au n)(s:J H H'):SN cs H' a pt t p nm au n:=⟨h.sc.same s,h.nm.same s,h.ne⟩
def bM.ktA{H H':Hp}{a pt:af}{t:S}{p:Nat}{nm au:af}{n:bJ}(h:bM cs H nm au n)(f:cg cs H a pt t p)(k:Kt a H H'):bM cs H' nm au n:=by
 obtain⟨A,B,s,C,D,E,q,g,j,m,r,u,I,d,M⟩:=h;have c:∀x v,H x=O (.lst v)->x≠a:=λx v e=>f.sv e;have w:nm≠a:=λz=>by
  obtain⟨N,o,_⟩:=f;rw[z,o] at q;have q:=HO.ins.inj<|eh q;have:=fG fZ q.2.2;revert this;show¬(2=12);decide
 exact⟨A,B,s,C,D,E,k _ _ q w,k _ _ g (c _ _ g),k _ _ j (c _ _ j),k _ _ m (c _ _ m),k _ _ r (c _ _ r),k _ _ u (c _ _ u),I,λi b l x y=>⟨k _ _ (d i b l x y).1 (c _ _ (d i b l x y).1),(d i b l x y).2⟩,M⟩
def bM.au{H:Hp}{nm au:af}{n:bJ}(h:bM cs H nm au n):∃as:List af,H au=O (.lst<|as.map V.ref)/\as.length=n.authors.length:=let⟨_,_,_,_,_,as,_,_,_,_,_,a,b,_⟩:=h;⟨as,a,b⟩
def cg.Gn(e:cg cs H a pt t p)(h:bM cs H nm au n)(k:Kt nm H H'):cg cs H' a pt t p:=by
 obtain⟨i,j,s,l,m,o,q,_⟩:=h;obtain⟨f,b,c,g⟩:=e;have d:a≠nm:=λz=>by
  rw[<-z,b] at q;have q:=HO.ins.inj<|eh q;have:=fG fZ q.2.2;revert this;show¬(2=12);decide
 exact⟨f,k _ _ b d,k _ _ c (dO c q (by intro z;cases z)),g⟩
def SN.qZ{H H':Hp}{a pt:af}{t:S}{p b:Nat}{nm au:af}{n:bJ}(h:SN cs H a pt t p nm au n)(k:Kt a H H')(c:cg cs H' a pt t b):SN cs H' a pt t b nm au n:=⟨c,h.nm.ktA h.sc k,h.ne⟩
def SN.set{H H':Hp}{a pt:af}{t:S}{p:Nat}{nm au:af}{n m:bJ}(h:SN cs H a pt t p nm au n)(k:Kt nm H H')(b:bM cs H' nm au m):SN cs H' a pt t p nm au m:=⟨h.sc.Gn h.nm k,b,h.ne⟩
def SN.app{H H':Hp}{a pt q:af}{t l:S}{p:Nat}{nm au:af}{n:bJ}{as:List af}(h:SN cs H a pt t p nm au n)(m:H au=O (.lst<|as.map V.ref))(z:aY H q l)(o:q≠au)(k:Kt au H H')(h':H' au=O (.lst<|as.map V.ref++[V.ref q])):
  SN cs H' a pt t p nm au {n with authors:=n.authors++[l]}:=by
 obtain⟨⟨A,r,B,C⟩,⟨f,D,aa,E,I,g,s,M,N,Q,q4,q5,u,q7,b⟩,j⟩:=h;have e:=Bx<|HO.lst.inj<|eh<|q5.symm.trans m;subst e;have v:∀{x ab f:af}{fs:List (ao×V)},H x=O (.ins ab f fs)->x≠au:=λe=>dO e m (by intro ae;cases ae);refine⟨⟨A,k _ _ r (v r),k _ _ B j,C⟩,⟨f,D,aa,E,I,g++[q],k _ _ s (v s),k _ _ M b.1,k _ _ N b.2.1,k _ _ Q b.2.2.1,k _ _ q4 b.2.2.2,by rw[h',fR];rfl,by rw[aV,aV,u];rfl,λi ag x c d=>?_,b⟩,j⟩;by_cases hi:i<g.length
 ·rw[Td hi] at c;rw[Td aG] at d;obtain⟨z1,w⟩:=q7 i ag x c d;exact⟨k _ _ z1 w,w⟩
 ·have y:i=g.length:=by
   have:=(fC.mp c).1;rw[aV,gR] at this;omega
  subst y;rw[Tc (bG _),Up] at c;rw[Tc aG,u,Up] at d;cases c;cases d;exact⟨k _ _ z o,o⟩
def Og(R:γ->Prop)(a:Nat->Prop):Nat⊕γ->Prop
 |.inl q=>a q
 |.inr x=>R x
abbrev fA(cs:Cs)(E:XK)(a nm au:af)(H:Hp):Nat->Prop:=Rz cs E<|KR (R3 a nm au) H
def jU(cs:Cs)(H:Hp)(a pt:af)(t:S)(nm au:af)(Q:Hp->Prop)(E:XK):Nm.Rs bJ->Prop:=
 Og (λx=>x.2.2=t.drop x.2.1->∀b,KR (R3 a nm au) H b->SN cs b a pt t x.2.1 nm au x.1->Q b) (fA cs E a nm au H)
def oK(cs:Cs)(ok:bJ->Prop)(f:bJ->Nat->S->Nm.Rs bJ):Sp:=λe H Q E=>∃a c t p b d n,e=[.ref a,.ref b]/\SN cs H a c t p b d n/\ok n/\jU cs H a c t b d (Q .bp) E (f n p<|t.drop p)
section
variable{γ:Type}{R:γ->Prop}{E:XK}{a pt nm au:af}{H0 H:Hp}{t:S}{p:Nat}{n:bJ}{U:L2.St}{u v:TE}{D:Ends}{w1:TS}
def yE(k:Og R (fA cs E a nm au H0) (Nm.bindR (Nm.pass l p<|t.drop p) f))(g:KR (R3 a nm au) H0 H)(i:SN cs H a pt t p nm au n)(h:G u U H (.ref a))(s:∀c,J H c->mU v U c l)(w:l.length<=1000)
  (kk:∀b H',KR (R3 a nm au) H0 H'->SN cs H' a pt t b nm au n->Og R (fA cs E a nm au H0) (f (b,t.drop b))->D.nx U H'):gu (cA (Ge cs) [] E<|aN u<|aN v aW) D U H:=
 h _ λc j=>s c j _ λI x y o=>by
  have m:=j.trans y;refine⟨a,pt,t,p,x,L,i.sc.same m,by rw[o];exact w,?_⟩;rw[o];cases r:Nm.pass l p (t.drop p) with
  |inl q=>rw[r] at k;exactλH' d e A=>k H' d (g.trans<|kZ<|eX m e) A
  |inr z=>
   obtain⟨b,M⟩:=z;rw[r] at k;intro B H' e C;subst B;exact kk b H' (g.trans<|kZ<|eX m e) (i.qZ (eX m e) C) k
def rj(k:Og R (fA cs E a nm au H0) (Nm.bindR (Nm.pass l p<|t.drop p) f))(d:KR (R3 a nm au) H0 H)(e:SN cs H a pt t p nm au n)(h:G u U H (.ref a))(g:∀c,J H c->mU v U c l)(i:l.length<=1000)
  (kk:∀b H',KR (R3 a nm au) H0 H'->SN cs H' a pt t b nm au n->Og R (fA cs E a nm au H0) (f (b,t.drop b))->w1 D U H'):cF (gu<|cA (Ge cs) [] E<|aN u<|aN v aW) w1 D U H:=yE k d e h g i kk
def BO(k:Og R (fA cs E a nm au H0) (Nm.bindR (g p<|t.drop p) f))(l:KR (R3 a nm au) H0 H)(j:SN cs H a pt t p nm au n)(h:G u U H (.ref a))
  (kk:∀x b q H',KR (R3 a nm au) H0 H'->H q=ai->q≠au->aY H' q x->SN cs H' a pt t b nm au n->Og R (fA cs E a nm au H0) (f (x,b,t.drop b))->Q (.ref q) H'):cA (BL cs g) [] E (aN u aW) U H Q:=
 h _ λB c=>by
  refine⟨a,pt,t,p,L,j.sc.same c,?_⟩;cases m:g p (t.drop p) with
  |inl q=>rw[m] at k;exactλH' d e o=>k H' d (l.trans<|kZ<|eX c e) o
  |inr z=>
   obtain⟨x,b,C⟩:=z;rw[m] at k;intro r H' q e s w y;subst r;have i:=c.free s;obtain⟨I,A,_⟩:=j.nm.au;exact kk x b q H' (l.trans<|kZ<|eX c e) i (λz=>by rw[z,A] at i;cases i) w (j.qZ (eX c e) y) k
def QL(k:Og R (fA cs E a nm au H0) (Nm.bindR (g p<|t.drop p) f))(i:KR (R3 a nm au) H0 H)(j:SN cs H a pt t p nm au n)(h:G u U H (.ref a))
  (kk:∀x b H',KR (R3 a nm au) H0 H'->SN cs H' a pt t b nm au n->Og R (fA cs E a nm au H0) (f (x,b,t.drop b))->Q (.int x) H'):cA (Gm cs g) [] E (aN u aW) U H Q:=
 h _ λs c=>by
  refine⟨a,pt,t,p,L,j.sc.same c,?_⟩;cases l:g p (t.drop p) with
  |inl q=>rw[l] at k;exactλH' d e m=>k H' d (i.trans<|kZ<|eX c e) m
  |inr z=>
   obtain⟨x,b,w⟩:=z;rw[l] at k;intro o H' e r;subst o;exact kk x b H' (i.trans<|kZ<|eX c e) (j.qZ (eX c e) r) k
def abS(k:Og R (fA cs E a nm au H0) (Nm.bindR (Nm.author g p<|t.drop p) f))(l:KR (R3 a nm au) H0 H)(j:SN cs H a pt t p nm au n)(h:G u U H (.ref a))(s:∀e,J H e->G v U e (.bl g))
  (kk:∀x b q H',KR (R3 a nm au) H0 H'->Kt a H H'->H q=ai->q≠au->aY H' q x->SN cs H' a pt t b nm au n->Og R (fA cs E a nm au H0) (f (x,b,t.drop b))->Q (.ref q) H'):cA (BN cs) [] E (aN u<|aN v aW) U H Q:=
 h _ λe o=>s e o _ λN w=>by
  have m:=o.trans w;refine⟨a,pt,t,p,g,L,j.sc.same m,?_⟩;cases r:Nm.author g p (t.drop p) with
  |inl q=>rw[r] at k;exactλH' d c y=>k H' d (l.trans<|kZ<|eX m c) y
  |inr z=>
   obtain⟨x,b,r'⟩:=z;rw[r] at k;intro A H' q c B C I;subst A;have i:=m.free B;obtain⟨as,M,_⟩:=j.nm.au;exact kk x b q H' (l.trans<|kZ<|eX m c) (eX m c) i (λz=>by rw[z,M] at i;cases i) C (j.qZ (eX m c) I) k
def Gp{i:Bool}{f:S×Nat×S->Nat⊕γ}{j:TE}(k:Og R (fA cs E a nm au H0) (Nm.bindR (Nm.author i p<|t.drop p) f))(r:KR (R3 a nm au) H0 H)(e:SN cs H a pt t p nm au n)(Q:n.authors.length<=1000)(s:G j U H (.ref nm))(h:∀b,J H b->G u U b (.ref a))(w:∀b,J H b->G v U b (.bl i))
  (kk:∀x d H',KR (R3 a nm au) H0 H'->SN cs H' a pt t d nm au {n with authors:=n.authors++[x]}->Og R (fA cs E a nm au H0) (f (x,d,t.drop d))->D.nx U H'):gu (kK K "list" pz (cz K j "authors")<|aN (cA (BN cs) [] E<|aN u<|aN v aW) aW) D U H:=by
 obtain⟨dx,hh,aa,e1,e2,y,z,q1,q2,q3,q4,g,A,q7,q8⟩:=e.nm;refine oq T s z _ λb c=>⟨.inl ⟨L,_,aM.of<|c _ _ g⟩,abS k (r.trans<|KR.of c) (e.same c) (h b c) (λB C=>w B<|c.trans C) λx d ab H' m I nq o M q N=>?_⟩;have l:H' au=O (.lst<|y.map V.ref):=I _ _ (c _ _ g) (e.sc.sv g);refine⟨au,_,_,L,L,l,by rw[bH,A,b9];omega,?_⟩;exact kk x d _ (m.trans<|abQ<|Kt.put Kt.rf) (q.app l M o (Kt.put Kt.rf) ba) N
def abT{d:Bool}{f:S×Nat×S->Nat⊕γ}{e:TE}(k:Og R (fA cs E a nm au H0) (Nm.bindR (Nm.author d p<|t.drop p) f))(g:KR (R3 a nm au) H0 H)(i:SN cs H a pt t p nm au n)(j:n.authors.length<=1000)(l:G e U H (.ref nm))(h:∀b,J H b->G u U b (.ref a))(m:∀b,J H b->G v U b (.bl d))
  (kk:∀x c H',KR (R3 a nm au) H0 H'->SN cs H' a pt t c nm au {n with authors:=n.authors++[x]}->Og R (fA cs E a nm au H0) (f (x,c,t.drop c))->w1 D U H'):cF (gu<|kK K "list" pz (cz K e "authors")<|aN (cA (BN cs) [] E<|aN u<|aN v aW) aW) w1 D U H:=Gp T k g i j l h m kk
def vX(k:Og R (fA cs E a nm au H0) (Nm.bindR (g n p<|t.drop p) f))(l:KR (R3 a nm au) H0 H)(s:SN cs H a pt t p nm au n)(aS:ok n)(h:G u U H (.ref a))(w:∀c,J H c->G v U c (.ref nm))
  (kk:∀m b H',g n p (t.drop p)= .inr (m,b,t.drop b)->KR (R3 a nm au) H0 H'->SN cs H' a pt t b nm au m->Og R (fA cs E a nm au H0) (f (m,b,t.drop b))->D.nx U H'):gu (cA (oK cs ok g) [] E<|aN u<|aN v aW) D U H:=
 h _ λc o=>w c o _ λC y=>by
  have m:=o.trans y;refine⟨a,pt,t,p,nm,au,n,L,s.same m,aS,?_⟩;cases e:g n p (t.drop p) with
  |inl q=>rw[e] at k;exactλH' d i A=>k H' d (l.trans<|(KR.of m).trans i) A
  |inr z=>
   obtain⟨x,b,B⟩:=z;rw[e] at k;intro j H' i r;have j:B=t.drop b:=j;subst j;exact kk x b H' e (l.trans<|(KR.of m).trans i) r k
def BP(k:Og R (fA cs E a nm au H0) (Nm.bindR (g n p<|t.drop p) f))(d:KR (R3 a nm au) H0 H)(e:SN cs H a pt t p nm au n)(aS:ok n)(h:G u U H (.ref a))(i:∀c,J H c->G v U c (.ref nm))
  (kk:∀m b H',g n p (t.drop p)= .inr (m,b,t.drop b)->KR (R3 a nm au) H0 H'->SN cs H' a pt t b nm au m->Og R (fA cs E a nm au H0) (f (m,b,t.drop b))->w1 D U H'):cF (gu<|cA (oK cs ok g) [] E<|aN u<|aN v aW) w1 D U H:=vX k d e aS h i kk
def yF(x:Nat⊕α):Nm.bindR x (λy=>.inr y)=x:=by cases x<;>rfl
end
def l7{a b:TE}{f:ao}{c:TS}{D:Ends}{U:L2.St}{H:Hp}(h:b U H λy d=>cF (cH K a (tC y) f) c D U d):cF (cH K a b f) c D U H:=h
def vY{a b:TE}{f:ao}{D:Ends}{U:L2.St}{H:Hp}(h:b U H λy c=>cH K a (tC y) f D U c):cH K a b f D U H:=h
def abU{t:TE}{U:L2.St}{H:Hp}{xs:List V}(h:fh t U H xs):G (gG (λxs H Q=>∃p ys,xs=[.ref p]/\(aM K H p ys∨cO K H p ys)/\Q (.int ys.length) H)<|aN t aW) U H (.int (xs.length:Nat)):=λQ k=>
 h _ λa p b c=>⟨p,xs,L,.inl<|aM.of c,k a b⟩
section
variable{t:TE}{U:L2.St}{H:Hp}{nm au:af}{n:bJ}
def QM(h:G t U H (.ref nm))(a:cy cs H nm n):G (gG (λxs H Q=>∃p ys,xs=[.ref p]/\(aM K H p ys∨cO K H p ys)/\Q (.int ys.length) H)<|aN (cz K t "head") aW) U H (.int (n.head.length:Nat)):=by
 obtain⟨d,e,s,f,g,i,b,c,_⟩:=a;exact fu (kU T h b) c
def Gq(h:G t U H (.ref nm))(a:cy cs H nm n):G (gG (λxs H Q=>∃p ys,xs=[.ref p]/\(aM K H p ys∨cO K H p ys)/\Q (.int ys.length) H)<|aN (cz K t "e1") aW) U H (.int (n.e1.length:Nat)):=by
 obtain⟨d,e,s,e1,f,g,b,i,j,c,_⟩:=a;exact fu (lT T h b) c
def abV(h:G t U H (.ref nm))(a:bM cs H nm au n):G (gG (λxs H Q=>∃p ys,xs=[.ref p]/\(aM K H p ys∨cO K H p ys)/\Q (.int ys.length) H)<|aN (cz K t "authors") aW) U H (.int (n.authors.length:Nat)):=by
 obtain⟨e,f,s,g,i,j,b,k,l,m,o,c,d,_⟩:=a;have:=iN (K:=K) (oq T h b)<|aM.of c;rw[bH,d] at this;exact this
def yG(h:G t U H (.ref nm))(a:cy cs H nm n):G (cz K t "abbr") U H (.int n.abbr):=by
 obtain⟨c,d,s,e,f,g,b,_⟩:=a;exact yi T h b
def abW(h:G t U H (.ref nm))(a:cy cs H nm n):G (cz K t "paren") U H (.int n.paren):=by
 obtain⟨c,d,s,e,f,g,b,_⟩:=a;exact vP T h b
end
def abX:T.bb T.MQ 5 (oK cs (λn=>n={}) λ_ p r=>Nm.headOf p r):=T.MQ.aU<|pJ λaa ab ae nd hL i ag s=>by
 obtain⟨a,M,t,p,N,u,n,rfl,Q,rfl,k⟩:=ag;refine⟨_,(aD (bP (pv 1) (d6 (QE T) i s<|aj<|pv 0) L)<|aC<|bw (PW.pt<|iF (bK de (dE (g9 T) T.cV (pv 0) (i.mono aB) ck)<|cD T.Lh)<|iE<|bK f9 (b6 cB aZ T.cn cq<|aj<|aJ<|pv 1)<|cD T.pI) (aD (bW<|dE (oH T) T.cV (pv 0) (i.mono aB) ck)<|aC<|bP (pv 1) aI L)<|aC<|bw (bK f9 (b6 cB aZ T.cn cq<|aj<|aJ<|pv 1)<|cD T.AG) (aC<|oF T s L (i.mono aB)<|aj<|aJ<|pv 0) bB),?_⟩;unfold Nm.headOf at k;refine l7<|BO (g:=jv) k KR.rf Q W λx d av H1 A nq B hx o e=>?_;refine FD T o.nm aQ hx B aR λH2 v C=>?_;have f:=o.set v C;have l:=A.trans<|l0 (a:=a) (au:=u) v;have e:jU cs aa a M t N u (ab .bp) ae (if bc (λb=>b==46) (t.drop d)=Y/\x.length<40 then .inr ({abbr:=1,head:=x},d+1,(t.drop d).drop 1) else if x.length<2 then .inl d else .inr ({head:=x},d,t.drop d)):=e;refine bg.iM (iq (bI<|dw (hG W f.sc) bq) λH3 c _=>bI<|cj (QM T W<|f.nm.a.same c) bq) λH3 c=>?_;rw[show decide (gK (t.drop d)=46)=bc (λb=>b==46) (t.drop d) from qH 46 _];refine bh (λg=>?_)<|λg=>?_
 ·rw[bL,bO] at g;have D:x.length<40:=by have:=g.2;have:(x.length:Int)<40:=this;omega
  rw[aA ⟨g.1,D⟩] at e;obtain⟨b,ay,ah,_⟩:=oJ g.1;refine BH W (f.sc.same c) (drop_cons ah).1 λw y E=>?_;have q:=(f.same c).qZ y E;refine O7 T q.nm aQ aR λm z H=>?_;exact e (oT ..) m (l.trans<|(KR.of c).trans<|(kZ y).trans<|l0 z)<|q.set z H
 ·have I:¬(bc (λb=>b==46) (t.drop d)=Y/\x.length<40):=λaq=>by
   rw[aq.1,show decide (((({head:=x}:bJ)).head.length:Int)<40)=Y from eN (by show(x.length:Int)<40;omega)] at g;cases g
  rw[ak I] at e;refine bg.iM (bI<|cj (QM T W<|f.nm.a.same c) bq) λw j=>bh (λh=>?_)<|λh=>?_
  ·have h:x.length<2:=by have:=df h;have:(x.length:Int)<2:=this;omega
   rw[aA h] at e;exact oG (jo T W<|f.sc.same<|c.trans j) λm ar s5 h5=>e m ar (l.trans<|KR.of<|c.trans<|j.trans s5) h5
  ·have h:¬x.length<2:=by have:=d8 h;have:¬(x.length:Int)<2:=this;omega
   rw[ak h] at e;exact e L w (l.trans<|KR.of<|c.trans j)<|f.same<|c.trans j
def abY:T.bb T.MR 6 (oK cs (λ_=>True) jP):=T.MR.aU<|pJ λH Q aa x y b h c=>by
 obtain⟨a,z,ab,ae,A,q,ag,rfl,r,_,k⟩:=h;refine⟨_,(aD (bW<|d6 (kY T) b c<|aP (pv 0)<|aj fD)<|aD (bP (pv 1) (d6 (abB T) b c<|aj<|pv 0) L)<|aC<|bW<|d6 (kY T) b c<|aP (pv 0)<|aj fD),?_⟩;unfold jP at k;refine rj k KR.rf r W (λ_ _=>fN) aB λB C f g s=>?_;refine l7<|BO (g:=pB) s f g W λah D aq E i I j t d u=>?_;refine Pj T d.nm aQ t j aR λM e l=>?_;have m:=d.set e l;have n:=i.trans<|l0 (a:=a) (au:=q) e;exact yE u n m W (λ_ _=>fN) aB λN v o p w=>w L v o p
def abZ:T.bb T.MS 4 (oK cs (λ_=>True) qB):=T.MS.aU<|pJ λH Q E nd hL g aa q=>by
 obtain⟨a,C,t,p,r,i,n,rfl,D,_,k⟩:=aa;refine⟨_,(aD (bW<|d6 (kY T) g q<|aP (pv 0)<|aj fD)<|aD (bP (pv 1) aI L)<|aC<|bw (bK de (dE (g9 T) T.cV (pv 0) (g.mono aB) ck)<|cD T.xS) (aD (bW<|dE (oH T) T.cV (pv 0) (g.mono aB) ck)<|aC<|bP (pv 1) (d6 (QK T) g q<|aj<|pv 0) L) bB),?_⟩;unfold qB at k;refine rj k KR.rf D W (λ_ _=>fN) aB λc H1 v j d=>?_;refine Pc T j.nm aQ aR λH2 l w=>?_;have f:=j.set l w;have m:=v.trans<|l0 (a:=a) (au:=i) l;have d:jU cs H a C t r i (Q .bp) E (if bc (λb=>b==32) (t.drop c)=Y then Nm.bindR (Nm.number (c+1)<|(t.drop c).drop 1) (λ(k,p,ab)=>.inr ({n with num:=k},p,ab)) else .inr ({n with num:=0},c,t.drop c)):=d;refine bg.iM (bI<|dw (hG W f.sc) bq) λI e=>?_;rw[show decide (gK (t.drop c)=32)=bc (λb=>b==32) (t.drop c) from qH 32 _];refine bh (λh=>?_)<|λh=>?_
 ·rw[aA h,oT] at d;obtain⟨b,ag,ae,_⟩:=oJ h;refine BH W (f.sc.same e) (drop_cons ae).1 λH4 s x=>?_;have y:=(f.same e).qZ s x;have z:=m.trans<|(KR.of e).trans<|kZ (nm:=r) (au:=i) s;refine vY<|QL (g:=Nm.number) d z y W λah p5 H5 A o M=>?_;refine Pb T o.nm aQ aR λN u B=>?_;exact M L N (A.trans<|l0 u)<|o.set u B
 ·rw[ak (by rw[h];decide)] at d;exact d L I (m.trans<|KR.of e)<|f.same e
def QN(cs:Cs):Sp:=λd H Q _=>∃a e t p b n,d=[.ref a,.ref b]/\cg cs H a e t p/\cy cs H b n/\∀c,J H c->Q (.bl<|decide (t.drop p=[])&&decide (n.abbr=0)) c
def QO:T.bb T.MZ 2 (QN cs):=T.MZ.aU<|bN λH Q E f g b h=>by
 obtain⟨a,i,t,p,j,n,rfl,c,d,k⟩:=h;refine⟨_,(aC<|aK<|ie (dE (BD T) T.cV (pv 0) (b.mono aB) ck)<|ic<|gw de (aJ<|pv 1) aI),?_⟩;exact G.ret (jB (BG W c) λl e _=>dw (yG T W<|d.same e) bq) k
def QP(e:SN cs H a pt t p nm au n)(h:G u U H (.ref a))(f:∀b,J H b->G v U b (.ref nm)):G (cA (QN cs) [] E<|aN u<|aN v aW) U H (.bl<|decide (t.drop p=[])&&decide (n.abbr=0)):=λQ k=>
 h _ λb c=>f b c _ λj d=>⟨a,pt,t,p,nm,n,L,e.sc.same<|c.trans d,e.nm.a.same<|c.trans d,λg i=>k g<|c.trans<|d.trans i⟩
def Gs:List ao:=["","cf.","aff.","x ","subsp.","var.","f."]
def ab0:∀n<7,(Gs[n]?).map tl=O (Nm.telling (n:Nat)):=by decide+kernel
def ab1:∀n<7,(Nm.telling (n:Nat)).length<=10:=by decide+kernel
def ab3(h:0<=q/\q<=6):∃x:ao,ij (Gs.map V.str) q=O (.str x)/\tl x=Nm.telling q/\(Nm.telling q).length<=10:=by
 obtain⟨n,rfl⟩:=zu h.1;have a:n<7:=by omega
 obtain⟨x,b,e⟩:=rQ.mp<|ab0 n a;exact⟨x,fJ (j:=n) (by rw[eU,b];rfl),e,ab1 n a⟩
def QQ(K:bj)(cs:Cs):Sp:=λd H Q E=>∃a c t p m,∃b:List Int,d=[.ref a,.ref m]/\cg cs H a c t p/\(∀H,cO K H m<|b.map V.int)/\(∀q∈b,0<=q/\q<=6)/\Gb cs H a c t Q E (Nm.marked b p<|t.drop p)
def QR:T.bb T.MT 4 (QQ K cs):=T.MT.aU<|om ["scanner","marks","mark"] λH Q ah I hL r aa s=>by
 obtain⟨a,M,t,p,m,c,rfl,g,u,C,k⟩:=aa;refine⟨_,(aD (iH s.own L (DC<|pv 1) (d7 2 I)<|aC<|bw (cN<|jx (yC T) T.cV (pv 0) (r.mono aB) ck<|aj<|bT sI (kR T.X2)<|pv 2) (aD (bW<|d6 (kY T) r s<|aP (pv 0)<|aj<|bT sI (kR T.Lm)<|pv 2)<|aC<|aK<|pv 2) bB)<|aC<|aK aI),?_⟩;refine sq ⟨_,L,m,L,⟨_,u H⟩,?_⟩;refine IG (K:=K) (a:=m) (xs:=c.map V.int) (λi U b=>(∃v,U=[O (.ref a),O<|.ref m,v])/\J H b/\Nm.marked c p (t.drop p)=Nm.marked (c.drop i) p (t.drop p)) ⟨⟨ai,L⟩,J.rf,L⟩ (λi U b _ _=>u b) ?_ ?_
 ·rintro i v U b d ⟨⟨y,rfl⟩,st,em⟩;obtain⟨q,w,rfl⟩:∃q,c[i]?=O q/\v=V.int q:=by
   rw[eU] at d;cases e:c[i]?with
   |none=>rw[e] at d;cases d
   |some ab=>rw[e] at d;exact⟨ab,L,(eh d).symm⟩
  have o:=C q<|ei w;obtain⟨aq,N,ex,lx⟩:=ab3 o;obtain⟨ar,hz,ez,lz⟩:=Fy o;rw[E6 w] at em;refine bg.iM (cS<|yD (l:=Nm.telling q) W (λ_ _=>Bc (xs:=Gs) aR N ex) aG<|g.same st) λH1 h=>bh (λj=>?_)<|λj=>?_
  ·have em:Nm.marked c p (t.drop p)=Nm.bindR (Nm.pass (mz q) p<|t.drop p) (λ(p,ae)=>.inr (q,p,ae)):=by
    rw[em];show(if _ then _ else _)=_;rw[aA j]
   rw[em] at k;have D:=g.same<|st.trans h;refine sq ⟨_,L,Bc (K:=K) (xs:=Fw) aR hz ez _ λH2 y x z=>⟨a,M,t,p,y,L,D.same x,by rw[z];omega,?_⟩⟩;rw[z];have A:=st.trans<|h.trans x;cases B:Nm.pass (mz q) p (t.drop p) with
   |inl e=>rw[B] at k;exactλb ag l hd=>k b ag (eX A l) hd
   |inr zz=>
    obtain⟨p',r'⟩:=zz;rw[B] at k;intro er H3 l E;exact G.ret W λn f=>k er n ((eX A l).trans<|bE f)<|E.same f
  ·refine⟨⟨_,L⟩,st.trans h,?_⟩;rw[em];show(if _ then _ else _)=_;rw[ak (by rw[j];decide)]
 ·rintro U b ⟨⟨y,rfl⟩,st,em⟩;rw[bH,uO<|bG _] at em;have em:Nm.marked c p (t.drop p)= .inr (0,p,t.drop p):=em;rw[em] at k;show o8 (tC<|.int 0) {nx:=λ_ b=>Q .bp b,rt:=Q} [O (.ref a),O<|.ref m,y] b;exact G.ret aQ λn f=>k L n (bE<|st.trans f)<|g.same<|st.trans f
def BQ(Inv:Hp->Prop)(h:bg c U H x)(j:∀d,J H d->x=Y->∀f:Ends,f.rt=D.rt->(∀e,Inv e->f.nx U e)->a f U d)(l:∀d,J H d->x=ax->∀f:Ends,f.rt=D.rt->(∀e,Inv e->f.nx U e)->b f U d)(k:∀e,Inv e->u D U e):cF (sA c a b) u D U H:=
 h _ λd i=>bh (λg=>j d i g {D with nx:=u D} L k)<|λg=>l d i g {D with nx:=u D} L k
def Gu(h:bc (λb=>b==44) r=Y):Nm.others (k+1) n p r=Nm.bindR (Nm.pass (aH ", ") p r) λ(p,r)=>Nm.bindR (Nm.author ax p r) λ(a,p,r)=>Nm.others k {n with authors:=n.authors++[a]} p r:=by
 rw[Nm.others,aA h]
def yH(h:(bc (λb=>b==44) r&&decide (0<k))=ax):Nm.others k n p r=Nm.bindR (Nm.pass (aH " & ") p r) λ(p,r)=>Nm.bindR (Nm.author Y p r) λ(a,p,r)=>.inr ({n with authors:=n.authors++[a]},p,r):=by
 cases k with
 |zero=>rw[Nm.others]
 |succ k=>
  rw[eN (agq k),rW] at h;rw[Nm.others,ak (by rw[h];decide)]
def dB(h:Nm.bindR x f= .inr y):∃z,x= .inr z/\f z= .inr y:=by
 cases x with
 |inl q=>cases h
 |inr z=>exact⟨z,L,h⟩
def xK:∀(k:Nat)(n:bJ)(p:Nat)(r:S)(m:bJ)(a:Nat)(c:S),Nm.others k n p r= .inr (m,a,c)->m.paren=n.paren
 |0,n,p,r,m,a,c,h=>by
  rw[yH aT] at h;obtain⟨⟨g,i⟩,_,h⟩:=dB h;obtain⟨⟨d,e,f⟩,_,h⟩:=dB h;cases h;rfl
 |k+1,n,p,r,m,a,c,h=>by
  cases j:bc (λb=>b==44) r with
  |true=>
   rw[Gu j] at h;obtain⟨⟨g,i⟩,_,h⟩:=dB h;obtain⟨⟨d,e,f⟩,_,h⟩:=dB h;have:=xK k {n with authors:=n.authors++[d]} e f m a c h;exact this
  |false=>
   rw[yH (by rw[j];rfl)] at h;obtain⟨⟨g,i⟩,_,h⟩:=dB h;obtain⟨⟨d,e,f⟩,_,h⟩:=dB h;cases h;rfl
def Au(h:gJ n p r= .inr (m,i,j)):m.paren=n.paren:=by
 unfold gJ at h;obtain⟨⟨c,d,e⟩,_,h⟩:=dB h;obtain⟨⟨b,f,g⟩,a,h⟩:=dB h;obtain⟨⟨k,l⟩,_,h⟩:=dB h;obtain⟨⟨y,o,q⟩,_,h⟩:=dB h;cases h;show b.paren=n.paren;split at a
 ·obtain⟨⟨s,t⟩,_,a⟩:=dB a;cases a;rfl
 ·split at a
  ·have:=xK (7-(n.authors.length+1)) {n with authors:=n.authors++[c]} d e b f g a;exact this
  ·cases a;rfl
def ab4:T.bb T.MV 5 (oK cs (λn=>n.authors.length<=8) λn p r=>Nm.others (7-n.authors.length) n p r):=T.MV.aU<|pJ λH ab ae nd hL e ag f=>by
 obtain⟨a,A,t,p,i,g,n,rfl,sn,M,ah⟩:=ag;refine⟨_,(aD (o9 f.own (PW.pt<|iF (bK de (dE (g9 T) T.cV (pv 0) (e.mono aB) ck)<|cD T.XJ)<|iE<|bK f9 (b6 cB aZ T.cn cq<|aj<|aJ<|pv 1)<|cP iY (cD T.Lj) aI)<|aD (bW<|d6 (kY T) e f<|aP (pv 0)<|aj fD)<|aC<|bW<|eK eL jJ jK jj (aJ<|pv 1)<|aj<|d6 (Gk T) e f<|aP (pv 0)<|aj jN)<|aD (bW<|d6 (kY T) e f<|aP (pv 0)<|aj fD)<|aC<|bW<|eK eL jJ jK jj (aJ<|pv 1)<|aj<|d6 (Gk T) e f<|aP (pv 0)<|aj jN),?_⟩;refine vM (λσ' j=>σ'=[O (.ref a),O<|.ref i]/\∃k u,KR (R3 a i g) H j/\SN cs j a A t u i g k/\k.authors.length<=8/\jU cs H a A t i g (ab .bp) ae (Nm.others (7-k.authors.length) k u<|t.drop u)) (λ_ j=>7-yo g j) ⟨L,n,p,KR.rf,sn,M,ah⟩ ?_;rintro σ' H1 ⟨rfl,b,B,z,d,ar,l⟩;obtain⟨av,N,E⟩:=d.nm.au;have Q:yo g H1=b.authors.length:=by rw[Bt N,bH,E]
 refine⟨_,iq (bI<|dw (hG W d.sc) bq) λH2 c _=>bI<|cj (abV T W<|d.nm.same c) λ_ _=>cj aQ bq,λH2 c=>?_⟩;rw[show decide (gK (t.drop B)=44)=bc (λaq=>aq==44) (t.drop B) from qH 44 _,show decide (((b.authors.length:Nat):Int)<8-1)=decide (0<7-b.authors.length) by apply cY.mpr;omega];refine bh (λm=>?_)<|λm=>?_
 ·rw[bL,bO] at m;rw[show 7-b.authors.length=(7-(b.authors.length+1))+1 by omega,Gu m.1] at l;refine rj l (z.trans<|KR.of c) (d.same c) W (λ_ _=>fN) aB λp3 H3 o q v=>?_;refine Gp T v o q aG W aR bq λx C D s h w=>?_;have y:({b with authors:=b.authors++[x]}:bJ).authors.length=b.authors.length+1:=by show(b.authors++[x]).length=_;rw[aV];rfl
  refine⟨⟨L,_,C,s,h,by rw[y];omega,by rw[y];exact w⟩,?_⟩;obtain⟨ay,aa,I⟩:=h.nm.au;rw[Q,Bt aa,bH,I,y];omega
 ·rw[yH m] at l;refine rj l (z.trans<|KR.of c) (d.same c) W (λ_ _=>fN) aB λp3 H3 o q v=>?_;exact Gp T v o q aG W aR bq λx C D s h w=>w L D s h
def ab5:T.bb T.MW 6 (oK cs (λn=>n.authors=[]) gJ):=T.MW.aU<|pJ λH Q E nd hL e a0 o=>by
 obtain⟨a,q,t,p,j,k,n,rfl,sn,N,ae⟩:=a0;refine⟨_,(aD (bW<|eK eL jJ jK jj (aJ<|pv 1)<|aj<|d6 (Gk T) e o<|aP (pv 0)<|aj jN)<|aD (bw (PW.pt<|iF (bK de (dE (g9 T) T.cV (pv 0) (e.mono aB) ck)<|cD T.xS)<|iE<|bK de (jx (BE T) T.cV (pv 0) (e.mono aB) ck<|aj aI)<|cD T.XM) (aD (bW<|d6 (kY T) e o<|aP (pv 0)<|aj fD)<|aC<|bP (pv 1) aI L)<|aC<|bw (PW.pt<|nR (bK de (dE (g9 T) T.cV (pv 0) (e.mono aB) ck)<|cD T.xS)<|oZ<|cN<|aO (tw T) e<|aj<|jx (BE T) T.cV (pv 0) (e.mono aB) ck<|aj aI) (aC<|bW<|d6 (ab4 T) e o<|aP (pv 0)<|aj<|pv 1) bB)<|aD (bW<|d6 (kY T) e o<|aP (pv 0)<|aj fD)<|aC<|bP (pv 1) (d6 (abP T) e o<|aj<|pv 0) L),?_⟩;unfold gJ at ae;refine abT T ae KR.rf sn (by rw[N];exact dD _) W aR bq λx c H1 aa h d=>?_;have d:jU cs H a q t j k (Q .bp) E (Nm.bindR (if bc (λb=>b==32) (t.drop c)=Y/\bc (λb=>b==101) ((t.drop c).drop 1)=Y then Nm.bindR (Nm.pass (aH " et al.") c<|t.drop c) (λ(p,r)=>.inr ({n with authors:=n.authors++[x],etal:=1},p,r))
  else if bc (λb=>b==32) (t.drop c)=Y∨bc b7 ((t.drop c).drop 2)=Y then Nm.others (7-(n.authors.length+1)) {n with authors:=n.authors++[x]} c (t.drop c)
  else .inr ({n with authors:=n.authors++[x]},c,t.drop c)) λ(n,p,r)=>Nm.bindR (Nm.pass (aH ", ") p r) λ(p,r)=>Nm.bindR (mR p r) λ(y,p,r)=>.inr ({n with year:=y},p,r)):=d
 rw[oT,oT] at d;have B:decide (gK (t.drop c)=32)=bc (λb=>b==32) (t.drop c):=qH 32 _;have M:decide (gK (t.drop<|c+1)=101)=bc (λb=>b==101) (t.drop<|c+1):=qH 101 _;refine BQ (λl=>∃n' C,KR (R3 a j k) H l/\SN cs l a q t C j k n'/\jU cs H a q t j k (Q .bp) E (Nm.bindR (Nm.pass (aH ", ") C<|t.drop C) λ(p,r)=>Nm.bindR (mR p r) λ(y,p,r)=>.inr ({n' with year:=y},p,r)))
  (iq (bI<|dw (hG W h.sc) bq) λl f _=>bI<|dw (BF (d:=1) W bq<|h.sc.same f) bq) (λl f m D' _ s=>?_) (λl f m D' _ s=>?_) ?_
 ·rw[B,M,bL] at m;rw[aA m] at d;have d:jU cs H a q t j k (Q .bp) E (Nm.bindR (Nm.pass (aH " et al.") c<|t.drop c) λ(p,r)=>Nm.bindR (Nm.pass (aH ", ") p r) λ(p,r)=>Nm.bindR (mR p r) λ(y,p,r)=>.inr ({n with authors:=n.authors++[x],etal:=1,year:=y},p,r)):=by
   cases hp:Nm.pass (aH " et al.") c (t.drop c) with
   |inl a4=>rw[hp] at d;exact d
   |inr z=>rw[hp] at d;exact d
  refine rj d (aa.trans<|KR.of f) (h.same f) W (λ_ _=>fN) aB λp3 u i g D=>?_;exact Pd T g.nm aQ aR λI v ag=>s I ⟨_,p3,i.trans<|l0 v,g.set v ag,D⟩
 ·rw[B,M] at m;have ah:¬(bc (λb=>b==32) (t.drop c)=Y/\bc (λb=>b==101) (t.drop<|c+1)=Y):=λz=>by rw[z.1,z.2] at m;cases m
  rw[ak ah] at d;refine bg.iM (pK (bI<|dw (hG W<|h.sc.same f) bq) λu w _=>cS<|g8<|BF (d:=2) W bq<|h.sc.same<|f.trans w) λu w=>?_;rw[B,ED];have i:=aa.trans<|KR.of (R:=R3 a j k)<|f.trans w;have g:=h.same<|f.trans w;refine bh (λA=>?_)<|λA=>?_
  ·rw[jH] at A;rw[aA A] at d;have hl:({n with authors:=n.authors++[x]}:bJ).authors.length=n.authors.length+1:=by show(n.authors++[x]).length=_;rw[aV];rfl
   rw[<-hl] at d;exact vX (ok:=λn=>n.authors.length<=8) (g:=λn p r=>Nm.others (7-n.authors.length) n p r) d i g (by rw[hl,N];decide) W aR λa3 p4 I _ aq ar v=>s I ⟨a3,p4,aq,ar,v⟩
  ·rw[ak (by intro z;rw[<-jH,A] at z;cases z)] at d;exact s u ⟨_,c,i,g,d⟩
 ·rintro l ⟨n2,p2,av,ay,k2⟩;refine rj k2 av ay W (λ_ _=>fN) aB λp3 u i g D=>?_;refine vY<|QL (g:=mR) D i g W λy p5 H5 az ab k5=>?_;exact Pf T ab.nm aQ aR λH6 k6 aE=>k5 L H6 (az.trans<|l0 k6)<|ab.set k6 aE
def QS:T.bb T.MX 7 (oK cs (λn=>n.authors=[]/\n.paren=0) gZ):=T.MX.aU<|pJ λH Q E nd hL o az D=>by
 obtain⟨a,j,t,p,h,i,n,rfl,l,⟨y,N⟩,k⟩:=az;refine⟨_,(aD (bw (PW.pt<|iF (bK de (dE (g9 T) T.cV (pv 0) (o.mono aB) ck)<|cD T.Lg)<|iE<|bK kF (b6 cB aZ T.cn cq<|aj<|aJ<|pv 1) aI) (aD (bW<|dE (oH T) T.cV (pv 0) (o.mono aB) ck)<|aC<|bP (pv 1) aI L) bB)<|aD (bW<|d6 (ab5 T) o D<|aP (pv 0)<|aj<|pv 1)<|aC<|bw (bK de (aJ<|pv 1) aI) (aC<|bW<|d6 (kY T) o D<|aP (pv 0)<|aj fD) bB),?_⟩;unfold gZ at k;have A:decide (gK (t.drop p)=40)=bc (λb=>b==40) (t.drop p):=qH 40 _;have I:decide (((n.e1.length:Nat):Int)>0)=decide (n.e1≠[]):=by
  apply cY.mpr;rw[<-xP];omega
 refine BQ (λf=>∃q v,KR (R3 a h i) H f/\SN cs f a j t v h i q/\q.authors=[]/\jU cs H a j t h i (Q .bp) E (Nm.bindR (gJ q v<|t.drop v) λ(m,p,r)=>if q.paren=1 then Nm.bindR (Nm.pass (aH ")") p r) λ(p,r)=>.inr (m,p,r) else .inr (m,p,r)))
  (iq (bI<|dw (hG W l.sc) bq) λf e _=>bI<|cj (Gq T W<|l.nm.a.same e) bq) (λf e c D' _ w=>?_) (λf e c D' _ w=>?_) ?_
 ·rw[A,I,bL,bO] at c;rw[aA c,oT] at k;obtain⟨b,a0,aE,_⟩:=oJ c.1;refine BH W (l.sc.same e) (drop_cons aE).1 λH3 d aa=>?_;have g:=(l.same e).qZ d aa;refine FC T g.nm aQ aR λx M ab=>w x ⟨_,p+1,(KR.of e).trans<|(kZ d).trans<|l0 M,g.set M ab,y,?_⟩;show jU cs H a j t h i (Q .bp) E (Nm.bindR (gJ {n with paren:=1} (p+1)<|t.drop<|p+1) λ(m,p,r)=>if(1:Int)=1 then Nm.bindR (Nm.pass (aH ")") p r) λ(p,r)=>.inr (m,p,r) else .inr (m,p,r));simp only[gz];exact k
 ·rw[A,I] at c;have ae:¬(bc (λb=>b==40) (t.drop p)=Y/\n.e1≠[]):=λz=>by rw[z.1,eN z.2] at c;cases c
  rw[ak ae] at k;refine w f ⟨n,p,KR.of e,l.same e,y,?_⟩;rw[N];show jU cs H a j t h i (Q .bp) E (Nm.bindR (gJ n p<|t.drop p) λ(m,p,r)=>if(0:Int)=1 then Nm.bindR (Nm.pass (aH ")") p r) λ(p,r)=>.inr (m,p,r) else .inr (m,p,r));simp only[show¬((0:Int)=1) by decide,jG];have:=yF<|gJ n p<|t.drop p;rw[<-this] at k;exact k
 ·rintro f ⟨n2,p2,ag,ah,aq,k2⟩;refine BP (ok:=λn=>n.authors=[]) (g:=gJ) k2 ag ah aq W aR λm s H3 ar B g d=>?_;have C:=Au ar;have d:jU cs H a j t h i (Q .bp) E (if n2.paren=1 then Nm.bindR (Nm.pass (aH ")") s<|t.drop s) (λ(p,r)=>.inr (m,p,r)) else .inr (m,s,t.drop s)):=d;refine bg.iM (bI<|dw (abW T W g.nm.a) bq) λx u=>bh (λc=>?_)<|λc=>?_
  ·have c:=df c;rw[aA (by rw[<-C];exact c)] at d;exact yE d (B.trans<|KR.of u) (g.same u) W (λ_ _=>fN) aB λp5 H5 av ay k5=>k5 L H5 av ay
  ·have c:=d8 c;rw[ak (by rw[<-C];exact c)] at d;exact d L x (B.trans<|KR.of u)<|g.same u
section
variable{γ:Type}{R:γ->Prop}{E:XK}{a pt nm au:af}{H0 H:Hp}{t:S}{p:Nat}{n:bJ}{U:L2.St}{u v:TE}{D:Ends}{w1:TS}
def QT(k:Og R (fA cs E a nm au H0) (Nm.bindR (Nm.marked ms p<|t.drop p) f))(l:∀q∈ms,0<=q/\q<=6)(g:KR (R3 a nm au) H0 H)(i:SN cs H a pt t p nm au n)(h:G u U H (.ref a))
  (kk:∀x b H',KR (R3 a nm au) H0 H'->SN cs H' a pt t b nm au n->Og R (fA cs E a nm au H0) (f (x,b,t.drop b))->Q (.int x) H'):cA (QQ K cs) [] E (aN u<|aN (xQ K<|ms.map V.int) aW) U H Q:=
 h _ λy c m o=>by
  refine⟨a,pt,t,p,m,ms,L,i.sc.same c,o,l,?_⟩;cases j:Nm.marked ms p (t.drop p) with
  |inl q=>rw[j] at k;exactλH' d e r=>k H' d (g.trans<|kZ<|eX c e) r
  |inr z=>
   obtain⟨x,b,A⟩:=z;rw[j] at k;intro s H' e w;subst s;exact kk x b H' (g.trans<|kZ<|eX c e) (i.qZ (eX c e) w) k
end
def ab6:∀q∈([1,2,3]:List Int),0<=q/\q<=6:=by decide
def ab7:∀q∈([1,2,4,5,6]:List Int),0<=q/\q<=6:=by decide
def ab8:T.bb T.MU 8 (oK cs (λn=>n.authors=[]/\n.paren=0) Nm.epithets):=T.MU.aU<|pJ λH Q E nd hL c ct g=>by
 obtain⟨a,o,t,p,i,d,n,rfl,sn,aS,a0⟩:=ct;refine⟨_,(aD (bP (pv 1) (d6 (QR T) c g<|aP (pv 0)<|aj<|kR T.Ln) L)<|aD (bP (pv 1) (d6 (QG T) c g<|aj<|pv 0) L)<|aD (bw (cN<|dE (BD T) T.cV (pv 0) (c.mono aB) ck) (aC Dy) bB)<|aD (bW<|d6 (kY T) c g<|aP (pv 0)<|aj fD)<|aD (bw (cN<|aO (tu T) c<|aj<|dE (g9 T) T.cV (pv 0) (c.mono aB) ck) (aD (bP (pv 1) (d6 (QR T) c g<|aP (pv 0)<|aj<|kR T.Lo) L)<|aD (bP (pv 1) (d6 (QG T) c g<|aj<|pv 0) L)<|aD (bw (cN<|dE (BD T) T.cV (pv 0) (c.mono aB) ck) (aC Dy) bB)<|aC<|bW<|d6 (kY T) c g<|aP (pv 0)<|aj fD) bB)<|aC<|bW<|d6 (QS T) c g<|aP (pv 0)<|aj<|pv 1),?_⟩;unfold Nm.epithets at a0;refine l7<|QT (ms:=[1,2,3]) a0 ab6 KR.rf sn W λq p1 H1 a9 ag k1=>?_;refine O9 T ag.nm aQ aR λy ah bk=>?_;have C:=ag.set ah bk;have D:=a9.trans<|l0 (a:=a) (au:=d) ah;refine l7<|BO (g:=Nm.epithet) k1 D C W λx j cL H3 I nb bl hx v e=>?_;refine FE T v.nm aQ hx bl aR λH4 aq bx=>?_;have M:=v.set aq bx;have ar:=I.trans<|l0 (a:=a) (au:=d) aq;have e:jU cs H a o t i d (Q .bp) E (if t.drop j=[] then .inr ({n with q1:=q,e1:=x},j,t.drop j) else Nm.bindR (Nm.pass (aH " ") j<|t.drop j) λ(p,r)=>
   if bc bD r=Y then Nm.bindR (Nm.marked [1,2,4,5,6] p r) λ(f,p,r)=>Nm.bindR (Nm.epithet p r) λ(s,p,r)=>
    if r=[] then .inr ({n with q1:=q,e1:=x,q2:=f,e2:=s},p,r) else Nm.bindR (Nm.pass (aH " ") p r) λ(p,r)=>gZ {n with q1:=q,e1:=x,q2:=f,e2:=s} p r
   else gZ {n with q1:=q,e1:=x} p r):=e
 refine bg.bU (cS<|BG W M.sc) λH5 z=>bh (λb=>?_)<|λb=>?_
 ·have b:=df b;rw[aA b] at e;exact e L H5 (ar.trans<|KR.of z)<|M.same z
 rw[ak (d8 b)] at e;refine rj e (ar.trans<|KR.of z) (M.same z) W (λ_ _=>fN) aB λk H6 av N l=>?_;have l:jU cs H a o t i d (Q .bp) E (if bc bD (t.drop k)=Y then Nm.bindR (Nm.marked [1,2,4,5,6] k<|t.drop k) (λ(f,p,r)=>Nm.bindR (Nm.epithet p r) λ(s,p,r)=>
    if r=[] then .inr ({n with q1:=q,e1:=x,q2:=f,e2:=s},p,r) else Nm.bindR (Nm.pass (aH " ") p r) λ(p,r)=>gZ {n with q1:=q,e1:=x,q2:=f,e2:=s} p r)
   else gZ {n with q1:=q,e1:=x} k (t.drop k)):=l
 refine BQ (λy=>∃A p',KR (R3 a i d) H y/\SN cs y a o t p' i d A/\(A.authors=[]/\A.paren=0)/\jU cs H a o t i d (Q .bp) E (gZ A p'<|t.drop p')) (cS<|g8<|hG W N.sc) (λH7 u b D' b0 kd=>?_) (λH7 u b D' _ kd=>?_) ?_
 ·rw[xO] at b;rw[aA b] at l;refine l7<|QT (ms:=[1,2,4,5,6]) l ab7 (av.trans<|KR.of u) (N.same u) W λf p8 H8 b1 ay k8=>?_;refine Pa T ay.nm aQ aR λH9 az b2=>?_;have b3:=ay.set az b2;have b4:=b1.trans<|l0 (a:=a) (au:=d) az;refine l7<|BO (g:=Nm.epithet) k8 b4 b3 W λx' m b' cv a3 cC a4 b5 aa h=>?_;refine Pl T aa.nm aQ b5 a4 aR λcE ab a5=>?_;have B:=aa.set ab a5;have ae:=a3.trans<|l0 (a:=a) (au:=d) ab;have h:jU cs H a o t i d (Q .bp) E (if t.drop m=[] then .inr ({n with q1:=q,e1:=x,q2:=f,e2:=x'},m,t.drop m) else Nm.bindR (Nm.pass (aH " ") m<|t.drop m) λ(p,r)=>gZ {n with q1:=q,e1:=x,q2:=f,e2:=x'} p r):=h;refine bg.bU (cS<|BG W B.sc) λaE w=>bh (λb=>?_)<|λb=>?_
  ·rw[aA (df b)] at h;show D'.rt .bp aE;rw[b0];exact h L aE (ae.trans<|KR.of w)<|B.same w
  ·rw[ak (d8 b)] at h;exact yE h (ae.trans<|KR.of w) (B.same w) W (λ_ _=>fN) aB λcc cm a6 a7 cp=>kd cm ⟨_,cc,a6,a7,aS,cp⟩
 ·rw[xO] at b;rw[ak (by rw[b];decide)] at l;exact kd H7 ⟨_,k,av.trans<|KR.of u,N.same u,aS,l⟩
 ·rintro y ⟨n2,p2,D,C,a8,k2⟩;have:=yF<|gZ n2 p2<|t.drop p2;rw[<-this] at k2;exact vX (ok:=λn=>n.authors=[]/\n.paren=0) (g:=gZ) k2 D C a8 W aR λc0 j H3 _ I v e=>e L H3 I v
def ab9:T.bb T.MY 9 (oK cs (λn=>n.authors=[]/\n.paren=0) Nm.rest):=T.MY.aU<|pJ λH Q E y z c h o=>by
 obtain⟨a,A,t,p,B,C,n,rfl,e,aS,k⟩:=h;refine⟨_,(aC<|bw (cN<|jx (yC T) T.cV (pv 0) (c.mono aB) ck<|aj fD) (aC<|bW<|d6 (abZ T) c o<|aP (pv 0)<|aj<|pv 1)<|aC<|bw (cN<|aO (tu T) c<|aj<|dE (g9 T) T.cV (pv 0) (c.mono aB) ck) (aC<|bW<|d6 (ab8 T) c o<|aP (pv 0)<|aj<|pv 1)<|aC<|bw (bK de (aJ<|pv 1) aI) (aC<|bW<|d6 (QS T) c o<|aP (pv 0)<|aj<|pv 1)<|aC<|oF T o L (c.mono aB)<|aj<|aJ<|pv 0),?_⟩;unfold Nm.rest at k;refine bg.iM (cS<|yD (l:=aH "sp.") W (λ_ _=>fN) aB e.sc) λD q=>bh (λb=>?_)<|λb=>?_
 ·rw[aA b] at k;rw[<-yF (qB n p<|t.drop p)] at k;exact vX (ok:=λ_=>True) (g:=qB) k (KR.of q) (e.same q) trivial W aR λm s g _ i j l=>l L g i j
 rw[ak (by rw[b];decide)] at k;refine bg.iM (cS<|g8<|hG W<|e.sc.same q) λI u=>?_;rw[xO];have f:=q.trans u;refine bh (λb=>?_)<|λb=>?_
 ·rw[aA b] at k;rw[<-yF (Nm.epithets n p<|t.drop p)] at k;exact vX (ok:=λn=>n.authors=[]/\n.paren=0) (g:=Nm.epithets) k (KR.of f) (e.same f) aS W aR λm s g _ i j l=>l L g i j
 rw[ak (by rw[b];decide)] at k;refine bg.iM (bI<|dw (yG T W<|e.nm.a.same f) bq) λg r=>bh (λb=>?_)<|λb=>?_
 ·rw[aA (df b)] at k;rw[<-yF (gZ n p<|t.drop p)] at k;exact vX (ok:=λn=>n.authors=[]/\n.paren=0) (g:=gZ) k (KR.of<|f.trans r) (e.same<|f.trans r) aS W aR λm s g _ i j l=>l L g i j
 ·rw[ak (d8 b)] at k;exact oG (jo T W<|e.sc.same<|f.trans r) λv d w x=>k v d (KR.of<|f.trans<|r.trans w) x
def aca(l:G m U H (.ref pt))(n:aY H pt t)
  (k:∀c a,J H c->H a=ai->cg cs c a pt t 0->u D (U.set i<|O<|.ref a) c):cF (nT (iZ cs.gf (Qv cs) [] E<|aN m aW)<|fV i) u D U H:=
 l _ λc g x d f j gc=>by
  have st:J c (upd (upd c d<|.own x) x<|.ins cs.gf d []):=λb o e=>by rw[aX (bA e f),aX<|bA e j];exact e
  exact⟨x,d,pt,L,ba,λp h q=>⟨L,k p x (g.trans<|h.same st f) (g.free f) ⟨d,q,h.same st f _ _ (g _ _ n),dD _⟩⟩⟩
def acb(cs:Cs)(H:Hp)(Q:VK)(E:XK):Nat⊕bJ->Prop:=Og (λn=>∀a b,J H a->H b=ai->cy cs a b n->Q (.ref b) a)<|Rz cs E<|J H
def acd(cs:Cs):Sp:=λb H Q E=>∃a t,b=[.ref a]/\aY H a t/\acb cs H Q E (Nm.name t)
def ace(h:Nm.headOf p r= .inr (m,a,b)):m.authors=[]/\m.paren=0:=by
 unfold Nm.headOf at h;obtain⟨⟨x,c,d⟩,_,h⟩:=dB h;have h:(if _ then _ else _)=_:=h;split at h
 ·cases h;exact⟨L,L⟩
 ·split at h
  ·cases h
  ·cases h;exact⟨L,L⟩
def acf(h:jP n p r= .inr (m,a,b)):m.authors=n.authors/\m.paren=n.paren:=by
 unfold jP at h;obtain⟨⟨c,d⟩,_,h⟩:=dB h;obtain⟨⟨x,e,f⟩,_,h⟩:=dB h;obtain⟨⟨g,i⟩,_,h⟩:=dB h;cases h;exact⟨L,L⟩
def Gv:T.bb T.vw 10 (acd cs):=T.vw.aU<|om ["text","scanner","name"] λH Q E nd hL i aa u=>by
 obtain⟨pt,t,rfl,ht,ab⟩:=aa;refine⟨_,(aD (cw 1 nd<|yb (AL T) T.Yf i<|aj<|pv 0)<|aD (cw 2 nd<|oj (vG T) T.EV i)<|aD (bW<|d6 (abX T) i u<|aP (pv 1)<|aj<|pv 2)<|aD (bw (cN<|aO (QO T) i<|aP (pv 1)<|aj<|pv 2) (aC<|aK<|pv 2) bB)<|aD (bW<|d6 (kY T) i u<|aP (pv 1)<|aj fD)<|aD (bw (bK de (dE (g9 T) T.cV (pv 1) (i.mono aB) ck)<|cD T.Lg) (aD (bW<|d6 (abY T) i u<|aP (pv 1)<|aj<|pv 2)<|aD (bw (cN<|aO (QO T) i<|aP (pv 1)<|aj<|pv 2) (aC<|aK<|pv 2) bB)<|aC<|bW<|d6 (kY T) i u<|aP (pv 1)<|aj fD) bB)<|aD (bW<|d6 (ab9 T) i u<|aP (pv 1)<|aj<|pv 2)<|aD (bw (eJ<|cN<|dE (BD T) T.cV (pv 1) (i.mono aB) ck) (aC<|oF T u L (i.mono aB)<|aj<|aJ<|pv 1) bB)<|aC<|aK<|pv 2),?_⟩;unfold Nm.name at ab;refine aca (cs:=cs) W ht λH1 a s1 na a4=>?_;refine FF λj c g s2 nn a5 a6=>?_;have m2:=s1.trans s2;have av:H c=ai:=s1.free nn;have ar:H g=ai:=s1.free a5;have a7:SN cs j a pt t 0 c g {}:=⟨a4.same s2,a6,bA ht ar⟩;have sm:∀{d},KR (R3 a c g) j d->J H d:=λA b b2 e=>A b b2 (m2 _ _ e) λz=>by
  rcases z with z|z|z
  ·rw[z,na] at e;cases e
  ·rw[z,av] at e;cases e
  ·rw[z,ar] at e;cases e
 have RR:∀(n:bJ),(∀d c,J H d->H c=ai->cy cs d c n->Q (.ref c) d)->∀d,KR (R3 a c g) j d->∀p,SN cs d a pt t p c g n->Q (.ref c) d:=λn kq d A p sn=>kq d c (sm A) av sn.nm.a;have ab:Og (λn=>∀d c,J H d->H c=ai->cy cs d c n->Q (.ref c) d) (fA cs E a c g j) (Nm.bindR (Nm.headOf 0<|t.drop 0) λ(n,p,r)=>if r=[]/\n.abbr=0 then .inr n else Nm.bindR (Nm.pass (aH " ") p r) λ(p,r)=>
  if bc (λb=>b==40) r=Y then Nm.bindR (jP n p r) λ(n,p,r)=>if r=[]/\n.abbr=0 then .inr n else Nm.bindR (Nm.pass (aH " ") p r) λ(p,r)=>Nm.fin<|Nm.rest n p r
  else Nm.fin (Nm.rest n p r)):=by
  have a8:∀{γ:Type}{R:γ->Prop}{ae:Nat⊕γ},Og R (Rz cs E<|J H) ae->Og R (fA cs E a c g j) ae:=λ{γ R ae} aa=>by
   cases ae with
   |inl b4=>exact Rz.mono aa λd A=>sm A
   |inr b5=>exact aa
  exact a8 ab
 refine BP (ok:=λn=>n={}) (g:=λ_ p r=>Nm.headOf p r) ab KR.rf a7 L W aR λo I H3 hh ay ah v=>?_;have ag:=ace hh;have v:Og (λn=>∀d c,J H d->H c=ai->cy cs d c n->Q (.ref c) d) (fA cs E a c g j) (if t.drop I=[]/\o.abbr=0 then .inr o else Nm.bindR (Nm.pass (aH " ") I<|t.drop I) λ(p,r)=>
  if bc (λb=>b==40) r=Y then Nm.bindR (jP o p r) λ(n,p,r)=>if r=[]/\n.abbr=0 then .inr n else Nm.bindR (Nm.pass (aH " ") p r) λ(p,r)=>Nm.fin<|Nm.rest n p r
  else Nm.fin (Nm.rest o p r)):=v
 refine bg.bU (cS<|QP ah W aR) λH4 M=>bh (λf=>?_)<|λf=>?_
 ·rw[bL,bO,bO] at f;rw[aA f] at v;exact G.ret W λN s5=>RR o v N (ay.trans<|KR.of<|M.trans s5) I<|ah.same<|M.trans s5
 rw[ak (by intro z;rw[eN z.1,eN z.2] at f;cases f)] at v;refine rj v (ay.trans<|KR.of M) (ah.same M) W (λ_ _=>fN) aB λk N az aq w=>?_;have w:Og (λn=>∀d c,J H d->H c=ai->cy cs d c n->Q (.ref c) d) (fA cs E a c g j) (if bc (λb=>b==40) (t.drop k)=Y then Nm.bindR (jP o k<|t.drop k) λ(n,p,r)=>if r=[]/\n.abbr=0 then .inr n else Nm.bindR (Nm.pass (aH " ") p r) λ(p,r)=>Nm.fin<|Nm.rest n p r
  else Nm.fin (Nm.rest o k<|t.drop k)):=w
 refine BQ (λx=>∃n' p',KR (R3 a c g) j x/\SN cs x a pt t p' c g n'/\(n'.authors=[]/\n'.paren=0)/\Og (λn=>∀d c,J H d->H c=ai->cy cs d c n->Q (.ref c) d) (fA cs E a c g j) (Nm.fin<|Nm.rest n' p'<|t.drop p')) (bI<|dw (hG W aq.sc) bq) (λx B f D' a9 kd=>?_) (λx B f D' _ kd=>?_) ?_
 ·rw[show decide (gK (t.drop k)=40)=bc (λb=>b==40) (t.drop k) from qH 40 _] at f;rw[aA f] at w;refine BP (ok:=λ_=>True) (g:=jP) w (az.trans<|KR.of B) (aq.same B) trivial W aR λl q H7 bk y s h=>?_;have aE:=acf bk;have a0:l.authors=[]/\l.paren=0:=⟨aE.1.trans ag.1,aE.2.trans ag.2⟩;have h:Og (λn=>∀d c,J H d->H c=ai->cy cs d c n->Q (.ref c) d) (fA cs E a c g j) (if t.drop q=[]/\l.abbr=0 then .inr l else Nm.bindR (Nm.pass (aH " ") q<|t.drop q) λ(p,r)=>Nm.fin<|Nm.rest l p r):=h;refine bg.bU (cS<|QP s W aR) λH8 m=>bh (λf=>?_)<|λf=>?_
  ·rw[bL,bO,bO] at f;rw[aA f] at h;refine G.ret W λC D=>?_;rw[a9];exact RR l h C (y.trans<|KR.of<|m.trans D) q<|s.same<|m.trans D
  ·rw[ak (by intro z;rw[eN z.1,eN z.2] at f;cases f)] at h;exact yE h (y.trans<|KR.of m) (s.same m) W (λ_ _=>fN) aB λp9 C bl bx k9=>kd C ⟨l,p9,bl,bx,a0,k9⟩
 ·rw[show decide (gK (t.drop k)=40)=bc (λb=>b==40) (t.drop k) from qH 40 _] at f;rw[ak (by rw[f];decide)] at w;exact kd x ⟨o,k,az.trans<|KR.of B,aq.same B,ag,w⟩
 ·rintro x ⟨n6,p6,b0,b1,a3,k6⟩;unfold Nm.fin at k6;refine BP (ok:=λn=>n.authors=[]/\n.paren=0) (g:=Nm.rest) k6 b0 b1 a3 W aR λl q H7 _ y s h=>?_;have h:Og (λn=>∀d c,J H d->H c=ai->cy cs d c n->Q (.ref c) d) (fA cs E a c g j) (if t.drop q=[] then .inr l else .inl q):=h;refine bg.bU (eM<|cS<|BG W s.sc) λH8 m=>bh (λf=>?_)<|λf=>?_
  ·rw[dZ] at f;rw[ak (d8 f)] at h;exact oG (jo T W<|s.sc.same m) λN b3 s5 h5=>h N b3 (y.trans<|KR.of<|m.trans s5) h5
  ·rw[eG] at f;rw[aA (df f)] at h;exact G.ret W λC D=>RR l h C (y.trans<|KR.of<|m.trans D) q<|s.same<|m.trans D
def Gw(h:G t U H (.ref a))(c:H a=O (.ext<|lR a C<|O d))(e:H d=O (.xd [("place",q)])):G (Eh C t "place") U H q:=λQ k=>
 h _ λf b=>⟨a,d,_,q,L,b _ _ c,b _ _ e,L,k f b⟩
def BR(g:Nm.Good n):dF ([n.head,n.sub,n.e1,n.e2]++n.authors)<=600:=by
 rw[Bp];have e:∀b:List S,(∀a∈b,a.length<=40)->dF b<=44*b.length:=by
  intro b;induction b with
  |nil=>intro _;exact bG _
  |cons l r f=>
   intro h;have d:=f λa c=>h a<|dS _ c;have i:=h l<|dY ..;unfold dF at d⊢;rw[cM,mD,bV];omega
 have d:=e [n.head,n.sub,n.e1,n.e2] (by
  intro a c;simp only[dN,nL,y4] at c;rcases c with rfl|rfl|rfl|rfl
  ·exact g.head.2
  ·exact g.sub
  ·exact g.e1
  ·exact g.e2)
 have i:=e n.authors g.kP;have:=g.au;have j:([n.head,n.sub,n.e1,n.e2]:List S).length=4:=rfl;rw[j] at d;omega
def fO.BS(g:Nm.Good n):fO n:=by
 have h:=BR g;rw[Bp] at h;exact⟨g.q1,g.q2,g.num.2,λ_=>g.year,by have:=g.head;omega,by have:=g.sub;omega,by have:=g.e1;omega,by have:=g.e2;omega,aG⟩
def acg(cs:Cs):Sp:=λb H Q _=>∃a t,b=[.ref a]/\aY H a t/\eS H Q (zs (match mB t with
 |.inl i=>[-1-(i:Int)]
 |.inr n=>0::qr n))
def ach:T.bb T.M0 11 (acg cs):=T.M0.aU<|cW ["text","name","wrong"] λH Q E s y b h=>by
 obtain⟨u,t,rfl,v,k⟩:=h;refine⟨_,(aD (F9 T (Gv T) s L (nG L) L L (i:=1) (j:=2) (b.mono aB) (aj<|pv 0)<|λ_=>(aC<|aK<|bQ<|aj<|cP iY (du dv aI)<|F7 T<|pv 2))<|aC<|aK<|aO (Pu T) b<|aj<|pv 1),?_⟩;refine sq ⟨_,L,u,t,L,v,?_⟩;have b:=vw t;cases e:Nm.name t with
 |inl q=>
  rw[b,e] at k;intro f d c w;refine⟨L,λa x=>?_⟩;have st:J f (upd f a<|.ext<|lR a cs.jR<|O d):=J.new x;refine aL.ret (eW<|cj (dA aQ) λz o=>Gw W (o _ _ ba)<|o _ _ (st _ _ w)) λi r j l m=>k i r (c.trans<|st.trans j) ((c.trans st).free l) m
 |inr n=>
  rw[b,e] at k;intro f A c nn p;have g:=vD<|b.trans e;have B:=BR g;refine aL.ret (Pw W p aG) λi r j l m=>k i r (c.trans j) (c.free l) m
def QU:V->V->Hp->VK->Prop:=λx y H Q=>∃(p q:af)(l:S)(a:List S),x=V.ref q/\y=V.ref p/\aY H q l/\cU H p a/\Q (.bl<|a.contains l) H
def BU(H:Hp)(l:S):aw->Bool
 |.ref a=>decide (jS H (.ref a)=l)
 |_=>ax
def QV:∀(as:List af)(us:List aw),Vals (as.map V.ref) us->us=as.map dC
 |[],us,r=>by cases r;rfl
 |a::as,us,r=>by
  cases r with
  |cons b c=>cases b;rw[QV as _ c];rfl
def Gx(l:S):(fi l).depth=1:=by
 show w6 _+1=1;rw[FR]
def aci(f:X.A.units+64<i7):eZ X (hW .In) QU:=by
 intro ab s U H ae ag v u ah I j m h;obtain⟨aq,q,l,n,rfl,rfl,o,p,k⟩:=h;cases j;cases m;obtain⟨t,x,y,z⟩:=p.by;obtain⟨b,r,A,hz⟩:=I.list<|aM.of x;have e:=QV t b r;obtain⟨g,B⟩:=Dp.reads I (fi l) (.ref q) (.ref q) (tR o) L;refine afj (BU H l) A.isList (λw d=>?_) ⟨.bl _,H,I,L,?_⟩
 ·have d:w∈b:=by simpa using d
  rw[e] at d;obtain⟨a,c,rfl⟩:=iz.mp d;obtain⟨a',C,D⟩:=z (.ref a)<|zx c;cases C;obtain⟨i,E⟩:=Dp.reads I (fi<|jS H<|.ref a) (.ref a) (.ref a) (tR D) L;have:=SeqAt.eqAt_reads (fi<|jS H<|.ref a) (fi l) X.A.in1 s (.ref a) (.ref q) i g E B (Uq<|tS _) (Uq<|tS _) (by
   have M:(fi<|jS H<|.ref a).depth=1:=Gx _;have N:(fi l).depth=1:=Gx _;rw[M,N];show X.A.units+1+1<i7;omega)
  rw[Bv] at this;exact this
 ·have aa:b.toArray.any (BU H l)=n.contains l:=by
   rw[show b.toArray.any (BU H l)=b.any (BU H l) by simp,e,<-y,j0,si,T3];simp only[iz];constructor
   ·rintro⟨u,⟨a,c,rfl⟩,f⟩;exact⟨.ref a,⟨a,c,L⟩,df f⟩
   ·rintro⟨v,⟨a,c,rfl⟩,Q⟩;exact⟨.ref a,⟨a,c,L⟩,eN Q⟩
  rw[<-aa] at k;exact k
def QW:∀(r x:S),foldable x=Y->foldable (dI x r).1=Y
 |[],x,h=>h
 |b::r,x,h=>by
  show foldable (if ft x b=Y then dI (x++[b]) r else(x,b::r)).1=Y;by_cases a:ft x b=Y
  ·rw[aA a];refine QW r _ ?_;unfold foldable at h⊢;rw[List.all_append,h,uJ,rP,agi,rW];unfold ft at a;by_cases c:b=45
   ·rw[c];decide
   ·rw[ak c,bL] at a;rw[a.1];rfl
  ·rw[ak a];exact h
def QX(h:Nm.epithet p r= .inr (x,a,b)):foldable x=Y:=by
 unfold Nm.epithet at h;split at h
 ·cases h
 ·cases h;exact QW r [] L
def Es(m n:bJ):Prop:=m.e1=n.e1/\m.e2=n.e2
def QY:∀(k:Nat)(n:bJ)(p:Nat)(r:S)(m:bJ)(a:Nat)(c:S),Nm.others k n p r= .inr (m,a,c)->Es m n
 |0,n,p,r,m,a,c,h=>by
  rw[yH aT] at h;obtain⟨⟨g,i⟩,_,h⟩:=dB h;obtain⟨⟨d,e,f⟩,_,h⟩:=dB h;cases h;exact⟨L,L⟩
 |k+1,n,p,r,m,a,c,h=>by
  cases j:bc (λb=>b==44) r with
  |true=>
   rw[Gu j] at h;obtain⟨⟨g,i⟩,_,h⟩:=dB h;obtain⟨⟨d,e,f⟩,_,h⟩:=dB h;have:=QY k {n with authors:=n.authors++[d]} e f m a c h;exact this
  |false=>
   rw[yH (by rw[j];rfl)] at h;obtain⟨⟨g,i⟩,_,h⟩:=dB h;obtain⟨⟨d,e,f⟩,_,h⟩:=dB h;cases h;exact⟨L,L⟩
def QZ(h:gJ n p r= .inr (m,i,j)):Es m n:=by
 unfold gJ at h;obtain⟨⟨c,d,e⟩,_,h⟩:=dB h;obtain⟨⟨b,f,g⟩,a,h⟩:=dB h;obtain⟨⟨k,l⟩,_,h⟩:=dB h;obtain⟨⟨y,o,q⟩,_,h⟩:=dB h;cases h;show Es b n;split at a
 ·obtain⟨⟨s,t⟩,_,a⟩:=dB a;cases a;exact⟨L,L⟩
 ·split at a
  ·have:=QY (7-(n.authors.length+1)) {n with authors:=n.authors++[c]} d e b f g a;exact this
  ·cases a;exact⟨L,L⟩
def Gy(h:gZ n p r= .inr (m,b,c)):Es m n:=by
 unfold gZ at h;split at h
 ·obtain⟨⟨d,e,f⟩,a,h⟩:=dB h;obtain⟨⟨g,i⟩,_,h⟩:=dB h;cases h;have:=QZ a;exact this
 ·exact QZ h
def Fo(n:bJ):Prop:=foldable n.e1=Y/\foldable n.e2=Y
def Es.fo(h:Es m n)(f:Fo n):Fo m:=⟨by rw[h.1];exact f.1,by rw[h.2];exact f.2⟩
def acj(f:Fo n)(h:Nm.epithets n p r= .inr (m,j,k)):Fo m:=by
 unfold Nm.epithets at h;obtain⟨⟨q,l,o⟩,_,h⟩:=dB h;obtain⟨⟨x,s,t⟩,d,h⟩:=dB h;have a:=QX d;have h:(if _ then _ else _)=_:=h;split at h
 ·cases h;exact⟨a,f.2⟩
 ·obtain⟨⟨u,v⟩,_,h⟩:=dB h;have h:(if _ then _ else _)=_:=h;split at h
  ·obtain⟨⟨g,w,y⟩,_,h⟩:=dB h;obtain⟨⟨i,z,A⟩,c,h⟩:=dB h;have b:=QX c;have h:(if _ then _ else _)=_:=h;split at h
   ·cases h;exact⟨a,b⟩
   ·obtain⟨⟨B,C⟩,_,h⟩:=dB h;have e:=Gy (n:={n with q1:=q,e1:=x,q2:=g,e2:=i}) h;exact e.fo ⟨a,b⟩
  ·have e:=Gy (n:={n with q1:=q,e1:=x}) h;exact e.fo ⟨a,f.2⟩
def ack(f:Fo n)(h:Nm.rest n p r= .inr (m,a,b)):Fo m:=by
 unfold Nm.rest at h;split at h
 ·unfold qB at h;obtain⟨⟨c,d⟩,_,h⟩:=dB h;have h:(if _ then _ else _)=_:=h;split at h
  ·obtain⟨⟨k,e,g⟩,_,h⟩:=dB h;cases h;exact f
  ·cases h;exact f
 ·split at h
  ·exact acj f h
  ·split at h
   ·exact(Gy h).fo f
   ·cases h
def acm(h:Nm.headOf p r= .inr (m,a,b)):Fo m:=by
 unfold Nm.headOf at h;obtain⟨⟨x,c,d⟩,_,h⟩:=dB h;have h:(if _ then _ else _)=_:=h;split at h
 ·cases h;exact⟨L,L⟩
 ·split at h
  ·cases h
  ·cases h;exact⟨L,L⟩
def acn(f:Fo n)(h:jP n p r= .inr (m,a,b)):Fo m:=by
 unfold jP at h;obtain⟨⟨c,d⟩,_,h⟩:=dB h;obtain⟨⟨x,e,g⟩,_,h⟩:=dB h;obtain⟨⟨i,j⟩,_,h⟩:=dB h;cases h;exact f
def Q0(f:Fo n)(h:Nm.fin (Nm.rest n p r)= .inr m):Fo m:=by
 unfold Nm.fin at h;obtain⟨⟨b,c,d⟩,a,h⟩:=dB h;have h:(if _ then _ else _)=_:=h;split at h
 ·cases h;exact ack f a
 ·cases h
def aco(h:Nm.name t= .inr n):Fo n:=by
 unfold Nm.name at h;obtain⟨⟨e,f,g⟩,c,h⟩:=dB h;have a:=acm c;have h:(if _ then _ else _)=_:=h;split at h
 ·cases h;exact a
 ·obtain⟨⟨i,j⟩,_,h⟩:=dB h;have h:(if _ then _ else _)=_:=h;split at h
  ·obtain⟨⟨k,l,m⟩,d,h⟩:=dB h;have b:=acn a d;have h:(if _ then _ else _)=_:=h;split at h
   ·cases h;exact b
   ·obtain⟨⟨o,p⟩,_,h⟩:=dB h;exact Q0 b h
  ·exact Q0 a h
def Q1:∀(r:S)(x:Nat),Ur x r≠[]
 |[],x=>by simp[Ur]
 |y::r,x=>by
  rw[Ur];cases Vbnlab.glue x y with
  |some z=>exact Q1 r z
  |none=>simp
def yI(h:jb e=Y)(a:g<3):bY e g≠[]:=λz=>by
 have:=pV<|lV h a;rw[z] at this;simp at this
def acp(h:jI l=Y):dq l≠[]:=by
 have a:=h;rw[mS] at a;simp only[bL,bO,dZ,HS,hU] at a;have d:=a.1;have g:=a.2.1.2.2;have f:(l.filter λb=>b==45).length+(l.filter λb=>b !=45).length=l.length:=by
  clear h a d g;induction l with
  |nil=>rfl
  |cons b r c=>
   by_cases e:b=45
   ·simp[oP,e] at c⊢;omega
   ·simp[oP,e] at c⊢;omega
 unfold dq;cases i:l.filter λb=>b !=45 with
 |nil=>rw[i,ly] at f;omega
 |cons b r=>rw[cM,List.foldr_cons];exact Q1 _ _
def Gz(h:∀x∈l,p x=ax):f7 l p=[]:=EK λj x a=>h x<|ei a
def GA(a:∀e∈s.epithets,jb e=Y)(c:g<=2):HV s w g=f7 s.epithets λe=>decide (bY e g=w):=by
 unfold HV;by_cases h:w=[]
 ·rw[aA h,Gz];intro e b;exact gP (by rw[h];exact yI (a e b) aG)
 ·rw[ak h];congr 1;funext e
  rw[fS]
def Q4(a:∀e∈s.epithets,jb e=Y)(c:g<=2):HW s w g=f7 s.epithets λe=>decide (dq (bY e g)=dq w)&&!decide (bY e g=w):=by
 unfold HW;by_cases h:w=[]
 ·rw[aA h,Gz];intro e b;rw[h,gP (show¬dq (bY e g)=dq [] from acp (lV (a e b) aG))];rfl
 ·rw[ak h];congr 1;funext e
  rw[af0,bne,fS,fS]
def GB(a:∀e∈s.epithets,jb e=Y)(b:g<=2):
  oU s g w=if 0<(f7 s.epithets λe=>decide (bY e g=w)).length then w else match s.epithets.find? λe=>(fQ e).contains w with
   |some e=>bY e g
   |none=>w:=by
 unfold oU;rw[GA a b];have c:(λe:w8=>Ue.any λg=>bY e g==w)=λe=>(fQ e).contains w:=by
  funext e
  show((bY e 0==w)||((bY e 1==w)||((bY e 2==w)||false)))=(fQ e).contains w;rw[j0,si];unfold fQ;simp only[wL,jH,fB,dN,nL,y4];constructor
  ·rintro(z|z|z)
   ·exact .inl z.symm
   ·exact .inr<|.inl z.symm
   ·exact .inr<|.inr z.symm
  ·rintro(z|z|z)
   ·exact .inl z.symm
   ·exact .inr<|.inl z.symm
   ·exact .inr<|.inr z.symm
 rw[c];by_cases h:f7 s.epithets (λe=>decide (bY e g=w))=[]
 ·rw[ak (by intro z;exact z h),ak (by rw[h];simp)];cases s.epithets.find? (λe=>(fQ e).contains w)<;>rfl
 ·rw[aA h,aA<|wY.mpr h]
def acq(a:∀e∈s.epithets,jb e=Y)(d:g<=2):oU s g []=[]:=by
 rw[GB a d,Gz<|λe f=>gP<|yI (a e f) aG];rw[ak aT];cases c:s.epithets.find? λe=>(fQ e).contains [] with
 |none=>rfl
 |some e=>
  exfalso;have b:=HX c;have:=List.find?_some c;rw[si] at this;unfold fQ at this;simp only[dN,nL,y4] at this;rcases this with z|z|z
  ·exact yI (a e b) (g:=0) aB z.symm
  ·exact yI (a e b) (g:=1) aB z.symm
  ·exact yI (a e b) (g:=2) aB z.symm
def BV(a:∀e∈s.epithets,jb e=Y)(c:g<=2)(b:w.length<=40):(oU s g w).length<=40:=by
 rw[GB a c];split
 ·exact b
 ·split
  ·rename_i e d;exact(pV<|lV (a e<|HX d) aG).1
  ·exact b
def Q5(s:eI)(w:S):zA s w=(f7 s.genera λg=>g.text==w).head?:=rfl
def Q7(h:G t U H (Bz o))(e:o=O i):G t U H (.int (i:Nat)):=by rw[e] at h;exact h
section
variable{X:Cx}{pos:cK}{e:bF}{f:ao}{ta:TE}
def Q8(b:X.K=K)(c:X.calm=Y)(h:xj X es t)(d:(wz es X.env).length=n:=by rfl)(a:(wz es X.env).findIdx? (·.1)=ai:=by rfl):PG X (.Tuple es k pos) (DA K n t):=b▸xk c h d a
def acr(a:X.K=K):u7 X (j8 K):=a▸b8
def acs(a:X.K=K)(b:PE X e ta)(c:rN e f X.env (eval e X.env)=eval e X.env):PE X (.Attribute e f pos) (cz K ta f):=a▸Je b c
def acu(a:X.K=K)(b:X.A.units+64<i7):eZ X (hW .Eq) (z9 K):=a▸qy b
end
def l8(s:eI)(l:S):Int:=if l=[] then-1 else match zA s l with
 |some j=>(j:Int)
 |none=>-2
def Q9(cs:Cs):Sp:=λc H Q _=>∃p a s l,c=[.ref p,.ref a]/\dX cs H p s.genera/\aY H a l/\∀b,J H b->Q (.int<|l8 s l) b
def acv:T.bb T.M6 2 (Q9 cs):=T.M6.aU<|cW ["genera","sub","number"] λH Q E r v t h=>by
 obtain⟨p,a,s,l,rfl,u,i,k⟩:=h;refine⟨_,(aD (bw (bK de (b6 cB aZ T.cn cq<|aj<|pv 1) aI) (aC<|aK<|cD T.X3) bB)<|aD (cw 2 r<|aO (yz T) t<|aP (pv 0)<|aj<|pv 1)<|aD (bw (bK zU (pv 2) qu) (aC<|aK<|cD T.X4) bB)<|aC<|aK<|pv 2),?_⟩;unfold l8 at k;refine bg.bU (bI<|dw (fu W i) bq) λw c=>bh (λb=>?_)<|λb=>?_
 ·have b:l=[]:=mC.mp (by have:=df b;omega);rw[aA b] at k;exact G.ret aQ λm d=>k m<|c.trans d
 have b:¬l=[]:=λz=>by have:=d8 b;rw[z] at this;simp at this
 rw[ak b] at k;refine G.eB (yA W aR (u.same c)<|c _ _ i) λm d=>?_;have n:=c.trans d;refine bg.bU (bI<|vU W bq) λx o=>?_;rw[F3];rw[Q5] at k;cases q:(f7 s.genera λg=>g.text==l).head? with
 |none=>
  rw[q] at k;refine bh (λ_=>?_) (λz=>by cases z);exact G.ret aQ λe f=>k e<|n.trans<|o.trans f
 |some j=>
  rw[q] at k;refine bh (λz=>by cases z)<|λ_=>?_;exact G.ret W λe f=>k e<|n.trans<|o.trans f
def acw(h:G t U H (.ref p))(e:∀b,J H b->G u U b (.ref a))(f:dX cs H p s.genera)(g:aY H a l):G (cA (Q9 cs) [] E<|aN t<|aN u aW) U H (.int<|l8 s l):=λQ k=>
 h _ λb c=>e b c _ λm d=>⟨p,a,s,l,L,f.same<|c.trans d,d _ _ (c _ _ g),λi j=>k i<|c.trans<|d.trans j⟩
def Ra(cs:Cs):Sp:=λc H Q _=>∃p a b l,∃g:Nat,c=[.ref p,.int (g:Nat),.ref a]/\dR cs H p b/\aY H a l/\g<=2/\eS H Q (tx<|f7 b λe=>decide (bY e g=l))
def Rb:T.bb T.M8 1 (Ra cs):=T.M8.aU<|cW ["epithets","gender","text","number","epithet"] λH Q E a y o h=>by
 obtain⟨p,aa,d,l,g,rfl,f,q,z,k⟩:=h;refine⟨_,(aC<|aK<|lN (own:=[("number",3),("epithet",4)]) L a (xE L T.xU<|aj<|pv 0) (kL (show jO ["epithets","gender","text","number","epithet"] (cR<|top 143) _ _=Y by decide+kernel)) (λ_ _ _ _ _=>(Q8 (K:=K) (n:=2) L L<|lH (d7 3 a)<|lH (d7 4 a) u1)) (λ_ _ _ _ _=>(Ad<|bK (acu (K:=K) L<|oh o) (bT (acr (K:=K) L) (acs (K:=K) L (pv 4) L)<|pv 1)<|pv 2))<|λ_ _ _ _ _=>(pv 3)),?_⟩;obtain⟨i,r,j⟩:=f.ex;have x:=f.most;have m:i.length=d.length:=fj j;refine aL.ret (P5 (K:=K) (es:=d) (f:=λe=>decide (bY e g=l)) (xs:=i.map V.ref) aB (by show 3<5;decide) W r (by rw[bH];exact m) (by rw[bH,b9];omega) λab ae e s n A b=>?_) k;obtain⟨ag,t,rfl⟩:=pT s;obtain⟨B,c,C,D,I,u,v,M⟩:=qX j t;rw[n] at c;cases c;exact bI<|tT (l:=bY e g) (m:=l) (fh.cv (tV (f:=bY e) (g:=(g:Int)) (vO T W<|b _ _ u) aR (v.same b) ⟨aG,aG⟩)<|by rw[ku])<|λN w=>G.x W<|w _ _ (b _ _ q)
def Rc(h:G t U H (.ref p))(f:∀b,J H b->G u U b (.int (g:Nat)))(i:∀b,J H b->G v U b (.ref a))(j:dR cs H p es)(n:aY H a l)(o:g<=2):aL (cA (Ra cs) [] E<|aN t<|aN u<|aN v aW) U H (tx<|f7 es λe=>decide (bY e g=l)):=λQ k=>
 h _ λb c=>f b c _ λr d=>i r (c.trans d) _ λA s=>let m:=c.trans<|d.trans s;⟨p,a,es,l,g,L,j.same m,m _ _ n,o,λw q x y z=>k w q (m.trans x) (m.free y) z⟩
def acx(cs:Cs):Sp:=λh H Q _=>∃a b c e l f,∃g:Nat,h=[.ref a,.int (g:Nat),.ref b,.ref c]/\tU cs H a e/\aY H b l/\aY H c f/\g<=2/\∀d,J H d->Q (.bl<|decide (dq (bY e g)=f)&&!decide (bY e g=l)) d
def acy:T.bb T.M9 1 (acx cs):=T.M9.aU<|bN λH Q E t u j h=>by
 obtain⟨a,b,c,e,l,f,g,rfl,⟨v,w,x,m,o,p⟩,q,r,y,k⟩:=h;refine⟨_,(aC<|aK<|ie (gw (qy<|oh j) (bT b8 (aJ<|pv 0)<|pv 1)<|pv 3)<|ic<|gw (VI<|oh j) (bT b8 (aJ<|pv 0)<|pv 1)<|pv 2),?_⟩;exact G.ret (jB (tT (l:=dq<|bY e g) (m:=f) (fh.cv (tV (f:=λn=>dq<|bY e n) (g:=(g:Int)) (A4 T W m) aR p ⟨aG,aG⟩)<|by rw[ku])<|λs d=>G.x W<|d _ _ r)
  λz i _=>aao (l:=bY e g) (m:=l) (fh.cv (tV (f:=bY e) (g:=(g:Int)) (vO T W<|i _ _ m) aR (o.same i) ⟨aG,aG⟩)<|by rw[ku])<|λs d=>G.x W<|d _ _ (i _ _ q)) k
def Rf(cs:Cs):Sp:=λc H Q _=>∃p a b l,∃g:Nat,c=[.ref p,.int (g:Nat),.ref a]/\dR cs H p b/\aY H a l/\foldable l=Y/\l.length<=1000000/\g<=2/\eS H Q (tx<|f7 b λe=>decide (dq (bY e g)=dq l)&&!decide (bY e g=l))
def acz:T.bb T.Na 3 (Rf cs):=T.Na.aU<|cW ["epithets","gender","text","folded","number","epithet"] λaa Q ab c hL j h=>by
 obtain⟨ae,a,m,l,g,rfl,n,o,y,z,A,k⟩:=h;refine⟨_,(aD (cw 3 c<|aO (FP T) j<|aj<|pv 2)<|aC<|aK<|lN (own:=[("number",4),("epithet",5)]) L c (xE L T.xU<|aj<|pv 0) (kL (show jO ["epithets","gender","text","folded","number","epithet"] (cR<|top 145) _ _=Y by decide+kernel)) (λ_ _ _ _ _=>(Q8 (K:=K) (n:=2) L L<|lH (d7 4 c)<|lH (d7 5 c) u1)) (λ_ _ _ _ _=>(Ad<|cN<|aO (acy T) j<|aP (pv 5)<|aP (pv 1)<|aP (pv 2)<|aj<|pv 3))<|λ_ _ _ _ _=>(pv 4)),?_⟩;obtain⟨p,B,s⟩:=n.ex;have N:=n.most;have v:p.length=m.length:=fj s;refine aL.eB (FQ W o y z) λH1 q d n1 C=>?_;refine aL.ret (P5 (K:=K) (es:=m) (f:=λe=>decide (dq (bY e g)=dq l)&&!decide (bY e g=l)) (xs:=p.map V.ref) aB (by show 4<6;decide) W (d _ _ B) (by rw[bH];exact v) (by rw[bH,b9];omega) λag ah e D w t f=>?_) λt r f E x=>k t r (d.trans f) (d.free E) x;obtain⟨b,H,rfl⟩:=pT D;obtain⟨e',i,I⟩:=qX s H;rw[w] at i;cases i;have u:=d.trans f;exact cS λQ M=>⟨_,L,_,L,_,L,_,L,b,a,q,e,l,_,g,L,I.same u,u _ _ o,f _ _ C,A,M⟩
def acA(h:G t U H (.ref p))(f:∀b,J H b->G u U b (.int (g:Nat)))(i:∀b,J H b->G v U b (.ref a))(j:dR cs H p es)(n:aY H a l)(o:foldable l=Y)(hz:l.length<=1000000)(r:g<=2):
  aL (cA (Rf cs) [] E<|aN t<|aN u<|aN v aW) U H (tx<|f7 es λe=>decide (dq (bY e g)=dq l)&&!decide (bY e g=l)):=λQ k=>
 h _ λb c=>f b c _ λs d=>i s (c.trans d) _ λB w=>let m:=c.trans<|d.trans w;⟨p,a,es,l,g,L,j.same m,m _ _ n,o,hz,r,λx q y z A=>k x q (m.trans y) (m.free z) A⟩
def tZ(s:eI)(n:bJ):Int:=if n.abbr=1 then-1001 else if(zA s n.head).isSome=ax then-1002 else if n.e1=[] then-1003 else 0
def Rg(cs:Cs):Sp:=λc H Q _=>∃p a s n,c=[.ref p,.ref a]/\dX cs H p s.genera/\cy cs H a n/\∀b,J H b->Q (.int<|tZ s n) b
def acB:T.bb T.M4 2 (Rg cs):=T.M4.aU<|bN λH Q E v w q h=>by
 obtain⟨p,a,s,n,rfl,r,i,k⟩:=h;refine⟨_,(aD (bw (bK de (aJ<|pv 1) aI) (aC<|aK<|du dv aI) bB)<|aD (bw (bK zU (aO (yz T) q<|aP (pv 0)<|aj<|aJ<|pv 1) qu) (aC<|aK<|du dv aI) bB)<|aD (bw (bK de (b6 cB aZ T.cn cq<|aj<|aJ<|pv 1) aI) (aC<|aK<|du dv aI) bB)<|aC<|aK aI),?_⟩;unfold tZ at k;refine bg.bU (bI<|dw (yG T W i) bq) λx e=>bh (λb=>?_)<|λb=>?_
 ·rw[aA (df b)] at k;exact G.ret (dA aQ) λj c=>k j<|e.trans c
 rw[ak (d8 b)] at k;obtain⟨y,A,B,C,D,I,t,u,M,N,_⟩:=i.same e;refine bg.bU (bI<|vU (yA W (λj c=>kU T W<|c _ _ t) (r.same e) u) bq) λj c=>?_;rw[F3,<-Q5];have f:=e.trans c;refine bh (λd=>?_)<|λd=>?_
 ·rw[dZ] at d;rw[aA d] at k;exact G.ret (dA aQ) λo g=>k o<|f.trans g
 rw[eG] at d;rw[ak (by rw[d];decide)] at k;refine bg.bU (bI<|dw (Gq T W<|i.same f) bq) λo g=>bh (λb=>?_)<|λb=>?_
 ·rw[aA (mC.mp (by have:=df b;omega))] at k;exact G.ret (dA aQ) λl m=>k l<|f.trans<|g.trans m
 ·rw[ak (λz=>by have:=d8 b;rw[z] at this;simp at this)] at k;exact G.ret aQ λl m=>k l<|f.trans<|g.trans m
def acC(h:G t U H (.ref p))(e:∀b,J H b->G u U b (.ref a))(f:dX cs H p s.genera)(g:cy cs H a n):G (cA (Rg cs) [] E<|aN t<|aN u aW) U H (.int<|tZ s n):=λQ k=>
 h _ λb c=>e b c _ λl d=>⟨p,a,s,n,L,f.same<|c.trans d,g.same<|c.trans d,λi j=>k i<|c.trans<|d.trans j⟩
open Vbnlab (same)
open VbnlabNeutral (counted)
def t9(a b:List Int):zs (a++b)=zs a++zs b:=by unfold zs;rw[fR]
def i5(a:List Int):(zs a).length=a.length:=by unfold zs;rw[bH]
def BW(l:List Nat):zs (counted l)=V.int ((tx l).length:Nat)::tx l:=by
 rw[bX];show V.int (l.length:Int)::zs (fm l)=_;rw[qT]
def l9(l:List Nat):(counted l).length=l.length+1:=by unfold counted fm;rw[bV,bH]
def BX(l:List α)(p:α->Bool):(f7 l p).length<=l.length:=by
 unfold f7;exact eO (oQ _ _) (by rw[Dd];exact bG _)
def Rh{α:Type}{l:List α}{i:Nat}{x:α}(h:l[i]?=O x):cJ l (i:Int)=O x:=by
 unfold cJ;rw[ak aG,ku];exact h
def partsOf(s:eI)(g:Nat)(l:S):List Int:=counted (same s l g)++counted (oV s l g)
def BY(s:eI)(n:bJ)(i:Nat)(g:iU):List Int:=r8<|.who i (l8 s n.sub) (same s n.e1 g.gender) (oV s n.e1 g.gender) (same s n.e2 g.gender)<|oV s n.e2 g.gender
def yJ(s:eI)(n:bJ)(_:Nat)(g:iU):List Int:=r8<|.text<|hZ {n with e1:=nN s g.gender n.e1,e2:=if n.e2=[] then[] else nN s g.gender n.e2}
def GC(cs:Cs)(ansOf:eI->bJ->Nat->iU->List Int):Sp:=λe H Q _=>∃c d a s n i g,e=[.ref c,.ref d,.ref a]/\dX cs H c s.genera/\dR cs H d s.epithets/\cy cs H a n/\Nm.Good n/\Fo n/\zA s n.head=O i/\s.genera[i]?=O g/\
 ∀b q,Kt a H b->H q=ai->b q=O (.lst<|zs<|ansOf s n i g)->Q (.ref q) b
def acD:T.bb T.Nb 4 (GC cs BY):=T.Nb.aU<|cW ["genera","epithets","name","number","gender","answer","text"] λH a8 a9 t hL d h=>by
 obtain⟨pg,pe,nm,s,n,i,g,rfl,B,b,hn,gd,fo,hi,ar,a3⟩:=h;refine⟨_,(aD (cw 3 t<|aO (yz T) d<|aP (pv 0)<|aj<|aJ<|pv 2)<|aD (cw 4 t<|aJ<|bT b8 (pv 0)<|pv 3)<|aD (cw 5 t<|bQ<|aP aI<|aP (pv 3)<|aj<|aO (acv T) d<|aP (pv 0)<|aj<|aJ<|pv 2)<|aD (iH iC L (iG<|bQ<|aP (aJ<|pv 2)<|aj<|aJ<|pv 2) (d7 6 t)<|aD (bW<|eK eL j3 j4 jt (pv 5)<|aj<|aO (vS T) d<|aj<|aO (Rb T) d<|aP (pv 1)<|aP (pv 4)<|aj<|pv 6)<|aC<|bW<|eK eL j3 j4 jt (pv 5)<|aj<|aO (vS T) d<|aj<|aO (acz T) d<|aP (pv 1)<|aP (pv 4)<|aj<|pv 6)<|aC<|aK<|pv 5),?_⟩;obtain⟨dx,ph,ps,C,D,au,u,q1,q2,q3,q4,q5⟩:=hn;obtain⟨ag,dg,pt,g1,g2,f,av⟩:=BC (K:=K) B<|Rh ar;have ab:=b.most;refine G.eB (Q7 (yA W (λH1 o=>kU T W<|o _ _ u) B q1) hi) λH1 o=>?_;refine G.eB (yh T (av o W aR)<|o _ _ g1) λH2 s2=>?_;have p:=o.trans s2;refine aL.eB (Bl (vs:=[.int 0,.int (i:Nat),.int<|l8 s n.sub]) (cT aQ λHa E=>cT W λH3 q=>cT (acw W (λH4 k=>tH T W<|k _ _ (q _ _ (E _ _ (p _ _ u)))) (B.same<|p.trans<|E.trans q)<|q _ _ (E _ _ (p _ _ q2))) λ_ _=>iO) (by show 3<=br;decide)) λH3 c q n3 h3=>?_;have w:=p.trans q;have z:H c=ai:=p.free n3;refine A2 (K:=K) (Bl (vs:=[.ref C,.ref D]) (cT (lT T W<|w _ _ u) λH4 k=>cT (qR T W<|k _ _ (w _ _ u)) λ_ _=>iO) (by show 2<=br;decide)) λH4 I k M h4=>?_;have ae:I≠c:=λa4=>by subst a4;rw[h3] at M;cases M
 have a5:H I=ai:=w.free M;refine⟨λj U m=>(∃v,U=[O (.ref pg),O<|.ref pe,O<|.ref nm,O<|.int (i:Nat),O<|.int (g.gender:Nat),O<|.ref c,v])/\J H m/\m I=O (.lst [.ref C,.ref D])/\m c=O (.lst<|zs<|[0,(i:Int),l8 s n.sub]++([n.e1,n.e2].take j).flatMap (partsOf s g.gender)),⟨⟨ai,L⟩,w.trans k,h4,k _ _ h3⟩,λj U m _ h=>h.2.2.1,?_,?_⟩
 ·rintro j v U m N ⟨⟨v0,rfl⟩,st,ah,Q⟩;have a7:j<2:=(fC.mp N).1;obtain⟨aa,l,rfl,hl,ay,az,a6⟩:∃aa l,v=V.ref aa/\aY H aa l/\[n.e1,n.e2][j]?=O l/\foldable l=Y/\l.length<=40:=by
   have:j=0∨j=1:=by omega
   rcases this with rfl|rfl
   ·cases N;exact⟨C,n.e1,L,q3,L,fo.1,gd.e1⟩
   ·cases N;exact⟨D,n.e2,L,q4,L,fo.2,gd.e2⟩
  have e1:=GA (w:=l) b.good f.gd;have e2:=Q4 (w:=l) b.good f.gd;have l1:(same s l g.gender).length<=200:=by rw[e1];exact eO (BX _ _) ab
  have l2:(oV s l g.gender).length<=200:=by rw[e2];exact eO (BX _ _) ab
  have lb:∀x:S,(partsOf s g.gender x).length<=402:=λx=>by
   unfold partsOf;rw[aV,l9,l9,GA b.good f.gd,Q4 b.good f.gd];have a1:=BX s.epithets λe=>decide (bY e g.gender=x);have a2:=BX s.epithets λe=>decide (dq (bY e g.gender)=dq x)&&!decide (bY e g.gender=x);omega
  have lt:(([n.e1,n.e2].take j).flatMap<|partsOf s g.gender).length<=804:=by
   have:j=0∨j=1:=by omega
   rcases this with rfl|rfl
   ·simp
   ·have:=lb n.e1;simp;omega
  have aq:(V.int ((tx<|same s l g.gender).length:Nat)::tx (same s l g.gender)).length=(same s l g.gender).length+1:=by rw[bV,bX]
  have aE:(V.int ((tx<|oV s l g.gender).length:Nat)::tx (oV s l g.gender)).length=(oV s l g.gender).length+1:=by rw[bV,bX]
  refine Ot (K:=K) (ys:=V.int ((tx<|same s l g.gender).length:Nat)::tx (same s l g.gender)) W Q (λy a=>aL.x<|yn (aL.x<|aL.cv (Rc (es:=s.epithets) (l:=l) (g:=g.gender) W aR aR (b.same<|st.trans a) (a _ _ (st _ _ hl)) f.gd)<|by rw[e1]) (by rw[bX];omega)) ?_ λy a=>?_
  ·rw[i5,aV,aq,b9];show 3+_+_<=_;omega
  have a0:=st.trans a;have A:J H (upd y c<|.lst<|zs ([0,(i:Int),l8 s n.sub]++([n.e1,n.e2].take j).flatMap (partsOf s g.gender))++(V.int ((tx<|same s l g.gender).length:Nat)::tx (same s l g.gender))):=kT a0 z;refine pM (K:=K) (ys:=V.int ((tx<|oV s l g.gender).length:Nat)::tx (oV s l g.gender)) W ba (λH6 r=>aL.x<|yn (aL.x<|aL.cv (acA (es:=s.epithets) (l:=l) (g:=g.gender) W aR aR (b.same<|A.trans r) (r _ _ (A _ _ hl)) az aG f.gd)<|by rw[e2]) (by rw[bX];omega)) ?_ λH6 r=>⟨⟨_,L⟩,kT (A.trans r) z,?_,?_⟩
  ·rw[aV,i5,aV,aq,aE,b9];show 3+_+_+_<=_;omega
  ·rw[aX ae];exact r _ _ (by rw[aX ae];exact a _ _ ah)
  ·rw[ba,take_succ ay,qo];show _=O (HO.lst<|zs<|([0,(i:Int),l8 s n.sub]++(([n.e1,n.e2].take j).flatMap (partsOf s g.gender)++(partsOf s g.gender l++[]))));rw[gp,<-hX [0,(i:Int),l8 s n.sub],t9 _ (partsOf s g.gender l)];unfold partsOf;rw[t9 (counted _),BW,BW,hX]
 ·rintro U m ⟨⟨v0,rfl⟩,st,ah,Q⟩;refine G.ret W λy a=>a3 y c (bE<|st.trans a) z ?_;rw[a _ _ Q];show O (HO.lst<|zs<|[0,(i:Int),l8 s n.sub]++(partsOf s g.gender n.e1++(partsOf s g.gender n.e2++[])))=O (HO.lst<|zs<|[0,(i:Int),l8 s n.sub]++counted (same s n.e1 g.gender)++counted (oV s n.e1 g.gender)++counted (same s n.e2 g.gender)++counted (oV s n.e2 g.gender));unfold partsOf;simp only[hX,gp]
def Ri(cs:Cs):Sp:=λe H Q _=>∃c d s t,∃g:Nat,e=[.ref c,.int (g:Nat),.ref d]/\dR cs H c s.epithets/\aY H d t/\g<=2/\∀a b,J H a->aY a b (nN s g t)->Q (.ref b) a
def acE(h:G t U H (.ref q))(d:∀a,J H a->G u U a (.ref p))(e:aY H q l)(f:cU H p ls):G (dG QU t u) U H (.bl<|ls.contains l):=λQ k=>
 h _ λa b=>d a b _ λg c=>⟨p,q,l,ls,L,L,c _ _ (b _ _ e),f.same<|b.trans c,k g<|b.trans c⟩
def Rj:T.bb T.Nd 2 (Ri cs):=T.Nd.aU<|cW ["epithets","gender","text","epithet"] λaa ae ag Q hL A h=>by
 obtain⟨pe,u,s,t,g,rfl,w,m,B,k⟩:=h;refine⟨_,(aD (bw (bK kF (b6 cB aZ T.cn cq<|aj<|aO (Rb T) A<|aP (pv 0)<|aP (pv 1)<|aj<|pv 2) aI) (aC<|aK<|pv 2) bB)<|aD (iH iC L (iG<|pv 0) (d7 3 Q)<|aC<|bw (xn (aci<|oh A) (pv 2) (aJ<|pv 3)<|by with_unfolding_all rfl) (aC<|aK<|bT b8 (aJ<|pv 3)<|pv 1) bB)<|aC<|aK<|pv 2),?_⟩;rw[GB w.good B] at k;refine bg.bU (bI<|cj (abU<|aL.x<|Rc (es:=s.epithets) (l:=t) (g:=g) W aR aR w m B) bq) λH1 n=>bh (λd=>?_)<|λd=>?_
 ·rw[aA (by have:=df d;rw[bX] at this;omega)] at k;exact G.ret W λC o=>k C u (n.trans o)<|o _ _ (n _ _ m)
 rw[ak (by have:=d8 d;rw[bX] at this;omega)] at k;obtain⟨as,D,E⟩:=w.ex;refine FJ (K:=K) W (n _ _ D) λC o=>⟨λi U p=>(∃v,U=[O (.ref pe),O<|.int (g:Nat),O<|.ref u,v])/\J aa p/\∀j<i,∀e,s.epithets[j]?=O e->(fQ e).contains t=ax,⟨⟨ai,L⟩,n.trans o,λj a=>absurd a (C4 _)⟩,λi U p _ h=>h.2.1 _ _ D,?_,?_⟩
 ·rintro i v U p hv ⟨⟨v0,rfl⟩,st,l⟩;obtain⟨ah,d,rfl⟩:=pT hv;obtain⟨e,q,dx,pf,pd,H,I,o3⟩:=qX E d;refine bg.iM (bI<|acE W (λH3 b=>vO T W<|b _ _ (st _ _ H)) (st _ _ m)<|I.same st) λH3 b=>bh (λx=>?_)<|λx=>?_
  ·have y:s.epithets.find? (λe=>(fQ e).contains t)=O e:=by
    rw[agr];obtain⟨hi,M⟩:=fC.mp q;refine⟨x,i,hi,M,λj a=>?_⟩;rw[l j a _ (gq aG)];rfl
   rw[y] at k;have ot:=I.same<|st.trans b;obtain⟨bs,f1,f2⟩:=mW ot;have e3:(fQ e)[g]?=O (bY e g):=by
    have:g=0∨g=1∨g=2:=by omega
    rcases this with rfl|rfl|rfl<;>rfl
   obtain⟨c,N,tc⟩:=mX f2 e3;exact G.ret (e8 (v:=.ref c) (vO T W<|b _ _ (st _ _ H)) aR (aM.of f1)<|fJ (j:=g) (by rw[eU,N];rfl)) λz f=>k z c (st.trans<|b.trans f)<|f _ _ tc
  ·refine⟨⟨_,L⟩,st.trans b,λj a e' r=>?_⟩;by_cases ab:j=i
   ·subst ab;rw[q] at r;cases r;exact x
   ·exact l j aG e' r
 ·rintro U p ⟨⟨v0,rfl⟩,st,l⟩;have y:s.epithets.find? (λe=>(fQ e).contains t)=ai:=by
   rw[ags];intro e q;obtain⟨j,a⟩:=uN.mp q;rw[l j (by rw[bH,fj E];exact(fC.mp a).1) e a];decide
  rw[y] at k;exact G.ret W λz f=>k z u (st.trans f)<|f _ _ (st _ _ m)
def dR.Gn(h:dR cs H p es)(k:Kt nm H H')(b:H nm=O (.ins C dx fs))(g:fs.length=12):dR cs H' p es:=by
 obtain⟨⟨i,d,j⟩,l,m⟩:=h;refine⟨⟨i,k _ _ d (dO d b (by intro z;cases z)),Paired.fT j λa e n=>?_⟩,l,m⟩;obtain⟨f,o,q,c,r,s⟩:=n;refine⟨f,o,q,k _ _ c (λz=>?_),r.pX k b,s.pX k b⟩;subst z;rw[b] at c;have:=fG fZ (HO.ins.inj<|eh c).2.2;rw[g] at this;revert this;show¬(12=2);decide
def Rk(h:G t U H (.ref d))(f:∀a,J H a->G u U a (.int (g:Nat)))(i:∀a,J H a->G v U a (.ref pt))(j:dR cs H d s.epithets)(n:aY H pt l)(o:g<=2)
  (k:∀H' b,J H H'->aY H' b (nN s g l)->Q (.ref b) H'):cA (Ri cs) [] E (aN t<|aN u<|aN v aW) U H Q:=
 h _ λa c=>f a c _ λp e=>i p (c.trans e) _ λy q=>let m:=c.trans<|e.trans q;⟨d,pt,s,l,g,L,j.same m,m _ _ n,o,λr b w x=>k r b (m.trans w) x⟩
def acF:T.bb T.Ng 6 (GC cs yJ):=T.Ng.aU<|cW ["genera","epithets","name","gender"] λH a7 a8 nd hL f ae=>by
 obtain⟨pg,pe,k,s,n,a9,g,rfl,w,c,l,m,fo,hi,E,ah⟩:=ae;refine⟨_,(aD (cw 3 nd<|aJ<|bT b8 (pv 0)<|aO (yz T) f<|aP (pv 0)<|aj<|aJ<|pv 2)<|aD (bP (pv 2) (aO (Rj T) f<|aP (pv 1)<|aP (pv 3)<|aj<|aJ<|pv 2) L)<|aD (bP (pv 2) (aO (Rj T) f<|aP (pv 1)<|aP (pv 3)<|aj<|aJ<|pv 2) L)<|aC<|aK<|cP fW (bQ<|aj aI)<|aO (Bk T) f<|aj<|pv 2),?_⟩;obtain⟨ag,dg,pt,g1,g2,d,I⟩:=BC (K:=K) w<|Rh E;obtain⟨dx,ph,ps,p1,p2,au,h,x,q2,y,q4,q5⟩:=l;have l:cy cs H k n:=⟨dx,ph,ps,p1,p2,au,h,x,q2,y,q4,q5⟩;refine G.eB (yh T (I J.rf W<|λH1 a=>Q7 (yA W (λA e=>kU T W<|e _ _ (a _ _ h)) (w.same a)<|a _ _ x) hi) g1) λH1 a=>?_;refine l7<|Rk (s:=s) (l:=n.e1) (g:=g.gender) W aR (λA e=>lT T W<|e _ _ (a _ _ h)) (c.same a) (a _ _ y) d.gd λA bk e hb=>?_;have i:=a.trans e;refine abd T (l.same i) aQ hb aR λB C r=>?_;have M:dR cs B pe s.epithets:=(c.same i).Gn C (i _ _ h) L;obtain⟨aq,ar,av,ay,az,aE,N,a0,a3,a4,Q,a5⟩:=id r;have aa:Kt k H B:=eX i C;refine l7<|Rk (s:=s) (l:=n.e2) (g:=g.gender) W aR (λH4 j=>qR T W<|j _ _ N) M Q d.gd λH4 b2 j ab=>?_;refine abe T (r.same j) aQ ab aR λH5 k5 t=>?_;have u:Kt k H H5:=aa.trans<|(bE j).trans k5;have e2:(if n.e2=[] then[] else nN s g.gender n.e2)=nN s g.gender n.e2:=by
  by_cases z:n.e2=[]
  ·rw[aA z,z,acq c.good d.gd]
  ·rw[ak z]
 have v:fO {n with e1:=nN s g.gender n.e1,e2:=nN s g.gender n.e2}:=by
  have b:=fO.BS m;have a1:=BV c.good d.gd m.e1;have a2:=BV c.good d.gd m.e2;exact⟨b.q1,b.q2,b.num,b.year,b.head,b.sub,by show(nN s g.gender n.e1).length<=5000;omega,by show(nN s g.gender n.e2).length<=5000;omega,b.au⟩
 have a6:=Br v;refine aL.ret (fX (ys:=tx<|hZ {n with e1:=nN s g.gender n.e1,e2:=nN s g.gender n.e2}) (aL.x<|eW aQ) (λD o=>aL.x<|vR (f:=hZ) (ok:=fO) W (t.same o) v) ?_) λD q o p h6=>ah D q (u.trans<|bE o) (u.free p ?_) ?_
 ·rw[bX,b9];show 1+_<=_;omega
 ·intro z;subst z;obtain⟨_,_,_,_,_,_,q,_⟩:=t;rw[q] at p;cases p
 ·rw[h6];unfold yJ;rw[e2];show _=O (HO.lst<|V.int 0::zs (fm _));rw[qT];rfl
def acG(P:cf)(w:bR)(K:bj)(j:ao->Option aw)(base:bC)(cs:Cs)(ansOf:eI->bJ->Nat->iU->List Int):Sp:=λk H Q _=>∃a b d f e h s t,k=[.ref a,.ref b,.ref d,.ref f]/\
 dH P w K j base (cX P w) h f e ["genera","epithets","name"] (GC cs ansOf)/\h<=11/\nB K (.ref f)=Y/\Binds K e ["genera","epithets","name"] []/\dX cs H a s.genera/\dR cs H b s.epithets/\aY H d t/\
 eS H Q (zs (match lC s t with
  |.inl c=>[c]
  |.inr (n,i,g)=>ansOf s n i g))
def Rl(d:mB t= .inr n):(tZ s n<0/\lC s t= .inl (tZ s n))∨(tZ s n=0/\∃i g,zA s n.head=O i/\s.genera[i]?=O g/\lC s t= .inr (n,i,g)):=by
 unfold tZ lC;rw[d];by_cases b:n.abbr=1
 ·left;simp only[aA b];exact⟨aB,trivial⟩
 ·simp only[ak b];cases e:zA s n.head with
  |none=>left;exact⟨by show(-1002:Int)<0;decide,L⟩
  |some i=>
   obtain⟨g,a,_⟩:=Xr (show(f7 s.genera λg=>g.text==n.head).head?=O i from e);simp only[a,Tn,sh,jG];by_cases c:n.e1=[]
   ·left;simp only[aA c];exact⟨aB,trivial⟩
   ·right;simp only[ak c];exact⟨trivial,i,g,L,a,L⟩
def Rm:T.bb T.M5 12 (acG P ww K mg base cs ansOf):=T.M5.aU<|cW ["genera","epithets","text","answer","name","wrong","refusal"] λar au av m hL g aa=>by
 obtain⟨n,o,p,r,C,I,s,t,rfl,M,B,D,N,u,Q,ht,k⟩:=aa;refine⟨_,(aD (F9 T (Gv T) m L (nG L) L L (i:=4) (j:=5) (g.mono aB) (aj<|pv 2)<|λ_=>(aC<|aK<|bQ<|aj<|cP iY (du dv aI)<|F7 T<|pv 5))<|aD (cw 6 m<|aO (acB T) g<|aP (pv 0)<|aj<|pv 4)<|aD (bw (bK f9 (pv 6) aI) (aC<|aK<|bQ<|aj<|pv 6) bB)<|aC<|aK<|Lf (i:=3) L (by first|exact nG rfl|exact wU<|nG rfl) ck<|aP (pv 0)<|aP (pv 1)<|aj<|pv 4),?_⟩;refine sq ⟨_,L,p,t,L,ht,?_⟩;have i:=vw t;cases h:Nm.name t with
 |inl q=>
  have b:lC s t= .inl (-1-(q:Int)):=by unfold lC;rw[i,h]
  rw[b] at k;intro v ab w hd;refine⟨L,λa na=>?_⟩;have st:J v (upd v a<|.ext<|lR a cs.jR<|O ab):=J.new na;exact aL.ret (eW<|cj (dA aQ) λH1 c=>Gw W (c _ _ ba)<|c _ _ (st _ _ hd)) λx ae f n2 h2=>k x ae (w.trans<|st.trans f) ((w.trans st).free n2) h2
 |inr ag=>
  intro H1 y c nn j;have l:=i.trans h;have gd:=vD l;have fo:=aco h;refine G.eB (U:=[O (.ref n),O<|.ref o,O<|.ref p,O<|.ref r,O<|.ref y,ai,ai]) (acC (s:=s) W aR (u.same c) j) λx f=>?_;have m2:=c.trans f;refine bg.bU (bI<|cj W bq) λH3 A=>?_;have d:=m2.trans A;rcases Rl (s:=s) l with⟨E,b⟩|⟨h0,ah,aq,hi,H,b⟩
  ·rw[b] at k;refine bh (λ_=>?_)<|λz=>absurd E (d8 z);exact gi W d k
  ·rw[b] at k;refine bh (λz=>absurd (df z) (by rw[h0];decide))<|λ_=>?_;refine⟨r,I,C,_,_,L,M,g.mono B,D,N,_,L,_,L,_,L,n,o,y,s,ag,ah,aq,L,u.same d,Q.same d,j.same<|f.trans A,gd,fo,hi,H,λH4 q k4 n4 h4=>k H4 q ?_ (d.free n4) h4⟩;exactλay az e=>k4 _ _ (d _ _ e) (bA e nn)
def Ro(cs:Cs)(ansOf:eI->bJ->Nat->iU->List Int):Sp:=λe H Q _=>∃a b d s t,e=[.ref a,.ref b,.ref d]/\dX cs H a s.genera/\dR cs H b s.epithets/\aY H d t/\
 eS H Q (zs (match lC s t with
  |.inl c=>[c]
  |.inr (n,i,g)=>ansOf s n i g))
def acH:T.bb T.Nc 13 (Ro cs BY):=T.Nc.aU<|bN λH Q E p q d h=>by
 obtain⟨e,f,g,s,t,rfl,i,j,l,k⟩:=h;obtain⟨m,b,n,a,c,o⟩:=(acD T).ex;refine⟨_,(aC<|aK<|aO (Rm (ansOf:=BY) T) d<|aP (pv 0)<|aP (pv 1)<|aP (pv 2)<|aj<|Ld a),?_⟩;exact⟨_,L,_,L,_,L,e,f,g,m,b,4,s,t,L,n,aB,c,o,i,j,l,k⟩
def acI:T.bb T.Nh 13 (Ro cs yJ):=T.Nh.aU<|bN λH Q E p q d h=>by
 obtain⟨e,f,g,s,t,rfl,i,j,l,k⟩:=h;obtain⟨m,b,n,a,c,o⟩:=(acF T).ex;refine⟨_,(aC<|aK<|aO (Rm (ansOf:=yJ) T) d<|aP (pv 0)<|aP (pv 1)<|aP (pv 2)<|aj<|Ld a),?_⟩;exact⟨_,L,_,L,_,L,e,f,g,m,b,_,s,t,L,n,aB,c,o,i,j,l,k⟩
def Kd:HO->Prop
 |.lst _=>True
 |.dT _=>True
 |.ins _ _ _=>True
 |_=>False
def Md(M:af->Prop)(H:Hp)(b:af):Prop:=∃o,H b=O o/\((M b/\Kd o)∨∃a u,M a/\H a=O u/\Kd u/\o= .own a)
open Classical in
noncomputable def Hd(M:af->Prop)(H:Hp):Hp:=λb=>if Md M H b then ai else H b
open Classical in
noncomputable def Re(M:af->Prop)(H H':Hp):Hp:=λb=>if Md M H b then H b else H' b
def yK(h:Md M H b):Hd M H b=ai:=by unfold Hd;rw[aA h]
def mZ(h:¬Md M H b):Hd M H b=H b:=by unfold Hd;rw[ak h]
def GD(h:Md M H b):Re M H H' b=H b:=by unfold Re;rw[aA h]
def lg(h:¬Md M H b):Re M H H' b=H' b:=by unfold Re;rw[ak h]
def acJ(h:Hd M H b=O o):¬Md M H b/\H b=O o:=by
 by_cases m:Md M H b
 ·rw[yK m] at h;cases h
 ·rw[mZ m] at h;exact⟨m,h⟩
def vZ(h:H b=ai):Hd M H b=ai:=by
 by_cases m:Md M H b
 ·exact yK m
 ·rw[mZ m];exact h
section
variable{w:bR}{M:af->Prop}{H H':Hp}{h h':bC}
def yL(e:H b=O o)(d:¬Kd o)(f:∀a,o≠ .own a):¬Md M H b:=by
 rintro⟨u,c,m⟩;rw[e] at c;cases c;rcases m with⟨_,k⟩|⟨a,v,_,_,_,q⟩
 ·exact d k
 ·exact f a q
def GF(d:H a=O u)(e:H b=O (.own a)):Md M H b↔(M a/\Kd u):=by
 constructor
 ·rintro⟨o,f,m⟩;rw[e] at f;cases f;rcases m with⟨_,k⟩|⟨i,v,g,c,k,q⟩
  ·exact k.elim
  ·cases q;rw[d] at c;cases c;exact⟨g,k⟩
 ·rintro⟨m,k⟩;exact⟨_,e,.inr ⟨a,u,m,d,k,L⟩⟩
def acK(x:cQ P w H h):cQ P w (Hd M H) h:=λa o e=>by
 obtain⟨n,e⟩:=acJ e;refine(x a o e).jc (λ_ _ _ q=>q) (λb c=>?_)<|λb d c=>?_
 ·rw[mZ];exact c;intro m;have:=(GF e c).mp m;exact n ⟨o,e,.inl this⟩
 ·rw[mZ (yL c (λk=>k)<|λa q=>by cases q)];exact c
def BZ(a:Un fs [] (Hd M H) H' h h')(x:cQ P w H h)(m:Md M H b):H' b=ai:=by
 obtain⟨o,e,_⟩:=id m;obtain⟨c,q⟩:=dP.here<|x b o e;exact a.free b c q (yK m) aT
def B0(c:Un fs [] (Hd M H) H' h h')(x:cQ P w H h)(d:∀b∈fs,H b=ai)(m:Md M H b)(q:h.get? b=O a):h'.get? b=O a:=
 c.keep b a q (yK m) (λz=>by obtain⟨o,e,_⟩:=m;rw[d b z] at e;cases e) aT
def Rp(d:Un fs [] (Hd M H) H' h h')(x:cQ P w H h)(g:∀b∈fs,H b=ai)(y:cQ P w H' h'):cQ P w (Re M H H') h':=λa o e=>by
 have tup:∀b f,H b=O (.tup f)->Re M H H' b=O (.tup f):=λb f c=>by
  have n:=yL (M:=M) c (λk=>k) (λa q=>by cases q);rw[lg n];exact d.iV b f (by rw[mZ n];exact c)
 by_cases m:Md M H a
 ·rw[GD m] at e;obtain⟨s,j,p⟩:=id m;rw[e] at j;cases j;rcases p with⟨l,k⟩|⟨t,u,_,_,_,rfl⟩
  ·refine(x a o e).jc (λb u c q=>?_) (λb c=>?_) tup
   ·rcases c with rfl|c
    ·exact B0 d x g m q
    ·exact B0 d x g ((GF e c).mpr ⟨l,k⟩) q
   ·rw[GD ((GF e c).mpr ⟨l,k⟩)];exact c
  ·obtain⟨r,q⟩:=dP.here<|x a _ e;exact⟨r,B0 d x g m q⟩
 ·rw[lg m] at e;refine(y a o e).jc (λ_ _ _ q=>q) (λb c=>?_)<|λb f c=>?_
  ·rw[lg];exact c;intro i;rw[BZ d x i] at c;cases c
  ·rw[lg];exact c;intro i;rw[BZ d x i] at c;cases c
def Rq(d:Un fs [] (Hd M H) H' h h')(x:cQ P w H h):Un fs [] H (Re M H H') h h' where
 keep:=λb o q n=>d.keep b o q (vZ n)
 slot:=λb o q n=>d.slot b o q (vZ n)
 free:=λb o q n f=>by
  have g:¬Md M H b:=by rintro⟨u,e,_⟩;rw[n] at e;cases e
  rw[lg g];exact d.free b o q (vZ n) f
 there:=d.there
 iV:=λb i c=>by
  have n:=yL (M:=M) c (λk=>k) (λa q=>by cases q);rw[lg n];exact d.iV b i (by rw[mZ n];exact c)
 iW:=λb o u c=>by
  have n:=yL (M:=M) c (λk=>k) (λa q=>by cases q);rw[lg n];exact d.iW b o u (by rw[mZ n];exact c)
 jd:=λb j c=>by
  have n:=yL (M:=M) c (λk=>k) (λa q=>by cases q);rw[lg n];exact d.jd b j (by rw[mZ n];exact c)
end
def Fr(sp:Sp):Sp:=λd H Q E=>∃M,sp d (Hd M H) (λv a=>(∀b,Md M H b->a b=ai)->Q v (Re M H a)) λc e a=>(∀b,Md M H b->a b=ai)->E c e (Re M H a)
section
variable{w:bR}{k:Nat}{f:af}{fd:iT}{ps:List ao}{sp:Sp}{x:ao}
def acL(F:dH P ww K mg base (cX P ww) k f fd ps sp):dH P ww K mg base (cX P ww) k f fd ps (Fr sp):=
 ⟨λl H aa ab ⟨M,ae⟩=>F.len l _ _ _ ae,λag z s H args Q l aa ab hr c d hv ⟨M,hs⟩=>by
  have j:∀b∈fH z,H b=ai:=c.nQ;refine uA (F.run ag z s (Hd M H) args Q l _ _ hr ⟨c.frames,c.mod,λb o q=>⟨(c.bs b o q).1,vZ (c.bs b o q).2⟩,c.lG,c.jM,λb d=>vZ<|c.nQ b d,acK c.aS,c.bare⟩ d hv hs) λrs s' n=>?_;cases rs with
  |ok ah=>
   cases ah with
   |ret u=>
    obtain⟨aq,p,r,t,i,h,v,y⟩:=n;exact⟨aq,Re M H p,r,t,Rq i c.aS,Rp i c.aS j h,v,y λb m=>BZ i c.aS m⟩
   |_=>exact n
  |error e=>
   obtain⟨a,ar,od,p,r,t,i,h,v,fl,y⟩:=n;refine⟨a,ar,od,Re M H p,r,t,i,Rq h c.aS,Rp h c.aS j v,?_,y λb m=>BZ h c.aS m⟩;obtain⟨⟨B,a0,C,f2,D⟩,I,N⟩:=fl;have A:∀b g,Md M H b->s.heap.get? b=O g->B.get? b=O g:=λb g m q=>D b g q (yK m) (λau=>by obtain⟨o,e,_⟩:=m;rw[j b au] at e;cases e);have na:¬Md M H a:=λm=>by
    obtain⟨o,e,_⟩:=id m;obtain⟨g,q⟩:=dP.here<|c.aS a o e;have:=A a g m q;rw[C.2.1] at this;cases this
   refine⟨⟨B,a0,C,λb o u d q=>?_,λb o q av d=>D b o q (vZ av) d⟩,I,by rw[lg na];exact N⟩;by_cases m:Md M H b
   ·obtain⟨u',e,_⟩:=id m;obtain⟨g,E⟩:=dP.here<|c.aS b u' e;have:=B0 h c.aS j m E;rw[q] at this;cases this;exact A b o m E
   ·rw[lg m] at d;exact f2 b o u d q⟩
def kM.fr(c:kM P ww K mg base k x ps sp):kM P ww K mg base k x ps (Fr sp):=let⟨b,a,F,r⟩:=c.ex;⟨b,a,acL F,r⟩
end
open Vbnlab (begins)
structure Mv(M:af->Prop)(F H:Hp)(mv:List (List Key×V))(f:S->List S):Prop where
 no:∀w,w≠[]->da mv (ky w)=ai->f w=[]
 yes:∀w v,w≠[]->da mv (ky w)=O v->∃q as,v=V.ref q/\M q/\H q=O (.lst<|zB V.ref as)/\Paired (aY F) as (f w)
 inj:∀w w' q,w≠[]->w'≠[]->da mv (ky w)=O (.ref q)->da mv (ky w')=O (.ref q)->w=w'
structure e9(cs:Cs)(F:Hp)(M:af->Prop)(H:Hp)(ph:af)(hs:List S):Prop where
 ex:∃dx pk pm kv mv,H ph=O (.ins cs.iL dx<|qS (.ref pk)<|.ref pm)/\H pk=O (.dT kv)/\H pm=O (.dT mv)/\pk≠pm/\M ph/\M pk/\M pm/\kv.length<=hs.length/\mv.length<=40*hs.length/\
  (∀w:S,(da kv<|ky w).isSome=hs.contains w)/\Mv M F H mv λw=>hs.filter λh=>gr w h
def Mv.same(h:Mv M F H mv f)(s:J H H'):Mv M F H' mv f:=
 ⟨h.no,λw v g e=>let⟨q,i,a,b,c,d⟩:=h.yes w v g e;⟨q,i,a,b,s _ _ c,d⟩,h.inj⟩
def Mv.mono(h:Mv M F H mv f)(s:J F g)(m:∀b,M b->i b):Mv i g H mv f:=
 ⟨h.no,λw v j e=>let⟨q,k,a,b,c,d⟩:=h.yes w v j e;⟨q,k,a,m _ b,c,Paired.fT d λ_ _ x=>s _ _ x⟩,h.inj⟩
def e9.same(h:e9 cs F M H c hs)(s:J H H'):e9 cs F M H' c hs:=by
 obtain⟨d,pk,e,f,g,i,j,k,l,m,n,o,p,q,a,b⟩:=h.ex;exact⟨d,pk,e,f,g,s _ _ i,s _ _ j,s _ _ k,l,m,n,o,p,q,a,b.same s⟩
def e9.mono(h:e9 cs F M H d hs)(s:J F e)(m:∀b,M b->f b):e9 cs e f H d hs:=by
 obtain⟨g,pk,i,j,k,l,n,o,p,q,r,t,u,v,a,c⟩:=h.ex;exact⟨g,pk,i,j,k,l,n,o,p,m _ q,m _ r,m _ t,u,v,a,c.mono s m⟩
def e9.keep(h:e9 cs F M H m hs)(k:∀b o,H b=O o->M b->H' b=O o):e9 cs F M H' m hs:=by
 obtain⟨n,pk,p,r,s,t,u,x,y,g,i,j,z,A,l,f⟩:=h.ex;exact⟨n,pk,p,r,s,k _ _ t g,k _ _ u i,k _ _ x j,y,g,i,j,z,A,l,f.no,λw v B e=>let⟨q,C,a,b,c,d⟩:=f.yes w v B e;⟨q,C,a,b,k _ _ c b,d⟩,f.inj⟩
def acM{ty e:TE}{U:L2.St}{H:Hp}{l:S}{pk:af}{f:List (List Key×V)}(h:By ty U H (tx l))(g:∀a,J H a->G e U a (.ref pk))(i:H pk=O (.dT f)):bg (tB<|JE ty e) U H (da f<|ky l).isSome:=λQ k=>
 h _ λa b c n j=>g a c _ λm d=>⟨pk,_,L,lO.t (d _ _ (c _ _ i)) (by rw[pW];exact d _ _ j),_,L,k m<|c.trans d⟩
def acN{e ty f:TE}{U:L2.St}{H:Hp}{D:Ends}{u:TS}{l:S}{pk:af}{c:List (List Key×V)}{v:V}(h:G f U H v)(i:∀a,J H a->G e U a (.ref pk))(j:∀a,J H a->By ty U a (tx l))(n:H pk=O (.dT c))(o:c.length<br)
  (k:∀a,J H a->u D U (upd a pk<|.dT<|putK c (ky l) v)):cF (JF e ty f) u D U H:=
 h _ λa d=>i a d _ λp g=>j p (d.trans g) _ λq b r t s=>let m:=d.trans<|g.trans r;⟨pk,_,L,xC.t (m _ _ n) (by rw[pW];exact s) o,k q m⟩
def Rr{o ty:TE}{U:L2.St}{H:Hp}{D:Ends}{l:S}{c:af}{mv:List (List Key×V)}{i:Nat}{y:V}(t:G o U H (.ref c))(u:∀a,J H a->By ty U a (tx l))(f:H c=O (.dT mv))(w:mv.length<br)(p:U[i]?=O (O y))
  (x:∀q a,da mv (ky l)=O (.ref q)->J H a->∃xs,a q=O (.lst xs)/\xs.length<br/\D.nx U (upd a q<|.lst<|xs++[y]))(A:∀v,da mv (ky l)=O v->∃q,v= .ref q)
  (B:∀q a,da mv (ky l)=ai->J H a->H q=ai->D.nx U (upd (upd a c<|.dT<|putK mv (ky l)<|.ref q) q<|.lst [y])):gu (kK K "list" pz (P2 o ty<|pj aW)<|aN (dQ i) aW) D U H:=
 t _ λa d=>⟨c,L,.inr ⟨mv,.inl<|d _ _ f⟩,u a d _ λN b e Q C=>ir _ λg q h j E=>⟨mv,ky l,b,h _ _ (e _ _ (d _ _ f)),L,by rw[pW];exact h _ _ C,w,by
  have m:=d.trans<|e.trans h;cases k:da mv (ky l) with
  |some v=>
   obtain⟨r,rfl⟩:=A v k;obtain⟨xs,s,I,kk⟩:=x r g k m;exact⟨.inl ⟨L,_,aM.of s⟩,_,p,r,xs,_,L,L,s,I,kk⟩
  |none=>
   have M:q≠c:=λz=>by subst z;rw[e _ _ (d _ _ f)] at j;cases j
   have n:upd g c (.dT<|putK mv (ky l)<|.ref q) q=O (.lst []):=by rw[aX M];exact E
   exact⟨.inl ⟨L,_,aM.of n⟩,_,p,q,[],_,L,L,n,by show 0<br;decide,B q g k m<|(d.trans e).free j⟩⟩⟩
def KR.wa(k:KR M H c)(a:M q∨H q=ai):KR M H (upd c q o):=λb u e n=>by
 rw[aX];exact k b u e n;intro z;subst z;rcases a with a|a
 ·exact n a
 ·rw[e] at a;cases a
def Dm(H H':Hp):Prop:=∀b,H' b=ai->H b=ai
def Dm.of(s:J H H'):Dm H H':=λb n=>s.free n
def Dm.trans(x:Dm H a)(y:Dm a c):Dm H c:=λb n=>x b<|y b n
def Dm.put(x:Dm H a):Dm H (upd a q o):=λb n=>by
 by_cases e:b=q
 ·subst e;rw[ba] at n;cases n
 ·rw[aX e] at n;exact x b n
def Dm.kt(k:Kt a H c)(e:c a=O o):Dm H c:=λb n=>k.free n λz=>by subst z;rw[e] at n;cases n
def Rt(cs:Cs):Sp:=λd H Q _=>∃p c,d=[.ref p]/\H p=O (.ins cs.iL c [])/\∀a pk b,Kt p H a->H pk=ai->H b=ai->pk≠b->a p=O (.ins cs.iL c<|qS (.ref pk)<|.ref b)->a pk=O (.dT [])->a b=O (.dT [])->Q .bp a
def xV:T.oo T.xV 1 (Rt cs):=T.xV.aU<|bN λH Q E t u v h=>by
 obtain⟨p,w,rfl,n,k⟩:=h;refine⟨_,(aD (bP (pv 0) Ag L)<|aC<|bP (pv 0) Ag L),?_⟩;refine l7 λpk c=>?_;have d:J H (upd H pk<|.dT []):=J.new c;refine gy T.qM (T.AR _ bf) aB (d _ _ n) aQ aR λe f o=>?_;refine vY λa b=>?_;have g:J e (upd e a<|.dT []):=J.new b;refine pS T.qM (T.AR _ bf) (by show 1<1000;decide) (g _ _ o) aQ aR λr i s=>?_;have j:pk≠p:=(bA n c).symm;have l:a≠p:=(bA o b).symm;have m:e pk=O (.dT []):=f _ _ ba j;have q:pk≠a:=bA m b;refine k r pk a ((bE d).trans<|f.trans<|(bE g).trans i) c ?_ q s (i _ _ (g _ _ m) j)<|i _ _ ba l;exact d.free<|f.free b l
def acO{H':Hp}{F:Hp}{p dx pk a:af}{M:af->Prop}(c:H' p=O (.ins cs.iL dx<|qS (.ref pk)<|.ref a))(d:H' pk=O (.dT []))(f:H' a=O (.dT []))(b:pk≠a)(g:M p)(h:M pk)(i:M a):e9 cs F M H' p []:=
 ⟨dx,pk,a,[],[],c,d,f,b,g,h,i,bG _,bG _,λw=>rfl,λ_ _ _=>rfl,(λw v _ e=>by rw[Ae] at e;cases e),λw j q _ _ e=>by rw[Ae] at e;cases e⟩
def Ru{U:L2.St}{H:Hp}{E:XK}{Q:VK}(k:∀c p,J H c->H p=ai->(∀F,e9 cs F (λb=>H b=ai) c p [])->Q (.ref p) c):iZ cs.iL (Rt cs) [] E aW U H Q:=λx d a f gc=>
 ⟨x,d,L,ba,λg pk t j l m i n r s=>⟨L,by
  have st:J H g:=λb o e=>j b o (by rw[aX (bA e a),aX<|bA e f];exact e)<|bA e a;have h:∀{b:af},upd (upd H d<|.own x) x (.ins cs.iL d []) b=ai->H b=ai:=λ{b} e=>by
   cases q:H b with
   |none=>rfl
   |some o=>
    have:b≠x:=bA q a;rw[aX this,aX<|bA q f,q] at e;cases e
  exact k g x st a λF=>acO n r s i a (h l)<|h m⟩⟩
def lh(hs:List S)(l:S):List S:=if hs.contains l=Y then hs else hs++[l]
def GG(cs:Cs):Sp:=λf H Q _=>∃(F:Hp)(M:af->Prop)(c e:af)(d:List S)(l:S),f=[.ref c,.ref e]/\e9 cs F M H c d/\J F H/\(∀b o,F b=O o->¬M b)/\aY F e l/\l.length<=40/\d.length<=1000/\
 ∀a,KR M H a->Dm H a->e9 cs F (Rn M H) a c (lh d l)->Q .bp a
def GH(a b:S):gr a b=Y↔a<+:b/\a.length<b.length:=by unfold gr;rw[bL,TY,bO]
def md(hs:List S)(l:S)(m:Nat)(w:S):List S:=(hs.filter λh=>gr w h)++if gr w l=Y/\w.length<=m then[l] else[]
def wb(g:m+1<l.length)(w:S):md hs l (m+1) w=md hs l m w++if w=l.take (m+1) then[l] else[]:=by
 have a:gr (l.take<|m+1) l=Y:=by rw[GH,gA];exact⟨List.take_prefix _ _,aG⟩
 unfold md;rw[hX];congr 1;by_cases e:w=l.take (m+1)
 ·have f:w.length=m+1:=by rw[e,gA];omega
  have c1:gr w l=Y/\w.length<=m+1:=⟨by rw[e];exact a,aG⟩;have c2:¬(gr w l=Y/\w.length<=m):=λz=>by omega
  rw[aA e,aA c1,ak c2];rfl
 ·rw[ak e,gp];by_cases c:gr w l=Y/\w.length<=m
  ·rw[aA c,aA ⟨c.1,aG⟩]
  ·rw[ak c,ak];rintro⟨c1,c2⟩;have:¬w.length<=m:=λz=>c ⟨c1,z⟩;obtain⟨b,_⟩:=(GH w l).mp c1;have d:w.length=m+1:=by omega
   exact e (by rw[<-d];exact agp.mp b)
def acP(hs:List S)(l:S)(m:Nat)(w:S):(md hs l m w).length<=hs.length+1:=by
 unfold md;rw[aV];have:=oQ (λh=>gr w h) hs;split<;>simp<;>omega
def Rv(hs:List S)(l:S)(w:S)(a:w≠[]):md hs l 0 w=hs.filter λh=>gr w h:=by
 unfold md;rw[ak,gp];rintro⟨_,z⟩;exact a<|mC.mp aG
def acQ(hs:List S)(l:S)(w:S):md hs l (l.length-1) w=(hs++[l]).filter λh=>gr w h:=by
 unfold md;rw[wV];congr 1;by_cases c:gr w l=Y
 ·obtain⟨_,z⟩:=(GH w l).mp c;rw[aA ⟨c,aG⟩,oP,aA c];rfl
 ·rw[ak (λz=>c z.1),oP,ak c];rfl
def Rw:T.kh T.Ni 1 (GG cs):=T.Ni.aU<|cW ["self","head","length"] λH ct cC nd hL hr aE=>by
 obtain⟨F0,M,ph,B,j,l,rfl,hd,hF,hD,C,cc,hz,a0⟩:=aE;refine⟨_,(aD (bw (Ip<|V2 (tj hr) (lK vb aZ T.vF vI<|aj<|pv 1)<|aJ<|pv 0) (aC Dy) bB)<|aD (V3 (tj hr) (aJ<|pv 0) (lK vb aZ T.vF vI<|aj<|pv 1) jN L)<|aC<|iH iC L (IF L T.EU<|aP aI<|aj<|b6 cB aZ T.cn cq<|aj<|pv 1) (d7 2 nd)<|aC<|bW<|eK eL jJ jK jj (FY (tj hr) (aJ<|pv 0) (lK vb aZ T.vF vI<|aj<|kI kJ (pv 1) px<|jg<|pv 2) (bQ gv) ⟨L,L,L,L⟩)<|aj<|pv 1),?_⟩;obtain⟨dx,pk,E,I,mv,h1,h2,h3,h4,h5,h6,h7,h8,h9,au,av⟩:=id hd.ex;have sF:∀{f},KR M H f->J F0 f:=λr b aa e=>r b aa (hF _ _ e)<|hD b aa e;have a3:aY H B l:=hF _ _ C;have a8:∀b,M b->Rn M H b:=λb m=>.inl m;refine bg.bU (acM (vV<|G.x W a3) (λH1 k=>OD T W<|k _ _ h1) h2) λH1 k=>?_;rw[au];refine bh (λhb=>?_)<|λhb=>?_
 ·have:=a0 H1 (KR.of k)<|Dm.of k;unfold lh at this;rw[aA hb] at this;exact this ((hd.same k).mono (J.refl _) a8)
 have bx:lh j l=j++[l]:=by unfold lh;rw[ak (by rw[hb];decide)]
 rw[bx] at a0;have cm:da I (ky l)=ai:=by
  have:=au l;rw[hb] at this;cases e:da I (ky l) with
  |none=>rfl
  |some ab=>rw[e] at this;cases this
 refine acN (l:=l) aQ (λH2 s2=>OD T W<|s2 _ _ (k _ _ h1)) (λH2 s2=>vV<|G.x W<|s2 _ _ (k _ _ a3)) (k _ _ h2) (by rw[b9];omega) λH3 s3=>?_;have m3:=k.trans s3;have a4:KR M H (upd H3 pk<|.dT<|putK I (ky l)<|.bl Y):=(KR.of m3).wa<|.inl h6;have a9:E≠pk:=h4.symm;have b0:ph≠pk:=dO h1 h2 (by intro z;cases z);refine P4 (lo:=1) (z:=((l.length:Nat):Int)) aQ (λH5 v=>fu W<|v _ _ (sF a4 _ _ C)) ⟨aB,aB,aG,aG⟩ λH5 v=>?_;have b1:=a4.trans<|KR.of (R:=M) v;have ay:∀{b:af}{aa:HO},H b=O aa->b≠pk->H5 b=O aa:=λe b5=>v _ _ (by rw[aX b5];exact m3 _ _ e);refine⟨λm U f=>(∃ab,U=[O (.ref ph),O<|.ref B,ab])/\(KR M H f/\Dm H f)/\f ph=O (.ins cs.iL dx<|qS (.ref pk)<|.ref E)/\f pk=O (.dT<|putK I (ky l)<|.bl Y)/\∃g,f E=O (.dT g)/\g.length<=40*j.length+m/\Mv (Rn M H) F0 f g (md j l m),⟨⟨ai,L⟩,⟨b1,(Dm.of m3).put.trans<|Dm.of v⟩,ay h1 b0,v _ _ ba,mv,ay h3 a9,aG,?_⟩,?_,?_⟩
 ·refine⟨λw a e=>by rw[Rv _ _ _ a];exact av.no w a e,λw ab a e=>?_,av.inj⟩;obtain⟨q,as,rfl,mq,N,pq⟩:=av.yes w ab a e;exact⟨q,as,L,.inl mq,ay N<|dO N h2 (by intro z;cases z),by rw[Rv _ _ _ a];exact pq⟩
 ·rintro m U f hm ⟨⟨v0,rfl⟩,⟨r,Q⟩,n,x,g,o,o4,c⟩;have u:m+1<l.length:=by
   have:m<((l.length:Int)-1).toNat:=hm;omega
  have bk:aY f B l:=sF r _ _ C;have ae:l.take (m+1)≠[]:=λz=>by have:=fG fZ z;rw[gA,ly] at this;omega
  refine Rr (K:=K) (l:=l.take<|m+1) (mv:=g) (OE T W n) (λH6 s6=>vV<|aL.x<|aL.cv (A1 (G.x W<|s6 _ _ bk) aR) (ys:=tx<|l.take<|m+1) (by rw[AV aG,vJ];congr 2;omega)) o (by rw[b9];omega) L (λq H8 p d=>?_) (λab p=>let⟨q,_,e,_⟩:=c.yes _ _ ae p;⟨q,e⟩)<|λD H8 p d h=>?_
  ·have az:=r.trans<|KR.of (R:=M) d;obtain⟨A,as,b2,mq,N,pq⟩:=c.yes _ _ ae p;cases b2;have ag:=d _ _ N;have cp:as.length<=j.length+1:=by rw[fj pq];exact acP _ _ _ _
   refine⟨_,ag,by rw[bH,b9];omega,⟨_,L⟩,⟨az.wa mq,(Q.trans<|Dm.of d).put⟩,?_,?_,g,?_,aG,?_⟩
   ·rw[aX (dO (d _ _ n) ag (by intro z;cases z))];exact d _ _ n
   ·rw[aX (dO (d _ _ x) ag (by intro z;cases z))];exact d _ _ x
   ·rw[aX (dO (d _ _ o) ag (by intro z;cases z))];exact d _ _ o
   ·refine⟨λw a e=>?_,λw v' a e=>?_,c.inj⟩
    ·rw[wb u,c.no w a e,ak,gp];intro z;rw[z,p] at e;cases e
    ·obtain⟨A,ah,rfl,aq,i,ar⟩:=c.yes w v' a e;by_cases z:w=l.take (m+1)
     ·subst z;rw[p] at e;cases e;rw[N] at i;have:=Bx<|HO.lst.inj<|eh i;subst this;exact⟨q,as++[B],L,mq,by rw[ba,fR];rfl,by rw[wb u,aA L];exact uG ar C⟩
     ·have b3:A≠q:=λs=>by subst s;exact z<|c.inj _ _ _ a ae e p
      exact⟨A,ah,L,aq,by rw[aX b3];exact d _ _ i,by rw[wb u,ak z,gp];exact ar⟩
  ·have az:=r.trans<|KR.of (R:=M) d;have a5:H D=ai:=Q _ h;have b4:D≠E:=λz=>by subst z;rw[o] at h;cases h
   have f0:=c.no _ ae p;refine⟨⟨_,L⟩,⟨(az.wa<|.inl h7).wa<|.inr a5,(Q.trans<|Dm.of d).put.put⟩,?_,?_,putK g (ky<|l.take<|m+1)<|.ref D,?_,?_,?_⟩
   ·rw[aX (λz=>by subst z;rw[n] at h;cases h),aX<|dO n o (by intro z;cases z)];exact d _ _ n
   ·rw[aX (λz=>by subst z;rw[x] at h;cases h),aX h4];exact d _ _ x
   ·rw[aX b4.symm,ba]
   ·have:=vg g (ky<|l.take<|m+1)<|.ref D;omega
   ·refine⟨λw a e=>?_,λw v' a e=>?_,λw w' q a a6 e t=>?_⟩
    ·rw[sN] at e;by_cases z:ky w=ky (l.take<|m+1)
     ·rw[aA z] at e;cases e
     ·rw[ak z] at e;rw[wb u,c.no w a e,ak<|λy=>z<|by rw[y],gp]
    ·rw[sN] at e;by_cases z:ky w=ky (l.take<|m+1)
     ·rw[aA z] at e;cases e;have zw:=tX z;subst zw;exact⟨D,[B],L,.inr a5,by rw[ba];rfl,by rw[wb u,aA L,f0];exact .cons C .nil⟩
     ·rw[ak z] at e;obtain⟨A,ah,rfl,aq,i,ar⟩:=c.yes w v' a e;exact⟨A,ah,L,aq,by rw[aX (λy=>by subst y;rw[i] at h;cases h),aX<|dO i o (by intro z;cases z)];exact d _ _ i,by rw[wb u,ak<|λy=>z<|by rw[y],gp];exact ar⟩
    ·rw[sN] at e t;have nD:∀{a7:S},a7≠[]->da g (ky a7)≠O (.ref D):=λhx z=>by
      obtain⟨A,ah,y,aq,i,_⟩:=c.yes _ _ hx z;cases y;rw[i] at h;cases h
     by_cases z:ky w=ky (l.take<|m+1)
     ·rw[aA z] at e;cases e;by_cases s:ky w'=ky (l.take<|m+1)
      ·exact tX<|z.trans s.symm
      ·rw[ak s] at t;exact absurd t (nD a6)
     ·rw[ak z] at e;by_cases s:ky w'=ky (l.take<|m+1)
      ·rw[aA s] at t;cases t;exact absurd e (nD a)
      ·rw[ak s] at t;exact c.inj _ _ _ a a6 e t
 ·rintro U f ⟨⟨v0,rfl⟩,⟨r,Q⟩,n,x,g,o,o4,c⟩;refine a0 f r Q ⟨dx,pk,E,_,g,n,x,o,h4,.inl h5,.inl h6,.inl h7,?_,?_,λw=>?_,?_⟩
  ·have:=vg I (ky l)<|.bl Y;rw[aV,gR];omega
  ·have:g.length<=40*j.length+((l.length:Int)-1).toNat:=o4;rw[aV,gR];omega
  ·rw[sN];by_cases z:w=l
   ·subst z;rw[aA L];simp
   ·rw[ak (λy=>z<|tX y),au,j0,si,si,lu,ja];exact⟨λy=>.inl y,λy=>y.elim id λy=>absurd y z⟩
  ·have e:md j l ((l.length:Int)-1).toNat=λw=>(j++[l]).filter λaE=>gr w aE:=by
    funext w
    rw[<-acQ];congr 1;omega
   have c:Mv (Rn M H) F0 f g (md j l ((l.length:Int)-1).toNat):=c;rw[e] at c;exact c
def Rx{H:Hp}:∀{as:List af}{ls:List S},Paired (aY H) as ls->qx K H (as.map V.ref) (ls.map fi)
 |_,_,.nil=>.nil
 |_,_,.cons h t=>.cons (tR h)<|Rx t
def Ry{H:Hp}{p:af}{ls:List S}(h:cU H p ls):Dp K H (.ref p) (.list<|ls.map fi):=by
 obtain⟨c,a,b⟩:=mW h;exact .lst (aM.of a)<|Rx b
def RA:∀ls ms:List S,C8 (ls.map fi) (ms.map fi)=decide (ls=ms)
 |[],[]=>rfl
 |[],b::m=>by rw[gP aT];rfl
 |a::l,[]=>by rw[gP aT];rfl
 |a::l,b::m=>by
  have c:=RA l m;rw[cM,cM];show(Tj (fi a) (fi b)&&C8 _ _)=_;rw[c,Bv,<-zo];apply cY.mpr;rw[wZ]
def RB:∀ls:List S,HP (ls.map fi)=Y
 |[]=>rfl
 |l::ls=>by
  rw[cM];show(Uc (fi l)&&HP _)=Y;rw[RB ls,Uq<|tS l];rfl
def RC:∀ls:List S,w6 (ls.map fi)<=1
 |[]=>dD _
 |l::ls=>by
  rw[cM];show max (Ud<|fi l) (w6 _)<=1;have:=RC ls;rw[Gx];omega
def RD(ls:List S):uE (.list<|ls.map fi)=Y:=by
 unfold uE;have a:Uc (.list<|ls.map fi)=Y:=RB ls;have b:Ud (.list<|ls.map fi)<=64:=by
  show w6 _+1<=64;have:=RC ls;omega
 rw[a,eN b];rfl
def acR{R:List af->Prop}(h:∀Q:VK,(∀H' q as,J H H'->H' q=O (.lst<|zB V.ref as)->R as->Q (.ref q) H')->t U H Q)
  (k:∀H' q as,J H H'->H q=ai->H' q=O (.lst<|zB V.ref as)->R as->D.rt (.ref q) H'):o8 (gG (λxs H Q=>∃p ys,xs=[.ref p]/\(aM K H p ys∨cO K H p ys)/\∀l,H l=ai->Q (.ref l) (upd H l<|.lst ys))<|aN t aW) D U H:=
 h _ λe q as a c d=>⟨q,_,L,.inl<|aM.of c,λl b=>k _ l as (a.trans<|J.new b) (a.free b) ba d⟩
def GI(cs:Cs):Sp:=λf H Q _=>∃(F:Hp)(M:af->Prop)(b c:af)(d:List S)(x:S),f=[.ref b,.ref c]/\e9 cs F M H b d/\aY H c x/\x≠[]/\
 ∀a q e,J H a->H q=ai->a q=O (.lst<|zB V.ref e)->Paired (aY F) e (d.filter λh=>gr x h)->Q (.ref q) a
def RF:T.kh T.Nj 1 (GI cs):=T.Nj.aU<|bN λH Q ah nd hL v h=>by
 obtain⟨i,aq,w,y,j,x,rfl,z,A,f,aa⟩:=h;refine⟨_,(aC<|aK<|lK z6 aZ T.AH AS<|aj<|V7 (tj v) (aJ<|pv 0) (lK vb aZ T.vF vI<|aj<|pv 1) (bQ gv) ⟨L,L,L,L⟩),?_⟩;obtain⟨dx,pk,B,kv,k,C,h2,n,h4,h5,h6,h7,h8,h9,ag,g⟩:=z.ex;have ab:∀Q:VK,(∀c q a,J H c->c q=O (.lst<|zB V.ref a)->Paired (aY i) a (j.filter λh=>gr x h)->Q (.ref q) c)->JH (cz K (dQ 0) "meant") (gG (λD H Q=>∃p d,D=[.ref p]/\((aM K H p d/\∀l,H l=ai->Q (.ref l) (upd H l<|.tup d))∨(cO K H p d/\Q (.ref p) H)))<|aN (dQ 1) aW) (pj aW) [O (.ref w),O<|.ref y] H Q:=λQ o=>
  OE T W C _ λH1 b=>⟨B,L,.inr ⟨k,.inl<|b _ _ n⟩,vV (G.x W<|b _ _ A) _ λH2 ar r n2 E=>ir _ λs q e n3 I=>⟨_,lO.t (e _ _ (r _ _ (b _ _ n))) (by rw[pW];exact e _ _ E),by
   have m:=b.trans<|r.trans e;cases t:da k (ky x) with
   |none=>exact o s q [] m I (by rw[g.no x f t];exact .nil)
   |some ae=>
    obtain⟨M,a,rfl,_,u,N⟩:=g.yes x ae f t;exact o s M a m (m _ _ u) N⟩⟩
 exact acR (K:=K) (R:=λa=>Paired (aY i) a<|j.filter λh=>gr x h) ab aa
def RG(h:G t U H (.ref c))(g:∀b,J H b->fh u U b (tx x))(e:e9 cs F M H c hs)(i:x≠[])
  (k:∀H' q as,J H H'->H q=ai->H' q=O (.lst<|zB V.ref as)->Paired (aY F) as (hs.filter λh=>gr x h)->Q (.ref q) H'):gX cs.iL "meant_by" (GI cs) [] E t (aN u aW) U H Q:=
 h _ λb a=>let⟨j,pk,v,w,y,l,_⟩:=e.ex;⟨c,j,_,L,a _ _ l,Zl,g b a _ λz m d f=>⟨F,M,c,m,hs,x,L,e.same<|a.trans d,f,i,λn q as o p r s=>k n q as (a.trans<|d.trans o) ((a.trans d).free p) r s⟩⟩
def shortest(hs:List S)(l:S):Option S:=(sj l).find? λp=>(hs.filter λh=>gr p h)==[l]
def RH(cs:Cs):Sp:=λf H Q _=>∃(F:Hp)(M:af->Prop)(c d:af)(a:List S)(l:S),f=[.ref c,.ref d]/\e9 cs F M H c a/\J F H/\(∀b o,F b=O o->¬M b)/\aY H d l/\l.length<=100000/\
 (shortest a l=ai->∀e,J H e->Q .bp e)/\∀p,shortest a l=O p->eS H Q (tx p)
def acS(d:m+1<l.length)(a:∀j<m,p (l.take<|j+1)=ax)(b:p (l.take<|m+1)=Y):(sj l).find? p=O (l.take<|m+1):=by
 rw[agr];refine⟨b,m,by unfold sj;rw[bH,Dd];omega,?_,λj c=>?_⟩
 ·unfold sj;rw[Us,agt]
 ·unfold sj;rw[Us,agt,a j c];rfl
def acT:T.bb T.Nk 2 (RH cs):=T.Nk.aU<|cW ["heads","head","length"] λaa Q ag A hL e h=>by
 obtain⟨F0,ah,n,f,o,l,rfl,B,C,hD,p,hl,D,E⟩:=h;refine⟨_,(aD (iH iC L (IF L T.EU<|aP aI<|aj<|b6 cB aZ T.cn cq<|aj<|pv 1) (d7 2 A)<|aC<|bw (bK (qy<|oh e) (jx (RF T) T.qM (pv 0) (e.mono aB) ck<|aj<|kI kJ (pv 1) px<|jg<|pv 2)<|bQ<|aj<|pv 1) (aC<|aK<|kI kJ (pv 1) px<|jg<|pv 2) bB)<|aC<|aK qu),?_⟩;refine aaR (lo:=1) (z:=((l.length:Nat):Int)) aQ (λH r=>fu W<|r _ _ p) ⟨aB,aB,aG,aG⟩ λH r=>⟨λm U c=>(∃ab,U=[O (.ref n),O<|.ref f,ab])/\J aa c/\∀j<m,((o.filter λh=>gr (l.take<|j+1) h)==[l])=ax,⟨⟨ai,L⟩,r,λj g=>absurd g (C4 _)⟩,?_,?_⟩
 ·rintro m U c I ⟨⟨M,rfl⟩,st,d⟩;have w:m+1<l.length:=by
   have:m<((l.length:Int)-1).toNat:=I;omega
  have x:l.take (m+1)≠[]:=λz=>by have:=fG fZ z;rw[gA,ly] at this;omega
  have t:∀{i},J c i->aL (sH (sJ K) (dQ 1) xt<|pw<|dQ 2) [O (.ref n),O<|.ref f,O<|.int<|1+(m:Int)] i (tx<|l.take<|m+1):=λa=>aL.cv (A1 (G.x W<|a _ _ (st _ _ p)) aR) (by rw[AV aG,vJ];congr 2;omega);have y:G (dG (z9 K) (gX cs.iL "meant_by" (GI cs) [] E0 (dQ 0)<|aN (sH (sJ K) (dQ 1) xt<|pw<|dQ 2) aW)<|pj<|aN (dQ 1) aW) [O (.ref n),O<|.ref f,O<|.int<|1+(m:Int)] c (.bl<|decide ((o.filter λh=>gr (l.take<|m+1) h)=[l])):=λQ N=>
   RG W (λi a=>aL.x<|t a) (B.same st) x λi q as a n1 hq pq=>eW W _ λu aq k n2 e=>⟨_,_,Ry<|oB (k _ _ hq)<|Paired.fT pq λ_ _ ae=>k _ _ (a _ _ (st _ _ (C _ _ ae))),Ry<|oB (as:=[f]) (ls:=[l]) e<|.cons (k _ _ (a _ _ (st _ _ p))) .nil,RD _,RD _,by
    show Q (.bl<|C8 _ _) u;rw[RA];exact N u<|a.trans k⟩
  refine bg.iM (bI y) λv b=>bh (λs=>?_)<|λs=>?_
  ·have hf:shortest o l=O (l.take<|m+1):=acS w d (by rw[fB];exact df s);exact aL.ret (t b) λH7 q s7 n7 h7=>E _ hf H7 q (st.trans<|b.trans s7) ((st.trans b).free n7) h7
  ·refine⟨⟨_,L⟩,st.trans b,λj g=>?_⟩;by_cases z:j=m
   ·subst z;rw[rC];exact d8 s
   ·exact d j aG
 ·rintro U c ⟨⟨M,rfl⟩,st,d⟩;refine G.ret aQ λv b=>D ?_ v<|st.trans b;unfold shortest sj;rw[ags];intro ar hp;obtain⟨j,g,rfl⟩:=iz.mp hp;rw[Cy] at g;rw[d j (by show j<((l.length:Int)-1).toNat;omega)];decide
def Li(H H':Hp):Prop:=∀b o,H b=O o->Kd o->H' b=O o
def Li.tx(k:Li H H'){l:S}(h:aY H a l):aY H' a l:=k _ _ h trivial
def Li.yt(k:Li H H')(h:cU H p ls):cU H' p ls:=by
 obtain⟨c,a,b⟩:=mW h;exact oB (k _ _ a trivial)<|Paired.fT b λ_ _ x=>k.tx x
def Li.name(k:Li H H'){n:bJ}(h:cy cs H a n):cy cs H' a n:=by
 obtain⟨b,c,s,d,e,f,q,g,i,j,l,m⟩:=h;exact⟨b,c,s,d,e,f,k _ _ q trivial,k.tx g,k.tx i,k.tx j,k.tx l,k.yt m⟩
def yM:Li (HR N H) (Hd (λb=>¬N b) H):=λb o e a=>by
 obtain⟨n,e⟩:=eC e;rw[mZ];exact e;rintro⟨u,c,m⟩;rw[e] at c;cases c;rcases m with⟨m,_⟩|⟨_,_,_,_,_,q⟩
 ·exact m n
 ·rw[q] at a;exact a
def GJ(d:∀b,H b=ai->N b)(s:J (Hd (λb=>¬N b) H) H')(f:∀b,Md (λb=>¬N b) H b->H' b=ai):Li H' (HR N<|Re (λb=>¬N b) H H'):=λb o e g=>by
 have a:¬Md (λb=>¬N b) H b:=λm=>by rw[f b m] at e;cases e
 have h:N b:=by
  cases c:H b with
  |none=>exact d b c
  |some u=>
   have i:Hd (λb=>¬N b) H b=O u:=by rw[mZ a];exact c
   have:=s _ _ i;rw[e] at this;cases this;exact rX λz=>a ⟨o,c,.inl ⟨z,g⟩⟩
 rw[jC h,lg a];exact e
def B1{N:af->Prop}(s:J (Hd (λb=>¬N b) H) H'):J H (Re (λb=>¬N b) H H'):=λb o e=>by
 by_cases m:Md (λb=>¬N b) H b
 ·rw[GD m];exact e
 ·rw[lg m];exact s _ _ (by rw[mZ m];exact e)
def e9.trim(h:e9 cs F M H l hs):e9 cs F (λb=>M b/\H b≠ai) H l hs:=by
 obtain⟨m,pk,n,p,r,g,i,j,s,t,u,x,y,A,k,f⟩:=h.ex;have z:∀{b:af}{o:HO},H b=O o->H b≠ai:=λe=>by rw[e];exact j5 _
 exact⟨m,pk,n,p,r,g,i,j,s,⟨t,z g⟩,⟨u,z i⟩,⟨x,z j⟩,y,A,k,f.no,λw v B e=>let⟨q,C,a,b,c,d⟩:=f.yes w v B e;⟨q,C,a,⟨b,z c⟩,c,d⟩,f.inj⟩
noncomputable def Fz(R M:af->Prop)(H:Hp):Hp:=HR (λb=>R b/\¬M b) H
def jq(cs:Cs)(R:af->Prop)(H:Hp)(a:af)(told:Nat)(hs:List S):Prop:=∃c:af->Prop,(∀b,c b->R b/\H b≠ai)/\¬c a/\R a/\told<=300/\hs.length<=told/\
 ∃e d,H a=O (.ins cs.jn e<|tJ (.int (told:Nat))<|.ref d)/\e9 cs (Fz R (λb=>c b∨b=a) H) c H d hs
def lj{R M:af->Prop}(e:Fz R M H b=O o):(R b/\¬M b)/\H b=O o:=eC e
def lp{R M:af->Prop}(a:R b)(c:¬M b)(e:H b=O o):Fz R M H b=O o:=by unfold Fz;rw[jC ⟨a,c⟩];exact e
def jq.keep{R R':af->Prop}{told:Nat}{hs:List S}(h:jq cs R H a told hs)(k:∀b o,R b->H b=O o->H' b=O o)(d:∀b,R b->H b≠ai->R' b):jq cs R' H' a told hs:=by
 obtain⟨i,c,j,f,l,p,q,s,g,t⟩:=h;refine⟨i,λb m=>⟨d b (c b m).1 (c b m).2,?_⟩,j,d _ f (by rw[g];exact j5 _),l,p,q,s,k _ _ f g,((t.keep λb o e m=>k b o (c b m).1 e)).mono (λb o e=>?_) λ_ x=>x⟩
 ·obtain⟨o,e⟩:=lD.mp (c b m).2;rw[k b o (c b m).1 e];exact j5 _
 ·obtain⟨⟨r,n⟩,e⟩:=lj e;exact lp (d b r (by rw[e];exact j5 _)) n<|k b o r e
def jq.same{R:af->Prop}{told:Nat}{hs:List S}(h:jq cs R H a told hs)(s:J H H'):jq cs R H' a told hs:=h.keep (λb o _ e=>s b o e) λ_ x _=>x
def e9.pX{F:Hp}{M:af->Prop}{H H':Hp}{c a C dx:af}{fs:List (ao×V)}{hs:List S}(h:e9 cs F M H c hs)(k:Kt a H H')(d:¬M a):e9 cs F M H' c hs:=h.keep λb o e m=>k b o e λz=>d (z▸m)
def iQ(hs:List S)(n:bJ):bJ:=if n.e1=[]/\n.num<0 then n else match shortest hs n.head with
 |some p=>{n with abbr:=1,head:=p}
 |none=>n
def acU(l:List bJ)(n:bJ):iQ (ej l) n=Ut l n:=by
 unfold iQ Ut shortest agu;split
 ·rfl
 ·cases(sj n.head).find? (λp=>((ej l).filter λh=>gr p h)==[n.head])<;>rfl
def RI(cs:Cs):Sp:=λe H Q _=>∃p d,e=[.ref p]/\H p=O (.ins cs.jn d [])/\∀a c,Kt p H a->H c=ai->a p=O (.ins cs.jn d<|tJ (.int 0)<|.ref c)->(∀F,e9 cs F (λb=>H b=ai) a c [])->Q .bp a
def xX:T.oo T.xX 3 (RI cs):=T.xX.aU<|bN λH Q E u v l h=>by
 obtain⟨p,n,rfl,o,k⟩:=h;refine⟨_,(aD (bP (pv 0) aI L)<|aC<|bP (pv 0) (oj (xV T) T.NY l) L),?_⟩;refine gy T.xZ (T.x5 _ bf) aB o aQ aR λc d a=>?_;refine vY<|Ru λw q f j r=>?_;refine pS T.xZ (T.x5 _ bf) (by show 1<1000;decide) (f _ _ a) aQ aR λs g t=>?_;have i:∀{b:af},c b=ai->H b=ai:=λ{b} e=>d.free e λz=>by subst z;rw[a] at e;cases e
 refine k s q (d.trans<|(bE f).trans g) (i j) t λF=>?_;exact((r F).pX (C:=cs.jn) (dx:=n) (fs:=[]) g (by show¬(c p=ai);rw[a];exact j5 _)).mono (J.refl _) λb m=>i m
def RJ(k:∀d p,J H d->H p=ai->jq cs (λb=>H b=ai) d p 0 []->Q (.ref p) d):iZ cs.jn (RI cs) [] E aW U H Q:=λx a c g gc=>
 ⟨x,a,L,ba,λf i j r l n=>⟨L,by
  have st:J H f:=λb o e=>j b o (by rw[aX (bA e c),aX<|bA e g];exact e)<|bA e c;have h:∀{b:af},upd (upd H a<|.own x) x (.ins cs.jn a []) b=ai->H b=ai/\b≠x:=λ{b} e=>by
   refine⟨?_,λz=>by subst z;rw[ba] at e;cases e⟩;cases q:H b with
   |none=>rfl
   |some o=>rw[aX (bA q c),aX<|bA q g,q] at e;cases e
  refine k f x st c ⟨λb=>upd (upd H a<|.own x) x (.ins cs.jn a []) b=ai/\f b≠ai,λb m=>⟨(h m.1).1,m.2⟩,λm=>(h m.1).2 L,c,dD _,bG _,a,i,l,(n _).trim⟩⟩⟩
def RK(cs:Cs):Sp:=λf H Q _=>∃(F:Hp)(M:af->Prop)(c d:af)(e:List S)(n:bJ),f=[.ref c,.ref d]/\e9 cs F M H c e/\J F H/\(∀b o,F b=O o->¬M b)/\cy cs H d n/\n.head.length<=100000/\n.authors.length<=1000/\
 ∀a q,J H a->cy cs a q (iQ e n)->Q (.ref q) a
def acV:T.bb T.shortened 5 (RK cs):=T.shortened.aU<|cW ["heads","name","short"] λav ay az z hL q h=>by
 obtain⟨A,aa,r,g,B,n,rfl,c,C,D,d,E,w,k⟩:=h;refine⟨_,(aD (bw (PW.pt<|iF (bK de (b6 cB aZ T.cn cq<|aj<|aJ<|pv 1) aI)<|iE<|bK f9 (aJ<|pv 1) aI) (aC<|aK<|pv 1) bB)<|aD (cw 2 z<|aO (acT T) q<|aP (pv 0)<|aj<|aJ<|pv 1)<|aD (bw (bK zU (pv 2) qu) (aC<|aK<|pv 1) bB)<|aC<|aK<|aO (Po T) q<|aP (pv 1)<|aP aI<|aj<|pv 2),?_⟩;unfold iQ at k;obtain⟨dx,s,s',e1,e2,au,t,u,q2,q3,q4,q5⟩:=id d;refine bg.bU (iq (bI<|dw (Gq T W d) bq) λl a _=>bI<|cj (tG T W<|a _ _ t) bq) λl a=>?_;have H:(decide (((n.e1.length:Nat):Int)=0)&&decide (n.num<0))=decide (n.e1=[]/\n.num<0):=by
  rw[<-zo];apply cY.mpr;rw[<-mC];omega
 rw[H];refine bh (λm=>?_)<|λm=>?_
 ·rw[aA (df m)] at k;exact G.ret W λv i=>k v g (a.trans i)<|d.same<|a.trans i
 rw[ak (d8 m)] at k;have ah:aY l s n.head:=a _ _ u;refine iP (show cA (RH cs) [] E0 (aN (dQ 0)<|aN (cz K (dQ 1) "head") aW) [O (.ref r),O<|.ref g,ai] l _ from⟨_,L,kU T W (a _ _ t) _ λv i=>?_⟩);have e:=a.trans i;refine⟨A,aa,r,s,B,n.head,L,c.same e,C.trans e,D,e _ _ u,E,λx I o=>?_,λab y I ae o n3 M=>?_⟩
 ·have f:=e.trans o;rw[x] at k;refine bg.bU (bI<|vU W bq) λN b=>bh (λ_=>?_)<|λc=>absurd c aT;exact G.ret W λp j=>k p g (f.trans<|b.trans j)<|d.same<|f.trans<|b.trans j
 ·have f:=e.trans o;rw[y] at k;refine bg.bU (bI<|vU W bq) λN b=>bh (λc=>absurd c aT)<|λ_=>?_;exact⟨_,L,_,L,g,ae,1,n,ab,L,d.same<|f.trans b,w,b _ _ M,λp ag aq j n5 ar Q _=>k p ag (f.trans<|b.trans j) Q.a⟩
def acW{M:af->Prop}{hs:List S}{n:bJ}(h:G t U H (.ref c))(e:∀a,J H a->G u U a (.ref nm))(f:e9 cs F M H c hs)(g:J F H)(i:∀b o,F b=O o->¬M b)(j:cy cs H nm n)(hz:n.head.length<=100000)(l:n.authors.length<=1000)
  (k:∀H' q,J H H'->cy cs H' q (iQ hs n)->Q (.ref q) H'):cA (RK cs) [] E (aN t<|aN u aW) U H Q:=
 h _ λa d=>e a d _ λw p=>let m:=d.trans p;⟨F,M,c,nm,hs,n,L,f.same m,g.trans m,i,j.same m,hz,l,λr q s v=>k r q (m.trans s) v⟩
def acX{n:bJ}{f:bJ->S}{ok:bJ->Prop}(h:∀Q:VK,(∀H' q,J H H'->cy cs H' q n->Q (.ref q) H')->t U H Q)(c:ok n):aL (cA (yl cs f ok) [] E<|aN t aW) U H (tx<|f n):=λQ k=>
 h _ λl a b d=>⟨a,n,L,d,c,λe q g i j=>k e q (b.trans g) (b.free i) j⟩
def jE(told:Nat)(hs:List S)(n:bJ):List Int×Nat×List S:=
 if(n.abbr==0&&nJ n)=ax then([-1],told,hs) else if 300<=told then([-2],told,hs) else(0::fm (hZ<|iQ hs n),told+1,lh hs n.head)
def acY(cs:Cs):Sp:=λg H Q _=>∃(R N:af->Prop)(a f:af)(d:Nat)(e:List S)(n:bJ),g=[.ref a,.ref f]/\jq cs R H a d e/\cy cs (HR N H) f n/\(∀b,N b->¬R b)/\
 (n.head.length<=5000/\n.sub.length<=5000/\n.e1.length<=5000/\n.e2.length<=5000/\dF n.authors<=1000000/\n.authors.length<=1000)/\
 ∀c q,KR R H c->Dm H c->H q=ai->c q=O (.lst<|zs (jE d e n).1)->jq cs (Rn (λb=>R b∨N b) H) c a (jE d e n).2.1 (jE d e n).2.2->Q (.ref q) c
def acZ(hs:List S)(l:S):(lh hs l).length<=hs.length+1:=by
 unfold lh;split
 ·omega
 ·rw[aV,gR];omega
def RL{hs:List S}{n:bJ}(h:fO n):fO (iQ hs n):=by
 unfold iQ;split
 ·exact h
 ·cases a:shortest hs n.head with
  |none=>exact h
  |some p=>
   have b:p.length<=n.head.length:=by
    have:=HX a;unfold sj at this;obtain⟨j,_,rfl⟩:=iz.mp this;rw[gA];omega
   exact⟨h.q1,h.q2,h.num,h.year,by have:=h.head;show p.length<=5000;omega,h.sub,h.e1,h.e2,h.au⟩
def ac0:T.bb T.Nz 8 (acY cs):=T.Nz.aU<|cW ["draft","name","line"] λH cm cE nd hL D cp=>by
 obtain⟨R,aa,a,Q,d,c,n,rfl,av,ay,a9,p,k⟩:=cp;refine⟨_,(aD (bw (PW.pt<|nR (eJ<|cN<|aO (OP T) D<|aj<|pv 1)<|oZ<|bK pb (aJ<|pv 1) aI) (aC<|aK<|bQ<|aj<|du dv aI) bB)<|aD (bw (bK mK (aJ<|pv 0)<|cD T.X6) (aC<|aK<|bQ<|aj<|du dv aI) bB)<|aD (cw 2 nd<|aO (Bk T) D<|aj<|aO (acV T) D<|aP (aJ<|pv 0)<|aj<|pv 1)<|aD (bW<|jx (Rw T) T.qM (aJ<|pv 0) (D.mono aB) ck<|aj<|aJ<|pv 1)<|aD (xq (pv 0) aI xr)<|aC<|aK<|cP fW (bQ<|aj aI)<|pv 2),?_⟩;have hn:cy cs H Q n:=ay.same gM;obtain⟨h,E,m2,m3,m4,m5,v,j,w,x⟩:=id av;have ag:∀{H'},J H H'->jq cs (Rn (λb=>R b∨aa b) H) H' a d c:=λct=>av.keep (λb o _ e=>ct b o e) λb r _=>.inl<|.inl r;refine bg.bU (pK (eM<|cS<|tN W hn) λH1 t _=>bI<|tD (yG T W<|hn.same t) bq) λH1 t=>?_;have e0:(!Vbnlab.sound n||!decide (n.abbr=0))=!(n.abbr==0&&nJ n):=by rw[Uk,agf,fS]
 rw[e0];refine bh (λf=>?_)<|λf=>?_
 ·rw[dZ] at f;have y:jE d c n=([-1],d,c):=by unfold jE;rw[aA f]
  rw[y] at k;exact gi (dA aQ) t λI q g n2 x=>k I q (KR.of g) (Dm.of g) n2 x<|ag g
 rw[eG] at f;have az:¬(n.abbr==0&&nJ n)=ax:=by rw[f];decide
 refine bg.bU (bI<|cj (OI T W<|t _ _ w) bq) λI g=>bh (λA=>?_)<|λA=>?_
 ·have A:=df A;have y:jE d c n=([-2],d,c):=by unfold jE;rw[ak az,aA aG]
  rw[y] at k;exact gi (dA aQ) (t.trans g) λI q g n2 x=>k I q (KR.of g) (Dm.of g) n2 x<|ag g
 have A:=d8 A;have y:jE d c n=(0::fm (hZ<|iQ c n),d+1,lh c n.head):=by unfold jE;rw[ak az,ak aG]
 rw[y] at k;have ae:nJ n=Y:=by rw[bL] at f;exact f.2
 have a6:n.abbr=0:=by rw[bL,fB] at f;exact f.1
 have bk:=fO.Bq ae ⟨p.1,p.2.1,p.2.2.1,p.2.2.2.1,p.2.2.2.2.1⟩;have bl:Vbnlab.genusText n.head=Y:=by
  have:=ae;unfold nJ at this;rw[a6] at this;simp only[bL,jH] at this;rcases this.1 with z|z
  ·exact z.2
  ·exact absurd z.1 aB
 have a7:=qY bl;have s:=t.trans g;let cv:af->Prop:=λb=>h b∨b=a;let F:Hp:=Fz (λb=>R b∨aa b) cv H;have bx:∀{b:af}{o:HO},HR aa H b=O o->F b=O o:=λe=>by
  obtain⟨nb,e⟩:=eC e;refine lp (.inr nb) (λm=>a9 _ nb ?_) e;rcases m with m|rfl
  ·exact(E _ m).1
  ·exact m3
 have sF:J F H:=gM;have hF:∀b o,F b=O o->¬h b:=λb o e m=>(lj e).1.2<|.inl m;have M:e9 cs F h H j c:=x.mono (λb o e=>by obtain⟨⟨r,n⟩,e⟩:=lj e;exact lp (.inl r) n e) λ_ ab=>ab;have b0:cy cs F Q n:=ay.same λb o e=>bx e;obtain⟨dn,hh,s',e1,e2,au,q0,q1,q2,q3,q4,q5⟩:=id b0;have ah:fO (iQ c n):=RL bk;have cC:=Br ah;refine aL.eB (acX (n:=iQ c n) (f:=hZ) (ok:=fO) (λcm kq=>acW (n:=n) (OJ T W<|s _ _ w) aR (M.same s) (sF.trans s) hF (hn.same s) aG p.2.2.2.2.2 kq) ah) λH3 ln s3 n3 h3=>?_;have aE:=s.trans s3;refine tW (show gX cs.iL "learn" (GG cs) [] E0 (cz K (dQ 0) "heads") (aN (cz K (dQ 1) "head") aW) [O (.ref a),O<|.ref Q,O<|.ref ln] H3 _ from OJ T W (aE _ _ w) _ λH4 s4=>?_);have N:=aE.trans s4;obtain⟨dh,pk,pm,kv,mv,g1,_⟩:=(M.same N).ex;refine⟨j,dh,_,L,g1,OF,kU T W (N _ _ (sF _ _ q0)) _ λH5 s5=>?_⟩;have i:=N.trans s5;refine⟨F,h,j,hh,c,n.head,L,M.same i,sF.trans i,hF,q1,a7.1,aG,λH6 C b1 b2=>?_⟩;have a0:H6 a=O (.ins cs.jn v<|tJ (.int (d:Nat))<|.ref j):=C _ _ (i _ _ w) m2;have b3:=i _ _ w;have aq:¬Rn h H5 a:=λz=>by
  rcases z with z|z
  ·exact m2 z
  ·rw[b3] at z;cases z
 have ar:H6 ln=O (.lst<|tx<|hZ<|iQ c n):=by
  refine C _ _ (s5 _ _ (s4 _ _ h3)) λz=>?_;have:=(E _ z).2;exact this (s.free n3)
 refine sq<|yB W a0 T.xZ (T.x5 _ bf) aZ (by show 2<1000;decide) bq λH7 B h7=>?_;have a8:=B _ _ ar (dO ar a0 (by intro z;cases z));refine aL.ret (fX (aL.x<|eW aQ) (λu l=>G.x W<|l _ _ a8) (by rw[bX,b9];show 1+_<=_;omega)) λu q l n8 h8=>?_;have a3:Dm H H7:=(Dm.of i).trans<|b1.trans<|Dm.kt B h7;have b4:Dm H u:=a3.trans<|Dm.of l;have b5:KR R H u:=λb o e n=>by
  have f:¬h b:=λm=>n (E _ m).1;exact l _ _ (B _ _ (C _ _ (i _ _ e) f) λz=>n (z▸m3))
 refine k u q b5 b4 (a3 _ n8) ?_ ⟨λb=>Rn h H5 b/\u b≠ai,λb m=>⟨?_,m.2⟩,λm=>aq m.1,.inl<|.inl m3,by show d+1<=300;omega,?_,v,j,?_,?_⟩
 ·rw[h8];show _=O (HO.lst<|V.int 0::zs (fm _));rw[qT];rfl
 ·rcases m.1 with z|z
  ·exact .inl<|.inl (E _ z).1
  ·exact .inr<|i.free z
 ·have:=acZ c n.head;show(lh c n.head).length<=d+1;omega
 ·rw[l _ _ h7];show O (HO.ins cs.jn v<|tJ (.int<|(d:Int)+1)<|.ref j)=O (HO.ins cs.jn v<|tJ (.int ((d+1:Nat):Int))<|.ref j);rw[show((d+1:Nat):Int)=(d:Int)+1 by omega]
 ·have cc:e9 cs F (Rn h H5) u j (lh c n.head):=(b2.pX (C:=cs.jn) (dx:=v) (fs:=[]) B aq).same l;refine cc.trim.mono (λb o e=>?_) λ_ ab=>ab;obtain⟨⟨r,nM⟩,e⟩:=lj e;have a4:¬h b:=λm=>nM<|.inl m;have a5:b≠a:=λz=>nM<|.inr z;have e5:=i _ _ e;refine lp (.inl r) ?_<|l _ _ (B _ _ (C _ _ e5 a4) a5);rintro(⟨z,_⟩|z)
  ·rcases z with z|z
   ·exact a4 z
   ·rw[e5] at z;cases z
  ·exact a5 z
def ac1(l:List bJ):(ej l).length<=l.length:=by
 have g:∀x:List S,(HY x).length<=x.length:=by
  intro x;induction x with
  |nil=>exact bG _
  |cons a r b=>
   show((HY r).filter _).length+1<=_;have:=oQ (λy=>y !=a)<|HY r;rw[bV];omega
 have:=g<|l.map λn=>n.head;rw[bH] at this;exact this
def RM(l:List bJ)(n:bJ):ej (l++[n])=lh (ej l) n.head:=by
 unfold ej lh;rw[fR];show HY (_++[n.head])=_;rw[K1];by_cases h:n.head∈l.map λn=>n.head
 ·rw[aA h,aA<|si.mpr<|(AA _ _).mpr h]
 ·rw[ak h,ak<|λz=>h<|(AA _ _).mp<|si.mp z]
def RN(m:h∈ej l):∃n∈l,n.head=h:=iz.mp<|(AA _ _).mp m
structure ub(cs:Cs)(R M MH:af->Prop)(H:Hp)(a:af)(p:gW)(dx pu pn pl ph:af)(ns:List af):Prop where
 al:∀b,M b->R b/\H b≠ai
 ma:M a
 mu:M pu
 mn:M pn
 ml:M pl
 mh:∀b,MH b->M b/\b≠a/\b≠pu/\b≠pn/\b≠pl
 d1:pu≠pn
 d2:pu≠pl
 d3:pn≠pl
 z:p.names.length<=300
 good:∀n∈eQ p,Nm.Good n
 o:H a=O (.ins cs.Paper dx<|ow (.ref pu) (.int (p.lines:Nat)) (.ref pn) (.ref pl)<|.ref ph)
 u:H pu=O (.lst<|tx p.part)
 n:H pn=O (.lst<|ns.map V.ref)
 l:H pl=O (.lst<|zs<|p.names.map λx=>(x.1:Int))
 nm:Paired (cy cs<|Fz R M H) ns (eQ p)
 hd:e9 cs (Fz R M H) MH H ph (ej<|eQ p)
def eD(cs:Cs)(R M:af->Prop)(H:Hp)(a:af)(p:gW):Prop:=∃b c d e f g h,ub cs R M b H a p c d e f g h
structure Gr(M:af->Prop)(H H':Hp)(M':af->Prop):Prop where
 kr:KR M H H'
 dm:Dm H H'
 m:∀b,M' b->M b∨H b=ai
def Gr.of(s:J H H'):Gr M H H' M:=⟨KR.of s,Dm.of s,λ_ x=>.inl x⟩
def Gr.trans{M M1 M2:af->Prop}(x:Gr M H c M1)(y:Gr M1 c d M2):Gr M H d M2:=
 ⟨λb o e n=>y.kr b o (x.kr b o e n) λa=>(x.m b a).elim n (λz=>by rw[e] at z;cases z),x.dm.trans y.dm,λb a=>(y.m b a).elim (x.m b) λz=>.inr<|x.dm b z⟩
def Gr.fz(g:Gr M H H' a)(c:∀b,R b->R' b):J (Fz R M H) (Fz R' a H'):=λb o e=>by
 obtain⟨⟨r,n⟩,e⟩:=lj e;exact lp (c b r) (λd=>(g.m b d).elim n λz=>by rw[e] at z;cases z)<|g.kr b o e n
def yN:∀b,R b->Rn R H b:=λ_ r=>.inl r
def ac2(d:Dm H a):∀b,Rn (Rn R H) a b->Rn R H b:=λb r=>r.elim id λz=>.inr<|d b z
def ub.up(h:ub cs R M f H a p dx g i pl j q)(k:∀b o,R b->H b=O o->H' b=O o)(c:∀b,R b->H b≠ai->R' b):ub cs R' M f H' a p dx g i pl j q:=by
 have d:J (Fz R M H) (Fz R' M H'):=λb o e=>by
  obtain⟨⟨r,s⟩,e⟩:=lj e;exact lp (c b r (by rw[e];exact j5 _)) s<|k b o r e
 have kk:∀{b o},M b->H b=O o->H' b=O o:=λm e=>k _ _ (h.al _ m).1 e;exact⟨λb m=>⟨c b (h.al b m).1 (h.al b m).2,by
  obtain⟨o,e⟩:=lD.mp (h.al b m).2;rw[kk m e];exact j5 _⟩,h.ma,h.mu,h.mn,h.ml,h.mh,h.d1,h.d2,h.d3,h.z,h.good,kk h.ma h.o,kk h.mu h.u,kk h.mn h.n,kk h.ml h.l,Paired.fT h.nm λ_ _ x=>x.same d,(h.hd.keep λb o e m=>kk (h.mh b m).1 e).mono d λ_ x=>x⟩
def eD.keep(h:eD cs R M H a p)(k:∀b o,R b->H b=O o->H' b=O o)(c:∀b,R b->H b≠ai->R' b):eD cs R' M H' a p:=
 let⟨d,e,f,g,i,j,l,h⟩:=h;⟨d,e,f,g,i,j,l,h.up k c⟩
def eD.same(h:eD cs R M H a p)(s:J H H'):eD cs R M H' a p:=h.keep (λb o _ e=>s b o e) λ_ x _=>x
def RO(cs:Cs):Sp:=λd H Q _=>∃a e,d=[.ref a]/\H a=O (.ins cs.Paper e [])/\∀c M,Kt a H c->(∀b,M b->b=a∨H b=ai)->(∀R,(∀b,b=a∨H b=ai->R b)->eD cs R M c a {})->Q .bp c
def xW:T.oo T.xW 3 (RO cs):=T.xW.aU<|bN λH ay az nd hL hr aq=>by
 obtain⟨a,dx,rfl,ha,ar⟩:=aq;refine⟨_,(aD (bP (pv 0) (bQ gv) L)<|aD (bP (pv 0) aI L)<|aD (bP (pv 0) (bQ gv) L)<|aD (bP (pv 0) (bQ gv) L)<|aC<|bP (pv 0) (oj (xV T) T.NY hr) L),?_⟩;refine mV T.kg (T.lS _ bf) aB ha ir aR λH1 f x nu g hu h1=>?_;refine gy T.kg (T.lS _ bf) (by show 1<1000;decide) h1 aQ aR λH2 n h2=>?_;refine mV T.kg (T.lS _ bf) (by show 2<1000;decide) h2 ir aR λH3 c p nn q r h3=>?_;refine mV T.kg (T.lS _ bf) (by show 3<1000;decide) h3 ir aR λh d A i s hl t=>?_;have v:=n _ _ hu g;have B:=A _ _ (p _ _ v g) g;have C:=A _ _ r q;refine vY<|Ru λH5 ph j av hd=>?_;refine pS T.kg (T.lS _ bf) (by show 4<1000;decide) (j _ _ t) aQ aR λu k h6=>?_;have D:=x.trans<|n.trans<|p.trans A;have z:∀{b:af}{o:HO}{H:Hp},H b=O o->H b≠ai:=λe=>by rw[e];exact j5 _
 have w:∀b,h b=ai->H b=ai/\b≠a/\b≠f/\b≠c/\b≠d:=λb e=>by
  have l:∀{aa:af}{o:HO},h aa=O o->b≠aa:=λe' y=>by subst y;rw[e] at e';cases e'
  exact⟨D.free e<|l t,l t,l B,l C,l hl⟩
 have ab:f≠c:=λy=>by subst y;rw[v] at nn;cases nn
 have ae:f≠d:=λy=>by subst y;rw[p _ _ v g] at i;cases i
 have ag:c≠d:=λy=>by subst y;rw[r] at i;cases i
 have E:=k _ _ (j _ _ B) g;have I:=k _ _ (j _ _ C) q;have M:=k _ _ (j _ _ hl) s;have N:H c=ai:=x.free (n.free nn q) q;have Q:H d=ai:=x.free (n.free (p.free i s) s) s;refine ar u (λb=>(b=a∨b=f∨b=c∨b=d∨h b=ai)/\u b≠ai) (D.trans<|(bE j).trans k) (λb m=>?_) λR hR=>?_
 ·rcases m.1 with rfl|rfl|rfl|rfl|m
  ·exact .inl L
  ·exact .inr nu
  ·exact .inr N
  ·exact .inr Q
  ·exact .inr (w b m).1
 ·have ah:=((hd<|Fz R (λb=>(b=a∨b=f∨b=c∨b=d∨h b=ai)/\u b≠ai) u).pX (C:=cs.Paper) (dx:=dx) (fs:=[]) k (by show¬(h a=ai);rw[t];exact j5 _)).trim;refine⟨_,dx,f,c,d,ph,[],λb m=>⟨hR b ?_,m.2⟩,⟨.inl L,z h6⟩,⟨.inr<|.inl L,z E⟩,⟨.inr<|.inr<|.inl L,z I⟩,⟨.inr<|.inr<|.inr<|.inl L,z M⟩,λb m=>⟨⟨.inr<|.inr<|.inr<|.inr m.1,m.2⟩,(w b m.1).2⟩,ab,ae,ag,dD _,λaE r=>absurd r (nL),h6,E,I,M,.nil,ah⟩;rcases m.1 with rfl|rfl|rfl|rfl|m
  ·exact .inl L
  ·exact .inr nu
  ·exact .inr N
  ·exact .inr Q
  ·exact .inr (w b m).1
def RP(k:∀c p M,J H c->H p=ai->eD cs (λb=>H b=ai) M c p {}->Q (.ref p) c):iZ cs.Paper (RO cs) [] E aW U H Q:=λx g a d gc=>
 ⟨x,g,L,ba,λf M h _ i=>⟨L,by
  have st:J H f:=λb o e=>h b o (by rw[aX (bA e a),aX<|bA e d];exact e)<|bA e a;refine k f x M st a<|i _ λb z=>?_;rcases z with rfl|e
  ·exact a
  ·cases q:H b with
   |none=>rfl
   |some o=>rw[aX (bA q a),aX<|bA q d,q] at e;cases e⟩⟩
def RQ(cs:Cs):Sp:=λd H Q _=>∃(R M:af->Prop)(a:af)(p:gW),d=[.ref a]/\eD cs R M H a p/\
 ∀b c q,Gr M H b c->eD cs (Rn R H) c b a {p with lines:=p.lines+1,part:=[]}->aY (Fz (Rn R H) c b) q p.part->Q (.ref q) b
def ac3:T.kh T.Nl 1 (RQ cs):=T.Nl.aU<|cW ["self","line"] λH ab ae E hL hr h=>by
 obtain⟨R,M,a,p,rfl,⟨I,k,l,f,i,n,N,h⟩,aa⟩:=h;refine⟨_,(aD (cw 1 E<|aJ<|pv 0)<|aD (bP (pv 0) (bQ gv) L)<|aD (xq (pv 0) aI xr)<|aC<|aK<|pv 1),?_⟩;refine G.eB (Fi T W h.o) λH1 r=>?_;refine mV T.kg (T.lS _ bf) (by show 5<1000;decide) (r _ _ h.o) ir aR λH2 q Q nq aq hq h2=>?_;refine sq<|yB W h2 T.kg (T.lS _ bf) aZ (by show 5<1000;decide) bq λH3 y h3=>?_;refine G.ret W λs t=>?_;have c:Kt a H s:=(bE r).trans<|Q.trans<|y.trans<|bE t;have u:=t _ _ h3;have d:H q=ai:=r.free nq;have v:=t _ _ (y _ _ hq aq);have w:l≠a:=dO h.u h.o (by intro z;cases z);have C:f≠a:=dO h.n h.o (by intro z;cases z);have D:i≠a:=dO h.l h.o (by intro z;cases z);have j:∀{b:af}{o:HO},H b=O o->b≠q:=λe z=>by subst z;rw[d] at e;cases e
 have z:∀{b:af}{o:HO}{H:Hp},H b=O o->H b≠ai:=λe=>by rw[e];exact j5 _
 have g:Gr M H s λb=>(M b/\b≠l)∨b=q:=⟨KR.kt c h.ma,Dm.kt c u,λb m=>m.elim (λm=>.inl m.1) λm=>.inr (m▸d)⟩;have A:=g.fz<|yN (R:=R) (H:=H);refine aa s _ l g ⟨I,k,q,f,i,n,N,λb m=>?_,.inl ⟨h.ma,w.symm⟩,.inr L,.inl ⟨h.mn,h.d1.symm⟩,.inl ⟨h.ml,h.d2.symm⟩,λb m=>?_,(j h.n).symm,(j h.l).symm,h.d3,h.z,h.good,?_,v,c _ _ h.n C,c _ _ h.l D,Paired.fT h.nm λ_ _ x=>x.same A,?_⟩ ?_
 ·rcases m with m|rfl
  ·refine⟨.inl (h.al b m.1).1,?_⟩;by_cases e:b=a
   ·subst e;exact z u
   ·obtain⟨o,e'⟩:=lD.mp (h.al b m.1).2;exact z<|c _ _ e' e
  ·exact⟨.inr d,z v⟩
 ·obtain⟨B,m2,m3,m4,m5⟩:=h.mh b m;refine⟨.inl ⟨B,m3⟩,m2,λe=>?_,m4,m5⟩;subst e;exact(h.al _ B).2 d
 ·rw[u];show O (HO.ins cs.Paper k<|ow (.ref q) (.int<|(p.lines:Int)+1) (.ref f) (.ref i)<|.ref n)=O (HO.ins cs.Paper k<|ow (.ref q) (.int ((p.lines+1:Nat):Int)) (.ref f) (.ref i)<|.ref n);rw[show((p.lines+1:Nat):Int)=(p.lines:Int)+1 by omega]
 ·exact(h.hd.keep λb o e m=>c b o e (h.mh b m).2.1).mono A λ_ x=>x
 ·refine lp (.inl (h.al _ h.mu).1) ?_<|c _ _ h.u w;rintro(⟨_,m⟩|m)
  ·exact m L
  ·exact j h.u m
def ac4(h:t U H λ_ a=>D.nx U a):gu t D U H:=h
def rk(p:gW)(n:bJ):gW:={p with names:=p.names++[(p.lines,n)]}
def B2(p:gW)(n:bJ):eQ (rk p n)=eQ p++[n]:=by unfold eQ rk;rw[fR];rfl
def RS(cs:Cs):Sp:=λe H Q _=>∃(R M:af->Prop)(a c:af)(p:gW)(n:bJ),e=[.ref a,.ref c]/\eD cs R M H a p/\cy cs (Fz R M H) c n/\Nm.Good n/\p.names.length<300/\
 ∀b d,Gr M H b d->eD cs (Rn R H) d b a (rk p n)->Q .bp b
def ac5:T.kh T.Nn 2 (RS cs):=T.Nn.aU<|bN λH a3 a4 nd hL hr h=>by
 obtain⟨R,M,a,j,p,n,rfl,⟨l,dx,E,i,f,u,q,h⟩,hn,hg,hz,av⟩:=h;refine⟨_,(aD (bW<|eK eL jJ jK jj (aJ<|pv 0)<|aj<|pv 1)<|aD (bW<|eK eL jJ jK jj (aJ<|pv 0)<|aj<|aJ<|pv 0)<|aC<|bW<|jx (Rw T) T.qM (aJ<|pv 0) (hr.mono aB) ck<|aj<|aJ<|pv 1),?_⟩;have az:q.length=p.names.length:=by rw[fj h.nm];unfold eQ;rw[bH]
 obtain⟨dn,hh,s',e1,e2,au,q0,q1,q2,q3,q4,q5⟩:=id hn;have aE:E≠a:=dO h.u h.o (by intro z;cases z);have C:i≠a:=dO h.n h.o (by intro z;cases z);have aa:f≠a:=dO h.l h.o (by intro z;cases z);refine yf (v:=.ref j) (Fj T W h.o) h.n aR (by rw[bH,b9];omega) λv w=>?_;have o1:=(show upd v i (.lst<|q.map V.ref++[.ref j]) a=v a from aX C.symm).trans<|w _ _ h.o;have l1:=(show upd v i (.lst<|q.map V.ref++[.ref j]) f=v f from aX h.d3.symm).trans<|w _ _ h.l;refine yf (v:=.int ((p.lines:Nat):Int)) (OG T W o1) l1 (λH2 r=>Zm T W<|r _ _ o1) (by rw[i5,bH,b9];omega) λH2 r=>?_;generalize t:upd H2 f (.lst<|zs (p.names.map λx=>(x.1:Int))++[.int ((p.lines:Nat):Int)])=g;have st:∀{b:af}{o:HO},H b=O o->b≠i->b≠f->g b=O o:=λe n1 n2=>by rw[<-t,aX n2];exact r _ _ (by rw[aX n1];exact w _ _ e)
 have n3:g i=O (.lst<|(q++[j]).map V.ref):=by rw[<-t,aX h.d3,fR];exact r _ _ ba
 have l3:g f=O (.lst<|zs<|(rk p n).names.map λx=>(x.1:Int)):=by rw[<-t,ba];unfold rk;rw[fR,t9];rfl
 have ab:KR M H g:=λb o e n=>st e (λz=>n (z▸h.mn)) λz=>n (z▸h.ml);have D:Dm H g:=by rw[<-t];exact((((Dm.of w).put).trans<|Dm.of r).put)
 let F:=Fz R M H;have ae:J F g:=λb o e=>by obtain⟨⟨_,m⟩,e⟩:=lj e;exact ab _ _ e m
 refine ac4 (show gX cs.iL "learn" (GG cs) [] E0 (cz K (dQ 0) "heads") (aN (cz K (dQ 1) "head") aW) [O (.ref a),O<|.ref j] g _ from OH T W (st h.o C.symm aa.symm) _ λH4 I=>?_);have ag:e9 cs F l g u (ej<|eQ p):=h.hd.keep λb o e m=>st e (h.mh b m).2.2.2.1 (h.mh b m).2.2.2.2;obtain⟨dh,pk,pm,kv,mv,g1,_⟩:=(ag.same I).ex;refine⟨u,dh,_,L,g1,OF,kU T W (I _ _ (ae _ _ q0)) _ λN s5=>?_⟩;have d:=I.trans s5;have hl:=ac1<|eQ p;have a0:(eQ p).length=p.names.length:=bH ..;refine⟨F,l,u,hh,_,n.head,L,ag.same d,ae.trans d,λb o e m=>(lj e).1.2 (h.mh b m).1,q1,hg.head.2,aG,λs k aq ar=>?_⟩;have a5:=d _ _ (st h.o C.symm aa.symm);have u5:=d _ _ (st h.u h.d1 h.d2);have n5:=d _ _ n3;have l5:=d _ _ l3;have y:∀{c:af},(c=a∨c=E∨c=i∨c=f)->¬l c:=λhc m=>by
  obtain⟨_,x1,x2,x3,x4⟩:=h.mh _ m;rcases hc with z|z|z|z
  ·exact x1 z
  ·exact x2 z
  ·exact x3 z
  ·exact x4 z
 have a6:=k _ _ a5 (y<|.inl L);have u6:=k _ _ u5 (y<|.inr<|.inl L);have n6:=k _ _ n5 (y<|.inr<|.inr<|.inl L);have l6:=k _ _ l5 (y<|.inr<|.inr<|.inr L);have dm:Dm H s:=D.trans<|(Dm.of d).trans aq;have ah:Gr M H s λb=>M b∨(Rn l N b/\s b≠ai):=⟨λb o e n=>k _ _ (d _ _ (ab _ _ e n)) λm=>n (h.mh b m).1,dm,λb m=>m.elim .inl λm=>m.1.elim (λm=>.inl (h.mh b m).1) λm=>.inr<|D b<|d.free m⟩;have Q:=ah.fz<|yN (R:=R) (H:=H);refine av s _ ah ⟨λb=>Rn l N b/\s b≠ai,dx,E,i,f,u,q++[j],λb m=>?_,.inl h.ma,.inl h.mu,.inl h.mn,.inl h.ml,λb m=>⟨.inr m,?_⟩,h.d1,h.d2,h.d3,?_,λx A=>?_,a6,u6,n6,l6,?_,?_⟩
 ·rcases m with m|m
  ·exact⟨.inl (h.al b m).1,λz=>(h.al b m).2<|dm b z⟩
  ·refine⟨?_,m.2⟩;rcases m.1 with m|m
   ·exact .inl (h.al b (h.mh b m).1).1
   ·exact .inr<|D b<|d.free m
 ·rcases m.1 with m|m
  ·exact(h.mh b m).2
  ·have B:∀{c:af}{o:HO},N c=O o->b≠c:=λe' ay=>by subst ay;rw[m] at e';cases e'
   exact⟨B a5,B u5,B n5,B l5⟩
 ·show(p.names++_).length<=300;rw[aV,gR];omega
 ·rw[B2,lu,ja] at A;rcases A with A|rfl
  ·exact h.good x A
  ·exact hg
 ·rw[B2];exact uG (Paired.fT h.nm λ_ _ x=>x.same Q)<|hn.same Q
 ·rw[B2,RM];exact ar.trim.mono Q λ_ x=>x
def wc(cs:Cs)(R M:af->Prop)(H:Hp)(a:af)(Q:VK)(d:gW)(x:Int⊕bJ):Prop:=
 ∀b c q,Gr M H b c->eD cs (Rn R H) c b a d->H q=ai->b q=O (.lst<|zs<|sk x)->Q (.ref q) b
def wc.back{R M M1:af->Prop}{c:gW}{x:Int⊕bJ}(h:wc cs R M H a Q c x)(g:Gr M H d M1):wc cs (Rn R H) M1 d a Q c x:=λf i q j k n l=>
 h f i q (g.trans j) (k.keep (λ_ _ _ e=>e) λb r _=>ac2 g.dm b r) (g.dm q n) l
def ac6(cs:Cs):Sp:=λc H Q _=>∃(R M:af->Prop)(a b:af)(p:gW)(n:bJ),c=[.ref a,.ref b]/\eD cs R M H a p/\cy cs (Fz R M H) b n/\Nm.Good n/\p.names.length<300/\wc cs R M H a Q (rk p n) (.inr n)
def RT:T.bb T.Np 3 (ac6 cs):=T.Np.aU<|bN λH aa ab D E d h=>by
 obtain⟨R,M,a,b,p,n,rfl,f,i,j,s,k⟩:=h;refine⟨_,(aD (bW<|jx (ac5 T) T.kg (pv 0) (d.mono aB) ck<|aj<|pv 1)<|aC<|aK<|aO (Pu T) d<|aj<|pv 1),?_⟩;obtain⟨I,t,N,Q,pl,ph,ns,h⟩:=id f;refine tW (show gX cs.Paper "take_name" (RS cs) [] E0 (dQ 0) (aN (dQ 1) aW) [O (.ref a),O<|.ref b] H _ from fM L _ λH1 l=>?_);refine⟨a,t,_,L,l _ _ h.o,Zo,fM L _ λu v=>?_⟩;have c:=l.trans v;have g2:Gr M H u M:=Gr.of c;refine⟨R,M,a,b,p,n,L,f.same c,i.same<|g2.fz λ_ x=>x,j,s,λw y g o=>?_⟩;have q:cy cs w b n:=(i.same<|(g2.trans g).fz<|yN (R:=R) (H:=H)).same gM;have hs:=BR j;refine aL.ret (Pw W q aG) λA r m B C=>k A y r (g2.trans<|g.trans<|Gr.of m) ((o.same m).keep (λ_ _ _ e=>e) λae r _=>?_) ((g2.trans g).dm _ B) C;exact r.elim .inl λz=>.inr<|c.free z
def GK(p:gW):Int⊕bJ->gW
 |.inl _=>p
 |.inr m=>rk p m
def ac7(cs:Cs):Sp:=λc H Q _=>∃(R M:af->Prop)(a b:af)(p:gW)(n:bJ),c=[.ref a,.ref b]/\eD cs R M H a p/\cy cs (Fz R M H) b n/\Nm.Good n/\n.abbr≠0/\p.names.length<300/\wc cs R M H a Q (GK p<|lE (eQ p) n) (lE (eQ p) n)
def Nf(R M:af->Prop)(H:Hp):af->Prop:=λb=>(R b/\¬M b)∨H b=ai
def RU:J (Fz R M H) (HR (Nf R M H) H):=λb o e=>by
 obtain⟨m,e⟩:=lj e;rw[jC (.inl m)];exact e
def RV(a:∀b,M b->H b≠ai):J (HR (Nf R M H) H') (Fz (Rn R H) M H'):=λb o e=>by
 obtain⟨m,e⟩:=eC e;rcases m with m|m
 ·exact lp (.inl m.1) m.2 e
 ·exact lp (.inr m) (λz=>a b z m) e
def ac8(j:G o U H (.ref nm))(p:∀a,J H a->G r U a (.int z))(s:∀a,J H a->G t U a (.ref h))
  (u:cy cs (Fz R M H) nm n)(v:n.authors.length<=1000)(w:aY (Fz R M H) h l)(y:∀b,M b->H b≠ai)(k:∀H' q,J H H'->cy cs (Fz (Rn R H) M H') q {n with abbr:=z,head:=l}->Q (.ref q) H'):
  cA (Fr<|Pn cs) [] E (aN o<|aN r<|aN t aW) U H Q:=
 j _ λa c=>p a c _ λA f=>s A (c.trans f) _ λd B=>by
  have m:=c.trans<|f.trans B;have g:J (Fz R M H) (HR (Nf R M d) d):=((Gr.of m).fz λ_ x=>x).trans RU;refine⟨λb=>¬Nf R M d b,nm,h,z,n,l,L,yM.name<|u.same g,v,yM.tx<|g _ _ w,λH' aa au i np ae C _ D=>k _ aa (m.trans<|B1 i) ?_⟩;have:=((GJ (λb e=>.inr e) i D).name C.a).same<|RV (R:=R) λb I e=>y b I<|m.free e;exact this.same λb ag e=>by
   obtain⟨⟨ab,N⟩,e⟩:=lj e;exact lp (ab.elim .inl λz=>.inr<|m.free z) N e
def ac9:T.bb T.Nq 5 (ac7 cs):=T.Nq.aU<|cW ["paper","name","meant"] λH ah aq Q hL t h=>by
 obtain⟨R,M,aa,nm,p,n,rfl,j,z,a,E,hz,k⟩:=h;refine⟨_,(aD (cw 2 Q<|jx (RF T) T.qM (aJ<|pv 0) (t.mono aB) ck<|aj<|aJ<|pv 1)<|aD (bw (bK de (b6 cB aZ T.cn cq<|aj<|pv 2) aI) (aC<|aK<|bQ<|aj<|du dv aI) bB)<|aD (bw (bK kF (b6 cB aZ T.cn cq<|aj<|pv 2) aI) (aC<|aK<|bQ<|aj<|du dv aI) bB)<|aC<|aK<|aO (RT T) t<|aP (pv 0)<|aj<|aO (kM.fr<|Po T) t<|aP (pv 1)<|aP aI<|aj<|bT b8 (pv 2) aI),?_⟩;obtain⟨MH,dx,pu,pn,pl,ph,ns,h⟩:=id j;obtain⟨dn,hh,s',e1,e2,au,q0,q1,q2,q3,q4,q5⟩:=id z;have A:J (Fz R M H) H:=gM;have hw:lE (eQ p) n=match(ej<|eQ p).filter (λh=>gr n.head h) with
  |[]=>.inl<|-1001
  |[h]=>.inr {n with abbr:=0,head:=h}
  |_=>.inl (-1002):=by unfold lE;rw[ak E];rfl
 rw[hw] at k;refine iP<|RG (OH T W h.o) (λH1 l=>G.x (kU T W<|l _ _ (A _ _ q0))<|l _ _ (A _ _ q1)) h.hd a.head.1 λH1 ar B l n1 m C=>?_;have s:B.length=((ej<|eQ p).filter λh=>gr n.head h).length:=fj C;refine bg.bU (bI<|dw (iN W<|aM.of m) bq) λH2 o=>?_;have u:=l.trans o;rw[bH,s];generalize g:(ej<|eQ p).filter (λh=>gr n.head h)=fs at*;match fs,g with
 |[],g=>
  refine bh (λ_=>?_)<|λd=>absurd d aB;exact gi (dA aQ) u λf r c v w=>k f M r (Gr.of c) ((j.same c).keep (λ_ _ _ e=>e) λb r _=>.inl r) v w
 |h0::h1::r0,g=>
  refine bh (λd=>absurd (df d) (by rw[bV,bV];omega))<|λ_=>?_;refine bg.bU (bI<|cj (iN W<|aM.of<|o _ _ m) bq) λf c=>bh (λ_=>?_)<|λd=>absurd (d8 d) (by rw[bH,s,bV,bV];omega);exact gi (dA aQ) (u.trans c) λf r c v w=>k f M r (Gr.of c) ((j.same c).keep (λ_ _ _ e=>e) λb r _=>.inl r) v w
 |[h0],g=>
  refine bh (λd=>absurd (df d) (by show¬((1:Nat):Int)=0;decide))<|λ_=>?_;refine bg.bU (bI<|cj (iN W<|aM.of<|o _ _ m) bq) λf c=>bh (λd=>absurd (df d) (by rw[bH,s];show¬(1:Int)<((1:Nat):Int);decide))<|λ_=>?_;have i:=u.trans c;obtain⟨c0,rfl,I⟩:∃c0,B=[c0]/\aY (Fz R M H) c0 h0:=by
   cases C with
   |cons x ab=>cases ab;exact⟨_,L,x⟩
  have g3:Gr M H f M:=Gr.of i;have y:=g3.fz (R:=R) λ_ x=>x;have gd:Nm.Good {n with abbr:=0,head:=h0}:=by
   have hm:h0∈ej (eQ p):=(rF.mp (by rw[g];exact ja.mpr L)).1;obtain⟨x,hx,rfl⟩:=RN hm;exact⟨.inl L,a.q1,a.q2,a.num,a.year,(h.good x hx).head,a.sub,a.e1,a.e2,a.au,a.kP⟩
  refine⟨_,L,ac8 (R:=R) (M:=M) (z:=0) (n:=n) (l:=h0) W bq (λD q=>e8 W bq (aM.of<|q _ _ (c _ _ (o _ _ m))) L) (z.same y) (by have:=a.au;omega) (y _ _ I) (λb ae e=>(h.al b ae).2<|i.free e) λD r q N=>?_⟩;have g4:Gr M H D M:=Gr.of<|i.trans q;refine⟨Rn R H,M,aa,r,p,_,L,(j.same<|i.trans q).keep (λ_ _ _ e=>e) λb r _=>.inl r,N.same λb av e=>?_,gd,hz,k.back g4⟩;obtain⟨⟨r,nM⟩,e⟩:=lj e;exact lp (r.elim .inl λag=>.inr<|i.free ag) nM e
def RW(p:gW):ib p=if 300<=p.names.length then({p with lines:=p.lines+1,part:=[]},.inl<|-1003) else
  (λr=>(GK {p with lines:=p.lines+1,part:=[]} r,r)) (match mB p.part with
   |.inl i=>.inl<|-1-(i:Int)
   |.inr n=>lE (eQ p) n):=by
 unfold ib;show(if 300<=p.names.length then _ else _)=_;split
 ·rfl
 ·cases mB p.part with
  |inl i=>rfl
  |inr n=>
   show(match lE (eQ p) n with|.inl c=>_|.inr m=>_)=(GK _ (lE (eQ p) n),lE (eQ p) n);cases lE (eQ p) n<;>rfl
def ada(cs:Cs):Sp:=λb H Q _=>∃(R M:af->Prop)(a:af)(p:gW),b=[.ref a]/\eD cs R M H a p/\wc cs R M H a Q (ib p).1 (ib p).2
def RX:T.bb T.Nt 11 (ada cs):=T.Nt.aU<|cW ["paper","line","name","wrong"] λH a0 a3 nd hL g h=>by
 obtain⟨R,ag,a,p,rfl,D,k⟩:=h;refine⟨_,(aD (cw 1 nd<|dE (ac3 T) T.kg (pv 0) (g.mono aB) ck)<|aD (bw (bK mK (b6 cB aZ T.cn cq<|aj<|aJ<|pv 0)<|cD T.X5) (aC<|aK<|bQ<|aj<|du dv aI) bB)<|aD (F9 T (kM.fr<|Gv T) nd L (nG L) L L (i:=2) (j:=3) (g.mono aB) (aj<|pv 1)<|λ_=>(aC<|aK<|bQ<|aj<|cP iY (du dv aI)<|F7 T<|pv 3))<|aD (bw (bK de (aJ<|pv 2) aI) (aC<|aK<|aO (RT T) g<|aP (pv 0)<|aj<|pv 2) bB)<|aC<|aK<|aO (ac9 T) g<|aP (pv 0)<|aj<|pv 2),?_⟩;obtain⟨MH,E,pu,pn,pl,ph,ns,h⟩:=id D;refine iP (show gX cs.Paper "end_line" (RQ cs) [] E0 (dQ 0) aW [O (.ref a),ai,ai,ai] H _ from fM L _ λH1 i=>⟨a,E,_,L,i _ _ h.o,Zn,R,ag,a,p,L,D.same i,λl M2 q g2 j m=>?_⟩);have ah:Gr ag H l M2:=(Gr.of i).trans g2;have B:∀b,Rn R H1 b->Rn R H b:=λb r=>r.elim .inl λay=>.inr<|i.free ay;have j:eD cs (Rn R H) M2 l a {p with lines:=p.lines+1,part:=[]}:=j.keep (λ_ _ _ e=>e) λb r _=>B b r;have m:aY (Fz (Rn R H) M2 l) q p.part:=by obtain⟨⟨r,n⟩,e⟩:=lj m;exact lp (B _ r) n e
 have k:=k.back ah;generalize Rn R H=R2 at k j m;clear h D ah g2 B i;rw[RW] at k;obtain⟨MH,E,pu,pn,pl,ph,ns,h⟩:=id j;have aq:ns.length=p.names.length:=by rw[fj h.nm];unfold eQ;rw[bH]
 refine bg.bU (bI<|cj (iN (Fj T W h.o)<|aM.of h.n) bq) λc x=>?_;rw[bH,aq];refine bh (λt=>?_)<|λt=>?_
 ·rw[aA (by have:=df t;omega)] at k;exact gi (dA aQ) x λo r s4 n4 h4=>k o M2 r (Gr.of s4) ((j.same s4).keep (λ_ _ _ e=>e) λb r _=>.inl r) n4 h4
 have t:¬(300<=p.names.length):=by have:=d8 t;omega
 rw[ak t] at k;have I:Gr M2 l c M2:=Gr.of x;have k:=k.back I;have w:eD cs (Rn R2 l) M2 c a {p with lines:=p.lines+1,part:=[]}:=(j.same x).keep (λ_ _ _ e=>e) λb r _=>.inl r;have m:aY (Fz (Rn R2 l) M2 c) q p.part:=I.fz yN _ _ m;generalize Rn R2 l=R3 at k w m;clear h j I x;obtain⟨MH,E,pu,pn,pl,ph,aE,h⟩:=id w;refine sq ⟨_,L,λb=>¬Nf R3 M2 c b,q,p.part,L,yM.tx<|RU _ _ m,?_⟩;have g:=vw p.part;cases M:Nm.name p.part with
 |inl a4=>
  rw[g,M] at k;intro o d y N Q;have aa:=(lg (M:=λb=>¬Nf R3 M2 c b) (H:=c) (H':=o) (b:=d) λaz=>by rw[Q d az] at N;cases N).trans N;have s:=B1 y;generalize Re (λb=>¬Nf R3 M2 c b) c o=f at aa s;refine⟨L,λe ne=>?_⟩;have st:J f (upd f e<|.ext<|lR e cs.jR<|O d):=J.new ne;exact gi (cj (dA aQ) λH1 i=>Gw W (i _ _ ba)<|i _ _ (st _ _ aa)) (s.trans st) λz r u n6 h6=>k z M2 r (Gr.of u) ((w.same u).keep (λ_ _ _ e=>e) λb r _=>.inl r) n6 h6
 |inr n=>
  rw[g,M] at k;have gd:=vD<|g.trans M;intro o A y nn ar Q;have C:cy cs (Fz (Rn R3 c) M2<|Re (λb=>¬Nf R3 M2 c b) c o) A n:=((GJ (λb e=>.inr e) y Q).name ar).same<|RV λb mb=>(h.al b mb).2;have s:=B1 y;generalize Re (λb=>¬Nf R3 M2 c b) c o=f at C s;have g5:Gr M2 c f M2:=Gr.of s;have k:=k.back g5;have au:eD cs (Rn R3 c) M2 f a {p with lines:=p.lines+1,part:=[]}:=(w.same s).keep (λ_ _ _ e=>e) λb r _=>.inl r;have av:cy cs f A n:=C.same gM;refine bg.bU (bI<|dw (yG T W av) bq) λz u=>?_;have g6:Gr M2 f z M2:=Gr.of u;have k:=k.back g6;have ab:eD cs (Rn (Rn R3 c) f) M2 z a {p with lines:=p.lines+1,part:=[]}:=(au.same u).keep (λ_ _ _ e=>e) λb r _=>.inl r;have ae:=C.same<|g6.fz<|yN (H:=f);refine bh (λv=>?_)<|λv=>?_
  ·have v:=df v;have hw:lE (eQ p) n= .inr n:=by unfold lE;rw[aA v]
   dsimp only at k;rw[hw] at k;exact⟨_,L,_,L,_,M2,a,A,_,n,L,ab,ae,gd,by show p.names.length<300;omega,k⟩
  ·exact⟨_,L,_,L,_,M2,a,A,_,n,L,ab,ae,gd,d8 v,by show p.names.length<300;omega,k⟩
def adb(w:S)(b:Nat):∀p,dM p (w++[b])=if b=10 then((ib (dM p w).1).1,(dM p w).2++[(ib (dM p w).1).2])
  else({(dM p w).1 with part:=(dM p w).1.part++[b]},(dM p w).2):=by
 induction w with
 |nil=>
  intro p;show dM p [b]=_;unfold dM;split<;>rfl
 |cons c r d=>
  intro p;rw[rS];by_cases a:c=10
  ·unfold dM;rw[aA a,aA a];show((dM _ (r++[b])).1,_::(dM _ (r++[b])).2)=_;rw[d];split<;>rfl
  ·unfold dM;rw[ak a,ak a];exact d _
def ade(g:∀x∈l,Nm.Good x)(d:Nm.Good n)(c:lE l n= .inr m):Nm.Good m:=by
 unfold lE at c;by_cases f:n.abbr=0
 ·rw[aA f] at c;cases c;exact d
 ·rw[ak f] at c;cases e:agu l n.head with
  |nil=>rw[e] at c;cases c
  |cons a r=>
   cases r with
   |nil=>
    rw[e] at c;cases c;have c:a∈ej l:=(rF.mp (by rw[show List.filter _ _=_ from e];exact ja.mpr L)).1;obtain⟨x,h,rfl⟩:=RN c;exact⟨.inl L,d.q1,d.q2,d.num,d.year,(g x h).head,d.sub,d.e1,d.e2,d.au,d.kP⟩
   |cons b r=>rw[e] at c;cases c
def RY:∀{ls:List S},(∀a∈ls,a.length<=40)->(ls.flatMap gS).length<=41*ls.length
 |[],_=>bG _
 |l::r,h=>by
  have c:=RY λa b=>h a<|dS _ b;have d:=h l<|dY ..;rw[qm,aV,bV];have:(gS l).length=l.length+1:=by unfold gS fm;rw[bV,bH]
  omega
def RZ(g:Nm.Good n):(qr n).length<=500:=by
 have a:=RY g.kP;have:=g.au;have:=g.head.2;have:=g.sub;have:=g.e1;have:=g.e2;unfold qr;simp only[aV,bV,ly];have c:∀l:List Nat,(gS l).length=l.length+1:=λl=>by unfold gS fm;rw[bV,bH]
 rw[c,c,c,c];omega
def B3(p:gW)(b:∀n∈eQ p,Nm.Good n):(sk (ib p).2).length<=501/\(sk (ib p).2).length+700*p.names.length<=1+700*(ib p).1.names.length/\(ib p).1.part=[]/\∀n∈eQ (ib p).1,Nm.Good n:=by
 rw[RW];split
 ·exact⟨(by show 1<=501;decide),bG _,L,b⟩
 ·cases e:mB p.part with
  |inl i=>exact⟨(by show 1<=501;decide),bG _,L,b⟩
  |inr n=>
   dsimp only;cases f:lE (eQ p) n with
   |inl c=>exact⟨(by show 1<=501;decide),bG _,L,b⟩
   |inr m=>
    have d:=ade b (vD e) f;have:=RZ d;refine⟨?_,?_,L,λx a=>?_⟩
    ·show(qr m).length+1<=501;omega
    ·show(qr m).length+1+_<=1+700*(p.names++[_]).length;rw[aV,gR];omega
    ·have a:x∈eQ (rk {p with lines:=p.lines+1,part:=[]} m):=a;rw[B2,lu,ja] at a;rcases a with a|rfl
     ·exact b x a
     ·exact d
def outs(l:List (Int⊕bJ)):List Int:=l.flatMap sk
def adf(l:List (Int⊕bJ))(x:Int⊕bJ):outs (l++[x])=outs l++sk x:=by unfold outs;rw[qo];simp
def adg{b c:TE}{U:L2.St}{H:Hp}{D:Ends}{p:af}{xs:List V}(e:G b U H (.ref p))(f:H p=O (.lst xs))
  (g:∀a,J H a->c U a λv h=>sL (.ref p) [v] h λ_ i=>D.nx U i):gu (kK K "list" sL b<|aN c aW) D U H:=
 e _ λa d=>⟨.inl ⟨L,_,aM.of<|d _ _ f⟩,g a d⟩
def adh(b:U[i]?=O (O<|.int n))(h:G c U H (.int j))(k:∀a,J H a->u D (U.set i<|O<|.int<|n+j) a):cF (IB i c<|IC λi j=>i+j) u D U H:=⟨_,b,h _ λa d=>⟨n,j,L,L,k a d⟩⟩
def adi{t:S}{i:Nat}(h:(tx t)[i]?=O x):∃b,t[i]?=O b/\x=V.int ((b:Nat):Int):=by
 unfold tx at h;rw[eU] at h;cases e:t[i]?with
 |none=>rw[e] at h;cases h
 |some b=>rw[e] at h;exact⟨b,L,(eh h).symm⟩
def adj(b:aL c U H xs)(d:∀a p,J H a->a p=O (.lst xs)->H p=ai->e U a λv f=>z8 (.ref p) v f D.rt):o8 (dG z8 c e) D U H:=b _ λa p g h i=>d a p g i h
def eD.put(h:eD cs R M H a p)(n:¬R q):eD cs R M (upd H q o) a p:=h.keep (λb u r e=>by rw[aX (λ(z:b=q)=>n (z▸r))];exact e) λ_ r _=>r
def ub.byte(h:ub cs R M q H a p dx d s pl t v):ub cs R M q (upd H d<|.lst<|tx p.part++[.int ((b:Nat):Int)]) a {p with part:=p.part++[b]} dx d s pl t v:=by
 have k:∀{c:af}{g:HO},H c=O g->c≠d->upd H d (.lst<|tx p.part++[.int ((b:Nat):Int)]) c=O g:=λe i=>by rw[aX i];exact e
 have j:J (Fz R M H) (Fz R M<|upd H d<|.lst<|tx p.part++[.int ((b:Nat):Int)]):=λc g e=>by
  obtain⟨⟨r,i⟩,e⟩:=lj e;exact lp r i<|k e λf=>i (f▸h.mu)
 exact⟨λc m=>⟨(h.al c m).1,by
  by_cases f:c=d
  ·subst f;rw[ba];exact j5 _
  ·rw[aX f];exact(h.al c m).2⟩,h.ma,h.mu,h.mn,h.ml,h.mh,h.d1,h.d2,h.d3,h.z,h.good,k h.o<|dO h.o h.u (by intro f;cases f),by rw[ba];show _=O (HO.lst<|tx<|p.part++[b]);rw[<-gh];rfl,k h.n h.d1.symm,k h.l h.d2.symm,Paired.fT h.nm λ_ _ x=>x.same j,(h.hd.keep λc g e m=>k e (h.mh c m).2.2.1).mono j λ_ x=>x⟩
def adk(cs:Cs):Sp:=λd H Q _=>∃(R M:af->Prop)(a c:af)(p:gW)(t:S),d=[.ref a,.ref c]/\eD cs R M H a p/\aY H c t/\¬R c/\p.part.length+t.length<=1000000/\
 ∀b e q,KR M H b->Dm H b->eD cs (Rn R H) e b a (dM p t).1->H q=ai->b q=O (.lst<|zs<|(((dM p t).2.length:Nat):Int)::outs (dM p t).2)->Q (.ref q) b
def adl:T.bb T.Nu 12 (adk cs):=T.Nu.aU<|cW ["paper","text","count","outcomes","byte"] λH a6 a7 D hL hr h=>by
 obtain⟨R,M,ag,pt,p,t,rfl,hp,ht,hR,hz,a0⟩:=h;refine⟨_,(aD (cw 2 D aI)<|aD (cw 3 D<|bQ gv)<|aD (iH iC L (iG<|pv 1) (d7 4 D)<|aC<|bw (bK de (pv 4)<|cD T.XH) (aD (UZ (i:=2) D L (nG L) aI U0)<|aC<|bW<|eK eL j3 j4 jt (pv 3)<|aj<|aO (RX T) hr<|aj<|pv 0)<|aC<|bW<|eK eL jJ jK jj (aJ<|pv 0)<|aj<|pv 4)<|aC<|aK<|cP fW (bQ<|aj<|pv 2)<|pv 3),?_⟩;have al:∀b,M b->R b/\H b≠ai:=by obtain⟨u,v,w,x,y,A,B,h⟩:=hp;exact h.al
 refine G.eB aQ λH1 s1=>?_;refine aL.eB ir λH2 n s2 n2 h2=>?_;have m2:=s1.trans s2;have aq:H n=ai:=s1.free n2;let E:af->Prop:=λb=>Rn R H b/\b≠n;refine FJ (K:=K) (xs:=tx t) W (m2 _ _ ht) λH3 s3=>⟨λi U d=>(∃ah,U=[O (.ref ag),O<|.ref pt,O<|.int (((dM p<|t.take i).2.length:Nat):Int),O<|.ref n,ah])/\KR M H d/\Dm H d/\d n=O (.lst<|zs<|outs (dM p<|t.take i).2)/\
   (∃f,(∀b,f b->M b∨H b=ai)/\eD cs E f d ag (dM p<|t.take i).1)/\(outs (dM p<|t.take i).2).length<=i+700*(dM p<|t.take i).1.names.length/\(dM p<|t.take i).1.part.length<=p.part.length+i,⟨⟨ai,L⟩,?_⟩,?_,?_,?_⟩
 ·have m3:=m2.trans s3;exact⟨KR.of m3,Dm.of m3,s3 _ _ h2,⟨M,λb m=>.inl m,hp.keep (λb o _ e=>m3 b o e) λb r e=>⟨.inl r,λz=>e (z▸aq)⟩⟩,dD _,bG _⟩
 ·rintro i U d hi ⟨_,q,_⟩;exact q _ _ ht λm=>hR (al _ m).1
 ·rintro i av U d hi ⟨⟨ah,rfl⟩,q,C,j,⟨f,s,a⟩,ab,az⟩;obtain⟨b,hb,rfl⟩:=adi hi;have a5:i<t.length:=(fC.mp hb).1;have k:=adb (t.take i) b p;rw[<-take_succ hb] at k;have ar:∀b,f b->E b/\d b≠ai:=by obtain⟨u,v,w,x,y,A,B,h⟩:=a;exact h.al
  have aE:∀aa∈eQ (dM p<|t.take i).1,Nm.Good aa:=by obtain⟨u,v,w,x,y,A,B,h⟩:=a;exact h.good
  refine bg.iM (bI<|dw W bq) λH4 I=>bh (λl=>?_)<|λl=>?_
  ·have l:b=10:=by have:=df l;omega
   rw[aA l] at k;have ll:=(B3 (dM p<|t.take i).1 aE).2;refine adh L aQ λH5 s5=>?_;have g:=I.trans s5;refine adg W (g _ _ j) λH6 s6=>⟨_,L,E,f,ag,_,L,a.same<|g.trans s6,λH7 M7 a3 N au n7 h7=>?_⟩;have Q:=g.trans s6;have ay:H7 n=O _:=N.kr _ _ (Q _ _ j) λm=>(ar _ m).1.2 L;have z7:(ib (dM p<|t.take i).1).1.names.length<=300:=by obtain⟨u,v,w,x,y,A,B,h⟩:=au;exact h.z
   have ae:Dm H H6:=C.trans<|Dm.of Q;have e1:(dM p<|t.take<|i+1).2.length=(dM p<|t.take i).2.length+1:=by rw[k];show(_++[_]).length=_;rw[aV,gR]
   have e2:outs (dM p<|t.take<|i+1).2=outs (dM p<|t.take i).2++sk (ib (dM p<|t.take i).1).2:=by rw[k];exact adf _ _
   have e3:(dM p<|t.take<|i+1).1=(ib (dM p<|t.take i).1).1:=by rw[k]
   refine⟨n,a3,_,_,L,L,ay,h7,by rw[i5,i5,b9];omega,⟨O<|.int ((b:Nat):Int),?_⟩,?_,?_,?_,⟨M7,?_,?_⟩,?_,?_⟩
   ·rw[e1];rfl
   ·exact KR.wa (λc o e aa=>N.kr _ _ (Q _ _ (q _ _ e aa)) λm=>(s c m).elim aa λz=>by rw[e] at z;cases z)<|.inr aq
   ·exact(ae.trans N.dm).put
   ·rw[ba,e2,t9]
   ·exactλc m=>(N.m c m).elim (s c) λz=>.inr<|ae c z
   ·rw[e3];refine eD.put (au.keep (λ_ _ _ e=>e) λc r _=>?_) λz=>z.2 L;exact r.elim id λz=>⟨.inr<|ae c z,λa4=>by subst a4;rw[Q _ _ j] at z;cases z⟩
   ·rw[e2,e3,aV];have l2:=ll.1;omega
   ·rw[e3,ll.2.1];exact dD _
  ·have l:¬b=10:=by have:=d8 l;omega
   rw[ak l] at k;obtain⟨u,v,w,x,y,A,B,h⟩:=id a;refine ye (v:=.int ((b:Nat):Int)) (Fi T W<|I _ _ h.o) (I _ _ h.u) aR (by rw[bX,b9];omega) λH5 s5=>?_;have g:=I.trans s5;have h5:=(h.up (R':=E) (λb o _ e=>g b o e) λ_ av _=>av).byte (b:=b);show _/\_;rw[k];refine⟨⟨_,L⟩,(q.trans<|KR.of g).wa<|s _ h.mu,(C.trans<|Dm.of g).put,?_,⟨f,s,⟨_,_,_,_,_,_,_,h5⟩⟩,?_,?_⟩
   ·rw[aX λz=>(ar _ h.mu).1.2 z.symm];exact g _ _ j
   ·show(outs (dM p<|t.take i).2).length<=i+1+700*(dM p<|t.take i).1.names.length;omega
   ·show(_++[b]).length<=_;rw[aV,gR];omega
 ·rintro U d ⟨⟨ah,rfl⟩,q,C,j,⟨f,s,a⟩,ab,az⟩;have e:t.take (tx t).length=t:=by rw[bX,kx]
  rw[e] at j a ab;rw[e];rw[bX] at ab;have z:(dM p t).1.names.length<=300:=by obtain⟨u,v,w,x,y,A,B,h⟩:=a;exact h.z
  refine aL.ret (fX (aL.x<|eW W) (λH8 s8=>G.x W<|s8 _ _ j) (by rw[i5,b9];show 1+_<=_;omega)) λH9 r s9 n9 h9=>a0 H9 f r (q.trans<|KR.of s9) (C.trans<|Dm.of s9) ((a.same s9).keep (λ_ _ _ e=>e) λb r _=>r.1) (C _ n9) h9
def adm(cs:Cs):Sp:=λc H Q _=>∃(R M:af->Prop)(a:af)(p:gW),c=[.ref a]/\eD cs R M H a p/\
 ∀b q,KR M H b->Dm H b->H q=ai->b q=O (.lst<|zs (if p.part=[] then[0] else 1::sk (ib p).2))->Q (.ref q) b
def adn:T.bb T.Nv 12 (adm cs):=T.Nv.aU<|bN λaa ab ae E H u h=>by
 obtain⟨R,M,a,p,rfl,n,k⟩:=h;refine⟨_,(aD (bw (bK de (b6 cB aZ T.cn cq<|aj<|aJ<|pv 0) aI) (aC<|aK<|bQ<|aj aI) bB)<|aC<|aK<|cP fW (bQ<|aj aI)<|aO (RX T) u<|aj<|pv 0),?_⟩;obtain⟨v,w,x,y,A,B,C,h⟩:=id n;refine bg.bU (bI<|dw (iN (Fi T W h.o)<|aM.of h.u) bq) λI e=>?_;rw[bX];refine bh (λc=>?_)<|λc=>?_
 ·have c:=df c;rw[aA (mC.mp aG)] at k;exact gi aQ e λo r d g i=>k o r (KR.of d) (Dm.of d) g i
 ·have c:=d8 c;rw[ak (λz=>c (by rw[z];rfl))] at k;have N:=(B3 p h.good).2;refine adj (xs:=[.int 1]) (eW aQ) λo b d i g=>⟨_,L,R,M,a,p,L,n.same<|e.trans d,λQ M3 q f s n3 D=>?_⟩;have z3:(ib p).1.names.length<=300:=by obtain⟨v,w,x,y,A,B,C,h⟩:=s;exact h.z
  have t:¬M b:=λm=>(h.al b m).2<|e.free g;refine⟨b,q,_,_,L,L,f.kr _ _ i t,D,by rw[i5,b9];show 1+_<=_;omega,λr j=>?_⟩;have l:=e.trans d;exact k _ r (((KR.of l).trans f.kr).trans<|KR.of<|J.new j) ((Dm.of l).trans<|f.dm.trans<|Dm.of<|J.new j) (l.free<|f.dm _ j) ba
open Nm (Tab keys look jw)
structure Tb(N:af->Prop)(H:Hp)(kv:List (List Key×V))(l:Tab):Prop where
 ks:kv.map (·.1)=(keys l).map ky
 yes:∀e v,da kv (ky e)=O v->∃q,v=V.ref q/\N q/\H q=O (.lst<|tx<|look l e)
 inj:∀e e' q,da kv (ky e)=O (.ref q)->da kv (ky e')=O (.ref q)->e=e'
def Tb.mem(h:Tb N H d l)(e:S):(da d<|ky e).isSome=Y↔e∈keys l:=by
 rw[<-vf,T3];constructor
 ·rintro⟨x,a,g⟩;have b:ky e∈(keys l).map ky:=by rw[<-h.ks,<-df g];exact zx a
  obtain⟨j,f,c⟩:=iz.mp b;rw[<-tX c];exact f
 ·intro i;have b:ky e∈d.map (·.1):=by rw[h.ks];exact zx i
  obtain⟨x,a,c⟩:=iz.mp b;exact⟨x,a,eN c⟩
def B4(l:Tab)(e:S)(n:Nat):keys (jw l e n)=if e∈keys l then keys l else keys l++[e]:=by
 unfold jw;split
 ·unfold keys;rw[iB];apply uM;intro x _;show(if x.1=e then(x.1,x.2++[n]) else x).1=x.1;split<;>rfl
 ·unfold keys;rw[fR];rfl
def tabOf(a:List (Nat×bJ)):Tab:=a.foldl (λl x=>jw l (f6 x.2) x.1) []
def B5(a:List (Nat×bJ))(x:Nat×bJ):tabOf (a++[x])=jw (tabOf a) (f6 x.2) x.1:=by unfold tabOf;rw[HN];rfl
def R1(a:List (Nat×bJ)):(keys<|tabOf a).length<=a.length/\∀k,(look (tabOf a) k).length<=a.length:=by
 generalize b:a.length=m;induction m generalizing a with
 |zero=>rw[mC.mp b];exact⟨bG _,λ_=>bG _⟩
 |succ m d=>
  obtain⟨l,x,rfl⟩:∃l x,a=l++[x]:=⟨_,_,(zq (by intro z;rw[z] at b;cases b)).symm⟩;rw[aV,gR] at b;obtain⟨e,c⟩:=d l aG;rw[B5];refine⟨?_,λk=>?_⟩
  ·rw[B4];split
   ·omega
   ·rw[aV,gR];omega
  ·rw[Az];have:=c k;have:=c<|f6 x.2;split
   ·rw[aV,gR];omega
   ·omega
def R4(b:List (Nat×bJ)):∀k∈keys (tabOf b),∃x∈b,f6 x.2=k:=by
 generalize c:b.length=m;induction m generalizing b with
 |zero=>rw[mC.mp c];intro k a;exact absurd a (nL)
 |succ m d=>
  obtain⟨l,x,rfl⟩:∃l x,b=l++[x]:=⟨_,_,(zq (by intro z;rw[z] at c;cases c)).symm⟩;rw[aV,gR] at c;intro k a;rw[B5,K0] at a;rcases a with rfl|a
  ·exact⟨x,mr _ (ja.mpr L),L⟩
  ·obtain⟨y,f,e⟩:=d l aG k a;exact⟨y,SU _ f,e⟩
def ado(cs:Cs):Sp:=λf H Q _=>∃(R M:af->Prop)(a:af)(p:gW),f=[.ref a]/\eD cs R M H a p/\
 ∀c d e,J H c->H d=ai->c d=O (.dT e)->Tb (λb=>H b=ai) c e (tabOf p.names)->Q (.ref d) c
def adp:T.bb T.Nw 4 (ado cs):=T.Nw.aU<|cW ["paper","lines","name","line"] λH a0 a3 nd hL hr h=>by
 obtain⟨R,a4,ab,p,rfl,⟨MH,dx,pu,pn,pl,ph,ns,h⟩,au⟩:=h;refine⟨_,(aD (cw 1 nd Ag)<|aD (iH iC L (Wh L T.Ya<|aP (aJ<|pv 0)<|aj<|aJ<|pv 0) (xk L<|lH (d7 2 nd)<|lH (d7 3 nd) u1)<|aC<|bW<|eK eL jJ jK jj (FY (tj hr) (pv 1) (lK vb aZ T.vF vI<|aj<|aO (FA T) hr<|aj<|pv 2) (bQ gv) ⟨L,L,L,L⟩)<|aj<|pv 3)<|aC<|aK<|pv 1),?_⟩;have ae:ns.length=p.names.length:=by rw[fj h.nm];unfold eQ;rw[bH]
 refine iP λd aa=>?_;have u:J H (upd H d<|.dT []):=J.new aa;refine aaP (K:=K) (Fj T W<|u _ _ h.o) (λH2 M=>OG T W<|M _ _ (u _ _ h.o)) (u _ _ h.n) (u _ _ h.l) (by rw[bH,i5,bH];exact ae) λH2 M=>⟨λi U s=>(∃x y,U=[O (.ref ab),O<|.ref d,x,y])/\J H s/\∃j,s d=O (.dT j)/\Tb (λb=>H b=ai/\b≠d) s j (tabOf<|p.names.take i),⟨⟨_,_,L⟩,u.trans M,[],M _ _ ba,?_⟩,?_,?_,?_⟩
 ·exact⟨L,(λe v f=>by rw[Ae] at f;cases f),λe e' q f=>by rw[Ae] at f;cases f⟩
 ·rintro i U s _ ⟨_,st,_⟩;exact⟨st _ _ h.n,st _ _ h.l⟩
 ·rintro i x y U s hx hy ⟨⟨x0,y0,rfl⟩,st,j,A,a⟩ H3 m;obtain⟨b,hb,rfl⟩:=pT hx;obtain⟨av,n,hN⟩:=D8 h.nm hb;obtain⟨z,hz,rfl⟩:∃z,p.names[i]?=O z/\z.2=av:=by
   unfold eQ at n;rw[eU] at n;cases e:p.names[i]?with
   |none=>rw[e] at n;cases n
   |some z=>rw[e] at n;exact⟨z,L,eh n⟩
  have ah:y=V.int ((z.1:Nat):Int):=by
   unfold zs at hy;rw[iB,eU,hz] at hy;exact(eh hy).symm
  subst ah;have ay:i<p.names.length:=(fC.mp hz).1;have gd:Nm.Good z.2:=h.good _ (ei n);have aq:cy cs H b z.2:=hN.same gM;have tl:=R1<|p.names.take i;have az:(p.names.take i).length<=300:=by rw[gA];have:=h.z;omega
  have aE:j.length=(keys<|tabOf<|p.names.take i).length:=by have:=fG fZ a.ks;rw[bH,bH] at this;exact this
  have ts:tabOf (p.names.take<|i+1)=jw (tabOf<|p.names.take i) (f6 z.2) z.1:=by rw[take_succ hz,B5]
  have N:=st.trans m;refine Rr (K:=K) (l:=f6 z.2) (mv:=j) W (λH4 s4=>vV<|aL.x<|vR W (aq.same<|N.trans s4)<|fO.BS gd) (m _ _ A) (by rw[b9];omega) L (λq H5 f B=>?_) (λv f=>let⟨q,e,_⟩:=a.yes _ _ f;⟨q,e⟩)<|λq H5 f B k=>?_
  ·obtain⟨C,ar,⟨k,E⟩,hq⟩:=a.yes _ _ f;cases ar;have t:=m.trans B;have Q:f6 z.2∈keys (tabOf<|p.names.take i):=(a.mem _).mp (by rw[f];rfl);refine⟨_,t _ _ hq,by rw[bX,b9];have:=tl.2<|f6 z.2;omega,⟨_,_,L⟩,kT (N.trans B) k,j,by rw[aX E.symm];exact t _ _ A,?_⟩;rw[ts];refine⟨by rw[B4,aA Q];exact a.ks,λe v g=>?_,a.inj⟩;obtain⟨C,rfl,I,r⟩:=a.yes e v g;refine⟨C,L,I,?_⟩;rw[Az];by_cases o:e=f6 z.2
   ·subst o;rw[f] at g;cases g;rw[ba,aA L,<-gh];rfl
   ·rw[ak o,aX (λw=>by subst w;exact o<|a.inj _ _ _ g f)];exact t _ _ r
  ·have t:=m.trans B;have ag:H q=ai:=N.free k;have E:q≠d:=λw=>by subst w;rw[m _ _ A] at k;cases k
   have Q:¬f6 z.2∈keys (tabOf<|p.names.take i):=λw=>by have:=(a.mem _).mpr w;rw[f] at this;cases this
   refine⟨⟨_,_,L⟩,kT (kT (N.trans B) aa) ag,putK j (ky<|f6 z.2)<|.ref q,by rw[aX E.symm,ba],?_⟩;rw[ts];refine⟨?_,λe v g=>?_,λe e' a5 g l=>?_⟩
   ·rw[VT _ f,B4,ak Q,fR,fR,a.ks];rfl
   ·rw[sN] at g;rw[Az];by_cases o:e=f6 z.2
    ·subst o;rw[aA L] at g;cases g;exact⟨q,L,⟨ag,E⟩,by rw[ba,aA L,vy Q];rfl⟩
    ·rw[ak λw=>o<|tX w] at g;obtain⟨C,rfl,I,r⟩:=a.yes e v g;refine⟨C,L,I,?_⟩;rw[ak o,aX (λw=>by subst w;rw[m _ _ r] at k;cases k),aX I.2];exact t _ _ r
   ·have nD:∀{x:S},da j (ky x)≠O (.ref q):=λw=>by
     obtain⟨C,y,_,r⟩:=a.yes _ _ w;cases y;rw[m _ _ r] at k;cases k
    rw[sN] at g l;by_cases c:ky e=ky (f6 z.2)
    ·rw[aA c] at g;cases g;by_cases D:ky e'=ky (f6 z.2)
     ·exact tX<|c.trans D.symm
     ·rw[ak D] at l;exact absurd l nD
    ·rw[ak c] at g;by_cases D:ky e'=ky (f6 z.2)
     ·rw[aA D] at l;cases l;exact absurd g nD
     ·rw[ak D] at l;exact a.inj _ _ _ g l
 ·rintro U s ⟨⟨x,y,rfl⟩,st,j,A,a⟩;rw[bH,ae,kx] at a;exact G.ret W λH5 s5=>au H5 d j (st.trans s5) aa (s5 _ _ A) ⟨a.ks,λe v f=>let⟨q,ab,b,c⟩:=a.yes e v f;⟨q,ab,b.1,s5 _ _ c⟩,a.inj⟩
section
variable{prog:cf}{w:bR}{A:cG}{E:aw->aF->Prop}{s:aF}{d:af}{o:bz}{es:Array my}{ep:Nat}
def adq(e:(d==jX)=ax)(a:s.heap.get? d=O o)(f:o.ExactDict)(c:o.data= .dict es ep)(g:(es.size:Int)<2^63)
  (h:Q (.int es.size<|s.toks+1) {s with toks:=s.toks+1+1}):wpAny (bo prog w) A (call (.builtin "len") [.ref d]) Q E s:=by
 have b:s.TypeIs (.ref d) "dict":=⟨o,a,f.1⟩;have mt:MeetsIn prog w (rT.«dict.__len__» ⟨[.ref d],[]⟩) (λ_ R s=>s.heap.get? d=O o/\R (.ok<|.ret<|.int es.size s.toks) {s with toks:=s.toks+1}):=
  .of_wp λA R s ⟨a,h⟩=>by
   show wpAny _ _ (dictSize d>>=_) _ _ s;unfold dictSize;refine bt<|bt<|CV a c<|cu ?_;show wpAny _ _ (ah2 d>>=_) _ _ s;refine bt<|wpAny_pendingCount_other e ?_;refine wpAny_ret_mkInt ?_;rw[af4];exact h
 refine agv kind_len plain_len PySem.entry_len (args_len1 _) ?_;unfold rT.«len»;refine bt (m:=oneArg "len" _)<|cu ?_;refine bt (m:=callSpecial? (.ref d)<|nF "__len__") (Hw (name:=nF "__len__") b agw
  (CS agw b F.entry_dict_len (F.args_dict_len_1 _) mt ⟨a,?_⟩))
 show wpAny _ _ _ _ _ {s with toks:=s.toks+1};refine bt<|CZ<|cu ?_;refine bt<|wpAny_letGo ?_;show wpAny _ _ (if((es.size:Nat):Int)<0 then _ else _) _ _ _;rw[ak aG];show wpAny _ _ (if((es.size:Nat):Int)≥2^63 then _ else _) _ _ _;rw[ak aG];exact bt<|wpAny_mkInt<|cu ⟨_,L,h⟩
def ads(u:A.handled=ai)(I d:af)(r:d≠I)(k:o.data= .dict es ep):
  zH prog w A I [I,d] [I] es.size (λi v=>∃c:my,es[i]?=O c/\v=c.key) (λi h=>h.IsKeyIter I d i es.size ep/\h.get? d=O o) where
 sub:=λb a=>by simp at a;simp[a]
 frame:=λ_ _ _ st m=>⟨st.1.at λo e=>m I aT o e,m d aT o st.2⟩
 item:=λi j Q y x st f=>by
  obtain⟨c,n⟩:∃p,es[i]?=O p:=⟨es[i],by simp[x]⟩;refine Wc st.1 st.2 k L n λg q l=>?_;exact f c.key g j.toks ⟨c,n,L⟩ ⟨q,(l.2 d r).trans st.2⟩ λb o a e=>l.extBut b o (λh=>a<|by simp[h]) e
 done:=λj Q y st f=>Wd u st.1 st.2 k L (bG _) λg t=>f g j.toks λb o a e=>t b o (λh=>a<|by simp[h]) e
 self:=λ_ _ _ _ st f=>wpAny_pyIter_keyiter st.1 f
def adt(lo:(d==jX)=ax)(b:o.ExactDict)(e:o.data= .dict es ep):Uu prog w "dict" d d es.size (λi v=>∃f:my,es[i]?=O f/\v=f.key) (λh=>h.get? d=O o) where
 type:=λ_ a=>⟨o,a,b.1⟩
 there:=λ_ a=>⟨di a,di a⟩
 keep:=λ_ _ a g=>g d (.inl L) o a
 notList:=by decide
 notTuple:=by decide
 hint:=λ_ _ _ _ a c=>PySem.W.kdl_hint_dict ⟨o,a,b.1⟩ c
 iter:=λ_ _ j a=>⟨_,_,(λ_ _ c=>Wb lo a b e c),ads j _ d (gj<|di a) e,⟨⟨_,iS _ rfl,L,L⟩,fk _ a⟩⟩
def adu(K:Uu prog w B r d n j q)(t:A.handled=ai)(aS:q s.heap)(u:n<=br)
  (v:∀h' tk (acc:Array aw),s.heap.objs.size<=h'.objs.size->(∀b o,s.heap.get? b=O o->h'.get? b=O o)->Dg j acc n->Q acc.toList {s with heap:=h',toks:=tk}):wpAny (bo prog w) A (collect<|.ref r) Q E s:=by
 have i:=K.there _ aS;unfold collect;refine bt<|wpAny_runValue<|agx F.entry_proto_collect ?_;rw[agy F.plain_proto_collect _];show wpAny _ A.in1 (newList []>>=λl=>again<|.builtin "list.__iadd__" ⟨[l,.ref r],[]⟩) _ _ s;refine bt<|CP ?_;have x:(s.heap.push {cls:=.type "list",data:=.seq ([]:List aw).toArray}).get? s.heap.objs.size=O {cls:=.type "list",data:=.seq ([]:List aw).toArray}:=iS _ rfl;let k:CJ->aF->Prop:=λm p=>∃h' tk a f,m= .ok (.ret<|.ref s.heap.objs.size)/\p={s with heap:=h',toks:=tk}/\(∀b o,b≠s.heap.objs.size->(s.heap.push {cls:=.type "list",data:=.seq ([]:List aw).toArray}).get? b=O o->h'.get? b=O o)/\
  h'.get? s.heap.objs.size=O {cls:=.type "list",dict:=ai,data:=.seq a f,slots:=#[]}/\Dg j a n
 have y:codeAny (bo prog w) A (.builtin "list.__iadd__" ⟨[.ref s.heap.objs.size,.ref r],[]⟩) k {s with heap:=s.heap.push {cls:=.type "list",data:=.seq ([]:List aw).toArray}}:=by
  refine agx F.entry_list_iadd ?_;rw[agy agz _];exact PySem.W.kdl_extend (R:=k) (s:={s with heap:=s.heap.push {cls:=.type "list",data:=.seq ([]:List aw).toArray}}) K t (K.keep _ _ aS λb _ o e=>fk _ e) s.heap.objs.size (wB i.1) (wB i.2) _ 0 x (λh' tk a f h c g=>⟨h',tk,a,f,L,L,h,c,g⟩) u
 refine cu ⟨plainId_quiet agz _,uA y λm p z=>?_⟩;obtain⟨h',tk,a,f,rfl,rfl,h,c,g⟩:=z;show wpAny _ A (load s.heap.objs.size>>=_) _ _ _;refine bt<|wpAny_load c ?_;exact cu<|v h' tk a (G1<|di c) (λb o e=>h b o (gj<|di e)<|fk _ e) g
open PyProof.Rows.G in
def adw(K:Uu prog w Tq r d n Pq OK)(hh:A.handled=ai)(aS:OK s.heap)(hn:n<=br)
  (ht:∀acc:Array aw,Dg Pq acc n->(∃fs,TupsOf s.heap shape acc.toList fs)/\∀v∈acc.toList,∃l,Dh s.heap shape v=O l)
  (h:∀(acc:Array aw)(st':SortSt)(h':bC)(tk:Nat)(a:af),Dg Pq acc n->(jL st').Perm (pairsOf acc.toList)->SortedToK (Di s.heap shape) (jL st') (pairsOf acc.toList).size->s.heap.objs.size<=a->(∀b o,s.heap.get? b=O o->h'.get? b=O o)->
   (∃e,h'.get? a=O (Dj "list" ((jL st').map (·.2)) e))->Q (.ref a) {s with heap:=h',toks:=tk}):
  wpAny (bo prog w) A (call (.builtin "sorted") [.ref r]) Q E s:=by
 refine agv kind_sorted plain_sorted entry_sorted (args_sorted1 _) ?_;unfold rT.«sorted»;refine bt (m:=checkCount "sorted" 1 1 _)<|cu ?_;refine bt<|adu K hh aS hn λh1 tk acc sz1 hk hacc=>?_;obtain⟨⟨fs,tf⟩,tk'⟩:=ht acc hacc;have hlen:acc.toList.length=n:=by rw[wy];exact hacc.1
 refine bt<|wpAny_newList ?_;have hoL:(h1.push<|Dj "list" acc.toList.toArray 0).get? h1.objs.size=O (Dj "list" acc.toList.toArray 0):=iS _ rfl;show wpAny _ _ _ _ _ {s with heap:=h1.push<|Dj "list" acc.toList.toArray 0,toks:=tk};have k0:KeepsTups s.heap (h1.push<|Dj "list" acc.toList.toArray 0):=λb o e _=>fk _ (hk b o e);have k6:=k0.trans<|keeps_sort6 (vs:=acc.toList) hoL;refine bt<|CZ<|CU slot_list_sort ⟨_,hoL,L⟩ entry_list_sort (list_sort_treeG (κ:=Di s.heap shape) (kd:=tuples' Y) hoL (tupKeys tk') ?ordG ?keyG (by rw[hlen];exact hn) λst' a1 a2 a3=>⟨_,L,?retG⟩)<|args_list_sort _;case ordG=>exact tupC_ltAt (h:=s.heap) Y k6
 case keyG=>
  intro h2 R hq;exact tup_kind (by rw[TupsOf.length tf];omega) (TupsOf.keep k6 tf) hq
 case retG=>
  refine cu ⟨_,L,h acc st' _ _ _ hacc a1 a2 sz1 (λb o e=>?_) (sortedHeap_at (vs:=acc.toList) hoL)⟩;have hlt:b<h1.objs.size:=di<|hk b o e;rw[sortedHeap_old (gj hlt) (by rw[size_push'];exact Hn hlt)];exact fk _ (hk b o e)
end
def kk(l:S):List (Int⊕List Nat):=l.map λ(b:Nat)=>mj (b:Int)
def nc:Nat->Bool:=λ_=>ax
def R5:∀a b:S,lexLt itemOrd (kk a) (kk b)=Dl a b
 |[],[]=>rfl
 |[],_::_=>rfl
 |_::_,[]=>rfl
 |x::a,y::b=>by
  show(decide ((x:Int)<y)||(!decide ((y:Int)<x)&&lexLt itemOrd (kk a) (kk b)))=(decide (x<y)||(x==y&&Dl a b));rw[R5 a b];by_cases c:x<y
  ·rw[eN (show(x:Int)<y by omega),eN c];rfl
  ·rw[gP (show¬(x:Int)<y by omega),gP c];by_cases d:x=y
   ·subst d;simp
   ·rw[eN (show(y:Int)<x by omega)];simp[d]
def R6:∀(l:S)(a:List aw)(i:Nat),Vals (tx l) a->tupItems nc i a=O (kk l)
 |[],_,i,h=>by cases h;rfl
 |b::l,_,i,h=>by
  cases h with
  |cons c d=>
   obtain⟨t,rfl⟩:=c;show(if nc i=Y then ai else(tupItems nc (i+1) _).map _)=_;rw[ak (by show¬(ax=Y);decide),R6 l _ (i+1) d];rfl
open PyProof.Rows.G in
def R7:∀{l:List aw},(∀v∈l,∃f,TupOf h shape v f)->∃fs,TupsOf h shape l fs
 |[],_=>⟨[],.nil⟩
 |v::l,hl=>by
  obtain⟨f,hf⟩:=hl v<|dY ..;obtain⟨fs,hfs⟩:=R7 (l:=l) λu hu=>hl u<|dS _ hu;exact⟨f::fs,.cons hf hfs⟩
def GL(l:List (Int⊕List Nat)):S:=l.map λx=>match x with
 |.inl i=>i.toNat
 |.inr _=>0
def adx(w:S):GL (kk w)=w:=by
 unfold GL kk;rw[iB];exact(uM (g:=id) λa _=>by show((a:Int)).toNat=a;omega).trans<|HH _
open PyProof.Rows.G in
def uc(h:bC)(v:aw):S:=GL<|(Dh h nc v).getD []
def yO:aw->af
 |.ref a=>a
 |_=>0
def R8:∀l:List α,(l.zip l).map (·.2)=l
 |[]=>rfl
 |a::l=>by rw[List.zip_cons_cons,cM,R8 l]
def R9:∀{l:List aw},(∀v∈l,v= .ref (yO v))->Vals ((l.map yO).map V.ref) l
 |[],_=>.nil
 |v::l,h=>.cons (h v<|dY ..)<|R9 λu a=>h u<|dS _ a
def Sa:∀{l:List α},(∀v∈l,F (g v)<|f v)->Paired F (l.map g) (l.map f)
 |[],_=>.nil
 |v::l,h=>.cons (h v<|dY ..)<|Sa λu a=>h u<|dS _ a
section
variable{X:Cx}
def ady:List V->Hp->VK->Prop:=λc H Q=>∃a b,c=[V.ref a]/\H a=O (.dT b)/\Q (.int b.length) H
def adz:lJ X (.builtin "len") ady:=by
 intro t s U H v w Q I r h;obtain⟨a,b,rfl,e,q⟩:=h;obtain⟨u,rfl,f⟩:=vals1 r;cases f;obtain⟨z,g,c,i,o,j,x,k,l,d,m,_⟩:=(show dP X.prog X.w H s.heap a (.dT b) from I.aS a _ e);have n:j.size=c.length:=Uh m;have p:b.length=c.length:=fj i;refine adq g k l d (by rw[b9] at z;omega) ?_;exact⟨.int b.length,H,I.tok _,⟨_,by rw[n,<-p]⟩,q⟩
def adA:List V->Hp->VK->Prop:=λg H Q=>∃(a:af)(e:List (List Key×V))(d:List S),g=[V.ref a]/\H a=O (.dT e)/\e.map (·.1)=d.map ky/\(∀w∈d,w≠[])/\
 ∀(c:List S)(f:List af)(p:af),c.Perm d->c.Pairwise (λa b=>Dl b a=ax)->Paired (λq w=>H q=O (.tup<|tx w)) f c->H p=ai->Q (.ref p) (upd H p<|.lst<|f.map V.ref)
open PyProof.Rows.G in
def adB(hcalm:X.calm=Y):lJ X (.builtin "sorted") adA:=by
 intro pins s U H xs us Q I r h;obtain⟨a,kvs,ws,rfl,ha,hk,hne,q⟩:=h;obtain⟨u,rfl,ru⟩:=vals1 r;cases ru;obtain⟨z,hs,ys,pr,o,es,ep,ho,hc,hdt,he,_⟩:=(show dP X.prog X.w H s.heap a (.dT kvs) from I.aS a _ ha);have l1:es.size=ys.length:=Uh he;have l2:kvs.length=ys.length:=fj pr;have l3:kvs.length=ws.length:=by have:=fG fZ hk;rw[bH,bH] at this;exact this
 have key:∀(i:Nat)(en:my),es[i]?=O en->∃w b,ws[i]?=O w/\en.key= .ref b/\H b=O (.tup<|tx w):=by
  intro i en hen;have hi:i<es.size:=(afC.mp hen).1;obtain⟨p,hp⟩:∃p,kvs[i]?=O p:=⟨_,gq aG⟩;obtain⟨b,hb,e1,e2,_⟩:=D8 pr hp;have qe:=entry_at he i;rw[hb,hen] at qe;have hw:(ws.map ky)[i]?=O p.1:=by rw[<-hk,eU,hp];rfl
  rw[eU] at hw;cases hwi:ws[i]?with
  |none=>rw[hwi] at hw;cases hw
  |some w=>
   rw[hwi] at hw;have hkw:ky w=p.1:=eh hw;refine⟨w,b.2.1,L,by cases qe;rfl,?_⟩;rw[e2,<-hkw,pW]
 have tup:∀w b,H b=O (.tup<|tx w)->Dh s.heap nc (.ref b)=O (kk w)/\(w≠[]->∃f,TupOf s.heap nc (.ref b) f):=by
  intro w b hb;obtain⟨_,its,rv,o,h1,h2,n,h3⟩:=(show dP X.prog X.w H s.heap b (.tup<|tx w) from I.aS b _ hb);have hi:=R6 w its 0 rv;have e1:isTupObj s.heap (.ref b)=Y:=by simp[isTupObj,h1,h2]
  refine⟨?_,λhw=>?_⟩
  ·unfold Dh;rw[aA e1];simp only[tupKey,h1,h3];exact hi
  ·cases w with
   |nil=>exact absurd L hw
   |cons x w=>
    cases rv with
    |cons hx ht=>
     obtain⟨t,rfl⟩:=hx;exact⟨_,b,o,_,n,L,h1,h2,h3,L,λ_=>⟨_,t,L⟩,λz=>by cases z⟩
 have mem:∀acc:Array aw,Dg (λi v=>∃en:my,es[i]?=O en/\v=en.key) acc es.size->∀(i:Nat) v,acc.toList[i]?=O v->∃w b,ws[i]?=O w/\v= .ref b/\H b=O (.tup<|tx w):=by
  intro acc hacc i v hv;rw[Hk] at hv;obtain⟨en,hen,rfl⟩:=hacc.2 i v hv;exact key i en hen
 refine adw (shape:=nc) (adt hs hc hdt) (I.ok.hd hcalm) ho aG (λacc hacc=>?_) λacc st' h' tk b hacc hp hsd hb hold hnew=>?_
 ·have each:∀v∈acc.toList,∃w b,w∈ws/\v= .ref b/\H b=O (.tup<|tx w):=λv hv=>by
   obtain⟨i,hi⟩:=uN.mp hv;obtain⟨w,b,hw,e,hb⟩:=mem acc hacc i v hi;exact⟨w,b,ei hw,e,hb⟩
  refine⟨R7 λv hv=>?_,λv hv=>?_⟩
  ·obtain⟨w,b,hw,rfl,hb⟩:=each v hv;exact(tup w b hb).2<|hne w hw
  ·obtain⟨w,b,hw,rfl,hb⟩:=each v hv;exact⟨_,(tup w b hb).1⟩
 ·have hlp:(jL st').toList.Perm (acc.toList.zip acc.toList):=by have e:=Array.perm_iff_toList_perm.mp hp;rw[pairsOf_toList] at e;exact e
  have hf:∀w b,H b=O (.tup<|tx w)->uc s.heap (.ref b)=w:=λw b hb=>by
   unfold uc;rw[(tup w b hb).1];exact adx w
  have accL:acc.toList.length=es.size:=by rw[wy];exact hacc.1
  have accW:acc.toList.map (uc s.heap)=ws:=by
   apply Ua;intro i;rw[eU];cases hv:acc.toList[i]?with
   |none=>rw[Ho (by have:=aga.mp hv;omega)];rfl
   |some v=>
    obtain⟨w,b,hw,rfl,hb⟩:=mem acc hacc i v hv;rw[hw];exact fG O<|hf w b hb
  have each:∀p∈(jL st').toList,p.1=p.2/\∃w b,p.2= .ref b/\H b=O (.tup<|tx w):=λp hp=>by
   obtain⟨e,hm⟩:=mem_zip_self<|hlp.mem_iff.mp hp;obtain⟨i,hi⟩:=uN.mp hm;obtain⟨w,b,_,e',hb⟩:=mem acc hacc i _ hi;exact⟨e,w,b,by rw[<-e];exact e',hb⟩
  have hperm:((jL st').toList.map (·.2)).Perm acc.toList:=by have:=hlp.map (·.2);rwa [R8] at this
  have hL:(jL st').toList.length=es.size:=by have:=hperm.length_eq;rw[bH] at this;omega
  have hq:=q (((jL st').toList.map (·.2)).map<|uc s.heap) (((jL st').toList.map (·.2)).map yO) b (by have:=hperm.map<|uc s.heap;rwa [accW] at this) ?_ ?_<|I.aS.fresh hb
  ·obtain⟨e,hnew⟩:=hnew;refine⟨.ref b,_,I.laid (a:=b) (o:=.lst<|(((jL st').toList.map (·.2)).map yO).map V.ref) (t':=tk) hold hb ⟨?_,(jL st').toList.map (·.2),e,?_,?_⟩,L,hq⟩
   ·rw[bH,bH,bH];omega
   ·refine R9 λv hv=>?_;obtain⟨p,hp,rfl⟩:=iz.mp hv;obtain⟨_,w,b,e,_⟩:=each p hp;rw[e];rfl
   ·rw[hnew,<-Array.toList_map,Array.toArray_toList]
  ·rw[List.pairwise_iff_getElem];intro i j hi hj hij;rw[bH,bH] at hi hj;have hs':=hsd i j aG (by rw[pairsOf_size];omega);have kkk:∀i (hi:i<(jL st').toList.length),KK (Di s.heap nc) (jL st') i=kk (uc s.heap ((jL st').toList[i]).2):=λi hi=>by
    obtain⟨e,w,b,eb,hb⟩:=each _ (Uv hi);unfold KK;rw[<-Hk,gq hi];show(Dh s.heap nc ((jL st').toList[i]).1).getD []=_;rw[e,eb,hf w b hb,(tup w b hb).1];rfl
   have:lexLt itemOrd (KK (Di s.heap nc) (jL st') j) (KK (Di s.heap nc) (jL st') i)=ax:=hs';rw[kkk i hi,kkk j hj,R5] at this;simp only[Us];exact this
  ·refine Sa λv hv=>?_;obtain⟨p,hp,rfl⟩:=iz.mp hv;obtain⟨_,w,b,e,hb⟩:=each p hp;show H (yO p.2)=O (.tup<|tx<|uc s.heap p.2);rw[e,hf w b hb];exact hb
end
def adC(g:Nm.Good n):f6 n≠[]:=by
 rw[entry_eq];intro z;have h:=g.head.1;cases b:n.head with
 |nil=>exact h b
 |cons a l=>rw[b] at z;cases z
def adD{c:List S}(e:c.Nodup)(h:c.Pairwise λa b=>Dl b a=ax):c.Pairwise λa b=>Dl a b=Y:=by
 refine(List.pairwise_and_iff.mpr ⟨e,h⟩).imp λ{a b} d=>?_;rcases EG d.1 with z|z
 ·exact z
 ·rw[d.2] at z;cases z
def adE(c:List (Nat×bJ)):(keys<|tabOf c).Nodup:=by
 generalize d:c.length=m;induction m generalizing c with
 |zero=>rw[mC.mp d];exact Tu
 |succ m e=>
  obtain⟨l,x,rfl⟩:∃l x,c=l++[x]:=⟨_,_,(zq (by intro z;rw[z] at d;cases d)).symm⟩;rw[aV,gR] at d;rw[B5,B4];split
  ·exact e l aG
  ·rename_i g;rw[Uj];refine⟨e l aG,aT,λa h b f=>?_⟩;rw[ja] at f;subst f;exactλz=>g (z▸h)
def adF{t:TE}{U:L2.St}{H:Hp}{q:af}{xs:List V}(h:G t U H (.ref q))(c:H q=O (.tup xs)):aL (gG (λxs H Q=>∃p ys,xs=[.ref p]/\(aM K H p ys∨cO K H p ys)/\∀l,H l=ai->Q (.ref l) (upd H l<|.lst ys))<|aN t aW) U H xs:=λQ k=>
 h _ λd a=>⟨q,xs,L,.inr<|cO.of<|a _ _ c,λl b=>k _ l (a.trans<|J.new b) (a.free b) ba⟩
def pY(t:Tab)(a:List S):List Int:=a.flatMap λk=>gS k++gS (look t k)
def GN(t:Tab)(a:List S)(k:S):pY t (a++[k])=pY t a++gS k++gS (look t k):=by unfold pY;rw[qo,hX];simp
def adG(cs:Cs):Sp:=λb H Q _=>∃(R M:af->Prop)(a:af)(p:gW),b=[.ref a]/\eD cs R M H a p/\eS H Q (zs<|r8<|.entries<|zC p)
def adH:T.bb T.Ny 5 (adG cs):=T.Ny.aU<|cW ["paper","lines","answer","entry"] λb4 a0 ct D hL j h=>by
 obtain⟨R,b5,a3,p,rfl,hp,k⟩:=h;refine⟨_,(aD (cw 1 D<|aO (adp T) j<|aj<|pv 0)<|aD (cw 2 D<|bQ<|aj<|b6 adz aZ T.cn cq<|aj<|pv 1)<|aD (iH iC L (iG<|b6 (adB L) aZ T.X9 Yp<|aj<|pv 1) (d7 3 D)<|aD (bW<|eK eL j3 j4 jt (pv 2)<|aj<|aO (vS T) j<|aj<|lK z6 aZ T.AH AS<|aj<|pv 3)<|aC<|bW<|eK eL j3 j4 jt (pv 2)<|aj<|aO (vS T) j<|aj<|V1 (tj j) (pv 1) (pv 3)<|λ_ _=>rfl)<|aC<|aK<|pv 2),?_⟩;obtain⟨MH,dx,pu,pn,pl,ph,ns,h⟩:=id hp;have hg:∀x∈p.names,Nm.Good x.2:=λx f=>h.good _ (zx f);have tl:=R1 p.names;have hz:=h.z;refine iP ⟨_,L,R,b5,a3,p,L,hp,λH1 d c s1 cc s u=>?_⟩;have a7:c.length=(keys<|tabOf p.names).length:=by have:=fG fZ u.ks;rw[bH,bH] at this;exact this
 refine aL.eB (eW (v:=.int ((c.length:Nat):Int)) λa0 E=>⟨_,L,d,c,L,s,E H1 J.rf⟩) λH2 t w y H=>?_;have m2:=s1.trans w;refine sq ⟨_,L,d,c,keys<|tabOf p.names,L,w _ _ s,u.ks,λx f=>?_,λa A b m a6 ae I=>?_⟩
 ·obtain⟨aa,M,rfl⟩:=R4 p.names x f;exact adC<|hg aa M
 have a8:A.length=a.length:=fj ae;have a9:a.length=c.length:=by rw[m.length_eq,a7]
 have bk:(keys<|tabOf p.names).Nodup:=adE _;have bl:zC p=a.map λk=>(k,look (tabOf p.names) k):=Xo p.names a (λk=>m.mem_iff)<|adD (m.nodup_iff.mpr bk) a6;have a5:r8 (.entries<|zC p)=(c.length:Int)::pY (tabOf p.names) a:=by
  rw[bl];show(((a.map _).length:Nat):Int)::(a.map _).flatMap _=_;rw[bH,a9,List.flatMap_map];rfl
 rw[a5] at k;generalize ag:upd H2 b (.lst<|A.map V.ref)=N;have o:J H2 N:=by rw[<-ag];exact J.new I
 have ah:N b=O (.lst<|A.map V.ref):=by rw[<-ag];exact ba
 have m3:=m2.trans o;have nt:b4 t=ai:=s1.free y;have wl:∀x∈a,x.length<=20100:=λx f=>by
  obtain⟨aa,M,rfl⟩:=R4 p.names x<|m.mem_iff.mp f;exact entry_len<|fO.BS<|hg aa M
 have bx:∀i,(pY (tabOf p.names)<|a.take i).length<=i*21000:=by
  intro i;induction i with
  |zero=>exact bG _
  |succ i ih=>
   by_cases hi:i<a.length
   ·have f:=gq hi;rw[take_succ f,GN,aV,aV,l9,l9];have:=wl _ (ei f);have:=tl.2 a[i];omega
   ·rw[rY aG];rw[rY aG] at ih;omega
 have cm:a.length<=300:=by omega
 refine⟨b,L,⟨_,aM.of ah⟩,zN (K:=K) (xs:=A.map V.ref) (a:=b) (λi U g=>(∃v,U=[O (.ref a3),O<|.ref d,O<|.ref t,v])/\Kt t N g/\g t=O (.lst<|zs<|(c.length:Int)::pY (tabOf p.names) (a.take i))) ⟨⟨_,L⟩,Kt.rf,o _ _ H⟩ (λi U g _ hh=>aM.of<|hh.2.1 _ _ ah (λz=>by subst z;rw[H] at I;cases I)) ?_ ?_⟩
 ·rintro i x U g f ⟨⟨v,rfl⟩,l,B⟩;obtain⟨a4,hq,rfl⟩:=pT f;obtain⟨e,q,aq⟩:=D8 ae hq;have cp:i<a.length:=(fC.mp q).1;have il:=bx<|i+1;rw[take_succ q,GN,aV,aV,l9,l9] at il;have ne:a4≠t:=dO aq H (by intro z;cases z);have ar:g a4=O (.tup<|tx e):=l _ _ (o _ _ aq) ne;have au:d≠t:=λz=>by subst z;rw[s] at y;cases y
  have b0:g d=O (.dT c):=l _ _ (o _ _ (w _ _ s)) au;have C:∃v,da c (ky e)=O v:=zf.mp<|(u.mem e).mpr<|m.mem_iff.mp<|ei q;obtain⟨v0,C⟩:=C;obtain⟨ab,rfl,nr,j⟩:=u.yes e v0 C;have av:ab≠t:=bA j y;have b1:g ab=O (.lst<|tx<|look (tabOf p.names) e):=l _ _ (o _ _ (w _ _ j)) av;refine Ot (ys:=zs<|gS e) W B (λQ s4=>fh.cv (aL.x<|yn (aL.x<|adF W<|s4 _ _ ar) (by rw[bX];have:=wl e<|ei q;omega)) (BW e).symm) (by rw[i5,i5,l9,bV,b9];omega) λQ s4=>?_;have n:Kt t g (upd Q t<|.lst<|zs ((c.length:Int)::pY (tabOf p.names) (a.take i))++zs (gS e)):=Kt.put<|bE s4;have ay:=n _ _ ar ne;have az:=n _ _ b0 au;have aE:=n _ _ b1 av;generalize b2:upd Q t (.lst<|zs ((c.length:Int)::pY (tabOf p.names) (a.take i))++zs (gS e))=H5 at n ay az aE;have b3:H5 t=O (.lst<|zs ((c.length:Int)::pY (tabOf p.names) (a.take i))++zs (gS e)):=by rw[<-b2];exact ba
  refine pM (ys:=zs<|gS<|look (tabOf p.names) e) W b3 (λH6 r=>fh.cv (aL.x (yn (λa0 E=>⟨_,L,_,L,d,_,L,(by
   have:=lO.t (k:=ky e) (r _ _ az) (by rw[pW];exact r _ _ ay);rw[C] at this;exact this),E H6 ab J.rf<|r _ _ aE⟩) (by rw[bX];have:=tl.2 e;omega))) (BW _).symm) (by rw[aV,i5,i5,i5,l9,l9,bV,b9];omega) λH6 r=>⟨⟨_,L⟩,Kt.put<|l.trans<|n.trans<|bE r,?_⟩
  rw[ba,take_succ q,GN,<-t9,<-t9];rfl
 ·rintro U g ⟨⟨v,rfl⟩,l,B⟩;rw[bH,a8,kx] at B;exact G.ret W λH9 s9=>k H9 t ((l.same m3 nt).trans s9) nt<|s9 _ _ B
def GO{H H':Hp}{a pl C dx:af}{fs:List (ao×V)}{xs:List V}(q:aM K H pl xs)(h:H a=O (.ins C dx fs))(k:∀b o,H b=O o->b≠a->H' b=O o):aM K H' pl xs:=by
 rcases q with(q|⟨o,q⟩)|q
 ·exact .inl<|.inl<|k _ _ q (dO q h (by intro z;cases z))
 ·exact .inl<|.inr ⟨o,k _ _ q (dO q h (by intro z;cases z))⟩
 ·exact .inr q
def fF(K:bj)(cs:Cs)(H:Hp)(a pl:af)(l:List Int)(p:Nat):Prop:=∃b,H a=O (.ins cs.g0 b<|mT (.ref pl)<|.int (p:Nat))/\aM K H pl (zs l)
def fF.same{H H':Hp}{a pl:af}{l:List Int}{p:Nat}(h:fF K cs H a pl l p)(s:J H H'):fF K cs H' a pl l p:=let⟨b,c,d⟩:=h;⟨b,s _ _ c,s.seq d⟩
def Sb(h:l[p]?=O z):ij (zs l) (p:Nat)=O (.int z):=fJ (by unfold zs;rw[eU,h];rfl)
def adI{b c:TE}{U:L2.St}{H:Hp}{D:Ends}{p:af}{xs:List V}(e:G b U H (.ref p))(f:H p=O (.lst xs))
  (g:∀a,J H a->c U a λv h=>pz (.ref p) [v] h λ_ i=>D.nx U i):gu (kK K "list" pz b<|aN c aW) D U H:=
 e _ λa d=>⟨.inl ⟨L,_,aM.of<|d _ _ f⟩,g a d⟩
def adJ{t e f:TE}{U:L2.St}{H:Hp}{p:af}{xs:List V}{i j:Int}(h:G t U H (.ref p))(l:aM K H p xs)(m:∀a,J H a->G e U a (.int i))(n:∀a,J H a->G f U a (.int j)):aL (sH (sJ K) t (pw e)<|pw f) U H (jh xs (O i)<|O j):=λQ k=>
 h _ λa b=>m a b _ λo c=>⟨i,L,n o (b.trans c) _ λq d=>⟨j,L,p,xs,L,J.seq (b.trans<|c.trans d) l,λr g=>k _ r (((b.trans c).trans d).trans<|J.new g) (((b.trans c).trans d).free g) ba⟩⟩
def Se(K:bj)(cs:Cs):Sp:=λc H Q _=>∃p d a l,c=[.ref p,.ref a]/\H p=O (.ins cs.g0 d [])/\aM K H a (zs l)/\∀b,Kt p H b->fF K cs b p a l 0->Q .bp b
def AN:T.oo T.AN 1 (Se K cs):=T.AN.aU<|bN λH Q E m n o h=>by
 obtain⟨p,c,q,l,rfl,a,d,k⟩:=h;refine⟨_,(aD (bP (pv 0) (pv 1) L)<|aC<|bP (pv 0) aI L),?_⟩;refine gy T.kS (T.vH _ bf) aB a W aR λr e f=>?_;refine pS T.kS (T.vH _ bf) (by show 1<1000;decide) f aQ aR λg i j=>?_;have b:=e.trans i;exact k g b ⟨c,j,GO d a b⟩
def adK(h:G t U H (.ref pl))(g:aM K H pl (zs l))(k:∀d p,J H d->H p=ai->fF K cs d p pl l 0->Q (.ref p) d):iZ cs.g0 (Se K cs) [] E (aN t aW) U H Q:=
 h _ λq a x i c f gc=>⟨x,i,pl,l,L,ba,J.seq (λb o e=>by rw[aX (bA (a _ _ e) c),aX<|bA (a _ _ e) f];exact a _ _ e) g,λj m n=>⟨L,k j x (λb o e=>m b o (by rw[aX (bA (a _ _ e) c),aX<|bA (a _ _ e) f];exact a _ _ e)<|bA (a _ _ e) c) (a.free c) n⟩⟩
def Sf(K:bj)(cs:Cs):Sp:=λc H Q _=>∃a d l p,c=[.ref a]/\fF K cs H a d l p/\∀b,J H b->Q (.bl<|decide (p<l.length)) b
def adL:T.kh T.NA 1 (Sf K cs):=T.NA.aU<|bN λH Q E i j m h=>by
 obtain⟨a,n,l,p,rfl,⟨o,b,f⟩,k⟩:=h;refine⟨_,(aC<|aK<|gw f9 (aJ<|pv 0)<|b6 cB aZ T.cn cq<|aj<|aJ<|pv 0),?_⟩;refine G.ret (cj (Bb T W b) λq c=>iN (Fm T W<|c _ _ b)<|c.seq f) λd g=>?_;have:=k d g;rw[i5];have e:decide (((p:Nat):Int)<((l.length:Nat):Int))=decide (p<l.length):=cY.mpr aG;show Q (.bl<|decide (((p:Nat):Int)<((l.length:Nat):Int))) d;rw[e];exact this
def adM(h:G t U H (.ref a))(hs:fF K cs H a pl l p):G (gX cs.g0 "has_more" (Sf K cs) [] E t aW) U H (.bl<|decide (p<l.length)):=λQ k=>
 h _ λg b=>let⟨c,d,i⟩:=hs;⟨a,c,_,L,b _ _ d,Zv,a,pl,l,p,L,hs.same b,λe f=>k e<|b.trans f⟩
def Sg(K:bj)(cs:Cs):Sp:=λd H Q _=>∃a c l p z,d=[.ref a]/\fF K cs H a c l p/\l[p]?=O z/\∀b,Kt a H b->fF K cs b a c l (p+1)->Q (.int z) b
def Sh(b:aM K H pl (zs l))(c:H a=O (.ins cs.g0 dx<|mT (.ref pl)<|.int (p:Nat)))(d:Kt a H H')(h':H' a=O (.ins cs.g0 dx<|d4 "place" (.int<|((p:Nat):Int)+((n:Nat):Int))<|mT (.ref pl)<|.int (p:Nat))):fF K cs H' a pl l (p+n):=
 ⟨dx,by rw[h'];show O (HO.ins cs.g0 dx<|mT (.ref pl)<|.int<|((p:Nat):Int)+((n:Nat):Int))=O (HO.ins cs.g0 dx<|mT (.ref pl)<|.int ((p+n:Nat):Int));rw[show((p+n:Nat):Int)=(p:Int)+(n:Int) by omega],GO b c d⟩
def GP:T.kh T.NB 1 (Sg K cs):=T.NB.aU<|bN λH Q E q r s h=>by
 obtain⟨a,t,l,p,z,rfl,⟨u,c,i⟩,j,k⟩:=h;refine⟨_,(aD (xq (pv 0) aI xr)<|aC<|aK<|bT b8 (aJ<|pv 0)<|cP iY (aJ<|pv 0) aI),?_⟩;refine sq<|yB (j:=((1:Nat):Int)) W c T.kS (T.vH _ bf) aZ (by show 2<1000;decide) bq λv d m=>?_;have e:=Sh i c d m;obtain⟨o,f,n⟩:=id e;refine G.ret (v:=.int z) (e8 (Fm T W f) (λg b=>G.cv (cj (Bb T W<|b _ _ f) bq) (w:=.int ((p:Nat):Int)) (by show V.int _=V.int _;congr 1;omega)) n<|Sb j) λg b=>k g (d.trans<|bE b)<|e.same b
def GQ(h:G t U H (.ref a))(hs:fF K cs H a pl l p)(hz:l[p]?=O z)(k:∀H',Kt a H H'->fF K cs H' a pl l (p+1)->Q (.int z) H'):gX cs.g0 "take" (Sg K cs) [] E t aW U H Q:=
 h _ λi b=>let⟨c,d,j⟩:=hs;⟨a,c,_,L,b _ _ d,Zw,a,pl,l,p,z,L,hs.same b,hz,λe f g=>k e (eX b f) g⟩
def Si(K:bj)(cs:Cs):Sp:=λd H Q _=>∃a c l p r rest,d=[.ref a]/\fF K cs H a c l p/\l.drop p=((fZ r:Nat):Int)::(r++rest)/\∀b q,Kt a H b->fF K cs b a c l (p+1+r.length)->H q=ai->b q=O (.lst<|zs r)->Q (.ref q) b
def yP{l:List Int}{p:Nat}{z:Int}{r:List Int}(h:l.drop p=z::r):l[p]?=O z/\l.drop (p+1)=r:=by
 have e:(l.drop p)[0]?=O z:=by rw[h];rfl
 rw[Uo] at e;exact⟨by simpa using e,by rw[<-oT,h];rfl⟩
def Sj:T.kh T.NC 2 (Si K cs):=T.NC.aU<|cW ["self","count"] λH Q E l D m h=>by
 obtain⟨aa,I,ab,p,r,rest,rfl,n,o,k⟩:=h;refine⟨_,(aD (cw 1 l<|dE (GP T) T.kS (pv 0) (m.mono aB) ck)<|aD (xq (pv 0) (pv 1) xr)<|aC<|aK<|kI kJ (aJ<|pv 0) (jg<|cP iY (aJ<|pv 0)<|pv 1)<|jg<|aJ<|pv 0),?_⟩;obtain⟨s,j⟩:=yP o;refine iP<|GQ W n s λM f t=>?_;obtain⟨N,g,u⟩:=id t;refine sq<|yB (j:=((r.length:Nat):Int)) W g T.kS (T.vH _ bf) aZ (by show 2<1000;decide) aR λv c w=>?_;have i:=Sh u g c w;obtain⟨C,b,x⟩:=id i;have y:∀{q:af},v q=ai->H q=ai:=λ{q} e=>(f.trans c).free e λz=>by subst z;rw[b] at e;cases e
 refine aL.ret (aL.cv (adJ (i:=((p+1:Nat):Int)) (j:=((p+1+r.length:Nat):Int)) (Fm T W b) x (λd a=>G.cv (cj (Bb T W<|a _ _ b) aR) (by show V.int _=V.int _;congr 1;omega))<|λd a=>Bb T W<|a _ _ b) (ys:=zs r) (by
  rw[EW aG aG];unfold zs;rw[<-af6,<-af7];congr 1;rw[show((p+1:Nat):Int).toNat=p+1 by omega,j,show((p+1+r.length:Nat):Int).toNat-(p+1)=r.length by omega,List.take_append_of_le_length<|bG _,kx])) λd q a A B=>k d q (f.trans<|c.trans<|bE a) (i.same a) (y A) B
def Sk{l r rest:List Int}{p:Nat}(h:G t U H (.ref a))(hs:fF K cs H a pl l p)(hz:l.drop p=((r.length:Nat):Int)::(r++rest))
  (k:∀H' q,Kt a H H'->fF K cs H' a pl l (p+1+r.length)->H q=ai->H' q=O (.lst<|zs r)->Q (.ref q) H'):gX cs.g0 "take_row" (Si K cs) [] E t aW U H Q:=
 h _ λm b=>let⟨c,d,n⟩:=hs;⟨a,c,_,L,b _ _ d,Zx,a,pl,l,p,r,rest,L,hs.same b,hz,λe q f g i j=>k e q (eX b f) g (b.free i) j⟩
def GR(H:Hp)(p:af)(rs:List (List Int)):Prop:=∃a:List af,H p=O (.lst<|a.map V.ref)/\Paired (λb r=>H b=O (.lst<|zs r)) a rs
def ki(rs:List (List Int)):Nat:=(kC rs).length
def Sl(K:bj)(cs:Cs):Sp:=λf H Q _=>∃a e l p c rest,f=[.ref a]/\fF K cs H a e l p/\l.drop p=((fZ c:Nat):Int)::(kC c++rest)/\c.length<=1000000/\
 ∀d q,Kt a H d->fF K cs d a e l (p+1+ki c)->GR (HR (λb=>H b=ai) d) q c->H q=ai->Q (.ref q) d
def ud(r:List Int)(rs:List (List Int)):kC (r::rs)=((r.length:Nat):Int)::(r++kC rs):=by
 show HZ r++_=_;rfl
def adN(rs:List (List Int))(rest:List Int):∀(l:List Int)(p i:Nat),l.drop p=kC rs++rest->i<=rs.length->l.drop (p+ki (rs.take i))=kC (rs.drop i)++rest:=by
 induction rs with
 |nil=>intro l p i h a;have:i=0:=Nat.le_zero.mp a;subst this;exact h
 |cons r rs b=>
  intro l p i h a;cases i with
  |zero=>exact h
  |succ i=>
   rw[ud,rS,hX] at h;obtain⟨_,c⟩:=yP h;have d:l.drop (p+1+r.length)=kC rs++rest:=by rw[<-oT,c,Uw]
   have:=b l (p+1+r.length) i d<|Nat.le_of_succ_le_succ a;rw[rV,<-this];congr 1;rw[Dn];unfold ki;rw[ud,bV,aV];omega
def adO{rs:List (List Int)}{i:Nat}{r:List Int}(h:rs[i]?=O r):ki (rs.take<|i+1)=ki (rs.take i)+1+r.length:=by
 induction rs generalizing i with
 |nil=>cases h
 |cons a rs b=>
  cases i with
  |zero=>
   cases h;rw[Dn];unfold ki;rw[ud,bV,aV];simp only[agn];show _=0+1+_;have:(kC ([]:List (List Int))).length=0:=rfl;omega
  |succ i=>
   have:=b (i:=i) h;rw[Dn,Dn];unfold ki at this⊢;rw[ud,ud,bV,aV,bV,aV,this];omega
def adP:T.kh T.ND 3 (Sl K cs):=T.ND.aU<|cW ["self","count","rows"] λH a0 a3 nd hL t aE=>by
 obtain⟨a,pl,l,ab,d,rest,rfl,B,hd,hz,k⟩:=aE;refine⟨_,(aD (cw 1 nd<|dE (GP T) T.kS (pv 0) (t.mono aB) ck)<|aD (cw 2 nd<|bQ gv)<|aD (o9 iC (bK f9 (b6 cB aZ T.cn cq<|aj<|pv 2)<|pv 1)<|aC<|bW<|eK eL jJ jK jj (pv 2)<|aj<|dE (Sj T) T.kS (pv 0) (t.mono aB) ck)<|aC<|aK<|pv 2),?_⟩;obtain⟨ae,ag⟩:=yP hd;refine iP<|GQ W B ae λH1 k1 t1=>?_;have ah:H1 a≠ai:=by obtain⟨C,u,_⟩:=t1;rw[u];exact j5 _
 refine aL.eB ir λH2 q s2 n2 hq=>?_;have v:H q=ai:=k1.free n2 λz=>ah (z▸n2);have M:H a≠ai:=by obtain⟨C,u,_⟩:=B;rw[u];exact j5 _
 have aq:∀{f:Hp},(∀b o,H b=O o->b≠a->f b=O o)->aM K f pl (zs l):=λk=>by obtain⟨C,u,o2⟩:=B;exact GO o2 u k
 refine vM (λU f=>∃i,i<=d.length/\U=[O (.ref a),O<|.int ((d.length:Nat):Int),O<|.ref q]/\(∀b o,H b=O o->b≠a->f b=O o)/\fF K cs f a pl l (ab+1+ki (d.take i))/\
   ∃g:List af,f q=O (.lst<|g.map V.ref)/\Paired (λb r=>H b=ai/\b≠q/\f b=O (.lst<|zs r)) g (d.take i)) (λU f=>d.length-(match f q with|some (.lst xs)=>xs.length|_=>0)) ⟨0,dD _,L,k1.trans<|bE s2,t1.same s2,[],hq,.nil⟩ ?_
 rintro U f ⟨i,hi,rfl,D,w,g,p,y⟩;have ar:g.length=i:=by rw[fj y,gA];omega
 refine⟨_,bI<|cj (iN W<|aM.of p) aR,λH3 j=>?_⟩;rw[bH,ar];refine bh (λh=>?_)<|λh=>?_
 ·have h:i<d.length:=by have:=df h;omega
  have t:=gq h;have I:=adN d rest l (ab+1) i ag hi;rw[zr h,ud,rS,hX] at I;refine adI W (j _ _ p) λH4 m=>Sk (r:=d[i]) W (w.same<|j.trans m) I λH5 b E t5 n5 h5=>?_;have A:=j.trans m;obtain⟨C,oa,_⟩:=id w;have N:q≠a:=λz=>by subst z;exact M v
  have au:=E _ _ (A _ _ p) N;have s:f b=ai:=A.free n5;have Q:b≠q:=λz=>by subst z;rw[p] at s;cases s
  have av:b≠a:=λz=>by subst z;rw[oa] at s;cases s
  have ay:H b=ai:=by
   cases e:H b with
   |none=>rfl
   |some o=>rw[D _ _ e av] at s;cases s
  have aa:∀c o,H c=O o->c≠a->upd H5 q (.lst<|g.map V.ref++[.ref b]) c=O o:=λc o e n=>by
   rw[aX (λz=>by subst z;rw[v] at e;cases e)];exact E _ _ (A _ _ (D _ _ e n)) n
  refine⟨q,_,_,L,L,au,by rw[bH,b9];omega,⟨i+1,h,L,aa,?_,g++[b],?_,?_⟩,?_⟩
  ·rw[adO t];obtain⟨az,o5,o6⟩:=t5;refine⟨az,?_,aq aa⟩;rw[aX N.symm,o5];congr 5;omega
  ·rw[ba,fR];rfl
  ·rw[take_succ t];refine uG (Paired.fT y λc r x=>⟨x.1,x.2.1,?_⟩) ⟨ay,Q,by rw[aX Q];exact h5⟩;rw[aX x.2.1];exact E _ _ (A _ _ x.2.2) λz=>by subst z;exact M x.1
  ·rw[p,ba];show d.length-(g.map V.ref++[V.ref b]).length<d.length-(g.map V.ref).length;rw[aV,bH,gR];omega
 ·have h:i=d.length:=by have:=d8 h;omega
  subst h;rw[kx] at w y;refine G.ret W λH4 m=>k H4 q (λb o e n=>m _ _ (j _ _ (D _ _ e n))) (w.same<|j.trans m) ⟨g,?_,?_⟩ v
  ·rw[jC v];exact m _ _ (j _ _ p)
  ·exact Paired.fT y λb r x=>by rw[jC x.1];exact m _ _ (j _ _ x.2.2)
structure Dk(cs:Cs)(ρ:af->Nat)(H:Hp)(a:af)(s:eI)(dx pg pe pp pd:af)(MP:af->Prop):Prop where
 o:H a=O (.ins cs.fE dx<|gL (.ref pg) (.ref pe) (.ref pp)<|.ref pd)
 al:∀b,ρ b≠0->H b≠ai
 ra:ρ a=0
 rg:ρ pg=1
 gn:dX cs (HR (λb=>ρ b=1) H) pg s.genera
 ep:dR cs (HR (λb=>ρ b=2) H) pe s.epithets
 pp:eD cs (λb=>ρ b=3) MP H pp s.paper
 dr:jq cs (λb=>ρ b=4) H pd s.written.length (ej s.written)
def kl(cs:Cs)(ρ:af->Nat)(H:Hp)(a:af)(s:eI):Prop:=∃b c d e f g,Dk cs ρ H a s b c d e f g
open Classical in
noncomputable def hJ(ρ:af->Nat)(H H':Hp)(k:Nat):af->Nat:=λb=>if H' b=ai then 0 else if H b=ai then k else ρ b
def we(h:H b≠ai)(h':H' b≠ai):hJ ρ H H' k b=ρ b:=by unfold hJ;rw[ak h',ak h]
def B6(h:H b=ai)(h':H' b≠ai):hJ ρ H H' k b=k:=by unfold hJ;rw[ak h',aA h]
def adQ(h:hJ ρ H H' k b≠0):H' b≠ai:=λz=>h (by unfold hJ;rw[aA z])
def pZ(h:R b)(e:H b=O o):HR R H b=O o:=(jC h).trans e
def nn{H:Hp}{b:af}{o:HO}(e:H b=O o):H b≠ai:=by rw[e];exact j5 _
section
variable{ρ:af->Nat}{H H':Hp}{a:af}{s s':eI}{dx pg pe pp pd qe qp qd:af}{MP MP':af->Prop}{k:Nat}
abbrev nj(ρ:af->Nat)(a:af)(k:Nat):af->Prop:=λb=>(ρ b=k/\k≠0)∨b=a
def yQ(l:∀b,ρ b≠0->H b≠ai)(f:ρ a=0)(g:KR (nj ρ a k) H H'){j:Nat}(h:j≠k)(i:j≠0){b:af}(c:ρ b=j){o:HO}(e:H b=O o):H' b=O o/\hJ ρ H H' k b=j:=by
 have d:H' b=O o:=g b o e λz=>z.elim (λz=>h<|c.symm.trans z.1) λz=>i<|c.symm.trans (z▸f);exact⟨d,by rw[we (nn e) (nn d)];exact c⟩
def Sm(c:∀b,ρ b≠0->H b≠ai)(d:ρ a=0)(f:KR (nj ρ a k) H H')(g:j≠k)(h:j≠0):J (HR (λb=>ρ b=j) H) (HR (λb=>hJ ρ H H' k b=j) H'):=λb o e=>by
 obtain⟨i,e⟩:=eC e;obtain⟨l,m⟩:=yQ c d f g h i e;exact pZ m l
def Sn(b:af)(r:Rn (λb=>ρ b=k) H b)(e:H' b≠ai):hJ ρ H H' k b=k:=by
 by_cases c:H b=ai
 ·exact B6 c e
 ·rw[we c e];exact r.elim id λz=>absurd z c
def GS:J (HR (Rn (λb=>ρ b=k) H) H') (HR (λb=>hJ ρ H H' k b=k) H'):=λb o e=>by
 obtain⟨c,e⟩:=eC e;exact pZ (Sn b c<|nn e) e
def Dk.wg(h:Dk cs ρ H a s dx pg pe pp pd MP)(c:KR (nj ρ a k) H H')(d:1≠k):dX cs (HR (λb=>hJ ρ H H' k b=1) H') pg s.genera:=h.gn.same<|Sm h.al h.ra c d aB
def Dk.mG(h:Dk cs ρ H a s dx pg pe pp pd MP)(c:KR (nj ρ a k) H H')(d:2≠k):dR cs (HR (λb=>hJ ρ H H' k b=2) H') pe s.epithets:=h.ep.same<|Sm h.al h.ra c d aB
def Dk.wj(h:Dk cs ρ H a s dx pg pe pp pd MP)(c:KR (nj ρ a k) H H')(d:3≠k):eD cs (λb=>hJ ρ H H' k b=3) MP H' pp s.paper:=
 h.pp.keep (λb f r e=>(yQ h.al h.ra c d aB r e).1) λb r e=>let⟨_,e⟩:=lD.mp e;(yQ h.al h.ra c d aB r e).2
def Dk.wk(h:Dk cs ρ H a s dx pg pe pp pd MP)(c:KR (nj ρ a k) H H')(d:4≠k):jq cs (λb=>hJ ρ H H' k b=4) H' pd s.written.length (ej s.written):=
 h.dr.keep (λb f r e=>(yQ h.al h.ra c d aB r e).1) λb r e=>let⟨_,e⟩:=lD.mp e;(yQ h.al h.ra c d aB r e).2
def Dk.at (h:Dk cs ρ H a s dx pg pe pp pd MP)(c:KR (λb=>ρ b=k/\k≠0) H H'):H' a=O (.ins cs.fE dx<|gL (.ref pg) (.ref pe) (.ref pp)<|.ref pd):=c _ _ h.o λz=>z.2<|z.1.symm.trans h.ra
def iu(c:KR (λb=>ρ b=k/\k≠0) H H'):KR (nj ρ a k) H H':=λb o e n=>c b o e λz=>n<|.inl z
def Dk.out(h:Dk cs ρ H a s dx pg pe pp pd MP)(c:H' a=O (.ins cs.fE dx<|gL (.ref pg) (.ref qe) (.ref qp)<|.ref qd))(d:H' pg≠ai)(e:dX cs (HR (λb=>hJ ρ H H' k b=1) H') pg s'.genera)(f:dR cs (HR (λb=>hJ ρ H H' k b=2) H') qe s'.epithets)(g:eD cs (λb=>hJ ρ H H' k b=3) MP' H' qp s'.paper)
  (i:jq cs (λb=>hJ ρ H H' k b=4) H' qd s'.written.length (ej s'.written)):kl cs (hJ ρ H H' k) H' a s':=
 ⟨dx,pg,qe,qp,qd,MP',c,λb z=>adQ z,by rw[we (nn h.o) (nn c)];exact h.ra,by rw[we (h.al _ (by rw[h.rg];decide)) d];exact h.rg,e,f,g,i⟩
def Kp(ρ:af->Nat)(Z:af->Prop)(a:af)(H H':Hp)(ρ':af->Nat):Prop:=∀b o,H b=O o->ρ b=0->b≠a->¬Z b->H' b=O o/\ρ' b=0
def rm{Z:af->Prop}(d:KR (nj ρ a k) H H'):Kp ρ Z a H H' (hJ ρ H H' k):=λb o e r n _=>by
 have c:H' b=O o:=d b o e λz=>z.elim (λz=>z.2<|z.1.symm.trans r) n;exact⟨c,by rw[we (nn e) (nn c)];exact r⟩
def Dk.pure(h:Dk cs ρ H a s dx pg pe pp pd MP)(st:J H H'):kl cs (hJ ρ H H' 0) H' a s:=by
 have b:KR (nj ρ a 0) H H':=KR.of st;have c:H' pg≠ai:=by obtain⟨d,e⟩:=lD.mp<|h.al pg (by rw[h.rg];decide);exact nn<|st _ _ e
 exact h.out (st _ _ h.o) c (h.wg b aB) (h.mG b aB) (h.wj b aB)<|h.wk b aB
end
inductive Ar:Nat->List Int->List S->Dq->Prop
 |c0 (g st:Int) (w:S):Ar 0 [g,st] [w] (.genus g st w)
 |c1 (k:Int) (w:S):Ar 1 [k] [w] (.epithet k w)
 |c2 (e g:Int):Ar 2 [e,g] [] (.form e g)
 |c3 (w:S):Ar 3 [] [w] (.fold w)
 |c4 (e f g:Int):Ar 4 [e,f,g] [] (.alike e f g)
 |c5 (g:Int):Ar 5 [g] [] (.classes g)
 |c6 (g r:Int):Ar 6 [g,r] [] (.family g r)
 |c7 (w:S):Ar 7 [] [w] (.families w)
 |c8 (g d:Int):Ar 8 [g,d] [] (.turn g d)
 |c9 (w:S):Ar 9 [] [w] (.read w)
 |ue (n:bJ):Ar 10 (intsOf n) ([n.head,n.sub,n.e1,n.e2]++n.authors) (.write n)
 |uf (c:Ct):Ar 11 c.row c.authors (.cite c.g c.sub c.e1 c.e2 c.first c.year c.etal c.authors)
 |ug (w:S):Ar 12 [] [w] (.who w)
 |yR (w:S):Ar 13 [] [w] (.mend w)
 |yS (w:S):Ar 14 [] [w] (.feed w)
 |yT:Ar 15 [] [] .last
 |yU:Ar 16 [] [] .index
 |yV (n:bJ):Ar 17 (intsOf n) ([n.head,n.sub,n.e1,n.e2]++n.authors) (.tell n)
 |yW:Ar 18 [] [] .fresh
structure adR(cs:Cs)(i:Nat)(ρ:af->Nat)(Z:af->Prop)(H:Hp)(a pn pt:af)(s:eI)(ns:List Int)(ts:List S)(c:Dq):Prop where
 dk:kl cs ρ H a s
 ar:Ar i ns ts c
 z:∀b,Z b->ρ b=0/\b≠a
 n:sZ (HR Z H) pn ns
 t:cU (HR Z H) pt ts
 sz:∀t∈ts,t.length<=4096
 zn:ts.length<=20
 part:s.paper.part.length<=500000
def oM(cs:Cs)(ρ:af->Nat)(Z:af->Prop)(H:Hp)(a:af)(s:eI)(c:Dq)(Q:VK):Prop:=
 ∀b ρ' q,Kp ρ Z a H b ρ'->kl cs ρ' b a (bZ s c).1->H q=ai->b q=O (.lst<|zs<|r8 (bZ s c).2)->Q (.ref q) b
def gO(cs:Cs)(i:Nat):Sp:=λe H Q _=>∃ρ Z a b d s f g c,e=[.ref a,.ref b,.ref d]/\adR cs i ρ Z H a b d s f g c/\oM cs ρ Z H a s c Q
def oM.pure(k:oM cs ρ Z H a s c Q)(h:Dk cs ρ H a s dx f g i j l)(e1:(bZ s c).1=s)(e2:r8 (bZ s c).2=r):eS H Q (zs r):=λb q st d e=>
 k b _ q (rm<|KR.of st) (by rw[e1];exact h.pure st) d (by rw[e2];exact e)
open VbnlabNeutral (shown)
section
variable{ρ ρ1:af->Nat}{H H':Hp}{a:af}{s:eI}{dx pg pe pp pd:af}{MP Z:af->Prop}{c:Dq}{Q:VK}
def yX(st:J H H')(h:∀b,R b->R' b):J (HR R H) (HR R' H'):=λb o e=>by
 obtain⟨r,e⟩:=eC e;exact pZ (h b r)<|st _ _ e
def Dk.same(h:Dk cs ρ H a s dx pg pe pp pd MP)(st:J H H'):Dk cs ρ H' a s dx pg pe pp pd MP:=
 ⟨st _ _ h.o,λb r e=>h.al b r<|st.free e,h.ra,h.rg,h.gn.same<|yX st λ_ x=>x,h.ep.same<|yX st λ_ x=>x,h.pp.same st,h.dr.same st⟩
def Dk.yY(h:Dk cs ρ H a s dx pg pe pp pd MP)(f:∀b,ρ b≠0->ρ1 b=ρ b)(g:∀b,ρ1 b≠0->H b≠ai)(i:ρ1 a=0):Dk cs ρ1 H a s dx pg pe pp pd MP:=by
 have d:∀{j:Nat},j≠0->∀b,ρ b=j->ρ1 b=j:=λn b e=>(f b (by rw[e];exact n)).trans e;exact⟨h.o,g,i,d aB _ h.rg,h.gn.same<|yX J.rf<|d aB,h.ep.same<|yX J.rf<|d aB,h.pp.keep (λ_ _ _ e=>e) λb r _=>d aB b r,h.dr.keep (λ_ _ _ e=>e) λb r _=>d aB b r⟩
def oM.same(k:oM cs ρ Z H a s c Q)(st:J H H'):oM cs ρ Z H' a s c Q:=λd ρ2 q f g h i=>k d ρ2 q (λb o e r n z=>f b o (st _ _ e) r n z) g (st.free h) i
def oM.yY(k:oM cs ρ Z H a s c Q)(h:∀b,ρ b=0->¬Z b->ρ1 b=0):oM cs ρ1 Z H a s c Q:=λd ρ2 q f g i j=>k d ρ2 q (λb o e r n z=>f b o e (h b r z) n z) g i j
def jV(h:ym t U H vs)(k:∀b,J H b->sp (vs++[]) b D.rt E):o8 (cA sp [] E t) D U H:=h _ k
def lq{t u:TE}{U:L2.St}{b:Hp}{d:af}{e:List Int}{n:Nat}{z:Int}(g:sZ H d e)(hz:e[n]?=O z)(st:J H b)(h:G t U b (.ref d))(i:∀f,J b f->G u U f (.int ((n:Nat):Int))):G (dG (j8 K) t u) U b (.int z):=e8 h i (aM.of<|st _ _ g)<|Sb hz
def rn{pt:af}{e:List S}{n:Nat}{x:S}(j:cU (HR Z H) pt e)(k:e[n]?=O x):∃b,Z b/\aY H b x/\∀{d:Hp}{t u:TE}{U:L2.St},J H d->G t U d (.ref pt)->(∀f,J d f->G u U f (.int ((n:Nat):Int)))->G (dG (j8 K) t u) U d (.ref b):=by
 obtain⟨p,l,i⟩:=mW j;obtain⟨b,m,g⟩:=mX i k;exact⟨b,(eC g).1,(eC g).2,λst h o=>e8 h o (aM.of<|st _ _ (eC l).2)<|fJ (by rw[eU,m];rfl)⟩
def yZ:∀{ls:List S},(∀a∈ls,a.length<=4096)->dF ls<=4100*ls.length
 |[],_=>bG _
 |l::r,h=>by
  have b:=yZ λa d=>h a<|dS _ d;have e:=h l<|dY ..;unfold dF at b⊢;rw[cM,mD,bV];omega
end
def adS:T.bb T.NF 5 (gO cs 0):=T.NF.aU<|bN λav ay az nd hL v h=>by
 obtain⟨ρ,Z,aE,pn,pt,s,ns,ts,a0,rfl,⟨⟨dx,w,y,A,B,k,h⟩,C,m,e,D,sz,zn,au⟩,aa⟩:=h;cases C with|c0 g st l=>?_
 refine⟨_,(aC<|aK<|aO (aa0 T) v<|aP (aJ<|pv 0)<|aP (bT b8 (pv 1) aI)<|aP (bT b8 (pv 1) aI)<|aj<|bT b8 (pv 2) aI),?_⟩;obtain⟨b,f,n,E⟩:=rn (K:=K) (n:=0) (x:=l) D L;have e:=(eC e).2;refine jV (cT (tK T W h.o) λo a=>cT (lq (n:=0) (z:=g) e L a W bq) λi p=>cT (lq (n:=1) (z:=st) e L (a.trans p) W bq) λH3 H=>cT (E (a.trans<|p.trans H) W bq) λ_ _=>iO) λo a=>?_;have c:=(h.same a).yY (ρ1:=λx=>if x=b then 1 else ρ x) (λx r=>ak λ(z:x=b)=>r (by rw[z];exact(m b f).1)) (λx r=>by
  by_cases z:x=b
  ·subst z;exact nn<|a _ _ n
  ·exact(h.same a).al x λab=>r<|(ak z).trans ab)<|(ak (m b f).2.symm).trans h.ra
 have q:=(aa.same a).yY (ρ1:=λx=>if x=b then 1 else ρ x)<|λx r I=>(ak λ(z:x=b)=>I (by rw[z];exact f)).trans r;have t:(λx=>if x=b then 1 else ρ x) b=1:=aA L;generalize(λx=>if x=b then 1 else ρ x)=ρ1 at c q t;refine⟨λx=>ρ1 x=1,w,b,g,st,l,s,L,c.rg,t,c.gn,a _ _ n,λi ae M N Q u=>?_⟩;have d:KR (λx=>ρ1 x=1/\1≠0) o i:=λx ag ah aq=>M x ag ah λz=>aq ⟨z,aB⟩;have j:(gU s g st l).1.epithets=s.epithets/\(gU s g st l).1.paper=s.paper/\(gU s g st l).1.written=s.written:=by
  unfold gU;repeat' split
  all_goals exact⟨L,L,L⟩
 obtain⟨⟨as,hl,_⟩,_⟩:=id u;refine q i _ ae (rm<|iu d) (c.out (MP':=k) (c.at d) (nn (eC hl).2) (u.same GS) ?_ ?_ ?_) N Q
 ·show dR cs _ y (gU s g st l).1.epithets;rw[j.1];exact c.mG (iu d) aB
 ·show eD cs _ k _ A (gU s g st l).1.paper;rw[j.2.1];exact c.wj (iu d) aB
 ·show jq cs _ _ B (gU s g st l).1.written.length (ej (gU s g st l).1.written);rw[j.2.2];exact c.wk (iu d) aB
def adT:T.bb T.NG 6 (gO cs 1):=T.NG.aU<|bN λag ah aq nd hL u h=>by
 obtain⟨ρ,Z,au,pn,pt,s,ns,ts,av,rfl,⟨⟨dx,g,n,v,w,o,h⟩,y,hz,i,z,A,zn,ab⟩,k⟩:=h;cases y with|c1 c l=>?_
 refine⟨_,(aC<|aK<|aO (aaN T) u<|aP (aJ<|pv 0)<|aP (bT b8 (pv 1) aI)<|aj<|bT b8 (pv 2) aI),?_⟩;obtain⟨b,zb,B,C⟩:=rn (K:=K) (n:=0) (x:=l) z L;have i:=(eC i).2;refine jV (cT (tL T W h.o) λp f=>cT (lq (n:=0) (z:=c) i L f W bq) λH3 D=>cT (C (f.trans D) W bq) λ_ _=>iO) λp f=>?_;have a:=h.same f;have E:=k.same f;have ae:=A l<|ja.mpr L;have r:ρ n=2:=by obtain⟨⟨as,H,_⟩,_⟩:=id a.ep;exact(eC H).1
 refine⟨λx=>ρ x=2,n,b,c,l,s,L,r,a.ep,f _ _ B,aG,λj q I M N Q=>?_⟩;have d:KR (λx=>ρ x=2/\2≠0) p j:=KR.kt I ⟨r,aB⟩;have m:(ia s c l).1.genera=s.genera/\(ia s c l).1.paper=s.paper/\(ia s c l).1.written=s.written:=by
  unfold ia;repeat' split
  all_goals first|exact⟨rfl,rfl,rfl⟩|(dsimp only;(repeat' split)<;>exact⟨rfl,rfl,rfl⟩)
 have t:j g≠ai:=by obtain⟨ay,e⟩:=lD.mp<|a.al g (by rw[a.rg];decide);exact nn<|d _ _ e λaa=>absurd (a.rg.symm.trans aa.1) aB
 refine E j _ q (rm<|iu d) (a.out (MP':=o) (a.at d) t ?_ (Q.same GS) ?_ ?_) M N
 ·show dX cs _ g (ia s c l).1.genera;rw[m.1];exact a.wg (iu d) aB
 ·show eD cs _ o _ v (ia s c l).1.paper;rw[m.2.1];exact a.wj (iu d) aB
 ·show jq cs _ _ w (ia s c l).1.written.length (ej (ia s c l).1.written);rw[m.2.2];exact a.wk (iu d) aB
def adU:T.bb T.NN 3 (gO cs 8):=T.NN.aU<|bN λaa ab ae E H r h=>by
 obtain⟨ρ,Z,ag,I,M,s,N,Q,ah,rfl,⟨⟨dx,t,pe,pp,pd,MP,h⟩,u,hz,f,ht,sz,zn,D⟩,k⟩:=h;cases u with|c8 i g=>?_
 refine⟨_,(aC<|aK<|aO (abc T) r<|aP (aJ<|pv 0)<|aP (bT b8 (pv 1) aI)<|aj<|bT b8 (pv 1) aI),?_⟩;have f:=(eC f).2;refine jV (cT (tK T W h.o) λl d=>cT (lq (n:=0) (z:=i) f L d W bq) λj v=>cT (lq (n:=1) (z:=g) f L (d.trans v) W bq) λ_ _=>iO) λl d=>?_;have a:=h.same d;have w:=k.same d;refine⟨λx=>ρ x=1,t,i,g,s.genera,L,a.gn,λj q y A B m=>?_⟩;have c:KR (λx=>ρ x=1/\1≠0) l j:=λx o e n=>y x o e λz=>n ⟨z,aB⟩;have p:bZ s (.turn i g)=({s with genera:=(match cJ s.genera i with
  |none=>s.genera
  |some x=>if gT g=ax then s.genera else s.genera.set i.toNat {x with gender:=g.toNat})},(bZ s<|.turn i g).2)/\shown (bZ s<|.turn i g).2=(match cJ s.genera i with
  |none=>[-1]
  |some x=>if gT g=ax then[-2] else[(x.gender:Int)]):=by
  unfold bZ;dsimp only;cases cJ s.genera i with
  |none=>exact⟨L,L⟩
  |some x=>
   dsimp only;by_cases b:gT g=ax
   ·rw[aA b,aA b,aA b];exact⟨L,L⟩
   ·rw[ak b,ak b,ak b];exact⟨L,L⟩
 obtain⟨⟨as,C,_⟩,_⟩:=id m;refine w j _ q (rm<|iu c) ?_ A (by rw[p.2];exact B);rw[p.1];exact a.out (a.at c) (nn (eC C).2) (m.same GS) (a.mG (iu c) aB) (a.wj (iu c) aB)<|a.wk (iu c) aB
def adV:T.bb T.NT 13 (gO cs 14):=T.NT.aU<|bN λah aq au nd hL r h=>by
 obtain⟨ρ,Z,av,pn,pt,s,ns,ts,ay,rfl,⟨⟨dx,i,pe,t,pd,j,h⟩,u,v,hn,w,y,zn,ae⟩,k⟩:=h;cases u with|yS l=>?_
 refine⟨_,(aC<|aK<|aO (adl T) r<|aP (aJ<|pv 0)<|aj<|bT b8 (pv 2) aI),?_⟩;obtain⟨b,A,B,C⟩:=rn (K:=K) (n:=0) (x:=l) w L;refine jV (cT (Fl T W h.o) λn d=>cT (C d W bq) λ_ _=>iO) λn d=>?_;have a:=h.same d;have D:=k.same d;have ag:=y l<|ja.mpr L;have E:∀x,j x->ρ x=3:=by obtain⟨MH,_,_,_,_,_,_,f⟩:=a.pp;exactλx m=>(f.al x m).1
 refine⟨λx=>ρ x=3,j,t,b,s.paper,l,L,a.pp,d _ _ B,(λz=>absurd ((v b A).1.symm.trans z) aB),aG,λg M' q H I M N Q=>?_⟩;have c:KR (λx=>ρ x=3/\3≠0) n g:=λx o e aa=>H x o e λz=>aa ⟨E x z,aB⟩;have p:g i≠ai:=λz=>a.al i (by rw[a.rg];decide)<|I _ z;exact D g _ q (rm<|iu c) (a.out (a.at c) p (a.wg (iu c) aB) (a.mG (iu c) aB) (M.keep (λ_ _ _ e=>e) λx ab e=>Sn x ab e)<|a.wk (iu c) aB) N Q
def adW:T.bb T.NU 13 (gO cs 15):=T.NU.aU<|cW ["desk","numbers","texts","answer"] λH au av N hL w h=>by
 obtain⟨ρ,Z,a,pn,pt,s,ns,ts,ay,rfl,⟨⟨Q,j,pe,pp,pd,y,h⟩,ar,hz,hn,ht,sz,zn,ah⟩,aa⟩:=h;cases ar with|yT=>?_
 refine⟨_,(aD (cw 3 N<|aO (adn T) w<|aj<|aJ<|pv 0)<|aD (bP (pv 0) (oj (xW T) T.NZ w) L)<|aC<|aK<|pv 3),?_⟩;have al:∀x,y x->ρ x=3:=by obtain⟨MH,_,_,_,_,_,_,ab⟩:=h.pp;exactλx ae=>(ab.al x ae).1
 refine iP<|Fl T W h.o _ λH1 b=>⟨λx=>ρ x=3,y,pp,s.paper,L,h.pp.same b,λk q kr dm l hq=>?_⟩;have d:KR (λx=>ρ x=3/\3≠0) H k:=λx o e n=>kr x o (b _ _ e) λz=>n ⟨al x z,aB⟩;have v:Dm H k:=(Dm.of b).trans dm;refine l7<|RP λH3 p M' A B hp=>?_;have o3:=A _ _ (h.at d);refine Zr T aQ aR o3 λC m=>?_;refine G.ret W λc g=>?_;have t:Kt a k c:=(bE A).trans<|(Kt.put<|bE m).trans<|bE g;have u:=g _ _ (ba (H:=C) (a:=a) (o:=HO.ins cs.fE Q<|gL (.ref j) (.ref pe) (.ref p)<|.ref pd));have E:Dm H c:=v.trans<|Dm.kt t u;have f:KR (nj ρ a 3) H c:=λx o e n=>t x o (d x o e λz=>n<|.inl z) λz=>n<|.inr z;have I:c j≠ai:=λz=>h.al j (by rw[h.rg];decide)<|E _ z;have M:q≠a:=λz=>by subst z;rw[b _ _ h.o] at l;cases l
 have aq:p≠a:=λz=>by subst z;rw[h.at d] at B;cases B
 have D:bZ s .last=({s with paper:={}},(bZ s .last).2)/\shown (bZ s .last).2=if s.paper.part=[] then[0] else 1::sk (ib s.paper).2:=by
  unfold bZ;dsimp only;by_cases i:s.paper.part=[]
  ·rw[aA i,aA i];exact⟨L,L⟩
  ·rw[ak i,ak i];exact⟨L,by simp[r8]⟩
 refine aa c _ q (rm f) ?_ (b.free l) (by rw[D.2];exact t _ _ hq M);rw[D.1];refine h.out (qp:=p) u I (h.wg f aB) (h.mG f aB) (hp.keep (M:=M') (λx o r e=>?_) λx r e=>?_)<|h.wk f aB
 ·have:x≠a:=λz=>by subst z;rw[h.at d] at r;cases r
  exact g _ _ (by rw[aX this];exact m _ _ e)
 ·have hx:H x=ai:=v x r;refine B6 hx λz=>?_;have xa:x≠a:=λag=>by subst ag;rw[u] at z;cases z
  obtain⟨o,e⟩:=lD.mp e;have:=g _ _ (show upd C a _ x=O o by rw[aX xa];exact m _ _ e);rw[z] at this;cases this
def adX:T.bb T.NX 5 (gO cs 18):=T.NX.aU<|cW ["desk","numbers","texts","told"] λH av ay B hL C h=>by
 obtain⟨ρ,Z,a,pn,pt,aa,ns,ts,az,rfl,⟨⟨s,d,t,u,pd,MP,h⟩,D,hz,hn,ht,sz,zn,ah⟩,ab⟩:=h;cases D with|yW=>?_
 refine⟨_,(aD (cw 3 B<|aJ<|aJ<|pv 0)<|aD (bP (pv 0) (oj (xX T) T.N0 C) L)<|aC<|aK<|bQ<|aj<|pv 3),?_⟩;obtain⟨MH,m1,m2,m3,m4,m5,aq,ph,w,au⟩:=id h.dr;refine G.eB (OI T (OL T W h.o) w) λH1 g=>?_;refine l7<|RJ λH3 p E np I=>?_;have m:=g.trans E;refine Zu T aQ aR (m _ _ h.o) λi j=>?_;have n:Kt a H (upd i a<|HO.ins cs.fE s<|gL (.ref d) (.ref t) (.ref u)<|.ref p):=Kt.put<|bE<|m.trans j;refine aL.ret (eW W) λb q f k M=>?_;have v:Kt a H b:=n.trans<|bE f;have l:=f _ _ (ba (H:=i) (a:=a) (o:=HO.ins cs.fE s<|gL (.ref d) (.ref t) (.ref u)<|.ref p));have y:Dm H b:=Dm.kt v l;have c:KR (nj ρ a 4) H b:=λx o e ae=>v x o e λz=>ae<|.inr z;have A:b d≠ai:=λz=>h.al d (by rw[h.rg];decide)<|y _ z;have N:H q=ai:=n.free k λz=>by subst z;rw[ba] at k;cases k
 refine ab b _ q (rm c) (h.out (s':={aa with written:=[]}) (qd:=p) l A (h.wg c aB) (h.mG c aB) (h.wj c aB)<|jq.keep (told:=0) (hs:=[]) I (λx o r e=>?_) λx r e=>?_) N M
 ·have:x≠a:=λz=>by subst z;rw[g _ _ h.o] at r;cases r
  exact f _ _ (by rw[aX this];exact j _ _ e)
 ·have Q:H x=ai:=g.free r;refine B6 Q λz=>?_;have xa:x≠a:=λag=>by subst ag;rw[l] at z;cases z
  obtain⟨o,e⟩:=lD.mp e;have:=f _ _ (show upd i a _ x=O o by rw[aX xa];exact j _ _ e);rw[z] at this;cases this
def B7(s:eI)(i g:Int):(bZ s<|.form i g).1=s/\shown (bZ s<|.form i g).2=match cJ s.epithets i with
 |none=>[-1]
 |some x=>if gT g=ax then[-2] else 0::fm (agA x g.toNat):=by
 unfold bZ;dsimp only;cases cJ s.epithets i with
 |none=>exact⟨L,L⟩
 |some x=>dsimp only;split<;>exact⟨L,L⟩
def B8(s:eI)(i j g:Int):(bZ s<|.alike i j g).1=s/\shown (bZ s<|.alike i j g).2=match cJ s.epithets i with
 |none=>[-1]
 |some x=>match cJ s.epithets j with
  |none=>[-2]
  |some y=>if gT g=ax then[-3] else[if rZ x y g.toNat=Y then 1 else 0]:=by
 unfold bZ;dsimp only;cases cJ s.epithets i with
 |none=>exact⟨L,L⟩
 |some x=>
  dsimp only;cases cJ s.epithets j with
  |none=>exact⟨L,L⟩
  |some y=>dsimp only;split<;>exact⟨L,L⟩
def B9(s:eI)(i g:Int):(bZ s<|.family i g).1=s/\shown (bZ s<|.family i g).2=match cJ s.genera i with
 |none=>[-1]
 |some x=>if mF g 0 4=ax then[-2] else 0::fm (Vbnlab.familyOf x g.toNat):=by
 unfold bZ;dsimp only;cases cJ s.genera i with
 |none=>exact⟨L,L⟩
 |some x=>dsimp only;split<;>exact⟨L,L⟩
def Ca(s:eI)(l:S):(bZ s<|.fold l).1=s/\shown (bZ s<|.fold l).2=if foldable l=Y then 0::fm (dq l) else[-1]:=by
 have e:foldable l=(l.all λb=>agB b||b==45):=rfl;rw[e];unfold bZ;dsimp only;cases(l.all λb=>agB b||b==45)
 ·exact⟨L,L⟩
 ·exact⟨L,L⟩
def Cb(s:eI)(g:Int):(bZ s<|.classes g).1=s/\shown (bZ s<|.classes g).2=if gT g=ax then[-1] else(s.epithets.length:Int)::s.epithets.map λe=>(uR s.epithets e g.toNat:Int):=by
 unfold bZ;dsimp only;split
 ·exact⟨L,L⟩
 ·refine⟨L,?_⟩;show(((s.epithets.map _).length:Nat):Int)::_=_;rw[bH]
def Cc(s:eI)(l:S):(bZ s<|.read l).1=s/\shown (bZ s<|.read l).2=match mB l with
 |.inl i=>[-1-(i:Int)]
 |.inr n=>0::qr n:=by
 unfold bZ;dsimp only;cases mB l<;>exact⟨L,L⟩
def Cd(s:eI)(n:bJ):(bZ s<|.write n).1=s/\shown (bZ s<|.write n).2=if nJ n=Y then 0::fm (hZ n) else[-1]:=by
 unfold bZ;dsimp only;split<;>exact⟨L,L⟩
def Ce(s:eI)(c:Ct):(bZ s<|.cite c.g c.sub c.e1 c.e2 c.first c.year c.etal c.authors).1=s/\shown (bZ s<|.cite c.g c.sub c.e1 c.e2 c.first c.year c.etal c.authors).2=match kX s c with
 |.inl z=>[z]
 |.inr n=>0::fm (hZ n):=by
 unfold bZ kX;dsimp only;cases Df s c.g c.sub c.e1 c.e2 c.first c.year c.etal c.authors<;>exact⟨L,L⟩
def Cf(s:eI)(l:S):(bZ s<|.who l).1=s/\shown (bZ s<|.who l).2=match lC s l with
 |.inl c=>[c]
 |.inr (n,i,g)=>BY s n i g:=by
 unfold bZ;dsimp only;cases lC s l with
 |inl c=>exact⟨L,L⟩
 |inr x=>obtain⟨n,i,g⟩:=x;exact⟨L,L⟩
def Cg(s:eI)(l:S):(bZ s<|.mend l).1=s/\shown (bZ s<|.mend l).2=match lC s l with
 |.inl c=>[c]
 |.inr (n,i,g)=>yJ s n i g:=by
 unfold bZ;dsimp only;cases lC s l with
 |inl c=>exact⟨L,L⟩
 |inr x=>obtain⟨n,i,g⟩:=x;exact⟨L,L⟩
def GU(s:eI)(n:bJ):(bZ s<|.tell n).1.genera=s.genera/\(bZ s<|.tell n).1.epithets=s.epithets/\(bZ s<|.tell n).1.paper=s.paper/\
  ((jE s.written.length (ej s.written) n).2.1=(bZ s<|.tell n).1.written.length/\(jE s.written.length (ej s.written) n).2.2=ej (bZ s<|.tell n).1.written)/\shown (bZ s<|.tell n).2=(jE s.written.length (ej s.written) n).1:=by
 by_cases a:(n.abbr==0&&nJ n)=ax
 ·have e:bZ s (.tell n)=(s,.number<|-1):=aA a;have t:jE s.written.length (ej s.written) n=([-1],s.written.length,ej s.written):=aA a;rw[e,t];exact⟨L,L,L,⟨L,L⟩,L⟩
 ·by_cases b:300<=s.written.length
  ·have e:bZ s (.tell n)=(s,.number<|-2):=(ak a).trans<|aA b;have t:jE s.written.length (ej s.written) n=([-2],s.written.length,ej s.written):=(ak a).trans<|aA b;rw[e,t];exact⟨L,L,L,⟨L,L⟩,L⟩
  ·have e:bZ s (.tell n)=({s with written:=s.written++[n]},.text<|hZ<|Ut s.written n):=(ak a).trans<|ak b;have t:jE s.written.length (ej s.written) n=(0::fm (hZ<|iQ (ej s.written) n),s.written.length+1,lh (ej s.written) n.head):=(ak a).trans<|ak b;rw[e,t,acU];refine⟨L,L,L,⟨?_,(RM _ _).symm⟩,L⟩;show _=(s.written++[n]).length;rw[aV];rfl
def adY(h:G t U H v)(k:∀a,J H a->u U a λy b=>sp [v,y] b D.rt E):o8 (cA sp [] E<|aN t<|aN u aW) D U H:=h _ k
def adZ:T.bb T.NH 3 (gO cs 2):=T.NH.aU<|bN λH Q E o p e h=>by
 obtain⟨ρ,Z,a,q,r,s,t,u,c,rfl,⟨⟨v,w,f,x,y,z,h⟩,j,A,d,B,C,D,n⟩,k⟩:=h;cases j with|c2 i g=>?_
 refine⟨_,(aC<|aK<|aO (aaE T) e<|aP (aJ<|pv 0)<|aP (bT b8 (pv 1) aI)<|aj<|bT b8 (pv 1) aI),?_⟩;have d:=(eC d).2;refine jV (cT (tL T W h.o) λl b=>cT (lq (n:=0) (z:=i) d L b W bq) λI m=>cT (lq (n:=1) (z:=g) d L (b.trans m) W bq) λ_ _=>iO) λl b=>?_;exact⟨f,s.epithets,i,g,L,(h.ep.same gM).same b,(k.same b).pure (h.same b) (B7 s i g).1 (B7 s i g).2⟩
def ad0:T.bb T.NJ 3 (gO cs 4):=T.NJ.aU<|bN λH Q E p q e h=>by
 obtain⟨ρ,Z,a,r,t,s,u,v,aa,rfl,⟨⟨w,x,f,y,z,A,h⟩,l,B,c,C,D,I,o⟩,k⟩:=h;cases l with|c4 i j g=>?_
 refine⟨_,(aC<|aK<|aO (aaG T) e<|aP (aJ<|pv 0)<|aP (bT b8 (pv 1) aI)<|aP (bT b8 (pv 1) aI)<|aj<|bT b8 (pv 1) aI),?_⟩;have c:=(eC c).2;refine jV (cT (tL T W h.o) λm b=>cT (lq (n:=0) (z:=i) c L b W bq) λM d=>cT (lq (n:=1) (z:=j) c L (b.trans d) W bq) λN n=>cT (lq (n:=2) (z:=g) c L (b.trans<|d.trans n) W bq) λ_ _=>iO) λm b=>?_;exact⟨f,s.epithets,i,j,g,L,(h.ep.same gM).same b,(k.same b).pure (h.same b) (B8 s i j g).1 (B8 s i j g).2⟩
def ad1:T.bb T.NK 3 (gO cs 5):=T.NK.aU<|bN λH Q E m n e h=>by
 obtain⟨ρ,Z,a,o,p,s,q,r,c,rfl,⟨⟨t,u,f,v,w,x,h⟩,i,y,d,z,A,B,l⟩,k⟩:=h;cases i with|c5 g=>?_
 refine⟨_,(aC<|aK<|aO (aaV T) e<|aP (aJ<|pv 0)<|aj<|bT b8 (pv 1) aI),?_⟩;have d:=(eC d).2;refine jV (cT (tL T W h.o) λj b=>cT (lq (n:=0) (z:=g) d L b W bq) λ_ _=>iO) λj b=>?_;exact⟨f,s.epithets,g,L,(h.ep.same gM).same b,(k.same b).pure (h.same b) (Cb s g).1 (Cb s g).2⟩
def ad2:T.bb T.NL 4 (gO cs 6):=T.NL.aU<|bN λH Q E o p e h=>by
 obtain⟨ρ,Z,a,q,r,s,t,u,c,rfl,⟨⟨v,f,w,x,y,z,h⟩,j,A,d,B,C,D,n⟩,k⟩:=h;cases j with|c6 i g=>?_
 refine⟨_,(aC<|aK<|aO (aa3 T) e<|aP (aJ<|pv 0)<|aP (bT b8 (pv 1) aI)<|aj<|bT b8 (pv 1) aI),?_⟩;have d:=(eC d).2;refine jV (cT (tK T W h.o) λl b=>cT (lq (n:=0) (z:=i) d L b W bq) λI m=>cT (lq (n:=1) (z:=g) d L (b.trans m) W bq) λ_ _=>iO) λl b=>?_;exact⟨f,s.genera,i,g,L,(h.gn.same gM).same b,(k.same b).pure (h.same b) (B9 s i g).1 (B9 s i g).2⟩
def ad3:T.bb T.NI 4 (gO cs 3):=T.NI.aU<|bN λH Q E o p e h=>by
 obtain⟨ρ,Z,a,q,r,s,t,u,c,rfl,⟨⟨v,w,x,y,z,A,h⟩,f,B,C,g,i,D,n⟩,k⟩:=h;cases f with|c3 l=>?_
 refine⟨_,(aC<|aK<|aO (aan T) e<|aj<|bT b8 (pv 2) aI),?_⟩;obtain⟨b,I,j,m⟩:=rn (K:=K) (n:=0) (x:=l) g L;refine jV (cT (m J.rf W bq) λ_ _=>iO) λM d=>?_;exact⟨b,l,L,d _ _ j,by have:=i l<|ja.mpr L;omega,(k.same d).pure (h.same d) (Ca s l).1 (Ca s l).2⟩
def ad4:T.bb T.NM 4 (gO cs 7):=T.NM.aU<|bN λH Q E p q e h=>by
 obtain⟨ρ,Z,a,r,t,s,u,v,c,rfl,⟨⟨w,f,x,y,z,A,h⟩,g,B,C,i,D,I,o⟩,k⟩:=h;cases g with|c7 l=>?_
 refine⟨_,(aC<|aK<|aO (aba T) e<|aP (aJ<|pv 0)<|aj<|bT b8 (pv 2) aI),?_⟩;obtain⟨b,M,j,m⟩:=rn (K:=K) (n:=0) (x:=l) i L;refine jV (cT (tK T W h.o) λn d=>cT (m d W bq) λ_ _=>iO) λn d=>?_;exact⟨f,b,s.genera,l,L,(h.gn.same gM).same d,d _ _ j,(k.same d).pure (h.same d) L L⟩
def ad5:T.bb T.NO 12 (gO cs 9):=T.NO.aU<|bN λH Q E n o e h=>by
 obtain⟨ρ,Z,a,p,q,s,r,t,c,rfl,⟨⟨u,v,w,x,y,z,h⟩,f,A,B,g,C,D,m⟩,k⟩:=h;cases f with|c9 l=>?_
 refine⟨_,(aC<|aK<|aO (ach T) e<|aj<|bT b8 (pv 2) aI),?_⟩;obtain⟨b,I,i,j⟩:=rn (K:=K) (n:=0) (x:=l) g L;refine jV (cT (j J.rf W bq) λ_ _=>iO) λM d=>?_;exact⟨b,l,L,d _ _ i,(k.same d).pure (h.same d) (Cc s l).1 (Cc s l).2⟩
def ad6:T.bb T.NP 9 (gO cs 10):=T.NP.aU<|bN λaa ab ae q r c h=>by
 obtain⟨ρ,Z,ag,f,g,s,t,u,ah,rfl,⟨⟨v,w,y,z,A,B,h⟩,i,C,b,j,a,l,p⟩,k⟩:=h;cases i with|ue n=>?_
 refine⟨_,(aC<|aK<|aO (Z5 T) c<|aj<|aO (FH T) c<|aP (pv 1)<|aj<|pv 2),?_⟩;have b:=(eC b).2;rw[aV] at l;have D:=yZ (ls:=n.authors) λx m=>a x<|mr _ m;have E:=a n.head aT;have H:=a n.sub aT;have I:=a n.e1 aT;have M:=a n.e2 aT;refine⟨_,L,_,L,f,g,n,L,b,j.same gM,λN o Q d _ _ e=>?_⟩;exact⟨o,n,L,e.a,⟨aG,aG,aG,aG,aG⟩,(k.same d).pure (h.same d) (Cd s n).1 (Cd s n).2⟩
def ad7:T.bb T.NQ 9 (gO cs 11):=T.NQ.aU<|bN λH Q E p q e h=>by
 obtain⟨ρ,Z,a,f,g,s,r,t,c,rfl,⟨⟨u,i,j,v,w,x,h⟩,l,y,d,m,z,A,o⟩,k⟩:=h;cases l with|uf c=>?_
 refine⟨_,(aC<|aK<|aO (abp T) e<|aP (aJ<|pv 0)<|aP (aJ<|pv 0)<|aP (pv 1)<|aj<|pv 2),?_⟩;have d:=(eC d).2;refine jV (cT (tK T W h.o) λn b=>cT (tL T W<|b _ _ h.o) λ_ _=>cT W λ_ _=>cT W λ_ _=>iO) λn b=>?_;exact⟨i,j,f,g,s,c,L,(h.gn.same gM).same b,(h.ep.same gM).same b,b _ _ d,(m.same gM).same b,(k.same b).pure (h.same b) (Ce s c).1 (Ce s c).2⟩
def ad8:T.bb T.NR 14 (gO cs 12):=T.NR.aU<|bN λH Q E q r d h=>by
 obtain⟨ρ,Z,a,t,u,s,v,w,aa,rfl,⟨⟨x,e,f,y,z,A,h⟩,g,B,C,i,D,I,p⟩,k⟩:=h;cases g with|ug l=>?_
 refine⟨_,(aC<|aK<|aO (acH T) d<|aP (aJ<|pv 0)<|aP (aJ<|pv 0)<|aj<|bT b8 (pv 2) aI),?_⟩;obtain⟨b,M,j,m⟩:=rn (K:=K) (n:=0) (x:=l) i L;refine jV (cT (tK T W h.o) λn c=>cT (tL T W<|c _ _ h.o) λN o=>cT (m (c.trans o) W bq) λ_ _=>iO) λn c=>?_;exact⟨e,f,b,s,l,L,(h.gn.same gM).same c,(h.ep.same gM).same c,c _ _ j,(k.same c).pure (h.same c) (Cf s l).1 (Cf s l).2⟩
def ad9:T.bb T.NS 14 (gO cs 13):=T.NS.aU<|bN λH Q E q r d h=>by
 obtain⟨ρ,Z,a,t,u,s,v,w,aa,rfl,⟨⟨x,e,f,y,z,A,h⟩,g,B,C,i,D,I,p⟩,k⟩:=h;cases g with|yR l=>?_
 refine⟨_,(aC<|aK<|aO (acI T) d<|aP (aJ<|pv 0)<|aP (aJ<|pv 0)<|aj<|bT b8 (pv 2) aI),?_⟩;obtain⟨b,M,j,m⟩:=rn (K:=K) (n:=0) (x:=l) i L;refine jV (cT (tK T W h.o) λn c=>cT (tL T W<|c _ _ h.o) λN o=>cT (m (c.trans o) W bq) λ_ _=>iO) λn c=>?_;exact⟨e,f,b,s,l,L,(h.gn.same gM).same c,(h.ep.same gM).same c,c _ _ j,(k.same c).pure (h.same c) (Cg s l).1 (Cg s l).2⟩
def aea:T.bb T.NV 6 (gO cs 16):=T.NV.aU<|bN λH Q E j l d h=>by
 obtain⟨ρ,Z,a,m,n,s,o,p,c,rfl,⟨⟨q,r,t,e,u,f,h⟩,g,v,w,x,y,z,i⟩,k⟩:=h;cases g with|yU=>?_
 refine⟨_,(aC<|aK<|aO (adH T) d<|aj<|aJ<|pv 0),?_⟩;refine jV (cT (Fl T W h.o) λ_ _=>iO) λA b=>?_;exact⟨_,f,e,s.paper,L,h.pp.same b,(k.same b).pure (h.same b) L L⟩
def aeb:T.bb T.NW 9 (gO cs 17):=T.NW.aU<|bN λH ab av nd hL v h=>by
 obtain⟨ρ,Z,a,pn,pt,s,ns,ts,ay,rfl,⟨⟨dx,m,pe,pp,w,y,h⟩,ar,o,hn,ht,d,zn,aq⟩,ae⟩:=h;cases ar with|yV n=>?_
 refine⟨_,(aC<|aK<|aO (ac0 T) v<|aP (aJ<|pv 0)<|aj<|aO (kM.fr<|FH T) v<|aP (pv 1)<|aj<|pv 2),?_⟩;rw[aV] at zn;have za:=yZ (ls:=n.authors) λx hx=>d x<|mr _ hx;have z1:=d n.head aT;have z2:=d n.sub aT;have z3:=d n.e1 aT;have z4:=d n.e2 aT;refine adY (OL T W h.o) λj k=>?_;refine⟨_,L,_,L,?_⟩;let N:af->Prop:=λb=>Z b∨j b=ai;have u:J (HR Z H) (HR N j):=yX k λ_ z=>.inl z;refine⟨λb=>¬N b,pn,pt,n,L,yM _ _ (u _ _ hn) trivial,yM.yt<|ht.same u,λA B au C _ _ I hm=>?_⟩;have t:cy cs (HR N<|Re (λb=>¬N b) j A) B n:=(GJ (λb e=>.inr e) C hm).name I.a;have D:=B1 C;generalize Re (λb=>¬N b) j A=H3 at t D;have f:=k.trans D;have ρN:∀b,N b->ρ b=0:=λb p=>p.elim (λz=>(o b z).1) λz=>rX λr=>h.al b r<|k.free z;let ρ1:af->Nat:=λb=>@ite _ (Z b/\H b≠ai) (zD _) 4 (ρ b);have hρ1:∀b,ρ b≠0->ρ1 b=ρ b:=λb r=>ak λz=>r (o b z.1).1;have g:Dk cs ρ1 H a s dx m pe pp w y:=h.yY hρ1 (λb r=>by
  by_cases z:Z b/\H b≠ai
  ·exact z.2
  ·exact h.al b<|λq=>r<|(ak z).trans q)<|(ak λz=>(o a z.1).2 L).trans h.ra
 have k1:oM cs ρ1 Z H a s (.tell n) ab:=ae.yY λb r nz=>(ak λz=>nz z.1).trans r;refine⟨λb=>ρ b=4,N,w,B,_,_,n,L,h.dr.same f,t,(λb p z=>absurd ((ρN b p).symm.trans z) aB),⟨aG,aG,aG,aG,aG,aG⟩,λl q kr dm nq hq M=>?_⟩;have c:KR (λx=>ρ1 x=4/\4≠0) H l:=λx ag e ah=>kr x ag (f _ _ e) λz=>ah ⟨by rw[hρ1 x (by rw[z];decide)];exact z,aB⟩;have Q:Dm H l:=(Dm.of f).trans dm;have aa:l m≠ai:=λz=>h.al m (by rw[h.rg];decide)<|Q _ z;obtain⟨e1,e2,e3,E,e5⟩:=GU s n;refine k1 l _ q (rm<|iu c) (g.out (MP':=y) (g.at c) aa ?_ ?_ ?_ ?_) (f.free nq) (by rw[e5];exact hq)
 ·rw[e1];exact g.wg (iu c) aB
 ·rw[e2];exact g.mG (iu c) aB
 ·rw[e3];exact g.wj (iu c) aB
 ·rw[<-E.1,<-E.2];refine M.keep (λ_ _ _ e=>e) λb r e=>?_;by_cases i:H b=ai
  ·exact B6 i e
  ·rw[we i e];rcases r with(r|r|r)|r
   ·rw[hρ1 b (by rw[r];decide)];exact r
   ·exact aA ⟨r,i⟩
   ·exact absurd (k.free r) i
   ·exact absurd (f.free r) i
structure Sd(s:eI):Prop where
 gg:∀g∈s.genera,GoodG g
 g2:s.genera.length<=200
 ee:∀e∈s.epithets,jb e=Y
 e2:s.epithets.length<=200
 pn:∀n∈eQ s.paper,Nm.Good n
 p3:s.paper.names.length<=300
def kl.sd(h:kl cs ρ H a s):Sd s:=by
 obtain⟨b,c,d,e,g,i,h⟩:=h;obtain⟨j,_,_,_,_,_,_,f⟩:=h.pp;exact⟨h.gn.good,h.gn.most,h.ep.good,h.ep.most,f.good,f.z⟩
def jW(a:List S):Nat:=(a.map fZ).sum
def uh(l:List Nat):(fm l).length=l.length:=bH ..
def Ci(ok:fO n):(hZ n).length<=n.head.length+n.sub.length+n.e1.length+n.e2.length+dF n.authors+100:=by
 have d:(mE n).length<=n.head.length+n.sub.length+n.e1.length+n.e2.length+30:=by
  have b:=Bi (n:=n);have c:=Bf (n:=n);have e:=Be ok.num;have f:=Bg ok.q1;have g:=Bh ok.q2;rw[entry_eq];simp only[aV];omega
 rw[Bj];split
 ·omega
 ·rename_i a;have b:=Fu n.authors;have c:=tO<|ok.year a;rw[aV];have:(pR n).length<=dF n.authors+50:=by
   unfold pR pO;rw[aV,show(aH " ").length=1 from by decide];split
   ·simp only[aV,show(aH "(").length=1 from by decide,show(aH ")").length=1 from by decide,show(aH ", ").length=2 from by decide];split
    ·rw[show(aH " et al.").length=7 from by decide];omega
    ·rw[ly];omega
   ·simp only[aV,show(aH ", ").length=2 from by decide];split
    ·rw[show(aH " et al.").length=7 from by decide];omega
    ·rw[ly];omega
  omega
def GV(ls:List S):dF ls=jW ls+4*ls.length:=rfl
def So(l:List α)(p:α->Bool):(Dc l p).length<=l.length:=by
 unfold Dc;have:=oQ (λi=>(l[i]?).any p)<|rE l.length;rw[Dd] at this;exact this
def nv(l:List (S×List Nat)):Nat:=(l.flatMap λx=>gS x.1++gS x.2).length
def wm(x:S×List Nat)(l:List (S×List Nat)):nv (x::l)=x.1.length+x.2.length+2+nv l:=by
 unfold nv;rw[qm,aV,aV,l9,l9];omega
def Sq(w:S)(n:Nat):∀l:List (S×List Nat),nv (i9 w n l)<=nv l+w.length+3/\(i9 w n l).length<=l.length+1
 |[]=>by
  unfold i9;rw[wm];exact⟨by show w.length+1+2+nv []<=nv []+w.length+3;omega,bG _⟩
 |x::l=>by
  obtain⟨a,b⟩:=Sq w n l;unfold i9;split
  ·rw[wm,wm];refine⟨?_,S9 _⟩;show x.1.length+(x.2++[n]).length+2+_<=_;rw[aV,gR];omega
  ·split
   ·rw[wm];exact⟨by show w.length+1+2+_<=_;omega,bG _⟩
   ·rw[wm,wm,bV,bV];omega
def aec(p:gW)(c:∀n∈eQ p,Nm.Good n)(hz:p.names.length<=300):(shown<|.entries<|zC p).length<=65000:=by
 have b:∀(a:List (Nat×bJ))(l:List (S×List Nat)),(∀x∈a,Nm.Good x.2)->nv (a.foldl (λl x=>i9 (mE x.2) x.1 l) l)<=nv l+193*a.length:=by
  intro a;induction a with
  |nil=>intro l _;exact bG _
  |cons x a d=>
   intro l h;have i:=d (i9 (mE x.2) x.1 l) λy e=>h y<|dS _ e;have j:=(Sq (mE x.2) x.1 l).1;have g:=h x<|dY ..;have k:=Bi (n:=x.2);have m:=Bf (n:=x.2);have o:=Be g.num.2;have q:=Bg g.q1;have r:=Bh g.q2;have:=g.head.2;have:=g.sub;have:=g.e1;have:=g.e2;have:(mE x.2).length<=190:=by
    rw[entry_eq];simp only[aV];omega
   rw[TX,bV];omega
 have:=b p.names [] λx f=>c _ (zx f);show nv (zC p)+1<=65000;have s:nv []=0:=rfl;unfold zC;omega
def Cj:∀(t:S)(p:gW),(∀n∈eQ p,Nm.Good n)->(outs (dM p t).2).length<=501*t.length/\(dM p t).1.part.length<=p.part.length+t.length
 |[],p,_=>⟨bG _,bG _⟩
 |b::r,p,c=>by
  unfold dM;split
  ·have lo:=B3 p c;have a:=Cj r (ib p).1 lo.2.2.2;rw[lo.2.2.1] at a;refine⟨?_,?_⟩
   ·show(outs<|(ib p).2::(dM (ib p).1 r).2).length<=_;unfold outs at a⊢;rw[qm,aV,bV];have:=lo.1;omega
   ·show(dM (ib p).1 r).1.part.length<=_;have:=a.2;rw[ly] at this;rw[bV];omega
  ·have a:=Cj r {p with part:=p.part++[b]} c;have e:({p with part:=p.part++[b]}:gW).part.length=p.part.length+1:=by show(p.part++[b]).length=_;rw[aV,gR]
   rw[e] at a;rw[bV];exact⟨by have:=a.1;omega,by have:=a.2;omega⟩
def aed(h:¬gT g=ax):g.toNat<3:=by
 rw[Ux] at h;unfold gT mF at h;rw[bL,bO,bO] at h;omega
def aee(h:¬mF g 0 4=ax):g.toNat<5:=by
 rw[Ux] at h;unfold mF at h;rw[bL,bO,bO] at h;omega
def aef(h:Sd s)(ar:Ar i ns u c)(d:∀t∈u,t.length<=4096)(I:u.length<=20):(shown (bZ s c).2).length<=if i=16 then 65000 else 501*jW u+2050:=by
 have a:∀{z:Int}{m:Nat},([z]:List Int).length<=m+2050:=λ{z m}=>by rw[gR];omega
 have M:∀w:S,jW [w]=w.length:=λw=>by unfold jW;simp
 cases ar with
 |c0 g st w=>
  show(shown (gU s g st w).2).length<=501*_+2050;have:∃z,(gU s g st w).2= .number z:=by
   unfold gU;repeat' split
   all_goals exact⟨_,L⟩
  obtain⟨z,e⟩:=this;rw[e];exact a
 |c1 aa w=>
  show(shown (ia s aa w).2).length<=501*_+2050;have:∃z,(ia s aa w).2= .number z:=by
   unfold ia;repeat' split
   all_goals first|exact⟨_,rfl⟩|(dsimp only;(repeat' split)<;>exact⟨_,rfl⟩)
  obtain⟨z,e⟩:=this;rw[e];exact a
 |c2 e g=>
  show _<=501*_+2050;rw[(B7 s e g).2];cases j:cJ s.epithets e with
  |none=>exact a
  |some x=>
   dsimp only;split
   ·exact a
   ·rename_i hg;have:=pV<|lV (h.ee x<|ei (lZ j).1) (g:=g.toNat)<|aed hg;rw[bV,uh];omega
 |c3 w=>
  show _<=501*_+2050;rw[(Ca s w).2,M];split
  ·rename_i v;have:=PK w v;rw[bV,uh];omega
  ·exact a
 |c4 e f g=>
  show _<=501*_+2050;rw[(B8 s e f g).2];cases cJ s.epithets e with
  |none=>exact a
  |some x=>
   dsimp only;cases cJ s.epithets f with
   |none=>exact a
   |some y=>dsimp only;split<;>exact a
 |c5 g=>
  show _<=501*_+2050;rw[(Cb s g).2];split
  ·exact a
  ·rw[bV,bH];have:=h.e2;omega
 |c6 g ab=>
  show _<=501*_+2050;rw[(B9 s g ab).2];cases j:cJ s.genera g with
  |none=>exact a
  |some x=>
   dsimp only;split
   ·exact a
   ·rename_i o;have:=Qj (h.gg x<|ei (lZ j).1) (n:=ab.toNat)<|aee o;rw[bV,uh];omega
 |c7 w=>
  show(((jD s.genera w s.genera.length).length:Int)::mY (jD s.genera w s.genera.length)).length<=501*_+2050;have:=BB s.genera w s.genera.length;rw[bV,BA];have:=h.g2;omega
 |c8 g aE=>
  show _<=501*_+2050;unfold bZ;dsimp only;cases cJ s.genera g with
  |none=>exact a
  |some x=>dsimp only;split<;>exact a
 |c9 w=>
  show _<=501*_+2050;rw[(Cc s w).2];cases o:mB w with
  |inl z=>exact a
  |inr n=>dsimp only;have:=RZ<|vD o;rw[bV];omega
 |ue n=>
  show _<=501*_+2050;rw[(Cd s n).2];split
  ·rename_i A;have z1:=d n.head aT;have z2:=d n.sub aT;have z3:=d n.e1 aT;have z4:=d n.e2 aT;have za:=yZ (ls:=n.authors) λx j=>d x<|mr _ j;rw[aV] at I;have k:=Ci<|fO.Bq A ⟨aG,aG,aG,aG,aG⟩;rw[GV] at k;have B:jW ([n.head,n.sub,n.e1,n.e2]++n.authors)=n.head.length+n.sub.length+n.e1.length+n.e2.length+jW n.authors:=by unfold jW;simp;omega
   rw[bV,uh,B];omega
  ·exact a
 |uf c=>
  show _<=501*_+2050;rw[(Ce s c).2];cases N:kX s c with
  |inl z=>exact a
  |inr n=>
   dsimp only;have ae:=Qt h.gg h.ee N;have k:=Ci ae;obtain⟨x,e,j,aq,ag,av,ay,az,rfl⟩:=F6 N;have C:=h.gg x<|ei (lZ j).1;have Q:=qY C.tx;have l2:=pV<|lV (h.ee e<|ei (lZ ag).1) (g:=x.gender) (by have:=C.gd;omega);have l3:(((cJ s.genera c.sub).map λy=>y.text).getD []).length<=40:=by
    cases D:cJ s.genera c.sub with
    |none=>simp
    |some y=>exact(qY (h.gg y<|ei (lZ D).1).tx).1
   have l4:(((cJ s.epithets c.e2).map λf=>agA f x.gender).getD []).length<=40:=by
    cases D:cJ s.epithets c.e2 with
    |none=>simp
    |some y=>exact(pV<|lV (h.ee y<|ei (lZ D).1) (g:=x.gender) (by have:=C.gd;omega)).1
   dsimp only at k;rw[GV] at k;rw[bV,uh];omega
 |ug w=>
  show _<=501*_+2050;rw[(Cf s w).2];cases lC s w with
  |inl z=>exact a
  |inr x=>
   obtain⟨n,i,g⟩:=x;have l:∀w g,(HV s w g).length<=200:=λw g=>by
    unfold HV;split
    ·exact dD _
    ·exact eO (So _ _) h.e2
   have nl:∀w g,(HW s w g).length<=200:=λw g=>by
    unfold HW;split
    ·exact dD _
    ·exact eO (So _ _) h.e2
   show(([0,(i:Int),l8 s n.sub]:List Int)++gS _++gS _++gS _++gS _).length<=_;simp only[aV,l9];have:=l n.e1 g.gender;have:=l n.e2 g.gender;have:=nl n.e1 g.gender;have:=nl n.e2 g.gender;show 3+_+_+_+_<=_;omega
 |yR w=>
  show _<=501*_+2050;rw[(Cg s w).2];cases p:lC s w with
  |inl z=>exact a
  |inr x=>
   obtain⟨n,i,g⟩:=x;dsimp only;cases o:mB w with
   |inl z=>unfold lC at p;rw[o] at p;cases p
   |inr m=>
    have b:=vD o;rcases Rl (s:=s) o with⟨_,r⟩|⟨_,i',g',_,ah,r⟩
    ·rw[r] at p;cases p
    ·rw[r] at p;cases p;have gg:=(h.gg g<|ei ah).gd;have Q:=BV (w:=n.e1) h.ee gg b.e1;have l2:(if n.e2=[] then[] else oU s g.gender n.e2).length<=40:=by
      split
      ·exact dD _
      ·exact BV h.ee gg b.e2
     have H:Nm.Good {n with e1:=oU s g.gender n.e1,e2:=if n.e2=[] then[] else oU s g.gender n.e2}:=⟨b.abbr,b.q1,b.q2,b.num,b.year,b.head,b.sub,Q,l2,b.au,b.kP⟩;have k:=Ci<|fO.BS H;have E:=BR H;rw[Bp] at E;have e4:dF [n.head,n.sub,oU s g.gender n.e1,if n.e2=[] then[] else oU s g.gender n.e2]=n.head.length+n.sub.length+(oU s g.gender n.e1).length+(if n.e2=[] then[] else oU s g.gender n.e2).length+16:=by unfold dF;simp;omega
     show(0::fm _:List Int).length<=_;rw[bV,uh];dsimp only at k E;rw[e4] at E;omega
 |yS w=>
  show(((((dM s.paper w).2.length:Nat):Int)::outs (dM s.paper w).2)).length<=501*_+2050;have:=(Cj w s.paper h.pn).1;rw[bV,M];omega
 |yT=>
  show _<=501*_+2050;unfold bZ;dsimp only;split
  ·exact a
  ·have:=(B3 s.paper h.pn).1;show((((1:Nat):Int))::([(ib s.paper).2].flatMap sk)).length<=_;rw[bV,qm,aV];show _+0+1<=_;omega
 |yU=>exact aec s.paper h.pn h.p3
 |yV n=>
  show _<=501*_+2050;rw[(GU s n).2.2.2.2];unfold jE;by_cases q:(n.abbr==0&&nJ n)=ax
  ·rw[aA q];exact a
  ·rw[ak q];split
   ·exact a
   ·have A:nJ n=Y:=by
     rw[Ux,bL] at q;exact q.2
    have z1:=d n.head aT;have z2:=d n.sub aT;have z3:=d n.e1 aT;have z4:=d n.e2 aT;have za:=yZ (ls:=n.authors) λx j=>d x<|mr _ j;rw[aV] at I;have k:=Ci<|RL (hs:=ej s.written)<|fO.Bq A ⟨aG,aG,aG,aG,aG⟩;have l:(iQ (ej s.written) n).head.length<=n.head.length/\(iQ (ej s.written) n).sub=n.sub/\(iQ (ej s.written) n).e1=n.e1/\(iQ (ej s.written) n).e2=n.e2/\(iQ (ej s.written) n).authors=n.authors:=by
     unfold iQ;split
     ·exact⟨bG _,L,L,L,L⟩
     ·cases v:shortest (ej s.written) n.head with
      |none=>exact⟨bG _,L,L,L,L⟩
      |some a0=>
       refine⟨?_,L,L,L,L⟩;have:=HX v;unfold sj at this;obtain⟨a3,_,rfl⟩:=iz.mp this;show(List.take _ _).length<=_;rw[gA];omega
    rw[l.2.1,l.2.2.1,l.2.2.2.1,l.2.2.2.2,GV] at k;have B:jW ([n.head,n.sub,n.e1,n.e2]++n.authors)=n.head.length+n.sub.length+n.e1.length+n.e2.length+jW n.authors:=by unfold jW;simp;omega
    show(0::fm _:List Int).length<=_;rw[bV,uh,B];have:=l.1;omega
 |yW=>exact a
def ui{w:List Int}(h:(w.all (λ(z:Int)=>so z 8)&&decide (w.length<=4096))=Y):(∀z∈w,0<=z)/\w.length<=4096:=by
 rw[bL,bO,qk] at h;refine⟨λz a=>?_,h.2⟩;have:=h.1 z a;unfold so at this;rw[bL,bO] at this;exact this.1
def wo(xs:List (List Int)):Prop:=(∀x∈xs,(∀z∈x,0<=z)/\x.length<=4096)/\xs.length<=20
def rq{w:List Int}(h:(w.all (λ(z:Int)=>so z 8)&&decide (w.length<=4096))=Y):wo [w]:=⟨λx a=>by rw[ja] at a;subst a;exact ui h,by show 1<=20;decide⟩
def rows0:wo []:=⟨λx a=>absurd a (nL),dD _⟩
def aeg{l:List (List Int)}(h:l.all (λ(r:List Int)=>r.all (λ(z:Int)=>so z 8)&&decide (r.length<=4096))=Y)(b:l.length<=16):wo l:=⟨λx a=>ui<|qk.mp h x a,aG⟩
def Sr{h s e1 e2:List Int}{l:List (List Int)}(b:(h.all (λ(z:Int)=>so z 8)&&decide (h.length<=4096))=Y)(c:(s.all (λ(z:Int)=>so z 8)&&decide (s.length<=4096))=Y)(d:(e1.all (λ(z:Int)=>so z 8)&&decide (e1.length<=4096))=Y)
  (e:(e2.all (λ(z:Int)=>so z 8)&&decide (e2.length<=4096))=Y)(g:l.length<=16)(f:l.all (λ(r:List Int)=>r.all (λ(z:Int)=>so z 8)&&decide (r.length<=4096))=Y):wo (h::s::e1::e2::l):=
 ⟨λx a=>by
  simp only[dN] at a;rcases a with rfl|rfl|rfl|rfl|a
  ·exact ui b
  ·exact ui c
  ·exact ui d
  ·exact ui e
  ·exact ui<|qk.mp f x a,by simp only[bV];omega⟩
def Ss(h:Ia c=Y):∃(i:Nat)(u:List Int)(xs:List (List Int))(k:Dq),c=((i:Int)::u)::xs/\ah3 c=O k/\Ar i u (xs.map kD) k/\wo xs:=by
 unfold Ia at h;split at h
 ·rw[bL,bL] at h;exact⟨0,_,_,_,L,L,.c0 _ _ _,rq h.2.2⟩
 ·rw[bL] at h;exact⟨1,_,_,_,L,L,.c1 _ _,rq h.2⟩
 ·exact⟨2,_,[],_,L,L,.c2 _ _,rows0⟩
 ·exact⟨3,_,_,_,L,L,.c3 _,rq h⟩
 ·exact⟨4,_,[],_,L,L,.c4 _ _ _,rows0⟩
 ·exact⟨5,_,[],_,L,L,.c5 _,rows0⟩
 ·exact⟨6,_,[],_,L,L,.c6 _ _,rows0⟩
 ·exact⟨7,_,_,_,L,L,.c7 _,rq h⟩
 ·exact⟨8,_,[],_,L,L,.c8 _ _,rows0⟩
 ·exact⟨9,_,_,_,L,L,.c9 _,rq h⟩
 ·rename_i a f j n p e y m s b d l;simp only[bL (a:=Uy _)] at h;obtain⟨_,_,_,_,_,_,_,h⟩:=h;rw[bL] at h;obtain⟨o,h⟩:=h;rw[bL] at h;obtain⟨q,h⟩:=h;rw[bL] at h;obtain⟨r,h⟩:=h;rw[bL] at h;obtain⟨t,h⟩:=h;rw[bL,bO] at h;exact⟨10,_,_,_,L,L,.ue<|agC a f j n p e y m s b d l,Sr o q r t h.1 h.2⟩
 ·rename_i g sub b d first v w l
  simp only[bL (a:=Uy _)] at h;obtain⟨_,_,_,_,_,_,_,h⟩:=h;rw[bL,bO] at h;exact⟨11,_,_,_,L,L,.uf ⟨g,sub,b,d,first,v,w,l.map kD⟩,aeg h.2 h.1⟩
 ·exact⟨12,_,_,_,L,L,.ug _,rq h⟩
 ·exact⟨13,_,_,_,L,L,.yR _,rq h⟩
 ·exact⟨14,_,_,_,L,L,.yS _,rq h⟩
 ·exact⟨15,[],[],_,L,L,.yT,rows0⟩
 ·exact⟨16,[],[],_,L,L,.yU,rows0⟩
 ·rename_i a f j n p e y m s b d l;simp only[bL (a:=Uy _)] at h;obtain⟨_,_,_,_,_,_,_,h⟩:=h;rw[bL] at h;obtain⟨o,h⟩:=h;rw[bL] at h;obtain⟨q,h⟩:=h;rw[bL] at h;obtain⟨r,h⟩:=h;rw[bL] at h;obtain⟨t,h⟩:=h;rw[bL,bO] at h;exact⟨17,_,_,_,L,L,.yV<|agC a f j n p e y m s b d l,Sr o q r t h.1 h.2⟩
 ·exact⟨18,[],[],_,L,L,.yW,rows0⟩
 ·cases h
def aeh(h:∀z∈r,0<=z):zs r=tx (kD r):=by
 unfold zs tx kD;rw[iB];apply uM;intro z a;have:=h z a;show V.int z=V.int ((z.toNat:Nat):Int);rw[show((z.toNat:Nat):Int)=z by omega]
def aei(h:GR H p xs)(ok:wo xs):cU H p (xs.map kD):=by
 obtain⟨a,e,f⟩:=h;refine oB e ?_;have d:∀{a:List af}{xs:List (List Int)},Paired (λb r=>H b=O (.lst<|zs r)) a xs->(∀x∈xs,∀z∈x,0<=z)->Paired (aY H) a (xs.map kD):=by
  intro a xs g;induction g with
  |nil=>intro _;exact .nil
  |cons x y i=>intro c;exact .cons (by show _=_;rw[<-aeh (c _ (dY ..))];exact x)<|i λu j=>c u<|dS _ j
 exact d f λx c=>(ok.1 x c).1
abbrev xF(s:eI)(c:List (List Int)):eI:=(lF s c).1
def fc(a:List (List<|List Int)):eI:=a.foldl xF Vbnlab.start
def jF(a:List (List<|List Int)):List Int:=agD<|Ib lF agE a
def Su(c:List (List Int)):∀(a:List (List<|List Int))(s:eI),Ib lF s (a++[c])=Ib lF s a++[(lF (a.foldl xF s) c).2]
 |[],s=>rfl
 |d::a,s=>by
  show(lF s d).2::Ib lF (lF s d).1 (a++[c])=_;rw[Su c a];rfl
def Sv(a:List (List<|List Int))(c:List (List Int)):jF (a++[c])=jF a++((lF (fc a) c).2.length:Int)::(lF (fc a) c).2:=by
 unfold jF;rw[Su];unfold agD;rw[qo];simp[fc,agE]
def Sw(a:List (List<|List Int))(c:List (List Int)):fc (a++[c])=xF (fc a) c:=by unfold fc;rw[HN];rfl
def Sx(c:List (List Int)):∀a:List (List<|List Int),fq (a++[c])=fq a++uS c
 |[]=>by show uS c++[]=_;rw[gp];rfl
 |d::a=>by show uS d++fq (a++[c])=_;rw[Sx c a,<-hX];rfl
def GW:∀(a:List (List<|List Int))(i:Nat),fq a=fq (a.take i)++fq (a.drop i)
 |[],i=>by simp[fq]
 |c::a,0=>rfl
 |c::a,i+1=>by
  rw[Dn,rV];show uS c++fq a=(uS c++fq (a.take i))++_;rw[GW a i,hX]
def aej(h:Sd s)(b:Ar i j a c):(bZ s c).1.paper.part.length<=s.paper.part.length+jW a:=by
 have same:∀{x:eI},x=s->x.paper.part.length<=s.paper.part.length+jW a:=λe=>by subst e;omega
 cases b with
 |c0 g st w=>
  have:(gU s g st w).1.paper=s.paper:=by
   unfold gU;repeat' split
   all_goals rfl
  show(gU s g st w).1.paper.part.length<=_;rw[this];omega
 |c1 k w=>
  have:(ia s k w).1.paper=s.paper:=by
   unfold ia;repeat' split
   all_goals first|rfl|(dsimp only;(repeat' split)<;>rfl)
  show(ia s k w).1.paper.part.length<=_;rw[this];omega
 |c2 e g=>exact same (B7 s e g).1
 |c3 w=>exact same (Ca s w).1
 |c4 e f g=>exact same (B8 s e f g).1
 |c5 g=>exact same (Cb s g).1
 |c6 g r=>exact same (B9 s g r).1
 |c7 w=>exact same L
 |c8 g d=>
  have:(bZ s<|.turn g d).1.paper=s.paper:=by
   unfold bZ;dsimp only;cases cJ s.genera g with
   |none=>rfl
   |some x=>dsimp only;split<;>rfl
  rw[this];omega
 |c9 w=>exact same (Cc s w).1
 |ue n=>exact same (Cd s n).1
 |uf c=>exact same (Ce s c).1
 |ug w=>exact same (Cf s w).1
 |yR w=>exact same (Cg s w).1
 |yS w=>
  have:=(Cj w s.paper h.pn).2;show(dM s.paper w).1.part.length<=_;unfold jW;simpa using this
 |yT=>
  have:(bZ s .last).1.paper={}:=by unfold bZ;dsimp only;split<;>rfl
  rw[this];exact dD _
 |yU=>exact same L
 |yV n=>rw[(GU s n).2.2.1];omega
 |yW=>exact zi _ _
def aek(xs:List (List Int)):jW (xs.map kD)+xs.length=ki xs:=by
 induction xs with
 |nil=>rfl
 |cons x xs a=>
  unfold ki jW at*;rw[ud,cM,cM,mD];simp only[bV,aV];have:(kD x).length=x.length:=bH ..;omega
def Sy(cs:Cs):Sp:=λc H Q _=>∃p d,c=[.ref p]/\H p=O (.ins cs.fE d [])/\∀a ρ,Kt p H a->kl cs ρ a p {}->(∀b,H b≠ai->ρ b=0)->Q .bp a
def AM:T.oo T.AM 5 (Sy cs):=T.AM.aU<|bN λH a0 a3 nd hL C au=>by
 obtain⟨p,dx,rfl,D,av⟩:=au;refine⟨_,(aD (bP (pv 0) (bQ gv) L)<|aD (bP (pv 0) (bQ gv) L)<|aD (bP (pv 0) (oj (xW T) T.NZ C) L)<|aC<|bP (pv 0) (oj (xX T) T.N0 C) L),?_⟩;refine mV T.nZ (T.og _ bf) aB D ir aR λH1 f n ng E g I=>?_;refine mV T.nZ (T.og _ bf) (by show 1<1000;decide) I ir aR λd h q s M N t=>?_;have y:=q _ _ g E;refine l7<|RP λH3 pp ay u np ah=>?_;refine gy T.nZ (T.og _ bf) (by show 2<1000;decide) (u _ _ t) aQ aR λj v Q=>?_;refine vY<|RJ λH5 pd s5 aE aq=>?_;refine pS T.nZ (T.og _ bf) (by show 3<1000;decide) (s5 _ _ Q) aQ aR λc w k=>?_;have aa:Kt p j c:=(bE s5).trans w;have l:Kt p H3 c:=v.trans aa;have m:Kt p d c:=(bE u).trans l;have ar:f≠h:=λz=>by subst z;rw[g] at s;cases s
 let ρ:af->Nat:=λb=>@ite _ (c b=ai) (zD _) 0 (@ite _ (b=f) (zD _) 1 (@ite _ (b=h) (zD _) 2 (@ite _ (j b=ai) (zD _) 4 (@ite _ (d b=ai) (zD _) 3 0))));have A:=m _ _ y E;have B:=m _ _ N M;have r1:ρ f=1:=(ak<|nn A).trans<|aA L;have r2:ρ h=2:=(ak<|nn B).trans<|(ak ar.symm).trans<|aA L;have a:∀{b:af},d b=ai->b≠f/\b≠h/\b≠p:=λ{b} e=>⟨(λz=>by subst z;rw[y] at e;cases e),(λz=>by subst z;rw[N] at e;cases e),(λz=>by subst z;rw[t] at e;cases e)⟩;have i:Dm d j:=(Dm.of u).trans<|Dm.kt v Q;have r3:∀b,d b=ai->j b≠ai->c b≠ai->ρ b=3:=λb e e4 x=>(ak x).trans<|(ak (a e).1).trans<|(ak (a e).2.1).trans<|(ak e4).trans<|aA e;have r4:∀b,j b=ai->c b≠ai->ρ b=4:=λb e x=>(ak x).trans<|(ak (a<|i _ e).1).trans<|(ak (a<|i _ e).2.1).trans<|aA e;have ab:Dm H d:=(Dm.kt n I).trans<|Dm.kt q t;have kt:Kt p H c:=n.trans<|q.trans m;have z0:∀b,d b≠ai->b≠f->b≠h->ρ b=0:=λb e eg ee=>by
  by_cases k:c b=ai
  ·exact aA k
  ·exact(ak k).trans<|(ak eg).trans<|(ak ee).trans<|(ak λz=>e<|i _ z).trans<|ak e
 have nP:∀b,H b≠ai->ρ b=0:=λb e=>by
  refine z0 b (λz=>e<|ab b z) (λz=>?_) λz=>?_
  ·subst z;exact e ng
  ·subst z;exact e<|n.free s M
 refine av c ρ kt ⟨dx,f,h,pp,pd,ay,k,λb r z=>r<|aA z,nP p<|nn D,r1,?_,?_,?_,?_⟩ nP
 ·exact⟨⟨[],pZ r1 A,.nil,Tu⟩,λaz g=>absurd g (nL),dD _⟩
 ·exact⟨⟨[],pZ r2 B,.nil⟩,λaz g=>absurd g (nL),dD _⟩
 ·refine ah.keep (λb o r e=>l _ _ e (a r).2.2) λb r e=>?_;obtain⟨o,e⟩:=lD.mp e;exact r3 b r (nn<|v _ _ e (a r).2.2)<|nn<|l _ _ e (a r).2.2
 ·refine jq.keep (told:=0) (hs:=[]) aq (λb o r e=>w _ _ e (a<|i _ r).2.2) λb r e=>?_;obtain⟨o,e⟩:=lD.mp e;exact r4 b r<|nn<|w _ _ e (a<|i _ r).2.2
def ael(k:∀a p ρ,J H a->H p=ai->kl cs ρ a p {}->(∀b,H b≠ai->ρ b=0)->Q (.ref p) a):iZ cs.fE (Sy cs) [] E aW U H Q:=λx c d g gc=>
 ⟨x,c,L,ba,λh ρ i j hρ=>⟨L,by
  have f:∀{b o},H b=O o->upd (upd H c<|.own x) x (.ins cs.fE c []) b=O o:=λe=>by rw[aX (bA e d),aX<|bA e g];exact e
  refine k h x ρ (λb o e=>i b o (f e)<|bA e d) d j λb e=>?_;obtain⟨o,e⟩:=lD.mp e;exact hρ b<|nn<|f e⟩⟩
def kl.kept(h:kl cs ρ H a s)(k:∀b o,H b=O o->ρ b≠0∨b=a->H' b=O o):kl cs ρ H' a s:=by
 obtain⟨d,f,g,i,l,m,h⟩:=h;have c:∀{j:Nat},j≠0->J (HR (λb=>ρ b=j) H) (HR (λb=>ρ b=j) H'):=λn b o e=>by
  obtain⟨r,e⟩:=eC e;exact pZ r<|k b o e<|.inl (by rw[r];exact n)
 refine⟨d,f,g,i,l,m,k _ _ h.o (.inr L),λb r=>?_,h.ra,h.rg,h.gn.same<|c aB,h.ep.same<|c aB,h.pp.keep (λb o r e=>k b o e<|.inl (by rw[r];decide)) λ_ r _=>r,h.dr.keep (λb o r e=>k b o e<|.inl (by rw[r];decide)) λ_ r _=>r⟩;obtain⟨o,e⟩:=lD.mp<|h.al b r;exact nn<|k b o e<|.inl r
def aem{l rest:List Int}{rs:List (List Int)}{p:Nat}(h:G t U H (.ref a))(hs:fF K cs H a pl l p)(hz:l.drop p=((rs.length:Nat):Int)::(kC rs++rest))(f:rs.length<=1000000)
  (k:∀H' q,Kt a H H'->fF K cs H' a pl l (p+1+ki rs)->GR (HR (λb=>H b=ai) H') q rs->H q=ai->Q (.ref q) H'):gX cs.g0 "take_rows" (Sl K cs) [] E t aW U H Q:=
 h _ λg c=>let⟨i,j,z⟩:=hs;⟨a,i,_,L,c _ _ j,Zy,a,pl,l,p,rs,rest,L,hs.same c,hz,f,λd q n s u v=>k d q (eX c n) s (by
  obtain⟨w,y,g2⟩:=u;have m:J (HR (λb=>g b=ai) d) (HR (λb=>H b=ai) d):=λb o e=>by
   obtain⟨r,e⟩:=eC e;exact pZ (c.free r) e
  exact⟨w,m _ _ y,Paired.fT g2 λ_ _ x=>m _ _ x⟩)<|c.free v⟩
def aen(g:Paired (λa (x:ao)=>mg x=O (.ref a)) as ["call_genus","call_epithet","call_form","call_fold","call_alike","call_classes","call_family","call_families","call_turn","call_read","call_write","call_cite","call_who","call_mend","call_feed","call_last","call_index","call_tell","call_fresh"])(h:Ar i q r c):
  ∃a d,as[i]?=O a/\dH P ww K mg base (cX P ww) 19 a d ["desk","numbers","texts"] (gO cs i)/\nB K (.ref a)=Y/\Binds K d ["desk","numbers","texts"] []:=by
 have go:∀{x:ao}{j k:Nat},kM P ww K mg base k x ["desk","numbers","texts"] (gO cs j)->k<=19->(["call_genus","call_epithet","call_form","call_fold","call_alike","call_classes","call_family","call_families","call_turn","call_read","call_write","call_cite","call_who","call_mend","call_feed","call_last","call_index","call_tell","call_fresh"]:List ao)[j]?=O x->
   ∃a d,as[j]?=O a/\dH P ww K mg base (cX P ww) 19 a d ["desk","numbers","texts"] (gO cs j)/\nB K (.ref a)=Y/\Binds K d ["desk","numbers","texts"] []:=by
  intro x j k c l n;obtain⟨f,d,F,m,o,b⟩:=c.ex;obtain⟨a,p,e⟩:=mX g n;rw[m] at e;cases e;exact⟨_,d,p,F.mono l,o,b⟩
 cases h with
 |c0=>exact go (adS T) aB L
 |c1=>exact go (adT T) aB L
 |c2=>exact go (adZ T) aB L
 |c3=>exact go (ad3 T) aB L
 |c4=>exact go (ad0 T) aB L
 |c5=>exact go (ad1 T) aB L
 |c6=>exact go (ad2 T) aB L
 |c7=>exact go (ad4 T) aB L
 |c8=>exact go (adU T) aB L
 |c9=>exact go (ad5 T) aB L
 |ue=>exact go (ad6 T) aB L
 |uf=>exact go (ad7 T) aB L
 |ug=>exact go (ad8 T) aB L
 |yR=>exact go (ad9 T) aB L
 |yS=>exact go (adV T) aB L
 |yT=>exact go (adW T) aB L
 |yU=>exact go (aea T) aB L
 |yV=>exact go (aeb T) aB L
 |yW=>exact go (adX T) aB L
def rA(a:List (List<|List Int)):Nat:=(a.filter λ(c:List (List Int))=>c==[[16]]).length
def wq(H:Hp)(a:af):Nat:=match H a with
 |some (.ins _ _ [_,(_,.int z)])=>z.toNat
 |_=>0
def fF.wq{H:Hp}{a pl:af}{l:List Int}{p:Nat}(h:fF K cs H a pl l p):wq H a=p:=by
 obtain⟨c,b,_⟩:=h;unfold Nr.wq;rw[b];show((p:Nat):Int).toNat=p;omega
structure Lp(K:bj)(cs:Cs)(H:Hp)(pl a tp po:af)(l:List Int)(cc:List (List<|List Int))(i:Nat)(ρ:af->Nat)(H':Hp):Prop where
 st:J H H'
 dk:kl cs ρ H' a (fc<|cc.take i)
 tq:fF K cs H' tp pl l (fq<|cc.take i).length
 pq:H' po=O (.lst<|zs<|jF<|cc.take i)
 r0:∀b,H b≠ai->ρ b=0
 rt:ρ tp=0
 ro:ρ po=0
 part:(fc<|cc.take i).paper.part.length<=(fq<|cc.take i).length
 out:(jF<|cc.take i).length<=501*(fq<|cc.take i).length+2051*i+65000*rA (cc.take i)
def Ck(K:bj):Sp:=λc H Q _=>∃a l b,c=[.ref a]/\aM K H a (zs l)/\l.length<=30000/\agF l=O b/\agG b=Y/\eS H Q (zs<|Ic l)
def aeo(F:gH K "answers" "answers" (top 192) f fd):dH P ww K mg base (cX P ww) 20 f fd ["calls"] (Ck K):=by
 refine(cW ["calls","desk","tape","given","call","numbers","texts","answer"] λH eE eH t hL u h=>?_) _ _ F;obtain⟨N,l,c,rfl,hl,hz,b3,ay,c7⟩:=h;obtain⟨as,cC,hP⟩:=T.X7;refine⟨_,(aD (cw 1 t<|oj (AM T) T.Yg u)<|aD (cw 2 t<|yb (AN T) T.Yh u<|aj<|pv 0)<|aD (cw 3 t<|bQ gv)<|aD (o9 iC (cN<|dE (adL T) T.kS (pv 2) (u.mono aB) ck)<|aD (cw 4 t<|bT sI (kR cC)<|dE (GP T) T.kS (pv 2) (u.mono aB) ck)<|aD (cw 5 t<|dE (Sj T) T.kS (pv 2) (u.mono aB) ck)<|aD (cw 6 t<|dE (adP T) T.kS (pv 2) (u.mono aB) ck)<|aD (cw 7 t<|Lf (i:=4) L (by first|exact nG rfl|exact wU<|nG rfl) ck<|aP (pv 1)<|aP (pv 5)<|aj<|pv 6)<|aD (bW<|eK eL jJ jK jj (pv 3)<|aj<|b6 cB aZ T.cn cq<|aj<|pv 7)<|aC<|bW<|eK eL j3 j4 jt (pv 3)<|aj<|pv 7)<|aC<|aK<|pv 3),?_⟩;have dn:Ic l=jF c:=by unfold Ic;rw[b3];rfl
 rw[dn] at c7;obtain⟨a7,_⟩:=PyWide.put_calls _ l c b3;unfold agG at ay;simp only[bL,bO] at ay;obtain⟨a8,_,a9,_,h8⟩:=ay;have a9:c.length<=400:=a9;have h8:rA c<=8:=h8;refine iP<|ael λH1 a ρ s1 na az hρ=>?_;refine iP<|adK W (s1.seq hl) λH2 m s2 aE b4=>?_;refine aL.eB ir λH3 k s3 M ae=>?_;have b5:=s2.trans s3;have m3:=s1.trans b5;have cm:∀{b:af},H b≠ai->b≠a:=λe z=>by subst z;exact e na
 have cp:∃o,H1 a=O o:=by obtain⟨p,pg,pe,pp,pd,MP,h⟩:=az;exact⟨_,h.o⟩
 have dy:∃o,H2 m=O o:=by obtain⟨p,h1,_⟩:=b4;exact⟨_,h1⟩
 have a0:m≠a:=λz=>by obtain⟨o,e⟩:=cp;subst z;rw[aE] at e;cases e
 have ct:k≠a:=λz=>by obtain⟨o,e⟩:=cp;subst z;rw[s2 _ _ e] at M;cases M
 have bk:k≠m:=λz=>by obtain⟨o,e⟩:=dy;subst z;rw[M] at e;cases e
 have bl:H m=ai:=s1.free aE;have bx:H k=ai:=(s1.trans s2).free M;have cE:∀b,ρ b≠0->H1 b≠ai:=by obtain⟨p,pg,pe,pp,pd,MP,h⟩:=az;exact h.al
 refine vM (λU H'=>∃i ρ,i<=c.length/\(∃v4 v5 v6 v7,U=[O (.ref N),O<|.ref a,O<|.ref m,O<|.ref k,v4,v5,v6,v7])/\Lp K cs H N a m k l c i ρ H') (λU H'=>l.length-wq H' m) ⟨0,ρ,dD _,⟨_,_,_,_,L⟩,m3,az.kept λb o e _=>b5 b o e,b4.same s3,ae,hρ,?_,?_,dD _,dD _⟩ ?_
 ·exact rX λz=>cE m z aE
 ·exact rX λz=>cE k z<|s2.free M
 rintro U q ⟨i,ρ,hi,⟨v4,v5,v6,v7,rfl⟩,d⟩;have au:=GW c i;rw[<-a7] at au;have b0:l.length=(fq<|c.take i).length+(fq<|c.drop i).length:=by rw[au,aV]
 refine⟨_,cS<|adM W d.tq,λH4 v=>?_⟩;refine bh (λQ=>?_)<|λQ=>?_
 ·have Q:=df Q;have A:i<c.length:=by
   refine rX λz=>?_;rw[uO aG] at b0;have:(fq ([]:List (List<|List Int))).length=0:=rfl;omega
  have w:=gq A;have a3:Ia c[i]=Y:=qk.mp a8 _ (Uv A);obtain⟨aa,n,g,j,D,hk,E,ag⟩:=Ss a3;have dh:l.drop (fq<|c.take i).length=(aa:Int)::(HZ n++((g.length:Int)::(kC g++fq (c.drop<|i+1)))):=by
   rw[au,Uw,zr A];show uS c[i]++_=_;rw[D,PyWide.put1_append]
  obtain⟨fa,fd,dK,F,kp,bd⟩:=aen T hP E;obtain⟨dT,ah⟩:=yP dh;have ah:l.drop ((fq<|c.take i).length+1)=((n.length:Nat):Int)::(n++((g.length:Int)::(kC g++fq (c.drop<|i+1)))):=by rw[ah];rfl
  have dV:l.drop ((fq<|c.take i).length+1+1+n.length)=((g.length:Nat):Int)::(kC g++fq (c.drop<|i+1)):=by
   have:=(yP ah).2;rw[<-oT,this,Uw]
  have av:(fq<|c.take<|i+1).length=(fq<|c.take i).length+1+1+n.length+1+ki g:=by
   rw[take_succ w,Sx,aV,D];show _+((aa:Int)::(HZ n++((g.length:Int)::kC g))).length=_;rw[bV,aV,bV];show _+(n.length+1+((kC g).length+1)+1)=_;unfold ki;omega
  refine iP λca d0=>GQ W (d.tq.same v) dT λH5 k5 t5=>⟨ca,_,_,_,L,L,d0 H5,fJ (by rw[eU,dK];rfl),?_⟩;refine iP<|Sk W t5 ah λH6 q1 k6 t6 n6 h6=>?_;refine iP<|aem W t6 dV (by have:=ag.2;omega) λs q2 k7 t7 h7 n7=>?_;have kt:Kt m q s:=(bE v).trans<|k5.trans<|k6.trans k7;have B:∀{x:Hp}{en:Nat},fF K cs x m N l en->x m≠ai:=λh=>by obtain⟨p,h1,_⟩:=h;exact nn h1
  have cL:q q1=ai:=((bE v).trans k5).free n6 λz=>B t5 (z▸n6);have et:q q2=ai:=((bE v).trans<|k5.trans k6).free n7 λz=>B t6 (z▸n7);have dm:∀{b:af},H6 b=ai->q b=ai:=λ{b} e=>((bE v).trans<|k5.trans k6).free e λz=>B t6 (z▸e);have d1:∀b,ρ b≠0->q b≠ai:=by obtain⟨p,pg,pe,pp,pd,MP,h⟩:=d.dk;exact h.al
  have d2:q a≠ai:=by obtain⟨p,pg,pe,pp,pd,MP,h⟩:=d.dk;exact nn h.o
  have a4:kl cs ρ s a (fc<|c.take i):=d.dk.kept λb o e r=>kt b o e λz=>by
   subst z;rcases r with r|r
   ·exact r d.rt
   ·exact a0 r
  let Z:af->Prop:=λb=>q b=ai;have dp:q1≠m:=λz=>B d.tq (z▸cL);have d3:sZ (HR Z s) q1 n:=pZ cL<|k7 _ _ h6 dp;have ea:cU (HR Z s) q2 (g.map kD):=by
   refine aei ?_ ag;obtain⟨eb,y,g2⟩:=h7;have c8:J (HR (λb=>H6 b=ai) s) (HR Z s):=λb o e=>by
    obtain⟨r,e⟩:=eC e;exact pZ (dm r) e
   exact⟨eb,c8 _ _ y,Paired.fT g2 λ_ _ x=>c8 _ _ x⟩
  have ab:lF (fc<|c.take i) c[i]=((bZ (fc<|c.take i) j).1,shown (bZ (fc<|c.take i) j).2):=by unfold lF;rw[hk]
  have sd:=a4.sd;have c0:∀c9∈g.map kD,c9.length<=4096:=λc9 ht=>by
   obtain⟨x,hx,rfl⟩:=iz.mp ht;have:=(ag.1 x hx).2;rw[show(kD x).length=x.length from bH ..];exact this
  have c1:(g.map kD).length<=20:=by rw[bH];exact ag.2
  have eu:=aek g;have er:(fq<|c.take i).length<=30000:=by omega
  refine iP ⟨fa,19,fd,_,_,L,F,u.mono aB,kp,bd,_,L,_,L,_,L,ρ,Z,a,q1,q2,fc<|c.take i,n,g.map kD,j,L,⟨a4,E,λb z=>⟨rX λr=>d1 b r z,λeo=>by subst eo;exact d2 z⟩,d3,ea,c0,c1,by have:=d.part;omega⟩,λH8 ρ' dd ed ee nq hq=>?_⟩;have I:∀{b:af}{o:HO},s b=O o->ρ b=0->b≠a->q b≠ai->H8 b=O o/\ρ' b=0:=λe r ep z=>ed _ _ e r ep z;have b1:s k=O (.lst<|zs<|jF<|c.take i):=kt _ _ d.pq bk;obtain⟨dr,c2⟩:=I b1 d.ro ct<|nn d.pq;have c3:J H H8:=λb o e=>(I (kt _ _ (d.st _ _ e) λz=>by subst z;rw[bl] at e;cases e) (d.r0 b<|nn e) (cm<|nn e)<|nn<|d.st _ _ e).1;have t8:fF K cs H8 m N l ((fq<|c.take i).length+1+1+n.length+1+ki g):=by
   obtain⟨p,y,g2⟩:=t7;exact⟨p,(I y d.rt a0<|B d.tq).1,c3.seq hl⟩
  have eg:∀b,H b≠ai->ρ' b=0:=λb e=>by
   obtain⟨o,e⟩:=lD.mp e;exact(I (kt _ _ (d.st _ _ e) λz=>by subst z;rw[bl] at e;cases e) (d.r0 b<|nn e) (cm<|nn e)<|nn<|d.st _ _ e).2
  have ek:ρ' m=0:=by obtain⟨p,y,g2⟩:=t7;exact(I y d.rt a0<|B d.tq).2
  have dt:dd≠k:=λz=>by subst z;rw[b1] at nq;cases nq
  have ew:dd≠a:=λz=>by subst z;obtain⟨p,pg,pe,pp,pd,MP,h⟩:=a4;rw[h.o] at nq;cases nq
  have al:=aef sd E c0 c1;have b2:rA (c.take i)+(if aa=16 then 1 else 0)=rA (c.take<|i+1):=by
   unfold rA;rw[take_succ w,wV,aV];congr 1;split
   ·rename_i C;subst C;have e0:c[i]=[[16]]:=by
     have hx:g.map kD=[]/\n=[]:=by
      generalize g.map kD=ts at E;cases E;exact⟨L,L⟩
     rw[D,hx.2,List.map_eq_nil_iff.mp hx.1];rfl
    rw[e0];rfl
   ·rename_i C;have e0:(c[i]==[[16]])=ax:=by
     rw[D,rC];intro z;have:=(agH (agH z).1).1;exact C aG
    rw[oP,e0];rfl
  have ey:rA (c.take<|i+1)<=8:=eO (by unfold rA;exact((Hf _ _).filter _).length_le) h8;have ho:=d.out;have el:(jF<|c.take i).length+1+(shown (bZ (fc<|c.take i) j).2).length<=501*(fq<|c.take<|i+1).length+2051*(i+1)+65000*rA (c.take<|i+1):=by
   by_cases C:aa=16
   ·rw[aA C] at b2 al;omega
   ·rw[ak C] at b2 al;omega
  have es:(fq<|c.take<|i+1).length<=30000:=by
   have:=GW c<|i+1;rw[<-a7] at this;have:=fG fZ this;rw[aV] at this;omega
  have ez:(jF<|c.take i).length+1+(shown (bZ (fc<|c.take i) j).2).length<=16700000:=by omega
  refine yf (v:=.int (((shown (bZ (fc<|c.take i) j).2).length:Nat):Int)) W dr (λH9 s9=>G.cv (iN W<|aM.of<|s9 _ _ hq)<|by rw[i5]) (by rw[i5,b9];omega) λH9 s9=>?_;have c4:Kt k H8 (upd H9 k<|.lst<|zs (jF<|c.take i)++[.int (((shown (bZ (fc<|c.take i) j).2).length:Nat):Int)]):=Kt.put<|bE s9;refine pM (xs:=zs (jF<|c.take i)++[.int (((shown (bZ (fc<|c.take i) j).2).length:Nat):Int)]) (ys:=zs<|shown (bZ (fc<|c.take i) j).2) W ba (λaq a5=>G.x W<|a5 _ _ (c4 _ _ hq dt)) (by rw[aV,i5,i5,gR,b9];omega) λaq a5=>?_;have a6:Kt k H8 (upd aq k<|.lst<|(zs (jF<|c.take i)++[.int (((shown (bZ (fc<|c.take i) j).2).length:Nat):Int)])++zs (shown (bZ (fc<|c.take i) j).2)):=Kt.put<|c4.trans<|bE a5;have dg:∀{b:af}{o:HO},H b=O o->b≠k:=λe z=>by subst z;rw[bx] at e;cases e
  have c5:J H (upd aq k<|.lst<|(zs (jF<|c.take i)++[.int (((shown (bZ (fc<|c.take i) j).2).length:Nat):Int)])++zs (shown (bZ (fc<|c.take i) j).2)):=λb o e=>a6 _ _ (c3 _ _ e) (dg e);have tE:fF K cs (upd aq k<|.lst<|(zs (jF<|c.take i)++[.int (((shown (bZ (fc<|c.take i) j).2).length:Nat):Int)])++zs (shown (bZ (fc<|c.take i) j).2)) m N l (fq<|c.take<|i+1).length:=by
   rw[av];obtain⟨p,y,g2⟩:=t8;exact⟨p,a6 _ _ y bk.symm,c5.seq hl⟩
  refine⟨⟨i+1,ρ',A,⟨_,_,_,_,L⟩,⟨c5,?_,tE,?_,eg,ek,c2,?_,?_⟩⟩,?_⟩
  ·rw[take_succ w,Sw];show kl cs ρ' _ a (lF (fc<|c.take i) c[i]).1;rw[ab];exact ee.kept λb o e r=>a6 _ _ e λz=>by
    subst z;rcases r with r|r
    ·exact r c2
    ·exact ct r
  ·rw[ba,take_succ w,Sv,ab,t9,hX];rfl
  ·have:=aej sd E;have:=d.part;rw[take_succ w,Sw];show(lF (fc<|c.take i) c[i]).1.paper.part.length<=_;rw[<-take_succ w,ab,av];show(bZ (fc<|c.take i) j).1.paper.part.length<=_;omega
  ·have e:(jF<|c.take<|i+1).length=(jF<|c.take i).length+1+(shown (bZ (fc<|c.take i) j).2).length:=by
    rw[take_succ w,Sv,ab,aV,bV];show _+((shown (bZ (fc<|c.take i) j).2).length+1)=_;omega
   rw[e];exact el
  ·rw[tE.wq,d.tq.wq,av];omega
 ·have Q:=d8 Q;have A:i=c.length:=by
   refine rX λz=>?_;have c6:i<c.length:=by omega
   have a3:Ia c[i]=Y:=qk.mp a8 _ (Uv c6);obtain⟨aa,n,g,j,D,_⟩:=Ss a3;rw[zr c6] at b0;have:(fq<|c[i]::c.drop (i+1)).length=(uS c[i]).length+(fq<|c.drop<|i+1).length:=aV ..;have e1:(uS c[i]).length=(HZ n++((g.length:Int)::kC g)).length+1:=by rw[D];rfl
   omega
  subst A;have ae:=d.pq;rw[kx] at ae;exact G.ret W λH5 s5=>c7 H5 k (d.st.trans<|v.trans s5) bx<|s5 _ _ (v _ _ ae)
end Nr
namespace L2
open PySem PySem.Spec PyProof.Rows
open PySem.W (WData Codec OpenSpec Well)
mutual
inductive Dw(K:bj)(H:Hp):V->iD->Prop
 |bp:Dw K H .bp .none
 |bl (b:Bool):Dw K H (.bl b) (.bool b)
 |int (i:Int):Dw K H (.int i) (.int i)
 |str (x:ao):Dw K H (.str x) (.str x)
 |js (b:Array UInt8):Dw K H (.js b) (.bytes b.toList)
 |lst {a:af} {xs:List V} {ds:List iD}:aM K H a xs->me K H xs ds->Dw K H (.ref a) (.list ds)
 |tup {a:af} {xs:List V} {ds:List iD}:cO K H a xs->me K H xs ds->Dw K H (.ref a) (.tuple ds)
inductive me(K:bj)(H:Hp):List V->List iD->Prop
 |nil:me K H [] []
 |cons {v:V} {vs:List V} {d:iD} {ds:List iD}:Dw K H v d->me K H vs ds->me K H (v::vs) (d::ds)
end
def aep{K:bj}{H:Hp}:∀a:List Int,me K H (a.map V.int)<|a.map agI
 |[]=>.nil
 |n::r=>.cons (.int n)<|aep r
def aeq{K:bj}{H:Hp}:∀(a:List Int)(xs:List V),me K H xs (a.map agI)->xs=a.map V.int
 |[],xs,h=>by
  cases h;rfl
 |n::r,xs,h=>by
  cases h with
  |cons b c=>
   cases b;rw[aeq r _ c]<;>rfl
section
variable{P:cf}{w:bR}{K:bj}{H:Hp}{h:bC}{R:agJ}{cl:ao->Option af}
def aer(aS:cQ P w H h)(d:K.In h)(q:aM K H a xs):∃(b:List aw)(o:bz)(n:Nat),Vals xs b/\h.get? a=O o/\o.cls= .type "list"/\o.data= .seq b.toArray n:=by
 rcases q with q|⟨o,b,n,e,f,_,g,_,c⟩
 ·obtain⟨_,b,n,c,e⟩:=(show dP P w H h a (.lst xs) from q.ok aS);exact⟨b,_,n,c,e,L,L⟩
 ·exact⟨b.toList,o,n,c,d _ _ e,f,by simp[g]⟩
def aes(aS:cQ P w H h)(g:K.In h)(q:cO K H a xs):∃(b:List aw)(o:bz)(n:Nat),Vals xs b/\h.get? a=O o/\o.cls= .type "tuple"/\o.data= .seq b.toArray n:=by
 rcases q with q|⟨o,b,n,e,c,d,_,f⟩
 ·obtain⟨_,b,f,o,e,c,n,d⟩:=(show dP P w H h a (.tup xs) from q.ok aS);exact⟨b,o,n,f,e,c,d⟩
 ·exact⟨b.toList,o,n,f,g _ _ e,c,by simp[d]⟩
mutual
def Dw.reads(aS:cQ P w H h)(c:K.In h):∀(d:iD)(v:V)(u:aw),Dw K H v d->RelV v u->∃as,sr R cl h u d as
 |.none,_,_,x,r=>by
  cases x;cases r;exact⟨_,sr.none⟩
 |.bool b,_,_,x,r=>by
  cases x;cases r;exact⟨_,sr.bool b⟩
 |.int i,_,_,x,r=>by
  cases x;obtain⟨t,rfl⟩:=r;exact⟨_,sr.int i t⟩
 |.str s,_,_,x,r=>by
  cases x;obtain⟨t,rfl⟩:=r;exact⟨_,sr.str s t⟩
 |.bytes b,_,_,x,r=>by
  cases x;obtain⟨t,rfl⟩:=r;exact⟨_,sr.bytes _ t⟩
 |.list a,_,_,x,r=>by
  cases x with
  |lst f g=>
   cases r;obtain⟨e,o,n,j,k,l,m⟩:=aer aS c f;obtain⟨as,p⟩:=Dw.readsAll aS c a _ e g j;exact⟨_,sr.list k l m p⟩
 |.tuple a,_,_,x,r=>by
  cases x with
  |tup f g=>
   cases r;obtain⟨e,o,n,j,k,l,m⟩:=aes aS c f;obtain⟨as,p⟩:=Dw.readsAll aS c a _ e g j;exact⟨_,sr.tuple k l m p⟩
 |.float _,_,_,x,_=>by cases x
 |.dict _,_,_,x,_=>by cases x
 |.bytearray _,_,_,x,_=>by cases x
 |.set _,_,_,x,_=>by cases x
 |.frozenset _,_,_,x,_=>by cases x
 |.obj _ _,_,_,x,_=>by cases x
def Dw.readsAll(aS:cQ P w H h)(c:K.In h):∀(a:List iD)(q:List V)(y:List aw),me K H q a->Vals q y->∃as,UC R cl h y a as
 |[],_,_,x,r=>by
  cases x;cases r;exact⟨_,UC.nil⟩
 |d::a,_,_,x,r=>by
  cases x with
  |cons z A=>
   cases r with
   |cons B C=>
    obtain⟨as,D⟩:=Dw.reads aS c d _ _ z B;obtain⟨I,E⟩:=Dw.readsAll aS c a _ _ A C;exact⟨_,UC.cons D E⟩
end
end
mutual
def km:iD->Bool
 |.none=>Y
 |.bool _=>Y
 |.int _=>Y
 |.str _=>Y
 |.bytes _=>Y
 |.list a=>mf a
 |.tuple a=>mf a
 |_=>ax
def mf:List iD->Bool
 |[]=>Y
 |x::r=>km x&&mf r
end
def Sz{α:Type}{f:α->iD}(h:∀a,km (f a)=Y):∀l:List α,mf (l.map f)=Y
 |[]=>rfl
 |x::r=>by
  show(km (f x)&&mf (r.map f))=Y;rw[h x,Sz h r]<;>rfl
def rB:∀(c:Codec)(a:c.denote),km (c.enc a)=Y
 |.unit,_=>rfl
 |.bool,_=>rfl
 |.int _ _,_=>rfl
 |.nat _ _,_=>rfl
 |.u8,_=>rfl
 |.bytes _ _,_=>rfl
 |.text _ _ _ _,_=>rfl
 |.list _ _ c,a=>Sz (λx=>rB c x) a
 |.pair c d,a=>by
  show(km (c.enc a.1)&&(km (d.enc a.2)&&Y))=Y;rw[rB c a.1,rB d a.2]<;>rfl
 |.triple c d e,a=>by
  show(km (c.enc a.1)&&(km (d.enc a.2.1)&&(km (e.enc a.2.2)&&Y)))=Y;rw[rB c a.1,rB d a.2.1,rB e a.2.2]<;>rfl
 |.option c,ai=>rfl
 |.option c,O x=>rB c x
def SA:∀(cs:List Codec)(a:Ie cs),mf (zE cs a)=Y
 |[],_=>rfl
 |c::cs,a=>by
  show(km (c.enc a.1)&&mf (zE cs a.2))=Y;rw[rB c a.1,SA cs a.2]<;>rfl
def GX:∀{xs:List iD}{d:iD},d∈xs->d.weight<=Ig xs
 |[],d,h=>absurd h aT
 |x::r,d,h=>by
  show d.weight<=x.weight+1+Ig r;rcases dN.mp h with e|m
  ·rw[e];omega
  ·have z:=GX m;omega
def toV:aw->V
 |.none=>.bp
 |.bool b=>.bl b
 |.int i _=>.int i
 |.str x _=>.str x
 |.bytes b _=>.js b
 |.ref a=>.ref a
 |_=>.bp
def lr(A:List af):aw->Prop
 |.none=>True
 |.bool _=>True
 |.int _ _=>True
 |.str _ _=>True
 |.bytes _ _=>True
 |.ref a=>a∈A
 |_=>False
def lr.mono(h:∀a∈A,a∈B):∀{u:aw},lr A u->lr B u:=λ{u} x=>by
 cases u with
 |ref a=>exact h a x
 |none=>trivial
 |bool b=>trivial
 |int i t=>trivial
 |str s t=>trivial
 |bytes b t=>trivial
 |_=>exact fY x
def aet(x:lr A u):RelV (toV u) u:=by
 cases u with
 |ref a=>rfl
 |none=>rfl
 |bool b=>rfl
 |int i t=>exact⟨t,L⟩
 |str s t=>exact⟨t,L⟩
 |bytes b t=>exact⟨t,L⟩
 |_=>exact fY x
def wt:∀{vs:List aw},(∀u∈vs,lr A u)->Vals (vs.map toV) vs
 |[],_=>.nil
 |u::r,h=>.cons (aet<|h u<|dY ..)<|wt λx a=>h x<|dS _ a
def mi(h:bC)(A:List af)(a:af):Prop:=∃b:List aw,b.length<=br/\(∀u∈b,lr A u)/\
 (h.get? a=O {cls:=.type "list",data:=.seq b.toArray}∨h.get? a=O {cls:=.type "tuple",data:=.seq b.toArray})
def mi.mono(k:∀a∈A,a∈B)(x:mi h A a):mi h B a:=by
 obtain⟨b,c,d,e⟩:=x;exact⟨b,c,λu f=>(d u f).mono k,e⟩
def Cm:∀{vs:List aw}{a:List iD},uT P h vs a->vs.length=a.length
 |_,_,.nil=>rfl
 |_,_,.cons _ b=>by
  show _+1=_+1;rw[Cm b]
def SD(x:Well P h v (.list c)):∃(a:af)(vs:List aw),v= .ref a/\h.get? a=O {cls:=.type "list",data:=.seq vs.toArray}/\uT P h vs c:=by
 cases x with
 |list d b=>exact⟨_,_,L,d,b⟩
def SE(x:Well P h v (.tuple c)):∃(a:af)(vs:List aw),v= .ref a/\h.get? a=O {cls:=.type "tuple",data:=.seq vs.toArray}/\uT P h vs c:=by
 cases x with
 |tuple d b=>exact⟨_,_,L,d,b⟩
def SG(x:uT P h us (d::c)):∃(v:aw)(vs:List aw),us=v::vs/\Well P h v d/\uT P h vs c:=by
 cases x with
 |cons a b=>exact⟨_,_,L,a,b⟩
def SH(h:n<=1048576):n<=br:=eO h aB
section
variable{P:Params}{h:bC}
mutual
def aeu:∀(d:iD)(v:aw),Well P h v d->km d=Y->d.weight<=1048576->∃A:List af,lr A v/\∀a∈A,mi h A a
 |.none,_,x,_,_=>by
  cases x;exact⟨[],trivial,λa m=>absurd m aT⟩
 |.bool b,_,x,_,_=>by
  cases x;exact⟨[],trivial,λa m=>absurd m aT⟩
 |.int i,_,x,_,_=>by
  cases x;exact⟨[],trivial,λa m=>absurd m aT⟩
 |.str s,_,x,_,_=>by
  cases x;exact⟨[],trivial,λa m=>absurd m aT⟩
 |.bytes b,_,x,_,_=>by
  cases x;exact⟨[],trivial,λa m=>absurd m aT⟩
 |.list c,_,x,p,z=>by
  obtain⟨a,g,rfl,o,j⟩:=SD x;have l:Ig c<=1048576:=z;obtain⟨A,r,t⟩:=Co c _ j p λd w=>eO (GX w) l;have k:∀b∈A,b∈a::A:=λb f=>dS _ f;refine⟨a::A,dY ..,λb f=>?_⟩;rcases dN.mp f with e|m
  ·rw[e];exact⟨g,SH (by rw[Cm j];exact eO (agK c) l),λu n=>(r u n).mono k,.inl o⟩
  ·exact(t b m).mono k
 |.tuple c,_,x,p,z=>by
  obtain⟨a,g,rfl,o,j⟩:=SE x;have l:Ig c<=1048576:=z;obtain⟨A,r,t⟩:=Co c _ j p λd w=>eO (GX w) l;have k:∀b∈A,b∈a::A:=λb f=>dS _ f;refine⟨a::A,dY ..,λb f=>?_⟩;rcases dN.mp f with e|m
  ·rw[e];exact⟨g,SH (by rw[Cm j];exact eO (agK c) l),λu n=>(r u n).mono k,.inr o⟩
  ·exact(t b m).mono k
 |.float _,_,_,p,_=>lA (show ax=Y from p)
 |.dict _,_,_,p,_=>lA (show ax=Y from p)
 |.bytearray _,_,_,p,_=>lA (show ax=Y from p)
 |.set _,_,_,p,_=>lA (show ax=Y from p)
 |.frozenset _,_,_,p,_=>lA (show ax=Y from p)
 |.obj _ _,_,_,p,_=>lA (show ax=Y from p)
def Co:∀(c:List iD)(g:List aw),uT P h g c->mf c=Y->(∀d∈c,d.weight<=1048576)->∃A:List af,(∀u∈g,lr A u)/\∀a∈A,mi h A a
 |[],_,x,_,_=>by
  cases x;exact⟨[],λu m=>absurd m aT,λa m=>absurd m aT⟩
 |d::c,_,x,p,z=>by
  obtain⟨v,g,rfl,D,E⟩:=SG x;have q:km d=Y/\mf c=Y:=agL.mp p;obtain⟨A,H,I⟩:=aeu d v D q.1<|z d<|dY ..;obtain⟨B,M,N⟩:=Co c g E q.2 λe Q=>z e<|dS _ Q;have y:∀b∈A,b∈A++B:=λb f=>lu.mpr<|.inl f;have C:∀b∈B,b∈A++B:=λb f=>lu.mpr<|.inr f;refine⟨A++B,λu n=>?_,λb f=>?_⟩
  ·rcases dN.mp n with e|m
   ·rw[e];exact H.mono y
   ·exact(M u m).mono C
  ·rcases lu.mp f with m|m
   ·exact(I b m).mono y
   ·exact(N b m).mono C
end
end
def Cp(o:bz):Option HO:=match o.data with
 |.seq a _=>if(o.cls==rD "list")=Y then O (.gE o<|.lst<|a.toList.map toV) else O (.gE o<|.tup<|a.toList.map toV)
 |_=>ai
def iR(K:bj)(h:bC)(A:List af):Hp:=λb=>if b∈A then(if(K.lookup b).isNone=Y then(h.get? b).bind Cp else ai) else ai
def y3(H:Hp):Prop:=∀b,H b=ai∨∃o u,H b=O (.gE o u)
def SI(vs:List aw):Cp {cls:=.type "list",data:=.seq vs.toArray}=O (.gE {cls:=.type "list",data:=.seq vs.toArray} (.lst<|vs.map toV)):=by
 show(if(rD "list"==rD "list")=Y then O (HO.gE {cls:=.type "list",data:=.seq vs.toArray} (.lst<|vs.toArray.toList.map toV)) else O (HO.gE {cls:=.type "list",data:=.seq vs.toArray} (.tup<|vs.toArray.toList.map toV)))=_;rw[aA (beq_self_eq_true _)]
def SJ(vs:List aw):Cp {cls:=.type "tuple",data:=.seq vs.toArray}=O (.gE {cls:=.type "tuple",data:=.seq vs.toArray} (.tup<|vs.map toV)):=by
 show(if(rD "tuple"==rD "list")=Y then O (HO.gE {cls:=.type "tuple",data:=.seq vs.toArray} (.lst<|vs.toArray.toList.map toV)) else O (HO.gE {cls:=.type "tuple",data:=.seq vs.toArray} (.tup<|vs.toArray.toList.map toV)))=_;rw[ak aB]
section
variable{P:cf}{w:bR}{K:bj}{h:bC}{A:List af}
def Cq(a:b∈A)(c:K.lookup b=ai)(e:h.get? b=O o):iR K h A b=Cp o:=by
 unfold iR;rw[aA a,c,aA (show(ai:Option bz).isNone=Y from L),e]<;>rfl
def aev(q:iR K h A b=O u):b∈A/\K.lookup b=ai:=by
 unfold iR at q;by_cases a:b∈A
 ·rw[aA a] at q;cases c:K.lookup b with
  |none=>exact⟨a,L⟩
  |some o=>
   rw[c,ak aT] at q;cases q
 ·rw[ak a] at q;cases q
def Cr(f:∀a∈A,mi h A a)(q:iR K h A b=O u):K.lookup b=ai/\∃vs:List aw,vs.length<=br/\(∀u∈vs,lr A u)/\
  ((h.get? b=O {cls:=.type "list",data:=.seq vs.toArray}/\u= .gE {cls:=.type "list",data:=.seq vs.toArray} (.lst<|vs.map toV))∨
   (h.get? b=O {cls:=.type "tuple",data:=.seq vs.toArray}/\u= .gE {cls:=.type "tuple",data:=.seq vs.toArray} (.tup<|vs.map toV))):=by
 obtain⟨c,d⟩:=aev q;obtain⟨vs,g,i,j⟩:=f b c;refine⟨d,vs,g,i,?_⟩;rcases j with e|e
 ·rw[Cq c d e,SI] at q;exact .inl ⟨e,(eh q).symm⟩
 ·rw[Cq c d e,SJ] at q;exact .inr ⟨e,(eh q).symm⟩
def aew(c:∀a∈A,mi h A a):y3 (iR K h A):=λb=>by
 cases q:iR K h A b with
 |none=>exact .inl L
 |some u=>
  obtain⟨_,d,_,_,⟨_,e⟩|⟨_,e⟩⟩:=Cr c q
  ·exact .inr ⟨_,_,by rw[e]⟩
  ·exact .inr ⟨_,_,by rw[e]⟩
def aex(g:∀a∈A,mi h A a):cQ P w (iR K h A) h:=λb u q=>by
 obtain⟨_,c,d,f,⟨e,rfl⟩|⟨e,rfl⟩⟩:=Cr g q
 ·exact⟨e,by rw[bH];exact d,c,_,wt f,e⟩
 ·exact⟨e,by rw[bH];exact d,c,wt f,_,e,L,_,L⟩
def Cu{vs us:List aw}(e:(O {cls:=c,data:=.seq vs.toArray}:Option bz)=O {cls:=a,data:=.seq us.toArray}):c=a/\vs=us:=by
 have b:=eh e;have d:c=a:=fG bz.cls b;have f:zk vs.toArray=zk us.toArray:=fG bz.data b;injection f with g
 refine⟨d,?_⟩;have i:=fG SX g;simpa using i
def aey(i:K.In h)(j:∀a∈A,mi h A a){vs:List aw}(c:a∈A)(e:h.get? a=O {cls:=.type "list",data:=.seq vs.toArray}):(∀u∈vs,lr A u)/\aM K (iR K h A) a (vs.map toV):=by
 obtain⟨d,k,f,l⟩:=j a c;have m:d=vs:=by
  rcases l with q|q
  ·rw[e] at q;exact(Cu q).2.symm
  ·rw[e] at q;exact absurd (agM (Cu q).1) aB
 subst m;refine⟨f,?_⟩;cases b:K.lookup a with
 |none=>exact .inl<|.inr ⟨_,by rw[Cq c b e,SI]⟩
 |some o=>
  have g:=i a o b;rw[e] at g;obtain rfl:=eh g;exact .inr ⟨_,d.toArray,_,b,L,L,L,by rw[gB];exact k,by simpa using wt f⟩
def aez(i:K.In h)(j:∀a∈A,mi h A a){vs:List aw}(c:a∈A)(e:h.get? a=O {cls:=.type "tuple",data:=.seq vs.toArray}):(∀u∈vs,lr A u)/\cO K (iR K h A) a (vs.map toV):=by
 obtain⟨d,k,f,l⟩:=j a c;have m:d=vs:=by
  rcases l with q|q
  ·rw[e] at q;exact absurd (agM (Cu q).1) aB
  ·rw[e] at q;exact(Cu q).2.symm
 subst m;refine⟨f,?_⟩;cases b:K.lookup a with
 |none=>exact .inl<|.inr ⟨_,by rw[Cq c b e,SJ]⟩
 |some o=>
  have g:=i a o b;rw[e] at g;obtain rfl:=eh g;exact .inr ⟨_,d.toArray,_,b,L,L,by rw[gB];exact k,by simpa using wt f⟩
mutual
def aeA(e:K.In h)(f:∀a∈A,mi h A a):∀(d:iD)(v:aw),Well r h v d->km d=Y->lr A v->Dw K (iR K h A) (toV v) d
 |.none,_,x,_,_=>by
  cases x;exact .bp
 |.bool b,_,x,_,_=>by
  cases x;exact .bl b
 |.int i,_,x,_,_=>by
  cases x;exact .int i
 |.str s,_,x,_,_=>by
  cases x;exact .str s
 |.bytes b,_,x,_,_=>by
  cases x;have z:=Dw.js (K:=K) (H:=iR K h A) b.toArray;exact z
 |.list c,_,x,p,j=>by
  obtain⟨a,g,rfl,l,k⟩:=SD x;obtain⟨n,o⟩:=aey e f j l;exact .lst o<|Cv e f c _ k p n
 |.tuple c,_,x,p,j=>by
  obtain⟨a,g,rfl,l,k⟩:=SE x;obtain⟨n,o⟩:=aez e f j l;exact .tup o<|Cv e f c _ k p n
 |.float _,_,_,p,_=>lA (show ax=Y from p)
 |.dict _,_,_,p,_=>lA (show ax=Y from p)
 |.bytearray _,_,_,p,_=>lA (show ax=Y from p)
 |.set _,_,_,p,_=>lA (show ax=Y from p)
 |.frozenset _,_,_,p,_=>lA (show ax=Y from p)
 |.obj _ _,_,_,p,_=>lA (show ax=Y from p)
def Cv(e:K.In h)(f:∀a∈A,mi h A a):∀(c:List iD)(g:List aw),uT r h g c->mf c=Y->(∀u∈g,lr A u)->me K (iR K h A) (g.map toV) c
 |[],_,x,_,_=>by
  cases x;exact .nil
 |d::c,_,x,p,j=>by
  obtain⟨v,g,rfl,t,y⟩:=SG x;have q:km d=Y/\mf c=Y:=agL.mp p;exact .cons (aeA e f d v t q.1<|j _ (dY ..))<|Cv e f c g y q.2 λu m=>j u<|dS _ m
end
end
def aeB{P:cf}{w:bR}{K:bj}{h p:ao->Option aw}{CX:kH}{k:Nat}{T:af}{fd:iT}{ps:List ao}{sp:Sp}{s₁:aF}{a:List aw}{c:List iD}{R:agJ}{cl:ao->Option af}{d0:iD}
  (t:K.In s₁.heap)(I:s₁.heap.Ns iw h)(y:s₁.heap.Ns SR p)(ah:∀x:ao,x≠"__name__"->p x=jY x)(ab:s₁.heap.NoLimit)(hg:s₁.gens=#[])
  (n:uT w.params s₁.heap a c)(M:mf c=Y)(aq:∀d∈c,d.weight<=1048576)(hr:cZ k zF)
  (F:∀base:bC,K.In base->base.Ns iw h->dH P w K h base CX k T fd ps sp)(aa:∀(s:aF)(us:List aw),us.length=ps.length->wI s fd ⟨us,[]⟩ (ps.zip us))(ae:c.length=ps.length)
  (au:∀(H:Hp)(xs:List V),y3 H->me K H xs c->sp xs H (λv H'=>Dw K H' v d0) λ_ _ _=>False)
  (av:∀H e s',CX [] H s₁ (λ_ _ _=>False) e s'->False):
  codeAny (bo P w) zF (.call (.ref T) ⟨a,[]⟩) (λr s'=>∃u as,r= .ok (.ret u)/\sr R cl s'.heap u d0 as/\OldK s₁.heap s'.heap/\s'.os=s₁.os/\rG s'.gens) s₁:=by
 obtain⟨A,ho,i⟩:=Co c a n M aq;have B:y3 (iR K s₁.heap A):=aew i;have aS:cQ P w (iR K s₁.heap A) s₁.heap:=aex i;have hS:=Cv t i c a n M ho;have hV:=wt ho;have hK:∀b u,iR K s₁.heap A b=O u->K.lookup b=ai:=λb u q=>(Cr i q).1;have N:∀{b:af}{o:bz}{f:Array my}{g:Nat},s₁.heap.get? b=O o->o.data= .dict f g->iR K s₁.heap A b=ai:=λ{b o f g} e d=>by
  cases q:iR K s₁.heap A b with
  |none=>rfl
  |some u=>
   obtain⟨_,vs,_,_,⟨j,_⟩|⟨j,_⟩⟩:=Cr i q
   ·rw[j] at e;cases e;have C:zk vs.toArray _=agN f g:=d;cases C
   ·rw[j] at e;cases e;have C:zk vs.toArray _=agN f g:=d;cases C
 generalize iR K s₁.heap A=H at B aS hS hK N;have D:∀{b:af}{o:bz},s₁.heap.get? b=O o->H b=ai->(oX s₁.heap H).get? b=O o:=λe aE=>UP e aE;have l:∀{b:af}{m:ao->Option aw},s₁.heap.Ns b m->(oX s₁.heap H).Ns b m:=λ{b m} ⟨o,f,g,e,d,r⟩=>⟨o,f,g,D e<|N e d,d,r⟩;have nK:∀b o,K.lookup b=O o->H b=ai:=λb o e=>by
  cases q:H b with
  |none=>rfl
  |some u=>
   rw[hK b u q] at e;cases e
 have Q:K.In (oX s₁.heap H):=λb o e=>D (t b o e)<|nK b o e;have hM:Mod K h (oX s₁.heap H):=⟨Q,l I,⟨p,l y,ah⟩,let⟨mc,h1,h2⟩:=ab;⟨mc,l h1,h2⟩⟩;have e0:qv P w K h (oX s₁.heap H) zF [] s₁ H:=⟨L,hM,λb o e=>UQ e,Hb<|UO _ _,trivial,λb y=>absurd (show b∈([]:List af) from y) aT,aS,.of_eq hg⟩;have hl:a.length=ps.length:=by rw[Cm n];exact ae
 refine uA ((F _ Q (l I)).run zF [] s₁ H ⟨a,[]⟩ a (a.map toV) _ _ hr e0 (aa s₁ a hl) hV (au H _ B hS)) λr s' x=>?_;cases r with
 |error e=>exact(av H e s' x).elim
 |ok fl=>
  cases fl with
  |next=>exact fY x
  |brk=>exact fY x
  |cont=>exact fY x
  |ret u=>
   obtain⟨v,H',os,ag,un,E,r',q⟩:=x;have kept:∀b o,s₁.heap.get? b=O o->s'.heap.get? b=O o:=λb o e=>by
    cases q2:H b with
    |none=>exact un.keep b o e q2 (by intro z;exact absurd (show b∈([]:List af) from z) aT) aT
    |some u2=>
     rcases B b with z|⟨ob,u3,z⟩
     ·rw[q2] at z;cases z
     ·have z2:=un.iW b ob _ z;obtain⟨e1,_⟩:=aS b _ z;obtain⟨j,_⟩:=E b _ z2;rw[e] at e1;cases e1;exact j
   have ay:K.In s'.heap:=λb o e=>kept b o<|t b o e;obtain⟨as,az⟩:=Dw.reads (R:=R) (cl:=cl) E ay d0 v u q r';exact⟨u,as,L,az,OldK.of_keep kept,os,ag⟩
def aeC(h:iD.layableAll a=Y):∀d∈a,d.weight<=1048576:=λd b=>
 (PySem.W.layableW_iff.mp<|qk.mp h d b).2.2
def SK:∀(cs:List Codec)(a:Ie cs),(zE cs a).length=cs.length
 |[],_=>rfl
 |c::cs,a=>by
  show(zE cs a.2).length+1=cs.length+1;rw[SK cs a.2]
def aeD{r:UD}{k:Nat}{n:List ao}{B:(ao->Option aw)->bC->Prop}{g:bR->bC->Prop}{d:DefRec}{K:Params->bj}{CX:bR->kH}{ps:List ao}{sp:bR->Sp}
  (o:r.wellSaid=Y)(ag:d.params.defaults=[])(p:r.args.length=ps.length)(C:cZ k zF)
  (D:∀(w:bR)(h:bC),g w h->(K w.params).In h)
  (F:∀(w:bR)(b:ao->Option aw)(c:af)(h:bC),g w h->(K w.params).In h->h.Ns iw b->b d.name=O (.ref c)->
   ∃i:iT,(∀(s:aF)(us:List aw),us.length=ps.length->wI s i ⟨us,[]⟩ (ps.zip us))/\
    ∀base:bC,(K w.params).In base->base.Ns iw b->dH r.prog w (K w.params) b base (CX w) k c i ps (sp w))
  (u:∀(w:bR)(H:Hp)(xs:List V)(a:Ie r.args),y3 H->agO r.args a=Y->Dr r.args r.asked a=Y->me (K w.params) H xs (zE r.args a)->
   sp w xs H (λv H'=>Dw (K w.params) H' v<|r.ret.enc<|Dr r.args r.f a) λ_ _ _=>False)
  (x:∀(w:bR)(H:Hp)(s:aF)(e:aw)(s':aF),CX w [] H s (λ_ _ _=>False) e s'->False):
  agP av n B g r d [] (λf vs=>agQ f vs):=by
 intro w eA s₁ b mb G m c ay pm cd ah dV kV ho hd aq hD y E args ae as q t ar z au;obtain⟨a,I,M⟩:=PySem.W.os_pre_some q;obtain⟨N,j⟩:=Codec.encAll_of_decAll r.args args a I;subst N;have l:=D w _ m;obtain⟨i,Q,T⟩:=F w b c _ m l G.T.g y;refine PySem.W.enter_call (uA (aeB (R:=[]) (cl:=classAt eA.heap) (d0:=r.ret.enc<|Dr r.args r.f a) l G.T.g G.T.b G.T.builtins G.T.nolimit E z (SA _ _) (aeC t) C T Q (by rw[SK];exact p)
  (λH xs hO hS=>u w H xs a hO j M hS) λH e s'=>x w H s₁ e s') λr' s' hq=>?_)
 obtain⟨aa,A,rfl,h1,h2,h3,h4⟩:=hq;exact⟨.inl ⟨aa,_,A,L,λ_=>rfl,h1,(UD.post_iff o j _ _).mpr L,λab=>lA (show ax=Y from ab)⟩,h2,h3,h4⟩
end L2
namespace Nr
open PySem PySem.Spec PyProof.Rows L2
open PySem.W (findIn isFn makesIn)
section
variable{K:bj}{h:bC}{mg:ao->Option aw}{x qual m:ao}{st:eT}{ps:List ao}{f a C:af}{oc kV doc pm cdv ct:aw}{od an:Option af}{osl:Array (Option aw)}{its:Array aw}{n:Nat}{vs:List V}
def GY(l:K.lookup f=O ⟨oc,od,.func<|uU x qual (lP st) (ik st) (cR st) .none kV doc pm an cdv ct,osl⟩)(c:Ih K cdv qual=Y)(k:zG K (.ref f)=Y)
  (d:∀(kV doc pm:aw)(an:Option af)(cdv ct:aw)(us:List aw),us.length=ps.length->y9 (uU x qual (lP st) (ik st) (cR st) .none kV doc pm an cdv ct) ⟨us,[]⟩=pure (ps.zip us)):∃b,gH K x qual st f b/\Binds K b ps []:=
 ⟨_,JR l c k,(JR l c k).binds d⟩
def agT(X:K.In h)(G:h.Ns iw mg)(a:w9 K iw x=O (O<|.ref f))(l:K.lookup f=O ⟨oc,od,.func<|uU x x (lP st) (ik st) (cR st) .none kV doc pm an cdv ct,osl⟩)(c:Ih K cdv x=Y)(k:zG K (.ref f)=Y)
  (d:∀(kV doc pm:aw)(an:Option af)(cdv ct:aw)(us:List aw),us.length=ps.length->y9 (uU x x (lP st) (ik st) (cR st) .none kV doc pm an cdv ct) ⟨us,[]⟩=pure (ps.zip us)):Fn K mg x st ps:=let⟨e,F,b⟩:=GY l c k d;⟨f,e,F,Ds X G a,b⟩
def agU(a:findIn K (.ref C) m=O (O<|.ref f))(i:isFn K (.ref f)=Y)(l:K.lookup f=O ⟨oc,od,.func<|uU m qual (lP st) (ik st) (cR st) .none kV doc pm an cdv ct,osl⟩)(c:Ih K cdv qual=Y)(k:zG K (.ref f)=Y)
  (d:∀(kV doc pm:aw)(an:Option af)(cdv ct:aw)(us:List aw),us.length=ps.length->y9 (uU m qual (lP st) (ik st) (cR st) .none kV doc pm an cdv ct) ⟨us,[]⟩=pure (ps.zip us)):Mt K C m qual st ps:=let⟨e,F,b⟩:=GY l c k d;⟨f,e,F,⟨a,i,k⟩,b⟩
def agV(mk:makesIn K C=Y)(a:findIn K (.ref C) "__init__"=O (O<|.ref f))(i:isFn K (.ref f)=Y)(d:zG K (.ref C)=Y)(l:K.lookup f=O ⟨oc,od,.func<|uU "__init__" qual (lP st) (ik st) (cR st) .none kV doc pm an cdv ct,osl⟩)(c:Ih K cdv qual=Y)(k:zG K (.ref f)=Y)
  (e:∀(kV doc pm:aw)(an:Option af)(cdv ct:aw)(us:List aw),us.length=ps.length->y9 (uU "__init__" qual (lP st) (ik st) (cR st) .none kV doc pm an cdv ct) ⟨us,[]⟩=pure (ps.zip us)):ke K C qual st ps:=let⟨g,F,b⟩:=GY l c k e;⟨f,g,F,⟨mk,a,i,d⟩,b⟩
def agW(X:K.In h)(G:h.Ns iw mg)(a:w9 K iw x=O (O<|.int z t)):Cn mg x (.int z):=⟨_,Ds X G a,t,L⟩
def agX(X:K.In h)(G:h.Ns iw mg)(a:w9 K iw x=O (O<|.str z t)):Cn mg x (.str z):=⟨_,Ds X G a,t,L⟩
def aeE(l:K.lookup a=O ⟨.type "tuple",od,.seq its n,osl⟩)(hz:Nat.ble its.size 1000=Y)(b:Vals vs its.toList)(H:Hp):cO K H a vs:=.inr ⟨_,its,n,l,L,L,eO (Nat.le_of_ble_eq_true hz) aB,b⟩
def agY(X:K.In h)(G:h.Ns iw mg)(e:w9 K iw x=O (O<|.ref a))(l:K.lookup a=O ⟨.type "tuple",od,.seq its n,osl⟩)(hz:Nat.ble its.size 1000=Y)(b:Vals vs its.toList):kQ K mg x vs:=⟨a,Ds X G e,aeE l hz b⟩
def agZ(X:K.In h)(G:h.Ns iw mg)(e:w9 K iw x=O (O<|.ref a))(l:K.lookup a=O ⟨.type "dict",ai,.dict es b,#[]⟩)(hs:(a==jX)=ax)
  (c:∀h,Ii (Ij h) es.toList<|D.map λp=>(p.1,.flat<|.str p.2)):qK K mg x D:=⟨a,Ds X G e,λd g=>⟨hs,_,es,b,g _ _ l,⟨L,L,L⟩,L,c d⟩⟩
def ag0(h:bC):Ii (Ij h) [] (([]:List (ao×ao)).map λp=>(p.1,Uz<|.str p.2)):=.nil
def ag1(b:e.key= .str x t)(c:e.val= .str y u)(r:∀h,Ii (Ij h) es<|D.map λp=>(p.1,Uz<|.str p.2))(h:bC):Ii (Ij h) (e::es) (((x,y)::D).map λp=>(p.1,Uz<|.str p.2)):=.cons b (by show PyProof.V.Flat e.val _;rw[c];exact ah4 _ _)<|r h
def ag2{α:Type}{p:α->Prop}:∀f∈([]:List α),p f:=λ_ b=>absurd b (nL)
def ag3{α:Type}{p:α->Prop}{x:α}{l:List α}(h:p x)(t:∀f∈l,p f):∀f∈x::l,p f:=List.forall_mem_cons.mpr ⟨h,t⟩
end
open PySem.W (nsOkIn) in
def ag4{K:bj}{C fI N:af}{od d2:Option af}{c2:aw}{cd:ClassData}{sl sl2:Array (Option aw)}{es:Array my}{ep:Nat}{b0 b1 b2 b3 b5:Option aw}(l:K.lookup C=O ⟨.type "type",od,.cls cd,sl⟩)(m:cd.mro= .ref C::qL)(s:sl.toList=[b0,b1,b2,b3,O<|.builtin "ValueError.__new__",b5])
  (d:cd.hasDel=ax)(t:cd.hasDict=Y)(hN:cd.ns=N)(l2:K.lookup N=O ⟨c2,d2,.dict es ep,sl2⟩)(o:(es.all λe=>match e.key with|.str _ _=>Y|_=>ax)=Y)(i:w9 K N "__init__"=O (O<|.ref fI))(f:isFn K (.ref fI)=Y)(k:zG K (.ref C)=Y):XC K C fI N qL "ValueError.__new__":=by
 refine⟨?_,f,k⟩;have hk:nsOkIn K N=Y:=by unfold afS;rw[l2];exact o
 unfold Ed;rw[l];show(match cd.mro,sl.toList with
  |.ref C'::bm',[_,_,_,_,O<|.builtin n,_]=>C'==C&&(n=="ValueError.__new__"&&(!cd.hasDel&&(cd.hasDict&&(bm'==qL&&(cd.ns==N&&(nsOkIn K N&&w9 K N "__init__"==O (O<|.ref fI)))))))
  |_,_=>ax)=Y
 rw[m,s,d,t,hN,hk,i];show(C==C&&(("ValueError.__new__":String)=="ValueError.__new__"&&(!false&&(Y&&((qL==qL)&&(N==N&&(Y&&(O (O<|dC fI)==O (O<|dC fI)))))))))=Y;have e1:(qL==qL)=Y:=by decide+kernel
 have e2:(O (O<|dC fI)==O (O<|dC fI))=Y:=beq_self_eq_true _;rw[e1,e2];simp
def aeF{P:cf}{w:bR}{K:bj}{a:ao->Option aw}{cs:Cs}{d:af}(e:a "answers"=O (.ref d))(T:Txt K a cs):∃c:iT,(∀(s:aF)(us:List aw),us.length=(["calls"]:List ao).length->wI s c ⟨us,[]⟩ ((["calls"]:List ao).zip us))/\
  ∀base:bC,K.In base->base.Ns iw a->dH P w K a base (cX P w) 20 d c ["calls"] (Ck K):=by
 obtain⟨f,c,F,m,b⟩:=T.answers.ex;rw[e] at m;cases m;refine⟨c,λs us g=>?_,λbase _ _=>aeo T F⟩;obtain⟨l,n,kV,h,o,p,i,q,j,rfl,lk,k⟩:=F.ex;exact match us,g with|[_],_=>.of_eq L
def ag5{P:cf}{w:bR}{K:bj}{a:ao->Option aw}{b c0 c1 c2 c3 c4 c5 c6 c7 c8 c9 ue uf ug:af}(d:a "answers"=O (.ref b))(T:Txt K a ⟨c0,c1,c2,c3,c4,c5,c6,c7,c8,c9,ue,uf,ug⟩):∃c:iT,(∀(s:aF)(us:List aw),us.length=(["calls"]:List ao).length->wI s c ⟨us,[]⟩ ((["calls"]:List ao).zip us))/\
  ∀base:bC,K.In base->base.Ns iw a->dH P w K a base (cX P w) 20 b c ["calls"] (Ck K):=aeF d T
def ag6{K:bj}{w:ao->Option aw}{a0 k m n o r s t u v a b c d e f g i j:af}{p:af->ao->Prop}{l:List ao}(h:kQ K w "CALLS" [.ref a0,.ref k,.ref m,.ref n,.ref o,.ref r,.ref s,.ref t,.ref u,.ref v,.ref a,.ref b,.ref c,.ref d,.ref e,.ref f,.ref g,.ref i,.ref j])(q:Paired p [a0,k,m,n,o,r,s,t,u,v,a,b,c,d,e,f,g,i,j] l):∃as:List af,kQ K w "CALLS" (as.map V.ref)/\Paired p as l:=⟨[a0,k,m,n,o,r,s,t,u,v,a,b,c,d,e,f,g,i,j],h,q⟩
def ag7{K:bj}{i:ao->Option aw}{a0 a b c d e f g:af}{p:af->List ao->Prop}{l:List (List ao)}(h:kQ K i "ENDINGS" [.ref a0,.ref a,.ref b,.ref c,.ref d,.ref e,.ref f,.ref g])(q:Paired p [a0,a,b,c,d,e,f,g] l):∃as:List af,kQ K i "ENDINGS" (as.map V.ref)/\Paired p as l:=⟨[a0,a,b,c,d,e,f,g],h,q⟩
def ag8{K:bj}{H:Hp}{a:af}{l:List Int}{Q:VK}(hs:aM K H a (l.map V.int))(d:l.length<=30000)(b:agR l=Y)(k:∀H' p,H' p=O (.lst<|(Ic l).map V.int)->Q (.ref p) H'):Ck K [.ref a] H Q E0:=by
 unfold agR at b;cases c:agF l with
 |none=>rw[c] at b;cases b
 |some e=>
  rw[c] at b;rw[bL] at b;exact⟨a,l,e,L,hs,d,c,b.2,λH' p _ _ f=>k H' p f⟩
open PySem.W (WData Codec OpenSpec) in
def ag9{r:UD}{k:Nat}{loose:List ao}{XP:(ao->Option aw)->bC->Prop}{YP:bR->bC->Prop}{d:DefRec}{K:Params->bj}{ps:List ao}{sp:bj->Sp}
  (hwell:r.wellSaid=Y)(hdf:d.params.defaults=[])(hlen:r.args.length=ps.length)(hr:cZ k zF)(hY:∀(w:bR)(h:bC),YP w h->(K w.params).In h)
  (F:∀(w:bR)(mg:ao->Option aw)(fa:af)(h:bC),YP w h->(K w.params).In h->h.Ns iw mg->mg d.name=O (.ref fa)->
   ∃fd:iT,(∀(s:aF)(us:List aw),us.length=ps.length->wI s fd ⟨us,[]⟩ (ps.zip us))/\∀base:bC,(K w.params).In base->base.Ns iw mg->dH r.prog w (K w.params) mg base (cX r.prog w) k fa fd ps (sp<|K w.params))
  (hsp:∀(K:bj)(H:Hp)(xs:List V)(a:Ie r.args),y3 H->agO r.args a=Y->Dr r.args r.asked a=Y->me K H xs (zE r.args a)->
   sp K xs H (λv H'=>Dw K H' v<|r.ret.enc<|Dr r.args r.f a) λ_ _ _=>False):agP q loose XP YP r d [] (λf vs=>agQ f vs):=
 aeD (K:=K) (CX:=λw=>cX r.prog w) (sp:=λw=>sp<|K w.params) hwell hdf hlen hr hY F (λw H xs a h1 h2 h3 h4=>hsp (K w.params) H xs a h1 h2 h3 h4) λw H s e s' z=>by
  obtain⟨a,C,od,H',h1,h2,h3,h4,h5,fl,h6⟩:=z;exact h6
end Nr
open PySem PySem.W PyProof.Rows
set_option maxRecDepth 100000 in
set_option maxHeartbeats 0 in
theorem PySem.Challenge.cw_namesread_s01_answers_holds : PySem.Challenge.rw_namesread_s01_answers.Holds := by
  w_on; k_headS; (case hw => exact ⟨[.list [.int 18, .int 0, .int 0]], by decide +kernel, by decide +kernel⟩)
  k_fillS
  refine Nr.ag9 (r := PySem.Challenge.rw_namesread_s01_answers) (k := 20) (ps := ["calls"]) (sp := Nr.Ck) (by decide +kernel) rfl rfl ⟨rfl, by decide, by decide⟩ (fun w h Y => PySem.W.kIn_of Y) ?F ?S
  case F =>
    intro w mg fa h Y KX G hmg
    refine' Nr.ag5 hmg ?T
    case' T => constructor
    (case Yc | Yd | EV | Ye | N1 | Yf | NY | NZ | N0 | Yg | Yh => exact mg_of KX G (by k_is))
    (case XH | xS | XI | Lg | XJ | nY | Lh | XM | AG | pI | Lj | XO | XQ | XT | XU | XW | XX | XY | XZ | sW | X0 | X1 | X3 | X4 | X5 | X6 => exact Nr.agW KX G (by k_is))
    (case XR => exact Nr.agX KX G (by k_is))
    (case XS | Lk => refine' Nr.agZ KX G ?a ?l ?s ?r; (case a => k_is); (case l => k_is); (case s => rfl); (case r => repeat' first | exact Nr.ag0 | refine Nr.ag1 rfl rfl ?_))
    (case Ll => exact Nr.ag7 (Nr.agY KX G (by k_is) (by k_is) (by rfl) (by repeat' first | exact .nil | refine .cons rfl ?_)) (by repeat' first | exact .nil | refine .cons (Nr.aeE (by k_is) (by rfl) (by repeat' first | exact .nil | refine .cons ⟨_, rfl⟩ ?_)) ?_))
    (case ET | Lm | Ln | Lo | X2 => exact Nr.agY KX G (by k_is) (by k_is) (by rfl) (by repeat' first | exact .nil | refine .cons ⟨_, rfl⟩ ?_))
    (case X7 => exact Nr.ag6 (Nr.agY KX G (by k_is) (by k_is) (by rfl) (by repeat' first | exact .nil | refine .cons rfl ?_)) (by repeat' first | exact .nil | refine .cons (mg_of KX G (by k_is)) ?_))
    (case cn | Lq | X8 | xT | AH | vF | Lr | X9 | xU | Ya | EU | Yb => exact mg_none_of KX G (by k_is))
    (case Ls | Lu | Lw | Lx | Ly | Lz | LA | LB | LC | LD | LF | LG | LH | LK | LM | LN | fold | LP | LQ | LR | L9 | Ma | counted | Me | Mf | Mg | Mh | Mj | Ml | Mm | bracketed | Mn | entry_text | Mo | Mp | Mq | Mr | ME | MF | MG | MJ | MN | MO | vw | M0 | Nt | Nv | Nw | Ny | answers => exact Nr.agT KX G (by k_is) (by k_is) (by k_is) (by k_is) (fun _ _ _ _ _ _ us hl => match us, hl with | [_], _ => rfl))
    (case LI | LJ | LL | LX | LY | L6 | L8 | Mc | Mi | Ms | Mu | ML | M8 | Na | Nb | Nc | Nd | Ng | Nh | NF | NG | NH | NI | NJ | NK | NL | NM | NN | NO | NP | NQ | NR | NS | NT | NU | NV | NW | NX => exact Nr.agT KX G (by k_is) (by k_is) (by k_is) (by k_is) (fun _ _ _ _ _ _ us hl => match us, hl with | [_, _, _], _ => rfl))
    (case LO | LS | LU | LV | LW | L0 | L1 | L3 | L5 | L7 | Mb | mS | MD | MI | MK | MM | MQ | MR | MS | MT | MU | MV | MW | MX | MY | MZ | M4 | M6 | Nk | Np | Nq | Nu | shortened | Nz => exact Nr.agT KX G (by k_is) (by k_is) (by k_is) (by k_is) (fun _ _ _ _ _ _ us hl => match us, hl with | [_, _], _ => rfl))
    (case AI | AL | AN => dsimp only; exact Nr.agV (by k_is) (by k_is) (by k_is) (by k_is) (by k_is) (by k_is) (by k_is) (fun _ _ _ _ _ _ us hl => match us, hl with | [_, _], _ => rfl))
    (case LZ | L4 | Mw | M5 | M9 => exact Nr.agT KX G (by k_is) (by k_is) (by k_is) (by k_is) (fun _ _ _ _ _ _ us hl => match us, hl with | [_, _, _, _], _ => rfl))
    (case AJ => dsimp only; exact Nr.agV (by k_is) (by k_is) (by k_is) (by k_is) (by k_is) (by k_is) (by k_is) (fun _ _ _ _ _ _ us hl => match us, hl with | [_, _, _, _], _ => rfl))
    (case vG | xV | xW | xX | AM => dsimp only; exact Nr.agV (by k_is) (by k_is) (by k_is) (by k_is) (by k_is) (by k_is) (by k_is) (fun _ _ _ _ _ _ us hl => match us, hl with | [_], _ => rfl))
    (case AK => dsimp only; exact Nr.agV (by k_is) (by k_is) (by k_is) (by k_is) (by k_is) (by k_is) (by k_is) (fun _ _ _ _ _ _ us hl => match us, hl with | [_, _, _], _ => rfl))
    (case Mx | My | MA | Nl | NA | NB | NC | ND => dsimp only; exact Nr.agU (by k_is) (by k_is) (by k_is) (by k_is) (by k_is) (fun _ _ _ _ _ _ us hl => match us, hl with | [_], _ => rfl))
    (case Mz | MB | MC | Ni | Nj | Nn => dsimp only; exact Nr.agU (by k_is) (by k_is) (by k_is) (by k_is) (by k_is) (fun _ _ _ _ _ _ us hl => match us, hl with | [_, _], _ => rfl))
    (case AO | sX | ef | jy | cV | qM | kg | xZ | nZ | kS => dsimp only; exact ⟨by k_is, by k_is, by k_is, by k_is⟩)
    (case AQ | sY | fL | jz | xY | AR | lS | x5 | og | vH => dsimp only; refine Nr.ag3 (show findIn _ _ _ = some none by k_is) ?_; repeat' first | exact Nr.ag2 | refine Nr.ag3 (show findIn _ _ _ = some none by k_is) ?_)
    (case x6 => dsimp only; refine' Nr.ag4 ?l ?m ?s ?d ?t ?N ?l2 ?o ?i ?f ?k; (case l => k_is); (case m => exact rfl); (case s => exact rfl); (case d => exact rfl); (case t => exact rfl); (case N => dsimp only); (case l2 => k_is); (case o => simp); (case i => k_is); (case f => k_is); (case k => k_is))
    (case Yi => dsimp only; exact Nr.GY (by k_is) (by k_is) (by k_is) (fun _ _ _ _ _ _ us hl => match us, hl with | [_, _], _ => rfl))
    (case Yj | Yk | Yl | Ym => dsimp only; k_is)
    (case Yn => k_is)
  case S =>
    intro K H xs a hO hwi hask hx
    cases hx with
    | cons h1 h2 =>
      cases h2
      cases h1 with
      | lst hs ha =>
        have e := L2.aeq a.1 _ ha
        subst e
        have q : ((Codec.inLen 0 30000 a.1 && a.1.all (Codec.inInt (-2147483648) 2147483647)) && true) = true := hwi
        rw [Bool.and_eq_true, Bool.and_eq_true] at q
        exact Nr.ag8 hs (Codec.inNat_iff.mp q.1.1).2 hask fun H' p hp => .lst (L2.aM.of hp) (L2.aep _)
